/- What LookupFinds answers: for all arguments. -/
import Derived.Test.YtndbijifgalpbaaVd
import Derived.Test.YtndbijifgalpbaaXl
import Derived.Test.YtndbijifgalpbaaWo
set_option linter.unusedVariables false
set_option linter.unusedSimpArgs false
set_option linter.unusedSectionVars false
namespace Go.Proofs.Ytndbijifgalpbaa
open Go.RowKit
set_option maxHeartbeats 4000000 in
theorem lfinds_any (L : List N3) (vo : Value) (x : Id) (w : World) (hO : RdO w vo L) : Calls Try.prog 4 [.agg #[vo], idV x].toArray w (Ret w (is (.bool true))) := by
  refine c_enter Try.func4 rfl Try.ntmps4 rfl [(0, .agg #[vo]), (1, idV x)] (by simp) fun f h => ?_
  have s := St.start w
  refine c_seq fun K1 hK1 => ?_
  refine c_region ?_
  refine s_box (#[vo]) h s rfl rfl rfl ?_; intro f w1 b2 h s
  refine s_box (idArr x) h s rfl rfl rfl ?_; intro f w1 b3 h s
  refine s_pure h (ru_assign (h.ev rfl)) rfl ?_; intro f h
  refine s_nil ?_
  refine hK1 _ _ ?_
  refine c_seq fun K2 hK2 => ?_
  refine c_region ?_
  refine s_load_row 1 h s row24 rfl rfl (rfl) rfl ?_; intro f h
  refine s_call h s fnc7 (ofew_any L vo _ (hO.keep s.ext)) rfl rfl ?_; rintro f w1 v18 ⟨vm, rfl, hOw⟩ hE h sq; replace s := s.sl_new hE hOw; clear hOw
  obtain ⟨M, hM⟩ : ∃ x9, x9 = (L.take (min L.length 18)).map few3 := ⟨_, rfl⟩
  rw [← hM] at s
  have hMf : FewO M := by rw [hM]; exact few_few L
  have hM18 := hMf.len
  have hM40 : M.length ≤ 40 := by omega
  have hMb := hMf.rb
  have hMr : ∀ y ∈ M, RdN w y := by rw [hM]; exact few3_map (fun y hy => hO.2 y (List.mem_of_mem_take hy))
  refine s_store_row 2 h s row24 rfl rfl rfl (rfl) (rfl) (ov_ones (own_one (s.getSl 0 rfl))) ?_; intro w1 s
  refine s_nil ?_
  refine hK2 _ _ ?_
  refine c_seq fun K3 hK3 => ?_
  refine c_seq fun K4 hK4 => ?_
  cases s0 : (stabO M : Bool)
  · skip
    refine c_region ?_
    refine s_load_row 2 h s row24 rfl rfl (rfl) rfl ?_; intro f h
    refine s_call h s fnc12 (ret_val (.bool false) (cstable_any M vm _ (⟨RdZ.of_own (s.getSl 0 rfl), fun y hy => (hMr y hy).keep s.ext⟩ : RdO _ vm M) hM40 hMb) (congrArg Value.bool s0)) rfl rfl ?_; intro f w1 v9 hT hE h s; obtain rfl := hT
    refine s_pure h (ru_val (.bool true) (ru_not (h.ev rfl)) rfl) rfl ?_; intro f h
    refine s_pure h (ru_move (h.ev rfl)) rfl ?_; intro f h
    refine s_off (b := false) h rfl rfl rfl rfl ?_; intro f h
    refine s_off (b := false) h rfl rfl rfl rfl ?_; intro f h
    refine s_off (b := false) h rfl rfl rfl rfl ?_; intro f h
    refine s_off (b := false) h rfl rfl rfl rfl ?_; intro f h
    refine s_pure h (ru_pick_t (h.ev rfl) (h.ev rfl)) rfl ?_; intro f h
    refine s_nil ?_
    refine hK4 _ _ ?_
    refine wpIn_cond_true (h.ev rfl) ?_
    refine c_seq fun K5 hK5 => ?_
    refine c_region ?_
    refine s_call h s fnc10 (ret_val (.bool true) (lalive_any _) (congrArg Value.bool (rfl))) rfl rfl ?_; intro f w1 v9 hT hE h s; obtain rfl := hT
    refine s_pure h (ru_assign (h.ev rfl)) rfl ?_; intro f h
    refine s_nil ?_
    refine hK5 _ _ ?_
    refine wpIn_ret ?_
    refine t_ret ?_
    exact e_tmp rfl h s rfl (rfl)
  · skip
    cases z0 : (decide (M.length = 0) : Bool)
    · skip
      refine c_region ?_
      refine s_load_row 2 h s row24 rfl rfl (rfl) rfl ?_; intro f h
      refine s_call h s fnc12 (ret_val (.bool true) (cstable_any M vm _ (⟨RdZ.of_own (s.getSl 0 rfl), fun y hy => (hMr y hy).keep s.ext⟩ : RdO _ vm M) hM40 hMb) (congrArg Value.bool s0)) rfl rfl ?_; intro f w1 v9 hT hE h s; obtain rfl := hT
      refine s_pure h (ru_val (.bool false) (ru_not (h.ev rfl)) rfl) rfl ?_; intro f h
      refine s_pure h (ru_move (h.ev rfl)) rfl ?_; intro f h
      refine s_on h rfl rfl rfl ?_
      refine s_pure h (ru_field fld24_0 (h.ev rfl)) rfl ?_; intro f h
      refine s_on h rfl rfl rfl ?_
      refine s_load_at1 (V := vm) (cell_of_has (Has.of_own s 2 rfl) 0 rfl) h one22 rfl rfl ?_; intro f h
      refine s_on h rfl rfl rfl ?_
      refine s_len_sl 0 h s Try.underlying22 rfl rfl rfl ?_; intro f h
      refine s_on h rfl rfl rfl ?_
      refine s_pure h (ru_val (.bool false) (ru_eql (h.ev rfl) (h.ev rfl)) (congrArg Value.bool (decide_eq_false (by have := of_decide_eq_false z0; omega)))) rfl ?_; intro f h
      refine s_pure h (ru_pick_f (h.ev rfl) (h.ev rfl)) rfl ?_; intro f h
      refine s_nil ?_
      refine hK4 _ _ ?_
      refine wpIn_cond_false (h.ev rfl) ?_
      refine wpIn_skip ?_
      refine hK3 _ _ ?_
      refine c_seq fun K6 hK6 => ?_
      refine c_region ?_
      have hrk := rk_of (stab_ov s0)
      have hg := hrk.rs.ring
      have hml : (memL M).length = M.length := List.length_map _
      have hml16 := hg.len
      have hmp : 0 < (memL M).length := by have := of_decide_eq_false z0; omega
      have ho := own_both hg hmp x
      refine s_load_row 2 h s row24 rfl rfl (rfl) rfl ?_; intro f h
      refine s_call h s fnc13 (cmembers_any M vm _ (⟨RdZ.of_own (s.getSl 0 rfl), fun y hy => (hMr y hy).keep s.ext⟩ : RdO _ vm M) hM40) rfl rfl ?_; intro f w1 v30 hT hE h sq; replace s := s.sl_new hE hT
      refine s_pure h (ru_assign (h.ev rfl)) rfl ?_; intro f h
      refine s_nil ?_
      refine hK6 _ _ ?_
      refine c_seq fun K7 hK7 => ?_
      refine c_region ?_
      refine s_pure h (ru_move (h.ev rfl)) rfl ?_; intro f h
      refine s_load_row 2 h s row26 rfl rfl (by first | exact idArr_size _ | exact bytesF_size _ _) rfl ?_; intro f h
      refine s_call h s fnc14 (ret_val (.tuple #[.agg (mbArr (ownL (memL M) x)), .int .i64 0]) (owner_any (memL M) v30 x _ (RdZ.of_own (s.getSl 0 rfl)) (by omega)) (by rw [ho.1, ho.2])) rfl rfl ?_; intro f w1 v9 hT hE h s; obtain rfl := hT
      refine s_pure h (ru_move (h.ev rfl)) rfl ?_; intro f h
      refine s_pure h (ru_extract (h.ev rfl) rfl) rfl ?_; intro f h
      refine s_pure h (ru_extract (h.ev rfl) rfl) rfl ?_; intro f h
      refine s_alloc (mbArr zMb) h s zero30 rfl rfl ?_; intro f w1 b6 h s
      refine s_store_row 0 h s row30 rfl rfl rfl (mbArr_size _) (mbArr_size _) (mbArr_ones _) ?_; intro w1 s
      refine s_pure h (ru_assign (h.ev rfl)) rfl ?_; intro f h
      refine s_nil ?_
      refine hK7 _ _ ?_
      refine c_seq fun K8 hK8 => ?_
      refine c_seq fun K9 hK9 => ?_
      refine c_region ?_
      refine s_pure h (ru_move (h.ev rfl)) rfl ?_; intro f h
      refine s_pure h (ru_val (.bool false) (ru_neq (h.ev rfl) (h.ev rfl)) (congrArg Value.bool (rfl))) rfl ?_; intro f h
      refine s_nil ?_
      refine hK9 _ _ ?_
      refine wpIn_cond_false (h.ev rfl) ?_
      refine wpIn_skip ?_
      refine hK8 _ _ ?_
      refine c_seq fun K10 hK10 => ?_
      refine c_region ?_
      refine s_makeMap h s rfl ?_; intro f w1 b39 h s
      refine s_pure h (ru_assign (h.ev rfl)) rfl ?_; intro f h
      refine s_nil ?_
      refine hK10 _ _ ?_
      refine c_seq fun K11 hK11 => ?_
      refine c_seq fun K12 hK12 => ?_
      refine c_region ?_
      refine s_pure h (ru_move (h.ev rfl)) rfl ?_; intro f h
      refine s_len_sl 2 h s Try.underlying40 rfl rfl rfl ?_; intro f h
      refine s_pure h (ru_move (h.ev rfl)) rfl ?_; intro f h
      refine s_nil ?_
      refine hK12 _ _ ?_
      refine wpIn_block ?_
      refine wpIn_loop_ghost (fun nn aa ww => ∃ k : Nat, Sl 147 aa [(0, .agg #[vo]), (1, idV x), (2, .pointer (some ⟨b2, 0, none⟩)), (3, .pointer (some ⟨b3, 0, none⟩)), (6, .pointer (some ⟨b6, 0, none⟩)), (24, vm), (30, v30), (32, v30), (5, v30), (8, .map (some b39)), (40, v30), (41, .int .i64 ((memL M).length : Int)), (42, .int .i64 (k : Int))] ∧ St w [.blk b39 (KvO (idKV ((memL M).take k))), .blk b6 (.cells ((mbArr (ownL (memL M) x))) 30), .sl v30 30 33 (memL M).length (mbCells (memL M)), .sl vm 46 68 M.length (n3Cells M), .blk b3 (.cells (idArr x) 26), .blk b2 (.cells (#[vm]) 24)] ww ∧ nn = (memL M).length - k ∧ k ≤ (memL M).length) ((memL M).length - (0)) ⟨0, h.only ⟨rfl, rfl, rfl, rfl, rfl, rfl, rfl, rfl, rfl, rfl, rfl, rfl, slot_int rfl (by omega), trivial⟩, s.as ⟨rfl, rfl, rfl, rfl, rfl, rfl, trivial⟩, rfl, Nat.zero_le _⟩ ?_
      rintro _ f w1 ⟨k, h, s, hnn, hp0⟩
      refine c_seq fun K13 hK13 => ?_
      refine c_region ?_
      refine s_pure h (ru_lss (h.ev rfl) (h.ev rfl)) rfl ?_; intro f h
      refine s_nil ?_
      refine hK13 _ _ ?_
      refine c_seq fun K14 hK14 => ?_
      refine c_cond h rfl (fun hc => ?_) (fun hc => ?_)
      · replace hc := of_decide_eq_true hc
        refine wpIn_skip ?_
        refine hK14 _ _ ?_
        refine c_seq fun K15 hK15 => ?_
        refine wpIn_block ?_
        refine c_seq fun K16 hK16 => ?_
        refine c_region ?_
        have hkm : k < (memL M).length := by omega
        refine s_pure h (ru_ixz (RdZ.of_own (s.getSl 2 rfl)) (k) Try.underlying40 szo30 (h.ev rfl) (h.ev rfl) (rfl) (by omega)) rfl ?_; intro f h
        refine s_load_at ((RdZ.of_own (s.getSl 2 rfl)).el (k) (by omega) (by decide) (D := mbArr ((memL M).getD k zMb)) (mb_elD (memL M) k hkm)) h row30 rfl (mbArr_size _) rfl ?_; intro f h
        refine s_alloc (mbArr zMb) h s zero30 rfl rfl ?_; intro f w1 b10 h s
        refine s_store_row 0 h s row30 rfl rfl rfl (mbArr_size _) (mbArr_size _) (mbArr_ones _) ?_; intro w1 s
        refine s_nil ?_
        refine hK16 _ _ ?_
        refine c_region ?_
        refine s_pure h (ru_move (h.ev rfl)) rfl ?_; intro f h
        refine s_pure h (ru_field fld30_0 (h.ev rfl)) rfl ?_; intro f h
        refine s_load_at1 (cell_of_has (Has.of_own s 0 rfl) 0 (mbArr_no _)) h one3 rfl rfl ?_; intro f h
        refine s_pure h (ru_field fld30_1 (h.ev rfl)) rfl ?_; intro f h
        refine s_load_at (Has.subL (Has.of_own s 0 rfl) 1 32 (D := idArr (_)) (mbArr_id _)) h row26 rfl (by first | exact idArr_size _ | exact bytesF_size _ _) rfl ?_; intro f h
        refine s_kvadd 1 h s Try.underlying44 Try.underlying3 rfl rfl rfl rfl (kv_new (f := fun m => .agg (idArr m.2)) hg hkm) ?_; intro w1 s
        refine s_nil ?_
        refine b_norm ?_
        refine hK15 _ _ ?_
        refine c_region ?_
        refine s_pure h (ru_add (h.ev rfl) (h.ev rfl) (by omega)) rfl ?_; intro f h
        refine s_pure h (ru_move (h.ev rfl)) rfl ?_; intro f h
        refine s_nil ?_
        refine t_norm ?_
        exact ⟨_, by omega, ⟨k + 1, h.only ⟨rfl, rfl, rfl, rfl, rfl, rfl, rfl, rfl, rfl, rfl, rfl, rfl, slot_int rfl (by omega), trivial⟩, St.as (s.pick _ (List.sublist_append_right [_] _)) ⟨kv_blk (kv_step (f := fun m => .agg (idArr m.2)) hkm), rfl, rfl, rfl, rfl, rfl, trivial⟩, rfl, by omega⟩⟩
      · replace hc := of_decide_eq_false hc
        refine wpIn_exit ?_
        refine t_exit ?_
        refine t_exit ?_
        refine b_exit ?_
        refine hK11 _ _ ?_
        refine c_seq fun K17 hK17 => ?_
        refine c_seq fun K18 hK18 => ?_
        refine c_region ?_
        obtain rfl : k = (memL M).length := by omega
        rw [List.take_length] at s
        refine s_pure h (ru_field fld24_0 (h.ev rfl)) rfl ?_; intro f h
        refine s_load_at1 (V := vm) (cell_of_has (Has.of_own s 5 rfl) 0 rfl) h one22 rfl rfl ?_; intro f h
        refine s_len_sl 3 h s Try.underlying22 rfl rfl rfl ?_; intro f h
        refine s_pure h (ru_move (h.ev rfl)) rfl ?_; intro f h
        refine s_nil ?_
        refine hK18 _ _ ?_
        refine wpIn_block ?_
        refine wpIn_loop_ghost (fun nn aa ww => ∃ d9 : Nat, Sl 147 aa [(0, .agg #[vo]), (1, idV x), (2, .pointer (some ⟨b2, 0, none⟩)), (3, .pointer (some ⟨b3, 0, none⟩)), (6, .pointer (some ⟨b6, 0, none⟩)), (24, vm), (30, v30), (32, v30), (40, v30), (5, v30), (8, .map (some b39)), (53, vm), (54, .int .i64 (M.length : Int)), (55, .int .i64 (d9 : Int))] ∧ St w [.blk b39 (KvO (idKV (memL M))), .blk b6 (.cells ((mbArr (ownL (memL M) x))) 30), .sl v30 30 33 (memL M).length (mbCells (memL M)), .sl vm 46 68 M.length (n3Cells M), .blk b3 (.cells (idArr x) 26), .blk b2 (.cells (#[vm]) 24)] ww ∧ nn = M.length - d9 ∧ d9 ≤ M.length) (M.length - (0)) ⟨0, h.only ⟨rfl, rfl, rfl, rfl, rfl, rfl, rfl, rfl, rfl, rfl, rfl, rfl, rfl, slot_int rfl (by omega), trivial⟩, s.as ⟨rfl, rfl, rfl, rfl, rfl, rfl, trivial⟩, rfl, Nat.zero_le _⟩ ?_
        rintro _ f w1 ⟨d9, h, s, hnn, hp0⟩
        refine c_seq fun K19 hK19 => ?_
        refine c_region ?_
        refine s_pure h (ru_lss (h.ev rfl) (h.ev rfl)) rfl ?_; intro f h
        refine s_nil ?_
        refine hK19 _ _ ?_
        refine c_seq fun K20 hK20 => ?_
        refine c_cond h rfl (fun hc => ?_) (fun hc => ?_)
        · replace hc := of_decide_eq_true hc
          refine wpIn_skip ?_
          refine hK20 _ _ ?_
          refine c_seq fun K21 hK21 => ?_
          refine wpIn_block ?_
          refine c_seq fun K22 hK22 => ?_
          refine c_region ?_
          have hdl : d9 < M.length := by omega
          refine s_pure h (ru_ixz (RdZ.of_own (s.getSl 3 rfl)) (d9) Try.underlying22 szo46 (h.ev rfl) (h.ev rfl) (by omega) (by omega)) rfl ?_; intro f h
          refine s_load_at ((RdZ.of_own (s.getSl 3 rfl)).el (d9) (by omega) (by decide) (D := ndArr (M.getD d9 z3).1.me (M.getD d9 z3).1.pr (M.getD d9 z3).2.1 (M.getD d9 z3).2.2) (n3_el M d9 hdl)) h row46 rfl (ndArr_size _ _ _ _) rfl ?_; intro f h
          refine s_alloc (ndArr zMb zMb nilV nilV) h s zero46 rfl rfl ?_; intro f w1 b12 h s
          refine s_store_row 0 h s row46 rfl rfl rfl (ndArr_size _ _ _ _) (ndArr_size _ _ _ _) (ndArr_ones (rd_one (((⟨RdZ.of_own (s.getSl 4 rfl), fun y hy => (hMr y hy).keep s.ext⟩ : RdO _ vm M).2 _ (n3_mem hdl)).1)) (rd_one (((⟨RdZ.of_own (s.getSl 4 rfl), fun y hy => (hMr y hy).keep s.ext⟩ : RdO _ vm M).2 _ (n3_mem hdl)).2))) ?_; intro w1 s
          refine s_nil ?_
          refine hK22 _ _ ?_
          refine c_seq fun K23 hK23 => ?_
          refine c_region ?_
          refine s_load_row 6 h s row24 rfl rfl (rfl) rfl ?_; intro f h
          refine s_pure h (ru_field fld46_0 (h.ev rfl)) rfl ?_; intro f h
          refine s_pure h (ru_field fld30_0 (h.ev rfl)) rfl ?_; intro f h
          refine s_load_at1 (cell_of_has (Has.of_own s 0 rfl) 0 (ndArr_no _ _ _ _)) h one3 rfl rfl ?_; intro f h
          refine s_load_row 5 h s row26 rfl rfl (by first | exact idArr_size _ | exact bytesF_size _ _) rfl ?_; intro f h
          refine s_call h s fnc8 (cwalk_any M vm x (M.getD d9 z3).1.me.1 16 _ (⟨RdZ.of_own (s.getSl 4 rfl), fun y hy => (hMr y hy).keep s.ext⟩ : RdO _ vm M) hM40 hMb) rfl rfl ?_; rintro f w1 v65 ⟨vp, kp, rfl, hG⟩ hE h sq; replace s := s.add hG; clear hG
          obtain ⟨e1, e2, kk, e3, e4, e5, e6, e7⟩ := stab_finds s0 x (m := (M.getD d9 z3).1.me) (me_mem hdl)
          have hf9 := wk_first e1 (by decide) (by decide)
          have hv9 := wk_live e1 (by decide) (by decide)
          have hpl := way_bd M x (M.getD d9 z3).1.me.1 16
          refine s_pure h (ru_move (h.ev rfl)) rfl ?_; intro f h
          refine s_pure h (ru_extract (h.ev rfl) rfl) rfl ?_; intro f h
          refine s_pure h (ru_extract (h.ev rfl) rfl) rfl ?_; intro f h
          refine s_pure h (ru_extract (h.ev rfl) rfl) rfl ?_; intro f h
          refine s_alloc (mbArr zMb) h s zero30 rfl rfl ?_; intro f w1 b14 h s
          refine s_pure h (ru_assign (h.ev rfl)) rfl ?_; intro f h
          refine s_store_row 0 h s row30 rfl rfl rfl (mbArr_size _) (mbArr_size _) (mbArr_ones _) ?_; intro w1 s
          refine s_pure h (ru_assign (h.ev rfl)) rfl ?_; intro f h
          refine s_nil ?_
          refine hK23 _ _ ?_
          refine c_seq fun K24 hK24 => ?_
          refine c_seq fun K25 hK25 => ?_
          refine c_walkN 39 [[], [0], [0, 1], [0, 1, 2], [0, 1, 2], [0, 1, 2, 3, 4], [0, 1, 2, 3, 4, 5], [0, 1, 2, 3, 4, 5, 6], [0, 1, 2, 3, 4, 5, 6, 7], [0, 1, 2, 3, 4, 5, 6, 7, 8], [0, 1, 2, 3, 4, 5, 6, 7, 8, 9], [0, 1, 2, 3, 4, 5, 6, 7, 8, 9, 10], [0, 1, 2, 3, 4, 5, 6, 7, 8, 9, 10, 11], [0, 1, 2, 3, 4, 5, 6, 7, 8, 9, 10, 11, 12], [0, 1, 2, 3, 4, 5, 6, 7, 8, 9, 10, 11, 12, 13], [0, 1, 2, 3, 4, 5, 6, 7, 8, 9, 10, 11, 12, 13, 14], [0, 1, 2, 3, 4, 5, 6, 7, 8, 9, 10, 11, 12], [0, 1, 2, 3, 4, 5, 6, 7, 8, 9, 10, 11, 12, 16], [0, 1, 2, 3, 4, 5, 6, 7, 8, 9, 10, 11, 12, 16, 17], [0, 1, 2, 3, 4, 5, 6, 7, 8, 9, 10, 11, 12, 13, 14, 15, 16, 17, 18], [0, 1, 2, 3, 4, 5, 6, 7, 8, 9, 10, 11, 12, 13, 14, 15, 16, 17, 18, 19], [0, 1, 2, 3, 4, 5, 6, 7, 8, 9, 10, 11, 12, 13, 14, 15, 16, 17, 18, 19, 20], [0, 1, 2, 3, 4, 5, 6, 7, 8, 9, 10, 11, 12, 13, 14, 15, 16, 17, 18, 19, 20, 21], [0, 1, 2, 3, 4, 5, 6, 7, 8, 9, 10, 11, 12, 13, 14, 15, 16, 17, 18, 19, 20, 21], [0, 1, 2, 3, 4, 5, 6, 7, 8, 9, 10, 11, 12, 13, 14, 15, 16, 17, 18, 19, 20, 21, 23], [0, 1, 2, 3, 4, 5, 6, 7, 8, 9, 10, 11, 12, 13, 14, 15, 16, 17, 18, 19, 20, 21, 23, 24], [0, 1, 2, 3, 4, 5, 6, 7, 8, 9, 10, 11, 12, 13, 14, 15, 16, 17, 18, 19, 20, 21, 22, 23, 24, 25], [0, 1, 2, 3, 4, 5, 6, 7, 8, 9, 10, 11, 12, 13, 14, 15, 16, 17, 18, 19, 20, 21, 22, 23, 24, 25, 26], [0, 1, 2, 3, 4, 5, 6, 7, 8, 9, 10, 11, 12, 13, 14, 15, 16, 17, 18, 19, 20, 21], [0, 1, 2, 3, 4, 5, 6, 7, 8, 9, 10, 11, 12, 13, 14, 15, 16, 17, 18, 19, 20, 21, 28], [0, 1, 2, 3, 4, 5, 6, 7, 8, 9, 10, 11, 12, 13, 14, 15, 16, 17, 18, 19, 20, 21, 22, 23, 24, 25, 26, 27, 28, 29], [0, 1, 2, 3, 4, 5, 6, 7, 8, 9, 10, 11, 12, 13, 14, 15, 16, 17, 18, 19, 20, 21, 22, 23, 24, 25, 26, 27, 28, 29, 30], [0, 1, 2, 3, 4, 5, 6, 7, 8, 9, 10, 11, 12, 13, 14, 15, 16, 17, 18, 19, 20, 21, 22, 23, 24, 25, 26, 27, 28, 29, 30, 31], [0, 1, 2, 3, 4, 5, 6, 7, 8, 9, 10, 11, 12, 13, 14, 15, 16, 17, 18, 19, 20, 21, 22, 23, 24, 25, 26, 27, 28, 29, 30, 31, 32], [0, 1, 2, 3, 4, 5, 6, 7, 8, 9, 10, 11, 12, 13, 14, 15, 16, 17, 18, 19, 20, 21, 22, 23, 24, 25, 26, 27, 28, 29, 30, 31, 32, 33], [0, 1, 2, 3, 4, 5, 6, 7, 8, 9, 10, 11, 12, 13, 14, 15, 16, 17, 18, 19, 20, 21, 22, 23, 24, 25, 26, 27, 28, 29, 30, 31, 32], [0, 1, 2, 3, 4, 5, 6, 7, 8, 9, 10, 11, 12, 13, 14, 15, 16, 17, 18, 19, 20, 21, 22, 23, 24, 25, 26, 27, 28, 29, 30, 31, 32, 35], [0, 1, 2, 3, 4, 5, 6, 7, 8, 9, 10, 11, 12, 13, 14, 15, 16, 17, 18, 19, 20, 21, 22, 23, 24, 25, 26, 27, 28, 29, 30, 31, 32, 33, 34, 35, 36], [0, 1, 2, 3, 4, 5, 6, 7, 8, 9, 10, 11, 12, 13, 14, 15, 16, 17, 18, 19, 20, 21, 22, 23, 24, 25, 26, 27, 28, 29, 30, 31, 32, 33, 34, 35, 36, 37]] h (by kernel_rfl) (by kernel_rfl) (by kernel_rfl) ?_
          refine w_pure h (ru_move (h.ev rfl)) rfl ?_; intro f h
          refine w_pure h (ru_val (.bool false) (ru_neq (h.ev rfl) (h.ev rfl)) (congrArg Value.bool (by rw [e1]; rfl))) rfl ?_; intro f h
          refine w_pure h (ru_move (h.ev rfl)) rfl ?_; intro f h
          refine w_on h rfl rfl rfl ?_
          refine w_load_row 0 h s row30 rfl rfl (mbArr_size _) rfl ?_; intro f h
          refine w_on h rfl rfl rfl ?_
          refine w_load_row 4 h s row30 rfl rfl (mbArr_size _) rfl ?_; intro f h
          refine w_on h rfl rfl rfl ?_
          refine w_pure h (ru_val (.bool false) (ru_neqW (eqM _ _) (by kernel_rfl) (by decide) (h.ev rfl) (h.ev rfl) (decide ((wkM M x (M.getD d9 z3).1.me.1 16) = (ownL (memL M) x))) (mbEq _ _)) (congrArg Value.bool (by rw [e2]; simp))) rfl ?_; intro f h
          refine w_pure h (ru_pick_f (h.ev rfl) (h.ev rfl)) rfl ?_; intro f h
          refine w_pure h (ru_move (h.ev rfl)) rfl ?_; intro f h
          refine w_on h rfl rfl rfl ?_
          refine w_pure h (ru_move (h.ev rfl)) rfl ?_; intro f h
          refine w_on h rfl rfl rfl ?_
          refine w_pure h (ru_lenZ ((s.getG 1 rfl)) Try.underlying28 (h.ev rfl)) rfl ?_; intro f h
          refine w_on h rfl rfl rfl ?_
          refine w_pure h (ru_val (.bool false) (ru_eql (h.ev rfl) (h.ev rfl)) (congrArg Value.bool (by rw [decide_eq_false]; omega))) rfl ?_; intro f h
          refine w_pure h (ru_pick_f (h.ev rfl) (h.ev rfl)) rfl ?_; intro f h
          refine w_pure h (ru_move (h.ev rfl)) rfl ?_; intro f h
          refine w_on h rfl rfl rfl ?_
          refine w_pure h (ru_move (h.ev rfl)) rfl ?_; intro f h
          refine w_on h rfl rfl rfl ?_
          refine w_pure h (ru_ixz ((s.getG 1 rfl)) (0) Try.underlying28 szo3 (h.ev rfl) (h.ev rfl) (by omega) (by omega)) rfl ?_; intro f h
          refine w_on h rfl rfl rfl ?_
          refine w_load_at1 (((s.getG 1 rfl)).el1 (0) (V := .int .i64 ((wkP M x (M.getD d9 z3).1.me.1 16).getD 0 0)) (ns_el (wkP M x (M.getD d9 z3).1.me.1 16) 0 (by omega))) h one3 rfl rfl ?_; intro f h
          refine w_on h rfl rfl rfl ?_
          refine w_pure h (ru_field fld46_0 (h.ev rfl)) rfl ?_; intro f h
          refine w_on h rfl rfl rfl ?_
          refine w_pure h (ru_field fld30_0 (h.ev rfl)) rfl ?_; intro f h
          refine w_on h rfl rfl rfl ?_
          refine w_load_at1 (cell_of_has (Has.of_own s 2 rfl) 0 (ndArr_no _ _ _ _)) h one3 rfl rfl ?_; intro f h
          refine w_on h rfl rfl rfl ?_
          refine w_pure h (ru_val (.bool false) (ru_neq (h.ev rfl) (h.ev rfl)) (congrArg Value.bool (by rw [hf9.2.2]; simp))) rfl ?_; intro f h
          refine w_pure h (ru_pick_f (h.ev rfl) (h.ev rfl)) rfl ?_; intro f h
          refine w_pure h (ru_move (h.ev rfl)) rfl ?_; intro f h
          refine w_on h rfl rfl rfl ?_
          refine w_pure h (ru_move (h.ev rfl)) rfl ?_; intro f h
          refine w_on h rfl rfl rfl ?_
          refine w_pure h (ru_move (h.ev rfl)) rfl ?_; intro f h
          refine w_on h rfl rfl rfl ?_
          refine w_pure h (ru_lenZ ((s.getG 1 rfl)) Try.underlying28 (h.ev rfl)) rfl ?_; intro f h
          refine w_on h rfl rfl rfl ?_
          refine w_pure h (ru_sub (h.ev rfl) (h.ev rfl) (by omega)) rfl ?_; intro f h
          refine w_on h rfl rfl rfl ?_
          refine w_pure h (ru_ixz ((s.getG 1 rfl)) (((wkP M x (M.getD d9 z3).1.me.1 16).length - 1)) Try.underlying28 szo3 (h.ev rfl) (h.ev rfl) (by omega) (by omega)) rfl ?_; intro f h
          refine w_on h rfl rfl rfl ?_
          refine w_load_at1 (((s.getG 1 rfl)).el1 (((wkP M x (M.getD d9 z3).1.me.1 16).length - 1)) (V := .int .i64 ((wkP M x (M.getD d9 z3).1.me.1 16).getD ((wkP M x (M.getD d9 z3).1.me.1 16).length - 1) 0)) (ns_el (wkP M x (M.getD d9 z3).1.me.1 16) _ (by omega))) h one3 rfl rfl ?_; intro f h
          refine w_on h rfl rfl rfl ?_
          refine w_pure h (ru_field fld30_0 (h.ev rfl)) rfl ?_; intro f h
          refine w_on h rfl rfl rfl ?_
          refine w_load_at1 (cell_of_has (Has.of_own s 4 rfl) 0 (mbArr_no _)) h one3 rfl rfl ?_; intro f h
          refine w_on h rfl rfl rfl ?_
          refine w_pure h (ru_val (.bool false) (ru_neq (h.ev rfl) (h.ev rfl)) (congrArg Value.bool (by rw [hv9.2.2.1, e2]; simp))) rfl ?_; intro f h
          refine w_pure h (ru_pick_f (h.ev rfl) (h.ev rfl)) rfl ?_; intro f h
          refine w_pure h (ru_move (h.ev rfl)) rfl ?_; intro f h
          refine w_on h rfl rfl rfl ?_
          refine w_pure h (ru_move (h.ev rfl)) rfl ?_; intro f h
          refine w_on h rfl rfl rfl ?_
          refine w_pure h (ru_lenZ ((s.getG 1 rfl)) Try.underlying28 (h.ev rfl)) rfl ?_; intro f h
          refine w_on h rfl rfl rfl ?_
          refine w_pure h (ru_move (h.ev rfl)) rfl ?_; intro f h
          refine w_on h rfl rfl rfl ?_
          refine w_pure h (ru_lenZ (RdZ.of_own (s.getSl 5 rfl)) Try.underlying40 (h.ev rfl)) rfl ?_; intro f h
          refine w_on h rfl rfl rfl ?_
          refine w_pure h (ru_val (.bool false) (ru_gtr (h.ev rfl) (h.ev rfl)) (congrArg Value.bool (by rw [decide_eq_false]; omega))) rfl ?_; intro f h
          refine w_pure h (ru_pick_f (h.ev rfl) (h.ev rfl)) rfl ?_; intro f h
          refine w_nil s fun w1 s => ?_
          refine s_nil ?_
          refine hK25 _ _ ?_
          refine wpIn_cond_false (h.ev rfl) ?_
          refine wpIn_skip ?_
          refine hK24 _ _ ?_
          refine c_seq fun K26 hK26 => ?_
          refine c_region ?_
          refine s_pure h (ru_assign (h.ev rfl)) rfl ?_; intro f h
          refine s_nil ?_
          refine hK26 _ _ ?_
          refine wpIn_block ?_
          refine wpIn_loop_ghost (fun nn aa ww => ∃ i : Nat, Sl 147 aa [(0, .agg #[vo]), (1, idV x), (2, .pointer (some ⟨b2, 0, none⟩)), (3, .pointer (some ⟨b3, 0, none⟩)), (6, .pointer (some ⟨b6, 0, none⟩)), (12, .pointer (some ⟨b12, 0, none⟩)), (14, .pointer (some ⟨b14, 0, none⟩)), (24, vm), (30, v30), (32, v30), (40, v30), (104, v30), (5, v30), (8, .map (some b39)), (13, vp), (16, .int .i64 (i : Int)), (53, vm), (54, .int .i64 (M.length : Int)), (55, .int .i64 (d9 : Int))] ∧ St w [.blk b14 (.cells ((mbArr (wkM M x (M.getD d9 z3).1.me.1 16))) 30), (.grp kp (fun w9 => RdZ w9 vp 1 (wkP M x (M.getD d9 z3).1.me.1 16).length (intC (wkP M x (M.getD d9 z3).1.me.1 16)))), .blk b12 (.cells (ndArr (M.getD d9 z3).1.me (M.getD d9 z3).1.pr (M.getD d9 z3).2.1 (M.getD d9 z3).2.2) 46), .blk b39 (KvO (idKV (memL M))), .blk b6 (.cells ((mbArr (ownL (memL M) x))) 30), .sl v30 30 33 (memL M).length (mbCells (memL M)), .sl vm 46 68 M.length (n3Cells M), .blk b3 (.cells (idArr x) 26), .blk b2 (.cells (#[vm]) 24)] ww ∧ nn = (wkP M x (M.getD d9 z3).1.me.1 16).length - i ∧ 1 ≤ i ∧ i ≤ (wkP M x (M.getD d9 z3).1.me.1 16).length) ((wkP M x (M.getD d9 z3).1.me.1 16).length - (1)) ⟨1, h.only ⟨rfl, rfl, rfl, rfl, rfl, rfl, rfl, rfl, rfl, rfl, rfl, rfl, rfl, rfl, rfl, rfl, rfl, rfl, rfl, trivial⟩, s.as ⟨rfl, rfl, rfl, rfl, rfl, rfl, rfl, rfl, rfl, trivial⟩, rfl, Nat.le_refl _, hf9.1⟩ ?_
          rintro _ f w1 ⟨i, h, s, hnn, hp0, hp1⟩
          refine c_seq fun K27 hK27 => ?_
          refine c_seq fun K28 hK28 => ?_
          refine c_region ?_
          refine s_pure h (ru_move (h.ev rfl)) rfl ?_; intro f h
          refine s_pure h (ru_add (h.ev rfl) (h.ev rfl) (by omega)) rfl ?_; intro f h
          refine s_pure h (ru_move (h.ev rfl)) rfl ?_; intro f h
          refine s_pure h (ru_lenZ ((s.getG 1 rfl)) Try.underlying28 (h.ev rfl)) rfl ?_; intro f h
          refine s_pure h (ru_lss (h.ev rfl) (h.ev rfl)) rfl ?_; intro f h
          refine s_nil ?_
          refine hK28 _ _ ?_
          refine c_cond h rfl (fun hc => ?_) (fun hc => ?_)
          · replace hc := of_decide_eq_true hc
            refine wpIn_skip ?_
            refine hK27 _ _ ?_
            refine c_seq fun K29 hK29 => ?_
            refine wpIn_block ?_
            refine c_seq fun K30 hK30 => ?_
            cases q9 : (decide ((mbK M x (M.getD d9 z3).1.me.1 (i - 1)).2 ≠ x) : Bool)
            · skip
              refine c_walkN 30 [[], [], [], [2], [1, 2, 3], [1, 2, 3, 4], [0, 1, 2, 3, 4, 5], [], [0, 1, 2, 3, 4, 5, 6, 7], [0, 1, 2, 3, 4, 5, 6, 7, 8], [0, 1, 2, 3, 4, 5, 6, 7, 8, 9], [0, 1, 2, 3, 4, 5, 6, 7, 8, 9], [0, 1, 2, 3, 4, 5, 6, 7, 8, 9], [0, 1, 2, 3, 4, 5, 6, 7, 8, 9, 11, 12], [0, 1, 2, 3, 4, 5, 6, 7, 8, 9, 11, 12, 13], [0, 1, 2, 3, 4, 5, 6, 7, 8, 9, 10, 11, 12, 13, 14], [0, 1, 2, 3, 4, 5, 6, 7, 8, 9], [0, 1, 2, 3, 4, 5, 6, 7, 8, 9, 10, 11, 12, 13, 14, 15, 16], [0, 1, 2, 3, 4, 5, 6, 7, 8, 9], [0, 1, 2, 3, 4, 5, 6, 7, 8, 9], [0, 1, 2, 3, 4, 5, 6, 7, 8, 9], [0, 1, 2, 3, 4, 5, 6, 7, 8, 9, 20], [0, 1, 2, 3, 4, 5, 6, 7, 8, 9, 19, 20, 21], [0, 1, 2, 3, 4, 5, 6, 7, 8, 9, 19, 20, 21, 22], [0, 1, 2, 3, 4, 5, 6, 7, 8, 9, 18, 19, 20, 21, 22, 23], [0, 1, 2, 3, 4, 5, 6, 7, 8, 9], [0, 1, 2, 3, 4, 5, 6, 7, 8, 9, 10, 11, 12, 13, 14, 15, 16, 17, 18, 19, 20, 21, 22, 23, 24, 25], [0, 1, 2, 3, 4, 5, 6, 7, 8, 9, 10, 11, 12, 13, 14, 15, 16, 17, 18, 19, 20, 21, 22, 23, 24, 25, 26], [0, 1, 2, 3, 4, 5, 6, 7, 8, 9, 10, 11, 12, 13, 14, 15, 16, 17, 18, 19, 20, 21, 22, 23, 24, 25, 26, 27], [0, 1, 2, 3, 4, 5, 6, 7, 8, 9, 10, 11, 12, 13, 14, 15, 16, 17, 18, 19, 20, 21, 22, 23, 24, 25, 26, 27, 28]] h (by kernel_rfl) (by kernel_rfl) (by kernel_rfl) ?_
              have hil := fin_lt e3 (i := i) (by omega)
              refine w_pure h (ru_move (h.ev rfl)) rfl ?_; intro f h
              refine w_pure h (ru_move (h.ev rfl)) rfl ?_; intro f h
              refine w_pure h (ru_move (h.ev rfl)) rfl ?_; intro f h
              refine w_pure h (ru_sub (h.ev rfl) (h.ev rfl) (by omega)) rfl ?_; intro f h
              refine w_pure h (ru_ixz ((s.getG 1 rfl)) ((i - 1)) Try.underlying28 szo3 (h.ev rfl) (h.ev rfl) (by omega) (by omega)) rfl ?_; intro f h
              refine w_load_at1 (((s.getG 1 rfl)).el1 ((i - 1)) (V := .int .i64 ((wkP M x (M.getD d9 z3).1.me.1 16).getD (i - 1) 0)) (ns_el (wkP M x (M.getD d9 z3).1.me.1 16) _ (by omega))) h one3 rfl rfl ?_; intro f h
              refine w_kvlook (es := (idKV (memL M))) (V := idV (mbK M x (M.getD d9 z3).1.me.1 (i - 1)).2) (Z := idV 0#256) 3 h s Try.underlying44 Try.underlying3 zero26 rfl rfl rfl (fin_kv hg e3 e6 (by omega) _) rfl ?_; intro f h
              refine w_load_row 7 h s row26 rfl rfl (by first | exact idArr_size _ | exact bytesF_size _ _) rfl ?_; intro f h
              refine w_pure h (ru_val (.bool false) (ru_neq_id idTy (h.ev rfl) (h.ev rfl)) (by rw [q9])) rfl ?_; intro f h
              refine w_pure h (ru_move (h.ev rfl)) rfl ?_; intro f h
              refine w_off (b := true) h rfl rfl rfl rfl ?_; intro f h
              refine w_off (b := true) h rfl rfl rfl rfl ?_; intro f h
              refine w_off (b := true) h rfl rfl rfl rfl ?_; intro f h
              refine w_off (b := true) h rfl rfl rfl rfl ?_; intro f h
              refine w_off (b := true) h rfl rfl rfl rfl ?_; intro f h
              refine w_off (b := true) h rfl rfl rfl rfl ?_; intro f h
              refine w_off (b := true) h rfl rfl rfl rfl ?_; intro f h
              refine w_off (b := true) h rfl rfl rfl rfl ?_; intro f h
              refine w_off (b := true) h rfl rfl rfl rfl ?_; intro f h
              refine w_off (b := true) h rfl rfl rfl rfl ?_; intro f h
              refine w_off (b := true) h rfl rfl rfl rfl ?_; intro f h
              refine w_off (b := true) h rfl rfl rfl rfl ?_; intro f h
              refine w_off (b := true) h rfl rfl rfl rfl ?_; intro f h
              refine w_off (b := true) h rfl rfl rfl rfl ?_; intro f h
              refine w_off (b := true) h rfl rfl rfl rfl ?_; intro f h
              refine w_off (b := true) h rfl rfl rfl rfl ?_; intro f h
              refine w_off (b := true) h rfl rfl rfl rfl ?_; intro f h
              refine w_off (b := true) h rfl rfl rfl rfl ?_; intro f h
              refine w_off (b := true) h rfl rfl rfl rfl ?_; intro f h
              refine w_pure h (ru_pick_f (h.ev rfl) (h.ev rfl)) rfl ?_; intro f h
              refine w_nil s fun w1 s => ?_
              refine s_nil ?_
              refine hK30 _ _ ?_
              refine wpIn_cond_false (h.ev rfl) ?_
              refine wpIn_skip ?_
              refine b_norm ?_
              refine hK29 _ _ ?_
              refine c_region ?_
              refine s_pure h (ru_move (h.ev rfl)) rfl ?_; intro f h
              refine s_pure h (ru_add (h.ev rfl) (h.ev rfl) (by omega)) rfl ?_; intro f h
              refine s_pure h (ru_assign (h.ev rfl)) rfl ?_; intro f h
              refine s_nil ?_
              refine t_norm ?_
              exact ⟨_, by omega, ⟨i + 1, h.only ⟨rfl, rfl, rfl, rfl, rfl, rfl, rfl, rfl, rfl, rfl, rfl, rfl, rfl, rfl, rfl, rfl, rfl, rfl, rfl, trivial⟩, St.as s ⟨rfl, rfl, rfl, rfl, rfl, rfl, rfl, rfl, rfl, trivial⟩, rfl, by omega, by omega⟩⟩
            · skip
              refine c_walkN 30 [[], [], [], [2], [1, 2, 3], [1, 2, 3, 4], [0, 1, 2, 3, 4, 5], [], [0, 1, 2, 3, 4, 5, 6, 7], [0, 1, 2, 3, 4, 5, 6, 7, 8], [0, 1, 2, 3, 4, 5, 6, 7, 8, 9], [0, 1, 2, 3, 4, 5, 6, 7, 8, 9], [0, 1, 2, 3, 4, 5, 6, 7, 8, 9], [0, 1, 2, 3, 4, 5, 6, 7, 8, 9, 11, 12], [0, 1, 2, 3, 4, 5, 6, 7, 8, 9, 11, 12, 13], [0, 1, 2, 3, 4, 5, 6, 7, 8, 9, 10, 11, 12, 13, 14], [0, 1, 2, 3, 4, 5, 6, 7, 8, 9], [0, 1, 2, 3, 4, 5, 6, 7, 8, 9, 10, 11, 12, 13, 14, 15, 16], [0, 1, 2, 3, 4, 5, 6, 7, 8, 9], [0, 1, 2, 3, 4, 5, 6, 7, 8, 9], [0, 1, 2, 3, 4, 5, 6, 7, 8, 9], [0, 1, 2, 3, 4, 5, 6, 7, 8, 9, 20], [0, 1, 2, 3, 4, 5, 6, 7, 8, 9, 19, 20, 21], [0, 1, 2, 3, 4, 5, 6, 7, 8, 9, 19, 20, 21, 22], [0, 1, 2, 3, 4, 5, 6, 7, 8, 9, 18, 19, 20, 21, 22, 23], [0, 1, 2, 3, 4, 5, 6, 7, 8, 9], [0, 1, 2, 3, 4, 5, 6, 7, 8, 9, 10, 11, 12, 13, 14, 15, 16, 17, 18, 19, 20, 21, 22, 23, 24, 25], [0, 1, 2, 3, 4, 5, 6, 7, 8, 9, 10, 11, 12, 13, 14, 15, 16, 17, 18, 19, 20, 21, 22, 23, 24, 25, 26], [0, 1, 2, 3, 4, 5, 6, 7, 8, 9, 10, 11, 12, 13, 14, 15, 16, 17, 18, 19, 20, 21, 22, 23, 24, 25, 26, 27], [0, 1, 2, 3, 4, 5, 6, 7, 8, 9, 10, 11, 12, 13, 14, 15, 16, 17, 18, 19, 20, 21, 22, 23, 24, 25, 26, 27, 28]] h (by kernel_rfl) (by kernel_rfl) (by kernel_rfl) ?_
              have hil := fin_lt e3 (i := i) (by omega)
              refine w_pure h (ru_move (h.ev rfl)) rfl ?_; intro f h
              refine w_pure h (ru_move (h.ev rfl)) rfl ?_; intro f h
              refine w_pure h (ru_move (h.ev rfl)) rfl ?_; intro f h
              refine w_pure h (ru_sub (h.ev rfl) (h.ev rfl) (by omega)) rfl ?_; intro f h
              refine w_pure h (ru_ixz ((s.getG 1 rfl)) ((i - 1)) Try.underlying28 szo3 (h.ev rfl) (h.ev rfl) (by omega) (by omega)) rfl ?_; intro f h
              refine w_load_at1 (((s.getG 1 rfl)).el1 ((i - 1)) (V := .int .i64 ((wkP M x (M.getD d9 z3).1.me.1 16).getD (i - 1) 0)) (ns_el (wkP M x (M.getD d9 z3).1.me.1 16) _ (by omega))) h one3 rfl rfl ?_; intro f h
              refine w_kvlook (es := (idKV (memL M))) (V := idV (mbK M x (M.getD d9 z3).1.me.1 (i - 1)).2) (Z := idV 0#256) 3 h s Try.underlying44 Try.underlying3 zero26 rfl rfl rfl (fin_kv hg e3 e6 (by omega) _) rfl ?_; intro f h
              refine w_load_row 7 h s row26 rfl rfl (by first | exact idArr_size _ | exact bytesF_size _ _) rfl ?_; intro f h
              refine w_pure h (ru_val (.bool true) (ru_neq_id idTy (h.ev rfl) (h.ev rfl)) (by rw [q9])) rfl ?_; intro f h
              refine w_pure h (ru_move (h.ev rfl)) rfl ?_; intro f h
              refine w_on h rfl rfl rfl ?_
              refine w_pure h (ru_move (h.ev rfl)) rfl ?_; intro f h
              refine w_on h rfl rfl rfl ?_
              refine w_pure h (ru_move (h.ev rfl)) rfl ?_; intro f h
              refine w_on h rfl rfl rfl ?_
              refine w_pure h (ru_move (h.ev rfl)) rfl ?_; intro f h
              refine w_on h rfl rfl rfl ?_
              refine w_pure h (ru_ixz ((s.getG 1 rfl)) (i) Try.underlying28 szo3 (h.ev rfl) (h.ev rfl) (by omega) (by omega)) rfl ?_; intro f h
              refine w_on h rfl rfl rfl ?_
              refine w_load_at1 (((s.getG 1 rfl)).el1 (i) (V := .int .i64 ((wkP M x (M.getD d9 z3).1.me.1 16).getD i 0)) (ns_el (wkP M x (M.getD d9 z3).1.me.1 16) _ (by omega))) h one3 rfl rfl ?_; intro f h
              refine w_on h rfl rfl rfl ?_
              refine w_kvlook (es := (idKV (memL M))) (V := idV (mbK M x (M.getD d9 z3).1.me.1 i).2) (Z := idV 0#256) 3 h s Try.underlying44 Try.underlying3 zero26 rfl rfl rfl (fin_kv hg e3 e6 hil _) rfl ?_; intro f h
              refine w_on h rfl rfl rfl ?_
              refine w_load_row 7 h s row26 rfl rfl (by first | exact idArr_size _ | exact bytesF_size _ _) rfl ?_; intro f h
              refine w_on h rfl rfl rfl ?_
              refine w_call h fnc16 (fun w9 hE9 => far_any (mbK M x (M.getD d9 z3).1.me.1 i).2 x w9) rfl rfl ?_; intro f h
              refine w_on h rfl rfl rfl ?_
              refine w_pure h (ru_move (h.ev rfl)) rfl ?_; intro f h
              refine w_on h rfl rfl rfl ?_
              refine w_pure h (ru_move (h.ev rfl)) rfl ?_; intro f h
              refine w_on h rfl rfl rfl ?_
              refine w_pure h (ru_move (h.ev rfl)) rfl ?_; intro f h
              refine w_on h rfl rfl rfl ?_
              refine w_pure h (ru_sub (h.ev rfl) (h.ev rfl) (by omega)) rfl ?_; intro f h
              refine w_on h rfl rfl rfl ?_
              refine w_pure h (ru_ixz ((s.getG 1 rfl)) ((i - 1)) Try.underlying28 szo3 (h.ev rfl) (h.ev rfl) (by omega) (by omega)) rfl ?_; intro f h
              refine w_on h rfl rfl rfl ?_
              refine w_load_at1 (((s.getG 1 rfl)).el1 ((i - 1)) (V := .int .i64 ((wkP M x (M.getD d9 z3).1.me.1 16).getD (i - 1) 0)) (ns_el (wkP M x (M.getD d9 z3).1.me.1 16) _ (by omega))) h one3 rfl rfl ?_; intro f h
              refine w_on h rfl rfl rfl ?_
              refine w_kvlook (es := (idKV (memL M))) (V := idV (mbK M x (M.getD d9 z3).1.me.1 (i - 1)).2) (Z := idV 0#256) 3 h s Try.underlying44 Try.underlying3 zero26 rfl rfl rfl (fin_kv hg e3 e6 (by omega) _) rfl ?_; intro f h
              refine w_on h rfl rfl rfl ?_
              refine w_load_row 7 h s row26 rfl rfl (by first | exact idArr_size _ | exact bytesF_size _ _) rfl ?_; intro f h
              refine w_on h rfl rfl rfl ?_
              refine w_call h fnc16 (fun w9 hE9 => far_any (mbK M x (M.getD d9 z3).1.me.1 (i - 1)).2 x w9) rfl rfl ?_; intro f h
              refine w_on h rfl rfl rfl ?_
              refine w_call h fnc15 (fun w9 hE9 => compare_any (x - (mbK M x (M.getD d9 z3).1.me.1 i).2) (x - (mbK M x (M.getD d9 z3).1.me.1 (i - 1)).2) w9) rfl rfl ?_; intro f h
              refine w_on h rfl rfl rfl ?_
              refine w_pure h (ru_val (.bool false) (ru_geq (h.ev rfl) (h.ev rfl)) (congrArg Value.bool (decide_eq_false (fin_cmp e7 hp0 hil)))) rfl ?_; intro f h
              refine w_pure h (ru_pick_t (h.ev rfl) (h.ev rfl)) rfl ?_; intro f h
              refine w_nil s fun w1 s => ?_
              refine s_nil ?_
              refine hK30 _ _ ?_
              refine wpIn_cond_false (h.ev rfl) ?_
              refine wpIn_skip ?_
              refine b_norm ?_
              refine hK29 _ _ ?_
              refine c_region ?_
              refine s_pure h (ru_move (h.ev rfl)) rfl ?_; intro f h
              refine s_pure h (ru_add (h.ev rfl) (h.ev rfl) (by omega)) rfl ?_; intro f h
              refine s_pure h (ru_assign (h.ev rfl)) rfl ?_; intro f h
              refine s_nil ?_
              refine t_norm ?_
              exact ⟨_, by omega, ⟨i + 1, h.only ⟨rfl, rfl, rfl, rfl, rfl, rfl, rfl, rfl, rfl, rfl, rfl, rfl, rfl, rfl, rfl, rfl, rfl, rfl, rfl, trivial⟩, St.as s ⟨rfl, rfl, rfl, rfl, rfl, rfl, rfl, rfl, rfl, trivial⟩, rfl, by omega, by omega⟩⟩
          · replace hc := of_decide_eq_false hc
            refine wpIn_exit ?_
            refine t_exit ?_
            refine t_exit ?_
            refine b_exit ?_
            refine b_norm ?_
            refine hK21 _ _ ?_
            refine c_region ?_
            refine s_pure h (ru_add (h.ev rfl) (h.ev rfl) (by omega)) rfl ?_; intro f h
            refine s_pure h (ru_move (h.ev rfl)) rfl ?_; intro f h
            refine s_nil ?_
            refine t_norm ?_
            exact ⟨_, by omega, ⟨d9 + 1, h.only ⟨rfl, rfl, rfl, rfl, rfl, rfl, rfl, rfl, rfl, rfl, rfl, rfl, rfl, slot_int rfl (by omega), trivial⟩, St.as (s.pick _ (List.sublist_append_right [_, _, _] _)) ⟨rfl, rfl, rfl, rfl, rfl, rfl, trivial⟩, rfl, by omega⟩⟩
        · replace hc := of_decide_eq_false hc
          refine wpIn_exit ?_
          refine t_exit ?_
          refine t_exit ?_
          refine b_exit ?_
          refine hK17 _ _ ?_
          refine c_seq fun K31 hK31 => ?_
          refine c_region ?_
          refine s_call h s fnc10 (ret_val (.bool true) (lalive_any _) (congrArg Value.bool (rfl))) rfl rfl ?_; intro f w1 v9 hT hE h s; obtain rfl := hT
          refine s_pure h (ru_assign (h.ev rfl)) rfl ?_; intro f h
          refine s_nil ?_
          refine hK31 _ _ ?_
          refine wpIn_ret ?_
          exact e_tmp rfl h s rfl (rfl)
    · skip
      refine c_region ?_
      refine s_load_row 2 h s row24 rfl rfl (rfl) rfl ?_; intro f h
      refine s_call h s fnc12 (ret_val (.bool true) (cstable_any M vm _ (⟨RdZ.of_own (s.getSl 0 rfl), fun y hy => (hMr y hy).keep s.ext⟩ : RdO _ vm M) hM40 hMb) (congrArg Value.bool s0)) rfl rfl ?_; intro f w1 v9 hT hE h s; obtain rfl := hT
      refine s_pure h (ru_val (.bool false) (ru_not (h.ev rfl)) rfl) rfl ?_; intro f h
      refine s_pure h (ru_move (h.ev rfl)) rfl ?_; intro f h
      refine s_on h rfl rfl rfl ?_
      refine s_pure h (ru_field fld24_0 (h.ev rfl)) rfl ?_; intro f h
      refine s_on h rfl rfl rfl ?_
      refine s_load_at1 (V := vm) (cell_of_has (Has.of_own s 2 rfl) 0 rfl) h one22 rfl rfl ?_; intro f h
      refine s_on h rfl rfl rfl ?_
      refine s_len_sl 0 h s Try.underlying22 rfl rfl rfl ?_; intro f h
      refine s_on h rfl rfl rfl ?_
      refine s_pure h (ru_val (.bool true) (ru_eql (h.ev rfl) (h.ev rfl)) (congrArg Value.bool (decide_eq_true (by have := of_decide_eq_true z0; omega)))) rfl ?_; intro f h
      refine s_pure h (ru_pick_f (h.ev rfl) (h.ev rfl)) rfl ?_; intro f h
      refine s_nil ?_
      refine hK4 _ _ ?_
      refine wpIn_cond_true (h.ev rfl) ?_
      refine c_seq fun K32 hK32 => ?_
      refine c_region ?_
      refine s_call h s fnc10 (ret_val (.bool true) (lalive_any _) (congrArg Value.bool (rfl))) rfl rfl ?_; intro f w1 v9 hT hE h s; obtain rfl := hT
      refine s_pure h (ru_assign (h.ev rfl)) rfl ?_; intro f h
      refine s_nil ?_
      refine hK32 _ _ ?_
      refine wpIn_ret ?_
      refine t_ret ?_
      exact e_tmp rfl h s rfl (rfl)
end Go.Proofs.Ytndbijifgalpbaa
