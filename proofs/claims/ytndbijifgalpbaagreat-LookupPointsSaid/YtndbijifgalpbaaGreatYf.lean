/- What LookupPoints answers: for all arguments. -/
import Derived.Test.YtndbijifgalpbaaGreatVd
import Derived.Test.YtndbijifgalpbaaGreatXl
import Derived.Test.YtndbijifgalpbaaGreatWo
import Derived.Test.YtndbijifgalpbaaGreatWj
set_option linter.unusedVariables false
set_option linter.unusedSimpArgs false
set_option linter.unusedSectionVars false
namespace Go.Proofs.YtndbijifgalpbaaGreat
open Go.RowKit
set_option maxHeartbeats 4000000 in
theorem lpoints_any (L : List N3) (vo : Value) (x : Id) (qs : List Int) (qv : Value) (w : World) (hO : RdO w vo L) (hQ : RdZ w qv 1 qs.length (intC qs)) : Calls Tryz.prog 4 [.agg #[vo], idV x, qv].toArray w (Ret w (is (.bool true))) := by
  have hT := int_cut hQ (min qs.length 20) (Nat.min_le_left _ _)
  obtain ⟨ps, hps⟩ : ∃ x9, x9 = qs.take (min qs.length 20) := ⟨_, rfl⟩
  rw [← hps] at hT
  have hpl : ps.length ≤ 20 := by rw [hps, List.length_take]; omega
  refine c_enter Tryz.func4 rfl Tryz.ntmps4 rfl [(0, .agg #[vo]), (1, idV x), (2, qv)] (by simp) fun f h => ?_
  have s := St.start w
  refine c_seq fun K1 hK1 => ?_
  refine c_region ?_
  refine s_box (#[vo]) h s rfl rfl rfl ?_; intro f w1 b3 h s
  refine s_box (idArr x) h s rfl rfl rfl ?_; intro f w1 b4 h s
  refine s_pure h (ru_assign (h.ev rfl)) rfl ?_; intro f h
  refine s_nil ?_
  refine hK1 _ _ ?_
  refine c_seq fun K2 hK2 => ?_
  refine c_region ?_
  refine s_load_row 1 h s row24 rfl rfl (rfl) rfl ?_; intro f h
  refine s_call h s fnc5 (ofew_any L vo _ (hO.keep s.ext)) rfl rfl ?_; rintro f w1 v24 ⟨vm, rfl, hOw⟩ hE h sq; replace s := s.sl_new hE hOw; clear hOw
  obtain ⟨M, hM⟩ : ∃ x9, x9 = (L.take (min L.length 18)).map few3 := ⟨_, rfl⟩
  rw [← hM] at s
  have hMf : FewO M := by rw [hM]; exact few_few L
  have hM18 := hMf.len
  have hM40 : M.length ≤ 40 := by omega
  have hMb := hMf.rb
  have hMr : ∀ y ∈ M, RdN w y := by rw [hM]; exact few3_map (fun y hy => hO.2 y (List.mem_of_mem_take hy))
  refine s_store_row 2 h s row24 rfl rfl rfl (rfl) (rfl) (ov_ones (own_one (s.getSl 0 rfl))) ?_; intro w1 s
  refine s_nil ?_
  refine hK2 _ _ ?_
  refine c_seq fun K3 hK3 => ?_
  refine c_seq fun K4 hK4 => ?_
  cases s0 : (stabO M : Bool)
  · skip
    refine c_region ?_
    refine s_load_row 2 h s row24 rfl rfl (rfl) rfl ?_; intro f h
    refine s_call h s fnc11 (ret_val (.bool false) (cstable_any M vm _ (⟨RdZ.of_own (s.getSl 0 rfl), fun y hy => (hMr y hy).keep s.ext⟩ : RdO _ vm M) hM40 hMb) (congrArg Value.bool s0)) rfl rfl ?_; intro f w1 v9 hT hE h s; obtain rfl := hT
    refine s_pure h (ru_val (.bool true) (ru_not (h.ev rfl)) rfl) rfl ?_; intro f h
    refine s_pure h (ru_move (h.ev rfl)) rfl ?_; intro f h
    refine s_off (b := false) h rfl rfl rfl rfl ?_; intro f h
    refine s_off (b := false) h rfl rfl rfl rfl ?_; intro f h
    refine s_off (b := false) h rfl rfl rfl rfl ?_; intro f h
    refine s_off (b := false) h rfl rfl rfl rfl ?_; intro f h
    refine s_pure h (ru_pick_t (h.ev rfl) (h.ev rfl)) rfl ?_; intro f h
    refine s_nil ?_
    refine hK4 _ _ ?_
    refine wpIn_cond_true (h.ev rfl) ?_
    refine c_seq fun K5 hK5 => ?_
    refine c_region ?_
    refine s_call h s fnc8 (ret_val (.bool true) (lalive_any _) (congrArg Value.bool (rfl))) rfl rfl ?_; intro f w1 v9 hT hE h s; obtain rfl := hT
    refine s_pure h (ru_assign (h.ev rfl)) rfl ?_; intro f h
    refine s_nil ?_
    refine hK5 _ _ ?_
    refine wpIn_ret ?_
    refine t_ret ?_
    exact e_tmp rfl h s rfl (rfl)
  · skip
    cases z0 : (decide (M.length = 0) : Bool)
    · skip
      refine c_region ?_
      refine s_load_row 2 h s row24 rfl rfl (rfl) rfl ?_; intro f h
      refine s_call h s fnc11 (ret_val (.bool true) (cstable_any M vm _ (⟨RdZ.of_own (s.getSl 0 rfl), fun y hy => (hMr y hy).keep s.ext⟩ : RdO _ vm M) hM40 hMb) (congrArg Value.bool s0)) rfl rfl ?_; intro f w1 v9 hT hE h s; obtain rfl := hT
      refine s_pure h (ru_val (.bool false) (ru_not (h.ev rfl)) rfl) rfl ?_; intro f h
      refine s_pure h (ru_move (h.ev rfl)) rfl ?_; intro f h
      refine s_on h rfl rfl rfl ?_
      refine s_pure h (ru_field fld24_0 (h.ev rfl)) rfl ?_; intro f h
      refine s_on h rfl rfl rfl ?_
      refine s_load_at1 (V := vm) (cell_of_has (Has.of_own s 2 rfl) 0 rfl) h one22 rfl rfl ?_; intro f h
      refine s_on h rfl rfl rfl ?_
      refine s_len_sl 0 h s Tryz.underlying22 rfl rfl rfl ?_; intro f h
      refine s_on h rfl rfl rfl ?_
      refine s_pure h (ru_val (.bool false) (ru_eql (h.ev rfl) (h.ev rfl)) (congrArg Value.bool (decide_eq_false (by have := of_decide_eq_false z0; omega)))) rfl ?_; intro f h
      refine s_pure h (ru_pick_f (h.ev rfl) (h.ev rfl)) rfl ?_; intro f h
      refine s_nil ?_
      refine hK4 _ _ ?_
      refine wpIn_cond_false (h.ev rfl) ?_
      refine wpIn_skip ?_
      refine hK3 _ _ ?_
      refine c_seq fun K6 hK6 => ?_
      refine c_region ?_
      have hrk := rk_of (stab_ov s0)
      have hg := hrk.rs.ring
      have hml : (memL M).length = M.length := List.length_map _
      have hml16 := hg.len
      have hmp : 0 < (memL M).length := by have := of_decide_eq_false z0; omega
      have ho := own_both hg hmp x
      have hNb := nn_bd (n := M.length) (by omega) (by omega)
      obtain ⟨N9, hN9⟩ : ∃ y : Int, y = (M.length : Int) * (M.length : Int) := ⟨_, rfl⟩
      rw [← hN9] at hNb
      refine s_pure h (ru_field fld24_0 (h.ev rfl)) rfl ?_; intro f h
      refine s_load_at1 (V := vm) (cell_of_has (Has.of_own s 2 rfl) 0 rfl) h one22 rfl rfl ?_; intro f h
      refine s_len_sl 0 h s Tryz.underlying22 rfl rfl rfl ?_; intro f h
      refine s_pure h (ru_assign (h.ev rfl)) rfl ?_; intro f h
      refine s_nil ?_
      refine hK6 _ _ ?_
      refine c_seq fun K7 hK7 => ?_
      refine c_regC 0 [[], [0], [], [0, 1, 2], [0, 1, 2, 3], [0, 1, 2, 3, 4], [0, 1, 2, 3, 4], [], [0, 1, 2, 3, 4, 5, 7], [0, 1, 2, 3, 4, 5, 6, 7, 8]] [[], [], [], [1], [], [], [], [], [7], []] [fun _ => [], fun v => [.sl (v 1) 39 33 (memL M).length (mbCells (memL M))], fun _ => [], fun _ => [], fun _ => [], fun _ => [], fun _ => [], fun v => [.blk (pbk (v 7)) (.cells (mbArr zMb) 39)], fun v => [.blk (pbk (v 7)) (.cells (mbArr (ownL (memL M) x)) 39)], fun _ => []] [] [fun v => v 0 = .agg (#[vm]), fun _ => True, fun v => v 2 = .agg (idArr x), fun v => v 3 = .tuple #[.agg (mbArr (ownL (memL M) x)), .int .i64 0], fun v => v 4 = .tuple #[.agg (mbArr (ownL (memL M) x)), .int .i64 0], fun v => v 5 = .agg (mbArr (ownL (memL M) x)), fun v => v 6 = .int .i64 0, fun v => ∃ b, v 7 = .pointer (some ⟨b, 0, none⟩), fun _ => True, fun v => v 9 = .int .i64 0] [.sl vm 46 68 M.length (n3Cells M), .blk b4 (.cells (idArr x) 26), .blk b3 (.cells (#[vm]) 24)] h s rfl (by kernel_rfl) (by kernel_rfl) (by kernel_rfl) (And.intro ?_ (And.intro ?_ (And.intro ?_ (And.intro ?_ (And.intro ?_ (And.intro ?_ (And.intro ?_ (And.intro ?_ (And.intro ?_ (And.intro ?_ (trivial))))))))))) [0, 2, 3, 4, 5, 6, 8, 9] (by kernel_rfl) ?_
      · intro f9 w2 vl5 E9 hs9 hd9 hl hF s
        have e3 : f9.tmps.getD 3 undef = _ := oc_old hl 3 (by kernel_rfl) (by kernel_rfl) (h.holds 3 _ rfl)
        have h := fin_slot [(3, _)] (hs9.trans h.size) (hd9.trans h.defers) (holds_lk ⟨e3, trivial⟩)
        replace s : St w (.sl vm 46 68 M.length (n3Cells M) :: .blk b4 (.cells (idArr x) 26) :: .blk b3 (.cells (#[vm]) 24) :: E9) _ := s
        refine s_load_row 2 h s row24 rfl rfl (rfl) rfl ?_; intro f h
        exact s_nil ⟨_, oc_out 39 rfl (h.holds 39 _ rfl), rfl, s⟩
      · intro f9 w2 vl5 E9 hs9 hd9 hl hF s
        have e39 : f9.tmps.getD 39 undef = .agg (#[vm]) := (oc_get hl 39 0 (by kernel_rfl) (by kernel_rfl)).trans (hF 0 (by decide))
        have h := fin_slot [(39, .agg (#[vm]))] (hs9.trans h.size) (hd9.trans h.defers) (holds_lk ⟨e39, trivial⟩)
        replace s : St w (.sl vm 46 68 M.length (n3Cells M) :: .blk b4 (.cells (idArr x) 26) :: .blk b3 (.cells (#[vm]) 24) :: E9) _ := s
        refine s_call h s fnc13 (cmembers_any M vm _ (⟨RdZ.of_own (s.getSl 0 rfl), fun y hy => (hMr y hy).keep s.ext⟩ : RdO _ vm M) hM40) rfl rfl ?_; intro f w1 v40 hT9 hE h sq; replace s := s.sl_new hE hT9
        exact s_nil ⟨_, oc_out 40 rfl (h.holds 40 _ rfl), trivial, s⟩
      · intro f9 w2 vl5 E9 hs9 hd9 hl hF s
        have e4 : f9.tmps.getD 4 undef = _ := oc_old hl 4 (by kernel_rfl) (by kernel_rfl) (h.holds 4 _ rfl)
        have h := fin_slot [(4, _)] (hs9.trans h.size) (hd9.trans h.defers) (holds_lk ⟨e4, trivial⟩)
        replace s : St w (.sl vm 46 68 M.length (n3Cells M) :: .blk b4 (.cells (idArr x) 26) :: .blk b3 (.cells (#[vm]) 24) :: E9) _ := s
        refine s_load_row 1 h s row26 rfl rfl (by first | exact idArr_size _ | exact bytesF_size _ _) rfl ?_; intro f h
        exact s_nil ⟨_, oc_out 41 rfl (h.holds 41 _ rfl), rfl, s⟩
      · intro f9 w2 vl5 E9 hs9 hd9 hl hF s
        have e40 : f9.tmps.getD 40 undef = (vl5 1) := oc_get hl 40 1 (by kernel_rfl) (by kernel_rfl)
        have e41 : f9.tmps.getD 41 undef = .agg (idArr x) := (oc_get hl 41 2 (by kernel_rfl) (by kernel_rfl)).trans (hF 2 (by decide))
        have h := fin_slot [(40, (vl5 1)), (41, .agg (idArr x))] (hs9.trans h.size) (hd9.trans h.defers) (holds_lk ⟨e40, e41, trivial⟩)
        replace s : St w (.sl (vl5 1) 39 33 (memL M).length (mbCells (memL M)) :: .sl vm 46 68 M.length (n3Cells M) :: .blk b4 (.cells (idArr x) 26) :: .blk b3 (.cells (#[vm]) 24) :: E9) _ := s
        refine s_call h s fnc12 (ret_val (.tuple #[.agg (mbArr (ownL (memL M) x)), .int .i64 0]) (owner_any (memL M) (vl5 1) x _ (RdZ.of_own (s.getSl 0 rfl)) (by omega)) (by rw [ho.1, ho.2])) rfl rfl ?_; intro f w1 v9 hT hE h s; obtain rfl := hT
        exact s_nil ⟨_, oc_out 42 rfl (h.holds 42 _ rfl), rfl, (s.pick _ (List.Sublist.cons _ (List.Sublist.cons_cons _ (List.Sublist.cons_cons _ (List.Sublist.cons_cons _ (List.Sublist.refl _))))))⟩
      · intro f9 w2 vl5 E9 hs9 hd9 hl hF s
        have e42 : f9.tmps.getD 42 undef = .tuple #[.agg (mbArr (ownL (memL M) x)), .int .i64 0] := (oc_get hl 42 3 (by kernel_rfl) (by kernel_rfl)).trans (hF 3 (by decide))
        have h := fin_slot [(42, .tuple #[.agg (mbArr (ownL (memL M) x)), .int .i64 0])] (hs9.trans h.size) (hd9.trans h.defers) (holds_lk ⟨e42, trivial⟩)
        replace s : St w (.sl vm 46 68 M.length (n3Cells M) :: .blk b4 (.cells (idArr x) 26) :: .blk b3 (.cells (#[vm]) 24) :: E9) _ := s
        refine s_pure h (ru_move (h.ev rfl)) rfl ?_; intro f h
        exact s_nil ⟨_, oc_out 38 rfl (h.holds 38 _ rfl), rfl, s⟩
      · intro f9 w2 vl5 E9 hs9 hd9 hl hF s
        have e38 : f9.tmps.getD 38 undef = .tuple #[.agg (mbArr (ownL (memL M) x)), .int .i64 0] := (oc_get hl 38 4 (by kernel_rfl) (by kernel_rfl)).trans (hF 4 (by decide))
        have h := fin_slot [(38, .tuple #[.agg (mbArr (ownL (memL M) x)), .int .i64 0])] (hs9.trans h.size) (hd9.trans h.defers) (holds_lk ⟨e38, trivial⟩)
        replace s : St w (.sl vm 46 68 M.length (n3Cells M) :: .blk b4 (.cells (idArr x) 26) :: .blk b3 (.cells (#[vm]) 24) :: E9) _ := s
        refine s_pure h (ru_extract (h.ev rfl) rfl) rfl ?_; intro f h
        exact s_nil ⟨_, oc_out 43 rfl (h.holds 43 _ rfl), rfl, s⟩
      · intro f9 w2 vl5 E9 hs9 hd9 hl hF s
        have e38 : f9.tmps.getD 38 undef = .tuple #[.agg (mbArr (ownL (memL M) x)), .int .i64 0] := (oc_get hl 38 4 (by kernel_rfl) (by kernel_rfl)).trans (hF 4 (by decide))
        have h := fin_slot [(38, .tuple #[.agg (mbArr (ownL (memL M) x)), .int .i64 0])] (hs9.trans h.size) (hd9.trans h.defers) (holds_lk ⟨e38, trivial⟩)
        replace s : St w (.sl vm 46 68 M.length (n3Cells M) :: .blk b4 (.cells (idArr x) 26) :: .blk b3 (.cells (#[vm]) 24) :: E9) _ := s
        refine s_pure h (ru_extract (h.ev rfl) rfl) rfl ?_; intro f h
        exact s_nil ⟨_, oc_out 44 rfl (h.holds 44 _ rfl), rfl, s⟩
      · intro f9 w2 vl5 E9 hs9 hd9 hl hF s
        have h := fin_slot [] (hs9.trans h.size) (hd9.trans h.defers) (holds_lk trivial)
        replace s : St w (.sl vm 46 68 M.length (n3Cells M) :: .blk b4 (.cells (idArr x) 26) :: .blk b3 (.cells (#[vm]) 24) :: E9) _ := s
        refine s_alloc (mbArr zMb) h s zero39 rfl rfl ?_; intro f w1 b8 h s
        exact s_nil ⟨_, oc_out 8 rfl (h.holds 8 _ rfl), ⟨_, rfl⟩, s⟩
      · intro f9 w2 vl5 E9 hs9 hd9 hl hF s
        obtain ⟨b8, hb8⟩ : ∃ b, vl5 7 = .pointer (some ⟨b, 0, none⟩) := hF 7 (by decide)
        have e8 : f9.tmps.getD 8 undef = .pointer (some ⟨b8, 0, none⟩) := (oc_get hl 8 7 (by kernel_rfl) (by kernel_rfl)).trans hb8
        have e43 : f9.tmps.getD 43 undef = .agg (mbArr (ownL (memL M) x)) := (oc_get hl 43 5 (by kernel_rfl) (by kernel_rfl)).trans (hF 5 (by decide))
        have h := fin_slot [(8, .pointer (some ⟨b8, 0, none⟩)), (43, .agg (mbArr (ownL (memL M) x)))] (hs9.trans h.size) (hd9.trans h.defers) (holds_lk ⟨e8, e43, trivial⟩)
        replace s : St w (.blk (pbk (vl5 7)) (.cells (mbArr zMb) 39) :: .sl vm 46 68 M.length (n3Cells M) :: .blk b4 (.cells (idArr x) 26) :: .blk b3 (.cells (#[vm]) 24) :: E9) _ := s
        rw [hb8] at s
        replace s : St w (.blk b8 (.cells (mbArr zMb) 39) :: .sl vm 46 68 M.length (n3Cells M) :: .blk b4 (.cells (idArr x) 26) :: .blk b3 (.cells (#[vm]) 24) :: E9) _ := s
        refine s_store_row 0 h s row39 rfl rfl rfl (mbArr_size _) (mbArr_size _) (mbArr_ones _) ?_; intro w1 s
        refine s_nil ⟨undef, oc_none rfl, trivial, ?_⟩
        have z := s
        rw [← show pbk (vl5 7) = b8 from by rw [hb8]; rfl] at z
        exact z
      · intro f9 w2 vl5 E9 hs9 hd9 hl hF s
        have e44 : f9.tmps.getD 44 undef = .int .i64 0 := (oc_get hl 44 6 (by kernel_rfl) (by kernel_rfl)).trans (hF 6 (by decide))
        have h := fin_slot [(44, .int .i64 0)] (hs9.trans h.size) (hd9.trans h.defers) (holds_lk ⟨e44, trivial⟩)
        replace s : St w (.sl vm 46 68 M.length (n3Cells M) :: .blk b4 (.cells (idArr x) 26) :: .blk b3 (.cells (#[vm]) 24) :: E9) _ := s
        refine s_pure h (ru_assign (h.ev rfl)) rfl ?_; intro f h
        exact s_nil ⟨_, oc_out 9 rfl (h.holds 9 _ rfl), rfl, s⟩
      intro f w1 vl5 hs9 hd9 hv hr hF s
      obtain ⟨b8, hb8⟩ : ∃ b, vl5 7 = .pointer (some ⟨b, 0, none⟩) := hF 7 (by kernel_rfl)
      replace h := oc_sl (ops := _) [(39, .agg (#[vm])), (40, (vl5 1)), (41, .agg (idArr x)), (42, .tuple #[.agg (mbArr (ownL (memL M) x)), .int .i64 0]), (38, .tuple #[.agg (mbArr (ownL (memL M) x)), .int .i64 0]), (43, .agg (mbArr (ownL (memL M) x))), (44, .int .i64 0), (8, .pointer (some ⟨b8, 0, none⟩)), (9, .int .i64 0)] h hs9 hd9 hr ⟨(hv 0 39 rfl).trans (hF 0 (by kernel_rfl)), hv 1 40 rfl, (hv 2 41 rfl).trans (hF 2 (by kernel_rfl)), (hv 3 42 rfl).trans (hF 3 (by kernel_rfl)), (hv 4 38 rfl).trans (hF 4 (by kernel_rfl)), (hv 5 43 rfl).trans (hF 5 (by kernel_rfl)), (hv 6 44 rfl).trans (hF 6 (by kernel_rfl)), (hv 7 8 rfl).trans hb8, (hv 9 9 rfl).trans (hF 9 (by kernel_rfl)), trivial⟩ (by kernel_rfl)
      replace s : St w [.blk (pbk (vl5 7)) (.cells (mbArr (ownL (memL M) x)) 39), .sl vm 46 68 M.length (n3Cells M), .blk b4 (.cells (idArr x) 26), .blk b3 (.cells (#[vm]) 24)] _ := s
      rw [hb8] at s
      replace s : St w [.blk b8 (.cells (mbArr (ownL (memL M) x)) 39), .sl vm 46 68 M.length (n3Cells M), .blk b4 (.cells (idArr x) 26), .blk b3 (.cells (#[vm]) 24)] _ := s
      refine hK7 _ _ ?_
      refine c_seq fun K8 hK8 => ?_
      refine c_region ?_
      refine s_load_row 3 h s row24 rfl rfl (rfl) rfl ?_; intro f h
      refine s_alloc (#[nilV]) h s zero24 rfl rfl ?_; intro f w1 b10 h s
      refine s_store_row 0 h s row24 rfl rfl rfl (rfl) (rfl) (ov_ones (own_one (s.getSl 2 rfl))) ?_; intro w1 s
      refine s_nil ?_
      refine hK8 _ _ ?_
      refine c_seq fun K9 hK9 => ?_
      refine c_seq fun K10 hK10 => ?_
      refine c_region ?_
      replace s := s.grp0 (S := fun w9 => RdO w9 vm M → RdO w9 vm M) (fun _ h => h)
      refine s_pure h (ru_move (h.ev rfl)) rfl ?_; intro f h
      refine s_pure h (ru_move (h.ev rfl)) rfl ?_; intro f h
      refine s_pure h (ru_lenZ (hQ.keep s.ext) Tryz.underlying37 (h.ev rfl)) rfl ?_; intro f h
      refine s_pure h (ru_min (h.ev rfl) (h.ev rfl)) rfl ?_; intro f h
      refine s_pure h (ru_slice_hiZ (hQ.keep s.ext) (min qs.length 20) Tryz.underlying37 szo3 (h.ev rfl) (h.ev rfl) (by split <;> omega) (by omega)) rfl ?_; intro f h
      refine s_pure h (ru_lenZ (hT.keep s.ext) Tryz.underlying37 (h.ev rfl)) rfl ?_; intro f h
      refine s_pure h (ru_move (h.ev rfl)) rfl ?_; intro f h
      refine s_nil ?_
      refine hK10 _ _ ?_
      refine wpIn_block ?_
      refine wpIn_loop_ghost (fun nn aa ww => ∃ k : Nat, ∃ vc : Value, ∃ Lc : List N3, ∃ kc : List Nat, Sl 148 aa [(0, .agg #[vo]), (1, idV x), (2, qv), (3, .pointer (some ⟨b3, 0, none⟩)), (4, .pointer (some ⟨b4, 0, none⟩)), (8, .pointer (some ⟨b8, 0, none⟩)), (10, .pointer (some ⟨b10, 0, none⟩)), (30, vm), (36, vm), (40, (vl5 1)), (7, .int .i64 (M.length : Int)), (9, .int .i64 0), (50, (cutV qv (min qs.length 20))), (51, .int .i64 (ps.length : Int)), (52, .int .i64 (k : Int))] ∧ St w [(.grp kc (fun w9 => RdO w9 vm M → RdO w9 vc Lc)), .blk b10 (.cells (#[vc]) 24), .blk b8 (.cells (mbArr (ownL (memL M) x)) 39), .sl vm 46 68 M.length (n3Cells M), .blk b4 (.cells (idArr x) 26), .blk b3 (.cells (#[vm]) 24)] ww ∧ nn = ps.length - k ∧ k ≤ ps.length ∧ stabO Lc = true ∧ memL Lc = memL M) (ps.length - (0)) ⟨0, vm, M, [], h.only ⟨rfl, rfl, rfl, rfl, rfl, rfl, rfl, rfl, rfl, rfl, rfl, rfl, rfl, rfl, slot_int rfl (by omega), trivial⟩, s.as ⟨rfl, rfl, rfl, rfl, rfl, rfl, trivial⟩, rfl, Nat.zero_le _, s0, rfl⟩ ?_
      rintro _ f w1 ⟨k, vc, Lc, kc, h, s, hnn, hp0, hp1, hp2⟩
      refine c_seq fun K11 hK11 => ?_
      refine c_region ?_
      refine s_pure h (ru_lss (h.ev rfl) (h.ev rfl)) rfl ?_; intro f h
      refine s_nil ?_
      refine hK11 _ _ ?_
      refine c_seq fun K12 hK12 => ?_
      refine c_cond h rfl (fun hc => ?_) (fun hc => ?_)
      · replace hc := of_decide_eq_true hc
        refine wpIn_skip ?_
        refine hK12 _ _ ?_
        refine c_seq fun K13 hK13 => ?_
        refine wpIn_block ?_
        refine c_seq fun K14 hK14 => ?_
        refine c_region ?_
        have hkp : k < ps.length := by omega
        have hLk := (rk_of (stab_ov hp1)).rs
        have hLcb := hLk.rb
        have hLcl : Lc.length = M.length := by have h9 := congrArg List.length hp2; simpa [memL] using h9
        refine s_pure h (ru_ixz (hT.keep s.ext) (k) Tryz.underlying37 szo3 (h.ev rfl) (h.ev rfl) (rfl) (by omega)) rfl ?_; intro f h
        refine s_load_at1 ((hT.keep s.ext).el1 (k) (V := .int .i64 (ps.getD k 0)) (ns_el ps k hkp)) h one3 rfl rfl ?_; intro f h
        refine s_pure h (ru_assign (h.ev rfl)) rfl ?_; intro f h
        refine s_nil ?_
        refine hK14 _ _ ?_
        refine c_seq fun K15 hK15 => ?_
        refine c_region ?_
        have htm := tm_N (ps.getD k 0) hNb.1
        obtain ⟨y9, hy9⟩ : ∃ y, y = ((ps.getD k 0).tmod N9 + N9) % N9 := ⟨_, rfl⟩
        have hyb : 0 ≤ y9 ∧ y9 < N9 := by rw [hy9]; exact ⟨Int.emod_nonneg _ (by omega), Int.emod_lt_of_pos _ (by omega)⟩
        obtain ⟨⟨i1, hi1, hi1b⟩, ⟨i2, hi2, hi2b⟩⟩ := ix_two hN9 hyb.1 hyb.2 (by omega)
        refine s_pure h (ru_move (h.ev rfl)) rfl ?_; intro f h
        refine s_pure h (ru_move (h.ev rfl)) rfl ?_; intro f h
        refine s_pure h (ru_move (h.ev rfl)) rfl ?_; intro f h
        refine s_pure h (ru_val (.int .i64 N9) (ru_mul (h.ev rfl) (h.ev rfl) (by rw [← hN9]; omega)) (congrArg (Value.int .i64) hN9.symm)) rfl ?_; intro f h
        refine s_pure h (ru_remt (h.ev rfl) (h.ev rfl) (by omega)) rfl ?_; intro f h
        refine s_pure h (ru_move (h.ev rfl)) rfl ?_; intro f h
        refine s_pure h (ru_move (h.ev rfl)) rfl ?_; intro f h
        refine s_pure h (ru_val (.int .i64 N9) (ru_mul (h.ev rfl) (h.ev rfl) (by rw [← hN9]; omega)) (congrArg (Value.int .i64) hN9.symm)) rfl ?_; intro f h
        refine s_pure h (ru_add (h.ev rfl) (h.ev rfl) (by omega)) rfl ?_; intro f h
        refine s_pure h (ru_move (h.ev rfl)) rfl ?_; intro f h
        refine s_pure h (ru_move (h.ev rfl)) rfl ?_; intro f h
        refine s_pure h (ru_val (.int .i64 N9) (ru_mul (h.ev rfl) (h.ev rfl) (by rw [← hN9]; omega)) (congrArg (Value.int .i64) hN9.symm)) rfl ?_; intro f h
        refine s_pure h (ru_val (.int .i64 y9) (ru_rem (h.ev rfl) (h.ev rfl) (by omega)) (congrArg (Value.int .i64) hy9.symm)) rfl ?_; intro f h
        refine s_pure h (ru_assign (h.ev rfl)) rfl ?_; intro f h
        refine s_nil ?_
        refine hK15 _ _ ?_
        refine c_seq fun K16 hK16 => ?_
        refine c_regG (γ := List Nat × List N3) 0 [[], [], [1], [], [], [3, 4], [1, 2, 3, 4, 5], [1, 2, 3, 4, 5, 6], [1, 2, 3, 4, 5, 6, 7], [1, 2, 3, 4, 5, 6, 7, 8], [], [10], [], [], [12, 13], [10, 11, 12, 13, 14], [10, 11, 12, 13, 14, 15], [10, 11, 12, 13, 14, 15, 16], [10, 11, 12, 13, 14, 15, 16, 17], [0, 1, 2, 3, 4, 5, 6, 7, 8, 9, 10, 11, 12, 13, 14, 15, 16, 17, 18], [0, 1, 2, 3, 4, 5, 6, 7, 8, 9, 10, 11, 12, 13, 14, 15, 16, 17, 18, 19], [0, 1, 2, 3, 4, 5, 6, 7, 8, 9, 10, 11, 12, 13, 14, 15, 16, 17, 18, 19, 20], [0, 1, 2, 3, 4, 5, 6, 7, 8, 9, 10, 11, 12, 13, 14, 15, 16, 17, 18, 19, 20], [], [0, 1, 2, 3, 4, 5, 6, 7, 8, 9, 10, 11, 12, 13, 14, 15, 16, 17, 18, 19, 20, 21, 23], [0, 1, 2, 3, 4, 5, 6, 7, 8, 9, 10, 11, 12, 13, 14, 15, 16, 17, 18, 19, 20, 21, 22, 23, 24]] [[], [], [], [], [], [], [], [], [], [], [], [], [], [], [], [], [], [], [], [], [], [], [], [], [23], []] [fun _ => [], fun _ => [], fun _ => [], fun _ => [], fun _ => [], fun _ => [], fun _ => [], fun _ => [], fun _ => [], fun _ => [], fun _ => [], fun _ => [], fun _ => [], fun _ => [], fun _ => [], fun _ => [], fun _ => [], fun _ => [], fun _ => [], fun v => [.grp (v 19).2.1 (fun w9 => nds (v 19).2.2 = (cpN Lc (M.getD i1 z3).1.me.1 (M.getD i2 z3).1.me.1) ∧ (RdO w9 vc Lc → RdO w9 (tupS (v 19).1) (v 19).2.2))], fun _ => [], fun _ => [], fun _ => [], fun v => [.blk (pbk (v 23).1) (.cells (#[nilV]) 24)], fun v => [.blk (pbk (v 23).1) (.cells (#[(tupS (v 19).1)]) 24)], fun _ => []] [] [fun v => (v 0).1 = .agg (#[vc]), fun v => (v 1).1 = .pointer (some ⟨b3, 0, none⟩), fun v => (v 2).1 = vm, fun v => (v 3).1 = .int .i64 y9, fun v => (v 4).1 = .int .i64 (M.length : Int), fun v => (v 5).1 = .int .i64 (i1 : Int), fun v => (v 6).1 = .pointer (some (elAddr vm (i1 * 68))), fun v => (v 7).1 = .pointer (some (elAddr vm (i1 * 68 + 0))), fun v => (v 8).1 = .pointer (some (elAddr vm (i1 * 68 + 0 + 0))), fun v => (v 9).1 = .int .i64 (M.getD i1 z3).1.me.1, fun v => (v 10).1 = .pointer (some ⟨b3, 0, none⟩), fun v => (v 11).1 = vm, fun v => (v 12).1 = .int .i64 y9, fun v => (v 13).1 = .int .i64 (M.length : Int), fun v => (v 14).1 = .int .i64 (i2 : Int), fun v => (v 15).1 = .pointer (some (elAddr vm (i2 * 68))), fun v => (v 16).1 = .pointer (some (elAddr vm (i2 * 68 + 0))), fun v => (v 17).1 = .pointer (some (elAddr vm (i2 * 68 + 0 + 0))), fun v => (v 18).1 = .int .i64 (M.getD i2 z3).1.me.1, fun v => (v 19).1 = .tuple #[.agg #[(tupS (v 19).1)], .int .i64 (cpE Lc (M.getD i1 z3).1.me.1 (M.getD i2 z3).1.me.1)], fun v => (v 20).1 = .tuple #[.agg #[(tupS (v 19).1)], .int .i64 (cpE Lc (M.getD i1 z3).1.me.1 (M.getD i2 z3).1.me.1)], fun v => (v 21).1 = .agg #[(tupS (v 19).1)], fun v => (v 22).1 = .int .i64 (cpE Lc (M.getD i1 z3).1.me.1 (M.getD i2 z3).1.me.1), fun v => ∃ b, (v 23).1 = .pointer (some ⟨b, 0, none⟩), fun _ => True, fun v => (v 25).1 = .int .i64 (cpE Lc (M.getD i1 z3).1.me.1 (M.getD i2 z3).1.me.1)] [(.grp kc (fun w9 => RdO w9 vm M → RdO w9 vc Lc)), .blk b10 (.cells (#[vc]) 24), .blk b8 (.cells (mbArr (ownL (memL M) x)) 39), .sl vm 46 68 M.length (n3Cells M), .blk b4 (.cells (idArr x) 26), .blk b3 (.cells (#[vm]) 24)] h s rfl (by kernel_rfl) (by kernel_rfl) (by kernel_rfl) (And.intro ?_ (And.intro ?_ (And.intro ?_ (And.intro ?_ (And.intro ?_ (And.intro ?_ (And.intro ?_ (And.intro ?_ (And.intro ?_ (And.intro ?_ (And.intro ?_ (And.intro ?_ (And.intro ?_ (And.intro ?_ (And.intro ?_ (And.intro ?_ (And.intro ?_ (And.intro ?_ (And.intro ?_ (And.intro ?_ (And.intro ?_ (And.intro ?_ (And.intro ?_ (And.intro ?_ (And.intro ?_ (And.intro ?_ (trivial))))))))))))))))))))))))))) [0, 1, 2, 3, 4, 5, 6, 7, 8, 9, 10, 11, 12, 13, 14, 15, 16, 17, 18, 19, 20, 21, 22, 24, 25] (by kernel_rfl) ?_
        · intro f9 w2 vl11 E9 hs9 hd9 hl hF s
          have e10 : f9.tmps.getD 10 undef = _ := og_old hl 10 (by kernel_rfl) (by kernel_rfl) (h.holds 10 _ rfl)
          have h := fin_slot [(10, _)] (hs9.trans h.size) (hd9.trans h.defers) (holds_lk ⟨e10, trivial⟩)
          replace s : St w ((.grp kc (fun w9 => RdO w9 vm M → RdO w9 vc Lc)) :: .blk b10 (.cells (#[vc]) 24) :: .blk b8 (.cells (mbArr (ownL (memL M) x)) 39) :: .sl vm 46 68 M.length (n3Cells M) :: .blk b4 (.cells (idArr x) 26) :: .blk b3 (.cells (#[vm]) 24) :: E9) _ := s
          refine s_load_row 1 h s row24 rfl rfl (rfl) rfl ?_; intro f h
          exact s_nil ⟨(_, default), oc_out 70 rfl (h.holds 70 _ rfl), rfl, s⟩
        · intro f9 w2 vl11 E9 hs9 hd9 hl hF s
          have e3 : f9.tmps.getD 3 undef = _ := og_old hl 3 (by kernel_rfl) (by kernel_rfl) (h.holds 3 _ rfl)
          have h := fin_slot [(3, _)] (hs9.trans h.size) (hd9.trans h.defers) (holds_lk ⟨e3, trivial⟩)
          replace s : St w ((.grp kc (fun w9 => RdO w9 vm M → RdO w9 vc Lc)) :: .blk b10 (.cells (#[vc]) 24) :: .blk b8 (.cells (mbArr (ownL (memL M) x)) 39) :: .sl vm 46 68 M.length (n3Cells M) :: .blk b4 (.cells (idArr x) 26) :: .blk b3 (.cells (#[vm]) 24) :: E9) _ := s
          refine s_pure h (ru_field fld24_0 (h.ev rfl)) rfl ?_; intro f h
          exact s_nil ⟨(_, default), oc_out 71 rfl (h.holds 71 _ rfl), rfl, s⟩
        · intro f9 w2 vl11 E9 hs9 hd9 hl hF s
          have e71 : f9.tmps.getD 71 undef = .pointer (some ⟨b3, 0, none⟩) := (og_get hl 71 1 (by kernel_rfl) (by kernel_rfl)).trans (hF 1 (by decide))
          have h := fin_slot [(71, .pointer (some ⟨b3, 0, none⟩))] (hs9.trans h.size) (hd9.trans h.defers) (holds_lk ⟨e71, trivial⟩)
          replace s : St w ((.grp kc (fun w9 => RdO w9 vm M → RdO w9 vc Lc)) :: .blk b10 (.cells (#[vc]) 24) :: .blk b8 (.cells (mbArr (ownL (memL M) x)) 39) :: .sl vm 46 68 M.length (n3Cells M) :: .blk b4 (.cells (idArr x) 26) :: .blk b3 (.cells (#[vm]) 24) :: E9) _ := s
          refine s_load_at1 (V := vm) (cell_of_has (Has.of_own s 5 rfl) 0 rfl) h one22 rfl rfl ?_; intro f h
          exact s_nil ⟨(_, default), oc_out 72 rfl (h.holds 72 _ rfl), rfl, s⟩
        · intro f9 w2 vl11 E9 hs9 hd9 hl hF s
          have e12 : f9.tmps.getD 12 undef = _ := og_old hl 12 (by kernel_rfl) (by kernel_rfl) (h.holds 12 _ rfl)
          have h := fin_slot [(12, _)] (hs9.trans h.size) (hd9.trans h.defers) (holds_lk ⟨e12, trivial⟩)
          replace s : St w ((.grp kc (fun w9 => RdO w9 vm M → RdO w9 vc Lc)) :: .blk b10 (.cells (#[vc]) 24) :: .blk b8 (.cells (mbArr (ownL (memL M) x)) 39) :: .sl vm 46 68 M.length (n3Cells M) :: .blk b4 (.cells (idArr x) 26) :: .blk b3 (.cells (#[vm]) 24) :: E9) _ := s
          refine s_pure h (ru_move (h.ev rfl)) rfl ?_; intro f h
          exact s_nil ⟨(_, default), oc_out 73 rfl (h.holds 73 _ rfl), rfl, s⟩
        · intro f9 w2 vl11 E9 hs9 hd9 hl hF s
          have e7 : f9.tmps.getD 7 undef = _ := og_old hl 7 (by kernel_rfl) (by kernel_rfl) (h.holds 7 _ rfl)
          have h := fin_slot [(7, _)] (hs9.trans h.size) (hd9.trans h.defers) (holds_lk ⟨e7, trivial⟩)
          replace s : St w ((.grp kc (fun w9 => RdO w9 vm M → RdO w9 vc Lc)) :: .blk b10 (.cells (#[vc]) 24) :: .blk b8 (.cells (mbArr (ownL (memL M) x)) 39) :: .sl vm 46 68 M.length (n3Cells M) :: .blk b4 (.cells (idArr x) 26) :: .blk b3 (.cells (#[vm]) 24) :: E9) _ := s
          refine s_pure h (ru_move (h.ev rfl)) rfl ?_; intro f h
          exact s_nil ⟨(_, default), oc_out 74 rfl (h.holds 74 _ rfl), rfl, s⟩
        · intro f9 w2 vl11 E9 hs9 hd9 hl hF s
          have e73 : f9.tmps.getD 73 undef = .int .i64 y9 := (og_get hl 73 3 (by kernel_rfl) (by kernel_rfl)).trans (hF 3 (by decide))
          have e74 : f9.tmps.getD 74 undef = .int .i64 (M.length : Int) := (og_get hl 74 4 (by kernel_rfl) (by kernel_rfl)).trans (hF 4 (by decide))
          have h := fin_slot [(73, .int .i64 y9), (74, .int .i64 (M.length : Int))] (hs9.trans h.size) (hd9.trans h.defers) (holds_lk ⟨e73, e74, trivial⟩)
          replace s : St w ((.grp kc (fun w9 => RdO w9 vm M → RdO w9 vc Lc)) :: .blk b10 (.cells (#[vc]) 24) :: .blk b8 (.cells (mbArr (ownL (memL M) x)) 39) :: .sl vm 46 68 M.length (n3Cells M) :: .blk b4 (.cells (idArr x) 26) :: .blk b3 (.cells (#[vm]) 24) :: E9) _ := s
          refine s_pure h (ru_val (.int .i64 (i1 : Int)) (ru_rem (h.ev rfl) (h.ev rfl) (by omega)) (congrArg (Value.int .i64) hi1)) rfl ?_; intro f h
          exact s_nil ⟨(_, default), oc_out 75 rfl (h.holds 75 _ rfl), rfl, s⟩
        · intro f9 w2 vl11 E9 hs9 hd9 hl hF s
          have e72 : f9.tmps.getD 72 undef = vm := (og_get hl 72 2 (by kernel_rfl) (by kernel_rfl)).trans (hF 2 (by decide))
          have e75 : f9.tmps.getD 75 undef = .int .i64 (i1 : Int) := (og_get hl 75 5 (by kernel_rfl) (by kernel_rfl)).trans (hF 5 (by decide))
          have h := fin_slot [(72, vm), (75, .int .i64 (i1 : Int))] (hs9.trans h.size) (hd9.trans h.defers) (holds_lk ⟨e72, e75, trivial⟩)
          replace s : St w ((.grp kc (fun w9 => RdO w9 vm M → RdO w9 vc Lc)) :: .blk b10 (.cells (#[vc]) 24) :: .blk b8 (.cells (mbArr (ownL (memL M) x)) 39) :: .sl vm 46 68 M.length (n3Cells M) :: .blk b4 (.cells (idArr x) 26) :: .blk b3 (.cells (#[vm]) 24) :: E9) _ := s
          refine s_pure h (ru_ixz ((⟨RdZ.of_own (s.getSl 3 rfl), fun y hy => (hMr y hy).keep s.ext⟩ : RdO _ vm M).1) (i1) Tryz.underlying22 szo46 (h.ev rfl) (h.ev rfl) (rfl) (by omega)) rfl ?_; intro f h
          exact s_nil ⟨(_, default), oc_out 76 rfl (h.holds 76 _ rfl), rfl, s⟩
        · intro f9 w2 vl11 E9 hs9 hd9 hl hF s
          have e76 : f9.tmps.getD 76 undef = .pointer (some (elAddr vm (i1 * 68))) := (og_get hl 76 6 (by kernel_rfl) (by kernel_rfl)).trans (hF 6 (by decide))
          have h := fin_slot [(76, .pointer (some (elAddr vm (i1 * 68))))] (hs9.trans h.size) (hd9.trans h.defers) (holds_lk ⟨e76, trivial⟩)
          replace s : St w ((.grp kc (fun w9 => RdO w9 vm M → RdO w9 vc Lc)) :: .blk b10 (.cells (#[vc]) 24) :: .blk b8 (.cells (mbArr (ownL (memL M) x)) 39) :: .sl vm 46 68 M.length (n3Cells M) :: .blk b4 (.cells (idArr x) 26) :: .blk b3 (.cells (#[vm]) 24) :: E9) _ := s
          refine s_pure h (ru_fieldE fld46_0 (h.ev rfl) (((⟨RdZ.of_own (s.getSl 3 rfl), fun y hy => (hMr y hy).keep s.ext⟩ : RdO _ vm M).1).some (by omega))) rfl ?_; intro f h
          exact s_nil ⟨(_, default), oc_out 77 rfl (h.holds 77 _ rfl), rfl, s⟩
        · intro f9 w2 vl11 E9 hs9 hd9 hl hF s
          have e77 : f9.tmps.getD 77 undef = .pointer (some (elAddr vm (i1 * 68 + 0))) := (og_get hl 77 7 (by kernel_rfl) (by kernel_rfl)).trans (hF 7 (by decide))
          have h := fin_slot [(77, .pointer (some (elAddr vm (i1 * 68 + 0))))] (hs9.trans h.size) (hd9.trans h.defers) (holds_lk ⟨e77, trivial⟩)
          replace s : St w ((.grp kc (fun w9 => RdO w9 vm M → RdO w9 vc Lc)) :: .blk b10 (.cells (#[vc]) 24) :: .blk b8 (.cells (mbArr (ownL (memL M) x)) 39) :: .sl vm 46 68 M.length (n3Cells M) :: .blk b4 (.cells (idArr x) 26) :: .blk b3 (.cells (#[vm]) 24) :: E9) _ := s
          refine s_pure h (ru_fieldE fld39_0 (h.ev rfl) (((⟨RdZ.of_own (s.getSl 3 rfl), fun y hy => (hMr y hy).keep s.ext⟩ : RdO _ vm M).1).some (by omega))) rfl ?_; intro f h
          exact s_nil ⟨(_, default), oc_out 78 rfl (h.holds 78 _ rfl), rfl, s⟩
        · intro f9 w2 vl11 E9 hs9 hd9 hl hF s
          have e78 : f9.tmps.getD 78 undef = .pointer (some (elAddr vm (i1 * 68 + 0 + 0))) := (og_get hl 78 8 (by kernel_rfl) (by kernel_rfl)).trans (hF 8 (by decide))
          have h := fin_slot [(78, .pointer (some (elAddr vm (i1 * 68 + 0 + 0))))] (hs9.trans h.size) (hd9.trans h.defers) (holds_lk ⟨e78, trivial⟩)
          replace s : St w ((.grp kc (fun w9 => RdO w9 vm M → RdO w9 vc Lc)) :: .blk b10 (.cells (#[vc]) 24) :: .blk b8 (.cells (mbArr (ownL (memL M) x)) 39) :: .sl vm 46 68 M.length (n3Cells M) :: .blk b4 (.cells (idArr x) 26) :: .blk b3 (.cells (#[vm]) 24) :: E9) _ := s
          refine s_load_at1 (V := .int .i64 (M.getD i1 z3).1.me.1) (rdz_at ((⟨RdZ.of_own (s.getSl 3 rfl), fun y hy => (hMr y hy).keep s.ext⟩ : RdO _ vm M).1) (i1 * 68 + 0) (n3_no M i1 hi1b)) h one3 rfl rfl ?_; intro f h
          exact s_nil ⟨(_, default), oc_out 79 rfl (h.holds 79 _ rfl), rfl, s⟩
        · intro f9 w2 vl11 E9 hs9 hd9 hl hF s
          have e3 : f9.tmps.getD 3 undef = _ := og_old hl 3 (by kernel_rfl) (by kernel_rfl) (h.holds 3 _ rfl)
          have h := fin_slot [(3, _)] (hs9.trans h.size) (hd9.trans h.defers) (holds_lk ⟨e3, trivial⟩)
          replace s : St w ((.grp kc (fun w9 => RdO w9 vm M → RdO w9 vc Lc)) :: .blk b10 (.cells (#[vc]) 24) :: .blk b8 (.cells (mbArr (ownL (memL M) x)) 39) :: .sl vm 46 68 M.length (n3Cells M) :: .blk b4 (.cells (idArr x) 26) :: .blk b3 (.cells (#[vm]) 24) :: E9) _ := s
          refine s_pure h (ru_field fld24_0 (h.ev rfl)) rfl ?_; intro f h
          exact s_nil ⟨(_, default), oc_out 80 rfl (h.holds 80 _ rfl), rfl, s⟩
        · intro f9 w2 vl11 E9 hs9 hd9 hl hF s
          have e80 : f9.tmps.getD 80 undef = .pointer (some ⟨b3, 0, none⟩) := (og_get hl 80 10 (by kernel_rfl) (by kernel_rfl)).trans (hF 10 (by decide))
          have h := fin_slot [(80, .pointer (some ⟨b3, 0, none⟩))] (hs9.trans h.size) (hd9.trans h.defers) (holds_lk ⟨e80, trivial⟩)
          replace s : St w ((.grp kc (fun w9 => RdO w9 vm M → RdO w9 vc Lc)) :: .blk b10 (.cells (#[vc]) 24) :: .blk b8 (.cells (mbArr (ownL (memL M) x)) 39) :: .sl vm 46 68 M.length (n3Cells M) :: .blk b4 (.cells (idArr x) 26) :: .blk b3 (.cells (#[vm]) 24) :: E9) _ := s
          refine s_load_at1 (V := vm) (cell_of_has (Has.of_own s 5 rfl) 0 rfl) h one22 rfl rfl ?_; intro f h
          exact s_nil ⟨(_, default), oc_out 81 rfl (h.holds 81 _ rfl), rfl, s⟩
        · intro f9 w2 vl11 E9 hs9 hd9 hl hF s
          have e12 : f9.tmps.getD 12 undef = _ := og_old hl 12 (by kernel_rfl) (by kernel_rfl) (h.holds 12 _ rfl)
          have h := fin_slot [(12, _)] (hs9.trans h.size) (hd9.trans h.defers) (holds_lk ⟨e12, trivial⟩)
          replace s : St w ((.grp kc (fun w9 => RdO w9 vm M → RdO w9 vc Lc)) :: .blk b10 (.cells (#[vc]) 24) :: .blk b8 (.cells (mbArr (ownL (memL M) x)) 39) :: .sl vm 46 68 M.length (n3Cells M) :: .blk b4 (.cells (idArr x) 26) :: .blk b3 (.cells (#[vm]) 24) :: E9) _ := s
          refine s_pure h (ru_move (h.ev rfl)) rfl ?_; intro f h
          exact s_nil ⟨(_, default), oc_out 82 rfl (h.holds 82 _ rfl), rfl, s⟩
        · intro f9 w2 vl11 E9 hs9 hd9 hl hF s
          have e7 : f9.tmps.getD 7 undef = _ := og_old hl 7 (by kernel_rfl) (by kernel_rfl) (h.holds 7 _ rfl)
          have h := fin_slot [(7, _)] (hs9.trans h.size) (hd9.trans h.defers) (holds_lk ⟨e7, trivial⟩)
          replace s : St w ((.grp kc (fun w9 => RdO w9 vm M → RdO w9 vc Lc)) :: .blk b10 (.cells (#[vc]) 24) :: .blk b8 (.cells (mbArr (ownL (memL M) x)) 39) :: .sl vm 46 68 M.length (n3Cells M) :: .blk b4 (.cells (idArr x) 26) :: .blk b3 (.cells (#[vm]) 24) :: E9) _ := s
          refine s_pure h (ru_move (h.ev rfl)) rfl ?_; intro f h
          exact s_nil ⟨(_, default), oc_out 83 rfl (h.holds 83 _ rfl), rfl, s⟩
        · intro f9 w2 vl11 E9 hs9 hd9 hl hF s
          have e82 : f9.tmps.getD 82 undef = .int .i64 y9 := (og_get hl 82 12 (by kernel_rfl) (by kernel_rfl)).trans (hF 12 (by decide))
          have e83 : f9.tmps.getD 83 undef = .int .i64 (M.length : Int) := (og_get hl 83 13 (by kernel_rfl) (by kernel_rfl)).trans (hF 13 (by decide))
          have h := fin_slot [(82, .int .i64 y9), (83, .int .i64 (M.length : Int))] (hs9.trans h.size) (hd9.trans h.defers) (holds_lk ⟨e82, e83, trivial⟩)
          replace s : St w ((.grp kc (fun w9 => RdO w9 vm M → RdO w9 vc Lc)) :: .blk b10 (.cells (#[vc]) 24) :: .blk b8 (.cells (mbArr (ownL (memL M) x)) 39) :: .sl vm 46 68 M.length (n3Cells M) :: .blk b4 (.cells (idArr x) 26) :: .blk b3 (.cells (#[vm]) 24) :: E9) _ := s
          refine s_pure h (ru_val (.int .i64 (i2 : Int)) (ru_quo (h.ev rfl) (h.ev rfl) (by omega)) (congrArg (Value.int .i64) hi2)) rfl ?_; intro f h
          exact s_nil ⟨(_, default), oc_out 84 rfl (h.holds 84 _ rfl), rfl, s⟩
        · intro f9 w2 vl11 E9 hs9 hd9 hl hF s
          have e81 : f9.tmps.getD 81 undef = vm := (og_get hl 81 11 (by kernel_rfl) (by kernel_rfl)).trans (hF 11 (by decide))
          have e84 : f9.tmps.getD 84 undef = .int .i64 (i2 : Int) := (og_get hl 84 14 (by kernel_rfl) (by kernel_rfl)).trans (hF 14 (by decide))
          have h := fin_slot [(81, vm), (84, .int .i64 (i2 : Int))] (hs9.trans h.size) (hd9.trans h.defers) (holds_lk ⟨e81, e84, trivial⟩)
          replace s : St w ((.grp kc (fun w9 => RdO w9 vm M → RdO w9 vc Lc)) :: .blk b10 (.cells (#[vc]) 24) :: .blk b8 (.cells (mbArr (ownL (memL M) x)) 39) :: .sl vm 46 68 M.length (n3Cells M) :: .blk b4 (.cells (idArr x) 26) :: .blk b3 (.cells (#[vm]) 24) :: E9) _ := s
          refine s_pure h (ru_ixz ((⟨RdZ.of_own (s.getSl 3 rfl), fun y hy => (hMr y hy).keep s.ext⟩ : RdO _ vm M).1) (i2) Tryz.underlying22 szo46 (h.ev rfl) (h.ev rfl) (rfl) (by omega)) rfl ?_; intro f h
          exact s_nil ⟨(_, default), oc_out 85 rfl (h.holds 85 _ rfl), rfl, s⟩
        · intro f9 w2 vl11 E9 hs9 hd9 hl hF s
          have e85 : f9.tmps.getD 85 undef = .pointer (some (elAddr vm (i2 * 68))) := (og_get hl 85 15 (by kernel_rfl) (by kernel_rfl)).trans (hF 15 (by decide))
          have h := fin_slot [(85, .pointer (some (elAddr vm (i2 * 68))))] (hs9.trans h.size) (hd9.trans h.defers) (holds_lk ⟨e85, trivial⟩)
          replace s : St w ((.grp kc (fun w9 => RdO w9 vm M → RdO w9 vc Lc)) :: .blk b10 (.cells (#[vc]) 24) :: .blk b8 (.cells (mbArr (ownL (memL M) x)) 39) :: .sl vm 46 68 M.length (n3Cells M) :: .blk b4 (.cells (idArr x) 26) :: .blk b3 (.cells (#[vm]) 24) :: E9) _ := s
          refine s_pure h (ru_fieldE fld46_0 (h.ev rfl) (((⟨RdZ.of_own (s.getSl 3 rfl), fun y hy => (hMr y hy).keep s.ext⟩ : RdO _ vm M).1).some (by omega))) rfl ?_; intro f h
          exact s_nil ⟨(_, default), oc_out 86 rfl (h.holds 86 _ rfl), rfl, s⟩
        · intro f9 w2 vl11 E9 hs9 hd9 hl hF s
          have e86 : f9.tmps.getD 86 undef = .pointer (some (elAddr vm (i2 * 68 + 0))) := (og_get hl 86 16 (by kernel_rfl) (by kernel_rfl)).trans (hF 16 (by decide))
          have h := fin_slot [(86, .pointer (some (elAddr vm (i2 * 68 + 0))))] (hs9.trans h.size) (hd9.trans h.defers) (holds_lk ⟨e86, trivial⟩)
          replace s : St w ((.grp kc (fun w9 => RdO w9 vm M → RdO w9 vc Lc)) :: .blk b10 (.cells (#[vc]) 24) :: .blk b8 (.cells (mbArr (ownL (memL M) x)) 39) :: .sl vm 46 68 M.length (n3Cells M) :: .blk b4 (.cells (idArr x) 26) :: .blk b3 (.cells (#[vm]) 24) :: E9) _ := s
          refine s_pure h (ru_fieldE fld39_0 (h.ev rfl) (((⟨RdZ.of_own (s.getSl 3 rfl), fun y hy => (hMr y hy).keep s.ext⟩ : RdO _ vm M).1).some (by omega))) rfl ?_; intro f h
          exact s_nil ⟨(_, default), oc_out 87 rfl (h.holds 87 _ rfl), rfl, s⟩
        · intro f9 w2 vl11 E9 hs9 hd9 hl hF s
          have e87 : f9.tmps.getD 87 undef = .pointer (some (elAddr vm (i2 * 68 + 0 + 0))) := (og_get hl 87 17 (by kernel_rfl) (by kernel_rfl)).trans (hF 17 (by decide))
          have h := fin_slot [(87, .pointer (some (elAddr vm (i2 * 68 + 0 + 0))))] (hs9.trans h.size) (hd9.trans h.defers) (holds_lk ⟨e87, trivial⟩)
          replace s : St w ((.grp kc (fun w9 => RdO w9 vm M → RdO w9 vc Lc)) :: .blk b10 (.cells (#[vc]) 24) :: .blk b8 (.cells (mbArr (ownL (memL M) x)) 39) :: .sl vm 46 68 M.length (n3Cells M) :: .blk b4 (.cells (idArr x) 26) :: .blk b3 (.cells (#[vm]) 24) :: E9) _ := s
          refine s_load_at1 (V := .int .i64 (M.getD i2 z3).1.me.1) (rdz_at ((⟨RdZ.of_own (s.getSl 3 rfl), fun y hy => (hMr y hy).keep s.ext⟩ : RdO _ vm M).1) (i2 * 68 + 0) (n3_no M i2 hi2b)) h one3 rfl rfl ?_; intro f h
          exact s_nil ⟨(_, default), oc_out 88 rfl (h.holds 88 _ rfl), rfl, s⟩
        · intro f9 w2 vl11 E9 hs9 hd9 hl hF s
          have e70 : f9.tmps.getD 70 undef = .agg (#[vc]) := (og_get hl 70 0 (by kernel_rfl) (by kernel_rfl)).trans (hF 0 (by decide))
          have e79 : f9.tmps.getD 79 undef = .int .i64 (M.getD i1 z3).1.me.1 := (og_get hl 79 9 (by kernel_rfl) (by kernel_rfl)).trans (hF 9 (by decide))
          have e88 : f9.tmps.getD 88 undef = .int .i64 (M.getD i2 z3).1.me.1 := (og_get hl 88 18 (by kernel_rfl) (by kernel_rfl)).trans (hF 18 (by decide))
          have h := fin_slot [(70, .agg (#[vc])), (79, .int .i64 (M.getD i1 z3).1.me.1), (88, .int .i64 (M.getD i2 z3).1.me.1)] (hs9.trans h.size) (hd9.trans h.defers) (holds_lk ⟨e70, e79, e88, trivial⟩)
          replace s : St w ((.grp kc (fun w9 => RdO w9 vm M → RdO w9 vc Lc)) :: .blk b10 (.cells (#[vc]) 24) :: .blk b8 (.cells (mbArr (ownL (memL M) x)) 39) :: .sl vm 46 68 M.length (n3Cells M) :: .blk b4 (.cells (idArr x) 26) :: .blk b3 (.cells (#[vm]) 24) :: E9) _ := s
          have hcR := ((s.getG 0 rfl) (⟨RdZ.of_own (s.getSl 3 rfl), fun y hy => (hMr y hy).keep s.ext⟩ : RdO _ vm M))
          refine s_call h s fnc14 (cpoint_any Lc vc (M.getD i1 z3).1.me.1 (M.getD i2 z3).1.me.1 _ hcR (by omega) hLcb) rfl rfl ?_; rintro f w1 v89 ⟨o9, hv9, vn, Ln, kn, ho9, hnd, hG⟩ hE h sq; replace s := s.add hG
          have hRn := (s.getG 0 rfl) (hcR.keep hE)
          have h0v : vn = tupS v89 := by rw [hv9, ho9]; exact (tupS_eq hRn.1).symm
          clear hG hRn
          subst h0v
          replace s := s.weak (S' := fun w9 => nds Ln = (cpN Lc (M.getD i1 z3).1.me.1 (M.getD i2 z3).1.me.1) ∧ (RdO w9 vc Lc → RdO w9 (tupS v89) Ln)) (fun w9 h9 => ⟨hnd, h9⟩)
          have hvx : v89 = .tuple #[.agg #[tupS v89], .int .i64 (cpE Lc (M.getD i1 z3).1.me.1 (M.getD i2 z3).1.me.1)] := by rw [ho9] at hv9; exact hv9
          exact s_nil ⟨(_, (kn, Ln)), oc_out 89 rfl (h.holds 89 _ rfl), hvx, s⟩
        · intro f9 w2 vl11 E9 hs9 hd9 hl hF s
          have e89 : f9.tmps.getD 89 undef = .tuple #[.agg #[(tupS (vl11 19).1)], .int .i64 (cpE Lc (M.getD i1 z3).1.me.1 (M.getD i2 z3).1.me.1)] := (og_get hl 89 19 (by kernel_rfl) (by kernel_rfl)).trans (hF 19 (by decide))
          have h := fin_slot [(89, .tuple #[.agg #[(tupS (vl11 19).1)], .int .i64 (cpE Lc (M.getD i1 z3).1.me.1 (M.getD i2 z3).1.me.1)])] (hs9.trans h.size) (hd9.trans h.defers) (holds_lk ⟨e89, trivial⟩)
          replace s : St w ((.grp kc (fun w9 => RdO w9 vm M → RdO w9 vc Lc)) :: .blk b10 (.cells (#[vc]) 24) :: .blk b8 (.cells (mbArr (ownL (memL M) x)) 39) :: .sl vm 46 68 M.length (n3Cells M) :: .blk b4 (.cells (idArr x) 26) :: .blk b3 (.cells (#[vm]) 24) :: E9) _ := s
          refine s_pure h (ru_move (h.ev rfl)) rfl ?_; intro f h
          exact s_nil ⟨(_, default), oc_out 69 rfl (h.holds 69 _ rfl), rfl, s⟩
        · intro f9 w2 vl11 E9 hs9 hd9 hl hF s
          have e69 : f9.tmps.getD 69 undef = .tuple #[.agg #[(tupS (vl11 19).1)], .int .i64 (cpE Lc (M.getD i1 z3).1.me.1 (M.getD i2 z3).1.me.1)] := (og_get hl 69 20 (by kernel_rfl) (by kernel_rfl)).trans (hF 20 (by decide))
          have h := fin_slot [(69, .tuple #[.agg #[(tupS (vl11 19).1)], .int .i64 (cpE Lc (M.getD i1 z3).1.me.1 (M.getD i2 z3).1.me.1)])] (hs9.trans h.size) (hd9.trans h.defers) (holds_lk ⟨e69, trivial⟩)
          replace s : St w ((.grp kc (fun w9 => RdO w9 vm M → RdO w9 vc Lc)) :: .blk b10 (.cells (#[vc]) 24) :: .blk b8 (.cells (mbArr (ownL (memL M) x)) 39) :: .sl vm 46 68 M.length (n3Cells M) :: .blk b4 (.cells (idArr x) 26) :: .blk b3 (.cells (#[vm]) 24) :: E9) _ := s
          refine s_pure h (ru_extract (h.ev rfl) rfl) rfl ?_; intro f h
          exact s_nil ⟨(_, default), oc_out 90 rfl (h.holds 90 _ rfl), rfl, s⟩
        · intro f9 w2 vl11 E9 hs9 hd9 hl hF s
          have e69 : f9.tmps.getD 69 undef = .tuple #[.agg #[(tupS (vl11 19).1)], .int .i64 (cpE Lc (M.getD i1 z3).1.me.1 (M.getD i2 z3).1.me.1)] := (og_get hl 69 20 (by kernel_rfl) (by kernel_rfl)).trans (hF 20 (by decide))
          have h := fin_slot [(69, .tuple #[.agg #[(tupS (vl11 19).1)], .int .i64 (cpE Lc (M.getD i1 z3).1.me.1 (M.getD i2 z3).1.me.1)])] (hs9.trans h.size) (hd9.trans h.defers) (holds_lk ⟨e69, trivial⟩)
          replace s : St w ((.grp kc (fun w9 => RdO w9 vm M → RdO w9 vc Lc)) :: .blk b10 (.cells (#[vc]) 24) :: .blk b8 (.cells (mbArr (ownL (memL M) x)) 39) :: .sl vm 46 68 M.length (n3Cells M) :: .blk b4 (.cells (idArr x) 26) :: .blk b3 (.cells (#[vm]) 24) :: E9) _ := s
          refine s_pure h (ru_extract (h.ev rfl) rfl) rfl ?_; intro f h
          exact s_nil ⟨(_, default), oc_out 91 rfl (h.holds 91 _ rfl), rfl, s⟩
        · intro f9 w2 vl11 E9 hs9 hd9 hl hF s
          have h := fin_slot [] (hs9.trans h.size) (hd9.trans h.defers) (holds_lk trivial)
          replace s : St w ((.grp kc (fun w9 => RdO w9 vm M → RdO w9 vc Lc)) :: .blk b10 (.cells (#[vc]) 24) :: .blk b8 (.cells (mbArr (ownL (memL M) x)) 39) :: .sl vm 46 68 M.length (n3Cells M) :: .blk b4 (.cells (idArr x) 26) :: .blk b3 (.cells (#[vm]) 24) :: E9) _ := s
          refine s_alloc (#[nilV]) h s zero24 rfl rfl ?_; intro f w1 b13 h s
          exact s_nil ⟨(_, default), oc_out 13 rfl (h.holds 13 _ rfl), ⟨_, rfl⟩, s⟩
        · intro f9 w2 vl11 E9 hs9 hd9 hl hF s
          obtain ⟨b13, hb13⟩ : ∃ b, (vl11 23).1 = .pointer (some ⟨b, 0, none⟩) := hF 23 (by decide)
          have e13 : f9.tmps.getD 13 undef = .pointer (some ⟨b13, 0, none⟩) := (og_get hl 13 23 (by kernel_rfl) (by kernel_rfl)).trans hb13
          have e90 : f9.tmps.getD 90 undef = .agg #[(tupS (vl11 19).1)] := (og_get hl 90 21 (by kernel_rfl) (by kernel_rfl)).trans (hF 21 (by decide))
          have h := fin_slot [(13, .pointer (some ⟨b13, 0, none⟩)), (90, .agg #[(tupS (vl11 19).1)])] (hs9.trans h.size) (hd9.trans h.defers) (holds_lk ⟨e13, e90, trivial⟩)
          replace s : St w (.blk (pbk (vl11 23).1) (.cells (#[nilV]) 24) :: (.grp kc (fun w9 => RdO w9 vm M → RdO w9 vc Lc)) :: .blk b10 (.cells (#[vc]) 24) :: .blk b8 (.cells (mbArr (ownL (memL M) x)) 39) :: .sl vm 46 68 M.length (n3Cells M) :: .blk b4 (.cells (idArr x) 26) :: .blk b3 (.cells (#[vm]) 24) :: E9) _ := s
          rw [hb13] at s
          replace s : St w (.blk b13 (.cells (#[nilV]) 24) :: (.grp kc (fun w9 => RdO w9 vm M → RdO w9 vc Lc)) :: .blk b10 (.cells (#[vc]) 24) :: .blk b8 (.cells (mbArr (ownL (memL M) x)) 39) :: .sl vm 46 68 M.length (n3Cells M) :: .blk b4 (.cells (idArr x) 26) :: .blk b3 (.cells (#[vm]) 24) :: E9) _ := s
          refine s_store_row 0 h s row24 rfl rfl rfl (rfl) (rfl) (ov_ones (tupS_one _)) ?_; intro w1 s
          refine s_nil ⟨(undef, default), oc_none rfl, trivial, ?_⟩
          have z := s
          rw [← show pbk (vl11 23).1 = b13 from by rw [hb13]; rfl] at z
          exact z
        · intro f9 w2 vl11 E9 hs9 hd9 hl hF s
          have e91 : f9.tmps.getD 91 undef = .int .i64 (cpE Lc (M.getD i1 z3).1.me.1 (M.getD i2 z3).1.me.1) := (og_get hl 91 22 (by kernel_rfl) (by kernel_rfl)).trans (hF 22 (by decide))
          have h := fin_slot [(91, .int .i64 (cpE Lc (M.getD i1 z3).1.me.1 (M.getD i2 z3).1.me.1))] (hs9.trans h.size) (hd9.trans h.defers) (holds_lk ⟨e91, trivial⟩)
          replace s : St w ((.grp kc (fun w9 => RdO w9 vm M → RdO w9 vc Lc)) :: .blk b10 (.cells (#[vc]) 24) :: .blk b8 (.cells (mbArr (ownL (memL M) x)) 39) :: .sl vm 46 68 M.length (n3Cells M) :: .blk b4 (.cells (idArr x) 26) :: .blk b3 (.cells (#[vm]) 24) :: E9) _ := s
          refine s_pure h (ru_assign (h.ev rfl)) rfl ?_; intro f h
          exact s_nil ⟨(_, default), oc_out 14 rfl (h.holds 14 _ rfl), rfl, s⟩
        intro f w1 vl11 hs9 hd9 hv hr hF s
        obtain ⟨b13, hb13⟩ : ∃ b, (vl11 23).1 = .pointer (some ⟨b, 0, none⟩) := hF 23 (by kernel_rfl)
        replace h := oc_sl (ops := _) [(70, .agg (#[vc])), (71, .pointer (some ⟨b3, 0, none⟩)), (72, vm), (73, .int .i64 y9), (74, .int .i64 (M.length : Int)), (75, .int .i64 (i1 : Int)), (76, .pointer (some (elAddr vm (i1 * 68)))), (77, .pointer (some (elAddr vm (i1 * 68 + 0)))), (78, .pointer (some (elAddr vm (i1 * 68 + 0 + 0)))), (79, .int .i64 (M.getD i1 z3).1.me.1), (80, .pointer (some ⟨b3, 0, none⟩)), (81, vm), (82, .int .i64 y9), (83, .int .i64 (M.length : Int)), (84, .int .i64 (i2 : Int)), (85, .pointer (some (elAddr vm (i2 * 68)))), (86, .pointer (some (elAddr vm (i2 * 68 + 0)))), (87, .pointer (some (elAddr vm (i2 * 68 + 0 + 0)))), (88, .int .i64 (M.getD i2 z3).1.me.1), (89, .tuple #[.agg #[(tupS (vl11 19).1)], .int .i64 (cpE Lc (M.getD i1 z3).1.me.1 (M.getD i2 z3).1.me.1)]), (69, .tuple #[.agg #[(tupS (vl11 19).1)], .int .i64 (cpE Lc (M.getD i1 z3).1.me.1 (M.getD i2 z3).1.me.1)]), (90, .agg #[(tupS (vl11 19).1)]), (91, .int .i64 (cpE Lc (M.getD i1 z3).1.me.1 (M.getD i2 z3).1.me.1)), (13, .pointer (some ⟨b13, 0, none⟩)), (14, .int .i64 (cpE Lc (M.getD i1 z3).1.me.1 (M.getD i2 z3).1.me.1))] h hs9 hd9 hr ⟨(hv 0 70 rfl).trans (hF 0 (by kernel_rfl)), (hv 1 71 rfl).trans (hF 1 (by kernel_rfl)), (hv 2 72 rfl).trans (hF 2 (by kernel_rfl)), (hv 3 73 rfl).trans (hF 3 (by kernel_rfl)), (hv 4 74 rfl).trans (hF 4 (by kernel_rfl)), (hv 5 75 rfl).trans (hF 5 (by kernel_rfl)), (hv 6 76 rfl).trans (hF 6 (by kernel_rfl)), (hv 7 77 rfl).trans (hF 7 (by kernel_rfl)), (hv 8 78 rfl).trans (hF 8 (by kernel_rfl)), (hv 9 79 rfl).trans (hF 9 (by kernel_rfl)), (hv 10 80 rfl).trans (hF 10 (by kernel_rfl)), (hv 11 81 rfl).trans (hF 11 (by kernel_rfl)), (hv 12 82 rfl).trans (hF 12 (by kernel_rfl)), (hv 13 83 rfl).trans (hF 13 (by kernel_rfl)), (hv 14 84 rfl).trans (hF 14 (by kernel_rfl)), (hv 15 85 rfl).trans (hF 15 (by kernel_rfl)), (hv 16 86 rfl).trans (hF 16 (by kernel_rfl)), (hv 17 87 rfl).trans (hF 17 (by kernel_rfl)), (hv 18 88 rfl).trans (hF 18 (by kernel_rfl)), (hv 19 89 rfl).trans (hF 19 (by kernel_rfl)), (hv 20 69 rfl).trans (hF 20 (by kernel_rfl)), (hv 21 90 rfl).trans (hF 21 (by kernel_rfl)), (hv 22 91 rfl).trans (hF 22 (by kernel_rfl)), (hv 23 13 rfl).trans hb13, (hv 25 14 rfl).trans (hF 25 (by kernel_rfl)), trivial⟩ (by kernel_rfl)
        replace s : St w [.grp (vl11 19).2.1 (fun w9 => nds (vl11 19).2.2 = (cpN Lc (M.getD i1 z3).1.me.1 (M.getD i2 z3).1.me.1) ∧ (RdO w9 vc Lc → RdO w9 (tupS (vl11 19).1) (vl11 19).2.2)), .blk (pbk (vl11 23).1) (.cells (#[(tupS (vl11 19).1)]) 24), (.grp kc (fun w9 => RdO w9 vm M → RdO w9 vc Lc)), .blk b10 (.cells (#[vc]) 24), .blk b8 (.cells (mbArr (ownL (memL M) x)) 39), .sl vm 46 68 M.length (n3Cells M), .blk b4 (.cells (idArr x) 26), .blk b3 (.cells (#[vm]) 24)] _ := s
        rw [hb13] at s
        replace s : St w [.grp (vl11 19).2.1 (fun w9 => nds (vl11 19).2.2 = (cpN Lc (M.getD i1 z3).1.me.1 (M.getD i2 z3).1.me.1) ∧ (RdO w9 vc Lc → RdO w9 (tupS (vl11 19).1) (vl11 19).2.2)), .blk b13 (.cells (#[(tupS (vl11 19).1)]) 24), (.grp kc (fun w9 => RdO w9 vm M → RdO w9 vc Lc)), .blk b10 (.cells (#[vc]) 24), .blk b8 (.cells (mbArr (ownL (memL M) x)) 39), .sl vm 46 68 M.length (n3Cells M), .blk b4 (.cells (idArr x) 26), .blk b3 (.cells (#[vm]) 24)] _ := s
        refine hK16 _ _ ?_
        refine c_seq fun K17 hK17 => ?_
        refine c_region ?_
        refine s_pure h (ru_move (h.ev rfl)) rfl ?_; intro f h
        refine s_pure h (ru_eql (h.ev rfl) (h.ev rfl)) rfl ?_; intro f h
        refine s_nil ?_
        refine hK17 _ _ ?_
        refine c_cond h rfl (fun hc => ?_) (fun hc => ?_)
        · refine c_region ?_
          refine s_load_row 1 h s row24 rfl rfl (rfl) rfl ?_; intro f h
          refine s_store_row 3 h s row24 rfl rfl rfl (rfl) (rfl) (ov_ones (tupS_one _)) ?_; intro w1 s
          have hnd := (s.getG 0 rfl).1
          replace s := s.sel [0, 2, 1, 3, 4, 5, 6, 7] rfl (by decide)
          replace s := s.merge (S := fun w9 => RdO w9 vm M → RdO w9 (tupS (vl11 19).1) (vl11 19).2.2) (fun w9 h1 h2 hR => h1.2 (h2 hR))
          have hz9 : (cpE Lc (M.getD i1 z3).1.me.1 (M.getD i2 z3).1.me.1) = 0 := by simpa using hc
          have hps9 := point_stab hp1 hz9 hnd
          refine s_nil ?_
          refine b_norm ?_
          refine hK13 _ _ ?_
          refine c_region ?_
          refine s_pure h (ru_add (h.ev rfl) (h.ev rfl) (by omega)) rfl ?_; intro f h
          refine s_pure h (ru_move (h.ev rfl)) rfl ?_; intro f h
          refine s_nil ?_
          refine t_norm ?_
          exact ⟨_, by omega, ⟨k + 1, (tupS (vl11 19).1), (vl11 19).2.2, (vl11 19).2.1 ++ kc, h.only ⟨rfl, rfl, rfl, rfl, rfl, rfl, rfl, rfl, rfl, rfl, rfl, rfl, rfl, rfl, slot_int rfl (by omega), trivial⟩, St.as (s.pick _ (List.Sublist.cons_cons _ (List.Sublist.cons _ (List.Sublist.cons_cons _ (List.Sublist.cons_cons _ (List.Sublist.cons_cons _ (List.Sublist.cons_cons _ (List.Sublist.cons_cons _ (List.nil_sublist _))))))))) ⟨rfl, rfl, rfl, rfl, rfl, rfl, trivial⟩, rfl, by omega, hps9.1, hps9.2.trans hp2⟩⟩
        · refine wpIn_skip ?_
          refine b_norm ?_
          refine hK13 _ _ ?_
          refine c_region ?_
          refine s_pure h (ru_add (h.ev rfl) (h.ev rfl) (by omega)) rfl ?_; intro f h
          refine s_pure h (ru_move (h.ev rfl)) rfl ?_; intro f h
          refine s_nil ?_
          refine t_norm ?_
          exact ⟨_, by omega, ⟨k + 1, vc, Lc, kc, h.only ⟨rfl, rfl, rfl, rfl, rfl, rfl, rfl, rfl, rfl, rfl, rfl, rfl, rfl, rfl, slot_int rfl (by omega), trivial⟩, St.as (s.pick _ (List.Sublist.cons _ (List.Sublist.cons _ (List.Sublist.cons_cons _ (List.Sublist.cons_cons _ (List.Sublist.cons_cons _ (List.Sublist.cons_cons _ (List.Sublist.cons_cons _ (List.Sublist.cons_cons _ (List.nil_sublist _)))))))))) ⟨rfl, rfl, rfl, rfl, rfl, rfl, trivial⟩, rfl, by omega, hp1, hp2⟩⟩
      · replace hc := of_decide_eq_false hc
        refine wpIn_exit ?_
        refine t_exit ?_
        refine t_exit ?_
        refine b_exit ?_
        refine hK9 _ _ ?_
        refine c_seq fun K18 hK18 => ?_
        refine c_seq fun K19 hK19 => ?_
        refine c_region ?_
        have hLk := (rk_of (stab_ov hp1)).rs
        have hLcb := hLk.rb
        have hLcl : Lc.length = M.length := by have h9 := congrArg List.length hp2; simpa [memL] using h9
        refine s_pure h (ru_move (h.ev rfl)) rfl ?_; intro f h
        refine s_pure h (ru_val (.bool false) (ru_neq (h.ev rfl) (h.ev rfl)) (congrArg Value.bool (rfl))) rfl ?_; intro f h
        refine s_pure h (ru_move (h.ev rfl)) rfl ?_; intro f h
        refine s_on h rfl rfl rfl ?_
        refine s_call h s fnc8 (ret_val (.bool true) (lalive_any _) (congrArg Value.bool (rfl))) rfl rfl ?_; intro f w1 v9 hT hE h s; obtain rfl := hT
        refine s_on h rfl rfl rfl ?_
        refine s_pure h (ru_val (.bool false) (ru_not (h.ev rfl)) rfl) rfl ?_; intro f h
        refine s_pure h (ru_pick_f (h.ev rfl) (h.ev rfl)) rfl ?_; intro f h
        refine s_nil ?_
        refine hK19 _ _ ?_
        refine wpIn_cond_false (h.ev rfl) ?_
        refine wpIn_skip ?_
        refine hK18 _ _ ?_
        refine c_seq fun K20 hK20 => ?_
        refine c_seq fun K21 hK21 => ?_
        refine c_region ?_
        refine s_pure h (ru_field fld24_0 (h.ev rfl)) rfl ?_; intro f h
        refine s_load_at1 (V := vm) (cell_of_has (Has.of_own s 5 rfl) 0 rfl) h one22 rfl rfl ?_; intro f h
        refine s_len_sl 3 h s Tryz.underlying22 rfl rfl rfl ?_; intro f h
        refine s_pure h (ru_move (h.ev rfl)) rfl ?_; intro f h
        refine s_nil ?_
        refine hK21 _ _ ?_
        refine wpIn_block ?_
        refine wpIn_loop_ghost (fun nn aa ww => ∃ d9 : Nat, Sl 148 aa [(0, .agg #[vo]), (1, idV x), (2, qv), (3, .pointer (some ⟨b3, 0, none⟩)), (4, .pointer (some ⟨b4, 0, none⟩)), (8, .pointer (some ⟨b8, 0, none⟩)), (10, .pointer (some ⟨b10, 0, none⟩)), (30, vm), (36, vm), (40, (vl5 1)), (9, .int .i64 0), (103, vm), (104, .int .i64 (M.length : Int)), (105, .int .i64 (d9 : Int))] ∧ St w [(.grp kc (fun w9 => RdO w9 vm M → RdO w9 vc Lc)), .blk b10 (.cells (#[vc]) 24), .blk b8 (.cells (mbArr (ownL (memL M) x)) 39), .sl vm 46 68 M.length (n3Cells M), .blk b4 (.cells (idArr x) 26), .blk b3 (.cells (#[vm]) 24)] ww ∧ nn = M.length - d9 ∧ d9 ≤ M.length) (M.length - (0)) ⟨0, h.only ⟨rfl, rfl, rfl, rfl, rfl, rfl, rfl, rfl, rfl, rfl, rfl, rfl, rfl, slot_int rfl (by omega), trivial⟩, s.as ⟨rfl, rfl, rfl, rfl, rfl, rfl, trivial⟩, rfl, Nat.zero_le _⟩ ?_
        rintro _ f w1 ⟨d9, h, s, hnn, hp0⟩
        refine c_seq fun K22 hK22 => ?_
        refine c_region ?_
        refine s_pure h (ru_lss (h.ev rfl) (h.ev rfl)) rfl ?_; intro f h
        refine s_nil ?_
        refine hK22 _ _ ?_
        refine c_seq fun K23 hK23 => ?_
        refine c_cond h rfl (fun hc => ?_) (fun hc => ?_)
        · replace hc := of_decide_eq_true hc
          refine wpIn_skip ?_
          refine hK23 _ _ ?_
          refine c_seq fun K24 hK24 => ?_
          refine wpIn_block ?_
          refine c_seq fun K25 hK25 => ?_
          refine c_region ?_
          have hdl : d9 < M.length := by omega
          refine s_pure h (ru_ixz (RdZ.of_own (s.getSl 3 rfl)) (d9) Tryz.underlying22 szo46 (h.ev rfl) (h.ev rfl) (by omega) (by omega)) rfl ?_; intro f h
          refine s_load_at ((RdZ.of_own (s.getSl 3 rfl)).el (d9) (by omega) (by decide) (D := ndArr (M.getD d9 z3).1.me (M.getD d9 z3).1.pr (M.getD d9 z3).2.1 (M.getD d9 z3).2.2) (n3_el M d9 hdl)) h row46 rfl (ndArr_size _ _ _ _) rfl ?_; intro f h
          refine s_alloc (ndArr zMb zMb nilV nilV) h s zero46 rfl rfl ?_; intro f w1 b16 h s
          refine s_store_row 0 h s row46 rfl rfl rfl (ndArr_size _ _ _ _) (ndArr_size _ _ _ _) (ndArr_ones (rd_one (((⟨RdZ.of_own (s.getSl 4 rfl), fun y hy => (hMr y hy).keep s.ext⟩ : RdO _ vm M).2 _ (n3_mem hdl)).1)) (rd_one (((⟨RdZ.of_own (s.getSl 4 rfl), fun y hy => (hMr y hy).keep s.ext⟩ : RdO _ vm M).2 _ (n3_mem hdl)).2))) ?_; intro w1 s
          refine s_nil ?_
          refine hK25 _ _ ?_
          refine c_seq fun K26 hK26 => ?_
          refine c_region ?_
          refine s_load_row 2 h s row24 rfl rfl (rfl) rfl ?_; intro f h
          refine s_pure h (ru_field fld46_0 (h.ev rfl)) rfl ?_; intro f h
          refine s_pure h (ru_field fld39_0 (h.ev rfl)) rfl ?_; intro f h
          refine s_load_at1 (cell_of_has (Has.of_own s 0 rfl) 0 (ndArr_no _ _ _ _)) h one3 rfl rfl ?_; intro f h
          refine s_load_row 5 h s row26 rfl rfl (by first | exact idArr_size _ | exact bytesF_size _ _) rfl ?_; intro f h
          refine s_call h s fnc15 (cwalk_any Lc vc x (M.getD d9 z3).1.me.1 16 _ ((s.getG 1 rfl) (⟨RdZ.of_own (s.getSl 4 rfl), fun y hy => (hMr y hy).keep s.ext⟩ : RdO _ vm M)) (by omega) hLcb) rfl rfl ?_; rintro f w1 v115 ⟨vp, kp, rfl, hG⟩ hE h sq; replace s := s.add hG; clear hG
          obtain ⟨e1, e2, _⟩ := stab_finds hp1 x (m := (M.getD d9 z3).1.me) (by rw [hp2]; exact me_mem hdl)
          rw [hp2] at e2
          refine s_pure h (ru_move (h.ev rfl)) rfl ?_; intro f h
          refine s_pure h (ru_extract (h.ev rfl) rfl) rfl ?_; intro f h
          refine s_pure h (ru_extract (h.ev rfl) rfl) rfl ?_; intro f h
          refine s_pure h (ru_extract (h.ev rfl) rfl) rfl ?_; intro f h
          refine s_alloc (mbArr zMb) h s zero39 rfl rfl ?_; intro f w1 b18 h s
          refine s_pure h (ru_assign (h.ev rfl)) rfl ?_; intro f h
          refine s_store_row 0 h s row39 rfl rfl rfl (mbArr_size _) (mbArr_size _) (mbArr_ones _) ?_; intro w1 s
          refine s_pure h (ru_assign (h.ev rfl)) rfl ?_; intro f h
          refine s_nil ?_
          refine hK26 _ _ ?_
          refine c_seq fun K27 hK27 => ?_
          refine c_region ?_
          refine s_pure h (ru_move (h.ev rfl)) rfl ?_; intro f h
          refine s_pure h (ru_val (.bool false) (ru_neq (h.ev rfl) (h.ev rfl)) (congrArg Value.bool (by rw [e1]; rfl))) rfl ?_; intro f h
          refine s_pure h (ru_move (h.ev rfl)) rfl ?_; intro f h
          refine s_on h rfl rfl rfl ?_
          refine s_load_row 0 h s row39 rfl rfl (mbArr_size _) rfl ?_; intro f h
          refine s_on h rfl rfl rfl ?_
          refine s_load_row 5 h s row39 rfl rfl (mbArr_size _) rfl ?_; intro f h
          refine s_on h rfl rfl rfl ?_
          refine s_pure h (ru_val (.bool false) (ru_neqW (eqM _ _) (by kernel_rfl) (by decide) (h.ev rfl) (h.ev rfl) (decide (wkM Lc x (M.getD d9 z3).1.me.1 16 = (ownL (memL M) x))) (mbEq _ _)) (congrArg Value.bool (by rw [e2]; simp))) rfl ?_; intro f h
          refine s_pure h (ru_pick_f (h.ev rfl) (h.ev rfl)) rfl ?_; intro f h
          refine s_nil ?_
          refine hK27 _ _ ?_
          refine wpIn_cond_false (h.ev rfl) ?_
          refine wpIn_skip ?_
          refine b_norm ?_
          refine hK24 _ _ ?_
          refine c_region ?_
          refine s_pure h (ru_add (h.ev rfl) (h.ev rfl) (by omega)) rfl ?_; intro f h
          refine s_pure h (ru_move (h.ev rfl)) rfl ?_; intro f h
          refine s_nil ?_
          refine t_norm ?_
          exact ⟨_, by omega, ⟨d9 + 1, h.only ⟨rfl, rfl, rfl, rfl, rfl, rfl, rfl, rfl, rfl, rfl, rfl, rfl, rfl, slot_int rfl (by omega), trivial⟩, St.as (s.pick _ (List.sublist_append_right [_, _, _] _)) ⟨rfl, rfl, rfl, rfl, rfl, rfl, trivial⟩, rfl, by omega⟩⟩
        · replace hc := of_decide_eq_false hc
          refine wpIn_exit ?_
          refine t_exit ?_
          refine t_exit ?_
          refine b_exit ?_
          refine hK20 _ _ ?_
          refine c_seq fun K28 hK28 => ?_
          refine c_region ?_
          refine s_load_row 1 h s row24 rfl rfl (rfl) rfl ?_; intro f h
          refine s_pure h (ru_field fld39_0 (h.ev rfl)) rfl ?_; intro f h
          refine s_load_at1 (cell_of_has (Has.of_own s 2 rfl) 0 (mbArr_no _)) h one3 rfl rfl ?_; intro f h
          refine s_load_row 4 h s row26 rfl rfl (by first | exact idArr_size _ | exact bytesF_size _ _) rfl ?_; intro f h
          refine s_call h s fnc15 (cwalk_any Lc vc x (ownL (memL M) x).1 0 _ ((s.getG 0 rfl) (⟨RdZ.of_own (s.getSl 3 rfl), fun y hy => (hMr y hy).keep s.ext⟩ : RdO _ vm M)) (by omega) hLcb) rfl rfl ?_; rintro f w1 v132 ⟨vq, kq, rfl, hG⟩ hE h sq; replace s := s.add hG; clear hG
          have hw0 := stab_own hp1 x (by omega)
          rw [hp2] at hw0
          refine s_pure h (ru_move (h.ev rfl)) rfl ?_; intro f h
          refine s_pure h (ru_extract (h.ev rfl) rfl) rfl ?_; intro f h
          refine s_pure h (ru_extract (h.ev rfl) rfl) rfl ?_; intro f h
          refine s_pure h (ru_extract (h.ev rfl) rfl) rfl ?_; intro f h
          refine s_alloc (mbArr zMb) h s zero39 rfl rfl ?_; intro f w1 b21 h s
          refine s_pure h (ru_assign (h.ev rfl)) rfl ?_; intro f h
          refine s_store_row 0 h s row39 rfl rfl rfl (mbArr_size _) (mbArr_size _) (mbArr_ones _) ?_; intro w1 s
          refine s_pure h (ru_assign (h.ev rfl)) rfl ?_; intro f h
          refine s_nil ?_
          refine hK28 _ _ ?_
          refine c_seq fun K29 hK29 => ?_
          refine c_region ?_
          refine s_pure h (ru_move (h.ev rfl)) rfl ?_; intro f h
          refine s_pure h (ru_val (.bool true) (ru_eql (h.ev rfl) (h.ev rfl)) (congrArg Value.bool (by rw [hw0.1]; rfl))) rfl ?_; intro f h
          refine s_pure h (ru_move (h.ev rfl)) rfl ?_; intro f h
          refine s_on h rfl rfl rfl ?_
          refine s_load_row 0 h s row39 rfl rfl (mbArr_size _) rfl ?_; intro f h
          refine s_on h rfl rfl rfl ?_
          refine s_load_row 4 h s row39 rfl rfl (mbArr_size _) rfl ?_; intro f h
          refine s_on h rfl rfl rfl ?_
          refine s_pure h (ru_val (.bool true) (ru_eqlW (eqM _ _) (by kernel_rfl) (by decide) (h.ev rfl) (h.ev rfl) (decide (wkM Lc x (ownL (memL M) x).1 0 = (ownL (memL M) x))) (mbEq _ _)) (congrArg Value.bool (by rw [hw0.2.1]; simp))) rfl ?_; intro f h
          refine s_pure h (ru_pick_t (h.ev rfl) (h.ev rfl)) rfl ?_; intro f h
          refine s_pure h (ru_move (h.ev rfl)) rfl ?_; intro f h
          refine s_on h rfl rfl rfl ?_
          refine s_pure h (ru_move (h.ev rfl)) rfl ?_; intro f h
          refine s_on h rfl rfl rfl ?_
          refine s_pure h (ru_lenZ ((s.getG 1 rfl)) Tryz.underlying37 (h.ev rfl)) rfl ?_; intro f h
          refine s_on h rfl rfl rfl ?_
          refine s_pure h (ru_val (.bool true) (ru_eql (h.ev rfl) (h.ev rfl)) (congrArg Value.bool (by rw [hw0.2.2]; rfl))) rfl ?_; intro f h
          refine s_pure h (ru_pick_t (h.ev rfl) (h.ev rfl)) rfl ?_; intro f h
          refine s_pure h (ru_assign (h.ev rfl)) rfl ?_; intro f h
          refine s_nil ?_
          refine hK29 _ _ ?_
          refine wpIn_ret ?_
          exact e_tmp rfl h s rfl (rfl)
    · skip
      refine c_region ?_
      refine s_load_row 2 h s row24 rfl rfl (rfl) rfl ?_; intro f h
      refine s_call h s fnc11 (ret_val (.bool true) (cstable_any M vm _ (⟨RdZ.of_own (s.getSl 0 rfl), fun y hy => (hMr y hy).keep s.ext⟩ : RdO _ vm M) hM40 hMb) (congrArg Value.bool s0)) rfl rfl ?_; intro f w1 v9 hT hE h s; obtain rfl := hT
      refine s_pure h (ru_val (.bool false) (ru_not (h.ev rfl)) rfl) rfl ?_; intro f h
      refine s_pure h (ru_move (h.ev rfl)) rfl ?_; intro f h
      refine s_on h rfl rfl rfl ?_
      refine s_pure h (ru_field fld24_0 (h.ev rfl)) rfl ?_; intro f h
      refine s_on h rfl rfl rfl ?_
      refine s_load_at1 (V := vm) (cell_of_has (Has.of_own s 2 rfl) 0 rfl) h one22 rfl rfl ?_; intro f h
      refine s_on h rfl rfl rfl ?_
      refine s_len_sl 0 h s Tryz.underlying22 rfl rfl rfl ?_; intro f h
      refine s_on h rfl rfl rfl ?_
      refine s_pure h (ru_val (.bool true) (ru_eql (h.ev rfl) (h.ev rfl)) (congrArg Value.bool (decide_eq_true (by have := of_decide_eq_true z0; omega)))) rfl ?_; intro f h
      refine s_pure h (ru_pick_f (h.ev rfl) (h.ev rfl)) rfl ?_; intro f h
      refine s_nil ?_
      refine hK4 _ _ ?_
      refine wpIn_cond_true (h.ev rfl) ?_
      refine c_seq fun K30 hK30 => ?_
      refine c_region ?_
      refine s_call h s fnc8 (ret_val (.bool true) (lalive_any _) (congrArg Value.bool (rfl))) rfl rfl ?_; intro f w1 v9 hT hE h s; obtain rfl := hT
      refine s_pure h (ru_assign (h.ev rfl)) rfl ?_; intro f h
      refine s_nil ?_
      refine hK30 _ _ ?_
      refine wpIn_ret ?_
      refine t_ret ?_
      exact e_tmp rfl h s rfl (rfl)
end Go.Proofs.YtndbijifgalpbaaGreat
