/- The likest, by the reference. -/
import Derived.Test.YtliknbdambmmaaaVb
set_option linter.unusedVariables false
set_option linter.unusedSimpArgs false
set_option linter.unusedSectionVars false
namespace Go.Proofs.Ytliknbdambmmaaa
open Go.RowKit
set_option maxHeartbeats 1000000 in
theorem rmatcht_any (l : List Tg) (vh : Value) (x : Id) (w : World) (hR : RdZ w vh 67 l.length (tgCells l)) (hln : l.length ≤ 1000) : Calls Try.prog 24 [vh, idV x].toArray w (Ret w (fun v w' => Owns w' w.heap.size 28 67 v (mtF l x).length (tgCells (mtF l x)))) := by
  refine c_enter Try.func24 rfl Try.ntmps24 rfl [(0, vh), (1, idV x)] (by simp) fun f h => ?_
  have s := St.start w
  refine c_seq fun K1 hK1 => ?_
  refine c_region ?_
  refine s_box (idArr x) h s rfl rfl rfl ?_; intro f w1 b3 h s
  refine s_pure h (ru_assign (h.ev rfl)) rfl ?_; intro f h
  refine s_nil ?_
  refine hK1 _ _ ?_
  refine c_seq fun K2 hK2 => ?_
  refine c_region ?_
  refine s_bslice (vs := []) [] h s Try.underlying22 elm28 rfl rfl (by simp) rfl rfl rfl ?_; intro f w1 v9 h s
  replace s := s.resl (m := ([] : List Tg).length) (ys := tgCells ([] : List Tg)) 0 rfl (rfl) (rfl)
  refine s_pure h (ru_assign (h.ev rfl)) rfl ?_; intro f h
  refine s_nil ?_
  refine hK2 _ _ ?_
  refine c_seq fun K3 hK3 => ?_
  refine c_seq fun K4 hK4 => ?_
  refine c_region ?_
  refine s_pure h (ru_assign (h.ev rfl)) rfl ?_; intro f h
  refine s_nil ?_
  refine hK4 _ _ ?_
  refine wpIn_block ?_
  refine wpIn_loop_ghost (fun nn aa ww => ∃ j : Nat, ∃ vb : Value, Sl 50 aa [(1, idV x), (3, .pointer (some ⟨b3, 0, none⟩)), (0, vh), (5, vb), (6, .int .i64 (((127 + j) : Nat) : Int))] ∧ St w [.sl vb 28 67 ([] : List Tg).length (tgCells []), .blk b3 (.cells (idArr x) 24)] ww ∧ nn = j ∧ j ≤ 129 ∧ ∀ i, j ≤ i → i < 129 → mtK l x (128 + i) = []) ((129)) ⟨129, v9, h.only ⟨rfl, rfl, rfl, rfl, rfl, trivial⟩, s.as ⟨rfl, rfl, trivial⟩, rfl, Nat.le_refl _, fun i h1 h2 => absurd h2 (by omega)⟩ ?_
  rintro _ f w1 ⟨j, vb, h, s, hnn, hp0, hp1⟩
  refine c_seq fun K5 hK5 => ?_
  refine c_seq fun K6 hK6 => ?_
  refine c_region ?_
  refine s_pure h (ru_move (h.ev rfl)) rfl ?_; intro f h
  refine s_pure h (ru_geq (h.ev rfl) (h.ev rfl)) rfl ?_; intro f h
  refine s_nil ?_
  refine hK6 _ _ ?_
  refine c_cond h rfl (fun hc => ?_) (fun hc => ?_)
  · replace hc := of_decide_eq_true hc
    refine wpIn_skip ?_
    refine hK5 _ _ ?_
    refine c_seq fun K7 hK7 => ?_
    refine wpIn_block ?_
    refine c_seq fun K8 hK8 => ?_
    refine c_seq fun K9 hK9 => ?_
    refine c_region ?_
    have hj1 : 1 ≤ j := by omega
    have hj0 := hp0
    have hjA := hp1
    refine s_pure h (ru_move (h.ev rfl)) rfl ?_; intro f h
    refine s_pure h (ru_lenZ (hR.keep s.ext) Try.underlying22 (h.ev rfl)) rfl ?_; intro f h
    refine s_pure h (ru_move (h.ev rfl)) rfl ?_; intro f h
    refine s_nil ?_
    refine hK9 _ _ ?_
    refine wpIn_block ?_
    refine wpIn_loop_ghost (fun nn aa ww => ∃ k : Nat, ∃ vc : Value, Sl 50 aa [(1, idV x), (3, .pointer (some ⟨b3, 0, none⟩)), (0, vh), (5, vc), (6, .int .i64 (((127 + j) : Nat) : Int)), (14, vh), (15, .int .i64 (l.length : Int)), (16, .int .i64 (k : Int))] ∧ St w [.sl vc 28 67 (mtK (l.take k) x (127 + j)).length (tgCells (mtK (l.take k) x (127 + j))), .blk b3 (.cells (idArr x) 24)] ww ∧ nn = l.length - k ∧ k ≤ l.length) (l.length - (0)) ⟨0, vb, h.only ⟨rfl, rfl, rfl, rfl, rfl, rfl, rfl, slot_int rfl (by omega), trivial⟩, s.as ⟨rfl, rfl, trivial⟩, rfl, Nat.zero_le _⟩ ?_
    rintro _ f w1 ⟨k, vc, h, s, hnn, hp0⟩
    refine c_seq fun K10 hK10 => ?_
    refine c_region ?_
    refine s_pure h (ru_lss (h.ev rfl) (h.ev rfl)) rfl ?_; intro f h
    refine s_nil ?_
    refine hK10 _ _ ?_
    refine c_seq fun K11 hK11 => ?_
    refine c_cond h rfl (fun hc => ?_) (fun hc => ?_)
    · replace hc := of_decide_eq_true hc
      refine wpIn_skip ?_
      refine hK11 _ _ ?_
      refine c_seq fun K12 hK12 => ?_
      refine wpIn_block ?_
      refine c_seq fun K13 hK13 => ?_
      refine c_region ?_
      have hkl : k < l.length := by omega
      refine s_pure h (ru_ixz (hR.keep s.ext) (k) Try.underlying22 szo28 (h.ev rfl) (h.ev rfl) (by omega) (by omega)) rfl ?_; intro f h
      refine s_load_at ((hR.keep s.ext).el (k) (by omega) (by decide) (D := tgArr (l.getD k zTg)) (tgr_el l k hkl)) h row28 rfl (tgArr_size _) rfl ?_; intro f h
      refine s_alloc (tgArr zTg) h s zero28 rfl rfl ?_; intro f w1 b8 h s
      refine s_store_row 0 h s row28 rfl rfl rfl (tgArr_size _) (tgArr_size _) (tgArr_ones _) ?_; intro w1 s
      refine s_nil ?_
      refine hK13 _ _ ?_
      refine c_seq fun K14 hK14 => ?_
      cases c0 : (decide (com (l.getD k zTg).1 x = (127 + j)) : Bool)
      · skip
        refine c_walkN 20 [[], [0], [], [0, 1, 2], [], [0, 1, 2, 3, 4], [0, 1, 2, 3, 4, 5], [0, 1, 2, 3, 4, 5, 6], [0, 1, 2, 3, 4, 5, 6, 7], [0, 1, 2, 3, 4, 5, 6, 7, 8], [0, 1, 2, 3, 4, 5, 6, 7, 8, 9], [0, 1, 2, 3, 4, 5, 6, 7, 8, 9, 10], [0, 1, 2, 3, 4, 5, 6, 7, 8, 9, 10, 11], [0, 1, 2, 3, 4, 5, 6, 7, 8, 9, 10, 11, 12], [0, 1, 2, 3, 4, 5, 6, 7, 8, 9, 10, 11, 12, 13], [0, 1, 2, 3, 4, 5, 6, 7, 8, 9, 10], [0, 1, 2, 3, 4, 5, 6, 7, 8, 9, 10, 15], [0, 1, 2, 3, 4, 5, 6, 7, 8, 9, 10, 11, 12, 13, 14, 15, 16], [0, 1, 2, 3, 4, 5, 6, 7, 8, 9, 10, 11, 12, 13, 14, 15, 16, 17], [0, 1, 2, 3, 4, 5, 6, 7, 8, 9, 10, 11, 12, 13, 14, 15, 16, 17, 18]] h (by kernel_rfl) (by kernel_rfl) (by kernel_rfl) ?_
        refine w_pure h (ru_field fld28_0 (h.ev rfl)) rfl ?_; intro f h
        refine w_load_at (Has.subL (Has.of_own s 0 rfl) 0 32 (D := idArr (_)) (tgArr_id _)) h row24 rfl (by first | exact idArr_size _ | exact bytesF_size _ _) rfl ?_; intro f h
        refine w_load_row 2 h s row24 rfl rfl (by first | exact idArr_size _ | exact bytesF_size _ _) rfl ?_; intro f h
        refine w_call h fnc43 (fun w9 hE9 => rcommon_any (l.getD k zTg).1 x w9) rfl rfl ?_; intro f h
        refine w_pure h (ru_move (h.ev rfl)) rfl ?_; intro f h
        refine w_pure h (ru_val (.bool false) (ru_eql (h.ev rfl) (h.ev rfl)) (congrArg Value.bool ((decide_eq_decide.2 (by omega)).trans c0))) rfl ?_; intro f h
        refine w_pure h (ru_move (h.ev rfl)) rfl ?_; intro f h
        refine w_off (b := true) h rfl rfl rfl rfl ?_; intro f h
        refine w_off (b := true) h rfl rfl rfl rfl ?_; intro f h
        refine w_off (b := true) h rfl rfl rfl rfl ?_; intro f h
        refine w_off (b := true) h rfl rfl rfl rfl ?_; intro f h
        refine w_none h rfl rfl rfl rfl ?_; intro f h
        refine w_none h rfl rfl rfl rfl ?_; intro f h
        refine w_none h rfl rfl rfl rfl ?_; intro f h
        refine w_none h rfl rfl rfl rfl ?_; intro f h
        refine w_none h rfl rfl rfl rfl ?_; intro f h
        refine w_none h rfl rfl rfl rfl ?_; intro f h
        refine w_none h rfl rfl rfl rfl ?_; intro f h
        refine w_off (b := true) h rfl rfl rfl rfl ?_; intro f h
        refine w_pure h (ru_pick_f (h.ev rfl) (h.ev rfl)) rfl ?_; intro f h
        refine w_nil s fun w1 s => ?_
        refine s_nil ?_
        refine hK14 _ _ ?_
        refine wpIn_cond_false (h.ev rfl) ?_
        refine wpIn_skip ?_
        refine b_norm ?_
        refine hK12 _ _ ?_
        refine c_region ?_
        refine s_pure h (ru_add (h.ev rfl) (h.ev rfl) (by omega)) rfl ?_; intro f h
        refine s_pure h (ru_move (h.ev rfl)) rfl ?_; intro f h
        refine s_nil ?_
        refine t_norm ?_
        exact ⟨_, by omega, ⟨k + 1, vc, h.only ⟨rfl, rfl, rfl, rfl, rfl, rfl, rfl, slot_int rfl (by omega), trivial⟩, St.as (s.pick _ (List.sublist_append_right [_] _)) ⟨sl_eq (by rw [mtk_skip hkl (of_decide_eq_false c0)]) (by rw [mtk_skip hkl (of_decide_eq_false c0)]), rfl, trivial⟩, rfl, by omega⟩⟩
      · skip
        cases c1 : (decide ((mtK (l.take k) x (127 + j)).length = 0) : Bool)
        · skip
          cases c2 : (decide (((mtK (l.take k) x (127 + j)).getD 0 zTg).1 = (l.getD k zTg).1) : Bool)
          · skip
            refine c_walkN 20 [[], [0], [], [0, 1, 2], [], [0, 1, 2, 3, 4], [0, 1, 2, 3, 4, 5], [0, 1, 2, 3, 4, 5, 6], [0, 1, 2, 3, 4, 5, 6, 7], [0, 1, 2, 3, 4, 5, 6, 7, 8], [0, 1, 2, 3, 4, 5, 6, 7, 8, 9], [0, 1, 2, 3, 4, 5, 6, 7, 8, 9, 10], [0, 1, 2, 3, 4, 5, 6, 7, 8, 9, 10, 11], [0, 1, 2, 3, 4, 5, 6, 7, 8, 9, 10, 11, 12], [0, 1, 2, 3, 4, 5, 6, 7, 8, 9, 10, 11, 12, 13], [0, 1, 2, 3, 4, 5, 6, 7, 8, 9, 10], [0, 1, 2, 3, 4, 5, 6, 7, 8, 9, 10, 15], [0, 1, 2, 3, 4, 5, 6, 7, 8, 9, 10, 11, 12, 13, 14, 15, 16], [0, 1, 2, 3, 4, 5, 6, 7, 8, 9, 10, 11, 12, 13, 14, 15, 16, 17], [0, 1, 2, 3, 4, 5, 6, 7, 8, 9, 10, 11, 12, 13, 14, 15, 16, 17, 18]] h (by kernel_rfl) (by kernel_rfl) (by kernel_rfl) ?_
            refine w_pure h (ru_field fld28_0 (h.ev rfl)) rfl ?_; intro f h
            refine w_load_at (Has.subL (Has.of_own s 0 rfl) 0 32 (D := idArr (_)) (tgArr_id _)) h row24 rfl (by first | exact idArr_size _ | exact bytesF_size _ _) rfl ?_; intro f h
            refine w_load_row 2 h s row24 rfl rfl (by first | exact idArr_size _ | exact bytesF_size _ _) rfl ?_; intro f h
            refine w_call h fnc43 (fun w9 hE9 => rcommon_any (l.getD k zTg).1 x w9) rfl rfl ?_; intro f h
            refine w_pure h (ru_move (h.ev rfl)) rfl ?_; intro f h
            refine w_pure h (ru_val (.bool true) (ru_eql (h.ev rfl) (h.ev rfl)) (congrArg Value.bool ((decide_eq_decide.2 (by omega)).trans c0))) rfl ?_; intro f h
            refine w_pure h (ru_move (h.ev rfl)) rfl ?_; intro f h
            refine w_on h rfl rfl rfl ?_
            refine w_pure h (ru_move (h.ev rfl)) rfl ?_; intro f h
            refine w_on h rfl rfl rfl ?_
            refine w_pure h (ru_lenZ (RdZ.of_own (s.getSl 1 rfl)) Try.underlying22 (h.ev rfl)) rfl ?_; intro f h
            refine w_on h rfl rfl rfl ?_
            refine w_pure h (ru_val (.bool false) (ru_eql (h.ev rfl) (h.ev rfl)) (congrArg Value.bool ((decide_eq_decide.2 (by omega)).trans c1))) rfl ?_; intro f h
            refine w_on h rfl rfl rfl ?_
            refine w_pure h (ru_move (h.ev rfl)) rfl ?_; intro f h
            refine w_on h rfl rfl rfl ?_
            have hm0 := of_decide_eq_false c1
            refine w_pure h (ru_move (h.ev rfl)) rfl ?_; intro f h
            refine w_on h rfl rfl rfl ?_
            refine w_pure h (ru_ixz (RdZ.of_own (s.getSl 1 rfl)) (0) Try.underlying22 szo28 (h.ev rfl) (h.ev rfl) (rfl) (by have := of_decide_eq_false c1; omega)) rfl ?_; intro f h
            refine w_on h rfl rfl rfl ?_
            refine w_pure h (ru_fieldE fld28_0 (h.ev rfl) ((RdZ.of_own (s.getSl 1 rfl)).some (by omega))) rfl ?_; intro f h
            refine w_on h rfl rfl rfl ?_
            refine w_load_at (RdZ.elF (RdZ.of_own (s.getSl 1 rfl)) (0) 0 32 (by omega) (by decide) (C := tgArr ((mtK (l.take k) x (127 + j)).getD 0 zTg)) (tgr_el (mtK (l.take k) x (127 + j)) 0 (by have := of_decide_eq_false c1; omega)) (D := idArr ((mtK (l.take k) x (127 + j)).getD 0 zTg).1) (tgArr_id _)) h row24 rfl (by first | exact idArr_size _ | exact bytesF_size _ _) rfl ?_; intro f h
            refine w_on h rfl rfl rfl ?_
            refine w_pure h (ru_field fld28_0 (h.ev rfl)) rfl ?_; intro f h
            refine w_on h rfl rfl rfl ?_
            refine w_load_at (Has.subL (Has.of_own s 0 rfl) 0 32 (D := idArr (_)) (tgArr_id _)) h row24 rfl (by first | exact idArr_size _ | exact bytesF_size _ _) rfl ?_; intro f h
            refine w_on h rfl rfl rfl ?_
            refine w_pure h (ru_val (.bool false) (ru_eql_id idTy (h.ev rfl) (h.ev rfl)) (congrArg Value.bool c2)) rfl ?_; intro f h
            refine w_on h rfl rfl rfl ?_
            refine w_pure h (ru_pick_f (h.ev rfl) (h.ev rfl)) rfl ?_; intro f h
            refine w_pure h (ru_pick_t (h.ev rfl) (h.ev rfl)) rfl ?_; intro f h
            refine w_nil s fun w1 s => ?_
            refine s_nil ?_
            refine hK14 _ _ ?_
            refine wpIn_cond_false (h.ev rfl) ?_
            refine wpIn_skip ?_
            refine b_norm ?_
            refine hK12 _ _ ?_
            refine c_region ?_
            refine s_pure h (ru_add (h.ev rfl) (h.ev rfl) (by omega)) rfl ?_; intro f h
            refine s_pure h (ru_move (h.ev rfl)) rfl ?_; intro f h
            refine s_nil ?_
            refine t_norm ?_
            exact ⟨_, by omega, ⟨k + 1, vc, h.only ⟨rfl, rfl, rfl, rfl, rfl, rfl, rfl, slot_int rfl (by omega), trivial⟩, St.as (s.pick _ (List.sublist_append_right [_] _)) ⟨sl_eq (by rw [mtk_n hkl (of_decide_eq_true c0) (of_decide_eq_false c1) c2]) (by rw [mtk_n hkl (of_decide_eq_true c0) (of_decide_eq_false c1) c2]), rfl, trivial⟩, rfl, by omega⟩⟩
          · skip
            refine c_walkN 20 [[], [0], [], [0, 1, 2], [], [0, 1, 2, 3, 4], [0, 1, 2, 3, 4, 5], [0, 1, 2, 3, 4, 5, 6], [0, 1, 2, 3, 4, 5, 6, 7], [0, 1, 2, 3, 4, 5, 6, 7, 8], [0, 1, 2, 3, 4, 5, 6, 7, 8, 9], [0, 1, 2, 3, 4, 5, 6, 7, 8, 9, 10], [0, 1, 2, 3, 4, 5, 6, 7, 8, 9, 10, 11], [0, 1, 2, 3, 4, 5, 6, 7, 8, 9, 10, 11, 12], [0, 1, 2, 3, 4, 5, 6, 7, 8, 9, 10, 11, 12, 13], [0, 1, 2, 3, 4, 5, 6, 7, 8, 9, 10], [0, 1, 2, 3, 4, 5, 6, 7, 8, 9, 10, 15], [0, 1, 2, 3, 4, 5, 6, 7, 8, 9, 10, 11, 12, 13, 14, 15, 16], [0, 1, 2, 3, 4, 5, 6, 7, 8, 9, 10, 11, 12, 13, 14, 15, 16, 17], [0, 1, 2, 3, 4, 5, 6, 7, 8, 9, 10, 11, 12, 13, 14, 15, 16, 17, 18]] h (by kernel_rfl) (by kernel_rfl) (by kernel_rfl) ?_
            refine w_pure h (ru_field fld28_0 (h.ev rfl)) rfl ?_; intro f h
            refine w_load_at (Has.subL (Has.of_own s 0 rfl) 0 32 (D := idArr (_)) (tgArr_id _)) h row24 rfl (by first | exact idArr_size _ | exact bytesF_size _ _) rfl ?_; intro f h
            refine w_load_row 2 h s row24 rfl rfl (by first | exact idArr_size _ | exact bytesF_size _ _) rfl ?_; intro f h
            refine w_call h fnc43 (fun w9 hE9 => rcommon_any (l.getD k zTg).1 x w9) rfl rfl ?_; intro f h
            refine w_pure h (ru_move (h.ev rfl)) rfl ?_; intro f h
            refine w_pure h (ru_val (.bool true) (ru_eql (h.ev rfl) (h.ev rfl)) (congrArg Value.bool ((decide_eq_decide.2 (by omega)).trans c0))) rfl ?_; intro f h
            refine w_pure h (ru_move (h.ev rfl)) rfl ?_; intro f h
            refine w_on h rfl rfl rfl ?_
            refine w_pure h (ru_move (h.ev rfl)) rfl ?_; intro f h
            refine w_on h rfl rfl rfl ?_
            refine w_pure h (ru_lenZ (RdZ.of_own (s.getSl 1 rfl)) Try.underlying22 (h.ev rfl)) rfl ?_; intro f h
            refine w_on h rfl rfl rfl ?_
            refine w_pure h (ru_val (.bool false) (ru_eql (h.ev rfl) (h.ev rfl)) (congrArg Value.bool ((decide_eq_decide.2 (by omega)).trans c1))) rfl ?_; intro f h
            refine w_on h rfl rfl rfl ?_
            refine w_pure h (ru_move (h.ev rfl)) rfl ?_; intro f h
            refine w_on h rfl rfl rfl ?_
            have hm0 := of_decide_eq_false c1
            refine w_pure h (ru_move (h.ev rfl)) rfl ?_; intro f h
            refine w_on h rfl rfl rfl ?_
            refine w_pure h (ru_ixz (RdZ.of_own (s.getSl 1 rfl)) (0) Try.underlying22 szo28 (h.ev rfl) (h.ev rfl) (rfl) (by have := of_decide_eq_false c1; omega)) rfl ?_; intro f h
            refine w_on h rfl rfl rfl ?_
            refine w_pure h (ru_fieldE fld28_0 (h.ev rfl) ((RdZ.of_own (s.getSl 1 rfl)).some (by omega))) rfl ?_; intro f h
            refine w_on h rfl rfl rfl ?_
            refine w_load_at (RdZ.elF (RdZ.of_own (s.getSl 1 rfl)) (0) 0 32 (by omega) (by decide) (C := tgArr ((mtK (l.take k) x (127 + j)).getD 0 zTg)) (tgr_el (mtK (l.take k) x (127 + j)) 0 (by have := of_decide_eq_false c1; omega)) (D := idArr ((mtK (l.take k) x (127 + j)).getD 0 zTg).1) (tgArr_id _)) h row24 rfl (by first | exact idArr_size _ | exact bytesF_size _ _) rfl ?_; intro f h
            refine w_on h rfl rfl rfl ?_
            refine w_pure h (ru_field fld28_0 (h.ev rfl)) rfl ?_; intro f h
            refine w_on h rfl rfl rfl ?_
            refine w_load_at (Has.subL (Has.of_own s 0 rfl) 0 32 (D := idArr (_)) (tgArr_id _)) h row24 rfl (by first | exact idArr_size _ | exact bytesF_size _ _) rfl ?_; intro f h
            refine w_on h rfl rfl rfl ?_
            refine w_pure h (ru_val (.bool true) (ru_eql_id idTy (h.ev rfl) (h.ev rfl)) (congrArg Value.bool c2)) rfl ?_; intro f h
            refine w_on h rfl rfl rfl ?_
            refine w_pure h (ru_pick_f (h.ev rfl) (h.ev rfl)) rfl ?_; intro f h
            refine w_pure h (ru_pick_t (h.ev rfl) (h.ev rfl)) rfl ?_; intro f h
            refine w_nil s fun w1 s => ?_
            refine s_nil ?_
            refine hK14 _ _ ?_
            refine wpIn_cond_true (h.ev rfl) ?_
            refine c_region ?_
            refine s_pure h (ru_move (h.ev rfl)) rfl ?_; intro f h
            refine s_load_row 0 h s row28 rfl rfl (tgArr_size _) rfl ?_; intro f h
            refine s_bslice (vs := [.agg (tgArr (l.getD k zTg))]) [.tmp 41] h s Try.underlying22 elm28 rfl rfl (tg_sz _) rfl rfl rfl ?_; intro f w1 v42 h s
            refine s_append 2 0 h s Try.underlying22 elm28 rfl rfl rfl rfl (by decide) (by rw [one_tg]; exact tgArr_ones _) (by have h9 := mtk_le l x (127 + j) k; unfold maxLen; omega) (by have h9 := mtk_le l x (127 + j) k; omega) rfl ?_; intro f w1 v43 h s
            replace s := s.pick _ (List.sublist_cons_self _ _)
            replace s := s.resl (m := (mtK (l.take (k + 1)) x (127 + j)).length) (ys := tgCells (mtK (l.take (k + 1)) x (127 + j))) 1 rfl (by rw [mtk_y hkl (of_decide_eq_true c0) (of_decide_eq_false c1) c2, List.length_append]; rfl) (by rw [mtk_y hkl (of_decide_eq_true c0) (of_decide_eq_false c1) c2, one_tg, tg_snoc])
            refine s_pure h (ru_assign (h.ev rfl)) rfl ?_; intro f h
            refine s_nil ?_
            refine b_norm ?_
            refine hK12 _ _ ?_
            refine c_region ?_
            refine s_pure h (ru_add (h.ev rfl) (h.ev rfl) (by omega)) rfl ?_; intro f h
            refine s_pure h (ru_move (h.ev rfl)) rfl ?_; intro f h
            refine s_nil ?_
            refine t_norm ?_
            exact ⟨_, by omega, ⟨k + 1, v43, h.only ⟨rfl, rfl, rfl, rfl, rfl, rfl, rfl, slot_int rfl (by omega), trivial⟩, St.as (s.pick _ (List.sublist_append_right [_] _)) ⟨rfl, rfl, trivial⟩, rfl, by omega⟩⟩
        · skip
          refine c_walkN 20 [[], [0], [], [0, 1, 2], [], [0, 1, 2, 3, 4], [0, 1, 2, 3, 4, 5], [0, 1, 2, 3, 4, 5, 6], [0, 1, 2, 3, 4, 5, 6, 7], [0, 1, 2, 3, 4, 5, 6, 7, 8], [0, 1, 2, 3, 4, 5, 6, 7, 8, 9], [0, 1, 2, 3, 4, 5, 6, 7, 8, 9, 10], [0, 1, 2, 3, 4, 5, 6, 7, 8, 9, 10, 11], [0, 1, 2, 3, 4, 5, 6, 7, 8, 9, 10, 11, 12], [0, 1, 2, 3, 4, 5, 6, 7, 8, 9, 10, 11, 12, 13], [0, 1, 2, 3, 4, 5, 6, 7, 8, 9, 10], [0, 1, 2, 3, 4, 5, 6, 7, 8, 9, 10, 15], [0, 1, 2, 3, 4, 5, 6, 7, 8, 9, 10, 11, 12, 13, 14, 15, 16], [0, 1, 2, 3, 4, 5, 6, 7, 8, 9, 10, 11, 12, 13, 14, 15, 16, 17], [0, 1, 2, 3, 4, 5, 6, 7, 8, 9, 10, 11, 12, 13, 14, 15, 16, 17, 18]] h (by kernel_rfl) (by kernel_rfl) (by kernel_rfl) ?_
          refine w_pure h (ru_field fld28_0 (h.ev rfl)) rfl ?_; intro f h
          refine w_load_at (Has.subL (Has.of_own s 0 rfl) 0 32 (D := idArr (_)) (tgArr_id _)) h row24 rfl (by first | exact idArr_size _ | exact bytesF_size _ _) rfl ?_; intro f h
          refine w_load_row 2 h s row24 rfl rfl (by first | exact idArr_size _ | exact bytesF_size _ _) rfl ?_; intro f h
          refine w_call h fnc43 (fun w9 hE9 => rcommon_any (l.getD k zTg).1 x w9) rfl rfl ?_; intro f h
          refine w_pure h (ru_move (h.ev rfl)) rfl ?_; intro f h
          refine w_pure h (ru_val (.bool true) (ru_eql (h.ev rfl) (h.ev rfl)) (congrArg Value.bool ((decide_eq_decide.2 (by omega)).trans c0))) rfl ?_; intro f h
          refine w_pure h (ru_move (h.ev rfl)) rfl ?_; intro f h
          refine w_on h rfl rfl rfl ?_
          refine w_pure h (ru_move (h.ev rfl)) rfl ?_; intro f h
          refine w_on h rfl rfl rfl ?_
          refine w_pure h (ru_lenZ (RdZ.of_own (s.getSl 1 rfl)) Try.underlying22 (h.ev rfl)) rfl ?_; intro f h
          refine w_on h rfl rfl rfl ?_
          refine w_pure h (ru_val (.bool true) (ru_eql (h.ev rfl) (h.ev rfl)) (congrArg Value.bool ((decide_eq_decide.2 (by omega)).trans c1))) rfl ?_; intro f h
          refine w_on h rfl rfl rfl ?_
          refine w_pure h (ru_move (h.ev rfl)) rfl ?_; intro f h
          refine w_off (b := false) h rfl rfl rfl rfl ?_; intro f h
          refine w_off (b := false) h rfl rfl rfl rfl ?_; intro f h
          refine w_off (b := false) h rfl rfl rfl rfl ?_; intro f h
          refine w_off (b := false) h rfl rfl rfl rfl ?_; intro f h
          refine w_off (b := false) h rfl rfl rfl rfl ?_; intro f h
          refine w_off (b := false) h rfl rfl rfl rfl ?_; intro f h
          refine w_off (b := false) h rfl rfl rfl rfl ?_; intro f h
          refine w_on h rfl rfl rfl ?_
          refine w_pure h (ru_pick_t (h.ev rfl) (h.ev rfl)) rfl ?_; intro f h
          refine w_pure h (ru_pick_t (h.ev rfl) (h.ev rfl)) rfl ?_; intro f h
          refine w_nil s fun w1 s => ?_
          refine s_nil ?_
          refine hK14 _ _ ?_
          refine wpIn_cond_true (h.ev rfl) ?_
          refine c_region ?_
          refine s_pure h (ru_move (h.ev rfl)) rfl ?_; intro f h
          refine s_load_row 0 h s row28 rfl rfl (tgArr_size _) rfl ?_; intro f h
          refine s_bslice (vs := [.agg (tgArr (l.getD k zTg))]) [.tmp 41] h s Try.underlying22 elm28 rfl rfl (tg_sz _) rfl rfl rfl ?_; intro f w1 v42 h s
          refine s_append 2 0 h s Try.underlying22 elm28 rfl rfl rfl rfl (by decide) (by rw [one_tg]; exact tgArr_ones _) (by have h9 := mtk_le l x (127 + j) k; unfold maxLen; omega) (by have h9 := mtk_le l x (127 + j) k; omega) rfl ?_; intro f w1 v43 h s
          replace s := s.pick _ (List.sublist_cons_self _ _)
          replace s := s.resl (m := (mtK (l.take (k + 1)) x (127 + j)).length) (ys := tgCells (mtK (l.take (k + 1)) x (127 + j))) 1 rfl (by rw [mtk_one hkl (of_decide_eq_true c0) (of_decide_eq_true c1), List.length_append]; rfl) (by rw [mtk_one hkl (of_decide_eq_true c0) (of_decide_eq_true c1), one_tg, tg_snoc])
          refine s_pure h (ru_assign (h.ev rfl)) rfl ?_; intro f h
          refine s_nil ?_
          refine b_norm ?_
          refine hK12 _ _ ?_
          refine c_region ?_
          refine s_pure h (ru_add (h.ev rfl) (h.ev rfl) (by omega)) rfl ?_; intro f h
          refine s_pure h (ru_move (h.ev rfl)) rfl ?_; intro f h
          refine s_nil ?_
          refine t_norm ?_
          exact ⟨_, by omega, ⟨k + 1, v43, h.only ⟨rfl, rfl, rfl, rfl, rfl, rfl, rfl, slot_int rfl (by omega), trivial⟩, St.as (s.pick _ (List.sublist_append_right [_] _)) ⟨rfl, rfl, trivial⟩, rfl, by omega⟩⟩
    · replace hc := of_decide_eq_false hc
      refine wpIn_exit ?_
      refine t_exit ?_
      refine t_exit ?_
      refine b_exit ?_
      refine hK8 _ _ ?_
      refine c_seq fun K15 hK15 => ?_
      refine c_region ?_
      obtain rfl : k = l.length := by omega
      rw [List.take_length] at s
      refine s_pure h (ru_move (h.ev rfl)) rfl ?_; intro f h
      refine s_len_sl 0 h s Try.underlying22 rfl rfl rfl ?_; intro f h
      refine s_pure h (ru_gtr (h.ev rfl) (h.ev rfl)) rfl ?_; intro f h
      refine s_nil ?_
      refine hK15 _ _ ?_
      refine c_cond h rfl (fun hc => ?_) (fun hc => ?_)
      · have hne : mtK l x (127 + j) ≠ [] := fun e9 => by rw [e9] at hc; exact absurd (of_decide_eq_true hc) (by decide)
        refine c_seq fun K16 hK16 => ?_
        refine c_region ?_
        refine s_pure h (ru_move (h.ev rfl)) rfl ?_; intro f h
        refine s_pure h (ru_assign (h.ev rfl)) rfl ?_; intro f h
        refine s_nil ?_
        refine hK16 _ _ ?_
        refine wpIn_ret ?_
        refine b_ret ?_
        refine t_ret ?_
        refine t_ret ?_
        refine b_ret ?_
        refine t_ret ?_
        exact e_tmp rfl h s rfl ((by rw [mt_hit hj1 hj0 hjA hne]; exact s.getSl 0 rfl))
      · have hnil : mtK l x (127 + j) = [] := List.length_eq_zero_iff.1 (by have := of_decide_eq_false hc; omega)
        refine wpIn_skip ?_
        refine b_norm ?_
        refine hK7 _ _ ?_
        refine c_region ?_
        refine s_pure h (ru_move (h.ev rfl)) rfl ?_; intro f h
        refine s_pure h (ru_sub (h.ev rfl) (h.ev rfl) (by omega)) rfl ?_; intro f h
        refine s_pure h (ru_assign (h.ev rfl)) rfl ?_; intro f h
        refine s_nil ?_
        refine t_norm ?_
        exact ⟨_, by omega, ⟨j - 1, vc, h.only ⟨rfl, rfl, rfl, rfl, slot_int rfl (by omega), trivial⟩, St.as s ⟨sl_eq (by rw [hnil]) (by rw [hnil]), rfl, trivial⟩, rfl, by omega, mt_next hj1 hnil hjA⟩⟩
  · replace hc := of_decide_eq_false hc
    refine wpIn_exit ?_
    refine t_exit ?_
    refine t_exit ?_
    refine b_exit ?_
    refine hK3 _ _ ?_
    refine c_seq fun K17 hK17 => ?_
    refine c_region ?_
    refine s_pure h (ru_move (h.ev rfl)) rfl ?_; intro f h
    refine s_pure h (ru_assign (h.ev rfl)) rfl ?_; intro f h
    refine s_nil ?_
    refine hK17 _ _ ?_
    refine wpIn_ret ?_
    exact e_tmp rfl h s rfl ((by rw [mtf_out fun i hi => hp1 i (by omega) hi]; exact s.getSl 0 rfl))
end Go.Proofs.Ytliknbdambmmaaa
