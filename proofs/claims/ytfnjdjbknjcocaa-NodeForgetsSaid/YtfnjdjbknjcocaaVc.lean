/- What Alone and Owns of package node answer; copies of a node: its rows are new. -/
import Derived.Test.YtfnjdjbknjcocaaVb
set_option linter.unusedVariables false
set_option linter.unusedSimpArgs false
set_option linter.unusedSectionVars false
namespace Go.Proofs.Ytfnjdjbknjcocaa
open Go.RowKit
theorem alone_any (m : Mb) (w : World) : Calls Try.prog 10 [.agg (mbArr m)].toArray w (Ret w (NodP w 25 (alN m) (alE m))) := by
  refine c_enter Try.func10 rfl Try.ntmps10 rfl [(0, .agg (mbArr m))] (by simp) fun f h => ?_
  have s := St.start w
  refine c_seq fun K1 hK1 => ?_
  refine c_region ?_
  refine s_box ((mbArr m)) h s rfl rfl rfl ?_; intro f w1 b1 h s
  refine s_alloc (ndArr zMb zMb nilV nilV) h s zero28 rfl rfl ?_; intro f w1 b2 h s
  refine s_pure h (ru_assign (h.ev rfl)) rfl ?_; intro f h
  refine s_nil ?_
  refine hK1 _ _ ?_
  refine c_seq fun K2 hK2 => ?_
  refine c_seq fun K3 hK3 => ?_
  cases h0 : (mayB m : Bool)
  · skip
    refine c_region ?_
    refine s_load_row 1 h s row25 rfl rfl (mbArr_size _) rfl ?_; intro f h
    refine s_call h s fnc32 (ret_val (.bool false) (nmay_any m _) (congrArg Value.bool h0)) rfl rfl ?_; intro f w1 v9 hT hE h s; obtain rfl := hT
    refine s_pure h (ru_val (.bool true) (ru_not (h.ev rfl)) rfl) rfl ?_; intro f h
    refine s_nil ?_
    refine hK3 _ _ ?_
    refine wpIn_cond_true (h.ev rfl) ?_
    refine c_seq fun K4 hK4 => ?_
    refine c_region ?_
    refine s_pure h (ru_build_nd0 sttN) rfl ?_; intro f h
    refine s_store_row 0 h s row28 rfl rfl rfl (ndArr_size _ _ _ _) (ndArr_size _ _ _ _) (ndArr_ones (rfl) (rfl)) ?_; intro w1 s
    refine s_pure h (ru_assign (h.ev rfl)) rfl ?_; intro f h
    refine s_nil ?_
    refine hK4 _ _ ?_
    refine wpIn_ret ?_
    refine t_ret ?_
    exact e_row_tmp 0 rfl h s row28 rfl rfl (ndArr_size _ _ _ _) rfl (nod_no s (al_no h0).1 (al_no h0).2)
  · skip
    refine c_region ?_
    refine s_load_row 1 h s row25 rfl rfl (mbArr_size _) rfl ?_; intro f h
    refine s_call h s fnc32 (ret_val (.bool true) (nmay_any m _) (congrArg Value.bool h0)) rfl rfl ?_; intro f w1 v9 hT hE h s; obtain rfl := hT
    refine s_pure h (ru_val (.bool false) (ru_not (h.ev rfl)) rfl) rfl ?_; intro f h
    refine s_nil ?_
    refine hK3 _ _ ?_
    refine wpIn_cond_false (h.ev rfl) ?_
    refine wpIn_skip ?_
    refine hK2 _ _ ?_
    refine c_seq fun K5 hK5 => ?_
    refine c_regT 0 5 [[], [], [], [2], [0, 1, 2, 3], [0, 1, 2, 3, 4], [0, 1, 2, 3, 4, 5]] [[], [], [], [], [], [], []] [fun _ => [], fun _ => [], fun _ => [], fun v => [.sl (v 3) 25 33 [m].length (mbCells [m])], fun _ => [], fun _ => [], fun _ => []] [] [fun v => v 0 = .agg ((mbArr m)), fun v => v 1 = .agg (mbArr nMb), fun v => v 2 = .agg ((mbArr m)), fun v => ∃ a c, v 3 = .slice a [m].length c, fun v => v 4 = .agg (ndArr m nMb (v 3) nilV), fun _ => True, fun _ => True] [.blk b2 (.cells (ndArr zMb zMb nilV nilV) 28), .blk b1 (.cells ((mbArr m)) 25)] h s rfl (by kernel_rfl) (by kernel_rfl) (by kernel_rfl) (And.intro ?_ (And.intro ?_ (And.intro ?_ (And.intro ?_ (And.intro ?_ (trivial)))))) [0, 1, 2, 3, 4] (by kernel_rfl) ?_
    · intro f9 w2 vl3 E9 hs9 hd9 hl hF s
      have e1 : f9.tmps.getD 1 undef = _ := oc_old hl 1 (by kernel_rfl) (by kernel_rfl) (h.holds 1 _ rfl)
      have h := fin_slot [(1, _)] (hs9.trans h.size) (hd9.trans h.defers) (holds_lk ⟨e1, trivial⟩)
      replace s : St w (.blk b2 (.cells (ndArr zMb zMb nilV nilV) 28) :: .blk b1 (.cells ((mbArr m)) 25) :: E9) _ := s
      refine s_load_row 1 h s row25 rfl rfl (mbArr_size _) rfl ?_; intro f h
      exact s_nil ⟨_, oc_out 8 rfl (h.holds 8 _ rfl), rfl, s⟩
    · intro f9 w2 vl3 E9 hs9 hd9 hl hF s
      have h := fin_slot [] (hs9.trans h.size) (hd9.trans h.defers) (holds_lk trivial)
      replace s : St w (.blk b2 (.cells (ndArr zMb zMb nilV nilV) 28) :: .blk b1 (.cells ((mbArr m)) 25) :: E9) _ := s
      refine s_call h s fnc33 (none_any _) rfl rfl ?_; intro f w1 v9 hT hE h s; obtain rfl := hT
      exact s_nil ⟨_, oc_out 9 rfl (h.holds 9 _ rfl), rfl, s⟩
    · intro f9 w2 vl3 E9 hs9 hd9 hl hF s
      have e1 : f9.tmps.getD 1 undef = _ := oc_old hl 1 (by kernel_rfl) (by kernel_rfl) (h.holds 1 _ rfl)
      have h := fin_slot [(1, _)] (hs9.trans h.size) (hd9.trans h.defers) (holds_lk ⟨e1, trivial⟩)
      replace s : St w (.blk b2 (.cells (ndArr zMb zMb nilV nilV) 28) :: .blk b1 (.cells ((mbArr m)) 25) :: E9) _ := s
      refine s_load_row 1 h s row25 rfl rfl (mbArr_size _) rfl ?_; intro f h
      exact s_nil ⟨_, oc_out 10 rfl (h.holds 10 _ rfl), rfl, s⟩
    · intro f9 w2 vl3 E9 hs9 hd9 hl hF s
      have e10 : f9.tmps.getD 10 undef = .agg ((mbArr m)) := (oc_get hl 10 2 (by kernel_rfl) (by kernel_rfl)).trans (hF 2 (by decide))
      have h := fin_slot [(10, .agg ((mbArr m)))] (hs9.trans h.size) (hd9.trans h.defers) (holds_lk ⟨e10, trivial⟩)
      replace s : St w (.blk b2 (.cells (ndArr zMb zMb nilV nilV) 28) :: .blk b1 (.cells ((mbArr m)) 25) :: E9) _ := s
      refine s_bslice (vs := [.agg (mbArr m)]) [.tmp 10] h s Try.underlying26 elm25 rfl rfl (mb_sz _) rfl rfl rfl ?_; intro f w1 v11 h s
      replace s := s.resl (m := [m].length) (ys := mbCells [m]) 0 rfl rfl (by rw [one_mb, mbCells_one])
      exact s_nil ⟨_, oc_out 11 rfl (h.holds 11 _ rfl), ownsRow_slice (s.getSl 0 rfl), s⟩
    · intro f9 w2 vl3 E9 hs9 hd9 hl hF s
      have e8 : f9.tmps.getD 8 undef = .agg ((mbArr m)) := (oc_get hl 8 0 (by kernel_rfl) (by kernel_rfl)).trans (hF 0 (by decide))
      have e9 : f9.tmps.getD 9 undef = .agg (mbArr nMb) := (oc_get hl 9 1 (by kernel_rfl) (by kernel_rfl)).trans (hF 1 (by decide))
      have e11 : f9.tmps.getD 11 undef = (vl3 3) := oc_get hl 11 3 (by kernel_rfl) (by kernel_rfl)
      have h := fin_slot [(8, .agg ((mbArr m))), (9, .agg (mbArr nMb)), (11, (vl3 3))] (hs9.trans h.size) (hd9.trans h.defers) (holds_lk ⟨e8, e9, e11, trivial⟩)
      replace s : St w (.blk b2 (.cells (ndArr zMb zMb nilV nilV) 28) :: .blk b1 (.cells ((mbArr m)) 25) :: E9) _ := s
      obtain ⟨a9, c9, hv9⟩ := hF 3 (by decide)
      refine s_pure h (ru_build_nd3 sttN (by rw [show vl3 3 = _ from hv9]; rfl) (by rw [show vl3 3 = _ from hv9]; rfl) (h.ev rfl) (h.ev rfl) (h.ev rfl)) rfl ?_; intro f h
      exact s_nil ⟨_, oc_out 12 rfl (h.holds 12 _ rfl), rfl, s⟩
    intro f w1 vl3 hs9 hd9 hv hr hF s
    replace hv := fun i d h9 => hv i d (show Nat.blt i 5 = true from h9)
    replace h := oc_slT 5 (ops := _) [(8, .agg ((mbArr m))), (9, .agg (mbArr nMb)), (10, .agg ((mbArr m))), (11, (vl3 3)), (12, .agg (ndArr m nMb (vl3 3) nilV))] h hs9 hd9 hr ⟨(hv 0 8 rfl rfl).trans (hF 0 (by kernel_rfl)), (hv 1 9 rfl rfl).trans (hF 1 (by kernel_rfl)), (hv 2 10 rfl rfl).trans (hF 2 (by kernel_rfl)), hv 3 11 rfl rfl, (hv 4 12 rfl rfl).trans (hF 4 (by kernel_rfl)), trivial⟩ (by kernel_rfl)
    replace s : St w [.sl (vl3 3) 25 33 [m].length (mbCells [m]), .blk b2 (.cells (ndArr zMb zMb nilV nilV) 28), .blk b1 (.cells ((mbArr m)) 25)] _ := s
    refine s_store_row 1 h s row28 rfl rfl rfl (ndArr_size _ _ _ _) (ndArr_size _ _ _ _) (ndArr_ones (own_one (s.getSl 0 rfl)) (rfl)) ?_; intro w1 s
    refine s_pure h (ru_assign (h.ev rfl)) rfl ?_; intro f h
    refine s_nil ?_
    refine hK5 _ _ ?_
    refine wpIn_ret ?_
    exact e_row_tmp 1 rfl h s row28 rfl rfl (ndArr_size _ _ _ _) rfl (nod_ok1 (al_ok h0).1 (al_ok h0).2 (s.pick _ (List.Sublist.cons_cons _ (List.Sublist.cons _ (List.Sublist.cons _ (List.nil_sublist _))))))

theorem nowns_any (n : Nd) (vs vf : Value) (x : Id) (w : World) (hRs : RdZ w vs 33 n.sc.length (mbCells n.sc)) (hRf : RdZ w vf 33 n.fg.length (mbCells n.fg)) (hns : n.sc.length ≤ 1000) (hnf : n.fg.length ≤ 1000) : Calls Try.prog 17 [.agg (ndArr n.me n.pr vs vf), idV x].toArray w (Ret w (is (.bool (ownsN n x)))) := by
  refine c_enter Try.func17 rfl Try.ntmps17 rfl [(0, .agg (ndArr n.me n.pr vs vf)), (1, idV x)] (by simp) fun f h => ?_
  have s := St.start w
  refine c_seq fun K1 hK1 => ?_
  refine c_region ?_
  refine s_box (ndArr n.me n.pr vs vf) h s rfl rfl rfl ?_; intro f w1 b2 h s
  refine s_box (idArr x) h s rfl rfl rfl ?_; intro f w1 b3 h s
  refine s_pure h (ru_assign (h.ev rfl)) rfl ?_; intro f h
  refine s_nil ?_
  refine hK1 _ _ ?_
  refine c_seq fun K2 hK2 => ?_
  cases hr : (rightN n : Bool)
  · skip
    refine c_walkN 19 [[], [0], [0, 1], [0, 1, 2], [0, 1, 2, 3], [0, 1, 2], [0, 1, 2, 3, 4, 5], [0, 1, 2, 3, 4, 5, 6], [0, 1, 2, 3, 4, 5, 6, 7], [0, 1, 2, 3, 4, 5, 6, 7, 8], [0, 1, 2, 3, 4, 5, 6, 7, 8], [0, 1, 2, 3, 4, 5, 6, 7, 8, 10], [0, 1, 2, 3, 4, 5, 6, 7, 8, 10, 11], [0, 1, 2, 3, 4, 5, 6, 7, 8], [0, 1, 2, 3, 4, 5, 6, 7, 8, 13], [0, 1, 2, 3, 4, 5, 6, 7, 8, 13, 14], [0, 1, 2, 3, 4, 5, 6, 7, 8, 9, 10, 11, 12, 13, 14, 15], [0, 1, 2, 3, 4, 5, 6, 7, 8, 9, 10, 11, 12, 13, 14, 15, 16], [0, 1, 2, 3, 4, 5, 6, 7, 8, 9, 10, 11, 12, 13, 14, 15, 16, 17]] h (by kernel_rfl) (by kernel_rfl) (by kernel_rfl) ?_
    refine w_load_row 1 h s row28 rfl rfl (ndArr_size _ _ _ _) rfl ?_; intro f h
    refine w_call h fnc16 (fun w9 hE9 => ret_val (.bool false) (nright_any n vs vf w9 (hRs.keep (s.ext.trans hE9)) (hRf.keep (s.ext.trans hE9)) hns hnf) (congrArg Value.bool hr)) rfl rfl ?_; intro f h
    refine w_pure h (ru_move (h.ev rfl)) rfl ?_; intro f h
    refine w_off (b := true) h rfl rfl rfl rfl ?_; intro f h
    refine w_off (b := true) h rfl rfl rfl rfl ?_; intro f h
    refine w_off (b := true) h rfl rfl rfl rfl ?_; intro f h
    refine w_off (b := true) h rfl rfl rfl rfl ?_; intro f h
    refine w_pure h (ru_pick_f (h.ev rfl) (h.ev rfl)) rfl ?_; intro f h
    refine w_pure h (ru_move (h.ev rfl)) rfl ?_; intro f h
    refine w_off (b := true) h rfl rfl rfl rfl ?_; intro f h
    refine w_off (b := true) h rfl rfl rfl rfl ?_; intro f h
    refine w_off (b := true) h rfl rfl rfl rfl ?_; intro f h
    refine w_off (b := true) h rfl rfl rfl rfl ?_; intro f h
    refine w_off (b := true) h rfl rfl rfl rfl ?_; intro f h
    refine w_off (b := true) h rfl rfl rfl rfl ?_; intro f h
    refine w_off (b := true) h rfl rfl rfl rfl ?_; intro f h
    refine w_off (b := true) h rfl rfl rfl rfl ?_; intro f h
    refine w_pure h (ru_pick_f (h.ev rfl) (h.ev rfl)) rfl ?_; intro f h
    refine w_pure h (ru_assign (h.ev rfl)) rfl ?_; intro f h
    refine w_nil s fun w1 s => ?_
    refine s_nil ?_
    refine hK2 _ _ ?_
    refine wpIn_ret ?_
    exact e_tmp rfl h s rfl (by show _ = _; rw [owns_0 hr])
  · skip
    cases q0 : (!decide (n.pr = nMb) : Bool)
    · skip
      refine c_walkN 19 [[], [0], [0, 1], [0, 1, 2], [0, 1, 2, 3], [0, 1, 2], [0, 1, 2, 3, 4, 5], [0, 1, 2, 3, 4, 5, 6], [0, 1, 2, 3, 4, 5, 6, 7], [0, 1, 2, 3, 4, 5, 6, 7, 8], [0, 1, 2, 3, 4, 5, 6, 7, 8], [0, 1, 2, 3, 4, 5, 6, 7, 8, 10], [0, 1, 2, 3, 4, 5, 6, 7, 8, 10, 11], [0, 1, 2, 3, 4, 5, 6, 7, 8], [0, 1, 2, 3, 4, 5, 6, 7, 8, 13], [0, 1, 2, 3, 4, 5, 6, 7, 8, 13, 14], [0, 1, 2, 3, 4, 5, 6, 7, 8, 9, 10, 11, 12, 13, 14, 15], [0, 1, 2, 3, 4, 5, 6, 7, 8, 9, 10, 11, 12, 13, 14, 15, 16], [0, 1, 2, 3, 4, 5, 6, 7, 8, 9, 10, 11, 12, 13, 14, 15, 16, 17]] h (by kernel_rfl) (by kernel_rfl) (by kernel_rfl) ?_
      refine w_load_row 1 h s row28 rfl rfl (ndArr_size _ _ _ _) rfl ?_; intro f h
      refine w_call h fnc16 (fun w9 hE9 => ret_val (.bool true) (nright_any n vs vf w9 (hRs.keep (s.ext.trans hE9)) (hRf.keep (s.ext.trans hE9)) hns hnf) (congrArg Value.bool hr)) rfl rfl ?_; intro f h
      refine w_pure h (ru_move (h.ev rfl)) rfl ?_; intro f h
      refine w_on h rfl rfl rfl ?_
      refine w_pure h (ru_field fld28_1 (h.ev rfl)) rfl ?_; intro f h
      refine w_on h rfl rfl rfl ?_
      refine w_load_at (Has.subL (Has.of_own s 1 rfl) 33 33 (D := mbArr n.pr) (ndArr_pr _ _ _ _)) h row25 rfl (mbArr_size _) rfl ?_; intro f h
      refine w_on h rfl rfl rfl ?_
      refine w_call h fnc33 (fun w9 hE9 => none_any w9) rfl rfl ?_; intro f h
      refine w_on h rfl rfl rfl ?_
      refine w_pure h (ru_val (.bool false) (ru_neqW (eqM _ _) (by kernel_rfl) (by decide) (h.ev rfl) (h.ev rfl) (decide (n.pr = nMb)) (mbEq _ _)) (congrArg Value.bool q0)) rfl ?_; intro f h
      refine w_pure h (ru_pick_t (h.ev rfl) (h.ev rfl)) rfl ?_; intro f h
      refine w_pure h (ru_move (h.ev rfl)) rfl ?_; intro f h
      refine w_off (b := true) h rfl rfl rfl rfl ?_; intro f h
      refine w_off (b := true) h rfl rfl rfl rfl ?_; intro f h
      refine w_off (b := true) h rfl rfl rfl rfl ?_; intro f h
      refine w_off (b := true) h rfl rfl rfl rfl ?_; intro f h
      refine w_off (b := true) h rfl rfl rfl rfl ?_; intro f h
      refine w_off (b := true) h rfl rfl rfl rfl ?_; intro f h
      refine w_off (b := true) h rfl rfl rfl rfl ?_; intro f h
      refine w_off (b := true) h rfl rfl rfl rfl ?_; intro f h
      refine w_pure h (ru_pick_f (h.ev rfl) (h.ev rfl)) rfl ?_; intro f h
      refine w_pure h (ru_assign (h.ev rfl)) rfl ?_; intro f h
      refine w_nil s fun w1 s => ?_
      refine s_nil ?_
      refine hK2 _ _ ?_
      refine wpIn_ret ?_
      exact e_tmp rfl h s rfl (by show _ = _; rw [owns_3 q0])
    · skip
      refine c_walkN 19 [[], [0], [0, 1], [0, 1, 2], [0, 1, 2, 3], [0, 1, 2], [0, 1, 2, 3, 4, 5], [0, 1, 2, 3, 4, 5, 6], [0, 1, 2, 3, 4, 5, 6, 7], [0, 1, 2, 3, 4, 5, 6, 7, 8], [0, 1, 2, 3, 4, 5, 6, 7, 8], [0, 1, 2, 3, 4, 5, 6, 7, 8, 10], [0, 1, 2, 3, 4, 5, 6, 7, 8, 10, 11], [0, 1, 2, 3, 4, 5, 6, 7, 8], [0, 1, 2, 3, 4, 5, 6, 7, 8, 13], [0, 1, 2, 3, 4, 5, 6, 7, 8, 13, 14], [0, 1, 2, 3, 4, 5, 6, 7, 8, 9, 10, 11, 12, 13, 14, 15], [0, 1, 2, 3, 4, 5, 6, 7, 8, 9, 10, 11, 12, 13, 14, 15, 16], [0, 1, 2, 3, 4, 5, 6, 7, 8, 9, 10, 11, 12, 13, 14, 15, 16, 17]] h (by kernel_rfl) (by kernel_rfl) (by kernel_rfl) ?_
      refine w_load_row 1 h s row28 rfl rfl (ndArr_size _ _ _ _) rfl ?_; intro f h
      refine w_call h fnc16 (fun w9 hE9 => ret_val (.bool true) (nright_any n vs vf w9 (hRs.keep (s.ext.trans hE9)) (hRf.keep (s.ext.trans hE9)) hns hnf) (congrArg Value.bool hr)) rfl rfl ?_; intro f h
      refine w_pure h (ru_move (h.ev rfl)) rfl ?_; intro f h
      refine w_on h rfl rfl rfl ?_
      refine w_pure h (ru_field fld28_1 (h.ev rfl)) rfl ?_; intro f h
      refine w_on h rfl rfl rfl ?_
      refine w_load_at (Has.subL (Has.of_own s 1 rfl) 33 33 (D := mbArr n.pr) (ndArr_pr _ _ _ _)) h row25 rfl (mbArr_size _) rfl ?_; intro f h
      refine w_on h rfl rfl rfl ?_
      refine w_call h fnc33 (fun w9 hE9 => none_any w9) rfl rfl ?_; intro f h
      refine w_on h rfl rfl rfl ?_
      refine w_pure h (ru_val (.bool true) (ru_neqW (eqM _ _) (by kernel_rfl) (by decide) (h.ev rfl) (h.ev rfl) (decide (n.pr = nMb)) (mbEq _ _)) (congrArg Value.bool q0)) rfl ?_; intro f h
      refine w_pure h (ru_pick_t (h.ev rfl) (h.ev rfl)) rfl ?_; intro f h
      refine w_pure h (ru_move (h.ev rfl)) rfl ?_; intro f h
      refine w_on h rfl rfl rfl ?_
      refine w_load_row 0 h s row23 rfl rfl (by first | exact idArr_size _ | exact bytesF_size _ _) rfl ?_; intro f h
      refine w_on h rfl rfl rfl ?_
      refine w_pure h (ru_field fld28_1 (h.ev rfl)) rfl ?_; intro f h
      refine w_on h rfl rfl rfl ?_
      refine w_pure h (ru_field fld25_1 (h.ev rfl)) rfl ?_; intro f h
      refine w_on h rfl rfl rfl ?_
      refine w_load_at (Has.subL (Has.of_own s 1 rfl) 34 32 (D := idArr n.pr.2) (ndArr_pid _ _ _ _)) h row23 rfl (by first | exact idArr_size _ | exact bytesF_size _ _) rfl ?_; intro f h
      refine w_on h rfl rfl rfl ?_
      refine w_pure h (ru_field fld28_0 (h.ev rfl)) rfl ?_; intro f h
      refine w_on h rfl rfl rfl ?_
      refine w_pure h (ru_field fld25_1 (h.ev rfl)) rfl ?_; intro f h
      refine w_on h rfl rfl rfl ?_
      refine w_load_at (Has.subL (Has.of_own s 1 rfl) 1 32 (D := idArr n.me.2) (ndArr_id _ _ _ _)) h row23 rfl (by first | exact idArr_size _ | exact bytesF_size _ _) rfl ?_; intro f h
      refine w_on h rfl rfl rfl ?_
      refine w_call h fnc31 (fun w9 hE9 => in_any _ _ _ w9) rfl rfl ?_; intro f h
      refine w_pure h (ru_pick_t (h.ev rfl) (h.ev rfl)) rfl ?_; intro f h
      refine w_pure h (ru_assign (h.ev rfl)) rfl ?_; intro f h
      refine w_nil s fun w1 s => ?_
      refine s_nil ?_
      refine hK2 _ _ ?_
      refine wpIn_ret ?_
      exact e_tmp rfl h s rfl (by show _ = _; rw [owns_4 hr q0])

theorem mclone_ok (l : List Mb) (hln : l.length ≤ 1000) (a9 : Option Addr) (n9 c9 : Nat) (w : World) (hR : RdZ w (.slice a9 n9 c9) 33 l.length (mbCells l)) : Calls Try.prog 61 [.slice a9 n9 c9].toArray w (Ret w (fun v w' => Owns w' w.heap.size 25 33 v l.length (mbCells l))) := by
  refine c_enter Try.func61 rfl Try.ntmps61 rfl [(0, .slice a9 n9 c9)] (by simp) fun f h => ?_
  have s := St.start w
  refine c_seq fun K1 hK1 => ?_
  refine c_region ?_
  refine s_pure h (ru_assign (h.ev rfl)) rfl ?_; intro f h
  refine s_nil ?_
  refine hK1 _ _ ?_
  refine c_seq fun K2 hK2 => ?_
  refine c_seq fun K3 hK3 => ?_
  cases hn : (a9.isNone : Bool)
  · skip
    refine c_region ?_
    refine s_pure h (ru_move (h.ev rfl)) rfl ?_; intro f h
    refine s_pure h (ru_val (.bool false) (ru_eql_nilS Try.underlying26 (h.ev rfl) (h.ev rfl)) (congrArg Value.bool hn)) rfl ?_; intro f h
    refine s_nil ?_
    refine hK3 _ _ ?_
    refine wpIn_cond_false (h.ev rfl) ?_
    refine wpIn_skip ?_
    refine hK2 _ _ ?_
    refine c_seq fun K4 hK4 => ?_
    refine c_region ?_
    refine s_bslice0 (base := w.heap.size) h Try.underlying26 elm25 (Nat.le_refl _) rfl ?_; intro f w2 v5 h hE3 e5
    refine s_pure h (ru_move (h.ev rfl)) rfl ?_; intro f h
    refine s_append_emp (base := w.heap.size) e5 (hR.keep hE3) h Try.underlying26 elm25 rfl rfl hE3.le (mbCells_ones _) (by unfold maxLen; omega) (by omega) rfl ?_; intro f w3 v7 h hE4 e7
    replace s := s.sl_new (hE3.trans hE4) e7
    refine s_pure h (ru_assign (h.ev rfl)) rfl ?_; intro f h
    refine s_nil ?_
    refine hK4 _ _ ?_
    refine wpIn_ret ?_
    exact e_tmp rfl h s rfl (s.getSl 0 rfl)
  · skip
    refine c_region ?_
    refine s_pure h (ru_move (h.ev rfl)) rfl ?_; intro f h
    refine s_pure h (ru_val (.bool true) (ru_eql_nilS Try.underlying26 (h.ev rfl) (h.ev rfl)) (congrArg Value.bool hn)) rfl ?_; intro f h
    refine s_nil ?_
    refine hK3 _ _ ?_
    refine wpIn_cond_true (h.ev rfl) ?_
    refine c_seq fun K5 hK5 => ?_
    refine c_region ?_
    refine s_pure h (ru_assign (h.ev rfl)) rfl ?_; intro f h
    refine s_nil ?_
    refine hK5 _ _ ?_
    refine wpIn_ret ?_
    refine t_ret ?_
    exact e_tmp rfl h s rfl (by obtain rfl := clone_nilM hn hR; exact owns_nil _ _ _ _)

theorem mclone_any (l : List Mb) (hln : l.length ≤ 1000) (v9 : Value) (w : World) (hR : RdZ w v9 33 l.length (mbCells l)) : Calls Try.prog 61 [v9].toArray w (Ret w (fun v w' => Owns w' w.heap.size 25 33 v l.length (mbCells l))) := by
  obtain ⟨a, c, rfl⟩ := hR.len
  exact mclone_ok l hln a _ c w hR

theorem copied_any (n : Nd) (vs vf : Value) (w : World) (hRs : RdZ w vs 33 n.sc.length (mbCells n.sc)) (hRf : RdZ w vf 33 n.fg.length (mbCells n.fg)) (hns : n.sc.length ≤ 1000) (hnf : n.fg.length ≤ 1000) : Calls Try.prog 44 [.agg (ndArr n.me n.pr vs vf)].toArray w (Ret w (OneN w 25 n)) := by
  refine c_enter Try.func44 rfl Try.ntmps44 rfl [(0, .agg (ndArr n.me n.pr vs vf))] (by simp) fun f h => ?_
  have s := St.start w
  refine c_seq fun K1 hK1 => ?_
  refine c_region ?_
  refine s_box (ndArr n.me n.pr vs vf) h s rfl rfl rfl ?_; intro f w1 b1 h s
  refine s_alloc (ndArr zMb zMb nilV nilV) h s zero28 rfl rfl ?_; intro f w1 b2 h s
  refine s_nil ?_
  refine hK1 _ _ ?_
  refine c_seq fun K2 hK2 => ?_
  refine c_region ?_
  refine s_pure h (ru_field fld28_2 (h.ev rfl)) rfl ?_; intro f h
  refine s_load_at1 (V := vs) (cell_of_has (Has.of_own s 1 rfl) 66 (ndArr_sc _ _ _ _)) h one26 rfl rfl ?_; intro f h
  refine s_call h s fnc61 (mclone_any n.sc hns vs _ (hRs.keep s.ext)) rfl rfl ?_; intro f w1 v5 hT hE h sq; replace s := s.sl_new hE hT
  refine s_pure h (ru_field fld28_2 (h.ev rfl)) rfl ?_; intro f h
  refine s_store_one 2 h s one26 rfl rfl rfl (by rw [ndArr_size]; omega) (own_one (s.getSl 0 rfl)) ?_; intro w1 s
  replace s := s.recell (D := ndArr n.me n.pr v5 vf) 2 rfl (nd_set66 _ _ _ _ _)
  refine s_nil ?_
  refine hK2 _ _ ?_
  refine c_seq fun K3 hK3 => ?_
  refine c_region ?_
  refine s_pure h (ru_field fld28_3 (h.ev rfl)) rfl ?_; intro f h
  refine s_load_at1 (V := vf) (cell_of_has (Has.of_own s 2 rfl) 67 (ndArr_fg _ _ _ _)) h one26 rfl rfl ?_; intro f h
  refine s_call h s fnc61 (mclone_any n.fg hnf vf _ (hRf.keep s.ext)) rfl rfl ?_; intro f w1 v9 hT hE h sq; replace s := s.sl_new hE hT
  refine s_pure h (ru_field fld28_3 (h.ev rfl)) rfl ?_; intro f h
  refine s_store_one 3 h s one26 rfl rfl rfl (by rw [ndArr_size]; omega) (own_one (s.getSl 0 rfl)) ?_; intro w1 s
  replace s := s.recell (D := ndArr n.me n.pr v5 v9) 3 rfl (nd_set67 _ _ _ _ _)
  refine s_nil ?_
  refine hK3 _ _ ?_
  refine c_seq fun K4 hK4 => ?_
  refine c_region ?_
  refine s_load_row 3 h s row28 rfl rfl (ndArr_size _ _ _ _) rfl ?_; intro f h
  refine s_store_row 2 h s row28 rfl rfl rfl (ndArr_size _ _ _ _) (ndArr_size _ _ _ _) (ndArr_ones (own_one (s.getSl 1 rfl)) (own_one (s.getSl 0 rfl))) ?_; intro w1 s
  refine s_nil ?_
  refine hK4 _ _ ?_
  refine wpIn_ret ?_
  exact e_row 2 rfl h s row28 rfl rfl (ndArr_size _ _ _ _) (one_ok rfl (s.sel [1, 0] rfl (by decide)))
end Go.Proofs.Ytfnjdjbknjcocaa
