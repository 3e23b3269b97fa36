/- What RingComes answers: for all lists of members, members and identifiers. -/
import Derived.Test.YtgnijdeieglpkaaVd
import Derived.Test.YtgnijdeieglpkaaVe
set_option linter.unusedVariables false
set_option linter.unusedSimpArgs false
set_option linter.unusedSectionVars false
namespace Go.Proofs.Ytgnijdeieglpkaa
open Go.RowKit
theorem rcomes_any (l : List Mb) (vh : Value) (m : Mb) (x9 : Id) (w : World) (hR : RdZ w vh 33 l.length (mbCells l)) : Calls Try.prog 6 [vh, .agg (mbArr m), idV x9].toArray w (Ret w (is (.bool true))) := by
  have hlv := mb_take hR (min l.length 18) (by omega)
  obtain ⟨r, hr9⟩ : ∃ x9, x9 = l.take (min l.length 18) := ⟨_, rfl⟩
  rw [← hr9] at hlv
  have hln8 : r.length ≤ 18 := by rw [hr9, List.length_take]; omega
  have hln : r.length ≤ 1000 := by omega
  have hml : (r ++ [m]).length ≤ 1000 := by rw [List.length_append]; show r.length + 1 ≤ 1000; omega
  refine c_enter Try.func6 rfl Try.ntmps6 rfl [(0, vh), (1, .agg (mbArr m)), (2, idV x9)] (by simp) fun f h => ?_
  have s := St.start w
  refine c_seq fun K1 hK1 => ?_
  refine c_region ?_
  refine s_box ((mbArr m)) h s rfl rfl rfl ?_; intro f w1 b4 h s
  refine s_box (idArr x9) h s rfl rfl rfl ?_; intro f w1 b5 h s
  refine s_pure h (ru_assign (h.ev rfl)) rfl ?_; intro f h
  refine s_nil ?_
  refine hK1 _ _ ?_
  refine c_seq fun K2 hK2 => ?_
  refine c_region ?_
  refine s_pure h (ru_move (h.ev rfl)) rfl ?_; intro f h
  refine s_call h s fnc8 (few_any l vh _ (hR.keep s.ext)) rfl rfl ?_; intro f w1 v9 hT hE h s; obtain rfl := hT
  refine s_pure h (ru_assign (h.ev rfl)) rfl ?_; intro f h
  refine s_nil ?_
  refine hK2 _ _ ?_
  refine c_seq fun K3 hK3 => ?_
  have hbs := s.ext.le
  refine' c_reg2 5 [1] [] [[], [], [0, 1], [], [3], [0, 1, 2, 3, 4], [0, 1, 2, 3, 4, 5]] ((Emp w1.heap.size 30) :: is _ :: (fun v w9 => Owns w9 w1.heap.size 30 33 v (r).length (mbCells (r))) :: is _ :: (fun v w9 => RdZ w9 v 33 1 ((mbArr m).toList)) :: is undef :: is undef :: []) (fun _ => True) h s (by kernel_rfl) (by kernel_rfl) (by kernel_rfl) (by kernel_rfl) rfl (fun _ _ h _ => h) (trivial) ⟨⟨_, rfl⟩, trivial⟩ ⟨Emp.mono _ _, is_mono _, ownsM _ _ _ _ _, is_mono _, RdZ.mono, is_mono _, is_mono _, trivial⟩ (And.intro ?_ (And.intro ?_ (And.intro ?_ (And.intro ?_ (And.intro ?_ (And.intro ?_ (And.intro ?_ (trivial)))))))) ?_
  rotate_left 2
  · refine obF_in 16 rfl (by decide) (by decide) ?_
    intro f9 w2 hE hs hd9 hl
    have h := fin_slot [] hs hd9 (holds_lk trivial)
    have s := s.more hE
    have z := St.start w2
    refine s_bslice0 (base := w1.heap.size) h Try.underlying22 elm30 hE.le rfl ?_; intro f w3 v3 h hE3 hm3
    refine s_nil ?_
    exact ⟨by rw [h.holds 16 _ rfl]; exact hm3, hE3, fun h9 => absurd h9 (by decide)⟩
  · refine obH_in 17 rfl (by decide) ?_
    intro f9 w2 hE hs hl
    have e0 : f9.tmps.getD 0 undef = _ := sx_old hl 0 (by kernel_rfl) (by kernel_rfl) (h.holds 0 _ rfl)
    have h := fin_slot [(0, _)] hs rfl (holds_lk ⟨e0, trivial⟩)
    refine s_pure h (ru_move (h.ev rfl)) rfl ?_; intro f h
    refine s_nil ?_
    have e9 := h.holds 17 _ rfl
    refine ⟨?_, rfl⟩
    refine e9.trans ?_
    exact rfl
  · refine obF_in 18 rfl (by decide) (by decide) ?_
    intro f9 w2 hE hs hd9 hl
    obtain ⟨u16, hu16⟩ : ∃ v, f9.tmps.getD 16 undef = v := ⟨_, rfl⟩
    have e16 : (Emp w1.heap.size 30) u16 w2 := by rw [← hu16]; exact sx_get hl 16 0 (by kernel_rfl) (by kernel_rfl)
    have e17 : f9.tmps.getD 17 undef = _ := sx_get hl 17 1 (by kernel_rfl) (by kernel_rfl)
    have h := fin_slot [(16, u16), (17, _)] hs hd9 (holds_lk ⟨hu16, e17, trivial⟩)
    have s := s.more hE
    have z := St.start w2
    refine s_append_emp (base := w1.heap.size) e16 (hlv.keep s.ext) h Try.underlying22 elm30 rfl rfl hE.le (mbCells_ones _) (by unfold maxLen; omega) (by omega) rfl ?_; intro f w3 v3 h hE3 hO
    refine s_nil ?_
    exact ⟨by rw [h.holds 18 _ rfl]; exact hO, hE3, fun h9 => absurd h9 (by decide)⟩
  · refine obF_in 19 rfl (by decide) (by decide) ?_
    intro f9 w2 hE hs hd9 hl
    have e4 : f9.tmps.getD 4 undef = _ := sx_old hl 4 (by kernel_rfl) (by kernel_rfl) (h.holds 4 _ rfl)
    have h := fin_slot [(4, _)] hs hd9 (holds_lk ⟨e4, trivial⟩)
    have s := s.more hE
    have z := St.start w2
    refine s_load_row 1 h s row30 rfl rfl (mbArr_size _) rfl ?_; intro f h
    refine s_nil ?_
    have e9 := h.holds 19 _ rfl
    refine ⟨?_, Ext.refl _, fun h9 => absurd h9 (by decide)⟩
    refine e9.trans ?_
    exact rfl
  · refine obF_in 20 rfl (by decide) (by decide) ?_
    intro f9 w2 hE hs hd9 hl
    have e19 : f9.tmps.getD 19 undef = _ := sx_get hl 19 3 (by kernel_rfl) (by kernel_rfl)
    have h := fin_slot [(19, _)] hs hd9 (holds_lk ⟨e19, trivial⟩)
    have s := s.more hE
    have z := St.start w2
    refine s_bslice (vs := [.agg (mbArr m)]) [.tmp 19] h z Try.underlying22 elm30 rfl rfl (mb_sz _) rfl rfl rfl ?_; intro f w1 v9 h z
    refine s_nil ?_
    exact kf_rd (h.holds 20 _ rfl) z _ (one_mb _)
  · exact obT_in (by decide) (by decide)
  · exact obT_in (by decide) (by decide)
  · intro f9 w2 hE hs hd9 hWp hT hR hFr hDj
    obtain ⟨u16, hu16⟩ : ∃ v, f9.tmps.getD 16 undef = v := ⟨_, rfl⟩
    have e16 : (Emp w1.heap.size 30) u16 w2 := by rw [← hu16]; exact hT 0 16 (by decide) rfl
    obtain ⟨u18, hu18⟩ : ∃ v, f9.tmps.getD 18 undef = v := ⟨_, rfl⟩
    have e18 : (fun v w9 => Owns w9 w1.heap.size 30 33 v (r).length (mbCells (r))) u18 w2 := by rw [← hu18]; exact hT 2 18 (by decide) rfl
    obtain ⟨u20, hu20⟩ : ∃ v, f9.tmps.getD 20 undef = v := ⟨_, rfl⟩
    have e20 : (fun v w9 => RdZ w9 v 33 1 ((mbArr m).toList)) u20 w2 := by rw [← hu20]; exact hT 4 20 (by decide) rfl
    replace h := sl_new (ops := _) [(16, u16), (17, _), (18, u18), (19, _), (20, u20)] h hs hd9 hR ⟨hu16, hT 1 17 (by decide) rfl, hu18, hT 3 19 (by decide) rfl, hu20, trivial⟩ (by kernel_rfl)
    replace s := s.sl_new hE e18
    clear hT hR hFr hDj
    refine LstW.of ?_
    refine s_append_rd 0 (e20) h s Try.underlying22 elm30 rfl rfl rfl (mbArr_ones m) (by unfold maxLen; omega) (by omega) rfl ?_; intro f w1 v21 h s
    replace s := s.resl (m := (r ++ [m]).length) (ys := mbCells (r ++ [m])) 0 rfl (by rw [List.length_append]; rfl) (mb_snoc _ _)
    refine s_pure h (ru_assign (h.ev rfl)) rfl ?_; intro f h
    refine s_nil ?_
    refine hK3 _ _ ?_
    refine c_seq fun K4 hK4 => ?_
    refine c_seq fun K5 hK5 => ?_
    cases hr : (rightR (r ++ [m]) : Bool)
    · skip
      refine c_region ?_
      refine s_pure h (ru_move (h.ev rfl)) rfl ?_; intro f h
      refine s_call h s fnc11 (ret_val (.bool false) (right_any (r ++ [m]) v21 _ (RdZ.of_own (s.getSl 0 rfl)) hml) (congrArg Value.bool hr)) rfl rfl ?_; intro f w1 v9 hT hE h s; obtain rfl := hT
      refine s_pure h (ru_val (.bool true) (ru_not (h.ev rfl)) rfl) rfl ?_; intro f h
      refine s_pure h (ru_move (h.ev rfl)) rfl ?_; intro f h
      refine s_off (b := false) h rfl rfl rfl rfl ?_; intro f h
      refine s_off (b := false) h rfl rfl rfl rfl ?_; intro f h
      refine s_off (b := false) h rfl rfl rfl rfl ?_; intro f h
      refine s_pure h (ru_pick_t (h.ev rfl) (h.ev rfl)) rfl ?_; intro f h
      refine s_nil ?_
      refine hK5 _ _ ?_
      refine wpIn_cond_true (h.ev rfl) ?_
      refine c_seq fun K6 hK6 => ?_
      refine c_region ?_
      refine s_call h s fnc13 (alive_any _) rfl rfl ?_; intro f w1 v9 hT hE h s; obtain rfl := hT
      refine s_pure h (ru_assign (h.ev rfl)) rfl ?_; intro f h
      refine s_nil ?_
      refine hK6 _ _ ?_
      refine wpIn_ret ?_
      refine t_ret ?_
      exact e_tmp rfl h s rfl (rfl)
    · skip
      cases hz : (decide (r.length = 0) : Bool)
      · skip
        refine c_region ?_
        refine s_pure h (ru_move (h.ev rfl)) rfl ?_; intro f h
        refine s_call h s fnc11 (ret_val (.bool true) (right_any (r ++ [m]) v21 _ (RdZ.of_own (s.getSl 0 rfl)) hml) (congrArg Value.bool hr)) rfl rfl ?_; intro f w1 v9 hT hE h s; obtain rfl := hT
        refine s_pure h (ru_val (.bool false) (ru_not (h.ev rfl)) rfl) rfl ?_; intro f h
        refine s_pure h (ru_move (h.ev rfl)) rfl ?_; intro f h
        refine s_on h rfl rfl rfl ?_
        refine s_pure h (ru_move (h.ev rfl)) rfl ?_; intro f h
        refine s_on h rfl rfl rfl ?_
        refine s_pure h (ru_lenZ (hlv.keep s.ext) Try.underlying22 (h.ev rfl)) rfl ?_; intro f h
        refine s_on h rfl rfl rfl ?_
        refine s_pure h (ru_val (.bool false) (ru_eql (h.ev rfl) (h.ev rfl)) (congrArg Value.bool (decide_eq_false (by have := of_decide_eq_false hz; omega)))) rfl ?_; intro f h
        refine s_pure h (ru_pick_f (h.ev rfl) (h.ev rfl)) rfl ?_; intro f h
        refine s_nil ?_
        refine hK5 _ _ ?_
        refine wpIn_cond_false (h.ev rfl) ?_
        refine wpIn_skip ?_
        refine hK4 _ _ ?_
        refine c_seq fun K7 hK7 => ?_
        refine c_region ?_
        have hgm := (rg_iff (r ++ [m])).1 hr
        have hg : Rg r := hgm.sub (List.sublist_append_left _ _)
        have hr2 := (rg_iff r).2 hg
        have h0 := of_decide_eq_false hz
        have hmm : m ∈ (r ++ [m]) := by simp
        obtain ⟨ha1, ha2⟩ := aft_in hgm hmm (n := 1) (by decide)
        have hal : aftL (r ++ [m]) m.1 1 = [(nxtL (r ++ [m]) m)] := ha2.trans (fol_one _ _)
        have hal1 : (aftL (r ++ [m]) m.1 1).length = 1 := by rw [hal]; rfl
        obtain ⟨e1, e2⟩ := own_ok x9 hr2 h0
        obtain ⟨e3, e4⟩ := own_ok x9 hr (by simp)
        have hco := own_comes hgm (by omega) x9
        refine s_pure h (ru_move (h.ev rfl)) rfl ?_; intro f h
        refine s_load_row 1 h s row24 rfl rfl (by first | exact idArr_size _ | exact bytesF_size _ _) rfl ?_; intro f h
        refine s_call h s fnc10 (owner_any r (cutV vh (min l.length 18)) x9 _ (hlv.keep s.ext) hln) rfl rfl ?_; intro f w1 v9 hT hE h s; obtain rfl := hT
        refine s_pure h (ru_move (h.ev rfl)) rfl ?_; intro f h
        refine s_pure h (ru_extract (h.ev rfl) rfl) rfl ?_; intro f h
        refine s_pure h (ru_extract (h.ev rfl) rfl) rfl ?_; intro f h
        refine s_alloc (mbArr zMb) h s zero30 rfl rfl ?_; intro f w1 b8 h s
        refine s_store_row 0 h s row30 rfl rfl rfl (mbArr_size _) (mbArr_size _) (mbArr_ones _) ?_; intro w1 s
        refine s_pure h (ru_assign (h.ev rfl)) rfl ?_; intro f h
        refine s_nil ?_
        refine hK7 _ _ ?_
        refine c_seq fun K8 hK8 => ?_
        refine c_region ?_
        refine s_pure h (ru_move (h.ev rfl)) rfl ?_; intro f h
        refine s_load_row 2 h s row24 rfl rfl (by first | exact idArr_size _ | exact bytesF_size _ _) rfl ?_; intro f h
        refine s_call h s fnc10 (owner_any (r ++ [m]) v21 x9 _ (RdZ.of_own (s.getSl 1 rfl)) hml) rfl rfl ?_; intro f w1 v9 hT hE h s; obtain rfl := hT
        refine s_pure h (ru_move (h.ev rfl)) rfl ?_; intro f h
        refine s_pure h (ru_extract (h.ev rfl) rfl) rfl ?_; intro f h
        refine s_pure h (ru_extract (h.ev rfl) rfl) rfl ?_; intro f h
        refine s_alloc (mbArr zMb) h s zero30 rfl rfl ?_; intro f w1 b10 h s
        refine s_store_row 0 h s row30 rfl rfl rfl (mbArr_size _) (mbArr_size _) (mbArr_ones _) ?_; intro w1 s
        refine s_pure h (ru_assign (h.ev rfl)) rfl ?_; intro f h
        refine s_nil ?_
        refine hK8 _ _ ?_
        refine c_seq fun K9 hK9 => ?_
        refine c_region ?_
        refine s_pure h (ru_move (h.ev rfl)) rfl ?_; intro f h
        refine s_pure h (ru_field fld30_0 (h.ev rfl)) rfl ?_; intro f h
        refine s_load_at1 (cell_of_has (Has.of_own s 4 rfl) 0 (mbArr_no _)) h one3 rfl rfl ?_; intro f h
        refine s_call h s fnc17 (after_any (r ++ [m]) v21 m.1 1 _ (RdZ.of_own (s.getSl 2 rfl)) hml) rfl rfl ?_; rintro f w1 v9 ⟨va, rfl, hT⟩ hE h sq; replace s := s.sl_new hE hT
        refine s_pure h (ru_move (h.ev rfl)) rfl ?_; intro f h
        refine s_pure h (ru_extract (h.ev rfl) rfl) rfl ?_; intro f h
        refine s_pure h (ru_extract (h.ev rfl) rfl) rfl ?_; intro f h
        refine s_pure h (ru_assign (h.ev rfl)) rfl ?_; intro f h
        refine s_pure h (ru_assign (h.ev rfl)) rfl ?_; intro f h
        refine s_nil ?_
        refine hK9 _ _ ?_
        refine c_seq fun K10 hK10 => ?_
        cases q1 : (decide (ownM (r ++ [m]) x9 = ownM r x9) : Bool)
        · skip
          refine c_walkN 36 [[], [0], [0, 1], [0, 1, 2], [0, 1, 2, 3], [0, 1, 2, 3, 4], [0, 1, 2, 3, 4, 5], [0, 1, 2, 3, 4, 5, 6], [0, 1, 2, 3, 4, 5, 6, 7], [0, 1, 2, 3, 4, 5, 6, 7, 8], [0, 1, 2, 3, 4, 5, 6, 7, 8, 9], [0, 1, 2, 3, 4, 5, 6, 7, 8, 9, 10], [0, 1, 2, 3, 4, 5, 6, 7, 8, 9, 10, 11], [0, 1, 2, 3, 4, 5, 6, 7, 8, 9, 10, 11, 12], [0, 1, 2, 3, 4, 5, 6, 7, 8, 9, 10, 11, 12, 13], [0, 1, 2, 3, 4, 5, 6, 7, 8, 9, 10, 11, 12, 13, 14], [0, 1, 2, 3, 4, 5, 6, 7, 8, 9, 10, 11, 12, 13, 14, 15], [0, 1, 2, 3, 4, 5, 6, 7, 8, 9, 10, 11, 12, 13, 14, 15, 16], [0, 1, 2, 3, 4, 5, 6, 7, 8, 9, 10, 11, 12, 13, 14, 15, 16, 17], [0, 1, 2, 3, 4, 5, 6, 7, 8, 9, 10, 11, 12, 13, 14, 15, 16, 17, 18], [0, 1, 2, 3, 4, 5, 6, 7, 8, 9, 10, 11, 12, 13, 14, 15, 16, 17, 18], [0, 1, 2, 3, 4, 5, 6, 7, 8, 9, 10, 11, 12, 13, 14, 15, 16, 17, 18, 19, 20], [0, 1, 2, 3, 4, 5, 6, 7, 8, 9, 10, 11, 12, 13, 14, 15, 16, 17, 18, 19, 20, 21], [0, 1, 2, 3, 4, 5, 6, 7, 8, 9, 10, 11, 12, 13, 14, 15, 16, 17, 18, 19, 20, 21, 22], [0, 1, 2, 3, 4, 5, 6, 7, 8, 9, 10, 11, 12, 13, 14, 15, 16, 17, 18, 19, 20, 21, 22], [0, 1, 2, 3, 4, 5, 6, 7, 8, 9, 10, 11, 12, 13, 14, 15, 16, 17, 18, 19, 20, 21, 22, 23, 24], [0, 1, 2, 3, 4, 5, 6, 7, 8, 9, 10, 11, 12, 13, 14, 15, 16, 17, 18, 19, 20, 21, 22, 23, 24, 25], [0, 1, 2, 3, 4, 5, 6, 7, 8, 9, 10, 11, 12, 13, 14, 15, 16, 17, 18, 19, 20, 21, 22, 23, 24, 25, 26], [0, 1, 2, 3, 4, 5, 6, 7, 8, 9, 10, 11, 12, 13, 14, 15, 16, 17, 18, 19, 20, 21, 22, 23, 24, 25, 26], [0, 1, 2, 3, 4, 5, 6, 7, 8, 9, 10, 11, 12, 13, 14, 15, 16, 17, 18, 19, 20, 21, 22, 23, 24, 25, 26, 28], [0, 1, 2, 3, 4, 5, 6, 7, 8, 9, 10, 11, 12, 13, 14, 15, 16, 17, 18, 19, 20, 21, 22, 23, 24, 25, 26, 28, 29], [0, 1, 2, 3, 4, 5, 6, 7, 8, 9, 10, 11, 12, 13, 14, 15, 16, 17, 18, 19, 20, 21, 22, 23, 24, 25, 26, 27, 28, 29, 30], [0, 1, 2, 3, 4, 5, 6, 7, 8, 9, 10, 11, 12, 13, 14, 15, 16, 17, 18, 19, 20, 21, 22, 23, 24, 25, 26, 27, 28, 29, 30, 31], [0, 1, 2, 3, 4, 5, 6, 7, 8, 9, 10, 11, 12, 13, 14, 15, 16, 17, 18, 19, 20, 21, 22, 23, 24, 25, 26, 27, 28, 29, 30, 31, 32], [0, 1, 2, 3, 4, 5, 6, 7, 8, 9, 10, 11, 12, 13, 14, 15, 16, 17, 18, 19, 20, 21, 22, 23, 24, 25, 26, 27, 28, 29, 30, 31, 32, 33], [0, 1, 2, 3, 4, 5, 6, 7, 8, 9, 10, 11, 12, 13, 14, 15, 16, 17, 18, 19, 20, 21, 22, 23, 24, 25, 26, 27, 28, 29, 30, 31, 32, 33, 34]] h (by kernel_rfl) (by kernel_rfl) (by kernel_rfl) ?_
          refine w_call h fnc13 (fun w9 hE9 => alive_any w9) rfl rfl ?_; intro f h
          refine w_pure h (ru_move (h.ev rfl)) rfl ?_; intro f h
          refine w_on h rfl rfl rfl ?_
          refine w_pure h (ru_move (h.ev rfl)) rfl ?_; intro f h
          refine w_on h rfl rfl rfl ?_
          refine w_pure h (ru_val (.bool true) (ru_eql (h.ev rfl) (h.ev rfl)) (congrArg Value.bool (decide_eq_true (e1)))) rfl ?_; intro f h
          refine w_pure h (ru_pick_t (h.ev rfl) (h.ev rfl)) rfl ?_; intro f h
          refine w_pure h (ru_move (h.ev rfl)) rfl ?_; intro f h
          refine w_on h rfl rfl rfl ?_
          refine w_pure h (ru_move (h.ev rfl)) rfl ?_; intro f h
          refine w_on h rfl rfl rfl ?_
          refine w_pure h (ru_val (.bool true) (ru_eql (h.ev rfl) (h.ev rfl)) (congrArg Value.bool (decide_eq_true (e3)))) rfl ?_; intro f h
          refine w_pure h (ru_pick_t (h.ev rfl) (h.ev rfl)) rfl ?_; intro f h
          refine w_pure h (ru_move (h.ev rfl)) rfl ?_; intro f h
          refine w_on h rfl rfl rfl ?_
          refine w_pure h (ru_move (h.ev rfl)) rfl ?_; intro f h
          refine w_on h rfl rfl rfl ?_
          refine w_pure h (ru_val (.bool true) (ru_eql (h.ev rfl) (h.ev rfl)) (congrArg Value.bool (decide_eq_true (ha1)))) rfl ?_; intro f h
          refine w_pure h (ru_pick_t (h.ev rfl) (h.ev rfl)) rfl ?_; intro f h
          refine w_pure h (ru_move (h.ev rfl)) rfl ?_; intro f h
          refine w_on h rfl rfl rfl ?_
          refine w_pure h (ru_move (h.ev rfl)) rfl ?_; intro f h
          refine w_on h rfl rfl rfl ?_
          refine w_pure h (ru_lenZ (RdZ.of_own (s.getSl 0 rfl)) Try.underlying22 (h.ev rfl)) rfl ?_; intro f h
          refine w_on h rfl rfl rfl ?_
          refine w_pure h (ru_val (.bool true) (ru_eql (h.ev rfl) (h.ev rfl)) (congrArg Value.bool (decide_eq_true (by omega)))) rfl ?_; intro f h
          refine w_pure h (ru_pick_t (h.ev rfl) (h.ev rfl)) rfl ?_; intro f h
          refine w_pure h (ru_move (h.ev rfl)) rfl ?_; intro f h
          refine w_on h rfl rfl rfl ?_
          refine w_load_row 1 h s row30 rfl rfl (mbArr_size _) rfl ?_; intro f h
          refine w_on h rfl rfl rfl ?_
          refine w_load_row 2 h s row30 rfl rfl (mbArr_size _) rfl ?_; intro f h
          refine w_on h rfl rfl rfl ?_
          refine w_pure h (ru_val (.bool false) (ru_eqlW (eqM _ _) (by kernel_rfl) (by decide) (h.ev rfl) (h.ev rfl) (decide (ownM (r ++ [m]) x9 = ownM r x9)) (mbEq _ _)) (congrArg Value.bool q1)) rfl ?_; intro f h
          refine w_on h rfl rfl rfl ?_
          refine w_pure h (ru_move (h.ev rfl)) rfl ?_; intro f h
          refine w_on h rfl rfl rfl ?_
          refine w_load_row 1 h s row30 rfl rfl (mbArr_size _) rfl ?_; intro f h
          refine w_on h rfl rfl rfl ?_
          refine w_load_row 5 h s row30 rfl rfl (mbArr_size _) rfl ?_; intro f h
          refine w_on h rfl rfl rfl ?_
          refine w_pure h (ru_val (.bool true) (ru_eqlW (eqM _ _) (by kernel_rfl) (by decide) (h.ev rfl) (h.ev rfl) (decide (ownM (r ++ [m]) x9 = m)) (mbEq _ _)) (congrArg Value.bool (decide_eq_true (e4.trans (hco.resolve_left (fun e9 => of_decide_eq_false q1 (by rw [e4, e2, e9]))).1)))) rfl ?_; intro f h
          refine w_on h rfl rfl rfl ?_
          refine w_pure h (ru_move (h.ev rfl)) rfl ?_; intro f h
          refine w_on h rfl rfl rfl ?_
          refine w_load_row 2 h s row30 rfl rfl (mbArr_size _) rfl ?_; intro f h
          refine w_on h rfl rfl rfl ?_
          refine w_pure h (ru_move (h.ev rfl)) rfl ?_; intro f h
          refine w_on h rfl rfl rfl ?_
          refine w_pure h (ru_ixz (RdZ.of_own (s.getSl 0 rfl)) (0) Try.underlying22 szo30 (h.ev rfl) (h.ev rfl) (by omega) (by omega)) rfl ?_; intro f h
          refine w_on h rfl rfl rfl ?_
          refine w_load_at ((RdZ.of_own (s.getSl 0 rfl)).el (0) (by omega) (by decide) (D := mbArr (nxtL (r ++ [m]) m)) (by rw [hal]; exact mb_el [_] 0 Nat.zero_lt_one)) h row30 rfl (mbArr_size _) rfl ?_; intro f h
          refine w_on h rfl rfl rfl ?_
          refine w_pure h (ru_val (.bool true) (ru_eqlW (eqM _ _) (by kernel_rfl) (by decide) (h.ev rfl) (h.ev rfl) (decide (ownM r x9 = (nxtL (r ++ [m]) m))) (mbEq _ _)) (congrArg Value.bool (decide_eq_true (e2.trans (hco.resolve_left (fun e9 => of_decide_eq_false q1 (by rw [e4, e2, e9]))).2)))) rfl ?_; intro f h
          refine w_on h rfl rfl rfl ?_
          refine w_pure h (ru_pick_t (h.ev rfl) (h.ev rfl)) rfl ?_; intro f h
          refine w_on h rfl rfl rfl ?_
          refine w_pure h (ru_pick_f (h.ev rfl) (h.ev rfl)) rfl ?_; intro f h
          refine w_pure h (ru_pick_t (h.ev rfl) (h.ev rfl)) rfl ?_; intro f h
          refine w_pure h (ru_assign (h.ev rfl)) rfl ?_; intro f h
          refine w_nil s fun w1 s => ?_
          refine s_nil ?_
          refine hK10 _ _ ?_
          refine wpIn_ret ?_
          exact e_tmp rfl h s rfl (rfl)
        · skip
          refine c_walkN 36 [[], [0], [0, 1], [0, 1, 2], [0, 1, 2, 3], [0, 1, 2, 3, 4], [0, 1, 2, 3, 4, 5], [0, 1, 2, 3, 4, 5, 6], [0, 1, 2, 3, 4, 5, 6, 7], [0, 1, 2, 3, 4, 5, 6, 7, 8], [0, 1, 2, 3, 4, 5, 6, 7, 8, 9], [0, 1, 2, 3, 4, 5, 6, 7, 8, 9, 10], [0, 1, 2, 3, 4, 5, 6, 7, 8, 9, 10, 11], [0, 1, 2, 3, 4, 5, 6, 7, 8, 9, 10, 11, 12], [0, 1, 2, 3, 4, 5, 6, 7, 8, 9, 10, 11, 12, 13], [0, 1, 2, 3, 4, 5, 6, 7, 8, 9, 10, 11, 12, 13, 14], [0, 1, 2, 3, 4, 5, 6, 7, 8, 9, 10, 11, 12, 13, 14, 15], [0, 1, 2, 3, 4, 5, 6, 7, 8, 9, 10, 11, 12, 13, 14, 15, 16], [0, 1, 2, 3, 4, 5, 6, 7, 8, 9, 10, 11, 12, 13, 14, 15, 16, 17], [0, 1, 2, 3, 4, 5, 6, 7, 8, 9, 10, 11, 12, 13, 14, 15, 16, 17, 18], [0, 1, 2, 3, 4, 5, 6, 7, 8, 9, 10, 11, 12, 13, 14, 15, 16, 17, 18], [0, 1, 2, 3, 4, 5, 6, 7, 8, 9, 10, 11, 12, 13, 14, 15, 16, 17, 18, 19, 20], [0, 1, 2, 3, 4, 5, 6, 7, 8, 9, 10, 11, 12, 13, 14, 15, 16, 17, 18, 19, 20, 21], [0, 1, 2, 3, 4, 5, 6, 7, 8, 9, 10, 11, 12, 13, 14, 15, 16, 17, 18, 19, 20, 21, 22], [0, 1, 2, 3, 4, 5, 6, 7, 8, 9, 10, 11, 12, 13, 14, 15, 16, 17, 18, 19, 20, 21, 22], [0, 1, 2, 3, 4, 5, 6, 7, 8, 9, 10, 11, 12, 13, 14, 15, 16, 17, 18, 19, 20, 21, 22, 23, 24], [0, 1, 2, 3, 4, 5, 6, 7, 8, 9, 10, 11, 12, 13, 14, 15, 16, 17, 18, 19, 20, 21, 22, 23, 24, 25], [0, 1, 2, 3, 4, 5, 6, 7, 8, 9, 10, 11, 12, 13, 14, 15, 16, 17, 18, 19, 20, 21, 22, 23, 24, 25, 26], [0, 1, 2, 3, 4, 5, 6, 7, 8, 9, 10, 11, 12, 13, 14, 15, 16, 17, 18, 19, 20, 21, 22, 23, 24, 25, 26], [0, 1, 2, 3, 4, 5, 6, 7, 8, 9, 10, 11, 12, 13, 14, 15, 16, 17, 18, 19, 20, 21, 22, 23, 24, 25, 26, 28], [0, 1, 2, 3, 4, 5, 6, 7, 8, 9, 10, 11, 12, 13, 14, 15, 16, 17, 18, 19, 20, 21, 22, 23, 24, 25, 26, 28, 29], [0, 1, 2, 3, 4, 5, 6, 7, 8, 9, 10, 11, 12, 13, 14, 15, 16, 17, 18, 19, 20, 21, 22, 23, 24, 25, 26, 27, 28, 29, 30], [0, 1, 2, 3, 4, 5, 6, 7, 8, 9, 10, 11, 12, 13, 14, 15, 16, 17, 18, 19, 20, 21, 22, 23, 24, 25, 26, 27, 28, 29, 30, 31], [0, 1, 2, 3, 4, 5, 6, 7, 8, 9, 10, 11, 12, 13, 14, 15, 16, 17, 18, 19, 20, 21, 22, 23, 24, 25, 26, 27, 28, 29, 30, 31, 32], [0, 1, 2, 3, 4, 5, 6, 7, 8, 9, 10, 11, 12, 13, 14, 15, 16, 17, 18, 19, 20, 21, 22, 23, 24, 25, 26, 27, 28, 29, 30, 31, 32, 33], [0, 1, 2, 3, 4, 5, 6, 7, 8, 9, 10, 11, 12, 13, 14, 15, 16, 17, 18, 19, 20, 21, 22, 23, 24, 25, 26, 27, 28, 29, 30, 31, 32, 33, 34]] h (by kernel_rfl) (by kernel_rfl) (by kernel_rfl) ?_
          refine w_call h fnc13 (fun w9 hE9 => alive_any w9) rfl rfl ?_; intro f h
          refine w_pure h (ru_move (h.ev rfl)) rfl ?_; intro f h
          refine w_on h rfl rfl rfl ?_
          refine w_pure h (ru_move (h.ev rfl)) rfl ?_; intro f h
          refine w_on h rfl rfl rfl ?_
          refine w_pure h (ru_val (.bool true) (ru_eql (h.ev rfl) (h.ev rfl)) (congrArg Value.bool (decide_eq_true (e1)))) rfl ?_; intro f h
          refine w_pure h (ru_pick_t (h.ev rfl) (h.ev rfl)) rfl ?_; intro f h
          refine w_pure h (ru_move (h.ev rfl)) rfl ?_; intro f h
          refine w_on h rfl rfl rfl ?_
          refine w_pure h (ru_move (h.ev rfl)) rfl ?_; intro f h
          refine w_on h rfl rfl rfl ?_
          refine w_pure h (ru_val (.bool true) (ru_eql (h.ev rfl) (h.ev rfl)) (congrArg Value.bool (decide_eq_true (e3)))) rfl ?_; intro f h
          refine w_pure h (ru_pick_t (h.ev rfl) (h.ev rfl)) rfl ?_; intro f h
          refine w_pure h (ru_move (h.ev rfl)) rfl ?_; intro f h
          refine w_on h rfl rfl rfl ?_
          refine w_pure h (ru_move (h.ev rfl)) rfl ?_; intro f h
          refine w_on h rfl rfl rfl ?_
          refine w_pure h (ru_val (.bool true) (ru_eql (h.ev rfl) (h.ev rfl)) (congrArg Value.bool (decide_eq_true (ha1)))) rfl ?_; intro f h
          refine w_pure h (ru_pick_t (h.ev rfl) (h.ev rfl)) rfl ?_; intro f h
          refine w_pure h (ru_move (h.ev rfl)) rfl ?_; intro f h
          refine w_on h rfl rfl rfl ?_
          refine w_pure h (ru_move (h.ev rfl)) rfl ?_; intro f h
          refine w_on h rfl rfl rfl ?_
          refine w_pure h (ru_lenZ (RdZ.of_own (s.getSl 0 rfl)) Try.underlying22 (h.ev rfl)) rfl ?_; intro f h
          refine w_on h rfl rfl rfl ?_
          refine w_pure h (ru_val (.bool true) (ru_eql (h.ev rfl) (h.ev rfl)) (congrArg Value.bool (decide_eq_true (by omega)))) rfl ?_; intro f h
          refine w_pure h (ru_pick_t (h.ev rfl) (h.ev rfl)) rfl ?_; intro f h
          refine w_pure h (ru_move (h.ev rfl)) rfl ?_; intro f h
          refine w_on h rfl rfl rfl ?_
          refine w_load_row 1 h s row30 rfl rfl (mbArr_size _) rfl ?_; intro f h
          refine w_on h rfl rfl rfl ?_
          refine w_load_row 2 h s row30 rfl rfl (mbArr_size _) rfl ?_; intro f h
          refine w_on h rfl rfl rfl ?_
          refine w_pure h (ru_val (.bool true) (ru_eqlW (eqM _ _) (by kernel_rfl) (by decide) (h.ev rfl) (h.ev rfl) (decide (ownM (r ++ [m]) x9 = ownM r x9)) (mbEq _ _)) (congrArg Value.bool q1)) rfl ?_; intro f h
          refine w_on h rfl rfl rfl ?_
          refine w_pure h (ru_move (h.ev rfl)) rfl ?_; intro f h
          refine w_off (b := false) h rfl rfl rfl rfl ?_; intro f h
          refine w_off (b := false) h rfl rfl rfl rfl ?_; intro f h
          refine w_off (b := false) h rfl rfl rfl rfl ?_; intro f h
          refine w_off (b := false) h rfl rfl rfl rfl ?_; intro f h
          refine w_none h rfl rfl rfl rfl ?_; intro f h
          refine w_none h rfl rfl rfl rfl ?_; intro f h
          refine w_none h rfl rfl rfl rfl ?_; intro f h
          refine w_none h rfl rfl rfl rfl ?_; intro f h
          refine w_none h rfl rfl rfl rfl ?_; intro f h
          refine w_off (b := false) h rfl rfl rfl rfl ?_; intro f h
          refine w_on h rfl rfl rfl ?_
          refine w_pure h (ru_pick_t (h.ev rfl) (h.ev rfl)) rfl ?_; intro f h
          refine w_pure h (ru_pick_t (h.ev rfl) (h.ev rfl)) rfl ?_; intro f h
          refine w_pure h (ru_assign (h.ev rfl)) rfl ?_; intro f h
          refine w_nil s fun w1 s => ?_
          refine s_nil ?_
          refine hK10 _ _ ?_
          refine wpIn_ret ?_
          exact e_tmp rfl h s rfl (rfl)
      · skip
        refine c_region ?_
        refine s_pure h (ru_move (h.ev rfl)) rfl ?_; intro f h
        refine s_call h s fnc11 (ret_val (.bool true) (right_any (r ++ [m]) v21 _ (RdZ.of_own (s.getSl 0 rfl)) hml) (congrArg Value.bool hr)) rfl rfl ?_; intro f w1 v9 hT hE h s; obtain rfl := hT
        refine s_pure h (ru_val (.bool false) (ru_not (h.ev rfl)) rfl) rfl ?_; intro f h
        refine s_pure h (ru_move (h.ev rfl)) rfl ?_; intro f h
        refine s_on h rfl rfl rfl ?_
        refine s_pure h (ru_move (h.ev rfl)) rfl ?_; intro f h
        refine s_on h rfl rfl rfl ?_
        refine s_pure h (ru_lenZ (hlv.keep s.ext) Try.underlying22 (h.ev rfl)) rfl ?_; intro f h
        refine s_on h rfl rfl rfl ?_
        refine s_pure h (ru_val (.bool true) (ru_eql (h.ev rfl) (h.ev rfl)) (congrArg Value.bool (decide_eq_true (by have := of_decide_eq_true hz; omega)))) rfl ?_; intro f h
        refine s_pure h (ru_pick_f (h.ev rfl) (h.ev rfl)) rfl ?_; intro f h
        refine s_nil ?_
        refine hK5 _ _ ?_
        refine wpIn_cond_true (h.ev rfl) ?_
        refine c_seq fun K11 hK11 => ?_
        refine c_region ?_
        refine s_call h s fnc13 (alive_any _) rfl rfl ?_; intro f w1 v9 hT hE h s; obtain rfl := hT
        refine s_pure h (ru_assign (h.ev rfl)) rfl ?_; intro f h
        refine s_nil ?_
        refine hK11 _ _ ?_
        refine wpIn_ret ?_
        refine t_ret ?_
        exact e_tmp rfl h s rfl (rfl)
end Go.Proofs.Ytgnijdeieglpkaa
