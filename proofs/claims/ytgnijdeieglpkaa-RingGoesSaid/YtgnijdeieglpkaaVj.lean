/- What RingGoes answers: for all lists of members, places and identifiers. -/
import Derived.Test.YtgnijdeieglpkaaVd
import Derived.Test.YtgnijdeieglpkaaVe
set_option linter.unusedVariables false
set_option linter.unusedSimpArgs false
set_option linter.unusedSectionVars false
namespace Go.Proofs.Ytgnijdeieglpkaa
open Go.RowKit
set_option maxHeartbeats 4000000 in
theorem rgoes_any (l : List Mb) (vh : Value) (at9 : Int) (x9 : Id) (w : World) (hR : RdZ w vh 33 l.length (mbCells l)) : Calls Try.prog 7 [vh, .int .i64 at9, idV x9].toArray w (Ret w (is (.bool true))) := by
  have hlv := mb_take hR (min l.length 18) (by omega)
  obtain ⟨r, hr9⟩ : ∃ x9, x9 = l.take (min l.length 18) := ⟨_, rfl⟩
  rw [← hr9] at hlv
  have hln8 : r.length ≤ 18 := by rw [hr9, List.length_take]; omega
  have hln : r.length ≤ 1000 := by omega
  refine c_enter Try.func7 rfl Try.ntmps7 rfl [(0, vh), (1, .int .i64 at9), (2, idV x9)] (by simp) fun f h => ?_
  have s := St.start w
  refine c_seq fun K1 hK1 => ?_
  refine c_region ?_
  refine s_box (idArr x9) h s rfl rfl rfl ?_; intro f w1 b5 h s
  refine s_pure h (ru_assign (h.ev rfl)) rfl ?_; intro f h
  refine s_nil ?_
  refine hK1 _ _ ?_
  refine c_seq fun K2 hK2 => ?_
  refine c_region ?_
  refine s_pure h (ru_move (h.ev rfl)) rfl ?_; intro f h
  refine s_call h s fnc8 (few_any l vh _ (hR.keep s.ext)) rfl rfl ?_; intro f w1 v9 hT hE h s; obtain rfl := hT
  refine s_pure h (ru_assign (h.ev rfl)) rfl ?_; intro f h
  refine s_nil ?_
  refine hK2 _ _ ?_
  refine c_seq fun K3 hK3 => ?_
  refine c_seq fun K4 hK4 => ?_
  cases hr : (rightR r : Bool)
  · skip
    refine c_region ?_
    refine s_pure h (ru_move (h.ev rfl)) rfl ?_; intro f h
    refine s_call h s fnc11 (ret_val (.bool false) (right_any r (cutV vh (min l.length 18)) _ (hlv.keep s.ext) hln) (congrArg Value.bool hr)) rfl rfl ?_; intro f w1 v9 hT hE h s; obtain rfl := hT
    refine s_pure h (ru_val (.bool true) (ru_not (h.ev rfl)) rfl) rfl ?_; intro f h
    refine s_pure h (ru_move (h.ev rfl)) rfl ?_; intro f h
    refine s_off (b := false) h rfl rfl rfl rfl ?_; intro f h
    refine s_off (b := false) h rfl rfl rfl rfl ?_; intro f h
    refine s_off (b := false) h rfl rfl rfl rfl ?_; intro f h
    refine s_pure h (ru_pick_t (h.ev rfl) (h.ev rfl)) rfl ?_; intro f h
    refine s_nil ?_
    refine hK4 _ _ ?_
    refine wpIn_cond_true (h.ev rfl) ?_
    refine c_seq fun K5 hK5 => ?_
    refine c_region ?_
    refine s_call h s fnc13 (alive_any _) rfl rfl ?_; intro f w1 v9 hT hE h s; obtain rfl := hT
    refine s_pure h (ru_assign (h.ev rfl)) rfl ?_; intro f h
    refine s_nil ?_
    refine hK5 _ _ ?_
    refine wpIn_ret ?_
    refine t_ret ?_
    exact e_tmp rfl h s rfl (rfl)
  · skip
    cases hz : (decide (r.length < 2) : Bool)
    · skip
      refine c_region ?_
      refine s_pure h (ru_move (h.ev rfl)) rfl ?_; intro f h
      refine s_call h s fnc11 (ret_val (.bool true) (right_any r (cutV vh (min l.length 18)) _ (hlv.keep s.ext) hln) (congrArg Value.bool hr)) rfl rfl ?_; intro f w1 v9 hT hE h s; obtain rfl := hT
      refine s_pure h (ru_val (.bool false) (ru_not (h.ev rfl)) rfl) rfl ?_; intro f h
      refine s_pure h (ru_move (h.ev rfl)) rfl ?_; intro f h
      refine s_on h rfl rfl rfl ?_
      refine s_pure h (ru_move (h.ev rfl)) rfl ?_; intro f h
      refine s_on h rfl rfl rfl ?_
      refine s_pure h (ru_lenZ (hlv.keep s.ext) Try.underlying22 (h.ev rfl)) rfl ?_; intro f h
      refine s_on h rfl rfl rfl ?_
      refine s_pure h (ru_val (.bool false) (ru_lss (h.ev rfl) (h.ev rfl)) (congrArg Value.bool (decide_eq_false (by have := of_decide_eq_false hz; omega)))) rfl ?_; intro f h
      refine s_pure h (ru_pick_f (h.ev rfl) (h.ev rfl)) rfl ?_; intro f h
      refine s_nil ?_
      refine hK4 _ _ ?_
      refine wpIn_cond_false (h.ev rfl) ?_
      refine wpIn_skip ?_
      refine hK3 _ _ ?_
      refine c_seq fun K6 hK6 => ?_
      refine c_region ?_
      have hg := (rg_iff r).1 hr
      have h2n : 2 ≤ r.length := by have := of_decide_eq_false hz; omega
      obtain ⟨i9, hil, hi9, hb1, hb2⟩ := rot_at at9 r.length (by omega)
      have hmi := mb_mem hil
      have htk9 : (r.take i9).length ≤ 18 := by rw [List.length_take]; omega
      have hgo := own_goes hg i9 hil h2n x9
      have hge : Rg (r.eraseIdx i9) := hg.sub (List.eraseIdx_sublist r i9)
      have hre := (rg_iff _).2 hge
      have hel : (r.eraseIdx i9).length = r.length - 1 := by rw [List.length_eraseIdx, if_pos hil]
      obtain ⟨e1, e2⟩ := own_ok x9 hr (by omega)
      obtain ⟨e3, e4⟩ := own_ok x9 hre (by omega)
      obtain ⟨ha1, ha2⟩ := aft_in hg hmi (n := r.length) hg.len
      have hal : (aftL r (r.getD i9 zMb).1 (r.length : Int)).length = r.length := by rw [ha2, fol_len]
      refine s_pure h (ru_move (h.ev rfl)) rfl ?_; intro f h
      refine s_pure h (ru_move (h.ev rfl)) rfl ?_; intro f h
      refine s_pure h (ru_lenZ (hlv.keep s.ext) Try.underlying22 (h.ev rfl)) rfl ?_; intro f h
      refine s_pure h (ru_remt (h.ev rfl) (h.ev rfl) (by omega)) rfl ?_; intro f h
      refine s_pure h (ru_move (h.ev rfl)) rfl ?_; intro f h
      refine s_pure h (ru_lenZ (hlv.keep s.ext) Try.underlying22 (h.ev rfl)) rfl ?_; intro f h
      refine s_pure h (ru_add (h.ev rfl) (h.ev rfl) (by omega)) rfl ?_; intro f h
      refine s_pure h (ru_move (h.ev rfl)) rfl ?_; intro f h
      refine s_pure h (ru_lenZ (hlv.keep s.ext) Try.underlying22 (h.ev rfl)) rfl ?_; intro f h
      refine s_pure h (ru_val (.int .i64 (i9 : Int)) (ru_rem (h.ev rfl) (h.ev rfl) (by omega)) (congrArg (Value.int .i64) hi9)) rfl ?_; intro f h
      refine s_pure h (ru_assign (h.ev rfl)) rfl ?_; intro f h
      refine s_nil ?_
      refine hK6 _ _ ?_
      refine c_seq fun K7 hK7 => ?_
      refine c_region ?_
      refine s_pure h (ru_move (h.ev rfl)) rfl ?_; intro f h
      refine s_pure h (ru_move (h.ev rfl)) rfl ?_; intro f h
      refine s_pure h (ru_ixz (hlv.keep s.ext) (i9) Try.underlying22 szo30 (h.ev rfl) (h.ev rfl) (rfl) (by omega)) rfl ?_; intro f h
      refine s_load_at ((hlv.keep s.ext).el (i9) (by omega) (by decide) (D := mbArr (r.getD i9 zMb)) (mb_elD r i9 hil)) h row30 rfl (mbArr_size _) rfl ?_; intro f h
      refine s_alloc (mbArr zMb) h s zero30 rfl rfl ?_; intro f w1 b7 h s
      refine s_store_row 0 h s row30 rfl rfl rfl (mbArr_size _) (mbArr_size _) (mbArr_ones _) ?_; intro w1 s
      refine s_nil ?_
      refine hK7 _ _ ?_
      refine c_seq fun K8 hK8 => ?_
      refine c_region ?_
      refine s_pure h (ru_move (h.ev rfl)) rfl ?_; intro f h
      refine s_pure h (ru_field fld30_0 (h.ev rfl)) rfl ?_; intro f h
      refine s_load_at1 (cell_of_has (Has.of_own s 0 rfl) 0 (mbArr_no _)) h one3 rfl rfl ?_; intro f h
      refine s_pure h (ru_move (h.ev rfl)) rfl ?_; intro f h
      refine s_pure h (ru_lenZ (hlv.keep s.ext) Try.underlying22 (h.ev rfl)) rfl ?_; intro f h
      refine s_call h s fnc17 (after_any r (cutV vh (min l.length 18)) (r.getD i9 zMb).1 (r.length : Int) _ (hlv.keep s.ext) hln) rfl rfl ?_; rintro f w1 v9 ⟨va, rfl, hT⟩ hE h sq; replace s := s.sl_new hE hT
      refine s_pure h (ru_move (h.ev rfl)) rfl ?_; intro f h
      refine s_pure h (ru_extract (h.ev rfl) rfl) rfl ?_; intro f h
      refine s_pure h (ru_extract (h.ev rfl) rfl) rfl ?_; intro f h
      refine s_pure h (ru_assign (h.ev rfl)) rfl ?_; intro f h
      refine s_pure h (ru_assign (h.ev rfl)) rfl ?_; intro f h
      refine s_nil ?_
      refine hK8 _ _ ?_
      refine c_seq fun K9 hK9 => ?_
      have hbs := s.ext.le
      refine' c_reg2 5 [1, 2, 3, 5, 6, 7, 8] [] [[], [], [], [1, 2], [0, 1, 2, 3], [], [], [6], [5, 6, 7], [0, 1, 2, 3, 4, 5, 6, 7, 8], [0, 1, 2, 3, 4, 5, 6, 7, 8, 9]] ((Emp w1.heap.size 30) :: is _ :: is _ :: is _ :: (fun v w9 => Owns w9 w1.heap.size 30 33 v (r.take i9).length (mbCells (r.take i9))) :: is _ :: is _ :: is _ :: is _ :: is undef :: is undef :: []) (fun _ => True) h s (by kernel_rfl) (by kernel_rfl) (by kernel_rfl) (by kernel_rfl) rfl (fun _ _ h _ => h) (trivial) ⟨⟨_, rfl⟩, ⟨_, rfl⟩, ⟨_, rfl⟩, ⟨_, rfl⟩, ⟨_, rfl⟩, ⟨_, rfl⟩, ⟨_, rfl⟩, trivial⟩ ⟨Emp.mono _ _, is_mono _, is_mono _, is_mono _, ownsM _ _ _ _ _, is_mono _, is_mono _, is_mono _, is_mono _, is_mono _, is_mono _, trivial⟩ (And.intro ?_ (And.intro ?_ (And.intro ?_ (And.intro ?_ (And.intro ?_ (And.intro ?_ (And.intro ?_ (And.intro ?_ (And.intro ?_ (And.intro ?_ (And.intro ?_ (trivial)))))))))))) ?_
      rotate_left 7
      · refine obF_in 52 rfl (by decide) (by decide) ?_
        intro f9 w2 hE hs hd9 hl
        have h := fin_slot [] hs hd9 (holds_lk trivial)
        have s := s.more hE
        have z := St.start w2
        refine s_bslice0 (base := w1.heap.size) h Try.underlying22 elm30 hE.le rfl ?_; intro f w3 v3 h hE3 hm3
        refine s_nil ?_
        exact ⟨by rw [h.holds 52 _ rfl]; exact hm3, hE3, fun h9 => absurd h9 (by decide)⟩
      · refine obH_in 53 rfl (by decide) ?_
        intro f9 w2 hE hs hl
        have e0 : f9.tmps.getD 0 undef = _ := sx_old hl 0 (by kernel_rfl) (by kernel_rfl) (h.holds 0 _ rfl)
        have h := fin_slot [(0, _)] hs rfl (holds_lk ⟨e0, trivial⟩)
        refine s_pure h (ru_move (h.ev rfl)) rfl ?_; intro f h
        refine s_nil ?_
        have e9 := h.holds 53 _ rfl
        refine ⟨?_, rfl⟩
        refine e9.trans ?_
        exact rfl
      · refine obH_in 54 rfl (by decide) ?_
        intro f9 w2 hE hs hl
        have e1 : f9.tmps.getD 1 undef = _ := sx_old hl 1 (by kernel_rfl) (by kernel_rfl) (h.holds 1 _ rfl)
        have h := fin_slot [(1, _)] hs rfl (holds_lk ⟨e1, trivial⟩)
        refine s_pure h (ru_move (h.ev rfl)) rfl ?_; intro f h
        refine s_nil ?_
        have e9 := h.holds 54 _ rfl
        refine ⟨?_, rfl⟩
        refine e9.trans ?_
        exact rfl
      · refine obH_in 55 rfl (by decide) ?_
        intro f9 w2 hE hs hl
        have e53 : f9.tmps.getD 53 undef = _ := sx_get hl 53 1 (by kernel_rfl) (by kernel_rfl)
        have e54 : f9.tmps.getD 54 undef = _ := sx_get hl 54 2 (by kernel_rfl) (by kernel_rfl)
        have h := fin_slot [(53, _), (54, _)] hs rfl (holds_lk ⟨e53, e54, trivial⟩)
        refine s_pure h (ru_slice_hiZ (hlv.keep s.ext) (i9) Try.underlying22 szo30 (h.ev rfl) (h.ev rfl) (rfl) (by omega)) rfl ?_; intro f h
        refine s_nil ?_
        have e9 := h.holds 55 _ rfl
        refine ⟨?_, rfl⟩
        refine e9.trans ?_
        exact rfl
      · refine obF_in 56 rfl (by decide) (by decide) ?_
        intro f9 w2 hE hs hd9 hl
        obtain ⟨u52, hu52⟩ : ∃ v, f9.tmps.getD 52 undef = v := ⟨_, rfl⟩
        have e52 : (Emp w1.heap.size 30) u52 w2 := by rw [← hu52]; exact sx_get hl 52 0 (by kernel_rfl) (by kernel_rfl)
        have e55 : f9.tmps.getD 55 undef = _ := sx_get hl 55 3 (by kernel_rfl) (by kernel_rfl)
        have h := fin_slot [(52, u52), (55, _)] hs hd9 (holds_lk ⟨hu52, e55, trivial⟩)
        have s := s.more hE
        have z := St.start w2
        refine s_append_emp (base := w1.heap.size) e52 ((mb_take hlv i9 (by omega)).keep s.ext) h Try.underlying22 elm30 rfl rfl hE.le (mbCells_ones _) (by unfold maxLen; omega) (by omega) rfl ?_; intro f w3 v3 h hE3 hO
        refine s_nil ?_
        exact ⟨by rw [h.holds 56 _ rfl]; exact hO, hE3, fun h9 => absurd h9 (by decide)⟩
      · refine obH_in 57 rfl (by decide) ?_
        intro f9 w2 hE hs hl
        have e0 : f9.tmps.getD 0 undef = _ := sx_old hl 0 (by kernel_rfl) (by kernel_rfl) (h.holds 0 _ rfl)
        have h := fin_slot [(0, _)] hs rfl (holds_lk ⟨e0, trivial⟩)
        refine s_pure h (ru_move (h.ev rfl)) rfl ?_; intro f h
        refine s_nil ?_
        have e9 := h.holds 57 _ rfl
        refine ⟨?_, rfl⟩
        refine e9.trans ?_
        exact rfl
      · refine obH_in 58 rfl (by decide) ?_
        intro f9 w2 hE hs hl
        have e1 : f9.tmps.getD 1 undef = _ := sx_old hl 1 (by kernel_rfl) (by kernel_rfl) (h.holds 1 _ rfl)
        have h := fin_slot [(1, _)] hs rfl (holds_lk ⟨e1, trivial⟩)
        refine s_pure h (ru_move (h.ev rfl)) rfl ?_; intro f h
        refine s_nil ?_
        have e9 := h.holds 58 _ rfl
        refine ⟨?_, rfl⟩
        refine e9.trans ?_
        exact rfl
      · refine obH_in 59 rfl (by decide) ?_
        intro f9 w2 hE hs hl
        have e58 : f9.tmps.getD 58 undef = _ := sx_get hl 58 6 (by kernel_rfl) (by kernel_rfl)
        have h := fin_slot [(58, _)] hs rfl (holds_lk ⟨e58, trivial⟩)
        refine s_pure h (ru_add (h.ev rfl) (h.ev rfl) (by omega)) rfl ?_; intro f h
        refine s_nil ?_
        have e9 := h.holds 59 _ rfl
        refine ⟨?_, rfl⟩
        refine e9.trans ?_
        exact rfl
      · refine obH_in 60 rfl (by decide) ?_
        intro f9 w2 hE hs hl
        have e57 : f9.tmps.getD 57 undef = _ := sx_get hl 57 5 (by kernel_rfl) (by kernel_rfl)
        have e59 : f9.tmps.getD 59 undef = _ := sx_get hl 59 7 (by kernel_rfl) (by kernel_rfl)
        have h := fin_slot [(57, _), (59, _)] hs rfl (holds_lk ⟨e57, e59, trivial⟩)
        refine s_pure h (ru_slice_loZ (hlv.keep s.ext) (i9 + 1) Try.underlying22 szo30 (h.ev rfl) (h.ev rfl) (by omega) (by omega)) rfl ?_; intro f h
        refine s_nil ?_
        have e9 := h.holds 60 _ rfl
        refine ⟨?_, rfl⟩
        refine e9.trans ?_
        exact rfl
      · exact obT_in (by decide) (by decide)
      · exact obT_in (by decide) (by decide)
      · intro f9 w2 hE hs hd9 hWp hT hR hFr hDj
        obtain ⟨u52, hu52⟩ : ∃ v, f9.tmps.getD 52 undef = v := ⟨_, rfl⟩
        have e52 : (Emp w1.heap.size 30) u52 w2 := by rw [← hu52]; exact hT 0 52 (by decide) rfl
        obtain ⟨u56, hu56⟩ : ∃ v, f9.tmps.getD 56 undef = v := ⟨_, rfl⟩
        have e56 : (fun v w9 => Owns w9 w1.heap.size 30 33 v (r.take i9).length (mbCells (r.take i9))) u56 w2 := by rw [← hu56]; exact hT 4 56 (by decide) rfl
        replace h := sl_new (ops := _) [(52, u52), (53, _), (54, _), (55, _), (56, u56), (57, _), (58, _), (59, _), (60, _)] h hs hd9 hR ⟨hu52, hT 1 53 (by decide) rfl, hT 2 54 (by decide) rfl, hT 3 55 (by decide) rfl, hu56, hT 5 57 (by decide) rfl, hT 6 58 (by decide) rfl, hT 7 59 (by decide) rfl, hT 8 60 (by decide) rfl, trivial⟩ (by kernel_rfl)
        replace s := s.sl_new hE e56
        clear hT hR hFr hDj
        refine LstW.of ?_
        refine s_append_rd 0 ((mb_drop hlv (i9 + 1) (by omega)).keep s.ext) h s Try.underlying22 elm30 rfl rfl rfl (mbCells_ones _) (by rw [List.length_take, List.length_drop]; unfold maxLen; omega) (by rw [List.length_take, List.length_drop]; omega) rfl ?_; intro f w1 v61 h s
        replace s := s.resl (m := (r.eraseIdx i9).length) (ys := mbCells (r.eraseIdx i9)) 0 rfl (by rw [List.eraseIdx_eq_take_drop_succ, List.length_append]) (by rw [List.eraseIdx_eq_take_drop_succ, mbCells_app])
        refine s_pure h (ru_assign (h.ev rfl)) rfl ?_; intro f h
        refine s_nil ?_
        refine hK9 _ _ ?_
        refine c_seq fun K10 hK10 => ?_
        refine c_region ?_
        refine s_pure h (ru_move (h.ev rfl)) rfl ?_; intro f h
        refine s_load_row 3 h s row24 rfl rfl (by first | exact idArr_size _ | exact bytesF_size _ _) rfl ?_; intro f h
        refine s_call h s fnc10 (owner_any r (cutV vh (min l.length 18)) x9 _ (hlv.keep s.ext) hln) rfl rfl ?_; intro f w1 v9 hT hE h s; obtain rfl := hT
        refine s_pure h (ru_move (h.ev rfl)) rfl ?_; intro f h
        refine s_pure h (ru_extract (h.ev rfl) rfl) rfl ?_; intro f h
        refine s_pure h (ru_extract (h.ev rfl) rfl) rfl ?_; intro f h
        refine s_alloc (mbArr zMb) h s zero30 rfl rfl ?_; intro f w1 b11 h s
        refine s_store_row 0 h s row30 rfl rfl rfl (mbArr_size _) (mbArr_size _) (mbArr_ones _) ?_; intro w1 s
        refine s_pure h (ru_assign (h.ev rfl)) rfl ?_; intro f h
        refine s_nil ?_
        refine hK10 _ _ ?_
        refine c_seq fun K11 hK11 => ?_
        refine c_region ?_
        refine s_pure h (ru_move (h.ev rfl)) rfl ?_; intro f h
        refine s_load_row 4 h s row24 rfl rfl (by first | exact idArr_size _ | exact bytesF_size _ _) rfl ?_; intro f h
        refine s_call h s fnc10 (owner_any (r.eraseIdx i9) v61 x9 _ (RdZ.of_own (s.getSl 1 rfl)) (by omega)) rfl rfl ?_; intro f w1 v9 hT hE h s; obtain rfl := hT
        refine s_pure h (ru_move (h.ev rfl)) rfl ?_; intro f h
        refine s_pure h (ru_extract (h.ev rfl) rfl) rfl ?_; intro f h
        refine s_pure h (ru_extract (h.ev rfl) rfl) rfl ?_; intro f h
        refine s_alloc (mbArr zMb) h s zero30 rfl rfl ?_; intro f w1 b13 h s
        refine s_store_row 0 h s row30 rfl rfl rfl (mbArr_size _) (mbArr_size _) (mbArr_ones _) ?_; intro w1 s
        refine s_pure h (ru_assign (h.ev rfl)) rfl ?_; intro f h
        refine s_nil ?_
        refine hK11 _ _ ?_
        refine c_seq fun K12 hK12 => ?_
        refine c_seq fun K13 hK13 => ?_
        refine c_walkN 31 [[], [0], [0, 1], [0, 1, 2], [0, 1, 2, 3], [0, 1, 2, 3, 4], [0, 1, 2, 3, 4, 5], [0, 1, 2, 3, 4, 5, 6], [0, 1, 2, 3, 4, 5, 6, 7], [0, 1, 2, 3, 4, 5, 6, 7, 8], [0, 1, 2, 3, 4, 5, 6, 7, 8, 9], [0, 1, 2, 3, 4, 5, 6, 7, 8, 9, 10], [0, 1, 2, 3, 4, 5, 6, 7, 8, 9, 10, 11], [0, 1, 2, 3, 4, 5, 6, 7, 8, 9, 10], [0, 1, 2, 3, 4, 5, 6, 7, 8, 9, 10, 13], [0, 1, 2, 3, 4, 5, 6, 7, 8, 9, 10, 11, 12, 13, 14], [0, 1, 2, 3, 4, 5, 6, 7, 8, 9, 10, 11, 12, 13, 14, 15], [0, 1, 2, 3, 4, 5, 6, 7, 8, 9, 10, 11, 12, 13, 14, 15, 16], [0, 1, 2, 3, 4, 5, 6, 7, 8, 9, 10, 11, 12, 13, 14, 15, 16, 17], [0, 1, 2, 3, 4, 5, 6, 7, 8, 9, 10, 11, 12, 13, 14, 15, 16, 17], [0, 1, 2, 3, 4, 5, 6, 7, 8, 9, 10, 11, 12, 13, 14, 15, 16, 17, 19], [0, 1, 2, 3, 4, 5, 6, 7, 8, 9, 10, 11, 12, 13, 14, 15, 16, 17, 19, 20], [0, 1, 2, 3, 4, 5, 6, 7, 8, 9, 10, 11, 12, 13, 14, 15, 16, 17, 18, 19, 20, 21], [0, 1, 2, 3, 4, 5, 6, 7, 8, 9, 10, 11, 12, 13, 14, 15, 16, 17, 18, 19, 20, 21, 22], [0, 1, 2, 3, 4, 5, 6, 7, 8, 9, 10, 11, 12, 13, 14, 15, 16, 17], [0, 1, 2, 3, 4, 5, 6, 7, 8, 9, 10, 11, 12, 13, 14, 15, 16, 17, 18, 19, 20, 21, 22, 23, 24], [0, 1, 2, 3, 4, 5, 6, 7, 8, 9, 10, 11, 12, 13, 14, 15, 16, 17, 18, 19, 20, 21, 22, 23, 24, 25], [0, 1, 2, 3, 4, 5, 6, 7, 8, 9, 10, 11, 12, 13, 14, 15, 16, 17, 18, 19, 20, 21, 22, 23, 24, 25, 26], [0, 1, 2, 3, 4, 5, 6, 7, 8, 9, 10, 11, 12, 13, 14, 15, 16, 17, 18, 19, 20, 21, 22, 23, 24, 25, 26, 27], [0, 1, 2, 3, 4, 5, 6, 7, 8, 9, 10, 11, 12, 13, 14, 15, 16, 17, 18, 19, 20, 21, 22, 23, 24, 25, 26, 27, 28], [0, 1, 2, 3, 4, 5, 6, 7, 8, 9, 10, 11, 12, 13, 14, 15, 16, 17, 18, 19, 20, 21, 22, 23, 24, 25, 26, 27, 28, 29]] h (by kernel_rfl) (by kernel_rfl) (by kernel_rfl) ?_
        refine w_pure h (ru_move (h.ev rfl)) rfl ?_; intro f h
        refine w_pure h (ru_val (.bool false) (ru_neq (h.ev rfl) (h.ev rfl)) (congrArg Value.bool (decide_eq_false (not_not_intro ha1)))) rfl ?_; intro f h
        refine w_pure h (ru_move (h.ev rfl)) rfl ?_; intro f h
        refine w_on h rfl rfl rfl ?_
        refine w_pure h (ru_move (h.ev rfl)) rfl ?_; intro f h
        refine w_on h rfl rfl rfl ?_
        refine w_pure h (ru_val (.bool false) (ru_neq (h.ev rfl) (h.ev rfl)) (congrArg Value.bool (decide_eq_false (not_not_intro e1)))) rfl ?_; intro f h
        refine w_pure h (ru_pick_f (h.ev rfl) (h.ev rfl)) rfl ?_; intro f h
        refine w_pure h (ru_move (h.ev rfl)) rfl ?_; intro f h
        refine w_on h rfl rfl rfl ?_
        refine w_pure h (ru_move (h.ev rfl)) rfl ?_; intro f h
        refine w_on h rfl rfl rfl ?_
        refine w_pure h (ru_val (.bool false) (ru_neq (h.ev rfl) (h.ev rfl)) (congrArg Value.bool (decide_eq_false (not_not_intro e3)))) rfl ?_; intro f h
        refine w_pure h (ru_pick_f (h.ev rfl) (h.ev rfl)) rfl ?_; intro f h
        refine w_pure h (ru_move (h.ev rfl)) rfl ?_; intro f h
        refine w_on h rfl rfl rfl ?_
        refine w_pure h (ru_move (h.ev rfl)) rfl ?_; intro f h
        refine w_on h rfl rfl rfl ?_
        refine w_pure h (ru_lenZ (RdZ.of_own (s.getSl 3 rfl)) Try.underlying22 (h.ev rfl)) rfl ?_; intro f h
        refine w_on h rfl rfl rfl ?_
        refine w_pure h (ru_move (h.ev rfl)) rfl ?_; intro f h
        refine w_on h rfl rfl rfl ?_
        refine w_pure h (ru_lenZ (hlv.keep s.ext) Try.underlying22 (h.ev rfl)) rfl ?_; intro f h
        refine w_on h rfl rfl rfl ?_
        refine w_pure h (ru_val (.bool false) (ru_neq (h.ev rfl) (h.ev rfl)) (congrArg Value.bool (decide_eq_false (by omega)))) rfl ?_; intro f h
        refine w_pure h (ru_pick_f (h.ev rfl) (h.ev rfl)) rfl ?_; intro f h
        refine w_pure h (ru_move (h.ev rfl)) rfl ?_; intro f h
        refine w_on h rfl rfl rfl ?_
        refine w_pure h (ru_move (h.ev rfl)) rfl ?_; intro f h
        refine w_on h rfl rfl rfl ?_
        refine w_pure h (ru_move (h.ev rfl)) rfl ?_; intro f h
        refine w_on h rfl rfl rfl ?_
        refine w_pure h (ru_lenZ (hlv.keep s.ext) Try.underlying22 (h.ev rfl)) rfl ?_; intro f h
        refine w_on h rfl rfl rfl ?_
        refine w_pure h (ru_sub (h.ev rfl) (h.ev rfl) (by omega)) rfl ?_; intro f h
        refine w_on h rfl rfl rfl ?_
        refine w_pure h (ru_ixz (RdZ.of_own (s.getSl 3 rfl)) (r.length - 1) Try.underlying22 szo30 (h.ev rfl) (h.ev rfl) (by omega) (by omega)) rfl ?_; intro f h
        refine w_on h rfl rfl rfl ?_
        refine w_load_at ((RdZ.of_own (s.getSl 3 rfl)).el (r.length - 1) (by omega) (by decide) (D := mbArr (r.getD i9 zMb)) ((mb_elD _ _ (by omega)).trans (by rw [ha2, fol_get _ _ (by omega), show r.length - 1 + 1 = r.length from by omega, fol_last hg hmi]))) h row30 rfl (mbArr_size _) rfl ?_; intro f h
        refine w_on h rfl rfl rfl ?_
        refine w_load_row 4 h s row30 rfl rfl (mbArr_size _) rfl ?_; intro f h
        refine w_on h rfl rfl rfl ?_
        refine w_pure h (ru_val (.bool false) (ru_neqW (eqM _ _) (by kernel_rfl) (by decide) (h.ev rfl) (h.ev rfl) (decide ((r.getD i9 zMb) = (r.getD i9 zMb))) (mbEq _ _)) (congrArg Value.bool (by rw [decide_eq_true rfl]; rfl))) rfl ?_; intro f h
        refine w_pure h (ru_pick_f (h.ev rfl) (h.ev rfl)) rfl ?_; intro f h
        refine w_pure h (ru_move (h.ev rfl)) rfl ?_; intro f h
        refine w_on h rfl rfl rfl ?_
        refine w_call h fnc13 (fun w9 hE9 => alive_any w9) rfl rfl ?_; intro f h
        refine w_on h rfl rfl rfl ?_
        refine w_pure h (ru_val (.bool false) (ru_not (h.ev rfl)) rfl) rfl ?_; intro f h
        refine w_pure h (ru_pick_f (h.ev rfl) (h.ev rfl)) rfl ?_; intro f h
        refine w_nil s fun w1 s => ?_
        refine s_nil ?_
        refine hK13 _ _ ?_
        refine wpIn_cond_false (h.ev rfl) ?_
        refine wpIn_skip ?_
        refine hK12 _ _ ?_
        refine c_seq fun K14 hK14 => ?_
        refine c_region ?_
        refine s_makeMap h s rfl ?_; intro f w1 b105 h s
        refine s_pure h (ru_assign (h.ev rfl)) rfl ?_; intro f h
        refine s_nil ?_
        refine hK14 _ _ ?_
        refine c_seq fun K15 hK15 => ?_
        refine c_seq fun K16 hK16 => ?_
        refine c_region ?_
        refine s_pure h (ru_move (h.ev rfl)) rfl ?_; intro f h
        refine s_len_sl 4 h s Try.underlying22 rfl rfl rfl ?_; intro f h
        refine s_pure h (ru_move (h.ev rfl)) rfl ?_; intro f h
        refine s_nil ?_
        refine hK16 _ _ ?_
        refine wpIn_block ?_
        refine wpIn_loop_ghost (fun nn aa ww => ∃ k : Nat, Sl 131 aa [(2, idV x9), (5, .pointer (some ⟨b5, 0, none⟩)), (7, .pointer (some ⟨b7, 0, none⟩)), (8, va), (10, v61), (11, .pointer (some ⟨b11, 0, none⟩)), (13, .pointer (some ⟨b13, 0, none⟩)), (50, va), (56, u56), (61, v61), (69, v61), (85, va), (92, va), (15, .map (some b105)), (106, va), (107, .int .i64 ((aftL r (r.getD i9 zMb).1 (r.length : Int)).length : Int)), (108, .int .i64 (k : Int))] ∧ St w [.blk b105 (.map (sbE (nosL r (r.getD i9 zMb) k)) (nosL r (r.getD i9 zMb) k).length), .blk b13 (.cells (mbArr (ownM (r.eraseIdx i9) x9)) 30), .blk b11 (.cells (mbArr (ownM r x9)) 30), .sl v61 30 33 (r.eraseIdx i9).length (mbCells (r.eraseIdx i9)), .sl va 30 33 (aftL r (r.getD i9 zMb).1 (r.length : Int)).length (mbCells (aftL r (r.getD i9 zMb).1 (r.length : Int))), .blk b7 (.cells (mbArr (r.getD i9 zMb)) 30), .blk b5 (.cells (idArr x9) 24)] ww ∧ nn = r.length - k ∧ k ≤ r.length) (r.length - (0)) ⟨0, h.only ⟨rfl, rfl, rfl, rfl, rfl, rfl, rfl, rfl, rfl, rfl, rfl, rfl, rfl, rfl, rfl, rfl, slot_int rfl (by omega), trivial⟩, s.as ⟨rfl, rfl, rfl, rfl, rfl, rfl, rfl, trivial⟩, rfl, Nat.zero_le _⟩ ?_
        rintro _ f w1 ⟨k, h, s, hnn, hp0⟩
        refine c_seq fun K17 hK17 => ?_
        refine c_region ?_
        refine s_pure h (ru_lss (h.ev rfl) (h.ev rfl)) rfl ?_; intro f h
        refine s_nil ?_
        refine hK17 _ _ ?_
        refine c_seq fun K18 hK18 => ?_
        refine c_cond h rfl (fun hc => ?_) (fun hc => ?_)
        · replace hc := of_decide_eq_true hc
          refine wpIn_skip ?_
          refine hK18 _ _ ?_
          refine c_seq fun K19 hK19 => ?_
          refine wpIn_block ?_
          refine c_seq fun K20 hK20 => ?_
          refine c_region ?_
          have hkl : k < r.length := by omega
          refine s_pure h (ru_ixz (RdZ.of_own (s.getSl 4 rfl)) (k) Try.underlying22 szo30 (h.ev rfl) (h.ev rfl) (rfl) (by omega)) rfl ?_; intro f h
          refine s_load_at ((RdZ.of_own (s.getSl 4 rfl)).el (k) (by omega) (by decide) (D := mbArr (nxtK r (r.getD i9 zMb) (k + 1))) ((mb_elD _ _ (by omega)).trans (by rw [ha2, fol_get _ _ hkl]))) h row30 rfl (mbArr_size _) rfl ?_; intro f h
          refine s_alloc (mbArr zMb) h s zero30 rfl rfl ?_; intro f w1 b17 h s
          refine s_store_row 0 h s row30 rfl rfl rfl (mbArr_size _) (mbArr_size _) (mbArr_ones _) ?_; intro w1 s
          refine s_nil ?_
          refine hK20 _ _ ?_
          refine c_seq fun K21 hK21 => ?_
          refine c_seq fun K22 hK22 => ?_
          refine c_region ?_
          refine s_pure h (ru_move (h.ev rfl)) rfl ?_; intro f h
          refine s_pure h (ru_field fld30_0 (h.ev rfl)) rfl ?_; intro f h
          refine s_load_at1 (cell_of_has (Has.of_own s 0 rfl) 0 (mbArr_no _)) h one3 rfl rfl ?_; intro f h
          refine s_sblook (ks := nosL r (r.getD i9 zMb) k) 1 h s Try.underlying46 Try.underlying3 zero4 rfl rfl rfl (nos_new hg hmi hkl) rfl ?_; intro f h
          refine s_nil ?_
          refine hK22 _ _ ?_
          refine wpIn_cond_false (h.ev rfl) ?_
          refine wpIn_skip ?_
          refine hK21 _ _ ?_
          refine c_region ?_
          refine s_pure h (ru_move (h.ev rfl)) rfl ?_; intro f h
          refine s_pure h (ru_field fld30_0 (h.ev rfl)) rfl ?_; intro f h
          refine s_load_at1 (cell_of_has (Has.of_own s 0 rfl) 0 (mbArr_no _)) h one3 rfl rfl ?_; intro f h
          refine s_sbnew 1 h s Try.underlying46 Try.underlying3 rfl rfl rfl rfl (nos_new hg hmi hkl) ?_; intro w1 s
          refine s_nil ?_
          refine b_norm ?_
          refine hK19 _ _ ?_
          refine c_region ?_
          refine s_pure h (ru_add (h.ev rfl) (h.ev rfl) (by omega)) rfl ?_; intro f h
          refine s_pure h (ru_move (h.ev rfl)) rfl ?_; intro f h
          refine s_nil ?_
          refine t_norm ?_
          exact ⟨_, by omega, ⟨k + 1, h.only ⟨rfl, rfl, rfl, rfl, rfl, rfl, rfl, rfl, rfl, rfl, rfl, rfl, rfl, rfl, rfl, rfl, slot_int rfl (by omega), trivial⟩, St.as (s.pick _ (List.sublist_append_right [_] _)) ⟨sb_blk (nos_succ _ _ _).symm, rfl, rfl, rfl, rfl, rfl, rfl, trivial⟩, rfl, by omega⟩⟩
        · replace hc := of_decide_eq_false hc
          refine wpIn_exit ?_
          refine t_exit ?_
          refine t_exit ?_
          refine b_exit ?_
          refine hK15 _ _ ?_
          refine c_seq fun K23 hK23 => ?_
          refine c_seq fun K24 hK24 => ?_
          refine c_region ?_
          refine s_load_row 2 h s row30 rfl rfl (mbArr_size _) rfl ?_; intro f h
          refine s_load_row 5 h s row30 rfl rfl (mbArr_size _) rfl ?_; intro f h
          refine s_pure h (ru_eqlW (eqM _ _) (by kernel_rfl) (by decide) (h.ev rfl) (h.ev rfl) (decide (ownM r x9 = (r.getD i9 zMb))) (mbEq _ _)) rfl ?_; intro f h
          refine s_nil ?_
          refine hK24 _ _ ?_
          refine c_cond h rfl (fun hc => ?_) (fun hc => ?_)
          · refine c_seq fun K25 hK25 => ?_
            refine c_walkN 6 [[], [], [1], [1, 2], [0, 1, 2, 3], [0, 1, 2, 3, 4]] h (by kernel_rfl) (by kernel_rfl) (by kernel_rfl) ?_
            refine w_load_row 1 h s row30 rfl rfl (mbArr_size _) rfl ?_; intro f h
            refine w_pure h (ru_move (h.ev rfl)) rfl ?_; intro f h
            refine w_pure h (ru_ixz (RdZ.of_own (s.getSl 4 rfl)) (0) Try.underlying22 szo30 (h.ev rfl) (h.ev rfl) (by omega) (by omega)) rfl ?_; intro f h
            refine w_load_at ((RdZ.of_own (s.getSl 4 rfl)).el (0) (by omega) (by decide) (D := mbArr (nxtL r (r.getD i9 zMb))) ((mb_elD _ _ (by omega)).trans (by rw [ha2, fol_get _ _ (by omega)]; rfl))) h row30 rfl (mbArr_size _) rfl ?_; intro f h
            refine w_pure h (ru_val (.bool true) (ru_eqlW (eqM _ _) (by kernel_rfl) (by decide) (h.ev rfl) (h.ev rfl) (decide (ownM (r.eraseIdx i9) x9 = nxtL r (r.getD i9 zMb))) (mbEq _ _)) (congrArg Value.bool (decide_eq_true (e4.trans (hgo.1 (e2.symm.trans (of_decide_eq_true hc))))))) rfl ?_; intro f h
            refine w_pure h (ru_assign (h.ev rfl)) rfl ?_; intro f h
            refine w_nil s fun w1 s => ?_
            refine s_nil ?_
            refine hK25 _ _ ?_
            refine wpIn_ret ?_
            refine t_ret ?_
            exact e_tmp rfl h s rfl (rfl)
          · refine wpIn_skip ?_
            refine hK23 _ _ ?_
            refine c_seq fun K26 hK26 => ?_
            refine c_region ?_
            refine s_load_row 2 h s row30 rfl rfl (mbArr_size _) rfl ?_; intro f h
            refine s_load_row 1 h s row30 rfl rfl (mbArr_size _) rfl ?_; intro f h
            refine s_pure h (ru_val (.bool true) (ru_eqlW (eqM _ _) (by kernel_rfl) (by decide) (h.ev rfl) (h.ev rfl) (decide (ownM r x9 = ownM (r.eraseIdx i9) x9)) (mbEq _ _)) (congrArg Value.bool (decide_eq_true (e2.trans ((hgo.2 (fun e9 => of_decide_eq_false hc (e2.trans e9))).trans e4.symm))))) rfl ?_; intro f h
            refine s_pure h (ru_assign (h.ev rfl)) rfl ?_; intro f h
            refine s_nil ?_
            refine hK26 _ _ ?_
            refine wpIn_ret ?_
            exact e_tmp rfl h s rfl (rfl)
    · skip
      refine c_region ?_
      refine s_pure h (ru_move (h.ev rfl)) rfl ?_; intro f h
      refine s_call h s fnc11 (ret_val (.bool true) (right_any r (cutV vh (min l.length 18)) _ (hlv.keep s.ext) hln) (congrArg Value.bool hr)) rfl rfl ?_; intro f w1 v9 hT hE h s; obtain rfl := hT
      refine s_pure h (ru_val (.bool false) (ru_not (h.ev rfl)) rfl) rfl ?_; intro f h
      refine s_pure h (ru_move (h.ev rfl)) rfl ?_; intro f h
      refine s_on h rfl rfl rfl ?_
      refine s_pure h (ru_move (h.ev rfl)) rfl ?_; intro f h
      refine s_on h rfl rfl rfl ?_
      refine s_pure h (ru_lenZ (hlv.keep s.ext) Try.underlying22 (h.ev rfl)) rfl ?_; intro f h
      refine s_on h rfl rfl rfl ?_
      refine s_pure h (ru_val (.bool true) (ru_lss (h.ev rfl) (h.ev rfl)) (congrArg Value.bool (decide_eq_true (by have := of_decide_eq_true hz; omega)))) rfl ?_; intro f h
      refine s_pure h (ru_pick_f (h.ev rfl) (h.ev rfl)) rfl ?_; intro f h
      refine s_nil ?_
      refine hK4 _ _ ?_
      refine wpIn_cond_true (h.ev rfl) ?_
      refine c_seq fun K27 hK27 => ?_
      refine c_region ?_
      refine s_call h s fnc13 (alive_any _) rfl rfl ?_; intro f w1 v9 hT hE h s; obtain rfl := hT
      refine s_pure h (ru_assign (h.ev rfl)) rfl ?_; intro f h
      refine s_nil ?_
      refine hK27 _ _ ?_
      refine wpIn_ret ?_
      refine t_ret ?_
      exact e_tmp rfl h s rfl (rfl)
end Go.Proofs.Ytgnijdeieglpkaa
