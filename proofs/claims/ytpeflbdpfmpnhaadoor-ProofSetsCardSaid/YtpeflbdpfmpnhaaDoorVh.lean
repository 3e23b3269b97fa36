/- What ProofSets answers: for all arguments. -/
import Derived.Test.YtpeflbdpfmpnhaaDoorVg
set_option linter.unusedVariables false
set_option linter.unusedSimpArgs false
set_option linter.unusedSectionVars false
namespace Go.Proofs.YtpeflbdpfmpnhaaDoor
open Go.RowKit
theorem psets_nil (v9 : Value) (ls : List Lnk) (k : Int) (hq : (ls.take (min ls.length 32)).length = 0) (w : World) (hv : RdZ w v9 64 ls.length (lCells ls)) (hH : Tab w 0 (wF hTab 8)) (hK : Tab w 1 (wF kTab 64)) : Calls Tryd.prog 6 [v9, .int .i64 k].toArray w (Ret w (is (.bool true))) := by
  have hmv := rz_take hv (min ls.length 32) (by omega)
  obtain ⟨ms, hms⟩ : ∃ ms, ms = (ls.take (min ls.length 32)) := ⟨_, rfl⟩
  rw [← hms] at hmv
  have hml : ms.length ≤ 32 := by rw [hms, List.length_take]; omega
  rw [← hms] at hq
  refine c_enter Tryd.func6 rfl Tryd.ntmps6 rfl [(0, v9), (1, .int .i64 k)] (by simp) fun f h => ?_
  have s := St.start w
  refine c_seq fun K1 hK1 => ?_
  refine c_region ?_
  refine s_pure h (ru_assign (h.ev rfl)) rfl ?_; intro f h
  refine s_nil ?_
  refine hK1 _ _ ?_
  refine c_seq fun K2 hK2 => ?_
  refine c_region ?_
  refine s_pure h (ru_move (h.ev rfl)) rfl ?_; intro f h
  refine s_pure h (ru_move (h.ev rfl)) rfl ?_; intro f h
  refine s_pure h (ru_lenZ (hv.keep s.ext) Tryd.underlying33 (h.ev rfl)) rfl ?_; intro f h
  refine s_pure h (ru_min (h.ev rfl) (h.ev rfl)) rfl ?_; intro f h
  refine s_pure h (ru_slice_hiZ (hv.keep s.ext) (min ls.length 32) Tryd.underlying33 szo38 (h.ev rfl) (h.ev rfl) (by split <;> omega) (by omega)) rfl ?_; intro f h
  refine s_pure h (ru_assign (h.ev rfl)) rfl ?_; intro f h
  refine s_nil ?_
  refine hK2 _ _ ?_
  refine c_seq fun K3 hK3 => ?_
  refine c_region ?_
  refine s_pure h (ru_move (h.ev rfl)) rfl ?_; intro f h
  refine s_call h s fnc15 (acyclic_ok ms (by omega) _ _ (hmv.keep s.ext)) rfl rfl ?_; intro f w1 v9 hT hE h s; obtain rfl := hT
  refine s_pure h (ru_move (h.ev rfl)) rfl ?_; intro f h
  refine s_pure h (ru_extract (h.ev rfl) rfl) rfl ?_; intro f h
  refine s_pure h (ru_extract (h.ev rfl) rfl) rfl ?_; intro f h
  refine s_pure h (ru_assign (h.ev rfl)) rfl ?_; intro f h
  refine s_pure h (ru_assign (h.ev rfl)) rfl ?_; intro f h
  refine s_nil ?_
  refine hK3 _ _ ?_
  refine c_seq fun K4 hK4 => ?_
  refine c_seq fun K5 hK5 => ?_
  refine c_region ?_
  refine s_pure h (ru_move (h.ev rfl)) rfl ?_; intro f h
  refine s_pure h (ru_lenZ (hmv.keep s.ext) Tryd.underlying33 (h.ev rfl)) rfl ?_; intro f h
  refine s_pure h (ru_val (.bool true) (ru_eql (h.ev rfl) (h.ev rfl)) (congrArg Value.bool (decide_eq_true (by omega)))) rfl ?_; intro f h
  refine s_nil ?_
  refine hK5 _ _ ?_
  refine wpIn_cond_true (h.ev rfl) ?_
  refine c_seq fun K6 hK6 => ?_
  refine c_region ?_
  refine s_call h s fnc13 (alive_any _ (hH.keep s.ext) (hK.keep s.ext)) rfl rfl ?_; intro f w1 v9 hT hE h s; obtain rfl := hT
  refine s_pure h (ru_move (h.ev rfl)) rfl ?_; intro f h
  refine s_on h rfl rfl rfl ?_
  refine s_pure h (ru_move (h.ev rfl)) rfl ?_; intro f h
  refine s_on h rfl rfl rfl ?_
  refine s_pure h (ru_val (.bool true) (ru_eql (h.ev rfl) (h.ev rfl)) (congrArg Value.bool (decide_eq_true (rfl)))) rfl ?_; intro f h
  refine s_pure h (ru_pick_t (h.ev rfl) (h.ev rfl)) rfl ?_; intro f h
  refine s_pure h (ru_move (h.ev rfl)) rfl ?_; intro f h
  refine s_on h rfl rfl rfl ?_
  refine s_pure h (ru_val (.bool true) (ru_move (h.ev rfl)) (congrArg Value.bool (acyc_len0 hq))) rfl ?_; intro f h
  refine s_pure h (ru_pick_t (h.ev rfl) (h.ev rfl)) rfl ?_; intro f h
  refine s_pure h (ru_assign (h.ev rfl)) rfl ?_; intro f h
  refine s_nil ?_
  refine hK6 _ _ ?_
  refine wpIn_ret ?_
  refine t_ret ?_
  exact e_tmp rfl h s rfl (rfl)

set_option maxHeartbeats 4000000 in
theorem psets_some (v9 : Value) (ls : List Lnk) (k : Int) (hq : 0 < (ls.take (min ls.length 32)).length) (w : World) (hv : RdZ w v9 64 ls.length (lCells ls)) (hH : Tab w 0 (wF hTab 8)) (hK : Tab w 1 (wF kTab 64)) : Calls Tryd.prog 6 [v9, .int .i64 k].toArray w (Ret w (is (.bool true))) := by
  have hmv := rz_take hv (min ls.length 32) (by omega)
  obtain ⟨ms, hms⟩ : ∃ ms, ms = (ls.take (min ls.length 32)) := ⟨_, rfl⟩
  rw [← hms] at hmv
  have hml : ms.length ≤ 32 := by rw [hms, List.length_take]; omega
  rw [← hms] at hq
  obtain ⟨q, hql, hqk, hr1, hr2⟩ := rot_at k ms.length hq
  have hdv := rz_drop hmv q (by omega)
  have htv := rz_take hmv q (by omega)
  have hdl : (ms.drop q).length ≤ 32 := by rw [List.length_drop]; omega
  have htl : (ms.take q).length ≤ 32 := by rw [List.length_take]; omega
  have hc1 := acyc_rot ms q
  have hc2 := acyc_dbl ms
  have hn1 : (ms.drop q ++ ms.take q).length ≤ 64 := by rw [List.length_append]; omega
  have hn2 : (ms ++ ms).length ≤ 64 := by rw [List.length_append]; omega
  refine c_enter Tryd.func6 rfl Tryd.ntmps6 rfl [(0, v9), (1, .int .i64 k)] (by simp) fun f h => ?_
  have s := St.start w
  refine c_seq fun K1 hK1 => ?_
  refine c_region ?_
  refine s_pure h (ru_assign (h.ev rfl)) rfl ?_; intro f h
  refine s_nil ?_
  refine hK1 _ _ ?_
  refine c_seq fun K2 hK2 => ?_
  refine c_region ?_
  refine s_pure h (ru_move (h.ev rfl)) rfl ?_; intro f h
  refine s_pure h (ru_move (h.ev rfl)) rfl ?_; intro f h
  refine s_pure h (ru_lenZ (hv.keep s.ext) Tryd.underlying33 (h.ev rfl)) rfl ?_; intro f h
  refine s_pure h (ru_min (h.ev rfl) (h.ev rfl)) rfl ?_; intro f h
  refine s_pure h (ru_slice_hiZ (hv.keep s.ext) (min ls.length 32) Tryd.underlying33 szo38 (h.ev rfl) (h.ev rfl) (by split <;> omega) (by omega)) rfl ?_; intro f h
  refine s_pure h (ru_assign (h.ev rfl)) rfl ?_; intro f h
  refine s_nil ?_
  refine hK2 _ _ ?_
  refine c_seq fun K3 hK3 => ?_
  refine c_region ?_
  refine s_pure h (ru_move (h.ev rfl)) rfl ?_; intro f h
  refine s_call h s fnc15 (acyclic_ok ms (by omega) _ _ (hmv.keep s.ext)) rfl rfl ?_; intro f w1 v9 hT hE h s; obtain rfl := hT
  refine s_pure h (ru_move (h.ev rfl)) rfl ?_; intro f h
  refine s_pure h (ru_extract (h.ev rfl) rfl) rfl ?_; intro f h
  refine s_pure h (ru_extract (h.ev rfl) rfl) rfl ?_; intro f h
  refine s_pure h (ru_assign (h.ev rfl)) rfl ?_; intro f h
  refine s_pure h (ru_assign (h.ev rfl)) rfl ?_; intro f h
  refine s_nil ?_
  refine hK3 _ _ ?_
  refine c_seq fun K4 hK4 => ?_
  refine c_seq fun K5 hK5 => ?_
  refine c_region ?_
  refine s_pure h (ru_move (h.ev rfl)) rfl ?_; intro f h
  refine s_pure h (ru_lenZ (hmv.keep s.ext) Tryd.underlying33 (h.ev rfl)) rfl ?_; intro f h
  refine s_pure h (ru_val (.bool false) (ru_eql (h.ev rfl) (h.ev rfl)) (congrArg Value.bool (decide_eq_false (by omega)))) rfl ?_; intro f h
  refine s_nil ?_
  refine hK5 _ _ ?_
  refine wpIn_cond_false (h.ev rfl) ?_
  refine wpIn_skip ?_
  refine hK4 _ _ ?_
  refine c_seq fun K6 hK6 => ?_
  refine c_region ?_
  refine s_pure h (ru_move (h.ev rfl)) rfl ?_; intro f h
  refine s_pure h (ru_move (h.ev rfl)) rfl ?_; intro f h
  refine s_pure h (ru_lenZ (hmv.keep s.ext) Tryd.underlying33 (h.ev rfl)) rfl ?_; intro f h
  refine s_pure h (ru_remt (h.ev rfl) (h.ev rfl) (by omega)) rfl ?_; intro f h
  refine s_pure h (ru_move (h.ev rfl)) rfl ?_; intro f h
  refine s_pure h (ru_lenZ (hmv.keep s.ext) Tryd.underlying33 (h.ev rfl)) rfl ?_; intro f h
  refine s_pure h (ru_add (h.ev rfl) (h.ev rfl) (by omega)) rfl ?_; intro f h
  refine s_pure h (ru_move (h.ev rfl)) rfl ?_; intro f h
  refine s_pure h (ru_lenZ (hmv.keep s.ext) Tryd.underlying33 (h.ev rfl)) rfl ?_; intro f h
  refine s_pure h (ru_val (.int .i64 (q : Int)) (ru_rem (h.ev rfl) (h.ev rfl) (by omega)) (congrArg (Value.int .i64) hqk)) rfl ?_; intro f h
  refine s_pure h (ru_assign (h.ev rfl)) rfl ?_; intro f h
  refine s_nil ?_
  refine hK6 _ _ ?_
  refine c_seq fun K7 hK7 => ?_
  have hbs := s.ext.le
  refine' c_reg3 8 [1, 2, 5, 6, 10, 11, 12, 13, 14] [9] [] [[], [], [], [1, 2], [0, 1, 2, 3], [], [], [5, 6], [0, 1, 2, 3, 4, 5, 6, 7], [0, 1, 2, 3, 4, 5, 6, 7, 8], [0, 1, 2, 3, 4, 5, 6, 7, 8, 9], [0, 1, 2, 3, 4, 5, 6, 7, 8, 9, 10], [0, 1, 2, 3, 4, 5, 6, 7, 8, 9, 10], [0, 1, 2, 3, 4, 5, 6, 7, 8, 9, 10, 11], [0, 1, 2, 3, 4, 5, 6, 7, 8, 9, 10, 11, 12, 13]] ((Emp w1.heap.size 38) :: is _ :: is _ :: is _ :: (fun v w9 => Owns w9 w1.heap.size 38 64 v (ms.drop q).length (lCells (ms.drop q))) :: is _ :: is _ :: is _ :: is undef :: (is (.tuple #[.bool (acycB (ms.drop q ++ ms.take q)), .int .i64 0])) :: is _ :: is _ :: is _ :: is _ :: is _ :: []) (fun _ => True) h s (by kernel_rfl) (by kernel_rfl) (by kernel_rfl) (by kernel_rfl) rfl (fun _ _ h _ => h) (trivial) ⟨⟨_, rfl⟩, ⟨_, rfl⟩, ⟨_, rfl⟩, ⟨_, rfl⟩, ⟨_, rfl⟩, ⟨_, rfl⟩, ⟨_, rfl⟩, ⟨_, rfl⟩, ⟨_, rfl⟩, trivial⟩ ⟨⟨_, rfl⟩, trivial⟩ ⟨Emp.mono _ _, is_mono _, is_mono _, is_mono _, ownsM _ _ _ _ _, is_mono _, is_mono _, is_mono _, is_mono _, is_mono _, is_mono _, is_mono _, is_mono _, is_mono _, is_mono _, trivial⟩ (And.intro ?_ (And.intro ?_ (And.intro ?_ (And.intro ?_ (And.intro ?_ (And.intro ?_ (And.intro ?_ (And.intro ?_ (And.intro ?_ (And.intro ?_ (And.intro ?_ (And.intro ?_ (And.intro ?_ (And.intro ?_ (And.intro ?_ (trivial)))))))))))))))) ?_
  rotate_left 11
  · refine obF_in 43 rfl (by decide) (by decide) ?_
    intro f9 w2 hE hs hd9 hl
    have h := fin_slot [] hs hd9 (holds_lk trivial)
    have s := s.more hE
    have z := St.start w2
    refine s_bslice0 (base := w1.heap.size) h Tryd.underlying33 elm38 hE.le rfl ?_; intro f w3 v3 h hE3 hm3
    refine s_nil ?_
    exact ⟨by rw [h.holds 43 _ rfl]; exact hm3, hE3, fun h9 => absurd h9 (by decide)⟩
  · refine obH_in 44 rfl (by decide) ?_
    intro f9 w2 hE hs hl
    have e0 : f9.tmps.getD 0 undef = _ := sx_old hl 0 (by kernel_rfl) (by kernel_rfl) (h.holds 0 _ rfl)
    have h := fin_slot [(0, _)] hs rfl (holds_lk ⟨e0, trivial⟩)
    refine s_pure h (ru_move (h.ev rfl)) rfl ?_; intro f h
    refine s_nil ?_
    have e9 := h.holds 44 _ rfl
    refine ⟨?_, rfl⟩
    refine e9.trans ?_
    exact rfl
  · refine obH_in 45 rfl (by decide) ?_
    intro f9 w2 hE hs hl
    have e1 : f9.tmps.getD 1 undef = _ := sx_old hl 1 (by kernel_rfl) (by kernel_rfl) (h.holds 1 _ rfl)
    have h := fin_slot [(1, _)] hs rfl (holds_lk ⟨e1, trivial⟩)
    refine s_pure h (ru_move (h.ev rfl)) rfl ?_; intro f h
    refine s_nil ?_
    have e9 := h.holds 45 _ rfl
    refine ⟨?_, rfl⟩
    refine e9.trans ?_
    exact rfl
  · refine obF_in 46 rfl (by decide) (by decide) ?_
    intro f9 w2 hE hs hd9 hl
    have e44 : f9.tmps.getD 44 undef = _ := sx_get hl 44 1 (by kernel_rfl) (by kernel_rfl)
    have e45 : f9.tmps.getD 45 undef = _ := sx_get hl 45 2 (by kernel_rfl) (by kernel_rfl)
    have h := fin_slot [(44, _), (45, _)] hs hd9 (holds_lk ⟨e44, e45, trivial⟩)
    have s := s.more hE
    have z := St.start w2
    refine s_pure h (ru_slice_loZ (hmv.keep s.ext) (q) Tryd.underlying33 szo38 (h.ev rfl) (h.ev rfl) (rfl) (by omega)) rfl ?_; intro f h
    refine s_nil ?_
    have e9 := h.holds 46 _ rfl
    refine ⟨?_, Ext.refl _, fun h9 => absurd h9 (by decide)⟩
    refine e9.trans ?_
    exact rfl
  · refine obF_in 47 rfl (by decide) (by decide) ?_
    intro f9 w2 hE hs hd9 hl
    obtain ⟨u43, hu43⟩ : ∃ v, f9.tmps.getD 43 undef = v := ⟨_, rfl⟩
    have e43 : (Emp w1.heap.size 38) u43 w2 := by rw [← hu43]; exact sx_get hl 43 0 (by kernel_rfl) (by kernel_rfl)
    have e46 : f9.tmps.getD 46 undef = _ := sx_get hl 46 3 (by kernel_rfl) (by kernel_rfl)
    have h := fin_slot [(43, u43), (46, _)] hs hd9 (holds_lk ⟨hu43, e46, trivial⟩)
    have s := s.more hE
    have z := St.start w2
    refine s_append_emp (base := w1.heap.size) e43 (hdv.keep s.ext) h Tryd.underlying33 elm38 rfl rfl hE.le (lCells_ones _) (by unfold maxLen; omega) (by omega) rfl ?_; intro f w3 v3 h hE3 hO
    refine s_nil ?_
    exact ⟨by rw [h.holds 47 _ rfl]; exact hO, hE3, fun h9 => absurd h9 (by decide)⟩
  · refine obH_in 48 rfl (by decide) ?_
    intro f9 w2 hE hs hl
    have e0 : f9.tmps.getD 0 undef = _ := sx_old hl 0 (by kernel_rfl) (by kernel_rfl) (h.holds 0 _ rfl)
    have h := fin_slot [(0, _)] hs rfl (holds_lk ⟨e0, trivial⟩)
    refine s_pure h (ru_move (h.ev rfl)) rfl ?_; intro f h
    refine s_nil ?_
    have e9 := h.holds 48 _ rfl
    refine ⟨?_, rfl⟩
    refine e9.trans ?_
    exact rfl
  · refine obH_in 49 rfl (by decide) ?_
    intro f9 w2 hE hs hl
    have e1 : f9.tmps.getD 1 undef = _ := sx_old hl 1 (by kernel_rfl) (by kernel_rfl) (h.holds 1 _ rfl)
    have h := fin_slot [(1, _)] hs rfl (holds_lk ⟨e1, trivial⟩)
    refine s_pure h (ru_move (h.ev rfl)) rfl ?_; intro f h
    refine s_nil ?_
    have e9 := h.holds 49 _ rfl
    refine ⟨?_, rfl⟩
    refine e9.trans ?_
    exact rfl
  · refine obF_in 50 rfl (by decide) (by decide) ?_
    intro f9 w2 hE hs hd9 hl
    have e48 : f9.tmps.getD 48 undef = _ := sx_get hl 48 5 (by kernel_rfl) (by kernel_rfl)
    have e49 : f9.tmps.getD 49 undef = _ := sx_get hl 49 6 (by kernel_rfl) (by kernel_rfl)
    have h := fin_slot [(48, _), (49, _)] hs hd9 (holds_lk ⟨e48, e49, trivial⟩)
    have s := s.more hE
    have z := St.start w2
    refine s_pure h (ru_slice_hiZ (hmv.keep s.ext) (q) Tryd.underlying33 szo38 (h.ev rfl) (h.ev rfl) (rfl) (by omega)) rfl ?_; intro f h
    refine s_nil ?_
    have e9 := h.holds 50 _ rfl
    refine ⟨?_, Ext.refl _, fun h9 => absurd h9 (by decide)⟩
    refine e9.trans ?_
    exact rfl
  · exact obT_in (by decide) (by decide)
  · exact obT_in (by decide) (by decide)
  · refine obH_in 42 rfl (by decide) ?_
    intro f9 w2 hE hs hl
    have e52 : f9.tmps.getD 52 undef = _ := sx_get hl 52 9 (by kernel_rfl) (by kernel_rfl)
    have h := fin_slot [(52, _)] hs rfl (holds_lk ⟨e52, trivial⟩)
    refine s_pure h (ru_move (h.ev rfl)) rfl ?_; intro f h
    refine s_nil ?_
    have e9 := h.holds 42 _ rfl
    refine ⟨?_, rfl⟩
    refine e9.trans ?_
    exact rfl
  · refine obH_in 53 rfl (by decide) ?_
    intro f9 w2 hE hs hl
    have e42 : f9.tmps.getD 42 undef = _ := sx_get hl 42 10 (by kernel_rfl) (by kernel_rfl)
    have h := fin_slot [(42, _)] hs rfl (holds_lk ⟨e42, trivial⟩)
    refine s_pure h (ru_extract (h.ev rfl) rfl) rfl ?_; intro f h
    refine s_nil ?_
    have e9 := h.holds 53 _ rfl
    refine ⟨?_, rfl⟩
    refine e9.trans ?_
    exact rfl
  · refine obH_in 54 rfl (by decide) ?_
    intro f9 w2 hE hs hl
    have e42 : f9.tmps.getD 42 undef = _ := sx_get hl 42 10 (by kernel_rfl) (by kernel_rfl)
    have h := fin_slot [(42, _)] hs rfl (holds_lk ⟨e42, trivial⟩)
    refine s_pure h (ru_extract (h.ev rfl) rfl) rfl ?_; intro f h
    refine s_nil ?_
    have e9 := h.holds 54 _ rfl
    refine ⟨?_, rfl⟩
    refine e9.trans ?_
    exact rfl
  · refine obH_in 7 rfl (by decide) ?_
    intro f9 w2 hE hs hl
    have e53 : f9.tmps.getD 53 undef = _ := sx_get hl 53 11 (by kernel_rfl) (by kernel_rfl)
    have h := fin_slot [(53, _)] hs rfl (holds_lk ⟨e53, trivial⟩)
    refine s_pure h (ru_assign (h.ev rfl)) rfl ?_; intro f h
    refine s_nil ?_
    have e9 := h.holds 7 _ rfl
    refine ⟨?_, rfl⟩
    refine e9.trans ?_
    exact rfl
  · refine obH_in 8 rfl (by decide) ?_
    intro f9 w2 hE hs hl
    have e54 : f9.tmps.getD 54 undef = _ := sx_get hl 54 12 (by kernel_rfl) (by kernel_rfl)
    have h := fin_slot [(54, _)] hs rfl (holds_lk ⟨e54, trivial⟩)
    refine s_pure h (ru_assign (h.ev rfl)) rfl ?_; intro f h
    refine s_nil ?_
    have e9 := h.holds 8 _ rfl
    refine ⟨?_, rfl⟩
    refine e9.trans ?_
    exact rfl
  · intro f9 w2 hE hs hd9 hWp hT hR hFr hDj
    obtain ⟨u43, hu43⟩ : ∃ v, f9.tmps.getD 43 undef = v := ⟨_, rfl⟩
    have e43 : (Emp w1.heap.size 38) u43 w2 := by rw [← hu43]; exact hT 0 43 (by decide) rfl
    obtain ⟨u47, hu47⟩ : ∃ v, f9.tmps.getD 47 undef = v := ⟨_, rfl⟩
    have e47 : (fun v w9 => Owns w9 w1.heap.size 38 64 v (ms.drop q).length (lCells (ms.drop q))) u47 w2 := by rw [← hu47]; exact hT 4 47 (by decide) rfl
    replace h := sl_new (ops := _) [(43, u43), (44, _), (45, _), (46, _), (47, u47), (48, _), (49, _), (50, _), (42, _), (53, _), (54, _), (7, _), (8, _)] h hs hd9 hR ⟨hu43, hT 1 44 (by decide) rfl, hT 2 45 (by decide) rfl, hT 3 46 (by decide) rfl, hu47, hT 5 48 (by decide) rfl, hT 6 49 (by decide) rfl, hT 7 50 (by decide) rfl, hT 10 42 (by decide) rfl, hT 11 53 (by decide) rfl, hT 12 54 (by decide) rfl, hT 13 7 (by decide) rfl, hT 14 8 (by decide) rfl, trivial⟩ (by kernel_rfl)
    replace s := s.sl_new hE e47
    clear hT hR hFr hDj
    refine LstV.cons ?_
    refine s_append_rd 0 (htv.keep s.ext) h s Tryd.underlying33 elm38 rfl rfl rfl (lCells_ones _) (by unfold maxLen; omega) (by omega) rfl ?_; intro f w1 v51 h s
    refine s_nil ⟨trivial, VOk.no (by kernel_rfl), ?_⟩
    refine LstV.cons ?_
    refine s_call h s fnc15 (acyclic_ok (ms.drop q ++ ms.take q) hn1 _ _ (rz_app (RdZ.of_own (s.getSl 0 rfl)))) rfl rfl ?_; intro f w1 v9 hT hE h s; obtain rfl := hT
    refine s_nil ⟨trivial, VOk.one (i := 9) (d := 52) rfl rfl (by kernel_rfl) (h.holds 52 _ rfl), ?_⟩
    refine LstV.nil ?_
    refine hK7 _ _ ?_
    refine c_seq fun K8 hK8 => ?_
    refine c_region ?_
    refine s_bslice0 (base := w1.heap.size) h Tryd.underlying33 elm38 (Nat.le_refl _) rfl ?_; intro f w3 v56 h hE3 e56
    refine s_pure h (ru_move (h.ev rfl)) rfl ?_; intro f h
    refine s_append_emp (base := w1.heap.size) e56 (hmv.keep (s.ext.trans hE3)) h Tryd.underlying33 elm38 rfl rfl hE3.le (lCells_ones ms) (by unfold maxLen; omega) (by omega) rfl ?_; intro f w4 v58 h hE4 e58
    replace s := s.sl_new (hE3.trans hE4) e58
    refine s_pure h (ru_move (h.ev rfl)) rfl ?_; intro f h
    refine s_append_rd 0 (hmv.keep s.ext) h s Tryd.underlying33 elm38 rfl rfl rfl (lCells_ones _) (by unfold maxLen; omega) (by omega) rfl ?_; intro f w1 v60 h s
    refine s_call h s fnc15 (acyclic_ok (ms ++ ms) hn2 _ _ (rz_app (RdZ.of_own (s.getSl 0 rfl)))) rfl rfl ?_; intro f w1 v9 hT hE h s; obtain rfl := hT
    refine s_pure h (ru_move (h.ev rfl)) rfl ?_; intro f h
    refine s_pure h (ru_extract (h.ev rfl) rfl) rfl ?_; intro f h
    refine s_pure h (ru_extract (h.ev rfl) rfl) rfl ?_; intro f h
    refine s_pure h (ru_assign (h.ev rfl)) rfl ?_; intro f h
    refine s_pure h (ru_assign (h.ev rfl)) rfl ?_; intro f h
    refine s_nil ?_
    refine hK8 _ _ ?_
    refine c_seq fun K9 hK9 => ?_
    refine c_region ?_
    refine s_call h s fnc13 (alive_any _ (hH.keep s.ext) (hK.keep s.ext)) rfl rfl ?_; intro f w1 v9 hT hE h s; obtain rfl := hT
    refine s_pure h (ru_move (h.ev rfl)) rfl ?_; intro f h
    refine s_on h rfl rfl rfl ?_
    refine s_pure h (ru_move (h.ev rfl)) rfl ?_; intro f h
    refine s_on h rfl rfl rfl ?_
    refine s_pure h (ru_val (.bool true) (ru_eql (h.ev rfl) (h.ev rfl)) (congrArg Value.bool (decide_eq_true (rfl)))) rfl ?_; intro f h
    refine s_pure h (ru_pick_t (h.ev rfl) (h.ev rfl)) rfl ?_; intro f h
    refine s_pure h (ru_move (h.ev rfl)) rfl ?_; intro f h
    refine s_on h rfl rfl rfl ?_
    refine s_pure h (ru_move (h.ev rfl)) rfl ?_; intro f h
    refine s_on h rfl rfl rfl ?_
    refine s_pure h (ru_val (.bool true) (ru_eql (h.ev rfl) (h.ev rfl)) (congrArg Value.bool (decide_eq_true (rfl)))) rfl ?_; intro f h
    refine s_pure h (ru_pick_t (h.ev rfl) (h.ev rfl)) rfl ?_; intro f h
    refine s_pure h (ru_move (h.ev rfl)) rfl ?_; intro f h
    refine s_on h rfl rfl rfl ?_
    refine s_pure h (ru_move (h.ev rfl)) rfl ?_; intro f h
    refine s_on h rfl rfl rfl ?_
    refine s_pure h (ru_val (.bool true) (ru_eql (h.ev rfl) (h.ev rfl)) (congrArg Value.bool (decide_eq_true (rfl)))) rfl ?_; intro f h
    refine s_pure h (ru_pick_t (h.ev rfl) (h.ev rfl)) rfl ?_; intro f h
    refine s_pure h (ru_move (h.ev rfl)) rfl ?_; intro f h
    refine s_on h rfl rfl rfl ?_
    refine s_pure h (ru_move (h.ev rfl)) rfl ?_; intro f h
    refine s_on h rfl rfl rfl ?_
    refine s_pure h (ru_move (h.ev rfl)) rfl ?_; intro f h
    refine s_on h rfl rfl rfl ?_
    refine s_pure h (ru_val (.bool true) (ru_eql_bool Tryd.underlying4 (h.ev rfl) (h.ev rfl)) (congrArg Value.bool (by rw [hc1]; exact beq_self_eq_true _))) rfl ?_; intro f h
    refine s_pure h (ru_pick_t (h.ev rfl) (h.ev rfl)) rfl ?_; intro f h
    refine s_pure h (ru_move (h.ev rfl)) rfl ?_; intro f h
    refine s_on h rfl rfl rfl ?_
    refine s_pure h (ru_move (h.ev rfl)) rfl ?_; intro f h
    refine s_on h rfl rfl rfl ?_
    refine s_pure h (ru_move (h.ev rfl)) rfl ?_; intro f h
    refine s_on h rfl rfl rfl ?_
    refine s_pure h (ru_val (.bool true) (ru_eql_bool Tryd.underlying4 (h.ev rfl) (h.ev rfl)) (congrArg Value.bool (by rw [hc2]; exact beq_self_eq_true _))) rfl ?_; intro f h
    refine s_pure h (ru_pick_t (h.ev rfl) (h.ev rfl)) rfl ?_; intro f h
    refine s_pure h (ru_assign (h.ev rfl)) rfl ?_; intro f h
    refine s_nil ?_
    refine hK9 _ _ ?_
    refine wpIn_ret ?_
    exact e_tmp rfl h s rfl (rfl)

theorem psets_any (v9 : Value) (ls : List Lnk) (k : Int) (w : World) (hv : RdZ w v9 64 ls.length (lCells ls)) (hH : Tab w 0 (wF hTab 8)) (hK : Tab w 1 (wF kTab 64)) : Calls Tryd.prog 6 [v9, .int .i64 k].toArray w (Ret w (is (.bool true))) := by
  by_cases h : (ls.take (min ls.length 32)).length = 0
  · exact psets_nil v9 ls k h w hv hH hK
  · exact psets_some v9 ls k (by omega) w hv hH hK
end Go.Proofs.YtpeflbdpfmpnhaaDoor
