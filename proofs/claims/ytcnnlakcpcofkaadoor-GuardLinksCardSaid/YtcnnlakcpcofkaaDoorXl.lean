/- What is cut; a host is asked. -/
import Derived.Test.YtcnnlakcpcofkaaDoorXg
set_option linter.unusedVariables false
set_option linter.unusedSimpArgs false
set_option linter.unusedSectionVars false
namespace Go.Proofs.YtcnnlakcpcofkaaDoor
open Go.RowKit
set_option maxHeartbeats 2000000 in
theorem gcut_any (m : Mg) (vs : Value) (w : World) (hv : RdZ w vs 34 m.l.length (eCells m.l)) : Calls Tryd.prog 7 [.agg (mArr m vs)].toArray w (Ret w (is (.agg (mArr (cutM m) (cutV vs (min m.l.length 6)))))) := by
  refine c_enter Tryd.func7 rfl Tryd.ntmps7 rfl [(0, .agg (mArr m vs))] (by simp) fun f h => ?_
  have s := St.start w
  refine c_seq fun K1 hK1 => ?_
  refine c_region ?_
  refine s_box (mArr m vs) h s rfl rfl rfl ?_; intro f w1 b1 h s
  refine s_alloc (mArr mZ nilV) h s zero28 rfl rfl ?_; intro f w1 b2 h s
  refine s_nil ?_
  refine hK1 _ _ ?_
  refine c_seq fun K2 hK2 => ?_
  have hbs := s.ext.le
  refine' c_reg3 18 [0, 2, 7, 9, 11, 12, 13, 14, 16, 18, 19, 20, 21, 23, 25] [8, 10, 15, 17] [] [[], [0], [], [2], [2, 3], [2, 3, 4], [0, 1, 2, 3, 4, 5], [], [7], [], [9], [9, 10], [9, 10, 11], [7, 8, 9, 10, 11, 12], [], [14], [], [16], [16, 17], [16, 17, 18], [14, 15, 16, 17, 18, 19], [0, 1, 2, 3, 4, 5, 6, 7, 8, 9, 10, 14, 15, 16, 17], [0, 1, 2, 3, 4, 5, 6, 7, 8, 9, 10, 14, 15, 16, 17, 21], [0, 1, 2, 3, 4, 5, 6, 7, 8, 9, 10, 11, 12, 13, 14, 15, 16, 17, 21, 22], [0, 1, 2, 3, 4, 5, 6, 7, 8, 9, 10, 11, 12, 13, 14, 15, 16, 17, 21, 22, 23], [0, 1, 2, 3, 4, 5, 6, 7, 8, 9, 10, 11, 12, 13, 14, 15, 16, 17, 18, 19, 20, 21, 22, 23, 24], [0, 1, 2, 3, 4, 5, 6, 7, 8, 9, 10, 11, 12, 13, 14, 15, 16, 17, 18, 19, 20, 21, 22, 23, 24, 25]] (is _ :: is _ :: is _ :: is _ :: is _ :: is _ :: is _ :: is _ :: (is (.string m.o)) :: is _ :: (is (.string m.o)) :: is _ :: is _ :: is _ :: is _ :: (is (.string m.d)) :: is _ :: (is (.string m.d)) :: is _ :: is _ :: is _ :: is _ :: is undef :: is _ :: is undef :: is _ :: is undef :: []) (fun _ => True) h s (by kernel_rfl) (by kernel_rfl) (by kernel_rfl) (by kernel_rfl) rfl (fun _ _ h _ => h) (trivial) ⟨⟨_, rfl⟩, ⟨_, rfl⟩, ⟨_, rfl⟩, ⟨_, rfl⟩, ⟨_, rfl⟩, ⟨_, rfl⟩, ⟨_, rfl⟩, ⟨_, rfl⟩, ⟨_, rfl⟩, ⟨_, rfl⟩, ⟨_, rfl⟩, ⟨_, rfl⟩, ⟨_, rfl⟩, ⟨_, rfl⟩, ⟨_, rfl⟩, trivial⟩ ⟨⟨_, rfl⟩, ⟨_, rfl⟩, ⟨_, rfl⟩, ⟨_, rfl⟩, trivial⟩ ⟨is_mono _, is_mono _, is_mono _, is_mono _, is_mono _, is_mono _, is_mono _, is_mono _, is_mono _, is_mono _, is_mono _, is_mono _, is_mono _, is_mono _, is_mono _, is_mono _, is_mono _, is_mono _, is_mono _, is_mono _, is_mono _, is_mono _, is_mono _, is_mono _, is_mono _, is_mono _, is_mono _, trivial⟩ (And.intro ?_ (And.intro ?_ (And.intro ?_ (And.intro ?_ (And.intro ?_ (And.intro ?_ (And.intro ?_ (And.intro ?_ (And.intro ?_ (And.intro ?_ (And.intro ?_ (And.intro ?_ (And.intro ?_ (And.intro ?_ (And.intro ?_ (And.intro ?_ (And.intro ?_ (And.intro ?_ (And.intro ?_ (And.intro ?_ (And.intro ?_ (And.intro ?_ (And.intro ?_ (And.intro ?_ (And.intro ?_ (And.intro ?_ (And.intro ?_ (trivial)))))))))))))))))))))))))))) ?_
  rotate_left 20
  · refine obH_in 3 rfl (by decide) ?_
    intro f9 w2 hE hs hl
    have e1 : f9.tmps.getD 1 undef = _ := sx_old hl 1 (by kernel_rfl) (by kernel_rfl) (h.holds 1 _ rfl)
    have h := fin_slot [(1, _)] hs rfl (holds_lk ⟨e1, trivial⟩)
    refine s_pure h (ru_field fld28_3 (h.ev rfl)) rfl ?_; intro f h
    refine s_nil ?_
    have e9 := h.holds 3 _ rfl
    refine ⟨?_, rfl⟩
    refine e9.trans ?_
    exact rfl
  · refine obF_in 4 rfl (by decide) (by decide) ?_
    intro f9 w2 hE hs hd9 hl
    have e3 : f9.tmps.getD 3 undef = _ := sx_get hl 3 0 (by kernel_rfl) (by kernel_rfl)
    have h := fin_slot [(3, _)] hs hd9 (holds_lk ⟨e3, trivial⟩)
    have s := s.more hE
    have z := St.start w2
    refine s_load_at1 (cell_of_has (Has.of_own s 1 rfl) 67 (mArr_v _ _)) h one26 rfl rfl ?_; intro f h
    refine s_nil ?_
    have e9 := h.holds 4 _ rfl
    refine ⟨?_, Ext.refl _, fun h9 => absurd h9 (by decide)⟩
    refine e9.trans ?_
    exact rfl
  · refine obH_in 5 rfl (by decide) ?_
    intro f9 w2 hE hs hl
    have e1 : f9.tmps.getD 1 undef = _ := sx_old hl 1 (by kernel_rfl) (by kernel_rfl) (h.holds 1 _ rfl)
    have h := fin_slot [(1, _)] hs rfl (holds_lk ⟨e1, trivial⟩)
    refine s_pure h (ru_field fld28_3 (h.ev rfl)) rfl ?_; intro f h
    refine s_nil ?_
    have e9 := h.holds 5 _ rfl
    refine ⟨?_, rfl⟩
    refine e9.trans ?_
    exact rfl
  · refine obF_in 6 rfl (by decide) (by decide) ?_
    intro f9 w2 hE hs hd9 hl
    have e5 : f9.tmps.getD 5 undef = _ := sx_get hl 5 2 (by kernel_rfl) (by kernel_rfl)
    have h := fin_slot [(5, _)] hs hd9 (holds_lk ⟨e5, trivial⟩)
    have s := s.more hE
    have z := St.start w2
    refine s_load_at1 (cell_of_has (Has.of_own s 1 rfl) 67 (mArr_v _ _)) h one26 rfl rfl ?_; intro f h
    refine s_nil ?_
    have e9 := h.holds 6 _ rfl
    refine ⟨?_, Ext.refl _, fun h9 => absurd h9 (by decide)⟩
    refine e9.trans ?_
    exact rfl
  · refine obF_in 7 rfl (by decide) (by decide) ?_
    intro f9 w2 hE hs hd9 hl
    have e6 : f9.tmps.getD 6 undef = _ := sx_get hl 6 3 (by kernel_rfl) (by kernel_rfl)
    have h := fin_slot [(6, _)] hs hd9 (holds_lk ⟨e6, trivial⟩)
    have s := s.more hE
    have z := St.start w2
    refine s_pure h (ru_lenZ (hv.keep s.ext) Tryd.underlying26 (h.ev rfl)) rfl ?_; intro f h
    refine s_nil ?_
    have e9 := h.holds 7 _ rfl
    refine ⟨?_, Ext.refl _, fun h9 => absurd h9 (by decide)⟩
    refine e9.trans ?_
    exact rfl
  · refine obF_in 8 rfl (by decide) (by decide) ?_
    intro f9 w2 hE hs hd9 hl
    have e7 : f9.tmps.getD 7 undef = _ := sx_get hl 7 4 (by kernel_rfl) (by kernel_rfl)
    have h := fin_slot [(7, _)] hs hd9 (holds_lk ⟨e7, trivial⟩)
    have s := s.more hE
    have z := St.start w2
    refine s_pure h (ru_min (h.ev rfl) (h.ev rfl)) rfl ?_; intro f h
    refine s_nil ?_
    have e9 := h.holds 8 _ rfl
    refine ⟨?_, Ext.refl _, fun h9 => absurd h9 (by decide)⟩
    refine e9.trans ?_
    exact rfl
  · refine obF_in 9 rfl (by decide) (by decide) ?_
    intro f9 w2 hE hs hd9 hl
    have e4 : f9.tmps.getD 4 undef = _ := sx_get hl 4 1 (by kernel_rfl) (by kernel_rfl)
    have e8 : f9.tmps.getD 8 undef = _ := sx_get hl 8 5 (by kernel_rfl) (by kernel_rfl)
    have h := fin_slot [(4, _), (8, _)] hs hd9 (holds_lk ⟨e4, e8, trivial⟩)
    have s := s.more hE
    have z := St.start w2
    refine s_pure h (ru_slice_hiZ (hv.keep s.ext) (min m.l.length 6) Tryd.underlying26 szo25 (h.ev rfl) (h.ev rfl) (by split <;> omega) (by omega)) rfl ?_; intro f h
    refine s_nil ?_
    have e9 := h.holds 9 _ rfl
    refine ⟨?_, Ext.refl _, fun h9 => absurd h9 (by decide)⟩
    refine e9.trans ?_
    exact rfl
  · refine obH_in 10 rfl (by decide) ?_
    intro f9 w2 hE hs hl
    have e1 : f9.tmps.getD 1 undef = _ := sx_old hl 1 (by kernel_rfl) (by kernel_rfl) (h.holds 1 _ rfl)
    have h := fin_slot [(1, _)] hs rfl (holds_lk ⟨e1, trivial⟩)
    refine s_pure h (ru_field fld28_5 (h.ev rfl)) rfl ?_; intro f h
    refine s_nil ?_
    have e9 := h.holds 10 _ rfl
    refine ⟨?_, rfl⟩
    refine e9.trans ?_
    exact rfl
  · refine obF_in 11 rfl (by decide) (by decide) ?_
    intro f9 w2 hE hs hd9 hl
    have e10 : f9.tmps.getD 10 undef = _ := sx_get hl 10 7 (by kernel_rfl) (by kernel_rfl)
    have h := fin_slot [(10, _)] hs hd9 (holds_lk ⟨e10, trivial⟩)
    have s := s.more hE
    have z := St.start w2
    refine s_load_at1 (cell_of_has (Has.of_own s 1 rfl) 69 (mArr_o _ _)) h one9 rfl rfl ?_; intro f h
    refine s_nil ?_
    have e9 := h.holds 11 _ rfl
    refine ⟨?_, Ext.refl _, fun h9 => absurd h9 (by decide)⟩
    refine e9.trans ?_
    exact rfl
  · refine obH_in 12 rfl (by decide) ?_
    intro f9 w2 hE hs hl
    have e1 : f9.tmps.getD 1 undef = _ := sx_old hl 1 (by kernel_rfl) (by kernel_rfl) (h.holds 1 _ rfl)
    have h := fin_slot [(1, _)] hs rfl (holds_lk ⟨e1, trivial⟩)
    refine s_pure h (ru_field fld28_5 (h.ev rfl)) rfl ?_; intro f h
    refine s_nil ?_
    have e9 := h.holds 12 _ rfl
    refine ⟨?_, rfl⟩
    refine e9.trans ?_
    exact rfl
  · refine obF_in 13 rfl (by decide) (by decide) ?_
    intro f9 w2 hE hs hd9 hl
    have e12 : f9.tmps.getD 12 undef = _ := sx_get hl 12 9 (by kernel_rfl) (by kernel_rfl)
    have h := fin_slot [(12, _)] hs hd9 (holds_lk ⟨e12, trivial⟩)
    have s := s.more hE
    have z := St.start w2
    refine s_load_at1 (cell_of_has (Has.of_own s 1 rfl) 69 (mArr_o _ _)) h one9 rfl rfl ?_; intro f h
    refine s_nil ?_
    have e9 := h.holds 13 _ rfl
    refine ⟨?_, Ext.refl _, fun h9 => absurd h9 (by decide)⟩
    refine e9.trans ?_
    exact rfl
  · refine obH_in 14 rfl (by decide) ?_
    intro f9 w2 hE hs hl
    have e13 : f9.tmps.getD 13 undef = _ := sx_get hl 13 10 (by kernel_rfl) (by kernel_rfl)
    have h := fin_slot [(13, _)] hs rfl (holds_lk ⟨e13, trivial⟩)
    refine s_pure h (ru_len_str Tryd.underlying9 (h.ev rfl)) rfl ?_; intro f h
    refine s_nil ?_
    have e9 := h.holds 14 _ rfl
    refine ⟨?_, rfl⟩
    refine e9.trans ?_
    exact rfl
  · refine obH_in 15 rfl (by decide) ?_
    intro f9 w2 hE hs hl
    have e14 : f9.tmps.getD 14 undef = _ := sx_get hl 14 11 (by kernel_rfl) (by kernel_rfl)
    have h := fin_slot [(14, _)] hs rfl (holds_lk ⟨e14, trivial⟩)
    refine s_pure h (ru_min (h.ev rfl) (h.ev rfl)) rfl ?_; intro f h
    refine s_nil ?_
    have e9 := h.holds 15 _ rfl
    refine ⟨?_, rfl⟩
    refine e9.trans ?_
    exact rfl
  · refine obH_in 16 rfl (by decide) ?_
    intro f9 w2 hE hs hl
    have e11 : f9.tmps.getD 11 undef = _ := sx_get hl 11 8 (by kernel_rfl) (by kernel_rfl)
    have e15 : f9.tmps.getD 15 undef = _ := sx_get hl 15 12 (by kernel_rfl) (by kernel_rfl)
    have h := fin_slot [(11, _), (15, _)] hs rfl (holds_lk ⟨e11, e15, trivial⟩)
    refine s_pure h (ru_slice_str (min m.o.size 20) Tryd.underlying9 (h.ev rfl) (h.ev rfl) (by split <;> omega) (by omega)) rfl ?_; intro f h
    refine s_nil ?_
    have e9 := h.holds 16 _ rfl
    refine ⟨?_, rfl⟩
    refine e9.trans ?_
    exact rfl
  · refine obH_in 17 rfl (by decide) ?_
    intro f9 w2 hE hs hl
    have e1 : f9.tmps.getD 1 undef = _ := sx_old hl 1 (by kernel_rfl) (by kernel_rfl) (h.holds 1 _ rfl)
    have h := fin_slot [(1, _)] hs rfl (holds_lk ⟨e1, trivial⟩)
    refine s_pure h (ru_field fld28_6 (h.ev rfl)) rfl ?_; intro f h
    refine s_nil ?_
    have e9 := h.holds 17 _ rfl
    refine ⟨?_, rfl⟩
    refine e9.trans ?_
    exact rfl
  · refine obF_in 18 rfl (by decide) (by decide) ?_
    intro f9 w2 hE hs hd9 hl
    have e17 : f9.tmps.getD 17 undef = _ := sx_get hl 17 14 (by kernel_rfl) (by kernel_rfl)
    have h := fin_slot [(17, _)] hs hd9 (holds_lk ⟨e17, trivial⟩)
    have s := s.more hE
    have z := St.start w2
    refine s_load_at1 (cell_of_has (Has.of_own s 1 rfl) 70 (mArr_d _ _)) h one9 rfl rfl ?_; intro f h
    refine s_nil ?_
    have e9 := h.holds 18 _ rfl
    refine ⟨?_, Ext.refl _, fun h9 => absurd h9 (by decide)⟩
    refine e9.trans ?_
    exact rfl
  · refine obH_in 19 rfl (by decide) ?_
    intro f9 w2 hE hs hl
    have e1 : f9.tmps.getD 1 undef = _ := sx_old hl 1 (by kernel_rfl) (by kernel_rfl) (h.holds 1 _ rfl)
    have h := fin_slot [(1, _)] hs rfl (holds_lk ⟨e1, trivial⟩)
    refine s_pure h (ru_field fld28_6 (h.ev rfl)) rfl ?_; intro f h
    refine s_nil ?_
    have e9 := h.holds 19 _ rfl
    refine ⟨?_, rfl⟩
    refine e9.trans ?_
    exact rfl
  · refine obF_in 20 rfl (by decide) (by decide) ?_
    intro f9 w2 hE hs hd9 hl
    have e19 : f9.tmps.getD 19 undef = _ := sx_get hl 19 16 (by kernel_rfl) (by kernel_rfl)
    have h := fin_slot [(19, _)] hs hd9 (holds_lk ⟨e19, trivial⟩)
    have s := s.more hE
    have z := St.start w2
    refine s_load_at1 (cell_of_has (Has.of_own s 1 rfl) 70 (mArr_d _ _)) h one9 rfl rfl ?_; intro f h
    refine s_nil ?_
    have e9 := h.holds 20 _ rfl
    refine ⟨?_, Ext.refl _, fun h9 => absurd h9 (by decide)⟩
    refine e9.trans ?_
    exact rfl
  · refine obH_in 21 rfl (by decide) ?_
    intro f9 w2 hE hs hl
    have e20 : f9.tmps.getD 20 undef = _ := sx_get hl 20 17 (by kernel_rfl) (by kernel_rfl)
    have h := fin_slot [(20, _)] hs rfl (holds_lk ⟨e20, trivial⟩)
    refine s_pure h (ru_len_str Tryd.underlying9 (h.ev rfl)) rfl ?_; intro f h
    refine s_nil ?_
    have e9 := h.holds 21 _ rfl
    refine ⟨?_, rfl⟩
    refine e9.trans ?_
    exact rfl
  · refine obH_in 22 rfl (by decide) ?_
    intro f9 w2 hE hs hl
    have e21 : f9.tmps.getD 21 undef = _ := sx_get hl 21 18 (by kernel_rfl) (by kernel_rfl)
    have h := fin_slot [(21, _)] hs rfl (holds_lk ⟨e21, trivial⟩)
    refine s_pure h (ru_min (h.ev rfl) (h.ev rfl)) rfl ?_; intro f h
    refine s_nil ?_
    have e9 := h.holds 22 _ rfl
    refine ⟨?_, rfl⟩
    refine e9.trans ?_
    exact rfl
  · refine obH_in 23 rfl (by decide) ?_
    intro f9 w2 hE hs hl
    have e18 : f9.tmps.getD 18 undef = _ := sx_get hl 18 15 (by kernel_rfl) (by kernel_rfl)
    have e22 : f9.tmps.getD 22 undef = _ := sx_get hl 22 19 (by kernel_rfl) (by kernel_rfl)
    have h := fin_slot [(18, _), (22, _)] hs rfl (holds_lk ⟨e18, e22, trivial⟩)
    refine s_pure h (ru_slice_str (min m.d.size 70) Tryd.underlying9 (h.ev rfl) (h.ev rfl) (by split <;> omega) (by omega)) rfl ?_; intro f h
    refine s_nil ?_
    have e9 := h.holds 23 _ rfl
    refine ⟨?_, rfl⟩
    refine e9.trans ?_
    exact rfl
  · refine obH_in 24 rfl (by decide) ?_
    intro f9 w2 hE hs hl
    have e1 : f9.tmps.getD 1 undef = _ := sx_old hl 1 (by kernel_rfl) (by kernel_rfl) (h.holds 1 _ rfl)
    have h := fin_slot [(1, _)] hs rfl (holds_lk ⟨e1, trivial⟩)
    refine s_pure h (ru_field fld28_3 (h.ev rfl)) rfl ?_; intro f h
    refine s_nil ?_
    have e9 := h.holds 24 _ rfl
    refine ⟨?_, rfl⟩
    refine e9.trans ?_
    exact rfl
  · exact obT_in (by decide) (by decide)
  · refine obH_in 25 rfl (by decide) ?_
    intro f9 w2 hE hs hl
    have e1 : f9.tmps.getD 1 undef = _ := sx_old hl 1 (by kernel_rfl) (by kernel_rfl) (h.holds 1 _ rfl)
    have h := fin_slot [(1, _)] hs rfl (holds_lk ⟨e1, trivial⟩)
    refine s_pure h (ru_field fld28_5 (h.ev rfl)) rfl ?_; intro f h
    refine s_nil ?_
    have e9 := h.holds 25 _ rfl
    refine ⟨?_, rfl⟩
    refine e9.trans ?_
    exact rfl
  · exact obT_in (by decide) (by decide)
  · refine obH_in 26 rfl (by decide) ?_
    intro f9 w2 hE hs hl
    have e1 : f9.tmps.getD 1 undef = _ := sx_old hl 1 (by kernel_rfl) (by kernel_rfl) (h.holds 1 _ rfl)
    have h := fin_slot [(1, _)] hs rfl (holds_lk ⟨e1, trivial⟩)
    refine s_pure h (ru_field fld28_6 (h.ev rfl)) rfl ?_; intro f h
    refine s_nil ?_
    have e9 := h.holds 26 _ rfl
    refine ⟨?_, rfl⟩
    refine e9.trans ?_
    exact rfl
  · exact obT_in (by decide) (by decide)
  · intro f9 w2 hE hs hd9 hWp hT hR hFr hDj
    replace h := sl_new (ops := _) [(3, _), (4, _), (5, _), (6, _), (7, _), (8, _), (9, _), (10, _), (11, _), (12, _), (13, _), (14, _), (15, _), (16, _), (17, _), (18, _), (19, _), (20, _), (21, _), (22, _), (23, _), (24, _), (25, _), (26, _)] h hs hd9 hR ⟨hT 0 3 (by decide) rfl, hT 1 4 (by decide) rfl, hT 2 5 (by decide) rfl, hT 3 6 (by decide) rfl, hT 4 7 (by decide) rfl, hT 5 8 (by decide) rfl, hT 6 9 (by decide) rfl, hT 7 10 (by decide) rfl, hT 8 11 (by decide) rfl, hT 9 12 (by decide) rfl, hT 10 13 (by decide) rfl, hT 11 14 (by decide) rfl, hT 12 15 (by decide) rfl, hT 13 16 (by decide) rfl, hT 14 17 (by decide) rfl, hT 15 18 (by decide) rfl, hT 16 19 (by decide) rfl, hT 17 20 (by decide) rfl, hT 18 21 (by decide) rfl, hT 19 22 (by decide) rfl, hT 20 23 (by decide) rfl, hT 21 24 (by decide) rfl, hT 23 25 (by decide) rfl, hT 25 26 (by decide) rfl, trivial⟩ (by kernel_rfl)
    replace s := s.more hE
    clear hT hR hFr hDj
    refine LstV.cons ?_
    refine s_store_one 1 h s one26 rfl rfl rfl (by rw [mArr_size]; omega) (rdz_one (re_take hv _ (by omega))) ?_; intro w1 s
    replace s := s.recell 1 rfl (mArr_setV _ _ _ (m.l.take (min m.l.length 6)))
    refine s_nil ⟨trivial, VOk.no (by kernel_rfl), ?_⟩
    refine LstV.cons ?_
    refine s_store_one 1 h s one9 rfl rfl rfl (by rw [mArr_size]; omega) (rfl) ?_; intro w1 s
    replace s := s.recell 1 rfl (mArr_setO _ _ _)
    refine s_nil ⟨trivial, VOk.no (by kernel_rfl), ?_⟩
    refine LstV.cons ?_
    refine s_store_one 1 h s one9 rfl rfl rfl (by rw [mArr_size]; omega) (rfl) ?_; intro w1 s
    replace s := s.recell 1 rfl (mArr_setD _ _ _)
    refine s_nil ⟨trivial, VOk.no (by kernel_rfl), ?_⟩
    refine LstV.nil ?_
    refine hK2 _ _ ?_
    refine c_seq fun K3 hK3 => ?_
    refine c_region ?_
    refine s_load_row 1 h s row28 rfl rfl (mArr_size _ _) rfl ?_; intro f h
    refine s_store_row 0 h s row28 rfl rfl rfl (mArr_size _ _) (mArr_size _ _) (mArr_ones _ _ (rdz_one (re_take hv _ (by omega)))) ?_; intro w1 s
    refine s_nil ?_
    refine hK3 _ _ ?_
    refine wpIn_ret ?_
    exact e_row 0 rfl h s row28 rfl rfl (mArr_size _ _) (rfl)

theorem galive_any  (w : World) (hH : Tab w 0 (wF hTab 8)) (hK : Tab w 1 (wF kTab 64)) : Calls Tryd.prog 10 [].toArray w (Ret w (is (.bool true))) := by
  refine c_enter Tryd.func10 rfl Tryd.ntmps10 rfl [] (by simp) fun f h => ?_
  have s := St.start w
  refine c_seq fun K1 hK1 => ?_
  refine c_region ?_
  refine s_pure h (ru_assign (h.ev rfl)) rfl ?_; intro f h
  refine s_nil ?_
  refine hK1 _ _ ?_
  refine c_seq fun K2 hK2 => ?_
  refine c_region ?_
  refine s_pure h (ru_build_eh sttE rfl rfl) rfl ?_; intro f h
  refine s_pure h (ru_build_m024 sttM rfl (h.ev rfl) rfl) rfl ?_; intro f h
  refine s_call h s fnc8 (gjudge_any sS1 (by decide) mI5 nilV _ (re_nil _) (by first | omega | decide | exact Nat.zero_le _) (hH.keep s.ext) (hK.keep s.ext)) rfl rfl ?_; rintro f w1 v7 ⟨ua, kua, rfl, hG⟩ hE h sq; replace s := s.add hG; clear hG
  obtain ⟨q1, q2, q3, q4⟩ := al15
  refine s_pure h (ru_move (h.ev rfl)) rfl ?_; intro f h
  refine s_pure h (ru_extract (h.ev rfl) rfl) rfl ?_; intro f h
  refine s_pure h (ru_extract (h.ev rfl) rfl) rfl ?_; intro f h
  refine s_pure h (ru_extract (h.ev rfl) rfl) rfl ?_; intro f h
  refine s_alloc (mArr mZ nilV) h s zero28 rfl rfl ?_; intro f w1 b2 h s
  refine s_pure h (ru_assign (h.ev rfl)) rfl ?_; intro f h
  refine s_store_row 0 h s row28 rfl rfl rfl (mArr_size _ _) (mArr_size _ _) (mArr_ones _ _ (rd_one ((s.getG 1 rfl) (re_nil _)))) ?_; intro w1 s
  refine s_pure h (ru_assign (h.ev rfl)) rfl ?_; intro f h
  refine s_nil ?_
  refine hK2 _ _ ?_
  refine c_seq fun K3 hK3 => ?_
  refine c_region ?_
  refine s_pure h (ru_move (h.ev rfl)) rfl ?_; intro f h
  refine s_pure h (ru_val (.bool true) (ru_eql (h.ev rfl) (h.ev rfl)) (congrArg Value.bool (by rw [q1]; rfl))) rfl ?_; intro f h
  refine s_pure h (ru_move (h.ev rfl)) rfl ?_; intro f h
  refine s_on h rfl rfl rfl ?_
  refine s_pure h (ru_move (h.ev rfl)) rfl ?_; intro f h
  refine s_on h rfl rfl rfl ?_
  refine s_pure h (ru_val (.bool true) (ru_eql (h.ev rfl) (h.ev rfl)) (congrArg Value.bool (by rw [q2]; rfl))) rfl ?_; intro f h
  refine s_pure h (ru_pick_t (h.ev rfl) (h.ev rfl)) rfl ?_; intro f h
  refine s_pure h (ru_move (h.ev rfl)) rfl ?_; intro f h
  refine s_on h rfl rfl rfl ?_
  refine s_pure h (ru_field fld28_0 (h.ev rfl)) rfl ?_; intro f h
  refine s_on h rfl rfl rfl ?_
  refine s_load_at1 (cell_of_has (Has.of_own s 0 rfl) 0 (mArr_k _ _)) h one3 rfl rfl ?_; intro f h
  refine s_on h rfl rfl rfl ?_
  refine s_pure h (ru_val (.bool true) (ru_eql (h.ev rfl) (h.ev rfl)) (congrArg Value.bool (by rw [q3]; rfl))) rfl ?_; intro f h
  refine s_pure h (ru_pick_t (h.ev rfl) (h.ev rfl)) rfl ?_; intro f h
  refine s_pure h (ru_move (h.ev rfl)) rfl ?_; intro f h
  refine s_on h rfl rfl rfl ?_
  refine s_pure h (ru_field fld28_5 (h.ev rfl)) rfl ?_; intro f h
  refine s_on h rfl rfl rfl ?_
  refine s_load_at1 (cell_of_has (Has.of_own s 0 rfl) 69 (mArr_o _ _)) h one9 rfl rfl ?_; intro f h
  refine s_on h rfl rfl rfl ?_
  refine s_pure h (ru_len_str Tryd.underlying9 (h.ev rfl)) rfl ?_; intro f h
  refine s_on h rfl rfl rfl ?_
  refine s_pure h (ru_val (.bool true) (ru_eql (h.ev rfl) (h.ev rfl)) (congrArg Value.bool (decide_eq_true (by rw [q4]; rfl)))) rfl ?_; intro f h
  refine s_pure h (ru_pick_t (h.ev rfl) (h.ev rfl)) rfl ?_; intro f h
  refine s_pure h (ru_assign (h.ev rfl)) rfl ?_; intro f h
  refine s_nil ?_
  refine hK3 _ _ ?_
  refine wpIn_ret ?_
  exact e_tmp rfl h s rfl (rfl)
end Go.Proofs.YtcnnlakcpcofkaaDoor
