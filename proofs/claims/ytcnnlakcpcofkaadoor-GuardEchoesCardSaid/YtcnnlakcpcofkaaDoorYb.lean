/- What GuardEchoes answers: for all arguments. -/
import Derived.Test.YtcnnlakcpcofkaaDoorXl
set_option linter.unusedVariables false
set_option linter.unusedSimpArgs false
set_option linter.unusedSectionVars false
namespace Go.Proofs.YtcnnlakcpcofkaaDoor
open Go.RowKit
set_option maxHeartbeats 6000000 in
theorem lgechoes_any (sx : ByteArray) (m0 : Mg) (vs : Value) (n0 : Mg) (vu : Value) (w : World) (hV0 : RdZ w vs 34 m0.l.length (eCells m0.l)) (hU0 : RdZ w vu 34 n0.l.length (eCells n0.l)) (hH : Tab w 0 (wF hTab 8)) (hK : Tab w 1 (wF kTab 64)) : Calls Tryd.prog 4 [.string sx, .agg (mArr m0 vs), .agg (mArr n0 vu)].toArray w (Ret w (is (.bool true))) := by
  have hV : RdE w (cutV vs (min m0.l.length 6)) (cutM m0).l := e_take hV0 _ (Nat.min_le_left _ _)
  have hml := cutM_l m0
  have hU : RdE w (cutV vu (min n0.l.length 6)) (cutM n0).l := e_take hU0 _ (Nat.min_le_left _ _)
  have hsl : (sx.extract 0 (min sx.size 64)).size ≤ 64 := by rw [ByteArray.size_extract]; omega
  refine c_enter Tryd.func4 rfl Tryd.ntmps4 rfl [(0, .string sx), (1, .agg (mArr m0 vs)), (2, .agg (mArr n0 vu))] (by simp) fun f h => ?_
  have s := St.start w
  refine c_seq fun K1 hK1 => ?_
  refine c_region ?_
  refine s_box (mArr m0 vs) h s rfl rfl rfl ?_; intro f w1 b4 h s
  refine s_box (mArr n0 vu) h s rfl rfl rfl ?_; intro f w1 b5 h s
  refine s_pure h (ru_assign (h.ev rfl)) rfl ?_; intro f h
  refine s_nil ?_
  refine hK1 _ _ ?_
  refine c_seq fun K2 hK2 => ?_
  have hbs := s.ext.le
  refine' c_reg2 3 [4, 5, 6, 7, 8, 11] [] [[], [0], [], [0, 1, 2], [], [], [5], [5, 6], [4, 5, 6, 7], [0, 1, 2, 3], [0, 1, 2, 3, 9], [0, 1, 2, 3, 4, 5, 6, 7, 8, 9, 10]] (is _ :: is _ :: is _ :: is undef :: is _ :: is _ :: is _ :: is _ :: is _ :: is undef :: is undef :: is _ :: []) (fun _ => True) h s (by kernel_rfl) (by kernel_rfl) (by kernel_rfl) (by kernel_rfl) rfl (fun _ _ h _ => h) (trivial) ⟨⟨_, rfl⟩, ⟨_, rfl⟩, ⟨_, rfl⟩, ⟨_, rfl⟩, ⟨_, rfl⟩, ⟨_, rfl⟩, trivial⟩ ⟨is_mono _, is_mono _, is_mono _, is_mono _, is_mono _, is_mono _, is_mono _, is_mono _, is_mono _, is_mono _, is_mono _, is_mono _, trivial⟩ (And.intro ?_ (And.intro ?_ (And.intro ?_ (And.intro ?_ (And.intro ?_ (And.intro ?_ (And.intro ?_ (And.intro ?_ (And.intro ?_ (And.intro ?_ (And.intro ?_ (And.intro ?_ (trivial))))))))))))) ?_
  rotate_left 9
  · refine obF_in 24 rfl (by decide) (by decide) ?_
    intro f9 w2 hE hs hd9 hl
    have e4 : f9.tmps.getD 4 undef = _ := sx_old hl 4 (by kernel_rfl) (by kernel_rfl) (h.holds 4 _ rfl)
    have h := fin_slot [(4, _)] hs hd9 (holds_lk ⟨e4, trivial⟩)
    have s := s.more hE
    have z := St.start w2
    refine s_load_row 1 h s row28 rfl rfl (mArr_size _ _) rfl ?_; intro f h
    refine s_nil ?_
    have e9 := h.holds 24 _ rfl
    refine ⟨?_, Ext.refl _, fun h9 => absurd h9 (by decide)⟩
    refine e9.trans ?_
    exact rfl
  · refine obF_in 25 rfl (by decide) (by decide) ?_
    intro f9 w2 hE hs hd9 hl
    have e24 : f9.tmps.getD 24 undef = _ := sx_get hl 24 0 (by kernel_rfl) (by kernel_rfl)
    have h := fin_slot [(24, _)] hs hd9 (holds_lk ⟨e24, trivial⟩)
    have s := s.more hE
    have z := St.start w2
    refine s_call h s fnc7 (gcut_any m0 vs _ (hV0.keep s.ext)) rfl rfl ?_; intro f w1 v9 hT hE h s; obtain rfl := hT
    refine s_nil ?_
    have e9 := h.holds 25 _ rfl
    refine ⟨?_, hE, fun h9 => absurd h9 (by decide)⟩
    refine e9.trans ?_
    exact rfl
  · refine obF_in 26 rfl (by decide) (by decide) ?_
    intro f9 w2 hE hs hd9 hl
    have e5 : f9.tmps.getD 5 undef = _ := sx_old hl 5 (by kernel_rfl) (by kernel_rfl) (h.holds 5 _ rfl)
    have h := fin_slot [(5, _)] hs hd9 (holds_lk ⟨e5, trivial⟩)
    have s := s.more hE
    have z := St.start w2
    refine s_load_row 0 h s row28 rfl rfl (mArr_size _ _) rfl ?_; intro f h
    refine s_nil ?_
    have e9 := h.holds 26 _ rfl
    refine ⟨?_, Ext.refl _, fun h9 => absurd h9 (by decide)⟩
    refine e9.trans ?_
    exact rfl
  · exact obT_in (by decide) (by decide)
  · refine obH_in 28 rfl (by decide) ?_
    intro f9 w2 hE hs hl
    have e0 : f9.tmps.getD 0 undef = _ := sx_old hl 0 (by kernel_rfl) (by kernel_rfl) (h.holds 0 _ rfl)
    have h := fin_slot [(0, _)] hs rfl (holds_lk ⟨e0, trivial⟩)
    refine s_pure h (ru_move (h.ev rfl)) rfl ?_; intro f h
    refine s_nil ?_
    have e9 := h.holds 28 _ rfl
    refine ⟨?_, rfl⟩
    refine e9.trans ?_
    exact rfl
  · refine obH_in 29 rfl (by decide) ?_
    intro f9 w2 hE hs hl
    have e0 : f9.tmps.getD 0 undef = _ := sx_old hl 0 (by kernel_rfl) (by kernel_rfl) (h.holds 0 _ rfl)
    have h := fin_slot [(0, _)] hs rfl (holds_lk ⟨e0, trivial⟩)
    refine s_pure h (ru_move (h.ev rfl)) rfl ?_; intro f h
    refine s_nil ?_
    have e9 := h.holds 29 _ rfl
    refine ⟨?_, rfl⟩
    refine e9.trans ?_
    exact rfl
  · refine obH_in 30 rfl (by decide) ?_
    intro f9 w2 hE hs hl
    have e29 : f9.tmps.getD 29 undef = _ := sx_get hl 29 5 (by kernel_rfl) (by kernel_rfl)
    have h := fin_slot [(29, _)] hs rfl (holds_lk ⟨e29, trivial⟩)
    refine s_pure h (ru_len_str Tryd.underlying9 (h.ev rfl)) rfl ?_; intro f h
    refine s_nil ?_
    have e9 := h.holds 30 _ rfl
    refine ⟨?_, rfl⟩
    refine e9.trans ?_
    exact rfl
  · refine obH_in 31 rfl (by decide) ?_
    intro f9 w2 hE hs hl
    have e30 : f9.tmps.getD 30 undef = _ := sx_get hl 30 6 (by kernel_rfl) (by kernel_rfl)
    have h := fin_slot [(30, _)] hs rfl (holds_lk ⟨e30, trivial⟩)
    refine s_pure h (ru_min (h.ev rfl) (h.ev rfl)) rfl ?_; intro f h
    refine s_nil ?_
    have e9 := h.holds 31 _ rfl
    refine ⟨?_, rfl⟩
    refine e9.trans ?_
    exact rfl
  · refine obH_in 32 rfl (by decide) ?_
    intro f9 w2 hE hs hl
    have e28 : f9.tmps.getD 28 undef = _ := sx_get hl 28 4 (by kernel_rfl) (by kernel_rfl)
    have e31 : f9.tmps.getD 31 undef = _ := sx_get hl 31 7 (by kernel_rfl) (by kernel_rfl)
    have h := fin_slot [(28, _), (31, _)] hs rfl (holds_lk ⟨e28, e31, trivial⟩)
    refine s_pure h (ru_slice_str (min sx.size 64) Tryd.underlying9 (h.ev rfl) (h.ev rfl) (by split <;> omega) (by omega)) rfl ?_; intro f h
    refine s_nil ?_
    have e9 := h.holds 32 _ rfl
    refine ⟨?_, rfl⟩
    refine e9.trans ?_
    exact rfl
  · exact obT_in (by decide) (by decide)
  · exact obT_in (by decide) (by decide)
  · refine obH_in 0 rfl (by decide) ?_
    intro f9 w2 hE hs hl
    have e32 : f9.tmps.getD 32 undef = _ := sx_get hl 32 8 (by kernel_rfl) (by kernel_rfl)
    have h := fin_slot [(32, _)] hs rfl (holds_lk ⟨e32, trivial⟩)
    refine s_pure h (ru_assign (h.ev rfl)) rfl ?_; intro f h
    refine s_nil ?_
    have e9 := h.holds 0 _ rfl
    refine ⟨?_, rfl⟩
    refine e9.trans ?_
    exact rfl
  · intro f9 w2 hE hs hd9 hWp hT hR hFr hDj
    replace h := sl_new (ops := _) [(24, _), (25, _), (26, _), (28, _), (29, _), (30, _), (31, _), (32, _), (0, _)] h hs hd9 hR ⟨hT 0 24 (by decide) rfl, hT 1 25 (by decide) rfl, hT 2 26 (by decide) rfl, hT 4 28 (by decide) rfl, hT 5 29 (by decide) rfl, hT 6 30 (by decide) rfl, hT 7 31 (by decide) rfl, hT 8 32 (by decide) rfl, hT 11 0 (by decide) rfl, trivial⟩ (by kernel_rfl)
    replace s := s.more hE
    clear hT hR hFr hDj
    refine LstW.of ?_
    refine s_call h s fnc7 (gcut_any n0 vu _ (hU0.keep s.ext)) rfl rfl ?_; intro f w1 v9 hT hE h s; obtain rfl := hT
    refine s_store_row 1 h s row28 rfl rfl rfl (mArr_size _ _) (mArr_size _ _) (mArr_ones _ _ (rd_one hV)) ?_; intro w1 s
    refine s_store_row 0 h s row28 rfl rfl rfl (mArr_size _ _) (mArr_size _ _) (mArr_ones _ _ (rd_one hU)) ?_; intro w1 s
    refine s_nil ?_
    refine hK2 _ _ ?_
    refine c_seq fun K3 hK3 => ?_
    refine c_region ?_
    refine s_pure h (ru_move (h.ev rfl)) rfl ?_; intro f h
    refine s_load_row 1 h s row28 rfl rfl (mArr_size _ _) rfl ?_; intro f h
    refine s_call h s fnc8 (gjudge_any (sx.extract 0 (min sx.size 64)) (by omega) (cutM m0) (cutV vs (min m0.l.length 6)) _ (hV.keep s.ext) (by first | omega | decide | exact Nat.zero_le _) (hH.keep s.ext) (hK.keep s.ext)) rfl rfl ?_; rintro f w1 v36 ⟨ua, kua, rfl, hG⟩ hE h sq; replace s := s.add hG; clear hG
    refine s_pure h (ru_move (h.ev rfl)) rfl ?_; intro f h
    refine s_pure h (ru_extract (h.ev rfl) rfl) rfl ?_; intro f h
    refine s_pure h (ru_extract (h.ev rfl) rfl) rfl ?_; intro f h
    refine s_pure h (ru_extract (h.ev rfl) rfl) rfl ?_; intro f h
    refine s_alloc (mArr mZ nilV) h s zero28 rfl rfl ?_; intro f w1 b8 h s
    refine s_pure h (ru_assign (h.ev rfl)) rfl ?_; intro f h
    refine s_store_row 0 h s row28 rfl rfl rfl (mArr_size _ _) (mArr_size _ _) (mArr_ones _ _ (rd_one ((s.getG 1 rfl) (hV.keep s.ext)))) ?_; intro w1 s
    refine s_pure h (ru_assign (h.ev rfl)) rfl ?_; intro f h
    refine s_nil ?_
    refine hK3 _ _ ?_
    refine c_seq fun K4 hK4 => ?_
    refine c_seq fun K5 hK5 => ?_
    cases e0 : (decide (gdE (sx.extract 0 (min sx.size 64)) (cutM m0) = 0) : Bool)
    · skip
      refine c_region ?_
      refine s_pure h (ru_move (h.ev rfl)) rfl ?_; intro f h
      refine s_pure h (ru_val (.bool true) (ru_neq (h.ev rfl) (h.ev rfl)) (congrArg Value.bool (by simpa using e0))) rfl ?_; intro f h
      refine s_pure h (ru_move (h.ev rfl)) rfl ?_; intro f h
      refine s_off (b := false) h rfl rfl rfl rfl ?_; intro f h
      refine s_off (b := false) h rfl rfl rfl rfl ?_; intro f h
      refine s_pure h (ru_pick_t (h.ev rfl) (h.ev rfl)) rfl ?_; intro f h
      refine s_nil ?_
      refine hK5 _ _ ?_
      refine wpIn_cond_true (h.ev rfl) ?_
      refine c_seq fun K6 hK6 => ?_
      refine c_region ?_
      have y0 := gd_not (s := (sx.extract 0 (min sx.size 64))) (m := (cutM m0)) (fun h9 => of_decide_eq_false e0 h9.1)
      refine s_call h s fnc10 (ret_val (.bool true) (galive_any _ (hH.keep s.ext) (hK.keep s.ext)) (congrArg Value.bool (rfl))) rfl rfl ?_; intro f w1 v9 hT hE h s; obtain rfl := hT
      refine s_pure h (ru_move (h.ev rfl)) rfl ?_; intro f h
      refine s_on h rfl rfl rfl ?_
      refine s_pure h (ru_field fld28_0 (h.ev rfl)) rfl ?_; intro f h
      refine s_on h rfl rfl rfl ?_
      refine s_load_at1 (cell_of_has (Has.of_own s 0 rfl) 0 (mArr_k _ _)) h one3 rfl rfl ?_; intro f h
      refine s_on h rfl rfl rfl ?_
      refine s_pure h (ru_val (.bool true) (ru_eql (h.ev rfl) (h.ev rfl)) (congrArg Value.bool (by rw [y0]; rfl))) rfl ?_; intro f h
      refine s_pure h (ru_pick_t (h.ev rfl) (h.ev rfl)) rfl ?_; intro f h
      refine s_pure h (ru_assign (h.ev rfl)) rfl ?_; intro f h
      refine s_nil ?_
      refine hK6 _ _ ?_
      refine wpIn_ret ?_
      refine t_ret ?_
      exact e_tmp rfl h s rfl (rfl)
    · skip
      cases k0 : (decide (gdK (sx.extract 0 (min sx.size 64)) (cutM m0) = 1) : Bool)
      · skip
        refine c_region ?_
        refine s_pure h (ru_move (h.ev rfl)) rfl ?_; intro f h
        refine s_pure h (ru_val (.bool false) (ru_neq (h.ev rfl) (h.ev rfl)) (congrArg Value.bool (by simpa using e0))) rfl ?_; intro f h
        refine s_pure h (ru_move (h.ev rfl)) rfl ?_; intro f h
        refine s_on h rfl rfl rfl ?_
        refine s_pure h (ru_move (h.ev rfl)) rfl ?_; intro f h
        refine s_on h rfl rfl rfl ?_
        refine s_pure h (ru_val (.bool true) (ru_neq (h.ev rfl) (h.ev rfl)) (congrArg Value.bool (by simpa using k0))) rfl ?_; intro f h
        refine s_pure h (ru_pick_f (h.ev rfl) (h.ev rfl)) rfl ?_; intro f h
        refine s_nil ?_
        refine hK5 _ _ ?_
        refine wpIn_cond_true (h.ev rfl) ?_
        refine c_seq fun K7 hK7 => ?_
        refine c_region ?_
        have y0 := gd_not (s := (sx.extract 0 (min sx.size 64))) (m := (cutM m0)) (fun h9 => of_decide_eq_false k0 h9.2)
        refine s_call h s fnc10 (ret_val (.bool true) (galive_any _ (hH.keep s.ext) (hK.keep s.ext)) (congrArg Value.bool (rfl))) rfl rfl ?_; intro f w1 v9 hT hE h s; obtain rfl := hT
        refine s_pure h (ru_move (h.ev rfl)) rfl ?_; intro f h
        refine s_on h rfl rfl rfl ?_
        refine s_pure h (ru_field fld28_0 (h.ev rfl)) rfl ?_; intro f h
        refine s_on h rfl rfl rfl ?_
        refine s_load_at1 (cell_of_has (Has.of_own s 0 rfl) 0 (mArr_k _ _)) h one3 rfl rfl ?_; intro f h
        refine s_on h rfl rfl rfl ?_
        refine s_pure h (ru_val (.bool true) (ru_eql (h.ev rfl) (h.ev rfl)) (congrArg Value.bool (by rw [y0]; rfl))) rfl ?_; intro f h
        refine s_pure h (ru_pick_t (h.ev rfl) (h.ev rfl)) rfl ?_; intro f h
        refine s_pure h (ru_assign (h.ev rfl)) rfl ?_; intro f h
        refine s_nil ?_
        refine hK7 _ _ ?_
        refine wpIn_ret ?_
        refine t_ret ?_
        exact e_tmp rfl h s rfl (rfl)
      · skip
        refine c_region ?_
        refine s_pure h (ru_move (h.ev rfl)) rfl ?_; intro f h
        refine s_pure h (ru_val (.bool false) (ru_neq (h.ev rfl) (h.ev rfl)) (congrArg Value.bool (by simpa using e0))) rfl ?_; intro f h
        refine s_pure h (ru_move (h.ev rfl)) rfl ?_; intro f h
        refine s_on h rfl rfl rfl ?_
        refine s_pure h (ru_move (h.ev rfl)) rfl ?_; intro f h
        refine s_on h rfl rfl rfl ?_
        refine s_pure h (ru_val (.bool false) (ru_neq (h.ev rfl) (h.ev rfl)) (congrArg Value.bool (by simpa using k0))) rfl ?_; intro f h
        refine s_pure h (ru_pick_f (h.ev rfl) (h.ev rfl)) rfl ?_; intro f h
        refine s_nil ?_
        refine hK5 _ _ ?_
        refine wpIn_cond_false (h.ev rfl) ?_
        refine wpIn_skip ?_
        refine hK4 _ _ ?_
        refine c_seq fun K8 hK8 => ?_
        refine c_region ?_
        refine s_pure h (ru_field fld28_1 (h.ev rfl)) rfl ?_; intro f h
        obtain ⟨z1, z2, z3, z4⟩ := gd_echo (of_decide_eq_true e0) (of_decide_eq_true k0)
        obtain ⟨ha, _, ht2, hk2, hA⟩ := gd_ask (of_decide_eq_true e0) (of_decide_eq_true k0)
        rw [hA] at s
        refine s_load_at (Has.subL (Has.of_own s 0 rfl) 1 32 (D := idArr (_)) (mArr_i _ _)) h row23 rfl (by first | exact idArr_size _ | exact bytesF_size _ _) rfl ?_; intro f h
        refine s_pure h (ru_field fld28_2 (h.ev rfl)) rfl ?_; intro f h
        refine s_load_at (Has.subL (Has.of_own s 0 rfl) 33 34 (D := eArr (_)) (mArr_t _ _)) h row25 rfl (eArr_size _) rfl ?_; intro f h
        refine s_pure h (ru_field fld28_4 (h.ev rfl)) rfl ?_; intro f h
        refine s_load_at1 (cell_of_has (Has.of_own s 3 rfl) 68 (mArr_n _ _)) h one3 rfl rfl ?_; intro f h
        refine s_pure h (ru_field fld28_5 (h.ev rfl)) rfl ?_; intro f h
        refine s_load_at1 (cell_of_has (Has.of_own s 0 rfl) 69 (mArr_o _ _)) h one9 rfl rfl ?_; intro f h
        refine s_pure h (ru_build_m01245 sttM rfl (h.ev rfl) (h.ev rfl) (h.ev rfl) (h.ev rfl)) rfl ?_; intro f h
        refine s_alloc (mArr mZ nilV) h s zero28 rfl rfl ?_; intro f w1 b10 h s
        refine s_store_row 0 h s row28 rfl rfl rfl (mArr_size _ _) (mArr_size _ _) (mArr_ones _ _ rfl) ?_; intro w1 s
        refine s_nil ?_
        refine hK8 _ _ ?_
        refine c_seq fun K9 hK9 => ?_
        refine c_region ?_
        refine s_pure h (ru_field fld28_1 (h.ev rfl)) rfl ?_; intro f h
        refine s_load_at (Has.subL (Has.of_own s 1 rfl) 1 32 (D := idArr (_)) (mArr_i _ _)) h row23 rfl (by first | exact idArr_size _ | exact bytesF_size _ _) rfl ?_; intro f h
        refine s_pure h (ru_field fld28_2 (h.ev rfl)) rfl ?_; intro f h
        refine s_load_at (Has.subL (Has.of_own s 1 rfl) 33 34 (D := eArr (_)) (mArr_t _ _)) h row25 rfl (eArr_size _) rfl ?_; intro f h
        refine s_pure h (ru_field fld28_5 (h.ev rfl)) rfl ?_; intro f h
        refine s_load_at1 (cell_of_has (Has.of_own s 1 rfl) 69 (mArr_o _ _)) h one9 rfl rfl ?_; intro f h
        refine s_pure h (ru_build_m0125 sttM rfl (h.ev rfl) (h.ev rfl) (h.ev rfl)) rfl ?_; intro f h
        refine s_alloc (mArr mZ nilV) h s zero28 rfl rfl ?_; intro f w1 b11 h s
        refine s_store_row 0 h s row28 rfl rfl rfl (mArr_size _ _) (mArr_size _ _) (mArr_ones _ _ rfl) ?_; intro w1 s
        refine s_nil ?_
        refine hK9 _ _ ?_
        refine c_seq fun K10 hK10 => ?_
        refine c_region ?_
        refine s_pure h (ru_move (h.ev rfl)) rfl ?_; intro f h
        refine s_load_row 1 h s row28 rfl rfl (mArr_size _ _) rfl ?_; intro f h
        refine s_call h s fnc8 (gjudge_any (sx.extract 0 (min sx.size 64)) (by omega) (Mg.mk 4 (cutM m0).i (cutM m0).t [] (cutM m0).n (ncG (sx.extract 0 (min sx.size 64)) (cutM m0)) ⟨#[]⟩) nilV _ (re_nil _) (by first | omega | decide | exact Nat.zero_le _) (hH.keep s.ext) (hK.keep s.ext)) rfl rfl ?_; rintro f w1 v71 ⟨ub, kub, rfl, hG⟩ hE h sq; replace s := s.add hG; clear hG
        refine s_pure h (ru_move (h.ev rfl)) rfl ?_; intro f h
        refine s_pure h (ru_extract (h.ev rfl) rfl) rfl ?_; intro f h
        refine s_pure h (ru_extract (h.ev rfl) rfl) rfl ?_; intro f h
        refine s_pure h (ru_extract (h.ev rfl) rfl) rfl ?_; intro f h
        refine s_alloc (mArr mZ nilV) h s zero28 rfl rfl ?_; intro f w1 b13 h s
        refine s_pure h (ru_assign (h.ev rfl)) rfl ?_; intro f h
        refine s_store_row 0 h s row28 rfl rfl rfl (mArr_size _ _) (mArr_size _ _) (mArr_ones _ _ (rd_one ((s.getG 1 rfl) (re_nil _)))) ?_; intro w1 s
        refine s_pure h (ru_assign (h.ev rfl)) rfl ?_; intro f h
        refine s_nil ?_
        refine hK10 _ _ ?_
        refine c_seq fun K11 hK11 => ?_
        refine c_region ?_
        refine s_pure h (ru_move (h.ev rfl)) rfl ?_; intro f h
        refine s_load_row 2 h s row28 rfl rfl (mArr_size _ _) rfl ?_; intro f h
        refine s_call h s fnc8 (gjudge_any (sx.extract 0 (min sx.size 64)) (by omega) (Mg.mk 6 (cutM m0).i (cutM m0).t [] 0 (ncG (sx.extract 0 (min sx.size 64)) (cutM m0)) ⟨#[]⟩) nilV _ (re_nil _) (by first | omega | decide | exact Nat.zero_le _) (hH.keep s.ext) (hK.keep s.ext)) rfl rfl ?_; rintro f w1 v78 ⟨uc, kuc, rfl, hG⟩ hE h sq; replace s := s.add hG; clear hG
        refine s_pure h (ru_move (h.ev rfl)) rfl ?_; intro f h
        refine s_pure h (ru_extract (h.ev rfl) rfl) rfl ?_; intro f h
        refine s_pure h (ru_extract (h.ev rfl) rfl) rfl ?_; intro f h
        refine s_pure h (ru_extract (h.ev rfl) rfl) rfl ?_; intro f h
        refine s_alloc (mArr mZ nilV) h s zero28 rfl rfl ?_; intro f w1 b16 h s
        refine s_pure h (ru_assign (h.ev rfl)) rfl ?_; intro f h
        refine s_store_row 0 h s row28 rfl rfl rfl (mArr_size _ _) (mArr_size _ _) (mArr_ones _ _ (rd_one ((s.getG 1 rfl) (re_nil _)))) ?_; intro w1 s
        refine s_pure h (ru_assign (h.ev rfl)) rfl ?_; intro f h
        refine s_nil ?_
        refine hK11 _ _ ?_
        refine c_seq fun K12 hK12 => ?_
        refine c_seq fun K13 hK13 => ?_
        refine c_region ?_
        refine s_pure h (ru_move (h.ev rfl)) rfl ?_; intro f h
        refine s_pure h (ru_val (.bool false) (ru_neq (h.ev rfl) (h.ev rfl)) (congrArg Value.bool (by rw [z1]; rfl))) rfl ?_; intro f h
        refine s_pure h (ru_move (h.ev rfl)) rfl ?_; intro f h
        refine s_on h rfl rfl rfl ?_
        refine s_pure h (ru_move (h.ev rfl)) rfl ?_; intro f h
        refine s_on h rfl rfl rfl ?_
        refine s_pure h (ru_val (.bool false) (ru_neq (h.ev rfl) (h.ev rfl)) (congrArg Value.bool (by rw [z2]; rfl))) rfl ?_; intro f h
        refine s_pure h (ru_pick_f (h.ev rfl) (h.ev rfl)) rfl ?_; intro f h
        refine s_pure h (ru_move (h.ev rfl)) rfl ?_; intro f h
        refine s_on h rfl rfl rfl ?_
        refine s_pure h (ru_move (h.ev rfl)) rfl ?_; intro f h
        refine s_on h rfl rfl rfl ?_
        refine s_pure h (ru_val (.bool false) (ru_neq (h.ev rfl) (h.ev rfl)) (congrArg Value.bool (by rw [z3]; rfl))) rfl ?_; intro f h
        refine s_pure h (ru_pick_f (h.ev rfl) (h.ev rfl)) rfl ?_; intro f h
        refine s_pure h (ru_move (h.ev rfl)) rfl ?_; intro f h
        refine s_on h rfl rfl rfl ?_
        refine s_pure h (ru_move (h.ev rfl)) rfl ?_; intro f h
        refine s_on h rfl rfl rfl ?_
        refine s_pure h (ru_val (.bool false) (ru_neq (h.ev rfl) (h.ev rfl)) (congrArg Value.bool (by rw [z4]; rfl))) rfl ?_; intro f h
        refine s_pure h (ru_pick_f (h.ev rfl) (h.ev rfl)) rfl ?_; intro f h
        refine s_pure h (ru_move (h.ev rfl)) rfl ?_; intro f h
        refine s_on h rfl rfl rfl ?_
        refine s_call h s fnc10 (ret_val (.bool true) (galive_any _ (hH.keep s.ext) (hK.keep s.ext)) (congrArg Value.bool (rfl))) rfl rfl ?_; intro f w1 v9 hT hE h s; obtain rfl := hT
        refine s_on h rfl rfl rfl ?_
        refine s_pure h (ru_val (.bool false) (ru_not (h.ev rfl)) rfl) rfl ?_; intro f h
        refine s_pure h (ru_pick_f (h.ev rfl) (h.ev rfl)) rfl ?_; intro f h
        refine s_nil ?_
        refine hK13 _ _ ?_
        refine wpIn_cond_false (h.ev rfl) ?_
        refine wpIn_skip ?_
        refine hK12 _ _ ?_
        refine c_seq fun K14 hK14 => ?_
        refine c_region ?_
        refine s_load_row 5 h s row28 rfl rfl (mArr_size _ _) rfl ?_; intro f h
        refine s_alloc (mArr mZ nilV) h s zero28 rfl rfl ?_; intro f w1 b18 h s
        refine s_store_row 0 h s row28 rfl rfl rfl (mArr_size _ _) (mArr_size _ _) (mArr_ones _ _ rfl) ?_; intro w1 s
        refine s_nil ?_
        refine hK14 _ _ ?_
        refine c_seq fun K15 hK15 => ?_
        refine c_regT 1 7 [[], [0], [], [2], [0, 1], [0, 1, 4], [0, 1, 2, 3, 4, 5], [0, 1, 2, 3, 4, 5, 6]] [[], [], [], [], [], [8], [], []] [fun _ => [], fun _ => [], fun _ => [], fun _ => [], fun _ => [], fun v => [.blk b18 (.cells (mArr (Mg.mk 4 (cutM n0).i (cutM m0).t [] (cutM m0).n (ncG (sx.extract 0 (min sx.size 64)) (cutM m0)) ⟨#[]⟩) nilV) 28)], fun _ => [], fun _ => []] [[.blk b18 (.cells (mArr (Mg.mk 4 (cutM m0).i (cutM m0).t [] (cutM m0).n (ncG (sx.extract 0 (min sx.size 64)) (cutM m0)) ⟨#[]⟩) nilV) 28)]] [fun v => v 0 = .pointer (some ⟨b5, 1, none⟩), fun v => v 1 = .agg (idArr (cutM n0).i), fun v => v 2 = .pointer (some ⟨b5, 33, none⟩), fun v => v 3 = .agg (eArr (cutM n0).t), fun v => v 4 = .pointer (some ⟨b18, 1, none⟩), fun _ => True, fun v => v 6 = .pointer (some ⟨b18, 33, none⟩), fun _ => True] [.blk b16 (.cells (mArr (gdA (sx.extract 0 (min sx.size 64)) (Mg.mk 6 (cutM m0).i (cutM m0).t [] 0 (ncG (sx.extract 0 (min sx.size 64)) (cutM m0)) ⟨#[]⟩)) uc) 28), (.grp kuc (fun w9 => RdE w9 nilV (Mg.mk 6 (cutM m0).i (cutM m0).t [] 0 (ncG (sx.extract 0 (min sx.size 64)) (cutM m0)) ⟨#[]⟩).l → RdE w9 uc (gdA (sx.extract 0 (min sx.size 64)) (Mg.mk 6 (cutM m0).i (cutM m0).t [] 0 (ncG (sx.extract 0 (min sx.size 64)) (cutM m0)) ⟨#[]⟩)).l)), .blk b13 (.cells (mArr (gdA (sx.extract 0 (min sx.size 64)) (Mg.mk 4 (cutM m0).i (cutM m0).t [] (cutM m0).n (ncG (sx.extract 0 (min sx.size 64)) (cutM m0)) ⟨#[]⟩)) ub) 28), (.grp kub (fun w9 => RdE w9 nilV (Mg.mk 4 (cutM m0).i (cutM m0).t [] (cutM m0).n (ncG (sx.extract 0 (min sx.size 64)) (cutM m0)) ⟨#[]⟩).l → RdE w9 ub (gdA (sx.extract 0 (min sx.size 64)) (Mg.mk 4 (cutM m0).i (cutM m0).t [] (cutM m0).n (ncG (sx.extract 0 (min sx.size 64)) (cutM m0)) ⟨#[]⟩)).l)), .blk b11 (.cells (mArr (Mg.mk 6 (cutM m0).i (cutM m0).t [] 0 (ncG (sx.extract 0 (min sx.size 64)) (cutM m0)) ⟨#[]⟩) nilV) 28), .blk b10 (.cells (mArr (Mg.mk 4 (cutM m0).i (cutM m0).t [] (cutM m0).n (ncG (sx.extract 0 (min sx.size 64)) (cutM m0)) ⟨#[]⟩) nilV) 28), .blk b8 (.cells (mArr (askM (sx.extract 0 (min sx.size 64)) (cutM m0)) ua) 28), (.grp kua (fun w9 => RdE w9 (cutV vs (min m0.l.length 6)) (cutM m0).l → RdE w9 ua (askM (sx.extract 0 (min sx.size 64)) (cutM m0)).l)), .blk b5 (.cells (mArr (cutM n0) (cutV vu (min n0.l.length 6))) 28), .blk b4 (.cells (mArr (cutM m0) (cutV vs (min m0.l.length 6))) 28)] h s rfl (by kernel_rfl) (by kernel_rfl) (by kernel_rfl) (And.intro ?_ (And.intro ?_ (And.intro ?_ (And.intro ?_ (And.intro ?_ (And.intro ?_ (And.intro ?_ (trivial)))))))) [0, 1, 2, 3, 4, 5, 6] (by kernel_rfl) ?_
        · intro f9 w2 vl12 E9 hs9 hd9 hl hF s
          have e5 : f9.tmps.getD 5 undef = _ := oc_old hl 5 (by kernel_rfl) (by kernel_rfl) (h.holds 5 _ rfl)
          have h := fin_slot [(5, _)] (hs9.trans h.size) (hd9.trans h.defers) (holds_lk ⟨e5, trivial⟩)
          replace s : St w (.blk b16 (.cells (mArr (gdA (sx.extract 0 (min sx.size 64)) (Mg.mk 6 (cutM m0).i (cutM m0).t [] 0 (ncG (sx.extract 0 (min sx.size 64)) (cutM m0)) ⟨#[]⟩)) uc) 28) :: (.grp kuc (fun w9 => RdE w9 nilV (Mg.mk 6 (cutM m0).i (cutM m0).t [] 0 (ncG (sx.extract 0 (min sx.size 64)) (cutM m0)) ⟨#[]⟩).l → RdE w9 uc (gdA (sx.extract 0 (min sx.size 64)) (Mg.mk 6 (cutM m0).i (cutM m0).t [] 0 (ncG (sx.extract 0 (min sx.size 64)) (cutM m0)) ⟨#[]⟩)).l)) :: .blk b13 (.cells (mArr (gdA (sx.extract 0 (min sx.size 64)) (Mg.mk 4 (cutM m0).i (cutM m0).t [] (cutM m0).n (ncG (sx.extract 0 (min sx.size 64)) (cutM m0)) ⟨#[]⟩)) ub) 28) :: (.grp kub (fun w9 => RdE w9 nilV (Mg.mk 4 (cutM m0).i (cutM m0).t [] (cutM m0).n (ncG (sx.extract 0 (min sx.size 64)) (cutM m0)) ⟨#[]⟩).l → RdE w9 ub (gdA (sx.extract 0 (min sx.size 64)) (Mg.mk 4 (cutM m0).i (cutM m0).t [] (cutM m0).n (ncG (sx.extract 0 (min sx.size 64)) (cutM m0)) ⟨#[]⟩)).l)) :: .blk b11 (.cells (mArr (Mg.mk 6 (cutM m0).i (cutM m0).t [] 0 (ncG (sx.extract 0 (min sx.size 64)) (cutM m0)) ⟨#[]⟩) nilV) 28) :: .blk b10 (.cells (mArr (Mg.mk 4 (cutM m0).i (cutM m0).t [] (cutM m0).n (ncG (sx.extract 0 (min sx.size 64)) (cutM m0)) ⟨#[]⟩) nilV) 28) :: .blk b8 (.cells (mArr (askM (sx.extract 0 (min sx.size 64)) (cutM m0)) ua) 28) :: (.grp kua (fun w9 => RdE w9 (cutV vs (min m0.l.length 6)) (cutM m0).l → RdE w9 ua (askM (sx.extract 0 (min sx.size 64)) (cutM m0)).l)) :: .blk b5 (.cells (mArr (cutM n0) (cutV vu (min n0.l.length 6))) 28) :: .blk b4 (.cells (mArr (cutM m0) (cutV vs (min m0.l.length 6))) 28) :: E9) _ := s
          refine s_pure h (ru_field fld28_1 (h.ev rfl)) rfl ?_; intro f h
          exact s_nil ⟨_, oc_out 101 rfl (h.holds 101 _ rfl), rfl, s⟩
        · intro f9 w2 vl12 E9 hs9 hd9 hl hF s
          have e101 : f9.tmps.getD 101 undef = .pointer (some ⟨b5, 1, none⟩) := (oc_get hl 101 0 (by kernel_rfl) (by kernel_rfl)).trans (hF 0 (by decide))
          have h := fin_slot [(101, .pointer (some ⟨b5, 1, none⟩))] (hs9.trans h.size) (hd9.trans h.defers) (holds_lk ⟨e101, trivial⟩)
          replace s : St w (.blk b16 (.cells (mArr (gdA (sx.extract 0 (min sx.size 64)) (Mg.mk 6 (cutM m0).i (cutM m0).t [] 0 (ncG (sx.extract 0 (min sx.size 64)) (cutM m0)) ⟨#[]⟩)) uc) 28) :: (.grp kuc (fun w9 => RdE w9 nilV (Mg.mk 6 (cutM m0).i (cutM m0).t [] 0 (ncG (sx.extract 0 (min sx.size 64)) (cutM m0)) ⟨#[]⟩).l → RdE w9 uc (gdA (sx.extract 0 (min sx.size 64)) (Mg.mk 6 (cutM m0).i (cutM m0).t [] 0 (ncG (sx.extract 0 (min sx.size 64)) (cutM m0)) ⟨#[]⟩)).l)) :: .blk b13 (.cells (mArr (gdA (sx.extract 0 (min sx.size 64)) (Mg.mk 4 (cutM m0).i (cutM m0).t [] (cutM m0).n (ncG (sx.extract 0 (min sx.size 64)) (cutM m0)) ⟨#[]⟩)) ub) 28) :: (.grp kub (fun w9 => RdE w9 nilV (Mg.mk 4 (cutM m0).i (cutM m0).t [] (cutM m0).n (ncG (sx.extract 0 (min sx.size 64)) (cutM m0)) ⟨#[]⟩).l → RdE w9 ub (gdA (sx.extract 0 (min sx.size 64)) (Mg.mk 4 (cutM m0).i (cutM m0).t [] (cutM m0).n (ncG (sx.extract 0 (min sx.size 64)) (cutM m0)) ⟨#[]⟩)).l)) :: .blk b11 (.cells (mArr (Mg.mk 6 (cutM m0).i (cutM m0).t [] 0 (ncG (sx.extract 0 (min sx.size 64)) (cutM m0)) ⟨#[]⟩) nilV) 28) :: .blk b10 (.cells (mArr (Mg.mk 4 (cutM m0).i (cutM m0).t [] (cutM m0).n (ncG (sx.extract 0 (min sx.size 64)) (cutM m0)) ⟨#[]⟩) nilV) 28) :: .blk b8 (.cells (mArr (askM (sx.extract 0 (min sx.size 64)) (cutM m0)) ua) 28) :: (.grp kua (fun w9 => RdE w9 (cutV vs (min m0.l.length 6)) (cutM m0).l → RdE w9 ua (askM (sx.extract 0 (min sx.size 64)) (cutM m0)).l)) :: .blk b5 (.cells (mArr (cutM n0) (cutV vu (min n0.l.length 6))) 28) :: .blk b4 (.cells (mArr (cutM m0) (cutV vs (min m0.l.length 6))) 28) :: E9) _ := s
          refine s_load_at (Has.subL (Has.of_own s 8 rfl) 1 32 (D := idArr (_)) (mArr_i _ _)) h row23 rfl (by first | exact idArr_size _ | exact bytesF_size _ _) rfl ?_; intro f h
          exact s_nil ⟨_, oc_out 102 rfl (h.holds 102 _ rfl), rfl, s⟩
        · intro f9 w2 vl12 E9 hs9 hd9 hl hF s
          have e5 : f9.tmps.getD 5 undef = _ := oc_old hl 5 (by kernel_rfl) (by kernel_rfl) (h.holds 5 _ rfl)
          have h := fin_slot [(5, _)] (hs9.trans h.size) (hd9.trans h.defers) (holds_lk ⟨e5, trivial⟩)
          replace s : St w (.blk b16 (.cells (mArr (gdA (sx.extract 0 (min sx.size 64)) (Mg.mk 6 (cutM m0).i (cutM m0).t [] 0 (ncG (sx.extract 0 (min sx.size 64)) (cutM m0)) ⟨#[]⟩)) uc) 28) :: (.grp kuc (fun w9 => RdE w9 nilV (Mg.mk 6 (cutM m0).i (cutM m0).t [] 0 (ncG (sx.extract 0 (min sx.size 64)) (cutM m0)) ⟨#[]⟩).l → RdE w9 uc (gdA (sx.extract 0 (min sx.size 64)) (Mg.mk 6 (cutM m0).i (cutM m0).t [] 0 (ncG (sx.extract 0 (min sx.size 64)) (cutM m0)) ⟨#[]⟩)).l)) :: .blk b13 (.cells (mArr (gdA (sx.extract 0 (min sx.size 64)) (Mg.mk 4 (cutM m0).i (cutM m0).t [] (cutM m0).n (ncG (sx.extract 0 (min sx.size 64)) (cutM m0)) ⟨#[]⟩)) ub) 28) :: (.grp kub (fun w9 => RdE w9 nilV (Mg.mk 4 (cutM m0).i (cutM m0).t [] (cutM m0).n (ncG (sx.extract 0 (min sx.size 64)) (cutM m0)) ⟨#[]⟩).l → RdE w9 ub (gdA (sx.extract 0 (min sx.size 64)) (Mg.mk 4 (cutM m0).i (cutM m0).t [] (cutM m0).n (ncG (sx.extract 0 (min sx.size 64)) (cutM m0)) ⟨#[]⟩)).l)) :: .blk b11 (.cells (mArr (Mg.mk 6 (cutM m0).i (cutM m0).t [] 0 (ncG (sx.extract 0 (min sx.size 64)) (cutM m0)) ⟨#[]⟩) nilV) 28) :: .blk b10 (.cells (mArr (Mg.mk 4 (cutM m0).i (cutM m0).t [] (cutM m0).n (ncG (sx.extract 0 (min sx.size 64)) (cutM m0)) ⟨#[]⟩) nilV) 28) :: .blk b8 (.cells (mArr (askM (sx.extract 0 (min sx.size 64)) (cutM m0)) ua) 28) :: (.grp kua (fun w9 => RdE w9 (cutV vs (min m0.l.length 6)) (cutM m0).l → RdE w9 ua (askM (sx.extract 0 (min sx.size 64)) (cutM m0)).l)) :: .blk b5 (.cells (mArr (cutM n0) (cutV vu (min n0.l.length 6))) 28) :: .blk b4 (.cells (mArr (cutM m0) (cutV vs (min m0.l.length 6))) 28) :: E9) _ := s
          refine s_pure h (ru_field fld28_2 (h.ev rfl)) rfl ?_; intro f h
          exact s_nil ⟨_, oc_out 103 rfl (h.holds 103 _ rfl), rfl, s⟩
        · intro f9 w2 vl12 E9 hs9 hd9 hl hF s
          have e103 : f9.tmps.getD 103 undef = .pointer (some ⟨b5, 33, none⟩) := (oc_get hl 103 2 (by kernel_rfl) (by kernel_rfl)).trans (hF 2 (by decide))
          have h := fin_slot [(103, .pointer (some ⟨b5, 33, none⟩))] (hs9.trans h.size) (hd9.trans h.defers) (holds_lk ⟨e103, trivial⟩)
          replace s : St w (.blk b16 (.cells (mArr (gdA (sx.extract 0 (min sx.size 64)) (Mg.mk 6 (cutM m0).i (cutM m0).t [] 0 (ncG (sx.extract 0 (min sx.size 64)) (cutM m0)) ⟨#[]⟩)) uc) 28) :: (.grp kuc (fun w9 => RdE w9 nilV (Mg.mk 6 (cutM m0).i (cutM m0).t [] 0 (ncG (sx.extract 0 (min sx.size 64)) (cutM m0)) ⟨#[]⟩).l → RdE w9 uc (gdA (sx.extract 0 (min sx.size 64)) (Mg.mk 6 (cutM m0).i (cutM m0).t [] 0 (ncG (sx.extract 0 (min sx.size 64)) (cutM m0)) ⟨#[]⟩)).l)) :: .blk b13 (.cells (mArr (gdA (sx.extract 0 (min sx.size 64)) (Mg.mk 4 (cutM m0).i (cutM m0).t [] (cutM m0).n (ncG (sx.extract 0 (min sx.size 64)) (cutM m0)) ⟨#[]⟩)) ub) 28) :: (.grp kub (fun w9 => RdE w9 nilV (Mg.mk 4 (cutM m0).i (cutM m0).t [] (cutM m0).n (ncG (sx.extract 0 (min sx.size 64)) (cutM m0)) ⟨#[]⟩).l → RdE w9 ub (gdA (sx.extract 0 (min sx.size 64)) (Mg.mk 4 (cutM m0).i (cutM m0).t [] (cutM m0).n (ncG (sx.extract 0 (min sx.size 64)) (cutM m0)) ⟨#[]⟩)).l)) :: .blk b11 (.cells (mArr (Mg.mk 6 (cutM m0).i (cutM m0).t [] 0 (ncG (sx.extract 0 (min sx.size 64)) (cutM m0)) ⟨#[]⟩) nilV) 28) :: .blk b10 (.cells (mArr (Mg.mk 4 (cutM m0).i (cutM m0).t [] (cutM m0).n (ncG (sx.extract 0 (min sx.size 64)) (cutM m0)) ⟨#[]⟩) nilV) 28) :: .blk b8 (.cells (mArr (askM (sx.extract 0 (min sx.size 64)) (cutM m0)) ua) 28) :: (.grp kua (fun w9 => RdE w9 (cutV vs (min m0.l.length 6)) (cutM m0).l → RdE w9 ua (askM (sx.extract 0 (min sx.size 64)) (cutM m0)).l)) :: .blk b5 (.cells (mArr (cutM n0) (cutV vu (min n0.l.length 6))) 28) :: .blk b4 (.cells (mArr (cutM m0) (cutV vs (min m0.l.length 6))) 28) :: E9) _ := s
          refine s_load_at (Has.subL (Has.of_own s 8 rfl) 33 34 (D := eArr (_)) (mArr_t _ _)) h row25 rfl (eArr_size _) rfl ?_; intro f h
          exact s_nil ⟨_, oc_out 104 rfl (h.holds 104 _ rfl), rfl, s⟩
        · intro f9 w2 vl12 E9 hs9 hd9 hl hF s
          have e18 : f9.tmps.getD 18 undef = _ := oc_old hl 18 (by kernel_rfl) (by kernel_rfl) (h.holds 18 _ rfl)
          have h := fin_slot [(18, _)] (hs9.trans h.size) (hd9.trans h.defers) (holds_lk ⟨e18, trivial⟩)
          replace s : St w (.blk b16 (.cells (mArr (gdA (sx.extract 0 (min sx.size 64)) (Mg.mk 6 (cutM m0).i (cutM m0).t [] 0 (ncG (sx.extract 0 (min sx.size 64)) (cutM m0)) ⟨#[]⟩)) uc) 28) :: (.grp kuc (fun w9 => RdE w9 nilV (Mg.mk 6 (cutM m0).i (cutM m0).t [] 0 (ncG (sx.extract 0 (min sx.size 64)) (cutM m0)) ⟨#[]⟩).l → RdE w9 uc (gdA (sx.extract 0 (min sx.size 64)) (Mg.mk 6 (cutM m0).i (cutM m0).t [] 0 (ncG (sx.extract 0 (min sx.size 64)) (cutM m0)) ⟨#[]⟩)).l)) :: .blk b13 (.cells (mArr (gdA (sx.extract 0 (min sx.size 64)) (Mg.mk 4 (cutM m0).i (cutM m0).t [] (cutM m0).n (ncG (sx.extract 0 (min sx.size 64)) (cutM m0)) ⟨#[]⟩)) ub) 28) :: (.grp kub (fun w9 => RdE w9 nilV (Mg.mk 4 (cutM m0).i (cutM m0).t [] (cutM m0).n (ncG (sx.extract 0 (min sx.size 64)) (cutM m0)) ⟨#[]⟩).l → RdE w9 ub (gdA (sx.extract 0 (min sx.size 64)) (Mg.mk 4 (cutM m0).i (cutM m0).t [] (cutM m0).n (ncG (sx.extract 0 (min sx.size 64)) (cutM m0)) ⟨#[]⟩)).l)) :: .blk b11 (.cells (mArr (Mg.mk 6 (cutM m0).i (cutM m0).t [] 0 (ncG (sx.extract 0 (min sx.size 64)) (cutM m0)) ⟨#[]⟩) nilV) 28) :: .blk b10 (.cells (mArr (Mg.mk 4 (cutM m0).i (cutM m0).t [] (cutM m0).n (ncG (sx.extract 0 (min sx.size 64)) (cutM m0)) ⟨#[]⟩) nilV) 28) :: .blk b8 (.cells (mArr (askM (sx.extract 0 (min sx.size 64)) (cutM m0)) ua) 28) :: (.grp kua (fun w9 => RdE w9 (cutV vs (min m0.l.length 6)) (cutM m0).l → RdE w9 ua (askM (sx.extract 0 (min sx.size 64)) (cutM m0)).l)) :: .blk b5 (.cells (mArr (cutM n0) (cutV vu (min n0.l.length 6))) 28) :: .blk b4 (.cells (mArr (cutM m0) (cutV vs (min m0.l.length 6))) 28) :: E9) _ := s
          refine s_pure h (ru_field fld28_1 (h.ev rfl)) rfl ?_; intro f h
          exact s_nil ⟨_, oc_out 105 rfl (h.holds 105 _ rfl), rfl, s⟩
        · intro f9 w2 vl12 E9 hs9 hd9 hl hF s
          have e105 : f9.tmps.getD 105 undef = .pointer (some ⟨b18, 1, none⟩) := (oc_get hl 105 4 (by kernel_rfl) (by kernel_rfl)).trans (hF 4 (by decide))
          have e102 : f9.tmps.getD 102 undef = .agg (idArr (cutM n0).i) := (oc_get hl 102 1 (by kernel_rfl) (by kernel_rfl)).trans (hF 1 (by decide))
          have h := fin_slot [(105, .pointer (some ⟨b18, 1, none⟩)), (102, .agg (idArr (cutM n0).i))] (hs9.trans h.size) (hd9.trans h.defers) (holds_lk ⟨e105, e102, trivial⟩)
          replace s : St w (.blk b18 (.cells (mArr (Mg.mk 4 (cutM m0).i (cutM m0).t [] (cutM m0).n (ncG (sx.extract 0 (min sx.size 64)) (cutM m0)) ⟨#[]⟩) nilV) 28) :: .blk b16 (.cells (mArr (gdA (sx.extract 0 (min sx.size 64)) (Mg.mk 6 (cutM m0).i (cutM m0).t [] 0 (ncG (sx.extract 0 (min sx.size 64)) (cutM m0)) ⟨#[]⟩)) uc) 28) :: (.grp kuc (fun w9 => RdE w9 nilV (Mg.mk 6 (cutM m0).i (cutM m0).t [] 0 (ncG (sx.extract 0 (min sx.size 64)) (cutM m0)) ⟨#[]⟩).l → RdE w9 uc (gdA (sx.extract 0 (min sx.size 64)) (Mg.mk 6 (cutM m0).i (cutM m0).t [] 0 (ncG (sx.extract 0 (min sx.size 64)) (cutM m0)) ⟨#[]⟩)).l)) :: .blk b13 (.cells (mArr (gdA (sx.extract 0 (min sx.size 64)) (Mg.mk 4 (cutM m0).i (cutM m0).t [] (cutM m0).n (ncG (sx.extract 0 (min sx.size 64)) (cutM m0)) ⟨#[]⟩)) ub) 28) :: (.grp kub (fun w9 => RdE w9 nilV (Mg.mk 4 (cutM m0).i (cutM m0).t [] (cutM m0).n (ncG (sx.extract 0 (min sx.size 64)) (cutM m0)) ⟨#[]⟩).l → RdE w9 ub (gdA (sx.extract 0 (min sx.size 64)) (Mg.mk 4 (cutM m0).i (cutM m0).t [] (cutM m0).n (ncG (sx.extract 0 (min sx.size 64)) (cutM m0)) ⟨#[]⟩)).l)) :: .blk b11 (.cells (mArr (Mg.mk 6 (cutM m0).i (cutM m0).t [] 0 (ncG (sx.extract 0 (min sx.size 64)) (cutM m0)) ⟨#[]⟩) nilV) 28) :: .blk b10 (.cells (mArr (Mg.mk 4 (cutM m0).i (cutM m0).t [] (cutM m0).n (ncG (sx.extract 0 (min sx.size 64)) (cutM m0)) ⟨#[]⟩) nilV) 28) :: .blk b8 (.cells (mArr (askM (sx.extract 0 (min sx.size 64)) (cutM m0)) ua) 28) :: (.grp kua (fun w9 => RdE w9 (cutV vs (min m0.l.length 6)) (cutM m0).l → RdE w9 ua (askM (sx.extract 0 (min sx.size 64)) (cutM m0)).l)) :: .blk b5 (.cells (mArr (cutM n0) (cutV vu (min n0.l.length 6))) 28) :: .blk b4 (.cells (mArr (cutM m0) (cutV vs (min m0.l.length 6))) 28) :: E9) _ := s
          refine s_store_sub 0 h s row23 rfl rfl rfl (by first | exact idArr_size _ | exact bytesF_size _ _) (by rw [mArr_size]; omega) (by first | exact idArr_ones _ | exact bytesF_ones _ _) ?_; intro w1 s
          replace s := s.recell (D := mArr (Mg.mk 4 (cutM n0).i (cutM m0).t [] (cutM m0).n (ncG (sx.extract 0 (min sx.size 64)) (cutM m0)) ⟨#[]⟩) nilV) 0 rfl (mArr_splI _ _ _)
          exact s_nil ⟨undef, oc_none rfl, trivial, s⟩
        · intro f9 w2 vl12 E9 hs9 hd9 hl hF s
          have e18 : f9.tmps.getD 18 undef = _ := oc_old hl 18 (by kernel_rfl) (by kernel_rfl) (h.holds 18 _ rfl)
          have h := fin_slot [(18, _)] (hs9.trans h.size) (hd9.trans h.defers) (holds_lk ⟨e18, trivial⟩)
          replace s : St w (.blk b16 (.cells (mArr (gdA (sx.extract 0 (min sx.size 64)) (Mg.mk 6 (cutM m0).i (cutM m0).t [] 0 (ncG (sx.extract 0 (min sx.size 64)) (cutM m0)) ⟨#[]⟩)) uc) 28) :: (.grp kuc (fun w9 => RdE w9 nilV (Mg.mk 6 (cutM m0).i (cutM m0).t [] 0 (ncG (sx.extract 0 (min sx.size 64)) (cutM m0)) ⟨#[]⟩).l → RdE w9 uc (gdA (sx.extract 0 (min sx.size 64)) (Mg.mk 6 (cutM m0).i (cutM m0).t [] 0 (ncG (sx.extract 0 (min sx.size 64)) (cutM m0)) ⟨#[]⟩)).l)) :: .blk b13 (.cells (mArr (gdA (sx.extract 0 (min sx.size 64)) (Mg.mk 4 (cutM m0).i (cutM m0).t [] (cutM m0).n (ncG (sx.extract 0 (min sx.size 64)) (cutM m0)) ⟨#[]⟩)) ub) 28) :: (.grp kub (fun w9 => RdE w9 nilV (Mg.mk 4 (cutM m0).i (cutM m0).t [] (cutM m0).n (ncG (sx.extract 0 (min sx.size 64)) (cutM m0)) ⟨#[]⟩).l → RdE w9 ub (gdA (sx.extract 0 (min sx.size 64)) (Mg.mk 4 (cutM m0).i (cutM m0).t [] (cutM m0).n (ncG (sx.extract 0 (min sx.size 64)) (cutM m0)) ⟨#[]⟩)).l)) :: .blk b11 (.cells (mArr (Mg.mk 6 (cutM m0).i (cutM m0).t [] 0 (ncG (sx.extract 0 (min sx.size 64)) (cutM m0)) ⟨#[]⟩) nilV) 28) :: .blk b10 (.cells (mArr (Mg.mk 4 (cutM m0).i (cutM m0).t [] (cutM m0).n (ncG (sx.extract 0 (min sx.size 64)) (cutM m0)) ⟨#[]⟩) nilV) 28) :: .blk b8 (.cells (mArr (askM (sx.extract 0 (min sx.size 64)) (cutM m0)) ua) 28) :: (.grp kua (fun w9 => RdE w9 (cutV vs (min m0.l.length 6)) (cutM m0).l → RdE w9 ua (askM (sx.extract 0 (min sx.size 64)) (cutM m0)).l)) :: .blk b5 (.cells (mArr (cutM n0) (cutV vu (min n0.l.length 6))) 28) :: .blk b4 (.cells (mArr (cutM m0) (cutV vs (min m0.l.length 6))) 28) :: E9) _ := s
          refine s_pure h (ru_field fld28_2 (h.ev rfl)) rfl ?_; intro f h
          exact s_nil ⟨_, oc_out 106 rfl (h.holds 106 _ rfl), rfl, s⟩
        intro f w1 vl12 hs9 hd9 hv hr hF s
        replace hv := fun i d h9 => hv i d (show Nat.blt i 7 = true from h9)
        replace h := oc_slT 7 (ops := _) [(101, .pointer (some ⟨b5, 1, none⟩)), (102, .agg (idArr (cutM n0).i)), (103, .pointer (some ⟨b5, 33, none⟩)), (104, .agg (eArr (cutM n0).t)), (105, .pointer (some ⟨b18, 1, none⟩)), (106, .pointer (some ⟨b18, 33, none⟩))] h hs9 hd9 hr ⟨(hv 0 101 rfl rfl).trans (hF 0 (by kernel_rfl)), (hv 1 102 rfl rfl).trans (hF 1 (by kernel_rfl)), (hv 2 103 rfl rfl).trans (hF 2 (by kernel_rfl)), (hv 3 104 rfl rfl).trans (hF 3 (by kernel_rfl)), (hv 4 105 rfl rfl).trans (hF 4 (by kernel_rfl)), (hv 6 106 rfl rfl).trans (hF 6 (by kernel_rfl)), trivial⟩ (by kernel_rfl)
        replace s : St w [.blk b18 (.cells (mArr (Mg.mk 4 (cutM n0).i (cutM m0).t [] (cutM m0).n (ncG (sx.extract 0 (min sx.size 64)) (cutM m0)) ⟨#[]⟩) nilV) 28), .blk b16 (.cells (mArr (gdA (sx.extract 0 (min sx.size 64)) (Mg.mk 6 (cutM m0).i (cutM m0).t [] 0 (ncG (sx.extract 0 (min sx.size 64)) (cutM m0)) ⟨#[]⟩)) uc) 28), (.grp kuc (fun w9 => RdE w9 nilV (Mg.mk 6 (cutM m0).i (cutM m0).t [] 0 (ncG (sx.extract 0 (min sx.size 64)) (cutM m0)) ⟨#[]⟩).l → RdE w9 uc (gdA (sx.extract 0 (min sx.size 64)) (Mg.mk 6 (cutM m0).i (cutM m0).t [] 0 (ncG (sx.extract 0 (min sx.size 64)) (cutM m0)) ⟨#[]⟩)).l)), .blk b13 (.cells (mArr (gdA (sx.extract 0 (min sx.size 64)) (Mg.mk 4 (cutM m0).i (cutM m0).t [] (cutM m0).n (ncG (sx.extract 0 (min sx.size 64)) (cutM m0)) ⟨#[]⟩)) ub) 28), (.grp kub (fun w9 => RdE w9 nilV (Mg.mk 4 (cutM m0).i (cutM m0).t [] (cutM m0).n (ncG (sx.extract 0 (min sx.size 64)) (cutM m0)) ⟨#[]⟩).l → RdE w9 ub (gdA (sx.extract 0 (min sx.size 64)) (Mg.mk 4 (cutM m0).i (cutM m0).t [] (cutM m0).n (ncG (sx.extract 0 (min sx.size 64)) (cutM m0)) ⟨#[]⟩)).l)), .blk b11 (.cells (mArr (Mg.mk 6 (cutM m0).i (cutM m0).t [] 0 (ncG (sx.extract 0 (min sx.size 64)) (cutM m0)) ⟨#[]⟩) nilV) 28), .blk b10 (.cells (mArr (Mg.mk 4 (cutM m0).i (cutM m0).t [] (cutM m0).n (ncG (sx.extract 0 (min sx.size 64)) (cutM m0)) ⟨#[]⟩) nilV) 28), .blk b8 (.cells (mArr (askM (sx.extract 0 (min sx.size 64)) (cutM m0)) ua) 28), (.grp kua (fun w9 => RdE w9 (cutV vs (min m0.l.length 6)) (cutM m0).l → RdE w9 ua (askM (sx.extract 0 (min sx.size 64)) (cutM m0)).l)), .blk b5 (.cells (mArr (cutM n0) (cutV vu (min n0.l.length 6))) 28), .blk b4 (.cells (mArr (cutM m0) (cutV vs (min m0.l.length 6))) 28)] _ := s
        refine s_store_sub 0 h s row25 rfl rfl rfl (eArr_size _) (by rw [mArr_size]; omega) (eArr_ones _) ?_; intro w1 s
        replace s := s.recell (D := mArr (Mg.mk 4 (cutM n0).i (cutM n0).t [] (cutM m0).n (ncG (sx.extract 0 (min sx.size 64)) (cutM m0)) ⟨#[]⟩) nilV) 0 rfl (mArr_splT _ _ _)
        refine s_nil ?_
        refine hK15 _ _ ?_
        refine c_seq fun K16 hK16 => ?_
        refine c_region ?_
        refine s_pure h (ru_move (h.ev rfl)) rfl ?_; intro f h
        refine s_load_row 0 h s row28 rfl rfl (mArr_size _ _) rfl ?_; intro f h
        refine s_call h s fnc8 (gjudge_any (sx.extract 0 (min sx.size 64)) (by omega) (Mg.mk 4 (cutM n0).i (cutM n0).t [] (cutM m0).n (ncG (sx.extract 0 (min sx.size 64)) (cutM m0)) ⟨#[]⟩) nilV _ (re_nil _) (by first | omega | decide | exact Nat.zero_le _) (hH.keep s.ext) (hK.keep s.ext)) rfl rfl ?_; rintro f w1 v110 ⟨ud, kud, rfl, hG⟩ hE h sq; replace s := s.add hG; clear hG
        refine s_pure h (ru_move (h.ev rfl)) rfl ?_; intro f h
        refine s_pure h (ru_extract (h.ev rfl) rfl) rfl ?_; intro f h
        refine s_pure h (ru_extract (h.ev rfl) rfl) rfl ?_; intro f h
        refine s_pure h (ru_extract (h.ev rfl) rfl) rfl ?_; intro f h
        refine s_alloc (mArr mZ nilV) h s zero28 rfl rfl ?_; intro f w1 b20 h s
        refine s_pure h (ru_assign (h.ev rfl)) rfl ?_; intro f h
        refine s_store_row 0 h s row28 rfl rfl rfl (mArr_size _ _) (mArr_size _ _) (mArr_ones _ _ (rd_one ((s.getG 1 rfl) (re_nil _)))) ?_; intro w1 s
        refine s_pure h (ru_assign (h.ev rfl)) rfl ?_; intro f h
        refine s_nil ?_
        refine hK16 _ _ ?_
        refine c_seq fun K17 hK17 => ?_
        refine c_seq fun K18 hK18 => ?_
        cases h0 : (decide (gdE (sx.extract 0 (min sx.size 64)) (Mg.mk 4 (cutM n0).i (cutM n0).t [] (cutM m0).n (ncG (sx.extract 0 (min sx.size 64)) (cutM m0)) ⟨#[]⟩) = 0) : Bool)
        · skip
          refine c_region ?_
          refine s_pure h (ru_move (h.ev rfl)) rfl ?_; intro f h
          refine s_pure h (ru_val (.bool true) (ru_neq (h.ev rfl) (h.ev rfl)) (congrArg Value.bool (by simpa using h0))) rfl ?_; intro f h
          refine s_nil ?_
          refine hK18 _ _ ?_
          refine wpIn_cond_true (h.ev rfl) ?_
          refine c_seq fun K19 hK19 => ?_
          refine c_region ?_
          refine s_pure h (ru_move (h.ev rfl)) rfl ?_; intro f h
          refine s_pure h (ru_val (.bool true) (ru_eql (h.ev rfl) (h.ev rfl)) (congrArg Value.bool (by rw [(gd_other hsl).1 (of_decide_eq_false h0)]; rfl))) rfl ?_; intro f h
          refine s_pure h (ru_assign (h.ev rfl)) rfl ?_; intro f h
          refine s_nil ?_
          refine hK19 _ _ ?_
          refine wpIn_ret ?_
          refine t_ret ?_
          exact e_tmp rfl h s rfl (rfl)
        · skip
          refine c_region ?_
          refine s_pure h (ru_move (h.ev rfl)) rfl ?_; intro f h
          refine s_pure h (ru_val (.bool false) (ru_neq (h.ev rfl) (h.ev rfl)) (congrArg Value.bool (by simpa using h0))) rfl ?_; intro f h
          refine s_nil ?_
          refine hK18 _ _ ?_
          refine wpIn_cond_false (h.ev rfl) ?_
          refine wpIn_skip ?_
          refine hK17 _ _ ?_
          refine c_seq fun K20 hK20 => ?_
          refine c_region ?_
          obtain ⟨o1, o2⟩ := (gd_other hsl).2 (of_decide_eq_true h0)
          obtain ⟨hh1, hh2⟩ := host_t o1
          refine s_pure h (ru_move (h.ev rfl)) rfl ?_; intro f h
          refine s_pure h (ru_field fld28_1 (h.ev rfl)) rfl ?_; intro f h
          refine s_load_at (Has.subL (Has.of_own s 2 rfl) 1 32 (D := idArr (_)) (mArr_i _ _)) h row23 rfl (by first | exact idArr_size _ | exact bytesF_size _ _) rfl ?_; intro f h
          refine s_pure h (ru_field fld28_2 (h.ev rfl)) rfl ?_; intro f h
          refine s_pure h (ru_field fld25_2 (h.ev rfl)) rfl ?_; intro f h
          refine s_load_at1 (V := .int .i64 (((cutM n0).t.2.2.toNat : Nat) : Int)) (cell_of_has (Has.of_own s 2 rfl) 66 ((by rw [mArr_th]; show some (Value.int .i64 (cutM n0).t.2.2) = _; rw [hh1]))) h one3 rfl rfl ?_; intro f h
          refine s_call h s fnc15 (nonce_ok (sx.extract 0 (min sx.size 64)) hsl (cutM n0).i (cutM n0).t.2.2.toNat hh2 _ (hH.keep s.ext) (hK.keep s.ext)) rfl rfl ?_; intro f w1 v9 hT hE h s; obtain rfl := hT
          refine s_pure h (ru_move (h.ev rfl)) rfl ?_; intro f h
          refine s_pure h (ru_extract (h.ev rfl) rfl) rfl ?_; intro f h
          refine s_pure h (ru_extract (h.ev rfl) rfl) rfl ?_; intro f h
          refine s_pure h (ru_assign (h.ev rfl)) rfl ?_; intro f h
          refine s_pure h (ru_assign (h.ev rfl)) rfl ?_; intro f h
          refine s_nil ?_
          refine hK20 _ _ ?_
          refine c_seq fun K21 hK21 => ?_
          cases c0 : (decide ((cutM n0).t.1 = 2) : Bool)
          · skip
            refine c_region ?_
            refine s_pure h (ru_move (h.ev rfl)) rfl ?_; intro f h
            refine s_pure h (ru_val (.bool true) (ru_eql (h.ev rfl) (h.ev rfl)) (congrArg Value.bool (rfl))) rfl ?_; intro f h
            refine s_pure h (ru_move (h.ev rfl)) rfl ?_; intro f h
            refine s_on h rfl rfl rfl ?_
            refine s_pure h (ru_move (h.ev rfl)) rfl ?_; intro f h
            refine s_on h rfl rfl rfl ?_
            refine s_pure h (ru_val (.bool false) (ru_eql (h.ev rfl) (h.ev rfl)) (congrArg Value.bool (by rw [o2, c0]; rfl))) rfl ?_; intro f h
            refine s_on h rfl rfl rfl ?_
            refine s_pure h (ru_field fld28_2 (h.ev rfl)) rfl ?_; intro f h
            refine s_on h rfl rfl rfl ?_
            refine s_pure h (ru_field fld25_0 (h.ev rfl)) rfl ?_; intro f h
            refine s_on h rfl rfl rfl ?_
            refine s_load_at1 (cell_of_has (Has.of_own s 2 rfl) 33 (mArr_tk _ _)) h one3 rfl rfl ?_; intro f h
            refine s_on h rfl rfl rfl ?_
            refine s_pure h (ru_val (.bool false) (ru_eql (h.ev rfl) (h.ev rfl)) (congrArg Value.bool c0)) rfl ?_; intro f h
            refine s_on h rfl rfl rfl ?_
            refine s_pure h (ru_move (h.ev rfl)) rfl ?_; intro f h
            refine s_off (b := true) h rfl rfl rfl rfl ?_; intro f h
            refine s_off (b := true) h rfl rfl rfl rfl ?_; intro f h
            refine s_off (b := true) h rfl rfl rfl rfl ?_; intro f h
            refine s_off (b := true) h rfl rfl rfl rfl ?_; intro f h
            refine s_on h rfl rfl rfl ?_
            refine s_pure h (ru_pick_f (h.ev rfl) (h.ev rfl)) rfl ?_; intro f h
            refine s_on h rfl rfl rfl ?_
            refine s_pure h (ru_val (.bool true) (ru_eql_bool Tryd.underlying4 (h.ev rfl) (h.ev rfl)) (congrArg Value.bool (rfl))) rfl ?_; intro f h
            refine s_pure h (ru_pick_t (h.ev rfl) (h.ev rfl)) rfl ?_; intro f h
            refine s_pure h (ru_move (h.ev rfl)) rfl ?_; intro f h
            refine s_on h rfl rfl rfl ?_
            refine s_pure h (ru_move (h.ev rfl)) rfl ?_; intro f h
            refine s_on h rfl rfl rfl ?_
            refine s_pure h (ru_val (.bool false) (ru_eql (h.ev rfl) (h.ev rfl)) (congrArg Value.bool (by rw [o2, c0]; rfl))) rfl ?_; intro f h
            refine s_on h rfl rfl rfl ?_
            refine s_pure h (ru_move (h.ev rfl)) rfl ?_; intro f h
            refine s_on h rfl rfl rfl ?_
            refine s_pure h (ru_move (h.ev rfl)) rfl ?_; intro f h
            refine s_on h rfl rfl rfl ?_
            refine s_pure h (ru_val (.bool true) (ru_eql (h.ev rfl) (h.ev rfl)) (congrArg Value.bool (by rw [o2, c0]; rfl))) rfl ?_; intro f h
            refine s_on h rfl rfl rfl ?_
            refine s_pure h (ru_pick_f (h.ev rfl) (h.ev rfl)) rfl ?_; intro f h
            refine s_pure h (ru_pick_t (h.ev rfl) (h.ev rfl)) rfl ?_; intro f h
            refine s_pure h (ru_assign (h.ev rfl)) rfl ?_; intro f h
            refine s_nil ?_
            refine hK21 _ _ ?_
            refine wpIn_ret ?_
            exact e_tmp rfl h s rfl (rfl)
          · skip
            cases d0 : (decide ((nonceM (sx.extract 0 (min sx.size 64)) (cutM n0).i (cutM n0).t.2.2.toNat) = (ncG (sx.extract 0 (min sx.size 64)) (cutM m0))) : Bool)
            · skip
              refine c_region ?_
              refine s_pure h (ru_move (h.ev rfl)) rfl ?_; intro f h
              refine s_pure h (ru_val (.bool true) (ru_eql (h.ev rfl) (h.ev rfl)) (congrArg Value.bool (rfl))) rfl ?_; intro f h
              refine s_pure h (ru_move (h.ev rfl)) rfl ?_; intro f h
              refine s_on h rfl rfl rfl ?_
              refine s_pure h (ru_move (h.ev rfl)) rfl ?_; intro f h
              refine s_on h rfl rfl rfl ?_
              refine s_pure h (ru_val (.bool false) (ru_eql (h.ev rfl) (h.ev rfl)) (congrArg Value.bool (by rw [o2, c0, d0]; rfl))) rfl ?_; intro f h
              refine s_on h rfl rfl rfl ?_
              refine s_pure h (ru_field fld28_2 (h.ev rfl)) rfl ?_; intro f h
              refine s_on h rfl rfl rfl ?_
              refine s_pure h (ru_field fld25_0 (h.ev rfl)) rfl ?_; intro f h
              refine s_on h rfl rfl rfl ?_
              refine s_load_at1 (cell_of_has (Has.of_own s 2 rfl) 33 (mArr_tk _ _)) h one3 rfl rfl ?_; intro f h
              refine s_on h rfl rfl rfl ?_
              refine s_pure h (ru_val (.bool true) (ru_eql (h.ev rfl) (h.ev rfl)) (congrArg Value.bool c0)) rfl ?_; intro f h
              refine s_on h rfl rfl rfl ?_
              refine s_pure h (ru_move (h.ev rfl)) rfl ?_; intro f h
              refine s_on h rfl rfl rfl ?_
              refine s_pure h (ru_move (h.ev rfl)) rfl ?_; intro f h
              refine s_on h rfl rfl rfl ?_
              refine s_pure h (ru_field fld28_5 (h.ev rfl)) rfl ?_; intro f h
              refine s_on h rfl rfl rfl ?_
              refine s_load_at1 (cell_of_has (Has.of_own s 2 rfl) 69 (mArr_o _ _)) h one9 rfl rfl ?_; intro f h
              refine s_on h rfl rfl rfl ?_
              refine s_pure h (ru_val (.bool false) (ru_eql_str (h.ev rfl) (h.ev rfl)) (congrArg Value.bool d0)) rfl ?_; intro f h
              refine s_on h rfl rfl rfl ?_
              refine s_pure h (ru_pick_t (h.ev rfl) (h.ev rfl)) rfl ?_; intro f h
              refine s_on h rfl rfl rfl ?_
              refine s_pure h (ru_val (.bool true) (ru_eql_bool Tryd.underlying4 (h.ev rfl) (h.ev rfl)) (congrArg Value.bool (rfl))) rfl ?_; intro f h
              refine s_pure h (ru_pick_t (h.ev rfl) (h.ev rfl)) rfl ?_; intro f h
              refine s_pure h (ru_move (h.ev rfl)) rfl ?_; intro f h
              refine s_on h rfl rfl rfl ?_
              refine s_pure h (ru_move (h.ev rfl)) rfl ?_; intro f h
              refine s_on h rfl rfl rfl ?_
              refine s_pure h (ru_val (.bool false) (ru_eql (h.ev rfl) (h.ev rfl)) (congrArg Value.bool (by rw [o2, c0, d0]; rfl))) rfl ?_; intro f h
              refine s_on h rfl rfl rfl ?_
              refine s_pure h (ru_move (h.ev rfl)) rfl ?_; intro f h
              refine s_on h rfl rfl rfl ?_
              refine s_pure h (ru_move (h.ev rfl)) rfl ?_; intro f h
              refine s_on h rfl rfl rfl ?_
              refine s_pure h (ru_val (.bool true) (ru_eql (h.ev rfl) (h.ev rfl)) (congrArg Value.bool (by rw [o2, c0, d0]; rfl))) rfl ?_; intro f h
              refine s_on h rfl rfl rfl ?_
              refine s_pure h (ru_pick_f (h.ev rfl) (h.ev rfl)) rfl ?_; intro f h
              refine s_pure h (ru_pick_t (h.ev rfl) (h.ev rfl)) rfl ?_; intro f h
              refine s_pure h (ru_assign (h.ev rfl)) rfl ?_; intro f h
              refine s_nil ?_
              refine hK21 _ _ ?_
              refine wpIn_ret ?_
              exact e_tmp rfl h s rfl (rfl)
            · skip
              refine c_region ?_
              refine s_pure h (ru_move (h.ev rfl)) rfl ?_; intro f h
              refine s_pure h (ru_val (.bool true) (ru_eql (h.ev rfl) (h.ev rfl)) (congrArg Value.bool (rfl))) rfl ?_; intro f h
              refine s_pure h (ru_move (h.ev rfl)) rfl ?_; intro f h
              refine s_on h rfl rfl rfl ?_
              refine s_pure h (ru_move (h.ev rfl)) rfl ?_; intro f h
              refine s_on h rfl rfl rfl ?_
              refine s_pure h (ru_val (.bool true) (ru_eql (h.ev rfl) (h.ev rfl)) (congrArg Value.bool (by rw [o2, c0, d0]; rfl))) rfl ?_; intro f h
              refine s_on h rfl rfl rfl ?_
              refine s_pure h (ru_field fld28_2 (h.ev rfl)) rfl ?_; intro f h
              refine s_on h rfl rfl rfl ?_
              refine s_pure h (ru_field fld25_0 (h.ev rfl)) rfl ?_; intro f h
              refine s_on h rfl rfl rfl ?_
              refine s_load_at1 (cell_of_has (Has.of_own s 2 rfl) 33 (mArr_tk _ _)) h one3 rfl rfl ?_; intro f h
              refine s_on h rfl rfl rfl ?_
              refine s_pure h (ru_val (.bool true) (ru_eql (h.ev rfl) (h.ev rfl)) (congrArg Value.bool c0)) rfl ?_; intro f h
              refine s_on h rfl rfl rfl ?_
              refine s_pure h (ru_move (h.ev rfl)) rfl ?_; intro f h
              refine s_on h rfl rfl rfl ?_
              refine s_pure h (ru_move (h.ev rfl)) rfl ?_; intro f h
              refine s_on h rfl rfl rfl ?_
              refine s_pure h (ru_field fld28_5 (h.ev rfl)) rfl ?_; intro f h
              refine s_on h rfl rfl rfl ?_
              refine s_load_at1 (cell_of_has (Has.of_own s 2 rfl) 69 (mArr_o _ _)) h one9 rfl rfl ?_; intro f h
              refine s_on h rfl rfl rfl ?_
              refine s_pure h (ru_val (.bool true) (ru_eql_str (h.ev rfl) (h.ev rfl)) (congrArg Value.bool d0)) rfl ?_; intro f h
              refine s_on h rfl rfl rfl ?_
              refine s_pure h (ru_pick_t (h.ev rfl) (h.ev rfl)) rfl ?_; intro f h
              refine s_on h rfl rfl rfl ?_
              refine s_pure h (ru_val (.bool true) (ru_eql_bool Tryd.underlying4 (h.ev rfl) (h.ev rfl)) (congrArg Value.bool (rfl))) rfl ?_; intro f h
              refine s_pure h (ru_pick_t (h.ev rfl) (h.ev rfl)) rfl ?_; intro f h
              refine s_pure h (ru_move (h.ev rfl)) rfl ?_; intro f h
              refine s_on h rfl rfl rfl ?_
              refine s_pure h (ru_move (h.ev rfl)) rfl ?_; intro f h
              refine s_on h rfl rfl rfl ?_
              refine s_pure h (ru_val (.bool true) (ru_eql (h.ev rfl) (h.ev rfl)) (congrArg Value.bool (by rw [o2, c0, d0]; rfl))) rfl ?_; intro f h
              refine s_on h rfl rfl rfl ?_
              refine s_pure h (ru_move (h.ev rfl)) rfl ?_; intro f h
              refine s_off (b := false) h rfl rfl rfl rfl ?_; intro f h
              refine s_off (b := false) h rfl rfl rfl rfl ?_; intro f h
              refine s_on h rfl rfl rfl ?_
              refine s_pure h (ru_pick_t (h.ev rfl) (h.ev rfl)) rfl ?_; intro f h
              refine s_pure h (ru_pick_t (h.ev rfl) (h.ev rfl)) rfl ?_; intro f h
              refine s_pure h (ru_assign (h.ev rfl)) rfl ?_; intro f h
              refine s_nil ?_
              refine hK21 _ _ ?_
              refine wpIn_ret ?_
              exact e_tmp rfl h s rfl (rfl)
end Go.Proofs.YtcnnlakcpcofkaaDoor
