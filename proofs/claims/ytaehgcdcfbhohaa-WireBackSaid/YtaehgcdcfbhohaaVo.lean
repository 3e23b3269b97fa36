/- What WireBack answers: for all arguments. -/
import Derived.Test.YtaehgcdcfbhohaaVk
import Derived.Test.YtaehgcdcfbhohaaVd
import Derived.Test.YtaehgcdcfbhohaaVi
set_option linter.unusedVariables false
set_option linter.unusedSimpArgs false
set_option linter.unusedSectionVars false
namespace Go.Proofs.Ytaehgcdcfbhohaa
open Go.RowKit
set_option maxHeartbeats 4000000 in
theorem wback_any (v1 : Value) (a : Mg) (v2 : Value) (b : Mg) (sx : ByteArray) (w : World) (hv1 : RdZ w v1 34 a.l.length (eCells a.l)) (hv2 : RdZ w v2 34 b.l.length (eCells b.l)) : Calls Try.prog 5 [.agg (mArr a v1), .agg (mArr b v2), .string sx].toArray w (Ret w (is (.bool true))) := by
  obtain ⟨m, qm⟩ : ∃ x9, x9 = cutM a := ⟨_, rfl⟩
  obtain ⟨vm, qvm⟩ : ∃ x9, x9 = cutV v1 (min a.l.length 6) := ⟨_, rfl⟩
  have hvm : RdZ w vm 34 m.l.length (eCells m.l) := by rw [qvm, qm]; exact re_take hv1 _ (by omega)
  have lm : m.l.length ≤ 6 := by rw [qm]; exact cutM_l _
  have om : m.o.size ≤ 20 := by rw [qm]; exact cutM_o _
  have dm : m.d.size ≤ 70 := by rw [qm]; exact cutM_d _
  obtain ⟨n, qn⟩ : ∃ x9, x9 = cutM b := ⟨_, rfl⟩
  obtain ⟨vn, qvn⟩ : ∃ x9, x9 = cutV v2 (min b.l.length 6) := ⟨_, rfl⟩
  have hvn : RdZ w vn 34 n.l.length (eCells n.l) := by rw [qvn, qn]; exact re_take hv2 _ (by omega)
  have ln : n.l.length ≤ 6 := by rw [qn]; exact cutM_l _
  have on : n.o.size ≤ 20 := by rw [qn]; exact cutM_o _
  have dn : n.d.size ≤ 70 := by rw [qn]; exact cutM_d _
  obtain ⟨sy, hsy⟩ : ∃ x9, x9 = sx.extract 0 (min sx.size 300) := ⟨_, rfl⟩
  have hss : sy.size ≤ 300 := by rw [hsy, ByteArray.size_extract]; omega
  have hml := mp_len sy
  refine c_enter Try.func5 rfl Try.ntmps5 rfl [(0, .agg (mArr a v1)), (1, .agg (mArr b v2)), (2, .string sx)] (by simp) fun f h => ?_
  have s := St.start w
  refine c_seq fun K1 hK1 => ?_
  refine c_region ?_
  refine s_box ((mArr a v1)) h s rfl rfl rfl ?_; intro f w1 b3 h s
  refine s_box ((mArr b v2)) h s rfl rfl rfl ?_; intro f w1 b4 h s
  refine s_pure h (ru_assign (h.ev rfl)) rfl ?_; intro f h
  refine s_nil ?_
  refine hK1 _ _ ?_
  refine c_seq fun K2 hK2 => ?_
  have hbs := s.ext.le
  refine' c_reg2 3 [4, 5, 6, 7, 8, 11] [] [[], [0], [], [0, 1, 2], [], [], [5], [5, 6], [4, 5, 6, 7], [0, 1, 2, 3], [0, 1, 2, 3, 9], [0, 1, 2, 3, 4, 5, 6, 7, 8, 9, 10]] (is _ :: is _ :: is _ :: is undef :: is _ :: is _ :: is _ :: is _ :: is _ :: is undef :: is undef :: is _ :: []) (fun _ => True) h s (by kernel_rfl) (by kernel_rfl) (by kernel_rfl) (by kernel_rfl) rfl (fun _ _ h _ => h) (trivial) ⟨⟨_, rfl⟩, ⟨_, rfl⟩, ⟨_, rfl⟩, ⟨_, rfl⟩, ⟨_, rfl⟩, ⟨_, rfl⟩, trivial⟩ ⟨is_mono _, is_mono _, is_mono _, is_mono _, is_mono _, is_mono _, is_mono _, is_mono _, is_mono _, is_mono _, is_mono _, is_mono _, trivial⟩ (And.intro ?_ (And.intro ?_ (And.intro ?_ (And.intro ?_ (And.intro ?_ (And.intro ?_ (And.intro ?_ (And.intro ?_ (And.intro ?_ (And.intro ?_ (And.intro ?_ (And.intro ?_ (trivial))))))))))))) ?_
  rotate_left 9
  · refine obF_in 17 rfl (by decide) (by decide) ?_
    intro f9 w2 hE hs hd9 hl
    have e3 : f9.tmps.getD 3 undef = _ := sx_old hl 3 (by kernel_rfl) (by kernel_rfl) (h.holds 3 _ rfl)
    have h := fin_slot [(3, _)] hs hd9 (holds_lk ⟨e3, trivial⟩)
    have s := s.more hE
    have z := St.start w2
    refine s_load_row 1 h s row28 rfl rfl (mArr_size _ _) rfl ?_; intro f h
    refine s_nil ?_
    have e9 := h.holds 17 _ rfl
    refine ⟨?_, Ext.refl _, fun h9 => absurd h9 (by decide)⟩
    refine e9.trans ?_
    exact rfl
  · refine obF_in 18 rfl (by decide) (by decide) ?_
    intro f9 w2 hE hs hd9 hl
    have e17 : f9.tmps.getD 17 undef = _ := sx_get hl 17 0 (by kernel_rfl) (by kernel_rfl)
    have h := fin_slot [(17, _)] hs hd9 (holds_lk ⟨e17, trivial⟩)
    have s := s.more hE
    have z := St.start w2
    refine s_call h s fnc7 (ret_val (.agg (mArr m vm)) (cut5_any a v1 _ (hv1.keep s.ext)) (by rw [qm, qvm])) rfl rfl ?_; intro f w1 v9 hT hE h s; obtain rfl := hT
    refine s_nil ?_
    have e9 := h.holds 18 _ rfl
    refine ⟨?_, hE, fun h9 => absurd h9 (by decide)⟩
    refine e9.trans ?_
    exact rfl
  · refine obF_in 19 rfl (by decide) (by decide) ?_
    intro f9 w2 hE hs hd9 hl
    have e4 : f9.tmps.getD 4 undef = _ := sx_old hl 4 (by kernel_rfl) (by kernel_rfl) (h.holds 4 _ rfl)
    have h := fin_slot [(4, _)] hs hd9 (holds_lk ⟨e4, trivial⟩)
    have s := s.more hE
    have z := St.start w2
    refine s_load_row 0 h s row28 rfl rfl (mArr_size _ _) rfl ?_; intro f h
    refine s_nil ?_
    have e9 := h.holds 19 _ rfl
    refine ⟨?_, Ext.refl _, fun h9 => absurd h9 (by decide)⟩
    refine e9.trans ?_
    exact rfl
  · exact obT_in (by decide) (by decide)
  · refine obH_in 21 rfl (by decide) ?_
    intro f9 w2 hE hs hl
    have e2 : f9.tmps.getD 2 undef = _ := sx_old hl 2 (by kernel_rfl) (by kernel_rfl) (h.holds 2 _ rfl)
    have h := fin_slot [(2, _)] hs rfl (holds_lk ⟨e2, trivial⟩)
    refine s_pure h (ru_move (h.ev rfl)) rfl ?_; intro f h
    refine s_nil ?_
    have e9 := h.holds 21 _ rfl
    refine ⟨?_, rfl⟩
    refine e9.trans ?_
    exact rfl
  · refine obH_in 22 rfl (by decide) ?_
    intro f9 w2 hE hs hl
    have e2 : f9.tmps.getD 2 undef = _ := sx_old hl 2 (by kernel_rfl) (by kernel_rfl) (h.holds 2 _ rfl)
    have h := fin_slot [(2, _)] hs rfl (holds_lk ⟨e2, trivial⟩)
    refine s_pure h (ru_move (h.ev rfl)) rfl ?_; intro f h
    refine s_nil ?_
    have e9 := h.holds 22 _ rfl
    refine ⟨?_, rfl⟩
    refine e9.trans ?_
    exact rfl
  · refine obH_in 23 rfl (by decide) ?_
    intro f9 w2 hE hs hl
    have e22 : f9.tmps.getD 22 undef = _ := sx_get hl 22 5 (by kernel_rfl) (by kernel_rfl)
    have h := fin_slot [(22, _)] hs rfl (holds_lk ⟨e22, trivial⟩)
    refine s_pure h (ru_len_str Try.underlying9 (h.ev rfl)) rfl ?_; intro f h
    refine s_nil ?_
    have e9 := h.holds 23 _ rfl
    refine ⟨?_, rfl⟩
    refine e9.trans ?_
    exact rfl
  · refine obH_in 24 rfl (by decide) ?_
    intro f9 w2 hE hs hl
    have e23 : f9.tmps.getD 23 undef = _ := sx_get hl 23 6 (by kernel_rfl) (by kernel_rfl)
    have h := fin_slot [(23, _)] hs rfl (holds_lk ⟨e23, trivial⟩)
    refine s_pure h (ru_min (h.ev rfl) (h.ev rfl)) rfl ?_; intro f h
    refine s_nil ?_
    have e9 := h.holds 24 _ rfl
    refine ⟨?_, rfl⟩
    refine e9.trans ?_
    exact rfl
  · refine obH_in 25 rfl (by decide) ?_
    intro f9 w2 hE hs hl
    have e21 : f9.tmps.getD 21 undef = _ := sx_get hl 21 4 (by kernel_rfl) (by kernel_rfl)
    have e24 : f9.tmps.getD 24 undef = _ := sx_get hl 24 7 (by kernel_rfl) (by kernel_rfl)
    have h := fin_slot [(21, _), (24, _)] hs rfl (holds_lk ⟨e21, e24, trivial⟩)
    refine s_pure h (ru_val (.string sy) (ru_slice_str (min sx.size 300) Try.underlying9 (h.ev rfl) (h.ev rfl) (by split <;> omega) (by omega)) (by rw [hsy])) rfl ?_; intro f h
    refine s_nil ?_
    have e9 := h.holds 25 _ rfl
    refine ⟨?_, rfl⟩
    refine e9.trans ?_
    exact rfl
  · exact obT_in (by decide) (by decide)
  · exact obT_in (by decide) (by decide)
  · refine obH_in 2 rfl (by decide) ?_
    intro f9 w2 hE hs hl
    have e25 : f9.tmps.getD 25 undef = _ := sx_get hl 25 8 (by kernel_rfl) (by kernel_rfl)
    have h := fin_slot [(25, _)] hs rfl (holds_lk ⟨e25, trivial⟩)
    refine s_pure h (ru_assign (h.ev rfl)) rfl ?_; intro f h
    refine s_nil ?_
    have e9 := h.holds 2 _ rfl
    refine ⟨?_, rfl⟩
    refine e9.trans ?_
    exact rfl
  · intro f9 w2 hE hs hd9 hWp hT hR hFr hDj
    replace h := sl_new (ops := _) [(17, _), (18, _), (19, _), (21, _), (22, _), (23, _), (24, _), (25, _), (2, _)] h hs hd9 hR ⟨hT 0 17 (by decide) rfl, hT 1 18 (by decide) rfl, hT 2 19 (by decide) rfl, hT 4 21 (by decide) rfl, hT 5 22 (by decide) rfl, hT 6 23 (by decide) rfl, hT 7 24 (by decide) rfl, hT 8 25 (by decide) rfl, hT 11 2 (by decide) rfl, trivial⟩ (by kernel_rfl)
    replace s := s.more hE
    clear hT hR hFr hDj
    refine LstW.of ?_
    refine s_call h s fnc7 (ret_val (.agg (mArr n vn)) (cut5_any b v2 _ (hv2.keep s.ext)) (by rw [qn, qvn])) rfl rfl ?_; intro f w1 v9 hT hE h s; obtain rfl := hT
    refine s_store_row 1 h s row28 rfl rfl rfl (mArr_size _ _) (mArr_size _ _) (mArr_ones _ _ (rdz_one hvm)) ?_; intro w1 s
    refine s_store_row 0 h s row28 rfl rfl rfl (mArr_size _ _) (mArr_size _ _) (mArr_ones _ _ (rdz_one hvn)) ?_; intro w1 s
    refine s_nil ?_
    refine hK2 _ _ ?_
    refine c_seq fun K3 hK3 => ?_
    refine c_region ?_
    refine s_load_row 1 h s row28 rfl rfl (mArr_size _ _) rfl ?_; intro f h
    refine s_call h s fnc8 (wtext_any m vm _ (hvm.keep s.ext) (by omega)) rfl rfl ?_; intro f w1 v9 hT hE h s; obtain rfl := hT
    refine s_pure h (ru_move (h.ev rfl)) rfl ?_; intro f h
    refine s_pure h (ru_extract (h.ev rfl) rfl) rfl ?_; intro f h
    refine s_pure h (ru_extract (h.ev rfl) rfl) rfl ?_; intro f h
    refine s_pure h (ru_assign (h.ev rfl)) rfl ?_; intro f h
    refine s_pure h (ru_assign (h.ev rfl)) rfl ?_; intro f h
    refine s_nil ?_
    refine hK3 _ _ ?_
    refine c_seq fun K4 hK4 => ?_
    refine c_region ?_
    refine s_load_row 0 h s row28 rfl rfl (mArr_size _ _) rfl ?_; intro f h
    refine s_call h s fnc8 (wtext_any n vn _ (hvn.keep s.ext) (by omega)) rfl rfl ?_; intro f w1 v9 hT hE h s; obtain rfl := hT
    refine s_pure h (ru_move (h.ev rfl)) rfl ?_; intro f h
    refine s_pure h (ru_extract (h.ev rfl) rfl) rfl ?_; intro f h
    refine s_pure h (ru_extract (h.ev rfl) rfl) rfl ?_; intro f h
    refine s_pure h (ru_assign (h.ev rfl)) rfl ?_; intro f h
    refine s_pure h (ru_assign (h.ev rfl)) rfl ?_; intro f h
    refine s_nil ?_
    refine hK4 _ _ ?_
    refine c_seq fun K5 hK5 => ?_
    refine c_seq fun K6 hK6 => ?_
    cases hr : (rightM m : Bool)
    · skip
      refine c_region ?_
      refine s_pure h (ru_move (h.ev rfl)) rfl ?_; intro f h
      refine s_pure h (ru_val (.bool false) (ru_eql (h.ev rfl) (h.ev rfl)) (congrArg Value.bool (decide_eq_false (by rw [mtR_f hr]; decide)))) rfl ?_; intro f h
      refine s_nil ?_
      refine hK6 _ _ ?_
      refine wpIn_cond_false (h.ev rfl) ?_
      refine wpIn_skip ?_
      refine hK5 _ _ ?_
      refine c_seq fun K7 hK7 => ?_
      refine c_region ?_
      refine s_pure h (ru_move (h.ev rfl)) rfl ?_; intro f h
      refine s_call h s fnc15 (wparse_any sy (by omega) _) rfl rfl ?_; rintro f w1 v66 ⟨vy, rfl, hvy⟩ hE h sq
      replace s := s.sl_new hE hvy
      refine s_pure h (ru_move (h.ev rfl)) rfl ?_; intro f h
      refine s_pure h (ru_extract (h.ev rfl) rfl) rfl ?_; intro f h
      refine s_pure h (ru_extract (h.ev rfl) rfl) rfl ?_; intro f h
      refine s_alloc (mArr mZ (.slice none 0 0)) h s zero28 rfl rfl ?_; intro f w1 b13 h s
      refine s_store_row 0 h s row28 rfl rfl rfl (mArr_size _ _) (mArr_size _ _) (mArr_ones _ _ (own_one (s.getSl 1 rfl))) ?_; intro w1 s
      refine s_pure h (ru_assign (h.ev rfl)) rfl ?_; intro f h
      refine s_nil ?_
      refine hK7 _ _ ?_
      refine c_seq fun K8 hK8 => ?_
      refine c_seq fun K9 hK9 => ?_
      cases hp : (okP sy : Bool)
      · skip
        refine c_region ?_
        refine s_pure h (ru_move (h.ev rfl)) rfl ?_; intro f h
        refine s_pure h (ru_val (.bool true) (ru_neq (h.ev rfl) (h.ev rfl)) (congrArg Value.bool (decide_eq_true (by rw [parE_f hp]; decide)))) rfl ?_; intro f h
        refine s_nil ?_
        refine hK9 _ _ ?_
        refine wpIn_cond_true (h.ev rfl) ?_
        refine c_seq fun K10 hK10 => ?_
        refine c_region ?_
        refine s_call h s fnc13 (alive5_any _) rfl rfl ?_; intro f w1 v9 hT hE h s; obtain rfl := hT
        refine s_pure h (ru_move (h.ev rfl)) rfl ?_; intro f h
        refine s_on h rfl rfl rfl ?_
        refine s_pure h (ru_field fld28_0 (h.ev rfl)) rfl ?_; intro f h
        refine s_on h rfl rfl rfl ?_
        refine s_load_at1 (cell_of_has (Has.of_own s 0 rfl) 0 (mArr_k _ _)) h one3 rfl rfl ?_; intro f h
        refine s_on h rfl rfl rfl ?_
        refine s_pure h (ru_val (.bool true) (ru_eql (h.ev rfl) (h.ev rfl)) (congrArg Value.bool (decide_eq_true (by rw [parM_f hp]; rfl)))) rfl ?_; intro f h
        refine s_pure h (ru_pick_t (h.ev rfl) (h.ev rfl)) rfl ?_; intro f h
        refine s_pure h (ru_assign (h.ev rfl)) rfl ?_; intro f h
        refine s_nil ?_
        refine hK10 _ _ ?_
        refine wpIn_ret ?_
        refine t_ret ?_
        exact e_tmp rfl h s rfl (rfl)
      · skip
        refine c_region ?_
        refine s_pure h (ru_move (h.ev rfl)) rfl ?_; intro f h
        refine s_pure h (ru_val (.bool false) (ru_neq (h.ev rfl) (h.ev rfl)) (congrArg Value.bool (decide_eq_false (fun h9 => h9 (parE_t hp))))) rfl ?_; intro f h
        refine s_nil ?_
        refine hK9 _ _ ?_
        refine wpIn_cond_false (h.ev rfl) ?_
        refine wpIn_skip ?_
        refine hK8 _ _ ?_
        refine c_seq fun K11 hK11 => ?_
        refine c_region ?_
        refine s_load_row 0 h s row28 rfl rfl (mArr_size _ _) rfl ?_; intro f h
        refine s_call h s fnc8 (wtext_any (parM sy) vy _ (RdZ.of_own (s.getSl 1 rfl)) (by omega)) rfl rfl ?_; intro f w1 v9 hT hE h s; obtain rfl := hT
        refine s_pure h (ru_move (h.ev rfl)) rfl ?_; intro f h
        refine s_pure h (ru_extract (h.ev rfl) rfl) rfl ?_; intro f h
        refine s_pure h (ru_extract (h.ev rfl) rfl) rfl ?_; intro f h
        refine s_pure h (ru_assign (h.ev rfl)) rfl ?_; intro f h
        refine s_pure h (ru_assign (h.ev rfl)) rfl ?_; intro f h
        refine s_nil ?_
        refine hK11 _ _ ?_
        refine c_seq fun K12 hK12 => ?_
        refine c_region ?_
        refine s_call h s fnc13 (alive5_any _) rfl rfl ?_; intro f w1 v9 hT hE h s; obtain rfl := hT
        refine s_pure h (ru_move (h.ev rfl)) rfl ?_; intro f h
        refine s_on h rfl rfl rfl ?_
        refine s_pure h (ru_move (h.ev rfl)) rfl ?_; intro f h
        refine s_on h rfl rfl rfl ?_
        refine s_pure h (ru_val (.bool true) (ru_eql (h.ev rfl) (h.ev rfl)) (congrArg Value.bool (decide_eq_true (mtR_t (par_right hp))))) rfl ?_; intro f h
        refine s_pure h (ru_pick_t (h.ev rfl) (h.ev rfl)) rfl ?_; intro f h
        refine s_pure h (ru_move (h.ev rfl)) rfl ?_; intro f h
        refine s_on h rfl rfl rfl ?_
        refine s_pure h (ru_move (h.ev rfl)) rfl ?_; intro f h
        refine s_on h rfl rfl rfl ?_
        refine s_pure h (ru_move (h.ev rfl)) rfl ?_; intro f h
        refine s_on h rfl rfl rfl ?_
        refine s_pure h (ru_val (.bool true) (ru_eql_str (h.ev rfl) (h.ev rfl)) (congrArg Value.bool (decide_eq_true (par_text hp)))) rfl ?_; intro f h
        refine s_pure h (ru_pick_t (h.ev rfl) (h.ev rfl)) rfl ?_; intro f h
        refine s_pure h (ru_move (h.ev rfl)) rfl ?_; intro f h
        refine s_on h rfl rfl rfl ?_
        refine s_load_row 0 h s row28 rfl rfl (mArr_size _ _) rfl ?_; intro f h
        refine s_on h rfl rfl rfl ?_
        refine s_call h s fnc9 (ret_val (.bool true) (wright_any (parM sy) vy _ (RdZ.of_own (s.getSl 1 rfl)) (by omega)) (congrArg Value.bool (par_right hp))) rfl rfl ?_; intro f w1 v9 hT hE h s; obtain rfl := hT
        refine s_pure h (ru_pick_t (h.ev rfl) (h.ev rfl)) rfl ?_; intro f h
        refine s_pure h (ru_assign (h.ev rfl)) rfl ?_; intro f h
        refine s_nil ?_
        refine hK12 _ _ ?_
        refine wpIn_ret ?_
        exact e_tmp rfl h s rfl (rfl)
    · skip
      refine c_region ?_
      refine s_pure h (ru_move (h.ev rfl)) rfl ?_; intro f h
      refine s_pure h (ru_val (.bool true) (ru_eql (h.ev rfl) (h.ev rfl)) (congrArg Value.bool (decide_eq_true (mtR_t hr)))) rfl ?_; intro f h
      refine s_nil ?_
      refine hK6 _ _ ?_
      refine wpIn_cond_true (h.ev rfl) ?_
      refine c_seq fun K13 hK13 => ?_
      refine c_region ?_
      refine s_pure h (ru_val (.string (textM m)) (ru_move (h.ev rfl)) (congrArg Value.string (mtW_t hr))) rfl ?_; intro f h
      refine s_call h s fnc15 (wparse_any (textM m) (by have := text_size hr; omega) _) rfl rfl ?_; rintro f w1 v40 ⟨vx, rfl, hvx⟩ hE h sq
      rw [par_textM hr, par_textE hr] at h
      rw [par_textM hr] at hvx
      replace s := s.sl_new hE hvx
      refine s_pure h (ru_move (h.ev rfl)) rfl ?_; intro f h
      refine s_pure h (ru_extract (h.ev rfl) rfl) rfl ?_; intro f h
      refine s_pure h (ru_extract (h.ev rfl) rfl) rfl ?_; intro f h
      refine s_alloc (mArr mZ (.slice none 0 0)) h s zero28 rfl rfl ?_; intro f w1 b11 h s
      refine s_store_row 0 h s row28 rfl rfl rfl (mArr_size _ _) (mArr_size _ _) (mArr_ones _ _ (own_one (s.getSl 1 rfl))) ?_; intro w1 s
      refine s_pure h (ru_assign (h.ev rfl)) rfl ?_; intro f h
      refine s_nil ?_
      refine hK13 _ _ ?_
      refine c_seq fun K14 hK14 => ?_
      cases hm : (rightM n : Bool)
      · skip
        refine c_region ?_
        refine s_pure h (ru_move (h.ev rfl)) rfl ?_; intro f h
        refine s_pure h (ru_val (.bool false) (ru_neq (h.ev rfl) (h.ev rfl)) (congrArg Value.bool (decide_eq_false (fun h9 => h9 rfl)))) rfl ?_; intro f h
        refine s_pure h (ru_move (h.ev rfl)) rfl ?_; intro f h
        refine s_on h rfl rfl rfl ?_
        refine s_load_row 0 h s row28 rfl rfl (mArr_size _ _) rfl ?_; intro f h
        refine s_on h rfl rfl rfl ?_
        refine s_load_row 3 h s row28 rfl rfl (mArr_size _ _) rfl ?_; intro f h
        refine s_on h rfl rfl rfl ?_
        refine s_call h s fnc12 (ret_val (.bool true) (rlike_any m m vx vm _ (RdZ.of_own (s.getSl 1 rfl)) (hvm.keep s.ext) (by omega) (by omega)) (congrArg Value.bool (mEqB_refl _))) rfl rfl ?_; intro f w1 v9 hT hE h s; obtain rfl := hT
        refine s_on h rfl rfl rfl ?_
        refine s_pure h (ru_val (.bool false) (ru_not (h.ev rfl)) rfl) rfl ?_; intro f h
        refine s_pure h (ru_pick_f (h.ev rfl) (h.ev rfl)) rfl ?_; intro f h
        refine s_pure h (ru_move (h.ev rfl)) rfl ?_; intro f h
        refine s_on h rfl rfl rfl ?_
        refine s_pure h (ru_move (h.ev rfl)) rfl ?_; intro f h
        refine s_on h rfl rfl rfl ?_
        refine s_pure h (ru_val (.bool false) (ru_eql (h.ev rfl) (h.ev rfl)) (congrArg Value.bool (decide_eq_false (by rw [mtR_f hm]; decide)))) rfl ?_; intro f h
        refine s_on h rfl rfl rfl ?_
        refine s_pure h (ru_move (h.ev rfl)) rfl ?_; intro f h
        refine s_off (b := true) h rfl rfl rfl rfl ?_; intro f h
        refine s_off (b := true) h rfl rfl rfl rfl ?_; intro f h
        refine s_off (b := true) h rfl rfl rfl rfl ?_; intro f h
        refine s_off (b := true) h rfl rfl rfl rfl ?_; intro f h
        refine s_off (b := true) h rfl rfl rfl rfl ?_; intro f h
        refine s_off (b := true) h rfl rfl rfl rfl ?_; intro f h
        refine s_off (b := true) h rfl rfl rfl rfl ?_; intro f h
        refine s_on h rfl rfl rfl ?_
        refine s_pure h (ru_pick_f (h.ev rfl) (h.ev rfl)) rfl ?_; intro f h
        refine s_pure h (ru_pick_f (h.ev rfl) (h.ev rfl)) rfl ?_; intro f h
        refine s_nil ?_
        refine hK14 _ _ ?_
        refine wpIn_cond_false (h.ev rfl) ?_
        refine wpIn_skip ?_
        refine hK5 _ _ ?_
        refine c_seq fun K15 hK15 => ?_
        refine c_region ?_
        refine s_pure h (ru_move (h.ev rfl)) rfl ?_; intro f h
        refine s_call h s fnc15 (wparse_any sy (by omega) _) rfl rfl ?_; rintro f w1 v66 ⟨vy, rfl, hvy⟩ hE h sq
        replace s := s.sl_new hE hvy
        refine s_pure h (ru_move (h.ev rfl)) rfl ?_; intro f h
        refine s_pure h (ru_extract (h.ev rfl) rfl) rfl ?_; intro f h
        refine s_pure h (ru_extract (h.ev rfl) rfl) rfl ?_; intro f h
        refine s_alloc (mArr mZ (.slice none 0 0)) h s zero28 rfl rfl ?_; intro f w1 b13 h s
        refine s_store_row 0 h s row28 rfl rfl rfl (mArr_size _ _) (mArr_size _ _) (mArr_ones _ _ (own_one (s.getSl 1 rfl))) ?_; intro w1 s
        refine s_pure h (ru_assign (h.ev rfl)) rfl ?_; intro f h
        refine s_nil ?_
        refine hK15 _ _ ?_
        refine c_seq fun K16 hK16 => ?_
        refine c_seq fun K17 hK17 => ?_
        cases hp : (okP sy : Bool)
        · skip
          refine c_region ?_
          refine s_pure h (ru_move (h.ev rfl)) rfl ?_; intro f h
          refine s_pure h (ru_val (.bool true) (ru_neq (h.ev rfl) (h.ev rfl)) (congrArg Value.bool (decide_eq_true (by rw [parE_f hp]; decide)))) rfl ?_; intro f h
          refine s_nil ?_
          refine hK17 _ _ ?_
          refine wpIn_cond_true (h.ev rfl) ?_
          refine c_seq fun K18 hK18 => ?_
          refine c_region ?_
          refine s_call h s fnc13 (alive5_any _) rfl rfl ?_; intro f w1 v9 hT hE h s; obtain rfl := hT
          refine s_pure h (ru_move (h.ev rfl)) rfl ?_; intro f h
          refine s_on h rfl rfl rfl ?_
          refine s_pure h (ru_field fld28_0 (h.ev rfl)) rfl ?_; intro f h
          refine s_on h rfl rfl rfl ?_
          refine s_load_at1 (cell_of_has (Has.of_own s 0 rfl) 0 (mArr_k _ _)) h one3 rfl rfl ?_; intro f h
          refine s_on h rfl rfl rfl ?_
          refine s_pure h (ru_val (.bool true) (ru_eql (h.ev rfl) (h.ev rfl)) (congrArg Value.bool (decide_eq_true (by rw [parM_f hp]; rfl)))) rfl ?_; intro f h
          refine s_pure h (ru_pick_t (h.ev rfl) (h.ev rfl)) rfl ?_; intro f h
          refine s_pure h (ru_assign (h.ev rfl)) rfl ?_; intro f h
          refine s_nil ?_
          refine hK18 _ _ ?_
          refine wpIn_ret ?_
          refine t_ret ?_
          exact e_tmp rfl h s rfl (rfl)
        · skip
          refine c_region ?_
          refine s_pure h (ru_move (h.ev rfl)) rfl ?_; intro f h
          refine s_pure h (ru_val (.bool false) (ru_neq (h.ev rfl) (h.ev rfl)) (congrArg Value.bool (decide_eq_false (fun h9 => h9 (parE_t hp))))) rfl ?_; intro f h
          refine s_nil ?_
          refine hK17 _ _ ?_
          refine wpIn_cond_false (h.ev rfl) ?_
          refine wpIn_skip ?_
          refine hK16 _ _ ?_
          refine c_seq fun K19 hK19 => ?_
          refine c_region ?_
          refine s_load_row 0 h s row28 rfl rfl (mArr_size _ _) rfl ?_; intro f h
          refine s_call h s fnc8 (wtext_any (parM sy) vy _ (RdZ.of_own (s.getSl 1 rfl)) (by omega)) rfl rfl ?_; intro f w1 v9 hT hE h s; obtain rfl := hT
          refine s_pure h (ru_move (h.ev rfl)) rfl ?_; intro f h
          refine s_pure h (ru_extract (h.ev rfl) rfl) rfl ?_; intro f h
          refine s_pure h (ru_extract (h.ev rfl) rfl) rfl ?_; intro f h
          refine s_pure h (ru_assign (h.ev rfl)) rfl ?_; intro f h
          refine s_pure h (ru_assign (h.ev rfl)) rfl ?_; intro f h
          refine s_nil ?_
          refine hK19 _ _ ?_
          refine c_seq fun K20 hK20 => ?_
          refine c_region ?_
          refine s_call h s fnc13 (alive5_any _) rfl rfl ?_; intro f w1 v9 hT hE h s; obtain rfl := hT
          refine s_pure h (ru_move (h.ev rfl)) rfl ?_; intro f h
          refine s_on h rfl rfl rfl ?_
          refine s_pure h (ru_move (h.ev rfl)) rfl ?_; intro f h
          refine s_on h rfl rfl rfl ?_
          refine s_pure h (ru_val (.bool true) (ru_eql (h.ev rfl) (h.ev rfl)) (congrArg Value.bool (decide_eq_true (mtR_t (par_right hp))))) rfl ?_; intro f h
          refine s_pure h (ru_pick_t (h.ev rfl) (h.ev rfl)) rfl ?_; intro f h
          refine s_pure h (ru_move (h.ev rfl)) rfl ?_; intro f h
          refine s_on h rfl rfl rfl ?_
          refine s_pure h (ru_move (h.ev rfl)) rfl ?_; intro f h
          refine s_on h rfl rfl rfl ?_
          refine s_pure h (ru_move (h.ev rfl)) rfl ?_; intro f h
          refine s_on h rfl rfl rfl ?_
          refine s_pure h (ru_val (.bool true) (ru_eql_str (h.ev rfl) (h.ev rfl)) (congrArg Value.bool (decide_eq_true (par_text hp)))) rfl ?_; intro f h
          refine s_pure h (ru_pick_t (h.ev rfl) (h.ev rfl)) rfl ?_; intro f h
          refine s_pure h (ru_move (h.ev rfl)) rfl ?_; intro f h
          refine s_on h rfl rfl rfl ?_
          refine s_load_row 0 h s row28 rfl rfl (mArr_size _ _) rfl ?_; intro f h
          refine s_on h rfl rfl rfl ?_
          refine s_call h s fnc9 (ret_val (.bool true) (wright_any (parM sy) vy _ (RdZ.of_own (s.getSl 1 rfl)) (by omega)) (congrArg Value.bool (par_right hp))) rfl rfl ?_; intro f w1 v9 hT hE h s; obtain rfl := hT
          refine s_pure h (ru_pick_t (h.ev rfl) (h.ev rfl)) rfl ?_; intro f h
          refine s_pure h (ru_assign (h.ev rfl)) rfl ?_; intro f h
          refine s_nil ?_
          refine hK20 _ _ ?_
          refine wpIn_ret ?_
          exact e_tmp rfl h s rfl (rfl)
      · skip
        refine c_region ?_
        refine s_pure h (ru_move (h.ev rfl)) rfl ?_; intro f h
        refine s_pure h (ru_val (.bool false) (ru_neq (h.ev rfl) (h.ev rfl)) (congrArg Value.bool (decide_eq_false (fun h9 => h9 rfl)))) rfl ?_; intro f h
        refine s_pure h (ru_move (h.ev rfl)) rfl ?_; intro f h
        refine s_on h rfl rfl rfl ?_
        refine s_load_row 0 h s row28 rfl rfl (mArr_size _ _) rfl ?_; intro f h
        refine s_on h rfl rfl rfl ?_
        refine s_load_row 3 h s row28 rfl rfl (mArr_size _ _) rfl ?_; intro f h
        refine s_on h rfl rfl rfl ?_
        refine s_call h s fnc12 (ret_val (.bool true) (rlike_any m m vx vm _ (RdZ.of_own (s.getSl 1 rfl)) (hvm.keep s.ext) (by omega) (by omega)) (congrArg Value.bool (mEqB_refl _))) rfl rfl ?_; intro f w1 v9 hT hE h s; obtain rfl := hT
        refine s_on h rfl rfl rfl ?_
        refine s_pure h (ru_val (.bool false) (ru_not (h.ev rfl)) rfl) rfl ?_; intro f h
        refine s_pure h (ru_pick_f (h.ev rfl) (h.ev rfl)) rfl ?_; intro f h
        refine s_pure h (ru_move (h.ev rfl)) rfl ?_; intro f h
        refine s_on h rfl rfl rfl ?_
        refine s_pure h (ru_move (h.ev rfl)) rfl ?_; intro f h
        refine s_on h rfl rfl rfl ?_
        refine s_pure h (ru_val (.bool true) (ru_eql (h.ev rfl) (h.ev rfl)) (congrArg Value.bool (decide_eq_true (mtR_t hm)))) rfl ?_; intro f h
        refine s_on h rfl rfl rfl ?_
        refine s_pure h (ru_move (h.ev rfl)) rfl ?_; intro f h
        refine s_on h rfl rfl rfl ?_
        refine s_pure h (ru_move (h.ev rfl)) rfl ?_; intro f h
        refine s_on h rfl rfl rfl ?_
        refine s_pure h (ru_move (h.ev rfl)) rfl ?_; intro f h
        refine s_on h rfl rfl rfl ?_
        refine s_pure h (ru_eql_str (h.ev rfl) (h.ev rfl)) rfl ?_; intro f h
        refine s_on h rfl rfl rfl ?_
        refine s_load_row 3 h s row28 rfl rfl (mArr_size _ _) rfl ?_; intro f h
        refine s_on h rfl rfl rfl ?_
        refine s_load_row 2 h s row28 rfl rfl (mArr_size _ _) rfl ?_; intro f h
        refine s_on h rfl rfl rfl ?_
        refine s_call h s fnc12 (rlike_any m n vm vn _ (hvm.keep s.ext) (hvn.keep s.ext) (by omega) (by omega)) rfl rfl ?_; intro f w1 v9 hT hE h s; obtain rfl := hT
        refine s_on h rfl rfl rfl ?_
        refine s_pure h (ru_val (.bool false) (ru_neq_bool Try.underlying4 (h.ev rfl) (h.ev rfl)) (congrArg Value.bool (text_like hr hm))) rfl ?_; intro f h
        refine s_on h rfl rfl rfl ?_
        refine s_pure h (ru_pick_t (h.ev rfl) (h.ev rfl)) rfl ?_; intro f h
        refine s_pure h (ru_pick_f (h.ev rfl) (h.ev rfl)) rfl ?_; intro f h
        refine s_nil ?_
        refine hK14 _ _ ?_
        refine wpIn_cond_false (h.ev rfl) ?_
        refine wpIn_skip ?_
        refine hK5 _ _ ?_
        refine c_seq fun K21 hK21 => ?_
        refine c_region ?_
        refine s_pure h (ru_move (h.ev rfl)) rfl ?_; intro f h
        refine s_call h s fnc15 (wparse_any sy (by omega) _) rfl rfl ?_; rintro f w1 v66 ⟨vy, rfl, hvy⟩ hE h sq
        replace s := s.sl_new hE hvy
        refine s_pure h (ru_move (h.ev rfl)) rfl ?_; intro f h
        refine s_pure h (ru_extract (h.ev rfl) rfl) rfl ?_; intro f h
        refine s_pure h (ru_extract (h.ev rfl) rfl) rfl ?_; intro f h
        refine s_alloc (mArr mZ (.slice none 0 0)) h s zero28 rfl rfl ?_; intro f w1 b13 h s
        refine s_store_row 0 h s row28 rfl rfl rfl (mArr_size _ _) (mArr_size _ _) (mArr_ones _ _ (own_one (s.getSl 1 rfl))) ?_; intro w1 s
        refine s_pure h (ru_assign (h.ev rfl)) rfl ?_; intro f h
        refine s_nil ?_
        refine hK21 _ _ ?_
        refine c_seq fun K22 hK22 => ?_
        refine c_seq fun K23 hK23 => ?_
        cases hp : (okP sy : Bool)
        · skip
          refine c_region ?_
          refine s_pure h (ru_move (h.ev rfl)) rfl ?_; intro f h
          refine s_pure h (ru_val (.bool true) (ru_neq (h.ev rfl) (h.ev rfl)) (congrArg Value.bool (decide_eq_true (by rw [parE_f hp]; decide)))) rfl ?_; intro f h
          refine s_nil ?_
          refine hK23 _ _ ?_
          refine wpIn_cond_true (h.ev rfl) ?_
          refine c_seq fun K24 hK24 => ?_
          refine c_region ?_
          refine s_call h s fnc13 (alive5_any _) rfl rfl ?_; intro f w1 v9 hT hE h s; obtain rfl := hT
          refine s_pure h (ru_move (h.ev rfl)) rfl ?_; intro f h
          refine s_on h rfl rfl rfl ?_
          refine s_pure h (ru_field fld28_0 (h.ev rfl)) rfl ?_; intro f h
          refine s_on h rfl rfl rfl ?_
          refine s_load_at1 (cell_of_has (Has.of_own s 0 rfl) 0 (mArr_k _ _)) h one3 rfl rfl ?_; intro f h
          refine s_on h rfl rfl rfl ?_
          refine s_pure h (ru_val (.bool true) (ru_eql (h.ev rfl) (h.ev rfl)) (congrArg Value.bool (decide_eq_true (by rw [parM_f hp]; rfl)))) rfl ?_; intro f h
          refine s_pure h (ru_pick_t (h.ev rfl) (h.ev rfl)) rfl ?_; intro f h
          refine s_pure h (ru_assign (h.ev rfl)) rfl ?_; intro f h
          refine s_nil ?_
          refine hK24 _ _ ?_
          refine wpIn_ret ?_
          refine t_ret ?_
          exact e_tmp rfl h s rfl (rfl)
        · skip
          refine c_region ?_
          refine s_pure h (ru_move (h.ev rfl)) rfl ?_; intro f h
          refine s_pure h (ru_val (.bool false) (ru_neq (h.ev rfl) (h.ev rfl)) (congrArg Value.bool (decide_eq_false (fun h9 => h9 (parE_t hp))))) rfl ?_; intro f h
          refine s_nil ?_
          refine hK23 _ _ ?_
          refine wpIn_cond_false (h.ev rfl) ?_
          refine wpIn_skip ?_
          refine hK22 _ _ ?_
          refine c_seq fun K25 hK25 => ?_
          refine c_region ?_
          refine s_load_row 0 h s row28 rfl rfl (mArr_size _ _) rfl ?_; intro f h
          refine s_call h s fnc8 (wtext_any (parM sy) vy _ (RdZ.of_own (s.getSl 1 rfl)) (by omega)) rfl rfl ?_; intro f w1 v9 hT hE h s; obtain rfl := hT
          refine s_pure h (ru_move (h.ev rfl)) rfl ?_; intro f h
          refine s_pure h (ru_extract (h.ev rfl) rfl) rfl ?_; intro f h
          refine s_pure h (ru_extract (h.ev rfl) rfl) rfl ?_; intro f h
          refine s_pure h (ru_assign (h.ev rfl)) rfl ?_; intro f h
          refine s_pure h (ru_assign (h.ev rfl)) rfl ?_; intro f h
          refine s_nil ?_
          refine hK25 _ _ ?_
          refine c_seq fun K26 hK26 => ?_
          refine c_region ?_
          refine s_call h s fnc13 (alive5_any _) rfl rfl ?_; intro f w1 v9 hT hE h s; obtain rfl := hT
          refine s_pure h (ru_move (h.ev rfl)) rfl ?_; intro f h
          refine s_on h rfl rfl rfl ?_
          refine s_pure h (ru_move (h.ev rfl)) rfl ?_; intro f h
          refine s_on h rfl rfl rfl ?_
          refine s_pure h (ru_val (.bool true) (ru_eql (h.ev rfl) (h.ev rfl)) (congrArg Value.bool (decide_eq_true (mtR_t (par_right hp))))) rfl ?_; intro f h
          refine s_pure h (ru_pick_t (h.ev rfl) (h.ev rfl)) rfl ?_; intro f h
          refine s_pure h (ru_move (h.ev rfl)) rfl ?_; intro f h
          refine s_on h rfl rfl rfl ?_
          refine s_pure h (ru_move (h.ev rfl)) rfl ?_; intro f h
          refine s_on h rfl rfl rfl ?_
          refine s_pure h (ru_move (h.ev rfl)) rfl ?_; intro f h
          refine s_on h rfl rfl rfl ?_
          refine s_pure h (ru_val (.bool true) (ru_eql_str (h.ev rfl) (h.ev rfl)) (congrArg Value.bool (decide_eq_true (par_text hp)))) rfl ?_; intro f h
          refine s_pure h (ru_pick_t (h.ev rfl) (h.ev rfl)) rfl ?_; intro f h
          refine s_pure h (ru_move (h.ev rfl)) rfl ?_; intro f h
          refine s_on h rfl rfl rfl ?_
          refine s_load_row 0 h s row28 rfl rfl (mArr_size _ _) rfl ?_; intro f h
          refine s_on h rfl rfl rfl ?_
          refine s_call h s fnc9 (ret_val (.bool true) (wright_any (parM sy) vy _ (RdZ.of_own (s.getSl 1 rfl)) (by omega)) (congrArg Value.bool (par_right hp))) rfl rfl ?_; intro f w1 v9 hT hE h s; obtain rfl := hT
          refine s_pure h (ru_pick_t (h.ev rfl) (h.ev rfl)) rfl ?_; intro f h
          refine s_pure h (ru_assign (h.ev rfl)) rfl ?_; intro f h
          refine s_nil ?_
          refine hK26 _ _ ?_
          refine wpIn_ret ?_
          exact e_tmp rfl h s rfl (rfl)
end Go.Proofs.Ytaehgcdcfbhohaa
