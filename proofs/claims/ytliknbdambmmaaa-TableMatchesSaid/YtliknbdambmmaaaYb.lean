/- What TableMatches answers: for all arguments. -/
import Derived.Test.YtliknbdambmmaaaVc
import Derived.Test.YtliknbdambmmaaaVd
import Derived.Test.YtliknbdambmmaaaXl
set_option linter.unusedVariables false
set_option linter.unusedSimpArgs false
set_option linter.unusedSectionVars false
namespace Go.Proofs.Ytliknbdambmmaaa
open Go.RowKit
set_option maxHeartbeats 2000000 in
theorem ltmatches_any (l : List Tg) (vh : Value) (now : Int) (x a b : Id) (w : World) (hR : RdZ w vh 67 l.length (tgCells l)) : Calls Try.prog 4 [vh, .int .i64 now, idV x, idV a, idV b].toArray w (Ret w (is (.bool true))) := by
  have hT := tg_take hR (min l.length 34) (by omega)
  obtain ⟨t, ht⟩ : ∃ x9, x9 = l.take (min l.length 34) := ⟨_, rfl⟩
  rw [← ht] at hT
  have htl : t.length ≤ 34 := by rw [ht, List.length_take]; omega
  have le1 := exp_le t now
  have le2 := mt_le t x
  have le3 := on_le t a b true
  have le4 := on_le t a b false
  have le5 : (expF t now).length ≤ t.length := List.length_filter_le _ _
  have le6 : (onF t a b true).length ≤ t.length := List.length_filter_le _ _
  have le7 : (onF t a b false).length ≤ t.length := List.length_filter_le _ _
  have le8 := mtf_le t x
  refine c_enter Try.func4 rfl Try.ntmps4 rfl [(0, vh), (1, .int .i64 now), (2, idV x), (3, idV a), (4, idV b)] (by simp) fun f h => ?_
  have s := St.start w
  refine c_seq fun K1 hK1 => ?_
  refine c_region ?_
  refine s_box (idArr x) h s rfl rfl rfl ?_; intro f w1 b7 h s
  refine s_box (idArr a) h s rfl rfl rfl ?_; intro f w1 b8 h s
  refine s_box (idArr b) h s rfl rfl rfl ?_; intro f w1 b9 h s
  refine s_pure h (ru_assign (h.ev rfl)) rfl ?_; intro f h
  refine s_nil ?_
  refine hK1 _ _ ?_
  refine c_seq fun K2 hK2 => ?_
  refine c_region ?_
  refine s_pure h (ru_move (h.ev rfl)) rfl ?_; intro f h
  refine s_call h s fnc8 (tfew_any vh l _ (hR.keep s.ext)) rfl rfl ?_; intro f w1 v9 hT hE h s; obtain rfl := hT
  refine s_pure h (ru_assign (h.ev rfl)) rfl ?_; intro f h
  refine s_nil ?_
  refine hK2 _ _ ?_
  refine c_seq fun K3 hK3 => ?_
  refine c_region ?_
  refine s_pure h (ru_move (h.ev rfl)) rfl ?_; intro f h
  refine s_pure h (ru_move (h.ev rfl)) rfl ?_; intro f h
  refine s_call h s fnc19 (texp_any t (cutV vh (min l.length 34)) now _ (hT.keep s.ext) (by omega)) rfl rfl ?_; rintro f w1 v24 ⟨va, kva, rfl, hG⟩ hE h sq; replace s := s.add hG; clear hG
  refine s_pure h (ru_move (h.ev rfl)) rfl ?_; intro f h
  refine s_pure h (ru_extract (h.ev rfl) rfl) rfl ?_; intro f h
  refine s_pure h (ru_extract (h.ev rfl) rfl) rfl ?_; intro f h
  refine s_pure h (ru_assign (h.ev rfl)) rfl ?_; intro f h
  refine s_pure h (ru_assign (h.ev rfl)) rfl ?_; intro f h
  refine s_nil ?_
  refine hK3 _ _ ?_
  refine c_seq fun K4 hK4 => ?_
  refine c_region ?_
  refine s_pure h (ru_move (h.ev rfl)) rfl ?_; intro f h
  refine s_load_row 3 h s row24 rfl rfl (by first | exact idArr_size _ | exact bytesF_size _ _) rfl ?_; intro f h
  refine s_call h s fnc20 (tmatch_any t (cutV vh (min l.length 34)) x _ (hT.keep s.ext) (by omega)) rfl rfl ?_; rintro f w1 v30 ⟨vb, kvb, rfl, hG⟩ hE h sq; replace s := s.add hG; clear hG
  refine s_pure h (ru_move (h.ev rfl)) rfl ?_; intro f h
  refine s_pure h (ru_extract (h.ev rfl) rfl) rfl ?_; intro f h
  refine s_pure h (ru_extract (h.ev rfl) rfl) rfl ?_; intro f h
  refine s_pure h (ru_assign (h.ev rfl)) rfl ?_; intro f h
  refine s_pure h (ru_assign (h.ev rfl)) rfl ?_; intro f h
  refine s_nil ?_
  refine hK4 _ _ ?_
  refine c_seq fun K5 hK5 => ?_
  refine c_region ?_
  refine s_pure h (ru_move (h.ev rfl)) rfl ?_; intro f h
  refine s_load_row 3 h s row24 rfl rfl (by first | exact idArr_size _ | exact bytesF_size _ _) rfl ?_; intro f h
  refine s_load_row 2 h s row24 rfl rfl (by first | exact idArr_size _ | exact bytesF_size _ _) rfl ?_; intro f h
  refine s_call h s fnc21 (tcut_any t (cutV vh (min l.length 34)) a b _ (hT.keep s.ext) (by omega)) rfl rfl ?_; rintro f w1 v37 ⟨vc, vd, kvc, rfl, hG⟩ hE h sq; replace s := s.add hG; clear hG
  refine s_pure h (ru_move (h.ev rfl)) rfl ?_; intro f h
  refine s_pure h (ru_extract (h.ev rfl) rfl) rfl ?_; intro f h
  refine s_pure h (ru_extract (h.ev rfl) rfl) rfl ?_; intro f h
  refine s_pure h (ru_extract (h.ev rfl) rfl) rfl ?_; intro f h
  refine s_pure h (ru_assign (h.ev rfl)) rfl ?_; intro f h
  refine s_pure h (ru_assign (h.ev rfl)) rfl ?_; intro f h
  refine s_pure h (ru_assign (h.ev rfl)) rfl ?_; intro f h
  refine s_nil ?_
  refine hK5 _ _ ?_
  refine c_seq fun K6 hK6 => ?_
  refine c_seq fun K7 hK7 => ?_
  refine c_region ?_
  refine s_call h s fnc13 (ret_val (.bool true) (talive_any _) (congrArg Value.bool (rfl))) rfl rfl ?_; intro f w1 v9 hT hE h s; obtain rfl := hT
  refine s_pure h (ru_val (.bool false) (ru_not (h.ev rfl)) rfl) rfl ?_; intro f h
  refine s_nil ?_
  refine hK7 _ _ ?_
  refine wpIn_cond_false (h.ev rfl) ?_
  refine wpIn_skip ?_
  refine hK6 _ _ ?_
  refine c_seq fun K8 hK8 => ?_
  refine c_seq fun K9 hK9 => ?_
  cases r0 : (rightT t : Bool)
  · skip
    refine c_region ?_
    refine s_pure h (ru_move (h.ev rfl)) rfl ?_; intro f h
    refine s_call h s fnc12 (ret_val (.bool false) (rrightt_any t (cutV vh (min l.length 34)) _ (hT.keep s.ext) (by omega)) (congrArg Value.bool r0)) rfl rfl ?_; intro f w1 v9 hT hE h s; obtain rfl := hT
    refine s_pure h (ru_val (.bool true) (ru_not (h.ev rfl)) rfl) rfl ?_; intro f h
    refine s_nil ?_
    refine hK9 _ _ ?_
    refine wpIn_cond_true (h.ev rfl) ?_
    refine c_seq fun K10 hK10 => ?_
    refine c_region ?_
    obtain ⟨b1, b2⟩ := te_n r0 now
    obtain ⟨b3, b4⟩ := tm_n r0 x
    have b5 := to_n r0 a b true
    have b6 := to_n r0 a b false
    refine s_pure h (ru_move (h.ev rfl)) rfl ?_; intro f h
    refine s_pure h (ru_val (.bool true) (ru_eql (h.ev rfl) (h.ev rfl)) (congrArg Value.bool (by rw [b1]; rfl))) rfl ?_; intro f h
    refine s_pure h (ru_move (h.ev rfl)) rfl ?_; intro f h
    refine s_on h rfl rfl rfl ?_
    refine s_pure h (ru_move (h.ev rfl)) rfl ?_; intro f h
    refine s_on h rfl rfl rfl ?_
    refine s_pure h (ru_val (.bool true) (ru_eql (h.ev rfl) (h.ev rfl)) (congrArg Value.bool (by rw [b3]; rfl))) rfl ?_; intro f h
    refine s_pure h (ru_pick_t (h.ev rfl) (h.ev rfl)) rfl ?_; intro f h
    refine s_pure h (ru_move (h.ev rfl)) rfl ?_; intro f h
    refine s_on h rfl rfl rfl ?_
    refine s_pure h (ru_move (h.ev rfl)) rfl ?_; intro f h
    refine s_on h rfl rfl rfl ?_
    refine s_pure h (ru_val (.bool true) (ru_eql (h.ev rfl) (h.ev rfl)) (congrArg Value.bool (by rw [b1]; rfl))) rfl ?_; intro f h
    refine s_pure h (ru_pick_t (h.ev rfl) (h.ev rfl)) rfl ?_; intro f h
    refine s_pure h (ru_move (h.ev rfl)) rfl ?_; intro f h
    refine s_on h rfl rfl rfl ?_
    refine s_pure h (ru_move (h.ev rfl)) rfl ?_; intro f h
    refine s_on h rfl rfl rfl ?_
    refine s_pure h (ru_lenZ (((s.getG 2 rfl) (hT.keep s.ext))) Try.underlying22 (h.ev rfl)) rfl ?_; intro f h
    refine s_on h rfl rfl rfl ?_
    refine s_pure h (ru_move (h.ev rfl)) rfl ?_; intro f h
    refine s_on h rfl rfl rfl ?_
    refine s_pure h (ru_lenZ (((s.getG 1 rfl) (hT.keep s.ext))) Try.underlying22 (h.ev rfl)) rfl ?_; intro f h
    refine s_on h rfl rfl rfl ?_
    refine s_pure h (ru_add (h.ev rfl) (h.ev rfl) (by omega)) rfl ?_; intro f h
    refine s_on h rfl rfl rfl ?_
    refine s_pure h (ru_move (h.ev rfl)) rfl ?_; intro f h
    refine s_on h rfl rfl rfl ?_
    refine s_pure h (ru_lenZ (((s.getG 0 rfl) (hT.keep s.ext)).1) Try.underlying22 (h.ev rfl)) rfl ?_; intro f h
    refine s_on h rfl rfl rfl ?_
    refine s_pure h (ru_add (h.ev rfl) (h.ev rfl) (by omega)) rfl ?_; intro f h
    refine s_on h rfl rfl rfl ?_
    refine s_pure h (ru_move (h.ev rfl)) rfl ?_; intro f h
    refine s_on h rfl rfl rfl ?_
    refine s_pure h (ru_lenZ (((s.getG 0 rfl) (hT.keep s.ext)).2) Try.underlying22 (h.ev rfl)) rfl ?_; intro f h
    refine s_on h rfl rfl rfl ?_
    refine s_pure h (ru_add (h.ev rfl) (h.ev rfl) (by omega)) rfl ?_; intro f h
    refine s_on h rfl rfl rfl ?_
    refine s_pure h (ru_val (.bool true) (ru_eql (h.ev rfl) (h.ev rfl)) (congrArg Value.bool (by rw [b2, b4, b5, b6]; rfl))) rfl ?_; intro f h
    refine s_pure h (ru_pick_t (h.ev rfl) (h.ev rfl)) rfl ?_; intro f h
    refine s_pure h (ru_assign (h.ev rfl)) rfl ?_; intro f h
    refine s_nil ?_
    refine hK10 _ _ ?_
    refine wpIn_ret ?_
    refine t_ret ?_
    exact e_tmp rfl h s rfl (rfl)
  · skip
    refine c_region ?_
    refine s_pure h (ru_move (h.ev rfl)) rfl ?_; intro f h
    refine s_call h s fnc12 (ret_val (.bool true) (rrightt_any t (cutV vh (min l.length 34)) _ (hT.keep s.ext) (by omega)) (congrArg Value.bool r0)) rfl rfl ?_; intro f w1 v9 hT hE h s; obtain rfl := hT
    refine s_pure h (ru_val (.bool false) (ru_not (h.ev rfl)) rfl) rfl ?_; intro f h
    refine s_nil ?_
    refine hK9 _ _ ?_
    refine wpIn_cond_false (h.ev rfl) ?_
    refine wpIn_skip ?_
    refine hK8 _ _ ?_
    refine c_seq fun K11 hK11 => ?_
    refine c_seq fun K12 hK12 => ?_
    refine c_region ?_
    obtain ⟨b1, b2⟩ := te_y r0 now
    obtain ⟨b3, b4⟩ := tm_y r0 x
    have b5 := to_y r0 a b true
    have b6 := to_y r0 a b false
    refine s_pure h (ru_move (h.ev rfl)) rfl ?_; intro f h
    refine s_pure h (ru_val (.bool false) (ru_neq (h.ev rfl) (h.ev rfl)) (congrArg Value.bool (by rw [b1]; rfl))) rfl ?_; intro f h
    refine s_pure h (ru_move (h.ev rfl)) rfl ?_; intro f h
    refine s_on h rfl rfl rfl ?_
    refine s_pure h (ru_move (h.ev rfl)) rfl ?_; intro f h
    refine s_on h rfl rfl rfl ?_
    refine s_pure h (ru_move (h.ev rfl)) rfl ?_; intro f h
    refine s_on h rfl rfl rfl ?_
    refine s_pure h (ru_move (h.ev rfl)) rfl ?_; intro f h
    refine s_on h rfl rfl rfl ?_
    refine s_call h s fnc22 (rexpt_any t (cutV vh (min l.length 34)) now _ (hT.keep s.ext) (by omega)) rfl rfl ?_; intro f w1 v76 hOw hE h sq; change Owns _ _ _ 67 _ (expF t now).length (tgCells (expF t now)) at hOw; replace s := s.sl_new hE hOw; clear hOw
    refine s_on h rfl rfl rfl ?_
    refine s_call h s fnc16 (ret_val (.bool true) (rsamet_any (expL t now) (expF t now) va v76 _ ((s.getG 3 rfl) (hT.keep s.ext)) (RdZ.of_own (s.getSl 0 rfl)) (by omega) (by omega)) (congrArg Value.bool (by rw [b2]; simp))) rfl rfl ?_; intro f w1 v9 hT hE h s; obtain rfl := hT
    refine s_on h rfl rfl rfl ?_
    refine s_pure h (ru_val (.bool false) (ru_not (h.ev rfl)) rfl) rfl ?_; intro f h
    refine s_pure h (ru_pick_f (h.ev rfl) (h.ev rfl)) rfl ?_; intro f h
    refine s_pure h (ru_move (h.ev rfl)) rfl ?_; intro f h
    refine s_on h rfl rfl rfl ?_
    refine s_pure h (ru_move (h.ev rfl)) rfl ?_; intro f h
    refine s_on h rfl rfl rfl ?_
    refine s_pure h (ru_val (.bool false) (ru_neq (h.ev rfl) (h.ev rfl)) (congrArg Value.bool (by rw [b1]; rfl))) rfl ?_; intro f h
    refine s_pure h (ru_pick_f (h.ev rfl) (h.ev rfl)) rfl ?_; intro f h
    refine s_pure h (ru_move (h.ev rfl)) rfl ?_; intro f h
    refine s_on h rfl rfl rfl ?_
    refine s_pure h (ru_move (h.ev rfl)) rfl ?_; intro f h
    refine s_on h rfl rfl rfl ?_
    refine s_pure h (ru_move (h.ev rfl)) rfl ?_; intro f h
    refine s_on h rfl rfl rfl ?_
    refine s_load_row 5 h s row24 rfl rfl (by first | exact idArr_size _ | exact bytesF_size _ _) rfl ?_; intro f h
    refine s_on h rfl rfl rfl ?_
    refine s_load_row 4 h s row24 rfl rfl (by first | exact idArr_size _ | exact bytesF_size _ _) rfl ?_; intro f h
    refine s_on h rfl rfl rfl ?_
    refine s_call h s fnc23 (ront_any t (cutV vh (min l.length 34)) a b true _ (hT.keep s.ext) (by omega)) rfl rfl ?_; intro f w1 v89 hOw hE h sq; change Owns _ _ _ 67 _ (onF t a b true).length (tgCells (onF t a b true)) at hOw; replace s := s.sl_new hE hOw; clear hOw
    refine s_on h rfl rfl rfl ?_
    refine s_call h s fnc16 (ret_val (.bool true) (rsamet_any (onL t a b true) (onF t a b true) vc v89 _ ((s.getG 2 rfl) (hT.keep s.ext)).1 (RdZ.of_own (s.getSl 0 rfl)) (by omega) (by omega)) (congrArg Value.bool (by rw [b5]; simp))) rfl rfl ?_; intro f w1 v9 hT hE h s; obtain rfl := hT
    refine s_on h rfl rfl rfl ?_
    refine s_pure h (ru_val (.bool false) (ru_not (h.ev rfl)) rfl) rfl ?_; intro f h
    refine s_pure h (ru_pick_f (h.ev rfl) (h.ev rfl)) rfl ?_; intro f h
    refine s_pure h (ru_move (h.ev rfl)) rfl ?_; intro f h
    refine s_on h rfl rfl rfl ?_
    refine s_pure h (ru_move (h.ev rfl)) rfl ?_; intro f h
    refine s_on h rfl rfl rfl ?_
    refine s_pure h (ru_move (h.ev rfl)) rfl ?_; intro f h
    refine s_on h rfl rfl rfl ?_
    refine s_load_row 6 h s row24 rfl rfl (by first | exact idArr_size _ | exact bytesF_size _ _) rfl ?_; intro f h
    refine s_on h rfl rfl rfl ?_
    refine s_load_row 5 h s row24 rfl rfl (by first | exact idArr_size _ | exact bytesF_size _ _) rfl ?_; intro f h
    refine s_on h rfl rfl rfl ?_
    refine s_call h s fnc23 (ront_any t (cutV vh (min l.length 34)) a b false _ (hT.keep s.ext) (by omega)) rfl rfl ?_; intro f w1 v98 hOw hE h sq; change Owns _ _ _ 67 _ (onF t a b false).length (tgCells (onF t a b false)) at hOw; replace s := s.sl_new hE hOw; clear hOw
    refine s_on h rfl rfl rfl ?_
    refine s_call h s fnc16 (ret_val (.bool true) (rsamet_any (onL t a b false) (onF t a b false) vd v98 _ ((s.getG 3 rfl) (hT.keep s.ext)).2 (RdZ.of_own (s.getSl 0 rfl)) (by omega) (by omega)) (congrArg Value.bool (by rw [b6]; simp))) rfl rfl ?_; intro f w1 v9 hT hE h s; obtain rfl := hT
    refine s_on h rfl rfl rfl ?_
    refine s_pure h (ru_val (.bool false) (ru_not (h.ev rfl)) rfl) rfl ?_; intro f h
    refine s_pure h (ru_pick_f (h.ev rfl) (h.ev rfl)) rfl ?_; intro f h
    refine s_nil ?_
    refine hK12 _ _ ?_
    refine wpIn_cond_false (h.ev rfl) ?_
    refine wpIn_skip ?_
    refine hK11 _ _ ?_
    refine c_seq fun K13 hK13 => ?_
    refine c_region ?_
    refine s_pure h (ru_move (h.ev rfl)) rfl ?_; intro f h
    refine s_load_row 8 h s row24 rfl rfl (by first | exact idArr_size _ | exact bytesF_size _ _) rfl ?_; intro f h
    refine s_call h s fnc24 (rmatcht_any t (cutV vh (min l.length 34)) x _ (hT.keep s.ext) (by omega)) rfl rfl ?_; intro f w1 v104 hOw hE h sq; change Owns _ _ _ 67 _ (mtF t x).length (tgCells (mtF t x)) at hOw; replace s := s.sl_new hE hOw; clear hOw
    refine s_pure h (ru_assign (h.ev rfl)) rfl ?_; intro f h
    refine s_nil ?_
    refine hK13 _ _ ?_
    refine c_seq fun K14 hK14 => ?_
    refine c_seq fun K15 hK15 => ?_
    cases z0 : (decide ((mtF t x).length = 0) : Bool)
    · skip
      refine c_region ?_
      refine s_pure h (ru_move (h.ev rfl)) rfl ?_; intro f h
      refine s_len_sl 0 h s Try.underlying22 rfl rfl rfl ?_; intro f h
      refine s_pure h (ru_val (.bool false) (ru_eql (h.ev rfl) (h.ev rfl)) (congrArg Value.bool ((decide_eq_decide.2 (by omega)).trans z0))) rfl ?_; intro f h
      refine s_nil ?_
      refine hK15 _ _ ?_
      refine wpIn_cond_false (h.ev rfl) ?_
      refine wpIn_skip ?_
      refine hK14 _ _ ?_
      refine c_seq fun K16 hK16 => ?_
      refine c_region ?_
      refine s_pure h (ru_move (h.ev rfl)) rfl ?_; intro f h
      refine s_pure h (ru_val (.bool true) (ru_eql (h.ev rfl) (h.ev rfl)) (congrArg Value.bool (by rw [b3, z0]; rfl))) rfl ?_; intro f h
      refine s_pure h (ru_move (h.ev rfl)) rfl ?_; intro f h
      refine s_on h rfl rfl rfl ?_
      refine s_pure h (ru_move (h.ev rfl)) rfl ?_; intro f h
      refine s_on h rfl rfl rfl ?_
      refine s_pure h (ru_move (h.ev rfl)) rfl ?_; intro f h
      refine s_on h rfl rfl rfl ?_
      refine s_call h s fnc16 (ret_val (.bool true) (rsamet_any (mtL t x) (mtF t x) vb v104 _ ((s.getG 5 rfl) (hT.keep s.ext)) (RdZ.of_own (s.getSl 0 rfl)) (by omega) (by omega)) (congrArg Value.bool (by rw [b4]; simp))) rfl rfl ?_; intro f w1 v9 hT hE h s; obtain rfl := hT
      refine s_pure h (ru_pick_t (h.ev rfl) (h.ev rfl)) rfl ?_; intro f h
      refine s_pure h (ru_assign (h.ev rfl)) rfl ?_; intro f h
      refine s_nil ?_
      refine hK16 _ _ ?_
      refine wpIn_ret ?_
      exact e_tmp rfl h s rfl (rfl)
    · skip
      refine c_region ?_
      refine s_pure h (ru_move (h.ev rfl)) rfl ?_; intro f h
      refine s_len_sl 0 h s Try.underlying22 rfl rfl rfl ?_; intro f h
      refine s_pure h (ru_val (.bool true) (ru_eql (h.ev rfl) (h.ev rfl)) (congrArg Value.bool ((decide_eq_decide.2 (by omega)).trans z0))) rfl ?_; intro f h
      refine s_nil ?_
      refine hK15 _ _ ?_
      refine wpIn_cond_true (h.ev rfl) ?_
      refine c_seq fun K17 hK17 => ?_
      refine c_region ?_
      refine s_pure h (ru_move (h.ev rfl)) rfl ?_; intro f h
      refine s_pure h (ru_val (.bool true) (ru_eql (h.ev rfl) (h.ev rfl)) (congrArg Value.bool (by rw [b3, z0]; rfl))) rfl ?_; intro f h
      refine s_pure h (ru_move (h.ev rfl)) rfl ?_; intro f h
      refine s_on h rfl rfl rfl ?_
      refine s_pure h (ru_move (h.ev rfl)) rfl ?_; intro f h
      refine s_on h rfl rfl rfl ?_
      refine s_pure h (ru_lenZ (((s.getG 5 rfl) (hT.keep s.ext))) Try.underlying22 (h.ev rfl)) rfl ?_; intro f h
      refine s_on h rfl rfl rfl ?_
      refine s_pure h (ru_val (.bool true) (ru_eql (h.ev rfl) (h.ev rfl)) (congrArg Value.bool (by rw [b4, List.length_eq_zero_iff.1 (of_decide_eq_true z0)]; rfl))) rfl ?_; intro f h
      refine s_pure h (ru_pick_t (h.ev rfl) (h.ev rfl)) rfl ?_; intro f h
      refine s_pure h (ru_assign (h.ev rfl)) rfl ?_; intro f h
      refine s_nil ?_
      refine hK17 _ _ ?_
      refine wpIn_ret ?_
      refine t_ret ?_
      exact e_tmp rfl h s rfl (rfl)
end Go.Proofs.Ytliknbdambmmaaa
