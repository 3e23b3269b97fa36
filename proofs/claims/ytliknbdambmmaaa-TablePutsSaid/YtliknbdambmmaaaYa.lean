/- What TablePuts answers: for all arguments. -/
import Derived.Test.YtliknbdambmmaaaVc
import Derived.Test.YtliknbdambmmaaaXl
set_option linter.unusedVariables false
set_option linter.unusedSimpArgs false
set_option linter.unusedSectionVars false
namespace Go.Proofs.Ytliknbdambmmaaa
open Go.RowKit
set_option maxHeartbeats 2000000 in
theorem ltputs_any (l : List Tg) (vh : Value) (x : Tg) (i : Id) (e : Ent) (w : World) (hR : RdZ w vh 67 l.length (tgCells l)) : Calls Try.prog 3 [vh, .agg (tgArr x), idV i, .agg (eArr e)].toArray w (Ret w (is (.bool true))) := by
  have hT := tg_take hR (min l.length 34) (by omega)
  obtain ⟨t, ht⟩ : ∃ x9, x9 = l.take (min l.length 34) := ⟨_, rfl⟩
  rw [← ht] at hT
  have htl : t.length ≤ 34 := by rw [ht, List.length_take]; omega
  refine c_enter Try.func3 rfl Try.ntmps3 rfl [(0, vh), (1, .agg (tgArr x)), (2, idV i), (3, .agg (eArr e))] (by simp) fun f h => ?_
  have s := St.start w
  refine c_seq fun K1 hK1 => ?_
  refine c_region ?_
  refine s_box (tgArr x) h s rfl rfl rfl ?_; intro f w1 b5 h s
  refine s_box (idArr i) h s rfl rfl rfl ?_; intro f w1 b6 h s
  refine s_box (eArr e) h s rfl rfl rfl ?_; intro f w1 b7 h s
  refine s_pure h (ru_assign (h.ev rfl)) rfl ?_; intro f h
  refine s_nil ?_
  refine hK1 _ _ ?_
  refine c_seq fun K2 hK2 => ?_
  refine c_region ?_
  refine s_pure h (ru_move (h.ev rfl)) rfl ?_; intro f h
  refine s_call h s fnc8 (tfew_any vh l _ (hR.keep s.ext)) rfl rfl ?_; intro f w1 v9 hT hE h s; obtain rfl := hT
  refine s_pure h (ru_assign (h.ev rfl)) rfl ?_; intro f h
  refine s_nil ?_
  refine hK2 _ _ ?_
  refine c_seq fun K3 hK3 => ?_
  refine c_region ?_
  refine s_pure h (ru_move (h.ev rfl)) rfl ?_; intro f h
  refine s_load_row 2 h s row28 rfl rfl (tgArr_size _) rfl ?_; intro f h
  refine s_call h s fnc9 (tput_any t (cutV vh (min l.length 34)) x _ (hT.keep s.ext) (by omega)) rfl rfl ?_; rintro f w1 v20 ⟨va, kva, rfl, hG⟩ hE h sq; replace s := s.add hG; clear hG
  have hpa := putR_le t x
  refine s_pure h (ru_move (h.ev rfl)) rfl ?_; intro f h
  refine s_pure h (ru_extract (h.ev rfl) rfl) rfl ?_; intro f h
  refine s_pure h (ru_extract (h.ev rfl) rfl) rfl ?_; intro f h
  refine s_pure h (ru_assign (h.ev rfl)) rfl ?_; intro f h
  refine s_pure h (ru_assign (h.ev rfl)) rfl ?_; intro f h
  refine s_nil ?_
  refine hK3 _ _ ?_
  refine c_seq fun K4 hK4 => ?_
  refine c_region ?_
  refine s_pure h (ru_move (h.ev rfl)) rfl ?_; intro f h
  refine s_load_row 2 h s row24 rfl rfl (by first | exact idArr_size _ | exact bytesF_size _ _) rfl ?_; intro f h
  refine s_load_row 1 h s row26 rfl rfl (eArr_size _) rfl ?_; intro f h
  refine s_call h s fnc10 (tdrop_any t (cutV vh (min l.length 34)) i e _ (hT.keep s.ext) (by omega)) rfl rfl ?_; rintro f w1 v27 ⟨vb, kvb, rfl, hG⟩ hE h sq; replace s := s.add hG; clear hG
  have hdb := drp_le t i e
  refine s_pure h (ru_move (h.ev rfl)) rfl ?_; intro f h
  refine s_pure h (ru_extract (h.ev rfl) rfl) rfl ?_; intro f h
  refine s_pure h (ru_extract (h.ev rfl) rfl) rfl ?_; intro f h
  refine s_pure h (ru_assign (h.ev rfl)) rfl ?_; intro f h
  refine s_pure h (ru_assign (h.ev rfl)) rfl ?_; intro f h
  refine s_nil ?_
  refine hK4 _ _ ?_
  refine c_seq fun K5 hK5 => ?_
  refine c_seq fun K6 hK6 => ?_
  cases r0 : (rightT t : Bool)
  · skip
    refine c_region ?_
    refine s_pure h (ru_move (h.ev rfl)) rfl ?_; intro f h
    refine s_call h s fnc11 (ret_val (.bool false) (tright_any t (cutV vh (min l.length 34)) _ (hT.keep s.ext) (by omega)) (congrArg Value.bool r0)) rfl rfl ?_; intro f w1 v9 hT hE h s; obtain rfl := hT
    refine s_pure h (ru_move (h.ev rfl)) rfl ?_; intro f h
    refine s_call h s fnc12 (ret_val (.bool false) (rrightt_any t (cutV vh (min l.length 34)) _ (hT.keep s.ext) (by omega)) (congrArg Value.bool r0)) rfl rfl ?_; intro f w1 v9 hT hE h s; obtain rfl := hT
    refine s_pure h (ru_val (.bool false) (ru_neq_bool Try.underlying4 (h.ev rfl) (h.ev rfl)) (congrArg Value.bool (by simp))) rfl ?_; intro f h
    refine s_pure h (ru_move (h.ev rfl)) rfl ?_; intro f h
    refine s_on h rfl rfl rfl ?_
    refine s_call h s fnc13 (ret_val (.bool true) (talive_any _) (congrArg Value.bool (rfl))) rfl rfl ?_; intro f w1 v9 hT hE h s; obtain rfl := hT
    refine s_on h rfl rfl rfl ?_
    refine s_pure h (ru_val (.bool false) (ru_not (h.ev rfl)) rfl) rfl ?_; intro f h
    refine s_pure h (ru_pick_f (h.ev rfl) (h.ev rfl)) rfl ?_; intro f h
    refine s_nil ?_
    refine hK6 _ _ ?_
    refine wpIn_cond_false (h.ev rfl) ?_
    refine wpIn_skip ?_
    refine hK5 _ _ ?_
    refine c_seq fun K7 hK7 => ?_
    refine c_seq fun K8 hK8 => ?_
    refine c_region ?_
    refine s_pure h (ru_move (h.ev rfl)) rfl ?_; intro f h
    refine s_call h s fnc12 (ret_val (.bool false) (rrightt_any t (cutV vh (min l.length 34)) _ (hT.keep s.ext) (by omega)) (congrArg Value.bool r0)) rfl rfl ?_; intro f w1 v9 hT hE h s; obtain rfl := hT
    refine s_pure h (ru_val (.bool true) (ru_not (h.ev rfl)) rfl) rfl ?_; intro f h
    refine s_nil ?_
    refine hK8 _ _ ?_
    refine wpIn_cond_true (h.ev rfl) ?_
    refine c_seq fun K9 hK9 => ?_
    refine c_region ?_
    obtain ⟨b1, b2⟩ := tb_bad r0 x
    obtain ⟨b3, b4⟩ := td_bad r0 i e
    refine s_pure h (ru_move (h.ev rfl)) rfl ?_; intro f h
    refine s_pure h (ru_val (.bool true) (ru_eql (h.ev rfl) (h.ev rfl)) (congrArg Value.bool (by rw [b1]; rfl))) rfl ?_; intro f h
    refine s_pure h (ru_move (h.ev rfl)) rfl ?_; intro f h
    refine s_on h rfl rfl rfl ?_
    refine s_pure h (ru_move (h.ev rfl)) rfl ?_; intro f h
    refine s_on h rfl rfl rfl ?_
    refine s_pure h (ru_val (.bool true) (ru_eql (h.ev rfl) (h.ev rfl)) (congrArg Value.bool (by rw [b3]; rfl))) rfl ?_; intro f h
    refine s_pure h (ru_pick_t (h.ev rfl) (h.ev rfl)) rfl ?_; intro f h
    refine s_pure h (ru_move (h.ev rfl)) rfl ?_; intro f h
    refine s_on h rfl rfl rfl ?_
    refine s_pure h (ru_move (h.ev rfl)) rfl ?_; intro f h
    refine s_on h rfl rfl rfl ?_
    refine s_pure h (ru_lenZ (((s.getG 1 rfl) (hT.keep s.ext))) Try.underlying22 (h.ev rfl)) rfl ?_; intro f h
    refine s_on h rfl rfl rfl ?_
    refine s_pure h (ru_move (h.ev rfl)) rfl ?_; intro f h
    refine s_on h rfl rfl rfl ?_
    refine s_pure h (ru_lenZ (((s.getG 0 rfl) (hT.keep s.ext))) Try.underlying22 (h.ev rfl)) rfl ?_; intro f h
    refine s_on h rfl rfl rfl ?_
    refine s_pure h (ru_add (h.ev rfl) (h.ev rfl) (by omega)) rfl ?_; intro f h
    refine s_on h rfl rfl rfl ?_
    refine s_pure h (ru_val (.bool true) (ru_eql (h.ev rfl) (h.ev rfl)) (congrArg Value.bool (by rw [b2, b4]; rfl))) rfl ?_; intro f h
    refine s_pure h (ru_pick_t (h.ev rfl) (h.ev rfl)) rfl ?_; intro f h
    refine s_pure h (ru_assign (h.ev rfl)) rfl ?_; intro f h
    refine s_nil ?_
    refine hK9 _ _ ?_
    refine wpIn_ret ?_
    refine t_ret ?_
    exact e_tmp rfl h s rfl (rfl)
  · skip
    refine c_region ?_
    refine s_pure h (ru_move (h.ev rfl)) rfl ?_; intro f h
    refine s_call h s fnc11 (ret_val (.bool true) (tright_any t (cutV vh (min l.length 34)) _ (hT.keep s.ext) (by omega)) (congrArg Value.bool r0)) rfl rfl ?_; intro f w1 v9 hT hE h s; obtain rfl := hT
    refine s_pure h (ru_move (h.ev rfl)) rfl ?_; intro f h
    refine s_call h s fnc12 (ret_val (.bool true) (rrightt_any t (cutV vh (min l.length 34)) _ (hT.keep s.ext) (by omega)) (congrArg Value.bool r0)) rfl rfl ?_; intro f w1 v9 hT hE h s; obtain rfl := hT
    refine s_pure h (ru_val (.bool false) (ru_neq_bool Try.underlying4 (h.ev rfl) (h.ev rfl)) (congrArg Value.bool (by simp))) rfl ?_; intro f h
    refine s_pure h (ru_move (h.ev rfl)) rfl ?_; intro f h
    refine s_on h rfl rfl rfl ?_
    refine s_call h s fnc13 (ret_val (.bool true) (talive_any _) (congrArg Value.bool (rfl))) rfl rfl ?_; intro f w1 v9 hT hE h s; obtain rfl := hT
    refine s_on h rfl rfl rfl ?_
    refine s_pure h (ru_val (.bool false) (ru_not (h.ev rfl)) rfl) rfl ?_; intro f h
    refine s_pure h (ru_pick_f (h.ev rfl) (h.ev rfl)) rfl ?_; intro f h
    refine s_nil ?_
    refine hK6 _ _ ?_
    refine wpIn_cond_false (h.ev rfl) ?_
    refine wpIn_skip ?_
    refine hK5 _ _ ?_
    refine c_seq fun K10 hK10 => ?_
    refine c_seq fun K11 hK11 => ?_
    refine c_region ?_
    refine s_pure h (ru_move (h.ev rfl)) rfl ?_; intro f h
    refine s_call h s fnc12 (ret_val (.bool true) (rrightt_any t (cutV vh (min l.length 34)) _ (hT.keep s.ext) (by omega)) (congrArg Value.bool r0)) rfl rfl ?_; intro f w1 v9 hT hE h s; obtain rfl := hT
    refine s_pure h (ru_val (.bool false) (ru_not (h.ev rfl)) rfl) rfl ?_; intro f h
    refine s_nil ?_
    refine hK11 _ _ ?_
    refine wpIn_cond_false (h.ev rfl) ?_
    refine wpIn_skip ?_
    refine hK10 _ _ ?_
    refine c_seq fun K12 hK12 => ?_
    refine c_seq fun K13 hK13 => ?_
    cases m0 : (mayT x : Bool)
    · skip
      refine c_region ?_
      refine s_load_row 4 h s row28 rfl rfl (tgArr_size _) rfl ?_; intro f h
      refine s_call h s fnc14 (ret_val (.bool false) (rmayt_any x _) (congrArg Value.bool m0)) rfl rfl ?_; intro f w1 v9 hT hE h s; obtain rfl := hT
      refine s_pure h (ru_val (.bool true) (ru_not (h.ev rfl)) rfl) rfl ?_; intro f h
      refine s_nil ?_
      refine hK13 _ _ ?_
      refine wpIn_cond_true (h.ev rfl) ?_
      refine c_seq fun K14 hK14 => ?_
      refine c_region ?_
      obtain ⟨b1, b2⟩ := tb_may t m0
      refine s_pure h (ru_move (h.ev rfl)) rfl ?_; intro f h
      refine s_pure h (ru_val (.bool false) (ru_neq (h.ev rfl) (h.ev rfl)) (congrArg Value.bool (by rw [b1]; rfl))) rfl ?_; intro f h
      refine s_pure h (ru_move (h.ev rfl)) rfl ?_; intro f h
      refine s_on h rfl rfl rfl ?_
      refine s_pure h (ru_move (h.ev rfl)) rfl ?_; intro f h
      refine s_on h rfl rfl rfl ?_
      refine s_pure h (ru_lenZ (((s.getG 1 rfl) (hT.keep s.ext))) Try.underlying22 (h.ev rfl)) rfl ?_; intro f h
      refine s_on h rfl rfl rfl ?_
      refine s_pure h (ru_val (.bool false) (ru_neq (h.ev rfl) (h.ev rfl)) (congrArg Value.bool (by rw [b2]; rfl))) rfl ?_; intro f h
      refine s_pure h (ru_pick_f (h.ev rfl) (h.ev rfl)) rfl ?_; intro f h
      refine s_nil ?_
      refine hK14 _ _ ?_
      refine wpIn_cond_false (h.ev rfl) ?_
      refine wpIn_skip ?_
      refine hK12 _ _ ?_
      refine c_seq fun K15 hK15 => ?_
      refine c_seq fun K16 hK16 => ?_
      cases g0 : (decide ((findT t i e).2.2 < 0) : Bool)
      · skip
        refine c_region ?_
        refine s_pure h (ru_move (h.ev rfl)) rfl ?_; intro f h
        refine s_load_row 3 h s row24 rfl rfl (by first | exact idArr_size _ | exact bytesF_size _ _) rfl ?_; intro f h
        refine s_load_row 2 h s row26 rfl rfl (eArr_size _) rfl ?_; intro f h
        refine s_call h s fnc17 (rfindt_any t (cutV vh (min l.length 34)) i e _ (hT.keep s.ext) (by omega)) rfl rfl ?_; intro f w1 v9 hT hE h s; obtain rfl := hT
        refine s_pure h (ru_fieldV flt28_2 one3 (h.ev rfl) (tgArr_until _)) rfl ?_; intro f h
        refine s_pure h (ru_val (.bool false) (ru_lss (h.ev rfl) (h.ev rfl)) (congrArg Value.bool g0)) rfl ?_; intro f h
        refine s_nil ?_
        refine hK16 _ _ ?_
        refine wpIn_cond_false (h.ev rfl) ?_
        refine wpIn_skip ?_
        refine hK15 _ _ ?_
        refine c_seq fun K17 hK17 => ?_
        refine c_region ?_
        obtain ⟨b3, b4⟩ := td_is r0 g0
        refine s_pure h (ru_move (h.ev rfl)) rfl ?_; intro f h
        refine s_pure h (ru_val (.bool true) (ru_eql (h.ev rfl) (h.ev rfl)) (congrArg Value.bool (by rw [b3]; rfl))) rfl ?_; intro f h
        refine s_pure h (ru_move (h.ev rfl)) rfl ?_; intro f h
        refine s_on h rfl rfl rfl ?_
        refine s_pure h (ru_move (h.ev rfl)) rfl ?_; intro f h
        refine s_on h rfl rfl rfl ?_
        refine s_pure h (ru_move (h.ev rfl)) rfl ?_; intro f h
        refine s_on h rfl rfl rfl ?_
        refine s_load_row 3 h s row24 rfl rfl (by first | exact idArr_size _ | exact bytesF_size _ _) rfl ?_; intro f h
        refine s_on h rfl rfl rfl ?_
        refine s_load_row 2 h s row26 rfl rfl (eArr_size _) rfl ?_; intro f h
        refine s_on h rfl rfl rfl ?_
        refine s_call h s fnc18 (rwost_any t (cutV vh (min l.length 34)) i e _ (hT.keep s.ext) (by omega)) rfl rfl ?_; intro f w1 v116 hOw hE h sq; change Owns _ _ _ 67 _ (wosT t i e).length (tgCells (wosT t i e)) at hOw; replace s := s.sl_new hE hOw; clear hOw
        have hwl := wosT_le t i e
        refine s_on h rfl rfl rfl ?_
        refine s_call h s fnc16 (ret_val (.bool true) (rsamet_any (drpL t i e) (wosT t i e) vb v116 _ ((s.getG 1 rfl) (hT.keep s.ext)) (RdZ.of_own (s.getSl 0 rfl)) (by omega) (by omega)) (congrArg Value.bool (by rw [b4]; simp))) rfl rfl ?_; intro f w1 v9 hT hE h s; obtain rfl := hT
        refine s_pure h (ru_pick_t (h.ev rfl) (h.ev rfl)) rfl ?_; intro f h
        refine s_pure h (ru_assign (h.ev rfl)) rfl ?_; intro f h
        refine s_nil ?_
        refine hK17 _ _ ?_
        refine wpIn_ret ?_
        exact e_tmp rfl h s rfl (rfl)
      · skip
        refine c_region ?_
        refine s_pure h (ru_move (h.ev rfl)) rfl ?_; intro f h
        refine s_load_row 3 h s row24 rfl rfl (by first | exact idArr_size _ | exact bytesF_size _ _) rfl ?_; intro f h
        refine s_load_row 2 h s row26 rfl rfl (eArr_size _) rfl ?_; intro f h
        refine s_call h s fnc17 (rfindt_any t (cutV vh (min l.length 34)) i e _ (hT.keep s.ext) (by omega)) rfl rfl ?_; intro f w1 v9 hT hE h s; obtain rfl := hT
        refine s_pure h (ru_fieldV flt28_2 one3 (h.ev rfl) (tgArr_until _)) rfl ?_; intro f h
        refine s_pure h (ru_val (.bool true) (ru_lss (h.ev rfl) (h.ev rfl)) (congrArg Value.bool g0)) rfl ?_; intro f h
        refine s_nil ?_
        refine hK16 _ _ ?_
        refine wpIn_cond_true (h.ev rfl) ?_
        refine c_seq fun K18 hK18 => ?_
        refine c_region ?_
        obtain ⟨b3, b4⟩ := td_non r0 g0
        refine s_pure h (ru_move (h.ev rfl)) rfl ?_; intro f h
        refine s_pure h (ru_val (.bool true) (ru_eql (h.ev rfl) (h.ev rfl)) (congrArg Value.bool (by rw [b3]; rfl))) rfl ?_; intro f h
        refine s_pure h (ru_move (h.ev rfl)) rfl ?_; intro f h
        refine s_on h rfl rfl rfl ?_
        refine s_pure h (ru_move (h.ev rfl)) rfl ?_; intro f h
        refine s_on h rfl rfl rfl ?_
        refine s_pure h (ru_lenZ (((s.getG 0 rfl) (hT.keep s.ext))) Try.underlying22 (h.ev rfl)) rfl ?_; intro f h
        refine s_on h rfl rfl rfl ?_
        refine s_pure h (ru_val (.bool true) (ru_eql (h.ev rfl) (h.ev rfl)) (congrArg Value.bool (by rw [b4]; rfl))) rfl ?_; intro f h
        refine s_pure h (ru_pick_t (h.ev rfl) (h.ev rfl)) rfl ?_; intro f h
        refine s_pure h (ru_assign (h.ev rfl)) rfl ?_; intro f h
        refine s_nil ?_
        refine hK18 _ _ ?_
        refine wpIn_ret ?_
        refine t_ret ?_
        exact e_tmp rfl h s rfl (rfl)
    · skip
      refine c_region ?_
      refine s_load_row 4 h s row28 rfl rfl (tgArr_size _) rfl ?_; intro f h
      refine s_call h s fnc14 (ret_val (.bool true) (rmayt_any x _) (congrArg Value.bool m0)) rfl rfl ?_; intro f w1 v9 hT hE h s; obtain rfl := hT
      refine s_pure h (ru_val (.bool false) (ru_not (h.ev rfl)) rfl) rfl ?_; intro f h
      refine s_nil ?_
      refine hK13 _ _ ?_
      refine wpIn_cond_false (h.ev rfl) ?_
      refine c_seq fun K19 hK19 => ?_
      refine c_region ?_
      refine s_pure h (ru_move (h.ev rfl)) rfl ?_; intro f h
      refine s_load_row 4 h s row28 rfl rfl (tgArr_size _) rfl ?_; intro f h
      refine s_call h s fnc15 (rputt_any t (cutV vh (min l.length 34)) x _ (hT.keep s.ext) (by omega)) rfl rfl ?_; rintro f w1 v69 ⟨vq, rfl, hOw⟩ hE h sq; replace s := s.sl_new hE hOw; clear hOw
      have hpq := putT_le t x
      refine s_pure h (ru_move (h.ev rfl)) rfl ?_; intro f h
      refine s_pure h (ru_extract (h.ev rfl) rfl) rfl ?_; intro f h
      refine s_pure h (ru_extract (h.ev rfl) rfl) rfl ?_; intro f h
      refine s_pure h (ru_assign (h.ev rfl)) rfl ?_; intro f h
      refine s_pure h (ru_assign (h.ev rfl)) rfl ?_; intro f h
      refine s_nil ?_
      refine hK19 _ _ ?_
      refine c_seq fun K20 hK20 => ?_
      cases f0 : (decide ((putT t x).length ≤ 32) : Bool)
      · skip
        refine c_region ?_
        obtain ⟨b1, b2⟩ := tb_full r0 m0 f0
        refine s_pure h (ru_val (.bool false) (ru_move (h.ev rfl)) (congrArg Value.bool f0)) rfl ?_; intro f h
        refine s_pure h (ru_move (h.ev rfl)) rfl ?_; intro f h
        refine s_off (b := true) h rfl rfl rfl rfl ?_; intro f h
        refine s_off (b := true) h rfl rfl rfl rfl ?_; intro f h
        refine s_off (b := true) h rfl rfl rfl rfl ?_; intro f h
        refine s_none h rfl rfl rfl rfl ?_; intro f h
        refine s_none h rfl rfl rfl rfl ?_; intro f h
        refine s_none h rfl rfl rfl rfl ?_; intro f h
        refine s_none h rfl rfl rfl rfl ?_; intro f h
        refine s_off (b := true) h rfl rfl rfl rfl ?_; intro f h
        refine s_pure h (ru_pick_f (h.ev rfl) (h.ev rfl)) rfl ?_; intro f h
        refine s_pure h (ru_move (h.ev rfl)) rfl ?_; intro f h
        refine s_on h rfl rfl rfl ?_
        refine s_pure h (ru_val (.bool false) (ru_move (h.ev rfl)) (congrArg Value.bool f0)) rfl ?_; intro f h
        refine s_on h rfl rfl rfl ?_
        refine s_pure h (ru_val (.bool true) (ru_not (h.ev rfl)) rfl) rfl ?_; intro f h
        refine s_on h rfl rfl rfl ?_
        refine s_pure h (ru_move (h.ev rfl)) rfl ?_; intro f h
        refine s_on h rfl rfl rfl ?_
        refine s_pure h (ru_move (h.ev rfl)) rfl ?_; intro f h
        refine s_on h rfl rfl rfl ?_
        refine s_pure h (ru_val (.bool false) (ru_neq (h.ev rfl) (h.ev rfl)) (congrArg Value.bool (by rw [b1]; rfl))) rfl ?_; intro f h
        refine s_on h rfl rfl rfl ?_
        refine s_pure h (ru_move (h.ev rfl)) rfl ?_; intro f h
        refine s_on h rfl rfl rfl ?_
        refine s_pure h (ru_move (h.ev rfl)) rfl ?_; intro f h
        refine s_on h rfl rfl rfl ?_
        refine s_pure h (ru_lenZ (((s.getG 2 rfl) (hT.keep s.ext))) Try.underlying22 (h.ev rfl)) rfl ?_; intro f h
        refine s_on h rfl rfl rfl ?_
        refine s_pure h (ru_val (.bool false) (ru_neq (h.ev rfl) (h.ev rfl)) (congrArg Value.bool (by rw [b2]; rfl))) rfl ?_; intro f h
        refine s_on h rfl rfl rfl ?_
        refine s_pure h (ru_pick_f (h.ev rfl) (h.ev rfl)) rfl ?_; intro f h
        refine s_on h rfl rfl rfl ?_
        refine s_pure h (ru_pick_t (h.ev rfl) (h.ev rfl)) rfl ?_; intro f h
        refine s_pure h (ru_pick_f (h.ev rfl) (h.ev rfl)) rfl ?_; intro f h
        refine s_nil ?_
        refine hK20 _ _ ?_
        refine wpIn_cond_false (h.ev rfl) ?_
        refine wpIn_skip ?_
        refine hK12 _ _ ?_
        refine c_seq fun K21 hK21 => ?_
        refine c_seq fun K22 hK22 => ?_
        cases g0 : (decide ((findT t i e).2.2 < 0) : Bool)
        · skip
          refine c_region ?_
          refine s_pure h (ru_move (h.ev rfl)) rfl ?_; intro f h
          refine s_load_row 4 h s row24 rfl rfl (by first | exact idArr_size _ | exact bytesF_size _ _) rfl ?_; intro f h
          refine s_load_row 3 h s row26 rfl rfl (eArr_size _) rfl ?_; intro f h
          refine s_call h s fnc17 (rfindt_any t (cutV vh (min l.length 34)) i e _ (hT.keep s.ext) (by omega)) rfl rfl ?_; intro f w1 v9 hT hE h s; obtain rfl := hT
          refine s_pure h (ru_fieldV flt28_2 one3 (h.ev rfl) (tgArr_until _)) rfl ?_; intro f h
          refine s_pure h (ru_val (.bool false) (ru_lss (h.ev rfl) (h.ev rfl)) (congrArg Value.bool g0)) rfl ?_; intro f h
          refine s_nil ?_
          refine hK22 _ _ ?_
          refine wpIn_cond_false (h.ev rfl) ?_
          refine wpIn_skip ?_
          refine hK21 _ _ ?_
          refine c_seq fun K23 hK23 => ?_
          refine c_region ?_
          obtain ⟨b3, b4⟩ := td_is r0 g0
          refine s_pure h (ru_move (h.ev rfl)) rfl ?_; intro f h
          refine s_pure h (ru_val (.bool true) (ru_eql (h.ev rfl) (h.ev rfl)) (congrArg Value.bool (by rw [b3]; rfl))) rfl ?_; intro f h
          refine s_pure h (ru_move (h.ev rfl)) rfl ?_; intro f h
          refine s_on h rfl rfl rfl ?_
          refine s_pure h (ru_move (h.ev rfl)) rfl ?_; intro f h
          refine s_on h rfl rfl rfl ?_
          refine s_pure h (ru_move (h.ev rfl)) rfl ?_; intro f h
          refine s_on h rfl rfl rfl ?_
          refine s_load_row 4 h s row24 rfl rfl (by first | exact idArr_size _ | exact bytesF_size _ _) rfl ?_; intro f h
          refine s_on h rfl rfl rfl ?_
          refine s_load_row 3 h s row26 rfl rfl (eArr_size _) rfl ?_; intro f h
          refine s_on h rfl rfl rfl ?_
          refine s_call h s fnc18 (rwost_any t (cutV vh (min l.length 34)) i e _ (hT.keep s.ext) (by omega)) rfl rfl ?_; intro f w1 v116 hOw hE h sq; change Owns _ _ _ 67 _ (wosT t i e).length (tgCells (wosT t i e)) at hOw; replace s := s.sl_new hE hOw; clear hOw
          have hwl := wosT_le t i e
          refine s_on h rfl rfl rfl ?_
          refine s_call h s fnc16 (ret_val (.bool true) (rsamet_any (drpL t i e) (wosT t i e) vb v116 _ ((s.getG 2 rfl) (hT.keep s.ext)) (RdZ.of_own (s.getSl 0 rfl)) (by omega) (by omega)) (congrArg Value.bool (by rw [b4]; simp))) rfl rfl ?_; intro f w1 v9 hT hE h s; obtain rfl := hT
          refine s_pure h (ru_pick_t (h.ev rfl) (h.ev rfl)) rfl ?_; intro f h
          refine s_pure h (ru_assign (h.ev rfl)) rfl ?_; intro f h
          refine s_nil ?_
          refine hK23 _ _ ?_
          refine wpIn_ret ?_
          exact e_tmp rfl h s rfl (rfl)
        · skip
          refine c_region ?_
          refine s_pure h (ru_move (h.ev rfl)) rfl ?_; intro f h
          refine s_load_row 4 h s row24 rfl rfl (by first | exact idArr_size _ | exact bytesF_size _ _) rfl ?_; intro f h
          refine s_load_row 3 h s row26 rfl rfl (eArr_size _) rfl ?_; intro f h
          refine s_call h s fnc17 (rfindt_any t (cutV vh (min l.length 34)) i e _ (hT.keep s.ext) (by omega)) rfl rfl ?_; intro f w1 v9 hT hE h s; obtain rfl := hT
          refine s_pure h (ru_fieldV flt28_2 one3 (h.ev rfl) (tgArr_until _)) rfl ?_; intro f h
          refine s_pure h (ru_val (.bool true) (ru_lss (h.ev rfl) (h.ev rfl)) (congrArg Value.bool g0)) rfl ?_; intro f h
          refine s_nil ?_
          refine hK22 _ _ ?_
          refine wpIn_cond_true (h.ev rfl) ?_
          refine c_seq fun K24 hK24 => ?_
          refine c_region ?_
          obtain ⟨b3, b4⟩ := td_non r0 g0
          refine s_pure h (ru_move (h.ev rfl)) rfl ?_; intro f h
          refine s_pure h (ru_val (.bool true) (ru_eql (h.ev rfl) (h.ev rfl)) (congrArg Value.bool (by rw [b3]; rfl))) rfl ?_; intro f h
          refine s_pure h (ru_move (h.ev rfl)) rfl ?_; intro f h
          refine s_on h rfl rfl rfl ?_
          refine s_pure h (ru_move (h.ev rfl)) rfl ?_; intro f h
          refine s_on h rfl rfl rfl ?_
          refine s_pure h (ru_lenZ (((s.getG 1 rfl) (hT.keep s.ext))) Try.underlying22 (h.ev rfl)) rfl ?_; intro f h
          refine s_on h rfl rfl rfl ?_
          refine s_pure h (ru_val (.bool true) (ru_eql (h.ev rfl) (h.ev rfl)) (congrArg Value.bool (by rw [b4]; rfl))) rfl ?_; intro f h
          refine s_pure h (ru_pick_t (h.ev rfl) (h.ev rfl)) rfl ?_; intro f h
          refine s_pure h (ru_assign (h.ev rfl)) rfl ?_; intro f h
          refine s_nil ?_
          refine hK24 _ _ ?_
          refine wpIn_ret ?_
          refine t_ret ?_
          exact e_tmp rfl h s rfl (rfl)
      · skip
        refine c_region ?_
        obtain ⟨b1, b2⟩ := tb_ok r0 m0 f0
        refine s_pure h (ru_val (.bool true) (ru_move (h.ev rfl)) (congrArg Value.bool f0)) rfl ?_; intro f h
        refine s_pure h (ru_move (h.ev rfl)) rfl ?_; intro f h
        refine s_on h rfl rfl rfl ?_
        refine s_pure h (ru_move (h.ev rfl)) rfl ?_; intro f h
        refine s_on h rfl rfl rfl ?_
        refine s_pure h (ru_val (.bool false) (ru_neq (h.ev rfl) (h.ev rfl)) (congrArg Value.bool (by rw [b1]; rfl))) rfl ?_; intro f h
        refine s_on h rfl rfl rfl ?_
        refine s_pure h (ru_move (h.ev rfl)) rfl ?_; intro f h
        refine s_on h rfl rfl rfl ?_
        refine s_pure h (ru_move (h.ev rfl)) rfl ?_; intro f h
        refine s_on h rfl rfl rfl ?_
        refine s_pure h (ru_move (h.ev rfl)) rfl ?_; intro f h
        refine s_on h rfl rfl rfl ?_
        refine s_call h s fnc16 (ret_val (.bool true) (rsamet_any (putR t x) (putT t x) va vq _ ((s.getG 2 rfl) (hT.keep s.ext)) (RdZ.of_own (s.getSl 0 rfl)) (by omega) (by omega)) (congrArg Value.bool (by rw [b2]; simp))) rfl rfl ?_; intro f w1 v9 hT hE h s; obtain rfl := hT
        refine s_on h rfl rfl rfl ?_
        refine s_pure h (ru_val (.bool false) (ru_not (h.ev rfl)) rfl) rfl ?_; intro f h
        refine s_on h rfl rfl rfl ?_
        refine s_pure h (ru_pick_f (h.ev rfl) (h.ev rfl)) rfl ?_; intro f h
        refine s_pure h (ru_pick_t (h.ev rfl) (h.ev rfl)) rfl ?_; intro f h
        refine s_pure h (ru_move (h.ev rfl)) rfl ?_; intro f h
        refine s_on h rfl rfl rfl ?_
        refine s_pure h (ru_val (.bool true) (ru_move (h.ev rfl)) (congrArg Value.bool f0)) rfl ?_; intro f h
        refine s_on h rfl rfl rfl ?_
        refine s_pure h (ru_val (.bool false) (ru_not (h.ev rfl)) rfl) rfl ?_; intro f h
        refine s_on h rfl rfl rfl ?_
        refine s_pure h (ru_move (h.ev rfl)) rfl ?_; intro f h
        refine s_off (b := true) h rfl rfl rfl rfl ?_; intro f h
        refine s_off (b := true) h rfl rfl rfl rfl ?_; intro f h
        refine s_off (b := true) h rfl rfl rfl rfl ?_; intro f h
        refine s_none h rfl rfl rfl rfl ?_; intro f h
        refine s_none h rfl rfl rfl rfl ?_; intro f h
        refine s_none h rfl rfl rfl rfl ?_; intro f h
        refine s_off (b := true) h rfl rfl rfl rfl ?_; intro f h
        refine s_on h rfl rfl rfl ?_
        refine s_pure h (ru_pick_f (h.ev rfl) (h.ev rfl)) rfl ?_; intro f h
        refine s_pure h (ru_pick_f (h.ev rfl) (h.ev rfl)) rfl ?_; intro f h
        refine s_nil ?_
        refine hK20 _ _ ?_
        refine wpIn_cond_false (h.ev rfl) ?_
        refine wpIn_skip ?_
        refine hK12 _ _ ?_
        refine c_seq fun K25 hK25 => ?_
        refine c_seq fun K26 hK26 => ?_
        cases g0 : (decide ((findT t i e).2.2 < 0) : Bool)
        · skip
          refine c_region ?_
          refine s_pure h (ru_move (h.ev rfl)) rfl ?_; intro f h
          refine s_load_row 4 h s row24 rfl rfl (by first | exact idArr_size _ | exact bytesF_size _ _) rfl ?_; intro f h
          refine s_load_row 3 h s row26 rfl rfl (eArr_size _) rfl ?_; intro f h
          refine s_call h s fnc17 (rfindt_any t (cutV vh (min l.length 34)) i e _ (hT.keep s.ext) (by omega)) rfl rfl ?_; intro f w1 v9 hT hE h s; obtain rfl := hT
          refine s_pure h (ru_fieldV flt28_2 one3 (h.ev rfl) (tgArr_until _)) rfl ?_; intro f h
          refine s_pure h (ru_val (.bool false) (ru_lss (h.ev rfl) (h.ev rfl)) (congrArg Value.bool g0)) rfl ?_; intro f h
          refine s_nil ?_
          refine hK26 _ _ ?_
          refine wpIn_cond_false (h.ev rfl) ?_
          refine wpIn_skip ?_
          refine hK25 _ _ ?_
          refine c_seq fun K27 hK27 => ?_
          refine c_region ?_
          obtain ⟨b3, b4⟩ := td_is r0 g0
          refine s_pure h (ru_move (h.ev rfl)) rfl ?_; intro f h
          refine s_pure h (ru_val (.bool true) (ru_eql (h.ev rfl) (h.ev rfl)) (congrArg Value.bool (by rw [b3]; rfl))) rfl ?_; intro f h
          refine s_pure h (ru_move (h.ev rfl)) rfl ?_; intro f h
          refine s_on h rfl rfl rfl ?_
          refine s_pure h (ru_move (h.ev rfl)) rfl ?_; intro f h
          refine s_on h rfl rfl rfl ?_
          refine s_pure h (ru_move (h.ev rfl)) rfl ?_; intro f h
          refine s_on h rfl rfl rfl ?_
          refine s_load_row 4 h s row24 rfl rfl (by first | exact idArr_size _ | exact bytesF_size _ _) rfl ?_; intro f h
          refine s_on h rfl rfl rfl ?_
          refine s_load_row 3 h s row26 rfl rfl (eArr_size _) rfl ?_; intro f h
          refine s_on h rfl rfl rfl ?_
          refine s_call h s fnc18 (rwost_any t (cutV vh (min l.length 34)) i e _ (hT.keep s.ext) (by omega)) rfl rfl ?_; intro f w1 v116 hOw hE h sq; change Owns _ _ _ 67 _ (wosT t i e).length (tgCells (wosT t i e)) at hOw; replace s := s.sl_new hE hOw; clear hOw
          have hwl := wosT_le t i e
          refine s_on h rfl rfl rfl ?_
          refine s_call h s fnc16 (ret_val (.bool true) (rsamet_any (drpL t i e) (wosT t i e) vb v116 _ ((s.getG 2 rfl) (hT.keep s.ext)) (RdZ.of_own (s.getSl 0 rfl)) (by omega) (by omega)) (congrArg Value.bool (by rw [b4]; simp))) rfl rfl ?_; intro f w1 v9 hT hE h s; obtain rfl := hT
          refine s_pure h (ru_pick_t (h.ev rfl) (h.ev rfl)) rfl ?_; intro f h
          refine s_pure h (ru_assign (h.ev rfl)) rfl ?_; intro f h
          refine s_nil ?_
          refine hK27 _ _ ?_
          refine wpIn_ret ?_
          exact e_tmp rfl h s rfl (rfl)
        · skip
          refine c_region ?_
          refine s_pure h (ru_move (h.ev rfl)) rfl ?_; intro f h
          refine s_load_row 4 h s row24 rfl rfl (by first | exact idArr_size _ | exact bytesF_size _ _) rfl ?_; intro f h
          refine s_load_row 3 h s row26 rfl rfl (eArr_size _) rfl ?_; intro f h
          refine s_call h s fnc17 (rfindt_any t (cutV vh (min l.length 34)) i e _ (hT.keep s.ext) (by omega)) rfl rfl ?_; intro f w1 v9 hT hE h s; obtain rfl := hT
          refine s_pure h (ru_fieldV flt28_2 one3 (h.ev rfl) (tgArr_until _)) rfl ?_; intro f h
          refine s_pure h (ru_val (.bool true) (ru_lss (h.ev rfl) (h.ev rfl)) (congrArg Value.bool g0)) rfl ?_; intro f h
          refine s_nil ?_
          refine hK26 _ _ ?_
          refine wpIn_cond_true (h.ev rfl) ?_
          refine c_seq fun K28 hK28 => ?_
          refine c_region ?_
          obtain ⟨b3, b4⟩ := td_non r0 g0
          refine s_pure h (ru_move (h.ev rfl)) rfl ?_; intro f h
          refine s_pure h (ru_val (.bool true) (ru_eql (h.ev rfl) (h.ev rfl)) (congrArg Value.bool (by rw [b3]; rfl))) rfl ?_; intro f h
          refine s_pure h (ru_move (h.ev rfl)) rfl ?_; intro f h
          refine s_on h rfl rfl rfl ?_
          refine s_pure h (ru_move (h.ev rfl)) rfl ?_; intro f h
          refine s_on h rfl rfl rfl ?_
          refine s_pure h (ru_lenZ (((s.getG 1 rfl) (hT.keep s.ext))) Try.underlying22 (h.ev rfl)) rfl ?_; intro f h
          refine s_on h rfl rfl rfl ?_
          refine s_pure h (ru_val (.bool true) (ru_eql (h.ev rfl) (h.ev rfl)) (congrArg Value.bool (by rw [b4]; rfl))) rfl ?_; intro f h
          refine s_pure h (ru_pick_t (h.ev rfl) (h.ev rfl)) rfl ?_; intro f h
          refine s_pure h (ru_assign (h.ev rfl)) rfl ?_; intro f h
          refine s_nil ?_
          refine hK28 _ _ ?_
          refine wpIn_ret ?_
          refine t_ret ?_
          exact e_tmp rfl h s rfl (rfl)
end Go.Proofs.Ytliknbdambmmaaa
