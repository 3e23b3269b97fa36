/- What TableKeeps answers: for all arguments. -/
import Derived.Test.YtliknbdambmmaaaVb
import Derived.Test.YtliknbdambmmaaaXl
set_option linter.unusedVariables false
set_option linter.unusedSimpArgs false
set_option linter.unusedSectionVars false
namespace Go.Proofs.Ytliknbdambmmaaa
open Go.RowKit
set_option maxHeartbeats 4000000 in
theorem ltkeeps_any (l : List Tg) (vh : Value) (x : Tg) (w : World) (hR : RdZ w vh 67 l.length (tgCells l)) : Calls Try.prog 5 [vh, .agg (tgArr x)].toArray w (Ret w (is (.bool true))) := by
  have hT := tg_take hR (min l.length 34) (by omega)
  obtain ⟨t, ht⟩ : ∃ x9, x9 = l.take (min l.length 34) := ⟨_, rfl⟩
  rw [← ht] at hT
  have htl : t.length ≤ 34 := by rw [ht, List.length_take]; omega
  refine c_enter Try.func5 rfl Try.ntmps5 rfl [(0, vh), (1, .agg (tgArr x))] (by simp) fun f h => ?_
  have s := St.start w
  refine c_seq fun K1 hK1 => ?_
  refine c_region ?_
  refine s_box (tgArr x) h s rfl rfl rfl ?_; intro f w1 b3 h s
  refine s_pure h (ru_assign (h.ev rfl)) rfl ?_; intro f h
  refine s_nil ?_
  refine hK1 _ _ ?_
  refine c_seq fun K2 hK2 => ?_
  refine c_region ?_
  refine s_pure h (ru_move (h.ev rfl)) rfl ?_; intro f h
  refine s_call h s fnc8 (tfew_any vh l _ (hR.keep s.ext)) rfl rfl ?_; intro f w1 v9 hT hE h s; obtain rfl := hT
  refine s_pure h (ru_assign (h.ev rfl)) rfl ?_; intro f h
  refine s_nil ?_
  refine hK2 _ _ ?_
  refine c_seq fun K3 hK3 => ?_
  refine c_region ?_
  refine s_pure h (ru_move (h.ev rfl)) rfl ?_; intro f h
  refine s_load_row 0 h s row28 rfl rfl (tgArr_size _) rfl ?_; intro f h
  refine s_call h s fnc9 (tput_any t (cutV vh (min l.length 34)) x _ (hT.keep s.ext) (by omega)) rfl rfl ?_; rintro f w1 v27 ⟨va, kva, rfl, hG⟩ hE h sq; replace s := s.add hG; clear hG
  have hpa := putR_le t x
  refine s_pure h (ru_move (h.ev rfl)) rfl ?_; intro f h
  refine s_pure h (ru_extract (h.ev rfl) rfl) rfl ?_; intro f h
  refine s_pure h (ru_extract (h.ev rfl) rfl) rfl ?_; intro f h
  refine s_pure h (ru_assign (h.ev rfl)) rfl ?_; intro f h
  refine s_pure h (ru_assign (h.ev rfl)) rfl ?_; intro f h
  refine s_nil ?_
  refine hK3 _ _ ?_
  refine c_seq fun K4 hK4 => ?_
  refine c_seq fun K5 hK5 => ?_
  cases p0 : (decide (putE t x = 0) : Bool)
  · skip
    refine c_region ?_
    refine s_pure h (ru_move (h.ev rfl)) rfl ?_; intro f h
    refine s_pure h (ru_val (.bool true) (ru_neq (h.ev rfl) (h.ev rfl)) (congrArg Value.bool (by simpa using p0))) rfl ?_; intro f h
    refine s_nil ?_
    refine hK5 _ _ ?_
    refine wpIn_cond_true (h.ev rfl) ?_
    refine c_seq fun K6 hK6 => ?_
    refine c_region ?_
    have b2 := putT_no (of_decide_eq_false p0)
    refine s_call h s fnc13 (ret_val (.bool true) (talive_any _) (congrArg Value.bool (rfl))) rfl rfl ?_; intro f w1 v9 hT hE h s; obtain rfl := hT
    refine s_pure h (ru_move (h.ev rfl)) rfl ?_; intro f h
    refine s_on h rfl rfl rfl ?_
    refine s_pure h (ru_move (h.ev rfl)) rfl ?_; intro f h
    refine s_on h rfl rfl rfl ?_
    refine s_pure h (ru_lenZ (((s.getG 0 rfl) (hT.keep s.ext))) Try.underlying22 (h.ev rfl)) rfl ?_; intro f h
    refine s_on h rfl rfl rfl ?_
    refine s_pure h (ru_val (.bool true) (ru_eql (h.ev rfl) (h.ev rfl)) (congrArg Value.bool (by rw [b2]; rfl))) rfl ?_; intro f h
    refine s_pure h (ru_pick_t (h.ev rfl) (h.ev rfl)) rfl ?_; intro f h
    refine s_pure h (ru_assign (h.ev rfl)) rfl ?_; intro f h
    refine s_nil ?_
    refine hK6 _ _ ?_
    refine wpIn_ret ?_
    refine t_ret ?_
    exact e_tmp rfl h s rfl (rfl)
  · skip
    refine c_region ?_
    refine s_pure h (ru_move (h.ev rfl)) rfl ?_; intro f h
    refine s_pure h (ru_val (.bool false) (ru_neq (h.ev rfl) (h.ev rfl)) (congrArg Value.bool (by simpa using p0))) rfl ?_; intro f h
    refine s_nil ?_
    refine hK5 _ _ ?_
    refine wpIn_cond_false (h.ev rfl) ?_
    refine wpIn_skip ?_
    refine hK4 _ _ ?_
    refine c_seq fun K7 hK7 => ?_
    refine c_region ?_
    obtain ⟨A, hAe, hA, hxm, hbA, k4, k5, k6⟩ := keep_all (of_decide_eq_true p0)
    have hAl := hA.len
    rw [putT_is (of_decide_eq_true p0), ← hAe] at s
    obtain ⟨m1, m2, m3⟩ := keep_found hA hbA
    obtain ⟨d1, d2, d3, d4, d5⟩ := keep_drop hA hbA
    obtain ⟨x1, x2, x3, x4⟩ := keep_exp hA x.2.2
    refine s_pure h (ru_move (h.ev rfl)) rfl ?_; intro f h
    refine s_load_row 1 h s row28 rfl rfl (tgArr_size _) rfl ?_; intro f h
    refine s_call h s fnc9 (tput_any A va x _ ((s.getG 0 rfl) (hT.keep s.ext)) (by omega)) rfl rfl ?_; rintro f w1 v41 ⟨vb, kvb, rfl, hG⟩ hE h sq; replace s := s.add hG; clear hG
    refine s_pure h (ru_move (h.ev rfl)) rfl ?_; intro f h
    refine s_pure h (ru_extract (h.ev rfl) rfl) rfl ?_; intro f h
    refine s_pure h (ru_extract (h.ev rfl) rfl) rfl ?_; intro f h
    refine s_pure h (ru_assign (h.ev rfl)) rfl ?_; intro f h
    refine s_pure h (ru_assign (h.ev rfl)) rfl ?_; intro f h
    refine s_nil ?_
    refine hK7 _ _ ?_
    refine c_seq fun K8 hK8 => ?_
    refine c_region ?_
    refine s_pure h (ru_move (h.ev rfl)) rfl ?_; intro f h
    refine s_pure h (ru_field fld28_0 (h.ev rfl)) rfl ?_; intro f h
    refine s_load_at (Has.subL (Has.of_own s 2 rfl) 0 32 (D := idArr (_)) (tgArr_id _)) h row24 rfl (by first | exact idArr_size _ | exact bytesF_size _ _) rfl ?_; intro f h
    refine s_call h s fnc20 (tmatch_any A va x.1 _ ((s.getG 1 rfl) (hT.keep s.ext)) (by omega)) rfl rfl ?_; rintro f w1 v48 ⟨vc, kvc, rfl, hG⟩ hE h sq; replace s := s.add hG; clear hG
    have le2 := mt_le A x.1
    refine s_pure h (ru_move (h.ev rfl)) rfl ?_; intro f h
    refine s_pure h (ru_extract (h.ev rfl) rfl) rfl ?_; intro f h
    refine s_pure h (ru_extract (h.ev rfl) rfl) rfl ?_; intro f h
    refine s_pure h (ru_assign (h.ev rfl)) rfl ?_; intro f h
    refine s_pure h (ru_assign (h.ev rfl)) rfl ?_; intro f h
    refine s_nil ?_
    refine hK8 _ _ ?_
    refine c_seq fun K9 hK9 => ?_
    refine c_region ?_
    refine s_pure h (ru_move (h.ev rfl)) rfl ?_; intro f h
    refine s_pure h (ru_field fld28_0 (h.ev rfl)) rfl ?_; intro f h
    refine s_load_at (Has.subL (Has.of_own s 3 rfl) 0 32 (D := idArr (_)) (tgArr_id _)) h row24 rfl (by first | exact idArr_size _ | exact bytesF_size _ _) rfl ?_; intro f h
    refine s_pure h (ru_field fld28_1 (h.ev rfl)) rfl ?_; intro f h
    refine s_load_at (Has.subL (Has.of_own s 3 rfl) 32 34 (D := eArr (_)) (tgArr_tg _)) h row26 rfl (eArr_size _) rfl ?_; intro f h
    refine s_call h s fnc10 (tdrop_any A va x.1 x.2.1 _ ((s.getG 2 rfl) (hT.keep s.ext)) (by omega)) rfl rfl ?_; rintro f w1 v57 ⟨vd, kvd, rfl, hG⟩ hE h sq; replace s := s.add hG; clear hG
    have le3 := drp_le A x.1 x.2.1
    refine s_pure h (ru_move (h.ev rfl)) rfl ?_; intro f h
    refine s_pure h (ru_extract (h.ev rfl) rfl) rfl ?_; intro f h
    refine s_pure h (ru_extract (h.ev rfl) rfl) rfl ?_; intro f h
    refine s_pure h (ru_assign (h.ev rfl)) rfl ?_; intro f h
    refine s_pure h (ru_assign (h.ev rfl)) rfl ?_; intro f h
    refine s_nil ?_
    refine hK9 _ _ ?_
    refine c_seq fun K10 hK10 => ?_
    refine c_region ?_
    refine s_pure h (ru_move (h.ev rfl)) rfl ?_; intro f h
    refine s_pure h (ru_field fld28_2 (h.ev rfl)) rfl ?_; intro f h
    refine s_load_at1 (cell_of_has (Has.of_own s 4 rfl) 66 (tgArr_until _)) h one3 rfl rfl ?_; intro f h
    refine s_call h s fnc19 (texp_any A va x.2.2 _ ((s.getG 3 rfl) (hT.keep s.ext)) (by omega)) rfl rfl ?_; rintro f w1 v64 ⟨ve, kve, rfl, hG⟩ hE h sq; replace s := s.add hG; clear hG
    have le4 := exp_le A x.2.2
    refine s_pure h (ru_move (h.ev rfl)) rfl ?_; intro f h
    refine s_pure h (ru_extract (h.ev rfl) rfl) rfl ?_; intro f h
    refine s_pure h (ru_extract (h.ev rfl) rfl) rfl ?_; intro f h
    refine s_pure h (ru_assign (h.ev rfl)) rfl ?_; intro f h
    refine s_pure h (ru_assign (h.ev rfl)) rfl ?_; intro f h
    refine s_nil ?_
    refine hK10 _ _ ?_
    refine c_seq fun K11 hK11 => ?_
    refine c_seq fun K12 hK12 => ?_
    refine c_region ?_
    refine s_pure h (ru_move (h.ev rfl)) rfl ?_; intro f h
    refine s_pure h (ru_val (.bool false) (ru_neq (h.ev rfl) (h.ev rfl)) (congrArg Value.bool (by rw [k4]; rfl))) rfl ?_; intro f h
    refine s_pure h (ru_move (h.ev rfl)) rfl ?_; intro f h
    refine s_on h rfl rfl rfl ?_
    refine s_pure h (ru_move (h.ev rfl)) rfl ?_; intro f h
    refine s_on h rfl rfl rfl ?_
    refine s_pure h (ru_val (.bool false) (ru_neq (h.ev rfl) (h.ev rfl)) (congrArg Value.bool (by rw [m1]; rfl))) rfl ?_; intro f h
    refine s_pure h (ru_pick_f (h.ev rfl) (h.ev rfl)) rfl ?_; intro f h
    refine s_pure h (ru_move (h.ev rfl)) rfl ?_; intro f h
    refine s_on h rfl rfl rfl ?_
    refine s_pure h (ru_move (h.ev rfl)) rfl ?_; intro f h
    refine s_on h rfl rfl rfl ?_
    refine s_pure h (ru_val (.bool false) (ru_neq (h.ev rfl) (h.ev rfl)) (congrArg Value.bool (by rw [d1]; rfl))) rfl ?_; intro f h
    refine s_pure h (ru_pick_f (h.ev rfl) (h.ev rfl)) rfl ?_; intro f h
    refine s_pure h (ru_move (h.ev rfl)) rfl ?_; intro f h
    refine s_on h rfl rfl rfl ?_
    refine s_pure h (ru_move (h.ev rfl)) rfl ?_; intro f h
    refine s_on h rfl rfl rfl ?_
    refine s_pure h (ru_val (.bool false) (ru_neq (h.ev rfl) (h.ev rfl)) (congrArg Value.bool (by rw [x1]; rfl))) rfl ?_; intro f h
    refine s_pure h (ru_pick_f (h.ev rfl) (h.ev rfl)) rfl ?_; intro f h
    refine s_pure h (ru_move (h.ev rfl)) rfl ?_; intro f h
    refine s_on h rfl rfl rfl ?_
    refine s_pure h (ru_move (h.ev rfl)) rfl ?_; intro f h
    refine s_on h rfl rfl rfl ?_
    refine s_pure h (ru_move (h.ev rfl)) rfl ?_; intro f h
    refine s_on h rfl rfl rfl ?_
    refine s_call h s fnc16 (ret_val (.bool true) (rsamet_any A (putR A x) va vb _ ((s.getG 4 rfl) (hT.keep s.ext)) ((s.getG 3 rfl) ((s.getG 4 rfl) (hT.keep s.ext))) (by omega) (by rw [k5]; omega)) (congrArg Value.bool (by rw [k5]; simp))) rfl rfl ?_; intro f w1 v9 hT hE h s; obtain rfl := hT
    refine s_on h rfl rfl rfl ?_
    refine s_pure h (ru_val (.bool false) (ru_not (h.ev rfl)) rfl) rfl ?_; intro f h
    refine s_pure h (ru_pick_f (h.ev rfl) (h.ev rfl)) rfl ?_; intro f h
    refine s_pure h (ru_move (h.ev rfl)) rfl ?_; intro f h
    refine s_on h rfl rfl rfl ?_
    refine s_pure h (ru_move (h.ev rfl)) rfl ?_; intro f h
    refine s_on h rfl rfl rfl ?_
    refine s_call h s fnc11 (ret_val (.bool true) (tright_any A va _ ((s.getG 4 rfl) (hT.keep s.ext)) (by omega)) (congrArg Value.bool (by rw [rt_iff.2 hA]))) rfl rfl ?_; intro f w1 v9 hT hE h s; obtain rfl := hT
    refine s_on h rfl rfl rfl ?_
    refine s_pure h (ru_val (.bool false) (ru_not (h.ev rfl)) rfl) rfl ?_; intro f h
    refine s_pure h (ru_pick_f (h.ev rfl) (h.ev rfl)) rfl ?_; intro f h
    refine s_pure h (ru_move (h.ev rfl)) rfl ?_; intro f h
    refine s_on h rfl rfl rfl ?_
    refine s_pure h (ru_move (h.ev rfl)) rfl ?_; intro f h
    refine s_on h rfl rfl rfl ?_
    refine s_call h s fnc11 (ret_val (.bool true) (tright_any (drpL A x.1 x.2.1) vd _ ((s.getG 1 rfl) ((s.getG 4 rfl) (hT.keep s.ext))) (by omega)) (congrArg Value.bool (by rw [d2, d3]))) rfl rfl ?_; intro f w1 v9 hT hE h s; obtain rfl := hT
    refine s_on h rfl rfl rfl ?_
    refine s_pure h (ru_val (.bool false) (ru_not (h.ev rfl)) rfl) rfl ?_; intro f h
    refine s_pure h (ru_pick_f (h.ev rfl) (h.ev rfl)) rfl ?_; intro f h
    refine s_pure h (ru_move (h.ev rfl)) rfl ?_; intro f h
    refine s_on h rfl rfl rfl ?_
    refine s_pure h (ru_move (h.ev rfl)) rfl ?_; intro f h
    refine s_on h rfl rfl rfl ?_
    refine s_call h s fnc11 (ret_val (.bool true) (tright_any (expL A x.2.2) ve _ ((s.getG 0 rfl) ((s.getG 4 rfl) (hT.keep s.ext))) (by omega)) (congrArg Value.bool (by rw [x2, x3]))) rfl rfl ?_; intro f w1 v9 hT hE h s; obtain rfl := hT
    refine s_on h rfl rfl rfl ?_
    refine s_pure h (ru_val (.bool false) (ru_not (h.ev rfl)) rfl) rfl ?_; intro f h
    refine s_pure h (ru_pick_f (h.ev rfl) (h.ev rfl)) rfl ?_; intro f h
    refine s_pure h (ru_move (h.ev rfl)) rfl ?_; intro f h
    refine s_on h rfl rfl rfl ?_
    refine s_call h s fnc13 (ret_val (.bool true) (talive_any _) (congrArg Value.bool (rfl))) rfl rfl ?_; intro f w1 v9 hT hE h s; obtain rfl := hT
    refine s_on h rfl rfl rfl ?_
    refine s_pure h (ru_val (.bool false) (ru_not (h.ev rfl)) rfl) rfl ?_; intro f h
    refine s_pure h (ru_pick_f (h.ev rfl) (h.ev rfl)) rfl ?_; intro f h
    refine s_nil ?_
    refine hK12 _ _ ?_
    refine wpIn_cond_false (h.ev rfl) ?_
    refine wpIn_skip ?_
    refine hK11 _ _ ?_
    refine c_seq fun K13 hK13 => ?_
    refine c_region ?_
    refine s_pure h (ru_assign (h.ev rfl)) rfl ?_; intro f h
    refine s_nil ?_
    refine hK13 _ _ ?_
    refine c_seq fun K14 hK14 => ?_
    refine c_seq fun K15 hK15 => ?_
    refine c_region ?_
    refine s_pure h (ru_move (h.ev rfl)) rfl ?_; intro f h
    refine s_pure h (ru_lenZ (((s.getG 2 rfl) ((s.getG 4 rfl) (hT.keep s.ext)))) Try.underlying22 (h.ev rfl)) rfl ?_; intro f h
    refine s_pure h (ru_move (h.ev rfl)) rfl ?_; intro f h
    refine s_nil ?_
    refine hK15 _ _ ?_
    refine wpIn_block ?_
    refine wpIn_loop_ghost (fun nn aa ww => ∃ k : Nat, Sl 189 aa [(1, .agg (tgArr x)), (3, .pointer (some ⟨b3, 0, none⟩)), (0, (cutV vh (min l.length 34))), (5, va), (9, vc), (11, vd), (13, ve), (15, .bool (fdK (mtL A x.1) x k)), (106, vc), (107, .int .i64 ((mtL A x.1).length : Int)), (108, .int .i64 (k : Int))] ∧ St w [(.grp kve (fun w9 => RdT w9 va A → RdT w9 ve (expL A x.2.2))), (.grp kvd (fun w9 => RdT w9 va A → RdT w9 vd (drpL A x.1 x.2.1))), (.grp kvc (fun w9 => RdT w9 va A → RdT w9 vc (mtL A x.1))), (.grp kvb (fun w9 => RdT w9 va A → RdT w9 vb (putR A x))), (.grp kva (fun w9 => RdT w9 (cutV vh (min l.length 34)) t → RdT w9 va A)), .blk b3 (.cells (tgArr x) 28)] ww ∧ nn = (mtL A x.1).length - k ∧ k ≤ (mtL A x.1).length) ((mtL A x.1).length - (0)) ⟨0, h.only ⟨rfl, rfl, rfl, rfl, rfl, rfl, rfl, rfl, rfl, rfl, slot_int rfl (by omega), trivial⟩, s.as ⟨rfl, rfl, rfl, rfl, rfl, rfl, trivial⟩, rfl, Nat.zero_le _⟩ ?_
    rintro _ f w1 ⟨k, h, s, hnn, hp0⟩
    refine c_seq fun K16 hK16 => ?_
    refine c_region ?_
    refine s_pure h (ru_lss (h.ev rfl) (h.ev rfl)) rfl ?_; intro f h
    refine s_nil ?_
    refine hK16 _ _ ?_
    refine c_seq fun K17 hK17 => ?_
    refine c_cond h rfl (fun hc => ?_) (fun hc => ?_)
    · replace hc := of_decide_eq_true hc
      refine wpIn_skip ?_
      refine hK17 _ _ ?_
      refine c_seq fun K18 hK18 => ?_
      refine wpIn_block ?_
      refine c_seq fun K19 hK19 => ?_
      refine c_region ?_
      have hkm : k < (mtL A x.1).length := by omega
      have hid := m2 _ (tg_mem hkm)
      refine s_pure h (ru_ixz (((s.getG 2 rfl) ((s.getG 4 rfl) (hT.keep s.ext)))) (k) Try.underlying22 szo28 (h.ev rfl) (h.ev rfl) (by omega) (by omega)) rfl ?_; intro f h
      refine s_load_at ((((s.getG 2 rfl) ((s.getG 4 rfl) (hT.keep s.ext)))).el (k) (by omega) (by decide) (D := tgArr ((mtL A x.1).getD k zTg)) (tgr_el _ k hkm)) h row28 rfl (tgArr_size _) rfl ?_; intro f h
      refine s_alloc (tgArr zTg) h s zero28 rfl rfl ?_; intro f w1 b17 h s
      refine s_store_row 0 h s row28 rfl rfl rfl (tgArr_size _) (tgArr_size _) (tgArr_ones _) ?_; intro w1 s
      refine s_nil ?_
      refine hK19 _ _ ?_
      refine c_seq fun K20 hK20 => ?_
      refine c_seq fun K21 hK21 => ?_
      refine c_region ?_
      refine s_pure h (ru_field fld28_0 (h.ev rfl)) rfl ?_; intro f h
      refine s_load_at (Has.subL (Has.of_own s 0 rfl) 0 32 (D := idArr (_)) (tgArr_id _)) h row24 rfl (by first | exact idArr_size _ | exact bytesF_size _ _) rfl ?_; intro f h
      refine s_pure h (ru_field fld28_0 (h.ev rfl)) rfl ?_; intro f h
      refine s_load_at (Has.subL (Has.of_own s 6 rfl) 0 32 (D := idArr (_)) (tgArr_id _)) h row24 rfl (by first | exact idArr_size _ | exact bytesF_size _ _) rfl ?_; intro f h
      refine s_pure h (ru_val (.bool false) (ru_neq_id idTy (h.ev rfl) (h.ev rfl)) (congrArg Value.bool (by rw [hid]; simp))) rfl ?_; intro f h
      refine s_pure h (ru_move (h.ev rfl)) rfl ?_; intro f h
      refine s_on h rfl rfl rfl ?_
      refine s_pure h (ru_field fld28_0 (h.ev rfl)) rfl ?_; intro f h
      refine s_on h rfl rfl rfl ?_
      refine s_load_at (Has.subL (Has.of_own s 0 rfl) 0 32 (D := idArr (_)) (tgArr_id _)) h row24 rfl (by first | exact idArr_size _ | exact bytesF_size _ _) rfl ?_; intro f h
      refine s_on h rfl rfl rfl ?_
      refine s_pure h (ru_field fld28_0 (h.ev rfl)) rfl ?_; intro f h
      refine s_on h rfl rfl rfl ?_
      refine s_load_at (Has.subL (Has.of_own s 6 rfl) 0 32 (D := idArr (_)) (tgArr_id _)) h row24 rfl (by first | exact idArr_size _ | exact bytesF_size _ _) rfl ?_; intro f h
      refine s_on h rfl rfl rfl ?_
      refine s_call h s fnc25 (common_any ((mtL A x.1).getD k zTg).1 x.1 _) rfl rfl ?_; intro f w1 v9 hT hE h s; obtain rfl := hT
      refine s_on h rfl rfl rfl ?_
      refine s_pure h (ru_val (.bool false) (ru_neq (h.ev rfl) (h.ev rfl)) (congrArg Value.bool (by rw [hid, (com_all x.1 x.1).2 rfl]; rfl))) rfl ?_; intro f h
      refine s_pure h (ru_pick_f (h.ev rfl) (h.ev rfl)) rfl ?_; intro f h
      refine s_nil ?_
      refine hK21 _ _ ?_
      refine wpIn_cond_false (h.ev rfl) ?_
      refine wpIn_skip ?_
      refine hK20 _ _ ?_
      cases f0 : (fdK (mtL A x.1) x k : Bool)
      · skip
        cases f1 : (decide (((mtL A x.1).getD k zTg).2.1 = x.2.1) : Bool)
        · skip
          refine c_region ?_
          refine s_pure h (ru_val (.bool false) (ru_move (h.ev rfl)) (congrArg Value.bool f0)) rfl ?_; intro f h
          refine s_pure h (ru_move (h.ev rfl)) rfl ?_; intro f h
          refine s_on h rfl rfl rfl ?_
          refine s_pure h (ru_field fld28_1 (h.ev rfl)) rfl ?_; intro f h
          refine s_on h rfl rfl rfl ?_
          refine s_load_at (Has.subL (Has.of_own s 0 rfl) 32 34 (D := eArr (_)) (tgArr_tg _)) h row26 rfl (eArr_size _) rfl ?_; intro f h
          refine s_on h rfl rfl rfl ?_
          refine s_pure h (ru_field fld28_1 (h.ev rfl)) rfl ?_; intro f h
          refine s_on h rfl rfl rfl ?_
          refine s_load_at (Has.subL (Has.of_own s 6 rfl) 32 34 (D := eArr (_)) (tgArr_tg _)) h row26 rfl (eArr_size _) rfl ?_; intro f h
          refine s_on h rfl rfl rfl ?_
          refine s_pure h (ru_val (.bool false) (ru_eqlW (eqE _ _) (by kernel_rfl) (by decide) (h.ev rfl) (h.ev rfl) (decide (((mtL A x.1).getD k zTg).2.1 = x.2.1)) (eEq _ _)) (congrArg Value.bool f1)) rfl ?_; intro f h
          refine s_on h rfl rfl rfl ?_
          refine s_pure h (ru_move (h.ev rfl)) rfl ?_; intro f h
          refine s_off (b := true) h rfl rfl rfl rfl ?_; intro f h
          refine s_off (b := true) h rfl rfl rfl rfl ?_; intro f h
          refine s_off (b := true) h rfl rfl rfl rfl ?_; intro f h
          refine s_off (b := true) h rfl rfl rfl rfl ?_; intro f h
          refine s_off (b := true) h rfl rfl rfl rfl ?_; intro f h
          refine s_on h rfl rfl rfl ?_
          refine s_pure h (ru_pick_f (h.ev rfl) (h.ev rfl)) rfl ?_; intro f h
          refine s_pure h (ru_pick_f (h.ev rfl) (h.ev rfl)) rfl ?_; intro f h
          refine s_pure h (ru_assign (h.ev rfl)) rfl ?_; intro f h
          refine s_nil ?_
          refine b_norm ?_
          refine hK18 _ _ ?_
          refine c_region ?_
          refine s_pure h (ru_add (h.ev rfl) (h.ev rfl) (by omega)) rfl ?_; intro f h
          refine s_pure h (ru_move (h.ev rfl)) rfl ?_; intro f h
          refine s_nil ?_
          refine t_norm ?_
          exact ⟨_, by omega, ⟨k + 1, h.only ⟨rfl, rfl, rfl, rfl, rfl, rfl, rfl, slot_bool rfl (by rw [fdK_succ hkm, f0, f1]; rfl), rfl, rfl, slot_int rfl (by omega), trivial⟩, St.as (s.pick _ (List.sublist_append_right [_] _)) ⟨rfl, rfl, rfl, rfl, rfl, rfl, trivial⟩, rfl, by omega⟩⟩
        · skip
          refine c_region ?_
          refine s_pure h (ru_val (.bool false) (ru_move (h.ev rfl)) (congrArg Value.bool f0)) rfl ?_; intro f h
          refine s_pure h (ru_move (h.ev rfl)) rfl ?_; intro f h
          refine s_on h rfl rfl rfl ?_
          refine s_pure h (ru_field fld28_1 (h.ev rfl)) rfl ?_; intro f h
          refine s_on h rfl rfl rfl ?_
          refine s_load_at (Has.subL (Has.of_own s 0 rfl) 32 34 (D := eArr (_)) (tgArr_tg _)) h row26 rfl (eArr_size _) rfl ?_; intro f h
          refine s_on h rfl rfl rfl ?_
          refine s_pure h (ru_field fld28_1 (h.ev rfl)) rfl ?_; intro f h
          refine s_on h rfl rfl rfl ?_
          refine s_load_at (Has.subL (Has.of_own s 6 rfl) 32 34 (D := eArr (_)) (tgArr_tg _)) h row26 rfl (eArr_size _) rfl ?_; intro f h
          refine s_on h rfl rfl rfl ?_
          refine s_pure h (ru_val (.bool true) (ru_eqlW (eqE _ _) (by kernel_rfl) (by decide) (h.ev rfl) (h.ev rfl) (decide (((mtL A x.1).getD k zTg).2.1 = x.2.1)) (eEq _ _)) (congrArg Value.bool f1)) rfl ?_; intro f h
          refine s_on h rfl rfl rfl ?_
          refine s_pure h (ru_move (h.ev rfl)) rfl ?_; intro f h
          refine s_on h rfl rfl rfl ?_
          refine s_pure h (ru_field fld28_2 (h.ev rfl)) rfl ?_; intro f h
          refine s_on h rfl rfl rfl ?_
          refine s_load_at1 (cell_of_has (Has.of_own s 0 rfl) 66 (tgArr_until _)) h one3 rfl rfl ?_; intro f h
          refine s_on h rfl rfl rfl ?_
          refine s_pure h (ru_field fld28_2 (h.ev rfl)) rfl ?_; intro f h
          refine s_on h rfl rfl rfl ?_
          refine s_load_at1 (cell_of_has (Has.of_own s 6 rfl) 66 (tgArr_until _)) h one3 rfl rfl ?_; intro f h
          refine s_on h rfl rfl rfl ?_
          refine s_pure h (ru_geq (h.ev rfl) (h.ev rfl)) rfl ?_; intro f h
          refine s_on h rfl rfl rfl ?_
          refine s_pure h (ru_pick_t (h.ev rfl) (h.ev rfl)) rfl ?_; intro f h
          refine s_pure h (ru_pick_f (h.ev rfl) (h.ev rfl)) rfl ?_; intro f h
          refine s_pure h (ru_assign (h.ev rfl)) rfl ?_; intro f h
          refine s_nil ?_
          refine b_norm ?_
          refine hK18 _ _ ?_
          refine c_region ?_
          refine s_pure h (ru_add (h.ev rfl) (h.ev rfl) (by omega)) rfl ?_; intro f h
          refine s_pure h (ru_move (h.ev rfl)) rfl ?_; intro f h
          refine s_nil ?_
          refine t_norm ?_
          exact ⟨_, by omega, ⟨k + 1, h.only ⟨rfl, rfl, rfl, rfl, rfl, rfl, rfl, slot_bool rfl (by rw [fdK_succ hkm, f0, f1]; rfl), rfl, rfl, slot_int rfl (by omega), trivial⟩, St.as (s.pick _ (List.sublist_append_right [_] _)) ⟨rfl, rfl, rfl, rfl, rfl, rfl, trivial⟩, rfl, by omega⟩⟩
      · skip
        refine c_region ?_
        refine s_pure h (ru_val (.bool true) (ru_move (h.ev rfl)) (congrArg Value.bool f0)) rfl ?_; intro f h
        refine s_pure h (ru_move (h.ev rfl)) rfl ?_; intro f h
        refine s_off (b := false) h rfl rfl rfl rfl ?_; intro f h
        refine s_off (b := false) h rfl rfl rfl rfl ?_; intro f h
        refine s_off (b := false) h rfl rfl rfl rfl ?_; intro f h
        refine s_off (b := false) h rfl rfl rfl rfl ?_; intro f h
        refine s_off (b := false) h rfl rfl rfl rfl ?_; intro f h
        refine s_off (b := false) h rfl rfl rfl rfl ?_; intro f h
        refine s_none h rfl rfl rfl rfl ?_; intro f h
        refine s_none h rfl rfl rfl rfl ?_; intro f h
        refine s_none h rfl rfl rfl rfl ?_; intro f h
        refine s_none h rfl rfl rfl rfl ?_; intro f h
        refine s_none h rfl rfl rfl rfl ?_; intro f h
        refine s_off (b := false) h rfl rfl rfl rfl ?_; intro f h
        refine s_pure h (ru_pick_t (h.ev rfl) (h.ev rfl)) rfl ?_; intro f h
        refine s_pure h (ru_assign (h.ev rfl)) rfl ?_; intro f h
        refine s_nil ?_
        refine b_norm ?_
        refine hK18 _ _ ?_
        refine c_region ?_
        refine s_pure h (ru_add (h.ev rfl) (h.ev rfl) (by omega)) rfl ?_; intro f h
        refine s_pure h (ru_move (h.ev rfl)) rfl ?_; intro f h
        refine s_nil ?_
        refine t_norm ?_
        exact ⟨_, by omega, ⟨k + 1, h.only ⟨rfl, rfl, rfl, rfl, rfl, rfl, rfl, slot_bool rfl (by rw [fdK_succ hkm, f0]; rfl), rfl, rfl, slot_int rfl (by omega), trivial⟩, St.as (s.pick _ (List.sublist_append_right [_] _)) ⟨rfl, rfl, rfl, rfl, rfl, rfl, trivial⟩, rfl, by omega⟩⟩
    · replace hc := of_decide_eq_false hc
      refine wpIn_exit ?_
      refine t_exit ?_
      refine t_exit ?_
      refine b_exit ?_
      refine hK14 _ _ ?_
      refine c_seq fun K22 hK22 => ?_
      refine c_seq fun K23 hK23 => ?_
      refine c_region ?_
      obtain rfl : k = (mtL A x.1).length := by omega
      refine s_pure h (ru_move (h.ev rfl)) rfl ?_; intro f h
      refine s_pure h (ru_lenZ (((s.getG 1 rfl) ((s.getG 4 rfl) (hT.keep s.ext)))) Try.underlying22 (h.ev rfl)) rfl ?_; intro f h
      refine s_pure h (ru_move (h.ev rfl)) rfl ?_; intro f h
      refine s_nil ?_
      refine hK23 _ _ ?_
      refine wpIn_block ?_
      refine wpIn_loop_ghost (fun nn aa ww => ∃ k : Nat, Sl 189 aa [(1, .agg (tgArr x)), (3, .pointer (some ⟨b3, 0, none⟩)), (0, (cutV vh (min l.length 34))), (5, va), (11, vd), (13, ve), (15, .bool true), (141, vd), (142, .int .i64 ((drpL A x.1 x.2.1).length : Int)), (143, .int .i64 (k : Int))] ∧ St w [(.grp kve (fun w9 => RdT w9 va A → RdT w9 ve (expL A x.2.2))), (.grp kvd (fun w9 => RdT w9 va A → RdT w9 vd (drpL A x.1 x.2.1))), (.grp kvc (fun w9 => RdT w9 va A → RdT w9 vc (mtL A x.1))), (.grp kvb (fun w9 => RdT w9 va A → RdT w9 vb (putR A x))), (.grp kva (fun w9 => RdT w9 (cutV vh (min l.length 34)) t → RdT w9 va A)), .blk b3 (.cells (tgArr x) 28)] ww ∧ nn = (drpL A x.1 x.2.1).length - k ∧ k ≤ (drpL A x.1 x.2.1).length) ((drpL A x.1 x.2.1).length - (0)) ⟨0, h.only ⟨rfl, rfl, rfl, rfl, rfl, rfl, slot_bool rfl m3, rfl, rfl, slot_int rfl (by omega), trivial⟩, s.as ⟨rfl, rfl, rfl, rfl, rfl, rfl, trivial⟩, rfl, Nat.zero_le _⟩ ?_
      rintro _ f w1 ⟨k, h, s, hnn, hp0⟩
      refine c_seq fun K24 hK24 => ?_
      refine c_region ?_
      refine s_pure h (ru_lss (h.ev rfl) (h.ev rfl)) rfl ?_; intro f h
      refine s_nil ?_
      refine hK24 _ _ ?_
      refine c_seq fun K25 hK25 => ?_
      refine c_cond h rfl (fun hc => ?_) (fun hc => ?_)
      · replace hc := of_decide_eq_true hc
        refine wpIn_skip ?_
        refine hK25 _ _ ?_
        refine c_seq fun K26 hK26 => ?_
        refine wpIn_block ?_
        refine c_seq fun K27 hK27 => ?_
        refine c_region ?_
        have hkm : k < (drpL A x.1 x.2.1).length := by omega
        have hnd := d4 _ (by rw [← d2]; exact tg_mem hkm)
        refine s_pure h (ru_ixz (((s.getG 1 rfl) ((s.getG 4 rfl) (hT.keep s.ext)))) (k) Try.underlying22 szo28 (h.ev rfl) (h.ev rfl) (by omega) (by omega)) rfl ?_; intro f h
        refine s_load_at ((((s.getG 1 rfl) ((s.getG 4 rfl) (hT.keep s.ext)))).el (k) (by omega) (by decide) (D := tgArr ((drpL A x.1 x.2.1).getD k zTg)) (tgr_el _ k hkm)) h row28 rfl (tgArr_size _) rfl ?_; intro f h
        refine s_alloc (tgArr zTg) h s zero28 rfl rfl ?_; intro f w1 b19 h s
        refine s_store_row 0 h s row28 rfl rfl rfl (tgArr_size _) (tgArr_size _) (tgArr_ones _) ?_; intro w1 s
        refine s_nil ?_
        refine hK27 _ _ ?_
        refine c_seq fun K28 hK28 => ?_
        cases c1 : (decide (((drpL A x.1 x.2.1).getD k zTg).1 = x.1) : Bool)
        · skip
          refine c_region ?_
          refine s_pure h (ru_field fld28_0 (h.ev rfl)) rfl ?_; intro f h
          refine s_load_at (Has.subL (Has.of_own s 0 rfl) 0 32 (D := idArr (_)) (tgArr_id _)) h row24 rfl (by first | exact idArr_size _ | exact bytesF_size _ _) rfl ?_; intro f h
          refine s_pure h (ru_field fld28_0 (h.ev rfl)) rfl ?_; intro f h
          refine s_load_at (Has.subL (Has.of_own s 6 rfl) 0 32 (D := idArr (_)) (tgArr_id _)) h row24 rfl (by first | exact idArr_size _ | exact bytesF_size _ _) rfl ?_; intro f h
          refine s_pure h (ru_val (.bool false) (ru_eql_id idTy (h.ev rfl) (h.ev rfl)) (congrArg Value.bool c1)) rfl ?_; intro f h
          refine s_pure h (ru_move (h.ev rfl)) rfl ?_; intro f h
          refine s_off (b := true) h rfl rfl rfl rfl ?_; intro f h
          refine s_off (b := true) h rfl rfl rfl rfl ?_; intro f h
          refine s_off (b := true) h rfl rfl rfl rfl ?_; intro f h
          refine s_off (b := true) h rfl rfl rfl rfl ?_; intro f h
          refine s_off (b := true) h rfl rfl rfl rfl ?_; intro f h
          refine s_pure h (ru_pick_f (h.ev rfl) (h.ev rfl)) rfl ?_; intro f h
          refine s_nil ?_
          refine hK28 _ _ ?_
          refine wpIn_cond_false (h.ev rfl) ?_
          refine wpIn_skip ?_
          refine b_norm ?_
          refine hK26 _ _ ?_
          refine c_region ?_
          refine s_pure h (ru_add (h.ev rfl) (h.ev rfl) (by omega)) rfl ?_; intro f h
          refine s_pure h (ru_move (h.ev rfl)) rfl ?_; intro f h
          refine s_nil ?_
          refine t_norm ?_
          exact ⟨_, by omega, ⟨k + 1, h.only ⟨rfl, rfl, rfl, rfl, rfl, rfl, rfl, rfl, rfl, slot_int rfl (by omega), trivial⟩, St.as (s.pick _ (List.sublist_append_right [_] _)) ⟨rfl, rfl, rfl, rfl, rfl, rfl, trivial⟩, rfl, by omega⟩⟩
        · skip
          refine c_region ?_
          refine s_pure h (ru_field fld28_0 (h.ev rfl)) rfl ?_; intro f h
          refine s_load_at (Has.subL (Has.of_own s 0 rfl) 0 32 (D := idArr (_)) (tgArr_id _)) h row24 rfl (by first | exact idArr_size _ | exact bytesF_size _ _) rfl ?_; intro f h
          refine s_pure h (ru_field fld28_0 (h.ev rfl)) rfl ?_; intro f h
          refine s_load_at (Has.subL (Has.of_own s 6 rfl) 0 32 (D := idArr (_)) (tgArr_id _)) h row24 rfl (by first | exact idArr_size _ | exact bytesF_size _ _) rfl ?_; intro f h
          refine s_pure h (ru_val (.bool true) (ru_eql_id idTy (h.ev rfl) (h.ev rfl)) (congrArg Value.bool c1)) rfl ?_; intro f h
          refine s_pure h (ru_move (h.ev rfl)) rfl ?_; intro f h
          refine s_on h rfl rfl rfl ?_
          refine s_pure h (ru_field fld28_1 (h.ev rfl)) rfl ?_; intro f h
          refine s_on h rfl rfl rfl ?_
          refine s_load_at (Has.subL (Has.of_own s 0 rfl) 32 34 (D := eArr (_)) (tgArr_tg _)) h row26 rfl (eArr_size _) rfl ?_; intro f h
          refine s_on h rfl rfl rfl ?_
          refine s_pure h (ru_field fld28_1 (h.ev rfl)) rfl ?_; intro f h
          refine s_on h rfl rfl rfl ?_
          refine s_load_at (Has.subL (Has.of_own s 6 rfl) 32 34 (D := eArr (_)) (tgArr_tg _)) h row26 rfl (eArr_size _) rfl ?_; intro f h
          refine s_on h rfl rfl rfl ?_
          refine s_pure h (ru_val (.bool false) (ru_eqlW (eqE _ _) (by kernel_rfl) (by decide) (h.ev rfl) (h.ev rfl) (decide (((drpL A x.1 x.2.1).getD k zTg).2.1 = x.2.1)) (eEq _ _)) (congrArg Value.bool (decide_eq_false fun e9 => hnd ⟨of_decide_eq_true c1, e9⟩))) rfl ?_; intro f h
          refine s_pure h (ru_pick_t (h.ev rfl) (h.ev rfl)) rfl ?_; intro f h
          refine s_nil ?_
          refine hK28 _ _ ?_
          refine wpIn_cond_false (h.ev rfl) ?_
          refine wpIn_skip ?_
          refine b_norm ?_
          refine hK26 _ _ ?_
          refine c_region ?_
          refine s_pure h (ru_add (h.ev rfl) (h.ev rfl) (by omega)) rfl ?_; intro f h
          refine s_pure h (ru_move (h.ev rfl)) rfl ?_; intro f h
          refine s_nil ?_
          refine t_norm ?_
          exact ⟨_, by omega, ⟨k + 1, h.only ⟨rfl, rfl, rfl, rfl, rfl, rfl, rfl, rfl, rfl, slot_int rfl (by omega), trivial⟩, St.as (s.pick _ (List.sublist_append_right [_] _)) ⟨rfl, rfl, rfl, rfl, rfl, rfl, trivial⟩, rfl, by omega⟩⟩
      · replace hc := of_decide_eq_false hc
        refine wpIn_exit ?_
        refine t_exit ?_
        refine t_exit ?_
        refine b_exit ?_
        refine hK22 _ _ ?_
        refine c_seq fun K29 hK29 => ?_
        refine c_seq fun K30 hK30 => ?_
        refine c_region ?_
        refine s_pure h (ru_move (h.ev rfl)) rfl ?_; intro f h
        refine s_pure h (ru_lenZ (((s.getG 0 rfl) ((s.getG 4 rfl) (hT.keep s.ext)))) Try.underlying22 (h.ev rfl)) rfl ?_; intro f h
        refine s_pure h (ru_move (h.ev rfl)) rfl ?_; intro f h
        refine s_nil ?_
        refine hK30 _ _ ?_
        refine wpIn_block ?_
        refine wpIn_loop_ghost (fun nn aa ww => ∃ k : Nat, Sl 189 aa [(1, .agg (tgArr x)), (3, .pointer (some ⟨b3, 0, none⟩)), (0, (cutV vh (min l.length 34))), (5, va), (11, vd), (15, .bool true), (160, ve), (161, .int .i64 ((expL A x.2.2).length : Int)), (162, .int .i64 (k : Int))] ∧ St w [(.grp kve (fun w9 => RdT w9 va A → RdT w9 ve (expL A x.2.2))), (.grp kvd (fun w9 => RdT w9 va A → RdT w9 vd (drpL A x.1 x.2.1))), (.grp kvc (fun w9 => RdT w9 va A → RdT w9 vc (mtL A x.1))), (.grp kvb (fun w9 => RdT w9 va A → RdT w9 vb (putR A x))), (.grp kva (fun w9 => RdT w9 (cutV vh (min l.length 34)) t → RdT w9 va A)), .blk b3 (.cells (tgArr x) 28)] ww ∧ nn = (expL A x.2.2).length - k ∧ k ≤ (expL A x.2.2).length) ((expL A x.2.2).length - (0)) ⟨0, h.only ⟨rfl, rfl, rfl, rfl, rfl, rfl, rfl, rfl, slot_int rfl (by omega), trivial⟩, s.as ⟨rfl, rfl, rfl, rfl, rfl, rfl, trivial⟩, rfl, Nat.zero_le _⟩ ?_
        rintro _ f w1 ⟨k, h, s, hnn, hp0⟩
        refine c_seq fun K31 hK31 => ?_
        refine c_region ?_
        refine s_pure h (ru_lss (h.ev rfl) (h.ev rfl)) rfl ?_; intro f h
        refine s_nil ?_
        refine hK31 _ _ ?_
        refine c_seq fun K32 hK32 => ?_
        refine c_cond h rfl (fun hc => ?_) (fun hc => ?_)
        · replace hc := of_decide_eq_true hc
          refine wpIn_skip ?_
          refine hK32 _ _ ?_
          refine c_seq fun K33 hK33 => ?_
          refine wpIn_block ?_
          refine c_seq fun K34 hK34 => ?_
          refine c_region ?_
          have hkm : k < (expL A x.2.2).length := by omega
          have hne := x4 _ (by rw [← x2]; exact tg_mem hkm)
          refine s_pure h (ru_ixz (((s.getG 0 rfl) ((s.getG 4 rfl) (hT.keep s.ext)))) (k) Try.underlying22 szo28 (h.ev rfl) (h.ev rfl) (by omega) (by omega)) rfl ?_; intro f h
          refine s_load_at ((((s.getG 0 rfl) ((s.getG 4 rfl) (hT.keep s.ext)))).el (k) (by omega) (by decide) (D := tgArr ((expL A x.2.2).getD k zTg)) (tgr_el _ k hkm)) h row28 rfl (tgArr_size _) rfl ?_; intro f h
          refine s_alloc (tgArr zTg) h s zero28 rfl rfl ?_; intro f w1 b21 h s
          refine s_store_row 0 h s row28 rfl rfl rfl (tgArr_size _) (tgArr_size _) (tgArr_ones _) ?_; intro w1 s
          refine s_nil ?_
          refine hK34 _ _ ?_
          refine c_seq fun K35 hK35 => ?_
          refine c_region ?_
          refine s_pure h (ru_field fld28_2 (h.ev rfl)) rfl ?_; intro f h
          refine s_load_at1 (cell_of_has (Has.of_own s 0 rfl) 66 (tgArr_until _)) h one3 rfl rfl ?_; intro f h
          refine s_pure h (ru_field fld28_2 (h.ev rfl)) rfl ?_; intro f h
          refine s_load_at1 (cell_of_has (Has.of_own s 6 rfl) 66 (tgArr_until _)) h one3 rfl rfl ?_; intro f h
          refine s_pure h (ru_val (.bool false) (ru_leq (h.ev rfl) (h.ev rfl)) (congrArg Value.bool (decide_eq_false (by omega)))) rfl ?_; intro f h
          refine s_nil ?_
          refine hK35 _ _ ?_
          refine wpIn_cond_false (h.ev rfl) ?_
          refine wpIn_skip ?_
          refine b_norm ?_
          refine hK33 _ _ ?_
          refine c_region ?_
          refine s_pure h (ru_add (h.ev rfl) (h.ev rfl) (by omega)) rfl ?_; intro f h
          refine s_pure h (ru_move (h.ev rfl)) rfl ?_; intro f h
          refine s_nil ?_
          refine t_norm ?_
          exact ⟨_, by omega, ⟨k + 1, h.only ⟨rfl, rfl, rfl, rfl, rfl, rfl, rfl, rfl, slot_int rfl (by omega), trivial⟩, St.as (s.pick _ (List.sublist_append_right [_] _)) ⟨rfl, rfl, rfl, rfl, rfl, rfl, trivial⟩, rfl, by omega⟩⟩
        · replace hc := of_decide_eq_false hc
          refine wpIn_exit ?_
          refine t_exit ?_
          refine t_exit ?_
          refine b_exit ?_
          refine hK29 _ _ ?_
          refine c_seq fun K36 hK36 => ?_
          refine c_region ?_
          refine s_pure h (ru_val (.bool true) (ru_move (h.ev rfl)) (congrArg Value.bool (rfl))) rfl ?_; intro f h
          refine s_pure h (ru_move (h.ev rfl)) rfl ?_; intro f h
          refine s_on h rfl rfl rfl ?_
          refine s_pure h (ru_move (h.ev rfl)) rfl ?_; intro f h
          refine s_on h rfl rfl rfl ?_
          refine s_pure h (ru_lenZ (((s.getG 1 rfl) ((s.getG 4 rfl) (hT.keep s.ext)))) Try.underlying22 (h.ev rfl)) rfl ?_; intro f h
          refine s_on h rfl rfl rfl ?_
          refine s_pure h (ru_move (h.ev rfl)) rfl ?_; intro f h
          refine s_on h rfl rfl rfl ?_
          refine s_pure h (ru_lenZ (((s.getG 4 rfl) (hT.keep s.ext))) Try.underlying22 (h.ev rfl)) rfl ?_; intro f h
          refine s_on h rfl rfl rfl ?_
          refine s_pure h (ru_sub (h.ev rfl) (h.ev rfl) (by omega)) rfl ?_; intro f h
          refine s_on h rfl rfl rfl ?_
          refine s_pure h (ru_val (.bool true) (ru_eql (h.ev rfl) (h.ev rfl)) (congrArg Value.bool (decide_eq_true (by rw [d2]; omega)))) rfl ?_; intro f h
          refine s_pure h (ru_pick_t (h.ev rfl) (h.ev rfl)) rfl ?_; intro f h
          refine s_pure h (ru_move (h.ev rfl)) rfl ?_; intro f h
          refine s_on h rfl rfl rfl ?_
          refine s_pure h (ru_move (h.ev rfl)) rfl ?_; intro f h
          refine s_on h rfl rfl rfl ?_
          refine s_pure h (ru_lenZ (((s.getG 4 rfl) (hT.keep s.ext))) Try.underlying22 (h.ev rfl)) rfl ?_; intro f h
          refine s_on h rfl rfl rfl ?_
          refine s_pure h (ru_move (h.ev rfl)) rfl ?_; intro f h
          refine s_on h rfl rfl rfl ?_
          refine s_pure h (ru_lenZ (hT.keep s.ext) Try.underlying22 (h.ev rfl)) rfl ?_; intro f h
          refine s_on h rfl rfl rfl ?_
          refine s_pure h (ru_add (h.ev rfl) (h.ev rfl) (by omega)) rfl ?_; intro f h
          refine s_on h rfl rfl rfl ?_
          refine s_pure h (ru_val (.bool true) (ru_leq (h.ev rfl) (h.ev rfl)) (congrArg Value.bool (decide_eq_true (by omega)))) rfl ?_; intro f h
          refine s_pure h (ru_pick_t (h.ev rfl) (h.ev rfl)) rfl ?_; intro f h
          refine s_pure h (ru_assign (h.ev rfl)) rfl ?_; intro f h
          refine s_nil ?_
          refine hK36 _ _ ?_
          refine wpIn_ret ?_
          exact e_tmp rfl h s rfl (rfl)
end Go.Proofs.Ytliknbdambmmaaa
