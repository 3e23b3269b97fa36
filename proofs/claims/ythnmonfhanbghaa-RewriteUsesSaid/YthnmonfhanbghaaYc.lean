/- What RewriteUses answers: for all arguments. -/
import Derived.Test.YthnmonfhanbghaaXl
set_option linter.unusedVariables false
set_option linter.unusedSimpArgs false
set_option linter.unusedSectionVars false
namespace Go.Proofs.Ythnmonfhanbghaa
open Go.RowKit
set_option maxHeartbeats 4000000 in
theorem lruses_any (l : List Tg) (vh : Value) (p0 : Pk) (vs : Value) (w : World) (hR : RdZ w vh 67 l.length (tgCells l)) (hP0 : RdZ w vs 34 p0.1.length (eCells p0.1)) : Calls Try.prog 5 [vh, .agg (pkArr vs p0.2.1 p0.2.2)].toArray w (Ret w (is (.bool true))) := by
  have hT := tg_take hR (min l.length 34) (by omega)
  obtain ⟨t, ht⟩ : ∃ x9, x9 = l.take (min l.length 34) := ⟨_, rfl⟩
  rw [← ht] at hT
  have htl : t.length ≤ 34 := by rw [ht, List.length_take]; omega
  have hP : RdE w (cutV vs (min p0.1.length 6)) (cutP p0).1 := cutP_rd hP0
  have hpl := cutP_len p0
  refine c_enter Try.func5 rfl Try.ntmps5 rfl [(0, vh), (1, .agg (pkArr vs p0.2.1 p0.2.2))] (by simp) fun f h => ?_
  have s := St.start w
  refine c_seq fun K1 hK1 => ?_
  refine c_region ?_
  refine s_box (pkArr vs p0.2.1 p0.2.2) h s rfl rfl rfl ?_; intro f w1 b3 h s
  refine s_pure h (ru_assign (h.ev rfl)) rfl ?_; intro f h
  refine s_nil ?_
  refine hK1 _ _ ?_
  refine c_seq fun K2 hK2 => ?_
  refine c_walkN 5 [[], [0], [], [0, 1, 2], [0, 1, 2, 3]] h (by kernel_rfl) (by kernel_rfl) (by kernel_rfl) ?_
  refine w_pure h (ru_move (h.ev rfl)) rfl ?_; intro f h
  refine w_call h fnc7 (fun w9 hE9 => pfew_any vh l w9 (hR.keep (s.ext.trans hE9))) rfl rfl ?_; intro f h
  refine w_load_row 0 h s row25 rfl rfl (pkArr_size _ _ _) rfl ?_; intro f h
  refine w_call h fnc8 (fun w9 hE9 => pcut_any p0 vs w9 (hP0.keep (s.ext.trans hE9))) rfl rfl ?_; intro f h
  refine w_pure h (ru_assign (h.ev rfl)) rfl ?_; intro f h
  refine w_nil s fun w1 s => ?_
  refine s_store_row 0 h s row25 rfl rfl rfl (pkArr_size _ _ _) (pkArr_size _ _ _) (pkArr_ones _ _ (rd_one (hP.keep s.ext))) ?_; intro w1 s
  refine s_nil ?_
  refine hK2 _ _ ?_
  refine c_seq fun K3 hK3 => ?_
  refine c_region ?_
  refine s_pure h (ru_move (h.ev rfl)) rfl ?_; intro f h
  refine s_load_row 0 h s row25 rfl rfl (pkArr_size _ _ _) rfl ?_; intro f h
  refine s_call h s fnc9 (pstep_any t (cutV vh (min l.length 34)) (cutP p0) (cutV vs (min p0.1.length 6)) _ (hT.keep s.ext) (by first | omega | decide) (hP.keep s.ext) (by first | omega | decide)) rfl rfl ?_; rintro f w1 v21 ⟨va, Ka, kva, rfl, hKa, hG⟩ hE h sq; replace s := s.add hG; clear hG
  refine s_pure h (ru_move (h.ev rfl)) rfl ?_; intro f h
  refine s_pure h (ru_extract (h.ev rfl) rfl) rfl ?_; intro f h
  refine s_pure h (ru_extract (h.ev rfl) rfl) rfl ?_; intro f h
  refine s_pure h (ru_assign (h.ev rfl)) rfl ?_; intro f h
  refine s_pure h (ru_assign (h.ev rfl)) rfl ?_; intro f h
  refine s_nil ?_
  refine hK3 _ _ ?_
  refine c_seq fun K4 hK4 => ?_
  refine c_seq fun K5 hK5 => ?_
  cases e0 : (decide (rwE t (cutP p0) = 0) : Bool)
  · skip
    refine c_region ?_
    refine s_pure h (ru_move (h.ev rfl)) rfl ?_; intro f h
    refine s_pure h (ru_val (.bool true) (ru_neq (h.ev rfl) (h.ev rfl)) (congrArg Value.bool (by simpa using e0))) rfl ?_; intro f h
    refine s_pure h (ru_move (h.ev rfl)) rfl ?_; intro f h
    refine s_off (b := false) h rfl rfl rfl rfl ?_; intro f h
    refine s_off (b := false) h rfl rfl rfl rfl ?_; intro f h
    refine s_off (b := false) h rfl rfl rfl rfl ?_; intro f h
    refine s_pure h (ru_pick_t (h.ev rfl) (h.ev rfl)) rfl ?_; intro f h
    refine s_pure h (ru_move (h.ev rfl)) rfl ?_; intro f h
    refine s_off (b := false) h rfl rfl rfl rfl ?_; intro f h
    refine s_off (b := false) h rfl rfl rfl rfl ?_; intro f h
    refine s_off (b := false) h rfl rfl rfl rfl ?_; intro f h
    refine s_off (b := false) h rfl rfl rfl rfl ?_; intro f h
    refine s_off (b := false) h rfl rfl rfl rfl ?_; intro f h
    refine s_off (b := false) h rfl rfl rfl rfl ?_; intro f h
    refine s_pure h (ru_pick_t (h.ev rfl) (h.ev rfl)) rfl ?_; intro f h
    refine s_nil ?_
    refine hK5 _ _ ?_
    refine wpIn_cond_true (h.ev rfl) ?_
    refine c_seq fun K6 hK6 => ?_
    refine c_region ?_
    refine s_call h s fnc14 (ret_val (.bool true) (palive_any _) (congrArg Value.bool (rfl))) rfl rfl ?_; intro f w1 v9 hT hE h s; obtain rfl := hT
    refine s_pure h (ru_assign (h.ev rfl)) rfl ?_; intro f h
    refine s_nil ?_
    refine hK6 _ _ ?_
    refine wpIn_ret ?_
    refine t_ret ?_
    exact e_tmp rfl h s rfl (rfl)
  · skip
    cases h0 : (decide ((cutP p0).2.1 = 0) : Bool)
    · skip
      cases c0 : (decide ((fstE (cutP p0)).1 = 1) : Bool)
      · skip
        refine c_region ?_
        obtain ⟨r0, t0⟩ := rwE_is (of_decide_eq_true e0)
        obtain ⟨b1, b2⟩ := rwE_ok r0 t0
        rw [b2] at hKa
        obtain ⟨hr1, hr2, hr3, hr4⟩ := rightP_iff.1 r0
        have hsl := step_len (t := t) (p := (cutP p0))
        have lKa : Ka.length = (stepO t (cutP p0)).length := by rw [← hKa, outs_len]
        have dKa := outs_deep hKa (n := 1000) (by omega)
        refine s_pure h (ru_move (h.ev rfl)) rfl ?_; intro f h
        refine s_pure h (ru_val (.bool false) (ru_neq (h.ev rfl) (h.ev rfl)) (congrArg Value.bool (by simpa using e0))) rfl ?_; intro f h
        refine s_pure h (ru_move (h.ev rfl)) rfl ?_; intro f h
        refine s_on h rfl rfl rfl ?_
        refine s_pure h (ru_field fld25_1 (h.ev rfl)) rfl ?_; intro f h
        refine s_on h rfl rfl rfl ?_
        refine s_load_at1 (V := .int .i64 (cutP p0).2.1) (cell_of_has (Has.of_own s 1 rfl) 1 (pk_n _ _ _)) h one3 rfl rfl ?_; intro f h
        refine s_on h rfl rfl rfl ?_
        refine s_pure h (ru_val (.bool false) (ru_eql (h.ev rfl) (h.ev rfl)) (congrArg Value.bool h0)) rfl ?_; intro f h
        refine s_pure h (ru_pick_f (h.ev rfl) (h.ev rfl)) rfl ?_; intro f h
        refine s_pure h (ru_move (h.ev rfl)) rfl ?_; intro f h
        refine s_on h rfl rfl rfl ?_
        refine s_pure h (ru_field fld25_0 (h.ev rfl)) rfl ?_; intro f h
        refine s_on h rfl rfl rfl ?_
        refine s_load_at1 (V := (cutV vs (min p0.1.length 6))) (cell_of_has (Has.of_own s 1 rfl) 0 (pk_v _ _ _)) h one23 rfl rfl ?_; intro f h
        refine s_on h rfl rfl rfl ?_
        refine s_pure h (ru_ixz (hP.keep s.ext) (0) Try.underlying23 szo42 (h.ev rfl) (h.ev rfl) (rfl) (by omega)) rfl ?_; intro f h
        refine s_on h rfl rfl rfl ?_
        refine s_pure h (ru_fieldE fld42_0 (h.ev rfl) ((hP.keep s.ext).some (by omega))) rfl ?_; intro f h
        refine s_on h rfl rfl rfl ?_
        refine s_load_at1 (V := .int .i64 (fstE (cutP p0)).1) (rdz_at (hP.keep s.ext) (0 * 34 + 0) (e_kind0 hr1.1)) h one3 rfl rfl ?_; intro f h
        refine s_on h rfl rfl rfl ?_
        refine s_pure h (ru_val (.bool true) (ru_neq (h.ev rfl) (h.ev rfl)) (congrArg Value.bool (by simpa using c0))) rfl ?_; intro f h
        refine s_pure h (ru_pick_f (h.ev rfl) (h.ev rfl)) rfl ?_; intro f h
        refine s_nil ?_
        refine hK5 _ _ ?_
        refine wpIn_cond_true (h.ev rfl) ?_
        refine c_seq fun K7 hK7 => ?_
        refine c_region ?_
        refine s_call h s fnc14 (ret_val (.bool true) (palive_any _) (congrArg Value.bool (rfl))) rfl rfl ?_; intro f w1 v9 hT hE h s; obtain rfl := hT
        refine s_pure h (ru_assign (h.ev rfl)) rfl ?_; intro f h
        refine s_nil ?_
        refine hK7 _ _ ?_
        refine wpIn_ret ?_
        refine t_ret ?_
        exact e_tmp rfl h s rfl (rfl)
      · skip
        refine c_region ?_
        obtain ⟨r0, t0⟩ := rwE_is (of_decide_eq_true e0)
        obtain ⟨b1, b2⟩ := rwE_ok r0 t0
        rw [b2] at hKa
        obtain ⟨hr1, hr2, hr3, hr4⟩ := rightP_iff.1 r0
        have hsl := step_len (t := t) (p := (cutP p0))
        have lKa : Ka.length = (stepO t (cutP p0)).length := by rw [← hKa, outs_len]
        have dKa := outs_deep hKa (n := 1000) (by omega)
        refine s_pure h (ru_move (h.ev rfl)) rfl ?_; intro f h
        refine s_pure h (ru_val (.bool false) (ru_neq (h.ev rfl) (h.ev rfl)) (congrArg Value.bool (by simpa using e0))) rfl ?_; intro f h
        refine s_pure h (ru_move (h.ev rfl)) rfl ?_; intro f h
        refine s_on h rfl rfl rfl ?_
        refine s_pure h (ru_field fld25_1 (h.ev rfl)) rfl ?_; intro f h
        refine s_on h rfl rfl rfl ?_
        refine s_load_at1 (V := .int .i64 (cutP p0).2.1) (cell_of_has (Has.of_own s 1 rfl) 1 (pk_n _ _ _)) h one3 rfl rfl ?_; intro f h
        refine s_on h rfl rfl rfl ?_
        refine s_pure h (ru_val (.bool false) (ru_eql (h.ev rfl) (h.ev rfl)) (congrArg Value.bool h0)) rfl ?_; intro f h
        refine s_pure h (ru_pick_f (h.ev rfl) (h.ev rfl)) rfl ?_; intro f h
        refine s_pure h (ru_move (h.ev rfl)) rfl ?_; intro f h
        refine s_on h rfl rfl rfl ?_
        refine s_pure h (ru_field fld25_0 (h.ev rfl)) rfl ?_; intro f h
        refine s_on h rfl rfl rfl ?_
        refine s_load_at1 (V := (cutV vs (min p0.1.length 6))) (cell_of_has (Has.of_own s 1 rfl) 0 (pk_v _ _ _)) h one23 rfl rfl ?_; intro f h
        refine s_on h rfl rfl rfl ?_
        refine s_pure h (ru_ixz (hP.keep s.ext) (0) Try.underlying23 szo42 (h.ev rfl) (h.ev rfl) (rfl) (by omega)) rfl ?_; intro f h
        refine s_on h rfl rfl rfl ?_
        refine s_pure h (ru_fieldE fld42_0 (h.ev rfl) ((hP.keep s.ext).some (by omega))) rfl ?_; intro f h
        refine s_on h rfl rfl rfl ?_
        refine s_load_at1 (V := .int .i64 (fstE (cutP p0)).1) (rdz_at (hP.keep s.ext) (0 * 34 + 0) (e_kind0 hr1.1)) h one3 rfl rfl ?_; intro f h
        refine s_on h rfl rfl rfl ?_
        refine s_pure h (ru_val (.bool false) (ru_neq (h.ev rfl) (h.ev rfl)) (congrArg Value.bool (by simpa using c0))) rfl ?_; intro f h
        refine s_pure h (ru_pick_f (h.ev rfl) (h.ev rfl)) rfl ?_; intro f h
        refine s_nil ?_
        refine hK5 _ _ ?_
        refine wpIn_cond_false (h.ev rfl) ?_
        refine wpIn_skip ?_
        refine hK4 _ _ ?_
        refine c_seq fun K8 hK8 => ?_
        refine c_region ?_
        have hP1 : RdE w (cutV (cutV vs (min p0.1.length 6)) 1) (oneP (cutP p0)).1 := e_take hP 1 hr1.1
        have hl1 := oneP_len (p := (cutP p0)) hr1.1
        refine s_pure h (ru_move (h.ev rfl)) rfl ?_; intro f h
        refine s_pure h (ru_field fld25_0 (h.ev rfl)) rfl ?_; intro f h
        refine s_load_at1 (V := (cutV vs (min p0.1.length 6))) (cell_of_has (Has.of_own s 1 rfl) 0 (pk_v _ _ _)) h one23 rfl rfl ?_; intro f h
        refine s_pure h (ru_ixz (hP.keep s.ext) (0) Try.underlying23 szo42 (h.ev rfl) (h.ev rfl) (rfl) (by omega)) rfl ?_; intro f h
        refine s_pure h (ru_fieldE fld42_1 (h.ev rfl) ((hP.keep s.ext).some (by omega))) rfl ?_; intro f h
        refine s_load_at (RdZ.elF (hP.keep s.ext) (0) 1 32 (by omega) (by decide) (C := eArr (fstE (cutP p0))) (e_elD (cutP p0).1 0 (by omega)) (D := idArr (fstE (cutP p0)).2.1) (eArr_id _)) h row40 rfl (by first | exact idArr_size _ | exact bytesF_size _ _) rfl ?_; intro f h
        refine s_call h s fnc19 (tmatch_any t (cutV vh (min l.length 34)) (fstE (cutP p0)).2.1 _ (hT.keep s.ext) (by omega)) rfl rfl ?_; rintro f w1 v47 ⟨vm, kvm, rfl, hG⟩ hE h sq; replace s := s.add hG; clear hG
        have le2 := mt_le t (fstE (cutP p0)).2.1
        refine s_pure h (ru_move (h.ev rfl)) rfl ?_; intro f h
        refine s_pure h (ru_extract (h.ev rfl) rfl) rfl ?_; intro f h
        refine s_pure h (ru_extract (h.ev rfl) rfl) rfl ?_; intro f h
        refine s_pure h (ru_assign (h.ev rfl)) rfl ?_; intro f h
        refine s_pure h (ru_assign (h.ev rfl)) rfl ?_; intro f h
        refine s_nil ?_
        refine hK8 _ _ ?_
        refine c_seq fun K9 hK9 => ?_
        refine c_region ?_
        refine s_load_row 2 h s row25 rfl rfl (pkArr_size _ _ _) rfl ?_; intro f h
        refine s_alloc (pkArr nilV 0 ByteArray.empty) h s zero25 rfl rfl ?_; intro f w1 b9 h s
        refine s_store_row 0 h s row25 rfl rfl rfl (pkArr_size _ _ _) (pkArr_size _ _ _) (pkArr_ones _ _ (rd_one (hP.keep s.ext))) ?_; intro w1 s
        refine s_nil ?_
        refine hK9 _ _ ?_
        refine c_seq fun K10 hK10 => ?_
        refine c_region ?_
        refine s_pure h (ru_field fld25_0 (h.ev rfl)) rfl ?_; intro f h
        refine s_load_at1 (V := (cutV vs (min p0.1.length 6))) (cell_of_has (Has.of_own s 3 rfl) 0 (pk_v _ _ _)) h one23 rfl rfl ?_; intro f h
        refine s_pure h (ru_slice_hiZ (hP.keep s.ext) (1) Try.underlying23 szo42 (h.ev rfl) (h.ev rfl) (rfl) (by omega)) rfl ?_; intro f h
        refine s_pure h (ru_field fld25_0 (h.ev rfl)) rfl ?_; intro f h
        refine s_store_one 0 h s one23 rfl rfl rfl (by rw [pkArr_size]; omega) (rd_one (hP1.keep s.ext)) ?_; intro w1 s
        replace s := s.recell (D := pkArr (cutV (cutV vs (min p0.1.length 6)) 1) (cutP p0).2.1 (cutP p0).2.2) 0 rfl (rfl)
        refine s_nil ?_
        refine hK10 _ _ ?_
        refine c_seq fun K11 hK11 => ?_
        refine c_region ?_
        refine s_pure h (ru_move (h.ev rfl)) rfl ?_; intro f h
        refine s_load_row 0 h s row25 rfl rfl (pkArr_size _ _ _) rfl ?_; intro f h
        refine s_call h s fnc9 (pstep_any t (cutV vh (min l.length 34)) (oneP (cutP p0)) (cutV (cutV vs (min p0.1.length 6)) 1) _ (hT.keep s.ext) (by first | omega | decide) (hP1.keep s.ext) (by first | omega | decide)) rfl rfl ?_; rintro f w1 v58 ⟨vb, Kb, kvb, rfl, hKb, hG⟩ hE h sq; replace s := s.add hG; clear hG
        refine s_pure h (ru_move (h.ev rfl)) rfl ?_; intro f h
        refine s_pure h (ru_extract (h.ev rfl) rfl) rfl ?_; intro f h
        refine s_pure h (ru_extract (h.ev rfl) rfl) rfl ?_; intro f h
        refine s_pure h (ru_assign (h.ev rfl)) rfl ?_; intro f h
        refine s_pure h (ru_assign (h.ev rfl)) rfl ?_; intro f h
        refine s_nil ?_
        refine hK11 _ _ ?_
        refine c_seq fun K12 hK12 => ?_
        refine c_seq fun K13 hK13 => ?_
        refine c_region ?_
        obtain ⟨c3, c4⟩ := rwE_ok (t := t) (oneP_right r0) t0
        rw [c4] at hKb
        refine s_pure h (ru_move (h.ev rfl)) rfl ?_; intro f h
        refine s_pure h (ru_val (.bool false) (ru_neq (h.ev rfl) (h.ev rfl)) (congrArg Value.bool (by rw [c3]; rfl))) rfl ?_; intro f h
        refine s_pure h (ru_move (h.ev rfl)) rfl ?_; intro f h
        refine s_on h rfl rfl rfl ?_
        obtain ⟨m1, m2⟩ := tm_y t0 (fstE (cutP p0)).2.1
        have hMl := mtf_le t (fstE (cutP p0)).2.1
        obtain ⟨M, hM⟩ : ∃ x9, x9 = mtF t (fstE (cutP p0)).2.1 := ⟨_, rfl⟩
        rw [m2] at s
        rw [← hM] at s m1 hMl
        refine s_call h s fnc14 (ret_val (.bool true) (palive_any _) (congrArg Value.bool (rfl))) rfl rfl ?_; intro f w1 v9 hT hE h s; obtain rfl := hT
        refine s_on h rfl rfl rfl ?_
        refine s_pure h (ru_val (.bool false) (ru_not (h.ev rfl)) rfl) rfl ?_; intro f h
        refine s_pure h (ru_pick_f (h.ev rfl) (h.ev rfl)) rfl ?_; intro f h
        refine s_nil ?_
        refine hK13 _ _ ?_
        refine wpIn_cond_false (h.ev rfl) ?_
        refine wpIn_skip ?_
        refine hK12 _ _ ?_
        refine c_seq fun K14 hK14 => ?_
        refine c_seq fun K15 hK15 => ?_
        cases z0 : (decide (M.length = 0) : Bool)
        · skip
          refine c_region ?_
          refine s_pure h (ru_move (h.ev rfl)) rfl ?_; intro f h
          refine s_pure h (ru_val (.bool false) (ru_neq (h.ev rfl) (h.ev rfl)) (congrArg Value.bool (by rw [m1, z0]; rfl))) rfl ?_; intro f h
          refine s_nil ?_
          refine hK15 _ _ ?_
          refine wpIn_cond_false (h.ev rfl) ?_
          refine wpIn_skip ?_
          refine hK14 _ _ ?_
          refine c_seq fun K16 hK16 => ?_
          refine c_seq fun K17 hK17 => ?_
          refine c_region ?_
          rw [uses_map (t := t) (of_decide_eq_true c0) (of_decide_eq_false h0) (by rw [← hM]; exact of_decide_eq_false z0), ← hM] at hKa
          rw [uses_map (t := t) (p := (oneP (cutP p0))) (by rw [oneP_fst hr1.1]; exact of_decide_eq_true c0) (of_decide_eq_false h0) (by rw [oneP_fst hr1.1, ← hM]; exact of_decide_eq_false z0), oneP_fst hr1.1, ← hM] at hKb
          have kl1 : Ka.length = M.length := by rw [← outs_len, hKa, List.length_map]
          have kl2 : Kb.length = M.length := by rw [← outs_len, hKb, List.length_map]
          refine s_pure h (ru_move (h.ev rfl)) rfl ?_; intro f h
          refine s_pure h (ru_lenZ ((((s.getG 3 rfl) (hP.keep s.ext))).1) Try.underlying28 (h.ev rfl)) rfl ?_; intro f h
          refine s_pure h (ru_move (h.ev rfl)) rfl ?_; intro f h
          refine s_pure h (ru_lenZ (((s.getG 2 rfl) (hT.keep s.ext))) Try.underlying22 (h.ev rfl)) rfl ?_; intro f h
          refine s_pure h (ru_val (.bool false) (ru_neq (h.ev rfl) (h.ev rfl)) (congrArg Value.bool (by rw [kl1]; simp))) rfl ?_; intro f h
          refine s_pure h (ru_move (h.ev rfl)) rfl ?_; intro f h
          refine s_on h rfl rfl rfl ?_
          refine s_pure h (ru_move (h.ev rfl)) rfl ?_; intro f h
          refine s_on h rfl rfl rfl ?_
          refine s_pure h (ru_lenZ ((((s.getG 0 rfl) (hP1.keep s.ext))).1) Try.underlying28 (h.ev rfl)) rfl ?_; intro f h
          refine s_on h rfl rfl rfl ?_
          refine s_pure h (ru_move (h.ev rfl)) rfl ?_; intro f h
          refine s_on h rfl rfl rfl ?_
          refine s_pure h (ru_lenZ (((s.getG 2 rfl) (hT.keep s.ext))) Try.underlying22 (h.ev rfl)) rfl ?_; intro f h
          refine s_on h rfl rfl rfl ?_
          refine s_pure h (ru_val (.bool false) (ru_neq (h.ev rfl) (h.ev rfl)) (congrArg Value.bool (by rw [kl2]; simp))) rfl ?_; intro f h
          refine s_pure h (ru_pick_f (h.ev rfl) (h.ev rfl)) rfl ?_; intro f h
          refine s_nil ?_
          refine hK17 _ _ ?_
          refine wpIn_cond_false (h.ev rfl) ?_
          refine wpIn_skip ?_
          refine hK16 _ _ ?_
          refine c_seq fun K18 hK18 => ?_
          refine c_seq fun K19 hK19 => ?_
          refine c_region ?_
          refine s_pure h (ru_move (h.ev rfl)) rfl ?_; intro f h
          refine s_pure h (ru_lenZ (((s.getG 2 rfl) (hT.keep s.ext))) Try.underlying22 (h.ev rfl)) rfl ?_; intro f h
          refine s_pure h (ru_move (h.ev rfl)) rfl ?_; intro f h
          refine s_nil ?_
          refine hK19 _ _ ?_
          refine wpIn_block ?_
          refine wpIn_loop_ghost (fun nn aa ww => ∃ k : Nat, Sl 158 aa [(1, .agg (pkArr vs p0.2.1 p0.2.2)), (3, .pointer (some ⟨b3, 0, none⟩)), (9, .pointer (some ⟨b9, 0, none⟩)), (0, (cutV vh (min l.length 34))), (5, va), (7, vm), (10, vb), (111, vm), (112, .int .i64 (M.length : Int)), (113, .int .i64 (k : Int))] ∧ St w [(.grp kvb (fun w9 => RdE w9 (cutV (cutV vs (min p0.1.length 6)) 1) (oneP (cutP p0)).1 → RdU w9 vb Kb)), .blk b9 (.cells (pkArr (cutV (cutV vs (min p0.1.length 6)) 1) (oneP (cutP p0)).2.1 (oneP (cutP p0)).2.2) 25), (.grp kvm (fun w9 => RdT w9 (cutV vh (min l.length 34)) t → RdT w9 vm M)), (.grp kva (fun w9 => RdE w9 (cutV vs (min p0.1.length 6)) (cutP p0).1 → RdU w9 va Ka)), .blk b3 (.cells (pkArr (cutV vs (min p0.1.length 6)) (cutP p0).2.1 (cutP p0).2.2) 25)] ww ∧ nn = M.length - k ∧ k ≤ M.length) (M.length - (0)) ⟨0, h.only ⟨rfl, rfl, rfl, rfl, rfl, rfl, rfl, rfl, rfl, slot_int rfl (by omega), trivial⟩, s.as ⟨rfl, rfl, rfl, rfl, rfl, trivial⟩, rfl, Nat.zero_le _⟩ ?_
          rintro _ f w1 ⟨k, h, s, hnn, hp0⟩
          refine c_seq fun K20 hK20 => ?_
          refine c_region ?_
          refine s_pure h (ru_lss (h.ev rfl) (h.ev rfl)) rfl ?_; intro f h
          refine s_nil ?_
          refine hK20 _ _ ?_
          refine c_seq fun K21 hK21 => ?_
          refine c_cond h rfl (fun hc => ?_) (fun hc => ?_)
          · replace hc := of_decide_eq_true hc
            refine wpIn_skip ?_
            refine hK21 _ _ ?_
            refine c_seq fun K22 hK22 => ?_
            refine wpIn_block ?_
            refine c_seq fun K23 hK23 => ?_
            refine c_region ?_
            have hkm : k < M.length := by omega
            have hka : k < Ka.length := by omega
            have hkb : k < Kb.length := by omega
            have hxa := outs_via hKa hkm
            have hxb := outs_via hKb hkm
            have hxl : 1 ≤ (Ka.getD k zO2).1.p.1.length := by rw [hxa]; show 1 ≤ ([_] ++ _).length; rw [List.length_append]; exact Nat.le_add_right _ _
            refine s_pure h (ru_move (h.ev rfl)) rfl ?_; intro f h
            refine s_pure h (ru_ixz (((s.getG 2 rfl) (hT.keep s.ext))) (k) Try.underlying22 szo44 (h.ev rfl) (h.ev rfl) (by omega) (by omega)) rfl ?_; intro f h
            refine s_load_at ((((s.getG 2 rfl) (hT.keep s.ext))).el (k) (by omega) (by decide) (D := tgArr (M.getD k zTg)) (tgr_el M k hkm)) h row44 rfl (tgArr_size _) rfl ?_; intro f h
            refine s_alloc (tgArr zTg) h s zero44 rfl rfl ?_; intro f w1 b13 h s
            refine s_pure h (ru_assign (h.ev rfl)) rfl ?_; intro f h
            refine s_store_row 0 h s row44 rfl rfl rfl (tgArr_size _) (tgArr_size _) (tgArr_ones _) ?_; intro w1 s
            refine s_nil ?_
            refine hK23 _ _ ?_
            refine c_seq fun K24 hK24 => ?_
            refine c_walkN 39 [[], [], [0, 1], [0, 1, 2], [0, 1, 2, 3], [], [0, 1, 2, 3, 4, 5], [0, 1, 2, 3, 4, 5, 6], [0, 1, 2, 3, 4, 5, 6, 7], [0, 1, 2, 3, 4, 5, 6, 7], [0, 1, 2, 3, 4, 5, 6, 7, 8, 9], [0, 1, 2, 3, 4, 5, 6, 7, 8, 9, 10], [0, 1, 2, 3, 4, 5, 6, 7, 8, 9, 10, 11], [0, 1, 2, 3, 4, 5, 6, 7], [0, 1, 2, 3, 4, 5, 6, 7, 8, 9, 10, 11, 12, 13], [0, 1, 2, 3, 4, 5, 6, 7, 8, 9, 10, 11, 12, 13, 14], [0, 1, 2, 3, 4, 5, 6, 7, 8, 9, 10, 11, 12, 13, 14, 15], [0, 1, 2, 3, 4, 5, 6, 7, 8, 9, 10, 11, 12, 13, 14, 15, 16], [0, 1, 2, 3, 4, 5, 6, 7, 8, 9, 10, 11, 12, 13, 14, 15, 16], [0, 1, 2, 3, 4, 5, 6, 7, 8, 9, 10, 11, 12, 13, 14, 15, 16, 17, 18], [0, 1, 2, 3, 4, 5, 6, 7, 8, 9, 10, 11, 12, 13, 14, 15, 16, 17, 18, 19], [0, 1, 2, 3, 4, 5, 6, 7, 8, 9, 10, 11, 12, 13, 14, 15, 16, 17, 18, 19, 20], [0, 1, 2, 3, 4, 5, 6, 7, 8, 9, 10, 11, 12, 13, 14, 15, 16, 17, 18, 19, 20, 21], [0, 1, 2, 3, 4, 5, 6, 7, 8, 9, 10, 11, 12, 13, 14, 15, 16, 17, 18, 19, 20, 21, 22], [0, 1, 2, 3, 4, 5, 6, 7, 8, 9, 10, 11, 12, 13, 14, 15, 16, 17, 18, 19, 20, 21, 22, 23], [0, 1, 2, 3, 4, 5, 6, 7, 8, 9, 10, 11, 12, 13, 14, 15, 16, 17, 18, 19, 20, 21, 22, 23, 24], [0, 1, 2, 3, 4, 5, 6, 7, 8, 9, 10, 11, 12, 13, 14, 15, 16, 17, 18, 19, 20, 21, 22, 23, 24, 25], [0, 1, 2, 3, 4, 5, 6, 7, 8, 9, 10, 11, 12, 13, 14, 15, 16, 17, 18, 19, 20, 21, 22, 23, 24, 25, 26], [0, 1, 2, 3, 4, 5, 6, 7, 8, 9, 10, 11, 12, 13, 14, 15, 16, 17, 18, 19, 20, 21, 22, 23, 24, 25, 26], [0, 1, 2, 3, 4, 5, 6, 7, 8, 9, 10, 11, 12, 13, 14, 15, 16, 17, 18, 19, 20, 21, 22, 23, 24, 25, 26, 27, 28], [0, 1, 2, 3, 4, 5, 6, 7, 8, 9, 10, 11, 12, 13, 14, 15, 16, 17, 18, 19, 20, 21, 22, 23, 24, 25, 26, 27, 28, 29], [0, 1, 2, 3, 4, 5, 6, 7, 8, 9, 10, 11, 12, 13, 14, 15, 16, 17, 18, 19, 20, 21, 22, 23, 24, 25, 26, 27, 28, 29, 30], [0, 1, 2, 3, 4, 5, 6, 7, 8, 9, 10, 11, 12, 13, 14, 15, 16, 17, 18, 19, 20, 21, 22, 23, 24, 25, 26, 27, 28, 29, 30, 31], [0, 1, 2, 3, 4, 5, 6, 7, 8, 9, 10, 11, 12, 13, 14, 15, 16, 17, 18, 19, 20, 21, 22, 23, 24, 25, 26, 27, 28, 29, 30, 31, 32], [0, 1, 2, 3, 4, 5, 6, 7, 8, 9, 10, 11, 12, 13, 14, 15, 16, 17, 18, 19, 20, 21, 22, 23, 24, 25, 26, 27, 28, 29, 30, 31, 32, 33], [0, 1, 2, 3, 4, 5, 6, 7, 8, 9, 10, 11, 12, 13, 14, 15, 16, 17, 18, 19, 20, 21, 22, 23, 24, 25, 26], [0, 1, 2, 3, 4, 5, 6, 7, 8, 9, 10, 11, 12, 13, 14, 15, 16, 17, 18, 19, 20, 21, 22, 23, 24, 25, 26, 35], [0, 1, 2, 3, 4, 5, 6, 7, 8, 9, 10, 11, 12, 13, 14, 15, 16, 17, 18, 19, 20, 21, 22, 23, 24, 25, 26, 27, 28, 29, 30, 31, 32, 33, 34, 35, 36], [0, 1, 2, 3, 4, 5, 6, 7, 8, 9, 10, 11, 12, 13, 14, 15, 16, 17, 18, 19, 20, 21, 22, 23, 24, 25, 26, 27, 28, 29, 30, 31, 32, 33, 34, 35, 36, 37]] h (by kernel_rfl) (by kernel_rfl) (by kernel_rfl) ?_
            refine w_pure h (ru_move (h.ev rfl)) rfl ?_; intro f h
            refine w_pure h (ru_move (h.ev rfl)) rfl ?_; intro f h
            refine w_pure h (ru_ixz ((((s.getG 4 rfl) (hP.keep s.ext))).1) (k) Try.underlying28 szo46 (h.ev rfl) (h.ev rfl) (by omega) (by omega)) rfl ?_; intro f h
            refine w_pure h (ru_fieldE fld46_3 (h.ev rfl) (((((s.getG 4 rfl) (hP.keep s.ext))).1).some (by omega))) rfl ?_; intro f h
            refine w_load_at (RdZ.elF ((((s.getG 4 rfl) (hP.keep s.ext))).1) (k) 5 67 (by omega) (by decide) (C := otArr (Ka.getD k zO2).1.k (Ka.getD k zO2).1.h (Ka.getD k zO2).2 (Ka.getD k zO2).1.p.2.1 (Ka.getD k zO2).1.p.2.2 (Ka.getD k zO2).1.t (Ka.getD k zO2).1.y) (ou_el Ka k hka) (D := tgArr (Ka.getD k zO2).1.t) (ot_t _ _ _ _ _ _ _)) h row44 rfl (tgArr_size _) rfl ?_; intro f h
            refine w_load_row 0 h s row44 rfl rfl (tgArr_size _) rfl ?_; intro f h
            refine w_pure h (ru_val (.bool false) (ru_neqW (eqG _ _) (by kernel_rfl) (by decide) (h.ev rfl) (h.ev rfl) (decide ((Ka.getD k zO2).1.t = (M.getD k zTg))) (tgEq _ _)) (congrArg Value.bool (by rw [hxa, decide_eq_true (show (viaO (cutP p0) (M.getD k zTg)).t = (M.getD k zTg) from rfl)]; rfl))) rfl ?_; intro f h
            refine w_pure h (ru_move (h.ev rfl)) rfl ?_; intro f h
            refine w_on h rfl rfl rfl ?_
            refine w_pure h (ru_move (h.ev rfl)) rfl ?_; intro f h
            refine w_on h rfl rfl rfl ?_
            refine w_pure h (ru_move (h.ev rfl)) rfl ?_; intro f h
            refine w_on h rfl rfl rfl ?_
            refine w_pure h (ru_ixz ((((s.getG 1 rfl) (hP1.keep s.ext))).1) (k) Try.underlying28 szo46 (h.ev rfl) (h.ev rfl) (by omega) (by omega)) rfl ?_; intro f h
            refine w_on h rfl rfl rfl ?_
            refine w_pure h (ru_fieldE fld46_3 (h.ev rfl) (((((s.getG 1 rfl) (hP1.keep s.ext))).1).some (by omega))) rfl ?_; intro f h
            refine w_on h rfl rfl rfl ?_
            refine w_load_at (RdZ.elF ((((s.getG 1 rfl) (hP1.keep s.ext))).1) (k) 5 67 (by omega) (by decide) (C := otArr (Kb.getD k zO2).1.k (Kb.getD k zO2).1.h (Kb.getD k zO2).2 (Kb.getD k zO2).1.p.2.1 (Kb.getD k zO2).1.p.2.2 (Kb.getD k zO2).1.t (Kb.getD k zO2).1.y) (ou_el Kb k hkb) (D := tgArr (Kb.getD k zO2).1.t) (ot_t _ _ _ _ _ _ _)) h row44 rfl (tgArr_size _) rfl ?_; intro f h
            refine w_on h rfl rfl rfl ?_
            refine w_load_row 0 h s row44 rfl rfl (tgArr_size _) rfl ?_; intro f h
            refine w_on h rfl rfl rfl ?_
            refine w_pure h (ru_val (.bool false) (ru_neqW (eqG _ _) (by kernel_rfl) (by decide) (h.ev rfl) (h.ev rfl) (decide ((Kb.getD k zO2).1.t = (M.getD k zTg))) (tgEq _ _)) (congrArg Value.bool (by rw [hxb, decide_eq_true (show (viaO (oneP (cutP p0)) (M.getD k zTg)).t = (M.getD k zTg) from rfl)]; rfl))) rfl ?_; intro f h
            refine w_pure h (ru_pick_f (h.ev rfl) (h.ev rfl)) rfl ?_; intro f h
            refine w_pure h (ru_move (h.ev rfl)) rfl ?_; intro f h
            refine w_on h rfl rfl rfl ?_
            refine w_pure h (ru_move (h.ev rfl)) rfl ?_; intro f h
            refine w_on h rfl rfl rfl ?_
            refine w_pure h (ru_move (h.ev rfl)) rfl ?_; intro f h
            refine w_on h rfl rfl rfl ?_
            refine w_pure h (ru_ixz ((((s.getG 4 rfl) (hP.keep s.ext))).1) (k) Try.underlying28 szo46 (h.ev rfl) (h.ev rfl) (by omega) (by omega)) rfl ?_; intro f h
            refine w_on h rfl rfl rfl ?_
            refine w_pure h (ru_fieldE fld46_2 (h.ev rfl) (((((s.getG 4 rfl) (hP.keep s.ext))).1).some (by omega))) rfl ?_; intro f h
            refine w_on h rfl rfl rfl ?_
            refine w_pure h (ru_fieldE fld25_0 (h.ev rfl) (((((s.getG 4 rfl) (hP.keep s.ext))).1).some (by omega))) rfl ?_; intro f h
            refine w_on h rfl rfl rfl ?_
            refine w_load_at1 (V := (Ka.getD k zO2).2) (rdz_at ((((s.getG 4 rfl) (hP.keep s.ext))).1) (k * 73 + 2) (ou_v hka)) h one23 rfl rfl ?_; intro f h
            refine w_on h rfl rfl rfl ?_
            refine w_pure h (ru_lenZ ((((s.getG 4 rfl) (hP.keep s.ext))).2 _ (ou_mem hka)) Try.underlying23 (h.ev rfl)) rfl ?_; intro f h
            refine w_on h rfl rfl rfl ?_
            refine w_pure h (ru_val (.bool false) (ru_eql (h.ev rfl) (h.ev rfl)) (congrArg Value.bool (decide_eq_false (by omega)))) rfl ?_; intro f h
            refine w_pure h (ru_pick_f (h.ev rfl) (h.ev rfl)) rfl ?_; intro f h
            refine w_pure h (ru_move (h.ev rfl)) rfl ?_; intro f h
            refine w_on h rfl rfl rfl ?_
            refine w_pure h (ru_move (h.ev rfl)) rfl ?_; intro f h
            refine w_on h rfl rfl rfl ?_
            refine w_pure h (ru_move (h.ev rfl)) rfl ?_; intro f h
            refine w_on h rfl rfl rfl ?_
            refine w_pure h (ru_ixz ((((s.getG 4 rfl) (hP.keep s.ext))).1) (k) Try.underlying28 szo46 (h.ev rfl) (h.ev rfl) (by omega) (by omega)) rfl ?_; intro f h
            refine w_on h rfl rfl rfl ?_
            refine w_pure h (ru_fieldE fld46_2 (h.ev rfl) (((((s.getG 4 rfl) (hP.keep s.ext))).1).some (by omega))) rfl ?_; intro f h
            refine w_on h rfl rfl rfl ?_
            refine w_pure h (ru_fieldE fld25_0 (h.ev rfl) (((((s.getG 4 rfl) (hP.keep s.ext))).1).some (by omega))) rfl ?_; intro f h
            refine w_on h rfl rfl rfl ?_
            refine w_load_at1 (V := (Ka.getD k zO2).2) (rdz_at ((((s.getG 4 rfl) (hP.keep s.ext))).1) (k * 73 + 2) (ou_v hka)) h one23 rfl rfl ?_; intro f h
            refine w_on h rfl rfl rfl ?_
            refine w_pure h (ru_ixz ((((s.getG 4 rfl) (hP.keep s.ext))).2 _ (ou_mem hka)) (0) Try.underlying23 szo42 (h.ev rfl) (h.ev rfl) (rfl) (by omega)) rfl ?_; intro f h
            refine w_on h rfl rfl rfl ?_
            refine w_load_at (((((s.getG 4 rfl) (hP.keep s.ext))).2 _ (ou_mem hka)).el (0) (by omega) (by decide) (D := eArr ((Ka.getD k zO2).1.p.1.getD 0 zEn)) (e_elD _ 0 (by omega))) h row42 rfl (eArr_size _) rfl ?_; intro f h
            refine w_on h rfl rfl rfl ?_
            refine w_pure h (ru_field fld44_1 (h.ev rfl)) rfl ?_; intro f h
            refine w_on h rfl rfl rfl ?_
            refine w_load_at (Has.subL (Has.of_own s 0 rfl) 32 34 (D := eArr (_)) (tgArr_tg _)) h row42 rfl (eArr_size _) rfl ?_; intro f h
            refine w_on h rfl rfl rfl ?_
            refine w_pure h (ru_val (.bool false) (ru_neqW (eqE _ _) (by kernel_rfl) (by decide) (h.ev rfl) (h.ev rfl) (decide ((Ka.getD k zO2).1.p.1.getD 0 zEn = (M.getD k zTg).2.1)) (eEq _ _)) (congrArg Value.bool (by rw [hxa, decide_eq_true (show (viaO (cutP p0) (M.getD k zTg)).p.1.getD 0 zEn = (M.getD k zTg).2.1 from rfl)]; rfl))) rfl ?_; intro f h
            refine w_pure h (ru_pick_f (h.ev rfl) (h.ev rfl)) rfl ?_; intro f h
            refine w_nil s fun w1 s => ?_
            refine s_nil ?_
            refine hK24 _ _ ?_
            refine wpIn_cond_false (h.ev rfl) ?_
            refine wpIn_skip ?_
            refine b_norm ?_
            refine hK22 _ _ ?_
            refine c_region ?_
            refine s_pure h (ru_add (h.ev rfl) (h.ev rfl) (by omega)) rfl ?_; intro f h
            refine s_pure h (ru_move (h.ev rfl)) rfl ?_; intro f h
            refine s_nil ?_
            refine t_norm ?_
            exact ⟨_, by omega, ⟨k + 1, h.only ⟨rfl, rfl, rfl, rfl, rfl, rfl, rfl, rfl, rfl, slot_int rfl (by omega), trivial⟩, St.as (s.pick _ (List.sublist_append_right [_] _)) ⟨rfl, rfl, rfl, rfl, rfl, trivial⟩, rfl, by omega⟩⟩
          · replace hc := of_decide_eq_false hc
            refine wpIn_exit ?_
            refine t_exit ?_
            refine t_exit ?_
            refine b_exit ?_
            refine hK18 _ _ ?_
            refine c_seq fun K25 hK25 => ?_
            refine c_region ?_
            refine s_pure h (ru_assign (h.ev rfl)) rfl ?_; intro f h
            refine s_nil ?_
            refine hK25 _ _ ?_
            refine wpIn_ret ?_
            exact e_tmp rfl h s rfl (rfl)
        · skip
          refine c_region ?_
          refine s_pure h (ru_move (h.ev rfl)) rfl ?_; intro f h
          refine s_pure h (ru_val (.bool true) (ru_neq (h.ev rfl) (h.ev rfl)) (congrArg Value.bool (by rw [m1, z0]; rfl))) rfl ?_; intro f h
          refine s_nil ?_
          refine hK15 _ _ ?_
          refine wpIn_cond_true (h.ev rfl) ?_
          refine c_seq fun K26 hK26 => ?_
          refine c_region ?_
          obtain ⟨x9, u1, u2⟩ := uses_none (t := t) (of_decide_eq_true c0) (of_decide_eq_false h0) (by rw [← hM]; exact of_decide_eq_true z0)
          rw [u1] at hKa
          rw [uses_one hr1.1 (of_decide_eq_true c0) (of_decide_eq_false h0) (by rw [← hM]; exact of_decide_eq_true z0)] at hKb
          obtain ⟨ua, hA9⟩ := outs_one hKa
          obtain ⟨ub, hB9⟩ := outs_one hKb
          have kl1 : Ka.length = 1 := by rw [hA9]; rfl
          have kl2 : Kb.length = 1 := by rw [hB9]; rfl
          refine s_pure h (ru_move (h.ev rfl)) rfl ?_; intro f h
          refine s_pure h (ru_lenZ ((((s.getG 3 rfl) (hP.keep s.ext))).1) Try.underlying28 (h.ev rfl)) rfl ?_; intro f h
          refine s_pure h (ru_val (.bool true) (ru_eql (h.ev rfl) (h.ev rfl)) (congrArg Value.bool (by rw [kl1]; rfl))) rfl ?_; intro f h
          refine s_pure h (ru_move (h.ev rfl)) rfl ?_; intro f h
          refine s_on h rfl rfl rfl ?_
          refine s_pure h (ru_move (h.ev rfl)) rfl ?_; intro f h
          refine s_on h rfl rfl rfl ?_
          refine s_pure h (ru_ixz ((((s.getG 3 rfl) (hP.keep s.ext))).1) (0) Try.underlying28 szo46 (h.ev rfl) (h.ev rfl) (rfl) (by omega)) rfl ?_; intro f h
          refine s_on h rfl rfl rfl ?_
          refine s_pure h (ru_fieldE fld46_3 (h.ev rfl) (((((s.getG 3 rfl) (hP.keep s.ext))).1).some (by omega))) rfl ?_; intro f h
          refine s_on h rfl rfl rfl ?_
          refine s_load_at (RdZ.elF ((((s.getG 3 rfl) (hP.keep s.ext))).1) (0) 5 67 (by omega) (by decide) (C := otArr (Ka.getD 0 zO2).1.k (Ka.getD 0 zO2).1.h (Ka.getD 0 zO2).2 (Ka.getD 0 zO2).1.p.2.1 (Ka.getD 0 zO2).1.p.2.2 (Ka.getD 0 zO2).1.t (Ka.getD 0 zO2).1.y) (ou_el Ka 0 (by omega)) (D := tgArr (Ka.getD 0 zO2).1.t) (ot_t _ _ _ _ _ _ _)) h row44 rfl (tgArr_size _) rfl ?_; intro f h
          refine s_on h rfl rfl rfl ?_
          refine s_pure h (ru_build_tg0 sttG) rfl ?_; intro f h
          refine s_on h rfl rfl rfl ?_
          refine s_pure h (ru_val (.bool true) (ru_eqlW (eqG _ _) (by kernel_rfl) (by decide) (h.ev rfl) (h.ev rfl) (decide ((Ka.getD 0 zO2).1.t = zTg)) (tgEq _ _)) (congrArg Value.bool (by rw [hA9]; exact decide_eq_true u2))) rfl ?_; intro f h
          refine s_pure h (ru_pick_t (h.ev rfl) (h.ev rfl)) rfl ?_; intro f h
          refine s_pure h (ru_move (h.ev rfl)) rfl ?_; intro f h
          refine s_on h rfl rfl rfl ?_
          refine s_pure h (ru_move (h.ev rfl)) rfl ?_; intro f h
          refine s_on h rfl rfl rfl ?_
          refine s_pure h (ru_lenZ ((((s.getG 0 rfl) (hP1.keep s.ext))).1) Try.underlying28 (h.ev rfl)) rfl ?_; intro f h
          refine s_on h rfl rfl rfl ?_
          refine s_pure h (ru_val (.bool true) (ru_eql (h.ev rfl) (h.ev rfl)) (congrArg Value.bool (by rw [kl2]; rfl))) rfl ?_; intro f h
          refine s_pure h (ru_pick_t (h.ev rfl) (h.ev rfl)) rfl ?_; intro f h
          refine s_pure h (ru_move (h.ev rfl)) rfl ?_; intro f h
          refine s_on h rfl rfl rfl ?_
          refine s_pure h (ru_move (h.ev rfl)) rfl ?_; intro f h
          refine s_on h rfl rfl rfl ?_
          refine s_pure h (ru_ixz ((((s.getG 0 rfl) (hP1.keep s.ext))).1) (0) Try.underlying28 szo46 (h.ev rfl) (h.ev rfl) (rfl) (by omega)) rfl ?_; intro f h
          refine s_on h rfl rfl rfl ?_
          refine s_pure h (ru_fieldE fld46_0 (h.ev rfl) (((((s.getG 0 rfl) (hP1.keep s.ext))).1).some (by omega))) rfl ?_; intro f h
          refine s_on h rfl rfl rfl ?_
          refine s_load_at1 (V := .int .i64 3) (rdz_at ((((s.getG 0 rfl) (hP1.keep s.ext))).1) (0 * 73 + 0) ((ou_kk (by omega)).trans (by rw [hB9]; rfl))) h one3 rfl rfl ?_; intro f h
          refine s_on h rfl rfl rfl ?_
          refine s_pure h (ru_val (.bool true) (ru_eql (h.ev rfl) (h.ev rfl)) (congrArg Value.bool (rfl))) rfl ?_; intro f h
          refine s_pure h (ru_pick_t (h.ev rfl) (h.ev rfl)) rfl ?_; intro f h
          refine s_pure h (ru_move (h.ev rfl)) rfl ?_; intro f h
          refine s_on h rfl rfl rfl ?_
          refine s_pure h (ru_move (h.ev rfl)) rfl ?_; intro f h
          refine s_on h rfl rfl rfl ?_
          refine s_pure h (ru_ixz ((((s.getG 0 rfl) (hP1.keep s.ext))).1) (0) Try.underlying28 szo46 (h.ev rfl) (h.ev rfl) (rfl) (by omega)) rfl ?_; intro f h
          refine s_on h rfl rfl rfl ?_
          refine s_pure h (ru_fieldE fld46_4 (h.ev rfl) (((((s.getG 0 rfl) (hP1.keep s.ext))).1).some (by omega))) rfl ?_; intro f h
          refine s_on h rfl rfl rfl ?_
          refine s_load_at1 (V := .int .i64 6) (rdz_at ((((s.getG 0 rfl) (hP1.keep s.ext))).1) (0 * 73 + 72) ((ou_y (by omega)).trans (by rw [hB9]; rfl))) h one29 rfl rfl ?_; intro f h
          refine s_on h rfl rfl rfl ?_
          refine s_pure h (ru_val (.bool true) (ru_eql (h.ev rfl) (h.ev rfl)) (congrArg Value.bool (rfl))) rfl ?_; intro f h
          refine s_pure h (ru_pick_t (h.ev rfl) (h.ev rfl)) rfl ?_; intro f h
          refine s_pure h (ru_assign (h.ev rfl)) rfl ?_; intro f h
          refine s_nil ?_
          refine hK26 _ _ ?_
          refine wpIn_ret ?_
          refine t_ret ?_
          exact e_tmp rfl h s rfl (rfl)
    · skip
      refine c_region ?_
      obtain ⟨r0, t0⟩ := rwE_is (of_decide_eq_true e0)
      obtain ⟨b1, b2⟩ := rwE_ok r0 t0
      rw [b2] at hKa
      obtain ⟨hr1, hr2, hr3, hr4⟩ := rightP_iff.1 r0
      have hsl := step_len (t := t) (p := (cutP p0))
      have lKa : Ka.length = (stepO t (cutP p0)).length := by rw [← hKa, outs_len]
      have dKa := outs_deep hKa (n := 1000) (by omega)
      refine s_pure h (ru_move (h.ev rfl)) rfl ?_; intro f h
      refine s_pure h (ru_val (.bool false) (ru_neq (h.ev rfl) (h.ev rfl)) (congrArg Value.bool (by simpa using e0))) rfl ?_; intro f h
      refine s_pure h (ru_move (h.ev rfl)) rfl ?_; intro f h
      refine s_on h rfl rfl rfl ?_
      refine s_pure h (ru_field fld25_1 (h.ev rfl)) rfl ?_; intro f h
      refine s_on h rfl rfl rfl ?_
      refine s_load_at1 (V := .int .i64 (cutP p0).2.1) (cell_of_has (Has.of_own s 1 rfl) 1 (pk_n _ _ _)) h one3 rfl rfl ?_; intro f h
      refine s_on h rfl rfl rfl ?_
      refine s_pure h (ru_val (.bool true) (ru_eql (h.ev rfl) (h.ev rfl)) (congrArg Value.bool h0)) rfl ?_; intro f h
      refine s_pure h (ru_pick_f (h.ev rfl) (h.ev rfl)) rfl ?_; intro f h
      refine s_pure h (ru_move (h.ev rfl)) rfl ?_; intro f h
      refine s_off (b := false) h rfl rfl rfl rfl ?_; intro f h
      refine s_off (b := false) h rfl rfl rfl rfl ?_; intro f h
      refine s_off (b := false) h rfl rfl rfl rfl ?_; intro f h
      refine s_off (b := false) h rfl rfl rfl rfl ?_; intro f h
      refine s_off (b := false) h rfl rfl rfl rfl ?_; intro f h
      refine s_off (b := false) h rfl rfl rfl rfl ?_; intro f h
      refine s_pure h (ru_pick_t (h.ev rfl) (h.ev rfl)) rfl ?_; intro f h
      refine s_nil ?_
      refine hK5 _ _ ?_
      refine wpIn_cond_true (h.ev rfl) ?_
      refine c_seq fun K27 hK27 => ?_
      refine c_region ?_
      refine s_call h s fnc14 (ret_val (.bool true) (palive_any _) (congrArg Value.bool (rfl))) rfl rfl ?_; intro f w1 v9 hT hE h s; obtain rfl := hT
      refine s_pure h (ru_assign (h.ev rfl)) rfl ?_; intro f h
      refine s_nil ?_
      refine hK27 _ _ ?_
      refine wpIn_ret ?_
      refine t_ret ?_
      exact e_tmp rfl h s rfl (rfl)
end Go.Proofs.Ythnmonfhanbghaa
