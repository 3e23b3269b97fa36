/- What RewriteKeeps answers: for all arguments. -/
import Derived.Test.YthnmonfhanbghaaXl
set_option linter.unusedVariables false
set_option linter.unusedSimpArgs false
set_option linter.unusedSectionVars false
namespace Go.Proofs.Ythnmonfhanbghaa
open Go.RowKit
set_option maxHeartbeats 4000000 in
theorem lrkeeps_any (l : List Tg) (vh : Value) (p0 : Pk) (vs : Value) (w : World) (hR : RdZ w vh 67 l.length (tgCells l)) (hP0 : RdZ w vs 34 p0.1.length (eCells p0.1)) : Calls Try.prog 4 [vh, .agg (pkArr vs p0.2.1 p0.2.2)].toArray w (Ret w (is (.bool true))) := by
  have hT := tg_take hR (min l.length 34) (by omega)
  obtain ⟨t, ht⟩ : ∃ x9, x9 = l.take (min l.length 34) := ⟨_, rfl⟩
  rw [← ht] at hT
  have htl : t.length ≤ 34 := by rw [ht, List.length_take]; omega
  have hP : RdE w (cutV vs (min p0.1.length 6)) (cutP p0).1 := cutP_rd hP0
  have hpl := cutP_len p0
  refine c_enter Try.func4 rfl Try.ntmps4 rfl [(0, vh), (1, .agg (pkArr vs p0.2.1 p0.2.2))] (by simp) fun f h => ?_
  have s := St.start w
  refine c_seq fun K1 hK1 => ?_
  refine c_region ?_
  refine s_box (pkArr vs p0.2.1 p0.2.2) h s rfl rfl rfl ?_; intro f w1 b3 h s
  refine s_pure h (ru_assign (h.ev rfl)) rfl ?_; intro f h
  refine s_nil ?_
  refine hK1 _ _ ?_
  refine c_seq fun K2 hK2 => ?_
  refine c_walkN 5 [[], [0], [], [0, 1, 2], [0, 1, 2, 3]] h (by kernel_rfl) (by kernel_rfl) (by kernel_rfl) ?_
  refine w_pure h (ru_move (h.ev rfl)) rfl ?_; intro f h
  refine w_call h fnc7 (fun w9 hE9 => pfew_any vh l w9 (hR.keep (s.ext.trans hE9))) rfl rfl ?_; intro f h
  refine w_load_row 0 h s row25 rfl rfl (pkArr_size _ _ _) rfl ?_; intro f h
  refine w_call h fnc8 (fun w9 hE9 => pcut_any p0 vs w9 (hP0.keep (s.ext.trans hE9))) rfl rfl ?_; intro f h
  refine w_pure h (ru_assign (h.ev rfl)) rfl ?_; intro f h
  refine w_nil s fun w1 s => ?_
  refine s_store_row 0 h s row25 rfl rfl rfl (pkArr_size _ _ _) (pkArr_size _ _ _) (pkArr_ones _ _ (rd_one (hP.keep s.ext))) ?_; intro w1 s
  refine s_nil ?_
  refine hK2 _ _ ?_
  refine c_seq fun K3 hK3 => ?_
  refine c_region ?_
  refine s_pure h (ru_move (h.ev rfl)) rfl ?_; intro f h
  refine s_load_row 0 h s row25 rfl rfl (pkArr_size _ _ _) rfl ?_; intro f h
  refine s_call h s fnc9 (pstep_any t (cutV vh (min l.length 34)) (cutP p0) (cutV vs (min p0.1.length 6)) _ (hT.keep s.ext) (by first | omega | decide) (hP.keep s.ext) (by first | omega | decide)) rfl rfl ?_; rintro f w1 v18 ⟨va, Ka, kva, rfl, hKa, hG⟩ hE h sq; replace s := s.add hG; clear hG
  refine s_pure h (ru_move (h.ev rfl)) rfl ?_; intro f h
  refine s_pure h (ru_extract (h.ev rfl) rfl) rfl ?_; intro f h
  refine s_pure h (ru_extract (h.ev rfl) rfl) rfl ?_; intro f h
  refine s_pure h (ru_assign (h.ev rfl)) rfl ?_; intro f h
  refine s_pure h (ru_assign (h.ev rfl)) rfl ?_; intro f h
  refine s_nil ?_
  refine hK3 _ _ ?_
  refine c_seq fun K4 hK4 => ?_
  refine c_seq fun K5 hK5 => ?_
  cases e0 : (decide (rwE t (cutP p0) = 0) : Bool)
  · skip
    refine c_region ?_
    refine s_pure h (ru_move (h.ev rfl)) rfl ?_; intro f h
    refine s_pure h (ru_val (.bool true) (ru_neq (h.ev rfl) (h.ev rfl)) (congrArg Value.bool (by simpa using e0))) rfl ?_; intro f h
    refine s_nil ?_
    refine hK5 _ _ ?_
    refine wpIn_cond_true (h.ev rfl) ?_
    refine c_seq fun K6 hK6 => ?_
    cases r0 : (rightP (cutP p0) : Bool)
    · skip
      refine c_region ?_
      obtain ⟨b1, b2⟩ := rwE_bad (of_decide_eq_false e0)
      have lKa : Ka.length = 0 := by rw [← outs_len, hKa, b1]; rfl
      refine s_call h s fnc14 (ret_val (.bool true) (palive_any _) (congrArg Value.bool (rfl))) rfl rfl ?_; intro f w1 v9 hT hE h s; obtain rfl := hT
      refine s_pure h (ru_move (h.ev rfl)) rfl ?_; intro f h
      refine s_on h rfl rfl rfl ?_
      refine s_pure h (ru_move (h.ev rfl)) rfl ?_; intro f h
      refine s_on h rfl rfl rfl ?_
      refine s_pure h (ru_lenZ ((((s.getG 0 rfl) (hP.keep s.ext))).1) Try.underlying28 (h.ev rfl)) rfl ?_; intro f h
      refine s_on h rfl rfl rfl ?_
      refine s_pure h (ru_val (.bool true) (ru_eql (h.ev rfl) (h.ev rfl)) (congrArg Value.bool (by rw [lKa]; rfl))) rfl ?_; intro f h
      refine s_pure h (ru_pick_t (h.ev rfl) (h.ev rfl)) rfl ?_; intro f h
      refine s_pure h (ru_move (h.ev rfl)) rfl ?_; intro f h
      refine s_on h rfl rfl rfl ?_
      refine s_load_row 1 h s row25 rfl rfl (pkArr_size _ _ _) rfl ?_; intro f h
      refine s_on h rfl rfl rfl ?_
      refine s_call h s fnc10 (ret_val (.bool false) (pright_any (cutP p0) (cutV vs (min p0.1.length 6)) _ (hP.keep s.ext) (by omega)) (congrArg Value.bool r0)) rfl rfl ?_; intro f w1 v9 hT hE h s; obtain rfl := hT
      refine s_on h rfl rfl rfl ?_
      refine s_pure h (ru_val (.bool true) (ru_not (h.ev rfl)) rfl) rfl ?_; intro f h
      refine s_on h rfl rfl rfl ?_
      refine s_pure h (ru_move (h.ev rfl)) rfl ?_; intro f h
      refine s_off (b := false) h rfl rfl rfl rfl ?_; intro f h
      refine s_off (b := false) h rfl rfl rfl rfl ?_; intro f h
      refine s_off (b := false) h rfl rfl rfl rfl ?_; intro f h
      refine s_on h rfl rfl rfl ?_
      refine s_pure h (ru_pick_t (h.ev rfl) (h.ev rfl)) rfl ?_; intro f h
      refine s_pure h (ru_pick_t (h.ev rfl) (h.ev rfl)) rfl ?_; intro f h
      refine s_pure h (ru_assign (h.ev rfl)) rfl ?_; intro f h
      refine s_nil ?_
      refine hK6 _ _ ?_
      refine wpIn_ret ?_
      refine t_ret ?_
      exact e_tmp rfl h s rfl (rfl)
    · skip
      refine c_region ?_
      obtain ⟨b1, b2⟩ := rwE_bad (of_decide_eq_false e0)
      have lKa : Ka.length = 0 := by rw [← outs_len, hKa, b1]; rfl
      refine s_call h s fnc14 (ret_val (.bool true) (palive_any _) (congrArg Value.bool (rfl))) rfl rfl ?_; intro f w1 v9 hT hE h s; obtain rfl := hT
      refine s_pure h (ru_move (h.ev rfl)) rfl ?_; intro f h
      refine s_on h rfl rfl rfl ?_
      refine s_pure h (ru_move (h.ev rfl)) rfl ?_; intro f h
      refine s_on h rfl rfl rfl ?_
      refine s_pure h (ru_lenZ ((((s.getG 0 rfl) (hP.keep s.ext))).1) Try.underlying28 (h.ev rfl)) rfl ?_; intro f h
      refine s_on h rfl rfl rfl ?_
      refine s_pure h (ru_val (.bool true) (ru_eql (h.ev rfl) (h.ev rfl)) (congrArg Value.bool (by rw [lKa]; rfl))) rfl ?_; intro f h
      refine s_pure h (ru_pick_t (h.ev rfl) (h.ev rfl)) rfl ?_; intro f h
      refine s_pure h (ru_move (h.ev rfl)) rfl ?_; intro f h
      refine s_on h rfl rfl rfl ?_
      refine s_load_row 1 h s row25 rfl rfl (pkArr_size _ _ _) rfl ?_; intro f h
      refine s_on h rfl rfl rfl ?_
      refine s_call h s fnc10 (ret_val (.bool true) (pright_any (cutP p0) (cutV vs (min p0.1.length 6)) _ (hP.keep s.ext) (by omega)) (congrArg Value.bool r0)) rfl rfl ?_; intro f w1 v9 hT hE h s; obtain rfl := hT
      refine s_on h rfl rfl rfl ?_
      refine s_pure h (ru_val (.bool false) (ru_not (h.ev rfl)) rfl) rfl ?_; intro f h
      refine s_on h rfl rfl rfl ?_
      refine s_pure h (ru_move (h.ev rfl)) rfl ?_; intro f h
      refine s_on h rfl rfl rfl ?_
      refine s_pure h (ru_move (h.ev rfl)) rfl ?_; intro f h
      refine s_on h rfl rfl rfl ?_
      refine s_call h s fnc18 (ret_val (.bool false) (tright_any t (cutV vh (min l.length 34)) _ (hT.keep s.ext) (by omega)) (congrArg Value.bool (by rw [b2 r0]))) rfl rfl ?_; intro f w1 v9 hT hE h s; obtain rfl := hT
      refine s_on h rfl rfl rfl ?_
      refine s_pure h (ru_val (.bool true) (ru_not (h.ev rfl)) rfl) rfl ?_; intro f h
      refine s_on h rfl rfl rfl ?_
      refine s_pure h (ru_pick_f (h.ev rfl) (h.ev rfl)) rfl ?_; intro f h
      refine s_pure h (ru_pick_t (h.ev rfl) (h.ev rfl)) rfl ?_; intro f h
      refine s_pure h (ru_assign (h.ev rfl)) rfl ?_; intro f h
      refine s_nil ?_
      refine hK6 _ _ ?_
      refine wpIn_ret ?_
      refine t_ret ?_
      exact e_tmp rfl h s rfl (rfl)
  · skip
    refine c_region ?_
    refine s_pure h (ru_move (h.ev rfl)) rfl ?_; intro f h
    refine s_pure h (ru_val (.bool false) (ru_neq (h.ev rfl) (h.ev rfl)) (congrArg Value.bool (by simpa using e0))) rfl ?_; intro f h
    refine s_nil ?_
    refine hK5 _ _ ?_
    refine wpIn_cond_false (h.ev rfl) ?_
    refine wpIn_skip ?_
    refine hK4 _ _ ?_
    refine c_seq fun K7 hK7 => ?_
    refine c_seq fun K8 hK8 => ?_
    refine c_region ?_
    obtain ⟨r0, t0⟩ := rwE_is (of_decide_eq_true e0)
    obtain ⟨b1, b2⟩ := rwE_ok r0 t0
    rw [b2] at hKa
    obtain ⟨hr1, hr2, hr3, hr4⟩ := rightP_iff.1 r0
    have hsl := step_len (t := t) (p := (cutP p0))
    have lKa : Ka.length = (stepO t (cutP p0)).length := by rw [← hKa, outs_len]
    have dKa := outs_deep hKa (n := 1000) (by omega)
    refine s_pure h (ru_move (h.ev rfl)) rfl ?_; intro f h
    refine s_pure h (ru_lenZ ((((s.getG 0 rfl) (hP.keep s.ext))).1) Try.underlying28 (h.ev rfl)) rfl ?_; intro f h
    refine s_pure h (ru_move (h.ev rfl)) rfl ?_; intro f h
    refine s_nil ?_
    refine hK8 _ _ ?_
    refine wpIn_block ?_
    refine wpIn_loop_ghost (fun nn aa ww => ∃ k : Nat, Sl 132 aa [(1, .agg (pkArr vs p0.2.1 p0.2.2)), (3, .pointer (some ⟨b3, 0, none⟩)), (0, (cutV vh (min l.length 34))), (5, va), (39, va), (40, .int .i64 (Ka.length : Int)), (41, .int .i64 (k : Int))] ∧ St w [(.grp kva (fun w9 => RdE w9 (cutV vs (min p0.1.length 6)) (cutP p0).1 → RdU w9 va Ka)), .blk b3 (.cells (pkArr (cutV vs (min p0.1.length 6)) (cutP p0).2.1 (cutP p0).2.2) 25)] ww ∧ nn = Ka.length - k ∧ k ≤ Ka.length) (Ka.length - (0)) ⟨0, h.only ⟨rfl, rfl, rfl, rfl, rfl, rfl, slot_int rfl (by omega), trivial⟩, s.as ⟨rfl, rfl, trivial⟩, rfl, Nat.zero_le _⟩ ?_
    rintro _ f w1 ⟨k, h, s, hnn, hp0⟩
    refine c_seq fun K9 hK9 => ?_
    refine c_region ?_
    refine s_pure h (ru_lss (h.ev rfl) (h.ev rfl)) rfl ?_; intro f h
    refine s_nil ?_
    refine hK9 _ _ ?_
    refine c_seq fun K10 hK10 => ?_
    refine c_cond h rfl (fun hc => ?_) (fun hc => ?_)
    · replace hc := of_decide_eq_true hc
      refine wpIn_skip ?_
      refine hK10 _ _ ?_
      refine c_seq fun K11 hK11 => ?_
      refine wpIn_block ?_
      refine c_seq fun K12 hK12 => ?_
      refine c_region ?_
      have hkl : k < Ka.length := by omega
      have hxm := outs_mem hKa hkl
      refine s_pure h (ru_ixz ((((s.getG 0 rfl) (hP.keep s.ext))).1) (k) Try.underlying28 szo46 (h.ev rfl) (h.ev rfl) (by omega) (by omega)) rfl ?_; intro f h
      refine s_load_at (((((s.getG 0 rfl) (hP.keep s.ext))).1).el (k) (by omega) (by decide) (D := otArr (Ka.getD k zO2).1.k (Ka.getD k zO2).1.h (Ka.getD k zO2).2 (Ka.getD k zO2).1.p.2.1 (Ka.getD k zO2).1.p.2.2 (Ka.getD k zO2).1.t (Ka.getD k zO2).1.y) (ou_el Ka k hkl)) h row46 rfl (otArr_size _ _ _ _ _ _ _) rfl ?_; intro f h
      refine s_alloc (otArr 0 0 nilV 0 ByteArray.empty zTg 0) h s zero46 rfl rfl ?_; intro f w1 b8 h s
      refine s_store_row 0 h s row46 rfl rfl rfl (otArr_size _ _ _ _ _ _ _) (otArr_size _ _ _ _ _ _ _) (otArr_ones _ _ _ _ _ _ (rd_one ((((s.getG 1 rfl) (hP.keep s.ext))).2 _ (ou_mem hkl)))) ?_; intro w1 s
      refine s_nil ?_
      refine hK12 _ _ ?_
      refine c_seq fun K13 hK13 => ?_
      refine c_seq fun K14 hK14 => ?_
      cases g0 : (decide ((Ka.getD k zO2).1.k = 2) : Bool)
      · skip
        refine c_region ?_
        refine s_pure h (ru_field fld46_0 (h.ev rfl)) rfl ?_; intro f h
        refine s_load_at1 (V := .int .i64 (Ka.getD k zO2).1.k) (cell_of_has (Has.of_own s 0 rfl) 0 (ot_k _ _ _ _ _ _ _)) h one3 rfl rfl ?_; intro f h
        refine s_pure h (ru_val (.bool true) (ru_neq (h.ev rfl) (h.ev rfl)) (congrArg Value.bool (by simpa using g0))) rfl ?_; intro f h
        refine s_nil ?_
        refine hK14 _ _ ?_
        refine wpIn_cond_true (h.ev rfl) ?_
        refine c_seq fun K15 hK15 => ?_
        refine c_seq fun K16 hK16 => ?_
        refine c_region ?_
        have h1l := step_not hxm (of_decide_eq_false g0)
        refine s_pure h (ru_move (h.ev rfl)) rfl ?_; intro f h
        refine s_pure h (ru_lenZ ((((s.getG 1 rfl) (hP.keep s.ext))).1) Try.underlying28 (h.ev rfl)) rfl ?_; intro f h
        refine s_pure h (ru_val (.bool false) (ru_neq (h.ev rfl) (h.ev rfl)) (congrArg Value.bool (by rw [lKa, h1l]; rfl))) rfl ?_; intro f h
        refine s_nil ?_
        refine hK16 _ _ ?_
        refine wpIn_cond_false (h.ev rfl) ?_
        refine wpIn_skip ?_
        refine hK15 _ _ ?_
        refine wpIn_exit ?_
        refine t_exit ?_
        refine b_exit ?_
        refine hK11 _ _ ?_
        refine c_region ?_
        refine s_pure h (ru_add (h.ev rfl) (h.ev rfl) (by omega)) rfl ?_; intro f h
        refine s_pure h (ru_move (h.ev rfl)) rfl ?_; intro f h
        refine s_nil ?_
        refine t_norm ?_
        exact ⟨_, by omega, ⟨k + 1, h.only ⟨rfl, rfl, rfl, rfl, rfl, rfl, slot_int rfl (by omega), trivial⟩, St.as (s.pick _ (List.sublist_append_right [_] _)) ⟨rfl, rfl, trivial⟩, rfl, by omega⟩⟩
      · skip
        refine c_region ?_
        refine s_pure h (ru_field fld46_0 (h.ev rfl)) rfl ?_; intro f h
        refine s_load_at1 (V := .int .i64 (Ka.getD k zO2).1.k) (cell_of_has (Has.of_own s 0 rfl) 0 (ot_k _ _ _ _ _ _ _)) h one3 rfl rfl ?_; intro f h
        refine s_pure h (ru_val (.bool false) (ru_neq (h.ev rfl) (h.ev rfl)) (congrArg Value.bool (by simpa using g0))) rfl ?_; intro f h
        refine s_nil ?_
        refine hK14 _ _ ?_
        refine wpIn_cond_false (h.ev rfl) ?_
        refine wpIn_skip ?_
        refine hK13 _ _ ?_
        refine c_seq fun K17 hK17 => ?_
        refine c_region ?_
        obtain ⟨o1, o2, o3, o4, o5, o6⟩ := step_on r0 t0 hxm (of_decide_eq_true g0)
        have hdp := (rightP_iff.1 o1).1
        refine s_pure h (ru_field fld46_2 (h.ev rfl)) rfl ?_; intro f h
        refine s_pure h (ru_field fld25_0 (h.ev rfl)) rfl ?_; intro f h
        refine s_load_at1 (V := (Ka.getD k zO2).2) (cell_of_has (Has.of_own s 0 rfl) 2 (ot_v _ _ _ _ _ _ _)) h one23 rfl rfl ?_; intro f h
        refine s_pure h (ru_lenZ ((((s.getG 1 rfl) (hP.keep s.ext))).2 _ (ou_mem hkl)) Try.underlying23 (h.ev rfl)) rfl ?_; intro f h
        refine s_pure h (ru_assign (h.ev rfl)) rfl ?_; intro f h
        refine s_nil ?_
        refine hK17 _ _ ?_
        refine c_seq fun K18 hK18 => ?_
        refine c_seq fun K19 hK19 => ?_
        refine c_region ?_
        refine s_pure h (ru_field fld46_2 (h.ev rfl)) rfl ?_; intro f h
        refine s_load_at (Has.subL (Has.of_own s 0 rfl) 2 3 (D := pkArr (Ka.getD k zO2).2 (Ka.getD k zO2).1.p.2.1 (Ka.getD k zO2).1.p.2.2) (ot_p _ _ _ _ _ _ _)) h row25 rfl (pkArr_size _ _ _) rfl ?_; intro f h
        refine s_call h s fnc10 (ret_val (.bool true) (pright_any (Ka.getD k zO2).1.p (Ka.getD k zO2).2 _ ((((s.getG 1 rfl) (hP.keep s.ext))).2 _ (ou_mem hkl)) (by omega)) (congrArg Value.bool (by rw [o1]))) rfl rfl ?_; intro f w1 v9 hT hE h s; obtain rfl := hT
        refine s_pure h (ru_val (.bool false) (ru_not (h.ev rfl)) rfl) rfl ?_; intro f h
        refine s_pure h (ru_move (h.ev rfl)) rfl ?_; intro f h
        refine s_on h rfl rfl rfl ?_
        refine s_pure h (ru_field fld46_2 (h.ev rfl)) rfl ?_; intro f h
        refine s_on h rfl rfl rfl ?_
        refine s_pure h (ru_field fld25_2 (h.ev rfl)) rfl ?_; intro f h
        refine s_on h rfl rfl rfl ?_
        refine s_load_at1 (V := .string (Ka.getD k zO2).1.p.2.2) (cell_of_has (Has.of_own s 0 rfl) 4 (ot_d _ _ _ _ _ _ _)) h one9 rfl rfl ?_; intro f h
        refine s_on h rfl rfl rfl ?_
        refine s_pure h (ru_field fld25_2 (h.ev rfl)) rfl ?_; intro f h
        refine s_on h rfl rfl rfl ?_
        refine s_load_at1 (V := .string (cutP p0).2.2) (cell_of_has (Has.of_own s 2 rfl) 2 (pk_d _ _ _)) h one9 rfl rfl ?_; intro f h
        refine s_on h rfl rfl rfl ?_
        refine s_pure h (ru_val (.bool false) (ru_neq_str (h.ev rfl) (h.ev rfl)) (congrArg Value.bool (by rw [o2]; simp))) rfl ?_; intro f h
        refine s_pure h (ru_pick_f (h.ev rfl) (h.ev rfl)) rfl ?_; intro f h
        refine s_pure h (ru_move (h.ev rfl)) rfl ?_; intro f h
        refine s_on h rfl rfl rfl ?_
        refine s_pure h (ru_field fld46_2 (h.ev rfl)) rfl ?_; intro f h
        refine s_on h rfl rfl rfl ?_
        refine s_pure h (ru_field fld25_1 (h.ev rfl)) rfl ?_; intro f h
        refine s_on h rfl rfl rfl ?_
        refine s_load_at1 (V := .int .i64 (Ka.getD k zO2).1.p.2.1) (cell_of_has (Has.of_own s 0 rfl) 3 (ot_n _ _ _ _ _ _ _)) h one3 rfl rfl ?_; intro f h
        refine s_on h rfl rfl rfl ?_
        refine s_pure h (ru_field fld25_1 (h.ev rfl)) rfl ?_; intro f h
        refine s_on h rfl rfl rfl ?_
        refine s_load_at1 (V := .int .i64 (cutP p0).2.1) (cell_of_has (Has.of_own s 2 rfl) 1 (pk_n _ _ _)) h one3 rfl rfl ?_; intro f h
        refine s_on h rfl rfl rfl ?_
        refine s_pure h (ru_sub (h.ev rfl) (h.ev rfl) (by omega)) rfl ?_; intro f h
        refine s_on h rfl rfl rfl ?_
        refine s_pure h (ru_val (.bool false) (ru_neq (h.ev rfl) (h.ev rfl)) (congrArg Value.bool (by rw [o3]; simp))) rfl ?_; intro f h
        refine s_pure h (ru_pick_f (h.ev rfl) (h.ev rfl)) rfl ?_; intro f h
        refine s_pure h (ru_move (h.ev rfl)) rfl ?_; intro f h
        refine s_on h rfl rfl rfl ?_
        refine s_pure h (ru_move (h.ev rfl)) rfl ?_; intro f h
        refine s_on h rfl rfl rfl ?_
        refine s_pure h (ru_field fld25_0 (h.ev rfl)) rfl ?_; intro f h
        refine s_on h rfl rfl rfl ?_
        refine s_load_at1 (V := (cutV vs (min p0.1.length 6))) (cell_of_has (Has.of_own s 2 rfl) 0 (pk_v _ _ _)) h one23 rfl rfl ?_; intro f h
        refine s_on h rfl rfl rfl ?_
        refine s_pure h (ru_lenZ (hP.keep s.ext) Try.underlying23 (h.ev rfl)) rfl ?_; intro f h
        refine s_on h rfl rfl rfl ?_
        refine s_pure h (ru_val (.bool false) (ru_gtr (h.ev rfl) (h.ev rfl)) (congrArg Value.bool (decide_eq_false (by omega)))) rfl ?_; intro f h
        refine s_pure h (ru_pick_f (h.ev rfl) (h.ev rfl)) rfl ?_; intro f h
        refine s_pure h (ru_move (h.ev rfl)) rfl ?_; intro f h
        refine s_on h rfl rfl rfl ?_
        refine s_pure h (ru_move (h.ev rfl)) rfl ?_; intro f h
        refine s_on h rfl rfl rfl ?_
        refine s_pure h (ru_field fld25_0 (h.ev rfl)) rfl ?_; intro f h
        refine s_on h rfl rfl rfl ?_
        refine s_load_at1 (V := (cutV vs (min p0.1.length 6))) (cell_of_has (Has.of_own s 2 rfl) 0 (pk_v _ _ _)) h one23 rfl rfl ?_; intro f h
        refine s_on h rfl rfl rfl ?_
        refine s_pure h (ru_lenZ (hP.keep s.ext) Try.underlying23 (h.ev rfl)) rfl ?_; intro f h
        refine s_on h rfl rfl rfl ?_
        refine s_pure h (ru_sub (h.ev rfl) (h.ev rfl) (by omega)) rfl ?_; intro f h
        refine s_on h rfl rfl rfl ?_
        refine s_pure h (ru_val (.bool false) (ru_lss (h.ev rfl) (h.ev rfl)) (congrArg Value.bool (decide_eq_false (by omega)))) rfl ?_; intro f h
        refine s_pure h (ru_pick_f (h.ev rfl) (h.ev rfl)) rfl ?_; intro f h
        refine s_nil ?_
        refine hK19 _ _ ?_
        refine wpIn_cond_false (h.ev rfl) ?_
        refine wpIn_skip ?_
        refine hK18 _ _ ?_
        refine c_seq fun K20 hK20 => ?_
        refine c_region ?_
        refine s_pure h (ru_move (h.ev rfl)) rfl ?_; intro f h
        refine s_pure h (ru_sub (h.ev rfl) (h.ev rfl) (by omega)) rfl ?_; intro f h
        refine s_pure h (ru_move (h.ev rfl)) rfl ?_; intro f h
        refine s_nil ?_
        refine hK20 _ _ ?_
        refine wpIn_block ?_
        refine wpIn_loop_ghost (fun nn aa ww => ∃ j : Nat, Sl 132 aa [(1, .agg (pkArr vs p0.2.1 p0.2.2)), (3, .pointer (some ⟨b3, 0, none⟩)), (8, .pointer (some ⟨b8, 0, none⟩)), (0, (cutV vh (min l.length 34))), (5, va), (9, .int .i64 ((Ka.getD k zO2).1.p.1.length : Int)), (39, va), (40, .int .i64 (Ka.length : Int)), (41, .int .i64 (k : Int)), (92, .int .i64 (((Ka.getD k zO2).1.p.1.length - 1 : Nat) : Int)), (93, .int .i64 (j : Int))] ∧ St w [.blk b8 (.cells (otArr (Ka.getD k zO2).1.k (Ka.getD k zO2).1.h (Ka.getD k zO2).2 (Ka.getD k zO2).1.p.2.1 (Ka.getD k zO2).1.p.2.2 (Ka.getD k zO2).1.t (Ka.getD k zO2).1.y) 46), (.grp kva (fun w9 => RdE w9 (cutV vs (min p0.1.length 6)) (cutP p0).1 → RdU w9 va Ka)), .blk b3 (.cells (pkArr (cutV vs (min p0.1.length 6)) (cutP p0).2.1 (cutP p0).2.2) 25)] ww ∧ nn = ((Ka.getD k zO2).1.p.1.length - 1) - j ∧ j ≤ (Ka.getD k zO2).1.p.1.length - 1) (((Ka.getD k zO2).1.p.1.length - 1) - (0)) ⟨0, h.only ⟨rfl, rfl, rfl, rfl, rfl, rfl, rfl, rfl, rfl, slot_int rfl (by omega), slot_int rfl (by omega), trivial⟩, s.as ⟨rfl, rfl, rfl, trivial⟩, rfl, Nat.zero_le _⟩ ?_
        rintro _ f w1 ⟨j, h, s, hnn, hp0⟩
        refine c_seq fun K21 hK21 => ?_
        refine c_region ?_
        refine s_pure h (ru_lss (h.ev rfl) (h.ev rfl)) rfl ?_; intro f h
        refine s_nil ?_
        refine hK21 _ _ ?_
        refine c_seq fun K22 hK22 => ?_
        refine c_cond h rfl (fun hc => ?_) (fun hc => ?_)
        · replace hc := of_decide_eq_true hc
          refine wpIn_skip ?_
          refine hK22 _ _ ?_
          refine c_seq fun K23 hK23 => ?_
          refine wpIn_block ?_
          refine c_seq fun K24 hK24 => ?_
          refine c_region ?_
          refine s_pure h (ru_move (h.ev rfl)) rfl ?_; intro f h
          refine s_pure h (ru_assign (h.ev rfl)) rfl ?_; intro f h
          refine s_nil ?_
          refine hK24 _ _ ?_
          refine c_seq fun K25 hK25 => ?_
          refine c_walkN 20 [[], [0], [0, 1], [], [3], [], [3, 4, 5], [0, 1, 2, 3, 4, 5, 6], [0, 1, 2, 3, 4, 5, 6, 7], [], [9], [], [11], [11, 12], [11, 12, 13], [], [11, 12, 13, 14, 15], [9, 10, 11, 12, 13, 14, 15, 16], [9, 10, 11, 12, 13, 14, 15, 16, 17], [0, 1, 2, 3, 4, 5, 6, 7, 8, 9, 10, 11, 12, 13, 14, 15, 16, 17, 18]] h (by kernel_rfl) (by kernel_rfl) (by kernel_rfl) ?_
          refine w_pure h (ru_field fld46_2 (h.ev rfl)) rfl ?_; intro f h
          refine w_pure h (ru_field fld25_0 (h.ev rfl)) rfl ?_; intro f h
          refine w_load_at1 (V := (Ka.getD k zO2).2) (cell_of_has (Has.of_own s 0 rfl) 2 (ot_v _ _ _ _ _ _ _)) h one23 rfl rfl ?_; intro f h
          refine w_pure h (ru_move (h.ev rfl)) rfl ?_; intro f h
          refine w_pure h (ru_sub (h.ev rfl) (h.ev rfl) (by omega)) rfl ?_; intro f h
          refine w_pure h (ru_move (h.ev rfl)) rfl ?_; intro f h
          refine w_pure h (ru_sub (h.ev rfl) (h.ev rfl) (by omega)) rfl ?_; intro f h
          refine w_pure h (ru_ixz ((((s.getG 1 rfl) (hP.keep s.ext))).2 _ (ou_mem hkl)) (((Ka.getD k zO2).1.p.1.length - 1 - j)) Try.underlying23 szo42 (h.ev rfl) (h.ev rfl) (by omega) (by omega)) rfl ?_; intro f h
          refine w_load_at (((((s.getG 1 rfl) (hP.keep s.ext))).2 _ (ou_mem hkl)).el (((Ka.getD k zO2).1.p.1.length - 1 - j)) (by omega) (by decide) (D := eArr ((Ka.getD k zO2).1.p.1.getD ((Ka.getD k zO2).1.p.1.length - 1 - j) zEn)) (e_elD _ _ (by omega))) h row42 rfl (eArr_size _) rfl ?_; intro f h
          refine w_pure h (ru_field fld25_0 (h.ev rfl)) rfl ?_; intro f h
          refine w_load_at1 (V := (cutV vs (min p0.1.length 6))) (cell_of_has (Has.of_own s 2 rfl) 0 (pk_v _ _ _)) h one23 rfl rfl ?_; intro f h
          refine w_pure h (ru_field fld25_0 (h.ev rfl)) rfl ?_; intro f h
          refine w_load_at1 (V := (cutV vs (min p0.1.length 6))) (cell_of_has (Has.of_own s 2 rfl) 0 (pk_v _ _ _)) h one23 rfl rfl ?_; intro f h
          refine w_pure h (ru_lenZ (hP.keep s.ext) Try.underlying23 (h.ev rfl)) rfl ?_; intro f h
          refine w_pure h (ru_sub (h.ev rfl) (h.ev rfl) (by omega)) rfl ?_; intro f h
          refine w_pure h (ru_move (h.ev rfl)) rfl ?_; intro f h
          refine w_pure h (ru_sub (h.ev rfl) (h.ev rfl) (by omega)) rfl ?_; intro f h
          refine w_pure h (ru_ixz (hP.keep s.ext) (((cutP p0).1.length - 1 - j)) Try.underlying23 szo42 (h.ev rfl) (h.ev rfl) (by omega) (by omega)) rfl ?_; intro f h
          refine w_load_at ((hP.keep s.ext).el (((cutP p0).1.length - 1 - j)) (by omega) (by decide) (D := eArr ((cutP p0).1.getD ((cutP p0).1.length - 1 - j) zEn)) (e_elD _ _ (by omega))) h row42 rfl (eArr_size _) rfl ?_; intro f h
          refine w_pure h (ru_val (.bool false) (ru_neqW (eqE _ _) (by kernel_rfl) (by decide) (h.ev rfl) (h.ev rfl) (decide ((Ka.getD k zO2).1.p.1.getD ((Ka.getD k zO2).1.p.1.length - 1 - j) zEn = (cutP p0).1.getD ((cutP p0).1.length - 1 - j) zEn)) (eEq _ _)) (congrArg Value.bool (by rw [decide_eq_true (o6 j (by omega))]; rfl))) rfl ?_; intro f h
          refine w_nil s fun w1 s => ?_
          refine s_nil ?_
          refine hK25 _ _ ?_
          refine wpIn_cond_false (h.ev rfl) ?_
          refine wpIn_skip ?_
          refine b_norm ?_
          refine hK23 _ _ ?_
          refine c_region ?_
          refine s_pure h (ru_add (h.ev rfl) (h.ev rfl) (by omega)) rfl ?_; intro f h
          refine s_pure h (ru_move (h.ev rfl)) rfl ?_; intro f h
          refine s_nil ?_
          refine t_norm ?_
          exact ⟨_, by omega, ⟨j + 1, h.only ⟨rfl, rfl, rfl, rfl, rfl, rfl, rfl, rfl, rfl, slot_int rfl (by omega), slot_int rfl (by omega), trivial⟩, St.as s ⟨rfl, rfl, rfl, trivial⟩, rfl, by omega⟩⟩
        · replace hc := of_decide_eq_false hc
          refine wpIn_exit ?_
          refine t_exit ?_
          refine t_exit ?_
          refine b_exit ?_
          refine b_norm ?_
          refine hK11 _ _ ?_
          refine c_region ?_
          refine s_pure h (ru_add (h.ev rfl) (h.ev rfl) (by omega)) rfl ?_; intro f h
          refine s_pure h (ru_move (h.ev rfl)) rfl ?_; intro f h
          refine s_nil ?_
          refine t_norm ?_
          exact ⟨_, by omega, ⟨k + 1, h.only ⟨rfl, rfl, rfl, rfl, rfl, rfl, slot_int rfl (by omega), trivial⟩, St.as (s.pick _ (List.sublist_append_right [_] _)) ⟨rfl, rfl, trivial⟩, rfl, by omega⟩⟩
    · replace hc := of_decide_eq_false hc
      refine wpIn_exit ?_
      refine t_exit ?_
      refine t_exit ?_
      refine b_exit ?_
      refine hK7 _ _ ?_
      refine c_seq fun K26 hK26 => ?_
      refine c_region ?_
      refine s_call h s fnc14 (ret_val (.bool true) (palive_any _) (congrArg Value.bool (rfl))) rfl rfl ?_; intro f w1 v9 hT hE h s; obtain rfl := hT
      refine s_pure h (ru_move (h.ev rfl)) rfl ?_; intro f h
      refine s_on h rfl rfl rfl ?_
      refine s_pure h (ru_move (h.ev rfl)) rfl ?_; intro f h
      refine s_on h rfl rfl rfl ?_
      refine s_pure h (ru_lenZ ((((s.getG 0 rfl) (hP.keep s.ext))).1) Try.underlying28 (h.ev rfl)) rfl ?_; intro f h
      refine s_on h rfl rfl rfl ?_
      refine s_pure h (ru_val (.bool true) (ru_geq (h.ev rfl) (h.ev rfl)) (congrArg Value.bool (decide_eq_true (by omega)))) rfl ?_; intro f h
      refine s_pure h (ru_pick_t (h.ev rfl) (h.ev rfl)) rfl ?_; intro f h
      refine s_pure h (ru_move (h.ev rfl)) rfl ?_; intro f h
      refine s_on h rfl rfl rfl ?_
      refine s_pure h (ru_move (h.ev rfl)) rfl ?_; intro f h
      refine s_on h rfl rfl rfl ?_
      refine s_pure h (ru_lenZ ((((s.getG 0 rfl) (hP.keep s.ext))).1) Try.underlying28 (h.ev rfl)) rfl ?_; intro f h
      refine s_on h rfl rfl rfl ?_
      refine s_pure h (ru_move (h.ev rfl)) rfl ?_; intro f h
      refine s_on h rfl rfl rfl ?_
      refine s_pure h (ru_lenZ (hT.keep s.ext) Try.underlying22 (h.ev rfl)) rfl ?_; intro f h
      refine s_on h rfl rfl rfl ?_
      refine s_pure h (ru_max (h.ev rfl) (h.ev rfl)) rfl ?_; intro f h
      refine s_on h rfl rfl rfl ?_
      refine s_pure h (ru_val (.bool true) (ru_leq (h.ev rfl) (h.ev rfl)) (congrArg Value.bool (decide_eq_true (by first | omega | (split <;> omega))))) rfl ?_; intro f h
      refine s_pure h (ru_pick_t (h.ev rfl) (h.ev rfl)) rfl ?_; intro f h
      refine s_pure h (ru_assign (h.ev rfl)) rfl ?_; intro f h
      refine s_nil ?_
      refine hK26 _ _ ?_
      refine wpIn_ret ?_
      exact e_tmp rfl h s rfl (rfl)
end Go.Proofs.Ythnmonfhanbghaa
