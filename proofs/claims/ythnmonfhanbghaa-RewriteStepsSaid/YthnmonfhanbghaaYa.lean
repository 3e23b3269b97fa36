/- What RewriteSteps answers: for all arguments. -/
import Derived.Test.YthnmonfhanbghaaVc
import Derived.Test.YthnmonfhanbghaaXl
set_option linter.unusedVariables false
set_option linter.unusedSimpArgs false
set_option linter.unusedSectionVars false
namespace Go.Proofs.Ythnmonfhanbghaa
open Go.RowKit
set_option maxHeartbeats 4000000 in
theorem lrsteps_any (l : List Tg) (vh : Value) (p0 q0 : Pk) (vs vu : Value) (w : World) (hR : RdZ w vh 67 l.length (tgCells l)) (hP0 : RdZ w vs 34 p0.1.length (eCells p0.1)) (hQ0 : RdZ w vu 34 q0.1.length (eCells q0.1)) : Calls Try.prog 3 [vh, .agg (pkArr vs p0.2.1 p0.2.2), .agg (pkArr vu q0.2.1 q0.2.2)].toArray w (Ret w (is (.bool true))) := by
  have hT := tg_take hR (min l.length 34) (by omega)
  obtain ⟨t, ht⟩ : ∃ x9, x9 = l.take (min l.length 34) := ⟨_, rfl⟩
  rw [← ht] at hT
  have htl : t.length ≤ 34 := by rw [ht, List.length_take]; omega
  have hP : RdE w (cutV vs (min p0.1.length 6)) (cutP p0).1 := cutP_rd hP0
  have hpl := cutP_len p0
  have hQ : RdE w (cutV vu (min q0.1.length 6)) (cutP q0).1 := cutP_rd hQ0
  have hql := cutP_len q0
  refine c_enter Try.func3 rfl Try.ntmps3 rfl [(0, vh), (1, .agg (pkArr vs p0.2.1 p0.2.2)), (2, .agg (pkArr vu q0.2.1 q0.2.2))] (by simp) fun f h => ?_
  have s := St.start w
  refine c_seq fun K1 hK1 => ?_
  refine c_region ?_
  refine s_box (pkArr vs p0.2.1 p0.2.2) h s rfl rfl rfl ?_; intro f w1 b4 h s
  refine s_box (pkArr vu q0.2.1 q0.2.2) h s rfl rfl rfl ?_; intro f w1 b5 h s
  refine s_pure h (ru_assign (h.ev rfl)) rfl ?_; intro f h
  refine s_nil ?_
  refine hK1 _ _ ?_
  refine c_seq fun K2 hK2 => ?_
  refine c_walkN 7 [[], [0], [], [0, 1, 2], [], [0, 1, 2, 3, 4], [0, 1, 2, 3, 4, 5]] h (by kernel_rfl) (by kernel_rfl) (by kernel_rfl) ?_
  refine w_pure h (ru_move (h.ev rfl)) rfl ?_; intro f h
  refine w_call h fnc7 (fun w9 hE9 => pfew_any vh l w9 (hR.keep (s.ext.trans hE9))) rfl rfl ?_; intro f h
  refine w_load_row 1 h s row25 rfl rfl (pkArr_size _ _ _) rfl ?_; intro f h
  refine w_call h fnc8 (fun w9 hE9 => pcut_any p0 vs w9 (hP0.keep (s.ext.trans hE9))) rfl rfl ?_; intro f h
  refine w_load_row 0 h s row25 rfl rfl (pkArr_size _ _ _) rfl ?_; intro f h
  refine w_call h fnc8 (fun w9 hE9 => pcut_any q0 vu w9 (hQ0.keep (s.ext.trans hE9))) rfl rfl ?_; intro f h
  refine w_pure h (ru_assign (h.ev rfl)) rfl ?_; intro f h
  refine w_nil s fun w1 s => ?_
  refine s_store_row 1 h s row25 rfl rfl rfl (pkArr_size _ _ _) (pkArr_size _ _ _) (pkArr_ones _ _ (rd_one (hP.keep s.ext))) ?_; intro w1 s
  refine s_store_row 0 h s row25 rfl rfl rfl (pkArr_size _ _ _) (pkArr_size _ _ _) (pkArr_ones _ _ (rd_one (hQ.keep s.ext))) ?_; intro w1 s
  refine s_nil ?_
  refine hK2 _ _ ?_
  refine c_seq fun K3 hK3 => ?_
  refine c_region ?_
  refine s_pure h (ru_move (h.ev rfl)) rfl ?_; intro f h
  refine s_load_row 1 h s row25 rfl rfl (pkArr_size _ _ _) rfl ?_; intro f h
  refine s_call h s fnc9 (pstep_any t (cutV vh (min l.length 34)) (cutP p0) (cutV vs (min p0.1.length 6)) _ (hT.keep s.ext) (by first | omega | decide) (hP.keep s.ext) (by first | omega | decide)) rfl rfl ?_; rintro f w1 v18 ⟨va, Ka, kva, rfl, hKa, hG⟩ hE h sq; replace s := s.add hG; clear hG
  refine s_pure h (ru_move (h.ev rfl)) rfl ?_; intro f h
  refine s_pure h (ru_extract (h.ev rfl) rfl) rfl ?_; intro f h
  refine s_pure h (ru_extract (h.ev rfl) rfl) rfl ?_; intro f h
  refine s_pure h (ru_assign (h.ev rfl)) rfl ?_; intro f h
  refine s_pure h (ru_assign (h.ev rfl)) rfl ?_; intro f h
  refine s_nil ?_
  refine hK3 _ _ ?_
  refine c_seq fun K4 hK4 => ?_
  refine c_seq fun K5 hK5 => ?_
  cases r0 : (rightP (cutP p0) : Bool)
  · skip
    cases s0 : (decide ((cutP p0) = (cutP q0)) : Bool)
    · skip
      refine c_walkN 24 [[], [0], [], [0, 1, 2], [0, 1, 2, 3], [0, 1, 2, 3, 4], [0, 1, 2, 3, 4, 5], [0, 1, 2, 3, 4, 5], [0, 1, 2, 3, 4, 5, 6, 7], [0, 1, 2, 3, 4, 5], [0, 1, 2, 3, 4, 5], [0, 1, 2, 3, 4, 5, 6, 7, 8, 9, 10], [0, 1, 2, 3, 4, 5, 6, 7, 8, 9, 10, 11], [0, 1, 2, 3, 4, 5, 6, 7, 8, 9, 10, 11, 12], [0, 1, 2, 3, 4, 5, 6, 7, 8, 9, 10, 11, 12, 13], [0, 1, 2, 3, 4, 5, 6, 7, 8, 9, 10, 11, 12, 13, 14], [0, 1, 2, 3, 4, 5, 6, 7, 8, 9, 10, 11, 12, 13, 14], [0, 1, 2, 3, 4, 5, 6, 7, 8, 9, 10, 11, 12, 13, 14, 15, 16], [0, 1, 2, 3, 4, 5, 6, 7, 8, 9, 10, 11, 12, 13, 14, 15, 16, 17], [0, 1, 2, 3, 4, 5, 6, 7, 8, 9, 10, 11, 12, 13, 14, 15, 16, 17, 18], [0, 1, 2, 3, 4, 5, 6, 7, 8, 9, 10, 11, 12, 13, 14, 15, 16, 17, 18, 19], [0, 1, 2, 3, 4, 5, 6, 7, 8, 9, 10, 11, 12, 13, 14, 15, 16, 17, 18, 19, 20], [0, 1, 2, 3, 4, 5, 6, 7, 8, 9, 10, 11, 12, 13, 14, 15, 16, 17, 18, 19, 20, 21], [0, 1, 2, 3, 4, 5, 6, 7, 8, 9, 10, 11, 12, 13, 14, 15, 16, 17, 18, 19, 20, 21, 22]] h (by kernel_rfl) (by kernel_rfl) (by kernel_rfl) ?_
      refine w_load_row 2 h s row25 rfl rfl (pkArr_size _ _ _) rfl ?_; intro f h
      refine w_call h fnc10 (fun w9 hE9 => ret_val (.bool false) (pright_any (cutP p0) (cutV vs (min p0.1.length 6)) w9 (hP.keep (s.ext.trans hE9)) (by omega)) (congrArg Value.bool r0)) rfl rfl ?_; intro f h
      refine w_load_row 2 h s row25 rfl rfl (pkArr_size _ _ _) rfl ?_; intro f h
      refine w_call h fnc11 (fun w9 hE9 => ret_val (.bool false) (rrightp_any (cutP p0) (cutV vs (min p0.1.length 6)) w9 (hP.keep (s.ext.trans hE9)) (by omega)) (congrArg Value.bool r0)) rfl rfl ?_; intro f h
      refine w_pure h (ru_val (.bool false) (ru_neq_bool Try.underlying4 (h.ev rfl) (h.ev rfl)) (congrArg Value.bool (by simp))) rfl ?_; intro f h
      refine w_pure h (ru_move (h.ev rfl)) rfl ?_; intro f h
      refine w_on h rfl rfl rfl ?_
      refine w_load_row 2 h s row25 rfl rfl (pkArr_size _ _ _) rfl ?_; intro f h
      refine w_on h rfl rfl rfl ?_
      refine w_load_row 1 h s row25 rfl rfl (pkArr_size _ _ _) rfl ?_; intro f h
      refine w_on h rfl rfl rfl ?_
      refine w_call h fnc12 (fun w9 hE9 => ret_val (.bool false) (psame_any (cutP p0) (cutP q0) (cutV vs (min p0.1.length 6)) (cutV vu (min q0.1.length 6)) w9 (hP.keep (s.ext.trans hE9)) (hQ.keep (s.ext.trans hE9)) (by omega) (by omega)) (congrArg Value.bool s0)) rfl rfl ?_; intro f h
      refine w_on h rfl rfl rfl ?_
      refine w_load_row 2 h s row25 rfl rfl (pkArr_size _ _ _) rfl ?_; intro f h
      refine w_on h rfl rfl rfl ?_
      refine w_load_row 1 h s row25 rfl rfl (pkArr_size _ _ _) rfl ?_; intro f h
      refine w_on h rfl rfl rfl ?_
      refine w_call h fnc13 (fun w9 hE9 => ret_val (.bool false) (rsamep_any (cutP p0) (cutP q0) (cutV vs (min p0.1.length 6)) (cutV vu (min q0.1.length 6)) w9 (hP.keep (s.ext.trans hE9)) (hQ.keep (s.ext.trans hE9)) (by omega) (by omega)) (congrArg Value.bool s0)) rfl rfl ?_; intro f h
      refine w_on h rfl rfl rfl ?_
      refine w_pure h (ru_val (.bool false) (ru_neq_bool Try.underlying4 (h.ev rfl) (h.ev rfl)) (congrArg Value.bool (by simp))) rfl ?_; intro f h
      refine w_pure h (ru_pick_f (h.ev rfl) (h.ev rfl)) rfl ?_; intro f h
      refine w_pure h (ru_move (h.ev rfl)) rfl ?_; intro f h
      refine w_on h rfl rfl rfl ?_
      refine w_load_row 2 h s row25 rfl rfl (pkArr_size _ _ _) rfl ?_; intro f h
      refine w_on h rfl rfl rfl ?_
      refine w_load_row 2 h s row25 rfl rfl (pkArr_size _ _ _) rfl ?_; intro f h
      refine w_on h rfl rfl rfl ?_
      refine w_call h fnc12 (fun w9 hE9 => ret_val (.bool true) (psame_any (cutP p0) (cutP p0) (cutV vs (min p0.1.length 6)) (cutV vs (min p0.1.length 6)) w9 (hP.keep (s.ext.trans hE9)) (hP.keep (s.ext.trans hE9)) (by omega) (by omega)) (congrArg Value.bool (by simp))) rfl rfl ?_; intro f h
      refine w_on h rfl rfl rfl ?_
      refine w_pure h (ru_val (.bool false) (ru_not (h.ev rfl)) rfl) rfl ?_; intro f h
      refine w_pure h (ru_pick_f (h.ev rfl) (h.ev rfl)) rfl ?_; intro f h
      refine w_pure h (ru_move (h.ev rfl)) rfl ?_; intro f h
      refine w_on h rfl rfl rfl ?_
      refine w_call h fnc14 (fun w9 hE9 => ret_val (.bool true) (palive_any w9) (congrArg Value.bool (rfl))) rfl rfl ?_; intro f h
      refine w_on h rfl rfl rfl ?_
      refine w_pure h (ru_val (.bool false) (ru_not (h.ev rfl)) rfl) rfl ?_; intro f h
      refine w_pure h (ru_pick_f (h.ev rfl) (h.ev rfl)) rfl ?_; intro f h
      refine w_nil s fun w1 s => ?_
      refine s_nil ?_
      refine hK5 _ _ ?_
      refine wpIn_cond_false (h.ev rfl) ?_
      refine wpIn_skip ?_
      refine hK4 _ _ ?_
      refine c_seq fun K6 hK6 => ?_
      refine c_seq fun K7 hK7 => ?_
      refine c_region ?_
      refine s_load_row 2 h s row25 rfl rfl (pkArr_size _ _ _) rfl ?_; intro f h
      refine s_call h s fnc11 (ret_val (.bool false) (rrightp_any (cutP p0) (cutV vs (min p0.1.length 6)) _ (hP.keep s.ext) (by omega)) (congrArg Value.bool r0)) rfl rfl ?_; intro f w1 v9 hT hE h s; obtain rfl := hT
      refine s_pure h (ru_val (.bool true) (ru_not (h.ev rfl)) rfl) rfl ?_; intro f h
      refine s_pure h (ru_move (h.ev rfl)) rfl ?_; intro f h
      refine s_off (b := false) h rfl rfl rfl rfl ?_; intro f h
      refine s_off (b := false) h rfl rfl rfl rfl ?_; intro f h
      refine s_off (b := false) h rfl rfl rfl rfl ?_; intro f h
      refine s_pure h (ru_pick_t (h.ev rfl) (h.ev rfl)) rfl ?_; intro f h
      refine s_nil ?_
      refine hK7 _ _ ?_
      refine wpIn_cond_true (h.ev rfl) ?_
      refine c_seq fun K8 hK8 => ?_
      refine c_region ?_
      obtain ⟨b1, b2⟩ := rwE_no0 t r0
      have lKa : Ka.length = 0 := by rw [← outs_len, hKa, b2]; rfl
      refine s_pure h (ru_move (h.ev rfl)) rfl ?_; intro f h
      refine s_pure h (ru_val (.bool true) (ru_eql (h.ev rfl) (h.ev rfl)) (congrArg Value.bool (by rw [b1]; rfl))) rfl ?_; intro f h
      refine s_pure h (ru_move (h.ev rfl)) rfl ?_; intro f h
      refine s_on h rfl rfl rfl ?_
      refine s_pure h (ru_move (h.ev rfl)) rfl ?_; intro f h
      refine s_on h rfl rfl rfl ?_
      refine s_pure h (ru_lenZ ((((s.getG 0 rfl) (hP.keep s.ext))).1) Try.underlying28 (h.ev rfl)) rfl ?_; intro f h
      refine s_on h rfl rfl rfl ?_
      refine s_pure h (ru_val (.bool true) (ru_eql (h.ev rfl) (h.ev rfl)) (congrArg Value.bool (by rw [lKa]; rfl))) rfl ?_; intro f h
      refine s_pure h (ru_pick_t (h.ev rfl) (h.ev rfl)) rfl ?_; intro f h
      refine s_pure h (ru_assign (h.ev rfl)) rfl ?_; intro f h
      refine s_nil ?_
      refine hK8 _ _ ?_
      refine wpIn_ret ?_
      refine t_ret ?_
      exact e_tmp rfl h s rfl (rfl)
    · skip
      refine c_walkN 24 [[], [0], [], [0, 1, 2], [0, 1, 2, 3], [0, 1, 2, 3, 4], [0, 1, 2, 3, 4, 5], [0, 1, 2, 3, 4, 5], [0, 1, 2, 3, 4, 5, 6, 7], [0, 1, 2, 3, 4, 5], [0, 1, 2, 3, 4, 5], [0, 1, 2, 3, 4, 5, 6, 7, 8, 9, 10], [0, 1, 2, 3, 4, 5, 6, 7, 8, 9, 10, 11], [0, 1, 2, 3, 4, 5, 6, 7, 8, 9, 10, 11, 12], [0, 1, 2, 3, 4, 5, 6, 7, 8, 9, 10, 11, 12, 13], [0, 1, 2, 3, 4, 5, 6, 7, 8, 9, 10, 11, 12, 13, 14], [0, 1, 2, 3, 4, 5, 6, 7, 8, 9, 10, 11, 12, 13, 14], [0, 1, 2, 3, 4, 5, 6, 7, 8, 9, 10, 11, 12, 13, 14, 15, 16], [0, 1, 2, 3, 4, 5, 6, 7, 8, 9, 10, 11, 12, 13, 14, 15, 16, 17], [0, 1, 2, 3, 4, 5, 6, 7, 8, 9, 10, 11, 12, 13, 14, 15, 16, 17, 18], [0, 1, 2, 3, 4, 5, 6, 7, 8, 9, 10, 11, 12, 13, 14, 15, 16, 17, 18, 19], [0, 1, 2, 3, 4, 5, 6, 7, 8, 9, 10, 11, 12, 13, 14, 15, 16, 17, 18, 19, 20], [0, 1, 2, 3, 4, 5, 6, 7, 8, 9, 10, 11, 12, 13, 14, 15, 16, 17, 18, 19, 20, 21], [0, 1, 2, 3, 4, 5, 6, 7, 8, 9, 10, 11, 12, 13, 14, 15, 16, 17, 18, 19, 20, 21, 22]] h (by kernel_rfl) (by kernel_rfl) (by kernel_rfl) ?_
      refine w_load_row 2 h s row25 rfl rfl (pkArr_size _ _ _) rfl ?_; intro f h
      refine w_call h fnc10 (fun w9 hE9 => ret_val (.bool false) (pright_any (cutP p0) (cutV vs (min p0.1.length 6)) w9 (hP.keep (s.ext.trans hE9)) (by omega)) (congrArg Value.bool r0)) rfl rfl ?_; intro f h
      refine w_load_row 2 h s row25 rfl rfl (pkArr_size _ _ _) rfl ?_; intro f h
      refine w_call h fnc11 (fun w9 hE9 => ret_val (.bool false) (rrightp_any (cutP p0) (cutV vs (min p0.1.length 6)) w9 (hP.keep (s.ext.trans hE9)) (by omega)) (congrArg Value.bool r0)) rfl rfl ?_; intro f h
      refine w_pure h (ru_val (.bool false) (ru_neq_bool Try.underlying4 (h.ev rfl) (h.ev rfl)) (congrArg Value.bool (by simp))) rfl ?_; intro f h
      refine w_pure h (ru_move (h.ev rfl)) rfl ?_; intro f h
      refine w_on h rfl rfl rfl ?_
      refine w_load_row 2 h s row25 rfl rfl (pkArr_size _ _ _) rfl ?_; intro f h
      refine w_on h rfl rfl rfl ?_
      refine w_load_row 1 h s row25 rfl rfl (pkArr_size _ _ _) rfl ?_; intro f h
      refine w_on h rfl rfl rfl ?_
      refine w_call h fnc12 (fun w9 hE9 => ret_val (.bool true) (psame_any (cutP p0) (cutP q0) (cutV vs (min p0.1.length 6)) (cutV vu (min q0.1.length 6)) w9 (hP.keep (s.ext.trans hE9)) (hQ.keep (s.ext.trans hE9)) (by omega) (by omega)) (congrArg Value.bool s0)) rfl rfl ?_; intro f h
      refine w_on h rfl rfl rfl ?_
      refine w_load_row 2 h s row25 rfl rfl (pkArr_size _ _ _) rfl ?_; intro f h
      refine w_on h rfl rfl rfl ?_
      refine w_load_row 1 h s row25 rfl rfl (pkArr_size _ _ _) rfl ?_; intro f h
      refine w_on h rfl rfl rfl ?_
      refine w_call h fnc13 (fun w9 hE9 => ret_val (.bool true) (rsamep_any (cutP p0) (cutP q0) (cutV vs (min p0.1.length 6)) (cutV vu (min q0.1.length 6)) w9 (hP.keep (s.ext.trans hE9)) (hQ.keep (s.ext.trans hE9)) (by omega) (by omega)) (congrArg Value.bool s0)) rfl rfl ?_; intro f h
      refine w_on h rfl rfl rfl ?_
      refine w_pure h (ru_val (.bool false) (ru_neq_bool Try.underlying4 (h.ev rfl) (h.ev rfl)) (congrArg Value.bool (by simp))) rfl ?_; intro f h
      refine w_pure h (ru_pick_f (h.ev rfl) (h.ev rfl)) rfl ?_; intro f h
      refine w_pure h (ru_move (h.ev rfl)) rfl ?_; intro f h
      refine w_on h rfl rfl rfl ?_
      refine w_load_row 2 h s row25 rfl rfl (pkArr_size _ _ _) rfl ?_; intro f h
      refine w_on h rfl rfl rfl ?_
      refine w_load_row 2 h s row25 rfl rfl (pkArr_size _ _ _) rfl ?_; intro f h
      refine w_on h rfl rfl rfl ?_
      refine w_call h fnc12 (fun w9 hE9 => ret_val (.bool true) (psame_any (cutP p0) (cutP p0) (cutV vs (min p0.1.length 6)) (cutV vs (min p0.1.length 6)) w9 (hP.keep (s.ext.trans hE9)) (hP.keep (s.ext.trans hE9)) (by omega) (by omega)) (congrArg Value.bool (by simp))) rfl rfl ?_; intro f h
      refine w_on h rfl rfl rfl ?_
      refine w_pure h (ru_val (.bool false) (ru_not (h.ev rfl)) rfl) rfl ?_; intro f h
      refine w_pure h (ru_pick_f (h.ev rfl) (h.ev rfl)) rfl ?_; intro f h
      refine w_pure h (ru_move (h.ev rfl)) rfl ?_; intro f h
      refine w_on h rfl rfl rfl ?_
      refine w_call h fnc14 (fun w9 hE9 => ret_val (.bool true) (palive_any w9) (congrArg Value.bool (rfl))) rfl rfl ?_; intro f h
      refine w_on h rfl rfl rfl ?_
      refine w_pure h (ru_val (.bool false) (ru_not (h.ev rfl)) rfl) rfl ?_; intro f h
      refine w_pure h (ru_pick_f (h.ev rfl) (h.ev rfl)) rfl ?_; intro f h
      refine w_nil s fun w1 s => ?_
      refine s_nil ?_
      refine hK5 _ _ ?_
      refine wpIn_cond_false (h.ev rfl) ?_
      refine wpIn_skip ?_
      refine hK4 _ _ ?_
      refine c_seq fun K9 hK9 => ?_
      refine c_seq fun K10 hK10 => ?_
      refine c_region ?_
      refine s_load_row 2 h s row25 rfl rfl (pkArr_size _ _ _) rfl ?_; intro f h
      refine s_call h s fnc11 (ret_val (.bool false) (rrightp_any (cutP p0) (cutV vs (min p0.1.length 6)) _ (hP.keep s.ext) (by omega)) (congrArg Value.bool r0)) rfl rfl ?_; intro f w1 v9 hT hE h s; obtain rfl := hT
      refine s_pure h (ru_val (.bool true) (ru_not (h.ev rfl)) rfl) rfl ?_; intro f h
      refine s_pure h (ru_move (h.ev rfl)) rfl ?_; intro f h
      refine s_off (b := false) h rfl rfl rfl rfl ?_; intro f h
      refine s_off (b := false) h rfl rfl rfl rfl ?_; intro f h
      refine s_off (b := false) h rfl rfl rfl rfl ?_; intro f h
      refine s_pure h (ru_pick_t (h.ev rfl) (h.ev rfl)) rfl ?_; intro f h
      refine s_nil ?_
      refine hK10 _ _ ?_
      refine wpIn_cond_true (h.ev rfl) ?_
      refine c_seq fun K11 hK11 => ?_
      refine c_region ?_
      obtain ⟨b1, b2⟩ := rwE_no0 t r0
      have lKa : Ka.length = 0 := by rw [← outs_len, hKa, b2]; rfl
      refine s_pure h (ru_move (h.ev rfl)) rfl ?_; intro f h
      refine s_pure h (ru_val (.bool true) (ru_eql (h.ev rfl) (h.ev rfl)) (congrArg Value.bool (by rw [b1]; rfl))) rfl ?_; intro f h
      refine s_pure h (ru_move (h.ev rfl)) rfl ?_; intro f h
      refine s_on h rfl rfl rfl ?_
      refine s_pure h (ru_move (h.ev rfl)) rfl ?_; intro f h
      refine s_on h rfl rfl rfl ?_
      refine s_pure h (ru_lenZ ((((s.getG 0 rfl) (hP.keep s.ext))).1) Try.underlying28 (h.ev rfl)) rfl ?_; intro f h
      refine s_on h rfl rfl rfl ?_
      refine s_pure h (ru_val (.bool true) (ru_eql (h.ev rfl) (h.ev rfl)) (congrArg Value.bool (by rw [lKa]; rfl))) rfl ?_; intro f h
      refine s_pure h (ru_pick_t (h.ev rfl) (h.ev rfl)) rfl ?_; intro f h
      refine s_pure h (ru_assign (h.ev rfl)) rfl ?_; intro f h
      refine s_nil ?_
      refine hK11 _ _ ?_
      refine wpIn_ret ?_
      refine t_ret ?_
      exact e_tmp rfl h s rfl (rfl)
  · skip
    cases s0 : (decide ((cutP p0) = (cutP q0)) : Bool)
    · skip
      refine c_walkN 24 [[], [0], [], [0, 1, 2], [0, 1, 2, 3], [0, 1, 2, 3, 4], [0, 1, 2, 3, 4, 5], [0, 1, 2, 3, 4, 5], [0, 1, 2, 3, 4, 5, 6, 7], [0, 1, 2, 3, 4, 5], [0, 1, 2, 3, 4, 5], [0, 1, 2, 3, 4, 5, 6, 7, 8, 9, 10], [0, 1, 2, 3, 4, 5, 6, 7, 8, 9, 10, 11], [0, 1, 2, 3, 4, 5, 6, 7, 8, 9, 10, 11, 12], [0, 1, 2, 3, 4, 5, 6, 7, 8, 9, 10, 11, 12, 13], [0, 1, 2, 3, 4, 5, 6, 7, 8, 9, 10, 11, 12, 13, 14], [0, 1, 2, 3, 4, 5, 6, 7, 8, 9, 10, 11, 12, 13, 14], [0, 1, 2, 3, 4, 5, 6, 7, 8, 9, 10, 11, 12, 13, 14, 15, 16], [0, 1, 2, 3, 4, 5, 6, 7, 8, 9, 10, 11, 12, 13, 14, 15, 16, 17], [0, 1, 2, 3, 4, 5, 6, 7, 8, 9, 10, 11, 12, 13, 14, 15, 16, 17, 18], [0, 1, 2, 3, 4, 5, 6, 7, 8, 9, 10, 11, 12, 13, 14, 15, 16, 17, 18, 19], [0, 1, 2, 3, 4, 5, 6, 7, 8, 9, 10, 11, 12, 13, 14, 15, 16, 17, 18, 19, 20], [0, 1, 2, 3, 4, 5, 6, 7, 8, 9, 10, 11, 12, 13, 14, 15, 16, 17, 18, 19, 20, 21], [0, 1, 2, 3, 4, 5, 6, 7, 8, 9, 10, 11, 12, 13, 14, 15, 16, 17, 18, 19, 20, 21, 22]] h (by kernel_rfl) (by kernel_rfl) (by kernel_rfl) ?_
      refine w_load_row 2 h s row25 rfl rfl (pkArr_size _ _ _) rfl ?_; intro f h
      refine w_call h fnc10 (fun w9 hE9 => ret_val (.bool true) (pright_any (cutP p0) (cutV vs (min p0.1.length 6)) w9 (hP.keep (s.ext.trans hE9)) (by omega)) (congrArg Value.bool r0)) rfl rfl ?_; intro f h
      refine w_load_row 2 h s row25 rfl rfl (pkArr_size _ _ _) rfl ?_; intro f h
      refine w_call h fnc11 (fun w9 hE9 => ret_val (.bool true) (rrightp_any (cutP p0) (cutV vs (min p0.1.length 6)) w9 (hP.keep (s.ext.trans hE9)) (by omega)) (congrArg Value.bool r0)) rfl rfl ?_; intro f h
      refine w_pure h (ru_val (.bool false) (ru_neq_bool Try.underlying4 (h.ev rfl) (h.ev rfl)) (congrArg Value.bool (by simp))) rfl ?_; intro f h
      refine w_pure h (ru_move (h.ev rfl)) rfl ?_; intro f h
      refine w_on h rfl rfl rfl ?_
      refine w_load_row 2 h s row25 rfl rfl (pkArr_size _ _ _) rfl ?_; intro f h
      refine w_on h rfl rfl rfl ?_
      refine w_load_row 1 h s row25 rfl rfl (pkArr_size _ _ _) rfl ?_; intro f h
      refine w_on h rfl rfl rfl ?_
      refine w_call h fnc12 (fun w9 hE9 => ret_val (.bool false) (psame_any (cutP p0) (cutP q0) (cutV vs (min p0.1.length 6)) (cutV vu (min q0.1.length 6)) w9 (hP.keep (s.ext.trans hE9)) (hQ.keep (s.ext.trans hE9)) (by omega) (by omega)) (congrArg Value.bool s0)) rfl rfl ?_; intro f h
      refine w_on h rfl rfl rfl ?_
      refine w_load_row 2 h s row25 rfl rfl (pkArr_size _ _ _) rfl ?_; intro f h
      refine w_on h rfl rfl rfl ?_
      refine w_load_row 1 h s row25 rfl rfl (pkArr_size _ _ _) rfl ?_; intro f h
      refine w_on h rfl rfl rfl ?_
      refine w_call h fnc13 (fun w9 hE9 => ret_val (.bool false) (rsamep_any (cutP p0) (cutP q0) (cutV vs (min p0.1.length 6)) (cutV vu (min q0.1.length 6)) w9 (hP.keep (s.ext.trans hE9)) (hQ.keep (s.ext.trans hE9)) (by omega) (by omega)) (congrArg Value.bool s0)) rfl rfl ?_; intro f h
      refine w_on h rfl rfl rfl ?_
      refine w_pure h (ru_val (.bool false) (ru_neq_bool Try.underlying4 (h.ev rfl) (h.ev rfl)) (congrArg Value.bool (by simp))) rfl ?_; intro f h
      refine w_pure h (ru_pick_f (h.ev rfl) (h.ev rfl)) rfl ?_; intro f h
      refine w_pure h (ru_move (h.ev rfl)) rfl ?_; intro f h
      refine w_on h rfl rfl rfl ?_
      refine w_load_row 2 h s row25 rfl rfl (pkArr_size _ _ _) rfl ?_; intro f h
      refine w_on h rfl rfl rfl ?_
      refine w_load_row 2 h s row25 rfl rfl (pkArr_size _ _ _) rfl ?_; intro f h
      refine w_on h rfl rfl rfl ?_
      refine w_call h fnc12 (fun w9 hE9 => ret_val (.bool true) (psame_any (cutP p0) (cutP p0) (cutV vs (min p0.1.length 6)) (cutV vs (min p0.1.length 6)) w9 (hP.keep (s.ext.trans hE9)) (hP.keep (s.ext.trans hE9)) (by omega) (by omega)) (congrArg Value.bool (by simp))) rfl rfl ?_; intro f h
      refine w_on h rfl rfl rfl ?_
      refine w_pure h (ru_val (.bool false) (ru_not (h.ev rfl)) rfl) rfl ?_; intro f h
      refine w_pure h (ru_pick_f (h.ev rfl) (h.ev rfl)) rfl ?_; intro f h
      refine w_pure h (ru_move (h.ev rfl)) rfl ?_; intro f h
      refine w_on h rfl rfl rfl ?_
      refine w_call h fnc14 (fun w9 hE9 => ret_val (.bool true) (palive_any w9) (congrArg Value.bool (rfl))) rfl rfl ?_; intro f h
      refine w_on h rfl rfl rfl ?_
      refine w_pure h (ru_val (.bool false) (ru_not (h.ev rfl)) rfl) rfl ?_; intro f h
      refine w_pure h (ru_pick_f (h.ev rfl) (h.ev rfl)) rfl ?_; intro f h
      refine w_nil s fun w1 s => ?_
      refine s_nil ?_
      refine hK5 _ _ ?_
      refine wpIn_cond_false (h.ev rfl) ?_
      refine wpIn_skip ?_
      refine hK4 _ _ ?_
      refine c_seq fun K12 hK12 => ?_
      refine c_seq fun K13 hK13 => ?_
      cases t0 : (rightT t : Bool)
      · skip
        refine c_region ?_
        refine s_load_row 2 h s row25 rfl rfl (pkArr_size _ _ _) rfl ?_; intro f h
        refine s_call h s fnc11 (ret_val (.bool true) (rrightp_any (cutP p0) (cutV vs (min p0.1.length 6)) _ (hP.keep s.ext) (by omega)) (congrArg Value.bool r0)) rfl rfl ?_; intro f w1 v9 hT hE h s; obtain rfl := hT
        refine s_pure h (ru_val (.bool false) (ru_not (h.ev rfl)) rfl) rfl ?_; intro f h
        refine s_pure h (ru_move (h.ev rfl)) rfl ?_; intro f h
        refine s_on h rfl rfl rfl ?_
        refine s_pure h (ru_move (h.ev rfl)) rfl ?_; intro f h
        refine s_on h rfl rfl rfl ?_
        refine s_call h s fnc15 (ret_val (.bool false) (rrightt_any t (cutV vh (min l.length 34)) _ (hT.keep s.ext) (by omega)) (congrArg Value.bool t0)) rfl rfl ?_; intro f w1 v9 hT hE h s; obtain rfl := hT
        refine s_on h rfl rfl rfl ?_
        refine s_pure h (ru_val (.bool true) (ru_not (h.ev rfl)) rfl) rfl ?_; intro f h
        refine s_pure h (ru_pick_f (h.ev rfl) (h.ev rfl)) rfl ?_; intro f h
        refine s_nil ?_
        refine hK13 _ _ ?_
        refine wpIn_cond_true (h.ev rfl) ?_
        refine c_seq fun K14 hK14 => ?_
        refine c_region ?_
        obtain ⟨b1, b2⟩ := rwE_no1 (cutP p0) t0
        have lKa : Ka.length = 0 := by rw [← outs_len, hKa, b2]; rfl
        refine s_pure h (ru_move (h.ev rfl)) rfl ?_; intro f h
        refine s_pure h (ru_val (.bool true) (ru_eql (h.ev rfl) (h.ev rfl)) (congrArg Value.bool (by rw [b1]; rfl))) rfl ?_; intro f h
        refine s_pure h (ru_move (h.ev rfl)) rfl ?_; intro f h
        refine s_on h rfl rfl rfl ?_
        refine s_pure h (ru_move (h.ev rfl)) rfl ?_; intro f h
        refine s_on h rfl rfl rfl ?_
        refine s_pure h (ru_lenZ ((((s.getG 0 rfl) (hP.keep s.ext))).1) Try.underlying28 (h.ev rfl)) rfl ?_; intro f h
        refine s_on h rfl rfl rfl ?_
        refine s_pure h (ru_val (.bool true) (ru_eql (h.ev rfl) (h.ev rfl)) (congrArg Value.bool (by rw [lKa]; rfl))) rfl ?_; intro f h
        refine s_pure h (ru_pick_t (h.ev rfl) (h.ev rfl)) rfl ?_; intro f h
        refine s_pure h (ru_assign (h.ev rfl)) rfl ?_; intro f h
        refine s_nil ?_
        refine hK14 _ _ ?_
        refine wpIn_ret ?_
        refine t_ret ?_
        exact e_tmp rfl h s rfl (rfl)
      · skip
        refine c_region ?_
        refine s_load_row 2 h s row25 rfl rfl (pkArr_size _ _ _) rfl ?_; intro f h
        refine s_call h s fnc11 (ret_val (.bool true) (rrightp_any (cutP p0) (cutV vs (min p0.1.length 6)) _ (hP.keep s.ext) (by omega)) (congrArg Value.bool r0)) rfl rfl ?_; intro f w1 v9 hT hE h s; obtain rfl := hT
        refine s_pure h (ru_val (.bool false) (ru_not (h.ev rfl)) rfl) rfl ?_; intro f h
        refine s_pure h (ru_move (h.ev rfl)) rfl ?_; intro f h
        refine s_on h rfl rfl rfl ?_
        refine s_pure h (ru_move (h.ev rfl)) rfl ?_; intro f h
        refine s_on h rfl rfl rfl ?_
        refine s_call h s fnc15 (ret_val (.bool true) (rrightt_any t (cutV vh (min l.length 34)) _ (hT.keep s.ext) (by omega)) (congrArg Value.bool t0)) rfl rfl ?_; intro f w1 v9 hT hE h s; obtain rfl := hT
        refine s_on h rfl rfl rfl ?_
        refine s_pure h (ru_val (.bool false) (ru_not (h.ev rfl)) rfl) rfl ?_; intro f h
        refine s_pure h (ru_pick_f (h.ev rfl) (h.ev rfl)) rfl ?_; intro f h
        refine s_nil ?_
        refine hK13 _ _ ?_
        refine wpIn_cond_false (h.ev rfl) ?_
        refine wpIn_skip ?_
        refine hK12 _ _ ?_
        refine c_seq fun K15 hK15 => ?_
        refine c_region ?_
        obtain ⟨b1, b2⟩ := rwE_ok r0 t0
        rw [b2] at hKa
        obtain ⟨hr1, hr2, hr3, hr4⟩ := rightP_iff.1 r0
        have hsl := step_len (t := t) (p := (cutP p0))
        have lKa : Ka.length = (stepO t (cutP p0)).length := by rw [← hKa, outs_len]
        have dKa := outs_deep hKa (n := 1000) (by omega)
        refine s_pure h (ru_move (h.ev rfl)) rfl ?_; intro f h
        refine s_pure h (ru_val (.bool true) (ru_eql (h.ev rfl) (h.ev rfl)) (congrArg Value.bool (by rw [b1]; rfl))) rfl ?_; intro f h
        refine s_pure h (ru_move (h.ev rfl)) rfl ?_; intro f h
        refine s_on h rfl rfl rfl ?_
        refine s_pure h (ru_move (h.ev rfl)) rfl ?_; intro f h
        refine s_on h rfl rfl rfl ?_
        refine s_pure h (ru_move (h.ev rfl)) rfl ?_; intro f h
        refine s_on h rfl rfl rfl ?_
        refine s_load_row 2 h s row25 rfl rfl (pkArr_size _ _ _) rfl ?_; intro f h
        refine s_on h rfl rfl rfl ?_
        refine s_call h s fnc17 (rstep_any t (cutV vh (min l.length 34)) (cutP p0) (cutV vs (min p0.1.length 6)) _ (hT.keep s.ext) (by omega) (hP.keep s.ext) (by omega) hr1.1 ⟨hr2, hr3⟩) rfl rfl ?_; rintro f w1 v66 ⟨Kb, kb, hKb, hG⟩ hE h sq; replace s := s.add hG; clear hG
        have lKb : Kb.length = (stepO t (cutP p0)).length := by rw [← hKb, outs_len]
        have dKb := outs_deep hKb (n := 1000) (by omega)
        refine s_on h rfl rfl rfl ?_
        refine s_call h s fnc16 (ret_val (.bool true) (rlike_any Ka Kb va v66 _ ((s.getG 2 rfl) (hP.keep s.ext)) (⟨RdZ.of_own (s.getSl 0 rfl), (s.getG 1 rfl) (hP.keep s.ext)⟩ : RdU _ v66 Kb) (by omega) (by omega) dKa dKb) (congrArg Value.bool (by rw [hKa, hKb]; simp))) rfl rfl ?_; intro f w1 v9 hT hE h s; obtain rfl := hT
        refine s_pure h (ru_pick_t (h.ev rfl) (h.ev rfl)) rfl ?_; intro f h
        refine s_pure h (ru_assign (h.ev rfl)) rfl ?_; intro f h
        refine s_nil ?_
        refine hK15 _ _ ?_
        refine wpIn_ret ?_
        exact e_tmp rfl h s rfl (rfl)
    · skip
      refine c_walkN 24 [[], [0], [], [0, 1, 2], [0, 1, 2, 3], [0, 1, 2, 3, 4], [0, 1, 2, 3, 4, 5], [0, 1, 2, 3, 4, 5], [0, 1, 2, 3, 4, 5, 6, 7], [0, 1, 2, 3, 4, 5], [0, 1, 2, 3, 4, 5], [0, 1, 2, 3, 4, 5, 6, 7, 8, 9, 10], [0, 1, 2, 3, 4, 5, 6, 7, 8, 9, 10, 11], [0, 1, 2, 3, 4, 5, 6, 7, 8, 9, 10, 11, 12], [0, 1, 2, 3, 4, 5, 6, 7, 8, 9, 10, 11, 12, 13], [0, 1, 2, 3, 4, 5, 6, 7, 8, 9, 10, 11, 12, 13, 14], [0, 1, 2, 3, 4, 5, 6, 7, 8, 9, 10, 11, 12, 13, 14], [0, 1, 2, 3, 4, 5, 6, 7, 8, 9, 10, 11, 12, 13, 14, 15, 16], [0, 1, 2, 3, 4, 5, 6, 7, 8, 9, 10, 11, 12, 13, 14, 15, 16, 17], [0, 1, 2, 3, 4, 5, 6, 7, 8, 9, 10, 11, 12, 13, 14, 15, 16, 17, 18], [0, 1, 2, 3, 4, 5, 6, 7, 8, 9, 10, 11, 12, 13, 14, 15, 16, 17, 18, 19], [0, 1, 2, 3, 4, 5, 6, 7, 8, 9, 10, 11, 12, 13, 14, 15, 16, 17, 18, 19, 20], [0, 1, 2, 3, 4, 5, 6, 7, 8, 9, 10, 11, 12, 13, 14, 15, 16, 17, 18, 19, 20, 21], [0, 1, 2, 3, 4, 5, 6, 7, 8, 9, 10, 11, 12, 13, 14, 15, 16, 17, 18, 19, 20, 21, 22]] h (by kernel_rfl) (by kernel_rfl) (by kernel_rfl) ?_
      refine w_load_row 2 h s row25 rfl rfl (pkArr_size _ _ _) rfl ?_; intro f h
      refine w_call h fnc10 (fun w9 hE9 => ret_val (.bool true) (pright_any (cutP p0) (cutV vs (min p0.1.length 6)) w9 (hP.keep (s.ext.trans hE9)) (by omega)) (congrArg Value.bool r0)) rfl rfl ?_; intro f h
      refine w_load_row 2 h s row25 rfl rfl (pkArr_size _ _ _) rfl ?_; intro f h
      refine w_call h fnc11 (fun w9 hE9 => ret_val (.bool true) (rrightp_any (cutP p0) (cutV vs (min p0.1.length 6)) w9 (hP.keep (s.ext.trans hE9)) (by omega)) (congrArg Value.bool r0)) rfl rfl ?_; intro f h
      refine w_pure h (ru_val (.bool false) (ru_neq_bool Try.underlying4 (h.ev rfl) (h.ev rfl)) (congrArg Value.bool (by simp))) rfl ?_; intro f h
      refine w_pure h (ru_move (h.ev rfl)) rfl ?_; intro f h
      refine w_on h rfl rfl rfl ?_
      refine w_load_row 2 h s row25 rfl rfl (pkArr_size _ _ _) rfl ?_; intro f h
      refine w_on h rfl rfl rfl ?_
      refine w_load_row 1 h s row25 rfl rfl (pkArr_size _ _ _) rfl ?_; intro f h
      refine w_on h rfl rfl rfl ?_
      refine w_call h fnc12 (fun w9 hE9 => ret_val (.bool true) (psame_any (cutP p0) (cutP q0) (cutV vs (min p0.1.length 6)) (cutV vu (min q0.1.length 6)) w9 (hP.keep (s.ext.trans hE9)) (hQ.keep (s.ext.trans hE9)) (by omega) (by omega)) (congrArg Value.bool s0)) rfl rfl ?_; intro f h
      refine w_on h rfl rfl rfl ?_
      refine w_load_row 2 h s row25 rfl rfl (pkArr_size _ _ _) rfl ?_; intro f h
      refine w_on h rfl rfl rfl ?_
      refine w_load_row 1 h s row25 rfl rfl (pkArr_size _ _ _) rfl ?_; intro f h
      refine w_on h rfl rfl rfl ?_
      refine w_call h fnc13 (fun w9 hE9 => ret_val (.bool true) (rsamep_any (cutP p0) (cutP q0) (cutV vs (min p0.1.length 6)) (cutV vu (min q0.1.length 6)) w9 (hP.keep (s.ext.trans hE9)) (hQ.keep (s.ext.trans hE9)) (by omega) (by omega)) (congrArg Value.bool s0)) rfl rfl ?_; intro f h
      refine w_on h rfl rfl rfl ?_
      refine w_pure h (ru_val (.bool false) (ru_neq_bool Try.underlying4 (h.ev rfl) (h.ev rfl)) (congrArg Value.bool (by simp))) rfl ?_; intro f h
      refine w_pure h (ru_pick_f (h.ev rfl) (h.ev rfl)) rfl ?_; intro f h
      refine w_pure h (ru_move (h.ev rfl)) rfl ?_; intro f h
      refine w_on h rfl rfl rfl ?_
      refine w_load_row 2 h s row25 rfl rfl (pkArr_size _ _ _) rfl ?_; intro f h
      refine w_on h rfl rfl rfl ?_
      refine w_load_row 2 h s row25 rfl rfl (pkArr_size _ _ _) rfl ?_; intro f h
      refine w_on h rfl rfl rfl ?_
      refine w_call h fnc12 (fun w9 hE9 => ret_val (.bool true) (psame_any (cutP p0) (cutP p0) (cutV vs (min p0.1.length 6)) (cutV vs (min p0.1.length 6)) w9 (hP.keep (s.ext.trans hE9)) (hP.keep (s.ext.trans hE9)) (by omega) (by omega)) (congrArg Value.bool (by simp))) rfl rfl ?_; intro f h
      refine w_on h rfl rfl rfl ?_
      refine w_pure h (ru_val (.bool false) (ru_not (h.ev rfl)) rfl) rfl ?_; intro f h
      refine w_pure h (ru_pick_f (h.ev rfl) (h.ev rfl)) rfl ?_; intro f h
      refine w_pure h (ru_move (h.ev rfl)) rfl ?_; intro f h
      refine w_on h rfl rfl rfl ?_
      refine w_call h fnc14 (fun w9 hE9 => ret_val (.bool true) (palive_any w9) (congrArg Value.bool (rfl))) rfl rfl ?_; intro f h
      refine w_on h rfl rfl rfl ?_
      refine w_pure h (ru_val (.bool false) (ru_not (h.ev rfl)) rfl) rfl ?_; intro f h
      refine w_pure h (ru_pick_f (h.ev rfl) (h.ev rfl)) rfl ?_; intro f h
      refine w_nil s fun w1 s => ?_
      refine s_nil ?_
      refine hK5 _ _ ?_
      refine wpIn_cond_false (h.ev rfl) ?_
      refine wpIn_skip ?_
      refine hK4 _ _ ?_
      refine c_seq fun K16 hK16 => ?_
      refine c_seq fun K17 hK17 => ?_
      cases t0 : (rightT t : Bool)
      · skip
        refine c_region ?_
        refine s_load_row 2 h s row25 rfl rfl (pkArr_size _ _ _) rfl ?_; intro f h
        refine s_call h s fnc11 (ret_val (.bool true) (rrightp_any (cutP p0) (cutV vs (min p0.1.length 6)) _ (hP.keep s.ext) (by omega)) (congrArg Value.bool r0)) rfl rfl ?_; intro f w1 v9 hT hE h s; obtain rfl := hT
        refine s_pure h (ru_val (.bool false) (ru_not (h.ev rfl)) rfl) rfl ?_; intro f h
        refine s_pure h (ru_move (h.ev rfl)) rfl ?_; intro f h
        refine s_on h rfl rfl rfl ?_
        refine s_pure h (ru_move (h.ev rfl)) rfl ?_; intro f h
        refine s_on h rfl rfl rfl ?_
        refine s_call h s fnc15 (ret_val (.bool false) (rrightt_any t (cutV vh (min l.length 34)) _ (hT.keep s.ext) (by omega)) (congrArg Value.bool t0)) rfl rfl ?_; intro f w1 v9 hT hE h s; obtain rfl := hT
        refine s_on h rfl rfl rfl ?_
        refine s_pure h (ru_val (.bool true) (ru_not (h.ev rfl)) rfl) rfl ?_; intro f h
        refine s_pure h (ru_pick_f (h.ev rfl) (h.ev rfl)) rfl ?_; intro f h
        refine s_nil ?_
        refine hK17 _ _ ?_
        refine wpIn_cond_true (h.ev rfl) ?_
        refine c_seq fun K18 hK18 => ?_
        refine c_region ?_
        obtain ⟨b1, b2⟩ := rwE_no1 (cutP p0) t0
        have lKa : Ka.length = 0 := by rw [← outs_len, hKa, b2]; rfl
        refine s_pure h (ru_move (h.ev rfl)) rfl ?_; intro f h
        refine s_pure h (ru_val (.bool true) (ru_eql (h.ev rfl) (h.ev rfl)) (congrArg Value.bool (by rw [b1]; rfl))) rfl ?_; intro f h
        refine s_pure h (ru_move (h.ev rfl)) rfl ?_; intro f h
        refine s_on h rfl rfl rfl ?_
        refine s_pure h (ru_move (h.ev rfl)) rfl ?_; intro f h
        refine s_on h rfl rfl rfl ?_
        refine s_pure h (ru_lenZ ((((s.getG 0 rfl) (hP.keep s.ext))).1) Try.underlying28 (h.ev rfl)) rfl ?_; intro f h
        refine s_on h rfl rfl rfl ?_
        refine s_pure h (ru_val (.bool true) (ru_eql (h.ev rfl) (h.ev rfl)) (congrArg Value.bool (by rw [lKa]; rfl))) rfl ?_; intro f h
        refine s_pure h (ru_pick_t (h.ev rfl) (h.ev rfl)) rfl ?_; intro f h
        refine s_pure h (ru_assign (h.ev rfl)) rfl ?_; intro f h
        refine s_nil ?_
        refine hK18 _ _ ?_
        refine wpIn_ret ?_
        refine t_ret ?_
        exact e_tmp rfl h s rfl (rfl)
      · skip
        refine c_region ?_
        refine s_load_row 2 h s row25 rfl rfl (pkArr_size _ _ _) rfl ?_; intro f h
        refine s_call h s fnc11 (ret_val (.bool true) (rrightp_any (cutP p0) (cutV vs (min p0.1.length 6)) _ (hP.keep s.ext) (by omega)) (congrArg Value.bool r0)) rfl rfl ?_; intro f w1 v9 hT hE h s; obtain rfl := hT
        refine s_pure h (ru_val (.bool false) (ru_not (h.ev rfl)) rfl) rfl ?_; intro f h
        refine s_pure h (ru_move (h.ev rfl)) rfl ?_; intro f h
        refine s_on h rfl rfl rfl ?_
        refine s_pure h (ru_move (h.ev rfl)) rfl ?_; intro f h
        refine s_on h rfl rfl rfl ?_
        refine s_call h s fnc15 (ret_val (.bool true) (rrightt_any t (cutV vh (min l.length 34)) _ (hT.keep s.ext) (by omega)) (congrArg Value.bool t0)) rfl rfl ?_; intro f w1 v9 hT hE h s; obtain rfl := hT
        refine s_on h rfl rfl rfl ?_
        refine s_pure h (ru_val (.bool false) (ru_not (h.ev rfl)) rfl) rfl ?_; intro f h
        refine s_pure h (ru_pick_f (h.ev rfl) (h.ev rfl)) rfl ?_; intro f h
        refine s_nil ?_
        refine hK17 _ _ ?_
        refine wpIn_cond_false (h.ev rfl) ?_
        refine wpIn_skip ?_
        refine hK16 _ _ ?_
        refine c_seq fun K19 hK19 => ?_
        refine c_region ?_
        obtain ⟨b1, b2⟩ := rwE_ok r0 t0
        rw [b2] at hKa
        obtain ⟨hr1, hr2, hr3, hr4⟩ := rightP_iff.1 r0
        have hsl := step_len (t := t) (p := (cutP p0))
        have lKa : Ka.length = (stepO t (cutP p0)).length := by rw [← hKa, outs_len]
        have dKa := outs_deep hKa (n := 1000) (by omega)
        refine s_pure h (ru_move (h.ev rfl)) rfl ?_; intro f h
        refine s_pure h (ru_val (.bool true) (ru_eql (h.ev rfl) (h.ev rfl)) (congrArg Value.bool (by rw [b1]; rfl))) rfl ?_; intro f h
        refine s_pure h (ru_move (h.ev rfl)) rfl ?_; intro f h
        refine s_on h rfl rfl rfl ?_
        refine s_pure h (ru_move (h.ev rfl)) rfl ?_; intro f h
        refine s_on h rfl rfl rfl ?_
        refine s_pure h (ru_move (h.ev rfl)) rfl ?_; intro f h
        refine s_on h rfl rfl rfl ?_
        refine s_load_row 2 h s row25 rfl rfl (pkArr_size _ _ _) rfl ?_; intro f h
        refine s_on h rfl rfl rfl ?_
        refine s_call h s fnc17 (rstep_any t (cutV vh (min l.length 34)) (cutP p0) (cutV vs (min p0.1.length 6)) _ (hT.keep s.ext) (by omega) (hP.keep s.ext) (by omega) hr1.1 ⟨hr2, hr3⟩) rfl rfl ?_; rintro f w1 v66 ⟨Kb, kb, hKb, hG⟩ hE h sq; replace s := s.add hG; clear hG
        have lKb : Kb.length = (stepO t (cutP p0)).length := by rw [← hKb, outs_len]
        have dKb := outs_deep hKb (n := 1000) (by omega)
        refine s_on h rfl rfl rfl ?_
        refine s_call h s fnc16 (ret_val (.bool true) (rlike_any Ka Kb va v66 _ ((s.getG 2 rfl) (hP.keep s.ext)) (⟨RdZ.of_own (s.getSl 0 rfl), (s.getG 1 rfl) (hP.keep s.ext)⟩ : RdU _ v66 Kb) (by omega) (by omega) dKa dKb) (congrArg Value.bool (by rw [hKa, hKb]; simp))) rfl rfl ?_; intro f w1 v9 hT hE h s; obtain rfl := hT
        refine s_pure h (ru_pick_t (h.ev rfl) (h.ev rfl)) rfl ?_; intro f h
        refine s_pure h (ru_assign (h.ev rfl)) rfl ?_; intro f h
        refine s_nil ?_
        refine hK19 _ _ ?_
        refine wpIn_ret ?_
        exact e_tmp rfl h s rfl (rfl)
end Go.Proofs.Ythnmonfhanbghaa
