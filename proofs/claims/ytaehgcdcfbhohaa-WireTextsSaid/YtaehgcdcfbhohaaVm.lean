/- What WireTexts answers: for all arguments. -/
import Derived.Test.YtaehgcdcfbhohaaVk
import Derived.Test.YtaehgcdcfbhohaaVd
import Derived.Test.YtaehgcdcfbhohaaVf
set_option linter.unusedVariables false
set_option linter.unusedSimpArgs false
set_option linter.unusedSectionVars false
namespace Go.Proofs.Ytaehgcdcfbhohaa
open Go.RowKit
set_option maxHeartbeats 4000000 in
theorem wtexts_any (v1 : Value) (a : Mg) (v2 : Value) (b : Mg) (w : World) (hv1 : RdZ w v1 34 a.l.length (eCells a.l)) (hv2 : RdZ w v2 34 b.l.length (eCells b.l)) : Calls Try.prog 3 [.agg (mArr a v1), .agg (mArr b v2)].toArray w (Ret w (is (.bool true))) := by
  obtain ⟨m, qm⟩ : ∃ x9, x9 = cutM a := ⟨_, rfl⟩
  obtain ⟨vm, qvm⟩ : ∃ x9, x9 = cutV v1 (min a.l.length 6) := ⟨_, rfl⟩
  have hvm : RdZ w vm 34 m.l.length (eCells m.l) := by rw [qvm, qm]; exact re_take hv1 _ (by omega)
  have lm : m.l.length ≤ 6 := by rw [qm]; exact cutM_l _
  have om : m.o.size ≤ 20 := by rw [qm]; exact cutM_o _
  have dm : m.d.size ≤ 70 := by rw [qm]; exact cutM_d _
  obtain ⟨n, qn⟩ : ∃ x9, x9 = cutM b := ⟨_, rfl⟩
  obtain ⟨vn, qvn⟩ : ∃ x9, x9 = cutV v2 (min b.l.length 6) := ⟨_, rfl⟩
  have hvn : RdZ w vn 34 n.l.length (eCells n.l) := by rw [qvn, qn]; exact re_take hv2 _ (by omega)
  have ln : n.l.length ≤ 6 := by rw [qn]; exact cutM_l _
  have on : n.o.size ≤ 20 := by rw [qn]; exact cutM_o _
  have dn : n.d.size ≤ 70 := by rw [qn]; exact cutM_d _
  refine c_enter Try.func3 rfl Try.ntmps3 rfl [(0, .agg (mArr a v1)), (1, .agg (mArr b v2))] (by simp) fun f h => ?_
  have s := St.start w
  refine c_seq fun K1 hK1 => ?_
  refine c_region ?_
  refine s_box ((mArr a v1)) h s rfl rfl rfl ?_; intro f w1 b2 h s
  refine s_box ((mArr b v2)) h s rfl rfl rfl ?_; intro f w1 b3 h s
  refine s_pure h (ru_assign (h.ev rfl)) rfl ?_; intro f h
  refine s_nil ?_
  refine hK1 _ _ ?_
  refine c_seq fun K2 hK2 => ?_
  refine c_walkN 4 [[], [0], [], [0, 1, 2]] h (by kernel_rfl) (by kernel_rfl) (by kernel_rfl) ?_
  refine w_load_row 1 h s row28 rfl rfl (mArr_size _ _) rfl ?_; intro f h
  refine w_call h fnc7 (fun w9 hE9 => ret_val (.agg (mArr m vm)) (cut5_any a v1 w9 (hv1.keep (s.ext.trans hE9))) (by rw [qm, qvm])) rfl rfl ?_; intro f h
  refine w_load_row 0 h s row28 rfl rfl (mArr_size _ _) rfl ?_; intro f h
  refine w_call h fnc7 (fun w9 hE9 => ret_val (.agg (mArr n vn)) (cut5_any b v2 w9 (hv2.keep (s.ext.trans hE9))) (by rw [qn, qvn])) rfl rfl ?_; intro f h
  refine w_nil s fun w1 s => ?_
  refine s_store_row 1 h s row28 rfl rfl rfl (mArr_size _ _) (mArr_size _ _) (mArr_ones _ _ (rdz_one hvm)) ?_; intro w1 s
  refine s_store_row 0 h s row28 rfl rfl rfl (mArr_size _ _) (mArr_size _ _) (mArr_ones _ _ (rdz_one hvn)) ?_; intro w1 s
  refine s_nil ?_
  refine hK2 _ _ ?_
  refine c_seq fun K3 hK3 => ?_
  refine c_region ?_
  refine s_load_row 1 h s row28 rfl rfl (mArr_size _ _) rfl ?_; intro f h
  refine s_call h s fnc8 (wtext_any m vm _ (hvm.keep s.ext) (by omega)) rfl rfl ?_; intro f w1 v9 hT hE h s; obtain rfl := hT
  refine s_pure h (ru_move (h.ev rfl)) rfl ?_; intro f h
  refine s_pure h (ru_extract (h.ev rfl) rfl) rfl ?_; intro f h
  refine s_pure h (ru_extract (h.ev rfl) rfl) rfl ?_; intro f h
  refine s_pure h (ru_assign (h.ev rfl)) rfl ?_; intro f h
  refine s_pure h (ru_assign (h.ev rfl)) rfl ?_; intro f h
  refine s_nil ?_
  refine hK3 _ _ ?_
  refine c_seq fun K4 hK4 => ?_
  refine c_seq fun K5 hK5 => ?_
  refine c_walkN 24 [[], [0], [], [0, 1, 2], [0, 1, 2, 3], [0, 1, 2, 3, 4], [0, 1, 2, 3, 4, 5], [0, 1, 2, 3, 4, 5], [0, 1, 2, 3, 4, 5, 6, 7], [0, 1, 2, 3, 4, 5], [0, 1, 2, 3, 4, 5], [0, 1, 2, 3, 4, 5, 6, 7, 8, 9, 10], [0, 1, 2, 3, 4, 5, 6, 7, 8, 9, 10, 11], [0, 1, 2, 3, 4, 5, 6, 7, 8, 9, 10, 11, 12], [0, 1, 2, 3, 4, 5, 6, 7, 8, 9, 10, 11, 12, 13], [0, 1, 2, 3, 4, 5, 6, 7, 8, 9, 10, 11, 12, 13, 14], [0, 1, 2, 3, 4, 5, 6, 7, 8, 9, 10, 11, 12, 13, 14], [0, 1, 2, 3, 4, 5, 6, 7, 8, 9, 10, 11, 12, 13, 14, 15, 16], [0, 1, 2, 3, 4, 5, 6, 7, 8, 9, 10, 11, 12, 13, 14, 15, 16, 17], [0, 1, 2, 3, 4, 5, 6, 7, 8, 9, 10, 11, 12, 13, 14, 15, 16, 17, 18], [0, 1, 2, 3, 4, 5, 6, 7, 8, 9, 10, 11, 12, 13, 14, 15, 16, 17, 18, 19], [0, 1, 2, 3, 4, 5, 6, 7, 8, 9, 10, 11, 12, 13, 14, 15, 16, 17, 18, 19, 20], [0, 1, 2, 3, 4, 5, 6, 7, 8, 9, 10, 11, 12, 13, 14, 15, 16, 17, 18, 19, 20, 21], [0, 1, 2, 3, 4, 5, 6, 7, 8, 9, 10, 11, 12, 13, 14, 15, 16, 17, 18, 19, 20, 21, 22]] h (by kernel_rfl) (by kernel_rfl) (by kernel_rfl) ?_
  refine w_load_row 1 h s row28 rfl rfl (mArr_size _ _) rfl ?_; intro f h
  refine w_call h fnc9 (fun w9 hE9 => wright_any m vm w9 (hvm.keep (s.ext.trans hE9)) (by omega)) rfl rfl ?_; intro f h
  refine w_load_row 1 h s row28 rfl rfl (mArr_size _ _) rfl ?_; intro f h
  refine w_call h fnc10 (fun w9 hE9 => rright5_any m vm w9 (hvm.keep (s.ext.trans hE9)) (by omega)) rfl rfl ?_; intro f h
  refine w_pure h (ru_val (.bool false) (ru_neq_bool Try.underlying4 (h.ev rfl) (h.ev rfl)) (congrArg Value.bool (bne_self_f _))) rfl ?_; intro f h
  refine w_pure h (ru_move (h.ev rfl)) rfl ?_; intro f h
  refine w_on h rfl rfl rfl ?_
  refine w_load_row 1 h s row28 rfl rfl (mArr_size _ _) rfl ?_; intro f h
  refine w_on h rfl rfl rfl ?_
  refine w_load_row 0 h s row28 rfl rfl (mArr_size _ _) rfl ?_; intro f h
  refine w_on h rfl rfl rfl ?_
  refine w_call h fnc11 (fun w9 hE9 => wlike_any m n vm vn w9 (hvm.keep (s.ext.trans hE9)) (hvn.keep (s.ext.trans hE9)) (by omega) (by omega)) rfl rfl ?_; intro f h
  refine w_on h rfl rfl rfl ?_
  refine w_load_row 1 h s row28 rfl rfl (mArr_size _ _) rfl ?_; intro f h
  refine w_on h rfl rfl rfl ?_
  refine w_load_row 0 h s row28 rfl rfl (mArr_size _ _) rfl ?_; intro f h
  refine w_on h rfl rfl rfl ?_
  refine w_call h fnc12 (fun w9 hE9 => rlike_any m n vm vn w9 (hvm.keep (s.ext.trans hE9)) (hvn.keep (s.ext.trans hE9)) (by omega) (by omega)) rfl rfl ?_; intro f h
  refine w_on h rfl rfl rfl ?_
  refine w_pure h (ru_val (.bool false) (ru_neq_bool Try.underlying4 (h.ev rfl) (h.ev rfl)) (congrArg Value.bool (bne_self_f _))) rfl ?_; intro f h
  refine w_pure h (ru_pick_f (h.ev rfl) (h.ev rfl)) rfl ?_; intro f h
  refine w_pure h (ru_move (h.ev rfl)) rfl ?_; intro f h
  refine w_on h rfl rfl rfl ?_
  refine w_load_row 1 h s row28 rfl rfl (mArr_size _ _) rfl ?_; intro f h
  refine w_on h rfl rfl rfl ?_
  refine w_load_row 1 h s row28 rfl rfl (mArr_size _ _) rfl ?_; intro f h
  refine w_on h rfl rfl rfl ?_
  refine w_call h fnc11 (fun w9 hE9 => ret_val (.bool true) (wlike_any m m vm vm w9 (hvm.keep (s.ext.trans hE9)) (hvm.keep (s.ext.trans hE9)) (by omega) (by omega)) (congrArg Value.bool (mEqB_refl _))) rfl rfl ?_; intro f h
  refine w_on h rfl rfl rfl ?_
  refine w_pure h (ru_val (.bool false) (ru_not (h.ev rfl)) rfl) rfl ?_; intro f h
  refine w_pure h (ru_pick_f (h.ev rfl) (h.ev rfl)) rfl ?_; intro f h
  refine w_pure h (ru_move (h.ev rfl)) rfl ?_; intro f h
  refine w_on h rfl rfl rfl ?_
  refine w_call h fnc13 (fun w9 hE9 => alive5_any w9) rfl rfl ?_; intro f h
  refine w_on h rfl rfl rfl ?_
  refine w_pure h (ru_val (.bool false) (ru_not (h.ev rfl)) rfl) rfl ?_; intro f h
  refine w_pure h (ru_pick_f (h.ev rfl) (h.ev rfl)) rfl ?_; intro f h
  refine w_nil s fun w1 s => ?_
  refine s_nil ?_
  refine hK5 _ _ ?_
  refine wpIn_cond_false (h.ev rfl) ?_
  refine wpIn_skip ?_
  refine hK4 _ _ ?_
  refine c_seq fun K6 hK6 => ?_
  refine c_seq fun K7 hK7 => ?_
  cases hr : (rightM m : Bool)
  · skip
    refine c_region ?_
    refine s_load_row 1 h s row28 rfl rfl (mArr_size _ _) rfl ?_; intro f h
    refine s_call h s fnc10 (ret_val (.bool false) (rright5_any m vm _ (hvm.keep s.ext) (by omega)) (congrArg Value.bool hr)) rfl rfl ?_; intro f w1 v9 hT hE h s; obtain rfl := hT
    refine s_pure h (ru_val (.bool true) (ru_not (h.ev rfl)) rfl) rfl ?_; intro f h
    refine s_nil ?_
    refine hK7 _ _ ?_
    refine wpIn_cond_true (h.ev rfl) ?_
    refine c_seq fun K8 hK8 => ?_
    refine c_region ?_
    refine s_pure h (ru_move (h.ev rfl)) rfl ?_; intro f h
    refine s_pure h (ru_val (.bool true) (ru_eql (h.ev rfl) (h.ev rfl)) (congrArg Value.bool (decide_eq_true (mtR_f hr)))) rfl ?_; intro f h
    refine s_pure h (ru_move (h.ev rfl)) rfl ?_; intro f h
    refine s_on h rfl rfl rfl ?_
    refine s_pure h (ru_move (h.ev rfl)) rfl ?_; intro f h
    refine s_on h rfl rfl rfl ?_
    refine s_pure h (ru_val (.bool true) (ru_eql_str (h.ev rfl) (h.ev rfl)) (congrArg Value.bool (decide_eq_true (mtW_f hr)))) rfl ?_; intro f h
    refine s_pure h (ru_pick_t (h.ev rfl) (h.ev rfl)) rfl ?_; intro f h
    refine s_pure h (ru_assign (h.ev rfl)) rfl ?_; intro f h
    refine s_nil ?_
    refine hK8 _ _ ?_
    refine wpIn_ret ?_
    refine t_ret ?_
    exact e_tmp rfl h s rfl (rfl)
  · skip
    refine c_region ?_
    refine s_load_row 1 h s row28 rfl rfl (mArr_size _ _) rfl ?_; intro f h
    refine s_call h s fnc10 (ret_val (.bool true) (rright5_any m vm _ (hvm.keep s.ext) (by omega)) (congrArg Value.bool hr)) rfl rfl ?_; intro f w1 v9 hT hE h s; obtain rfl := hT
    refine s_pure h (ru_val (.bool false) (ru_not (h.ev rfl)) rfl) rfl ?_; intro f h
    refine s_nil ?_
    refine hK7 _ _ ?_
    refine wpIn_cond_false (h.ev rfl) ?_
    refine wpIn_skip ?_
    refine hK6 _ _ ?_
    refine c_seq fun K9 hK9 => ?_
    refine c_region ?_
    refine s_pure h (ru_move (h.ev rfl)) rfl ?_; intro f h
    refine s_pure h (ru_val (.bool true) (ru_eql (h.ev rfl) (h.ev rfl)) (congrArg Value.bool (decide_eq_true (mtR_t hr)))) rfl ?_; intro f h
    refine s_pure h (ru_move (h.ev rfl)) rfl ?_; intro f h
    refine s_on h rfl rfl rfl ?_
    refine s_pure h (ru_move (h.ev rfl)) rfl ?_; intro f h
    refine s_on h rfl rfl rfl ?_
    refine s_load_row 1 h s row28 rfl rfl (mArr_size _ _) rfl ?_; intro f h
    refine s_on h rfl rfl rfl ?_
    refine s_call h s fnc14 (rtext5_any m hr vm _ (hvm.keep s.ext) (by omega)) rfl rfl ?_; intro f w1 v9 hT hE h s; obtain rfl := hT
    refine s_on h rfl rfl rfl ?_
    refine s_pure h (ru_val (.bool true) (ru_eql_str (h.ev rfl) (h.ev rfl)) (congrArg Value.bool (decide_eq_true (mtW_t hr)))) rfl ?_; intro f h
    refine s_pure h (ru_pick_t (h.ev rfl) (h.ev rfl)) rfl ?_; intro f h
    refine s_pure h (ru_assign (h.ev rfl)) rfl ?_; intro f h
    refine s_nil ?_
    refine hK9 _ _ ?_
    refine wpIn_ret ?_
    exact e_tmp rfl h s rfl (rfl)
end Go.Proofs.Ytaehgcdcfbhohaa
