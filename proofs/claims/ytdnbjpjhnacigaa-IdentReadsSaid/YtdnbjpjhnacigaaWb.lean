/- What the laws of layer 1 answer: for all arguments. -/
import Derived.Test.YtdnbjpjhnacigaaWa
set_option linter.unusedVariables false
set_option linter.unusedSimpArgs false
namespace Go.Proofs.Ytdnbjpjhnacigaa
open Go.RowKit
theorem rounds_any (a b c : Id) (w : World) : Calls Try.prog 6 [idV a, idV b, idV c].toArray w (Ret w (is (.bool true))) := by
  refine c_enter Try.func6 rfl Try.ntmps6 rfl [(0, idV a), (1, idV b), (2, idV c)] (by simp) fun f h => ?_
  have s := St.start w
  refine c_seq fun K1 hK1 => ?_
  refine c_region ?_
  refine s_box (idArr a) h s rfl rfl rfl ?_; intro f w1 b3 h s
  refine s_box (idArr b) h s rfl rfl rfl ?_; intro f w1 b4 h s
  refine s_box (idArr c) h s rfl rfl rfl ?_; intro f w1 b5 h s
  refine s_pure h (ru_assign (h.ev rfl)) rfl ?_; intro f h
  refine s_nil ?_
  refine hK1 _ _ ?_
  refine c_seq fun K2 hK2 => ?_
  refine c_seq fun K3 hK3 => ?_
  refine c_walkN 26 [[], [], [0, 1], [], [], [0, 1, 2, 3, 4], [0, 1, 2, 3, 4, 5], [], [], [0, 1, 2, 3, 4, 5, 6, 7, 8], [0, 1, 2, 3, 4, 5, 6, 7, 8, 9], [0, 1, 2, 3, 4, 5, 6, 7, 8, 9, 10], [0, 1, 2, 3, 4, 5, 6, 7, 8, 9, 10, 11], [0, 1, 2, 3, 4, 5, 6, 7, 8, 9, 10, 11], [0, 1, 2, 3, 4, 5, 6, 7, 8, 9, 10, 11, 12, 13], [0, 1, 2, 3, 4, 5, 6, 7, 8, 9, 10, 11], [0, 1, 2, 3, 4, 5, 6, 7, 8, 9, 10, 11], [0, 1, 2, 3, 4, 5, 6, 7, 8, 9, 10, 11, 12, 13, 14, 15, 16], [0, 1, 2, 3, 4, 5, 6, 7, 8, 9, 10, 11, 12, 13, 14, 15, 16, 17], [0, 1, 2, 3, 4, 5, 6, 7, 8, 9, 10, 11], [0, 1, 2, 3, 4, 5, 6, 7, 8, 9, 10, 11, 12, 13, 14, 15, 16, 17, 18, 19], [0, 1, 2, 3, 4, 5, 6, 7, 8, 9, 10, 11, 12, 13, 14, 15, 16, 17, 18, 19, 20], [0, 1, 2, 3, 4, 5, 6, 7, 8, 9, 10, 11, 12, 13, 14, 15, 16, 17, 18, 19, 20, 21], [0, 1, 2, 3, 4, 5, 6, 7, 8, 9, 10, 11, 12, 13, 14, 15, 16, 17, 18, 19, 20, 21, 22], [0, 1, 2, 3, 4, 5, 6, 7, 8, 9, 10, 11, 12, 13, 14, 15, 16, 17, 18, 19, 20, 21, 22, 23], [0, 1, 2, 3, 4, 5, 6, 7, 8, 9, 10, 11, 12, 13, 14, 15, 16, 17, 18, 19, 20, 21, 22, 23, 24]] h (by kernel_rfl) (by kernel_rfl) (by kernel_rfl) ?_
  refine w_load_row 2 h s row23 rfl rfl (idArr_size _) rfl ?_; intro f h
  refine w_load_row 1 h s row23 rfl rfl (idArr_size _) rfl ?_; intro f h
  refine w_call h fnc13 (far_any _ _) rfl rfl ?_; intro f h
  refine w_load_row 1 h s row23 rfl rfl (idArr_size _) rfl ?_; intro f h
  refine w_load_row 0 h s row23 rfl rfl (idArr_size _) rfl ?_; intro f h
  refine w_call h fnc13 (far_any _ _) rfl rfl ?_; intro f h
  refine w_call h fnc16 (add_any _ _) rfl rfl ?_; intro f h
  refine w_load_row 2 h s row23 rfl rfl (idArr_size _) rfl ?_; intro f h
  refine w_load_row 0 h s row23 rfl rfl (idArr_size _) rfl ?_; intro f h
  refine w_call h fnc13 (far_any _ _) rfl rfl ?_; intro f h
  refine w_pure h (ru_val (.bool false) (ru_neq_id idTy (h.ev rfl) (h.ev rfl)) (congrArg Value.bool (decide_eq_false (not_not_intro (l_add _ _ _))))) rfl ?_; intro f h
  refine w_pure h (ru_move (h.ev rfl)) rfl ?_; intro f h
  refine w_on h rfl rfl rfl ?_
  refine w_load_row 2 h s row23 rfl rfl (idArr_size _) rfl ?_; intro f h
  refine w_on h rfl rfl rfl ?_
  refine w_load_row 1 h s row23 rfl rfl (idArr_size _) rfl ?_; intro f h
  refine w_on h rfl rfl rfl ?_
  refine w_call h fnc13 (far_any _ _) rfl rfl ?_; intro f h
  refine w_on h rfl rfl rfl ?_
  refine w_load_row 1 h s row23 rfl rfl (idArr_size _) rfl ?_; intro f h
  refine w_on h rfl rfl rfl ?_
  refine w_load_row 2 h s row23 rfl rfl (idArr_size _) rfl ?_; intro f h
  refine w_on h rfl rfl rfl ?_
  refine w_call h fnc13 (far_any _ _) rfl rfl ?_; intro f h
  refine w_on h rfl rfl rfl ?_
  refine w_call h fnc16 (add_any _ _) rfl rfl ?_; intro f h
  refine w_on h rfl rfl rfl ?_
  refine w_pure h (ru_build0 idTy) rfl ?_; intro f h
  refine w_on h rfl rfl rfl ?_
  refine w_pure h (ru_val (.bool false) (ru_neq_id idTy (h.ev rfl) (h.ev rfl)) (congrArg Value.bool (decide_eq_false (not_not_intro (l_there _ _))))) rfl ?_; intro f h
  refine w_pure h (ru_pick_f (h.ev rfl) (h.ev rfl)) rfl ?_; intro f h
  refine w_pure h (ru_move (h.ev rfl)) rfl ?_; intro f h
  refine w_on h rfl rfl rfl ?_
  refine w_call h fnc15 (alive_any) rfl rfl ?_; intro f h
  refine w_on h rfl rfl rfl ?_
  refine w_pure h (ru_val (.bool false) (ru_not (h.ev rfl)) rfl) rfl ?_; intro f h
  refine w_pure h (ru_pick_f (h.ev rfl) (h.ev rfl)) rfl ?_; intro f h
  refine w_nil s fun w1 s => ?_
  refine s_nil ?_
  refine hK3 _ _ ?_
  refine wp_cond_false (h.ev rfl) ?_
  refine wp_skip ?_
  refine hK2 _ _ ?_
  refine c_seq fun K4 hK4 => ?_
  refine c_walkN 26 [[], [], [], [1, 2], [0, 1, 2, 3], [], [0, 1, 2, 3, 4, 5], [0, 1, 2, 3, 4, 5, 6], [0, 1, 2, 3, 4, 5, 6, 7], [0, 1, 2, 3, 4, 5, 6, 7], [0, 1, 2, 3, 4, 5, 6, 7, 8, 9], [0, 1, 2, 3, 4, 5, 6, 7], [0, 1, 2, 3, 4, 5, 6, 7, 8, 9, 10, 11], [0, 1, 2, 3, 4, 5, 6, 7, 8, 9, 10, 11, 12], [0, 1, 2, 3, 4, 5, 6, 7, 8, 9, 10, 11, 12, 13], [0, 1, 2, 3, 4, 5, 6, 7, 8, 9, 10, 11, 12, 13, 14], [0, 1, 2, 3, 4, 5, 6, 7, 8, 9, 10, 11, 12, 13, 14], [0, 1, 2, 3, 4, 5, 6, 7, 8, 9, 10, 11, 12, 13, 14, 15, 16], [0, 1, 2, 3, 4, 5, 6, 7, 8, 9, 10, 11, 12, 13, 14], [0, 1, 2, 3, 4, 5, 6, 7, 8, 9, 10, 11, 12, 13, 14, 15, 16, 17, 18], [0, 1, 2, 3, 4, 5, 6, 7, 8, 9, 10, 11, 12, 13, 14], [0, 1, 2, 3, 4, 5, 6, 7, 8, 9, 10, 11, 12, 13, 14], [0, 1, 2, 3, 4, 5, 6, 7, 8, 9, 10, 11, 12, 13, 14, 20, 21], [0, 1, 2, 3, 4, 5, 6, 7, 8, 9, 10, 11, 12, 13, 14, 15, 16, 17, 18, 19, 20, 21, 22], [0, 1, 2, 3, 4, 5, 6, 7, 8, 9, 10, 11, 12, 13, 14, 15, 16, 17, 18, 19, 20, 21, 22, 23], [0, 1, 2, 3, 4, 5, 6, 7, 8, 9, 10, 11, 12, 13, 14, 15, 16, 17, 18, 19, 20, 21, 22, 23, 24]] h (by kernel_rfl) (by kernel_rfl) (by kernel_rfl) ?_
  refine w_load_row 2 h s row23 rfl rfl (idArr_size _) rfl ?_; intro f h
  refine w_load_row 2 h s row23 rfl rfl (idArr_size _) rfl ?_; intro f h
  refine w_load_row 1 h s row23 rfl rfl (idArr_size _) rfl ?_; intro f h
  refine w_call h fnc13 (far_any _ _) rfl rfl ?_; intro f h
  refine w_call h fnc16 (add_any _ _) rfl rfl ?_; intro f h
  refine w_load_row 1 h s row23 rfl rfl (idArr_size _) rfl ?_; intro f h
  refine w_pure h (ru_val (.bool true) (ru_eql_id idTy (h.ev rfl) (h.ev rfl)) (congrArg Value.bool (decide_eq_true (l_leads _ _)))) rfl ?_; intro f h
  refine w_pure h (ru_move (h.ev rfl)) rfl ?_; intro f h
  refine w_on h rfl rfl rfl ?_
  refine w_load_row 2 h s row23 rfl rfl (idArr_size _) rfl ?_; intro f h
  refine w_on h rfl rfl rfl ?_
  refine w_load_row 2 h s row23 rfl rfl (idArr_size _) rfl ?_; intro f h
  refine w_on h rfl rfl rfl ?_
  refine w_call h fnc13 (far_any _ _) rfl rfl ?_; intro f h
  refine w_on h rfl rfl rfl ?_
  refine w_pure h (ru_build0 idTy) rfl ?_; intro f h
  refine w_on h rfl rfl rfl ?_
  refine w_pure h (ru_val (.bool true) (ru_eql_id idTy (h.ev rfl) (h.ev rfl)) (congrArg Value.bool (decide_eq_true (l_none _)))) rfl ?_; intro f h
  refine w_pure h (ru_pick_t (h.ev rfl) (h.ev rfl)) rfl ?_; intro f h
  refine w_pure h (ru_move (h.ev rfl)) rfl ?_; intro f h
  refine w_on h rfl rfl rfl ?_
  refine w_load_row 2 h s row23 rfl rfl (idArr_size _) rfl ?_; intro f h
  refine w_on h rfl rfl rfl ?_
  refine w_load_row 1 h s row23 rfl rfl (idArr_size _) rfl ?_; intro f h
  refine w_on h rfl rfl rfl ?_
  refine w_call h fnc13 (far_any _ _) rfl rfl ?_; intro f h
  refine w_on h rfl rfl rfl ?_
  refine w_pure h (ru_build0 idTy) rfl ?_; intro f h
  refine w_on h rfl rfl rfl ?_
  refine w_pure h (ru_eql_id idTy (h.ev rfl) (h.ev rfl)) rfl ?_; intro f h
  refine w_on h rfl rfl rfl ?_
  refine w_load_row 2 h s row23 rfl rfl (idArr_size _) rfl ?_; intro f h
  refine w_on h rfl rfl rfl ?_
  refine w_load_row 1 h s row23 rfl rfl (idArr_size _) rfl ?_; intro f h
  refine w_on h rfl rfl rfl ?_
  refine w_pure h (ru_eql_id idTy (h.ev rfl) (h.ev rfl)) rfl ?_; intro f h
  refine w_on h rfl rfl rfl ?_
  refine w_pure h (ru_val (.bool true) (ru_eql_bool Try.underlying4 (h.ev rfl) (h.ev rfl)) (congrArg Value.bool (l_zero _ _))) rfl ?_; intro f h
  refine w_pure h (ru_pick_t (h.ev rfl) (h.ev rfl)) rfl ?_; intro f h
  refine w_pure h (ru_assign (h.ev rfl)) rfl ?_; intro f h
  refine w_nil s fun w1 s => ?_
  refine s_nil ?_
  refine hK4 _ _ ?_
  refine wp_ret ?_
  exact e_tmp rfl h s rfl (rfl)

theorem three_any (x a b : Id) (w : World) : Calls Try.prog 7 [idV x, idV a, idV b].toArray w (Ret w (is (.bool true))) := by
  refine c_enter Try.func7 rfl Try.ntmps7 rfl [(0, idV x), (1, idV a), (2, idV b)] (by simp) fun f h => ?_
  have s := St.start w
  refine c_seq fun K1 hK1 => ?_
  refine c_region ?_
  refine s_box (idArr x) h s rfl rfl rfl ?_; intro f w1 b3 h s
  refine s_box (idArr a) h s rfl rfl rfl ?_; intro f w1 b4 h s
  refine s_box (idArr b) h s rfl rfl rfl ?_; intro f w1 b5 h s
  refine s_pure h (ru_assign (h.ev rfl)) rfl ?_; intro f h
  refine s_nil ?_
  refine hK1 _ _ ?_
  refine c_seq fun K2 hK2 => ?_
  refine c_seq fun K3 hK3 => ?_
  refine c_region ?_
  refine s_load_row 1 h s row23 rfl rfl (idArr_size _) rfl ?_; intro f h
  refine s_load_row 0 h s row23 rfl rfl (idArr_size _) rfl ?_; intro f h
  refine s_pure h (ru_eql_id idTy (h.ev rfl) (h.ev rfl)) rfl ?_; intro f h
  refine s_nil ?_
  refine hK3 _ _ ?_
  refine c_cond h rfl (fun hc => ?_) (fun hc => ?_)
  · have hc := of_decide_eq_true hc
    refine c_seq fun K4 hK4 => ?_
    refine c_region ?_
    refine s_call h s fnc15 (alive_any _) rfl rfl ?_; intro f w1 v9 hT hE h s; obtain rfl := hT
    refine s_pure h (ru_move (h.ev rfl)) rfl ?_; intro f h
    refine s_on h rfl rfl rfl ?_
    refine s_load_row 2 h s row23 rfl rfl (idArr_size _) rfl ?_; intro f h
    refine s_on h rfl rfl rfl ?_
    refine s_load_row 1 h s row23 rfl rfl (idArr_size _) rfl ?_; intro f h
    refine s_on h rfl rfl rfl ?_
    refine s_load_row 0 h s row23 rfl rfl (idArr_size _) rfl ?_; intro f h
    refine s_on h rfl rfl rfl ?_
    refine s_call h s fnc18 (ret_val (.bool true) (in_any _ _ _ _) (congrArg Value.bool (by rw [hc, inB_same]))) rfl rfl ?_; intro f w1 v9 hT hE h s; obtain rfl := hT
    refine s_pure h (ru_pick_t (h.ev rfl) (h.ev rfl)) rfl ?_; intro f h
    refine s_pure h (ru_assign (h.ev rfl)) rfl ?_; intro f h
    refine s_nil ?_
    refine hK4 _ _ ?_
    refine wp_ret ?_
    refine t_ret ?_
    exact e_tmp rfl h s rfl (rfl)
  · have hne := of_decide_eq_false hc
    refine wp_skip ?_
    refine hK2 _ _ ?_
    refine c_seq fun K5 hK5 => ?_
    refine c_walkN 10 [[], [], [], [0, 1, 2], [], [], [], [0, 1, 2, 3, 4, 5, 6], [0, 1, 2, 3, 4, 5, 6, 7], [0, 1, 2, 3, 4, 5, 6, 7, 8]] h (by kernel_rfl) (by kernel_rfl) (by kernel_rfl) ?_
    refine w_load_row 2 h s row23 rfl rfl (idArr_size _) rfl ?_; intro f h
    refine w_load_row 1 h s row23 rfl rfl (idArr_size _) rfl ?_; intro f h
    refine w_load_row 0 h s row23 rfl rfl (idArr_size _) rfl ?_; intro f h
    refine w_call h fnc18 (in_any _ _ _) rfl rfl ?_; intro f h
    refine w_load_row 2 h s row23 rfl rfl (idArr_size _) rfl ?_; intro f h
    refine w_load_row 0 h s row23 rfl rfl (idArr_size _) rfl ?_; intro f h
    refine w_load_row 1 h s row23 rfl rfl (idArr_size _) rfl ?_; intro f h
    refine w_call h fnc18 (in_any _ _ _) rfl rfl ?_; intro f h
    refine w_pure h (ru_assign (h.ev rfl)) rfl ?_; intro f h
    refine w_pure h (ru_assign (h.ev rfl)) rfl ?_; intro f h
    refine w_nil s fun w1 s => ?_
    refine s_nil ?_
    refine hK5 _ _ ?_
    refine c_seq fun K6 hK6 => ?_
    refine c_seq fun K7 hK7 => ?_
    refine c_region ?_
    refine s_pure h (ru_move (h.ev rfl)) rfl ?_; intro f h
    refine s_pure h (ru_move (h.ev rfl)) rfl ?_; intro f h
    refine s_pure h (ru_val (.bool false) (ru_eql_bool Try.underlying4 (h.ev rfl) (h.ev rfl)) (congrArg Value.bool (t_two x a b hne))) rfl ?_; intro f h
    refine s_pure h (ru_move (h.ev rfl)) rfl ?_; intro f h
    refine s_on h rfl rfl rfl ?_
    refine s_call h s fnc15 (alive_any _) rfl rfl ?_; intro f w1 v9 hT hE h s; obtain rfl := hT
    refine s_on h rfl rfl rfl ?_
    refine s_pure h (ru_val (.bool false) (ru_not (h.ev rfl)) rfl) rfl ?_; intro f h
    refine s_pure h (ru_pick_f (h.ev rfl) (h.ev rfl)) rfl ?_; intro f h
    refine s_nil ?_
    refine hK7 _ _ ?_
    refine wp_cond_false (h.ev rfl) ?_
    refine wp_skip ?_
    refine hK6 _ _ ?_
    refine c_seq fun K8 hK8 => ?_
    refine c_seq fun K9 hK9 => ?_
    cases hx : (decide (x = a) : Bool)
    · skip
      refine c_region ?_
      refine s_load_row 2 h s row23 rfl rfl (idArr_size _) rfl ?_; intro f h
      refine s_load_row 1 h s row23 rfl rfl (idArr_size _) rfl ?_; intro f h
      refine s_pure h (ru_val (.bool false) (ru_eql_id idTy (h.ev rfl) (h.ev rfl)) (congrArg Value.bool hx)) rfl ?_; intro f h
      refine s_pure h (ru_move (h.ev rfl)) rfl ?_; intro f h
      refine s_on h rfl rfl rfl ?_
      refine s_load_row 2 h s row23 rfl rfl (idArr_size _) rfl ?_; intro f h
      refine s_on h rfl rfl rfl ?_
      refine s_load_row 0 h s row23 rfl rfl (idArr_size _) rfl ?_; intro f h
      refine s_on h rfl rfl rfl ?_
      refine s_pure h (ru_eql_id idTy (h.ev rfl) (h.ev rfl)) rfl ?_; intro f h
      refine s_pure h (ru_pick_f (h.ev rfl) (h.ev rfl)) rfl ?_; intro f h
      refine s_nil ?_
      refine hK9 _ _ ?_
      refine c_cond h rfl (fun hc => ?_) (fun hc => ?_)
      · have hor : x = a ∨ x = b := .inr (of_decide_eq_true hc)
        refine c_seq fun K10 hK10 => ?_
        refine c_region ?_
        refine s_pure h (ru_move (h.ev rfl)) rfl ?_; intro f h
        refine s_load_row 2 h s row23 rfl rfl (idArr_size _) rfl ?_; intro f h
        refine s_load_row 0 h s row23 rfl rfl (idArr_size _) rfl ?_; intro f h
        refine s_pure h (ru_eql_id idTy (h.ev rfl) (h.ev rfl)) rfl ?_; intro f h
        refine s_pure h (ru_val (.bool true) (ru_eql_bool Try.underlying4 (h.ev rfl) (h.ev rfl)) (congrArg Value.bool (t_end x a b hne (by first | exact .inl (of_decide_eq_true hx) | exact hor)))) rfl ?_; intro f h
        refine s_pure h (ru_assign (h.ev rfl)) rfl ?_; intro f h
        refine s_nil ?_
        refine hK10 _ _ ?_
        refine wp_ret ?_
        refine t_ret ?_
        exact e_tmp rfl h s rfl (rfl)
      · have hxb := of_decide_eq_false hc
        refine wp_skip ?_
        refine hK8 _ _ ?_
        refine c_seq fun K11 hK11 => ?_
        refine c_walkN 21 [[], [], [], [0, 1, 2], [], [], [], [0, 1, 2, 3, 4, 5, 6], [0, 1, 2, 3, 4, 5, 6, 7], [0, 1, 2, 3, 4, 5, 6, 7, 8], [0, 1, 2, 3, 4, 5, 6, 7, 8, 9], [0, 1, 2, 3, 4, 5, 6, 7, 8, 9], [0, 1, 2, 3, 4, 5, 6, 7, 8, 9], [0, 1, 2, 3, 4, 5, 6, 7, 8, 9, 10, 11, 12], [0, 1, 2, 3, 4, 5, 6, 7, 8, 9], [0, 1, 2, 3, 4, 5, 6, 7, 8, 9], [0, 1, 2, 3, 4, 5, 6, 7, 8, 9], [0, 1, 2, 3, 4, 5, 6, 7, 8, 9, 10, 11, 12, 13, 14, 15, 16], [0, 1, 2, 3, 4, 5, 6, 7, 8, 9, 10, 11, 12, 13, 14, 15, 16, 17], [0, 1, 2, 3, 4, 5, 6, 7, 8, 9, 10, 11, 12, 13, 14, 15, 16, 17, 18], [0, 1, 2, 3, 4, 5, 6, 7, 8, 9, 10, 11, 12, 13, 14, 15, 16, 17, 18, 19]] h (by kernel_rfl) (by kernel_rfl) (by kernel_rfl) ?_
        refine w_load_row 2 h s row23 rfl rfl (idArr_size _) rfl ?_; intro f h
        refine w_load_row 1 h s row23 rfl rfl (idArr_size _) rfl ?_; intro f h
        refine w_load_row 0 h s row23 rfl rfl (idArr_size _) rfl ?_; intro f h
        refine w_call h fnc18 (in_any _ _ _) rfl rfl ?_; intro f h
        refine w_load_row 0 h s row23 rfl rfl (idArr_size _) rfl ?_; intro f h
        refine w_load_row 2 h s row23 rfl rfl (idArr_size _) rfl ?_; intro f h
        refine w_load_row 1 h s row23 rfl rfl (idArr_size _) rfl ?_; intro f h
        refine w_call h fnc18 (in_any _ _ _) rfl rfl ?_; intro f h
        refine w_pure h (ru_val (.bool true) (ru_eql_bool Try.underlying4 (h.ev rfl) (h.ev rfl)) (congrArg Value.bool (t_one x a b hne (of_decide_eq_false hx) hxb))) rfl ?_; intro f h
        refine w_pure h (ru_move (h.ev rfl)) rfl ?_; intro f h
        refine w_on h rfl rfl rfl ?_
        refine w_load_row 2 h s row23 rfl rfl (idArr_size _) rfl ?_; intro f h
        refine w_on h rfl rfl rfl ?_
        refine w_load_row 1 h s row23 rfl rfl (idArr_size _) rfl ?_; intro f h
        refine w_on h rfl rfl rfl ?_
        refine w_load_row 0 h s row23 rfl rfl (idArr_size _) rfl ?_; intro f h
        refine w_on h rfl rfl rfl ?_
        refine w_call h fnc18 (in_any _ _ _) rfl rfl ?_; intro f h
        refine w_on h rfl rfl rfl ?_
        refine w_load_row 1 h s row23 rfl rfl (idArr_size _) rfl ?_; intro f h
        refine w_on h rfl rfl rfl ?_
        refine w_load_row 0 h s row23 rfl rfl (idArr_size _) rfl ?_; intro f h
        refine w_on h rfl rfl rfl ?_
        refine w_load_row 2 h s row23 rfl rfl (idArr_size _) rfl ?_; intro f h
        refine w_on h rfl rfl rfl ?_
        refine w_call h fnc18 (in_any _ _ _) rfl rfl ?_; intro f h
        refine w_on h rfl rfl rfl ?_
        refine w_pure h (ru_val (.bool true) (ru_eql_bool Try.underlying4 (h.ev rfl) (h.ev rfl)) (congrArg Value.bool (t_other x a b hne (of_decide_eq_false hx) hxb))) rfl ?_; intro f h
        refine w_pure h (ru_pick_t (h.ev rfl) (h.ev rfl)) rfl ?_; intro f h
        refine w_pure h (ru_assign (h.ev rfl)) rfl ?_; intro f h
        refine w_nil s fun w1 s => ?_
        refine s_nil ?_
        refine hK11 _ _ ?_
        refine wp_ret ?_
        exact e_tmp rfl h s rfl (rfl)
    · skip
      refine c_region ?_
      refine s_load_row 2 h s row23 rfl rfl (idArr_size _) rfl ?_; intro f h
      refine s_load_row 1 h s row23 rfl rfl (idArr_size _) rfl ?_; intro f h
      refine s_pure h (ru_val (.bool true) (ru_eql_id idTy (h.ev rfl) (h.ev rfl)) (congrArg Value.bool hx)) rfl ?_; intro f h
      refine s_pure h (ru_move (h.ev rfl)) rfl ?_; intro f h
      refine s_off (b := false) h rfl rfl rfl rfl ?_; intro f h
      refine s_off (b := false) h rfl rfl rfl rfl ?_; intro f h
      refine s_off (b := false) h rfl rfl rfl rfl ?_; intro f h
      refine s_pure h (ru_pick_t (h.ev rfl) (h.ev rfl)) rfl ?_; intro f h
      refine s_nil ?_
      refine hK9 _ _ ?_
      refine wp_cond_true (h.ev rfl) ?_
      refine c_seq fun K12 hK12 => ?_
      refine c_region ?_
      refine s_pure h (ru_move (h.ev rfl)) rfl ?_; intro f h
      refine s_load_row 2 h s row23 rfl rfl (idArr_size _) rfl ?_; intro f h
      refine s_load_row 0 h s row23 rfl rfl (idArr_size _) rfl ?_; intro f h
      refine s_pure h (ru_eql_id idTy (h.ev rfl) (h.ev rfl)) rfl ?_; intro f h
      refine s_pure h (ru_val (.bool true) (ru_eql_bool Try.underlying4 (h.ev rfl) (h.ev rfl)) (congrArg Value.bool (t_end x a b hne (by first | exact .inl (of_decide_eq_true hx) | exact hor)))) rfl ?_; intro f h
      refine s_pure h (ru_assign (h.ev rfl)) rfl ?_; intro f h
      refine s_nil ?_
      refine hK12 _ _ ?_
      refine wp_ret ?_
      refine t_ret ?_
      exact e_tmp rfl h s rfl (rfl)

theorem steps_any (a : Id) (j k : Int) (w : World) : Calls Try.prog 9 [idV a, .int .i64 j, .int .i64 k].toArray w (Ret w (is (.bool true))) := by
  obtain ⟨jn, hjn, hjl⟩ := mod255 j
  obtain ⟨kn, hkn, hkl⟩ := mod255 k
  have hj := tmod_bd j
  have hk := tmod_bd k
  refine c_enter Try.func9 rfl Try.ntmps9 rfl [(0, idV a), (1, .int .i64 j), (2, .int .i64 k)] (by simp) fun f h => ?_
  have s := St.start w
  refine c_seq fun K1 hK1 => ?_
  refine c_region ?_
  refine s_box (idArr a) h s rfl rfl rfl ?_; intro f w1 b3 h s
  refine s_pure h (ru_assign (h.ev rfl)) rfl ?_; intro f h
  refine s_nil ?_
  refine hK1 _ _ ?_
  refine c_seq fun K2 hK2 => ?_
  refine c_region ?_
  refine s_pure h (ru_move (h.ev rfl)) rfl ?_; intro f h
  refine s_pure h (ru_remt (h.ev rfl) (h.ev rfl) (by omega)) rfl ?_; intro f h
  refine s_pure h (ru_add (h.ev rfl) (h.ev rfl) (by omega)) rfl ?_; intro f h
  refine s_pure h (ru_val (.int .i64 (jn : Int)) (ru_rem (h.ev rfl) (h.ev rfl) (by omega)) (congrArg (Value.int .i64) hjn)) rfl ?_; intro f h
  refine s_pure h (ru_move (h.ev rfl)) rfl ?_; intro f h
  refine s_pure h (ru_remt (h.ev rfl) (h.ev rfl) (by omega)) rfl ?_; intro f h
  refine s_pure h (ru_add (h.ev rfl) (h.ev rfl) (by omega)) rfl ?_; intro f h
  refine s_pure h (ru_val (.int .i64 (kn : Int)) (ru_rem (h.ev rfl) (h.ev rfl) (by omega)) (congrArg (Value.int .i64) hkn)) rfl ?_; intro f h
  refine s_pure h (ru_assign (h.ev rfl)) rfl ?_; intro f h
  refine s_pure h (ru_assign (h.ev rfl)) rfl ?_; intro f h
  refine s_nil ?_
  refine hK2 _ _ ?_
  refine c_seq fun K3 hK3 => ?_
  refine c_region ?_
  refine s_load_row 0 h s row23 rfl rfl (idArr_size _) rfl ?_; intro f h
  refine s_pure h (ru_move (h.ev rfl)) rfl ?_; intro f h
  refine s_call h s fnc10 (step_any _ _ (by omega) _) rfl rfl ?_; intro f w1 v9 hT hE h s; obtain rfl := hT
  refine s_pure h (ru_move (h.ev rfl)) rfl ?_; intro f h
  refine s_pure h (ru_extract (h.ev rfl) rfl) rfl ?_; intro f h
  refine s_pure h (ru_extract (h.ev rfl) rfl) rfl ?_; intro f h
  refine s_alloc (idArr 0#256) h s zero23 rfl rfl ?_; intro f w1 b7 h s
  refine s_store_row 0 h s row23 rfl rfl rfl (idArr_size _) (idArr_size _) (idArr_ones _) ?_; intro w1 s
  refine s_pure h (ru_assign (h.ev rfl)) rfl ?_; intro f h
  refine s_nil ?_
  refine hK3 _ _ ?_
  refine c_seq fun K4 hK4 => ?_
  refine c_region ?_
  refine s_load_row 0 h s row23 rfl rfl (idArr_size _) rfl ?_; intro f h
  refine s_pure h (ru_move (h.ev rfl)) rfl ?_; intro f h
  refine s_call h s fnc10 (step_any _ _ (by omega) _) rfl rfl ?_; intro f w1 v9 hT hE h s; obtain rfl := hT
  refine s_pure h (ru_move (h.ev rfl)) rfl ?_; intro f h
  refine s_pure h (ru_extract (h.ev rfl) rfl) rfl ?_; intro f h
  refine s_pure h (ru_extract (h.ev rfl) rfl) rfl ?_; intro f h
  refine s_alloc (idArr 0#256) h s zero23 rfl rfl ?_; intro f w1 b9 h s
  refine s_store_row 0 h s row23 rfl rfl rfl (idArr_size _) (idArr_size _) (idArr_ones _) ?_; intro w1 s
  refine s_pure h (ru_assign (h.ev rfl)) rfl ?_; intro f h
  refine s_nil ?_
  refine hK4 _ _ ?_
  refine c_seq fun K5 hK5 => ?_
  refine c_region ?_
  refine s_load_row 2 h s row23 rfl rfl (idArr_size _) rfl ?_; intro f h
  refine s_pure h (ru_move (h.ev rfl)) rfl ?_; intro f h
  refine s_pure h (ru_val (.int .i64 ((kn + 1 : Nat) : Int)) (ru_add (h.ev rfl) (h.ev rfl) (by omega)) (rfl)) rfl ?_; intro f h
  refine s_call h s fnc10 (step_any _ _ (by omega) _) rfl rfl ?_; intro f w1 v9 hT hE h s; obtain rfl := hT
  refine s_pure h (ru_move (h.ev rfl)) rfl ?_; intro f h
  refine s_pure h (ru_extract (h.ev rfl) rfl) rfl ?_; intro f h
  refine s_pure h (ru_extract (h.ev rfl) rfl) rfl ?_; intro f h
  refine s_alloc (idArr 0#256) h s zero23 rfl rfl ?_; intro f w1 b11 h s
  refine s_store_row 0 h s row23 rfl rfl rfl (idArr_size _) (idArr_size _) (idArr_ones _) ?_; intro w1 s
  refine s_pure h (ru_assign (h.ev rfl)) rfl ?_; intro f h
  refine s_nil ?_
  refine hK5 _ _ ?_
  refine c_seq fun K6 hK6 => ?_
  refine c_region ?_
  refine s_load_row 2 h s row23 rfl rfl (idArr_size _) rfl ?_; intro f h
  refine s_pure h (ru_move (h.ev rfl)) rfl ?_; intro f h
  refine s_call h s fnc10 (step_any _ _ (by omega) _) rfl rfl ?_; intro f w1 v9 hT hE h s; obtain rfl := hT
  refine s_pure h (ru_move (h.ev rfl)) rfl ?_; intro f h
  refine s_pure h (ru_extract (h.ev rfl) rfl) rfl ?_; intro f h
  refine s_pure h (ru_extract (h.ev rfl) rfl) rfl ?_; intro f h
  refine s_alloc (idArr 0#256) h s zero23 rfl rfl ?_; intro f w1 b13 h s
  refine s_store_row 0 h s row23 rfl rfl rfl (idArr_size _) (idArr_size _) (idArr_ones _) ?_; intro w1 s
  refine s_pure h (ru_assign (h.ev rfl)) rfl ?_; intro f h
  refine s_nil ?_
  refine hK6 _ _ ?_
  refine c_seq fun K7 hK7 => ?_
  refine c_region ?_
  refine s_load_row 4 h s row23 rfl rfl (idArr_size _) rfl ?_; intro f h
  refine s_pure h (ru_move (h.ev rfl)) rfl ?_; intro f h
  refine s_call h s fnc10 (step_any _ _ (by omega) _) rfl rfl ?_; intro f w1 v9 hT hE h s; obtain rfl := hT
  refine s_pure h (ru_move (h.ev rfl)) rfl ?_; intro f h
  refine s_pure h (ru_extract (h.ev rfl) rfl) rfl ?_; intro f h
  refine s_pure h (ru_extract (h.ev rfl) rfl) rfl ?_; intro f h
  refine s_alloc (idArr 0#256) h s zero23 rfl rfl ?_; intro f w1 b15 h s
  refine s_store_row 0 h s row23 rfl rfl rfl (idArr_size _) (idArr_size _) (idArr_ones _) ?_; intro w1 s
  refine s_pure h (ru_assign (h.ev rfl)) rfl ?_; intro f h
  refine s_nil ?_
  refine hK7 _ _ ?_
  refine c_seq fun K8 hK8 => ?_
  refine c_region ?_
  refine s_load_row 0 h s row23 rfl rfl (idArr_size _) rfl ?_; intro f h
  refine s_pure h (ru_move (h.ev rfl)) rfl ?_; intro f h
  refine s_call h s fnc10 (step_any _ _ (by omega) _) rfl rfl ?_; intro f w1 v9 hT hE h s; obtain rfl := hT
  refine s_pure h (ru_move (h.ev rfl)) rfl ?_; intro f h
  refine s_pure h (ru_extract (h.ev rfl) rfl) rfl ?_; intro f h
  refine s_pure h (ru_extract (h.ev rfl) rfl) rfl ?_; intro f h
  refine s_store_row 0 h s row23 rfl rfl rfl (idArr_size _) (idArr_size _) (idArr_ones _) ?_; intro w1 s
  refine s_pure h (ru_assign (h.ev rfl)) rfl ?_; intro f h
  refine s_nil ?_
  refine hK8 _ _ ?_
  refine c_seq fun K9 hK9 => ?_
  refine c_seq fun K10 hK10 => ?_
  refine c_region ?_
  refine s_pure h (ru_move (h.ev rfl)) rfl ?_; intro f h
  refine s_pure h (ru_val (.bool false) (ru_neq (h.ev rfl) (h.ev rfl)) (congrArg Value.bool (by decide))) rfl ?_; intro f h
  refine s_pure h (ru_move (h.ev rfl)) rfl ?_; intro f h
  refine s_on h rfl rfl rfl ?_
  refine s_pure h (ru_move (h.ev rfl)) rfl ?_; intro f h
  refine s_on h rfl rfl rfl ?_
  refine s_pure h (ru_val (.bool false) (ru_neq (h.ev rfl) (h.ev rfl)) (congrArg Value.bool (by decide))) rfl ?_; intro f h
  refine s_pure h (ru_pick_f (h.ev rfl) (h.ev rfl)) rfl ?_; intro f h
  refine s_pure h (ru_move (h.ev rfl)) rfl ?_; intro f h
  refine s_on h rfl rfl rfl ?_
  refine s_pure h (ru_move (h.ev rfl)) rfl ?_; intro f h
  refine s_on h rfl rfl rfl ?_
  refine s_pure h (ru_val (.bool false) (ru_neq (h.ev rfl) (h.ev rfl)) (congrArg Value.bool (by decide))) rfl ?_; intro f h
  refine s_pure h (ru_pick_f (h.ev rfl) (h.ev rfl)) rfl ?_; intro f h
  refine s_pure h (ru_move (h.ev rfl)) rfl ?_; intro f h
  refine s_on h rfl rfl rfl ?_
  refine s_pure h (ru_move (h.ev rfl)) rfl ?_; intro f h
  refine s_on h rfl rfl rfl ?_
  refine s_pure h (ru_val (.bool false) (ru_neq (h.ev rfl) (h.ev rfl)) (congrArg Value.bool (by decide))) rfl ?_; intro f h
  refine s_pure h (ru_pick_f (h.ev rfl) (h.ev rfl)) rfl ?_; intro f h
  refine s_pure h (ru_move (h.ev rfl)) rfl ?_; intro f h
  refine s_on h rfl rfl rfl ?_
  refine s_pure h (ru_move (h.ev rfl)) rfl ?_; intro f h
  refine s_on h rfl rfl rfl ?_
  refine s_pure h (ru_val (.bool false) (ru_neq (h.ev rfl) (h.ev rfl)) (congrArg Value.bool (by decide))) rfl ?_; intro f h
  refine s_pure h (ru_pick_f (h.ev rfl) (h.ev rfl)) rfl ?_; intro f h
  refine s_pure h (ru_move (h.ev rfl)) rfl ?_; intro f h
  refine s_on h rfl rfl rfl ?_
  refine s_pure h (ru_move (h.ev rfl)) rfl ?_; intro f h
  refine s_on h rfl rfl rfl ?_
  refine s_pure h (ru_val (.bool false) (ru_neq (h.ev rfl) (h.ev rfl)) (congrArg Value.bool (by decide))) rfl ?_; intro f h
  refine s_pure h (ru_pick_f (h.ev rfl) (h.ev rfl)) rfl ?_; intro f h
  refine s_pure h (ru_move (h.ev rfl)) rfl ?_; intro f h
  refine s_on h rfl rfl rfl ?_
  refine s_call h s fnc15 (alive_any _) rfl rfl ?_; intro f w1 v9 hT hE h s; obtain rfl := hT
  refine s_on h rfl rfl rfl ?_
  refine s_pure h (ru_val (.bool false) (ru_not (h.ev rfl)) rfl) rfl ?_; intro f h
  refine s_pure h (ru_pick_f (h.ev rfl) (h.ev rfl)) rfl ?_; intro f h
  refine s_nil ?_
  refine hK10 _ _ ?_
  refine wp_cond_false (h.ev rfl) ?_
  refine wp_skip ?_
  refine hK9 _ _ ?_
  refine c_seq fun K11 hK11 => ?_
  refine c_region ?_
  refine s_load_row 3 h s row23 rfl rfl (idArr_size _) rfl ?_; intro f h
  refine s_load_row 2 h s row23 rfl rfl (idArr_size _) rfl ?_; intro f h
  refine s_pure h (ru_val (.bool true) (ru_eql_id idTy (h.ev rfl) (h.ev rfl)) (congrArg Value.bool (decide_eq_true (s_twice _ _)))) rfl ?_; intro f h
  refine s_pure h (ru_move (h.ev rfl)) rfl ?_; intro f h
  refine s_on h rfl rfl rfl ?_
  refine s_load_row 1 h s row23 rfl rfl (idArr_size _) rfl ?_; intro f h
  refine s_on h rfl rfl rfl ?_
  refine s_load_row 0 h s row23 rfl rfl (idArr_size _) rfl ?_; intro f h
  refine s_on h rfl rfl rfl ?_
  refine s_pure h (ru_val (.bool true) (ru_eql_id idTy (h.ev rfl) (h.ev rfl)) (congrArg Value.bool (decide_eq_true (s_turn _ _ _)))) rfl ?_; intro f h
  refine s_pure h (ru_pick_t (h.ev rfl) (h.ev rfl)) rfl ?_; intro f h
  refine s_pure h (ru_move (h.ev rfl)) rfl ?_; intro f h
  refine s_on h rfl rfl rfl ?_
  refine s_load_row 5 h s row23 rfl rfl (idArr_size _) rfl ?_; intro f h
  refine s_on h rfl rfl rfl ?_
  refine s_load_row 4 h s row23 rfl rfl (idArr_size _) rfl ?_; intro f h
  refine s_on h rfl rfl rfl ?_
  refine s_call h s fnc13 (far_any _ _ _) rfl rfl ?_; intro f w1 v9 hT hE h s; obtain rfl := hT
  refine s_on h rfl rfl rfl ?_
  refine s_pure h (ru_move (h.ev rfl)) rfl ?_; intro f h
  refine s_on h rfl rfl rfl ?_
  refine s_call h s fnc17 (power_any _ (by omega) _) rfl rfl ?_; intro f w1 v9 hT hE h s; obtain rfl := hT
  refine s_on h rfl rfl rfl ?_
  refine s_pure h (ru_val (.bool true) (ru_eql_id idTy (h.ev rfl) (h.ev rfl)) (congrArg Value.bool (decide_eq_true (s_way _ _)))) rfl ?_; intro f h
  refine s_pure h (ru_pick_t (h.ev rfl) (h.ev rfl)) rfl ?_; intro f h
  refine s_pure h (ru_assign (h.ev rfl)) rfl ?_; intro f h
  refine s_nil ?_
  refine hK11 _ _ ?_
  refine wp_ret ?_
  exact e_tmp rfl h s rfl (rfl)

theorem ways_ok (a b : Id) (k : Nat) (hk : k < 256) (w : World) : Calls Try.prog 3 [idV a, idV b, .int .i64 (k : Int)].toArray w (Ret w (is (.bool true))) := by
  refine c_enter Try.func3 rfl Try.ntmps3 rfl [(0, idV a), (1, idV b), (2, .int .i64 (k : Int))] (by simp) fun f h => ?_
  have s := St.start w
  refine c_seq fun K1 hK1 => ?_
  refine c_region ?_
  refine s_box (idArr a) h s rfl rfl rfl ?_; intro f w1 b3 h s
  refine s_box (idArr b) h s rfl rfl rfl ?_; intro f w1 b4 h s
  refine s_pure h (ru_assign (h.ev rfl)) rfl ?_; intro f h
  refine s_nil ?_
  refine hK1 _ _ ?_
  refine c_seq fun K2 hK2 => ?_
  refine c_region ?_
  refine s_load_row 1 h s row23 rfl rfl (idArr_size _) rfl ?_; intro f h
  refine s_pure h (ru_move (h.ev rfl)) rfl ?_; intro f h
  refine s_call h s fnc10 (step_any _ _ (by omega) _) rfl rfl ?_; intro f w1 v9 hT hE h s; obtain rfl := hT
  refine s_pure h (ru_move (h.ev rfl)) rfl ?_; intro f h
  refine s_pure h (ru_extract (h.ev rfl) rfl) rfl ?_; intro f h
  refine s_pure h (ru_extract (h.ev rfl) rfl) rfl ?_; intro f h
  refine s_alloc (idArr 0#256) h s zero23 rfl rfl ?_; intro f w1 b7 h s
  refine s_store_row 0 h s row23 rfl rfl rfl (idArr_size _) (idArr_size _) (idArr_ones _) ?_; intro w1 s
  refine s_pure h (ru_assign (h.ev rfl)) rfl ?_; intro f h
  refine s_nil ?_
  refine hK2 _ _ ?_
  refine c_seq fun K3 hK3 => ?_
  refine c_seq fun K4 hK4 => ?_
  refine c_walkN 20 [[], [], [0, 1], [], [], [0, 1, 2, 3, 4], [0, 1, 2, 3, 4, 5], [0, 1, 2, 3, 4, 5, 6], [0, 1, 2, 3, 4, 5, 6, 7], [0, 1, 2, 3, 4, 5, 6, 7], [0, 1, 2, 3, 4, 5, 6, 7, 8, 9], [0, 1, 2, 3, 4, 5, 6, 7], [0, 1, 2, 3, 4, 5, 6, 7], [0, 1, 2, 3, 4, 5, 6, 7, 8, 9, 10, 11, 12], [0, 1, 2, 3, 4, 5, 6, 7, 8, 9, 10, 11, 12, 13], [0, 1, 2, 3, 4, 5, 6, 7, 8, 9, 10, 11, 12, 13, 14], [0, 1, 2, 3, 4, 5, 6, 7, 8, 9, 10, 11, 12, 13, 14, 15], [0, 1, 2, 3, 4, 5, 6, 7, 8, 9, 10, 11, 12, 13, 14, 15, 16], [0, 1, 2, 3, 4, 5, 6, 7, 8, 9, 10, 11, 12, 13, 14, 15, 16, 17], [0, 1, 2, 3, 4, 5, 6, 7, 8, 9, 10, 11, 12, 13, 14, 15, 16, 17, 18]] h (by kernel_rfl) (by kernel_rfl) (by kernel_rfl) ?_
  refine w_load_row 2 h s row23 rfl rfl (idArr_size _) rfl ?_; intro f h
  refine w_load_row 1 h s row23 rfl rfl (idArr_size _) rfl ?_; intro f h
  refine w_call h fnc11 (compare_any _ _) rfl rfl ?_; intro f h
  refine w_load_row 2 h s row23 rfl rfl (idArr_size _) rfl ?_; intro f h
  refine w_load_row 1 h s row23 rfl rfl (idArr_size _) rfl ?_; intro f h
  refine w_call h fnc12 (rcompare_any _ _) rfl rfl ?_; intro f h
  refine w_pure h (ru_val (.bool false) (ru_neq (h.ev rfl) (h.ev rfl)) (congrArg Value.bool (decide_eq_false (not_not_intro rfl)))) rfl ?_; intro f h
  refine w_pure h (ru_move (h.ev rfl)) rfl ?_; intro f h
  refine w_on h rfl rfl rfl ?_
  refine w_load_row 2 h s row23 rfl rfl (idArr_size _) rfl ?_; intro f h
  refine w_on h rfl rfl rfl ?_
  refine w_load_row 1 h s row23 rfl rfl (idArr_size _) rfl ?_; intro f h
  refine w_on h rfl rfl rfl ?_
  refine w_call h fnc13 (far_any _ _) rfl rfl ?_; intro f h
  refine w_on h rfl rfl rfl ?_
  refine w_load_row 2 h s row23 rfl rfl (idArr_size _) rfl ?_; intro f h
  refine w_on h rfl rfl rfl ?_
  refine w_load_row 1 h s row23 rfl rfl (idArr_size _) rfl ?_; intro f h
  refine w_on h rfl rfl rfl ?_
  refine w_call h fnc14 (rfar_any _ _) rfl rfl ?_; intro f h
  refine w_on h rfl rfl rfl ?_
  refine w_pure h (ru_val (.bool false) (ru_neq_id idTy (h.ev rfl) (h.ev rfl)) (congrArg Value.bool (decide_eq_false (not_not_intro rfl)))) rfl ?_; intro f h
  refine w_pure h (ru_pick_f (h.ev rfl) (h.ev rfl)) rfl ?_; intro f h
  refine w_pure h (ru_move (h.ev rfl)) rfl ?_; intro f h
  refine w_on h rfl rfl rfl ?_
  refine w_call h fnc15 (alive_any) rfl rfl ?_; intro f h
  refine w_on h rfl rfl rfl ?_
  refine w_pure h (ru_val (.bool false) (ru_not (h.ev rfl)) rfl) rfl ?_; intro f h
  refine w_pure h (ru_pick_f (h.ev rfl) (h.ev rfl)) rfl ?_; intro f h
  refine w_nil s fun w1 s => ?_
  refine s_nil ?_
  refine hK4 _ _ ?_
  refine wp_cond_false (h.ev rfl) ?_
  refine wp_skip ?_
  refine hK3 _ _ ?_
  refine c_seq fun K5 hK5 => ?_
  refine c_seq fun K6 hK6 => ?_
  refine c_region ?_
  refine s_pure h (ru_move (h.ev rfl)) rfl ?_; intro f h
  refine s_pure h (ru_val (.bool false) (ru_lss (h.ev rfl) (h.ev rfl)) (congrArg Value.bool (decide_eq_false (by omega)))) rfl ?_; intro f h
  refine s_pure h (ru_move (h.ev rfl)) rfl ?_; intro f h
  refine s_on h rfl rfl rfl ?_
  refine s_pure h (ru_move (h.ev rfl)) rfl ?_; intro f h
  refine s_on h rfl rfl rfl ?_
  refine s_pure h (ru_val (.bool false) (ru_gtr (h.ev rfl) (h.ev rfl)) (congrArg Value.bool (decide_eq_false (by omega)))) rfl ?_; intro f h
  refine s_pure h (ru_pick_f (h.ev rfl) (h.ev rfl)) rfl ?_; intro f h
  refine s_nil ?_
  refine hK6 _ _ ?_
  refine wp_cond_false (h.ev rfl) ?_
  refine wp_skip ?_
  refine hK5 _ _ ?_
  refine c_seq fun K7 hK7 => ?_
  refine c_walkN 11 [[], [0], [0, 1], [0, 1, 2], [0, 1, 2], [0, 1, 2], [0, 1, 2, 5], [0, 1, 2, 4, 5, 6], [0, 1, 2, 3, 4, 5, 6, 7], [0, 1, 2, 3, 4, 5, 6, 7, 8], [0, 1, 2, 3, 4, 5, 6, 7, 8, 9]] h (by kernel_rfl) (by kernel_rfl) (by kernel_rfl) ?_
  refine w_pure h (ru_move (h.ev rfl)) rfl ?_; intro f h
  refine w_pure h (ru_val (.bool true) (ru_eql (h.ev rfl) (h.ev rfl)) (congrArg Value.bool (by decide))) rfl ?_; intro f h
  refine w_pure h (ru_move (h.ev rfl)) rfl ?_; intro f h
  refine w_on h rfl rfl rfl ?_
  refine w_load_row 0 h s row23 rfl rfl (idArr_size _) rfl ?_; intro f h
  refine w_on h rfl rfl rfl ?_
  refine w_load_row 2 h s row23 rfl rfl (idArr_size _) rfl ?_; intro f h
  refine w_on h rfl rfl rfl ?_
  refine w_pure h (ru_move (h.ev rfl)) rfl ?_; intro f h
  refine w_on h rfl rfl rfl ?_
  refine w_call h fnc17 (power_any _ (by omega)) rfl rfl ?_; intro f h
  refine w_on h rfl rfl rfl ?_
  refine w_call h fnc16 (add_any _ _) rfl rfl ?_; intro f h
  refine w_on h rfl rfl rfl ?_
  refine w_pure h (ru_val (.bool true) (ru_eql_id idTy (h.ev rfl) (h.ev rfl)) (congrArg Value.bool (decide_eq_true (rfl)))) rfl ?_; intro f h
  refine w_pure h (ru_pick_t (h.ev rfl) (h.ev rfl)) rfl ?_; intro f h
  refine w_pure h (ru_assign (h.ev rfl)) rfl ?_; intro f h
  refine w_nil s fun w1 s => ?_
  refine s_nil ?_
  refine hK7 _ _ ?_
  refine wp_ret ?_
  exact e_tmp rfl h s rfl (rfl)

theorem ways_bad (a b : Id) (k : Int) (hk : k < 0 ∨ 255 < k) (w : World) : Calls Try.prog 3 [idV a, idV b, .int .i64 k].toArray w (Ret w (is (.bool true))) := by
  refine c_enter Try.func3 rfl Try.ntmps3 rfl [(0, idV a), (1, idV b), (2, .int .i64 k)] (by simp) fun f h => ?_
  have s := St.start w
  refine c_seq fun K1 hK1 => ?_
  refine c_region ?_
  refine s_box (idArr a) h s rfl rfl rfl ?_; intro f w1 b3 h s
  refine s_box (idArr b) h s rfl rfl rfl ?_; intro f w1 b4 h s
  refine s_pure h (ru_assign (h.ev rfl)) rfl ?_; intro f h
  refine s_nil ?_
  refine hK1 _ _ ?_
  refine c_seq fun K2 hK2 => ?_
  refine c_region ?_
  refine s_load_row 1 h s row23 rfl rfl (idArr_size _) rfl ?_; intro f h
  refine s_pure h (ru_move (h.ev rfl)) rfl ?_; intro f h
  refine s_call h s fnc10 (step_bad _ _ hk _) rfl rfl ?_; intro f w1 v9 hT hE h s; obtain rfl := hT
  refine s_pure h (ru_move (h.ev rfl)) rfl ?_; intro f h
  refine s_pure h (ru_extract (h.ev rfl) rfl) rfl ?_; intro f h
  refine s_pure h (ru_extract (h.ev rfl) rfl) rfl ?_; intro f h
  refine s_alloc (idArr 0#256) h s zero23 rfl rfl ?_; intro f w1 b7 h s
  refine s_store_row 0 h s row23 rfl rfl rfl (idArr_size _) (idArr_size _) (idArr_ones _) ?_; intro w1 s
  refine s_pure h (ru_assign (h.ev rfl)) rfl ?_; intro f h
  refine s_nil ?_
  refine hK2 _ _ ?_
  refine c_seq fun K3 hK3 => ?_
  refine c_seq fun K4 hK4 => ?_
  refine c_walkN 20 [[], [], [0, 1], [], [], [0, 1, 2, 3, 4], [0, 1, 2, 3, 4, 5], [0, 1, 2, 3, 4, 5, 6], [0, 1, 2, 3, 4, 5, 6, 7], [0, 1, 2, 3, 4, 5, 6, 7], [0, 1, 2, 3, 4, 5, 6, 7, 8, 9], [0, 1, 2, 3, 4, 5, 6, 7], [0, 1, 2, 3, 4, 5, 6, 7], [0, 1, 2, 3, 4, 5, 6, 7, 8, 9, 10, 11, 12], [0, 1, 2, 3, 4, 5, 6, 7, 8, 9, 10, 11, 12, 13], [0, 1, 2, 3, 4, 5, 6, 7, 8, 9, 10, 11, 12, 13, 14], [0, 1, 2, 3, 4, 5, 6, 7, 8, 9, 10, 11, 12, 13, 14, 15], [0, 1, 2, 3, 4, 5, 6, 7, 8, 9, 10, 11, 12, 13, 14, 15, 16], [0, 1, 2, 3, 4, 5, 6, 7, 8, 9, 10, 11, 12, 13, 14, 15, 16, 17], [0, 1, 2, 3, 4, 5, 6, 7, 8, 9, 10, 11, 12, 13, 14, 15, 16, 17, 18]] h (by kernel_rfl) (by kernel_rfl) (by kernel_rfl) ?_
  refine w_load_row 2 h s row23 rfl rfl (idArr_size _) rfl ?_; intro f h
  refine w_load_row 1 h s row23 rfl rfl (idArr_size _) rfl ?_; intro f h
  refine w_call h fnc11 (compare_any _ _) rfl rfl ?_; intro f h
  refine w_load_row 2 h s row23 rfl rfl (idArr_size _) rfl ?_; intro f h
  refine w_load_row 1 h s row23 rfl rfl (idArr_size _) rfl ?_; intro f h
  refine w_call h fnc12 (rcompare_any _ _) rfl rfl ?_; intro f h
  refine w_pure h (ru_val (.bool false) (ru_neq (h.ev rfl) (h.ev rfl)) (congrArg Value.bool (decide_eq_false (not_not_intro rfl)))) rfl ?_; intro f h
  refine w_pure h (ru_move (h.ev rfl)) rfl ?_; intro f h
  refine w_on h rfl rfl rfl ?_
  refine w_load_row 2 h s row23 rfl rfl (idArr_size _) rfl ?_; intro f h
  refine w_on h rfl rfl rfl ?_
  refine w_load_row 1 h s row23 rfl rfl (idArr_size _) rfl ?_; intro f h
  refine w_on h rfl rfl rfl ?_
  refine w_call h fnc13 (far_any _ _) rfl rfl ?_; intro f h
  refine w_on h rfl rfl rfl ?_
  refine w_load_row 2 h s row23 rfl rfl (idArr_size _) rfl ?_; intro f h
  refine w_on h rfl rfl rfl ?_
  refine w_load_row 1 h s row23 rfl rfl (idArr_size _) rfl ?_; intro f h
  refine w_on h rfl rfl rfl ?_
  refine w_call h fnc14 (rfar_any _ _) rfl rfl ?_; intro f h
  refine w_on h rfl rfl rfl ?_
  refine w_pure h (ru_val (.bool false) (ru_neq_id idTy (h.ev rfl) (h.ev rfl)) (congrArg Value.bool (decide_eq_false (not_not_intro rfl)))) rfl ?_; intro f h
  refine w_pure h (ru_pick_f (h.ev rfl) (h.ev rfl)) rfl ?_; intro f h
  refine w_pure h (ru_move (h.ev rfl)) rfl ?_; intro f h
  refine w_on h rfl rfl rfl ?_
  refine w_call h fnc15 (alive_any) rfl rfl ?_; intro f h
  refine w_on h rfl rfl rfl ?_
  refine w_pure h (ru_val (.bool false) (ru_not (h.ev rfl)) rfl) rfl ?_; intro f h
  refine w_pure h (ru_pick_f (h.ev rfl) (h.ev rfl)) rfl ?_; intro f h
  refine w_nil s fun w1 s => ?_
  refine s_nil ?_
  refine hK4 _ _ ?_
  refine wp_cond_false (h.ev rfl) ?_
  refine wp_skip ?_
  refine hK3 _ _ ?_
  refine c_seq fun K5 hK5 => ?_
  refine c_seq fun K6 hK6 => ?_
  cases hx : (decide (k < 0) : Bool)
  · skip
    refine c_region ?_
    refine s_pure h (ru_move (h.ev rfl)) rfl ?_; intro f h
    refine s_pure h (ru_val (.bool false) (ru_lss (h.ev rfl) (h.ev rfl)) (congrArg Value.bool hx)) rfl ?_; intro f h
    refine s_pure h (ru_move (h.ev rfl)) rfl ?_; intro f h
    refine s_on h rfl rfl rfl ?_
    refine s_pure h (ru_move (h.ev rfl)) rfl ?_; intro f h
    refine s_on h rfl rfl rfl ?_
    refine s_pure h (ru_val (.bool true) (ru_gtr (h.ev rfl) (h.ev rfl)) (congrArg Value.bool (decide_eq_true (by have := of_decide_eq_false hx; omega)))) rfl ?_; intro f h
    refine s_pure h (ru_pick_f (h.ev rfl) (h.ev rfl)) rfl ?_; intro f h
    refine s_nil ?_
    refine hK6 _ _ ?_
    refine wp_cond_true (h.ev rfl) ?_
    refine c_seq fun K7 hK7 => ?_
    refine c_region ?_
    refine s_pure h (ru_move (h.ev rfl)) rfl ?_; intro f h
    refine s_pure h (ru_val (.bool true) (ru_eql (h.ev rfl) (h.ev rfl)) (congrArg Value.bool (by decide))) rfl ?_; intro f h
    refine s_pure h (ru_move (h.ev rfl)) rfl ?_; intro f h
    refine s_on h rfl rfl rfl ?_
    refine s_load_row 0 h s row23 rfl rfl (idArr_size _) rfl ?_; intro f h
    refine s_on h rfl rfl rfl ?_
    refine s_pure h (ru_build0 idTy) rfl ?_; intro f h
    refine s_on h rfl rfl rfl ?_
    refine s_pure h (ru_val (.bool true) (ru_eql_id idTy (h.ev rfl) (h.ev rfl)) (congrArg Value.bool (decide_eq_true (rfl)))) rfl ?_; intro f h
    refine s_pure h (ru_pick_t (h.ev rfl) (h.ev rfl)) rfl ?_; intro f h
    refine s_pure h (ru_assign (h.ev rfl)) rfl ?_; intro f h
    refine s_nil ?_
    refine hK7 _ _ ?_
    refine wp_ret ?_
    refine t_ret ?_
    exact e_tmp rfl h s rfl (rfl)
  · skip
    refine c_region ?_
    refine s_pure h (ru_move (h.ev rfl)) rfl ?_; intro f h
    refine s_pure h (ru_val (.bool true) (ru_lss (h.ev rfl) (h.ev rfl)) (congrArg Value.bool hx)) rfl ?_; intro f h
    refine s_pure h (ru_move (h.ev rfl)) rfl ?_; intro f h
    refine s_off (b := false) h rfl rfl rfl rfl ?_; intro f h
    refine s_off (b := false) h rfl rfl rfl rfl ?_; intro f h
    refine s_pure h (ru_pick_t (h.ev rfl) (h.ev rfl)) rfl ?_; intro f h
    refine s_nil ?_
    refine hK6 _ _ ?_
    refine wp_cond_true (h.ev rfl) ?_
    refine c_seq fun K8 hK8 => ?_
    refine c_region ?_
    refine s_pure h (ru_move (h.ev rfl)) rfl ?_; intro f h
    refine s_pure h (ru_val (.bool true) (ru_eql (h.ev rfl) (h.ev rfl)) (congrArg Value.bool (by decide))) rfl ?_; intro f h
    refine s_pure h (ru_move (h.ev rfl)) rfl ?_; intro f h
    refine s_on h rfl rfl rfl ?_
    refine s_load_row 0 h s row23 rfl rfl (idArr_size _) rfl ?_; intro f h
    refine s_on h rfl rfl rfl ?_
    refine s_pure h (ru_build0 idTy) rfl ?_; intro f h
    refine s_on h rfl rfl rfl ?_
    refine s_pure h (ru_val (.bool true) (ru_eql_id idTy (h.ev rfl) (h.ev rfl)) (congrArg Value.bool (decide_eq_true (rfl)))) rfl ?_; intro f h
    refine s_pure h (ru_pick_t (h.ev rfl) (h.ev rfl)) rfl ?_; intro f h
    refine s_pure h (ru_assign (h.ev rfl)) rfl ?_; intro f h
    refine s_nil ?_
    refine hK8 _ _ ?_
    refine wp_ret ?_
    refine t_ret ?_
    exact e_tmp rfl h s rfl (rfl)

theorem ways_any (a b : Id) (k : Int) (w : World) : Calls Try.prog 3 [idV a, idV b, .int .i64 k].toArray w (Ret w (is (.bool true))) := by
  by_cases h : k < 0 ∨ 255 < k
  · exact ways_bad a b k h w
  · obtain ⟨n, rfl⟩ : ∃ n : Nat, k = (n : Int) := ⟨k.toNat, by omega⟩
    exact ways_ok a b n (by omega) w
end Go.Proofs.Ytdnbjpjhnacigaa
