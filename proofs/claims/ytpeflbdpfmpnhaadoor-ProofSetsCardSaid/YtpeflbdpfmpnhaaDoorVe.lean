/- What ProofMakes answers: for all arguments. -/
import Derived.Test.YtpeflbdpfmpnhaaDoorVd
set_option linter.unusedVariables false
set_option linter.unusedSimpArgs false
set_option linter.unusedSectionVars false
namespace Go.Proofs.YtpeflbdpfmpnhaaDoor
open Go.RowKit
theorem pmakes_ok (a b : Id) (sx : ByteArray) (hsx : (sx.extract 0 (min sx.size 70)).size ≤ 64) (n : Nat) (hn : n < 16) (w : World) (hH : Tab w 0 (wF hTab 8)) (hK : Tab w 1 (wF kTab 64)) : Calls Tryd.prog 3 [idV a, idV b, .string sx, .int .i64 (n : Int)].toArray w (Ret w (is (.bool true))) := by
  obtain ⟨cx, hcx⟩ : ∃ cx, cx = sx.extract 0 (min sx.size 70) := ⟨_, rfl⟩
  have hcs : cx.size ≤ 70 := by rw [hcx]; exact cut_size _ _
  have hc6 : cx.size ≤ 64 := by rw [hcx]; exact hsx
  refine c_enter Tryd.func3 rfl Tryd.ntmps3 rfl [(0, idV a), (1, idV b), (2, .string sx), (3, .int .i64 (n : Int))] (by simp) fun f h => ?_
  have s := St.start w
  refine c_seq fun K1 hK1 => ?_
  refine c_region ?_
  refine s_box (idArr a) h s rfl rfl rfl ?_; intro f w1 b4 h s
  refine s_box (idArr b) h s rfl rfl rfl ?_; intro f w1 b5 h s
  refine s_pure h (ru_assign (h.ev rfl)) rfl ?_; intro f h
  refine s_nil ?_
  refine hK1 _ _ ?_
  refine c_seq fun K2 hK2 => ?_
  refine c_region ?_
  refine s_pure h (ru_move (h.ev rfl)) rfl ?_; intro f h
  refine s_pure h (ru_move (h.ev rfl)) rfl ?_; intro f h
  refine s_pure h (ru_len_str Tryd.underlying9 (h.ev rfl)) rfl ?_; intro f h
  refine s_pure h (ru_min (h.ev rfl) (h.ev rfl)) rfl ?_; intro f h
  refine s_pure h (ru_val (.string cx) (ru_slice_str (min sx.size 70) Tryd.underlying9 (h.ev rfl) (h.ev rfl) (by split <;> omega) (by omega)) (by rw [hcx])) rfl ?_; intro f h
  refine s_pure h (ru_assign (h.ev rfl)) rfl ?_; intro f h
  refine s_nil ?_
  refine hK2 _ _ ?_
  refine c_seq fun K3 hK3 => ?_
  refine c_region ?_
  refine s_pure h (ru_move (h.ev rfl)) rfl ?_; intro f h
  refine s_load_row 1 h s row23 rfl rfl (by first | exact idArr_size _ | exact bytesF_size _ _) rfl ?_; intro f h
  refine s_pure h (ru_move (h.ev rfl)) rfl ?_; intro f h
  refine s_call h s fnc7 (nonce_ok cx hc6 _ n hn _ (hH.keep s.ext) (hK.keep s.ext)) rfl rfl ?_; intro f w1 v9 hT hE h s; obtain rfl := hT
  refine s_pure h (ru_move (h.ev rfl)) rfl ?_; intro f h
  refine s_pure h (ru_extract (h.ev rfl) rfl) rfl ?_; intro f h
  refine s_pure h (ru_extract (h.ev rfl) rfl) rfl ?_; intro f h
  refine s_pure h (ru_assign (h.ev rfl)) rfl ?_; intro f h
  refine s_pure h (ru_assign (h.ev rfl)) rfl ?_; intro f h
  refine s_nil ?_
  refine hK3 _ _ ?_
  refine c_seq fun K4 hK4 => ?_
  refine c_seq fun K5 hK5 => ?_
  refine c_walkN 25 [[], [0], [], [0, 1, 2], [0, 1, 2, 3], [0, 1, 2, 3, 4], [0, 1, 2, 3, 4, 5], [0, 1, 2, 3, 4, 5, 6], [0, 1, 2, 3, 4, 5], [0, 1, 2, 3, 4, 5, 6, 7, 8], [0, 1, 2, 3, 4, 5, 6, 7, 8, 9], [0, 1, 2, 3, 4, 5, 6, 7, 8, 9, 10], [0, 1, 2, 3, 4, 5, 6, 7, 8, 9, 10, 11], [0, 1, 2, 3, 4, 5, 6, 7, 8, 9, 10, 11, 12], [0, 1, 2, 3, 4, 5, 6, 7, 8, 9, 10, 11, 12], [0, 1, 2, 3, 4, 5, 6, 7, 8, 9, 10, 11, 12, 13, 14], [0, 1, 2, 3, 4, 5, 6, 7, 8, 9, 10, 11, 12], [0, 1, 2, 3, 4, 5, 6, 7, 8, 9, 10, 11, 12], [0, 1, 2, 3, 4, 5, 6, 7, 8, 9, 10, 11, 12, 13, 14, 15, 16, 17], [0, 1, 2, 3, 4, 5, 6, 7, 8, 9, 10, 11, 12, 13, 14, 15, 16, 17, 18], [0, 1, 2, 3, 4, 5, 6, 7, 8, 9, 10, 11, 12, 13, 14, 15, 16, 17, 18, 19], [0, 1, 2, 3, 4, 5, 6, 7, 8, 9, 10, 11, 12, 13, 14, 15, 16, 17, 18, 19, 20], [0, 1, 2, 3, 4, 5, 6, 7, 8, 9, 10, 11, 12, 13, 14, 15, 16, 17, 18, 19, 20, 21], [0, 1, 2, 3, 4, 5, 6, 7, 8, 9, 10, 11, 12, 13, 14, 15, 16, 17, 18, 19, 20, 21, 22], [0, 1, 2, 3, 4, 5, 6, 7, 8, 9, 10, 11, 12, 13, 14, 15, 16, 17, 18, 19, 20, 21, 22, 23]] h (by kernel_rfl) (by kernel_rfl) (by kernel_rfl) ?_
  refine w_load_row 1 h s row23 rfl rfl (by first | exact idArr_size _ | exact bytesF_size _ _) rfl ?_; intro f h
  refine w_call h fnc8 (fun w9 hE9 => left_any _ w9 (hH.keep (s.ext.trans hE9)) (hK.keep (s.ext.trans hE9))) rfl rfl ?_; intro f h
  refine w_load_row 1 h s row23 rfl rfl (by first | exact idArr_size _ | exact bytesF_size _ _) rfl ?_; intro f h
  refine w_call h fnc9 (fun w9 hE9 => made_any leftB (by decide) _ w9) rfl rfl ?_; intro f h
  refine w_pure h (ru_val (.bool false) (ru_neq_id idTy (h.ev rfl) (h.ev rfl)) (congrArg Value.bool (decide_eq_false (fun h9 => h9 rfl)))) rfl ?_; intro f h
  refine w_pure h (ru_move (h.ev rfl)) rfl ?_; intro f h
  refine w_on h rfl rfl rfl ?_
  refine w_load_row 1 h s row23 rfl rfl (by first | exact idArr_size _ | exact bytesF_size _ _) rfl ?_; intro f h
  refine w_on h rfl rfl rfl ?_
  refine w_call h fnc10 (fun w9 hE9 => right_any _ w9 (hH.keep (s.ext.trans hE9)) (hK.keep (s.ext.trans hE9))) rfl rfl ?_; intro f h
  refine w_on h rfl rfl rfl ?_
  refine w_load_row 1 h s row23 rfl rfl (by first | exact idArr_size _ | exact bytesF_size _ _) rfl ?_; intro f h
  refine w_on h rfl rfl rfl ?_
  refine w_call h fnc9 (fun w9 hE9 => made_any rightB (by decide) _ w9) rfl rfl ?_; intro f h
  refine w_on h rfl rfl rfl ?_
  refine w_pure h (ru_val (.bool false) (ru_neq_id idTy (h.ev rfl) (h.ev rfl)) (congrArg Value.bool (decide_eq_false (fun h9 => h9 rfl)))) rfl ?_; intro f h
  refine w_pure h (ru_pick_f (h.ev rfl) (h.ev rfl)) rfl ?_; intro f h
  refine w_pure h (ru_move (h.ev rfl)) rfl ?_; intro f h
  refine w_on h rfl rfl rfl ?_
  refine w_load_row 1 h s row23 rfl rfl (by first | exact idArr_size _ | exact bytesF_size _ _) rfl ?_; intro f h
  refine w_on h rfl rfl rfl ?_
  refine w_load_row 0 h s row23 rfl rfl (by first | exact idArr_size _ | exact bytesF_size _ _) rfl ?_; intro f h
  refine w_on h rfl rfl rfl ?_
  refine w_call h fnc11 (fun w9 hE9 => links_any _ _ w9 (hH.keep (s.ext.trans hE9)) (hK.keep (s.ext.trans hE9))) rfl rfl ?_; intro f h
  refine w_on h rfl rfl rfl ?_
  refine w_load_row 1 h s row23 rfl rfl (by first | exact idArr_size _ | exact bytesF_size _ _) rfl ?_; intro f h
  refine w_on h rfl rfl rfl ?_
  refine w_load_row 0 h s row23 rfl rfl (by first | exact idArr_size _ | exact bytesF_size _ _) rfl ?_; intro f h
  refine w_on h rfl rfl rfl ?_
  refine w_call h fnc12 (fun w9 hE9 => rlinks_any _ _ w9) rfl rfl ?_; intro f h
  refine w_on h rfl rfl rfl ?_
  refine w_pure h (ru_val (.bool false) (ru_neq_bool Tryd.underlying4 (h.ev rfl) (h.ev rfl)) (congrArg Value.bool (bne_self_eq_false _))) rfl ?_; intro f h
  refine w_pure h (ru_pick_f (h.ev rfl) (h.ev rfl)) rfl ?_; intro f h
  refine w_pure h (ru_move (h.ev rfl)) rfl ?_; intro f h
  refine w_on h rfl rfl rfl ?_
  refine w_call h fnc13 (fun w9 hE9 => alive_any w9 (hH.keep (s.ext.trans hE9)) (hK.keep (s.ext.trans hE9))) rfl rfl ?_; intro f h
  refine w_on h rfl rfl rfl ?_
  refine w_pure h (ru_val (.bool false) (ru_not (h.ev rfl)) rfl) rfl ?_; intro f h
  refine w_pure h (ru_pick_f (h.ev rfl) (h.ev rfl)) rfl ?_; intro f h
  refine w_nil s fun w1 s => ?_
  refine s_nil ?_
  refine hK5 _ _ ?_
  refine wpIn_cond_false (h.ev rfl) ?_
  refine wpIn_skip ?_
  refine hK4 _ _ ?_
  refine c_seq fun K6 hK6 => ?_
  refine c_seq fun K7 hK7 => ?_
  refine c_region ?_
  refine s_pure h (ru_move (h.ev rfl)) rfl ?_; intro f h
  refine s_pure h (ru_val (.bool false) (ru_lss (h.ev rfl) (h.ev rfl)) (congrArg Value.bool (decide_eq_false (by omega)))) rfl ?_; intro f h
  refine s_pure h (ru_move (h.ev rfl)) rfl ?_; intro f h
  refine s_on h rfl rfl rfl ?_
  refine s_pure h (ru_move (h.ev rfl)) rfl ?_; intro f h
  refine s_on h rfl rfl rfl ?_
  refine s_pure h (ru_val (.bool false) (ru_gtr (h.ev rfl) (h.ev rfl)) (congrArg Value.bool (decide_eq_false (by omega)))) rfl ?_; intro f h
  refine s_pure h (ru_pick_f (h.ev rfl) (h.ev rfl)) rfl ?_; intro f h
  refine s_nil ?_
  refine hK7 _ _ ?_
  refine wpIn_cond_false (h.ev rfl) ?_
  refine wpIn_skip ?_
  refine hK6 _ _ ?_
  refine c_seq fun K8 hK8 => ?_
  refine c_seq fun K9 hK9 => ?_
  refine c_region ?_
  refine s_pure h (ru_move (h.ev rfl)) rfl ?_; intro f h
  refine s_pure h (ru_len_str Tryd.underlying9 (h.ev rfl)) rfl ?_; intro f h
  refine s_pure h (ru_val (.bool false) (ru_gtr (h.ev rfl) (h.ev rfl)) (congrArg Value.bool (decide_eq_false (by omega)))) rfl ?_; intro f h
  refine s_nil ?_
  refine hK9 _ _ ?_
  refine wpIn_cond_false (h.ev rfl) ?_
  refine wpIn_skip ?_
  refine hK8 _ _ ?_
  refine c_seq fun K10 hK10 => ?_
  refine c_region ?_
  refine s_pure h (ru_move (h.ev rfl)) rfl ?_; intro f h
  refine s_pure h (ru_val (.bool true) (ru_eql (h.ev rfl) (h.ev rfl)) (congrArg Value.bool (decide_eq_true (rfl)))) rfl ?_; intro f h
  refine s_pure h (ru_move (h.ev rfl)) rfl ?_; intro f h
  refine s_on h rfl rfl rfl ?_
  refine s_pure h (ru_move (h.ev rfl)) rfl ?_; intro f h
  refine s_on h rfl rfl rfl ?_
  refine s_pure h (ru_move (h.ev rfl)) rfl ?_; intro f h
  refine s_on h rfl rfl rfl ?_
  refine s_load_row 1 h s row23 rfl rfl (by first | exact idArr_size _ | exact bytesF_size _ _) rfl ?_; intro f h
  refine s_on h rfl rfl rfl ?_
  refine s_pure h (ru_move (h.ev rfl)) rfl ?_; intro f h
  refine s_on h rfl rfl rfl ?_
  refine s_call h s fnc14 (rnonce_ok cx hc6 _ n hn _) rfl rfl ?_; intro f w1 v9 hT hE h s; obtain rfl := hT
  refine s_on h rfl rfl rfl ?_
  refine s_pure h (ru_val (.bool true) (ru_eql_str (h.ev rfl) (h.ev rfl)) (congrArg Value.bool (decide_eq_true (rfl)))) rfl ?_; intro f h
  refine s_pure h (ru_pick_t (h.ev rfl) (h.ev rfl)) rfl ?_; intro f h
  refine s_pure h (ru_assign (h.ev rfl)) rfl ?_; intro f h
  refine s_nil ?_
  refine hK10 _ _ ?_
  refine wpIn_ret ?_
  exact e_tmp rfl h s rfl (rfl)

theorem pmakes_long (a b : Id) (sx : ByteArray) (hsx : 64 < (sx.extract 0 (min sx.size 70)).size) (n : Nat) (hn : n < 16) (w : World) (hH : Tab w 0 (wF hTab 8)) (hK : Tab w 1 (wF kTab 64)) : Calls Tryd.prog 3 [idV a, idV b, .string sx, .int .i64 (n : Int)].toArray w (Ret w (is (.bool true))) := by
  obtain ⟨cx, hcx⟩ : ∃ cx, cx = sx.extract 0 (min sx.size 70) := ⟨_, rfl⟩
  have hcs : cx.size ≤ 70 := by rw [hcx]; exact cut_size _ _
  have hc6 : 64 < cx.size := by rw [hcx]; exact hsx
  refine c_enter Tryd.func3 rfl Tryd.ntmps3 rfl [(0, idV a), (1, idV b), (2, .string sx), (3, .int .i64 (n : Int))] (by simp) fun f h => ?_
  have s := St.start w
  refine c_seq fun K1 hK1 => ?_
  refine c_region ?_
  refine s_box (idArr a) h s rfl rfl rfl ?_; intro f w1 b4 h s
  refine s_box (idArr b) h s rfl rfl rfl ?_; intro f w1 b5 h s
  refine s_pure h (ru_assign (h.ev rfl)) rfl ?_; intro f h
  refine s_nil ?_
  refine hK1 _ _ ?_
  refine c_seq fun K2 hK2 => ?_
  refine c_region ?_
  refine s_pure h (ru_move (h.ev rfl)) rfl ?_; intro f h
  refine s_pure h (ru_move (h.ev rfl)) rfl ?_; intro f h
  refine s_pure h (ru_len_str Tryd.underlying9 (h.ev rfl)) rfl ?_; intro f h
  refine s_pure h (ru_min (h.ev rfl) (h.ev rfl)) rfl ?_; intro f h
  refine s_pure h (ru_val (.string cx) (ru_slice_str (min sx.size 70) Tryd.underlying9 (h.ev rfl) (h.ev rfl) (by split <;> omega) (by omega)) (by rw [hcx])) rfl ?_; intro f h
  refine s_pure h (ru_assign (h.ev rfl)) rfl ?_; intro f h
  refine s_nil ?_
  refine hK2 _ _ ?_
  refine c_seq fun K3 hK3 => ?_
  refine c_region ?_
  refine s_pure h (ru_move (h.ev rfl)) rfl ?_; intro f h
  refine s_load_row 1 h s row23 rfl rfl (by first | exact idArr_size _ | exact bytesF_size _ _) rfl ?_; intro f h
  refine s_pure h (ru_move (h.ev rfl)) rfl ?_; intro f h
  refine s_call h s fnc7 (nonce_long cx hc6 _ n hn _) rfl rfl ?_; intro f w1 v9 hT hE h s; obtain rfl := hT
  refine s_pure h (ru_move (h.ev rfl)) rfl ?_; intro f h
  refine s_pure h (ru_extract (h.ev rfl) rfl) rfl ?_; intro f h
  refine s_pure h (ru_extract (h.ev rfl) rfl) rfl ?_; intro f h
  refine s_pure h (ru_assign (h.ev rfl)) rfl ?_; intro f h
  refine s_pure h (ru_assign (h.ev rfl)) rfl ?_; intro f h
  refine s_nil ?_
  refine hK3 _ _ ?_
  refine c_seq fun K4 hK4 => ?_
  refine c_seq fun K5 hK5 => ?_
  refine c_walkN 25 [[], [0], [], [0, 1, 2], [0, 1, 2, 3], [0, 1, 2, 3, 4], [0, 1, 2, 3, 4, 5], [0, 1, 2, 3, 4, 5, 6], [0, 1, 2, 3, 4, 5], [0, 1, 2, 3, 4, 5, 6, 7, 8], [0, 1, 2, 3, 4, 5, 6, 7, 8, 9], [0, 1, 2, 3, 4, 5, 6, 7, 8, 9, 10], [0, 1, 2, 3, 4, 5, 6, 7, 8, 9, 10, 11], [0, 1, 2, 3, 4, 5, 6, 7, 8, 9, 10, 11, 12], [0, 1, 2, 3, 4, 5, 6, 7, 8, 9, 10, 11, 12], [0, 1, 2, 3, 4, 5, 6, 7, 8, 9, 10, 11, 12, 13, 14], [0, 1, 2, 3, 4, 5, 6, 7, 8, 9, 10, 11, 12], [0, 1, 2, 3, 4, 5, 6, 7, 8, 9, 10, 11, 12], [0, 1, 2, 3, 4, 5, 6, 7, 8, 9, 10, 11, 12, 13, 14, 15, 16, 17], [0, 1, 2, 3, 4, 5, 6, 7, 8, 9, 10, 11, 12, 13, 14, 15, 16, 17, 18], [0, 1, 2, 3, 4, 5, 6, 7, 8, 9, 10, 11, 12, 13, 14, 15, 16, 17, 18, 19], [0, 1, 2, 3, 4, 5, 6, 7, 8, 9, 10, 11, 12, 13, 14, 15, 16, 17, 18, 19, 20], [0, 1, 2, 3, 4, 5, 6, 7, 8, 9, 10, 11, 12, 13, 14, 15, 16, 17, 18, 19, 20, 21], [0, 1, 2, 3, 4, 5, 6, 7, 8, 9, 10, 11, 12, 13, 14, 15, 16, 17, 18, 19, 20, 21, 22], [0, 1, 2, 3, 4, 5, 6, 7, 8, 9, 10, 11, 12, 13, 14, 15, 16, 17, 18, 19, 20, 21, 22, 23]] h (by kernel_rfl) (by kernel_rfl) (by kernel_rfl) ?_
  refine w_load_row 1 h s row23 rfl rfl (by first | exact idArr_size _ | exact bytesF_size _ _) rfl ?_; intro f h
  refine w_call h fnc8 (fun w9 hE9 => left_any _ w9 (hH.keep (s.ext.trans hE9)) (hK.keep (s.ext.trans hE9))) rfl rfl ?_; intro f h
  refine w_load_row 1 h s row23 rfl rfl (by first | exact idArr_size _ | exact bytesF_size _ _) rfl ?_; intro f h
  refine w_call h fnc9 (fun w9 hE9 => made_any leftB (by decide) _ w9) rfl rfl ?_; intro f h
  refine w_pure h (ru_val (.bool false) (ru_neq_id idTy (h.ev rfl) (h.ev rfl)) (congrArg Value.bool (decide_eq_false (fun h9 => h9 rfl)))) rfl ?_; intro f h
  refine w_pure h (ru_move (h.ev rfl)) rfl ?_; intro f h
  refine w_on h rfl rfl rfl ?_
  refine w_load_row 1 h s row23 rfl rfl (by first | exact idArr_size _ | exact bytesF_size _ _) rfl ?_; intro f h
  refine w_on h rfl rfl rfl ?_
  refine w_call h fnc10 (fun w9 hE9 => right_any _ w9 (hH.keep (s.ext.trans hE9)) (hK.keep (s.ext.trans hE9))) rfl rfl ?_; intro f h
  refine w_on h rfl rfl rfl ?_
  refine w_load_row 1 h s row23 rfl rfl (by first | exact idArr_size _ | exact bytesF_size _ _) rfl ?_; intro f h
  refine w_on h rfl rfl rfl ?_
  refine w_call h fnc9 (fun w9 hE9 => made_any rightB (by decide) _ w9) rfl rfl ?_; intro f h
  refine w_on h rfl rfl rfl ?_
  refine w_pure h (ru_val (.bool false) (ru_neq_id idTy (h.ev rfl) (h.ev rfl)) (congrArg Value.bool (decide_eq_false (fun h9 => h9 rfl)))) rfl ?_; intro f h
  refine w_pure h (ru_pick_f (h.ev rfl) (h.ev rfl)) rfl ?_; intro f h
  refine w_pure h (ru_move (h.ev rfl)) rfl ?_; intro f h
  refine w_on h rfl rfl rfl ?_
  refine w_load_row 1 h s row23 rfl rfl (by first | exact idArr_size _ | exact bytesF_size _ _) rfl ?_; intro f h
  refine w_on h rfl rfl rfl ?_
  refine w_load_row 0 h s row23 rfl rfl (by first | exact idArr_size _ | exact bytesF_size _ _) rfl ?_; intro f h
  refine w_on h rfl rfl rfl ?_
  refine w_call h fnc11 (fun w9 hE9 => links_any _ _ w9 (hH.keep (s.ext.trans hE9)) (hK.keep (s.ext.trans hE9))) rfl rfl ?_; intro f h
  refine w_on h rfl rfl rfl ?_
  refine w_load_row 1 h s row23 rfl rfl (by first | exact idArr_size _ | exact bytesF_size _ _) rfl ?_; intro f h
  refine w_on h rfl rfl rfl ?_
  refine w_load_row 0 h s row23 rfl rfl (by first | exact idArr_size _ | exact bytesF_size _ _) rfl ?_; intro f h
  refine w_on h rfl rfl rfl ?_
  refine w_call h fnc12 (fun w9 hE9 => rlinks_any _ _ w9) rfl rfl ?_; intro f h
  refine w_on h rfl rfl rfl ?_
  refine w_pure h (ru_val (.bool false) (ru_neq_bool Tryd.underlying4 (h.ev rfl) (h.ev rfl)) (congrArg Value.bool (bne_self_eq_false _))) rfl ?_; intro f h
  refine w_pure h (ru_pick_f (h.ev rfl) (h.ev rfl)) rfl ?_; intro f h
  refine w_pure h (ru_move (h.ev rfl)) rfl ?_; intro f h
  refine w_on h rfl rfl rfl ?_
  refine w_call h fnc13 (fun w9 hE9 => alive_any w9 (hH.keep (s.ext.trans hE9)) (hK.keep (s.ext.trans hE9))) rfl rfl ?_; intro f h
  refine w_on h rfl rfl rfl ?_
  refine w_pure h (ru_val (.bool false) (ru_not (h.ev rfl)) rfl) rfl ?_; intro f h
  refine w_pure h (ru_pick_f (h.ev rfl) (h.ev rfl)) rfl ?_; intro f h
  refine w_nil s fun w1 s => ?_
  refine s_nil ?_
  refine hK5 _ _ ?_
  refine wpIn_cond_false (h.ev rfl) ?_
  refine wpIn_skip ?_
  refine hK4 _ _ ?_
  refine c_seq fun K6 hK6 => ?_
  refine c_seq fun K7 hK7 => ?_
  refine c_region ?_
  refine s_pure h (ru_move (h.ev rfl)) rfl ?_; intro f h
  refine s_pure h (ru_val (.bool false) (ru_lss (h.ev rfl) (h.ev rfl)) (congrArg Value.bool (decide_eq_false (by omega)))) rfl ?_; intro f h
  refine s_pure h (ru_move (h.ev rfl)) rfl ?_; intro f h
  refine s_on h rfl rfl rfl ?_
  refine s_pure h (ru_move (h.ev rfl)) rfl ?_; intro f h
  refine s_on h rfl rfl rfl ?_
  refine s_pure h (ru_val (.bool false) (ru_gtr (h.ev rfl) (h.ev rfl)) (congrArg Value.bool (decide_eq_false (by omega)))) rfl ?_; intro f h
  refine s_pure h (ru_pick_f (h.ev rfl) (h.ev rfl)) rfl ?_; intro f h
  refine s_nil ?_
  refine hK7 _ _ ?_
  refine wpIn_cond_false (h.ev rfl) ?_
  refine wpIn_skip ?_
  refine hK6 _ _ ?_
  refine c_seq fun K8 hK8 => ?_
  refine c_seq fun K9 hK9 => ?_
  refine c_region ?_
  refine s_pure h (ru_move (h.ev rfl)) rfl ?_; intro f h
  refine s_pure h (ru_len_str Tryd.underlying9 (h.ev rfl)) rfl ?_; intro f h
  refine s_pure h (ru_val (.bool true) (ru_gtr (h.ev rfl) (h.ev rfl)) (congrArg Value.bool (decide_eq_true (by omega)))) rfl ?_; intro f h
  refine s_nil ?_
  refine hK9 _ _ ?_
  refine wpIn_cond_true (h.ev rfl) ?_
  refine c_seq fun K10 hK10 => ?_
  refine c_region ?_
  refine s_pure h (ru_move (h.ev rfl)) rfl ?_; intro f h
  refine s_pure h (ru_val (.bool true) (ru_eql (h.ev rfl) (h.ev rfl)) (congrArg Value.bool (decide_eq_true (rfl)))) rfl ?_; intro f h
  refine s_pure h (ru_move (h.ev rfl)) rfl ?_; intro f h
  refine s_on h rfl rfl rfl ?_
  refine s_pure h (ru_move (h.ev rfl)) rfl ?_; intro f h
  refine s_on h rfl rfl rfl ?_
  refine s_pure h (ru_val (.bool true) (ru_eql_str (h.ev rfl) (h.ev rfl)) (congrArg Value.bool (decide_eq_true (rfl)))) rfl ?_; intro f h
  refine s_pure h (ru_pick_t (h.ev rfl) (h.ev rfl)) rfl ?_; intro f h
  refine s_pure h (ru_assign (h.ev rfl)) rfl ?_; intro f h
  refine s_nil ?_
  refine hK10 _ _ ?_
  refine wpIn_ret ?_
  refine t_ret ?_
  exact e_tmp rfl h s rfl (rfl)

theorem pmakes_bad (a b : Id) (sx : ByteArray) (k : Int) (hk : k < 0 ∨ 16 ≤ k) (w : World) (hH : Tab w 0 (wF hTab 8)) (hK : Tab w 1 (wF kTab 64)) : Calls Tryd.prog 3 [idV a, idV b, .string sx, .int .i64 k].toArray w (Ret w (is (.bool true))) := by
  obtain ⟨cx, hcx⟩ : ∃ cx, cx = sx.extract 0 (min sx.size 70) := ⟨_, rfl⟩
  have hcs : cx.size ≤ 70 := by rw [hcx]; exact cut_size _ _
  refine c_enter Tryd.func3 rfl Tryd.ntmps3 rfl [(0, idV a), (1, idV b), (2, .string sx), (3, .int .i64 k)] (by simp) fun f h => ?_
  have s := St.start w
  refine c_seq fun K1 hK1 => ?_
  refine c_region ?_
  refine s_box (idArr a) h s rfl rfl rfl ?_; intro f w1 b4 h s
  refine s_box (idArr b) h s rfl rfl rfl ?_; intro f w1 b5 h s
  refine s_pure h (ru_assign (h.ev rfl)) rfl ?_; intro f h
  refine s_nil ?_
  refine hK1 _ _ ?_
  refine c_seq fun K2 hK2 => ?_
  refine c_region ?_
  refine s_pure h (ru_move (h.ev rfl)) rfl ?_; intro f h
  refine s_pure h (ru_move (h.ev rfl)) rfl ?_; intro f h
  refine s_pure h (ru_len_str Tryd.underlying9 (h.ev rfl)) rfl ?_; intro f h
  refine s_pure h (ru_min (h.ev rfl) (h.ev rfl)) rfl ?_; intro f h
  refine s_pure h (ru_val (.string cx) (ru_slice_str (min sx.size 70) Tryd.underlying9 (h.ev rfl) (h.ev rfl) (by split <;> omega) (by omega)) (by rw [hcx])) rfl ?_; intro f h
  refine s_pure h (ru_assign (h.ev rfl)) rfl ?_; intro f h
  refine s_nil ?_
  refine hK2 _ _ ?_
  refine c_seq fun K3 hK3 => ?_
  refine c_region ?_
  refine s_pure h (ru_move (h.ev rfl)) rfl ?_; intro f h
  refine s_load_row 1 h s row23 rfl rfl (by first | exact idArr_size _ | exact bytesF_size _ _) rfl ?_; intro f h
  refine s_pure h (ru_move (h.ev rfl)) rfl ?_; intro f h
  refine s_call h s fnc7 (nonce_bad cx _ k hk _) rfl rfl ?_; intro f w1 v9 hT hE h s; obtain rfl := hT
  refine s_pure h (ru_move (h.ev rfl)) rfl ?_; intro f h
  refine s_pure h (ru_extract (h.ev rfl) rfl) rfl ?_; intro f h
  refine s_pure h (ru_extract (h.ev rfl) rfl) rfl ?_; intro f h
  refine s_pure h (ru_assign (h.ev rfl)) rfl ?_; intro f h
  refine s_pure h (ru_assign (h.ev rfl)) rfl ?_; intro f h
  refine s_nil ?_
  refine hK3 _ _ ?_
  refine c_seq fun K4 hK4 => ?_
  refine c_seq fun K5 hK5 => ?_
  refine c_walkN 25 [[], [0], [], [0, 1, 2], [0, 1, 2, 3], [0, 1, 2, 3, 4], [0, 1, 2, 3, 4, 5], [0, 1, 2, 3, 4, 5, 6], [0, 1, 2, 3, 4, 5], [0, 1, 2, 3, 4, 5, 6, 7, 8], [0, 1, 2, 3, 4, 5, 6, 7, 8, 9], [0, 1, 2, 3, 4, 5, 6, 7, 8, 9, 10], [0, 1, 2, 3, 4, 5, 6, 7, 8, 9, 10, 11], [0, 1, 2, 3, 4, 5, 6, 7, 8, 9, 10, 11, 12], [0, 1, 2, 3, 4, 5, 6, 7, 8, 9, 10, 11, 12], [0, 1, 2, 3, 4, 5, 6, 7, 8, 9, 10, 11, 12, 13, 14], [0, 1, 2, 3, 4, 5, 6, 7, 8, 9, 10, 11, 12], [0, 1, 2, 3, 4, 5, 6, 7, 8, 9, 10, 11, 12], [0, 1, 2, 3, 4, 5, 6, 7, 8, 9, 10, 11, 12, 13, 14, 15, 16, 17], [0, 1, 2, 3, 4, 5, 6, 7, 8, 9, 10, 11, 12, 13, 14, 15, 16, 17, 18], [0, 1, 2, 3, 4, 5, 6, 7, 8, 9, 10, 11, 12, 13, 14, 15, 16, 17, 18, 19], [0, 1, 2, 3, 4, 5, 6, 7, 8, 9, 10, 11, 12, 13, 14, 15, 16, 17, 18, 19, 20], [0, 1, 2, 3, 4, 5, 6, 7, 8, 9, 10, 11, 12, 13, 14, 15, 16, 17, 18, 19, 20, 21], [0, 1, 2, 3, 4, 5, 6, 7, 8, 9, 10, 11, 12, 13, 14, 15, 16, 17, 18, 19, 20, 21, 22], [0, 1, 2, 3, 4, 5, 6, 7, 8, 9, 10, 11, 12, 13, 14, 15, 16, 17, 18, 19, 20, 21, 22, 23]] h (by kernel_rfl) (by kernel_rfl) (by kernel_rfl) ?_
  refine w_load_row 1 h s row23 rfl rfl (by first | exact idArr_size _ | exact bytesF_size _ _) rfl ?_; intro f h
  refine w_call h fnc8 (fun w9 hE9 => left_any _ w9 (hH.keep (s.ext.trans hE9)) (hK.keep (s.ext.trans hE9))) rfl rfl ?_; intro f h
  refine w_load_row 1 h s row23 rfl rfl (by first | exact idArr_size _ | exact bytesF_size _ _) rfl ?_; intro f h
  refine w_call h fnc9 (fun w9 hE9 => made_any leftB (by decide) _ w9) rfl rfl ?_; intro f h
  refine w_pure h (ru_val (.bool false) (ru_neq_id idTy (h.ev rfl) (h.ev rfl)) (congrArg Value.bool (decide_eq_false (fun h9 => h9 rfl)))) rfl ?_; intro f h
  refine w_pure h (ru_move (h.ev rfl)) rfl ?_; intro f h
  refine w_on h rfl rfl rfl ?_
  refine w_load_row 1 h s row23 rfl rfl (by first | exact idArr_size _ | exact bytesF_size _ _) rfl ?_; intro f h
  refine w_on h rfl rfl rfl ?_
  refine w_call h fnc10 (fun w9 hE9 => right_any _ w9 (hH.keep (s.ext.trans hE9)) (hK.keep (s.ext.trans hE9))) rfl rfl ?_; intro f h
  refine w_on h rfl rfl rfl ?_
  refine w_load_row 1 h s row23 rfl rfl (by first | exact idArr_size _ | exact bytesF_size _ _) rfl ?_; intro f h
  refine w_on h rfl rfl rfl ?_
  refine w_call h fnc9 (fun w9 hE9 => made_any rightB (by decide) _ w9) rfl rfl ?_; intro f h
  refine w_on h rfl rfl rfl ?_
  refine w_pure h (ru_val (.bool false) (ru_neq_id idTy (h.ev rfl) (h.ev rfl)) (congrArg Value.bool (decide_eq_false (fun h9 => h9 rfl)))) rfl ?_; intro f h
  refine w_pure h (ru_pick_f (h.ev rfl) (h.ev rfl)) rfl ?_; intro f h
  refine w_pure h (ru_move (h.ev rfl)) rfl ?_; intro f h
  refine w_on h rfl rfl rfl ?_
  refine w_load_row 1 h s row23 rfl rfl (by first | exact idArr_size _ | exact bytesF_size _ _) rfl ?_; intro f h
  refine w_on h rfl rfl rfl ?_
  refine w_load_row 0 h s row23 rfl rfl (by first | exact idArr_size _ | exact bytesF_size _ _) rfl ?_; intro f h
  refine w_on h rfl rfl rfl ?_
  refine w_call h fnc11 (fun w9 hE9 => links_any _ _ w9 (hH.keep (s.ext.trans hE9)) (hK.keep (s.ext.trans hE9))) rfl rfl ?_; intro f h
  refine w_on h rfl rfl rfl ?_
  refine w_load_row 1 h s row23 rfl rfl (by first | exact idArr_size _ | exact bytesF_size _ _) rfl ?_; intro f h
  refine w_on h rfl rfl rfl ?_
  refine w_load_row 0 h s row23 rfl rfl (by first | exact idArr_size _ | exact bytesF_size _ _) rfl ?_; intro f h
  refine w_on h rfl rfl rfl ?_
  refine w_call h fnc12 (fun w9 hE9 => rlinks_any _ _ w9) rfl rfl ?_; intro f h
  refine w_on h rfl rfl rfl ?_
  refine w_pure h (ru_val (.bool false) (ru_neq_bool Tryd.underlying4 (h.ev rfl) (h.ev rfl)) (congrArg Value.bool (bne_self_eq_false _))) rfl ?_; intro f h
  refine w_pure h (ru_pick_f (h.ev rfl) (h.ev rfl)) rfl ?_; intro f h
  refine w_pure h (ru_move (h.ev rfl)) rfl ?_; intro f h
  refine w_on h rfl rfl rfl ?_
  refine w_call h fnc13 (fun w9 hE9 => alive_any w9 (hH.keep (s.ext.trans hE9)) (hK.keep (s.ext.trans hE9))) rfl rfl ?_; intro f h
  refine w_on h rfl rfl rfl ?_
  refine w_pure h (ru_val (.bool false) (ru_not (h.ev rfl)) rfl) rfl ?_; intro f h
  refine w_pure h (ru_pick_f (h.ev rfl) (h.ev rfl)) rfl ?_; intro f h
  refine w_nil s fun w1 s => ?_
  refine s_nil ?_
  refine hK5 _ _ ?_
  refine wpIn_cond_false (h.ev rfl) ?_
  refine wpIn_skip ?_
  refine hK4 _ _ ?_
  refine c_seq fun K6 hK6 => ?_
  refine c_seq fun K7 hK7 => ?_
  cases hx : (decide (k < 0) : Bool)
  · skip
    refine c_region ?_
    refine s_pure h (ru_move (h.ev rfl)) rfl ?_; intro f h
    refine s_pure h (ru_val (.bool false) (ru_lss (h.ev rfl) (h.ev rfl)) (congrArg Value.bool hx)) rfl ?_; intro f h
    refine s_pure h (ru_move (h.ev rfl)) rfl ?_; intro f h
    refine s_on h rfl rfl rfl ?_
    refine s_pure h (ru_move (h.ev rfl)) rfl ?_; intro f h
    refine s_on h rfl rfl rfl ?_
    refine s_pure h (ru_val (.bool true) (ru_gtr (h.ev rfl) (h.ev rfl)) (congrArg Value.bool (decide_eq_true (by have := of_decide_eq_false hx; omega)))) rfl ?_; intro f h
    refine s_pure h (ru_pick_f (h.ev rfl) (h.ev rfl)) rfl ?_; intro f h
    refine s_nil ?_
    refine hK7 _ _ ?_
    refine wpIn_cond_true (h.ev rfl) ?_
    refine c_seq fun K8 hK8 => ?_
    refine c_region ?_
    refine s_pure h (ru_move (h.ev rfl)) rfl ?_; intro f h
    refine s_pure h (ru_val (.bool true) (ru_eql (h.ev rfl) (h.ev rfl)) (congrArg Value.bool (decide_eq_true (rfl)))) rfl ?_; intro f h
    refine s_pure h (ru_move (h.ev rfl)) rfl ?_; intro f h
    refine s_on h rfl rfl rfl ?_
    refine s_pure h (ru_move (h.ev rfl)) rfl ?_; intro f h
    refine s_on h rfl rfl rfl ?_
    refine s_pure h (ru_val (.bool true) (ru_eql_str (h.ev rfl) (h.ev rfl)) (congrArg Value.bool (decide_eq_true (rfl)))) rfl ?_; intro f h
    refine s_pure h (ru_pick_t (h.ev rfl) (h.ev rfl)) rfl ?_; intro f h
    refine s_pure h (ru_assign (h.ev rfl)) rfl ?_; intro f h
    refine s_nil ?_
    refine hK8 _ _ ?_
    refine wpIn_ret ?_
    refine t_ret ?_
    exact e_tmp rfl h s rfl (rfl)
  · skip
    refine c_region ?_
    refine s_pure h (ru_move (h.ev rfl)) rfl ?_; intro f h
    refine s_pure h (ru_val (.bool true) (ru_lss (h.ev rfl) (h.ev rfl)) (congrArg Value.bool hx)) rfl ?_; intro f h
    refine s_pure h (ru_move (h.ev rfl)) rfl ?_; intro f h
    refine s_off (b := false) h rfl rfl rfl rfl ?_; intro f h
    refine s_off (b := false) h rfl rfl rfl rfl ?_; intro f h
    refine s_pure h (ru_pick_t (h.ev rfl) (h.ev rfl)) rfl ?_; intro f h
    refine s_nil ?_
    refine hK7 _ _ ?_
    refine wpIn_cond_true (h.ev rfl) ?_
    refine c_seq fun K9 hK9 => ?_
    refine c_region ?_
    refine s_pure h (ru_move (h.ev rfl)) rfl ?_; intro f h
    refine s_pure h (ru_val (.bool true) (ru_eql (h.ev rfl) (h.ev rfl)) (congrArg Value.bool (decide_eq_true (rfl)))) rfl ?_; intro f h
    refine s_pure h (ru_move (h.ev rfl)) rfl ?_; intro f h
    refine s_on h rfl rfl rfl ?_
    refine s_pure h (ru_move (h.ev rfl)) rfl ?_; intro f h
    refine s_on h rfl rfl rfl ?_
    refine s_pure h (ru_val (.bool true) (ru_eql_str (h.ev rfl) (h.ev rfl)) (congrArg Value.bool (decide_eq_true (rfl)))) rfl ?_; intro f h
    refine s_pure h (ru_pick_t (h.ev rfl) (h.ev rfl)) rfl ?_; intro f h
    refine s_pure h (ru_assign (h.ev rfl)) rfl ?_; intro f h
    refine s_nil ?_
    refine hK9 _ _ ?_
    refine wpIn_ret ?_
    refine t_ret ?_
    exact e_tmp rfl h s rfl (rfl)

theorem pmakes_any (a b : Id) (sx : ByteArray) (k : Int) (w : World) (hH : Tab w 0 (wF hTab 8)) (hK : Tab w 1 (wF kTab 64)) : Calls Tryd.prog 3 [idV a, idV b, .string sx, .int .i64 k].toArray w (Ret w (is (.bool true))) := by
  by_cases h : k < 0 ∨ 16 ≤ k
  · exact pmakes_bad a b sx k h w hH hK
  · obtain ⟨n, rfl⟩ : ∃ n : Nat, k = (n : Int) := ⟨k.toNat, by omega⟩
    by_cases h2 : (sx.extract 0 (min sx.size 70)).size ≤ 64
    · exact pmakes_ok a b sx h2 n (by omega) w hH hK
    · exact pmakes_long a b sx (by omega) n (by omega) w hH hK
end Go.Proofs.YtpeflbdpfmpnhaaDoor
