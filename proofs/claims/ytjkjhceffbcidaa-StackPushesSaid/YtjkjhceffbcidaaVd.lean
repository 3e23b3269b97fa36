/- What StackTexts, StackReads, StackPushes, StackBack and StackParts answer: for all arguments. -/
import Derived.Test.YtjkjhceffbcidaaVc
set_option linter.unusedVariables false
set_option linter.unusedSimpArgs false
set_option linter.unusedSectionVars false
namespace Go.Proofs.Ytjkjhceffbcidaa
open Go.RowKit
theorem stexts_any (v1 : Value) (l : List Ent) (v2 : Value) (m : List Ent) (e : Ent) (w : World) (hv : RdZ w v1 34 l.length (eCells l)) (hu : RdZ w v2 34 m.length (eCells m)) : Calls Try.prog 3 [v1, v2, .agg (eArr e)].toArray w (Ret w (is (.bool true))) := by
  have hlv := re_take hv (min l.length 7) (by omega)
  obtain ⟨ls, hls⟩ : ∃ x9, x9 = l.take (min l.length 7) := ⟨_, rfl⟩
  rw [← hls] at hlv
  have hll : ls.length ≤ 7 := by rw [hls, List.length_take]; omega
  have hmv := re_take hu (min m.length 7) (by omega)
  obtain ⟨ms, hms⟩ : ∃ x9, x9 = m.take (min m.length 7) := ⟨_, rfl⟩
  rw [← hms] at hmv
  have hml : ms.length ≤ 7 := by rw [hms, List.length_take]; omega
  refine c_enter Try.func3 rfl Try.ntmps3 rfl [(0, v1), (1, v2), (2, .agg (eArr e))] (by simp) fun f h => ?_
  have s := St.start w
  refine c_seq fun K1 hK1 => ?_
  refine c_region ?_
  refine s_box ((eArr e)) h s rfl rfl rfl ?_; intro f w1 b5 h s
  refine s_pure h (ru_assign (h.ev rfl)) rfl ?_; intro f h
  refine s_nil ?_
  refine hK1 _ _ ?_
  refine c_seq fun K2 hK2 => ?_
  refine c_region ?_
  refine s_pure h (ru_move (h.ev rfl)) rfl ?_; intro f h
  refine s_call h s fnc8 (few_any v1 l _ (hv.keep s.ext)) rfl rfl ?_; intro f w1 v9 hT hE h s; obtain rfl := hT
  refine s_pure h (ru_move (h.ev rfl)) rfl ?_; intro f h
  refine s_call h s fnc8 (few_any v2 m _ (hu.keep s.ext)) rfl rfl ?_; intro f w1 v9 hT hE h s; obtain rfl := hT
  refine s_pure h (ru_assign (h.ev rfl)) rfl ?_; intro f h
  refine s_pure h (ru_assign (h.ev rfl)) rfl ?_; intro f h
  refine s_nil ?_
  refine hK2 _ _ ?_
  refine c_seq fun K3 hK3 => ?_
  refine c_region ?_
  refine s_pure h (ru_move (h.ev rfl)) rfl ?_; intro f h
  refine s_call h s fnc9 (text_any ls (by omega) _ _ (hlv.keep s.ext)) rfl rfl ?_; intro f w1 v9 hT hE h s; obtain rfl := hT
  refine s_pure h (ru_move (h.ev rfl)) rfl ?_; intro f h
  refine s_pure h (ru_extract (h.ev rfl) rfl) rfl ?_; intro f h
  refine s_pure h (ru_extract (h.ev rfl) rfl) rfl ?_; intro f h
  refine s_pure h (ru_assign (h.ev rfl)) rfl ?_; intro f h
  refine s_pure h (ru_assign (h.ev rfl)) rfl ?_; intro f h
  refine s_nil ?_
  refine hK3 _ _ ?_
  refine c_seq fun K4 hK4 => ?_
  refine c_seq fun K5 hK5 => ?_
  refine c_walkN 31 [[], [0], [], [0, 1, 2], [0, 1, 2, 3], [0, 1, 2, 3, 4], [0, 1, 2, 3, 4, 5], [0, 1, 2, 3, 4, 5, 6], [0, 1, 2, 3, 4, 5], [0, 1, 2, 3, 4, 5, 6, 7, 8], [0, 1, 2, 3, 4, 5, 6, 7, 8, 9], [0, 1, 2, 3, 4, 5, 6, 7, 8, 9, 10], [0, 1, 2, 3, 4, 5, 6, 7, 8, 9, 10, 11], [0, 1, 2, 3, 4, 5, 6, 7, 8, 9, 10, 11, 12], [0, 1, 2, 3, 4, 5, 6, 7, 8, 9, 10, 11, 12], [0, 1, 2, 3, 4, 5, 6, 7, 8, 9, 10, 11, 12, 13, 14], [0, 1, 2, 3, 4, 5, 6, 7, 8, 9, 10, 11, 12], [0, 1, 2, 3, 4, 5, 6, 7, 8, 9, 10, 11, 12], [0, 1, 2, 3, 4, 5, 6, 7, 8, 9, 10, 11, 12, 13, 14, 15, 16, 17], [0, 1, 2, 3, 4, 5, 6, 7, 8, 9, 10, 11, 12, 13, 14, 15, 16, 17, 18], [0, 1, 2, 3, 4, 5, 6, 7, 8, 9, 10, 11, 12, 13, 14, 15, 16, 17, 18, 19], [0, 1, 2, 3, 4, 5, 6, 7, 8, 9, 10, 11, 12, 13, 14, 15, 16, 17, 18, 19, 20], [0, 1, 2, 3, 4, 5, 6, 7, 8, 9, 10, 11, 12, 13, 14, 15, 16, 17, 18, 19, 20, 21], [0, 1, 2, 3, 4, 5, 6, 7, 8, 9, 10, 11, 12, 13, 14, 15, 16, 17, 18, 19, 20, 21], [0, 1, 2, 3, 4, 5, 6, 7, 8, 9, 10, 11, 12, 13, 14, 15, 16, 17, 18, 19, 20, 21, 22, 23], [0, 1, 2, 3, 4, 5, 6, 7, 8, 9, 10, 11, 12, 13, 14, 15, 16, 17, 18, 19, 20, 21, 22, 23, 24], [0, 1, 2, 3, 4, 5, 6, 7, 8, 9, 10, 11, 12, 13, 14, 15, 16, 17, 18, 19, 20, 21, 22, 23, 24, 25], [0, 1, 2, 3, 4, 5, 6, 7, 8, 9, 10, 11, 12, 13, 14, 15, 16, 17, 18, 19, 20, 21, 22, 23, 24, 25, 26], [0, 1, 2, 3, 4, 5, 6, 7, 8, 9, 10, 11, 12, 13, 14, 15, 16, 17, 18, 19, 20, 21, 22, 23, 24, 25, 26, 27], [0, 1, 2, 3, 4, 5, 6, 7, 8, 9, 10, 11, 12, 13, 14, 15, 16, 17, 18, 19, 20, 21, 22, 23, 24, 25, 26, 27, 28], [0, 1, 2, 3, 4, 5, 6, 7, 8, 9, 10, 11, 12, 13, 14, 15, 16, 17, 18, 19, 20, 21, 22, 23, 24, 25, 26, 27, 28, 29]] h (by kernel_rfl) (by kernel_rfl) (by kernel_rfl) ?_
  refine w_load_row 0 h s row26 rfl rfl (eArr_size _) rfl ?_; intro f h
  refine w_call h fnc10 (fun w9 hE9 => is_any e w9) rfl rfl ?_; intro f h
  refine w_load_row 0 h s row26 rfl rfl (eArr_size _) rfl ?_; intro f h
  refine w_call h fnc11 (fun w9 hE9 => ris_any e w9) rfl rfl ?_; intro f h
  refine w_pure h (ru_val (.bool false) (ru_neq_bool Try.underlying4 (h.ev rfl) (h.ev rfl)) (congrArg Value.bool (bne_self_f _))) rfl ?_; intro f h
  refine w_pure h (ru_move (h.ev rfl)) rfl ?_; intro f h
  refine w_on h rfl rfl rfl ?_
  refine w_pure h (ru_move (h.ev rfl)) rfl ?_; intro f h
  refine w_on h rfl rfl rfl ?_
  refine w_call h fnc12 (fun w9 hE9 => right_any ls _ w9 (hlv.keep (s.ext.trans hE9)) (by omega)) rfl rfl ?_; intro f h
  refine w_on h rfl rfl rfl ?_
  refine w_pure h (ru_move (h.ev rfl)) rfl ?_; intro f h
  refine w_on h rfl rfl rfl ?_
  refine w_call h fnc13 (fun w9 hE9 => rright_any ls _ w9 (hlv.keep (s.ext.trans hE9)) (by omega)) rfl rfl ?_; intro f h
  refine w_on h rfl rfl rfl ?_
  refine w_pure h (ru_val (.bool false) (ru_neq_bool Try.underlying4 (h.ev rfl) (h.ev rfl)) (congrArg Value.bool (bne_self_f _))) rfl ?_; intro f h
  refine w_pure h (ru_pick_f (h.ev rfl) (h.ev rfl)) rfl ?_; intro f h
  refine w_pure h (ru_move (h.ev rfl)) rfl ?_; intro f h
  refine w_on h rfl rfl rfl ?_
  refine w_pure h (ru_move (h.ev rfl)) rfl ?_; intro f h
  refine w_on h rfl rfl rfl ?_
  refine w_pure h (ru_move (h.ev rfl)) rfl ?_; intro f h
  refine w_on h rfl rfl rfl ?_
  refine w_call h fnc14 (fun w9 hE9 => same_any ls ms _ _ w9 (hlv.keep (s.ext.trans hE9)) (hmv.keep (s.ext.trans hE9)) (by omega) (by omega)) rfl rfl ?_; intro f h
  refine w_on h rfl rfl rfl ?_
  refine w_pure h (ru_move (h.ev rfl)) rfl ?_; intro f h
  refine w_on h rfl rfl rfl ?_
  refine w_pure h (ru_move (h.ev rfl)) rfl ?_; intro f h
  refine w_on h rfl rfl rfl ?_
  refine w_call h fnc15 (fun w9 hE9 => rsame_any ls ms _ _ w9 (hlv.keep (s.ext.trans hE9)) (hmv.keep (s.ext.trans hE9)) (by omega) (by omega)) rfl rfl ?_; intro f h
  refine w_on h rfl rfl rfl ?_
  refine w_pure h (ru_val (.bool false) (ru_neq_bool Try.underlying4 (h.ev rfl) (h.ev rfl)) (congrArg Value.bool (bne_self_f _))) rfl ?_; intro f h
  refine w_pure h (ru_pick_f (h.ev rfl) (h.ev rfl)) rfl ?_; intro f h
  refine w_pure h (ru_move (h.ev rfl)) rfl ?_; intro f h
  refine w_on h rfl rfl rfl ?_
  refine w_pure h (ru_move (h.ev rfl)) rfl ?_; intro f h
  refine w_on h rfl rfl rfl ?_
  refine w_pure h (ru_move (h.ev rfl)) rfl ?_; intro f h
  refine w_on h rfl rfl rfl ?_
  refine w_call h fnc14 (fun w9 hE9 => ret_val (.bool true) (same_any ls ls _ _ w9 (hlv.keep (s.ext.trans hE9)) (hlv.keep (s.ext.trans hE9)) (by omega) (by omega)) (congrArg Value.bool (decide_eq_true rfl))) rfl rfl ?_; intro f h
  refine w_on h rfl rfl rfl ?_
  refine w_pure h (ru_val (.bool false) (ru_not (h.ev rfl)) rfl) rfl ?_; intro f h
  refine w_pure h (ru_pick_f (h.ev rfl) (h.ev rfl)) rfl ?_; intro f h
  refine w_pure h (ru_move (h.ev rfl)) rfl ?_; intro f h
  refine w_on h rfl rfl rfl ?_
  refine w_call h fnc16 (fun w9 hE9 => alive_any w9) rfl rfl ?_; intro f h
  refine w_on h rfl rfl rfl ?_
  refine w_pure h (ru_val (.bool false) (ru_not (h.ev rfl)) rfl) rfl ?_; intro f h
  refine w_pure h (ru_pick_f (h.ev rfl) (h.ev rfl)) rfl ?_; intro f h
  refine w_nil s fun w1 s => ?_
  refine s_nil ?_
  refine hK5 _ _ ?_
  refine wpIn_cond_false (h.ev rfl) ?_
  refine wpIn_skip ?_
  refine hK4 _ _ ?_
  refine c_seq fun K6 hK6 => ?_
  refine c_seq fun K7 hK7 => ?_
  cases hr : (rightE ls : Bool)
  · skip
    refine c_region ?_
    refine s_pure h (ru_move (h.ev rfl)) rfl ?_; intro f h
    refine s_call h s fnc13 (ret_val (.bool false) (rright_any ls _ _ (hlv.keep s.ext) (by omega)) (congrArg Value.bool hr)) rfl rfl ?_; intro f w1 v9 hT hE h s; obtain rfl := hT
    refine s_pure h (ru_val (.bool true) (ru_not (h.ev rfl)) rfl) rfl ?_; intro f h
    refine s_nil ?_
    refine hK7 _ _ ?_
    refine wpIn_cond_true (h.ev rfl) ?_
    refine c_seq fun K8 hK8 => ?_
    refine c_region ?_
    refine s_pure h (ru_move (h.ev rfl)) rfl ?_; intro f h
    refine s_pure h (ru_val (.bool true) (ru_eql (h.ev rfl) (h.ev rfl)) (congrArg Value.bool (decide_eq_true (textR_f hr)))) rfl ?_; intro f h
    refine s_pure h (ru_move (h.ev rfl)) rfl ?_; intro f h
    refine s_on h rfl rfl rfl ?_
    refine s_pure h (ru_move (h.ev rfl)) rfl ?_; intro f h
    refine s_on h rfl rfl rfl ?_
    refine s_pure h (ru_val (.bool true) (ru_eql_str (h.ev rfl) (h.ev rfl)) (congrArg Value.bool (decide_eq_true (textW_f hr)))) rfl ?_; intro f h
    refine s_pure h (ru_pick_t (h.ev rfl) (h.ev rfl)) rfl ?_; intro f h
    refine s_pure h (ru_assign (h.ev rfl)) rfl ?_; intro f h
    refine s_nil ?_
    refine hK8 _ _ ?_
    refine wpIn_ret ?_
    refine t_ret ?_
    exact e_tmp rfl h s rfl (rfl)
  · skip
    refine c_region ?_
    refine s_pure h (ru_move (h.ev rfl)) rfl ?_; intro f h
    refine s_call h s fnc13 (ret_val (.bool true) (rright_any ls _ _ (hlv.keep s.ext) (by omega)) (congrArg Value.bool hr)) rfl rfl ?_; intro f w1 v9 hT hE h s; obtain rfl := hT
    refine s_pure h (ru_val (.bool false) (ru_not (h.ev rfl)) rfl) rfl ?_; intro f h
    refine s_nil ?_
    refine hK7 _ _ ?_
    refine wpIn_cond_false (h.ev rfl) ?_
    refine wpIn_skip ?_
    refine hK6 _ _ ?_
    refine c_seq fun K9 hK9 => ?_
    refine c_region ?_
    refine s_pure h (ru_move (h.ev rfl)) rfl ?_; intro f h
    refine s_pure h (ru_val (.bool true) (ru_eql (h.ev rfl) (h.ev rfl)) (congrArg Value.bool (decide_eq_true (textR_t hr)))) rfl ?_; intro f h
    refine s_pure h (ru_move (h.ev rfl)) rfl ?_; intro f h
    refine s_on h rfl rfl rfl ?_
    refine s_pure h (ru_move (h.ev rfl)) rfl ?_; intro f h
    refine s_on h rfl rfl rfl ?_
    refine s_pure h (ru_move (h.ev rfl)) rfl ?_; intro f h
    refine s_on h rfl rfl rfl ?_
    refine s_call h s fnc17 (rtext_any ls hr _ _ (hlv.keep s.ext)) rfl rfl ?_; intro f w1 v9 hT hE h s; obtain rfl := hT
    refine s_on h rfl rfl rfl ?_
    refine s_pure h (ru_val (.bool true) (ru_eql_str (h.ev rfl) (h.ev rfl)) (congrArg Value.bool (decide_eq_true (textW_t hr)))) rfl ?_; intro f h
    refine s_pure h (ru_pick_t (h.ev rfl) (h.ev rfl)) rfl ?_; intro f h
    refine s_pure h (ru_assign (h.ev rfl)) rfl ?_; intro f h
    refine s_nil ?_
    refine hK9 _ _ ?_
    refine wpIn_ret ?_
    exact e_tmp rfl h s rfl (rfl)

theorem sreads_any (sx : ByteArray) (w : World) : Calls Try.prog 4 [.string sx].toArray w (Ret w (is (.bool true))) := by
  obtain ⟨sy, hsy⟩ : ∃ x9, x9 = sx.extract 0 (min sx.size 200) := ⟨_, rfl⟩
  have hss : sy.size ≤ 200 := by rw [hsy, ByteArray.size_extract]; omega
  have hrl := readM_len sy
  refine c_enter Try.func4 rfl Try.ntmps4 rfl [(0, .string sx)] (by simp) fun f h => ?_
  have s := St.start w
  refine c_seq fun K1 hK1 => ?_
  refine c_region ?_
  refine s_pure h (ru_assign (h.ev rfl)) rfl ?_; intro f h
  refine s_nil ?_
  refine hK1 _ _ ?_
  refine c_seq fun K2 hK2 => ?_
  refine c_region ?_
  refine s_pure h (ru_move (h.ev rfl)) rfl ?_; intro f h
  refine s_pure h (ru_move (h.ev rfl)) rfl ?_; intro f h
  refine s_pure h (ru_len_str Try.underlying9 (h.ev rfl)) rfl ?_; intro f h
  refine s_pure h (ru_min (h.ev rfl) (h.ev rfl)) rfl ?_; intro f h
  refine s_pure h (ru_val (.string sy) (ru_slice_str (min sx.size 200) Try.underlying9 (h.ev rfl) (h.ev rfl) (by split <;> omega) (by omega)) (by rw [hsy])) rfl ?_; intro f h
  refine s_pure h (ru_assign (h.ev rfl)) rfl ?_; intro f h
  refine s_nil ?_
  refine hK2 _ _ ?_
  refine c_seq fun K3 hK3 => ?_
  refine c_region ?_
  refine s_pure h (ru_move (h.ev rfl)) rfl ?_; intro f h
  refine s_call h s fnc18 (read_any sy (by omega) _) rfl rfl ?_; rintro f w1 v14 ⟨vx, rfl, hvx⟩ hE h sq
  replace s := s.sl_new hE hvx
  refine s_pure h (ru_move (h.ev rfl)) rfl ?_; intro f h
  refine s_pure h (ru_extract (h.ev rfl) rfl) rfl ?_; intro f h
  refine s_pure h (ru_extract (h.ev rfl) rfl) rfl ?_; intro f h
  refine s_pure h (ru_extract (h.ev rfl) rfl) rfl ?_; intro f h
  refine s_pure h (ru_assign (h.ev rfl)) rfl ?_; intro f h
  refine s_pure h (ru_assign (h.ev rfl)) rfl ?_; intro f h
  refine s_pure h (ru_assign (h.ev rfl)) rfl ?_; intro f h
  refine s_nil ?_
  refine hK3 _ _ ?_
  refine c_seq fun K4 hK4 => ?_
  refine c_region ?_
  refine s_pure h (ru_move (h.ev rfl)) rfl ?_; intro f h
  refine s_call h s fnc19 (rread_any sy (by omega) _) rfl rfl ?_; rintro f w1 v19 ⟨vy, rfl, hvy⟩ hE h sq
  replace s := s.sl_new hE hvy
  refine s_alloc (#[.slice none 0 0, .int .i64 0, .int .i64 0]) h s zero40 rfl rfl ?_; intro f w1 b6 h s
  refine s_store_row 0 h s row40 rfl rfl rfl (rfl) (rfl) (t_ones _ _ _ (own_one (s.getSl 1 rfl))) ?_; intro w1 s
  refine s_nil ?_
  refine hK4 _ _ ?_
  refine c_seq fun K5 hK5 => ?_
  refine c_seq fun K6 hK6 => ?_
  refine c_region ?_
  refine s_pure h (ru_field fld40_2 (h.ev rfl)) rfl ?_; intro f h
  refine s_load_at1 (cell_of_has (Has.of_own s 0 rfl) 2 (rfl)) h one28 rfl rfl ?_; intro f h
  refine s_pure h (ru_neq (h.ev rfl) (h.ev rfl)) rfl ?_; intro f h
  refine s_nil ?_
  refine hK6 _ _ ?_
  refine c_cond h rfl (fun hc => ?_) (fun hc => ?_)
  · replace hc := of_decide_eq_true hc
    have hre := read_err sy hc
    refine c_seq fun K7 hK7 => ?_
    refine c_region ?_
    refine s_call h s fnc16 (alive_any _) rfl rfl ?_; intro f w1 v9 hT hE h s; obtain rfl := hT
    refine s_pure h (ru_move (h.ev rfl)) rfl ?_; intro f h
    refine s_on h rfl rfl rfl ?_
    refine s_pure h (ru_move (h.ev rfl)) rfl ?_; intro f h
    refine s_on h rfl rfl rfl ?_
    refine s_pure h (ru_field fld40_2 (h.ev rfl)) rfl ?_; intro f h
    refine s_on h rfl rfl rfl ?_
    refine s_load_at1 (cell_of_has (Has.of_own s 0 rfl) 2 (rfl)) h one28 rfl rfl ?_; intro f h
    refine s_on h rfl rfl rfl ?_
    refine s_pure h (ru_val (.bool true) (ru_eql (h.ev rfl) (h.ev rfl)) (congrArg Value.bool (decide_eq_true (rfl)))) rfl ?_; intro f h
    refine s_pure h (ru_pick_t (h.ev rfl) (h.ev rfl)) rfl ?_; intro f h
    refine s_pure h (ru_move (h.ev rfl)) rfl ?_; intro f h
    refine s_on h rfl rfl rfl ?_
    refine s_pure h (ru_move (h.ev rfl)) rfl ?_; intro f h
    refine s_on h rfl rfl rfl ?_
    refine s_pure h (ru_val (.bool true) (ru_eql (h.ev rfl) (h.ev rfl)) (congrArg Value.bool (decide_eq_true (by rw [hre]; rfl)))) rfl ?_; intro f h
    refine s_pure h (ru_pick_t (h.ev rfl) (h.ev rfl)) rfl ?_; intro f h
    refine s_pure h (ru_move (h.ev rfl)) rfl ?_; intro f h
    refine s_on h rfl rfl rfl ?_
    refine s_pure h (ru_move (h.ev rfl)) rfl ?_; intro f h
    refine s_on h rfl rfl rfl ?_
    refine s_len_sl 2 h s Try.underlying22 rfl rfl rfl ?_; intro f h
    refine s_on h rfl rfl rfl ?_
    refine s_pure h (ru_val (.bool true) (ru_eql (h.ev rfl) (h.ev rfl)) (congrArg Value.bool (decide_eq_true (by rw [hre]; rfl)))) rfl ?_; intro f h
    refine s_pure h (ru_pick_t (h.ev rfl) (h.ev rfl)) rfl ?_; intro f h
    refine s_pure h (ru_assign (h.ev rfl)) rfl ?_; intro f h
    refine s_nil ?_
    refine hK7 _ _ ?_
    refine wpIn_ret ?_
    refine t_ret ?_
    exact e_tmp rfl h s rfl (rfl)
  · replace hc := of_decide_eq_false hc
    have hok : (readM sy).1 = 0 := by omega
    refine wpIn_skip ?_
    refine hK5 _ _ ?_
    refine c_seq fun K8 hK8 => ?_
    refine c_region ?_
    refine s_call h s fnc16 (alive_any _) rfl rfl ?_; intro f w1 v9 hT hE h s; obtain rfl := hT
    refine s_pure h (ru_move (h.ev rfl)) rfl ?_; intro f h
    refine s_on h rfl rfl rfl ?_
    refine s_pure h (ru_move (h.ev rfl)) rfl ?_; intro f h
    refine s_on h rfl rfl rfl ?_
    refine s_pure h (ru_val (.bool true) (ru_eql (h.ev rfl) (h.ev rfl)) (congrArg Value.bool (decide_eq_true (hok)))) rfl ?_; intro f h
    refine s_pure h (ru_pick_t (h.ev rfl) (h.ev rfl)) rfl ?_; intro f h
    refine s_pure h (ru_move (h.ev rfl)) rfl ?_; intro f h
    refine s_on h rfl rfl rfl ?_
    refine s_pure h (ru_move (h.ev rfl)) rfl ?_; intro f h
    refine s_on h rfl rfl rfl ?_
    refine s_pure h (ru_field fld40_1 (h.ev rfl)) rfl ?_; intro f h
    refine s_on h rfl rfl rfl ?_
    refine s_load_at1 (cell_of_has (Has.of_own s 0 rfl) 1 (rfl)) h one3 rfl rfl ?_; intro f h
    refine s_on h rfl rfl rfl ?_
    refine s_pure h (ru_val (.bool true) (ru_eql (h.ev rfl) (h.ev rfl)) (congrArg Value.bool (decide_eq_true (rfl)))) rfl ?_; intro f h
    refine s_pure h (ru_pick_t (h.ev rfl) (h.ev rfl)) rfl ?_; intro f h
    refine s_pure h (ru_move (h.ev rfl)) rfl ?_; intro f h
    refine s_on h rfl rfl rfl ?_
    refine s_pure h (ru_move (h.ev rfl)) rfl ?_; intro f h
    refine s_on h rfl rfl rfl ?_
    refine s_pure h (ru_field fld40_0 (h.ev rfl)) rfl ?_; intro f h
    refine s_on h rfl rfl rfl ?_
    refine s_load_at1 (cell_of_has (Has.of_own s 0 rfl) 0 (rfl)) h one22 rfl rfl ?_; intro f h
    refine s_on h rfl rfl rfl ?_
    refine s_call h s fnc15 (ret_val (.bool true) (rsame_any (readM sy).2.1 (readM sy).2.1 vx vy _ (RdZ.of_own (s.getSl 2 rfl)) (RdZ.of_own (s.getSl 1 rfl)) (by omega) (by omega)) (congrArg Value.bool (decide_eq_true rfl))) rfl rfl ?_; intro f w1 v9 hT hE h s; obtain rfl := hT
    refine s_pure h (ru_pick_t (h.ev rfl) (h.ev rfl)) rfl ?_; intro f h
    refine s_pure h (ru_assign (h.ev rfl)) rfl ?_; intro f h
    refine s_nil ?_
    refine hK8 _ _ ?_
    refine wpIn_ret ?_
    exact e_tmp rfl h s rfl (rfl)

theorem spushes_any (v1 : Value) (l : List Ent) (v2 : Value) (m : List Ent) (w : World) (hv : RdZ w v1 34 l.length (eCells l)) (hu : RdZ w v2 34 m.length (eCells m)) : Calls Try.prog 5 [v1, v2].toArray w (Ret w (is (.bool true))) := by
  have hlv := re_take hv (min l.length 7) (by omega)
  obtain ⟨ls, hls⟩ : ∃ x9, x9 = l.take (min l.length 7) := ⟨_, rfl⟩
  rw [← hls] at hlv
  have hll : ls.length ≤ 7 := by rw [hls, List.length_take]; omega
  have hmv := re_take hu (min m.length 7) (by omega)
  obtain ⟨ms, hms⟩ : ∃ x9, x9 = m.take (min m.length 7) := ⟨_, rfl⟩
  rw [← hms] at hmv
  have hml : ms.length ≤ 7 := by rw [hms, List.length_take]; omega
  have hpl := pushM_len ls ms
  refine c_enter Try.func5 rfl Try.ntmps5 rfl [(0, v1), (1, v2)] (by simp) fun f h => ?_
  have s := St.start w
  refine c_seq fun K1 hK1 => ?_
  refine c_region ?_
  refine s_pure h (ru_assign (h.ev rfl)) rfl ?_; intro f h
  refine s_nil ?_
  refine hK1 _ _ ?_
  refine c_seq fun K2 hK2 => ?_
  refine c_region ?_
  refine s_pure h (ru_move (h.ev rfl)) rfl ?_; intro f h
  refine s_call h s fnc8 (few_any v1 l _ (hv.keep s.ext)) rfl rfl ?_; intro f w1 v9 hT hE h s; obtain rfl := hT
  refine s_pure h (ru_move (h.ev rfl)) rfl ?_; intro f h
  refine s_call h s fnc8 (few_any v2 m _ (hu.keep s.ext)) rfl rfl ?_; intro f w1 v9 hT hE h s; obtain rfl := hT
  refine s_pure h (ru_assign (h.ev rfl)) rfl ?_; intro f h
  refine s_pure h (ru_assign (h.ev rfl)) rfl ?_; intro f h
  refine s_nil ?_
  refine hK2 _ _ ?_
  refine c_seq fun K3 hK3 => ?_
  refine c_region ?_
  refine s_pure h (ru_move (h.ev rfl)) rfl ?_; intro f h
  refine s_pure h (ru_move (h.ev rfl)) rfl ?_; intro f h
  refine s_call h s fnc20 (push_any ls ms _ _ _ (hlv.keep s.ext) (hmv.keep s.ext) (by omega) (by omega)) rfl rfl ?_; rintro f w1 v14 ⟨vx, rfl, hvx⟩ hE h sq
  replace s := s.sl_new hE hvx
  refine s_pure h (ru_move (h.ev rfl)) rfl ?_; intro f h
  refine s_pure h (ru_extract (h.ev rfl) rfl) rfl ?_; intro f h
  refine s_pure h (ru_extract (h.ev rfl) rfl) rfl ?_; intro f h
  refine s_pure h (ru_assign (h.ev rfl)) rfl ?_; intro f h
  refine s_pure h (ru_assign (h.ev rfl)) rfl ?_; intro f h
  refine s_nil ?_
  refine hK3 _ _ ?_
  refine c_seq fun K4 hK4 => ?_
  refine c_seq fun K5 hK5 => ?_
  cases hl : (ls.all isE : Bool)
  · skip
    refine c_region ?_
    refine s_pure h (ru_move (h.ev rfl)) rfl ?_; intro f h
    refine s_call h s fnc21 (ret_val (.bool false) (rall_any ls _ _ (hlv.keep s.ext) (by omega)) (congrArg Value.bool hl)) rfl rfl ?_; intro f w1 v9 hT hE h s; obtain rfl := hT
    refine s_pure h (ru_val (.bool true) (ru_not (h.ev rfl)) rfl) rfl ?_; intro f h
    refine s_pure h (ru_move (h.ev rfl)) rfl ?_; intro f h
    refine s_off (b := false) h rfl rfl rfl rfl ?_; intro f h
    refine s_off (b := false) h rfl rfl rfl rfl ?_; intro f h
    refine s_off (b := false) h rfl rfl rfl rfl ?_; intro f h
    refine s_pure h (ru_pick_t (h.ev rfl) (h.ev rfl)) rfl ?_; intro f h
    refine s_nil ?_
    refine hK5 _ _ ?_
    refine wpIn_cond_true (h.ev rfl) ?_
    refine c_seq fun K6 hK6 => ?_
    refine c_region ?_
    refine s_call h s fnc16 (alive_any _) rfl rfl ?_; intro f w1 v9 hT hE h s; obtain rfl := hT
    refine s_pure h (ru_move (h.ev rfl)) rfl ?_; intro f h
    refine s_on h rfl rfl rfl ?_
    refine s_pure h (ru_move (h.ev rfl)) rfl ?_; intro f h
    refine s_on h rfl rfl rfl ?_
    refine s_pure h (ru_val (.bool true) (ru_eql (h.ev rfl) (h.ev rfl)) (congrArg Value.bool (decide_eq_true (pushE_l hl)))) rfl ?_; intro f h
    refine s_pure h (ru_pick_t (h.ev rfl) (h.ev rfl)) rfl ?_; intro f h
    refine s_pure h (ru_move (h.ev rfl)) rfl ?_; intro f h
    refine s_on h rfl rfl rfl ?_
    refine s_pure h (ru_move (h.ev rfl)) rfl ?_; intro f h
    refine s_on h rfl rfl rfl ?_
    refine s_len_sl 0 h s Try.underlying22 rfl rfl rfl ?_; intro f h
    refine s_on h rfl rfl rfl ?_
    refine s_pure h (ru_val (.bool true) (ru_eql (h.ev rfl) (h.ev rfl)) (congrArg Value.bool (decide_eq_true (by rw [pushM_n (pushE_l hl) (by decide)]; rfl)))) rfl ?_; intro f h
    refine s_pure h (ru_pick_t (h.ev rfl) (h.ev rfl)) rfl ?_; intro f h
    refine s_pure h (ru_assign (h.ev rfl)) rfl ?_; intro f h
    refine s_nil ?_
    refine hK6 _ _ ?_
    refine wpIn_ret ?_
    refine t_ret ?_
    exact e_tmp rfl h s rfl (rfl)
  · skip
    cases hf : (ms.all isE : Bool)
    · skip
      refine c_region ?_
      refine s_pure h (ru_move (h.ev rfl)) rfl ?_; intro f h
      refine s_call h s fnc21 (ret_val (.bool true) (rall_any ls _ _ (hlv.keep s.ext) (by omega)) (congrArg Value.bool hl)) rfl rfl ?_; intro f w1 v9 hT hE h s; obtain rfl := hT
      refine s_pure h (ru_val (.bool false) (ru_not (h.ev rfl)) rfl) rfl ?_; intro f h
      refine s_pure h (ru_move (h.ev rfl)) rfl ?_; intro f h
      refine s_on h rfl rfl rfl ?_
      refine s_pure h (ru_move (h.ev rfl)) rfl ?_; intro f h
      refine s_on h rfl rfl rfl ?_
      refine s_call h s fnc21 (ret_val (.bool false) (rall_any ms _ _ (hmv.keep s.ext) (by omega)) (congrArg Value.bool hf)) rfl rfl ?_; intro f w1 v9 hT hE h s; obtain rfl := hT
      refine s_on h rfl rfl rfl ?_
      refine s_pure h (ru_val (.bool true) (ru_not (h.ev rfl)) rfl) rfl ?_; intro f h
      refine s_pure h (ru_pick_f (h.ev rfl) (h.ev rfl)) rfl ?_; intro f h
      refine s_nil ?_
      refine hK5 _ _ ?_
      refine wpIn_cond_true (h.ev rfl) ?_
      refine c_seq fun K7 hK7 => ?_
      refine c_region ?_
      refine s_call h s fnc16 (alive_any _) rfl rfl ?_; intro f w1 v9 hT hE h s; obtain rfl := hT
      refine s_pure h (ru_move (h.ev rfl)) rfl ?_; intro f h
      refine s_on h rfl rfl rfl ?_
      refine s_pure h (ru_move (h.ev rfl)) rfl ?_; intro f h
      refine s_on h rfl rfl rfl ?_
      refine s_pure h (ru_val (.bool true) (ru_eql (h.ev rfl) (h.ev rfl)) (congrArg Value.bool (decide_eq_true (pushE_f hf)))) rfl ?_; intro f h
      refine s_pure h (ru_pick_t (h.ev rfl) (h.ev rfl)) rfl ?_; intro f h
      refine s_pure h (ru_move (h.ev rfl)) rfl ?_; intro f h
      refine s_on h rfl rfl rfl ?_
      refine s_pure h (ru_move (h.ev rfl)) rfl ?_; intro f h
      refine s_on h rfl rfl rfl ?_
      refine s_len_sl 0 h s Try.underlying22 rfl rfl rfl ?_; intro f h
      refine s_on h rfl rfl rfl ?_
      refine s_pure h (ru_val (.bool true) (ru_eql (h.ev rfl) (h.ev rfl)) (congrArg Value.bool (decide_eq_true (by rw [pushM_n (pushE_f hf) (by decide)]; rfl)))) rfl ?_; intro f h
      refine s_pure h (ru_pick_t (h.ev rfl) (h.ev rfl)) rfl ?_; intro f h
      refine s_pure h (ru_assign (h.ev rfl)) rfl ?_; intro f h
      refine s_nil ?_
      refine hK7 _ _ ?_
      refine wpIn_ret ?_
      refine t_ret ?_
      exact e_tmp rfl h s rfl (rfl)
    · skip
      refine c_region ?_
      refine s_pure h (ru_move (h.ev rfl)) rfl ?_; intro f h
      refine s_call h s fnc21 (ret_val (.bool true) (rall_any ls _ _ (hlv.keep s.ext) (by omega)) (congrArg Value.bool hl)) rfl rfl ?_; intro f w1 v9 hT hE h s; obtain rfl := hT
      refine s_pure h (ru_val (.bool false) (ru_not (h.ev rfl)) rfl) rfl ?_; intro f h
      refine s_pure h (ru_move (h.ev rfl)) rfl ?_; intro f h
      refine s_on h rfl rfl rfl ?_
      refine s_pure h (ru_move (h.ev rfl)) rfl ?_; intro f h
      refine s_on h rfl rfl rfl ?_
      refine s_call h s fnc21 (ret_val (.bool true) (rall_any ms _ _ (hmv.keep s.ext) (by omega)) (congrArg Value.bool hf)) rfl rfl ?_; intro f w1 v9 hT hE h s; obtain rfl := hT
      refine s_on h rfl rfl rfl ?_
      refine s_pure h (ru_val (.bool false) (ru_not (h.ev rfl)) rfl) rfl ?_; intro f h
      refine s_pure h (ru_pick_f (h.ev rfl) (h.ev rfl)) rfl ?_; intro f h
      refine s_nil ?_
      refine hK5 _ _ ?_
      refine wpIn_cond_false (h.ev rfl) ?_
      refine wpIn_skip ?_
      refine hK4 _ _ ?_
      refine c_seq fun K8 hK8 => ?_
      refine c_seq fun K9 hK9 => ?_
      refine c_region ?_
      refine s_pure h (ru_move (h.ev rfl)) rfl ?_; intro f h
      refine s_pure h (ru_lenZ (hlv.keep s.ext) Try.underlying22 (h.ev rfl)) rfl ?_; intro f h
      refine s_pure h (ru_move (h.ev rfl)) rfl ?_; intro f h
      refine s_pure h (ru_lenZ (hmv.keep s.ext) Try.underlying22 (h.ev rfl)) rfl ?_; intro f h
      refine s_pure h (ru_add (h.ev rfl) (h.ev rfl) (by omega)) rfl ?_; intro f h
      refine s_pure h (ru_gtr (h.ev rfl) (h.ev rfl)) rfl ?_; intro f h
      refine s_nil ?_
      refine hK9 _ _ ?_
      refine c_cond h rfl (fun hc => ?_) (fun hc => ?_)
      · replace hc := of_decide_eq_true hc
        have h4 := hc
        have hpe := pushE_12 hf hl (by omega)
        refine c_seq fun K10 hK10 => ?_
        refine c_region ?_
        refine s_call h s fnc16 (alive_any _) rfl rfl ?_; intro f w1 v9 hT hE h s; obtain rfl := hT
        refine s_pure h (ru_move (h.ev rfl)) rfl ?_; intro f h
        refine s_on h rfl rfl rfl ?_
        refine s_pure h (ru_move (h.ev rfl)) rfl ?_; intro f h
        refine s_on h rfl rfl rfl ?_
        refine s_pure h (ru_val (.bool true) (ru_eql (h.ev rfl) (h.ev rfl)) (congrArg Value.bool (decide_eq_true (hpe)))) rfl ?_; intro f h
        refine s_pure h (ru_pick_t (h.ev rfl) (h.ev rfl)) rfl ?_; intro f h
        refine s_pure h (ru_move (h.ev rfl)) rfl ?_; intro f h
        refine s_on h rfl rfl rfl ?_
        refine s_pure h (ru_move (h.ev rfl)) rfl ?_; intro f h
        refine s_on h rfl rfl rfl ?_
        refine s_len_sl 0 h s Try.underlying22 rfl rfl rfl ?_; intro f h
        refine s_on h rfl rfl rfl ?_
        refine s_pure h (ru_val (.bool true) (ru_eql (h.ev rfl) (h.ev rfl)) (congrArg Value.bool (decide_eq_true (by rw [pushM_n hpe (by decide)]; rfl)))) rfl ?_; intro f h
        refine s_pure h (ru_pick_t (h.ev rfl) (h.ev rfl)) rfl ?_; intro f h
        refine s_pure h (ru_assign (h.ev rfl)) rfl ?_; intro f h
        refine s_nil ?_
        refine hK10 _ _ ?_
        refine wpIn_ret ?_
        refine t_ret ?_
        exact e_tmp rfl h s rfl (rfl)
      · replace hc := of_decide_eq_false hc
        have h4 := hc
        have hpe := pushE_0 hf hl (by omega)
        refine wpIn_skip ?_
        refine hK8 _ _ ?_
        refine c_seq fun K11 hK11 => ?_
        refine c_region ?_
        refine s_call h s fnc16 (alive_any _) rfl rfl ?_; intro f w1 v9 hT hE h s; obtain rfl := hT
        refine s_pure h (ru_move (h.ev rfl)) rfl ?_; intro f h
        refine s_on h rfl rfl rfl ?_
        refine s_pure h (ru_move (h.ev rfl)) rfl ?_; intro f h
        refine s_on h rfl rfl rfl ?_
        refine s_pure h (ru_val (.bool true) (ru_eql (h.ev rfl) (h.ev rfl)) (congrArg Value.bool (decide_eq_true (hpe)))) rfl ?_; intro f h
        refine s_pure h (ru_pick_t (h.ev rfl) (h.ev rfl)) rfl ?_; intro f h
        refine s_pure h (ru_move (h.ev rfl)) rfl ?_; intro f h
        refine s_on h rfl rfl rfl ?_
        refine s_pure h (ru_move (h.ev rfl)) rfl ?_; intro f h
        refine s_on h rfl rfl rfl ?_
        refine s_bslice0 (base := w1.heap.size) h Try.underlying22 elm26 (Nat.le_refl _) rfl ?_; intro f w2 v58 h hE3 e58
        refine s_on h rfl rfl rfl ?_
        refine s_pure h (ru_move (h.ev rfl)) rfl ?_; intro f h
        refine s_on h rfl rfl rfl ?_
        refine s_append_emp (base := w1.heap.size) e58 (hmv.keep (s.ext.trans hE3)) h Try.underlying22 elm26 rfl rfl hE3.le (eCells_ones _) (by unfold maxLen; omega) (by omega) rfl ?_; intro f w3 v60 h hE4 e60
        replace s := s.sl_new (hE3.trans hE4) e60
        refine s_on h rfl rfl rfl ?_
        refine s_pure h (ru_move (h.ev rfl)) rfl ?_; intro f h
        refine s_on h rfl rfl rfl ?_
        refine s_append_rd 0 (hlv.keep s.ext) h s Try.underlying22 elm26 rfl rfl rfl (eCells_ones _) (by unfold maxLen; omega) (by omega) rfl ?_; intro f w1 v62 h s
        refine s_on h rfl rfl rfl ?_
        refine s_call h s fnc15 (ret_val (.bool true) (rsame_any (pushM ls ms) (ms ++ ls) vx v62 _ (RdZ.of_own (s.getSl 1 rfl)) (by have h9 := RdZ.of_own (s.getSl 0 rfl); rwa [← eCells_app, ← List.length_append] at h9) (by omega) (by rw [List.length_append]; omega)) (congrArg Value.bool (decide_eq_true (pushM_0 hpe)))) rfl rfl ?_; intro f w1 v9 hT hE h s; obtain rfl := hT
        refine s_pure h (ru_pick_t (h.ev rfl) (h.ev rfl)) rfl ?_; intro f h
        refine s_pure h (ru_assign (h.ev rfl)) rfl ?_; intro f h
        refine s_nil ?_
        refine hK11 _ _ ?_
        refine wpIn_ret ?_
        exact e_tmp rfl h s rfl (rfl)

theorem sback_any (v1 : Value) (l : List Ent) (v2 : Value) (m : List Ent) (sx : ByteArray) (w : World) (hv : RdZ w v1 34 l.length (eCells l)) (hu : RdZ w v2 34 m.length (eCells m)) : Calls Try.prog 6 [v1, v2, .string sx].toArray w (Ret w (is (.bool true))) := by
  have hlv := re_take hv (min l.length 7) (by omega)
  obtain ⟨ls, hls⟩ : ∃ x9, x9 = l.take (min l.length 7) := ⟨_, rfl⟩
  rw [← hls] at hlv
  have hll : ls.length ≤ 7 := by rw [hls, List.length_take]; omega
  have hmv := re_take hu (min m.length 7) (by omega)
  obtain ⟨ms, hms⟩ : ∃ x9, x9 = m.take (min m.length 7) := ⟨_, rfl⟩
  rw [← hms] at hmv
  have hml : ms.length ≤ 7 := by rw [hms, List.length_take]; omega
  obtain ⟨sy, hsy⟩ : ∃ x9, x9 = sx.extract 0 (min sx.size 200) := ⟨_, rfl⟩
  have hss : sy.size ≤ 200 := by rw [hsy, ByteArray.size_extract]; omega
  have hrl := readM_len sy
  refine c_enter Try.func6 rfl Try.ntmps6 rfl [(0, v1), (1, v2), (2, .string sx)] (by simp) fun f h => ?_
  have s := St.start w
  refine c_seq fun K1 hK1 => ?_
  refine c_region ?_
  refine s_pure h (ru_assign (h.ev rfl)) rfl ?_; intro f h
  refine s_nil ?_
  refine hK1 _ _ ?_
  refine c_seq fun K2 hK2 => ?_
  refine c_walkN 12 [[], [0], [], [0, 1, 2], [], [], [5], [5, 6], [4, 5, 6, 7], [0, 1, 2, 3], [0, 1, 2, 3, 9], [0, 1, 2, 3, 4, 5, 6, 7, 8, 9, 10]] h (by kernel_rfl) (by kernel_rfl) (by kernel_rfl) ?_
  refine w_pure h (ru_move (h.ev rfl)) rfl ?_; intro f h
  refine w_call h fnc8 (fun w9 hE9 => few_any v1 l w9 (hv.keep (s.ext.trans hE9))) rfl rfl ?_; intro f h
  refine w_pure h (ru_move (h.ev rfl)) rfl ?_; intro f h
  refine w_call h fnc8 (fun w9 hE9 => few_any v2 m w9 (hu.keep (s.ext.trans hE9))) rfl rfl ?_; intro f h
  refine w_pure h (ru_move (h.ev rfl)) rfl ?_; intro f h
  refine w_pure h (ru_move (h.ev rfl)) rfl ?_; intro f h
  refine w_pure h (ru_len_str Try.underlying9 (h.ev rfl)) rfl ?_; intro f h
  refine w_pure h (ru_min (h.ev rfl) (h.ev rfl)) rfl ?_; intro f h
  refine w_pure h (ru_val (.string sy) (ru_slice_str (min sx.size 200) Try.underlying9 (h.ev rfl) (h.ev rfl) (by split <;> omega) (by omega)) (by rw [hsy])) rfl ?_; intro f h
  refine w_pure h (ru_assign (h.ev rfl)) rfl ?_; intro f h
  refine w_pure h (ru_assign (h.ev rfl)) rfl ?_; intro f h
  refine w_pure h (ru_assign (h.ev rfl)) rfl ?_; intro f h
  refine w_nil s fun w1 s => ?_
  refine s_nil ?_
  refine hK2 _ _ ?_
  refine c_seq fun K3 hK3 => ?_
  refine c_region ?_
  refine s_pure h (ru_move (h.ev rfl)) rfl ?_; intro f h
  refine s_call h s fnc9 (text_any ls (by omega) _ _ (hlv.keep s.ext)) rfl rfl ?_; intro f w1 v9 hT hE h s; obtain rfl := hT
  refine s_pure h (ru_move (h.ev rfl)) rfl ?_; intro f h
  refine s_pure h (ru_extract (h.ev rfl) rfl) rfl ?_; intro f h
  refine s_pure h (ru_extract (h.ev rfl) rfl) rfl ?_; intro f h
  refine s_pure h (ru_assign (h.ev rfl)) rfl ?_; intro f h
  refine s_pure h (ru_assign (h.ev rfl)) rfl ?_; intro f h
  refine s_nil ?_
  refine hK3 _ _ ?_
  refine c_seq fun K4 hK4 => ?_
  refine c_region ?_
  refine s_pure h (ru_move (h.ev rfl)) rfl ?_; intro f h
  refine s_call h s fnc9 (text_any ms (by omega) _ _ (hmv.keep s.ext)) rfl rfl ?_; intro f w1 v9 hT hE h s; obtain rfl := hT
  refine s_pure h (ru_move (h.ev rfl)) rfl ?_; intro f h
  refine s_pure h (ru_extract (h.ev rfl) rfl) rfl ?_; intro f h
  refine s_pure h (ru_extract (h.ev rfl) rfl) rfl ?_; intro f h
  refine s_pure h (ru_assign (h.ev rfl)) rfl ?_; intro f h
  refine s_pure h (ru_assign (h.ev rfl)) rfl ?_; intro f h
  refine s_nil ?_
  refine hK4 _ _ ?_
  refine c_seq fun K5 hK5 => ?_
  refine c_seq fun K6 hK6 => ?_
  cases hr : (rightE ls : Bool)
  · skip
    refine c_region ?_
    refine s_pure h (ru_move (h.ev rfl)) rfl ?_; intro f h
    refine s_pure h (ru_val (.bool false) (ru_eql (h.ev rfl) (h.ev rfl)) (congrArg Value.bool (decide_eq_false (by rw [textR_f hr]; decide)))) rfl ?_; intro f h
    refine s_nil ?_
    refine hK6 _ _ ?_
    refine wpIn_cond_false (h.ev rfl) ?_
    refine wpIn_skip ?_
    refine hK5 _ _ ?_
    refine c_seq fun K7 hK7 => ?_
    refine c_region ?_
    refine s_pure h (ru_move (h.ev rfl)) rfl ?_; intro f h
    refine s_call h s fnc18 (read_any sy (by omega) _) rfl rfl ?_; rintro f w1 v77 ⟨vy, rfl, hvy⟩ hE h sq
    replace s := s.sl_new hE hvy
    refine s_pure h (ru_move (h.ev rfl)) rfl ?_; intro f h
    refine s_pure h (ru_extract (h.ev rfl) rfl) rfl ?_; intro f h
    refine s_pure h (ru_extract (h.ev rfl) rfl) rfl ?_; intro f h
    refine s_pure h (ru_extract (h.ev rfl) rfl) rfl ?_; intro f h
    refine s_pure h (ru_assign (h.ev rfl)) rfl ?_; intro f h
    refine s_pure h (ru_assign (h.ev rfl)) rfl ?_; intro f h
    refine s_pure h (ru_assign (h.ev rfl)) rfl ?_; intro f h
    refine s_nil ?_
    refine hK7 _ _ ?_
    refine c_seq fun K8 hK8 => ?_
    refine c_seq fun K9 hK9 => ?_
    refine c_region ?_
    refine s_pure h (ru_move (h.ev rfl)) rfl ?_; intro f h
    refine s_pure h (ru_neq (h.ev rfl) (h.ev rfl)) rfl ?_; intro f h
    refine s_nil ?_
    refine hK9 _ _ ?_
    refine c_cond h rfl (fun hc => ?_) (fun hc => ?_)
    · replace hc := of_decide_eq_true hc
      have hre := read_err sy hc
      refine c_seq fun K10 hK10 => ?_
      refine c_region ?_
      refine s_call h s fnc16 (alive_any _) rfl rfl ?_; intro f w1 v9 hT hE h s; obtain rfl := hT
      refine s_pure h (ru_move (h.ev rfl)) rfl ?_; intro f h
      refine s_on h rfl rfl rfl ?_
      refine s_pure h (ru_move (h.ev rfl)) rfl ?_; intro f h
      refine s_on h rfl rfl rfl ?_
      refine s_len_sl 0 h s Try.underlying22 rfl rfl rfl ?_; intro f h
      refine s_on h rfl rfl rfl ?_
      refine s_pure h (ru_val (.bool true) (ru_eql (h.ev rfl) (h.ev rfl)) (congrArg Value.bool (decide_eq_true (by rw [hre]; rfl)))) rfl ?_; intro f h
      refine s_pure h (ru_pick_t (h.ev rfl) (h.ev rfl)) rfl ?_; intro f h
      refine s_pure h (ru_assign (h.ev rfl)) rfl ?_; intro f h
      refine s_nil ?_
      refine hK10 _ _ ?_
      refine wpIn_ret ?_
      refine t_ret ?_
      exact e_tmp rfl h s rfl (rfl)
    · replace hc := of_decide_eq_false hc
      have hok : (readM sy).1 = 0 := by omega
      have htr := text_read sy hok
      refine wpIn_skip ?_
      refine hK8 _ _ ?_
      refine c_seq fun K11 hK11 => ?_
      refine c_region ?_
      refine s_pure h (ru_move (h.ev rfl)) rfl ?_; intro f h
      refine s_call h s fnc9 (text_any (readM sy).2.1 (by omega) vy _ (RdZ.of_own (s.getSl 0 rfl))) rfl rfl ?_; intro f w1 v9 hT hE h s; obtain rfl := hT
      refine s_pure h (ru_move (h.ev rfl)) rfl ?_; intro f h
      refine s_pure h (ru_extract (h.ev rfl) rfl) rfl ?_; intro f h
      refine s_pure h (ru_extract (h.ev rfl) rfl) rfl ?_; intro f h
      refine s_pure h (ru_assign (h.ev rfl)) rfl ?_; intro f h
      refine s_pure h (ru_assign (h.ev rfl)) rfl ?_; intro f h
      refine s_nil ?_
      refine hK11 _ _ ?_
      refine c_seq fun K12 hK12 => ?_
      refine c_region ?_
      refine s_call h s fnc16 (alive_any _) rfl rfl ?_; intro f w1 v9 hT hE h s; obtain rfl := hT
      refine s_pure h (ru_move (h.ev rfl)) rfl ?_; intro f h
      refine s_on h rfl rfl rfl ?_
      refine s_pure h (ru_move (h.ev rfl)) rfl ?_; intro f h
      refine s_on h rfl rfl rfl ?_
      refine s_pure h (ru_val (.bool true) (ru_eql (h.ev rfl) (h.ev rfl)) (congrArg Value.bool (decide_eq_true (textR_t htr.1)))) rfl ?_; intro f h
      refine s_pure h (ru_pick_t (h.ev rfl) (h.ev rfl)) rfl ?_; intro f h
      refine s_pure h (ru_move (h.ev rfl)) rfl ?_; intro f h
      refine s_on h rfl rfl rfl ?_
      refine s_pure h (ru_move (h.ev rfl)) rfl ?_; intro f h
      refine s_on h rfl rfl rfl ?_
      refine s_pure h (ru_move (h.ev rfl)) rfl ?_; intro f h
      refine s_on h rfl rfl rfl ?_
      refine s_pure h (ru_len_str Try.underlying9 (h.ev rfl)) rfl ?_; intro f h
      refine s_on h rfl rfl rfl ?_
      refine s_pure h (ru_val (.bool true) (ru_leq (h.ev rfl) (h.ev rfl)) (congrArg Value.bool (decide_eq_true (by have := htr.2.1; omega)))) rfl ?_; intro f h
      refine s_pure h (ru_pick_t (h.ev rfl) (h.ev rfl)) rfl ?_; intro f h
      refine s_pure h (ru_move (h.ev rfl)) rfl ?_; intro f h
      refine s_on h rfl rfl rfl ?_
      refine s_pure h (ru_move (h.ev rfl)) rfl ?_; intro f h
      refine s_on h rfl rfl rfl ?_
      refine s_pure h (ru_move (h.ev rfl)) rfl ?_; intro f h
      refine s_on h rfl rfl rfl ?_
      refine s_pure h (ru_move (h.ev rfl)) rfl ?_; intro f h
      refine s_on h rfl rfl rfl ?_
      refine s_pure h (ru_slice_str ((readM sy).2.2) Try.underlying9 (h.ev rfl) (h.ev rfl) (rfl) (htr.2.1)) rfl ?_; intro f h
      refine s_on h rfl rfl rfl ?_
      refine s_pure h (ru_val (.bool true) (ru_eql_str (h.ev rfl) (h.ev rfl)) (congrArg Value.bool (decide_eq_true (by rw [textW_t htr.1]; exact htr.2.2)))) rfl ?_; intro f h
      refine s_pure h (ru_pick_t (h.ev rfl) (h.ev rfl)) rfl ?_; intro f h
      refine s_pure h (ru_assign (h.ev rfl)) rfl ?_; intro f h
      refine s_nil ?_
      refine hK12 _ _ ?_
      refine wpIn_ret ?_
      exact e_tmp rfl h s rfl (rfl)
  · skip
    refine c_region ?_
    refine s_pure h (ru_move (h.ev rfl)) rfl ?_; intro f h
    refine s_pure h (ru_val (.bool true) (ru_eql (h.ev rfl) (h.ev rfl)) (congrArg Value.bool (decide_eq_true (textR_t hr)))) rfl ?_; intro f h
    refine s_nil ?_
    refine hK6 _ _ ?_
    refine wpIn_cond_true (h.ev rfl) ?_
    refine c_seq fun K13 hK13 => ?_
    refine c_region ?_
    refine s_pure h (ru_move (h.ev rfl)) rfl ?_; intro f h
    refine s_pure h (ru_move (h.ev rfl)) rfl ?_; intro f h
    have htl := textE_le hr
    refine s_pure h (ru_val (.string (textE ls ++ sy)) (ru_cat_str (h.ev rfl) (h.ev rfl) (by rw [textW_t hr]; omega)) (by rw [textW_t hr])) rfl ?_; intro f h
    refine s_call h s fnc18 (read_any (textE ls ++ sy) (by rw [ByteArray.size_append]; omega) _) rfl rfl ?_; rintro f w1 v44 ⟨vx, rfl, hvx⟩ hE h sq
    rw [read_text ls hr sy] at hvx h
    replace s := s.sl_new hE hvx
    refine s_pure h (ru_move (h.ev rfl)) rfl ?_; intro f h
    refine s_pure h (ru_extract (h.ev rfl) rfl) rfl ?_; intro f h
    refine s_pure h (ru_extract (h.ev rfl) rfl) rfl ?_; intro f h
    refine s_pure h (ru_extract (h.ev rfl) rfl) rfl ?_; intro f h
    refine s_pure h (ru_assign (h.ev rfl)) rfl ?_; intro f h
    refine s_pure h (ru_assign (h.ev rfl)) rfl ?_; intro f h
    refine s_pure h (ru_assign (h.ev rfl)) rfl ?_; intro f h
    refine s_nil ?_
    refine hK13 _ _ ?_
    refine c_seq fun K14 hK14 => ?_
    cases hm : (rightE ms : Bool)
    · skip
      refine c_region ?_
      refine s_pure h (ru_move (h.ev rfl)) rfl ?_; intro f h
      refine s_pure h (ru_val (.bool false) (ru_neq (h.ev rfl) (h.ev rfl)) (congrArg Value.bool (decide_eq_false (fun h9 => h9 rfl)))) rfl ?_; intro f h
      refine s_pure h (ru_move (h.ev rfl)) rfl ?_; intro f h
      refine s_on h rfl rfl rfl ?_
      refine s_pure h (ru_move (h.ev rfl)) rfl ?_; intro f h
      refine s_on h rfl rfl rfl ?_
      refine s_pure h (ru_move (h.ev rfl)) rfl ?_; intro f h
      refine s_on h rfl rfl rfl ?_
      refine s_pure h (ru_len_str Try.underlying9 (h.ev rfl)) rfl ?_; intro f h
      refine s_on h rfl rfl rfl ?_
      refine s_pure h (ru_val (.bool false) (ru_neq (h.ev rfl) (h.ev rfl)) (congrArg Value.bool (decide_eq_false (by rw [textW_t hr]; exact fun h9 => h9 rfl)))) rfl ?_; intro f h
      refine s_pure h (ru_pick_f (h.ev rfl) (h.ev rfl)) rfl ?_; intro f h
      refine s_pure h (ru_move (h.ev rfl)) rfl ?_; intro f h
      refine s_on h rfl rfl rfl ?_
      refine s_pure h (ru_move (h.ev rfl)) rfl ?_; intro f h
      refine s_on h rfl rfl rfl ?_
      refine s_pure h (ru_move (h.ev rfl)) rfl ?_; intro f h
      refine s_on h rfl rfl rfl ?_
      refine s_call h s fnc15 (ret_val (.bool true) (rsame_any ls ls vx _ _ (RdZ.of_own (s.getSl 0 rfl)) (hlv.keep s.ext) (by omega) (by omega)) (congrArg Value.bool (decide_eq_true (rfl)))) rfl rfl ?_; intro f w1 v9 hT hE h s; obtain rfl := hT
      refine s_on h rfl rfl rfl ?_
      refine s_pure h (ru_val (.bool false) (ru_not (h.ev rfl)) rfl) rfl ?_; intro f h
      refine s_pure h (ru_pick_f (h.ev rfl) (h.ev rfl)) rfl ?_; intro f h
      refine s_pure h (ru_move (h.ev rfl)) rfl ?_; intro f h
      refine s_on h rfl rfl rfl ?_
      refine s_pure h (ru_move (h.ev rfl)) rfl ?_; intro f h
      refine s_on h rfl rfl rfl ?_
      refine s_pure h (ru_val (.bool false) (ru_eql (h.ev rfl) (h.ev rfl)) (congrArg Value.bool (decide_eq_false (by rw [textR_f hm]; decide)))) rfl ?_; intro f h
      refine s_on h rfl rfl rfl ?_
      refine s_pure h (ru_move (h.ev rfl)) rfl ?_; intro f h
      refine s_off (b := true) h rfl rfl rfl rfl ?_; intro f h
      refine s_off (b := true) h rfl rfl rfl rfl ?_; intro f h
      refine s_off (b := true) h rfl rfl rfl rfl ?_; intro f h
      refine s_off (b := true) h rfl rfl rfl rfl ?_; intro f h
      refine s_off (b := true) h rfl rfl rfl rfl ?_; intro f h
      refine s_off (b := true) h rfl rfl rfl rfl ?_; intro f h
      refine s_off (b := true) h rfl rfl rfl rfl ?_; intro f h
      refine s_on h rfl rfl rfl ?_
      refine s_pure h (ru_pick_f (h.ev rfl) (h.ev rfl)) rfl ?_; intro f h
      refine s_pure h (ru_pick_f (h.ev rfl) (h.ev rfl)) rfl ?_; intro f h
      refine s_nil ?_
      refine hK14 _ _ ?_
      refine wpIn_cond_false (h.ev rfl) ?_
      refine wpIn_skip ?_
      refine hK5 _ _ ?_
      refine c_seq fun K15 hK15 => ?_
      refine c_region ?_
      refine s_pure h (ru_move (h.ev rfl)) rfl ?_; intro f h
      refine s_call h s fnc18 (read_any sy (by omega) _) rfl rfl ?_; rintro f w1 v77 ⟨vy, rfl, hvy⟩ hE h sq
      replace s := s.sl_new hE hvy
      refine s_pure h (ru_move (h.ev rfl)) rfl ?_; intro f h
      refine s_pure h (ru_extract (h.ev rfl) rfl) rfl ?_; intro f h
      refine s_pure h (ru_extract (h.ev rfl) rfl) rfl ?_; intro f h
      refine s_pure h (ru_extract (h.ev rfl) rfl) rfl ?_; intro f h
      refine s_pure h (ru_assign (h.ev rfl)) rfl ?_; intro f h
      refine s_pure h (ru_assign (h.ev rfl)) rfl ?_; intro f h
      refine s_pure h (ru_assign (h.ev rfl)) rfl ?_; intro f h
      refine s_nil ?_
      refine hK15 _ _ ?_
      refine c_seq fun K16 hK16 => ?_
      refine c_seq fun K17 hK17 => ?_
      refine c_region ?_
      refine s_pure h (ru_move (h.ev rfl)) rfl ?_; intro f h
      refine s_pure h (ru_neq (h.ev rfl) (h.ev rfl)) rfl ?_; intro f h
      refine s_nil ?_
      refine hK17 _ _ ?_
      refine c_cond h rfl (fun hc => ?_) (fun hc => ?_)
      · replace hc := of_decide_eq_true hc
        have hre := read_err sy hc
        refine c_seq fun K18 hK18 => ?_
        refine c_region ?_
        refine s_call h s fnc16 (alive_any _) rfl rfl ?_; intro f w1 v9 hT hE h s; obtain rfl := hT
        refine s_pure h (ru_move (h.ev rfl)) rfl ?_; intro f h
        refine s_on h rfl rfl rfl ?_
        refine s_pure h (ru_move (h.ev rfl)) rfl ?_; intro f h
        refine s_on h rfl rfl rfl ?_
        refine s_len_sl 0 h s Try.underlying22 rfl rfl rfl ?_; intro f h
        refine s_on h rfl rfl rfl ?_
        refine s_pure h (ru_val (.bool true) (ru_eql (h.ev rfl) (h.ev rfl)) (congrArg Value.bool (decide_eq_true (by rw [hre]; rfl)))) rfl ?_; intro f h
        refine s_pure h (ru_pick_t (h.ev rfl) (h.ev rfl)) rfl ?_; intro f h
        refine s_pure h (ru_assign (h.ev rfl)) rfl ?_; intro f h
        refine s_nil ?_
        refine hK18 _ _ ?_
        refine wpIn_ret ?_
        refine t_ret ?_
        exact e_tmp rfl h s rfl (rfl)
      · replace hc := of_decide_eq_false hc
        have hok : (readM sy).1 = 0 := by omega
        have htr := text_read sy hok
        refine wpIn_skip ?_
        refine hK16 _ _ ?_
        refine c_seq fun K19 hK19 => ?_
        refine c_region ?_
        refine s_pure h (ru_move (h.ev rfl)) rfl ?_; intro f h
        refine s_call h s fnc9 (text_any (readM sy).2.1 (by omega) vy _ (RdZ.of_own (s.getSl 0 rfl))) rfl rfl ?_; intro f w1 v9 hT hE h s; obtain rfl := hT
        refine s_pure h (ru_move (h.ev rfl)) rfl ?_; intro f h
        refine s_pure h (ru_extract (h.ev rfl) rfl) rfl ?_; intro f h
        refine s_pure h (ru_extract (h.ev rfl) rfl) rfl ?_; intro f h
        refine s_pure h (ru_assign (h.ev rfl)) rfl ?_; intro f h
        refine s_pure h (ru_assign (h.ev rfl)) rfl ?_; intro f h
        refine s_nil ?_
        refine hK19 _ _ ?_
        refine c_seq fun K20 hK20 => ?_
        refine c_region ?_
        refine s_call h s fnc16 (alive_any _) rfl rfl ?_; intro f w1 v9 hT hE h s; obtain rfl := hT
        refine s_pure h (ru_move (h.ev rfl)) rfl ?_; intro f h
        refine s_on h rfl rfl rfl ?_
        refine s_pure h (ru_move (h.ev rfl)) rfl ?_; intro f h
        refine s_on h rfl rfl rfl ?_
        refine s_pure h (ru_val (.bool true) (ru_eql (h.ev rfl) (h.ev rfl)) (congrArg Value.bool (decide_eq_true (textR_t htr.1)))) rfl ?_; intro f h
        refine s_pure h (ru_pick_t (h.ev rfl) (h.ev rfl)) rfl ?_; intro f h
        refine s_pure h (ru_move (h.ev rfl)) rfl ?_; intro f h
        refine s_on h rfl rfl rfl ?_
        refine s_pure h (ru_move (h.ev rfl)) rfl ?_; intro f h
        refine s_on h rfl rfl rfl ?_
        refine s_pure h (ru_move (h.ev rfl)) rfl ?_; intro f h
        refine s_on h rfl rfl rfl ?_
        refine s_pure h (ru_len_str Try.underlying9 (h.ev rfl)) rfl ?_; intro f h
        refine s_on h rfl rfl rfl ?_
        refine s_pure h (ru_val (.bool true) (ru_leq (h.ev rfl) (h.ev rfl)) (congrArg Value.bool (decide_eq_true (by have := htr.2.1; omega)))) rfl ?_; intro f h
        refine s_pure h (ru_pick_t (h.ev rfl) (h.ev rfl)) rfl ?_; intro f h
        refine s_pure h (ru_move (h.ev rfl)) rfl ?_; intro f h
        refine s_on h rfl rfl rfl ?_
        refine s_pure h (ru_move (h.ev rfl)) rfl ?_; intro f h
        refine s_on h rfl rfl rfl ?_
        refine s_pure h (ru_move (h.ev rfl)) rfl ?_; intro f h
        refine s_on h rfl rfl rfl ?_
        refine s_pure h (ru_move (h.ev rfl)) rfl ?_; intro f h
        refine s_on h rfl rfl rfl ?_
        refine s_pure h (ru_slice_str ((readM sy).2.2) Try.underlying9 (h.ev rfl) (h.ev rfl) (rfl) (htr.2.1)) rfl ?_; intro f h
        refine s_on h rfl rfl rfl ?_
        refine s_pure h (ru_val (.bool true) (ru_eql_str (h.ev rfl) (h.ev rfl)) (congrArg Value.bool (decide_eq_true (by rw [textW_t htr.1]; exact htr.2.2)))) rfl ?_; intro f h
        refine s_pure h (ru_pick_t (h.ev rfl) (h.ev rfl)) rfl ?_; intro f h
        refine s_pure h (ru_assign (h.ev rfl)) rfl ?_; intro f h
        refine s_nil ?_
        refine hK20 _ _ ?_
        refine wpIn_ret ?_
        exact e_tmp rfl h s rfl (rfl)
    · skip
      refine c_region ?_
      refine s_pure h (ru_move (h.ev rfl)) rfl ?_; intro f h
      refine s_pure h (ru_val (.bool false) (ru_neq (h.ev rfl) (h.ev rfl)) (congrArg Value.bool (decide_eq_false (fun h9 => h9 rfl)))) rfl ?_; intro f h
      refine s_pure h (ru_move (h.ev rfl)) rfl ?_; intro f h
      refine s_on h rfl rfl rfl ?_
      refine s_pure h (ru_move (h.ev rfl)) rfl ?_; intro f h
      refine s_on h rfl rfl rfl ?_
      refine s_pure h (ru_move (h.ev rfl)) rfl ?_; intro f h
      refine s_on h rfl rfl rfl ?_
      refine s_pure h (ru_len_str Try.underlying9 (h.ev rfl)) rfl ?_; intro f h
      refine s_on h rfl rfl rfl ?_
      refine s_pure h (ru_val (.bool false) (ru_neq (h.ev rfl) (h.ev rfl)) (congrArg Value.bool (decide_eq_false (by rw [textW_t hr]; exact fun h9 => h9 rfl)))) rfl ?_; intro f h
      refine s_pure h (ru_pick_f (h.ev rfl) (h.ev rfl)) rfl ?_; intro f h
      refine s_pure h (ru_move (h.ev rfl)) rfl ?_; intro f h
      refine s_on h rfl rfl rfl ?_
      refine s_pure h (ru_move (h.ev rfl)) rfl ?_; intro f h
      refine s_on h rfl rfl rfl ?_
      refine s_pure h (ru_move (h.ev rfl)) rfl ?_; intro f h
      refine s_on h rfl rfl rfl ?_
      refine s_call h s fnc15 (ret_val (.bool true) (rsame_any ls ls vx _ _ (RdZ.of_own (s.getSl 0 rfl)) (hlv.keep s.ext) (by omega) (by omega)) (congrArg Value.bool (decide_eq_true (rfl)))) rfl rfl ?_; intro f w1 v9 hT hE h s; obtain rfl := hT
      refine s_on h rfl rfl rfl ?_
      refine s_pure h (ru_val (.bool false) (ru_not (h.ev rfl)) rfl) rfl ?_; intro f h
      refine s_pure h (ru_pick_f (h.ev rfl) (h.ev rfl)) rfl ?_; intro f h
      refine s_pure h (ru_move (h.ev rfl)) rfl ?_; intro f h
      refine s_on h rfl rfl rfl ?_
      refine s_pure h (ru_move (h.ev rfl)) rfl ?_; intro f h
      refine s_on h rfl rfl rfl ?_
      refine s_pure h (ru_val (.bool true) (ru_eql (h.ev rfl) (h.ev rfl)) (congrArg Value.bool (decide_eq_true (textR_t hm)))) rfl ?_; intro f h
      refine s_on h rfl rfl rfl ?_
      refine s_pure h (ru_move (h.ev rfl)) rfl ?_; intro f h
      refine s_on h rfl rfl rfl ?_
      refine s_pure h (ru_move (h.ev rfl)) rfl ?_; intro f h
      refine s_on h rfl rfl rfl ?_
      refine s_pure h (ru_move (h.ev rfl)) rfl ?_; intro f h
      refine s_on h rfl rfl rfl ?_
      refine s_pure h (ru_eql_str (h.ev rfl) (h.ev rfl)) rfl ?_; intro f h
      refine s_on h rfl rfl rfl ?_
      refine s_pure h (ru_move (h.ev rfl)) rfl ?_; intro f h
      refine s_on h rfl rfl rfl ?_
      refine s_pure h (ru_move (h.ev rfl)) rfl ?_; intro f h
      refine s_on h rfl rfl rfl ?_
      refine s_call h s fnc15 (rsame_any ls ms _ _ _ (hlv.keep s.ext) (hmv.keep s.ext) (by omega) (by omega)) rfl rfl ?_; intro f w1 v9 hT hE h s; obtain rfl := hT
      refine s_on h rfl rfl rfl ?_
      refine s_pure h (ru_val (.bool false) (ru_neq_bool Try.underlying4 (h.ev rfl) (h.ev rfl)) (congrArg Value.bool (text_eq_same hr hm))) rfl ?_; intro f h
      refine s_on h rfl rfl rfl ?_
      refine s_pure h (ru_pick_t (h.ev rfl) (h.ev rfl)) rfl ?_; intro f h
      refine s_pure h (ru_pick_f (h.ev rfl) (h.ev rfl)) rfl ?_; intro f h
      refine s_nil ?_
      refine hK14 _ _ ?_
      refine wpIn_cond_false (h.ev rfl) ?_
      refine wpIn_skip ?_
      refine hK5 _ _ ?_
      refine c_seq fun K21 hK21 => ?_
      refine c_region ?_
      refine s_pure h (ru_move (h.ev rfl)) rfl ?_; intro f h
      refine s_call h s fnc18 (read_any sy (by omega) _) rfl rfl ?_; rintro f w1 v77 ⟨vy, rfl, hvy⟩ hE h sq
      replace s := s.sl_new hE hvy
      refine s_pure h (ru_move (h.ev rfl)) rfl ?_; intro f h
      refine s_pure h (ru_extract (h.ev rfl) rfl) rfl ?_; intro f h
      refine s_pure h (ru_extract (h.ev rfl) rfl) rfl ?_; intro f h
      refine s_pure h (ru_extract (h.ev rfl) rfl) rfl ?_; intro f h
      refine s_pure h (ru_assign (h.ev rfl)) rfl ?_; intro f h
      refine s_pure h (ru_assign (h.ev rfl)) rfl ?_; intro f h
      refine s_pure h (ru_assign (h.ev rfl)) rfl ?_; intro f h
      refine s_nil ?_
      refine hK21 _ _ ?_
      refine c_seq fun K22 hK22 => ?_
      refine c_seq fun K23 hK23 => ?_
      refine c_region ?_
      refine s_pure h (ru_move (h.ev rfl)) rfl ?_; intro f h
      refine s_pure h (ru_neq (h.ev rfl) (h.ev rfl)) rfl ?_; intro f h
      refine s_nil ?_
      refine hK23 _ _ ?_
      refine c_cond h rfl (fun hc => ?_) (fun hc => ?_)
      · replace hc := of_decide_eq_true hc
        have hre := read_err sy hc
        refine c_seq fun K24 hK24 => ?_
        refine c_region ?_
        refine s_call h s fnc16 (alive_any _) rfl rfl ?_; intro f w1 v9 hT hE h s; obtain rfl := hT
        refine s_pure h (ru_move (h.ev rfl)) rfl ?_; intro f h
        refine s_on h rfl rfl rfl ?_
        refine s_pure h (ru_move (h.ev rfl)) rfl ?_; intro f h
        refine s_on h rfl rfl rfl ?_
        refine s_len_sl 0 h s Try.underlying22 rfl rfl rfl ?_; intro f h
        refine s_on h rfl rfl rfl ?_
        refine s_pure h (ru_val (.bool true) (ru_eql (h.ev rfl) (h.ev rfl)) (congrArg Value.bool (decide_eq_true (by rw [hre]; rfl)))) rfl ?_; intro f h
        refine s_pure h (ru_pick_t (h.ev rfl) (h.ev rfl)) rfl ?_; intro f h
        refine s_pure h (ru_assign (h.ev rfl)) rfl ?_; intro f h
        refine s_nil ?_
        refine hK24 _ _ ?_
        refine wpIn_ret ?_
        refine t_ret ?_
        exact e_tmp rfl h s rfl (rfl)
      · replace hc := of_decide_eq_false hc
        have hok : (readM sy).1 = 0 := by omega
        have htr := text_read sy hok
        refine wpIn_skip ?_
        refine hK22 _ _ ?_
        refine c_seq fun K25 hK25 => ?_
        refine c_region ?_
        refine s_pure h (ru_move (h.ev rfl)) rfl ?_; intro f h
        refine s_call h s fnc9 (text_any (readM sy).2.1 (by omega) vy _ (RdZ.of_own (s.getSl 0 rfl))) rfl rfl ?_; intro f w1 v9 hT hE h s; obtain rfl := hT
        refine s_pure h (ru_move (h.ev rfl)) rfl ?_; intro f h
        refine s_pure h (ru_extract (h.ev rfl) rfl) rfl ?_; intro f h
        refine s_pure h (ru_extract (h.ev rfl) rfl) rfl ?_; intro f h
        refine s_pure h (ru_assign (h.ev rfl)) rfl ?_; intro f h
        refine s_pure h (ru_assign (h.ev rfl)) rfl ?_; intro f h
        refine s_nil ?_
        refine hK25 _ _ ?_
        refine c_seq fun K26 hK26 => ?_
        refine c_region ?_
        refine s_call h s fnc16 (alive_any _) rfl rfl ?_; intro f w1 v9 hT hE h s; obtain rfl := hT
        refine s_pure h (ru_move (h.ev rfl)) rfl ?_; intro f h
        refine s_on h rfl rfl rfl ?_
        refine s_pure h (ru_move (h.ev rfl)) rfl ?_; intro f h
        refine s_on h rfl rfl rfl ?_
        refine s_pure h (ru_val (.bool true) (ru_eql (h.ev rfl) (h.ev rfl)) (congrArg Value.bool (decide_eq_true (textR_t htr.1)))) rfl ?_; intro f h
        refine s_pure h (ru_pick_t (h.ev rfl) (h.ev rfl)) rfl ?_; intro f h
        refine s_pure h (ru_move (h.ev rfl)) rfl ?_; intro f h
        refine s_on h rfl rfl rfl ?_
        refine s_pure h (ru_move (h.ev rfl)) rfl ?_; intro f h
        refine s_on h rfl rfl rfl ?_
        refine s_pure h (ru_move (h.ev rfl)) rfl ?_; intro f h
        refine s_on h rfl rfl rfl ?_
        refine s_pure h (ru_len_str Try.underlying9 (h.ev rfl)) rfl ?_; intro f h
        refine s_on h rfl rfl rfl ?_
        refine s_pure h (ru_val (.bool true) (ru_leq (h.ev rfl) (h.ev rfl)) (congrArg Value.bool (decide_eq_true (by have := htr.2.1; omega)))) rfl ?_; intro f h
        refine s_pure h (ru_pick_t (h.ev rfl) (h.ev rfl)) rfl ?_; intro f h
        refine s_pure h (ru_move (h.ev rfl)) rfl ?_; intro f h
        refine s_on h rfl rfl rfl ?_
        refine s_pure h (ru_move (h.ev rfl)) rfl ?_; intro f h
        refine s_on h rfl rfl rfl ?_
        refine s_pure h (ru_move (h.ev rfl)) rfl ?_; intro f h
        refine s_on h rfl rfl rfl ?_
        refine s_pure h (ru_move (h.ev rfl)) rfl ?_; intro f h
        refine s_on h rfl rfl rfl ?_
        refine s_pure h (ru_slice_str ((readM sy).2.2) Try.underlying9 (h.ev rfl) (h.ev rfl) (rfl) (htr.2.1)) rfl ?_; intro f h
        refine s_on h rfl rfl rfl ?_
        refine s_pure h (ru_val (.bool true) (ru_eql_str (h.ev rfl) (h.ev rfl)) (congrArg Value.bool (decide_eq_true (by rw [textW_t htr.1]; exact htr.2.2)))) rfl ?_; intro f h
        refine s_pure h (ru_pick_t (h.ev rfl) (h.ev rfl)) rfl ?_; intro f h
        refine s_pure h (ru_assign (h.ev rfl)) rfl ?_; intro f h
        refine s_nil ?_
        refine hK26 _ _ ?_
        refine wpIn_ret ?_
        exact e_tmp rfl h s rfl (rfl)

theorem sparts_any (v1 : Value) (l : List Ent) (v2 : Value) (m : List Ent) (v3 : Value) (q : List Ent) (w : World) (hv : RdZ w v1 34 l.length (eCells l)) (hu : RdZ w v2 34 m.length (eCells m)) (hq : RdZ w v3 34 q.length (eCells q)) : Calls Try.prog 7 [v1, v2, v3].toArray w (Ret w (is (.bool true))) := by
  have hlv := re_take hv (min l.length 7) (by omega)
  obtain ⟨ls, hls⟩ : ∃ x9, x9 = l.take (min l.length 7) := ⟨_, rfl⟩
  rw [← hls] at hlv
  have hll : ls.length ≤ 7 := by rw [hls, List.length_take]; omega
  have hmv := re_take hu (min m.length 7) (by omega)
  obtain ⟨ms, hms⟩ : ∃ x9, x9 = m.take (min m.length 7) := ⟨_, rfl⟩
  rw [← hms] at hmv
  have hml : ms.length ≤ 7 := by rw [hms, List.length_take]; omega
  have hqv := re_take hq (min q.length 7) (by omega)
  obtain ⟨qs, hqs⟩ : ∃ x9, x9 = q.take (min q.length 7) := ⟨_, rfl⟩
  rw [← hqs] at hqv
  have hql : qs.length ≤ 7 := by rw [hqs, List.length_take]; omega
  have hp1 := pushM_len ls qs
  have hp2 := pushM_len (pushM ls qs) ms
  have hp3 := pushM_len ls (ms ++ qs)
  have hp4 := pushM_len [] ls
  have hmq : (ms ++ qs).length ≤ 14 := by rw [List.length_append]; omega
  refine c_enter Try.func7 rfl Try.ntmps7 rfl [(0, v1), (1, v2), (2, v3)] (by simp) fun f h => ?_
  have s := St.start w
  refine c_seq fun K1 hK1 => ?_
  refine c_region ?_
  refine s_pure h (ru_assign (h.ev rfl)) rfl ?_; intro f h
  refine s_nil ?_
  refine hK1 _ _ ?_
  refine c_seq fun K2 hK2 => ?_
  refine c_region ?_
  refine s_pure h (ru_move (h.ev rfl)) rfl ?_; intro f h
  refine s_call h s fnc8 (few_any v1 l _ (hv.keep s.ext)) rfl rfl ?_; intro f w1 v9 hT hE h s; obtain rfl := hT
  refine s_pure h (ru_move (h.ev rfl)) rfl ?_; intro f h
  refine s_call h s fnc8 (few_any v2 m _ (hu.keep s.ext)) rfl rfl ?_; intro f w1 v9 hT hE h s; obtain rfl := hT
  refine s_pure h (ru_move (h.ev rfl)) rfl ?_; intro f h
  refine s_call h s fnc8 (few_any v3 q _ (hq.keep s.ext)) rfl rfl ?_; intro f w1 v9 hT hE h s; obtain rfl := hT
  refine s_pure h (ru_assign (h.ev rfl)) rfl ?_; intro f h
  refine s_pure h (ru_assign (h.ev rfl)) rfl ?_; intro f h
  refine s_pure h (ru_assign (h.ev rfl)) rfl ?_; intro f h
  refine s_nil ?_
  refine hK2 _ _ ?_
  refine c_seq fun K3 hK3 => ?_
  refine c_region ?_
  refine s_pure h (ru_move (h.ev rfl)) rfl ?_; intro f h
  refine s_pure h (ru_move (h.ev rfl)) rfl ?_; intro f h
  refine s_call h s fnc20 (push_any ls qs _ _ _ (hlv.keep s.ext) (hqv.keep s.ext) (by omega) (by omega)) rfl rfl ?_; rintro f w1 v24 ⟨vx, rfl, hvx⟩ hE h sq
  replace s := s.sl_new hE hvx
  refine s_pure h (ru_move (h.ev rfl)) rfl ?_; intro f h
  refine s_pure h (ru_extract (h.ev rfl) rfl) rfl ?_; intro f h
  refine s_pure h (ru_extract (h.ev rfl) rfl) rfl ?_; intro f h
  refine s_pure h (ru_assign (h.ev rfl)) rfl ?_; intro f h
  refine s_pure h (ru_assign (h.ev rfl)) rfl ?_; intro f h
  refine s_nil ?_
  refine hK3 _ _ ?_
  refine c_seq fun K4 hK4 => ?_
  refine c_region ?_
  refine s_pure h (ru_move (h.ev rfl)) rfl ?_; intro f h
  refine s_pure h (ru_move (h.ev rfl)) rfl ?_; intro f h
  refine s_call h s fnc20 (push_any (pushM ls qs) ms vx _ _ (RdZ.of_own (s.getSl 0 rfl)) (hmv.keep s.ext) (by omega) (by omega)) rfl rfl ?_; rintro f w1 v30 ⟨vy, rfl, hvy⟩ hE h sq
  replace s := s.sl_new hE hvy
  refine s_pure h (ru_move (h.ev rfl)) rfl ?_; intro f h
  refine s_pure h (ru_extract (h.ev rfl) rfl) rfl ?_; intro f h
  refine s_pure h (ru_extract (h.ev rfl) rfl) rfl ?_; intro f h
  refine s_pure h (ru_assign (h.ev rfl)) rfl ?_; intro f h
  refine s_pure h (ru_assign (h.ev rfl)) rfl ?_; intro f h
  refine s_nil ?_
  refine hK4 _ _ ?_
  refine c_seq fun K5 hK5 => ?_
  refine c_region ?_
  refine s_pure h (ru_move (h.ev rfl)) rfl ?_; intro f h
  refine s_bslice0 (base := w1.heap.size) h Try.underlying22 elm26 (Nat.le_refl _) rfl ?_; intro f w2 v35 h hE3 e35
  refine s_pure h (ru_move (h.ev rfl)) rfl ?_; intro f h
  refine s_append_emp (base := w1.heap.size) e35 (hmv.keep (s.ext.trans hE3)) h Try.underlying22 elm26 rfl rfl hE3.le (eCells_ones _) (by unfold maxLen; omega) (by omega) rfl ?_; intro f w3 v37 h hE4 e37
  replace s := s.sl_new (hE3.trans hE4) e37
  refine s_pure h (ru_move (h.ev rfl)) rfl ?_; intro f h
  refine s_append_rd 0 (hqv.keep s.ext) h s Try.underlying22 elm26 rfl rfl rfl (eCells_ones _) (by unfold maxLen; omega) (by omega) rfl ?_; intro f w1 v39 h s
  refine s_call h s fnc20 (push_any ls (ms ++ qs) _ v39 _ (hlv.keep s.ext) (by have h9 := RdZ.of_own (s.getSl 0 rfl); rwa [← eCells_app, ← List.length_append] at h9) (by omega) (by omega)) rfl rfl ?_; rintro f w1 v40 ⟨vz, rfl, hvz⟩ hE h sq
  replace s := s.sl_new hE hvz
  refine s_pure h (ru_move (h.ev rfl)) rfl ?_; intro f h
  refine s_pure h (ru_extract (h.ev rfl) rfl) rfl ?_; intro f h
  refine s_pure h (ru_extract (h.ev rfl) rfl) rfl ?_; intro f h
  refine s_pure h (ru_assign (h.ev rfl)) rfl ?_; intro f h
  refine s_pure h (ru_assign (h.ev rfl)) rfl ?_; intro f h
  refine s_nil ?_
  refine hK5 _ _ ?_
  refine c_seq fun K6 hK6 => ?_
  refine c_region ?_
  refine s_pure h (ru_move (h.ev rfl)) rfl ?_; intro f h
  refine s_call h s fnc20 (push_any [] ls _ _ _ (rd_nil _) (hlv.keep s.ext) (by decide) (by omega)) rfl rfl ?_; rintro f w1 v45 ⟨vw, rfl, hvw⟩ hE h sq
  replace s := s.sl_new hE hvw
  refine s_pure h (ru_move (h.ev rfl)) rfl ?_; intro f h
  refine s_pure h (ru_extract (h.ev rfl) rfl) rfl ?_; intro f h
  refine s_pure h (ru_extract (h.ev rfl) rfl) rfl ?_; intro f h
  refine s_pure h (ru_assign (h.ev rfl)) rfl ?_; intro f h
  refine s_pure h (ru_assign (h.ev rfl)) rfl ?_; intro f h
  refine s_nil ?_
  refine hK6 _ _ ?_
  refine c_seq fun K7 hK7 => ?_
  refine c_seq fun K8 hK8 => ?_
  cases hr : (rightE ls : Bool)
  · skip
    refine c_region ?_
    refine s_pure h (ru_move (h.ev rfl)) rfl ?_; intro f h
    refine s_call h s fnc12 (ret_val (.bool false) (right_any ls _ _ (hlv.keep s.ext) (by omega)) (congrArg Value.bool hr)) rfl rfl ?_; intro f w1 v9 hT hE h s; obtain rfl := hT
    refine s_pure h (ru_move (h.ev rfl)) rfl ?_; intro f h
    refine s_off (b := true) h rfl rfl rfl rfl ?_; intro f h
    refine s_off (b := true) h rfl rfl rfl rfl ?_; intro f h
    refine s_off (b := true) h rfl rfl rfl rfl ?_; intro f h
    refine s_none h rfl rfl rfl rfl ?_; intro f h
    refine s_none h rfl rfl rfl rfl ?_; intro f h
    refine s_none h rfl rfl rfl rfl ?_; intro f h
    refine s_none h rfl rfl rfl rfl ?_; intro f h
    refine s_off (b := true) h rfl rfl rfl rfl ?_; intro f h
    refine s_pure h (ru_pick_f (h.ev rfl) (h.ev rfl)) rfl ?_; intro f h
    refine s_pure h (ru_move (h.ev rfl)) rfl ?_; intro f h
    refine s_on h rfl rfl rfl ?_
    refine s_call h s fnc16 (alive_any _) rfl rfl ?_; intro f w1 v9 hT hE h s; obtain rfl := hT
    refine s_on h rfl rfl rfl ?_
    refine s_pure h (ru_val (.bool false) (ru_not (h.ev rfl)) rfl) rfl ?_; intro f h
    refine s_pure h (ru_pick_f (h.ev rfl) (h.ev rfl)) rfl ?_; intro f h
    refine s_nil ?_
    refine hK8 _ _ ?_
    refine wpIn_cond_false (h.ev rfl) ?_
    refine wpIn_skip ?_
    refine hK7 _ _ ?_
    refine c_seq fun K9 hK9 => ?_
    refine c_seq fun K10 hK10 => ?_
    refine c_region ?_
    refine s_pure h (ru_move (h.ev rfl)) rfl ?_; intro f h
    refine s_pure h (ru_neq (h.ev rfl) (h.ev rfl)) rfl ?_; intro f h
    refine s_nil ?_
    refine hK10 _ _ ?_
    refine c_cond h rfl (fun hc => ?_) (fun hc => ?_)
    · replace hc := of_decide_eq_true hc
      have hx := hc
      refine c_seq fun K11 hK11 => ?_
      refine c_region ?_
      refine s_pure h (ru_move (h.ev rfl)) rfl ?_; intro f h
      refine s_pure h (ru_val (.bool true) (ru_neq (h.ev rfl) (h.ev rfl)) (congrArg Value.bool (decide_eq_true (push_no ls ms qs hx)))) rfl ?_; intro f h
      refine s_pure h (ru_assign (h.ev rfl)) rfl ?_; intro f h
      refine s_nil ?_
      refine hK11 _ _ ?_
      refine wpIn_ret ?_
      refine t_ret ?_
      exact e_tmp rfl h s rfl (rfl)
    · replace hc := of_decide_eq_false hc
      have hx : pushE ls qs = 0 := by omega
      refine wpIn_skip ?_
      refine hK9 _ _ ?_
      refine c_seq fun K12 hK12 => ?_
      refine c_region ?_
      refine s_pure h (ru_move (h.ev rfl)) rfl ?_; intro f h
      refine s_pure h (ru_move (h.ev rfl)) rfl ?_; intro f h
      refine s_pure h (ru_val (.bool true) (ru_eql (h.ev rfl) (h.ev rfl)) (congrArg Value.bool (decide_eq_true (push_two ls ms qs hx)))) rfl ?_; intro f h
      refine s_pure h (ru_move (h.ev rfl)) rfl ?_; intro f h
      refine s_on h rfl rfl rfl ?_
      refine s_pure h (ru_move (h.ev rfl)) rfl ?_; intro f h
      refine s_on h rfl rfl rfl ?_
      refine s_pure h (ru_move (h.ev rfl)) rfl ?_; intro f h
      refine s_on h rfl rfl rfl ?_
      refine s_call h s fnc15 (ret_val (.bool true) (rsame_any (pushM (pushM ls qs) ms) (pushM ls (ms ++ qs)) vy vz _ (RdZ.of_own (s.getSl 3 rfl)) (RdZ.of_own (s.getSl 1 rfl)) (by omega) (by omega)) (congrArg Value.bool (decide_eq_true (pushM_two ls ms qs hx)))) rfl rfl ?_; intro f w1 v9 hT hE h s; obtain rfl := hT
      refine s_pure h (ru_pick_t (h.ev rfl) (h.ev rfl)) rfl ?_; intro f h
      refine s_pure h (ru_assign (h.ev rfl)) rfl ?_; intro f h
      refine s_nil ?_
      refine hK12 _ _ ?_
      refine wpIn_ret ?_
      exact e_tmp rfl h s rfl (rfl)
  · skip
    refine c_region ?_
    refine s_pure h (ru_move (h.ev rfl)) rfl ?_; intro f h
    refine s_call h s fnc12 (ret_val (.bool true) (right_any ls _ _ (hlv.keep s.ext) (by omega)) (congrArg Value.bool hr)) rfl rfl ?_; intro f w1 v9 hT hE h s; obtain rfl := hT
    refine s_pure h (ru_move (h.ev rfl)) rfl ?_; intro f h
    refine s_on h rfl rfl rfl ?_
    refine s_pure h (ru_move (h.ev rfl)) rfl ?_; intro f h
    refine s_on h rfl rfl rfl ?_
    refine s_pure h (ru_val (.bool false) (ru_neq (h.ev rfl) (h.ev rfl)) (congrArg Value.bool (decide_eq_false (fun h9 => h9 (push_one hr))))) rfl ?_; intro f h
    refine s_on h rfl rfl rfl ?_
    refine s_pure h (ru_move (h.ev rfl)) rfl ?_; intro f h
    refine s_on h rfl rfl rfl ?_
    refine s_pure h (ru_move (h.ev rfl)) rfl ?_; intro f h
    refine s_on h rfl rfl rfl ?_
    refine s_pure h (ru_move (h.ev rfl)) rfl ?_; intro f h
    refine s_on h rfl rfl rfl ?_
    refine s_call h s fnc15 (ret_val (.bool true) (rsame_any (pushM [] ls) ls vw _ _ (RdZ.of_own (s.getSl 0 rfl)) (hlv.keep s.ext) (by omega) (by omega)) (congrArg Value.bool (decide_eq_true (pushM_one hr)))) rfl rfl ?_; intro f w1 v9 hT hE h s; obtain rfl := hT
    refine s_on h rfl rfl rfl ?_
    refine s_pure h (ru_val (.bool false) (ru_not (h.ev rfl)) rfl) rfl ?_; intro f h
    refine s_on h rfl rfl rfl ?_
    refine s_pure h (ru_pick_f (h.ev rfl) (h.ev rfl)) rfl ?_; intro f h
    refine s_pure h (ru_pick_t (h.ev rfl) (h.ev rfl)) rfl ?_; intro f h
    refine s_pure h (ru_move (h.ev rfl)) rfl ?_; intro f h
    refine s_on h rfl rfl rfl ?_
    refine s_call h s fnc16 (alive_any _) rfl rfl ?_; intro f w1 v9 hT hE h s; obtain rfl := hT
    refine s_on h rfl rfl rfl ?_
    refine s_pure h (ru_val (.bool false) (ru_not (h.ev rfl)) rfl) rfl ?_; intro f h
    refine s_pure h (ru_pick_f (h.ev rfl) (h.ev rfl)) rfl ?_; intro f h
    refine s_nil ?_
    refine hK8 _ _ ?_
    refine wpIn_cond_false (h.ev rfl) ?_
    refine wpIn_skip ?_
    refine hK7 _ _ ?_
    refine c_seq fun K13 hK13 => ?_
    refine c_seq fun K14 hK14 => ?_
    refine c_region ?_
    refine s_pure h (ru_move (h.ev rfl)) rfl ?_; intro f h
    refine s_pure h (ru_neq (h.ev rfl) (h.ev rfl)) rfl ?_; intro f h
    refine s_nil ?_
    refine hK14 _ _ ?_
    refine c_cond h rfl (fun hc => ?_) (fun hc => ?_)
    · replace hc := of_decide_eq_true hc
      have hx := hc
      refine c_seq fun K15 hK15 => ?_
      refine c_region ?_
      refine s_pure h (ru_move (h.ev rfl)) rfl ?_; intro f h
      refine s_pure h (ru_val (.bool true) (ru_neq (h.ev rfl) (h.ev rfl)) (congrArg Value.bool (decide_eq_true (push_no ls ms qs hx)))) rfl ?_; intro f h
      refine s_pure h (ru_assign (h.ev rfl)) rfl ?_; intro f h
      refine s_nil ?_
      refine hK15 _ _ ?_
      refine wpIn_ret ?_
      refine t_ret ?_
      exact e_tmp rfl h s rfl (rfl)
    · replace hc := of_decide_eq_false hc
      have hx : pushE ls qs = 0 := by omega
      refine wpIn_skip ?_
      refine hK13 _ _ ?_
      refine c_seq fun K16 hK16 => ?_
      refine c_region ?_
      refine s_pure h (ru_move (h.ev rfl)) rfl ?_; intro f h
      refine s_pure h (ru_move (h.ev rfl)) rfl ?_; intro f h
      refine s_pure h (ru_val (.bool true) (ru_eql (h.ev rfl) (h.ev rfl)) (congrArg Value.bool (decide_eq_true (push_two ls ms qs hx)))) rfl ?_; intro f h
      refine s_pure h (ru_move (h.ev rfl)) rfl ?_; intro f h
      refine s_on h rfl rfl rfl ?_
      refine s_pure h (ru_move (h.ev rfl)) rfl ?_; intro f h
      refine s_on h rfl rfl rfl ?_
      refine s_pure h (ru_move (h.ev rfl)) rfl ?_; intro f h
      refine s_on h rfl rfl rfl ?_
      refine s_call h s fnc15 (ret_val (.bool true) (rsame_any (pushM (pushM ls qs) ms) (pushM ls (ms ++ qs)) vy vz _ (RdZ.of_own (s.getSl 3 rfl)) (RdZ.of_own (s.getSl 1 rfl)) (by omega) (by omega)) (congrArg Value.bool (decide_eq_true (pushM_two ls ms qs hx)))) rfl rfl ?_; intro f w1 v9 hT hE h s; obtain rfl := hT
      refine s_pure h (ru_pick_t (h.ev rfl) (h.ev rfl)) rfl ?_; intro f h
      refine s_pure h (ru_assign (h.ev rfl)) rfl ?_; intro f h
      refine s_nil ?_
      refine hK16 _ _ ?_
      refine wpIn_ret ?_
      exact e_tmp rfl h s rfl (rfl)
end Go.Proofs.Ytjkjhceffbcidaa
