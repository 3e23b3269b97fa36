/- What FingerGoals answers: for all arguments. -/
import Derived.Test.YtbjgpimabgcipaaVd
import Derived.Test.YtbjgpimabgcipaaVe
set_option linter.unusedVariables false
set_option linter.unusedSimpArgs false
set_option linter.unusedSectionVars false
namespace Go.Proofs.Ytbjgpimabgcipaa
open Go.RowKit
set_option maxHeartbeats 4000000 in
theorem fgoals_any (l : List Mb) (vh : Value) (at9 k0 : Int) (w : World) (hR : RdZ w vh 33 l.length (mbCells l)) : Calls Try.prog 7 [vh, .int .i64 at9, .int .i64 k0].toArray w (Ret w (is (.bool true))) := by
  have hlv := mb_take hR (min l.length 18) (by omega)
  obtain ⟨r, hr9⟩ : ∃ x9, x9 = l.take (min l.length 18) := ⟨_, rfl⟩
  rw [← hr9] at hlv
  have hln8 : r.length ≤ 18 := by rw [hr9, List.length_take]; omega
  have hln : r.length ≤ 1000 := by omega
  refine c_enter Try.func7 rfl Try.ntmps7 rfl [(0, vh), (1, .int .i64 at9), (2, .int .i64 k0)] (by simp) fun f h => ?_
  have s := St.start w
  refine c_seq fun K1 hK1 => ?_
  refine c_region ?_
  refine s_pure h (ru_assign (h.ev rfl)) rfl ?_; intro f h
  refine s_nil ?_
  refine hK1 _ _ ?_
  refine c_seq fun K2 hK2 => ?_
  refine c_region ?_
  refine s_pure h (ru_move (h.ev rfl)) rfl ?_; intro f h
  refine s_call h s fnc8 (few_any l vh _ (hR.keep s.ext)) rfl rfl ?_; intro f w1 v9 hT hE h s; obtain rfl := hT
  refine s_pure h (ru_assign (h.ev rfl)) rfl ?_; intro f h
  refine s_nil ?_
  refine hK2 _ _ ?_
  refine c_seq fun K3 hK3 => ?_
  refine c_seq fun K4 hK4 => ?_
  cases hr : (rightR r : Bool)
  · skip
    refine c_region ?_
    refine s_pure h (ru_move (h.ev rfl)) rfl ?_; intro f h
    refine s_call h s fnc23 (ret_val (.bool false) (right_any r (cutV vh (min l.length 18)) _ (hlv.keep s.ext) hln) (congrArg Value.bool hr)) rfl rfl ?_; intro f w1 v9 hT hE h s; obtain rfl := hT
    refine s_pure h (ru_val (.bool true) (ru_not (h.ev rfl)) rfl) rfl ?_; intro f h
    refine s_pure h (ru_move (h.ev rfl)) rfl ?_; intro f h
    refine s_off (b := false) h rfl rfl rfl rfl ?_; intro f h
    refine s_off (b := false) h rfl rfl rfl rfl ?_; intro f h
    refine s_off (b := false) h rfl rfl rfl rfl ?_; intro f h
    refine s_pure h (ru_pick_t (h.ev rfl) (h.ev rfl)) rfl ?_; intro f h
    refine s_nil ?_
    refine hK4 _ _ ?_
    refine wpIn_cond_true (h.ev rfl) ?_
    refine c_seq fun K5 hK5 => ?_
    refine c_region ?_
    refine s_call h s fnc13 (alive_any _) rfl rfl ?_; intro f w1 v9 hT hE h s; obtain rfl := hT
    refine s_pure h (ru_assign (h.ev rfl)) rfl ?_; intro f h
    refine s_nil ?_
    refine hK5 _ _ ?_
    refine wpIn_ret ?_
    refine t_ret ?_
    exact e_tmp rfl h s rfl (rfl)
  · skip
    cases hz : (decide (r.length = 0) : Bool)
    · skip
      refine c_region ?_
      refine s_pure h (ru_move (h.ev rfl)) rfl ?_; intro f h
      refine s_call h s fnc23 (ret_val (.bool true) (right_any r (cutV vh (min l.length 18)) _ (hlv.keep s.ext) hln) (congrArg Value.bool hr)) rfl rfl ?_; intro f w1 v9 hT hE h s; obtain rfl := hT
      refine s_pure h (ru_val (.bool false) (ru_not (h.ev rfl)) rfl) rfl ?_; intro f h
      refine s_pure h (ru_move (h.ev rfl)) rfl ?_; intro f h
      refine s_on h rfl rfl rfl ?_
      refine s_pure h (ru_move (h.ev rfl)) rfl ?_; intro f h
      refine s_on h rfl rfl rfl ?_
      refine s_pure h (ru_lenZ (hlv.keep s.ext) Try.underlying22 (h.ev rfl)) rfl ?_; intro f h
      refine s_on h rfl rfl rfl ?_
      refine s_pure h (ru_val (.bool false) (ru_eql (h.ev rfl) (h.ev rfl)) (congrArg Value.bool (decide_eq_false (by have := of_decide_eq_false hz; omega)))) rfl ?_; intro f h
      refine s_pure h (ru_pick_f (h.ev rfl) (h.ev rfl)) rfl ?_; intro f h
      refine s_nil ?_
      refine hK4 _ _ ?_
      refine wpIn_cond_false (h.ev rfl) ?_
      refine wpIn_skip ?_
      refine hK3 _ _ ?_
      refine c_seq fun K6 hK6 => ?_
      refine c_region ?_
      have hg := (rg_iff r).1 hr
      have h0 := of_decide_eq_false hz
      obtain ⟨i9, hil, hi9, hb1, hb2⟩ := rot_at at9 r.length (by omega)
      obtain ⟨q9, hq16, hq9, hb3, hb4⟩ : ∃ q : Nat, q < 16 ∧ (k0.tmod 16 + 16) % 16 = (q : Int) ∧ -16 < k0.tmod 16 ∧ k0.tmod 16 < 16 := rot_at k0 16 (by decide)
      have hmi := mb_mem hil
      obtain ⟨hf1, hf2⟩ := fin_in hg hmi
      have hidl : idlM r (r.getD i9 zMb).1 = (fstK (idlG r (r.getD i9 zMb)) 16) := by rw [idl_ok hf1, hf2]
      have hl16 : (fstK (idlG r (r.getD i9 zMb)) 16).length = 16 := fst_len _ _
      obtain ⟨hgo1, hgo2⟩ := goal_ok (r.getD i9 zMb) rfl hq16
      refine s_pure h (ru_move (h.ev rfl)) rfl ?_; intro f h
      refine s_pure h (ru_move (h.ev rfl)) rfl ?_; intro f h
      refine s_pure h (ru_lenZ (hlv.keep s.ext) Try.underlying22 (h.ev rfl)) rfl ?_; intro f h
      refine s_pure h (ru_remt (h.ev rfl) (h.ev rfl) (by omega)) rfl ?_; intro f h
      refine s_pure h (ru_move (h.ev rfl)) rfl ?_; intro f h
      refine s_pure h (ru_lenZ (hlv.keep s.ext) Try.underlying22 (h.ev rfl)) rfl ?_; intro f h
      refine s_pure h (ru_add (h.ev rfl) (h.ev rfl) (by omega)) rfl ?_; intro f h
      refine s_pure h (ru_move (h.ev rfl)) rfl ?_; intro f h
      refine s_pure h (ru_lenZ (hlv.keep s.ext) Try.underlying22 (h.ev rfl)) rfl ?_; intro f h
      refine s_pure h (ru_val (.int .i64 (i9 : Int)) (ru_rem (h.ev rfl) (h.ev rfl) (by omega)) (congrArg (Value.int .i64) hi9)) rfl ?_; intro f h
      refine s_pure h (ru_move (h.ev rfl)) rfl ?_; intro f h
      refine s_pure h (ru_remt (h.ev rfl) (h.ev rfl) (by omega)) rfl ?_; intro f h
      refine s_pure h (ru_add (h.ev rfl) (h.ev rfl) (by omega)) rfl ?_; intro f h
      refine s_pure h (ru_val (.int .i64 (q9 : Int)) (ru_rem (h.ev rfl) (h.ev rfl) (by omega)) (congrArg (Value.int .i64) hq9)) rfl ?_; intro f h
      refine s_pure h (ru_assign (h.ev rfl)) rfl ?_; intro f h
      refine s_pure h (ru_assign (h.ev rfl)) rfl ?_; intro f h
      refine s_nil ?_
      refine hK6 _ _ ?_
      refine c_seq fun K7 hK7 => ?_
      refine c_region ?_
      refine s_pure h (ru_move (h.ev rfl)) rfl ?_; intro f h
      refine s_pure h (ru_move (h.ev rfl)) rfl ?_; intro f h
      refine s_pure h (ru_ixz (hlv.keep s.ext) (i9) Try.underlying22 szo26 (h.ev rfl) (h.ev rfl) (rfl) (by omega)) rfl ?_; intro f h
      refine s_load_at ((hlv.keep s.ext).el (i9) (by omega) (by decide) (D := mbArr (r.getD i9 zMb)) (mb_elD r i9 hil)) h row26 rfl (mbArr_size _) rfl ?_; intro f h
      refine s_pure h (ru_move (h.ev rfl)) rfl ?_; intro f h
      refine s_call h s fnc9 (ret_val (.tuple #[idV ((r.getD i9 zMb).2 + powI (240 + q9)), .int .i64 0]) (goal_any (r.getD i9 zMb) (q9 : Int) _) (by rw [hgo1, hgo2])) rfl rfl ?_; intro f w1 v9 hT hE h s; obtain rfl := hT
      refine s_pure h (ru_move (h.ev rfl)) rfl ?_; intro f h
      refine s_pure h (ru_extract (h.ev rfl) rfl) rfl ?_; intro f h
      refine s_pure h (ru_extract (h.ev rfl) rfl) rfl ?_; intro f h
      refine s_alloc (idArr 0#256) h s zero24 rfl rfl ?_; intro f w1 b7 h s
      refine s_store_row 0 h s row24 rfl rfl rfl (by first | exact idArr_size _ | exact bytesF_size _ _) (by first | exact idArr_size _ | exact bytesF_size _ _) (by first | exact idArr_ones _ | exact bytesF_ones _ _) ?_; intro w1 s
      refine s_pure h (ru_assign (h.ev rfl)) rfl ?_; intro f h
      refine s_nil ?_
      refine hK7 _ _ ?_
      refine c_seq fun K8 hK8 => ?_
      refine c_region ?_
      refine s_pure h (ru_build0 idTy) rfl ?_; intro f h
      refine s_pure h (ru_move (h.ev rfl)) rfl ?_; intro f h
      refine s_pure h (ru_val (.int .i64 ((240 + q9 : Nat) : Int)) (ru_add (h.ev rfl) (h.ev rfl) (by omega)) (congrArg (Value.int .i64) (by omega))) rfl ?_; intro f h
      refine s_call h s fnc24 (step_any 0#256 (240 + q9) (by omega) _) rfl rfl ?_; intro f w1 v9 hT hE h s; obtain rfl := hT
      refine s_pure h (ru_move (h.ev rfl)) rfl ?_; intro f h
      refine s_pure h (ru_extract (h.ev rfl) rfl) rfl ?_; intro f h
      refine s_pure h (ru_extract (h.ev rfl) rfl) rfl ?_; intro f h
      refine s_alloc (idArr 0#256) h s zero24 rfl rfl ?_; intro f w1 b9 h s
      refine s_store_row 0 h s row24 rfl rfl rfl (by first | exact idArr_size _ | exact bytesF_size _ _) (by first | exact idArr_size _ | exact bytesF_size _ _) (by first | exact idArr_ones _ | exact bytesF_ones _ _) ?_; intro w1 s
      refine s_pure h (ru_assign (h.ev rfl)) rfl ?_; intro f h
      refine s_nil ?_
      refine hK8 _ _ ?_
      refine c_seq fun K9 hK9 => ?_
      refine c_region ?_
      refine s_pure h (ru_move (h.ev rfl)) rfl ?_; intro f h
      refine s_pure h (ru_move (h.ev rfl)) rfl ?_; intro f h
      refine s_pure h (ru_move (h.ev rfl)) rfl ?_; intro f h
      refine s_pure h (ru_ixz (hlv.keep s.ext) (i9) Try.underlying22 szo26 (h.ev rfl) (h.ev rfl) (rfl) (by omega)) rfl ?_; intro f h
      refine s_pure h (ru_fieldE fld26_0 (h.ev rfl) ((hlv.keep s.ext).some (by omega))) rfl ?_; intro f h
      refine s_load_at1 (V := .int .i64 (r.getD i9 zMb).1) (rdz_at (hlv.keep s.ext) (i9 * 33 + 0) (mb_f0 r i9 hil)) h one3 rfl rfl ?_; intro f h
      refine s_call h s fnc10 (ideal_any r (cutV vh (min l.length 18)) (r.getD i9 zMb).1 _ (hlv.keep s.ext) hln) rfl rfl ?_; rintro f w1 v9 ⟨vi, rfl, hT⟩ hE h sq; rw [hidl] at hT; replace s := s.sl_new hE hT
      refine s_pure h (ru_move (h.ev rfl)) rfl ?_; intro f h
      refine s_pure h (ru_extract (h.ev rfl) rfl) rfl ?_; intro f h
      refine s_pure h (ru_extract (h.ev rfl) rfl) rfl ?_; intro f h
      refine s_pure h (ru_assign (h.ev rfl)) rfl ?_; intro f h
      refine s_pure h (ru_assign (h.ev rfl)) rfl ?_; intro f h
      refine s_nil ?_
      refine hK9 _ _ ?_
      refine c_seq fun K10 hK10 => ?_
      refine c_seq fun K11 hK11 => ?_
      refine c_walkN 30 [[], [0], [0, 1], [0, 1, 2], [0, 1, 2, 3], [0, 1, 2, 3, 4], [0, 1, 2, 3, 4, 5], [0, 1, 2, 3, 4, 5, 6], [0, 1, 2, 3, 4, 5, 6, 7], [0, 1, 2, 3, 4, 5, 6, 7, 8], [0, 1, 2, 3, 4, 5, 6, 7, 8, 9], [0, 1, 2, 3, 4, 5, 6, 7, 8, 9, 10], [0, 1, 2, 3, 4, 5, 6, 7, 8, 9, 10, 11], [0, 1, 2, 3, 4, 5, 6, 7, 8, 9, 10, 11, 12], [0, 1, 2, 3, 4, 5, 6, 7, 8, 9, 10, 11, 12, 13], [0, 1, 2, 3, 4, 5, 6, 7, 8, 9, 10, 11, 12, 13, 14], [0, 1, 2, 3, 4, 5, 6, 7, 8, 9, 10, 11, 12, 13, 14, 15], [0, 1, 2, 3, 4, 5, 6, 7, 8, 9, 10, 11, 12, 13, 14, 15], [0, 1, 2, 3, 4, 5, 6, 7, 8, 9, 10, 11, 12, 13, 14, 15, 16, 17], [0, 1, 2, 3, 4, 5, 6, 7, 8, 9, 10, 11, 12, 13, 14, 15, 16, 17, 18], [0, 1, 2, 3, 4, 5, 6, 7, 8, 9, 10, 11, 12, 13, 14, 15, 16, 17, 18, 19], [0, 1, 2, 3, 4, 5, 6, 7, 8, 9, 10, 11, 12, 13, 14, 15], [0, 1, 2, 3, 4, 5, 6, 7, 8, 9, 10, 11, 12, 13, 14, 15, 16, 17, 18, 19, 20, 21], [0, 1, 2, 3, 4, 5, 6, 7, 8, 9, 10, 11, 12, 13, 14, 15], [0, 1, 2, 3, 4, 5, 6, 7, 8, 9, 10, 11, 12, 13, 14, 15, 16, 17, 18, 19, 20, 21, 22, 23], [0, 1, 2, 3, 4, 5, 6, 7, 8, 9, 10, 11, 12, 13, 14, 15, 16, 17, 18, 19, 20, 21, 22, 23, 24], [0, 1, 2, 3, 4, 5, 6, 7, 8, 9, 10, 11, 12, 13, 14, 15, 16, 17, 18, 19, 20, 21, 22, 23, 24, 25], [0, 1, 2, 3, 4, 5, 6, 7, 8, 9, 10, 11, 12, 13, 14, 15, 16, 17, 18, 19, 20, 21, 22, 23, 24, 25, 26], [0, 1, 2, 3, 4, 5, 6, 7, 8, 9, 10, 11, 12, 13, 14, 15, 16, 17, 18, 19, 20, 21, 22, 23, 24, 25, 26, 27], [0, 1, 2, 3, 4, 5, 6, 7, 8, 9, 10, 11, 12, 13, 14, 15, 16, 17, 18, 19, 20, 21, 22, 23, 24, 25, 26, 27, 28]] h (by kernel_rfl) (by kernel_rfl) (by kernel_rfl) ?_
      refine w_pure h (ru_move (h.ev rfl)) rfl ?_; intro f h
      refine w_pure h (ru_val (.bool false) (ru_neq (h.ev rfl) (h.ev rfl)) (congrArg Value.bool (decide_eq_false (not_not_intro rfl)))) rfl ?_; intro f h
      refine w_pure h (ru_move (h.ev rfl)) rfl ?_; intro f h
      refine w_on h rfl rfl rfl ?_
      refine w_pure h (ru_move (h.ev rfl)) rfl ?_; intro f h
      refine w_on h rfl rfl rfl ?_
      refine w_pure h (ru_val (.bool false) (ru_neq (h.ev rfl) (h.ev rfl)) (congrArg Value.bool (decide_eq_false (not_not_intro rfl)))) rfl ?_; intro f h
      refine w_pure h (ru_pick_f (h.ev rfl) (h.ev rfl)) rfl ?_; intro f h
      refine w_pure h (ru_move (h.ev rfl)) rfl ?_; intro f h
      refine w_on h rfl rfl rfl ?_
      refine w_pure h (ru_move (h.ev rfl)) rfl ?_; intro f h
      refine w_on h rfl rfl rfl ?_
      refine w_pure h (ru_val (.bool false) (ru_neq (h.ev rfl) (h.ev rfl)) (congrArg Value.bool (decide_eq_false (not_not_intro hf1)))) rfl ?_; intro f h
      refine w_pure h (ru_pick_f (h.ev rfl) (h.ev rfl)) rfl ?_; intro f h
      refine w_pure h (ru_move (h.ev rfl)) rfl ?_; intro f h
      refine w_on h rfl rfl rfl ?_
      refine w_pure h (ru_move (h.ev rfl)) rfl ?_; intro f h
      refine w_on h rfl rfl rfl ?_
      refine w_pure h (ru_lenZ (RdZ.of_own (s.getSl 0 rfl)) Try.underlying22 (h.ev rfl)) rfl ?_; intro f h
      refine w_on h rfl rfl rfl ?_
      refine w_pure h (ru_val (.bool false) (ru_neq (h.ev rfl) (h.ev rfl)) (congrArg Value.bool (decide_eq_false (by rw [hl16]; decide)))) rfl ?_; intro f h
      refine w_pure h (ru_pick_f (h.ev rfl) (h.ev rfl)) rfl ?_; intro f h
      refine w_pure h (ru_move (h.ev rfl)) rfl ?_; intro f h
      refine w_on h rfl rfl rfl ?_
      refine w_pure h (ru_move (h.ev rfl)) rfl ?_; intro f h
      refine w_on h rfl rfl rfl ?_
      refine w_pure h (ru_move (h.ev rfl)) rfl ?_; intro f h
      refine w_on h rfl rfl rfl ?_
      refine w_pure h (ru_ixz (hlv.keep s.ext) (i9) Try.underlying22 szo26 (h.ev rfl) (h.ev rfl) (rfl) (by omega)) rfl ?_; intro f h
      refine w_on h rfl rfl rfl ?_
      refine w_pure h (ru_fieldE fld26_1 (h.ev rfl) ((hlv.keep s.ext).some (by omega))) rfl ?_; intro f h
      refine w_on h rfl rfl rfl ?_
      refine w_load_at (RdZ.elF (hlv.keep s.ext) (i9) 1 32 (by omega) (by decide) (C := mbArr (r.getD i9 zMb)) (mb_elD r i9 hil) (D := idArr (r.getD i9 zMb).2) (mbArr_id _)) h row24 rfl (by first | exact idArr_size _ | exact bytesF_size _ _) rfl ?_; intro f h
      refine w_on h rfl rfl rfl ?_
      refine w_load_row 2 h s row24 rfl rfl (by first | exact idArr_size _ | exact bytesF_size _ _) rfl ?_; intro f h
      refine w_on h rfl rfl rfl ?_
      refine w_call h fnc22 (fun w9 hE9 => far_any _ _ w9) rfl rfl ?_; intro f h
      refine w_on h rfl rfl rfl ?_
      refine w_load_row 1 h s row24 rfl rfl (by first | exact idArr_size _ | exact bytesF_size _ _) rfl ?_; intro f h
      refine w_on h rfl rfl rfl ?_
      refine w_pure h (ru_val (.bool false) (ru_neq_id idTy (h.ev rfl) (h.ev rfl)) (congrArg Value.bool (decide_eq_false (not_not_intro (by rw [s_way, zero_add9]))))) rfl ?_; intro f h
      refine w_pure h (ru_pick_f (h.ev rfl) (h.ev rfl)) rfl ?_; intro f h
      refine w_pure h (ru_move (h.ev rfl)) rfl ?_; intro f h
      refine w_on h rfl rfl rfl ?_
      refine w_call h fnc13 (fun w9 hE9 => alive_any w9) rfl rfl ?_; intro f h
      refine w_on h rfl rfl rfl ?_
      refine w_pure h (ru_val (.bool false) (ru_not (h.ev rfl)) rfl) rfl ?_; intro f h
      refine w_pure h (ru_pick_f (h.ev rfl) (h.ev rfl)) rfl ?_; intro f h
      refine w_nil s fun w1 s => ?_
      refine s_nil ?_
      refine hK11 _ _ ?_
      refine wpIn_cond_false (h.ev rfl) ?_
      refine wpIn_skip ?_
      refine hK10 _ _ ?_
      refine c_seq fun K12 hK12 => ?_
      refine c_seq fun K13 hK13 => ?_
      refine c_region ?_
      refine s_pure h (ru_move (h.ev rfl)) rfl ?_; intro f h
      refine s_pure h (ru_lenZ (hlv.keep s.ext) Try.underlying22 (h.ev rfl)) rfl ?_; intro f h
      refine s_pure h (ru_move (h.ev rfl)) rfl ?_; intro f h
      refine s_nil ?_
      refine hK13 _ _ ?_
      refine wpIn_block ?_
      refine wpIn_loop_ghost (fun nn aa ww => ∃ k : Nat, Sl 153 aa [(7, .pointer (some ⟨b7, 0, none⟩)), (9, .pointer (some ⟨b9, 0, none⟩)), (11, vi), (66, vi), (79, vi), (0, (cutV vh (min l.length 18))), (2, .int .i64 (q9 : Int)), (98, (cutV vh (min l.length 18))), (99, .int .i64 (r.length : Int)), (100, .int .i64 (k : Int))] ∧ St w [.sl vi 26 33 (fstK (idlG r (r.getD i9 zMb)) 16).length (mbCells (fstK (idlG r (r.getD i9 zMb)) 16)), .blk b9 (.cells (idArr (0#256 + powI (240 + q9))) 24), .blk b7 (.cells (idArr ((r.getD i9 zMb).2 + powI (240 + q9))) 24)] ww ∧ nn = r.length - k ∧ k ≤ r.length) (r.length - (0)) ⟨0, h.only ⟨rfl, rfl, rfl, rfl, rfl, rfl, rfl, rfl, rfl, slot_int rfl (by omega), trivial⟩, s.as ⟨rfl, rfl, rfl, trivial⟩, rfl, Nat.zero_le _⟩ ?_
      rintro _ f w1 ⟨k, h, s, hnn, hp0⟩
      refine c_seq fun K14 hK14 => ?_
      refine c_region ?_
      refine s_pure h (ru_lss (h.ev rfl) (h.ev rfl)) rfl ?_; intro f h
      refine s_nil ?_
      refine hK14 _ _ ?_
      refine c_seq fun K15 hK15 => ?_
      refine c_cond h rfl (fun hc => ?_) (fun hc => ?_)
      · replace hc := of_decide_eq_true hc
        refine wpIn_skip ?_
        refine hK15 _ _ ?_
        refine c_seq fun K16 hK16 => ?_
        refine wpIn_block ?_
        refine c_seq fun K17 hK17 => ?_
        refine c_region ?_
        have hkl : k < r.length := by omega
        refine s_pure h (ru_ixz (hlv.keep s.ext) (k) Try.underlying22 szo26 (h.ev rfl) (h.ev rfl) (by omega) (by omega)) rfl ?_; intro f h
        refine s_load_at ((hlv.keep s.ext).el (k) (by omega) (by decide) (D := mbArr (r.getD k zMb)) (mb_elD r k hkl)) h row26 rfl (mbArr_size _) rfl ?_; intro f h
        refine s_alloc (mbArr zMb) h s zero26 rfl rfl ?_; intro f w1 b14 h s
        refine s_store_row 0 h s row26 rfl rfl rfl (mbArr_size _) (mbArr_size _) (mbArr_ones _) ?_; intro w1 s
        refine s_nil ?_
        refine hK17 _ _ ?_
        refine c_seq fun K18 hK18 => ?_
        cases p0 : (!decide ((r.getD k zMb) = (idlG r (r.getD i9 zMb) q9)) : Bool)
        · skip
          refine c_walkN 32 [[], [], [], [1, 2], [1, 2, 3], [0, 1, 2, 3, 4], [0, 1, 2, 3, 4, 5], [0, 1, 2, 3, 4, 5, 6], [0, 1, 2, 3, 4, 5, 6, 7], [0, 1, 2, 3, 4, 5, 6], [0, 1, 2, 3, 4, 5, 6, 7, 8, 9], [0, 1, 2, 3, 4, 5, 6, 7, 8, 9, 10], [0, 1, 2, 3, 4, 5, 6, 7, 8, 9, 10, 11], [0, 1, 2, 3, 4, 5, 6, 7, 8, 9, 10, 11, 12], [0, 1, 2, 3, 4, 5, 6, 7, 8, 9, 10, 11, 12, 13], [0, 1, 2, 3, 4, 5, 6, 7, 8, 9, 10, 11, 12], [0, 1, 2, 3, 4, 5, 6, 7, 8, 9, 10, 11, 12], [0, 1, 2, 3, 4, 5, 6, 7, 8, 9, 10, 11, 12], [0, 1, 2, 3, 4, 5, 6, 7, 8, 9, 10, 11, 12, 16, 17], [0, 1, 2, 3, 4, 5, 6, 7, 8, 9, 10, 11, 12, 16, 17, 18], [0, 1, 2, 3, 4, 5, 6, 7, 8, 9, 10, 11, 12, 16, 17, 18, 19], [0, 1, 2, 3, 4, 5, 6, 7, 8, 9, 10, 11, 12, 13, 14, 15, 16, 17, 18, 19, 20], [0, 1, 2, 3, 4, 5, 6, 7, 8, 9, 10, 11, 12, 13, 14, 15, 16, 17, 18, 19, 20, 21], [0, 1, 2, 3, 4, 5, 6, 7, 8, 9, 10, 11, 12, 13, 14, 15, 16, 17, 18, 19, 20, 21, 22], [0, 1, 2, 3, 4, 5, 6, 7, 8, 9, 10, 11, 12, 13, 14, 15, 16, 17, 18, 19, 20, 21, 22, 23], [0, 1, 2, 3, 4, 5, 6, 7, 8, 9, 10, 11, 12, 13, 14, 15, 16, 17, 18, 19, 20, 21, 22, 23], [0, 1, 2, 3, 4, 5, 6, 7, 8, 9, 10, 11, 12, 13, 14, 15, 16, 17, 18, 19, 20, 21, 22, 23], [0, 1, 2, 3, 4, 5, 6, 7, 8, 9, 10, 11, 12, 13, 14, 15, 16, 17, 18, 19, 20, 21, 22, 23, 25, 26], [0, 1, 2, 3, 4, 5, 6, 7, 8, 9, 10, 11, 12, 13, 14, 15, 16, 17, 18, 19, 20, 21, 22, 23, 25, 26, 27], [0, 1, 2, 3, 4, 5, 6, 7, 8, 9, 10, 11, 12, 13, 14, 15, 16, 17, 18, 19, 20, 21, 22, 23, 25, 26, 27, 28], [0, 1, 2, 3, 4, 5, 6, 7, 8, 9, 10, 11, 12, 13, 14, 15, 16, 17, 18, 19, 20, 21, 22, 23, 24, 25, 26, 27, 28, 29], [0, 1, 2, 3, 4, 5, 6, 7, 8, 9, 10, 11, 12, 13, 14, 15, 16, 17, 18, 19, 20, 21, 22, 23, 24, 25, 26, 27, 28, 29, 30]] h (by kernel_rfl) (by kernel_rfl) (by kernel_rfl) ?_
          refine w_load_row 0 h s row26 rfl rfl (mbArr_size _) rfl ?_; intro f h
          refine w_pure h (ru_move (h.ev rfl)) rfl ?_; intro f h
          refine w_pure h (ru_move (h.ev rfl)) rfl ?_; intro f h
          refine w_pure h (ru_ixz (RdZ.of_own (s.getSl 1 rfl)) (q9) Try.underlying22 szo26 (h.ev rfl) (h.ev rfl) (rfl) (by omega)) rfl ?_; intro f h
          refine w_load_at ((RdZ.of_own (s.getSl 1 rfl)).el (q9) (by omega) (by decide) (D := mbArr (idlG r (r.getD i9 zMb) q9)) ((mb_elD _ _ (by omega)).trans (by rw [fst_get _ hq16]))) h row26 rfl (mbArr_size _) rfl ?_; intro f h
          refine w_pure h (ru_val (.bool false) (ru_neqW (eqM _ _) (by kernel_rfl) (by decide) (h.ev rfl) (h.ev rfl) (decide ((r.getD k zMb) = (idlG r (r.getD i9 zMb) q9))) (mbEq _ _)) (congrArg Value.bool p0)) rfl ?_; intro f h
          refine w_pure h (ru_move (h.ev rfl)) rfl ?_; intro f h
          refine w_off (b := true) h rfl rfl rfl rfl ?_; intro f h
          refine w_off (b := true) h rfl rfl rfl rfl ?_; intro f h
          refine w_off (b := true) h rfl rfl rfl rfl ?_; intro f h
          refine w_off (b := true) h rfl rfl rfl rfl ?_; intro f h
          refine w_pure h (ru_pick_f (h.ev rfl) (h.ev rfl)) rfl ?_; intro f h
          refine w_pure h (ru_move (h.ev rfl)) rfl ?_; intro f h
          refine w_off (b := true) h rfl rfl rfl rfl ?_; intro f h
          refine w_off (b := true) h rfl rfl rfl rfl ?_; intro f h
          refine w_off (b := true) h rfl rfl rfl rfl ?_; intro f h
          refine w_off (b := true) h rfl rfl rfl rfl ?_; intro f h
          refine w_off (b := true) h rfl rfl rfl rfl ?_; intro f h
          refine w_off (b := true) h rfl rfl rfl rfl ?_; intro f h
          refine w_off (b := true) h rfl rfl rfl rfl ?_; intro f h
          refine w_off (b := true) h rfl rfl rfl rfl ?_; intro f h
          refine w_off (b := true) h rfl rfl rfl rfl ?_; intro f h
          refine w_pure h (ru_pick_f (h.ev rfl) (h.ev rfl)) rfl ?_; intro f h
          refine w_pure h (ru_move (h.ev rfl)) rfl ?_; intro f h
          refine w_off (b := true) h rfl rfl rfl rfl ?_; intro f h
          refine w_off (b := true) h rfl rfl rfl rfl ?_; intro f h
          refine w_off (b := true) h rfl rfl rfl rfl ?_; intro f h
          refine w_off (b := true) h rfl rfl rfl rfl ?_; intro f h
          refine w_off (b := true) h rfl rfl rfl rfl ?_; intro f h
          refine w_off (b := true) h rfl rfl rfl rfl ?_; intro f h
          refine w_off (b := true) h rfl rfl rfl rfl ?_; intro f h
          refine w_pure h (ru_pick_f (h.ev rfl) (h.ev rfl)) rfl ?_; intro f h
          refine w_nil s fun w1 s => ?_
          refine s_nil ?_
          refine hK18 _ _ ?_
          refine wpIn_cond_false (h.ev rfl) ?_
          refine wpIn_skip ?_
          refine b_norm ?_
          refine hK16 _ _ ?_
          refine c_region ?_
          refine s_pure h (ru_add (h.ev rfl) (h.ev rfl) (by omega)) rfl ?_; intro f h
          refine s_pure h (ru_move (h.ev rfl)) rfl ?_; intro f h
          refine s_nil ?_
          refine t_norm ?_
          exact ⟨_, by omega, ⟨k + 1, h.only ⟨rfl, rfl, rfl, rfl, rfl, rfl, rfl, rfl, rfl, slot_int rfl (by omega), trivial⟩, St.as (s.pick _ (List.sublist_append_right [_] _)) ⟨rfl, rfl, rfl, trivial⟩, rfl, by omega⟩⟩
        · skip
          cases p1 : (decide ((r.getD k zMb).2 ≠ ((r.getD i9 zMb).2 + powI (240 + q9))) : Bool)
          · skip
            refine c_walkN 32 [[], [], [], [1, 2], [1, 2, 3], [0, 1, 2, 3, 4], [0, 1, 2, 3, 4, 5], [0, 1, 2, 3, 4, 5, 6], [0, 1, 2, 3, 4, 5, 6, 7], [0, 1, 2, 3, 4, 5, 6], [0, 1, 2, 3, 4, 5, 6, 7, 8, 9], [0, 1, 2, 3, 4, 5, 6, 7, 8, 9, 10], [0, 1, 2, 3, 4, 5, 6, 7, 8, 9, 10, 11], [0, 1, 2, 3, 4, 5, 6, 7, 8, 9, 10, 11, 12], [0, 1, 2, 3, 4, 5, 6, 7, 8, 9, 10, 11, 12, 13], [0, 1, 2, 3, 4, 5, 6, 7, 8, 9, 10, 11, 12], [0, 1, 2, 3, 4, 5, 6, 7, 8, 9, 10, 11, 12], [0, 1, 2, 3, 4, 5, 6, 7, 8, 9, 10, 11, 12], [0, 1, 2, 3, 4, 5, 6, 7, 8, 9, 10, 11, 12, 16, 17], [0, 1, 2, 3, 4, 5, 6, 7, 8, 9, 10, 11, 12, 16, 17, 18], [0, 1, 2, 3, 4, 5, 6, 7, 8, 9, 10, 11, 12, 16, 17, 18, 19], [0, 1, 2, 3, 4, 5, 6, 7, 8, 9, 10, 11, 12, 13, 14, 15, 16, 17, 18, 19, 20], [0, 1, 2, 3, 4, 5, 6, 7, 8, 9, 10, 11, 12, 13, 14, 15, 16, 17, 18, 19, 20, 21], [0, 1, 2, 3, 4, 5, 6, 7, 8, 9, 10, 11, 12, 13, 14, 15, 16, 17, 18, 19, 20, 21, 22], [0, 1, 2, 3, 4, 5, 6, 7, 8, 9, 10, 11, 12, 13, 14, 15, 16, 17, 18, 19, 20, 21, 22, 23], [0, 1, 2, 3, 4, 5, 6, 7, 8, 9, 10, 11, 12, 13, 14, 15, 16, 17, 18, 19, 20, 21, 22, 23], [0, 1, 2, 3, 4, 5, 6, 7, 8, 9, 10, 11, 12, 13, 14, 15, 16, 17, 18, 19, 20, 21, 22, 23], [0, 1, 2, 3, 4, 5, 6, 7, 8, 9, 10, 11, 12, 13, 14, 15, 16, 17, 18, 19, 20, 21, 22, 23, 25, 26], [0, 1, 2, 3, 4, 5, 6, 7, 8, 9, 10, 11, 12, 13, 14, 15, 16, 17, 18, 19, 20, 21, 22, 23, 25, 26, 27], [0, 1, 2, 3, 4, 5, 6, 7, 8, 9, 10, 11, 12, 13, 14, 15, 16, 17, 18, 19, 20, 21, 22, 23, 25, 26, 27, 28], [0, 1, 2, 3, 4, 5, 6, 7, 8, 9, 10, 11, 12, 13, 14, 15, 16, 17, 18, 19, 20, 21, 22, 23, 24, 25, 26, 27, 28, 29], [0, 1, 2, 3, 4, 5, 6, 7, 8, 9, 10, 11, 12, 13, 14, 15, 16, 17, 18, 19, 20, 21, 22, 23, 24, 25, 26, 27, 28, 29, 30]] h (by kernel_rfl) (by kernel_rfl) (by kernel_rfl) ?_
            refine w_load_row 0 h s row26 rfl rfl (mbArr_size _) rfl ?_; intro f h
            refine w_pure h (ru_move (h.ev rfl)) rfl ?_; intro f h
            refine w_pure h (ru_move (h.ev rfl)) rfl ?_; intro f h
            refine w_pure h (ru_ixz (RdZ.of_own (s.getSl 1 rfl)) (q9) Try.underlying22 szo26 (h.ev rfl) (h.ev rfl) (rfl) (by omega)) rfl ?_; intro f h
            refine w_load_at ((RdZ.of_own (s.getSl 1 rfl)).el (q9) (by omega) (by decide) (D := mbArr (idlG r (r.getD i9 zMb) q9)) ((mb_elD _ _ (by omega)).trans (by rw [fst_get _ hq16]))) h row26 rfl (mbArr_size _) rfl ?_; intro f h
            refine w_pure h (ru_val (.bool true) (ru_neqW (eqM _ _) (by kernel_rfl) (by decide) (h.ev rfl) (h.ev rfl) (decide ((r.getD k zMb) = (idlG r (r.getD i9 zMb) q9))) (mbEq _ _)) (congrArg Value.bool p0)) rfl ?_; intro f h
            refine w_pure h (ru_move (h.ev rfl)) rfl ?_; intro f h
            refine w_on h rfl rfl rfl ?_
            refine w_pure h (ru_field fld26_1 (h.ev rfl)) rfl ?_; intro f h
            refine w_on h rfl rfl rfl ?_
            refine w_load_at (Has.subL (Has.of_own s 0 rfl) 1 32 (D := idArr (_)) (mbArr_id _)) h row24 rfl (by first | exact idArr_size _ | exact bytesF_size _ _) rfl ?_; intro f h
            refine w_on h rfl rfl rfl ?_
            refine w_load_row 3 h s row24 rfl rfl (by first | exact idArr_size _ | exact bytesF_size _ _) rfl ?_; intro f h
            refine w_on h rfl rfl rfl ?_
            refine w_pure h (ru_val (.bool false) (ru_neq_id idTy (h.ev rfl) (h.ev rfl)) (congrArg Value.bool p1)) rfl ?_; intro f h
            refine w_pure h (ru_pick_t (h.ev rfl) (h.ev rfl)) rfl ?_; intro f h
            refine w_pure h (ru_move (h.ev rfl)) rfl ?_; intro f h
            refine w_off (b := true) h rfl rfl rfl rfl ?_; intro f h
            refine w_off (b := true) h rfl rfl rfl rfl ?_; intro f h
            refine w_off (b := true) h rfl rfl rfl rfl ?_; intro f h
            refine w_off (b := true) h rfl rfl rfl rfl ?_; intro f h
            refine w_off (b := true) h rfl rfl rfl rfl ?_; intro f h
            refine w_off (b := true) h rfl rfl rfl rfl ?_; intro f h
            refine w_off (b := true) h rfl rfl rfl rfl ?_; intro f h
            refine w_off (b := true) h rfl rfl rfl rfl ?_; intro f h
            refine w_off (b := true) h rfl rfl rfl rfl ?_; intro f h
            refine w_pure h (ru_pick_f (h.ev rfl) (h.ev rfl)) rfl ?_; intro f h
            refine w_pure h (ru_move (h.ev rfl)) rfl ?_; intro f h
            refine w_off (b := true) h rfl rfl rfl rfl ?_; intro f h
            refine w_off (b := true) h rfl rfl rfl rfl ?_; intro f h
            refine w_off (b := true) h rfl rfl rfl rfl ?_; intro f h
            refine w_off (b := true) h rfl rfl rfl rfl ?_; intro f h
            refine w_off (b := true) h rfl rfl rfl rfl ?_; intro f h
            refine w_off (b := true) h rfl rfl rfl rfl ?_; intro f h
            refine w_off (b := true) h rfl rfl rfl rfl ?_; intro f h
            refine w_pure h (ru_pick_f (h.ev rfl) (h.ev rfl)) rfl ?_; intro f h
            refine w_nil s fun w1 s => ?_
            refine s_nil ?_
            refine hK18 _ _ ?_
            refine wpIn_cond_false (h.ev rfl) ?_
            refine wpIn_skip ?_
            refine b_norm ?_
            refine hK16 _ _ ?_
            refine c_region ?_
            refine s_pure h (ru_add (h.ev rfl) (h.ev rfl) (by omega)) rfl ?_; intro f h
            refine s_pure h (ru_move (h.ev rfl)) rfl ?_; intro f h
            refine s_nil ?_
            refine t_norm ?_
            exact ⟨_, by omega, ⟨k + 1, h.only ⟨rfl, rfl, rfl, rfl, rfl, rfl, rfl, rfl, rfl, slot_int rfl (by omega), trivial⟩, St.as (s.pick _ (List.sublist_append_right [_] _)) ⟨rfl, rfl, rfl, trivial⟩, rfl, by omega⟩⟩
          · skip
            cases p2 : (inB (r.getD k zMb).2 ((r.getD i9 zMb).2 + powI (240 + q9)) (idlG r (r.getD i9 zMb) q9).2 : Bool)
            · skip
              refine c_walkN 32 [[], [], [], [1, 2], [1, 2, 3], [0, 1, 2, 3, 4], [0, 1, 2, 3, 4, 5], [0, 1, 2, 3, 4, 5, 6], [0, 1, 2, 3, 4, 5, 6, 7], [0, 1, 2, 3, 4, 5, 6], [0, 1, 2, 3, 4, 5, 6, 7, 8, 9], [0, 1, 2, 3, 4, 5, 6, 7, 8, 9, 10], [0, 1, 2, 3, 4, 5, 6, 7, 8, 9, 10, 11], [0, 1, 2, 3, 4, 5, 6, 7, 8, 9, 10, 11, 12], [0, 1, 2, 3, 4, 5, 6, 7, 8, 9, 10, 11, 12, 13], [0, 1, 2, 3, 4, 5, 6, 7, 8, 9, 10, 11, 12], [0, 1, 2, 3, 4, 5, 6, 7, 8, 9, 10, 11, 12], [0, 1, 2, 3, 4, 5, 6, 7, 8, 9, 10, 11, 12], [0, 1, 2, 3, 4, 5, 6, 7, 8, 9, 10, 11, 12, 16, 17], [0, 1, 2, 3, 4, 5, 6, 7, 8, 9, 10, 11, 12, 16, 17, 18], [0, 1, 2, 3, 4, 5, 6, 7, 8, 9, 10, 11, 12, 16, 17, 18, 19], [0, 1, 2, 3, 4, 5, 6, 7, 8, 9, 10, 11, 12, 13, 14, 15, 16, 17, 18, 19, 20], [0, 1, 2, 3, 4, 5, 6, 7, 8, 9, 10, 11, 12, 13, 14, 15, 16, 17, 18, 19, 20, 21], [0, 1, 2, 3, 4, 5, 6, 7, 8, 9, 10, 11, 12, 13, 14, 15, 16, 17, 18, 19, 20, 21, 22], [0, 1, 2, 3, 4, 5, 6, 7, 8, 9, 10, 11, 12, 13, 14, 15, 16, 17, 18, 19, 20, 21, 22, 23], [0, 1, 2, 3, 4, 5, 6, 7, 8, 9, 10, 11, 12, 13, 14, 15, 16, 17, 18, 19, 20, 21, 22, 23], [0, 1, 2, 3, 4, 5, 6, 7, 8, 9, 10, 11, 12, 13, 14, 15, 16, 17, 18, 19, 20, 21, 22, 23], [0, 1, 2, 3, 4, 5, 6, 7, 8, 9, 10, 11, 12, 13, 14, 15, 16, 17, 18, 19, 20, 21, 22, 23, 25, 26], [0, 1, 2, 3, 4, 5, 6, 7, 8, 9, 10, 11, 12, 13, 14, 15, 16, 17, 18, 19, 20, 21, 22, 23, 25, 26, 27], [0, 1, 2, 3, 4, 5, 6, 7, 8, 9, 10, 11, 12, 13, 14, 15, 16, 17, 18, 19, 20, 21, 22, 23, 25, 26, 27, 28], [0, 1, 2, 3, 4, 5, 6, 7, 8, 9, 10, 11, 12, 13, 14, 15, 16, 17, 18, 19, 20, 21, 22, 23, 24, 25, 26, 27, 28, 29], [0, 1, 2, 3, 4, 5, 6, 7, 8, 9, 10, 11, 12, 13, 14, 15, 16, 17, 18, 19, 20, 21, 22, 23, 24, 25, 26, 27, 28, 29, 30]] h (by kernel_rfl) (by kernel_rfl) (by kernel_rfl) ?_
              refine w_load_row 0 h s row26 rfl rfl (mbArr_size _) rfl ?_; intro f h
              refine w_pure h (ru_move (h.ev rfl)) rfl ?_; intro f h
              refine w_pure h (ru_move (h.ev rfl)) rfl ?_; intro f h
              refine w_pure h (ru_ixz (RdZ.of_own (s.getSl 1 rfl)) (q9) Try.underlying22 szo26 (h.ev rfl) (h.ev rfl) (rfl) (by omega)) rfl ?_; intro f h
              refine w_load_at ((RdZ.of_own (s.getSl 1 rfl)).el (q9) (by omega) (by decide) (D := mbArr (idlG r (r.getD i9 zMb) q9)) ((mb_elD _ _ (by omega)).trans (by rw [fst_get _ hq16]))) h row26 rfl (mbArr_size _) rfl ?_; intro f h
              refine w_pure h (ru_val (.bool true) (ru_neqW (eqM _ _) (by kernel_rfl) (by decide) (h.ev rfl) (h.ev rfl) (decide ((r.getD k zMb) = (idlG r (r.getD i9 zMb) q9))) (mbEq _ _)) (congrArg Value.bool p0)) rfl ?_; intro f h
              refine w_pure h (ru_move (h.ev rfl)) rfl ?_; intro f h
              refine w_on h rfl rfl rfl ?_
              refine w_pure h (ru_field fld26_1 (h.ev rfl)) rfl ?_; intro f h
              refine w_on h rfl rfl rfl ?_
              refine w_load_at (Has.subL (Has.of_own s 0 rfl) 1 32 (D := idArr (_)) (mbArr_id _)) h row24 rfl (by first | exact idArr_size _ | exact bytesF_size _ _) rfl ?_; intro f h
              refine w_on h rfl rfl rfl ?_
              refine w_load_row 3 h s row24 rfl rfl (by first | exact idArr_size _ | exact bytesF_size _ _) rfl ?_; intro f h
              refine w_on h rfl rfl rfl ?_
              refine w_pure h (ru_val (.bool true) (ru_neq_id idTy (h.ev rfl) (h.ev rfl)) (congrArg Value.bool p1)) rfl ?_; intro f h
              refine w_pure h (ru_pick_t (h.ev rfl) (h.ev rfl)) rfl ?_; intro f h
              refine w_pure h (ru_move (h.ev rfl)) rfl ?_; intro f h
              refine w_on h rfl rfl rfl ?_
              refine w_pure h (ru_field fld26_1 (h.ev rfl)) rfl ?_; intro f h
              refine w_on h rfl rfl rfl ?_
              refine w_load_at (Has.subL (Has.of_own s 0 rfl) 1 32 (D := idArr (_)) (mbArr_id _)) h row24 rfl (by first | exact idArr_size _ | exact bytesF_size _ _) rfl ?_; intro f h
              refine w_on h rfl rfl rfl ?_
              refine w_load_row 3 h s row24 rfl rfl (by first | exact idArr_size _ | exact bytesF_size _ _) rfl ?_; intro f h
              refine w_on h rfl rfl rfl ?_
              refine w_pure h (ru_move (h.ev rfl)) rfl ?_; intro f h
              refine w_on h rfl rfl rfl ?_
              refine w_pure h (ru_move (h.ev rfl)) rfl ?_; intro f h
              refine w_on h rfl rfl rfl ?_
              refine w_pure h (ru_ixz (RdZ.of_own (s.getSl 1 rfl)) (q9) Try.underlying22 szo26 (h.ev rfl) (h.ev rfl) (rfl) (by omega)) rfl ?_; intro f h
              refine w_on h rfl rfl rfl ?_
              refine w_pure h (ru_fieldE fld26_1 (h.ev rfl) ((RdZ.of_own (s.getSl 1 rfl)).some (by omega))) rfl ?_; intro f h
              refine w_on h rfl rfl rfl ?_
              refine w_load_at (RdZ.elF (RdZ.of_own (s.getSl 1 rfl)) (q9) 1 32 (by omega) (by decide) (C := mbArr (idlG r (r.getD i9 zMb) q9)) ((mb_elD _ _ (by omega)).trans (by rw [fst_get _ hq16])) (D := idArr (idlG r (r.getD i9 zMb) q9).2) (mbArr_id _)) h row24 rfl (by first | exact idArr_size _ | exact bytesF_size _ _) rfl ?_; intro f h
              refine w_on h rfl rfl rfl ?_
              refine w_call h fnc20 (fun w9 hE9 => ret_val (.bool false) (in_any _ _ _ w9) (congrArg Value.bool p2)) rfl rfl ?_; intro f h
              refine w_pure h (ru_pick_t (h.ev rfl) (h.ev rfl)) rfl ?_; intro f h
              refine w_pure h (ru_move (h.ev rfl)) rfl ?_; intro f h
              refine w_off (b := true) h rfl rfl rfl rfl ?_; intro f h
              refine w_off (b := true) h rfl rfl rfl rfl ?_; intro f h
              refine w_off (b := true) h rfl rfl rfl rfl ?_; intro f h
              refine w_off (b := true) h rfl rfl rfl rfl ?_; intro f h
              refine w_off (b := true) h rfl rfl rfl rfl ?_; intro f h
              refine w_off (b := true) h rfl rfl rfl rfl ?_; intro f h
              refine w_off (b := true) h rfl rfl rfl rfl ?_; intro f h
              refine w_pure h (ru_pick_f (h.ev rfl) (h.ev rfl)) rfl ?_; intro f h
              refine w_nil s fun w1 s => ?_
              refine s_nil ?_
              refine hK18 _ _ ?_
              refine wpIn_cond_false (h.ev rfl) ?_
              refine wpIn_skip ?_
              refine b_norm ?_
              refine hK16 _ _ ?_
              refine c_region ?_
              refine s_pure h (ru_add (h.ev rfl) (h.ev rfl) (by omega)) rfl ?_; intro f h
              refine s_pure h (ru_move (h.ev rfl)) rfl ?_; intro f h
              refine s_nil ?_
              refine t_norm ?_
              exact ⟨_, by omega, ⟨k + 1, h.only ⟨rfl, rfl, rfl, rfl, rfl, rfl, rfl, rfl, rfl, slot_int rfl (by omega), trivial⟩, St.as (s.pick _ (List.sublist_append_right [_] _)) ⟨rfl, rfl, rfl, trivial⟩, rfl, by omega⟩⟩
            · skip
              refine c_walkN 32 [[], [], [], [1, 2], [1, 2, 3], [0, 1, 2, 3, 4], [0, 1, 2, 3, 4, 5], [0, 1, 2, 3, 4, 5, 6], [0, 1, 2, 3, 4, 5, 6, 7], [0, 1, 2, 3, 4, 5, 6], [0, 1, 2, 3, 4, 5, 6, 7, 8, 9], [0, 1, 2, 3, 4, 5, 6, 7, 8, 9, 10], [0, 1, 2, 3, 4, 5, 6, 7, 8, 9, 10, 11], [0, 1, 2, 3, 4, 5, 6, 7, 8, 9, 10, 11, 12], [0, 1, 2, 3, 4, 5, 6, 7, 8, 9, 10, 11, 12, 13], [0, 1, 2, 3, 4, 5, 6, 7, 8, 9, 10, 11, 12], [0, 1, 2, 3, 4, 5, 6, 7, 8, 9, 10, 11, 12], [0, 1, 2, 3, 4, 5, 6, 7, 8, 9, 10, 11, 12], [0, 1, 2, 3, 4, 5, 6, 7, 8, 9, 10, 11, 12, 16, 17], [0, 1, 2, 3, 4, 5, 6, 7, 8, 9, 10, 11, 12, 16, 17, 18], [0, 1, 2, 3, 4, 5, 6, 7, 8, 9, 10, 11, 12, 16, 17, 18, 19], [0, 1, 2, 3, 4, 5, 6, 7, 8, 9, 10, 11, 12, 13, 14, 15, 16, 17, 18, 19, 20], [0, 1, 2, 3, 4, 5, 6, 7, 8, 9, 10, 11, 12, 13, 14, 15, 16, 17, 18, 19, 20, 21], [0, 1, 2, 3, 4, 5, 6, 7, 8, 9, 10, 11, 12, 13, 14, 15, 16, 17, 18, 19, 20, 21, 22], [0, 1, 2, 3, 4, 5, 6, 7, 8, 9, 10, 11, 12, 13, 14, 15, 16, 17, 18, 19, 20, 21, 22, 23], [0, 1, 2, 3, 4, 5, 6, 7, 8, 9, 10, 11, 12, 13, 14, 15, 16, 17, 18, 19, 20, 21, 22, 23], [0, 1, 2, 3, 4, 5, 6, 7, 8, 9, 10, 11, 12, 13, 14, 15, 16, 17, 18, 19, 20, 21, 22, 23], [0, 1, 2, 3, 4, 5, 6, 7, 8, 9, 10, 11, 12, 13, 14, 15, 16, 17, 18, 19, 20, 21, 22, 23, 25, 26], [0, 1, 2, 3, 4, 5, 6, 7, 8, 9, 10, 11, 12, 13, 14, 15, 16, 17, 18, 19, 20, 21, 22, 23, 25, 26, 27], [0, 1, 2, 3, 4, 5, 6, 7, 8, 9, 10, 11, 12, 13, 14, 15, 16, 17, 18, 19, 20, 21, 22, 23, 25, 26, 27, 28], [0, 1, 2, 3, 4, 5, 6, 7, 8, 9, 10, 11, 12, 13, 14, 15, 16, 17, 18, 19, 20, 21, 22, 23, 24, 25, 26, 27, 28, 29], [0, 1, 2, 3, 4, 5, 6, 7, 8, 9, 10, 11, 12, 13, 14, 15, 16, 17, 18, 19, 20, 21, 22, 23, 24, 25, 26, 27, 28, 29, 30]] h (by kernel_rfl) (by kernel_rfl) (by kernel_rfl) ?_
              refine w_load_row 0 h s row26 rfl rfl (mbArr_size _) rfl ?_; intro f h
              refine w_pure h (ru_move (h.ev rfl)) rfl ?_; intro f h
              refine w_pure h (ru_move (h.ev rfl)) rfl ?_; intro f h
              refine w_pure h (ru_ixz (RdZ.of_own (s.getSl 1 rfl)) (q9) Try.underlying22 szo26 (h.ev rfl) (h.ev rfl) (rfl) (by omega)) rfl ?_; intro f h
              refine w_load_at ((RdZ.of_own (s.getSl 1 rfl)).el (q9) (by omega) (by decide) (D := mbArr (idlG r (r.getD i9 zMb) q9)) ((mb_elD _ _ (by omega)).trans (by rw [fst_get _ hq16]))) h row26 rfl (mbArr_size _) rfl ?_; intro f h
              refine w_pure h (ru_val (.bool true) (ru_neqW (eqM _ _) (by kernel_rfl) (by decide) (h.ev rfl) (h.ev rfl) (decide ((r.getD k zMb) = (idlG r (r.getD i9 zMb) q9))) (mbEq _ _)) (congrArg Value.bool p0)) rfl ?_; intro f h
              refine w_pure h (ru_move (h.ev rfl)) rfl ?_; intro f h
              refine w_on h rfl rfl rfl ?_
              refine w_pure h (ru_field fld26_1 (h.ev rfl)) rfl ?_; intro f h
              refine w_on h rfl rfl rfl ?_
              refine w_load_at (Has.subL (Has.of_own s 0 rfl) 1 32 (D := idArr (_)) (mbArr_id _)) h row24 rfl (by first | exact idArr_size _ | exact bytesF_size _ _) rfl ?_; intro f h
              refine w_on h rfl rfl rfl ?_
              refine w_load_row 3 h s row24 rfl rfl (by first | exact idArr_size _ | exact bytesF_size _ _) rfl ?_; intro f h
              refine w_on h rfl rfl rfl ?_
              refine w_pure h (ru_val (.bool true) (ru_neq_id idTy (h.ev rfl) (h.ev rfl)) (congrArg Value.bool p1)) rfl ?_; intro f h
              refine w_pure h (ru_pick_t (h.ev rfl) (h.ev rfl)) rfl ?_; intro f h
              refine w_pure h (ru_move (h.ev rfl)) rfl ?_; intro f h
              refine w_on h rfl rfl rfl ?_
              refine w_pure h (ru_field fld26_1 (h.ev rfl)) rfl ?_; intro f h
              refine w_on h rfl rfl rfl ?_
              refine w_load_at (Has.subL (Has.of_own s 0 rfl) 1 32 (D := idArr (_)) (mbArr_id _)) h row24 rfl (by first | exact idArr_size _ | exact bytesF_size _ _) rfl ?_; intro f h
              refine w_on h rfl rfl rfl ?_
              refine w_load_row 3 h s row24 rfl rfl (by first | exact idArr_size _ | exact bytesF_size _ _) rfl ?_; intro f h
              refine w_on h rfl rfl rfl ?_
              refine w_pure h (ru_move (h.ev rfl)) rfl ?_; intro f h
              refine w_on h rfl rfl rfl ?_
              refine w_pure h (ru_move (h.ev rfl)) rfl ?_; intro f h
              refine w_on h rfl rfl rfl ?_
              refine w_pure h (ru_ixz (RdZ.of_own (s.getSl 1 rfl)) (q9) Try.underlying22 szo26 (h.ev rfl) (h.ev rfl) (rfl) (by omega)) rfl ?_; intro f h
              refine w_on h rfl rfl rfl ?_
              refine w_pure h (ru_fieldE fld26_1 (h.ev rfl) ((RdZ.of_own (s.getSl 1 rfl)).some (by omega))) rfl ?_; intro f h
              refine w_on h rfl rfl rfl ?_
              refine w_load_at (RdZ.elF (RdZ.of_own (s.getSl 1 rfl)) (q9) 1 32 (by omega) (by decide) (C := mbArr (idlG r (r.getD i9 zMb) q9)) ((mb_elD _ _ (by omega)).trans (by rw [fst_get _ hq16])) (D := idArr (idlG r (r.getD i9 zMb) q9).2) (mbArr_id _)) h row24 rfl (by first | exact idArr_size _ | exact bytesF_size _ _) rfl ?_; intro f h
              refine w_on h rfl rfl rfl ?_
              refine w_call h fnc20 (fun w9 hE9 => ret_val (.bool true) (in_any _ _ _ w9) (congrArg Value.bool p2)) rfl rfl ?_; intro f h
              refine w_pure h (ru_pick_t (h.ev rfl) (h.ev rfl)) rfl ?_; intro f h
              refine w_pure h (ru_move (h.ev rfl)) rfl ?_; intro f h
              refine w_on h rfl rfl rfl ?_
              refine w_load_row 3 h s row24 rfl rfl (by first | exact idArr_size _ | exact bytesF_size _ _) rfl ?_; intro f h
              refine w_on h rfl rfl rfl ?_
              refine w_pure h (ru_move (h.ev rfl)) rfl ?_; intro f h
              refine w_on h rfl rfl rfl ?_
              refine w_pure h (ru_move (h.ev rfl)) rfl ?_; intro f h
              refine w_on h rfl rfl rfl ?_
              refine w_pure h (ru_ixz (RdZ.of_own (s.getSl 1 rfl)) (q9) Try.underlying22 szo26 (h.ev rfl) (h.ev rfl) (rfl) (by omega)) rfl ?_; intro f h
              refine w_on h rfl rfl rfl ?_
              refine w_pure h (ru_fieldE fld26_1 (h.ev rfl) ((RdZ.of_own (s.getSl 1 rfl)).some (by omega))) rfl ?_; intro f h
              refine w_on h rfl rfl rfl ?_
              refine w_load_at (RdZ.elF (RdZ.of_own (s.getSl 1 rfl)) (q9) 1 32 (by omega) (by decide) (C := mbArr (idlG r (r.getD i9 zMb) q9)) ((mb_elD _ _ (by omega)).trans (by rw [fst_get _ hq16])) (D := idArr (idlG r (r.getD i9 zMb) q9).2) (mbArr_id _)) h row24 rfl (by first | exact idArr_size _ | exact bytesF_size _ _) rfl ?_; intro f h
              refine w_on h rfl rfl rfl ?_
              refine w_pure h (ru_val (.bool false) (ru_neq_id idTy (h.ev rfl) (h.ev rfl)) (congrArg Value.bool (decide_eq_false (not_not_intro (goal_btw hg ((r.getD i9 zMb).2 + powI (240 + q9)) (mb_mem hkl) (fun e9 => by rw [decide_eq_true (show (r.getD k zMb) = (idlG r (r.getD i9 zMb) q9) from e9)] at p0; cases p0) (of_decide_eq_true p1) p2))))) rfl ?_; intro f h
              refine w_pure h (ru_pick_t (h.ev rfl) (h.ev rfl)) rfl ?_; intro f h
              refine w_nil s fun w1 s => ?_
              refine s_nil ?_
              refine hK18 _ _ ?_
              refine wpIn_cond_false (h.ev rfl) ?_
              refine wpIn_skip ?_
              refine b_norm ?_
              refine hK16 _ _ ?_
              refine c_region ?_
              refine s_pure h (ru_add (h.ev rfl) (h.ev rfl) (by omega)) rfl ?_; intro f h
              refine s_pure h (ru_move (h.ev rfl)) rfl ?_; intro f h
              refine s_nil ?_
              refine t_norm ?_
              exact ⟨_, by omega, ⟨k + 1, h.only ⟨rfl, rfl, rfl, rfl, rfl, rfl, rfl, rfl, rfl, slot_int rfl (by omega), trivial⟩, St.as (s.pick _ (List.sublist_append_right [_] _)) ⟨rfl, rfl, rfl, trivial⟩, rfl, by omega⟩⟩
      · replace hc := of_decide_eq_false hc
        refine wpIn_exit ?_
        refine t_exit ?_
        refine t_exit ?_
        refine b_exit ?_
        refine hK12 _ _ ?_
        refine c_seq fun K19 hK19 => ?_
        refine c_region ?_
        refine s_pure h (ru_move (h.ev rfl)) rfl ?_; intro f h
        refine s_load_row 2 h s row24 rfl rfl (by first | exact idArr_size _ | exact bytesF_size _ _) rfl ?_; intro f h
        refine s_call h s fnc25 (owner_any r (cutV vh (min l.length 18)) ((r.getD i9 zMb).2 + powI (240 + q9)) _ (hlv.keep s.ext) hln) rfl rfl ?_; intro f w1 v9 hT hE h s; obtain rfl := hT
        refine s_pure h (ru_move (h.ev rfl)) rfl ?_; intro f h
        refine s_pure h (ru_extract (h.ev rfl) rfl) rfl ?_; intro f h
        refine s_pure h (ru_extract (h.ev rfl) rfl) rfl ?_; intro f h
        refine s_alloc (mbArr zMb) h s zero26 rfl rfl ?_; intro f w1 b15 h s
        refine s_store_row 0 h s row26 rfl rfl rfl (mbArr_size _) (mbArr_size _) (mbArr_ones _) ?_; intro w1 s
        refine s_pure h (ru_assign (h.ev rfl)) rfl ?_; intro f h
        refine s_nil ?_
        refine hK19 _ _ ?_
        refine c_seq fun K20 hK20 => ?_
        refine c_walkN 11 [[], [0], [0, 1], [0, 1, 2], [0, 1, 2], [0, 1, 2], [0, 1, 2, 4, 5], [0, 1, 2, 4, 5, 6], [0, 1, 2, 3, 4, 5, 6, 7], [0, 1, 2, 3, 4, 5, 6, 7, 8], [0, 1, 2, 3, 4, 5, 6, 7, 8, 9]] h (by kernel_rfl) (by kernel_rfl) (by kernel_rfl) ?_
        refine w_pure h (ru_move (h.ev rfl)) rfl ?_; intro f h
        refine w_pure h (ru_val (.bool true) (ru_eql (h.ev rfl) (h.ev rfl)) (congrArg Value.bool (decide_eq_true ((own_ok ((r.getD i9 zMb).2 + powI (240 + q9)) hr h0).1)))) rfl ?_; intro f h
        refine w_pure h (ru_move (h.ev rfl)) rfl ?_; intro f h
        refine w_on h rfl rfl rfl ?_
        refine w_load_row 0 h s row26 rfl rfl (mbArr_size _) rfl ?_; intro f h
        refine w_on h rfl rfl rfl ?_
        refine w_pure h (ru_move (h.ev rfl)) rfl ?_; intro f h
        refine w_on h rfl rfl rfl ?_
        refine w_pure h (ru_move (h.ev rfl)) rfl ?_; intro f h
        refine w_on h rfl rfl rfl ?_
        refine w_pure h (ru_ixz (RdZ.of_own (s.getSl 1 rfl)) (q9) Try.underlying22 szo26 (h.ev rfl) (h.ev rfl) (rfl) (by omega)) rfl ?_; intro f h
        refine w_on h rfl rfl rfl ?_
        refine w_load_at ((RdZ.of_own (s.getSl 1 rfl)).el (q9) (by omega) (by decide) (D := mbArr (idlG r (r.getD i9 zMb) q9)) ((mb_elD _ _ (by omega)).trans (by rw [fst_get _ hq16]))) h row26 rfl (mbArr_size _) rfl ?_; intro f h
        refine w_on h rfl rfl rfl ?_
        refine w_pure h (ru_val (.bool true) (ru_eqlW (eqM _ _) (by kernel_rfl) (by decide) (h.ev rfl) (h.ev rfl) (decide (ownM r ((r.getD i9 zMb).2 + powI (240 + q9)) = (idlG r (r.getD i9 zMb) q9))) (mbEq _ _)) (congrArg Value.bool (decide_eq_true ((own_ok ((r.getD i9 zMb).2 + powI (240 + q9)) hr h0).2)))) rfl ?_; intro f h
        refine w_pure h (ru_pick_t (h.ev rfl) (h.ev rfl)) rfl ?_; intro f h
        refine w_pure h (ru_assign (h.ev rfl)) rfl ?_; intro f h
        refine w_nil s fun w1 s => ?_
        refine s_nil ?_
        refine hK20 _ _ ?_
        refine wpIn_ret ?_
        exact e_tmp rfl h s rfl (rfl)
    · skip
      refine c_region ?_
      refine s_pure h (ru_move (h.ev rfl)) rfl ?_; intro f h
      refine s_call h s fnc23 (ret_val (.bool true) (right_any r (cutV vh (min l.length 18)) _ (hlv.keep s.ext) hln) (congrArg Value.bool hr)) rfl rfl ?_; intro f w1 v9 hT hE h s; obtain rfl := hT
      refine s_pure h (ru_val (.bool false) (ru_not (h.ev rfl)) rfl) rfl ?_; intro f h
      refine s_pure h (ru_move (h.ev rfl)) rfl ?_; intro f h
      refine s_on h rfl rfl rfl ?_
      refine s_pure h (ru_move (h.ev rfl)) rfl ?_; intro f h
      refine s_on h rfl rfl rfl ?_
      refine s_pure h (ru_lenZ (hlv.keep s.ext) Try.underlying22 (h.ev rfl)) rfl ?_; intro f h
      refine s_on h rfl rfl rfl ?_
      refine s_pure h (ru_val (.bool true) (ru_eql (h.ev rfl) (h.ev rfl)) (congrArg Value.bool (decide_eq_true (by have := of_decide_eq_true hz; omega)))) rfl ?_; intro f h
      refine s_pure h (ru_pick_f (h.ev rfl) (h.ev rfl)) rfl ?_; intro f h
      refine s_nil ?_
      refine hK4 _ _ ?_
      refine wpIn_cond_true (h.ev rfl) ?_
      refine c_seq fun K21 hK21 => ?_
      refine c_region ?_
      refine s_call h s fnc13 (alive_any _) rfl rfl ?_; intro f w1 v9 hT hE h s; obtain rfl := hT
      refine s_pure h (ru_assign (h.ev rfl)) rfl ?_; intro f h
      refine s_nil ?_
      refine hK21 _ _ ?_
      refine wpIn_ret ?_
      refine t_ret ?_
      exact e_tmp rfl h s rfl (rfl)
end Go.Proofs.Ytbjgpimabgcipaa
