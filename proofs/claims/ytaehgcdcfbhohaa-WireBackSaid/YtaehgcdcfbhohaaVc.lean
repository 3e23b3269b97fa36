/- The bytes of a message: package wire. -/
import Derived.Test.YtaehgcdcfbhohaaVb
set_option linter.unusedVariables false
set_option linter.unusedSimpArgs false
set_option linter.unusedSectionVars false
namespace Go.Proofs.Ytaehgcdcfbhohaa
open Go.RowKit
theorem etext_any (l : List Ent) (hln : l.length ≤ 1000000) (vh : Value) (w : World) (hv : RdZ w vh 34 l.length (eCells l)) : Calls Try.prog 18 [vh].toArray w (Ret w (is (.string (textW l)))) := by
  refine c_enter Try.func18 rfl Try.ntmps18 rfl [(0, vh)] (by simp) fun f h => ?_
  have s := St.start w
  refine c_seq fun K1 hK1 => ?_
  refine c_region ?_
  refine s_pure h (ru_assign (h.ev rfl)) rfl ?_; intro f h
  refine s_nil ?_
  refine hK1 _ _ ?_
  refine c_seq fun K2 hK2 => ?_
  refine c_region ?_
  refine s_pure h (ru_move (h.ev rfl)) rfl ?_; intro f h
  refine s_call h s fnc40 (text_any l hln _ _ (hv.keep s.ext)) rfl rfl ?_; intro f w1 v9 hT hE h s; obtain rfl := hT
  refine s_pure h (ru_move (h.ev rfl)) rfl ?_; intro f h
  refine s_pure h (ru_extract (h.ev rfl) rfl) rfl ?_; intro f h
  refine s_pure h (ru_extract (h.ev rfl) rfl) rfl ?_; intro f h
  refine s_pure h (ru_assign (h.ev rfl)) rfl ?_; intro f h
  refine s_pure h (ru_assign (h.ev rfl)) rfl ?_; intro f h
  refine s_nil ?_
  refine hK2 _ _ ?_
  refine c_seq fun K3 hK3 => ?_
  refine c_region ?_
  refine s_pure h (ru_move (h.ev rfl)) rfl ?_; intro f h
  refine s_pure h (ru_assign (h.ev rfl)) rfl ?_; intro f h
  refine s_nil ?_
  refine hK3 _ _ ?_
  refine wpIn_ret ?_
  exact e_tmp rfl h s rfl (rfl)

theorem number_any (n : Int) (h0 : 0 ≤ n) (hn9 : n ≤ 1099511627776) (w : World) : Calls Try.prog 19 [.int .i64 n].toArray w (Ret w (is (.string (bstr (numL n))))) := by
  refine c_enter Try.func19 rfl Try.ntmps19 rfl [(0, .int .i64 n)] (by simp) fun f h => ?_
  have s := St.start w
  refine c_seq fun K1 hK1 => ?_
  refine c_region ?_
  refine s_pure h (ru_assign (h.ev rfl)) rfl ?_; intro f h
  refine s_nil ?_
  refine hK1 _ _ ?_
  refine c_seq fun K2 hK2 => ?_
  refine c_region ?_
  refine s_alloc (bytesF (fun _ => 0) 8) h s zero69 rfl rfl ?_; intro f w1 b3 h s
  refine s_nil ?_
  refine hK2 _ _ ?_
  refine c_seq fun K3 hK3 => ?_
  refine c_seq fun K4 hK4 => ?_
  refine c_region ?_
  refine s_pure h (ru_move (h.ev rfl)) rfl ?_; intro f h
  refine s_nil ?_
  refine hK4 _ _ ?_
  refine wpIn_block ?_
  refine wpIn_loop_ghost (fun nn aa ww => ∃ k : Nat, Sl 18 aa [(0, .int .i64 n), (3, .pointer (some ⟨b3, 0, none⟩)), (5, .int .i64 (k : Int))] ∧ St w [.blk b3 (.cells (bytesF (numF n k) 8) 69)] ww ∧ nn = 8 - k ∧ k ≤ 8) (8 - (0)) ⟨0, h.only ⟨rfl, rfl, slot_int rfl (by omega), trivial⟩, s.as ⟨cells_eq (numF_zero n), trivial⟩, rfl, Nat.zero_le _⟩ ?_
  rintro _ f w1 ⟨k, h, s, hnn, hp0⟩
  refine c_seq fun K5 hK5 => ?_
  refine c_region ?_
  refine s_pure h (ru_lss (h.ev rfl) (h.ev rfl)) rfl ?_; intro f h
  refine s_nil ?_
  refine hK5 _ _ ?_
  refine c_seq fun K6 hK6 => ?_
  refine c_cond h rfl (fun hc => ?_) (fun hc => ?_)
  · replace hc := of_decide_eq_true hc
    refine wpIn_skip ?_
    refine hK6 _ _ ?_
    refine c_seq fun K7 hK7 => ?_
    refine wpIn_block ?_
    refine c_seq fun K8 hK8 => ?_
    refine c_region ?_
    refine s_pure h (ru_move (h.ev rfl)) rfl ?_; intro f h
    refine s_pure h (ru_assign (h.ev rfl)) rfl ?_; intro f h
    refine s_nil ?_
    refine hK8 _ _ ?_
    refine c_region ?_
    refine s_pure h (ru_move (h.ev rfl)) rfl ?_; intro f h
    refine s_pure h (ru_move (h.ev rfl)) rfl ?_; intro f h
    refine s_pure h (ru_move (h.ev rfl)) rfl ?_; intro f h
    have hk8 : k < 8 := by omega
    refine s_pure h (ru_mul (h.ev rfl) (h.ev rfl) (by omega)) rfl ?_; intro f h
    refine s_pure h (ru_shr (h.ev rfl) (h.ev rfl) (by omega)) rfl ?_; intro f h
    refine s_pure h (ru_val (.int .u8 ((n.toNat / 256 ^ k % 256 : Nat) : Int)) (ru_conv_u8 Try.underlying3 Try.underlying5 (h.ev rfl)) (congrArg (Value.int .u8) (num_shr n h0 k hk8))) rfl ?_; intro f h
    refine s_pure h (ru_ix (k) Try.underlying69 size5 (h.ev rfl) (h.ev rfl) (by omega) (by omega)) rfl ?_; intro f h
    refine s_store_one 0 h s one5 rfl rfl rfl (by simp; omega) (rfl) ?_; intro w1 s
    refine s_nil ?_
    refine b_norm ?_
    refine hK7 _ _ ?_
    refine c_region ?_
    refine s_pure h (ru_add (h.ev rfl) (h.ev rfl) (by omega)) rfl ?_; intro f h
    refine s_pure h (ru_move (h.ev rfl)) rfl ?_; intro f h
    refine s_nil ?_
    refine t_norm ?_
    exact ⟨_, by omega, ⟨k + 1, h.only ⟨rfl, rfl, slot_int rfl (by omega), trivial⟩, St.as s ⟨cells_eq (numF_next n k), trivial⟩, rfl, by omega⟩⟩
  · replace hc := of_decide_eq_false hc
    refine wpIn_exit ?_
    refine t_exit ?_
    refine t_exit ?_
    refine b_exit ?_
    refine hK3 _ _ ?_
    refine c_seq fun K9 hK9 => ?_
    refine c_region ?_
    obtain rfl : k = 8 := by omega
    refine s_pure h (ru_slice_arr Try.underlying69 size5 (h.ev rfl)) rfl ?_; intro f h
    refine s_str 0 h s Try.underlying47 Try.underlying5 Try.underlying9 rfl rfl rfl ?_; intro f h
    refine s_pure h (ru_assign (h.ev rfl)) rfl ?_; intro f h
    refine s_nil ?_
    refine hK9 _ _ ?_
    refine wpIn_ret ?_
    exact e_tmp rfl h s rfl (by show _ = _; exact congrArg Value.string (numF_end n))

set_option maxHeartbeats 2000000 in
theorem wtext_ok (m : Mg) (hr : rightM m = true) (vs : Value) (w : World) (hv : RdZ w vs 34 m.l.length (eCells m.l)) (hln : m.l.length ≤ 1000000) : Calls Try.prog 8 [.agg (mArr m vs)].toArray w (Ret w (is (.tuple #[.string (textM m), .int .i64 0]))) := by
  obtain ⟨hk9, _, hc2, hc3, hc4, _, _⟩ := right_parts hr
  obtain ⟨hz4, hz3, hz2, hz1, hzo, hzd⟩ := head_len hr
  have hkk := (isK_iff _).1 hk9
  refine c_enter Try.func8 rfl Try.ntmps8 rfl [(0, .agg (mArr m vs))] (by simp) fun f h => ?_
  have s := St.start w
  refine c_seq fun K1 hK1 => ?_
  refine c_region ?_
  refine s_box ((mArr m vs)) h s rfl rfl rfl ?_; intro f w1 b1 h s
  refine s_pure h (ru_assign (h.ev rfl)) rfl ?_; intro f h
  refine s_pure h (ru_assign (h.ev rfl)) rfl ?_; intro f h
  refine s_nil ?_
  refine hK1 _ _ ?_
  refine c_seq fun K2 hK2 => ?_
  refine c_seq fun K3 hK3 => ?_
  refine c_region ?_
  refine s_load_row 0 h s row28 rfl rfl (mArr_size _ _) rfl ?_; intro f h
  refine s_call h s fnc9 (ret_val (.bool true) (wright_any m vs _ (hv.keep s.ext) hln) (congrArg Value.bool hr)) rfl rfl ?_; intro f w1 v9 hT hE h s; obtain rfl := hT
  refine s_pure h (ru_val (.bool false) (ru_not (h.ev rfl)) rfl) rfl ?_; intro f h
  refine s_nil ?_
  refine hK3 _ _ ?_
  refine wpIn_cond_false (h.ev rfl) ?_
  refine wpIn_skip ?_
  refine hK2 _ _ ?_
  refine c_seq fun K4 hK4 => ?_
  refine c_region ?_
  refine s_pure h (ru_field fld28_0 (h.ev rfl)) rfl ?_; intro f h
  refine s_load_at1 (cell_of_has (Has.of_own s 0 rfl) 0 (mArr_k _ _)) h one3 rfl rfl ?_; intro f h
  refine s_call h s fnc17 (fields_any _ _) rfl rfl ?_; intro f w1 v9 hT hE h s; obtain rfl := hT
  refine s_pure h (ru_move (h.ev rfl)) rfl ?_; intro f h
  refine s_pure h (ru_extract (h.ev rfl) rfl) rfl ?_; intro f h
  refine s_pure h (ru_extract (h.ev rfl) rfl) rfl ?_; intro f h
  refine s_alloc (fArr 0) h s zero44 rfl rfl ?_; intro f w1 b4 h s
  refine s_store_row 0 h s row44 rfl rfl rfl (rfl) (rfl) (fArr_ones _) ?_; intro w1 s
  refine s_pure h (ru_assign (h.ev rfl)) rfl ?_; intro f h
  refine s_nil ?_
  refine hK4 _ _ ?_
  refine c_seq fun K5 hK5 => ?_
  refine c_region ?_
  refine s_pure h (ru_field fld28_0 (h.ev rfl)) rfl ?_; intro f h
  refine s_load_at1 (cell_of_has (Has.of_own s 1 rfl) 0 (mArr_k _ _)) h one3 rfl rfl ?_; intro f h
  refine s_pure h (ru_val (.int .u8 ((m.k.toNat : Nat) : Int)) (ru_conv_u8 Try.underlying3 Try.underlying5 (h.ev rfl)) (congrArg (Value.int .u8) (by omega))) rfl ?_; intro f h
  refine s_bslice (vs := [.int .u8 ((m.k.toNat : Nat) : Int)]) [.tmp 18] h s Try.underlying47 elm5 rfl rfl (by simp [Value.cells]) rfl rfl rfl ?_; intro f w1 v19 h s
  have s := s.as (B' := [.sl v19 5 1 (hq0 m).length (byL (hq0 m)), .blk b4 (.cells (fArr m.k) 44), .blk b1 (.cells (mArr m vs) 28)]) ⟨sl_eq rfl (by simp [byL, hq0, Value.cells]), rfl, rfl, trivial⟩
  refine s_pure h (ru_assign (h.ev rfl)) rfl ?_; intro f h
  refine s_nil ?_
  refine hK5 _ _ ?_
  refine c_seq fun K6 hK6 => ?_
  refine c_seq fun K7 hK7 => ?_
  refine c_region ?_
  refine s_pure h (ru_field fld44_0 (h.ev rfl)) rfl ?_; intro f h
  refine s_load_at1 (cell_of_has (Has.of_own s 1 rfl) 0 (rfl)) h one4 rfl rfl ?_; intro f h
  refine s_nil ?_
  refine hK7 _ _ ?_
  refine c_join (fun aa ww => ∃ va : Value, Sl 56 aa [(0, .agg (mArr m vs)), (1, .pointer (some ⟨b1, 0, none⟩)), (4, .pointer (some ⟨b4, 0, none⟩)), (6, va)] ∧ St w [.sl va 5 1 (hq1 m).length (byL (hq1 m)), .blk b4 (.cells ((fArr m.k)) 44), .blk b1 (.cells ((mArr m vs)) 28)] ww) ?_ ?_
  · skip
    refine c_cond h rfl (fun hc => ?_) (fun hc => ?_)
    · refine c_region ?_
      refine s_pure h (ru_move (h.ev rfl)) rfl ?_; intro f h
      refine s_pure h (ru_field fld28_1 (h.ev rfl)) rfl ?_; intro f h
      refine s_pure h (ru_slice_arr_at Try.underlying23 size5 (h.ev rfl)) rfl ?_; intro f h
      refine s_append_rd 0 (RdZ.of_has (Has.subL (o := 0) (Has.of_own s 2 rfl) 1 32 (D := bytesF (byteAt m.i) 32) ((mArr_i _ _).trans (idArr_bytes _))) (by first | exact bytesF_size _ _ | exact idArr_size _) (Nat.le_refl _)) h s Try.underlying47 elm5 rfl rfl rfl (by first | exact bytesF_ones _ _ | (rw [idArr_bytes]; exact bytesF_ones _ _)) (by unfold maxLen hq0; simp) (by simp [hq0]) rfl ?_; intro f w1 v25 h s
      refine s_pure h (ru_assign (h.ev rfl)) rfl ?_; intro f h
      refine s_nil ?_
      refine t_norm ?_
      exact ⟨v25, h.only ⟨rfl, rfl, rfl, rfl, trivial⟩, St.as (s.pick _ (List.Sublist.cons_cons _ (List.Sublist.cons_cons _ (List.Sublist.cons_cons _ (List.nil_sublist _))))) ⟨sl_eq (hq1_t hc).2 (hq1_t hc).1, rfl, rfl, trivial⟩⟩
    · refine wpIn_skip ?_
      refine t_norm ?_
      exact ⟨v19, h.only ⟨rfl, rfl, rfl, rfl, trivial⟩, St.as (s.pick _ (List.Sublist.cons_cons _ (List.Sublist.cons_cons _ (List.Sublist.cons_cons _ (List.nil_sublist _))))) ⟨sl_eq (congrArg List.length (hq1_f hc)) (congrArg byL (hq1_f hc)), rfl, rfl, trivial⟩⟩
  rintro f w1 ⟨va, h, s⟩
  refine hK6 _ _ ?_
  refine c_seq fun K9 hK9 => ?_
  refine c_seq fun K10 hK10 => ?_
  refine c_region ?_
  refine s_pure h (ru_field fld44_1 (h.ev rfl)) rfl ?_; intro f h
  refine s_load_at1 (cell_of_has (Has.of_own s 1 rfl) 1 (rfl)) h one4 rfl rfl ?_; intro f h
  refine s_nil ?_
  refine hK10 _ _ ?_
  refine c_join (fun aa ww => ∃ vb : Value, Sl 56 aa [(0, .agg (mArr m vs)), (1, .pointer (some ⟨b1, 0, none⟩)), (4, .pointer (some ⟨b4, 0, none⟩)), (6, vb)] ∧ St w [.sl vb 5 1 (hq2 m).length (byL (hq2 m)), .blk b4 (.cells ((fArr m.k)) 44), .blk b1 (.cells ((mArr m vs)) 28)] ww) ?_ ?_
  · skip
    refine c_cond h rfl (fun hc => ?_) (fun hc => ?_)
    · refine c_region ?_
      refine s_pure h (ru_move (h.ev rfl)) rfl ?_; intro f h
      refine s_pure h (ru_field fld28_2 (h.ev rfl)) rfl ?_; intro f h
      refine s_load_at (Has.subL (Has.of_own s 2 rfl) 33 34 (D := eArr (_)) (mArr_t _ _)) h row25 rfl (eArr_size _) rfl ?_; intro f h
      refine s_bslice (vs := [.agg (eArr m.t)]) [.tmp 30] h s Try.underlying26 elm25 rfl rfl (by intro v hv; rw [List.mem_singleton] at hv; subst hv; exact eArr_size _) rfl rfl rfl ?_; intro f w1 v31 h s
      have s := s.as (B' := [.sl v31 25 34 1 (eCells [m.t]), .sl va 5 1 (hq1 m).length (byL (hq1 m)), .blk b4 (.cells (fArr m.k) 44), .blk b1 (.cells (mArr m vs) 28)]) ⟨sl_eq rfl (by rw [eCells_one]; simp [Value.cells]), rfl, rfl, rfl, trivial⟩
      refine s_call h s fnc18 (ret_val (.string (bstr (1 :: entL m.t))) (etext_any [m.t] (by simp) _ _ (RdZ.of_own (s.getSl 0 rfl))) (congrArg Value.string (textW_one (c2_e hc2 hc)))) rfl rfl ?_; intro f w1 v9 hT hE h s; obtain rfl := hT
      refine s_append_str (m := (1 :: entL m.t).length) (ys := byL (1 :: entL m.t)) 1 h s Try.underlying47 Try.underlying9 elm5 zcell5 rfl rfl rfl (bstr_size _) (str_byL _ (ent1_lt (c2_e hc2 hc))) (by have := (entL_length m.t).1; simp only [List.length_cons]; omega) rfl ?_; intro f w1 v33 h s
      refine s_pure h (ru_assign (h.ev rfl)) rfl ?_; intro f h
      refine s_nil ?_
      refine t_norm ?_
      exact ⟨v33, h.only ⟨rfl, rfl, rfl, rfl, trivial⟩, St.as (s.pick _ (List.Sublist.cons _ (List.Sublist.cons_cons _ (List.Sublist.cons_cons _ (List.Sublist.cons_cons _ (List.nil_sublist _)))))) ⟨sl_eq (hq2_t hc).2 (hq2_t hc).1, rfl, rfl, trivial⟩⟩
    · refine wpIn_skip ?_
      refine t_norm ?_
      exact ⟨va, h.only ⟨rfl, rfl, rfl, rfl, trivial⟩, St.as (s.pick _ (List.Sublist.cons_cons _ (List.Sublist.cons_cons _ (List.Sublist.cons_cons _ (List.nil_sublist _))))) ⟨sl_eq (congrArg List.length (hq2_f hc)) (congrArg byL (hq2_f hc)), rfl, rfl, trivial⟩⟩
  rintro f w1 ⟨vb, h, s⟩
  refine hK9 _ _ ?_
  refine c_seq fun K12 hK12 => ?_
  refine c_seq fun K13 hK13 => ?_
  refine c_region ?_
  refine s_pure h (ru_field fld44_2 (h.ev rfl)) rfl ?_; intro f h
  refine s_load_at1 (cell_of_has (Has.of_own s 1 rfl) 2 (rfl)) h one4 rfl rfl ?_; intro f h
  refine s_nil ?_
  refine hK13 _ _ ?_
  refine c_join (fun aa ww => ∃ vc : Value, Sl 56 aa [(0, .agg (mArr m vs)), (1, .pointer (some ⟨b1, 0, none⟩)), (4, .pointer (some ⟨b4, 0, none⟩)), (6, vc)] ∧ St w [.sl vc 5 1 (hq3 m).length (byL (hq3 m)), .blk b4 (.cells ((fArr m.k)) 44), .blk b1 (.cells ((mArr m vs)) 28)] ww) ?_ ?_
  · skip
    refine c_cond h rfl (fun hc => ?_) (fun hc => ?_)
    · refine c_region ?_
      refine s_pure h (ru_move (h.ev rfl)) rfl ?_; intro f h
      refine s_pure h (ru_field fld28_3 (h.ev rfl)) rfl ?_; intro f h
      refine s_load_at1 (cell_of_has (Has.of_own s 2 rfl) 67 (mArr_v _ _)) h one26 rfl rfl ?_; intro f h
      refine s_call h s fnc18 (ret_val (.string (bstr (textL m.l))) (etext_any m.l hln _ _ (hv.keep s.ext)) (congrArg Value.string (textW_t (c3_r hc3 hc)))) rfl rfl ?_; intro f w1 v9 hT hE h s; obtain rfl := hT
      refine s_append_str (m := (textL m.l).length) (ys := byL (textL m.l)) 0 h s Try.underlying47 Try.underlying9 elm5 zcell5 rfl rfl rfl (bstr_size _) (str_byL _ (textL_lt (c3_r hc3 hc))) (by have := flatE_len m.l; have := c3_len hc3; simp only [textL, List.length_cons]; omega) rfl ?_; intro f w1 v40 h s
      refine s_pure h (ru_assign (h.ev rfl)) rfl ?_; intro f h
      refine s_nil ?_
      refine t_norm ?_
      exact ⟨v40, h.only ⟨rfl, rfl, rfl, rfl, trivial⟩, St.as (s.pick _ (List.Sublist.cons_cons _ (List.Sublist.cons_cons _ (List.Sublist.cons_cons _ (List.nil_sublist _))))) ⟨sl_eq (hq3_t hc).2 (hq3_t hc).1, rfl, rfl, trivial⟩⟩
    · refine wpIn_skip ?_
      refine t_norm ?_
      exact ⟨vb, h.only ⟨rfl, rfl, rfl, rfl, trivial⟩, St.as (s.pick _ (List.Sublist.cons_cons _ (List.Sublist.cons_cons _ (List.Sublist.cons_cons _ (List.nil_sublist _))))) ⟨sl_eq (congrArg List.length (hq3_f hc)) (congrArg byL (hq3_f hc)), rfl, rfl, trivial⟩⟩
  rintro f w1 ⟨vc, h, s⟩
  refine hK12 _ _ ?_
  refine c_seq fun K15 hK15 => ?_
  refine c_seq fun K16 hK16 => ?_
  refine c_region ?_
  refine s_pure h (ru_field fld44_3 (h.ev rfl)) rfl ?_; intro f h
  refine s_load_at1 (cell_of_has (Has.of_own s 1 rfl) 3 (rfl)) h one4 rfl rfl ?_; intro f h
  refine s_nil ?_
  refine hK16 _ _ ?_
  refine c_join (fun aa ww => ∃ vd : Value, Sl 56 aa [(0, .agg (mArr m vs)), (1, .pointer (some ⟨b1, 0, none⟩)), (4, .pointer (some ⟨b4, 0, none⟩)), (6, vd)] ∧ St w [.sl vd 5 1 (hq4 m).length (byL (hq4 m)), .blk b4 (.cells ((fArr m.k)) 44), .blk b1 (.cells ((mArr m vs)) 28)] ww) ?_ ?_
  · skip
    refine c_cond h rfl (fun hc => ?_) (fun hc => ?_)
    · refine c_region ?_
      refine s_pure h (ru_move (h.ev rfl)) rfl ?_; intro f h
      refine s_pure h (ru_field fld28_4 (h.ev rfl)) rfl ?_; intro f h
      refine s_load_at1 (cell_of_has (Has.of_own s 2 rfl) 68 (mArr_n _ _)) h one3 rfl rfl ?_; intro f h
      refine s_call h s fnc19 (number_any m.n (c4_r hc4 hc).1 (c4_r hc4 hc).2 _) rfl rfl ?_; intro f w1 v9 hT hE h s; obtain rfl := hT
      refine s_append_str (m := (numL m.n).length) (ys := byL (numL m.n)) 0 h s Try.underlying47 Try.underlying9 elm5 zcell5 rfl rfl rfl (bstr_size _) (str_byL _ (numL_lt _)) (by rw [numL_length]; omega) rfl ?_; intro f w1 v47 h s
      refine s_pure h (ru_assign (h.ev rfl)) rfl ?_; intro f h
      refine s_nil ?_
      refine t_norm ?_
      exact ⟨v47, h.only ⟨rfl, rfl, rfl, rfl, trivial⟩, St.as (s.pick _ (List.Sublist.cons_cons _ (List.Sublist.cons_cons _ (List.Sublist.cons_cons _ (List.nil_sublist _))))) ⟨sl_eq (hq4_t hc).2 (hq4_t hc).1, rfl, rfl, trivial⟩⟩
    · refine wpIn_skip ?_
      refine t_norm ?_
      exact ⟨vc, h.only ⟨rfl, rfl, rfl, rfl, trivial⟩, St.as (s.pick _ (List.Sublist.cons_cons _ (List.Sublist.cons_cons _ (List.Sublist.cons_cons _ (List.nil_sublist _))))) ⟨sl_eq (congrArg List.length (hq4_f hc)) (congrArg byL (hq4_f hc)), rfl, rfl, trivial⟩⟩
  rintro f w1 ⟨vd, h, s⟩
  refine hK15 _ _ ?_
  refine c_seq fun K18 hK18 => ?_
  refine c_region ?_
  refine s_pure h (ru_move (h.ev rfl)) rfl ?_; intro f h
  refine s_str_sl 0 h s Try.underlying47 Try.underlying5 Try.underlying9 rfl rfl rfl ?_; intro f h
  refine s_pure h (ru_field fld28_5 (h.ev rfl)) rfl ?_; intro f h
  refine s_load_at1 (cell_of_has (Has.of_own s 2 rfl) 69 (mArr_o _ _)) h one9 rfl rfl ?_; intro f h
  refine s_pure h (ru_cat_str (h.ev rfl) (h.ev rfl) (by show (bstr (hq4 m)).size + _ ≤ _; rw [bstr_size]; omega)) rfl ?_; intro f h
  refine s_pure h (ru_field fld28_6 (h.ev rfl)) rfl ?_; intro f h
  refine s_load_at1 (cell_of_has (Has.of_own s 2 rfl) 70 (mArr_d _ _)) h one9 rfl rfl ?_; intro f h
  refine s_pure h (ru_cat_str (h.ev rfl) (h.ev rfl) (by show (bstr (hq4 m) ++ m.o).size + _ ≤ _; rw [ByteArray.size_append, bstr_size]; omega)) rfl ?_; intro f h
  refine s_pure h (ru_assign (h.ev rfl)) rfl ?_; intro f h
  refine s_pure h (ru_assign (h.ev rfl)) rfl ?_; intro f h
  refine s_nil ?_
  refine hK18 _ _ ?_
  refine wpIn_ret ?_
  exact e_tmps rfl h s rfl rfl (rfl)

theorem wtext_bad (m : Mg) (hr : rightM m = false) (vs : Value) (w : World) (hv : RdZ w vs 34 m.l.length (eCells m.l)) (hln : m.l.length ≤ 1000000) : Calls Try.prog 8 [.agg (mArr m vs)].toArray w (Ret w (is (.tuple #[.string ⟨#[]⟩, .int .i64 1]))) := by
  refine c_enter Try.func8 rfl Try.ntmps8 rfl [(0, .agg (mArr m vs))] (by simp) fun f h => ?_
  have s := St.start w
  refine c_seq fun K1 hK1 => ?_
  refine c_region ?_
  refine s_box ((mArr m vs)) h s rfl rfl rfl ?_; intro f w1 b1 h s
  refine s_pure h (ru_assign (h.ev rfl)) rfl ?_; intro f h
  refine s_pure h (ru_assign (h.ev rfl)) rfl ?_; intro f h
  refine s_nil ?_
  refine hK1 _ _ ?_
  refine c_seq fun K2 hK2 => ?_
  refine c_seq fun K3 hK3 => ?_
  refine c_region ?_
  refine s_load_row 0 h s row28 rfl rfl (mArr_size _ _) rfl ?_; intro f h
  refine s_call h s fnc9 (ret_val (.bool false) (wright_any m vs _ (hv.keep s.ext) hln) (congrArg Value.bool hr)) rfl rfl ?_; intro f w1 v9 hT hE h s; obtain rfl := hT
  refine s_pure h (ru_val (.bool true) (ru_not (h.ev rfl)) rfl) rfl ?_; intro f h
  refine s_nil ?_
  refine hK3 _ _ ?_
  refine wpIn_cond_true (h.ev rfl) ?_
  refine c_seq fun K4 hK4 => ?_
  refine c_region ?_
  refine s_pure h (ru_assign (h.ev rfl)) rfl ?_; intro f h
  refine s_pure h (ru_assign (h.ev rfl)) rfl ?_; intro f h
  refine s_nil ?_
  refine hK4 _ _ ?_
  refine wpIn_ret ?_
  refine t_ret ?_
  exact e_tmps rfl h s rfl rfl (rfl)

theorem wtext_any (m : Mg) (vs : Value) (w : World) (hv : RdZ w vs 34 m.l.length (eCells m.l)) (hln : m.l.length ≤ 1000000) : Calls Try.prog 8 [.agg (mArr m vs)].toArray w (Ret w (is (.tuple #[.string (mtW m), .int .i64 (mtR m)]))) := by
  cases h : rightM m
  · rw [show mtW m = ⟨#[]⟩ from by unfold mtW; rw [h]; rfl, show mtR m = 1 from by unfold mtR; rw [h]; rfl]
    exact wtext_bad m h vs w hv hln
  · rw [show mtW m = textM m from by unfold mtW; rw [h]; rfl, show mtR m = 0 from by unfold mtR; rw [h]; rfl]
    exact wtext_ok m h vs w hv hln
end Go.Proofs.Ytaehgcdcfbhohaa
