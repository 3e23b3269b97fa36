/- The bytes of a message: the reference. -/
import Derived.Test.YtaehgcdcfbhohaaVe
set_option linter.unusedVariables false
set_option linter.unusedSimpArgs false
set_option linter.unusedSectionVars false
namespace Go.Proofs.Ytaehgcdcfbhohaa
open Go.RowKit
theorem rentry_any (e : Ent) (he : isE e = true) (w : World) : Calls Try.prog 28 [.agg (eArr e)].toArray w (Ret w (is (.string (bstr (entL e))))) := by
  refine c_enter Try.func28 rfl Try.ntmps28 rfl [(0, .agg (eArr e))] (by simp) fun f h => ?_
  have s := St.start w
  refine c_seq fun K1 hK1 => ?_
  refine c_region ?_
  refine s_box ((eArr e)) h s rfl rfl rfl ?_; intro f w1 b1 h s
  refine s_pure h (ru_assign (h.ev rfl)) rfl ?_; intro f h
  refine s_nil ?_
  refine hK1 _ _ ?_
  refine c_seq fun K2 hK2 => ?_
  refine c_seq fun K3 hK3 => ?_
  refine c_region ?_
  refine s_pure h (ru_field fld25_0 (h.ev rfl)) rfl ?_; intro f h
  refine s_load_at1 (cell_of_has (Has.of_own s 0 rfl) 0 (eArr_kind _)) h one3 rfl rfl ?_; intro f h
  refine s_pure h (ru_eql (h.ev rfl) (h.ev rfl)) rfl ?_; intro f h
  refine s_nil ?_
  refine hK3 _ _ ?_
  refine c_cond h rfl (fun hc => ?_) (fun hc => ?_)
  · replace hc := of_decide_eq_true hc
    refine c_seq fun K4 hK4 => ?_
    refine c_region ?_
    refine s_pure h (ru_field fld25_2 (h.ev rfl)) rfl ?_; intro f h
    refine s_load_at1 (cell_of_has (Has.of_own s 0 rfl) 33 (eArr_host _)) h one3 rfl rfl ?_; intro f h
    have hho := isE_host he (by omega)
    refine s_pure h (ru_val (.int .u8 ((e.2.2.toNat : Nat) : Int)) (ru_conv_u8 Try.underlying3 Try.underlying5 (h.ev rfl)) (congrArg (Value.int .u8) (by omega))) rfl ?_; intro f h
    refine s_bslice (vs := [.int .u8 2, .int .u8 ((e.2.2.toNat : Nat) : Int)]) [.const (.int .u8 (2)), .tmp 8] h s Try.underlying47 elm5 rfl rfl (by simp [Value.cells]) rfl rfl rfl ?_; intro f w1 v9 h s
    have s := s.as (B' := [.sl v9 5 1 2 (byL [2, e.2.2.toNat]), .blk b1 (.cells (eArr e) 25)]) ⟨sl_eq rfl (by simp [byL, Value.cells]), rfl, trivial⟩
    refine s_str_sl 0 h s Try.underlying47 Try.underlying5 Try.underlying9 rfl rfl rfl ?_; intro f h
    refine s_pure h (ru_assign (h.ev rfl)) rfl ?_; intro f h
    refine s_nil ?_
    refine hK4 _ _ ?_
    refine wpIn_ret ?_
    refine t_ret ?_
    exact e_tmp rfl h s rfl (by show _ = _; rw [entL_2 hc]; rfl)
  · replace hc := of_decide_eq_false hc
    refine wpIn_skip ?_
    refine hK2 _ _ ?_
    refine c_seq fun K5 hK5 => ?_
    refine c_region ?_
    refine s_pure h (ru_field fld25_1 (h.ev rfl)) rfl ?_; intro f h
    refine s_pure h (ru_slice_arr_at Try.underlying23 size5 (h.ev rfl)) rfl ?_; intro f h
    refine s_str_at (Has.subL (o := 0) (Has.of_own s 0 rfl) 1 32 (D := bytesF (byteAt e.2.1) 32) ((eArr_id _).trans (idArr_bytes _))) h Try.underlying47 Try.underlying5 Try.underlying9 rfl rfl ?_; intro f h
    refine s_pure h (ru_cat_str (h.ev rfl) (h.ev rfl) (by rw [strF_size]; decide)) rfl ?_; intro f h
    refine s_pure h (ru_assign (h.ev rfl)) rfl ?_; intro f h
    refine s_nil ?_
    refine hK5 _ _ ?_
    refine wpIn_ret ?_
    exact e_tmp rfl h s rfl (by show _ = _; rw [bstr_id, ← entL_1 ((isE_kind he).resolve_right hc)])

theorem rtext_any (l : List Ent) (hr : rightE l = true) (vh : Value) (w : World) (hv : RdZ w vh 34 l.length (eCells l)) : Calls Try.prog 29 [vh].toArray w (Ret w (is (.string (textE l)))) := by
  obtain ⟨hr1, hr2, hr3⟩ := (rightE_iff l).1 hr
  refine c_enter Try.func29 rfl Try.ntmps29 rfl [(0, vh)] (by simp) fun f h => ?_
  have s := St.start w
  refine c_seq fun K1 hK1 => ?_
  refine c_region ?_
  refine s_pure h (ru_assign (h.ev rfl)) rfl ?_; intro f h
  refine s_nil ?_
  refine hK1 _ _ ?_
  refine c_seq fun K2 hK2 => ?_
  refine c_region ?_
  refine s_pure h (ru_move (h.ev rfl)) rfl ?_; intro f h
  refine s_pure h (ru_lenZ (hv.keep s.ext) Try.underlying26 (h.ev rfl)) rfl ?_; intro f h
  refine s_pure h (ru_val (.int .u8 ((l.length : Nat) : Int)) (ru_conv_u8 Try.underlying3 Try.underlying5 (h.ev rfl)) (congrArg (Value.int .u8) (by omega))) rfl ?_; intro f h
  refine s_bslice (vs := [.int .u8 ((l.length : Nat) : Int)]) [.tmp 8] h s Try.underlying47 elm5 rfl rfl (by simp [Value.cells]) rfl rfl rfl ?_; intro f w1 v9 h s
  have s := s.as (B' := [.sl v9 5 1 1 (byL [l.length])]) ⟨sl_eq rfl (by simp [byL, Value.cells]), trivial⟩
  refine s_str_sl 0 h s Try.underlying47 Try.underlying5 Try.underlying9 rfl rfl rfl ?_; intro f h
  refine s_pure h (ru_assign (h.ev rfl)) rfl ?_; intro f h
  refine s_nil ?_
  refine hK2 _ _ ?_
  refine c_seq fun K3 hK3 => ?_
  refine c_seq fun K4 hK4 => ?_
  refine c_region ?_
  refine s_pure h (ru_move (h.ev rfl)) rfl ?_; intro f h
  refine s_pure h (ru_lenZ (hv.keep s.ext) Try.underlying26 (h.ev rfl)) rfl ?_; intro f h
  refine s_pure h (ru_move (h.ev rfl)) rfl ?_; intro f h
  refine s_nil ?_
  refine hK4 _ _ ?_
  refine wpIn_block ?_
  refine wpIn_loop_ghost (fun nn aa ww => ∃ k : Nat, Sl 23 aa [(0, vh), (9, v9), (3, .string (bstr (textK l k))), (11, vh), (12, .int .i64 (l.length : Int)), (13, .int .i64 (k : Int))] ∧ St w [.sl v9 5 1 1 (byL [l.length])] ww ∧ nn = l.length - k ∧ k ≤ l.length) (l.length - (0)) ⟨0, h.only ⟨rfl, rfl, rfl, rfl, rfl, slot_int rfl (by omega), trivial⟩, s.as ⟨rfl, trivial⟩, rfl, Nat.zero_le _⟩ ?_
  rintro _ f w1 ⟨k, h, s, hnn, hp0⟩
  refine c_seq fun K5 hK5 => ?_
  refine c_region ?_
  refine s_pure h (ru_lss (h.ev rfl) (h.ev rfl)) rfl ?_; intro f h
  refine s_nil ?_
  refine hK5 _ _ ?_
  refine c_seq fun K6 hK6 => ?_
  refine c_cond h rfl (fun hc => ?_) (fun hc => ?_)
  · replace hc := of_decide_eq_true hc
    refine wpIn_skip ?_
    refine hK6 _ _ ?_
    refine c_seq fun K7 hK7 => ?_
    refine wpIn_block ?_
    refine c_seq fun K8 hK8 => ?_
    refine c_region ?_
    have hkl : k < l.length := by omega
    refine s_pure h (ru_ixz (hv.keep s.ext) (k) Try.underlying26 szo25 (h.ev rfl) (h.ev rfl) (by omega) (by omega)) rfl ?_; intro f h
    refine s_load_at ((hv.keep s.ext).el (k) (by omega) (by decide) (D := eArr l[k]) (e_el l k hkl)) h row25 rfl (eArr_size _) rfl ?_; intro f h
    refine s_alloc (eArr (0, 0#256, 0)) h s zero25 rfl rfl ?_; intro f w1 b5 h s
    refine s_store_row 0 h s row25 rfl rfl rfl (eArr_size _) (eArr_size _) (eArr_ones _) ?_; intro w1 s
    refine s_nil ?_
    refine hK8 _ _ ?_
    refine c_region ?_
    refine s_pure h (ru_move (h.ev rfl)) rfl ?_; intro f h
    refine s_load_row 0 h s row25 rfl rfl (eArr_size _) rfl ?_; intro f h
    refine s_call h s fnc28 (rentry_any _ (hr3 _ (List.getElem_mem hkl)) _) rfl rfl ?_; intro f w1 v9 hT hE h s; obtain rfl := hT
    refine s_pure h (ru_cat_str (h.ev rfl) (h.ev rfl) (by rw [bstr_size, bstr_size]; have h7 := textK_len l k; have h8 := (entL_length l[k]).1; omega)) rfl ?_; intro f h
    refine s_pure h (ru_assign (h.ev rfl)) rfl ?_; intro f h
    refine s_nil ?_
    refine b_norm ?_
    refine hK7 _ _ ?_
    refine c_region ?_
    refine s_pure h (ru_add (h.ev rfl) (h.ev rfl) (by omega)) rfl ?_; intro f h
    refine s_pure h (ru_move (h.ev rfl)) rfl ?_; intro f h
    refine s_nil ?_
    refine t_norm ?_
    exact ⟨_, by omega, ⟨k + 1, h.only ⟨rfl, rfl, slot_s rfl (by rw [textK_succ l k hkl, bstr_app]), rfl, rfl, slot_int rfl (by omega), trivial⟩, St.as (s.pick _ (List.sublist_append_right [_] _)) ⟨rfl, trivial⟩, rfl, by omega⟩⟩
  · replace hc := of_decide_eq_false hc
    refine wpIn_exit ?_
    refine t_exit ?_
    refine t_exit ?_
    refine b_exit ?_
    refine hK3 _ _ ?_
    refine c_seq fun K9 hK9 => ?_
    refine c_region ?_
    obtain rfl : k = l.length := by omega
    refine s_pure h (ru_move (h.ev rfl)) rfl ?_; intro f h
    refine s_pure h (ru_assign (h.ev rfl)) rfl ?_; intro f h
    refine s_nil ?_
    refine hK9 _ _ ?_
    refine wpIn_ret ?_
    exact e_tmp rfl h s rfl (by show _ = _; rw [textK_end]; rfl)

set_option maxHeartbeats 2000000 in
theorem rtext5_any (m : Mg) (hr : rightM m = true) (vs : Value) (w : World) (hv : RdZ w vs 34 m.l.length (eCells m.l)) (hln : m.l.length ≤ 1000000) : Calls Try.prog 14 [.agg (mArr m vs)].toArray w (Ret w (is (.string (textM m)))) := by
  obtain ⟨hk9, _, hc2, hc3, hc4, _, _⟩ := right_parts hr
  obtain ⟨hz4, hz3, hz2, hz1, hzo, hzd⟩ := head_len hr
  have hkk := (isK_iff _).1 hk9
  refine c_enter Try.func14 rfl Try.ntmps14 rfl [(0, .agg (mArr m vs))] (by simp) fun f h => ?_
  have s := St.start w
  refine c_seq fun K1 hK1 => ?_
  refine c_region ?_
  refine s_box ((mArr m vs)) h s rfl rfl rfl ?_; intro f w1 b1 h s
  refine s_pure h (ru_assign (h.ev rfl)) rfl ?_; intro f h
  refine s_nil ?_
  refine hK1 _ _ ?_
  refine c_seq fun K2 hK2 => ?_
  refine c_region ?_
  refine s_pure h (ru_field fld28_0 (h.ev rfl)) rfl ?_; intro f h
  refine s_load_at1 (cell_of_has (Has.of_own s 0 rfl) 0 (mArr_k _ _)) h one3 rfl rfl ?_; intro f h
  refine s_pure h (ru_val (.int .u8 ((m.k.toNat : Nat) : Int)) (ru_conv_u8 Try.underlying3 Try.underlying5 (h.ev rfl)) (congrArg (Value.int .u8) (by omega))) rfl ?_; intro f h
  refine s_bslice (vs := [.int .u8 ((m.k.toNat : Nat) : Int)]) [.tmp 9] h s Try.underlying47 elm5 rfl rfl (by simp [Value.cells]) rfl rfl rfl ?_; intro f w1 v10 h s
  have s := s.as (B' := [.sl v10 5 1 (hq0 m).length (byL (hq0 m)), .blk b1 (.cells (mArr m vs) 28)]) ⟨sl_eq rfl (by simp [byL, hq0, Value.cells]), rfl, trivial⟩
  refine s_str_sl 0 h s Try.underlying47 Try.underlying5 Try.underlying9 rfl rfl rfl ?_; intro f h
  refine s_pure h (ru_assign (h.ev rfl)) rfl ?_; intro f h
  refine s_nil ?_
  refine hK2 _ _ ?_
  refine c_seq fun K3 hK3 => ?_
  refine c_seq fun K4 hK4 => ?_
  refine c_region ?_
  refine s_pure h (ru_field fld28_0 (h.ev rfl)) rfl ?_; intro f h
  refine s_load_at1 (cell_of_has (Has.of_own s 1 rfl) 0 (mArr_k _ _)) h one3 rfl rfl ?_; intro f h
  refine s_call h s fnc23 (ret_val (.bool (hasI m.k)) (has_any m.k 105 _) (congrArg Value.bool (hasF_i m.k))) rfl rfl ?_; intro f w1 v9 hT hE h s; obtain rfl := hT
  refine s_nil ?_
  refine hK4 _ _ ?_
  refine c_join (fun aa ww => Sl 66 aa [(0, .agg (mArr m vs)), (1, .pointer (some ⟨b1, 0, none⟩)), (10, v10), (3, .string (bstr (hq1 m)))] ∧ St w [.sl v10 5 1 (hq0 m).length (byL (hq0 m)), .blk b1 (.cells ((mArr m vs)) 28)] ww) ?_ ?_
  · skip
    refine c_cond h rfl (fun hc => ?_) (fun hc => ?_)
    · refine c_region ?_
      refine s_pure h (ru_move (h.ev rfl)) rfl ?_; intro f h
      refine s_pure h (ru_field fld28_1 (h.ev rfl)) rfl ?_; intro f h
      refine s_pure h (ru_slice_arr_at Try.underlying23 size5 (h.ev rfl)) rfl ?_; intro f h
      refine s_str_at (Has.subL (o := 0) (Has.of_own s 1 rfl) 1 32 (D := bytesF (byteAt m.i) 32) ((mArr_i _ _).trans (idArr_bytes _))) h Try.underlying47 Try.underlying5 Try.underlying9 rfl rfl ?_; intro f h
      refine s_pure h (ru_cat_str (h.ev rfl) (h.ev rfl) (by show (bstr (hq0 m)).size + _ ≤ _; rw [bstr_size, strF_size]; simp [hq0])) rfl ?_; intro f h
      refine s_pure h (ru_assign (h.ev rfl)) rfl ?_; intro f h
      refine s_nil ?_
      refine t_norm ?_
      exact ⟨h.only ⟨rfl, rfl, rfl, slot_s rfl (hq1_bt hc), trivial⟩, St.as s ⟨rfl, rfl, trivial⟩⟩
    · refine wpIn_skip ?_
      refine t_norm ?_
      exact ⟨h.only ⟨rfl, rfl, rfl, slot_s rfl (congrArg bstr (hq1_f hc)), trivial⟩, St.as s ⟨rfl, rfl, trivial⟩⟩
  rintro f w1 ⟨h, s⟩
  refine hK3 _ _ ?_
  refine c_seq fun K6 hK6 => ?_
  refine c_seq fun K7 hK7 => ?_
  refine c_region ?_
  refine s_pure h (ru_field fld28_0 (h.ev rfl)) rfl ?_; intro f h
  refine s_load_at1 (cell_of_has (Has.of_own s 1 rfl) 0 (mArr_k _ _)) h one3 rfl rfl ?_; intro f h
  refine s_call h s fnc23 (ret_val (.bool (hasT m.k)) (has_any m.k 116 _) (congrArg Value.bool (hasF_t m.k))) rfl rfl ?_; intro f w1 v9 hT hE h s; obtain rfl := hT
  refine s_nil ?_
  refine hK7 _ _ ?_
  refine c_join (fun aa ww => Sl 66 aa [(0, .agg (mArr m vs)), (1, .pointer (some ⟨b1, 0, none⟩)), (10, v10), (3, .string (bstr (hq2 m)))] ∧ St w [.sl v10 5 1 (hq0 m).length (byL (hq0 m)), .blk b1 (.cells ((mArr m vs)) 28)] ww) ?_ ?_
  · skip
    refine c_cond h rfl (fun hc => ?_) (fun hc => ?_)
    · refine c_region ?_
      refine s_pure h (ru_move (h.ev rfl)) rfl ?_; intro f h
      refine s_pure h (ru_cat_str (h.ev rfl) (h.ev rfl) (by rw [bstr_size]; show _ + 1 ≤ _; omega)) rfl ?_; intro f h
      refine s_pure h (ru_field fld28_2 (h.ev rfl)) rfl ?_; intro f h
      refine s_load_at (Has.subL (Has.of_own s 1 rfl) 33 34 (D := eArr (_)) (mArr_t _ _)) h row25 rfl (eArr_size _) rfl ?_; intro f h
      refine s_call h s fnc28 (rentry_any m.t (c2_e hc2 hc) _) rfl rfl ?_; intro f w1 v9 hT hE h s; obtain rfl := hT
      refine s_pure h (ru_cat_str (h.ev rfl) (h.ev rfl) (by rw [ByteArray.size_append, bstr_size, bstr_size]; have := (entL_length m.t).1; show _ + 1 + _ ≤ _; omega)) rfl ?_; intro f h
      refine s_pure h (ru_assign (h.ev rfl)) rfl ?_; intro f h
      refine s_nil ?_
      refine t_norm ?_
      exact ⟨h.only ⟨rfl, rfl, rfl, slot_s rfl (hq2_bt hc), trivial⟩, St.as s ⟨rfl, rfl, trivial⟩⟩
    · refine wpIn_skip ?_
      refine t_norm ?_
      exact ⟨h.only ⟨rfl, rfl, rfl, slot_s rfl (congrArg bstr (hq2_f hc)), trivial⟩, St.as s ⟨rfl, rfl, trivial⟩⟩
  rintro f w1 ⟨h, s⟩
  refine hK6 _ _ ?_
  refine c_seq fun K9 hK9 => ?_
  refine c_seq fun K10 hK10 => ?_
  refine c_region ?_
  refine s_pure h (ru_field fld28_0 (h.ev rfl)) rfl ?_; intro f h
  refine s_load_at1 (cell_of_has (Has.of_own s 1 rfl) 0 (mArr_k _ _)) h one3 rfl rfl ?_; intro f h
  refine s_call h s fnc23 (ret_val (.bool (hasS m.k)) (has_any m.k 115 _) (congrArg Value.bool (hasF_s m.k))) rfl rfl ?_; intro f w1 v9 hT hE h s; obtain rfl := hT
  refine s_nil ?_
  refine hK10 _ _ ?_
  refine c_join (fun aa ww => Sl 66 aa [(0, .agg (mArr m vs)), (1, .pointer (some ⟨b1, 0, none⟩)), (10, v10), (3, .string (bstr (hq3 m)))] ∧ St w [.sl v10 5 1 (hq0 m).length (byL (hq0 m)), .blk b1 (.cells ((mArr m vs)) 28)] ww) ?_ ?_
  · skip
    refine c_cond h rfl (fun hc => ?_) (fun hc => ?_)
    · refine c_region ?_
      refine s_pure h (ru_move (h.ev rfl)) rfl ?_; intro f h
      refine s_pure h (ru_field fld28_3 (h.ev rfl)) rfl ?_; intro f h
      refine s_load_at1 (cell_of_has (Has.of_own s 1 rfl) 67 (mArr_v _ _)) h one26 rfl rfl ?_; intro f h
      refine s_call h s fnc29 (rtext_any m.l (c3_r hc3 hc) _ _ (hv.keep s.ext)) rfl rfl ?_; intro f w1 v9 hT hE h s; obtain rfl := hT
      refine s_pure h (ru_cat_str (h.ev rfl) (h.ev rfl) (by rw [bstr_size]; have := textE_le (c3_r hc3 hc); omega)) rfl ?_; intro f h
      refine s_pure h (ru_assign (h.ev rfl)) rfl ?_; intro f h
      refine s_nil ?_
      refine t_norm ?_
      exact ⟨h.only ⟨rfl, rfl, rfl, slot_s rfl (hq3_bt hc), trivial⟩, St.as s ⟨rfl, rfl, trivial⟩⟩
    · refine wpIn_skip ?_
      refine t_norm ?_
      exact ⟨h.only ⟨rfl, rfl, rfl, slot_s rfl (congrArg bstr (hq3_f hc)), trivial⟩, St.as s ⟨rfl, rfl, trivial⟩⟩
  rintro f w1 ⟨h, s⟩
  refine hK9 _ _ ?_
  refine c_seq fun K12 hK12 => ?_
  refine c_seq fun K13 hK13 => ?_
  refine c_region ?_
  refine s_pure h (ru_field fld28_0 (h.ev rfl)) rfl ?_; intro f h
  refine s_load_at1 (cell_of_has (Has.of_own s 1 rfl) 0 (mArr_k _ _)) h one3 rfl rfl ?_; intro f h
  refine s_call h s fnc23 (ret_val (.bool (hasN m.k)) (has_any m.k 110 _) (congrArg Value.bool (hasF_n m.k))) rfl rfl ?_; intro f w1 v9 hT hE h s; obtain rfl := hT
  refine s_nil ?_
  refine hK13 _ _ ?_
  refine c_join (fun aa ww => Sl 66 aa [(0, .agg (mArr m vs)), (1, .pointer (some ⟨b1, 0, none⟩)), (10, v10), (3, .string (bstr (hq4 m)))] ∧ St w [.sl v10 5 1 (hq0 m).length (byL (hq0 m)), .blk b1 (.cells ((mArr m vs)) 28)] ww) ?_ ?_
  · skip
    refine c_cond h rfl (fun hc => ?_) (fun hc => ?_)
    · have hcn := hc
      refine c_seq fun K14 hK14 => ?_
      refine c_region ?_
      refine s_bslice (vs := []) [] h s Try.underlying47 elm5 rfl rfl (by simp) rfl rfl rfl ?_; intro f w1 v40 h s
      refine s_pure h (ru_assign (h.ev rfl)) rfl ?_; intro f h
      refine s_nil ?_
      refine hK14 _ _ ?_
      refine c_seq fun K15 hK15 => ?_
      refine c_region ?_
      refine s_pure h (ru_field fld28_4 (h.ev rfl)) rfl ?_; intro f h
      refine s_load_at1 (cell_of_has (Has.of_own s 2 rfl) 68 (mArr_n _ _)) h one3 rfl rfl ?_; intro f h
      refine s_pure h (ru_assign (h.ev rfl)) rfl ?_; intro f h
      refine s_nil ?_
      refine hK15 _ _ ?_
      refine c_seq fun K16 hK16 => ?_
      refine c_seq fun K17 hK17 => ?_
      refine c_region ?_
      refine s_pure h (ru_assign (h.ev rfl)) rfl ?_; intro f h
      refine s_nil ?_
      refine hK17 _ _ ?_
      refine wpIn_block ?_
      refine wpIn_loop_ghost (fun nn aa ww => ∃ j : Nat, ∃ vn : Value, Sl 66 aa [(0, .agg (mArr m vs)), (1, .pointer (some ⟨b1, 0, none⟩)), (10, v10), (3, .string (bstr (hq3 m))), (4, vn), (5, .int .i64 ((m.n.toNat / 256 ^ j : Nat) : Int)), (6, .int .i64 (j : Int))] ∧ St w [.sl vn 5 1 ((numL m.n).take j).length (byL ((numL m.n).take j)), .sl v10 5 1 (hq0 m).length (byL (hq0 m)), .blk b1 (.cells ((mArr m vs)) 28)] ww ∧ nn = 8 - j ∧ j ≤ 8) (8 - (0)) ⟨0, v40, h.only ⟨rfl, rfl, rfl, rfl, rfl, slot_int rfl (by have := (c4_r hc4 hc).1; simp; omega), slot_int rfl rfl, trivial⟩, s.as ⟨sl_eq rfl rfl, rfl, rfl, trivial⟩, rfl, Nat.zero_le _⟩ ?_
      rintro _ f w1 ⟨j, vn, h, s, hnn, hp0⟩
      refine c_seq fun K18 hK18 => ?_
      refine c_seq fun K19 hK19 => ?_
      refine c_region ?_
      refine s_pure h (ru_move (h.ev rfl)) rfl ?_; intro f h
      refine s_pure h (ru_lss (h.ev rfl) (h.ev rfl)) rfl ?_; intro f h
      refine s_nil ?_
      refine hK19 _ _ ?_
      refine c_cond h rfl (fun hc => ?_) (fun hc => ?_)
      · replace hc := of_decide_eq_true hc
        refine wpIn_skip ?_
        refine hK18 _ _ ?_
        refine c_seq fun K20 hK20 => ?_
        refine wpIn_block ?_
        refine c_seq fun K21 hK21 => ?_
        refine c_region ?_
        refine s_pure h (ru_move (h.ev rfl)) rfl ?_; intro f h
        refine s_pure h (ru_move (h.ev rfl)) rfl ?_; intro f h
        have hj8 : j < 8 := by omega
        refine s_pure h (ru_rem (h.ev rfl) (h.ev rfl) (⟨Int.natCast_nonneg _, by decide⟩)) rfl ?_; intro f h
        refine s_pure h (ru_val (.int .u8 ((m.n.toNat / 256 ^ j % 256 : Nat) : Int)) (ru_conv_u8 Try.underlying3 Try.underlying5 (h.ev rfl)) (congrArg (Value.int .u8) (by omega))) rfl ?_; intro f h
        refine s_bslice (vs := [.int .u8 ((m.n.toNat / 256 ^ j % 256 : Nat) : Int)]) [.tmp 50] h s Try.underlying47 elm5 rfl rfl (by simp [Value.cells]) rfl rfl rfl ?_; intro f w1 v51 h s
        refine s_append 1 0 h s Try.underlying47 elm5 rfl rfl rfl rfl (by decide) (by simp [Value.oneCell', Value.cells]) (by unfold maxLen; rw [List.length_take]; omega) (by rw [List.length_take]; omega) rfl ?_; intro f w1 v52 h s
        replace s := s.pick _ (List.sublist_cons_self _ _)
        refine s_pure h (ru_assign (h.ev rfl)) rfl ?_; intro f h
        refine s_nil ?_
        refine hK21 _ _ ?_
        refine c_region ?_
        refine s_pure h (ru_move (h.ev rfl)) rfl ?_; intro f h
        refine s_pure h (ru_quo (h.ev rfl) (h.ev rfl) (⟨Int.natCast_nonneg _, (by have h8 := (c4_r hc4 hcn).2; have h9 := Nat.div_le_self m.n.toNat (256 ^ j); generalize m.n.toNat / 256 ^ j = q at *; omega), by decide⟩)) rfl ?_; intro f h
        refine s_pure h (ru_assign (h.ev rfl)) rfl ?_; intro f h
        refine s_nil ?_
        refine b_norm ?_
        refine hK20 _ _ ?_
        refine c_region ?_
        refine s_pure h (ru_move (h.ev rfl)) rfl ?_; intro f h
        refine s_pure h (ru_add (h.ev rfl) (h.ev rfl) (by omega)) rfl ?_; intro f h
        refine s_pure h (ru_assign (h.ev rfl)) rfl ?_; intro f h
        refine s_nil ?_
        refine t_norm ?_
        exact ⟨_, by omega, ⟨j + 1, v52, h.only ⟨rfl, rfl, rfl, rfl, rfl, slot_int rfl (numL_quo _ _), slot_int rfl (by omega), trivial⟩, St.as (s.pick _ (List.Sublist.cons_cons _ (List.Sublist.cons_cons _ (List.Sublist.cons_cons _ (List.nil_sublist _))))) ⟨sl_eq (by rw [← numL_take m.n j hj8, List.length_append]; rfl) (numL_step m.n j hj8), rfl, rfl, trivial⟩, rfl, by omega⟩⟩
      · replace hc := of_decide_eq_false hc
        refine wpIn_exit ?_
        refine t_exit ?_
        refine t_exit ?_
        refine b_exit ?_
        refine hK16 _ _ ?_
        refine c_region ?_
        obtain rfl : j = 8 := by omega
        refine s_pure h (ru_move (h.ev rfl)) rfl ?_; intro f h
        refine s_pure h (ru_move (h.ev rfl)) rfl ?_; intro f h
        refine s_str_sl 0 h s Try.underlying47 Try.underlying5 Try.underlying9 rfl rfl rfl ?_; intro f h
        refine s_pure h (ru_cat_str (h.ev rfl) (h.ev rfl) (by rw [bstr_size, ByteArray.size]; simp; omega)) rfl ?_; intro f h
        refine s_pure h (ru_assign (h.ev rfl)) rfl ?_; intro f h
        refine s_nil ?_
        refine t_norm ?_
        exact ⟨h.only ⟨rfl, rfl, rfl, slot_s rfl (hq4_bt hcn), trivial⟩, St.as (s.pick _ (List.sublist_append_right [_] _)) ⟨rfl, rfl, trivial⟩⟩
    · refine wpIn_skip ?_
      refine t_norm ?_
      exact ⟨h.only ⟨rfl, rfl, rfl, slot_s rfl (congrArg bstr (hq4_f hc)), trivial⟩, St.as s ⟨rfl, rfl, trivial⟩⟩
  rintro f w1 ⟨h, s⟩
  refine hK12 _ _ ?_
  refine c_seq fun K23 hK23 => ?_
  refine c_region ?_
  refine s_pure h (ru_move (h.ev rfl)) rfl ?_; intro f h
  refine s_pure h (ru_field fld28_5 (h.ev rfl)) rfl ?_; intro f h
  refine s_load_at1 (cell_of_has (Has.of_own s 1 rfl) 69 (mArr_o _ _)) h one9 rfl rfl ?_; intro f h
  refine s_pure h (ru_cat_str (h.ev rfl) (h.ev rfl) (by rw [bstr_size]; omega)) rfl ?_; intro f h
  refine s_pure h (ru_field fld28_6 (h.ev rfl)) rfl ?_; intro f h
  refine s_load_at1 (cell_of_has (Has.of_own s 1 rfl) 70 (mArr_d _ _)) h one9 rfl rfl ?_; intro f h
  refine s_pure h (ru_cat_str (h.ev rfl) (h.ev rfl) (by rw [ByteArray.size_append, bstr_size]; omega)) rfl ?_; intro f h
  refine s_pure h (ru_assign (h.ev rfl)) rfl ?_; intro f h
  refine s_nil ?_
  refine hK23 _ _ ?_
  refine wpIn_ret ?_
  exact e_tmp rfl h s rfl (by show _ = _; exact rfl)
end Go.Proofs.Ytaehgcdcfbhohaa
