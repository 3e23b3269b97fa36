/- What is read of the bytes of a message: package wire (texts of at most 100000 bytes). -/
import Derived.Test.YtaehgcdcfbhohaaVb
import Derived.Test.YtaehgcdcfbhohaaVg
set_option linter.unusedVariables false
set_option linter.unusedSimpArgs false
set_option linter.unusedSectionVars false
namespace Go.Proofs.Ytaehgcdcfbhohaa
open Go.RowKit
theorem take_any (r : ByteArray) (n : Nat) (bc : Nat) (B9 : List Own) (w0 w : World) (s : St w0 (.blk bc (.cells #[.string (r)] 58) :: B9) w) : Calls Try.prog 44 [.pointer (some ⟨bc, 0, none⟩), .int .i64 (n : Int)].toArray w (MR 30 (decide (n ≤ r.size)) (fun v w9 => v = .string (r.extract 0 n) ∧ St w0 (.blk bc (.cells #[.string (sufS r n)] 58) :: B9) w9) (fun w9 => St w0 (.blk bc (.cells #[.string (r)] 58) :: B9) w9)) := by
  refine c_enterF Try.func44 rfl Try.ntmps44 rfl [(0, .pointer (some ⟨bc, 0, none⟩)), (1, .int .i64 (n : Int))] (by simp) fun f h => ?_
  refine c_seq fun K1 hK1 => ?_
  refine c_region ?_
  refine s_pure h (ru_assign (h.ev rfl)) rfl ?_; intro f h
  refine s_nil ?_
  refine hK1 _ _ ?_
  refine c_seq fun K2 hK2 => ?_
  refine c_seq fun K3 hK3 => ?_
  refine c_region ?_
  refine s_pure h (ru_move (h.ev rfl)) rfl ?_; intro f h
  refine s_pure h (ru_nilCheck (h.ev rfl)) rfl ?_; intro f h
  refine s_pure h (ru_field fld58_0 (h.ev rfl)) rfl ?_; intro f h
  refine s_load_at1 (cell_of_has (Has.of_own s 0 rfl) 0 (rfl)) h one9 rfl rfl ?_; intro f h
  refine s_pure h (ru_len_str Try.underlying9 (h.ev rfl)) rfl ?_; intro f h
  refine s_pure h (ru_move (h.ev rfl)) rfl ?_; intro f h
  refine s_pure h (ru_lss (h.ev rfl) (h.ev rfl)) rfl ?_; intro f h
  refine s_nil ?_
  refine hK3 _ _ ?_
  refine c_cond h rfl (fun hc => ?_) (fun hc => ?_)
  · replace hc := of_decide_eq_true hc
    refine c_regionX 1 rfl rfl rfl ?_
    refine s_pure h (ru_makeIface Try.underlying30 rfl (h.ev rfl)) rfl ?_; intro f h
    refine s_nil ?_
    refine x_panic h rfl ?_
    refine t_panic ?_
    exact e_panicF h (.inr ⟨decide_eq_false (by omega), _, rfl, rfl, s⟩)
  · replace hc := of_decide_eq_false hc
    have hn9 : n ≤ r.size := by omega
    refine wpIn_skip ?_
    refine hK2 _ _ ?_
    refine c_seq fun K4 hK4 => ?_
    refine c_region ?_
    refine s_pure h (ru_move (h.ev rfl)) rfl ?_; intro f h
    refine s_pure h (ru_nilCheck (h.ev rfl)) rfl ?_; intro f h
    refine s_pure h (ru_field fld58_0 (h.ev rfl)) rfl ?_; intro f h
    refine s_load_at1 (cell_of_has (Has.of_own s 0 rfl) 0 (rfl)) h one9 rfl rfl ?_; intro f h
    refine s_pure h (ru_move (h.ev rfl)) rfl ?_; intro f h
    refine s_pure h (ru_slice_str (n) Try.underlying9 (h.ev rfl) (h.ev rfl) (rfl) (hn9)) rfl ?_; intro f h
    refine s_pure h (ru_assign (h.ev rfl)) rfl ?_; intro f h
    refine s_nil ?_
    refine hK4 _ _ ?_
    refine c_seq fun K5 hK5 => ?_
    refine c_region ?_
    refine s_pure h (ru_move (h.ev rfl)) rfl ?_; intro f h
    refine s_pure h (ru_move (h.ev rfl)) rfl ?_; intro f h
    refine s_pure h (ru_nilCheck (h.ev rfl)) rfl ?_; intro f h
    refine s_pure h (ru_field fld58_0 (h.ev rfl)) rfl ?_; intro f h
    refine s_load_at1 (cell_of_has (Has.of_own s 0 rfl) 0 (rfl)) h one9 rfl rfl ?_; intro f h
    refine s_pure h (ru_move (h.ev rfl)) rfl ?_; intro f h
    refine s_pure h (ru_slice_str_lo (n) Try.underlying9 (h.ev rfl) (h.ev rfl) (rfl) (hn9)) rfl ?_; intro f h
    refine s_pure h (ru_nilCheck (h.ev rfl)) rfl ?_; intro f h
    refine s_pure h (ru_field fld58_0 (h.ev rfl)) rfl ?_; intro f h
    refine s_store_one 0 h s one9 rfl rfl rfl (by simp) (rfl) ?_; intro w1 s
    refine s_nil ?_
    refine hK5 _ _ ?_
    refine c_seq fun K6 hK6 => ?_
    refine c_region ?_
    refine s_pure h (ru_move (h.ev rfl)) rfl ?_; intro f h
    refine s_pure h (ru_assign (h.ev rfl)) rfl ?_; intro f h
    refine s_nil ?_
    refine hK6 _ _ ?_
    refine wpIn_ret ?_
    exact e_tmpF rfl h rfl (.inl ⟨decide_eq_true hn9, _, rfl, rfl, s⟩)

theorem lclone_any (s9 : ByteArray) (hs9 : s9.size ≤ 1000000) (w : World) : Calls Try.prog 49 [.string s9].toArray w (Ret w (is (.string s9))) := by
  refine c_enter Try.func49 rfl Try.ntmps49 rfl [(0, .string s9)] (by simp) fun f h => ?_
  have s := St.start w
  refine c_seq fun K1 hK1 => ?_
  refine c_region ?_
  refine s_pure h (ru_assign (h.ev rfl)) rfl ?_; intro f h
  refine s_nil ?_
  refine hK1 _ _ ?_
  refine c_seq fun K2 hK2 => ?_
  refine c_seq fun K3 hK3 => ?_
  refine c_region ?_
  refine s_pure h (ru_move (h.ev rfl)) rfl ?_; intro f h
  refine s_pure h (ru_len_str Try.underlying9 (h.ev rfl)) rfl ?_; intro f h
  refine s_pure h (ru_eql (h.ev rfl) (h.ev rfl)) rfl ?_; intro f h
  refine s_nil ?_
  refine hK3 _ _ ?_
  refine c_cond h rfl (fun hc => ?_) (fun hc => ?_)
  · replace hc := of_decide_eq_true hc
    refine c_seq fun K4 hK4 => ?_
    refine c_region ?_
    refine s_pure h (ru_assign (h.ev rfl)) rfl ?_; intro f h
    refine s_nil ?_
    refine hK4 _ _ ?_
    refine wpIn_ret ?_
    refine t_ret ?_
    exact e_tmp rfl h s rfl (by show _ = _; exact congrArg Value.string (ba_nil_size.2 (by omega)).symm)
  · replace hc := of_decide_eq_false hc
    refine wpIn_skip ?_
    refine hK2 _ _ ?_
    refine c_seq fun K5 hK5 => ?_
    refine c_region ?_
    refine s_pure h (ru_move (h.ev rfl)) rfl ?_; intro f h
    refine s_pure h (ru_len_str Try.underlying9 (h.ev rfl)) rfl ?_; intro f h
    refine s_make_bytes (n := s9.size) h s Try.underlying47 mkb5 rfl rfl (rfl) (by omega) rfl ?_; intro f w1 b9 h s
    refine s_pure h (ru_assign (h.ev rfl)) rfl ?_; intro f h
    refine s_nil ?_
    refine hK5 _ _ ?_
    refine c_seq fun K6 hK6 => ?_
    refine c_region ?_
    refine s_pure h (ru_move (h.ev rfl)) rfl ?_; intro f h
    refine s_pure h (ru_move (h.ev rfl)) rfl ?_; intro f h
    refine s_copy_str 0 (s9.size) h s Try.underlying47 size5 rfl rfl rfl (by simp) (by omega) rfl ?_; intro f w1 h s
    refine s_nil ?_
    refine hK6 _ _ ?_
    refine c_seq fun K7 hK7 => ?_
    refine c_region ?_
    refine s_pure h (ru_move (h.ev rfl)) rfl ?_; intro f h
    refine s_pure h (ru_ixz (RdZ.of_has (Has.of_own s 0 rfl) (bytesF_size _ _) (Nat.le_refl _)) (0) Try.underlying47 szo5 (h.ev rfl) (h.ev rfl) (by omega) (by omega)) rfl ?_; intro f h
    refine s_pure h (ru_move (h.ev rfl)) rfl ?_; intro f h
    refine s_pure h (ru_lenZ (RdZ.of_has (Has.of_own s 0 rfl) (bytesF_size _ _) (Nat.le_refl _)) Try.underlying47 (h.ev rfl)) rfl ?_; intro f h
    refine s_unsafeString (n := s9.size) (str := s9) 0 h s Try.underlying83 (by kernel_rfl) rfl rfl (rfl) (by omega) (by omega) rfl (clone_eq s9) (clone_lt s9) rfl ?_; intro f w1 h s
    refine s_pure h (ru_assign (h.ev rfl)) rfl ?_; intro f h
    refine s_nil ?_
    refine hK7 _ _ ?_
    refine wpIn_ret ?_
    exact e_tmp rfl h s rfl (rfl)

theorem clone_any (s9 : ByteArray) (hs9 : s9.size ≤ 1000000) (w : World) : Calls Try.prog 46 [.string s9].toArray w (Ret w (is (.string s9))) := by
  refine c_enter Try.func46 rfl Try.ntmps46 rfl [(0, .string s9)] (by simp) fun f h => ?_
  have s := St.start w
  refine c_seq fun K1 hK1 => ?_
  refine c_region ?_
  refine s_pure h (ru_assign (h.ev rfl)) rfl ?_; intro f h
  refine s_nil ?_
  refine hK1 _ _ ?_
  refine c_seq fun K2 hK2 => ?_
  refine c_region ?_
  refine s_pure h (ru_move (h.ev rfl)) rfl ?_; intro f h
  refine s_call h s fnc49 (lclone_any s9 hs9 _) rfl rfl ?_; intro f w1 v9 hT hE h s; obtain rfl := hT
  refine s_pure h (ru_assign (h.ev rfl)) rfl ?_; intro f h
  refine s_nil ?_
  refine hK2 _ _ ?_
  refine wpIn_ret ?_
  exact e_tmp rfl h s rfl (rfl)

theorem mtext_any (r : ByteArray) (n : Nat) (hr : r.size ≤ 1000000) (bc : Nat) (B9 : List Own) (w0 w : World) (s : St w0 (.blk bc (.cells #[.string (r)] 58) :: B9) w) : Calls Try.prog 36 [.pointer (some ⟨bc, 0, none⟩), .int .i64 (n : Int)].toArray w (MR 30 (decide (n ≤ r.size)) (fun v w9 => v = .string (r.extract 0 n) ∧ St w0 (.blk bc (.cells #[.string (sufS r n)] 58) :: B9) w9) (fun w9 => St w0 (.blk bc (.cells #[.string (r)] 58) :: B9) w9)) := by
  refine c_enterF Try.func36 rfl Try.ntmps36 rfl [(0, .pointer (some ⟨bc, 0, none⟩)), (1, .int .i64 (n : Int))] (by simp) fun f h => ?_
  refine c_seq fun K1 hK1 => ?_
  refine c_region ?_
  refine s_pure h (ru_assign (h.ev rfl)) rfl ?_; intro f h
  refine s_nil ?_
  refine hK1 _ _ ?_
  refine c_seq fun K2 hK2 => ?_
  cases hb : (decide (n ≤ r.size) : Bool)
  · skip
    refine c_regionX 2 rfl rfl rfl ?_
    refine s_pure h (ru_move (h.ev rfl)) rfl ?_; intro f h
    refine s_pure h (ru_move (h.ev rfl)) rfl ?_; intro f h
    refine s_nil ?_
    refine x_call h fnc44 (MR.no (take_any r n bc _ _ _ s) hb) rfl ?_; rintro ch w1 ⟨rfl, s⟩
    refine t_panic ?_
    exact e_panicF h (.inr ⟨by first | exact hb | rfl, _, rfl, rfl, s⟩)
  · skip
    refine c_region ?_
    refine s_pure h (ru_move (h.ev rfl)) rfl ?_; intro f h
    refine s_pure h (ru_move (h.ev rfl)) rfl ?_; intro f h
    refine s_callS [.pointer (some ⟨bc, 0, none⟩), .int .i64 (n : Int)] h fnc44 (MR.yes (take_any r n bc _ _ _ s) (hb)) rfl rfl ?_; rintro f w1 v7 ⟨rfl, s⟩ h
    refine s_call h s fnc46 (clone_any _ (by rw [ByteArray.size_extract]; omega) _) rfl rfl ?_; intro f w1 v9 hT hE h s; obtain rfl := hT
    refine s_pure h (ru_assign (h.ev rfl)) rfl ?_; intro f h
    refine s_nil ?_
    refine hK2 _ _ ?_
    refine wpIn_ret ?_
    exact e_tmpF rfl h rfl (.inl ⟨by first | exact hb | rfl, _, rfl, rfl, s⟩)

theorem mkind_any (r : ByteArray) (bc : Nat) (B9 : List Own) (w0 w : World) (s : St w0 (.blk bc (.cells #[.string (r)] 58) :: B9) w) : Calls Try.prog 31 [.pointer (some ⟨bc, 0, none⟩)].toArray w (MR 30 (okK r) (fun v w9 => v = .int .i64 (kS r) ∧ St w0 (.blk bc (.cells #[.string (sufS r 1)] 58) :: B9) w9) (fun w9 => ∃ r9, St w0 (.blk bc (.cells #[.string (r9)] 58) :: B9) w9)) := by
  have hb0 := sb_lt r 0
  have hks : kS r = ((sb r 0 : Nat) : Int) := rfl
  refine c_enterF Try.func31 rfl Try.ntmps31 rfl [(0, .pointer (some ⟨bc, 0, none⟩))] (by simp) fun f h => ?_
  refine c_seq fun K1 hK1 => ?_
  refine c_region ?_
  refine s_pure h (ru_assign (h.ev rfl)) rfl ?_; intro f h
  refine s_nil ?_
  refine hK1 _ _ ?_
  refine c_seq fun K2 hK2 => ?_
  cases hb : (decide (1 ≤ r.size) : Bool)
  · skip
    refine c_regionX 1 rfl rfl rfl ?_
    refine s_pure h (ru_move (h.ev rfl)) rfl ?_; intro f h
    refine s_nil ?_
    refine x_call h fnc44 (MR.no (take_any r 1 bc _ _ _ s) hb) rfl ?_; rintro ch w1 ⟨rfl, s⟩
    refine t_panic ?_
    exact e_panicF h (.inr ⟨okK_no1 hb, _, rfl, rfl, _, s⟩)
  · skip
    refine c_region ?_
    refine s_pure h (ru_move (h.ev rfl)) rfl ?_; intro f h
    refine s_callS [.pointer (some ⟨bc, 0, none⟩), .int .i64 ((1 : Nat) : Int)] h fnc44 (MR.yes (take_any r 1 bc _ _ _ s) (hb)) rfl rfl ?_; rintro f w1 v7 ⟨rfl, s⟩ h
    refine s_pure h (ru_val (.int .u8 (kS r)) (ru_ix_sb Try.underlying9 (0) (h.ev rfl) (h.ev rfl) (by omega) (by rw [bz_size _ _ _ (of_decide_eq_true hb)]; omega)) (congrArg (Value.int .u8) (by rw [sb_ext0 r 1 0 (of_decide_eq_true hb) (by omega)]; rfl))) rfl ?_; intro f h
    refine s_pure h (ru_conv_in Try.underlying5 Try.underlying3 (h.ev rfl) (IntWalk.i64_in _ (by omega))) rfl ?_; intro f h
    refine s_pure h (ru_assign (h.ev rfl)) rfl ?_; intro f h
    refine s_nil ?_
    refine hK2 _ _ ?_
    refine c_seq fun K3 hK3 => ?_
    refine c_seq fun K4 hK4 => ?_
    refine c_region ?_
    refine s_pure h (ru_move (h.ev rfl)) rfl ?_; intro f h
    refine s_call h s fnc17 (fields_any (kS r) _) rfl rfl ?_; intro f w1 v9 hT hE h s; obtain rfl := hT
    refine s_pure h (ru_move (h.ev rfl)) rfl ?_; intro f h
    refine s_pure h (ru_extract (h.ev rfl) rfl) rfl ?_; intro f h
    refine s_pure h (ru_extract (h.ev rfl) rfl) rfl ?_; intro f h
    refine s_alloc (fArr 0) h s zero44 rfl rfl ?_; intro f w1 b4 h s
    refine s_store_row 0 h s row44 rfl rfl rfl (rfl) (rfl) (fArr_ones _) ?_; intro w1 s
    refine s_pure h (ru_assign (h.ev rfl)) rfl ?_; intro f h
    refine s_nil ?_
    refine hK4 _ _ ?_
    refine c_seq fun K5 hK5 => ?_
    refine c_region ?_
    refine s_pure h (ru_move (h.ev rfl)) rfl ?_; intro f h
    refine s_pure h (ru_not (h.ev rfl)) rfl ?_; intro f h
    refine s_nil ?_
    refine hK5 _ _ ?_
    refine c_cond h rfl (fun hc => ?_) (fun hc => ?_)
    · have hk0 : isK (kS r) = false := by simpa using hc
      refine c_regionX 1 rfl rfl rfl ?_
      refine s_pure h (ru_makeIface Try.underlying30 rfl (h.ev rfl)) rfl ?_; intro f h
      refine s_nil ?_
      refine x_panic h rfl ?_
      refine t_panic ?_
      exact e_panicF h (.inr ⟨okK_no2 hk0, _, rfl, rfl, _, s.pick _ (List.sublist_cons_self _ _)⟩)
    · have hk1 : isK (kS r) = true := by simpa using hc
      refine wpIn_skip ?_
      refine hK3 _ _ ?_
      refine c_seq fun K6 hK6 => ?_
      refine c_region ?_
      refine s_pure h (ru_move (h.ev rfl)) rfl ?_; intro f h
      refine s_pure h (ru_assign (h.ev rfl)) rfl ?_; intro f h
      refine s_nil ?_
      refine hK6 _ _ ?_
      refine wpIn_ret ?_
      exact e_tmpF rfl h rfl (.inl ⟨okK_yes hb hk1, _, rfl, rfl, s.pick _ (List.sublist_cons_self _ _)⟩)

theorem mid_any (r : ByteArray) (hr : r.size ≤ 1000000) (bc : Nat) (B9 : List Own) (w0 w : World) (s : St w0 (.blk bc (.cells #[.string (r)] 58) :: B9) w) : Calls Try.prog 32 [.pointer (some ⟨bc, 0, none⟩)].toArray w (MR 30 (decide (32 ≤ r.size)) (fun v w9 => v = idV (idOf (sb r)) ∧ St w0 (.blk bc (.cells #[.string (sufS r 32)] 58) :: B9) w9) (fun w9 => St w0 (.blk bc (.cells #[.string (r)] 58) :: B9) w9)) := by
  refine c_enterF Try.func32 rfl Try.ntmps32 rfl [(0, .pointer (some ⟨bc, 0, none⟩))] (by simp) fun f h => ?_
  refine c_seq fun K1 hK1 => ?_
  refine c_region ?_
  refine s_alloc (idArr 0#256) h s zero23 rfl rfl ?_; intro f w1 b2 h s
  refine s_nil ?_
  refine hK1 _ _ ?_
  refine c_seq fun K2 hK2 => ?_
  cases hb : (decide (32 ≤ r.size) : Bool)
  · skip
    refine c_regionX 1 rfl rfl rfl ?_
    refine s_pure h (ru_move (h.ev rfl)) rfl ?_; intro f h
    refine s_nil ?_
    refine x_call h fnc44 (MR.no (take_any r 32 bc _ _ _ (s.perm (List.Perm.swap _ _ _))) hb) rfl ?_; rintro ch w1 ⟨rfl, s⟩
    refine t_panic ?_
    exact e_panicF h (.inr ⟨by first | exact hb | rfl, _, rfl, rfl, s.pick _ (.cons_cons _ (.cons _ (List.Sublist.refl _)))⟩)
  · skip
    refine c_region ?_
    refine s_pure h (ru_move (h.ev rfl)) rfl ?_; intro f h
    refine s_callS [.pointer (some ⟨bc, 0, none⟩), .int .i64 ((32 : Nat) : Int)] h fnc44 (MR.yes (take_any r 32 bc _ _ _ (s.perm (List.Perm.swap _ _ _))) (hb)) rfl rfl ?_; rintro f w1 v4 ⟨rfl, s⟩ h
    refine s_bytes h s Try.underlying9 Try.underlying47 Try.underlying5 rfl (by rw [ByteArray.size_extract]; omega) rfl ?_; intro f w1 v5 h s
    refine s_pure h (ru_toarrZ (RdZ.of_own (s.getSl 0 rfl)) Try.underlying23 (h.ev rfl) (by rw [bz_size _ _ _ (of_decide_eq_true hb)]; omega) (by rw [bz_size _ _ _ (of_decide_eq_true hb)]; omega)) rfl ?_; intro f h
    refine s_load_at (RdZ.has0 (RdZ.of_own (s.getSl 0 rfl)) (by rw [bz_size _ _ _ (of_decide_eq_true hb)]; omega) (D := idArr (idOf (sb r))) (strL_id0 (of_decide_eq_true hb))) h row23 rfl (by first | exact idArr_size _ | exact bytesF_size _ _) rfl ?_; intro f h
    refine s_store_row 2 h s row23 rfl rfl rfl (by first | exact idArr_size _ | exact bytesF_size _ _) (by first | exact idArr_size _ | exact bytesF_size _ _) (by first | exact idArr_ones _ | exact bytesF_ones _ _) ?_; intro w1 s
    refine s_nil ?_
    refine hK2 _ _ ?_
    refine wpIn_ret ?_
    exact e_rowF 2 rfl h s row23 rfl rfl (by first | exact idArr_size _ | exact bytesF_size _ _) (.inl ⟨by first | exact hb | rfl, _, rfl, rfl, s.pick _ (.cons _ (.cons_cons _ (.cons _ (List.Sublist.refl _))))⟩)

theorem mentries_any (r : ByteArray) (hr : r.size ≤ 100000) (bc : Nat) (B9 : List Own) (w0 w : World) (s : St w0 (.blk bc (.cells #[.string (r)] 58) :: B9) w) : Calls Try.prog 34 [.pointer (some ⟨bc, 0, none⟩)].toArray w (MR 30 (decide ((readM r).1 = 0)) (fun v w9 => St w0 (.sl v 25 34 (readM r).2.1.length (eCells (readM r).2.1) :: .blk bc (.cells #[.string (sufS r (readM r).2.2)] 58) :: B9) w9) (fun w9 => St w0 (.blk bc (.cells #[.string (r)] 58) :: B9) w9)) := by
  refine c_enterF Try.func34 rfl Try.ntmps34 rfl [(0, .pointer (some ⟨bc, 0, none⟩))] (by simp) fun f h => ?_
  refine c_seq fun K1 hK1 => ?_
  refine c_region ?_
  refine s_pure h (ru_assign (h.ev rfl)) rfl ?_; intro f h
  refine s_nil ?_
  refine hK1 _ _ ?_
  refine c_seq fun K2 hK2 => ?_
  refine c_region ?_
  refine s_pure h (ru_move (h.ev rfl)) rfl ?_; intro f h
  refine s_pure h (ru_nilCheck (h.ev rfl)) rfl ?_; intro f h
  refine s_pure h (ru_field fld58_0 (h.ev rfl)) rfl ?_; intro f h
  refine s_load_at1 (cell_of_has (Has.of_own s 0 rfl) 0 (rfl)) h one9 rfl rfl ?_; intro f h
  refine s_call h s fnc45 (read_any r (by omega) _) rfl rfl ?_; rintro f w1 v11 ⟨vx, rfl, hvx⟩ hE h sq
  replace s := s.sl_new hE hvx
  refine s_pure h (ru_move (h.ev rfl)) rfl ?_; intro f h
  refine s_pure h (ru_extract (h.ev rfl) rfl) rfl ?_; intro f h
  refine s_pure h (ru_extract (h.ev rfl) rfl) rfl ?_; intro f h
  refine s_pure h (ru_extract (h.ev rfl) rfl) rfl ?_; intro f h
  refine s_pure h (ru_assign (h.ev rfl)) rfl ?_; intro f h
  refine s_pure h (ru_assign (h.ev rfl)) rfl ?_; intro f h
  refine s_pure h (ru_assign (h.ev rfl)) rfl ?_; intro f h
  refine s_nil ?_
  refine hK2 _ _ ?_
  refine c_seq fun K3 hK3 => ?_
  refine c_seq fun K4 hK4 => ?_
  refine c_region ?_
  refine s_pure h (ru_move (h.ev rfl)) rfl ?_; intro f h
  refine s_pure h (ru_neq (h.ev rfl) (h.ev rfl)) rfl ?_; intro f h
  refine s_nil ?_
  refine hK4 _ _ ?_
  refine c_cond h rfl (fun hc => ?_) (fun hc => ?_)
  · have he : decide ((readM r).1 = 0) = false := by simpa using hc
    refine c_regionX 1 rfl rfl rfl ?_
    refine s_pure h (ru_makeIface Try.underlying30 rfl (h.ev rfl)) rfl ?_; intro f h
    refine s_nil ?_
    refine x_panic h rfl ?_
    refine t_panic ?_
    exact e_panicF h (.inr ⟨he, _, rfl, rfl, s.pick _ (List.sublist_cons_self _ _)⟩)
  · have he : decide ((readM r).1 = 0) = true := by simpa using hc
    refine wpIn_skip ?_
    refine hK3 _ _ ?_
    refine c_seq fun K5 hK5 => ?_
    refine c_region ?_
    refine s_pure h (ru_move (h.ev rfl)) rfl ?_; intro f h
    refine s_pure h (ru_move (h.ev rfl)) rfl ?_; intro f h
    refine s_callS [.pointer (some ⟨bc, 0, none⟩), .int .i64 (((readM r).2.2 : Nat) : Int)] h fnc44 (MR.yes (take_any r (readM r).2.2 bc _ _ _ (s.perm (List.Perm.swap _ _ _))) (decide_eq_true (read_in he))) rfl rfl ?_; rintro f w1 v20 ⟨rfl, s⟩ h
    refine s_nil ?_
    refine hK5 _ _ ?_
    refine c_seq fun K6 hK6 => ?_
    refine c_region ?_
    refine s_pure h (ru_move (h.ev rfl)) rfl ?_; intro f h
    refine s_pure h (ru_assign (h.ev rfl)) rfl ?_; intro f h
    refine s_nil ?_
    refine hK6 _ _ ?_
    refine wpIn_ret ?_
    exact e_tmpF rfl h rfl (.inl ⟨he, _, rfl, s.perm (List.Perm.swap _ _ _)⟩)

theorem mtarget_any (r : ByteArray) (hr : r.size ≤ 100000) (bc : Nat) (B9 : List Own) (w0 w : World) (s : St w0 (.blk bc (.cells #[.string (r)] 58) :: B9) w) : Calls Try.prog 33 [.pointer (some ⟨bc, 0, none⟩)].toArray w (MR 30 (okTg r) (fun v w9 => v = .agg (eArr (tgV r)) ∧ St w0 (.blk bc (.cells #[.string (sufS r (readM r).2.2)] 58) :: B9) w9) (fun w9 => ∃ r9, St w0 (.blk bc (.cells #[.string (r9)] 58) :: B9) w9)) := by
  refine c_enterF Try.func33 rfl Try.ntmps33 rfl [(0, .pointer (some ⟨bc, 0, none⟩))] (by simp) fun f h => ?_
  refine c_seq fun K1 hK1 => ?_
  refine c_region ?_
  refine s_alloc (eArr (0, 0#256, 0)) h s zero25 rfl rfl ?_; intro f w1 b2 h s
  refine s_nil ?_
  refine hK1 _ _ ?_
  refine c_seq fun K2 hK2 => ?_
  cases hb : (decide ((readM r).1 = 0) : Bool)
  · skip
    refine c_regionX 1 rfl rfl rfl ?_
    refine s_pure h (ru_move (h.ev rfl)) rfl ?_; intro f h
    refine s_nil ?_
    refine x_call h fnc34 (MR.no (mentries_any r hr bc _ _ _ (s.perm (List.Perm.swap _ _ _))) hb) rfl ?_; rintro ch w1 ⟨rfl, s⟩
    refine t_panic ?_
    exact e_panicF h (.inr ⟨okTg_no1 hb, _, rfl, rfl, _, s.pick _ (.cons_cons _ (.cons _ (List.Sublist.refl _)))⟩)
  · skip
    refine c_region ?_
    refine s_pure h (ru_move (h.ev rfl)) rfl ?_; intro f h
    refine s_callS [.pointer (some ⟨bc, 0, none⟩)] h fnc34 (MR.yes (mentries_any r hr bc _ _ _ (s.perm (List.Perm.swap _ _ _))) hb) rfl rfl ?_; rintro f w1 vx s h
    refine s_pure h (ru_assign (h.ev rfl)) rfl ?_; intro f h
    refine s_nil ?_
    refine hK2 _ _ ?_
    refine c_seq fun K3 hK3 => ?_
    refine c_seq fun K4 hK4 => ?_
    refine c_region ?_
    refine s_pure h (ru_move (h.ev rfl)) rfl ?_; intro f h
    refine s_len_sl 0 h s Try.underlying26 rfl rfl rfl ?_; intro f h
    refine s_pure h (ru_neq (h.ev rfl) (h.ev rfl)) rfl ?_; intro f h
    refine s_nil ?_
    refine hK4 _ _ ?_
    refine c_cond h rfl (fun hc => ?_) (fun hc => ?_)
    · replace hc := of_decide_eq_true hc
      have hl : ¬ (readM r).2.1.length = 1 := by omega
      refine c_regionX 1 rfl rfl rfl ?_
      refine s_pure h (ru_makeIface Try.underlying30 rfl (h.ev rfl)) rfl ?_; intro f h
      refine s_nil ?_
      refine x_panic h rfl ?_
      refine t_panic ?_
      exact e_panicF h (.inr ⟨okTg_no2 hl, _, rfl, rfl, _, s.pick _ (.cons _ (.cons_cons _ (.cons _ (List.Sublist.refl _))))⟩)
    · replace hc := of_decide_eq_false hc
      have hl : (readM r).2.1.length = 1 := by omega
      refine wpIn_skip ?_
      refine hK3 _ _ ?_
      refine c_seq fun K5 hK5 => ?_
      refine c_region ?_
      refine s_pure h (ru_move (h.ev rfl)) rfl ?_; intro f h
      refine s_pure h (ru_ixz (RdZ.of_own (s.getSl 0 rfl)) (0) Try.underlying26 szo25 (h.ev rfl) (h.ev rfl) (by omega) (by omega)) rfl ?_; intro f h
      refine s_load_at ((RdZ.of_own (s.getSl 0 rfl)).el (0) (by omega) (by decide) (D := eArr (tgV r)) (tg_el hl)) h row25 rfl (eArr_size _) rfl ?_; intro f h
      refine s_store_row 2 h s row25 rfl rfl rfl (eArr_size _) (eArr_size _) (eArr_ones _) ?_; intro w1 s
      refine s_nil ?_
      refine hK5 _ _ ?_
      refine wpIn_ret ?_
      exact e_rowF 2 rfl h s row25 rfl rfl (eArr_size _) (.inl ⟨okTg_yes hb hl, _, rfl, rfl, s.pick _ (.cons _ (.cons_cons _ (.cons _ (List.Sublist.refl _))))⟩)

theorem mnumber_any (r : ByteArray) (hr : r.size ≤ 1000000) (bc : Nat) (B9 : List Own) (w0 w : World) (s : St w0 (.blk bc (.cells #[.string (r)] 58) :: B9) w) : Calls Try.prog 35 [.pointer (some ⟨bc, 0, none⟩)].toArray w (MR 30 (okNm r) (fun v w9 => v = .int .i64 ((numS r : Nat) : Int) ∧ St w0 (.blk bc (.cells #[.string (sufS r 8)] 58) :: B9) w9) (fun w9 => ∃ r9, St w0 (.blk bc (.cells #[.string (r9)] 58) :: B9) w9)) := by
  refine c_enterF Try.func35 rfl Try.ntmps35 rfl [(0, .pointer (some ⟨bc, 0, none⟩))] (by simp) fun f h => ?_
  refine c_seq fun K1 hK1 => ?_
  refine c_region ?_
  refine s_pure h (ru_assign (h.ev rfl)) rfl ?_; intro f h
  refine s_nil ?_
  refine hK1 _ _ ?_
  refine c_seq fun K2 hK2 => ?_
  refine c_region ?_
  refine s_pure h (ru_assign (h.ev rfl)) rfl ?_; intro f h
  refine s_nil ?_
  refine hK2 _ _ ?_
  refine c_seq fun K3 hK3 => ?_
  refine c_seq fun K4 hK4 => ?_
  cases hb : (decide (8 ≤ r.size) : Bool)
  · skip
    refine c_regionX 1 rfl rfl rfl ?_
    refine s_pure h (ru_move (h.ev rfl)) rfl ?_; intro f h
    refine s_nil ?_
    refine x_call h fnc44 (MR.no (take_any r 8 bc _ _ _ s) hb) rfl ?_; rintro ch w1 ⟨rfl, s⟩
    refine t_panic ?_
    refine t_panic ?_
    exact e_panicF h (.inr ⟨okNm_no1 hb, _, rfl, rfl, _, s⟩)
  · skip
    refine c_region ?_
    refine s_pure h (ru_move (h.ev rfl)) rfl ?_; intro f h
    refine s_callS [.pointer (some ⟨bc, 0, none⟩), .int .i64 ((8 : Nat) : Int)] h fnc44 (MR.yes (take_any r 8 bc _ _ _ s) (hb)) rfl rfl ?_; rintro f w1 v7 ⟨rfl, s⟩ h
    refine s_bytes h s Try.underlying9 Try.underlying47 Try.underlying5 rfl (by rw [ByteArray.size_extract]; omega) rfl ?_; intro f w1 v8 h s
    refine s_len_sl 0 h s Try.underlying47 rfl rfl rfl ?_; intro f h
    refine s_pure h (ru_move (h.ev rfl)) rfl ?_; intro f h
    refine s_nil ?_
    refine hK4 _ _ ?_
    refine wpIn_block ?_
    refine wpIn_loop_ghost (fun nn aa ww => ∃ k : Nat, Sl 28 aa [(0, .pointer (some ⟨bc, 0, none⟩)), (6, .pointer (some ⟨bc, 0, none⟩)), (3, .int .u64 ((numK r k : Nat) : Int)), (8, v8), (9, .int .i64 8), (10, .int .i64 (k : Int))] ∧ St w0 (.sl v8 5 1 (r.extract 0 8).size (byL (strL (r.extract 0 8))) :: .blk bc (.cells (#[.string (sufS r 8)]) 58) :: B9) ww ∧ nn = 8 - k ∧ k ≤ 8) (8 - (0)) ⟨0, h.only ⟨rfl, rfl, slot_int rfl rfl, rfl, slot_int rfl (by rw [bz_size _ _ _ (of_decide_eq_true hb)]; rfl), slot_int rfl (by omega), trivial⟩, s.as ⟨rfl, rfl, beq'_refl _⟩, rfl, Nat.zero_le _⟩ ?_
    rintro _ f w1 ⟨k, h, s, hnn, hp0⟩
    refine c_seq fun K5 hK5 => ?_
    refine c_region ?_
    refine s_pure h (ru_lss (h.ev rfl) (h.ev rfl)) rfl ?_; intro f h
    refine s_nil ?_
    refine hK5 _ _ ?_
    refine c_seq fun K6 hK6 => ?_
    refine c_cond h rfl (fun hc => ?_) (fun hc => ?_)
    · replace hc := of_decide_eq_true hc
      refine wpIn_skip ?_
      refine hK6 _ _ ?_
      refine c_seq fun K7 hK7 => ?_
      refine wpIn_block ?_
      refine c_seq fun K8 hK8 => ?_
      refine c_region ?_
      refine s_pure h (ru_move (h.ev rfl)) rfl ?_; intro f h
      have hk8 : k < 8 := by omega
      have hx8 : (r.extract 0 8).size = 8 := by rw [bz_size _ _ _ (of_decide_eq_true hb)]
      have hbk := sb_lt r k
      refine s_pure h (ru_ixz (RdZ.of_own (s.getSl 0 rfl)) (k) Try.underlying47 szo5 (h.ev rfl) (h.ev rfl) (rfl) (by omega)) rfl ?_; intro f h
      refine s_load_at1 ((RdZ.of_own (s.getSl 0 rfl)).el1 (k) (V := .int .u8 ((sb r k : Nat) : Int)) (by rw [byL, List.getElem?_map, strL_get _ _ (by omega), sb_ext0 r 8 k (of_decide_eq_true hb) hk8]; rfl)) h one5 rfl rfl ?_; intro f h
      refine s_pure h (ru_assign (h.ev rfl)) rfl ?_; intro f h
      refine s_pure h (ru_assign (h.ev rfl)) rfl ?_; intro f h
      refine s_nil ?_
      refine hK8 _ _ ?_
      refine c_region ?_
      refine s_pure h (ru_move (h.ev rfl)) rfl ?_; intro f h
      refine s_pure h (ru_move (h.ev rfl)) rfl ?_; intro f h
      refine s_pure h (ru_conv_in Try.underlying5 Try.underlying74 (h.ev rfl) (IntWalk.u64_in _ (by omega))) rfl ?_; intro f h
      refine s_pure h (ru_move (h.ev rfl)) rfl ?_; intro f h
      refine s_pure h (ru_mul (h.ev rfl) (h.ev rfl) (by omega)) rfl ?_; intro f h
      refine s_pure h (ru_shl (h.ev rfl) (h.ev rfl) (by omega)) rfl ?_; intro f h
      refine s_pure h (ru_val (.int .u64 ((numK r (k + 1) : Nat) : Int)) (ru_orw (h.ev rfl) (h.ev rfl)) (congrArg (Value.int .u64) (num_or r k hk8))) rfl ?_; intro f h
      refine s_pure h (ru_assign (h.ev rfl)) rfl ?_; intro f h
      refine s_nil ?_
      refine b_norm ?_
      refine hK7 _ _ ?_
      refine c_region ?_
      refine s_pure h (ru_add (h.ev rfl) (h.ev rfl) (by omega)) rfl ?_; intro f h
      refine s_pure h (ru_move (h.ev rfl)) rfl ?_; intro f h
      refine s_nil ?_
      refine t_norm ?_
      exact ⟨_, by omega, ⟨k + 1, h.only ⟨rfl, rfl, rfl, rfl, slot_int rfl (by omega), slot_int rfl (by omega), trivial⟩, St.as s ⟨rfl, rfl, beq'_refl _⟩, rfl, by omega⟩⟩
    · replace hc := of_decide_eq_false hc
      refine wpIn_exit ?_
      refine t_exit ?_
      refine t_exit ?_
      refine b_exit ?_
      refine hK3 _ _ ?_
      refine c_seq fun K9 hK9 => ?_
      refine c_seq fun K10 hK10 => ?_
      refine c_region ?_
      obtain rfl : k = 8 := by omega
      refine s_pure h (ru_move (h.ev rfl)) rfl ?_; intro f h
      refine s_pure h (ru_gtr (h.ev rfl) (h.ev rfl)) rfl ?_; intro f h
      refine s_nil ?_
      refine hK10 _ _ ?_
      refine c_cond h rfl (fun hc => ?_) (fun hc => ?_)
      · replace hc := of_decide_eq_true hc
        have hn9 := hc
        refine c_regionX 1 rfl rfl rfl ?_
        refine s_pure h (ru_makeIface Try.underlying30 rfl (h.ev rfl)) rfl ?_; intro f h
        refine s_nil ?_
        refine x_panic h rfl ?_
        refine t_panic ?_
        exact e_panicF h (.inr ⟨okNm_no2 hn9, _, rfl, rfl, _, s.pick _ (List.sublist_cons_self _ _)⟩)
      · replace hc := of_decide_eq_false hc
        have hn9 := hc
        refine wpIn_skip ?_
        refine hK9 _ _ ?_
        refine c_seq fun K11 hK11 => ?_
        refine c_region ?_
        refine s_pure h (ru_move (h.ev rfl)) rfl ?_; intro f h
        refine s_pure h (ru_conv_in Try.underlying74 Try.underlying3 (h.ev rfl) (IntWalk.i64_in _ (by omega))) rfl ?_; intro f h
        refine s_pure h (ru_assign (h.ev rfl)) rfl ?_; intro f h
        refine s_nil ?_
        refine hK11 _ _ ?_
        refine wpIn_ret ?_
        exact e_tmpF rfl h rfl (.inl ⟨okNm_yes hb hn9, _, rfl, rfl, s.pick _ (List.sublist_cons_self _ _)⟩)

theorem mdata_any (r : ByteArray) (hr : r.size ≤ 1000000) (bc : Nat) (B9 : List Own) (w0 w : World) (s : St w0 (.blk bc (.cells #[.string (r)] 58) :: B9) w) : Calls Try.prog 37 [.pointer (some ⟨bc, 0, none⟩)].toArray w (MR 30 (decide (r.size ≤ 64)) (fun v w9 => v = .string r ∧ St w0 (.blk bc (.cells #[.string (sufS r r.size)] 58) :: B9) w9) (fun w9 => St w0 (.blk bc (.cells #[.string (r)] 58) :: B9) w9)) := by
  refine c_enterF Try.func37 rfl Try.ntmps37 rfl [(0, .pointer (some ⟨bc, 0, none⟩))] (by simp) fun f h => ?_
  refine c_seq fun K1 hK1 => ?_
  refine c_region ?_
  refine s_pure h (ru_assign (h.ev rfl)) rfl ?_; intro f h
  refine s_nil ?_
  refine hK1 _ _ ?_
  refine c_seq fun K2 hK2 => ?_
  refine c_seq fun K3 hK3 => ?_
  refine c_region ?_
  refine s_pure h (ru_move (h.ev rfl)) rfl ?_; intro f h
  refine s_pure h (ru_nilCheck (h.ev rfl)) rfl ?_; intro f h
  refine s_pure h (ru_field fld58_0 (h.ev rfl)) rfl ?_; intro f h
  refine s_load_at1 (cell_of_has (Has.of_own s 0 rfl) 0 (rfl)) h one9 rfl rfl ?_; intro f h
  refine s_pure h (ru_len_str Try.underlying9 (h.ev rfl)) rfl ?_; intro f h
  refine s_pure h (ru_gtr (h.ev rfl) (h.ev rfl)) rfl ?_; intro f h
  refine s_nil ?_
  refine hK3 _ _ ?_
  refine c_cond h rfl (fun hc => ?_) (fun hc => ?_)
  · replace hc := of_decide_eq_true hc
    have hd9 : ¬ r.size ≤ 64 := by omega
    refine c_regionX 1 rfl rfl rfl ?_
    refine s_pure h (ru_makeIface Try.underlying30 rfl (h.ev rfl)) rfl ?_; intro f h
    refine s_nil ?_
    refine x_panic h rfl ?_
    refine t_panic ?_
    exact e_panicF h (.inr ⟨decide_eq_false hd9, _, rfl, rfl, s⟩)
  · replace hc := of_decide_eq_false hc
    have hd9 : r.size ≤ 64 := by omega
    refine wpIn_skip ?_
    refine hK2 _ _ ?_
    refine c_seq fun K4 hK4 => ?_
    refine c_region ?_
    refine s_pure h (ru_move (h.ev rfl)) rfl ?_; intro f h
    refine s_pure h (ru_move (h.ev rfl)) rfl ?_; intro f h
    refine s_pure h (ru_nilCheck (h.ev rfl)) rfl ?_; intro f h
    refine s_pure h (ru_field fld58_0 (h.ev rfl)) rfl ?_; intro f h
    refine s_load_at1 (cell_of_has (Has.of_own s 0 rfl) 0 (rfl)) h one9 rfl rfl ?_; intro f h
    refine s_pure h (ru_len_str Try.underlying9 (h.ev rfl)) rfl ?_; intro f h
    refine s_callS [.pointer (some ⟨bc, 0, none⟩), .int .i64 ((r.size : Nat) : Int)] h fnc36 (MR.yes (mtext_any r r.size hr bc _ _ _ s) (decide_eq_true (Nat.le_refl _))) rfl rfl ?_; rintro f w1 v16 ⟨rfl, s⟩ h
    refine s_pure h (ru_assign (h.ev rfl)) rfl ?_; intro f h
    refine s_nil ?_
    refine hK4 _ _ ?_
    refine wpIn_ret ?_
    exact e_tmpF rfl h rfl (.inl ⟨decide_eq_true hd9, _, rfl, congrArg Value.string (bz_all r), s⟩)

theorem mend_any (r : ByteArray) (bc : Nat) (B9 : List Own) (w0 w : World) (s : St w0 (.blk bc (.cells #[.string (r)] 58) :: B9) w) : Calls Try.prog 38 [.pointer (some ⟨bc, 0, none⟩)].toArray w (MR 30 (decide (r = ⟨#[]⟩)) (fun v w9 => v = .tuple #[] ∧ St w0 (.blk bc (.cells #[.string (r)] 58) :: B9) w9) (fun w9 => St w0 (.blk bc (.cells #[.string (r)] 58) :: B9) w9)) := by
  refine c_enterF Try.func38 rfl Try.ntmps38 rfl [(0, .pointer (some ⟨bc, 0, none⟩))] (by simp) fun f h => ?_
  refine c_seq fun K1 hK1 => ?_
  refine c_region ?_
  refine s_pure h (ru_move (h.ev rfl)) rfl ?_; intro f h
  refine s_pure h (ru_nilCheck (h.ev rfl)) rfl ?_; intro f h
  refine s_pure h (ru_field fld58_0 (h.ev rfl)) rfl ?_; intro f h
  refine s_load_at1 (cell_of_has (Has.of_own s 0 rfl) 0 (rfl)) h one9 rfl rfl ?_; intro f h
  refine s_pure h (ru_neq_str (h.ev rfl) (h.ev rfl)) rfl ?_; intro f h
  refine s_nil ?_
  refine hK1 _ _ ?_
  refine c_cond h rfl (fun hc => ?_) (fun hc => ?_)
  · replace hc := of_decide_eq_true hc
    refine c_regionX 1 rfl rfl rfl ?_
    refine s_pure h (ru_makeIface Try.underlying30 rfl (h.ev rfl)) rfl ?_; intro f h
    refine s_nil ?_
    refine x_panic h rfl ?_
    exact e_panicF h (.inr ⟨decide_eq_false hc, _, rfl, rfl, s⟩)
  · replace hc := of_decide_eq_false hc
    have hc9 : r = ⟨#[]⟩ := Decidable.not_not.1 hc
    refine wpIn_skip ?_
    exact e_noneF_end rfl h (.inl ⟨decide_eq_true hc9, _, rfl, rfl, s⟩)

theorem pcatch_idle (b2 b3 : Nat) (w : World) : CallsDIn (FR none) 0 Try.prog 30 [.pointer (some ⟨b2, 0, none⟩), .pointer (some ⟨b3, 0, none⟩)].toArray .returning w (fun e u' w' => e = .returned (.tuple #[]) ∧ u' = .returning ∧ w' = w) :=
  catch_idle Try.func30 rfl rfl rfl rfl Try.underlying20 rfl rfl
theorem pcatch_panic (b2 b3 : Nat) (B9 : List Own) (C D : Array Value) (w0 w : World) (s : St w0 (.blk b2 (.cells C 28) :: .blk b3 (.cells D 30) :: B9) w) (hC : C.size = 71) (hD : D.size = 1) :
    CallsDIn (FR none) 0 Try.prog 30 [.pointer (some ⟨b2, 0, none⟩), .pointer (some ⟨b3, 0, none⟩)].toArray (.panicking [{ v := .iface 30 (.int .i64 5), recovered := false }]) w (fun e u' w' => e = .returned (.tuple #[]) ∧ u' = .panicking [{ v := .iface 30 (.int .i64 5), recovered := true }] ∧
      St w0 (.blk b2 (.cells (mArr mZ (.slice none 0 0)) 28) :: .blk b3 (.cells (D.setIfInBounds 0 (.int .i64 5)) 30) :: B9) w') := by
  refine catch_panics Try.func30 rfl rfl rfl rfl [(0, .pointer (some ⟨b2, 0, none⟩)), (1, .pointer (some ⟨b3, 0, none⟩))] (by simp) Try.underlying20 rfl rfl (fun a h => ?_)
  refine c_region ?_
  refine s_pure h (ru_build_m0 sttM) rfl ?_; intro f h
  refine s_store_row 0 h s row28 rfl rfl rfl hC (mArr_size _ _) (mArr_ones _ _ rfl) ?_; intro w1 s
  refine s_store_one 1 h s one30 rfl rfl rfl (by rw [hD]; omega) rfl ?_; intro w1 s
  exact s_nil ⟨rfl, h.defers, s⟩

set_option maxHeartbeats 4000000 in
theorem wparse_any (sx : ByteArray) (hsx : sx.size ≤ 100000) (w : World) : Calls Try.prog 15 [.string sx].toArray w (Ret w (fun v w' => ∃ vs, v = .tuple #[.agg (mArr (parM sx) vs), .int .i64 (parE sx)] ∧ Owns w' w.heap.size 25 34 vs (parM sx).l.length (eCells (parM sx).l))) := by
  obtain ⟨hq0, hq1, hq2, hq3, hq4, hq5⟩ := q_le sx
  refine c_enterD Try.func15 rfl Try.ntmps15 rfl [(0, .string sx)] (by simp) fun f h => ?_
  have s := St.start w
  refine c_seq fun K1 hK1 => ?_
  refine c_region ?_
  refine s_alloc (mArr mZ (.slice none 0 0)) h s zero28 rfl rfl ?_; intro f w1 b2 h s
  refine s_alloc (#[.int .i64 0]) h s zero30 rfl rfl ?_; intro f w1 b3 h s
  refine s_nil ?_
  refine hK1 _ _ ?_
  refine c_seq fun K2 hK2 => ?_
  refine c_regionD (fn := 30) (cap := #[.pointer (some ⟨b2, 0, none⟩), .pointer (some ⟨b3, 0, none⟩)]) 1 rfl rfl ?_
  refine s_pure h (ru_makeFunc [.pointer (some ⟨b2, 0, none⟩), .pointer (some ⟨b3, 0, none⟩)] (evsA h rfl)) rfl ?_; intro f h
  refine s_nil ⟨h.ev rfl, ?_⟩
  replace h := h.deferred { target := .fn (.func 30) #[.pointer (some ⟨b2, 0, none⟩), .pointer (some ⟨b3, 0, none⟩)], args := #[] }
  refine hK2 _ _ ?_
  refine c_seq fun K3 hK3 => ?_
  refine c_region ?_
  refine s_pure h (ru_move (h.ev rfl)) rfl ?_; intro f h
  refine s_pure h (ru_build_st sttC [(0, .string sx)] (evP h rfl) (by intro i v hiv; simp only [List.mem_cons, Prod.mk.injEq, List.not_mem_nil, or_false] at hiv; obtain ⟨rfl, rfl⟩ := hiv; exact ⟨_, rfl, rfl⟩) (D := [.string sx]) rfl) rfl ?_; intro f h
  refine s_alloc (#[.string ⟨#[]⟩]) h s zero58 rfl rfl ?_; intro f w1 b4 h s
  refine s_store_row 0 h s row58 rfl rfl rfl (rfl) (rfl) (one_str _) ?_; intro w1 s
  refine s_nil ?_
  refine hK3 _ _ ?_
  refine c_seq fun K4 hK4 => ?_
  cases hK : (okK sx : Bool)
  · skip
    refine c_regionX 0 rfl rfl rfl ?_
    refine s_nil ?_
    refine x_call h fnc31 (MR.no (mkind_any sx b4 _ _ _ s) hK) rfl ?_; rintro ch w1 ⟨rfl, _, s⟩
    refine t_panic ?_
    refine e_door_panic (cap := [.pointer (some ⟨b2, 0, none⟩), .pointer (some ⟨b3, 0, none⟩)]) (v := .iface 30 (.int .i64 5)) h fnc30 (pcatch_panic b2 b3 [] _ _ _ _ (s.sel [2, 1] rfl (by decide)) (mArr_size _ _) rfl) (fun w9 s => ?_)
    exact ⟨_, res_row_one 0 1 rfl h s row28 one30 rfl rfl rfl rfl (mArr_size _ _) rfl, _, rfl, par_bad (bad_K hK), s.ext⟩
  · skip
    refine c_region ?_
    refine s_callS [.pointer (some ⟨b4, 0, none⟩)] h fnc31 (MR.yes (mkind_any sx b4 _ _ _ s) hK) rfl rfl ?_; rintro f w1 v10 ⟨rfl, s⟩ h
    refine s_pure h (ru_field fld28_0 (h.ev rfl)) rfl ?_; intro f h
    refine s_store_one 2 h s one3 rfl rfl rfl (by rw [mArr_size]; omega) (rfl) ?_; intro w1 s
    replace s := s.recell 2 rfl (mArr_setK _ _ _)
    refine s_nil ?_
    refine hK4 _ _ ?_
    refine c_seq fun K5 hK5 => ?_
    refine c_region ?_
    refine s_pure h (ru_field fld28_0 (h.ev rfl)) rfl ?_; intro f h
    refine s_load_at1 (cell_of_has (Has.of_own s 2 rfl) 0 (mArr_k _ _)) h one3 rfl rfl ?_; intro f h
    refine s_call h s fnc17 (fields_any _ _) rfl rfl ?_; intro f w1 v9 hT hE h s; obtain rfl := hT
    refine s_pure h (ru_move (h.ev rfl)) rfl ?_; intro f h
    refine s_pure h (ru_extract (h.ev rfl) rfl) rfl ?_; intro f h
    refine s_pure h (ru_extract (h.ev rfl) rfl) rfl ?_; intro f h
    refine s_alloc (fArr 0) h s zero44 rfl rfl ?_; intro f w1 b5 h s
    refine s_store_row 0 h s row44 rfl rfl rfl (rfl) (rfl) (fArr_ones _) ?_; intro w1 s
    refine s_pure h (ru_assign (h.ev rfl)) rfl ?_; intro f h
    refine s_nil ?_
    refine hK5 _ _ ?_
    refine c_seq fun K6 hK6 => ?_
    refine c_seq fun K7 hK7 => ?_
    refine c_region ?_
    refine s_pure h (ru_field fld44_0 (h.ev rfl)) rfl ?_; intro f h
    refine s_load_at1 (cell_of_has (Has.of_own s 0 rfl) 0 (rfl)) h one4 rfl rfl ?_; intro f h
    refine s_nil ?_
    refine hK7 _ _ ?_
    refine c_join (fun aa ww => Sl 44 aa [(0, .string sx), (2, .pointer (some ⟨b2, 0, none⟩)), (3, .pointer (some ⟨b3, 0, none⟩)), (4, .pointer (some ⟨b4, 0, none⟩)), (5, .pointer (some ⟨b5, 0, none⟩))] [{ target := .fn (.func 30) #[.pointer (some ⟨b2, 0, none⟩), .pointer (some ⟨b3, 0, none⟩)], args := #[] }] ∧ St w [.blk b5 (.cells (fArr (kS sx)) 44), .blk b4 (.cells (#[.string (q1 sx)]) 58), .blk b3 (.cells (#[.int .i64 0]) 30), .blk b2 (.cells (mArr (p2 sx) (.slice none 0 0)) 28)] ww ∧ okI (kS sx) (q0 sx) = true) ?_ ?_
    · skip
      refine c_cond h rfl (fun hc => ?_) (fun hc => ?_)
      · cases hb : (decide (32 ≤ (q0 sx).size) : Bool)
        · skip
          refine c_regionX 0 rfl rfl rfl ?_
          refine s_nil ?_
          refine x_call h fnc32 (MR.no (mid_any (q0 sx) (by omega) b4 _ _ _ (s.sel [1, 0, 2, 3] rfl (by decide))) hb) rfl ?_; rintro ch w1 ⟨rfl, s⟩
          refine t_panic ?_
          refine t_panic ?_
          refine e_door_panic (cap := [.pointer (some ⟨b2, 0, none⟩), .pointer (some ⟨b3, 0, none⟩)]) (v := .iface 30 (.int .i64 5)) h fnc30 (pcatch_panic b2 b3 [] _ _ _ _ (s.sel [3, 2] rfl (by decide)) (mArr_size _ _) rfl) (fun w9 s => ?_)
          exact ⟨_, res_row_one 0 1 rfl h s row28 one30 rfl rfl rfl rfl (mArr_size _ _) rfl, _, rfl, par_bad (bad_I hc hb), s.ext⟩
        · skip
          refine c_region ?_
          refine s_callS [.pointer (some ⟨b4, 0, none⟩)] h fnc32 (MR.yes (mid_any (q0 sx) (by omega) b4 _ _ _ (s.sel [1, 0, 2, 3] rfl (by decide))) hb) rfl rfl ?_; rintro f w1 v20 ⟨rfl, s⟩ h
          refine s_pure h (ru_field fld28_1 (h.ev rfl)) rfl ?_; intro f h
          refine s_store_sub 3 h s row23 rfl rfl rfl (by first | exact idArr_size _ | exact bytesF_size _ _) (by rw [mArr_size]; omega) (by first | exact idArr_ones _ | exact bytesF_ones _ _) ?_; intro w1 s
          replace s := s.recell 3 rfl ((mArr_splI _ _ _).trans (congrArg (fun x => mArr x _) (p2_t hc)))
          refine s_nil ?_
          refine t_norm ?_
          exact ⟨h.only ⟨rfl, rfl, rfl, rfl, rfl, trivial⟩, St.as (s.sel [1, 0, 2, 3] rfl (by decide)) ⟨rfl, cells_eq (congrArg (fun x => #[Value.string x]) (q1_t hc)), rfl, rfl, trivial⟩, good_I hc hb⟩
      · refine wpIn_skip ?_
        refine t_norm ?_
        exact ⟨h.only ⟨rfl, rfl, rfl, rfl, rfl, trivial⟩, St.as (s.pick _ (List.Sublist.cons_cons _ (List.Sublist.cons_cons _ (List.Sublist.cons_cons _ (List.Sublist.cons_cons _ (List.nil_sublist _)))))) ⟨rfl, cells_eq (congrArg (fun x => #[Value.string x]) (q1_f hc)), rfl, cells_eq (congrArg (fun x => mArr x _) (p2_f hc)), trivial⟩, good_I' hc⟩
    rintro f w1 ⟨h, s, hI1⟩
    refine hK6 _ _ ?_
    refine c_seq fun K9 hK9 => ?_
    refine c_seq fun K10 hK10 => ?_
    refine c_region ?_
    refine s_pure h (ru_field fld44_1 (h.ev rfl)) rfl ?_; intro f h
    refine s_load_at1 (cell_of_has (Has.of_own s 0 rfl) 1 (rfl)) h one4 rfl rfl ?_; intro f h
    refine s_nil ?_
    refine hK10 _ _ ?_
    refine c_join (fun aa ww => Sl 44 aa [(0, .string sx), (2, .pointer (some ⟨b2, 0, none⟩)), (3, .pointer (some ⟨b3, 0, none⟩)), (4, .pointer (some ⟨b4, 0, none⟩)), (5, .pointer (some ⟨b5, 0, none⟩))] [{ target := .fn (.func 30) #[.pointer (some ⟨b2, 0, none⟩), .pointer (some ⟨b3, 0, none⟩)], args := #[] }] ∧ St w [.blk b5 (.cells (fArr (kS sx)) 44), .blk b4 (.cells (#[.string (q2 sx)]) 58), .blk b3 (.cells (#[.int .i64 0]) 30), .blk b2 (.cells (mArr (p3 sx) (.slice none 0 0)) 28)] ww ∧ okT (kS sx) (q1 sx) = true) ?_ ?_
    · skip
      refine c_cond h rfl (fun hc => ?_) (fun hc => ?_)
      · cases hb : (okTg (q1 sx) : Bool)
        · skip
          refine c_regionX 0 rfl rfl rfl ?_
          refine s_nil ?_
          refine x_call h fnc33 (MR.no (mtarget_any (q1 sx) (by omega) b4 _ _ _ (s.sel [1, 0, 2, 3] rfl (by decide))) hb) rfl ?_; rintro ch w1 ⟨rfl, _, s⟩
          refine t_panic ?_
          refine t_panic ?_
          refine e_door_panic (cap := [.pointer (some ⟨b2, 0, none⟩), .pointer (some ⟨b3, 0, none⟩)]) (v := .iface 30 (.int .i64 5)) h fnc30 (pcatch_panic b2 b3 [] _ _ _ _ (s.sel [3, 2] rfl (by decide)) (mArr_size _ _) rfl) (fun w9 s => ?_)
          exact ⟨_, res_row_one 0 1 rfl h s row28 one30 rfl rfl rfl rfl (mArr_size _ _) rfl, _, rfl, par_bad (bad_T hc hb), s.ext⟩
        · skip
          refine c_region ?_
          refine s_callS [.pointer (some ⟨b4, 0, none⟩)] h fnc33 (MR.yes (mtarget_any (q1 sx) (by omega) b4 _ _ _ (s.sel [1, 0, 2, 3] rfl (by decide))) hb) rfl rfl ?_; rintro f w1 v24 ⟨rfl, s⟩ h
          refine s_pure h (ru_field fld28_2 (h.ev rfl)) rfl ?_; intro f h
          refine s_store_sub 3 h s row25 rfl rfl rfl (eArr_size _) (by rw [mArr_size]; omega) (eArr_ones _) ?_; intro w1 s
          replace s := s.recell 3 rfl ((mArr_splT _ _ _).trans (congrArg (fun x => mArr x _) (p3_t hc)))
          refine s_nil ?_
          refine t_norm ?_
          exact ⟨h.only ⟨rfl, rfl, rfl, rfl, rfl, trivial⟩, St.as (s.sel [1, 0, 2, 3] rfl (by decide)) ⟨rfl, cells_eq (congrArg (fun x => #[Value.string x]) (q2_t hc)), rfl, rfl, trivial⟩, good_T hc hb⟩
      · refine wpIn_skip ?_
        refine t_norm ?_
        exact ⟨h.only ⟨rfl, rfl, rfl, rfl, rfl, trivial⟩, St.as (s.pick _ (List.Sublist.cons_cons _ (List.Sublist.cons_cons _ (List.Sublist.cons_cons _ (List.Sublist.cons_cons _ (List.nil_sublist _)))))) ⟨rfl, cells_eq (congrArg (fun x => #[Value.string x]) (q2_f hc)), rfl, cells_eq (congrArg (fun x => mArr x _) (p3_f hc)), trivial⟩, good_T' hc⟩
    rintro f w1 ⟨h, s, hT1⟩
    refine hK9 _ _ ?_
    refine c_seq fun K12 hK12 => ?_
    refine c_seq fun K13 hK13 => ?_
    refine c_region ?_
    refine s_pure h (ru_field fld44_2 (h.ev rfl)) rfl ?_; intro f h
    refine s_load_at1 (cell_of_has (Has.of_own s 0 rfl) 2 (rfl)) h one4 rfl rfl ?_; intro f h
    refine s_nil ?_
    refine hK13 _ _ ?_
    refine c_join (fun aa ww => ∃ vq : Value, Sl 44 aa [(0, .string sx), (2, .pointer (some ⟨b2, 0, none⟩)), (3, .pointer (some ⟨b3, 0, none⟩)), (4, .pointer (some ⟨b4, 0, none⟩)), (5, .pointer (some ⟨b5, 0, none⟩))] [{ target := .fn (.func 30) #[.pointer (some ⟨b2, 0, none⟩), .pointer (some ⟨b3, 0, none⟩)], args := #[] }] ∧ St w [.blk b5 (.cells (fArr (kS sx)) 44), .blk b4 (.cells (#[.string (q3 sx)]) 58), .blk b3 (.cells (#[.int .i64 0]) 30), .blk b2 (.cells (mArr (p4 sx) vq) 28), .sl vq 25 34 (vS (kS sx) (q2 sx)).length (eCells (vS (kS sx) (q2 sx)))] ww ∧ okS (kS sx) (q2 sx) = true) ?_ ?_
    · skip
      refine c_cond h rfl (fun hc => ?_) (fun hc => ?_)
      · cases hb : (decide ((readM (q2 sx)).1 = 0) : Bool)
        · skip
          refine c_regionX 0 rfl rfl rfl ?_
          refine s_nil ?_
          refine x_call h fnc34 (MR.no (mentries_any (q2 sx) (by omega) b4 _ _ _ (s.sel [1, 0, 2, 3] rfl (by decide))) hb) rfl ?_; rintro ch w1 ⟨rfl, s⟩
          refine t_panic ?_
          refine t_panic ?_
          refine e_door_panic (cap := [.pointer (some ⟨b2, 0, none⟩), .pointer (some ⟨b3, 0, none⟩)]) (v := .iface 30 (.int .i64 5)) h fnc30 (pcatch_panic b2 b3 [] _ _ _ _ (s.sel [3, 2] rfl (by decide)) (mArr_size _ _) rfl) (fun w9 s => ?_)
          exact ⟨_, res_row_one 0 1 rfl h s row28 one30 rfl rfl rfl rfl (mArr_size _ _) rfl, _, rfl, par_bad (bad_S hc hb), s.ext⟩
        · skip
          refine c_region ?_
          refine s_callS [.pointer (some ⟨b4, 0, none⟩)] h fnc34 (MR.yes (mentries_any (q2 sx) (by omega) b4 _ _ _ (s.sel [1, 0, 2, 3] rfl (by decide))) hb) rfl rfl ?_; rintro f w1 vx s h
          refine s_pure h (ru_field fld28_3 (h.ev rfl)) rfl ?_; intro f h
          refine s_store_one 4 h s one26 rfl rfl rfl (by rw [mArr_size]; omega) (own_one (s.getSl 0 rfl)) ?_; intro w1 s
          replace s := s.recell 4 rfl ((mArr_setV _ _ _ (readM (q2 sx)).2.1).trans (congrArg (fun x => mArr x _) (p4_t hc)))
          refine s_nil ?_
          refine t_norm ?_
          exact ⟨vx, h.only ⟨rfl, rfl, rfl, rfl, rfl, trivial⟩, St.as (s.sel [2, 1, 3, 4, 0] rfl (by decide)) ⟨rfl, cells_eq (congrArg (fun x => #[Value.string x]) (q3_t hc)), rfl, rfl, sl_eq (congrArg List.length (vS_t hc)) (congrArg eCells (vS_t hc)), trivial⟩, good_S hc hb⟩
      · refine wpIn_skip ?_
        refine t_norm ?_
        replace s := s.nilSl 25 34
        exact ⟨(Value.slice none 0 0), h.only ⟨rfl, rfl, rfl, rfl, rfl, trivial⟩, St.as (s.sel [1, 2, 3, 4, 0] rfl (by decide)) ⟨rfl, cells_eq (congrArg (fun x => #[Value.string x]) (q3_f hc)), rfl, cells_eq (congrArg (fun x => mArr x _) (p4_f hc)), sl_eq (congrArg List.length (vS_f hc)) (congrArg eCells (vS_f hc)), trivial⟩, good_S' hc⟩
    rintro f w1 ⟨vq, h, s, hS1⟩
    refine hK12 _ _ ?_
    refine c_seq fun K15 hK15 => ?_
    refine c_seq fun K16 hK16 => ?_
    refine c_region ?_
    refine s_pure h (ru_field fld44_3 (h.ev rfl)) rfl ?_; intro f h
    refine s_load_at1 (cell_of_has (Has.of_own s 0 rfl) 3 (rfl)) h one4 rfl rfl ?_; intro f h
    refine s_nil ?_
    refine hK16 _ _ ?_
    refine c_join (fun aa ww => Sl 44 aa [(0, .string sx), (2, .pointer (some ⟨b2, 0, none⟩)), (3, .pointer (some ⟨b3, 0, none⟩)), (4, .pointer (some ⟨b4, 0, none⟩)), (5, .pointer (some ⟨b5, 0, none⟩))] [{ target := .fn (.func 30) #[.pointer (some ⟨b2, 0, none⟩), .pointer (some ⟨b3, 0, none⟩)], args := #[] }] ∧ St w [.blk b5 (.cells (fArr (kS sx)) 44), .blk b4 (.cells (#[.string (q4 sx)]) 58), .blk b3 (.cells (#[.int .i64 0]) 30), .blk b2 (.cells (mArr (p5 sx) vq) 28), .sl vq 25 34 (vS (kS sx) (q2 sx)).length (eCells (vS (kS sx) (q2 sx)))] ww ∧ okN (kS sx) (q3 sx) = true) ?_ ?_
    · skip
      refine c_cond h rfl (fun hc => ?_) (fun hc => ?_)
      · cases hb : (okNm (q3 sx) : Bool)
        · skip
          refine c_regionX 0 rfl rfl rfl ?_
          refine s_nil ?_
          refine x_call h fnc35 (MR.no (mnumber_any (q3 sx) (by omega) b4 _ _ _ (s.sel [1, 0, 2, 3, 4] rfl (by decide))) hb) rfl ?_; rintro ch w1 ⟨rfl, _, s⟩
          refine t_panic ?_
          refine t_panic ?_
          refine e_door_panic (cap := [.pointer (some ⟨b2, 0, none⟩), .pointer (some ⟨b3, 0, none⟩)]) (v := .iface 30 (.int .i64 5)) h fnc30 (pcatch_panic b2 b3 [] _ _ _ _ (s.sel [3, 2] rfl (by decide)) (mArr_size _ _) rfl) (fun w9 s => ?_)
          exact ⟨_, res_row_one 0 1 rfl h s row28 one30 rfl rfl rfl rfl (mArr_size _ _) rfl, _, rfl, par_bad (bad_N hc hb), s.ext⟩
        · skip
          refine c_region ?_
          refine s_callS [.pointer (some ⟨b4, 0, none⟩)] h fnc35 (MR.yes (mnumber_any (q3 sx) (by omega) b4 _ _ _ (s.sel [1, 0, 2, 3, 4] rfl (by decide))) hb) rfl rfl ?_; rintro f w1 v32 ⟨rfl, s⟩ h
          refine s_pure h (ru_field fld28_4 (h.ev rfl)) rfl ?_; intro f h
          refine s_store_one 3 h s one3 rfl rfl rfl (by rw [mArr_size]; omega) (rfl) ?_; intro w1 s
          replace s := s.recell 3 rfl ((mArr_setN _ _ _).trans (congrArg (fun x => mArr x _) (p5_t hc)))
          refine s_nil ?_
          refine t_norm ?_
          exact ⟨h.only ⟨rfl, rfl, rfl, rfl, rfl, trivial⟩, St.as (s.sel [1, 0, 2, 3, 4] rfl (by decide)) ⟨rfl, cells_eq (congrArg (fun x => #[Value.string x]) (q4_t hc)), rfl, rfl, rfl, trivial⟩, good_N hc hb⟩
      · refine wpIn_skip ?_
        refine t_norm ?_
        exact ⟨h.only ⟨rfl, rfl, rfl, rfl, rfl, trivial⟩, St.as (s.pick _ (List.Sublist.cons_cons _ (List.Sublist.cons_cons _ (List.Sublist.cons_cons _ (List.Sublist.cons_cons _ (List.Sublist.cons_cons _ (List.nil_sublist _))))))) ⟨rfl, cells_eq (congrArg (fun x => #[Value.string x]) (q4_f hc)), rfl, cells_eq (congrArg (fun x => mArr x _) (p5_f hc)), rfl, trivial⟩, good_N' hc⟩
    rintro f w1 ⟨h, s, hN1⟩
    refine hK15 _ _ ?_
    refine c_seq fun K18 hK18 => ?_
    refine c_seq fun K19 hK19 => ?_
    refine c_region ?_
    refine s_pure h (ru_field fld44_4 (h.ev rfl)) rfl ?_; intro f h
    refine s_load_at1 (cell_of_has (Has.of_own s 0 rfl) 4 (rfl)) h one4 rfl rfl ?_; intro f h
    refine s_nil ?_
    refine hK19 _ _ ?_
    refine c_join (fun aa ww => Sl 44 aa [(0, .string sx), (2, .pointer (some ⟨b2, 0, none⟩)), (3, .pointer (some ⟨b3, 0, none⟩)), (4, .pointer (some ⟨b4, 0, none⟩)), (5, .pointer (some ⟨b5, 0, none⟩))] [{ target := .fn (.func 30) #[.pointer (some ⟨b2, 0, none⟩), .pointer (some ⟨b3, 0, none⟩)], args := #[] }] ∧ St w [.blk b5 (.cells (fArr (kS sx)) 44), .blk b4 (.cells (#[.string (q5 sx)]) 58), .blk b3 (.cells (#[.int .i64 0]) 30), .blk b2 (.cells (mArr (p6 sx) vq) 28), .sl vq 25 34 (vS (kS sx) (q2 sx)).length (eCells (vS (kS sx) (q2 sx)))] ww ∧ okO (kS sx) (q4 sx) = true) ?_ ?_
    · skip
      refine c_cond h rfl (fun hc => ?_) (fun hc => ?_)
      · cases hb : (decide (16 ≤ (q4 sx).size) : Bool)
        · skip
          refine c_regionX 0 rfl rfl rfl ?_
          refine s_nil ?_
          refine x_call h fnc36 (MR.no (mtext_any (q4 sx) 16 (by omega) b4 _ _ _ (s.sel [1, 0, 2, 3, 4] rfl (by decide))) hb) rfl ?_; rintro ch w1 ⟨rfl, s⟩
          refine t_panic ?_
          refine t_panic ?_
          refine e_door_panic (cap := [.pointer (some ⟨b2, 0, none⟩), .pointer (some ⟨b3, 0, none⟩)]) (v := .iface 30 (.int .i64 5)) h fnc30 (pcatch_panic b2 b3 [] _ _ _ _ (s.sel [3, 2] rfl (by decide)) (mArr_size _ _) rfl) (fun w9 s => ?_)
          exact ⟨_, res_row_one 0 1 rfl h s row28 one30 rfl rfl rfl rfl (mArr_size _ _) rfl, _, rfl, par_bad (bad_O hc hb), s.ext⟩
        · skip
          refine c_region ?_
          refine s_callS [.pointer (some ⟨b4, 0, none⟩), .int .i64 ((16 : Nat) : Int)] h fnc36 (MR.yes (mtext_any (q4 sx) 16 (by omega) b4 _ _ _ (s.sel [1, 0, 2, 3, 4] rfl (by decide))) hb) rfl rfl ?_; rintro f w1 v36 ⟨rfl, s⟩ h
          refine s_pure h (ru_field fld28_5 (h.ev rfl)) rfl ?_; intro f h
          refine s_store_one 3 h s one9 rfl rfl rfl (by rw [mArr_size]; omega) (rfl) ?_; intro w1 s
          replace s := s.recell 3 rfl ((mArr_setO _ _ _).trans (congrArg (fun x => mArr x _) (p6_t hc)))
          refine s_nil ?_
          refine t_norm ?_
          exact ⟨h.only ⟨rfl, rfl, rfl, rfl, rfl, trivial⟩, St.as (s.sel [1, 0, 2, 3, 4] rfl (by decide)) ⟨rfl, cells_eq (congrArg (fun x => #[Value.string x]) (q5_t hc)), rfl, rfl, rfl, trivial⟩, good_O hc hb⟩
      · refine wpIn_skip ?_
        refine t_norm ?_
        exact ⟨h.only ⟨rfl, rfl, rfl, rfl, rfl, trivial⟩, St.as (s.pick _ (List.Sublist.cons_cons _ (List.Sublist.cons_cons _ (List.Sublist.cons_cons _ (List.Sublist.cons_cons _ (List.Sublist.cons_cons _ (List.nil_sublist _))))))) ⟨rfl, cells_eq (congrArg (fun x => #[Value.string x]) (q5_f hc)), rfl, cells_eq (congrArg (fun x => mArr x _) (p6_f hc)), rfl, trivial⟩, good_O' hc⟩
    rintro f w1 ⟨h, s, hO1⟩
    refine hK18 _ _ ?_
    refine c_seq fun K21 hK21 => ?_
    refine c_seq fun K22 hK22 => ?_
    refine c_region ?_
    refine s_pure h (ru_field fld44_5 (h.ev rfl)) rfl ?_; intro f h
    refine s_load_at1 (cell_of_has (Has.of_own s 0 rfl) 5 (rfl)) h one4 rfl rfl ?_; intro f h
    refine s_nil ?_
    refine hK22 _ _ ?_
    refine c_join (fun aa ww => Sl 44 aa [(0, .string sx), (2, .pointer (some ⟨b2, 0, none⟩)), (3, .pointer (some ⟨b3, 0, none⟩)), (4, .pointer (some ⟨b4, 0, none⟩)), (5, .pointer (some ⟨b5, 0, none⟩))] [{ target := .fn (.func 30) #[.pointer (some ⟨b2, 0, none⟩), .pointer (some ⟨b3, 0, none⟩)], args := #[] }] ∧ St w [.blk b5 (.cells (fArr (kS sx)) 44), .blk b4 (.cells (#[.string (q6 sx)]) 58), .blk b3 (.cells (#[.int .i64 0]) 30), .blk b2 (.cells (mArr (p7 sx) vq) 28), .sl vq 25 34 (vS (kS sx) (q2 sx)).length (eCells (vS (kS sx) (q2 sx)))] ww ∧ okD (kS sx) (q5 sx) = true) ?_ ?_
    · skip
      refine c_cond h rfl (fun hc => ?_) (fun hc => ?_)
      · cases hb : (decide ((q5 sx).size ≤ 64) : Bool)
        · skip
          refine c_regionX 0 rfl rfl rfl ?_
          refine s_nil ?_
          refine x_call h fnc37 (MR.no (mdata_any (q5 sx) (by omega) b4 _ _ _ (s.sel [1, 0, 2, 3, 4] rfl (by decide))) hb) rfl ?_; rintro ch w1 ⟨rfl, s⟩
          refine t_panic ?_
          refine t_panic ?_
          refine e_door_panic (cap := [.pointer (some ⟨b2, 0, none⟩), .pointer (some ⟨b3, 0, none⟩)]) (v := .iface 30 (.int .i64 5)) h fnc30 (pcatch_panic b2 b3 [] _ _ _ _ (s.sel [3, 2] rfl (by decide)) (mArr_size _ _) rfl) (fun w9 s => ?_)
          exact ⟨_, res_row_one 0 1 rfl h s row28 one30 rfl rfl rfl rfl (mArr_size _ _) rfl, _, rfl, par_bad (bad_D hc hb), s.ext⟩
        · skip
          refine c_region ?_
          refine s_callS [.pointer (some ⟨b4, 0, none⟩)] h fnc37 (MR.yes (mdata_any (q5 sx) (by omega) b4 _ _ _ (s.sel [1, 0, 2, 3, 4] rfl (by decide))) hb) rfl rfl ?_; rintro f w1 v40 ⟨rfl, s⟩ h
          refine s_pure h (ru_field fld28_6 (h.ev rfl)) rfl ?_; intro f h
          refine s_store_one 3 h s one9 rfl rfl rfl (by rw [mArr_size]; omega) (rfl) ?_; intro w1 s
          replace s := s.recell 3 rfl ((mArr_setD _ _ _).trans (congrArg (fun x => mArr x _) (p7_t hc)))
          refine s_nil ?_
          refine t_norm ?_
          exact ⟨h.only ⟨rfl, rfl, rfl, rfl, rfl, trivial⟩, St.as (s.sel [1, 0, 2, 3, 4] rfl (by decide)) ⟨rfl, cells_eq (congrArg (fun x => #[Value.string x]) (q6_t hc)), rfl, rfl, rfl, trivial⟩, good_D hc hb⟩
      · refine wpIn_skip ?_
        refine t_norm ?_
        exact ⟨h.only ⟨rfl, rfl, rfl, rfl, rfl, trivial⟩, St.as (s.pick _ (List.Sublist.cons_cons _ (List.Sublist.cons_cons _ (List.Sublist.cons_cons _ (List.Sublist.cons_cons _ (List.Sublist.cons_cons _ (List.nil_sublist _))))))) ⟨rfl, cells_eq (congrArg (fun x => #[Value.string x]) (q6_f hc)), rfl, cells_eq (congrArg (fun x => mArr x _) (p7_f hc)), rfl, trivial⟩, good_D' hc⟩
    rintro f w1 ⟨h, s, hD1⟩
    refine hK21 _ _ ?_
    refine c_seq fun K24 hK24 => ?_
    cases hb : (decide (q6 sx = ⟨#[]⟩) : Bool)
    · skip
      refine c_regionX 0 rfl rfl rfl ?_
      refine s_nil ?_
      refine x_call h fnc38 (MR.no (mend_any (q6 sx) b4 _ _ _ (s.sel [1, 0, 2, 3, 4] rfl (by decide))) hb) rfl ?_; rintro ch w1 ⟨rfl, s⟩
      refine t_panic ?_
      refine e_door_panic (cap := [.pointer (some ⟨b2, 0, none⟩), .pointer (some ⟨b3, 0, none⟩)]) (v := .iface 30 (.int .i64 5)) h fnc30 (pcatch_panic b2 b3 [] _ _ _ _ (s.sel [3, 2] rfl (by decide)) (mArr_size _ _) rfl) (fun w9 s => ?_)
      exact ⟨_, res_row_one 0 1 rfl h s row28 one30 rfl rfl rfl rfl (mArr_size _ _) rfl, _, rfl, par_bad (bad_E hb), s.ext⟩
    · skip
      refine c_region ?_
      refine s_callS [.pointer (some ⟨b4, 0, none⟩)] h fnc38 (MR.yes (mend_any (q6 sx) b4 _ _ _ (s.sel [1, 0, 2, 3, 4] rfl (by decide))) hb) rfl rfl ?_; rintro f w1 v42 ⟨rfl, s⟩ h
      refine s_nil ?_
      refine hK24 _ _ ?_
      refine c_seq fun K25 hK25 => ?_
      refine c_region ?_
      refine s_load_row 3 h s row28 rfl rfl (mArr_size _ _) rfl ?_; intro f h
      refine s_store_row 3 h s row28 rfl rfl rfl (mArr_size _ _) (mArr_size _ _) (mArr_ones _ _ (own_one (s.getSl 4 rfl))) ?_; intro w1 s
      refine s_store_one 2 h s one30 rfl rfl rfl (by simp) (rfl) ?_; intro w1 s
      refine s_nil ?_
      refine hK25 _ _ ?_
      refine wpIn_ret ?_
      refine e_door_ret (cap := [.pointer (some ⟨b2, 0, none⟩), .pointer (some ⟨b3, 0, none⟩)]) h fnc30 (pcatch_idle b2 b3 _) ⟨_, res_row_one 3 2 rfl h s row28 one30 rfl rfl rfl rfl (mArr_size _ _) rfl, _, rfl, ?_, s.ext⟩
      exact par_good (good_P hK hI1 hT1 hS1 hN1 hO1 hD1 hb) (s.getSl 4 rfl)
end Go.Proofs.Ytaehgcdcfbhohaa
