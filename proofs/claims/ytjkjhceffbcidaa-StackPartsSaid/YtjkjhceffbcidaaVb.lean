/- The bytes of a stack: package stack and its reference; what is read of a text: package stack and its reference (texts of at most 100000 bytes). -/
import Derived.Test.YtjkjhceffbcidaaVa
set_option linter.unusedVariables false
set_option linter.unusedSimpArgs false
set_option linter.unusedSectionVars false
namespace Go.Proofs.Ytjkjhceffbcidaa
open Go.RowKit
theorem text_ok (l : List Ent) (hr : rightE l = true) (vh : Value) (w : World) (hv : RdZ w vh 34 l.length (eCells l)) : Calls Try.prog 9 [vh].toArray w (Ret w (is (.tuple #[.string (textE l), .int .i64 0]))) := by
  obtain ⟨hr1, hr2, hr3⟩ := (rightE_iff l).1 hr
  refine c_enter Try.func9 rfl Try.ntmps9 rfl [(0, vh)] (by simp) fun f h => ?_
  have s := St.start w
  refine c_seq fun K1 hK1 => ?_
  refine c_region ?_
  refine s_pure h (ru_assign (h.ev rfl)) rfl ?_; intro f h
  refine s_pure h (ru_assign (h.ev rfl)) rfl ?_; intro f h
  refine s_nil ?_
  refine hK1 _ _ ?_
  refine c_seq fun K2 hK2 => ?_
  refine c_seq fun K3 hK3 => ?_
  refine c_region ?_
  refine s_pure h (ru_move (h.ev rfl)) rfl ?_; intro f h
  refine s_call h s fnc12 (ret_val (.bool true) (right_any l vh _ (hv.keep s.ext) (by omega)) (congrArg Value.bool hr)) rfl rfl ?_; intro f w1 v9 hT hE h s; obtain rfl := hT
  refine s_pure h (ru_val (.bool false) (ru_not (h.ev rfl)) rfl) rfl ?_; intro f h
  refine s_nil ?_
  refine hK3 _ _ ?_
  refine wpIn_cond_false (h.ev rfl) ?_
  refine wpIn_skip ?_
  refine hK2 _ _ ?_
  refine c_seq fun K4 hK4 => ?_
  refine c_region ?_
  refine s_pure h (ru_move (h.ev rfl)) rfl ?_; intro f h
  refine s_pure h (ru_lenZ (hv.keep s.ext) Try.underlying22 (h.ev rfl)) rfl ?_; intro f h
  refine s_pure h (ru_val (.int .u8 ((l.length : Nat) : Int)) (ru_conv_u8 Try.underlying3 Try.underlying5 (h.ev rfl)) (congrArg (Value.int .u8) (by omega))) rfl ?_; intro f h
  refine s_bslice (vs := [.int .u8 ((l.length : Nat) : Int)]) [.tmp 12] h s Try.underlying47 elm5 rfl rfl (by simp [Value.cells]) rfl rfl rfl ?_; intro f w1 v13 h s
  refine s_pure h (ru_assign (h.ev rfl)) rfl ?_; intro f h
  refine s_nil ?_
  refine hK4 _ _ ?_
  refine c_seq fun K5 hK5 => ?_
  refine c_seq fun K6 hK6 => ?_
  refine c_region ?_
  refine s_pure h (ru_move (h.ev rfl)) rfl ?_; intro f h
  refine s_pure h (ru_lenZ (hv.keep s.ext) Try.underlying22 (h.ev rfl)) rfl ?_; intro f h
  refine s_pure h (ru_move (h.ev rfl)) rfl ?_; intro f h
  refine s_nil ?_
  refine hK6 _ _ ?_
  refine wpIn_block ?_
  refine wpIn_loop_ghost (fun nn aa ww => ∃ k : Nat, ∃ vb : Value, Sl 42 aa [(0, vh), (4, vb), (14, vh), (15, .int .i64 (l.length : Int)), (16, .int .i64 (k : Int))] ∧ St w [.sl vb 5 1 (textK l k).length (byL (textK l k))] ww ∧ nn = l.length - k ∧ k ≤ l.length) (l.length - (0)) ⟨0, v13, h.only ⟨rfl, rfl, rfl, rfl, slot_int rfl (by omega), trivial⟩, s.as ⟨sl_eq rfl rfl, trivial⟩, rfl, Nat.zero_le _⟩ ?_
  rintro _ f w1 ⟨k, vb, h, s, hnn, hp0⟩
  have hkb := textK_len l k
  refine c_seq fun K7 hK7 => ?_
  refine c_region ?_
  refine s_pure h (ru_lss (h.ev rfl) (h.ev rfl)) rfl ?_; intro f h
  refine s_nil ?_
  refine hK7 _ _ ?_
  refine c_seq fun K8 hK8 => ?_
  refine c_cond h rfl (fun hc => ?_) (fun hc => ?_)
  · replace hc := of_decide_eq_true hc
    refine wpIn_skip ?_
    refine hK8 _ _ ?_
    refine c_seq fun K9 hK9 => ?_
    refine wpIn_block ?_
    refine c_seq fun K10 hK10 => ?_
    refine c_region ?_
    have hkl : k < l.length := by omega
    refine s_pure h (ru_ixz (hv.keep s.ext) (k) Try.underlying22 szo26 (h.ev rfl) (h.ev rfl) (by omega) (by omega)) rfl ?_; intro f h
    refine s_load_at ((hv.keep s.ext).el (k) (by omega) (by decide) (D := eArr l[k]) (e_el l k hkl)) h row26 rfl (eArr_size _) rfl ?_; intro f h
    refine s_alloc (eArr (0, 0#256, 0)) h s zero26 rfl rfl ?_; intro f w1 b6 h s
    refine s_store_row 0 h s row26 rfl rfl rfl (eArr_size _) (eArr_size _) (eArr_ones _) ?_; intro w1 s
    refine s_nil ?_
    refine hK10 _ _ ?_
    refine c_seq fun K11 hK11 => ?_
    refine c_region ?_
    refine s_pure h (ru_move (h.ev rfl)) rfl ?_; intro f h
    refine s_pure h (ru_field fld26_0 (h.ev rfl)) rfl ?_; intro f h
    refine s_load_at1 (cell_of_has (Has.of_own s 0 rfl) 0 (eArr_kind _)) h one3 rfl rfl ?_; intro f h
    have hE := hr3 _ (List.getElem_mem hkl)
    have hkk := isE_kind hE
    refine s_pure h (ru_val (.int .u8 ((l[k].1.toNat : Nat) : Int)) (ru_conv_u8 Try.underlying3 Try.underlying5 (h.ev rfl)) (congrArg (Value.int .u8) (by omega))) rfl ?_; intro f h
    refine s_bslice (vs := [.int .u8 ((l[k].1.toNat : Nat) : Int)]) [.tmp 23] h s Try.underlying47 elm5 rfl rfl (by simp [Value.cells]) rfl rfl rfl ?_; intro f w1 v24 h s
    refine s_append 2 0 h s Try.underlying47 elm5 rfl rfl rfl rfl (by decide) (by simp [Value.oneCell', Value.cells]) (by unfold maxLen; omega) (by omega) rfl ?_; intro f w1 v25 h s
    replace s := s.pick _ (List.sublist_cons_self _ _)
    refine s_pure h (ru_assign (h.ev rfl)) rfl ?_; intro f h
    refine s_nil ?_
    refine hK11 _ _ ?_
    refine c_seq fun K12 hK12 => ?_
    refine c_region ?_
    refine s_pure h (ru_field fld26_0 (h.ev rfl)) rfl ?_; intro f h
    refine s_load_at1 (cell_of_has (Has.of_own s 0 rfl) 0 (eArr_kind _)) h one3 rfl rfl ?_; intro f h
    refine s_pure h (ru_eql (h.ev rfl) (h.ev rfl)) rfl ?_; intro f h
    refine s_nil ?_
    refine hK12 _ _ ?_
    refine c_cond h rfl (fun hc => ?_) (fun hc => ?_)
    · replace hc := of_decide_eq_true hc
      refine c_region ?_
      refine s_pure h (ru_move (h.ev rfl)) rfl ?_; intro f h
      refine s_pure h (ru_field fld26_1 (h.ev rfl)) rfl ?_; intro f h
      refine s_pure h (ru_slice_arr_at Try.underlying24 size5 (h.ev rfl)) rfl ?_; intro f h
      refine s_append_rd 1 (RdZ.of_has (Has.subL (o := 0) (Has.of_own s 0 rfl) 1 32 (D := idArr l[k].2.1) (eArr_id _)) (by first | exact bytesF_size _ _ | exact idArr_size _) (Nat.le_refl _)) h s Try.underlying47 elm5 rfl rfl rfl (by rw [idArr_bytes]; exact bytesF_ones _ _) (by unfold maxLen; omega) (by omega) rfl ?_; intro f w1 v32 h s
      refine s_pure h (ru_assign (h.ev rfl)) rfl ?_; intro f h
      refine s_nil ?_
      refine b_norm ?_
      refine hK9 _ _ ?_
      refine c_region ?_
      refine s_pure h (ru_add (h.ev rfl) (h.ev rfl) (by omega)) rfl ?_; intro f h
      refine s_pure h (ru_move (h.ev rfl)) rfl ?_; intro f h
      refine s_nil ?_
      refine t_norm ?_
      exact ⟨_, by omega, ⟨k + 1, v32, h.only ⟨rfl, rfl, rfl, rfl, slot_int rfl (by omega), trivial⟩, St.as (s.pick _ (List.Sublist.cons _ (List.Sublist.cons_cons _ (List.nil_sublist _)))) ⟨sl_eq (textM1 hkl hc) (textN1 hkl hc), trivial⟩, rfl, by omega⟩⟩
    · replace hc := of_decide_eq_false hc
      refine c_region ?_
      refine s_pure h (ru_move (h.ev rfl)) rfl ?_; intro f h
      refine s_pure h (ru_field fld26_2 (h.ev rfl)) rfl ?_; intro f h
      refine s_load_at1 (cell_of_has (Has.of_own s 0 rfl) 33 (eArr_host _)) h one3 rfl rfl ?_; intro f h
      have hho := isE_host hE hc
      refine s_pure h (ru_val (.int .u8 ((l[k].2.2.toNat : Nat) : Int)) (ru_conv_u8 Try.underlying3 Try.underlying5 (h.ev rfl)) (congrArg (Value.int .u8) (by omega))) rfl ?_; intro f h
      refine s_bslice (vs := [.int .u8 ((l[k].2.2.toNat : Nat) : Int)]) [.tmp 36] h s Try.underlying47 elm5 rfl rfl (by simp [Value.cells]) rfl rfl rfl ?_; intro f w1 v37 h s
      refine s_append 2 0 h s Try.underlying47 elm5 rfl rfl rfl rfl (by decide) (by simp [Value.oneCell', Value.cells]) (by unfold maxLen; omega) (by omega) rfl ?_; intro f w1 v38 h s
      replace s := s.pick _ (List.sublist_cons_self _ _)
      refine s_pure h (ru_assign (h.ev rfl)) rfl ?_; intro f h
      refine s_nil ?_
      refine b_norm ?_
      refine hK9 _ _ ?_
      refine c_region ?_
      refine s_pure h (ru_add (h.ev rfl) (h.ev rfl) (by omega)) rfl ?_; intro f h
      refine s_pure h (ru_move (h.ev rfl)) rfl ?_; intro f h
      refine s_nil ?_
      refine t_norm ?_
      exact ⟨_, by omega, ⟨k + 1, v38, h.only ⟨rfl, rfl, rfl, rfl, slot_int rfl (by omega), trivial⟩, St.as (s.pick _ (List.Sublist.cons _ (List.Sublist.cons_cons _ (List.nil_sublist _)))) ⟨sl_eq (textM2 hkl hho.1) (textN2 hkl hho.1), trivial⟩, rfl, by omega⟩⟩
  · replace hc := of_decide_eq_false hc
    refine wpIn_exit ?_
    refine t_exit ?_
    refine t_exit ?_
    refine b_exit ?_
    refine hK5 _ _ ?_
    refine c_seq fun K13 hK13 => ?_
    refine c_region ?_
    obtain rfl : k = l.length := by omega
    refine s_pure h (ru_move (h.ev rfl)) rfl ?_; intro f h
    refine s_str_sl 0 h s Try.underlying47 Try.underlying5 Try.underlying9 rfl rfl rfl ?_; intro f h
    refine s_pure h (ru_assign (h.ev rfl)) rfl ?_; intro f h
    refine s_pure h (ru_assign (h.ev rfl)) rfl ?_; intro f h
    refine s_nil ?_
    refine hK13 _ _ ?_
    refine wpIn_ret ?_
    exact e_tmps rfl h s rfl rfl (by show _ = _; rw [textK_end]; rfl)

theorem text_bad (l : List Ent) (hr : rightE l = false) (hln : l.length ≤ 1000000) (vh : Value) (w : World) (hv : RdZ w vh 34 l.length (eCells l)) : Calls Try.prog 9 [vh].toArray w (Ret w (is (.tuple #[.string ⟨#[]⟩, .int .i64 1]))) := by
  refine c_enter Try.func9 rfl Try.ntmps9 rfl [(0, vh)] (by simp) fun f h => ?_
  have s := St.start w
  refine c_seq fun K1 hK1 => ?_
  refine c_region ?_
  refine s_pure h (ru_assign (h.ev rfl)) rfl ?_; intro f h
  refine s_pure h (ru_assign (h.ev rfl)) rfl ?_; intro f h
  refine s_nil ?_
  refine hK1 _ _ ?_
  refine c_seq fun K2 hK2 => ?_
  refine c_seq fun K3 hK3 => ?_
  refine c_region ?_
  refine s_pure h (ru_move (h.ev rfl)) rfl ?_; intro f h
  refine s_call h s fnc12 (ret_val (.bool false) (right_any l vh _ (hv.keep s.ext) hln) (congrArg Value.bool hr)) rfl rfl ?_; intro f w1 v9 hT hE h s; obtain rfl := hT
  refine s_pure h (ru_val (.bool true) (ru_not (h.ev rfl)) rfl) rfl ?_; intro f h
  refine s_nil ?_
  refine hK3 _ _ ?_
  refine wpIn_cond_true (h.ev rfl) ?_
  refine c_seq fun K4 hK4 => ?_
  refine c_region ?_
  refine s_pure h (ru_assign (h.ev rfl)) rfl ?_; intro f h
  refine s_pure h (ru_assign (h.ev rfl)) rfl ?_; intro f h
  refine s_nil ?_
  refine hK4 _ _ ?_
  refine wpIn_ret ?_
  refine t_ret ?_
  exact e_tmps rfl h s rfl rfl (rfl)

theorem text_any (l : List Ent) (hln : l.length ≤ 1000000) (vh : Value) (w : World) (hv : RdZ w vh 34 l.length (eCells l)) : Calls Try.prog 9 [vh].toArray w (Ret w (is (.tuple #[.string (textW l), .int .i64 (textR l)]))) := by
  cases h : rightE l
  · rw [show textW l = ⟨#[]⟩ from by unfold textW; rw [h]; rfl, show textR l = 1 from by unfold textR; rw [h]; rfl]
    exact text_bad l h hln vh w hv
  · rw [show textW l = textE l from by unfold textW; rw [h]; rfl, show textR l = 0 from by unfold textR; rw [h]; rfl]
    exact text_ok l h vh w hv

theorem rentry_any (e : Ent) (he : isE e = true) (w : World) : Calls Try.prog 24 [.agg (eArr e)].toArray w (Ret w (is (.string (bstr (entL e))))) := by
  refine c_enter Try.func24 rfl Try.ntmps24 rfl [(0, .agg (eArr e))] (by simp) fun f h => ?_
  have s := St.start w
  refine c_seq fun K1 hK1 => ?_
  refine c_region ?_
  refine s_box ((eArr e)) h s rfl rfl rfl ?_; intro f w1 b1 h s
  refine s_pure h (ru_assign (h.ev rfl)) rfl ?_; intro f h
  refine s_nil ?_
  refine hK1 _ _ ?_
  refine c_seq fun K2 hK2 => ?_
  refine c_seq fun K3 hK3 => ?_
  refine c_region ?_
  refine s_pure h (ru_field fld26_0 (h.ev rfl)) rfl ?_; intro f h
  refine s_load_at1 (cell_of_has (Has.of_own s 0 rfl) 0 (eArr_kind _)) h one3 rfl rfl ?_; intro f h
  refine s_pure h (ru_eql (h.ev rfl) (h.ev rfl)) rfl ?_; intro f h
  refine s_nil ?_
  refine hK3 _ _ ?_
  refine c_cond h rfl (fun hc => ?_) (fun hc => ?_)
  · replace hc := of_decide_eq_true hc
    refine c_seq fun K4 hK4 => ?_
    refine c_region ?_
    refine s_pure h (ru_field fld26_2 (h.ev rfl)) rfl ?_; intro f h
    refine s_load_at1 (cell_of_has (Has.of_own s 0 rfl) 33 (eArr_host _)) h one3 rfl rfl ?_; intro f h
    have hho := isE_host he (by omega)
    refine s_pure h (ru_val (.int .u8 ((e.2.2.toNat : Nat) : Int)) (ru_conv_u8 Try.underlying3 Try.underlying5 (h.ev rfl)) (congrArg (Value.int .u8) (by omega))) rfl ?_; intro f h
    refine s_bslice (vs := [.int .u8 2, .int .u8 ((e.2.2.toNat : Nat) : Int)]) [.const (.int .u8 (2)), .tmp 8] h s Try.underlying47 elm5 rfl rfl (by simp [Value.cells]) rfl rfl rfl ?_; intro f w1 v9 h s
    have s := s.as (B' := [.sl v9 5 1 2 (byL [2, e.2.2.toNat]), .blk b1 (.cells (eArr e) 26)]) ⟨sl_eq rfl (by simp [byL, Value.cells]), rfl, trivial⟩
    refine s_str_sl 0 h s Try.underlying47 Try.underlying5 Try.underlying9 rfl rfl rfl ?_; intro f h
    refine s_pure h (ru_assign (h.ev rfl)) rfl ?_; intro f h
    refine s_nil ?_
    refine hK4 _ _ ?_
    refine wpIn_ret ?_
    refine t_ret ?_
    exact e_tmp rfl h s rfl (by show _ = _; rw [entL_2 hc]; rfl)
  · replace hc := of_decide_eq_false hc
    refine wpIn_skip ?_
    refine hK2 _ _ ?_
    refine c_seq fun K5 hK5 => ?_
    refine c_region ?_
    refine s_pure h (ru_field fld26_1 (h.ev rfl)) rfl ?_; intro f h
    refine s_pure h (ru_slice_arr_at Try.underlying24 size5 (h.ev rfl)) rfl ?_; intro f h
    refine s_str_at (Has.subL (o := 0) (Has.of_own s 0 rfl) 1 32 (D := bytesF (byteAt e.2.1) 32) ((eArr_id _).trans (idArr_bytes _))) h Try.underlying47 Try.underlying5 Try.underlying9 rfl rfl ?_; intro f h
    refine s_pure h (ru_cat_str (h.ev rfl) (h.ev rfl) (by rw [strF_size]; decide)) rfl ?_; intro f h
    refine s_pure h (ru_assign (h.ev rfl)) rfl ?_; intro f h
    refine s_nil ?_
    refine hK5 _ _ ?_
    refine wpIn_ret ?_
    exact e_tmp rfl h s rfl (by show _ = _; rw [bstr_id, ← entL_1 ((isE_kind he).resolve_right hc)])

theorem rtext_any (l : List Ent) (hr : rightE l = true) (vh : Value) (w : World) (hv : RdZ w vh 34 l.length (eCells l)) : Calls Try.prog 17 [vh].toArray w (Ret w (is (.string (textE l)))) := by
  obtain ⟨hr1, hr2, hr3⟩ := (rightE_iff l).1 hr
  refine c_enter Try.func17 rfl Try.ntmps17 rfl [(0, vh)] (by simp) fun f h => ?_
  have s := St.start w
  refine c_seq fun K1 hK1 => ?_
  refine c_region ?_
  refine s_pure h (ru_assign (h.ev rfl)) rfl ?_; intro f h
  refine s_nil ?_
  refine hK1 _ _ ?_
  refine c_seq fun K2 hK2 => ?_
  refine c_region ?_
  refine s_pure h (ru_move (h.ev rfl)) rfl ?_; intro f h
  refine s_pure h (ru_lenZ (hv.keep s.ext) Try.underlying22 (h.ev rfl)) rfl ?_; intro f h
  refine s_pure h (ru_val (.int .u8 ((l.length : Nat) : Int)) (ru_conv_u8 Try.underlying3 Try.underlying5 (h.ev rfl)) (congrArg (Value.int .u8) (by omega))) rfl ?_; intro f h
  refine s_bslice (vs := [.int .u8 ((l.length : Nat) : Int)]) [.tmp 8] h s Try.underlying47 elm5 rfl rfl (by simp [Value.cells]) rfl rfl rfl ?_; intro f w1 v9 h s
  have s := s.as (B' := [.sl v9 5 1 1 (byL [l.length])]) ⟨sl_eq rfl (by simp [byL, Value.cells]), trivial⟩
  refine s_str_sl 0 h s Try.underlying47 Try.underlying5 Try.underlying9 rfl rfl rfl ?_; intro f h
  refine s_pure h (ru_assign (h.ev rfl)) rfl ?_; intro f h
  refine s_nil ?_
  refine hK2 _ _ ?_
  refine c_seq fun K3 hK3 => ?_
  refine c_seq fun K4 hK4 => ?_
  refine c_region ?_
  refine s_pure h (ru_move (h.ev rfl)) rfl ?_; intro f h
  refine s_pure h (ru_lenZ (hv.keep s.ext) Try.underlying22 (h.ev rfl)) rfl ?_; intro f h
  refine s_pure h (ru_move (h.ev rfl)) rfl ?_; intro f h
  refine s_nil ?_
  refine hK4 _ _ ?_
  refine wpIn_block ?_
  refine wpIn_loop_ghost (fun nn aa ww => ∃ k : Nat, Sl 23 aa [(0, vh), (9, v9), (3, .string (bstr (textK l k))), (11, vh), (12, .int .i64 (l.length : Int)), (13, .int .i64 (k : Int))] ∧ St w [.sl v9 5 1 1 (byL [l.length])] ww ∧ nn = l.length - k ∧ k ≤ l.length) (l.length - (0)) ⟨0, h.only ⟨rfl, rfl, rfl, rfl, rfl, slot_int rfl (by omega), trivial⟩, s.as ⟨rfl, trivial⟩, rfl, Nat.zero_le _⟩ ?_
  rintro _ f w1 ⟨k, h, s, hnn, hp0⟩
  refine c_seq fun K5 hK5 => ?_
  refine c_region ?_
  refine s_pure h (ru_lss (h.ev rfl) (h.ev rfl)) rfl ?_; intro f h
  refine s_nil ?_
  refine hK5 _ _ ?_
  refine c_seq fun K6 hK6 => ?_
  refine c_cond h rfl (fun hc => ?_) (fun hc => ?_)
  · replace hc := of_decide_eq_true hc
    refine wpIn_skip ?_
    refine hK6 _ _ ?_
    refine c_seq fun K7 hK7 => ?_
    refine wpIn_block ?_
    refine c_seq fun K8 hK8 => ?_
    refine c_region ?_
    have hkl : k < l.length := by omega
    refine s_pure h (ru_ixz (hv.keep s.ext) (k) Try.underlying22 szo26 (h.ev rfl) (h.ev rfl) (by omega) (by omega)) rfl ?_; intro f h
    refine s_load_at ((hv.keep s.ext).el (k) (by omega) (by decide) (D := eArr l[k]) (e_el l k hkl)) h row26 rfl (eArr_size _) rfl ?_; intro f h
    refine s_alloc (eArr (0, 0#256, 0)) h s zero26 rfl rfl ?_; intro f w1 b5 h s
    refine s_store_row 0 h s row26 rfl rfl rfl (eArr_size _) (eArr_size _) (eArr_ones _) ?_; intro w1 s
    refine s_nil ?_
    refine hK8 _ _ ?_
    refine c_region ?_
    refine s_pure h (ru_move (h.ev rfl)) rfl ?_; intro f h
    refine s_load_row 0 h s row26 rfl rfl (eArr_size _) rfl ?_; intro f h
    refine s_call h s fnc24 (rentry_any _ (hr3 _ (List.getElem_mem hkl)) _) rfl rfl ?_; intro f w1 v9 hT hE h s; obtain rfl := hT
    refine s_pure h (ru_cat_str (h.ev rfl) (h.ev rfl) (by rw [bstr_size, bstr_size]; have h7 := textK_len l k; have h8 := (entL_length l[k]).1; omega)) rfl ?_; intro f h
    refine s_pure h (ru_assign (h.ev rfl)) rfl ?_; intro f h
    refine s_nil ?_
    refine b_norm ?_
    refine hK7 _ _ ?_
    refine c_region ?_
    refine s_pure h (ru_add (h.ev rfl) (h.ev rfl) (by omega)) rfl ?_; intro f h
    refine s_pure h (ru_move (h.ev rfl)) rfl ?_; intro f h
    refine s_nil ?_
    refine t_norm ?_
    exact ⟨_, by omega, ⟨k + 1, h.only ⟨rfl, rfl, slot_s rfl (by rw [textK_succ l k hkl, bstr_app]), rfl, rfl, slot_int rfl (by omega), trivial⟩, St.as (s.pick _ (List.sublist_append_right [_] _)) ⟨rfl, trivial⟩, rfl, by omega⟩⟩
  · replace hc := of_decide_eq_false hc
    refine wpIn_exit ?_
    refine t_exit ?_
    refine t_exit ?_
    refine b_exit ?_
    refine hK3 _ _ ?_
    refine c_seq fun K9 hK9 => ?_
    refine c_region ?_
    obtain rfl : k = l.length := by omega
    refine s_pure h (ru_move (h.ev rfl)) rfl ?_; intro f h
    refine s_pure h (ru_assign (h.ev rfl)) rfl ?_; intro f h
    refine s_nil ?_
    refine hK9 _ _ ?_
    refine wpIn_ret ?_
    exact e_tmp rfl h s rfl (by show _ = _; rw [textK_end]; rfl)

theorem entry_any (t9 : ByteArray) (ht9 : t9.size ≤ 1000000) (w : World) : Calls Try.prog 28 [.string t9].toArray w (Ret w (is (.tuple #[.agg (eArr (entM t9).2.1), .int .i64 (((entM t9).2.2 : Nat) : Int), .int .i64 (entM t9).1]))) := by
  have hb0 := sb_lt t9 0
  have hts := tail_size t9
  refine c_enter Try.func28 rfl Try.ntmps28 rfl [(0, .string t9)] (by simp) fun f h => ?_
  have s := St.start w
  refine c_seq fun K1 hK1 => ?_
  refine c_region ?_
  refine s_alloc (eArr (0, 0#256, 0)) h s zero26 rfl rfl ?_; intro f w1 b2 h s
  refine s_pure h (ru_assign (h.ev rfl)) rfl ?_; intro f h
  refine s_pure h (ru_assign (h.ev rfl)) rfl ?_; intro f h
  refine s_nil ?_
  refine hK1 _ _ ?_
  refine c_seq fun K2 hK2 => ?_
  refine c_seq fun K3 hK3 => ?_
  refine c_region ?_
  refine s_pure h (ru_move (h.ev rfl)) rfl ?_; intro f h
  refine s_pure h (ru_eql_str (h.ev rfl) (h.ev rfl)) rfl ?_; intro f h
  refine s_nil ?_
  refine hK3 _ _ ?_
  refine c_cond h rfl (fun hc => ?_) (fun hc => ?_)
  · replace hc := of_decide_eq_true hc
    refine c_seq fun K4 hK4 => ?_
    refine c_region ?_
    refine s_pure h (ru_build_e0 sttE) rfl ?_; intro f h
    refine s_store_row 0 h s row26 rfl rfl rfl (eArr_size _) (eArr_size _) (eArr_ones _) ?_; intro w1 s
    refine s_pure h (ru_assign (h.ev rfl)) rfl ?_; intro f h
    refine s_pure h (ru_assign (h.ev rfl)) rfl ?_; intro f h
    refine s_nil ?_
    refine hK4 _ _ ?_
    refine wpIn_ret ?_
    refine t_ret ?_
    exact e_row_tmp2 0 rfl h s row26 rfl rfl (eArr_size _) rfl rfl (by show _ = _; rw [entM_0 hc]; rfl)
  · replace hc := of_decide_eq_false hc
    have h0 := ba_pos hc
    refine wpIn_skip ?_
    refine hK2 _ _ ?_
    refine c_seq fun K5 hK5 => ?_
    refine c_seq fun K6 hK6 => ?_
    refine c_region ?_
    refine s_pure h (ru_move (h.ev rfl)) rfl ?_; intro f h
    refine s_pure h (ru_slice_str_lo (1) Try.underlying9 (h.ev rfl) (h.ev rfl) (rfl) (by omega)) rfl ?_; intro f h
    refine s_pure h (ru_assign (h.ev rfl)) rfl ?_; intro f h
    refine s_nil ?_
    refine hK6 _ _ ?_
    refine c_seq fun K7 hK7 => ?_
    refine c_region ?_
    refine s_pure h (ru_move (h.ev rfl)) rfl ?_; intro f h
    refine s_pure h (ru_ix_sb Try.underlying9 (0) (h.ev rfl) (h.ev rfl) (by omega) (by omega)) rfl ?_; intro f h
    refine s_nil ?_
    refine hK7 _ _ ?_
    refine wpIn_block ?_
    refine c_seq fun K8 hK8 => ?_
    refine c_region ?_
    refine s_pure h (ru_eql (h.ev rfl) (h.ev rfl)) rfl ?_; intro f h
    refine s_pure h (ru_assign (h.ev rfl)) rfl ?_; intro f h
    refine s_nil ?_
    refine hK8 _ _ ?_
    refine c_cond h rfl (fun hc => ?_) (fun hc => ?_)
    · replace hc := of_decide_eq_true hc
      have hk1 := hc
      refine c_seq fun K9 hK9 => ?_
      refine c_seq fun K10 hK10 => ?_
      refine c_region ?_
      refine s_pure h (ru_move (h.ev rfl)) rfl ?_; intro f h
      refine s_pure h (ru_len_str Try.underlying9 (h.ev rfl)) rfl ?_; intro f h
      refine s_pure h (ru_lss (h.ev rfl) (h.ev rfl)) rfl ?_; intro f h
      refine s_nil ?_
      refine hK10 _ _ ?_
      refine c_cond h rfl (fun hc => ?_) (fun hc => ?_)
      · replace hc := of_decide_eq_true hc
        have hk2 := hc
        refine c_seq fun K11 hK11 => ?_
        refine c_region ?_
        refine s_pure h (ru_build_e0 sttE) rfl ?_; intro f h
        refine s_store_row 0 h s row26 rfl rfl rfl (eArr_size _) (eArr_size _) (eArr_ones _) ?_; intro w1 s
        refine s_pure h (ru_assign (h.ev rfl)) rfl ?_; intro f h
        refine s_pure h (ru_assign (h.ev rfl)) rfl ?_; intro f h
        refine s_nil ?_
        refine hK11 _ _ ?_
        refine wpIn_ret ?_
        refine t_ret ?_
        refine b_ret ?_
        refine t_ret ?_
        exact e_row_tmp2 0 rfl h s row26 rfl rfl (eArr_size _) rfl rfl (by show _ = _; rw [entM_1s h0 hk1 hk2]; rfl)
      · replace hc := of_decide_eq_false hc
        have hk2 := hc
        refine wpIn_skip ?_
        refine hK9 _ _ ?_
        refine c_seq fun K12 hK12 => ?_
        refine c_region ?_
        refine s_pure h (ru_move (h.ev rfl)) rfl ?_; intro f h
        refine s_pure h (ru_slice_str (32) Try.underlying9 (h.ev rfl) (h.ev rfl) (rfl) (by omega)) rfl ?_; intro f h
        refine s_bytes h s Try.underlying9 Try.underlying47 Try.underlying5 rfl (by rw [ByteArray.size_extract]; omega) rfl ?_; intro f w1 v21 h s
        have hx32 : ((t9.extract 1 t9.size).extract 0 32).size = 32 := by rw [ByteArray.size_extract, hts]; omega
        refine s_pure h (ru_toarrZ (RdZ.of_own (s.getSl 0 rfl)) Try.underlying24 (h.ev rfl) (by omega) (by omega)) rfl ?_; intro f h
        refine s_load_at (RdZ.has0 (RdZ.of_own (s.getSl 0 rfl)) (by omega) (D := idArr (idOf fun i => sb t9 (1 + i))) (strL_id (by omega))) h row24 rfl (by first | exact idArr_size _ | exact bytesF_size _ _) rfl ?_; intro f h
        refine s_pure h (ru_build_ei sttE (h.ev rfl) (h.ev rfl)) rfl ?_; intro f h
        refine s_store_row 1 h s row26 rfl rfl rfl (eArr_size _) (eArr_size _) (eArr_ones _) ?_; intro w1 s
        refine s_pure h (ru_assign (h.ev rfl)) rfl ?_; intro f h
        refine s_pure h (ru_assign (h.ev rfl)) rfl ?_; intro f h
        refine s_nil ?_
        refine hK12 _ _ ?_
        refine wpIn_ret ?_
        refine b_ret ?_
        refine t_ret ?_
        exact e_row_tmp2 1 rfl h s row26 rfl rfl (eArr_size _) rfl rfl (by show _ = _; rw [entM_1 h0 hk1 hk2]; rfl)
    · replace hc := of_decide_eq_false hc
      have hk1 := hc
      refine c_seq fun K13 hK13 => ?_
      refine c_region ?_
      refine s_pure h (ru_eql (h.ev rfl) (h.ev rfl)) rfl ?_; intro f h
      refine s_pure h (ru_assign (h.ev rfl)) rfl ?_; intro f h
      refine s_nil ?_
      refine hK13 _ _ ?_
      refine c_cond h rfl (fun hc => ?_) (fun hc => ?_)
      · replace hc := of_decide_eq_true hc
        have hk2 := hc
        refine c_seq fun K14 hK14 => ?_
        refine c_seq fun K15 hK15 => ?_
        refine c_region ?_
        refine s_pure h (ru_move (h.ev rfl)) rfl ?_; intro f h
        refine s_pure h (ru_eql_str (h.ev rfl) (h.ev rfl)) rfl ?_; intro f h
        refine s_nil ?_
        refine hK15 _ _ ?_
        refine c_cond h rfl (fun hc => ?_) (fun hc => ?_)
        · replace hc := of_decide_eq_true hc
          have hk3 := hc
          refine c_seq fun K16 hK16 => ?_
          refine c_region ?_
          refine s_pure h (ru_build_e0 sttE) rfl ?_; intro f h
          refine s_store_row 0 h s row26 rfl rfl rfl (eArr_size _) (eArr_size _) (eArr_ones _) ?_; intro w1 s
          refine s_pure h (ru_assign (h.ev rfl)) rfl ?_; intro f h
          refine s_pure h (ru_assign (h.ev rfl)) rfl ?_; intro f h
          refine s_nil ?_
          refine hK16 _ _ ?_
          refine wpIn_ret ?_
          refine t_ret ?_
          refine b_ret ?_
          refine t_ret ?_
          exact e_row_tmp2 0 rfl h s row26 rfl rfl (eArr_size _) rfl rfl (by show _ = _; rw [entM_2s h0 hk2 hk3]; rfl)
        · replace hc := of_decide_eq_false hc
          have hk3 := ba_pos hc
          refine wpIn_skip ?_
          refine hK14 _ _ ?_
          refine c_seq fun K17 hK17 => ?_
          refine c_seq fun K18 hK18 => ?_
          refine c_region ?_
          refine s_pure h (ru_move (h.ev rfl)) rfl ?_; intro f h
          refine s_pure h (ru_ix_sb Try.underlying9 (0) (h.ev rfl) (h.ev rfl) (by omega) (by omega)) rfl ?_; intro f h
          refine s_pure h (ru_geq (h.ev rfl) (h.ev rfl)) rfl ?_; intro f h
          refine s_nil ?_
          refine hK18 _ _ ?_
          refine c_cond h rfl (fun hc => ?_) (fun hc => ?_)
          · replace hc := of_decide_eq_true hc
            have hk4 := hc
            refine c_seq fun K19 hK19 => ?_
            refine c_region ?_
            refine s_pure h (ru_build_e0 sttE) rfl ?_; intro f h
            refine s_store_row 0 h s row26 rfl rfl rfl (eArr_size _) (eArr_size _) (eArr_ones _) ?_; intro w1 s
            refine s_pure h (ru_assign (h.ev rfl)) rfl ?_; intro f h
            refine s_pure h (ru_assign (h.ev rfl)) rfl ?_; intro f h
            refine s_nil ?_
            refine hK19 _ _ ?_
            refine wpIn_ret ?_
            refine t_ret ?_
            refine b_ret ?_
            refine t_ret ?_
            exact e_row_tmp2 0 rfl h s row26 rfl rfl (eArr_size _) rfl rfl (by show _ = _; rw [entM_2h h0 hk2 hk3 hk4]; rfl)
          · replace hc := of_decide_eq_false hc
            have hk4 := hc
            refine wpIn_skip ?_
            refine hK17 _ _ ?_
            refine c_seq fun K20 hK20 => ?_
            refine c_region ?_
            refine s_pure h (ru_move (h.ev rfl)) rfl ?_; intro f h
            refine s_pure h (ru_ix_sb Try.underlying9 (0) (h.ev rfl) (h.ev rfl) (by omega) (by omega)) rfl ?_; intro f h
            have hb1 := sb_lt (t9.extract 1 t9.size) 0
            refine s_pure h (ru_conv_in Try.underlying5 Try.underlying3 (h.ev rfl) (IntWalk.i64_in _ (by omega))) rfl ?_; intro f h
            refine s_pure h (ru_build_eh sttE (h.ev rfl) (h.ev rfl)) rfl ?_; intro f h
            refine s_store_row 0 h s row26 rfl rfl rfl (eArr_size _) (eArr_size _) (eArr_ones _) ?_; intro w1 s
            refine s_pure h (ru_assign (h.ev rfl)) rfl ?_; intro f h
            refine s_pure h (ru_assign (h.ev rfl)) rfl ?_; intro f h
            refine s_nil ?_
            refine hK20 _ _ ?_
            refine wpIn_ret ?_
            refine b_ret ?_
            refine t_ret ?_
            exact e_row_tmp2 0 rfl h s row26 rfl rfl (eArr_size _) rfl rfl (by show _ = _; rw [entM_2 h0 hk2 hk3 hk4]; rfl)
      · replace hc := of_decide_eq_false hc
        have hk2 := hc
        refine wpIn_skip ?_
        refine b_norm ?_
        refine hK5 _ _ ?_
        refine c_seq fun K21 hK21 => ?_
        refine c_region ?_
        refine s_pure h (ru_build_e0 sttE) rfl ?_; intro f h
        refine s_store_row 0 h s row26 rfl rfl rfl (eArr_size _) (eArr_size _) (eArr_ones _) ?_; intro w1 s
        refine s_pure h (ru_assign (h.ev rfl)) rfl ?_; intro f h
        refine s_pure h (ru_assign (h.ev rfl)) rfl ?_; intro f h
        refine s_nil ?_
        refine hK21 _ _ ?_
        refine wpIn_ret ?_
        exact e_row_tmp2 0 rfl h s row26 rfl rfl (eArr_size _) rfl rfl (by show _ = _; rw [entM_n h0 hk1 hk2]; rfl)

theorem reader_any (sx : ByteArray) (at9 : Int) (w : World) : Calls Try.prog 25 [.string sx, .int .i64 at9].toArray w (Ret w (fun v w' => ∃ bs bt, v = .func (.func 27) #[] #[.pointer (some ⟨bs, 0, none⟩), .pointer (some ⟨bt, 0, none⟩)] ∧ St w [.blk bs (.cells #[.string sx] 9), .blk bt (.cells #[.int .i64 at9] 3)] w')) := by
  refine c_enter Try.func25 rfl Try.ntmps25 rfl [(0, .string sx), (1, .int .i64 at9)] (by simp) fun f h => ?_
  have s := St.start w
  refine c_seq fun K1 hK1 => ?_
  refine c_region ?_
  refine s_box (#[.string sx]) h s rfl rfl rfl ?_; intro f w1 b2 h s
  refine s_box (#[.int .i64 at9]) h s rfl rfl rfl ?_; intro f w1 b3 h s
  refine s_pure h (ru_assign (h.ev rfl)) rfl ?_; intro f h
  refine s_nil ?_
  refine hK1 _ _ ?_
  refine c_seq fun K2 hK2 => ?_
  refine c_region ?_
  refine s_pure h (ru_makeFunc [.pointer (some ⟨b2, 0, none⟩), .pointer (some ⟨b3, 0, none⟩)] (evsA h rfl)) rfl ?_; intro f h
  refine s_pure h (ru_assign (h.ev rfl)) rfl ?_; intro f h
  refine s_nil ?_
  refine hK2 _ _ ?_
  refine wpIn_ret ?_
  exact e_tmp rfl h s rfl (⟨b2, b3, rfl, s.perm (List.Perm.swap _ _ _)⟩)

theorem reader1_any (sx : ByteArray) (hsx : sx.size ≤ 100000) (n9 : Nat) (hn9 : n9 ≤ sx.size) (bs bt : Nat) (B9 : List Own) (w0 w : World) (s : St w0 (.blk bs (.cells #[.string sx] 9) :: .blk bt (.cells #[.int .i64 (n9 : Int)] 3) :: B9) w) : Calls Try.prog 27 [.pointer (some ⟨bs, 0, none⟩), .pointer (some ⟨bt, 0, none⟩)].toArray w (fun e w9 => ∃ v, e = .returned v ∧ v = .tuple #[.agg (eArr (entM (sufS sx n9)).2.1), .int .i64 ((n9 : Int) + (((entM (sufS sx n9)).2.2 : Nat) : Int)), .int .i64 (entM (sufS sx n9)).1] ∧ St w0 (.blk bs (.cells #[.string sx] 9) :: .blk bt (.cells #[.int .i64 ((n9 : Int) + (((entM (sufS sx n9)).2.2 : Nat) : Int))] 3) :: B9) w9) := by
  have hsu : (sufS sx n9).size = sx.size - n9 := suf_size sx n9
  have hel := entM_le (sufS sx n9)
  refine c_enterF Try.func27 rfl Try.ntmps27 rfl [(0, .pointer (some ⟨bs, 0, none⟩)), (1, .pointer (some ⟨bt, 0, none⟩))] (by simp) fun f h => ?_
  refine c_seq fun K1 hK1 => ?_
  refine c_region ?_
  refine s_alloc (eArr (0, 0#256, 0)) h s zero26 rfl rfl ?_; intro f w1 b2 h s
  refine s_pure h (ru_assign (h.ev rfl)) rfl ?_; intro f h
  refine s_pure h (ru_assign (h.ev rfl)) rfl ?_; intro f h
  refine s_nil ?_
  refine hK1 _ _ ?_
  refine c_seq fun K2 hK2 => ?_
  refine c_region ?_
  refine s_load_one 1 h s one9 rfl rfl (rfl) rfl ?_; intro f h
  refine s_load_one 2 h s one3 rfl rfl (rfl) rfl ?_; intro f h
  refine s_pure h (ru_slice_str_lo (n9) Try.underlying9 (h.ev rfl) (h.ev rfl) (rfl) (by omega)) rfl ?_; intro f h
  refine s_call h s fnc28 (entry_any (sufS sx n9) (by omega) _) rfl rfl ?_; intro f w1 v9 hT hE h s; obtain rfl := hT
  refine s_pure h (ru_move (h.ev rfl)) rfl ?_; intro f h
  refine s_pure h (ru_extract (h.ev rfl) rfl) rfl ?_; intro f h
  refine s_pure h (ru_extract (h.ev rfl) rfl) rfl ?_; intro f h
  refine s_pure h (ru_extract (h.ev rfl) rfl) rfl ?_; intro f h
  refine s_alloc (eArr (0, 0#256, 0)) h s zero26 rfl rfl ?_; intro f w1 b5 h s
  refine s_store_row 0 h s row26 rfl rfl rfl (eArr_size _) (eArr_size _) (eArr_ones _) ?_; intro w1 s
  refine s_pure h (ru_assign (h.ev rfl)) rfl ?_; intro f h
  refine s_pure h (ru_assign (h.ev rfl)) rfl ?_; intro f h
  refine s_nil ?_
  refine hK2 _ _ ?_
  refine c_seq fun K3 hK3 => ?_
  refine c_region ?_
  refine s_load_one 3 h s one3 rfl rfl (rfl) rfl ?_; intro f h
  refine s_pure h (ru_move (h.ev rfl)) rfl ?_; intro f h
  refine s_pure h (ru_add (h.ev rfl) (h.ev rfl) (by omega)) rfl ?_; intro f h
  refine s_store_one 3 h s one3 rfl rfl rfl (by simp) (rfl) ?_; intro w1 s
  refine s_nil ?_
  refine hK3 _ _ ?_
  refine c_seq fun K4 hK4 => ?_
  have hbs := s.ext.le
  refine' c_reg2 0 [1, 2, 4, 5] [] [[], [], [], [0], [0, 1, 3], [0, 1, 2, 3, 4]] (is undef :: is _ :: is _ :: is undef :: is _ :: is _ :: []) (fun w9 => w9.heap[bt]? = some (.cells #[.int .i64 ((n9 : Int) + (((entM (sufS sx n9)).2.2 : Nat) : Int))] 3)) h s (by kernel_rfl) (by kernel_rfl) (by kernel_rfl) (by kernel_rfl) rfl (fun _ _ h9 hE => heap_keep h9 hE) (s.get 3 rfl) ⟨⟨_, rfl⟩, ⟨_, rfl⟩, ⟨_, rfl⟩, ⟨_, rfl⟩, trivial⟩ ⟨is_mono _, is_mono _, is_mono _, is_mono _, is_mono _, is_mono _, trivial⟩ (And.intro ?_ (And.intro ?_ (And.intro ?_ (And.intro ?_ (And.intro ?_ (And.intro ?_ (trivial))))))) ?_
  rotate_left 4
  · exact obT_in (by decide) (by decide)
  · refine obH_in 20 rfl (by decide) ?_
    intro f9 w2 hE hs hl
    have e1 : f9.tmps.getD 1 undef = _ := sx_old hl 1 (by kernel_rfl) (by kernel_rfl) (h.holds 1 _ rfl)
    have h := fin_slot [(1, _)] hs rfl (holds_lk ⟨e1, trivial⟩)
    refine s_load_at1 (V := .int .i64 ((n9 : Int) + (((entM (sufS sx n9)).2.2 : Nat) : Int))) (cell_of_row w2 bt 0 _ _ _ hE) h one3 rfl rfl ?_; intro f h
    refine s_nil ?_
    have e9 := h.holds 20 _ rfl
    refine ⟨?_, rfl⟩
    refine e9.trans ?_
    exact rfl
  · refine obH_in 21 rfl (by decide) ?_
    intro f9 w2 hE hs hl
    have e7 : f9.tmps.getD 7 undef = _ := sx_old hl 7 (by kernel_rfl) (by kernel_rfl) (h.holds 7 _ rfl)
    have h := fin_slot [(7, _)] hs rfl (holds_lk ⟨e7, trivial⟩)
    refine s_pure h (ru_move (h.ev rfl)) rfl ?_; intro f h
    refine s_nil ?_
    have e9 := h.holds 21 _ rfl
    refine ⟨?_, rfl⟩
    refine e9.trans ?_
    exact rfl
  · exact obT_in (by decide) (by decide)
  · refine obH_in 3 rfl (by decide) ?_
    intro f9 w2 hE hs hl
    have e20 : f9.tmps.getD 20 undef = _ := sx_get hl 20 1 (by kernel_rfl) (by kernel_rfl)
    have h := fin_slot [(20, _)] hs rfl (holds_lk ⟨e20, trivial⟩)
    refine s_pure h (ru_assign (h.ev rfl)) rfl ?_; intro f h
    refine s_nil ?_
    have e9 := h.holds 3 _ rfl
    refine ⟨?_, rfl⟩
    refine e9.trans ?_
    exact rfl
  · refine obH_in 4 rfl (by decide) ?_
    intro f9 w2 hE hs hl
    have e21 : f9.tmps.getD 21 undef = _ := sx_get hl 21 2 (by kernel_rfl) (by kernel_rfl)
    have h := fin_slot [(21, _)] hs rfl (holds_lk ⟨e21, trivial⟩)
    refine s_pure h (ru_assign (h.ev rfl)) rfl ?_; intro f h
    refine s_nil ?_
    have e9 := h.holds 4 _ rfl
    refine ⟨?_, rfl⟩
    refine e9.trans ?_
    exact rfl
  · intro f9 w2 hE hs hd9 hWp hT hR hFr hDj
    replace h := sl_new (ops := _) [(20, _), (21, _), (3, _), (4, _)] h hs hd9 hR ⟨hT 1 20 (by decide) rfl, hT 2 21 (by decide) rfl, hT 4 3 (by decide) rfl, hT 5 4 (by decide) rfl, trivial⟩ (by kernel_rfl)
    replace s := s.more hE
    clear hT hR hFr hDj
    refine LstW.cons ?_
    refine s_load_row 0 h s row26 rfl rfl (eArr_size _) rfl ?_; intro f h
    refine s_nil ⟨s.get 3 rfl, ?_⟩
    refine LstW.cons ?_
    refine s_store_row 1 h s row26 rfl rfl rfl (eArr_size _) (eArr_size _) (eArr_ones _) ?_; intro w1 s
    refine s_nil ⟨s.get 3 rfl, ?_⟩
    refine LstW.nil ?_
    refine hK4 _ _ ?_
    refine wpIn_ret ?_
    exact e_row_tmp2F 1 rfl h s row26 rfl rfl (eArr_size _) rfl rfl (⟨_, rfl, rfl, s.pick _ (.cons _ (.cons _ (List.Sublist.refl _)))⟩)

theorem read_any (sx : ByteArray) (hsx : sx.size ≤ 100000) (w : World) : Calls Try.prog 18 [.string sx].toArray w (Ret w (fun v w' => ∃ vs, v = .tuple #[vs, .int .i64 (((readM sx).2.2 : Nat) : Int), .int .i64 (readM sx).1] ∧ Owns w' w.heap.size 26 34 vs (readM sx).2.1.length (eCells (readM sx).2.1))) := by
  have hb0 := sb_lt sx 0
  refine c_enter Try.func18 rfl Try.ntmps18 rfl [(0, .string sx)] (by simp) fun f h => ?_
  have s := St.start w
  refine c_seq fun K1 hK1 => ?_
  refine c_region ?_
  refine s_pure h (ru_assign (h.ev rfl)) rfl ?_; intro f h
  refine s_pure h (ru_assign (h.ev rfl)) rfl ?_; intro f h
  refine s_pure h (ru_assign (h.ev rfl)) rfl ?_; intro f h
  refine s_nil ?_
  refine hK1 _ _ ?_
  refine c_seq fun K2 hK2 => ?_
  refine c_seq fun K3 hK3 => ?_
  refine c_region ?_
  refine s_pure h (ru_move (h.ev rfl)) rfl ?_; intro f h
  refine s_pure h (ru_eql_str (h.ev rfl) (h.ev rfl)) rfl ?_; intro f h
  refine s_nil ?_
  refine hK3 _ _ ?_
  refine c_cond h rfl (fun hc => ?_) (fun hc => ?_)
  · replace hc := of_decide_eq_true hc
    refine c_seq fun K4 hK4 => ?_
    refine c_region ?_
    refine s_pure h (ru_assign (h.ev rfl)) rfl ?_; intro f h
    refine s_pure h (ru_assign (h.ev rfl)) rfl ?_; intro f h
    refine s_pure h (ru_assign (h.ev rfl)) rfl ?_; intro f h
    refine s_nil ?_
    refine hK4 _ _ ?_
    refine wpIn_ret ?_
    refine t_ret ?_
    exact e_tmps3 rfl h s rfl rfl rfl (rd_out (readM_0 hc) rfl (owns_nil _ _ _ _))
  · replace hc := of_decide_eq_false hc
    have h0 := ba_pos hc
    refine wpIn_skip ?_
    refine hK2 _ _ ?_
    refine c_seq fun K5 hK5 => ?_
    refine c_region ?_
    refine s_pure h (ru_move (h.ev rfl)) rfl ?_; intro f h
    refine s_pure h (ru_ix_sb Try.underlying9 (0) (h.ev rfl) (h.ev rfl) (by omega) (by omega)) rfl ?_; intro f h
    refine s_pure h (ru_conv_in Try.underlying5 Try.underlying3 (h.ev rfl) (IntWalk.i64_in _ (by omega))) rfl ?_; intro f h
    refine s_pure h (ru_assign (h.ev rfl)) rfl ?_; intro f h
    refine s_nil ?_
    refine hK5 _ _ ?_
    refine c_seq fun K6 hK6 => ?_
    refine c_seq fun K7 hK7 => ?_
    cases hq : (decide (((sb sx 0 : Nat) : Int) < 1) : Bool)
    · skip
      refine c_region ?_
      refine s_pure h (ru_move (h.ev rfl)) rfl ?_; intro f h
      refine s_pure h (ru_val (.bool false) (ru_lss (h.ev rfl) (h.ev rfl)) (congrArg Value.bool hq)) rfl ?_; intro f h
      refine s_pure h (ru_move (h.ev rfl)) rfl ?_; intro f h
      refine s_on h rfl rfl rfl ?_
      refine s_pure h (ru_move (h.ev rfl)) rfl ?_; intro f h
      refine s_on h rfl rfl rfl ?_
      refine s_pure h (ru_gtr (h.ev rfl) (h.ev rfl)) rfl ?_; intro f h
      refine s_pure h (ru_pick_f (h.ev rfl) (h.ev rfl)) rfl ?_; intro f h
      refine s_nil ?_
      refine hK7 _ _ ?_
      refine c_cond h rfl (fun hc => ?_) (fun hc => ?_)
      · replace hc := of_decide_eq_true hc
        have h4 := hc
        refine c_seq fun K8 hK8 => ?_
        refine c_region ?_
        refine s_pure h (ru_assign (h.ev rfl)) rfl ?_; intro f h
        refine s_pure h (ru_assign (h.ev rfl)) rfl ?_; intro f h
        refine s_pure h (ru_assign (h.ev rfl)) rfl ?_; intro f h
        refine s_nil ?_
        refine hK8 _ _ ?_
        refine wpIn_ret ?_
        refine t_ret ?_
        exact e_tmps3 rfl h s rfl rfl rfl (rd_out (readM_5 h0 (.inr h4)) rfl (owns_nil _ _ _ _))
      · replace hc := of_decide_eq_false hc
        have h4 := hc
        refine wpIn_skip ?_
        refine hK6 _ _ ?_
        refine c_seq fun K9 hK9 => ?_
        refine c_region ?_
        refine s_pure h (ru_move (h.ev rfl)) rfl ?_; intro f h
        have hx9 := s.ext
        refine s_call h s fnc25 (reader_any sx 1 _) rfl rfl ?_; rintro f w1 v24 ⟨bs, bt, rfl, sq⟩ hE h s
        replace s := sq.rebase hx9
        replace hq := of_decide_eq_false hq
        refine s_pure h (ru_assign (h.ev rfl)) rfl ?_; intro f h
        refine s_nil ?_
        refine hK9 _ _ ?_
        refine c_seq fun K10 hK10 => ?_
        refine c_region ?_
        refine s_pure h (ru_assign (h.ev rfl)) rfl ?_; intro f h
        replace s := s.nilSl 26 34
        refine s_nil ?_
        refine hK10 _ _ ?_
        refine c_seq fun K11 hK11 => ?_
        refine c_region ?_
        refine s_pure h (ru_assign (h.ev rfl)) rfl ?_; intro f h
        refine s_nil ?_
        refine hK11 _ _ ?_
        refine c_seq fun K12 hK12 => ?_
        refine c_seq fun K13 hK13 => ?_
        refine c_region ?_
        refine s_pure h (ru_move (h.ev rfl)) rfl ?_; intro f h
        refine s_pure h (ru_move (h.ev rfl)) rfl ?_; intro f h
        refine s_nil ?_
        refine hK13 _ _ ?_
        refine wpIn_block ?_
        refine wpIn_loop_ghost (fun nn aa ww => ∃ k : Nat, ∃ vl : Value, Sl 45 aa [(0, .string sx), (6, .func (.func 27) #[] #[.pointer (some ⟨bs, 0, none⟩), .pointer (some ⟨bt, 0, none⟩)]), (7, vl), (8, .int .i64 (endM sx k)), (25, .int .i64 ((sb sx 0 : Nat) : Int)), (26, .int .i64 (k : Int))] ∧ St w [.sl vl 26 34 k (eCells (rdS sx k).2.1), .blk bs (.cells (#[.string sx]) 9), .blk bt (.cells (#[.int .i64 (((rdS sx k).2.2 : Nat) : Int)]) 3)] ww ∧ nn = sb sx 0 - k ∧ k ≤ sb sx 0 ∧ (rdS sx k).1 = 0) (sb sx 0 - (0)) ⟨0, (Value.slice none 0 0), h.only ⟨rfl, rfl, rfl, slot_int rfl rfl, rfl, slot_int rfl (by omega), trivial⟩, s.as ⟨rfl, rfl, rfl, trivial⟩, rfl, Nat.zero_le _, rfl⟩ ?_
        rintro _ f w1 ⟨k, vl, h, s, hnn, hp0, hp1⟩
        refine c_seq fun K14 hK14 => ?_
        refine c_region ?_
        refine s_pure h (ru_lss (h.ev rfl) (h.ev rfl)) rfl ?_; intro f h
        refine s_nil ?_
        refine hK14 _ _ ?_
        refine c_seq fun K15 hK15 => ?_
        refine c_cond h rfl (fun hc => ?_) (fun hc => ?_)
        · replace hc := of_decide_eq_true hc
          refine wpIn_skip ?_
          refine hK15 _ _ ?_
          refine c_seq fun K16 hK16 => ?_
          refine wpIn_block ?_
          refine c_seq fun K17 hK17 => ?_
          refine c_region ?_
          refine s_pure h (ru_move (h.ev rfl)) rfl ?_; intro f h
          have hkl : k < sb sx 0 := by omega
          obtain ⟨hro1, hro2, hro3, hro4, hro5⟩ := rd_ok sx (by omega) k hp1
          have hel := entM_le (sufS sx (rdS sx k).2.2)
          have hsu := suf_size sx (rdS sx k).2.2
          refine s_callVS [] (caps := [.pointer (some ⟨bs, 0, none⟩), .pointer (some ⟨bt, 0, none⟩)]) h fnc27 rfl (reader1_any sx hsx (rdS sx k).2.2 (by omega) bs bt _ _ _ (s.sel [1, 2, 0] rfl (by decide))) rfl rfl ?_; rintro f w1 v30 ⟨rfl, s⟩ h
          refine s_pure h (ru_move (h.ev rfl)) rfl ?_; intro f h
          refine s_pure h (ru_extract (h.ev rfl) rfl) rfl ?_; intro f h
          refine s_pure h (ru_extract (h.ev rfl) rfl) rfl ?_; intro f h
          refine s_pure h (ru_extract (h.ev rfl) rfl) rfl ?_; intro f h
          refine s_alloc (eArr (0, 0#256, 0)) h s zero26 rfl rfl ?_; intro f w1 b9 h s
          refine s_store_row 0 h s row26 rfl rfl rfl (eArr_size _) (eArr_size _) (eArr_ones _) ?_; intro w1 s
          refine s_pure h (ru_assign (h.ev rfl)) rfl ?_; intro f h
          refine s_pure h (ru_assign (h.ev rfl)) rfl ?_; intro f h
          refine s_nil ?_
          refine hK17 _ _ ?_
          refine c_seq fun K18 hK18 => ?_
          refine c_seq fun K19 hK19 => ?_
          refine c_region ?_
          refine s_pure h (ru_move (h.ev rfl)) rfl ?_; intro f h
          refine s_pure h (ru_neq (h.ev rfl) (h.ev rfl)) rfl ?_; intro f h
          refine s_nil ?_
          refine hK19 _ _ ?_
          refine c_cond h rfl (fun hc => ?_) (fun hc => ?_)
          · have he1 := of_decide_eq_true hc
            refine c_seq fun K20 hK20 => ?_
            refine c_region ?_
            refine s_pure h (ru_move (h.ev rfl)) rfl ?_; intro f h
            refine s_pure h (ru_assign (h.ev rfl)) rfl ?_; intro f h
            refine s_pure h (ru_assign (h.ev rfl)) rfl ?_; intro f h
            refine s_pure h (ru_assign (h.ev rfl)) rfl ?_; intro f h
            refine s_nil ?_
            refine hK20 _ _ ?_
            refine wpIn_ret ?_
            refine t_ret ?_
            refine b_ret ?_
            refine t_ret ?_
            refine t_ret ?_
            refine b_ret ?_
            refine t_ret ?_
            exact e_tmps3 rfl h s rfl rfl rfl (rd_out (rd_bad' h0 hq h4 hp1 hkl he1) rfl (owns_nil _ _ _ _))
          · have he0 : (entM (sufS sx (rdS sx k).2.2)).1 = 0 := by have := of_decide_eq_false hc; omega
            refine wpIn_skip ?_
            refine hK18 _ _ ?_
            refine c_region ?_
            refine s_pure h (ru_move (h.ev rfl)) rfl ?_; intro f h
            refine s_load_row 0 h s row26 rfl rfl (eArr_size _) rfl ?_; intro f h
            refine s_bslice (vs := [.agg (eArr (entM (sufS sx (rdS sx k).2.2)).2.1)]) [.tmp 38] h s Try.underlying22 elm26 rfl rfl (by intro v hv; rw [List.mem_singleton] at hv; subst hv; exact eArr_size _) rfl rfl rfl ?_; intro f w1 v39 h s
            refine s_append 4 0 h s Try.underlying22 elm26 rfl rfl rfl rfl (by decide) (by simp only [List.flatMap_cons, List.flatMap_nil, List.append_nil]; exact eArr_ones _) (by unfold maxLen; omega) (by omega) rfl ?_; intro f w1 v40 h s
            replace s := s.pick _ (List.sublist_cons_self _ _)
            refine s_pure h (ru_move (h.ev rfl)) rfl ?_; intro f h
            refine s_pure h (ru_assign (h.ev rfl)) rfl ?_; intro f h
            refine s_pure h (ru_assign (h.ev rfl)) rfl ?_; intro f h
            refine s_nil ?_
            refine b_norm ?_
            refine hK16 _ _ ?_
            refine c_region ?_
            refine s_pure h (ru_add (h.ev rfl) (h.ev rfl) (by omega)) rfl ?_; intro f h
            refine s_pure h (ru_move (h.ev rfl)) rfl ?_; intro f h
            refine s_nil ?_
            refine t_norm ?_
            exact ⟨_, by omega, ⟨k + 1, v40, h.only ⟨rfl, rfl, rfl, slot_int rfl (endM_ok hp1 he0), slot_int rfl (by omega), slot_int rfl (by omega), trivial⟩, St.as (s.sel [3, 1, 2] rfl (by decide)) ⟨sl_eq rfl (eCells_next hp1 he0), rfl, cells_eq (by rw [rdS_ok hp1 he0]; exact congrArg (fun x => #[Value.int .i64 x]) (Int.natCast_add _ _).symm), trivial⟩, rfl, by omega, by rw [rdS_ok hp1 he0]⟩⟩
        · replace hc := of_decide_eq_false hc
          refine wpIn_exit ?_
          refine t_exit ?_
          refine t_exit ?_
          refine b_exit ?_
          refine hK12 _ _ ?_
          refine c_seq fun K21 hK21 => ?_
          refine c_region ?_
          obtain ⟨hlen, _⟩ := rd_ok sx (by omega) k hp1
          have hend : endM sx k = (((rdS sx k).2.2 : Nat) : Int) := by unfold endM; rw [if_neg (by omega)]
          refine s_pure h (ru_move (h.ev rfl)) rfl ?_; intro f h
          refine s_pure h (ru_move (h.ev rfl)) rfl ?_; intro f h
          refine s_pure h (ru_assign (h.ev rfl)) rfl ?_; intro f h
          refine s_pure h (ru_assign (h.ev rfl)) rfl ?_; intro f h
          refine s_pure h (ru_assign (h.ev rfl)) rfl ?_; intro f h
          refine s_nil ?_
          refine hK21 _ _ ?_
          refine wpIn_ret ?_
          exact e_tmps3 rfl h s rfl rfl rfl (rd_out (rd_end h0 hq h4 hp1 (by omega)) hend (by rw [hlen]; exact s.getSl 0 rfl))
    · skip
      refine c_region ?_
      refine s_pure h (ru_move (h.ev rfl)) rfl ?_; intro f h
      refine s_pure h (ru_val (.bool true) (ru_lss (h.ev rfl) (h.ev rfl)) (congrArg Value.bool hq)) rfl ?_; intro f h
      refine s_pure h (ru_move (h.ev rfl)) rfl ?_; intro f h
      refine s_off (b := false) h rfl rfl rfl rfl ?_; intro f h
      refine s_off (b := false) h rfl rfl rfl rfl ?_; intro f h
      refine s_pure h (ru_pick_t (h.ev rfl) (h.ev rfl)) rfl ?_; intro f h
      refine s_nil ?_
      refine hK7 _ _ ?_
      refine wpIn_cond_true (h.ev rfl) ?_
      refine c_seq fun K22 hK22 => ?_
      refine c_region ?_
      refine s_pure h (ru_assign (h.ev rfl)) rfl ?_; intro f h
      refine s_pure h (ru_assign (h.ev rfl)) rfl ?_; intro f h
      refine s_pure h (ru_assign (h.ev rfl)) rfl ?_; intro f h
      refine s_nil ?_
      refine hK22 _ _ ?_
      refine wpIn_ret ?_
      refine t_ret ?_
      exact e_tmps3 rfl h s rfl rfl rfl (rd_out (readM_5 h0 (.inl (of_decide_eq_true hq))) rfl (owns_nil _ _ _ _))

set_option maxHeartbeats 4000000 in
theorem rread_any (sx : ByteArray) (hsx : sx.size ≤ 100000) (w : World) : Calls Try.prog 19 [.string sx].toArray w (Ret w (fun v w' => ∃ vs, v = .agg #[vs, .int .i64 (((readM sx).2.2 : Nat) : Int), .int .i64 (readM sx).1] ∧ Owns w' w.heap.size 26 34 vs (readM sx).2.1.length (eCells (readM sx).2.1))) := by
  have hb0 := sb_lt sx 0
  refine c_enter Try.func19 rfl Try.ntmps19 rfl [(0, .string sx)] (by simp) fun f h => ?_
  have s := St.start w
  refine c_seq fun K1 hK1 => ?_
  refine c_region ?_
  refine s_alloc (#[.slice none 0 0, .int .i64 0, .int .i64 0]) h s zero40 rfl rfl ?_; intro f w1 b2 h s
  refine s_nil ?_
  refine hK1 _ _ ?_
  refine c_seq fun K2 hK2 => ?_
  refine c_seq fun K3 hK3 => ?_
  refine c_region ?_
  refine s_pure h (ru_move (h.ev rfl)) rfl ?_; intro f h
  refine s_pure h (ru_len_str Try.underlying9 (h.ev rfl)) rfl ?_; intro f h
  refine s_pure h (ru_eql (h.ev rfl) (h.ev rfl)) rfl ?_; intro f h
  refine s_nil ?_
  refine hK3 _ _ ?_
  refine c_cond h rfl (fun hc => ?_) (fun hc => ?_)
  · replace hc := of_decide_eq_true hc
    refine c_seq fun K4 hK4 => ?_
    refine c_region ?_
    refine s_pure h (ru_build_t3 sttT (h.ev rfl)) rfl ?_; intro f h
    refine s_store_row 0 h s row40 rfl rfl rfl (rfl) (rfl) (t_ones _ _ _ rfl) ?_; intro w1 s
    refine s_nil ?_
    refine hK4 _ _ ?_
    refine wpIn_ret ?_
    refine t_ret ?_
    exact e_row 0 rfl h s row40 rfl rfl (rfl) (rd_outT (readM_0 (ba_nil hc)) rfl (owns_nil _ _ _ _))
  · replace hc := of_decide_eq_false hc
    have h0 : 0 < sx.size := by omega
    refine wpIn_skip ?_
    refine hK2 _ _ ?_
    refine c_seq fun K5 hK5 => ?_
    refine c_region ?_
    refine s_pure h (ru_move (h.ev rfl)) rfl ?_; intro f h
    refine s_pure h (ru_ix_sb Try.underlying9 (0) (h.ev rfl) (h.ev rfl) (by omega) (by omega)) rfl ?_; intro f h
    refine s_pure h (ru_conv_in Try.underlying5 Try.underlying3 (h.ev rfl) (IntWalk.i64_in _ (by omega))) rfl ?_; intro f h
    refine s_pure h (ru_assign (h.ev rfl)) rfl ?_; intro f h
    refine s_nil ?_
    refine hK5 _ _ ?_
    refine c_seq fun K6 hK6 => ?_
    refine c_seq fun K7 hK7 => ?_
    cases hq : (decide (((sb sx 0 : Nat) : Int) < 1) : Bool)
    · skip
      refine c_region ?_
      refine s_pure h (ru_move (h.ev rfl)) rfl ?_; intro f h
      refine s_pure h (ru_val (.bool false) (ru_lss (h.ev rfl) (h.ev rfl)) (congrArg Value.bool hq)) rfl ?_; intro f h
      refine s_pure h (ru_move (h.ev rfl)) rfl ?_; intro f h
      refine s_on h rfl rfl rfl ?_
      refine s_pure h (ru_move (h.ev rfl)) rfl ?_; intro f h
      refine s_on h rfl rfl rfl ?_
      refine s_pure h (ru_gtr (h.ev rfl) (h.ev rfl)) rfl ?_; intro f h
      refine s_pure h (ru_pick_f (h.ev rfl) (h.ev rfl)) rfl ?_; intro f h
      refine s_nil ?_
      refine hK7 _ _ ?_
      refine c_cond h rfl (fun hc => ?_) (fun hc => ?_)
      · replace hc := of_decide_eq_true hc
        have h4 := hc
        refine c_seq fun K8 hK8 => ?_
        refine c_region ?_
        refine s_pure h (ru_build_t3 sttT (h.ev rfl)) rfl ?_; intro f h
        refine s_store_row 0 h s row40 rfl rfl rfl (rfl) (rfl) (t_ones _ _ _ rfl) ?_; intro w1 s
        refine s_nil ?_
        refine hK8 _ _ ?_
        refine wpIn_ret ?_
        refine t_ret ?_
        exact e_row 0 rfl h s row40 rfl rfl (rfl) (rd_outT (readM_5 h0 (.inr h4)) rfl (owns_nil _ _ _ _))
      · replace hc := of_decide_eq_false hc
        have h4 := hc
        replace hq := of_decide_eq_false hq
        refine wpIn_skip ?_
        refine hK6 _ _ ?_
        refine c_seq fun K9 hK9 => ?_
        refine c_region ?_
        refine s_pure h (ru_build_t2 sttT (h.ev rfl)) rfl ?_; intro f h
        refine s_alloc (#[.slice none 0 0, .int .i64 0, .int .i64 0]) h s zero40 rfl rfl ?_; intro f w1 b4 h s
        refine s_store_row 0 h s row40 rfl rfl rfl (rfl) (rfl) (t_ones _ _ _ rfl) ?_; intro w1 s
        refine s_nil ?_
        refine hK9 _ _ ?_
        refine c_seq fun K10 hK10 => ?_
        refine c_seq fun K11 hK11 => ?_
        refine c_region ?_
        refine s_pure h (ru_assign (h.ev rfl)) rfl ?_; intro f h
        replace s := s.nilSl 26 34
        refine s_nil ?_
        refine hK11 _ _ ?_
        refine wpIn_block ?_
        refine wpIn_loop_ghost (fun nn aa ww => ∃ k : Nat, ∃ vl : Value, Sl 92 aa [(0, .string sx), (2, .pointer (some ⟨b2, 0, none⟩)), (4, .pointer (some ⟨b4, 0, none⟩)), (3, .int .i64 ((sb sx 0 : Nat) : Int)), (5, .int .i64 (k : Int))] ∧ St w [.sl vl 26 34 k (eCells (rdS sx k).2.1), .blk b4 (.cells (#[vl, .int .i64 (((rdS sx k).2.2 : Nat) : Int), .int .i64 0]) 40), .blk b2 (.cells (#[.slice none 0 0, .int .i64 0, .int .i64 0]) 40)] ww ∧ nn = sb sx 0 - k ∧ k ≤ sb sx 0 ∧ (rdS sx k).1 = 0) (sb sx 0 - (0)) ⟨0, (Value.slice none 0 0), h.only ⟨rfl, rfl, rfl, rfl, slot_int rfl rfl, trivial⟩, s.as ⟨sl_eq rfl rfl, cells_eq rfl, rfl, trivial⟩, rfl, Nat.zero_le _, rfl⟩ ?_
        rintro _ f w1 ⟨k, vl, h, s, hnn, hp0, hp1⟩
        refine c_seq fun K12 hK12 => ?_
        refine c_seq fun K13 hK13 => ?_
        refine c_region ?_
        refine s_pure h (ru_move (h.ev rfl)) rfl ?_; intro f h
        refine s_pure h (ru_move (h.ev rfl)) rfl ?_; intro f h
        refine s_pure h (ru_lss (h.ev rfl) (h.ev rfl)) rfl ?_; intro f h
        refine s_nil ?_
        refine hK13 _ _ ?_
        refine c_cond h rfl (fun hc => ?_) (fun hc => ?_)
        · replace hc := of_decide_eq_true hc
          refine wpIn_skip ?_
          refine hK12 _ _ ?_
          refine c_seq fun K14 hK14 => ?_
          refine wpIn_block ?_
          refine c_seq fun K15 hK15 => ?_
          refine c_region ?_
          refine s_pure h (ru_move (h.ev rfl)) rfl ?_; intro f h
          refine s_pure h (ru_field fld40_1 (h.ev rfl)) rfl ?_; intro f h
          refine s_load_at1 (cell_of_has (Has.of_own s 1 rfl) 1 (rfl)) h one3 rfl rfl ?_; intro f h
          have hkl : k < sb sx 0 := by omega
          obtain ⟨hro1, hro2, hro3, hro4, hro5⟩ := rd_ok sx (by omega) k hp1
          have hsu := suf_size sx (rdS sx k).2.2
          have hb1 := sb_lt (sufS sx (rdS sx k).2.2) 0
          have hb2 := sb_lt (sufS sx (rdS sx k).2.2) 1
          refine s_pure h (ru_val (.string (sufS sx (rdS sx k).2.2)) (ru_slice_str_lo ((rdS sx k).2.2) Try.underlying9 (h.ev rfl) (h.ev rfl) (rfl) (by omega)) (rfl)) rfl ?_; intro f h
          refine s_pure h (ru_assign (h.ev rfl)) rfl ?_; intro f h
          refine s_nil ?_
          refine hK15 _ _ ?_
          refine c_seq fun K16 hK16 => ?_
          refine c_seq fun K17 hK17 => ?_
          refine c_region ?_
          refine s_pure h (ru_move (h.ev rfl)) rfl ?_; intro f h
          refine s_pure h (ru_len_str Try.underlying9 (h.ev rfl)) rfl ?_; intro f h
          refine s_pure h (ru_eql (h.ev rfl) (h.ev rfl)) rfl ?_; intro f h
          refine s_nil ?_
          refine hK17 _ _ ?_
          refine c_cond h rfl (fun hc => ?_) (fun hc => ?_)
          · replace hc := of_decide_eq_true hc
            have hz0 := hc
            refine c_seq fun K18 hK18 => ?_
            refine c_region ?_
            refine s_pure h (ru_build_t3 sttT (h.ev rfl)) rfl ?_; intro f h
            refine s_store_row 2 h s row40 rfl rfl rfl (rfl) (rfl) (t_ones _ _ _ rfl) ?_; intro w1 s
            refine s_nil ?_
            refine hK18 _ _ ?_
            refine wpIn_ret ?_
            refine t_ret ?_
            refine b_ret ?_
            refine t_ret ?_
            refine t_ret ?_
            refine b_ret ?_
            refine t_ret ?_
            exact e_row 2 rfl h s row40 rfl rfl (rfl) (rd_outT (rd_bad h0 hq h4 hp1 hkl (entR_0 hz0) (by decide)) rfl (owns_nil _ _ _ _))
          · replace hc := of_decide_eq_false hc
            have hz0 := hc
            refine wpIn_skip ?_
            refine hK16 _ _ ?_
            refine c_seq fun K19 hK19 => ?_
            refine c_region ?_
            refine s_pure h (ru_assign (h.ev rfl)) rfl ?_; intro f h
            refine s_nil ?_
            refine hK19 _ _ ?_
            refine c_seq fun K20 hK20 => ?_
            refine c_seq fun K21 hK21 => ?_
            refine c_region ?_
            refine s_pure h (ru_move (h.ev rfl)) rfl ?_; intro f h
            refine s_pure h (ru_ix_sb Try.underlying9 (0) (h.ev rfl) (h.ev rfl) (by omega) (by omega)) rfl ?_; intro f h
            refine s_pure h (ru_eql (h.ev rfl) (h.ev rfl)) rfl ?_; intro f h
            refine s_nil ?_
            refine hK21 _ _ ?_
            refine c_cond h rfl (fun hc => ?_) (fun hc => ?_)
            · replace hc := of_decide_eq_true hc
              have hk1 := hc
              refine c_region ?_
              refine s_pure h (ru_assign (h.ev rfl)) rfl ?_; intro f h
              refine s_nil ?_
              refine hK20 _ _ ?_
              refine c_seq fun K22 hK22 => ?_
              refine c_seq fun K23 hK23 => ?_
              refine c_region ?_
              refine s_pure h (ru_move (h.ev rfl)) rfl ?_; intro f h
              refine s_pure h (ru_ix_sb Try.underlying9 (0) (h.ev rfl) (h.ev rfl) (by omega) (by omega)) rfl ?_; intro f h
              refine s_pure h (ru_val (.bool false) (ru_lss (h.ev rfl) (h.ev rfl)) (congrArg Value.bool (decide_eq_false (by omega)))) rfl ?_; intro f h
              refine s_pure h (ru_move (h.ev rfl)) rfl ?_; intro f h
              refine s_on h rfl rfl rfl ?_
              refine s_pure h (ru_move (h.ev rfl)) rfl ?_; intro f h
              refine s_on h rfl rfl rfl ?_
              refine s_pure h (ru_ix_sb Try.underlying9 (0) (h.ev rfl) (h.ev rfl) (by omega) (by omega)) rfl ?_; intro f h
              refine s_on h rfl rfl rfl ?_
              refine s_pure h (ru_val (.bool false) (ru_gtr (h.ev rfl) (h.ev rfl)) (congrArg Value.bool (decide_eq_false (by omega)))) rfl ?_; intro f h
              refine s_pure h (ru_pick_f (h.ev rfl) (h.ev rfl)) rfl ?_; intro f h
              refine s_nil ?_
              refine hK23 _ _ ?_
              refine wpIn_cond_false (h.ev rfl) ?_
              refine wpIn_skip ?_
              refine hK22 _ _ ?_
              refine c_seq fun K24 hK24 => ?_
              refine c_seq fun K25 hK25 => ?_
              refine c_region ?_
              refine s_pure h (ru_move (h.ev rfl)) rfl ?_; intro f h
              refine s_pure h (ru_len_str Try.underlying9 (h.ev rfl)) rfl ?_; intro f h
              refine s_pure h (ru_move (h.ev rfl)) rfl ?_; intro f h
              refine s_pure h (ru_lss (h.ev rfl) (h.ev rfl)) rfl ?_; intro f h
              refine s_nil ?_
              refine hK25 _ _ ?_
              refine c_cond h rfl (fun hc => ?_) (fun hc => ?_)
              · replace hc := of_decide_eq_true hc
                have hsz := hc
                refine c_seq fun K26 hK26 => ?_
                refine c_region ?_
                refine s_pure h (ru_build_t3 sttT (h.ev rfl)) rfl ?_; intro f h
                refine s_store_row 2 h s row40 rfl rfl rfl (rfl) (rfl) (t_ones _ _ _ rfl) ?_; intro w1 s
                refine s_nil ?_
                refine hK26 _ _ ?_
                refine wpIn_ret ?_
                refine t_ret ?_
                refine b_ret ?_
                refine t_ret ?_
                refine t_ret ?_
                refine b_ret ?_
                refine t_ret ?_
                exact e_row 2 rfl h s row40 rfl rfl (rfl) (rd_outT (rd_bad h0 hq h4 hp1 hkl (entR_1s hz0 hk1 hsz) (by decide)) rfl (owns_nil _ _ _ _))
              · replace hc := of_decide_eq_false hc
                have hsz := hc
                refine wpIn_skip ?_
                refine hK24 _ _ ?_
                refine c_seq fun K27 hK27 => ?_
                refine c_region ?_
                refine s_pure h (ru_move (h.ev rfl)) rfl ?_; intro f h
                refine s_pure h (ru_ix_sb Try.underlying9 (0) (h.ev rfl) (h.ev rfl) (by omega) (by omega)) rfl ?_; intro f h
                refine s_pure h (ru_conv_in Try.underlying5 Try.underlying3 (h.ev rfl) (IntWalk.i64_in _ (by omega))) rfl ?_; intro f h
                refine s_pure h (ru_build_e1 sttE (h.ev rfl)) rfl ?_; intro f h
                refine s_alloc (eArr (0, 0#256, 0)) h s zero26 rfl rfl ?_; intro f w1 b8 h s
                refine s_store_row 0 h s row26 rfl rfl rfl (eArr_size _) (eArr_size _) (eArr_ones _) ?_; intro w1 s
                refine s_nil ?_
                refine hK27 _ _ ?_
                refine c_seq fun K28 hK28 => ?_
                refine c_seq fun K29 hK29 => ?_
                refine c_region ?_
                refine s_pure h (ru_move (h.ev rfl)) rfl ?_; intro f h
                refine s_pure h (ru_val (.bool false) (ru_eql (h.ev rfl) (h.ev rfl)) (congrArg Value.bool (rfl))) rfl ?_; intro f h
                refine s_nil ?_
                refine hK29 _ _ ?_
                refine wpIn_cond_false (h.ev rfl) ?_
                refine c_seq fun K30 hK30 => ?_
                refine c_region ?_
                refine s_pure h (ru_assign (h.ev rfl)) rfl ?_; intro f h
                refine s_nil ?_
                refine hK30 _ _ ?_
                refine wpIn_block ?_
                refine wpIn_loop_ghost (fun nn aa ww => ∃ j : Nat, Sl 92 aa [(0, .string sx), (2, .pointer (some ⟨b2, 0, none⟩)), (4, .pointer (some ⟨b4, 0, none⟩)), (8, .pointer (some ⟨b8, 0, none⟩)), (3, .int .i64 ((sb sx 0 : Nat) : Int)), (5, .int .i64 (k : Int)), (6, .string (sufS sx (rdS sx k).2.2)), (7, .int .i64 33), (9, .int .i64 (j : Int))] ∧ St w [.blk b8 (.cells (eArr (((sb (sufS sx (rdS sx k).2.2) 0 : Nat) : Int), ptd (sufS sx (rdS sx k).2.2) j, 0)) 26), .sl vl 26 34 k (eCells (rdS sx k).2.1), .blk b4 (.cells (#[vl, .int .i64 (((rdS sx k).2.2 : Nat) : Int), .int .i64 0]) 40), .blk b2 (.cells (#[.slice none 0 0, .int .i64 0, .int .i64 0]) 40)] ww ∧ nn = 32 - j ∧ j ≤ 32) (32 - (0)) ⟨0, h.only ⟨rfl, rfl, rfl, rfl, rfl, rfl, rfl, rfl, slot_int rfl rfl, trivial⟩, s.as ⟨cells_eq (by rw [ptd_zero]), rfl, rfl, rfl, trivial⟩, rfl, Nat.zero_le _⟩ ?_
                rintro _ f w1 ⟨j, h, s, hnn, hp0⟩
                refine c_seq fun K31 hK31 => ?_
                refine c_seq fun K32 hK32 => ?_
                refine c_region ?_
                refine s_pure h (ru_move (h.ev rfl)) rfl ?_; intro f h
                refine s_pure h (ru_lss (h.ev rfl) (h.ev rfl)) rfl ?_; intro f h
                refine s_nil ?_
                refine hK32 _ _ ?_
                refine c_cond h rfl (fun hc => ?_) (fun hc => ?_)
                · replace hc := of_decide_eq_true hc
                  refine wpIn_skip ?_
                  refine hK31 _ _ ?_
                  refine c_seq fun K33 hK33 => ?_
                  refine wpIn_block ?_
                  refine c_region ?_
                  refine s_pure h (ru_move (h.ev rfl)) rfl ?_; intro f h
                  refine s_pure h (ru_move (h.ev rfl)) rfl ?_; intro f h
                  refine s_pure h (ru_move (h.ev rfl)) rfl ?_; intro f h
                  refine s_pure h (ru_add (h.ev rfl) (h.ev rfl) (by omega)) rfl ?_; intro f h
                  refine s_pure h (ru_ix_sb Try.underlying9 (1 + j) (h.ev rfl) (h.ev rfl) (by omega) (by omega)) rfl ?_; intro f h
                  refine s_pure h (ru_field fld26_1 (h.ev rfl)) rfl ?_; intro f h
                  refine s_pure h (ru_ix_at (j) Try.underlying24 size5 (h.ev rfl) (h.ev rfl) (by omega) (by omega)) rfl ?_; intro f h
                  refine s_store_one 0 h s one5 rfl rfl rfl (by rw [eArr_size]; omega) (rfl) ?_; intro w1 s
                  refine s_nil ?_
                  refine b_norm ?_
                  refine hK33 _ _ ?_
                  refine c_region ?_
                  refine s_pure h (ru_move (h.ev rfl)) rfl ?_; intro f h
                  refine s_pure h (ru_add (h.ev rfl) (h.ev rfl) (by omega)) rfl ?_; intro f h
                  refine s_pure h (ru_assign (h.ev rfl)) rfl ?_; intro f h
                  refine s_nil ?_
                  refine t_norm ?_
                  exact ⟨_, by omega, ⟨j + 1, h.only ⟨rfl, rfl, rfl, rfl, rfl, rfl, rfl, rfl, slot_int rfl (by omega), trivial⟩, St.as s ⟨cells_eq (eArr_setB _ _ _ _ _ _ (by omega) (ptd_next (by omega))), rfl, rfl, rfl, trivial⟩, rfl, by omega⟩⟩
                · replace hc := of_decide_eq_false hc
                  refine wpIn_exit ?_
                  refine t_exit ?_
                  refine t_exit ?_
                  refine b_exit ?_
                  refine hK28 _ _ ?_
                  refine c_seq fun K34 hK34 => ?_
                  refine c_seq fun K35 hK35 => ?_
                  refine c_region ?_
                  obtain rfl : j = 32 := by omega
                  have he0 := entR_1 hz0 hk1 hsz
                  have s := s.recell (D := eArr (1, idOf fun i => sb (sufS sx (rdS sx k).2.2) (1 + i), 0)) 0 rfl (by rw [hk1, ptd_end])
                  refine s_pure h (ru_field fld26_2 (h.ev rfl)) rfl ?_; intro f h
                  refine s_load_at1 (cell_of_has (Has.of_own s 0 rfl) 33 (eArr_host _)) h one3 rfl rfl ?_; intro f h
                  refine s_pure h (ru_val (.bool false) (ru_gtr (h.ev rfl) (h.ev rfl)) (congrArg Value.bool (decide_eq_false (show ¬ (15 : Int) < 0 by decide)))) rfl ?_; intro f h
                  refine s_nil ?_
                  refine hK35 _ _ ?_
                  refine wpIn_cond_false (h.ev rfl) ?_
                  refine wpIn_skip ?_
                  refine hK34 _ _ ?_
                  refine c_seq fun K36 hK36 => ?_
                  refine c_region ?_
                  refine s_pure h (ru_field fld40_0 (h.ev rfl)) rfl ?_; intro f h
                  refine s_load_at1 (cell_of_has (Has.of_own s 2 rfl) 0 (rfl)) h one22 rfl rfl ?_; intro f h
                  refine s_load_row 0 h s row26 rfl rfl (eArr_size _) rfl ?_; intro f h
                  refine s_bslice (vs := [.agg (eArr (1, idOf fun i => sb (sufS sx (rdS sx k).2.2) (1 + i), 0))]) [.tmp 82] h s Try.underlying22 elm26 rfl rfl (by intro v hv; rw [List.mem_singleton] at hv; subst hv; exact eArr_size _) rfl rfl rfl ?_; intro f w1 v83 h s
                  refine s_append 2 0 h s Try.underlying22 elm26 rfl rfl rfl rfl (by decide) (by simp only [List.flatMap_cons, List.flatMap_nil, List.append_nil]; exact eArr_ones _) (by unfold maxLen; omega) (by omega) rfl ?_; intro f w1 v84 h s
                  replace s := s.pick _ (List.sublist_cons_self _ _)
                  refine s_pure h (ru_field fld40_0 (h.ev rfl)) rfl ?_; intro f h
                  refine s_store_one 2 h s one22 rfl rfl rfl (by simp) (own_one (s.getSl 1 rfl)) ?_; intro w1 s
                  refine s_nil ?_
                  refine hK36 _ _ ?_
                  refine c_region ?_
                  refine s_pure h (ru_field fld40_1 (h.ev rfl)) rfl ?_; intro f h
                  refine s_load_at1 (cell_of_has (Has.of_own s 2 rfl) 1 (rfl)) h one3 rfl rfl ?_; intro f h
                  refine s_pure h (ru_move (h.ev rfl)) rfl ?_; intro f h
                  refine s_pure h (ru_add (h.ev rfl) (h.ev rfl) (by omega)) rfl ?_; intro f h
                  refine s_pure h (ru_field fld40_1 (h.ev rfl)) rfl ?_; intro f h
                  refine s_store_one 2 h s one3 rfl rfl rfl (by simp) (rfl) ?_; intro w1 s
                  refine s_nil ?_
                  refine b_norm ?_
                  refine hK14 _ _ ?_
                  refine c_region ?_
                  refine s_pure h (ru_move (h.ev rfl)) rfl ?_; intro f h
                  refine s_pure h (ru_add (h.ev rfl) (h.ev rfl) (by omega)) rfl ?_; intro f h
                  refine s_pure h (ru_assign (h.ev rfl)) rfl ?_; intro f h
                  refine s_nil ?_
                  refine t_norm ?_
                  exact ⟨_, by omega, ⟨k + 1, v84, h.only ⟨rfl, rfl, rfl, rfl, slot_int rfl (by omega), trivial⟩, St.as (s.pick _ (List.sublist_append_right [_] _)) ⟨sl_eq rfl (eCells_to hp1 he0), cells_eq (rec_to hp1 he0), rfl, trivial⟩, rfl, by omega, by rw [rdS_to hp1 he0]⟩⟩
            · replace hc := of_decide_eq_false hc
              have hk1 := hc
              refine wpIn_skip ?_
              refine hK20 _ _ ?_
              refine c_seq fun K37 hK37 => ?_
              refine c_seq fun K38 hK38 => ?_
              cases hw : (decide (((sb (sufS sx (rdS sx k).2.2) 0 : Nat) : Int) < 1) : Bool)
              · skip
                refine c_region ?_
                refine s_pure h (ru_move (h.ev rfl)) rfl ?_; intro f h
                refine s_pure h (ru_ix_sb Try.underlying9 (0) (h.ev rfl) (h.ev rfl) (by omega) (by omega)) rfl ?_; intro f h
                refine s_pure h (ru_val (.bool false) (ru_lss (h.ev rfl) (h.ev rfl)) (congrArg Value.bool hw)) rfl ?_; intro f h
                refine s_pure h (ru_move (h.ev rfl)) rfl ?_; intro f h
                refine s_on h rfl rfl rfl ?_
                refine s_pure h (ru_move (h.ev rfl)) rfl ?_; intro f h
                refine s_on h rfl rfl rfl ?_
                refine s_pure h (ru_ix_sb Try.underlying9 (0) (h.ev rfl) (h.ev rfl) (by omega) (by omega)) rfl ?_; intro f h
                refine s_on h rfl rfl rfl ?_
                refine s_pure h (ru_gtr (h.ev rfl) (h.ev rfl)) rfl ?_; intro f h
                refine s_pure h (ru_pick_f (h.ev rfl) (h.ev rfl)) rfl ?_; intro f h
                refine s_nil ?_
                refine hK38 _ _ ?_
                refine c_cond h rfl (fun hc => ?_) (fun hc => ?_)
                · replace hc := of_decide_eq_true hc
                  have hk2 := hc
                  refine c_seq fun K39 hK39 => ?_
                  refine c_region ?_
                  refine s_pure h (ru_build_t3 sttT (h.ev rfl)) rfl ?_; intro f h
                  refine s_store_row 2 h s row40 rfl rfl rfl (rfl) (rfl) (t_ones _ _ _ rfl) ?_; intro w1 s
                  refine s_nil ?_
                  refine hK39 _ _ ?_
                  refine wpIn_ret ?_
                  refine t_ret ?_
                  refine b_ret ?_
                  refine t_ret ?_
                  refine t_ret ?_
                  refine b_ret ?_
                  refine t_ret ?_
                  exact e_row 2 rfl h s row40 rfl rfl (rfl) (rd_outT (rd_bad h0 hq h4 hp1 hkl (entR_n hz0 hk1 (.inr hk2)) (by decide)) rfl (owns_nil _ _ _ _))
                · replace hc := of_decide_eq_false hc
                  have hk2 := hc
                  have hk3 : ((sb (sufS sx (rdS sx k).2.2) 0 : Nat) : Int) = 2 := by have := of_decide_eq_false hw; omega
                  refine wpIn_skip ?_
                  refine hK37 _ _ ?_
                  refine c_seq fun K40 hK40 => ?_
                  refine c_seq fun K41 hK41 => ?_
                  refine c_region ?_
                  refine s_pure h (ru_move (h.ev rfl)) rfl ?_; intro f h
                  refine s_pure h (ru_len_str Try.underlying9 (h.ev rfl)) rfl ?_; intro f h
                  refine s_pure h (ru_move (h.ev rfl)) rfl ?_; intro f h
                  refine s_pure h (ru_lss (h.ev rfl) (h.ev rfl)) rfl ?_; intro f h
                  refine s_nil ?_
                  refine hK41 _ _ ?_
                  refine c_cond h rfl (fun hc => ?_) (fun hc => ?_)
                  · replace hc := of_decide_eq_true hc
                    have hsz := hc
                    refine c_seq fun K42 hK42 => ?_
                    refine c_region ?_
                    refine s_pure h (ru_build_t3 sttT (h.ev rfl)) rfl ?_; intro f h
                    refine s_store_row 2 h s row40 rfl rfl rfl (rfl) (rfl) (t_ones _ _ _ rfl) ?_; intro w1 s
                    refine s_nil ?_
                    refine hK42 _ _ ?_
                    refine wpIn_ret ?_
                    refine t_ret ?_
                    refine b_ret ?_
                    refine t_ret ?_
                    refine t_ret ?_
                    refine b_ret ?_
                    refine t_ret ?_
                    exact e_row 2 rfl h s row40 rfl rfl (rfl) (rd_outT (rd_bad h0 hq h4 hp1 hkl (entR_2s hz0 hk3 hsz) (by decide)) rfl (owns_nil _ _ _ _))
                  · replace hc := of_decide_eq_false hc
                    have hsz := hc
                    refine wpIn_skip ?_
                    refine hK40 _ _ ?_
                    refine c_seq fun K43 hK43 => ?_
                    refine c_region ?_
                    refine s_pure h (ru_move (h.ev rfl)) rfl ?_; intro f h
                    refine s_pure h (ru_ix_sb Try.underlying9 (0) (h.ev rfl) (h.ev rfl) (by omega) (by omega)) rfl ?_; intro f h
                    refine s_pure h (ru_conv_in Try.underlying5 Try.underlying3 (h.ev rfl) (IntWalk.i64_in _ (by omega))) rfl ?_; intro f h
                    refine s_pure h (ru_build_e1 sttE (h.ev rfl)) rfl ?_; intro f h
                    refine s_alloc (eArr (0, 0#256, 0)) h s zero26 rfl rfl ?_; intro f w1 b8 h s
                    refine s_store_row 0 h s row26 rfl rfl rfl (eArr_size _) (eArr_size _) (eArr_ones _) ?_; intro w1 s
                    refine s_nil ?_
                    refine hK43 _ _ ?_
                    refine c_seq fun K44 hK44 => ?_
                    refine c_seq fun K45 hK45 => ?_
                    refine c_region ?_
                    refine s_pure h (ru_move (h.ev rfl)) rfl ?_; intro f h
                    refine s_pure h (ru_val (.bool true) (ru_eql (h.ev rfl) (h.ev rfl)) (congrArg Value.bool (rfl))) rfl ?_; intro f h
                    refine s_nil ?_
                    refine hK45 _ _ ?_
                    refine wpIn_cond_true (h.ev rfl) ?_
                    refine c_region ?_
                    refine s_pure h (ru_move (h.ev rfl)) rfl ?_; intro f h
                    refine s_pure h (ru_ix_sb Try.underlying9 (1) (h.ev rfl) (h.ev rfl) (by omega) (by omega)) rfl ?_; intro f h
                    refine s_pure h (ru_conv_in Try.underlying5 Try.underlying3 (h.ev rfl) (IntWalk.i64_in _ (by omega))) rfl ?_; intro f h
                    refine s_pure h (ru_field fld26_2 (h.ev rfl)) rfl ?_; intro f h
                    refine s_store_one 0 h s one3 rfl rfl rfl (by rw [eArr_size]; omega) (rfl) ?_; intro w1 s
                    have s := s.recell (D := eArr (2, 0#256, ((sb (sufS sx (rdS sx k).2.2) 1 : Nat) : Int))) 0 rfl (by rw [hk3]; exact eArr_setH _ _ _ _)
                    refine s_nil ?_
                    refine hK44 _ _ ?_
                    refine c_seq fun K46 hK46 => ?_
                    refine c_seq fun K47 hK47 => ?_
                    refine c_region ?_
                    refine s_pure h (ru_field fld26_2 (h.ev rfl)) rfl ?_; intro f h
                    refine s_load_at1 (cell_of_has (Has.of_own s 0 rfl) 33 (eArr_host _)) h one3 rfl rfl ?_; intro f h
                    refine s_pure h (ru_gtr (h.ev rfl) (h.ev rfl)) rfl ?_; intro f h
                    refine s_nil ?_
                    refine hK47 _ _ ?_
                    refine c_cond h rfl (fun hc => ?_) (fun hc => ?_)
                    · replace hc := of_decide_eq_true hc
                      have hh := hc
                      refine c_seq fun K48 hK48 => ?_
                      refine c_region ?_
                      refine s_pure h (ru_build_t3 sttT (h.ev rfl)) rfl ?_; intro f h
                      refine s_store_row 3 h s row40 rfl rfl rfl (rfl) (rfl) (t_ones _ _ _ rfl) ?_; intro w1 s
                      refine s_nil ?_
                      refine hK48 _ _ ?_
                      refine wpIn_ret ?_
                      refine t_ret ?_
                      refine b_ret ?_
                      refine t_ret ?_
                      refine t_ret ?_
                      refine b_ret ?_
                      refine t_ret ?_
                      exact e_row 3 rfl h s row40 rfl rfl (rfl) (rd_outT (rd_bad h0 hq h4 hp1 hkl (entR_2h hz0 hk3 hsz hh) (by decide)) rfl (owns_nil _ _ _ _))
                    · replace hc := of_decide_eq_false hc
                      have hh := hc
                      have he0 := entR_2 hz0 hk3 hsz hh
                      refine wpIn_skip ?_
                      refine hK46 _ _ ?_
                      refine c_seq fun K49 hK49 => ?_
                      refine c_region ?_
                      refine s_pure h (ru_field fld40_0 (h.ev rfl)) rfl ?_; intro f h
                      refine s_load_at1 (cell_of_has (Has.of_own s 2 rfl) 0 (rfl)) h one22 rfl rfl ?_; intro f h
                      refine s_load_row 0 h s row26 rfl rfl (eArr_size _) rfl ?_; intro f h
                      refine s_bslice (vs := [.agg (eArr (2, 0#256, ((sb (sufS sx (rdS sx k).2.2) 1 : Nat) : Int)))]) [.tmp 82] h s Try.underlying22 elm26 rfl rfl (by intro v hv; rw [List.mem_singleton] at hv; subst hv; exact eArr_size _) rfl rfl rfl ?_; intro f w1 v83 h s
                      refine s_append 2 0 h s Try.underlying22 elm26 rfl rfl rfl rfl (by decide) (by simp only [List.flatMap_cons, List.flatMap_nil, List.append_nil]; exact eArr_ones _) (by unfold maxLen; omega) (by omega) rfl ?_; intro f w1 v84 h s
                      replace s := s.pick _ (List.sublist_cons_self _ _)
                      refine s_pure h (ru_field fld40_0 (h.ev rfl)) rfl ?_; intro f h
                      refine s_store_one 2 h s one22 rfl rfl rfl (by simp) (own_one (s.getSl 1 rfl)) ?_; intro w1 s
                      refine s_nil ?_
                      refine hK49 _ _ ?_
                      refine c_region ?_
                      refine s_pure h (ru_field fld40_1 (h.ev rfl)) rfl ?_; intro f h
                      refine s_load_at1 (cell_of_has (Has.of_own s 2 rfl) 1 (rfl)) h one3 rfl rfl ?_; intro f h
                      refine s_pure h (ru_move (h.ev rfl)) rfl ?_; intro f h
                      refine s_pure h (ru_add (h.ev rfl) (h.ev rfl) (by omega)) rfl ?_; intro f h
                      refine s_pure h (ru_field fld40_1 (h.ev rfl)) rfl ?_; intro f h
                      refine s_store_one 2 h s one3 rfl rfl rfl (by simp) (rfl) ?_; intro w1 s
                      refine s_nil ?_
                      refine b_norm ?_
                      refine hK14 _ _ ?_
                      refine c_region ?_
                      refine s_pure h (ru_move (h.ev rfl)) rfl ?_; intro f h
                      refine s_pure h (ru_add (h.ev rfl) (h.ev rfl) (by omega)) rfl ?_; intro f h
                      refine s_pure h (ru_assign (h.ev rfl)) rfl ?_; intro f h
                      refine s_nil ?_
                      refine t_norm ?_
                      exact ⟨_, by omega, ⟨k + 1, v84, h.only ⟨rfl, rfl, rfl, rfl, slot_int rfl (by omega), trivial⟩, St.as (s.pick _ (List.sublist_append_right [_] _)) ⟨sl_eq rfl (eCells_to hp1 he0), cells_eq (rec_to hp1 he0), rfl, trivial⟩, rfl, by omega, by rw [rdS_to hp1 he0]⟩⟩
              · skip
                refine c_region ?_
                refine s_pure h (ru_move (h.ev rfl)) rfl ?_; intro f h
                refine s_pure h (ru_ix_sb Try.underlying9 (0) (h.ev rfl) (h.ev rfl) (by omega) (by omega)) rfl ?_; intro f h
                refine s_pure h (ru_val (.bool true) (ru_lss (h.ev rfl) (h.ev rfl)) (congrArg Value.bool hw)) rfl ?_; intro f h
                refine s_pure h (ru_move (h.ev rfl)) rfl ?_; intro f h
                refine s_off (b := false) h rfl rfl rfl rfl ?_; intro f h
                refine s_off (b := false) h rfl rfl rfl rfl ?_; intro f h
                refine s_off (b := false) h rfl rfl rfl rfl ?_; intro f h
                refine s_pure h (ru_pick_t (h.ev rfl) (h.ev rfl)) rfl ?_; intro f h
                refine s_nil ?_
                refine hK38 _ _ ?_
                refine wpIn_cond_true (h.ev rfl) ?_
                refine c_seq fun K50 hK50 => ?_
                refine c_region ?_
                refine s_pure h (ru_build_t3 sttT (h.ev rfl)) rfl ?_; intro f h
                refine s_store_row 2 h s row40 rfl rfl rfl (rfl) (rfl) (t_ones _ _ _ rfl) ?_; intro w1 s
                refine s_nil ?_
                refine hK50 _ _ ?_
                refine wpIn_ret ?_
                refine t_ret ?_
                refine b_ret ?_
                refine t_ret ?_
                refine t_ret ?_
                refine b_ret ?_
                refine t_ret ?_
                exact e_row 2 rfl h s row40 rfl rfl (rfl) (rd_outT (rd_bad h0 hq h4 hp1 hkl (entR_n hz0 hk1 (.inl (of_decide_eq_true hw))) (by decide)) rfl (owns_nil _ _ _ _))
        · replace hc := of_decide_eq_false hc
          refine wpIn_exit ?_
          refine t_exit ?_
          refine t_exit ?_
          refine b_exit ?_
          refine hK10 _ _ ?_
          refine c_seq fun K51 hK51 => ?_
          refine c_region ?_
          obtain ⟨hlen, _⟩ := rd_ok sx (by omega) k hp1
          refine s_load_row 1 h s row40 rfl rfl (rfl) rfl ?_; intro f h
          refine s_store_row 2 h s row40 rfl rfl rfl (rfl) (rfl) (t_ones _ _ _ (own_one (s.getSl 0 rfl))) ?_; intro w1 s
          refine s_nil ?_
          refine hK51 _ _ ?_
          refine wpIn_ret ?_
          exact e_row 2 rfl h s row40 rfl rfl (rfl) (rd_outT (rd_end h0 hq h4 hp1 (by omega)) rfl (by rw [hlen]; exact s.getSl 0 rfl))
    · skip
      refine c_region ?_
      refine s_pure h (ru_move (h.ev rfl)) rfl ?_; intro f h
      refine s_pure h (ru_val (.bool true) (ru_lss (h.ev rfl) (h.ev rfl)) (congrArg Value.bool hq)) rfl ?_; intro f h
      refine s_pure h (ru_move (h.ev rfl)) rfl ?_; intro f h
      refine s_off (b := false) h rfl rfl rfl rfl ?_; intro f h
      refine s_off (b := false) h rfl rfl rfl rfl ?_; intro f h
      refine s_pure h (ru_pick_t (h.ev rfl) (h.ev rfl)) rfl ?_; intro f h
      refine s_nil ?_
      refine hK7 _ _ ?_
      refine wpIn_cond_true (h.ev rfl) ?_
      refine c_seq fun K52 hK52 => ?_
      refine c_region ?_
      refine s_pure h (ru_build_t3 sttT (h.ev rfl)) rfl ?_; intro f h
      refine s_store_row 0 h s row40 rfl rfl rfl (rfl) (rfl) (t_ones _ _ _ rfl) ?_; intro w1 s
      refine s_nil ?_
      refine hK52 _ _ ?_
      refine wpIn_ret ?_
      refine t_ret ?_
      exact e_row 0 rfl h s row40 rfl rfl (rfl) (rd_outT (readM_5 h0 (.inl (of_decide_eq_true hq))) rfl (owns_nil _ _ _ _))
end Go.Proofs.Ytjkjhceffbcidaa
