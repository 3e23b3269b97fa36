/- What Goal and Ideal of package finger answer: for all lists of at most 1000 members, all members and numbers. -/
import Derived.Test.YtbjgpimabgcipaaVb
set_option linter.unusedVariables false
set_option linter.unusedSimpArgs false
set_option linter.unusedSectionVars false
namespace Go.Proofs.Ytbjgpimabgcipaa
open Go.RowKit
theorem goal_any (m : Mb) (k : Int) (w : World) : Calls Try.prog 9 [.agg (mbArr m), .int .i64 k].toArray w (Ret w (is (.tuple #[idV (goalI m k), .int .i64 (goalE k)]))) := by
  refine c_enter Try.func9 rfl Try.ntmps9 rfl [(0, .agg (mbArr m)), (1, .int .i64 k)] (by simp) fun f h => ?_
  have s := St.start w
  refine c_seq fun K1 hK1 => ?_
  refine c_region ?_
  refine s_box ((mbArr m)) h s rfl rfl rfl ?_; intro f w1 b2 h s
  refine s_alloc (idArr 0#256) h s zero24 rfl rfl ?_; intro f w1 b4 h s
  refine s_pure h (ru_assign (h.ev rfl)) rfl ?_; intro f h
  refine s_nil ?_
  refine hK1 _ _ ?_
  refine c_seq fun K2 hK2 => ?_
  refine c_seq fun K3 hK3 => ?_
  cases k0 : (decide (k < 0) : Bool)
  · skip
    cases k1 : (decide (16 ≤ k) : Bool)
    · skip
      refine c_region ?_
      refine s_pure h (ru_move (h.ev rfl)) rfl ?_; intro f h
      refine s_pure h (ru_val (.bool false) (ru_lss (h.ev rfl) (h.ev rfl)) (congrArg Value.bool k0)) rfl ?_; intro f h
      refine s_pure h (ru_move (h.ev rfl)) rfl ?_; intro f h
      refine s_on h rfl rfl rfl ?_
      refine s_pure h (ru_move (h.ev rfl)) rfl ?_; intro f h
      refine s_on h rfl rfl rfl ?_
      refine s_pure h (ru_val (.bool false) (ru_geq (h.ev rfl) (h.ev rfl)) (congrArg Value.bool k1)) rfl ?_; intro f h
      refine s_pure h (ru_pick_f (h.ev rfl) (h.ev rfl)) rfl ?_; intro f h
      refine s_nil ?_
      refine hK3 _ _ ?_
      refine wpIn_cond_false (h.ev rfl) ?_
      refine wpIn_skip ?_
      refine hK2 _ _ ?_
      refine c_seq fun K4 hK4 => ?_
      refine c_region ?_
      have h0 := of_decide_eq_false k0
      have h1 := of_decide_eq_false k1
      obtain ⟨n9, hn9⟩ : ∃ n9 : Nat, k = (n9 : Int) := ⟨k.toNat, by omega⟩
      refine s_pure h (ru_field fld26_1 (h.ev rfl)) rfl ?_; intro f h
      refine s_load_at (Has.subL (Has.of_own s 1 rfl) 1 32 (D := idArr (_)) (mbArr_id _)) h row24 rfl (by first | exact idArr_size _ | exact bytesF_size _ _) rfl ?_; intro f h
      refine s_pure h (ru_move (h.ev rfl)) rfl ?_; intro f h
      refine s_pure h (ru_val (.int .i64 ((240 + n9 : Nat) : Int)) (ru_add (h.ev rfl) (h.ev rfl) (by omega)) (congrArg (Value.int .i64) (by omega))) rfl ?_; intro f h
      refine s_call h s fnc24 (step_any m.2 (240 + n9) (by omega) _) rfl rfl ?_; intro f w1 v9 hT hE h s; obtain rfl := hT
      refine s_pure h (ru_extract (h.ev rfl) rfl) rfl ?_; intro f h
      refine s_pure h (ru_extract (h.ev rfl) rfl) rfl ?_; intro f h
      refine s_store_row 0 h s row24 rfl rfl rfl (by first | exact idArr_size _ | exact bytesF_size _ _) (by first | exact idArr_size _ | exact bytesF_size _ _) (by first | exact idArr_ones _ | exact bytesF_ones _ _) ?_; intro w1 s
      refine s_pure h (ru_assign (h.ev rfl)) rfl ?_; intro f h
      refine s_nil ?_
      refine hK4 _ _ ?_
      refine wpIn_ret ?_
      exact e_row_tmp 0 rfl h s row24 rfl rfl (by first | exact idArr_size _ | exact bytesF_size _ _) rfl (by show _ = _; rw [(goal_ok m hn9 (by omega)).1, (goal_ok m hn9 (by omega)).2] <;> rfl)
    · skip
      refine c_region ?_
      refine s_pure h (ru_move (h.ev rfl)) rfl ?_; intro f h
      refine s_pure h (ru_val (.bool false) (ru_lss (h.ev rfl) (h.ev rfl)) (congrArg Value.bool k0)) rfl ?_; intro f h
      refine s_pure h (ru_move (h.ev rfl)) rfl ?_; intro f h
      refine s_on h rfl rfl rfl ?_
      refine s_pure h (ru_move (h.ev rfl)) rfl ?_; intro f h
      refine s_on h rfl rfl rfl ?_
      refine s_pure h (ru_val (.bool true) (ru_geq (h.ev rfl) (h.ev rfl)) (congrArg Value.bool k1)) rfl ?_; intro f h
      refine s_pure h (ru_pick_f (h.ev rfl) (h.ev rfl)) rfl ?_; intro f h
      refine s_nil ?_
      refine hK3 _ _ ?_
      refine wpIn_cond_true (h.ev rfl) ?_
      refine c_seq fun K5 hK5 => ?_
      refine c_region ?_
      refine s_pure h (ru_build0 idTy) rfl ?_; intro f h
      refine s_store_row 0 h s row24 rfl rfl rfl (by first | exact idArr_size _ | exact bytesF_size _ _) (by first | exact idArr_size _ | exact bytesF_size _ _) (by first | exact idArr_ones _ | exact bytesF_ones _ _) ?_; intro w1 s
      refine s_pure h (ru_assign (h.ev rfl)) rfl ?_; intro f h
      refine s_nil ?_
      refine hK5 _ _ ?_
      refine wpIn_ret ?_
      refine t_ret ?_
      exact e_row_tmp 0 rfl h s row24 rfl rfl (by first | exact idArr_size _ | exact bytesF_size _ _) rfl (by show _ = _; rw [(goal_bad m (.inr (of_decide_eq_true k1))).1, (goal_bad m (.inr (of_decide_eq_true k1))).2])
  · skip
    refine c_region ?_
    refine s_pure h (ru_move (h.ev rfl)) rfl ?_; intro f h
    refine s_pure h (ru_val (.bool true) (ru_lss (h.ev rfl) (h.ev rfl)) (congrArg Value.bool k0)) rfl ?_; intro f h
    refine s_pure h (ru_move (h.ev rfl)) rfl ?_; intro f h
    refine s_off (b := false) h rfl rfl rfl rfl ?_; intro f h
    refine s_off (b := false) h rfl rfl rfl rfl ?_; intro f h
    refine s_pure h (ru_pick_t (h.ev rfl) (h.ev rfl)) rfl ?_; intro f h
    refine s_nil ?_
    refine hK3 _ _ ?_
    refine wpIn_cond_true (h.ev rfl) ?_
    refine c_seq fun K6 hK6 => ?_
    refine c_region ?_
    refine s_pure h (ru_build0 idTy) rfl ?_; intro f h
    refine s_store_row 0 h s row24 rfl rfl rfl (by first | exact idArr_size _ | exact bytesF_size _ _) (by first | exact idArr_size _ | exact bytesF_size _ _) (by first | exact idArr_ones _ | exact bytesF_ones _ _) ?_; intro w1 s
    refine s_pure h (ru_assign (h.ev rfl)) rfl ?_; intro f h
    refine s_nil ?_
    refine hK6 _ _ ?_
    refine wpIn_ret ?_
    refine t_ret ?_
    exact e_row_tmp 0 rfl h s row24 rfl rfl (by first | exact idArr_size _ | exact bytesF_size _ _) rfl (by show _ = _; rw [(goal_bad m (.inl (of_decide_eq_true k0))).1, (goal_bad m (.inl (of_decide_eq_true k0))).2])

theorem idl1_any (x : Mb) (no : Int) (bx : Nat) (w : World) (hb : Tab w bx #[.int .i64 no]) : Calls Try.prog 27 [.agg (mbArr x), .pointer (some ⟨bx, 0, none⟩)].toArray w (Ret w (is (.bool (decide (x.1 = no))))) := by
  refine c_enter Try.func27 rfl Try.ntmps27 rfl [(0, .agg (mbArr x)), (1, .pointer (some ⟨bx, 0, none⟩))] (by simp) fun f h => ?_
  have s := St.start w
  refine c_seq fun K1 hK1 => ?_
  refine c_region ?_
  refine s_box ((mbArr x)) h s rfl rfl rfl ?_; intro f w1 b2 h s
  refine s_pure h (ru_assign (h.ev rfl)) rfl ?_; intro f h
  refine s_nil ?_
  refine hK1 _ _ ?_
  refine c_seq fun K2 hK2 => ?_
  refine c_region ?_
  refine s_pure h (ru_field fld26_0 (h.ev rfl)) rfl ?_; intro f h
  refine s_load_at1 (V := .int .i64 x.1) (cell_of_has (Has.of_own s 0 rfl) 0 (mbArr_no _)) h one3 rfl rfl ?_; intro f h
  refine s_load_at1 (V := .int .i64 no) (cell_of_has (Has.of_tab (hb.keep s.ext)) 0 (rfl)) h one3 rfl rfl ?_; intro f h
  refine s_pure h (ru_eql (h.ev rfl) (h.ev rfl)) rfl ?_; intro f h
  refine s_pure h (ru_assign (h.ev rfl)) rfl ?_; intro f h
  refine s_nil ?_
  refine hK2 _ _ ?_
  refine wpIn_ret ?_
  exact e_tmp rfl h s rfl (rfl)

theorem ideal_any (l : List Mb) (vh : Value) (no : Int) (w : World) (hR : RdZ w vh 33 l.length (mbCells l)) (hln : l.length ≤ 1000) : Calls Try.prog 10 [vh, .int .i64 no].toArray w (Ret w (fun v w' => ∃ v8, v = .tuple #[v8, .int .i64 (finE l no)] ∧ Owns w' w.heap.size 26 33 v8 (idlM l no).length (mbCells (idlM l no)))) := by
  refine c_enter Try.func10 rfl Try.ntmps10 rfl [(0, vh), (1, .int .i64 no)] (by simp) fun f h => ?_
  have s := St.start w
  refine c_seq fun K1 hK1 => ?_
  refine c_region ?_
  refine s_box (#[.int .i64 no]) h s rfl rfl rfl ?_; intro f w1 b3 h s
  refine s_pure h (ru_assign (h.ev rfl)) rfl ?_; intro f h
  refine s_pure h (ru_assign (h.ev rfl)) rfl ?_; intro f h
  refine s_nil ?_
  refine hK1 _ _ ?_
  refine c_seq fun K2 hK2 => ?_
  refine c_seq fun K3 hK3 => ?_
  cases hr : (rightR l : Bool)
  · skip
    refine c_region ?_
    refine s_pure h (ru_move (h.ev rfl)) rfl ?_; intro f h
    refine s_call h s fnc23 (ret_val (.bool false) (right_any l vh _ (hR.keep s.ext) hln) (congrArg Value.bool hr)) rfl rfl ?_; intro f w1 v9 hT hE h s; obtain rfl := hT
    refine s_pure h (ru_val (.bool true) (ru_not (h.ev rfl)) rfl) rfl ?_; intro f h
    refine s_nil ?_
    refine hK3 _ _ ?_
    refine wpIn_cond_true (h.ev rfl) ?_
    refine c_seq fun K4 hK4 => ?_
    refine c_region ?_
    refine s_pure h (ru_assign (h.ev rfl)) rfl ?_; intro f h
    refine s_pure h (ru_assign (h.ev rfl)) rfl ?_; intro f h
    refine s_nil ?_
    refine hK4 _ _ ?_
    refine wpIn_ret ?_
    refine t_ret ?_
    exact e_tmps rfl h s rfl rfl (two_out (idl_no (by rw [(fin_bad no hr).1]; decide)) (fin_bad no hr).1 (owns_nil _ _ _ _))
  · skip
    refine c_region ?_
    refine s_pure h (ru_move (h.ev rfl)) rfl ?_; intro f h
    refine s_call h s fnc23 (ret_val (.bool true) (right_any l vh _ (hR.keep s.ext) hln) (congrArg Value.bool hr)) rfl rfl ?_; intro f w1 v9 hT hE h s; obtain rfl := hT
    refine s_pure h (ru_val (.bool false) (ru_not (h.ev rfl)) rfl) rfl ?_; intro f h
    refine s_nil ?_
    refine hK3 _ _ ?_
    refine wpIn_cond_false (h.ev rfl) ?_
    refine wpIn_skip ?_
    refine hK2 _ _ ?_
    refine c_seq fun K5 hK5 => ?_
    refine c_region ?_
    have hg := (rg_iff l).1 hr
    refine s_pure h (ru_move (h.ev rfl)) rfl ?_; intro f h
    refine s_pure h (ru_makeFunc [.pointer (some ⟨b3, 0, none⟩)] (evsA h rfl)) rfl ?_; intro f h
    refine s_call h s fnc26 (indexf_any l vh 27 [.pointer (some ⟨b3, 0, none⟩)] (fun x => decide (x.1 = no)) _ (hR.keep s.ext) hln fnc27 (fun w9 h9 x _ => idl1_any x no b3 w9 ((Tab.of_own s 0 rfl).keep h9))) rfl rfl ?_; rintro f w1 v16 ⟨r9, rfl, hr9⟩ hE h s
    have hfr := find_r hg hr9
    refine s_pure h (ru_assign (h.ev rfl)) rfl ?_; intro f h
    refine s_nil ?_
    refine hK5 _ _ ?_
    refine c_seq fun K6 hK6 => ?_
    refine c_seq fun K7 hK7 => ?_
    refine c_region ?_
    refine s_pure h (ru_move (h.ev rfl)) rfl ?_; intro f h
    refine s_pure h (ru_lss (h.ev rfl) (h.ev rfl)) rfl ?_; intro f h
    refine s_nil ?_
    refine hK7 _ _ ?_
    refine c_cond h rfl (fun hc => ?_) (fun hc => ?_)
    · have hf := (hfr.resolve_right (fun ⟨k9, _, h9, _⟩ => by have := of_decide_eq_true hc; omega)).2
      refine c_seq fun K8 hK8 => ?_
      refine c_region ?_
      refine s_pure h (ru_assign (h.ev rfl)) rfl ?_; intro f h
      refine s_pure h (ru_assign (h.ev rfl)) rfl ?_; intro f h
      refine s_nil ?_
      refine hK8 _ _ ?_
      refine wpIn_ret ?_
      refine t_ret ?_
      exact e_tmps rfl h s rfl rfl (two_out (idl_no (by rw [hf]; decide)) hf (owns_nil _ _ _ _))
    · obtain ⟨k9, hk9, rfl, hf, hfm⟩ := hfr.resolve_left (fun h9 => of_decide_eq_false hc h9.1)
      refine wpIn_skip ?_
      refine hK6 _ _ ?_
      refine c_seq fun K9 hK9 => ?_
      refine c_region ?_
      refine s_make_sl (n := 16) (xs := mbCells (filK (idlG l (l.getD k9 zMb)) 16 0)) h s Try.underlying22 elm26 zero26 rfl rfl (rfl) (by omega) (by unfold maxLen; omega) ((made_mb _).trans (by rw [fil_zero])) (by rw [mbCells_len, fil_len _ (by decide)]) rfl ?_; intro f w1 v19 h s
      refine s_pure h (ru_assign (h.ev rfl)) rfl ?_; intro f h
      refine s_nil ?_
      refine hK9 _ _ ?_
      refine c_seq fun K10 hK10 => ?_
      refine c_seq fun K11 hK11 => ?_
      refine c_region ?_
      refine s_pure h (ru_move (h.ev rfl)) rfl ?_; intro f h
      refine s_len_sl 0 h s Try.underlying22 rfl rfl rfl ?_; intro f h
      refine s_pure h (ru_move (h.ev rfl)) rfl ?_; intro f h
      refine s_nil ?_
      refine hK11 _ _ ?_
      refine wpIn_block ?_
      refine wpIn_loop_ghost (fun nn aa ww => ∃ k : Nat, Sl 45 aa [(1, .int .i64 no), (3, .pointer (some ⟨b3, 0, none⟩)), (19, v19), (0, vh), (6, .int .i64 (k9 : Int)), (7, v19), (20, v19), (21, .int .i64 16), (22, .int .i64 (k : Int))] ∧ St w [.sl v19 26 33 16 (mbCells (filK (idlG l (l.getD k9 zMb)) 16 k)), .blk b3 (.cells (#[.int .i64 no]) 3)] ww ∧ nn = 16 - k ∧ k ≤ 16) (16 - (0)) ⟨0, h.only ⟨rfl, rfl, rfl, rfl, rfl, rfl, rfl, rfl, rfl, trivial⟩, s.as ⟨rfl, rfl, trivial⟩, rfl, Nat.zero_le _⟩ ?_
      rintro _ f w1 ⟨k, h, s, hnn, hp0⟩
      refine c_seq fun K12 hK12 => ?_
      refine c_region ?_
      refine s_pure h (ru_lss (h.ev rfl) (h.ev rfl)) rfl ?_; intro f h
      refine s_nil ?_
      refine hK12 _ _ ?_
      refine c_seq fun K13 hK13 => ?_
      refine c_cond h rfl (fun hc => ?_) (fun hc => ?_)
      · replace hc := of_decide_eq_true hc
        refine wpIn_skip ?_
        refine hK13 _ _ ?_
        refine c_seq fun K14 hK14 => ?_
        refine wpIn_block ?_
        refine c_seq fun K15 hK15 => ?_
        refine c_region ?_
        refine s_pure h (ru_move (h.ev rfl)) rfl ?_; intro f h
        refine s_pure h (ru_assign (h.ev rfl)) rfl ?_; intro f h
        refine s_nil ?_
        refine hK15 _ _ ?_
        refine c_seq fun K16 hK16 => ?_
        refine c_region ?_
        refine s_pure h (ru_move (h.ev rfl)) rfl ?_; intro f h
        refine s_pure h (ru_move (h.ev rfl)) rfl ?_; intro f h
        refine s_pure h (ru_ixz (hR.keep s.ext) (k9) Try.underlying22 szo26 (h.ev rfl) (h.ev rfl) (rfl) (by omega)) rfl ?_; intro f h
        refine s_load_at ((hR.keep s.ext).el (k9) (by omega) (by decide) (D := mbArr (l.getD k9 zMb)) (mb_elD l k9 hk9)) h row26 rfl (mbArr_size _) rfl ?_; intro f h
        refine s_pure h (ru_move (h.ev rfl)) rfl ?_; intro f h
        refine s_call h s fnc9 (goal_any (l.getD k9 zMb) (k : Int) _) rfl rfl ?_; intro f w1 v9 hT hE h s; obtain rfl := hT
        refine s_pure h (ru_move (h.ev rfl)) rfl ?_; intro f h
        refine s_pure h (ru_extract (h.ev rfl) rfl) rfl ?_; intro f h
        refine s_pure h (ru_extract (h.ev rfl) rfl) rfl ?_; intro f h
        refine s_alloc (idArr 0#256) h s zero24 rfl rfl ?_; intro f w1 b9 h s
        refine s_store_row 0 h s row24 rfl rfl rfl (by first | exact idArr_size _ | exact bytesF_size _ _) (by first | exact idArr_size _ | exact bytesF_size _ _) (by first | exact idArr_ones _ | exact bytesF_ones _ _) ?_; intro w1 s
        refine s_pure h (ru_assign (h.ev rfl)) rfl ?_; intro f h
        refine s_nil ?_
        refine hK16 _ _ ?_
        refine c_region ?_
        refine s_pure h (ru_move (h.ev rfl)) rfl ?_; intro f h
        refine s_pure h (ru_move (h.ev rfl)) rfl ?_; intro f h
        refine s_pure h (ru_move (h.ev rfl)) rfl ?_; intro f h
        refine s_load_row 0 h s row24 rfl rfl (by first | exact idArr_size _ | exact bytesF_size _ _) rfl ?_; intro f h
        refine s_call h s fnc25 (owner_any l vh (goalI (l.getD k9 zMb) (k : Int)) _ (hR.keep s.ext) hln) rfl rfl ?_; intro f w1 v9 hT hE h s; obtain rfl := hT
        refine s_pure h (ru_move (h.ev rfl)) rfl ?_; intro f h
        refine s_pure h (ru_extract (h.ev rfl) rfl) rfl ?_; intro f h
        refine s_pure h (ru_extract (h.ev rfl) rfl) rfl ?_; intro f h
        have hx9 : ownM l (goalI (l.getD k9 zMb) (k : Int)) = (idlG l (l.getD k9 zMb)) k := (congrArg (ownM l) (goal_ok (l.getD k9 zMb) rfl (show k < 16 by omega)).2).trans (own_ok _ hr (by omega)).2
        refine s_pure h (ru_ixz (RdZ.of_own (s.getSl 1 rfl)) (k) Try.underlying22 szo26 (h.ev rfl) (h.ev rfl) (rfl) (by omega)) rfl ?_; intro f h
        refine s_store_el 1 (k) h s row26 rfl rfl rfl (mbArr_size _) (by omega) (mbArr_ones _) ((mb_set (l := (filK (idlG l (l.getD k9 zMb)) 16 k)) _ (by rw [fil_len _ (by omega)]; omega)).trans (by rw [hx9, fil_next _ (show k < 16 by omega)])) ?_; intro w1 s
        refine s_nil ?_
        refine b_norm ?_
        refine hK14 _ _ ?_
        refine c_region ?_
        refine s_pure h (ru_add (h.ev rfl) (h.ev rfl) (by omega)) rfl ?_; intro f h
        refine s_pure h (ru_move (h.ev rfl)) rfl ?_; intro f h
        refine s_nil ?_
        refine t_norm ?_
        exact ⟨_, by omega, ⟨k + 1, h.only ⟨rfl, rfl, rfl, rfl, rfl, rfl, rfl, rfl, slot_int rfl (by omega), trivial⟩, St.as (s.pick _ (List.sublist_append_right [_] _)) ⟨rfl, rfl, trivial⟩, rfl, by omega⟩⟩
      · replace hc := of_decide_eq_false hc
        refine wpIn_exit ?_
        refine t_exit ?_
        refine t_exit ?_
        refine b_exit ?_
        refine hK10 _ _ ?_
        refine c_seq fun K17 hK17 => ?_
        refine c_region ?_
        refine s_pure h (ru_move (h.ev rfl)) rfl ?_; intro f h
        refine s_pure h (ru_assign (h.ev rfl)) rfl ?_; intro f h
        refine s_pure h (ru_assign (h.ev rfl)) rfl ?_; intro f h
        refine s_nil ?_
        refine hK17 _ _ ?_
        refine wpIn_ret ?_
        exact e_tmps rfl h s rfl rfl (two_out (by rw [idl_ok hf, hfm]) hf (by obtain rfl : k = 16 := (by omega); rw [← fil_end, fil_len _ (Nat.le_refl _)]; exact (s.getSl 0 rfl)))
end Go.Proofs.Ytbjgpimabgcipaa
