/- What FingerChooses answers, and the reference that it calls: for all arguments. -/
import Derived.Test.YtbjgpimabgcipaaVd
set_option linter.unusedVariables false
set_option linter.unusedSimpArgs false
set_option linter.unusedSectionVars false
namespace Go.Proofs.Ytbjgpimabgcipaa
open Go.RowKit
theorem between_any (x : Mb) (s9 t9 : Id) (w : World) : Calls Try.prog 19 [idV x.2, idV s9, idV t9].toArray w (Ret w (is (.bool (btw s9 t9 x)))) := by
  refine c_enter Try.func19 rfl Try.ntmps19 rfl [(0, idV x.2), (1, idV s9), (2, idV t9)] (by simp) fun f h => ?_
  have s := St.start w
  refine c_seq fun K1 hK1 => ?_
  refine c_region ?_
  refine s_box (idArr x.2) h s rfl rfl rfl ?_; intro f w1 b3 h s
  refine s_box (idArr s9) h s rfl rfl rfl ?_; intro f w1 b4 h s
  refine s_box (idArr t9) h s rfl rfl rfl ?_; intro f w1 b5 h s
  refine s_pure h (ru_assign (h.ev rfl)) rfl ?_; intro f h
  refine s_nil ?_
  refine hK1 _ _ ?_
  refine c_seq fun K2 hK2 => ?_
  cases q1 : (decide (x.2 ≠ s9) : Bool)
  · skip
    refine c_region ?_
    refine s_load_row 2 h s row24 rfl rfl (by first | exact idArr_size _ | exact bytesF_size _ _) rfl ?_; intro f h
    refine s_load_row 1 h s row24 rfl rfl (by first | exact idArr_size _ | exact bytesF_size _ _) rfl ?_; intro f h
    refine s_pure h (ru_val (.bool false) (ru_neq_id idTy (h.ev rfl) (h.ev rfl)) (congrArg Value.bool q1)) rfl ?_; intro f h
    refine s_pure h (ru_move (h.ev rfl)) rfl ?_; intro f h
    refine s_off (b := true) h rfl rfl rfl rfl ?_; intro f h
    refine s_off (b := true) h rfl rfl rfl rfl ?_; intro f h
    refine s_off (b := true) h rfl rfl rfl rfl ?_; intro f h
    refine s_pure h (ru_pick_f (h.ev rfl) (h.ev rfl)) rfl ?_; intro f h
    refine s_pure h (ru_move (h.ev rfl)) rfl ?_; intro f h
    refine s_off (b := true) h rfl rfl rfl rfl ?_; intro f h
    refine s_off (b := true) h rfl rfl rfl rfl ?_; intro f h
    refine s_off (b := true) h rfl rfl rfl rfl ?_; intro f h
    refine s_off (b := true) h rfl rfl rfl rfl ?_; intro f h
    refine s_pure h (ru_pick_f (h.ev rfl) (h.ev rfl)) rfl ?_; intro f h
    refine s_pure h (ru_assign (h.ev rfl)) rfl ?_; intro f h
    refine s_nil ?_
    refine hK2 _ _ ?_
    refine wpIn_ret ?_
    exact e_tmp rfl h s rfl (by show _ = _; rw [btw_1 q1])
  · skip
    cases q0 : (decide (x.2 ≠ t9) : Bool)
    · skip
      refine c_region ?_
      refine s_load_row 2 h s row24 rfl rfl (by first | exact idArr_size _ | exact bytesF_size _ _) rfl ?_; intro f h
      refine s_load_row 1 h s row24 rfl rfl (by first | exact idArr_size _ | exact bytesF_size _ _) rfl ?_; intro f h
      refine s_pure h (ru_val (.bool true) (ru_neq_id idTy (h.ev rfl) (h.ev rfl)) (congrArg Value.bool q1)) rfl ?_; intro f h
      refine s_pure h (ru_move (h.ev rfl)) rfl ?_; intro f h
      refine s_on h rfl rfl rfl ?_
      refine s_load_row 2 h s row24 rfl rfl (by first | exact idArr_size _ | exact bytesF_size _ _) rfl ?_; intro f h
      refine s_on h rfl rfl rfl ?_
      refine s_load_row 0 h s row24 rfl rfl (by first | exact idArr_size _ | exact bytesF_size _ _) rfl ?_; intro f h
      refine s_on h rfl rfl rfl ?_
      refine s_pure h (ru_val (.bool false) (ru_neq_id idTy (h.ev rfl) (h.ev rfl)) (congrArg Value.bool q0)) rfl ?_; intro f h
      refine s_pure h (ru_pick_t (h.ev rfl) (h.ev rfl)) rfl ?_; intro f h
      refine s_pure h (ru_move (h.ev rfl)) rfl ?_; intro f h
      refine s_off (b := true) h rfl rfl rfl rfl ?_; intro f h
      refine s_off (b := true) h rfl rfl rfl rfl ?_; intro f h
      refine s_off (b := true) h rfl rfl rfl rfl ?_; intro f h
      refine s_off (b := true) h rfl rfl rfl rfl ?_; intro f h
      refine s_pure h (ru_pick_f (h.ev rfl) (h.ev rfl)) rfl ?_; intro f h
      refine s_pure h (ru_assign (h.ev rfl)) rfl ?_; intro f h
      refine s_nil ?_
      refine hK2 _ _ ?_
      refine wpIn_ret ?_
      exact e_tmp rfl h s rfl (by show _ = _; rw [btw_0 q0])
    · skip
      refine c_region ?_
      refine s_load_row 2 h s row24 rfl rfl (by first | exact idArr_size _ | exact bytesF_size _ _) rfl ?_; intro f h
      refine s_load_row 1 h s row24 rfl rfl (by first | exact idArr_size _ | exact bytesF_size _ _) rfl ?_; intro f h
      refine s_pure h (ru_val (.bool true) (ru_neq_id idTy (h.ev rfl) (h.ev rfl)) (congrArg Value.bool q1)) rfl ?_; intro f h
      refine s_pure h (ru_move (h.ev rfl)) rfl ?_; intro f h
      refine s_on h rfl rfl rfl ?_
      refine s_load_row 2 h s row24 rfl rfl (by first | exact idArr_size _ | exact bytesF_size _ _) rfl ?_; intro f h
      refine s_on h rfl rfl rfl ?_
      refine s_load_row 0 h s row24 rfl rfl (by first | exact idArr_size _ | exact bytesF_size _ _) rfl ?_; intro f h
      refine s_on h rfl rfl rfl ?_
      refine s_pure h (ru_val (.bool true) (ru_neq_id idTy (h.ev rfl) (h.ev rfl)) (congrArg Value.bool q0)) rfl ?_; intro f h
      refine s_pure h (ru_pick_t (h.ev rfl) (h.ev rfl)) rfl ?_; intro f h
      refine s_pure h (ru_move (h.ev rfl)) rfl ?_; intro f h
      refine s_on h rfl rfl rfl ?_
      refine s_load_row 2 h s row24 rfl rfl (by first | exact idArr_size _ | exact bytesF_size _ _) rfl ?_; intro f h
      refine s_on h rfl rfl rfl ?_
      refine s_load_row 1 h s row24 rfl rfl (by first | exact idArr_size _ | exact bytesF_size _ _) rfl ?_; intro f h
      refine s_on h rfl rfl rfl ?_
      refine s_load_row 0 h s row24 rfl rfl (by first | exact idArr_size _ | exact bytesF_size _ _) rfl ?_; intro f h
      refine s_on h rfl rfl rfl ?_
      refine s_call h s fnc34 (rin_any _ _ _ _) rfl rfl ?_; intro f w1 v9 hT hE h s; obtain rfl := hT
      refine s_pure h (ru_pick_t (h.ev rfl) (h.ev rfl)) rfl ?_; intro f h
      refine s_pure h (ru_assign (h.ev rfl)) rfl ?_; intro f h
      refine s_nil ?_
      refine hK2 _ _ ?_
      refine wpIn_ret ?_
      exact e_tmp rfl h s rfl (by show _ = _; rw [btw_2 q0 q1])

theorem rclosest_any (l : List Mb) (vh : Value) (t9 s9 : Id) (w : World) (hR : RdZ w vh 33 l.length (mbCells l)) (hln : l.length ≤ 1000) : Calls Try.prog 18 [idV t9, idV s9, vh].toArray w (Ret w (is (.agg (mbArr (rcM s9 t9 l))))) := by
  refine c_enter Try.func18 rfl Try.ntmps18 rfl [(0, idV t9), (1, idV s9), (2, vh)] (by simp) fun f h => ?_
  have s := St.start w
  refine c_seq fun K1 hK1 => ?_
  refine c_region ?_
  refine s_box (idArr t9) h s rfl rfl rfl ?_; intro f w1 b3 h s
  refine s_box (idArr s9) h s rfl rfl rfl ?_; intro f w1 b4 h s
  refine s_alloc (mbArr zMb) h s zero26 rfl rfl ?_; intro f w1 b6 h s
  refine s_nil ?_
  refine hK1 _ _ ?_
  refine c_seq fun K2 hK2 => ?_
  refine c_region ?_
  refine s_pure h (ru_build_mb1 sttM (h.ev rfl)) rfl ?_; intro f h
  refine s_alloc (mbArr zMb) h s zero26 rfl rfl ?_; intro f w1 b7 h s
  refine s_store_row 0 h s row26 rfl rfl rfl (mbArr_size _) (mbArr_size _) (mbArr_ones _) ?_; intro w1 s
  refine s_nil ?_
  refine hK2 _ _ ?_
  refine c_seq fun K3 hK3 => ?_
  refine c_region ?_
  refine s_pure h (ru_assign (h.ev rfl)) rfl ?_; intro f h
  refine s_nil ?_
  refine hK3 _ _ ?_
  refine c_seq fun K4 hK4 => ?_
  refine c_seq fun K5 hK5 => ?_
  refine c_region ?_
  refine s_pure h (ru_move (h.ev rfl)) rfl ?_; intro f h
  refine s_pure h (ru_lenZ (hR.keep s.ext) Try.underlying22 (h.ev rfl)) rfl ?_; intro f h
  refine s_pure h (ru_move (h.ev rfl)) rfl ?_; intro f h
  refine s_nil ?_
  refine hK5 _ _ ?_
  refine wpIn_block ?_
  refine wpIn_loop_ghost (fun nn aa ww => ∃ k : Nat, Sl 38 aa [(0, idV t9), (1, idV s9), (2, vh), (3, .pointer (some ⟨b3, 0, none⟩)), (4, .pointer (some ⟨b4, 0, none⟩)), (6, .pointer (some ⟨b6, 0, none⟩)), (7, .pointer (some ⟨b7, 0, none⟩)), (8, .bool (rcB s9 t9 l k)), (12, vh), (13, .int .i64 (l.length : Int)), (14, .int .i64 (k : Int))] ∧ St w [.blk b7 (.cells (mbArr (rcM s9 t9 (l.take k))) 26), .blk b6 (.cells (mbArr zMb) 26), .blk b4 (.cells (idArr s9) 24), .blk b3 (.cells (idArr t9) 24)] ww ∧ nn = l.length - k ∧ k ≤ l.length) (l.length - (0)) ⟨0, h.only ⟨rfl, rfl, rfl, rfl, rfl, rfl, rfl, rfl, rfl, rfl, rfl, trivial⟩, s.as ⟨rfl, rfl, rfl, rfl, trivial⟩, rfl, Nat.zero_le _⟩ ?_
  rintro _ f w1 ⟨k, h, s, hnn, hp0⟩
  refine c_seq fun K6 hK6 => ?_
  refine c_region ?_
  refine s_pure h (ru_lss (h.ev rfl) (h.ev rfl)) rfl ?_; intro f h
  refine s_nil ?_
  refine hK6 _ _ ?_
  refine c_seq fun K7 hK7 => ?_
  refine c_cond h rfl (fun hc => ?_) (fun hc => ?_)
  · replace hc := of_decide_eq_true hc
    refine wpIn_skip ?_
    refine hK7 _ _ ?_
    refine c_seq fun K8 hK8 => ?_
    refine wpIn_block ?_
    refine c_seq fun K9 hK9 => ?_
    refine c_region ?_
    have hkl : k < l.length := by omega
    refine s_pure h (ru_ixz (hR.keep s.ext) (k) Try.underlying22 szo26 (h.ev rfl) (h.ev rfl) (by omega) (by omega)) rfl ?_; intro f h
    refine s_load_at ((hR.keep s.ext).el (k) (by omega) (by decide) (D := mbArr (l.getD k zMb)) (mb_elD l k hkl)) h row26 rfl (mbArr_size _) rfl ?_; intro f h
    refine s_alloc (mbArr zMb) h s zero26 rfl rfl ?_; intro f w1 b10 h s
    refine s_store_row 0 h s row26 rfl rfl rfl (mbArr_size _) (mbArr_size _) (mbArr_ones _) ?_; intro w1 s
    refine s_nil ?_
    refine hK9 _ _ ?_
    refine c_seq fun K10 hK10 => ?_
    cases hb : (btw s9 t9 (l.getD k zMb) : Bool)
    · skip
      refine c_region ?_
      refine s_pure h (ru_field fld26_1 (h.ev rfl)) rfl ?_; intro f h
      refine s_load_at (Has.subL (Has.of_own s 0 rfl) 1 32 (D := idArr (_)) (mbArr_id _)) h row24 rfl (by first | exact idArr_size _ | exact bytesF_size _ _) rfl ?_; intro f h
      refine s_load_row 3 h s row24 rfl rfl (by first | exact idArr_size _ | exact bytesF_size _ _) rfl ?_; intro f h
      refine s_load_row 4 h s row24 rfl rfl (by first | exact idArr_size _ | exact bytesF_size _ _) rfl ?_; intro f h
      refine s_call h s fnc19 (ret_val (.bool false) (between_any (l.getD k zMb) s9 t9 _) (congrArg Value.bool hb)) rfl rfl ?_; intro f w1 v9 hT hE h s; obtain rfl := hT
      refine s_pure h (ru_move (h.ev rfl)) rfl ?_; intro f h
      refine s_off (b := true) h rfl rfl rfl rfl ?_; intro f h
      refine s_off (b := true) h rfl rfl rfl rfl ?_; intro f h
      refine s_off (b := true) h rfl rfl rfl rfl ?_; intro f h
      refine s_none h rfl rfl rfl rfl ?_; intro f h
      refine s_none h rfl rfl rfl rfl ?_; intro f h
      refine s_none h rfl rfl rfl rfl ?_; intro f h
      refine s_none h rfl rfl rfl rfl ?_; intro f h
      refine s_none h rfl rfl rfl rfl ?_; intro f h
      refine s_none h rfl rfl rfl rfl ?_; intro f h
      refine s_off (b := true) h rfl rfl rfl rfl ?_; intro f h
      refine s_pure h (ru_pick_f (h.ev rfl) (h.ev rfl)) rfl ?_; intro f h
      refine s_nil ?_
      refine hK10 _ _ ?_
      refine wpIn_cond_false (h.ev rfl) ?_
      refine wpIn_skip ?_
      refine b_norm ?_
      refine hK8 _ _ ?_
      refine c_region ?_
      refine s_pure h (ru_add (h.ev rfl) (h.ev rfl) (by omega)) rfl ?_; intro f h
      refine s_pure h (ru_move (h.ev rfl)) rfl ?_; intro f h
      refine s_nil ?_
      refine t_norm ?_
      exact ⟨_, by omega, ⟨k + 1, h.only ⟨rfl, rfl, rfl, rfl, rfl, rfl, rfl, congrArg (fun b => some (Value.bool b)) (rc_no hkl hb).2.symm, rfl, rfl, slot_int rfl (by omega), trivial⟩, St.as (s.pick _ (List.sublist_append_right [_] _)) ⟨cells_eq (congrArg mbArr (rc_no hkl hb).1.symm), rfl, rfl, rfl, trivial⟩, rfl, by omega⟩⟩
    · skip
      cases hf : (rcB s9 t9 l k : Bool)
      · skip
        refine c_region ?_
        refine s_pure h (ru_field fld26_1 (h.ev rfl)) rfl ?_; intro f h
        refine s_load_at (Has.subL (Has.of_own s 0 rfl) 1 32 (D := idArr (_)) (mbArr_id _)) h row24 rfl (by first | exact idArr_size _ | exact bytesF_size _ _) rfl ?_; intro f h
        refine s_load_row 3 h s row24 rfl rfl (by first | exact idArr_size _ | exact bytesF_size _ _) rfl ?_; intro f h
        refine s_load_row 4 h s row24 rfl rfl (by first | exact idArr_size _ | exact bytesF_size _ _) rfl ?_; intro f h
        refine s_call h s fnc19 (ret_val (.bool true) (between_any (l.getD k zMb) s9 t9 _) (congrArg Value.bool hb)) rfl rfl ?_; intro f w1 v9 hT hE h s; obtain rfl := hT
        refine s_pure h (ru_move (h.ev rfl)) rfl ?_; intro f h
        refine s_on h rfl rfl rfl ?_
        refine s_pure h (ru_val (.bool false) (ru_move (h.ev rfl)) (congrArg Value.bool hf)) rfl ?_; intro f h
        refine s_on h rfl rfl rfl ?_
        refine s_pure h (ru_val (.bool true) (ru_not (h.ev rfl)) rfl) rfl ?_; intro f h
        refine s_on h rfl rfl rfl ?_
        refine s_pure h (ru_move (h.ev rfl)) rfl ?_; intro f h
        refine s_off (b := false) h rfl rfl rfl rfl ?_; intro f h
        refine s_off (b := false) h rfl rfl rfl rfl ?_; intro f h
        refine s_off (b := false) h rfl rfl rfl rfl ?_; intro f h
        refine s_off (b := false) h rfl rfl rfl rfl ?_; intro f h
        refine s_off (b := false) h rfl rfl rfl rfl ?_; intro f h
        refine s_off (b := false) h rfl rfl rfl rfl ?_; intro f h
        refine s_on h rfl rfl rfl ?_
        refine s_pure h (ru_pick_t (h.ev rfl) (h.ev rfl)) rfl ?_; intro f h
        refine s_pure h (ru_pick_t (h.ev rfl) (h.ev rfl)) rfl ?_; intro f h
        refine s_nil ?_
        refine hK10 _ _ ?_
        refine wpIn_cond_true (h.ev rfl) ?_
        refine c_seq fun K11 hK11 => ?_
        refine c_region ?_
        refine s_load_row 0 h s row26 rfl rfl (mbArr_size _) rfl ?_; intro f h
        refine s_store_row 1 h s row26 rfl rfl rfl (mbArr_size _) (mbArr_size _) (mbArr_ones _) ?_; intro w1 s
        refine s_nil ?_
        refine hK11 _ _ ?_
        refine c_region ?_
        refine s_pure h (ru_assign (h.ev rfl)) rfl ?_; intro f h
        refine s_nil ?_
        refine b_norm ?_
        refine hK8 _ _ ?_
        refine c_region ?_
        refine s_pure h (ru_add (h.ev rfl) (h.ev rfl) (by omega)) rfl ?_; intro f h
        refine s_pure h (ru_move (h.ev rfl)) rfl ?_; intro f h
        refine s_nil ?_
        refine t_norm ?_
        exact ⟨_, by omega, ⟨k + 1, h.only ⟨rfl, rfl, rfl, rfl, rfl, rfl, rfl, congrArg (fun b => some (Value.bool b)) (rc_tr hkl hb).symm, rfl, rfl, slot_int rfl (by omega), trivial⟩, St.as (s.pick _ (List.sublist_append_right [_] _)) ⟨cells_eq (congrArg mbArr (rc_first hkl hb hf).symm), rfl, rfl, rfl, trivial⟩, rfl, by omega⟩⟩
      · skip
        cases h2 : (btw s9 (l.getD k zMb).2 (rcM s9 t9 (l.take k)) : Bool)
        · skip
          refine c_region ?_
          refine s_pure h (ru_field fld26_1 (h.ev rfl)) rfl ?_; intro f h
          refine s_load_at (Has.subL (Has.of_own s 0 rfl) 1 32 (D := idArr (_)) (mbArr_id _)) h row24 rfl (by first | exact idArr_size _ | exact bytesF_size _ _) rfl ?_; intro f h
          refine s_load_row 3 h s row24 rfl rfl (by first | exact idArr_size _ | exact bytesF_size _ _) rfl ?_; intro f h
          refine s_load_row 4 h s row24 rfl rfl (by first | exact idArr_size _ | exact bytesF_size _ _) rfl ?_; intro f h
          refine s_call h s fnc19 (ret_val (.bool true) (between_any (l.getD k zMb) s9 t9 _) (congrArg Value.bool hb)) rfl rfl ?_; intro f w1 v9 hT hE h s; obtain rfl := hT
          refine s_pure h (ru_move (h.ev rfl)) rfl ?_; intro f h
          refine s_on h rfl rfl rfl ?_
          refine s_pure h (ru_val (.bool true) (ru_move (h.ev rfl)) (congrArg Value.bool hf)) rfl ?_; intro f h
          refine s_on h rfl rfl rfl ?_
          refine s_pure h (ru_val (.bool false) (ru_not (h.ev rfl)) rfl) rfl ?_; intro f h
          refine s_on h rfl rfl rfl ?_
          refine s_pure h (ru_move (h.ev rfl)) rfl ?_; intro f h
          refine s_on h rfl rfl rfl ?_
          refine s_pure h (ru_field fld26_1 (h.ev rfl)) rfl ?_; intro f h
          refine s_on h rfl rfl rfl ?_
          refine s_load_at (Has.subL (Has.of_own s 1 rfl) 1 32 (D := idArr (_)) (mbArr_id _)) h row24 rfl (by first | exact idArr_size _ | exact bytesF_size _ _) rfl ?_; intro f h
          refine s_on h rfl rfl rfl ?_
          refine s_load_row 3 h s row24 rfl rfl (by first | exact idArr_size _ | exact bytesF_size _ _) rfl ?_; intro f h
          refine s_on h rfl rfl rfl ?_
          refine s_pure h (ru_field fld26_1 (h.ev rfl)) rfl ?_; intro f h
          refine s_on h rfl rfl rfl ?_
          refine s_load_at (Has.subL (Has.of_own s 0 rfl) 1 32 (D := idArr (_)) (mbArr_id _)) h row24 rfl (by first | exact idArr_size _ | exact bytesF_size _ _) rfl ?_; intro f h
          refine s_on h rfl rfl rfl ?_
          refine s_call h s fnc19 (ret_val (.bool false) (between_any (rcM s9 t9 (l.take k)) s9 (l.getD k zMb).2 _) (congrArg Value.bool h2)) rfl rfl ?_; intro f w1 v9 hT hE h s; obtain rfl := hT
          refine s_on h rfl rfl rfl ?_
          refine s_pure h (ru_pick_f (h.ev rfl) (h.ev rfl)) rfl ?_; intro f h
          refine s_pure h (ru_pick_t (h.ev rfl) (h.ev rfl)) rfl ?_; intro f h
          refine s_nil ?_
          refine hK10 _ _ ?_
          refine wpIn_cond_false (h.ev rfl) ?_
          refine wpIn_skip ?_
          refine b_norm ?_
          refine hK8 _ _ ?_
          refine c_region ?_
          refine s_pure h (ru_add (h.ev rfl) (h.ev rfl) (by omega)) rfl ?_; intro f h
          refine s_pure h (ru_move (h.ev rfl)) rfl ?_; intro f h
          refine s_nil ?_
          refine t_norm ?_
          exact ⟨_, by omega, ⟨k + 1, h.only ⟨rfl, rfl, rfl, rfl, rfl, rfl, rfl, congrArg (fun b => some (Value.bool b)) (hf.trans (rc_tr hkl hb).symm), rfl, rfl, slot_int rfl (by omega), trivial⟩, St.as (s.pick _ (List.sublist_append_right [_] _)) ⟨cells_eq (congrArg mbArr (rc_not hkl hb hf h2).symm), rfl, rfl, rfl, trivial⟩, rfl, by omega⟩⟩
        · skip
          refine c_region ?_
          refine s_pure h (ru_field fld26_1 (h.ev rfl)) rfl ?_; intro f h
          refine s_load_at (Has.subL (Has.of_own s 0 rfl) 1 32 (D := idArr (_)) (mbArr_id _)) h row24 rfl (by first | exact idArr_size _ | exact bytesF_size _ _) rfl ?_; intro f h
          refine s_load_row 3 h s row24 rfl rfl (by first | exact idArr_size _ | exact bytesF_size _ _) rfl ?_; intro f h
          refine s_load_row 4 h s row24 rfl rfl (by first | exact idArr_size _ | exact bytesF_size _ _) rfl ?_; intro f h
          refine s_call h s fnc19 (ret_val (.bool true) (between_any (l.getD k zMb) s9 t9 _) (congrArg Value.bool hb)) rfl rfl ?_; intro f w1 v9 hT hE h s; obtain rfl := hT
          refine s_pure h (ru_move (h.ev rfl)) rfl ?_; intro f h
          refine s_on h rfl rfl rfl ?_
          refine s_pure h (ru_val (.bool true) (ru_move (h.ev rfl)) (congrArg Value.bool hf)) rfl ?_; intro f h
          refine s_on h rfl rfl rfl ?_
          refine s_pure h (ru_val (.bool false) (ru_not (h.ev rfl)) rfl) rfl ?_; intro f h
          refine s_on h rfl rfl rfl ?_
          refine s_pure h (ru_move (h.ev rfl)) rfl ?_; intro f h
          refine s_on h rfl rfl rfl ?_
          refine s_pure h (ru_field fld26_1 (h.ev rfl)) rfl ?_; intro f h
          refine s_on h rfl rfl rfl ?_
          refine s_load_at (Has.subL (Has.of_own s 1 rfl) 1 32 (D := idArr (_)) (mbArr_id _)) h row24 rfl (by first | exact idArr_size _ | exact bytesF_size _ _) rfl ?_; intro f h
          refine s_on h rfl rfl rfl ?_
          refine s_load_row 3 h s row24 rfl rfl (by first | exact idArr_size _ | exact bytesF_size _ _) rfl ?_; intro f h
          refine s_on h rfl rfl rfl ?_
          refine s_pure h (ru_field fld26_1 (h.ev rfl)) rfl ?_; intro f h
          refine s_on h rfl rfl rfl ?_
          refine s_load_at (Has.subL (Has.of_own s 0 rfl) 1 32 (D := idArr (_)) (mbArr_id _)) h row24 rfl (by first | exact idArr_size _ | exact bytesF_size _ _) rfl ?_; intro f h
          refine s_on h rfl rfl rfl ?_
          refine s_call h s fnc19 (ret_val (.bool true) (between_any (rcM s9 t9 (l.take k)) s9 (l.getD k zMb).2 _) (congrArg Value.bool h2)) rfl rfl ?_; intro f w1 v9 hT hE h s; obtain rfl := hT
          refine s_on h rfl rfl rfl ?_
          refine s_pure h (ru_pick_f (h.ev rfl) (h.ev rfl)) rfl ?_; intro f h
          refine s_pure h (ru_pick_t (h.ev rfl) (h.ev rfl)) rfl ?_; intro f h
          refine s_nil ?_
          refine hK10 _ _ ?_
          refine wpIn_cond_true (h.ev rfl) ?_
          refine c_seq fun K12 hK12 => ?_
          refine c_region ?_
          refine s_load_row 0 h s row26 rfl rfl (mbArr_size _) rfl ?_; intro f h
          refine s_store_row 1 h s row26 rfl rfl rfl (mbArr_size _) (mbArr_size _) (mbArr_ones _) ?_; intro w1 s
          refine s_nil ?_
          refine hK12 _ _ ?_
          refine c_region ?_
          refine s_pure h (ru_assign (h.ev rfl)) rfl ?_; intro f h
          refine s_nil ?_
          refine b_norm ?_
          refine hK8 _ _ ?_
          refine c_region ?_
          refine s_pure h (ru_add (h.ev rfl) (h.ev rfl) (by omega)) rfl ?_; intro f h
          refine s_pure h (ru_move (h.ev rfl)) rfl ?_; intro f h
          refine s_nil ?_
          refine t_norm ?_
          exact ⟨_, by omega, ⟨k + 1, h.only ⟨rfl, rfl, rfl, rfl, rfl, rfl, rfl, congrArg (fun b => some (Value.bool b)) (rc_tr hkl hb).symm, rfl, rfl, slot_int rfl (by omega), trivial⟩, St.as (s.pick _ (List.sublist_append_right [_] _)) ⟨cells_eq (congrArg mbArr (rc_yes hkl hb hf h2).symm), rfl, rfl, rfl, trivial⟩, rfl, by omega⟩⟩
  · replace hc := of_decide_eq_false hc
    refine wpIn_exit ?_
    refine t_exit ?_
    refine t_exit ?_
    refine b_exit ?_
    refine hK4 _ _ ?_
    refine c_seq fun K13 hK13 => ?_
    refine c_region ?_
    refine s_load_row 0 h s row26 rfl rfl (mbArr_size _) rfl ?_; intro f h
    refine s_store_row 1 h s row26 rfl rfl rfl (mbArr_size _) (mbArr_size _) (mbArr_ones _) ?_; intro w1 s
    refine s_nil ?_
    refine hK13 _ _ ?_
    refine wpIn_ret ?_
    exact e_row 1 rfl h s row26 rfl rfl (mbArr_size _) ((by obtain rfl : k = l.length := (by omega); show _ = _; rw [List.take_length]))

theorem fchooses_any (t9 s9 : Id) (l : List Mb) (vh : Value) (w : World) (hR : RdZ w vh 33 l.length (mbCells l)) : Calls Try.prog 4 [idV t9, idV s9, vh].toArray w (Ret w (is (.bool true))) := by
  have hlv := mb_take hR (min l.length 18) (by omega)
  obtain ⟨r, hr9⟩ : ∃ x9, x9 = l.take (min l.length 18) := ⟨_, rfl⟩
  rw [← hr9] at hlv
  have hln8 : r.length ≤ 18 := by rw [hr9, List.length_take]; omega
  have hln : r.length ≤ 1000 := by omega
  refine c_enter Try.func4 rfl Try.ntmps4 rfl [(0, idV t9), (1, idV s9), (2, vh)] (by simp) fun f h => ?_
  have s := St.start w
  refine c_seq fun K1 hK1 => ?_
  refine c_region ?_
  refine s_box (idArr t9) h s rfl rfl rfl ?_; intro f w1 b3 h s
  refine s_box (idArr s9) h s rfl rfl rfl ?_; intro f w1 b4 h s
  refine s_pure h (ru_assign (h.ev rfl)) rfl ?_; intro f h
  refine s_nil ?_
  refine hK1 _ _ ?_
  refine c_seq fun K2 hK2 => ?_
  refine c_region ?_
  refine s_pure h (ru_move (h.ev rfl)) rfl ?_; intro f h
  refine s_call h s fnc8 (few_any l vh _ (hR.keep s.ext)) rfl rfl ?_; intro f w1 v9 hT hE h s; obtain rfl := hT
  refine s_pure h (ru_assign (h.ev rfl)) rfl ?_; intro f h
  refine s_nil ?_
  refine hK2 _ _ ?_
  refine c_seq fun K3 hK3 => ?_
  refine c_region ?_
  refine s_load_row 1 h s row24 rfl rfl (by first | exact idArr_size _ | exact bytesF_size _ _) rfl ?_; intro f h
  refine s_load_row 0 h s row24 rfl rfl (by first | exact idArr_size _ | exact bytesF_size _ _) rfl ?_; intro f h
  refine s_pure h (ru_move (h.ev rfl)) rfl ?_; intro f h
  refine s_call h s fnc17 (closest_any r (cutV vh (min l.length 18)) t9 s9 _ (hlv.keep s.ext) hln) rfl rfl ?_; intro f w1 v9 hT hE h s; obtain rfl := hT
  refine s_pure h (ru_move (h.ev rfl)) rfl ?_; intro f h
  refine s_pure h (ru_extract (h.ev rfl) rfl) rfl ?_; intro f h
  refine s_pure h (ru_extract (h.ev rfl) rfl) rfl ?_; intro f h
  refine s_alloc (mbArr zMb) h s zero26 rfl rfl ?_; intro f w1 b7 h s
  refine s_store_row 0 h s row26 rfl rfl rfl (mbArr_size _) (mbArr_size _) (mbArr_ones _) ?_; intro w1 s
  refine s_pure h (ru_assign (h.ev rfl)) rfl ?_; intro f h
  refine s_nil ?_
  refine hK3 _ _ ?_
  refine c_seq fun K4 hK4 => ?_
  refine c_region ?_
  refine s_load_row 2 h s row24 rfl rfl (by first | exact idArr_size _ | exact bytesF_size _ _) rfl ?_; intro f h
  refine s_load_row 1 h s row24 rfl rfl (by first | exact idArr_size _ | exact bytesF_size _ _) rfl ?_; intro f h
  refine s_pure h (ru_move (h.ev rfl)) rfl ?_; intro f h
  refine s_call h s fnc18 (rclosest_any r (cutV vh (min l.length 18)) t9 s9 _ (hlv.keep s.ext) hln) rfl rfl ?_; intro f w1 v9 hT hE h s; obtain rfl := hT
  refine s_alloc (mbArr zMb) h s zero26 rfl rfl ?_; intro f w1 b9 h s
  refine s_store_row 0 h s row26 rfl rfl rfl (mbArr_size _) (mbArr_size _) (mbArr_ones _) ?_; intro w1 s
  refine s_nil ?_
  refine hK4 _ _ ?_
  refine c_seq fun K5 hK5 => ?_
  refine c_seq fun K6 hK6 => ?_
  refine c_region ?_
  refine s_pure h (ru_move (h.ev rfl)) rfl ?_; intro f h
  refine s_pure h (ru_lenZ (hlv.keep s.ext) Try.underlying22 (h.ev rfl)) rfl ?_; intro f h
  refine s_pure h (ru_move (h.ev rfl)) rfl ?_; intro f h
  refine s_nil ?_
  refine hK6 _ _ ?_
  refine wpIn_block ?_
  refine wpIn_loop_ghost (fun nn aa ww => ∃ k : Nat, Sl 57 aa [(0, idV t9), (1, idV s9), (3, .pointer (some ⟨b3, 0, none⟩)), (4, .pointer (some ⟨b4, 0, none⟩)), (7, .pointer (some ⟨b7, 0, none⟩)), (9, .pointer (some ⟨b9, 0, none⟩)), (8, .int .i64 (csE s9 t9 r)), (25, (cutV vh (min l.length 18))), (26, .int .i64 (r.length : Int)), (27, .int .i64 (k : Int))] ∧ St w [.blk b9 (.cells (mbArr (rcM s9 t9 r)) 26), .blk b7 (.cells (mbArr (csM s9 t9 r)) 26), .blk b4 (.cells (idArr s9) 24), .blk b3 (.cells (idArr t9) 24)] ww ∧ nn = r.length - k ∧ k ≤ r.length ∧ ∀ j, j < k → btw s9 t9 (r.getD j zMb) = false) (r.length - (0)) ⟨0, h.only ⟨rfl, rfl, rfl, rfl, rfl, rfl, rfl, rfl, rfl, slot_int rfl (by omega), trivial⟩, s.as ⟨rfl, rfl, rfl, rfl, trivial⟩, rfl, Nat.zero_le _, fun j hj => absurd hj (Nat.not_lt_zero _)⟩ ?_
  rintro _ f w1 ⟨k, h, s, hnn, hp0, hp1⟩
  refine c_seq fun K7 hK7 => ?_
  refine c_region ?_
  refine s_pure h (ru_lss (h.ev rfl) (h.ev rfl)) rfl ?_; intro f h
  refine s_nil ?_
  refine hK7 _ _ ?_
  refine c_seq fun K8 hK8 => ?_
  refine c_cond h rfl (fun hc => ?_) (fun hc => ?_)
  · replace hc := of_decide_eq_true hc
    refine wpIn_skip ?_
    refine hK8 _ _ ?_
    refine c_seq fun K9 hK9 => ?_
    refine wpIn_block ?_
    refine c_seq fun K10 hK10 => ?_
    refine c_region ?_
    have hkl : k < r.length := by omega
    refine s_pure h (ru_ixz (hlv.keep s.ext) (k) Try.underlying22 szo26 (h.ev rfl) (h.ev rfl) (by omega) (by omega)) rfl ?_; intro f h
    refine s_load_at ((hlv.keep s.ext).el (k) (by omega) (by decide) (D := mbArr (r.getD k zMb)) (mb_elD r k hkl)) h row26 rfl (mbArr_size _) rfl ?_; intro f h
    refine s_alloc (mbArr zMb) h s zero26 rfl rfl ?_; intro f w1 b11 h s
    refine s_store_row 0 h s row26 rfl rfl rfl (mbArr_size _) (mbArr_size _) (mbArr_ones _) ?_; intro w1 s
    refine s_nil ?_
    refine hK10 _ _ ?_
    refine c_seq fun K11 hK11 => ?_
    refine c_region ?_
    refine s_pure h (ru_field fld26_1 (h.ev rfl)) rfl ?_; intro f h
    refine s_load_at (Has.subL (Has.of_own s 0 rfl) 1 32 (D := idArr (_)) (mbArr_id _)) h row24 rfl (by first | exact idArr_size _ | exact bytesF_size _ _) rfl ?_; intro f h
    refine s_load_row 3 h s row24 rfl rfl (by first | exact idArr_size _ | exact bytesF_size _ _) rfl ?_; intro f h
    refine s_load_row 4 h s row24 rfl rfl (by first | exact idArr_size _ | exact bytesF_size _ _) rfl ?_; intro f h
    refine s_call h s fnc19 (between_any (r.getD k zMb) s9 t9 _) rfl rfl ?_; intro f w1 v9 hT hE h s; obtain rfl := hT
    refine s_nil ?_
    refine hK11 _ _ ?_
    refine c_cond h rfl (fun hc => ?_) (fun hc => ?_)
    · refine c_seq fun K12 hK12 => ?_
      refine c_region ?_
      have hne : onW s9 t9 r ≠ [] := on_some (mb_mem hkl) hc
      refine s_call h s fnc13 (alive_any _) rfl rfl ?_; intro f w1 v9 hT hE h s; obtain rfl := hT
      refine s_pure h (ru_move (h.ev rfl)) rfl ?_; intro f h
      refine s_on h rfl rfl rfl ?_
      refine s_pure h (ru_move (h.ev rfl)) rfl ?_; intro f h
      refine s_on h rfl rfl rfl ?_
      refine s_pure h (ru_val (.bool true) (ru_eql (h.ev rfl) (h.ev rfl)) (congrArg Value.bool (decide_eq_true ((cs_some hne).1)))) rfl ?_; intro f h
      refine s_pure h (ru_pick_t (h.ev rfl) (h.ev rfl)) rfl ?_; intro f h
      refine s_pure h (ru_move (h.ev rfl)) rfl ?_; intro f h
      refine s_on h rfl rfl rfl ?_
      refine s_load_row 2 h s row26 rfl rfl (mbArr_size _) rfl ?_; intro f h
      refine s_on h rfl rfl rfl ?_
      refine s_load_row 1 h s row26 rfl rfl (mbArr_size _) rfl ?_; intro f h
      refine s_on h rfl rfl rfl ?_
      refine s_pure h (ru_val (.bool true) (ru_eqlW (eqM _ _) (by kernel_rfl) (by decide) (h.ev rfl) (h.ev rfl) (decide (csM s9 t9 r = rcM s9 t9 r)) (mbEq _ _)) (congrArg Value.bool (decide_eq_true ((rc_some hne).symm)))) rfl ?_; intro f h
      refine s_pure h (ru_pick_t (h.ev rfl) (h.ev rfl)) rfl ?_; intro f h
      refine s_pure h (ru_assign (h.ev rfl)) rfl ?_; intro f h
      refine s_nil ?_
      refine hK12 _ _ ?_
      refine wpIn_ret ?_
      refine b_ret ?_
      refine t_ret ?_
      refine t_ret ?_
      refine b_ret ?_
      refine t_ret ?_
      exact e_tmp rfl h s rfl (rfl)
    · refine wpIn_skip ?_
      refine b_norm ?_
      refine hK9 _ _ ?_
      refine c_region ?_
      refine s_pure h (ru_add (h.ev rfl) (h.ev rfl) (by omega)) rfl ?_; intro f h
      refine s_pure h (ru_move (h.ev rfl)) rfl ?_; intro f h
      refine s_nil ?_
      refine t_norm ?_
      exact ⟨_, by omega, ⟨k + 1, h.only ⟨rfl, rfl, rfl, rfl, rfl, rfl, rfl, rfl, rfl, slot_int rfl (by omega), trivial⟩, St.as (s.pick _ (List.sublist_append_right [_] _)) ⟨rfl, rfl, rfl, rfl, trivial⟩, rfl, by omega, qs_next (q := fun j => btw s9 t9 (r.getD j zMb)) hp1 hc⟩⟩
  · replace hc := of_decide_eq_false hc
    refine wpIn_exit ?_
    refine t_exit ?_
    refine t_exit ?_
    refine b_exit ?_
    refine hK5 _ _ ?_
    refine c_seq fun K13 hK13 => ?_
    refine c_region ?_
    have hnil : onW s9 t9 r = [] := on_none (by omega) hp1
    refine s_call h s fnc13 (alive_any _) rfl rfl ?_; intro f w1 v9 hT hE h s; obtain rfl := hT
    refine s_pure h (ru_move (h.ev rfl)) rfl ?_; intro f h
    refine s_on h rfl rfl rfl ?_
    refine s_pure h (ru_move (h.ev rfl)) rfl ?_; intro f h
    refine s_on h rfl rfl rfl ?_
    refine s_pure h (ru_val (.bool true) (ru_eql (h.ev rfl) (h.ev rfl)) (congrArg Value.bool (decide_eq_true ((cs_none hnil).1)))) rfl ?_; intro f h
    refine s_pure h (ru_pick_t (h.ev rfl) (h.ev rfl)) rfl ?_; intro f h
    refine s_pure h (ru_move (h.ev rfl)) rfl ?_; intro f h
    refine s_on h rfl rfl rfl ?_
    refine s_load_row 1 h s row26 rfl rfl (mbArr_size _) rfl ?_; intro f h
    refine s_on h rfl rfl rfl ?_
    refine s_pure h (ru_build_mb0 sttM) rfl ?_; intro f h
    refine s_on h rfl rfl rfl ?_
    refine s_pure h (ru_val (.bool true) (ru_eqlW (eqM _ _) (by kernel_rfl) (by decide) (h.ev rfl) (h.ev rfl) (decide (csM s9 t9 r = zMb)) (mbEq _ _)) (congrArg Value.bool (decide_eq_true ((cs_none hnil).2)))) rfl ?_; intro f h
    refine s_pure h (ru_pick_t (h.ev rfl) (h.ev rfl)) rfl ?_; intro f h
    refine s_pure h (ru_assign (h.ev rfl)) rfl ?_; intro f h
    refine s_nil ?_
    refine hK13 _ _ ?_
    refine wpIn_ret ?_
    exact e_tmp rfl h s rfl (rfl)
end Go.Proofs.Ytbjgpimabgcipaa
