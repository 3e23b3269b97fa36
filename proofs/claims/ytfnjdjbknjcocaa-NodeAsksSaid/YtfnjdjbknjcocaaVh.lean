/- What NodeAsks answers, and the reference that it calls: for all arguments. -/
import Derived.Test.YtfnjdjbknjcocaaVd
import Derived.Test.YtfnjdjbknjcocaaVg
set_option linter.unusedVariables false
set_option linter.unusedSimpArgs false
set_option linter.unusedSectionVars false
namespace Go.Proofs.Ytfnjdjbknjcocaa
open Go.RowKit
theorem between_any (x : Mb) (s9 t9 : Id) (w : World) : Calls Try.prog 49 [idV x.2, idV s9, idV t9].toArray w (Ret w (is (.bool (btw s9 t9 x)))) := by
  refine c_enter Try.func49 rfl Try.ntmps49 rfl [(0, idV x.2), (1, idV s9), (2, idV t9)] (by simp) fun f h => ?_
  have s := St.start w
  refine c_seq fun K1 hK1 => ?_
  refine c_region ?_
  refine s_box (idArr x.2) h s rfl rfl rfl ?_; intro f w1 b3 h s
  refine s_box (idArr s9) h s rfl rfl rfl ?_; intro f w1 b4 h s
  refine s_box (idArr t9) h s rfl rfl rfl ?_; intro f w1 b5 h s
  refine s_pure h (ru_assign (h.ev rfl)) rfl ?_; intro f h
  refine s_nil ?_
  refine hK1 _ _ ?_
  refine c_seq fun K2 hK2 => ?_
  cases q1 : (decide (x.2 ≠ s9) : Bool)
  · skip
    refine c_region ?_
    refine s_load_row 2 h s row23 rfl rfl (by first | exact idArr_size _ | exact bytesF_size _ _) rfl ?_; intro f h
    refine s_load_row 1 h s row23 rfl rfl (by first | exact idArr_size _ | exact bytesF_size _ _) rfl ?_; intro f h
    refine s_pure h (ru_val (.bool false) (ru_neq_id idTy (h.ev rfl) (h.ev rfl)) (congrArg Value.bool q1)) rfl ?_; intro f h
    refine s_pure h (ru_move (h.ev rfl)) rfl ?_; intro f h
    refine s_off (b := true) h rfl rfl rfl rfl ?_; intro f h
    refine s_off (b := true) h rfl rfl rfl rfl ?_; intro f h
    refine s_off (b := true) h rfl rfl rfl rfl ?_; intro f h
    refine s_pure h (ru_pick_f (h.ev rfl) (h.ev rfl)) rfl ?_; intro f h
    refine s_pure h (ru_move (h.ev rfl)) rfl ?_; intro f h
    refine s_off (b := true) h rfl rfl rfl rfl ?_; intro f h
    refine s_off (b := true) h rfl rfl rfl rfl ?_; intro f h
    refine s_off (b := true) h rfl rfl rfl rfl ?_; intro f h
    refine s_off (b := true) h rfl rfl rfl rfl ?_; intro f h
    refine s_pure h (ru_pick_f (h.ev rfl) (h.ev rfl)) rfl ?_; intro f h
    refine s_pure h (ru_assign (h.ev rfl)) rfl ?_; intro f h
    refine s_nil ?_
    refine hK2 _ _ ?_
    refine wpIn_ret ?_
    exact e_tmp rfl h s rfl (by show _ = _; rw [btw_1 q1])
  · skip
    cases q0 : (decide (x.2 ≠ t9) : Bool)
    · skip
      refine c_region ?_
      refine s_load_row 2 h s row23 rfl rfl (by first | exact idArr_size _ | exact bytesF_size _ _) rfl ?_; intro f h
      refine s_load_row 1 h s row23 rfl rfl (by first | exact idArr_size _ | exact bytesF_size _ _) rfl ?_; intro f h
      refine s_pure h (ru_val (.bool true) (ru_neq_id idTy (h.ev rfl) (h.ev rfl)) (congrArg Value.bool q1)) rfl ?_; intro f h
      refine s_pure h (ru_move (h.ev rfl)) rfl ?_; intro f h
      refine s_on h rfl rfl rfl ?_
      refine s_load_row 2 h s row23 rfl rfl (by first | exact idArr_size _ | exact bytesF_size _ _) rfl ?_; intro f h
      refine s_on h rfl rfl rfl ?_
      refine s_load_row 0 h s row23 rfl rfl (by first | exact idArr_size _ | exact bytesF_size _ _) rfl ?_; intro f h
      refine s_on h rfl rfl rfl ?_
      refine s_pure h (ru_val (.bool false) (ru_neq_id idTy (h.ev rfl) (h.ev rfl)) (congrArg Value.bool q0)) rfl ?_; intro f h
      refine s_pure h (ru_pick_t (h.ev rfl) (h.ev rfl)) rfl ?_; intro f h
      refine s_pure h (ru_move (h.ev rfl)) rfl ?_; intro f h
      refine s_off (b := true) h rfl rfl rfl rfl ?_; intro f h
      refine s_off (b := true) h rfl rfl rfl rfl ?_; intro f h
      refine s_off (b := true) h rfl rfl rfl rfl ?_; intro f h
      refine s_off (b := true) h rfl rfl rfl rfl ?_; intro f h
      refine s_pure h (ru_pick_f (h.ev rfl) (h.ev rfl)) rfl ?_; intro f h
      refine s_pure h (ru_assign (h.ev rfl)) rfl ?_; intro f h
      refine s_nil ?_
      refine hK2 _ _ ?_
      refine wpIn_ret ?_
      exact e_tmp rfl h s rfl (by show _ = _; rw [btw_0 q0])
    · skip
      refine c_region ?_
      refine s_load_row 2 h s row23 rfl rfl (by first | exact idArr_size _ | exact bytesF_size _ _) rfl ?_; intro f h
      refine s_load_row 1 h s row23 rfl rfl (by first | exact idArr_size _ | exact bytesF_size _ _) rfl ?_; intro f h
      refine s_pure h (ru_val (.bool true) (ru_neq_id idTy (h.ev rfl) (h.ev rfl)) (congrArg Value.bool q1)) rfl ?_; intro f h
      refine s_pure h (ru_move (h.ev rfl)) rfl ?_; intro f h
      refine s_on h rfl rfl rfl ?_
      refine s_load_row 2 h s row23 rfl rfl (by first | exact idArr_size _ | exact bytesF_size _ _) rfl ?_; intro f h
      refine s_on h rfl rfl rfl ?_
      refine s_load_row 0 h s row23 rfl rfl (by first | exact idArr_size _ | exact bytesF_size _ _) rfl ?_; intro f h
      refine s_on h rfl rfl rfl ?_
      refine s_pure h (ru_val (.bool true) (ru_neq_id idTy (h.ev rfl) (h.ev rfl)) (congrArg Value.bool q0)) rfl ?_; intro f h
      refine s_pure h (ru_pick_t (h.ev rfl) (h.ev rfl)) rfl ?_; intro f h
      refine s_pure h (ru_move (h.ev rfl)) rfl ?_; intro f h
      refine s_on h rfl rfl rfl ?_
      refine s_load_row 2 h s row23 rfl rfl (by first | exact idArr_size _ | exact bytesF_size _ _) rfl ?_; intro f h
      refine s_on h rfl rfl rfl ?_
      refine s_load_row 1 h s row23 rfl rfl (by first | exact idArr_size _ | exact bytesF_size _ _) rfl ?_; intro f h
      refine s_on h rfl rfl rfl ?_
      refine s_load_row 0 h s row23 rfl rfl (by first | exact idArr_size _ | exact bytesF_size _ _) rfl ?_; intro f h
      refine s_on h rfl rfl rfl ?_
      refine s_call h s fnc19 (rin_any _ _ _ _) rfl rfl ?_; intro f w1 v9 hT hE h s; obtain rfl := hT
      refine s_pure h (ru_pick_t (h.ev rfl) (h.ev rfl)) rfl ?_; intro f h
      refine s_pure h (ru_assign (h.ev rfl)) rfl ?_; intro f h
      refine s_nil ?_
      refine hK2 _ _ ?_
      refine wpIn_ret ?_
      exact e_tmp rfl h s rfl (by show _ = _; rw [btw_2 q0 q1])

theorem rclosest_any (l : List Mb) (vh : Value) (t9 s9 : Id) (w : World) (hR : RdZ w vh 33 l.length (mbCells l)) (hln : l.length ≤ 1000) : Calls Try.prog 43 [idV t9, idV s9, vh].toArray w (Ret w (is (.agg (mbArr (rcM s9 t9 l))))) := by
  refine c_enter Try.func43 rfl Try.ntmps43 rfl [(0, idV t9), (1, idV s9), (2, vh)] (by simp) fun f h => ?_
  have s := St.start w
  refine c_seq fun K1 hK1 => ?_
  refine c_region ?_
  refine s_box (idArr t9) h s rfl rfl rfl ?_; intro f w1 b3 h s
  refine s_box (idArr s9) h s rfl rfl rfl ?_; intro f w1 b4 h s
  refine s_alloc (mbArr zMb) h s zero25 rfl rfl ?_; intro f w1 b6 h s
  refine s_nil ?_
  refine hK1 _ _ ?_
  refine c_seq fun K2 hK2 => ?_
  refine c_region ?_
  refine s_pure h (ru_build_mb1 sttM (h.ev rfl)) rfl ?_; intro f h
  refine s_alloc (mbArr zMb) h s zero25 rfl rfl ?_; intro f w1 b7 h s
  refine s_store_row 0 h s row25 rfl rfl rfl (mbArr_size _) (mbArr_size _) (mbArr_ones _) ?_; intro w1 s
  refine s_nil ?_
  refine hK2 _ _ ?_
  refine c_seq fun K3 hK3 => ?_
  refine c_region ?_
  refine s_pure h (ru_assign (h.ev rfl)) rfl ?_; intro f h
  refine s_nil ?_
  refine hK3 _ _ ?_
  refine c_seq fun K4 hK4 => ?_
  refine c_seq fun K5 hK5 => ?_
  refine c_region ?_
  refine s_pure h (ru_move (h.ev rfl)) rfl ?_; intro f h
  refine s_pure h (ru_lenZ (hR.keep s.ext) Try.underlying26 (h.ev rfl)) rfl ?_; intro f h
  refine s_pure h (ru_move (h.ev rfl)) rfl ?_; intro f h
  refine s_nil ?_
  refine hK5 _ _ ?_
  refine wpIn_block ?_
  refine wpIn_loop_ghost (fun nn aa ww => ∃ k : Nat, Sl 38 aa [(0, idV t9), (1, idV s9), (2, vh), (3, .pointer (some ⟨b3, 0, none⟩)), (4, .pointer (some ⟨b4, 0, none⟩)), (6, .pointer (some ⟨b6, 0, none⟩)), (7, .pointer (some ⟨b7, 0, none⟩)), (8, .bool (rcB s9 t9 l k)), (12, vh), (13, .int .i64 (l.length : Int)), (14, .int .i64 (k : Int))] ∧ St w [.blk b7 (.cells (mbArr (rcM s9 t9 (l.take k))) 25), .blk b6 (.cells (mbArr zMb) 25), .blk b4 (.cells (idArr s9) 23), .blk b3 (.cells (idArr t9) 23)] ww ∧ nn = l.length - k ∧ k ≤ l.length) (l.length - (0)) ⟨0, h.only ⟨rfl, rfl, rfl, rfl, rfl, rfl, rfl, rfl, rfl, rfl, rfl, trivial⟩, s.as ⟨rfl, rfl, rfl, rfl, trivial⟩, rfl, Nat.zero_le _⟩ ?_
  rintro _ f w1 ⟨k, h, s, hnn, hp0⟩
  refine c_seq fun K6 hK6 => ?_
  refine c_region ?_
  refine s_pure h (ru_lss (h.ev rfl) (h.ev rfl)) rfl ?_; intro f h
  refine s_nil ?_
  refine hK6 _ _ ?_
  refine c_seq fun K7 hK7 => ?_
  refine c_cond h rfl (fun hc => ?_) (fun hc => ?_)
  · replace hc := of_decide_eq_true hc
    refine wpIn_skip ?_
    refine hK7 _ _ ?_
    refine c_seq fun K8 hK8 => ?_
    refine wpIn_block ?_
    refine c_seq fun K9 hK9 => ?_
    refine c_region ?_
    have hkl : k < l.length := by omega
    refine s_pure h (ru_ixz (hR.keep s.ext) (k) Try.underlying26 szo25 (h.ev rfl) (h.ev rfl) (by omega) (by omega)) rfl ?_; intro f h
    refine s_load_at ((hR.keep s.ext).el (k) (by omega) (by decide) (D := mbArr (l.getD k zMb)) (mb_elD l k hkl)) h row25 rfl (mbArr_size _) rfl ?_; intro f h
    refine s_alloc (mbArr zMb) h s zero25 rfl rfl ?_; intro f w1 b10 h s
    refine s_store_row 0 h s row25 rfl rfl rfl (mbArr_size _) (mbArr_size _) (mbArr_ones _) ?_; intro w1 s
    refine s_nil ?_
    refine hK9 _ _ ?_
    refine c_seq fun K10 hK10 => ?_
    cases hb : (btw s9 t9 (l.getD k zMb) : Bool)
    · skip
      refine c_region ?_
      refine s_pure h (ru_field fld25_1 (h.ev rfl)) rfl ?_; intro f h
      refine s_load_at (Has.subL (Has.of_own s 0 rfl) 1 32 (D := idArr (_)) (mbArr_id _)) h row23 rfl (by first | exact idArr_size _ | exact bytesF_size _ _) rfl ?_; intro f h
      refine s_load_row 3 h s row23 rfl rfl (by first | exact idArr_size _ | exact bytesF_size _ _) rfl ?_; intro f h
      refine s_load_row 4 h s row23 rfl rfl (by first | exact idArr_size _ | exact bytesF_size _ _) rfl ?_; intro f h
      refine s_call h s fnc49 (ret_val (.bool false) (between_any (l.getD k zMb) s9 t9 _) (congrArg Value.bool hb)) rfl rfl ?_; intro f w1 v9 hT hE h s; obtain rfl := hT
      refine s_pure h (ru_move (h.ev rfl)) rfl ?_; intro f h
      refine s_off (b := true) h rfl rfl rfl rfl ?_; intro f h
      refine s_off (b := true) h rfl rfl rfl rfl ?_; intro f h
      refine s_off (b := true) h rfl rfl rfl rfl ?_; intro f h
      refine s_none h rfl rfl rfl rfl ?_; intro f h
      refine s_none h rfl rfl rfl rfl ?_; intro f h
      refine s_none h rfl rfl rfl rfl ?_; intro f h
      refine s_none h rfl rfl rfl rfl ?_; intro f h
      refine s_none h rfl rfl rfl rfl ?_; intro f h
      refine s_none h rfl rfl rfl rfl ?_; intro f h
      refine s_off (b := true) h rfl rfl rfl rfl ?_; intro f h
      refine s_pure h (ru_pick_f (h.ev rfl) (h.ev rfl)) rfl ?_; intro f h
      refine s_nil ?_
      refine hK10 _ _ ?_
      refine wpIn_cond_false (h.ev rfl) ?_
      refine wpIn_skip ?_
      refine b_norm ?_
      refine hK8 _ _ ?_
      refine c_region ?_
      refine s_pure h (ru_add (h.ev rfl) (h.ev rfl) (by omega)) rfl ?_; intro f h
      refine s_pure h (ru_move (h.ev rfl)) rfl ?_; intro f h
      refine s_nil ?_
      refine t_norm ?_
      exact ⟨_, by omega, ⟨k + 1, h.only ⟨rfl, rfl, rfl, rfl, rfl, rfl, rfl, congrArg (fun b => some (Value.bool b)) (rc_no hkl hb).2.symm, rfl, rfl, slot_int rfl (by omega), trivial⟩, St.as (s.pick _ (List.sublist_append_right [_] _)) ⟨cells_eq (congrArg mbArr (rc_no hkl hb).1.symm), rfl, rfl, rfl, trivial⟩, rfl, by omega⟩⟩
    · skip
      cases hf : (rcB s9 t9 l k : Bool)
      · skip
        refine c_region ?_
        refine s_pure h (ru_field fld25_1 (h.ev rfl)) rfl ?_; intro f h
        refine s_load_at (Has.subL (Has.of_own s 0 rfl) 1 32 (D := idArr (_)) (mbArr_id _)) h row23 rfl (by first | exact idArr_size _ | exact bytesF_size _ _) rfl ?_; intro f h
        refine s_load_row 3 h s row23 rfl rfl (by first | exact idArr_size _ | exact bytesF_size _ _) rfl ?_; intro f h
        refine s_load_row 4 h s row23 rfl rfl (by first | exact idArr_size _ | exact bytesF_size _ _) rfl ?_; intro f h
        refine s_call h s fnc49 (ret_val (.bool true) (between_any (l.getD k zMb) s9 t9 _) (congrArg Value.bool hb)) rfl rfl ?_; intro f w1 v9 hT hE h s; obtain rfl := hT
        refine s_pure h (ru_move (h.ev rfl)) rfl ?_; intro f h
        refine s_on h rfl rfl rfl ?_
        refine s_pure h (ru_val (.bool false) (ru_move (h.ev rfl)) (congrArg Value.bool hf)) rfl ?_; intro f h
        refine s_on h rfl rfl rfl ?_
        refine s_pure h (ru_val (.bool true) (ru_not (h.ev rfl)) rfl) rfl ?_; intro f h
        refine s_on h rfl rfl rfl ?_
        refine s_pure h (ru_move (h.ev rfl)) rfl ?_; intro f h
        refine s_off (b := false) h rfl rfl rfl rfl ?_; intro f h
        refine s_off (b := false) h rfl rfl rfl rfl ?_; intro f h
        refine s_off (b := false) h rfl rfl rfl rfl ?_; intro f h
        refine s_off (b := false) h rfl rfl rfl rfl ?_; intro f h
        refine s_off (b := false) h rfl rfl rfl rfl ?_; intro f h
        refine s_off (b := false) h rfl rfl rfl rfl ?_; intro f h
        refine s_on h rfl rfl rfl ?_
        refine s_pure h (ru_pick_t (h.ev rfl) (h.ev rfl)) rfl ?_; intro f h
        refine s_pure h (ru_pick_t (h.ev rfl) (h.ev rfl)) rfl ?_; intro f h
        refine s_nil ?_
        refine hK10 _ _ ?_
        refine wpIn_cond_true (h.ev rfl) ?_
        refine c_seq fun K11 hK11 => ?_
        refine c_region ?_
        refine s_load_row 0 h s row25 rfl rfl (mbArr_size _) rfl ?_; intro f h
        refine s_store_row 1 h s row25 rfl rfl rfl (mbArr_size _) (mbArr_size _) (mbArr_ones _) ?_; intro w1 s
        refine s_nil ?_
        refine hK11 _ _ ?_
        refine c_region ?_
        refine s_pure h (ru_assign (h.ev rfl)) rfl ?_; intro f h
        refine s_nil ?_
        refine b_norm ?_
        refine hK8 _ _ ?_
        refine c_region ?_
        refine s_pure h (ru_add (h.ev rfl) (h.ev rfl) (by omega)) rfl ?_; intro f h
        refine s_pure h (ru_move (h.ev rfl)) rfl ?_; intro f h
        refine s_nil ?_
        refine t_norm ?_
        exact ⟨_, by omega, ⟨k + 1, h.only ⟨rfl, rfl, rfl, rfl, rfl, rfl, rfl, congrArg (fun b => some (Value.bool b)) (rc_tr hkl hb).symm, rfl, rfl, slot_int rfl (by omega), trivial⟩, St.as (s.pick _ (List.sublist_append_right [_] _)) ⟨cells_eq (congrArg mbArr (rc_first hkl hb hf).symm), rfl, rfl, rfl, trivial⟩, rfl, by omega⟩⟩
      · skip
        cases h2 : (btw s9 (l.getD k zMb).2 (rcM s9 t9 (l.take k)) : Bool)
        · skip
          refine c_region ?_
          refine s_pure h (ru_field fld25_1 (h.ev rfl)) rfl ?_; intro f h
          refine s_load_at (Has.subL (Has.of_own s 0 rfl) 1 32 (D := idArr (_)) (mbArr_id _)) h row23 rfl (by first | exact idArr_size _ | exact bytesF_size _ _) rfl ?_; intro f h
          refine s_load_row 3 h s row23 rfl rfl (by first | exact idArr_size _ | exact bytesF_size _ _) rfl ?_; intro f h
          refine s_load_row 4 h s row23 rfl rfl (by first | exact idArr_size _ | exact bytesF_size _ _) rfl ?_; intro f h
          refine s_call h s fnc49 (ret_val (.bool true) (between_any (l.getD k zMb) s9 t9 _) (congrArg Value.bool hb)) rfl rfl ?_; intro f w1 v9 hT hE h s; obtain rfl := hT
          refine s_pure h (ru_move (h.ev rfl)) rfl ?_; intro f h
          refine s_on h rfl rfl rfl ?_
          refine s_pure h (ru_val (.bool true) (ru_move (h.ev rfl)) (congrArg Value.bool hf)) rfl ?_; intro f h
          refine s_on h rfl rfl rfl ?_
          refine s_pure h (ru_val (.bool false) (ru_not (h.ev rfl)) rfl) rfl ?_; intro f h
          refine s_on h rfl rfl rfl ?_
          refine s_pure h (ru_move (h.ev rfl)) rfl ?_; intro f h
          refine s_on h rfl rfl rfl ?_
          refine s_pure h (ru_field fld25_1 (h.ev rfl)) rfl ?_; intro f h
          refine s_on h rfl rfl rfl ?_
          refine s_load_at (Has.subL (Has.of_own s 1 rfl) 1 32 (D := idArr (_)) (mbArr_id _)) h row23 rfl (by first | exact idArr_size _ | exact bytesF_size _ _) rfl ?_; intro f h
          refine s_on h rfl rfl rfl ?_
          refine s_load_row 3 h s row23 rfl rfl (by first | exact idArr_size _ | exact bytesF_size _ _) rfl ?_; intro f h
          refine s_on h rfl rfl rfl ?_
          refine s_pure h (ru_field fld25_1 (h.ev rfl)) rfl ?_; intro f h
          refine s_on h rfl rfl rfl ?_
          refine s_load_at (Has.subL (Has.of_own s 0 rfl) 1 32 (D := idArr (_)) (mbArr_id _)) h row23 rfl (by first | exact idArr_size _ | exact bytesF_size _ _) rfl ?_; intro f h
          refine s_on h rfl rfl rfl ?_
          refine s_call h s fnc49 (ret_val (.bool false) (between_any (rcM s9 t9 (l.take k)) s9 (l.getD k zMb).2 _) (congrArg Value.bool h2)) rfl rfl ?_; intro f w1 v9 hT hE h s; obtain rfl := hT
          refine s_on h rfl rfl rfl ?_
          refine s_pure h (ru_pick_f (h.ev rfl) (h.ev rfl)) rfl ?_; intro f h
          refine s_pure h (ru_pick_t (h.ev rfl) (h.ev rfl)) rfl ?_; intro f h
          refine s_nil ?_
          refine hK10 _ _ ?_
          refine wpIn_cond_false (h.ev rfl) ?_
          refine wpIn_skip ?_
          refine b_norm ?_
          refine hK8 _ _ ?_
          refine c_region ?_
          refine s_pure h (ru_add (h.ev rfl) (h.ev rfl) (by omega)) rfl ?_; intro f h
          refine s_pure h (ru_move (h.ev rfl)) rfl ?_; intro f h
          refine s_nil ?_
          refine t_norm ?_
          exact ⟨_, by omega, ⟨k + 1, h.only ⟨rfl, rfl, rfl, rfl, rfl, rfl, rfl, congrArg (fun b => some (Value.bool b)) (hf.trans (rc_tr hkl hb).symm), rfl, rfl, slot_int rfl (by omega), trivial⟩, St.as (s.pick _ (List.sublist_append_right [_] _)) ⟨cells_eq (congrArg mbArr (rc_not hkl hb hf h2).symm), rfl, rfl, rfl, trivial⟩, rfl, by omega⟩⟩
        · skip
          refine c_region ?_
          refine s_pure h (ru_field fld25_1 (h.ev rfl)) rfl ?_; intro f h
          refine s_load_at (Has.subL (Has.of_own s 0 rfl) 1 32 (D := idArr (_)) (mbArr_id _)) h row23 rfl (by first | exact idArr_size _ | exact bytesF_size _ _) rfl ?_; intro f h
          refine s_load_row 3 h s row23 rfl rfl (by first | exact idArr_size _ | exact bytesF_size _ _) rfl ?_; intro f h
          refine s_load_row 4 h s row23 rfl rfl (by first | exact idArr_size _ | exact bytesF_size _ _) rfl ?_; intro f h
          refine s_call h s fnc49 (ret_val (.bool true) (between_any (l.getD k zMb) s9 t9 _) (congrArg Value.bool hb)) rfl rfl ?_; intro f w1 v9 hT hE h s; obtain rfl := hT
          refine s_pure h (ru_move (h.ev rfl)) rfl ?_; intro f h
          refine s_on h rfl rfl rfl ?_
          refine s_pure h (ru_val (.bool true) (ru_move (h.ev rfl)) (congrArg Value.bool hf)) rfl ?_; intro f h
          refine s_on h rfl rfl rfl ?_
          refine s_pure h (ru_val (.bool false) (ru_not (h.ev rfl)) rfl) rfl ?_; intro f h
          refine s_on h rfl rfl rfl ?_
          refine s_pure h (ru_move (h.ev rfl)) rfl ?_; intro f h
          refine s_on h rfl rfl rfl ?_
          refine s_pure h (ru_field fld25_1 (h.ev rfl)) rfl ?_; intro f h
          refine s_on h rfl rfl rfl ?_
          refine s_load_at (Has.subL (Has.of_own s 1 rfl) 1 32 (D := idArr (_)) (mbArr_id _)) h row23 rfl (by first | exact idArr_size _ | exact bytesF_size _ _) rfl ?_; intro f h
          refine s_on h rfl rfl rfl ?_
          refine s_load_row 3 h s row23 rfl rfl (by first | exact idArr_size _ | exact bytesF_size _ _) rfl ?_; intro f h
          refine s_on h rfl rfl rfl ?_
          refine s_pure h (ru_field fld25_1 (h.ev rfl)) rfl ?_; intro f h
          refine s_on h rfl rfl rfl ?_
          refine s_load_at (Has.subL (Has.of_own s 0 rfl) 1 32 (D := idArr (_)) (mbArr_id _)) h row23 rfl (by first | exact idArr_size _ | exact bytesF_size _ _) rfl ?_; intro f h
          refine s_on h rfl rfl rfl ?_
          refine s_call h s fnc49 (ret_val (.bool true) (between_any (rcM s9 t9 (l.take k)) s9 (l.getD k zMb).2 _) (congrArg Value.bool h2)) rfl rfl ?_; intro f w1 v9 hT hE h s; obtain rfl := hT
          refine s_on h rfl rfl rfl ?_
          refine s_pure h (ru_pick_f (h.ev rfl) (h.ev rfl)) rfl ?_; intro f h
          refine s_pure h (ru_pick_t (h.ev rfl) (h.ev rfl)) rfl ?_; intro f h
          refine s_nil ?_
          refine hK10 _ _ ?_
          refine wpIn_cond_true (h.ev rfl) ?_
          refine c_seq fun K12 hK12 => ?_
          refine c_region ?_
          refine s_load_row 0 h s row25 rfl rfl (mbArr_size _) rfl ?_; intro f h
          refine s_store_row 1 h s row25 rfl rfl rfl (mbArr_size _) (mbArr_size _) (mbArr_ones _) ?_; intro w1 s
          refine s_nil ?_
          refine hK12 _ _ ?_
          refine c_region ?_
          refine s_pure h (ru_assign (h.ev rfl)) rfl ?_; intro f h
          refine s_nil ?_
          refine b_norm ?_
          refine hK8 _ _ ?_
          refine c_region ?_
          refine s_pure h (ru_add (h.ev rfl) (h.ev rfl) (by omega)) rfl ?_; intro f h
          refine s_pure h (ru_move (h.ev rfl)) rfl ?_; intro f h
          refine s_nil ?_
          refine t_norm ?_
          exact ⟨_, by omega, ⟨k + 1, h.only ⟨rfl, rfl, rfl, rfl, rfl, rfl, rfl, congrArg (fun b => some (Value.bool b)) (rc_tr hkl hb).symm, rfl, rfl, slot_int rfl (by omega), trivial⟩, St.as (s.pick _ (List.sublist_append_right [_] _)) ⟨cells_eq (congrArg mbArr (rc_yes hkl hb hf h2).symm), rfl, rfl, rfl, trivial⟩, rfl, by omega⟩⟩
  · replace hc := of_decide_eq_false hc
    refine wpIn_exit ?_
    refine t_exit ?_
    refine t_exit ?_
    refine b_exit ?_
    refine hK4 _ _ ?_
    refine c_seq fun K13 hK13 => ?_
    refine c_region ?_
    refine s_load_row 0 h s row25 rfl rfl (mbArr_size _) rfl ?_; intro f h
    refine s_store_row 1 h s row25 rfl rfl rfl (mbArr_size _) (mbArr_size _) (mbArr_ones _) ?_; intro w1 s
    refine s_nil ?_
    refine hK13 _ _ ?_
    refine wpIn_ret ?_
    exact e_row 1 rfl h s row25 rfl rfl (mbArr_size _) ((by obtain rfl : k = l.length := (by omega); show _ = _; rw [List.take_length]))

theorem rnext9_any (n : Nd) (vs vf : Value) (x : Id) (w : World) (hRs : RdZ w vs 33 n.sc.length (mbCells n.sc)) (hRf : RdZ w vf 33 n.fg.length (mbCells n.fg)) (hns : n.sc.length ≤ 400) (hnf : n.fg.length ≤ 400) (hr : rightN n = true) : Calls Try.prog 20 [.agg (ndArr n.me n.pr vs vf), idV x].toArray w (Ret w (is (.agg (nnArr (nxM n x) (nxB n x))))) := by
  have hrn := rn_iff.1 hr
  have hl1 := hrn.len
  have hnx := nx_ref hrn x
  refine c_enter Try.func20 rfl Try.ntmps20 rfl [(0, .agg (ndArr n.me n.pr vs vf)), (1, idV x)] (by simp) fun f h => ?_
  have s := St.start w
  refine c_seq fun K1 hK1 => ?_
  refine c_region ?_
  refine s_box (ndArr n.me n.pr vs vf) h s rfl rfl rfl ?_; intro f w1 b2 h s
  refine s_box (idArr x) h s rfl rfl rfl ?_; intro f w1 b3 h s
  refine s_alloc (nnArr zMb false) h s zero42 rfl rfl ?_; intro f w1 b4 h s
  refine s_nil ?_
  refine hK1 _ _ ?_
  refine c_seq fun K2 hK2 => ?_
  refine c_region ?_
  refine s_pure h (ru_field fld28_2 (h.ev rfl)) rfl ?_; intro f h
  refine s_load_at1 (V := vs) (cell_of_has (Has.of_own s 2 rfl) 66 (ndArr_sc _ _ _ _)) h one26 rfl rfl ?_; intro f h
  refine s_pure h (ru_ixz (hRs.keep s.ext) (0) Try.underlying26 szo25 (h.ev rfl) (h.ev rfl) (by omega) (by omega)) rfl ?_; intro f h
  refine s_load_at ((hRs.keep s.ext).el (0) (by omega) (by decide) (D := mbArr (n.sc.getD 0 zMb)) (mb_elD n.sc 0 (by omega))) h row25 rfl (mbArr_size _) rfl ?_; intro f h
  refine s_alloc (mbArr zMb) h s zero25 rfl rfl ?_; intro f w1 b5 h s
  refine s_store_row 0 h s row25 rfl rfl rfl (mbArr_size _) (mbArr_size _) (mbArr_ones _) ?_; intro w1 s
  refine s_nil ?_
  refine hK2 _ _ ?_
  refine c_seq fun K3 hK3 => ?_
  refine c_seq fun K4 hK4 => ?_
  cases hi : (inB x n.me.2 (n.sc.getD 0 zMb).2 : Bool)
  · skip
    refine c_region ?_
    refine s_load_row 2 h s row23 rfl rfl (by first | exact idArr_size _ | exact bytesF_size _ _) rfl ?_; intro f h
    refine s_pure h (ru_field fld28_0 (h.ev rfl)) rfl ?_; intro f h
    refine s_pure h (ru_field fld25_1 (h.ev rfl)) rfl ?_; intro f h
    refine s_load_at (Has.subL (Has.of_own s 3 rfl) 1 32 (D := idArr n.me.2) (ndArr_id _ _ _ _)) h row23 rfl (by first | exact idArr_size _ | exact bytesF_size _ _) rfl ?_; intro f h
    refine s_pure h (ru_field fld25_1 (h.ev rfl)) rfl ?_; intro f h
    refine s_load_at (Has.subL (Has.of_own s 0 rfl) 1 32 (D := idArr (_)) (mbArr_id _)) h row23 rfl (by first | exact idArr_size _ | exact bytesF_size _ _) rfl ?_; intro f h
    refine s_call h s fnc19 (ret_val (.bool false) (rin_any _ _ _ _) (congrArg Value.bool hi)) rfl rfl ?_; intro f w1 v9 hT hE h s; obtain rfl := hT
    refine s_nil ?_
    refine hK4 _ _ ?_
    refine wpIn_cond_false (h.ev rfl) ?_
    refine wpIn_skip ?_
    refine hK3 _ _ ?_
    refine c_seq fun K5 hK5 => ?_
    refine c_region ?_
    refine s_bslice (vs := []) [] h s Try.underlying26 elm25 rfl rfl (by simp) rfl rfl rfl ?_; intro f w1 v21 h s
    refine s_pure h (ru_assign (h.ev rfl)) rfl ?_; intro f h
    refine s_nil ?_
    refine hK5 _ _ ?_
    refine c_seq fun K6 hK6 => ?_
    refine c_region ?_
    refine s_pure h (ru_move (h.ev rfl)) rfl ?_; intro f h
    refine s_pure h (ru_field fld28_3 (h.ev rfl)) rfl ?_; intro f h
    refine s_load_at1 (V := vf) (cell_of_has (Has.of_own s 4 rfl) 67 (ndArr_fg _ _ _ _)) h one26 rfl rfl ?_; intro f h
    refine s_append_rd 0 (hRf.keep s.ext) h s Try.underlying26 elm25 rfl rfl rfl (mbCells_ones _) (by unfold maxLen; omega) (by omega) rfl ?_; intro f w1 v25 h s
    replace s := s.resl (m := n.fg.length) (ys := mbCells n.fg) 0 rfl (by omega) rfl
    refine s_pure h (ru_assign (h.ev rfl)) rfl ?_; intro f h
    refine s_nil ?_
    refine hK6 _ _ ?_
    refine c_seq fun K7 hK7 => ?_
    refine c_region ?_
    refine s_pure h (ru_move (h.ev rfl)) rfl ?_; intro f h
    refine s_pure h (ru_field fld28_2 (h.ev rfl)) rfl ?_; intro f h
    refine s_load_at1 (V := vs) (cell_of_has (Has.of_own s 4 rfl) 66 (ndArr_sc _ _ _ _)) h one26 rfl rfl ?_; intro f h
    refine s_append_rd 0 (hRs.keep s.ext) h s Try.underlying26 elm25 rfl rfl rfl (mbCells_ones _) (by unfold maxLen; omega) (by omega) rfl ?_; intro f w1 v29 h s
    replace s := s.resl (m := (n.fg ++ n.sc).length) (ys := mbCells (n.fg ++ n.sc)) 0 rfl (by rw [List.length_append]) (mbCells_app _ _).symm
    refine s_pure h (ru_assign (h.ev rfl)) rfl ?_; intro f h
    refine s_nil ?_
    refine hK7 _ _ ?_
    refine c_seq fun K8 hK8 => ?_
    refine c_region ?_
    refine s_load_row 3 h s row23 rfl rfl (by first | exact idArr_size _ | exact bytesF_size _ _) rfl ?_; intro f h
    refine s_pure h (ru_field fld28_0 (h.ev rfl)) rfl ?_; intro f h
    refine s_pure h (ru_field fld25_1 (h.ev rfl)) rfl ?_; intro f h
    refine s_load_at (Has.subL (Has.of_own s 4 rfl) 1 32 (D := idArr n.me.2) (ndArr_id _ _ _ _)) h row23 rfl (by first | exact idArr_size _ | exact bytesF_size _ _) rfl ?_; intro f h
    refine s_pure h (ru_move (h.ev rfl)) rfl ?_; intro f h
    refine s_call h s fnc43 (rclosest_any (n.fg ++ n.sc) v29 x n.me.2 _ (RdZ.of_own (s.getSl 0 rfl)) (by rw [List.length_append]; omega)) rfl rfl ?_; intro f w1 v9 hT hE h s; obtain rfl := hT
    refine s_alloc (mbArr zMb) h s zero25 rfl rfl ?_; intro f w1 b7 h s
    refine s_store_row 0 h s row25 rfl rfl rfl (mbArr_size _) (mbArr_size _) (mbArr_ones _) ?_; intro w1 s
    refine s_nil ?_
    refine hK8 _ _ ?_
    refine c_seq fun K9 hK9 => ?_
    refine c_seq fun K10 hK10 => ?_
    refine c_region ?_
    refine s_pure h (ru_field fld25_0 (h.ev rfl)) rfl ?_; intro f h
    refine s_load_at1 (cell_of_has (Has.of_own s 0 rfl) 0 (mbArr_no _)) h one3 rfl rfl ?_; intro f h
    refine s_pure h (ru_lss (h.ev rfl) (h.ev rfl)) rfl ?_; intro f h
    refine s_nil ?_
    refine hK10 _ _ ?_
    refine c_cond h rfl (fun hc => ?_) (fun hc => ?_)
    · have h0 := (hnx.resolve_right (fun h9 => h9.1 (of_decide_eq_true hc))).2
      refine c_region ?_
      refine s_load_row 2 h s row25 rfl rfl (mbArr_size _) rfl ?_; intro f h
      refine s_store_row 0 h s row25 rfl rfl rfl (mbArr_size _) (mbArr_size _) (mbArr_ones _) ?_; intro w1 s
      refine s_nil ?_
      refine hK9 _ _ ?_
      refine c_seq fun K11 hK11 => ?_
      refine c_region ?_
      refine s_load_row 0 h s row25 rfl rfl (mbArr_size _) rfl ?_; intro f h
      refine s_pure h (ru_build_nn1 sttK (h.ev rfl)) rfl ?_; intro f h
      refine s_store_row 3 h s row42 rfl rfl rfl (nnArr_size _ _) (nnArr_size _ _) (nnArr_ones _ _) ?_; intro w1 s
      refine s_nil ?_
      refine hK11 _ _ ?_
      refine wpIn_ret ?_
      exact e_row 3 rfl h s row42 rfl rfl (nnArr_size _ _) (by show _ = _; rw [(nx_cls hr hi).1, (nx_cls hr hi).2.1, h0])
    · have h0 := (hnx.resolve_left (fun h9 => of_decide_eq_false hc h9.1)).2
      refine wpIn_skip ?_
      refine hK9 _ _ ?_
      refine c_seq fun K12 hK12 => ?_
      refine c_region ?_
      refine s_load_row 0 h s row25 rfl rfl (mbArr_size _) rfl ?_; intro f h
      refine s_pure h (ru_build_nn1 sttK (h.ev rfl)) rfl ?_; intro f h
      refine s_store_row 3 h s row42 rfl rfl rfl (nnArr_size _ _) (nnArr_size _ _) (nnArr_ones _ _) ?_; intro w1 s
      refine s_nil ?_
      refine hK12 _ _ ?_
      refine wpIn_ret ?_
      exact e_row 3 rfl h s row42 rfl rfl (nnArr_size _ _) (by show _ = _; rw [(nx_cls hr hi).1, (nx_cls hr hi).2.1, h0])
  · skip
    refine c_region ?_
    refine s_load_row 2 h s row23 rfl rfl (by first | exact idArr_size _ | exact bytesF_size _ _) rfl ?_; intro f h
    refine s_pure h (ru_field fld28_0 (h.ev rfl)) rfl ?_; intro f h
    refine s_pure h (ru_field fld25_1 (h.ev rfl)) rfl ?_; intro f h
    refine s_load_at (Has.subL (Has.of_own s 3 rfl) 1 32 (D := idArr n.me.2) (ndArr_id _ _ _ _)) h row23 rfl (by first | exact idArr_size _ | exact bytesF_size _ _) rfl ?_; intro f h
    refine s_pure h (ru_field fld25_1 (h.ev rfl)) rfl ?_; intro f h
    refine s_load_at (Has.subL (Has.of_own s 0 rfl) 1 32 (D := idArr (_)) (mbArr_id _)) h row23 rfl (by first | exact idArr_size _ | exact bytesF_size _ _) rfl ?_; intro f h
    refine s_call h s fnc19 (ret_val (.bool true) (rin_any _ _ _ _) (congrArg Value.bool hi)) rfl rfl ?_; intro f w1 v9 hT hE h s; obtain rfl := hT
    refine s_nil ?_
    refine hK4 _ _ ?_
    refine wpIn_cond_true (h.ev rfl) ?_
    refine c_seq fun K13 hK13 => ?_
    refine c_region ?_
    refine s_load_row 0 h s row25 rfl rfl (mbArr_size _) rfl ?_; intro f h
    refine s_pure h (ru_build_nn2 sttK (h.ev rfl) rfl) rfl ?_; intro f h
    refine s_store_row 1 h s row42 rfl rfl rfl (nnArr_size _ _) (nnArr_size _ _) (nnArr_ones _ _) ?_; intro w1 s
    refine s_nil ?_
    refine hK13 _ _ ?_
    refine wpIn_ret ?_
    refine t_ret ?_
    exact e_row 1 rfl h s row42 rfl rfl (nnArr_size _ _) (by show _ = _; rw [(nx_first hr hi).1, (nx_first hr hi).2.1])

set_option maxHeartbeats 4000000 in
theorem nasks_any (n : Nd) (vs vf : Value) (m : Mb) (x : Id) (w : World) (hRs : RdZ w vs 33 n.sc.length (mbCells n.sc)) (hRf : RdZ w vf 33 n.fg.length (mbCells n.fg)) : Calls Try.prog 3 [.agg (ndArr n.me n.pr vs vf), .agg (mbArr m), idV x].toArray w (Ret w (is (.bool true))) := by
  obtain ⟨r, hme, hpr, hlv, hlf, hl6, hl18⟩ := few_nd hRs hRf
  have hal := al_len m
  refine c_enter Try.func3 rfl Try.ntmps3 rfl [(0, .agg (ndArr n.me n.pr vs vf)), (1, .agg (mbArr m)), (2, idV x)] (by simp) fun f h => ?_
  have s := St.start w
  refine c_seq fun K1 hK1 => ?_
  refine c_region ?_
  refine s_box (ndArr n.me n.pr vs vf) h s rfl rfl rfl ?_; intro f w1 b3 h s
  refine s_box ((mbArr m)) h s rfl rfl rfl ?_; intro f w1 b4 h s
  refine s_box (idArr x) h s rfl rfl rfl ?_; intro f w1 b5 h s
  refine s_pure h (ru_assign (h.ev rfl)) rfl ?_; intro f h
  refine s_nil ?_
  refine hK1 _ _ ?_
  refine c_seq fun K2 hK2 => ?_
  refine c_region ?_
  refine s_load_row 2 h s row28 rfl rfl (ndArr_size _ _ _ _) rfl ?_; intro f h
  refine s_call h s fnc9 (ret_val (.agg (ndArr r.me r.pr (cutV vs (min n.sc.length 6)) (cutV vf (min n.fg.length 18)))) (few_any n vs vf _ (hRs.keep s.ext) (hRf.keep s.ext)) (by rw [hme, hpr])) rfl rfl ?_; intro f w1 v9 hT hE h s; obtain rfl := hT
  refine s_store_row 2 h s row28 rfl rfl rfl (ndArr_size _ _ _ _) (ndArr_size _ _ _ _) (ndArr_ones (rd_one (hlv.keep s.ext)) (rd_one (hlf.keep s.ext))) ?_; intro w1 s
  refine s_nil ?_
  refine hK2 _ _ ?_
  refine c_seq fun K3 hK3 => ?_
  refine c_region ?_
  refine s_load_row 1 h s row25 rfl rfl (mbArr_size _) rfl ?_; intro f h
  refine s_call h s fnc10 (alone_any m _) rfl rfl ?_; rintro f w1 v18 ⟨au, av, rfl, hS⟩ hE h sq; replace s := s.add hS; clear hS
  refine s_pure h (ru_move (h.ev rfl)) rfl ?_; intro f h
  refine s_pure h (ru_extract (h.ev rfl) rfl) rfl ?_; intro f h
  refine s_pure h (ru_extract (h.ev rfl) rfl) rfl ?_; intro f h
  refine s_alloc (ndArr zMb zMb nilV nilV) h s zero28 rfl rfl ?_; intro f w1 b7 h s
  refine s_store_row 0 h s row28 rfl rfl rfl (ndArr_size _ _ _ _) (ndArr_size _ _ _ _) (ndArr_ones (own_one (s.getSl 1 rfl)) (own_one (s.getSl 2 rfl))) ?_; intro w1 s
  refine s_pure h (ru_assign (h.ev rfl)) rfl ?_; intro f h
  refine s_nil ?_
  refine hK3 _ _ ?_
  refine c_seq fun K4 hK4 => ?_
  refine c_region ?_
  refine s_load_row 5 h s row28 rfl rfl (ndArr_size _ _ _ _) rfl ?_; intro f h
  refine s_load_row 3 h s row23 rfl rfl (by first | exact idArr_size _ | exact bytesF_size _ _) rfl ?_; intro f h
  refine s_call h s fnc11 (nnext_any r (cutV vs (min n.sc.length 6)) (cutV vf (min n.fg.length 18)) x _ (hlv.keep s.ext) (hlf.keep s.ext) (by omega) (by omega)) rfl rfl ?_; intro f w1 v9 hT hE h s; obtain rfl := hT
  refine s_pure h (ru_move (h.ev rfl)) rfl ?_; intro f h
  refine s_pure h (ru_extract (h.ev rfl) rfl) rfl ?_; intro f h
  refine s_pure h (ru_extract (h.ev rfl) rfl) rfl ?_; intro f h
  refine s_pure h (ru_extract (h.ev rfl) rfl) rfl ?_; intro f h
  refine s_alloc (mbArr zMb) h s zero25 rfl rfl ?_; intro f w1 b9 h s
  refine s_store_row 0 h s row25 rfl rfl rfl (mbArr_size _) (mbArr_size _) (mbArr_ones _) ?_; intro w1 s
  refine s_pure h (ru_assign (h.ev rfl)) rfl ?_; intro f h
  refine s_pure h (ru_assign (h.ev rfl)) rfl ?_; intro f h
  refine s_nil ?_
  refine hK4 _ _ ?_
  refine c_seq fun K5 hK5 => ?_
  refine c_seq fun K6 hK6 => ?_
  cases k0 : (mayB m : Bool)
  · skip
    refine c_region ?_
    refine s_load_row 5 h s row25 rfl rfl (mbArr_size _) rfl ?_; intro f h
    refine s_call h s fnc12 (ret_val (.bool false) (lmay_any m _) (congrArg Value.bool k0)) rfl rfl ?_; intro f w1 v9 hT hE h s; obtain rfl := hT
    refine s_pure h (ru_move (h.ev rfl)) rfl ?_; intro f h
    refine s_off (b := true) h rfl rfl rfl rfl ?_; intro f h
    refine s_off (b := true) h rfl rfl rfl rfl ?_; intro f h
    refine s_off (b := true) h rfl rfl rfl rfl ?_; intro f h
    refine s_none h rfl rfl rfl rfl ?_; intro f h
    refine s_none h rfl rfl rfl rfl ?_; intro f h
    refine s_none h rfl rfl rfl rfl ?_; intro f h
    refine s_none h rfl rfl rfl rfl ?_; intro f h
    refine s_none h rfl rfl rfl rfl ?_; intro f h
    refine s_none h rfl rfl rfl rfl ?_; intro f h
    refine s_none h rfl rfl rfl rfl ?_; intro f h
    refine s_none h rfl rfl rfl rfl ?_; intro f h
    refine s_off (b := true) h rfl rfl rfl rfl ?_; intro f h
    refine s_pure h (ru_pick_f (h.ev rfl) (h.ev rfl)) rfl ?_; intro f h
    refine s_pure h (ru_move (h.ev rfl)) rfl ?_; intro f h
    refine s_on h rfl rfl rfl ?_
    refine s_load_row 5 h s row25 rfl rfl (mbArr_size _) rfl ?_; intro f h
    refine s_on h rfl rfl rfl ?_
    refine s_call h s fnc12 (ret_val (.bool false) (lmay_any m _) (congrArg Value.bool k0)) rfl rfl ?_; intro f w1 v9 hT hE h s; obtain rfl := hT
    refine s_on h rfl rfl rfl ?_
    refine s_pure h (ru_val (.bool true) (ru_not (h.ev rfl)) rfl) rfl ?_; intro f h
    refine s_on h rfl rfl rfl ?_
    refine s_pure h (ru_move (h.ev rfl)) rfl ?_; intro f h
    refine s_on h rfl rfl rfl ?_
    refine s_pure h (ru_move (h.ev rfl)) rfl ?_; intro f h
    refine s_on h rfl rfl rfl ?_
    refine s_pure h (ru_val (.bool false) (ru_neq (h.ev rfl) (h.ev rfl)) (congrArg Value.bool (decide_eq_false (not_not_intro (al_no k0).2)))) rfl ?_; intro f h
    refine s_on h rfl rfl rfl ?_
    refine s_pure h (ru_pick_t (h.ev rfl) (h.ev rfl)) rfl ?_; intro f h
    refine s_pure h (ru_pick_f (h.ev rfl) (h.ev rfl)) rfl ?_; intro f h
    refine s_pure h (ru_move (h.ev rfl)) rfl ?_; intro f h
    refine s_on h rfl rfl rfl ?_
    refine s_call h s fnc14 (alive_any _) rfl rfl ?_; intro f w1 v9 hT hE h s; obtain rfl := hT
    refine s_on h rfl rfl rfl ?_
    refine s_pure h (ru_val (.bool false) (ru_not (h.ev rfl)) rfl) rfl ?_; intro f h
    refine s_pure h (ru_pick_f (h.ev rfl) (h.ev rfl)) rfl ?_; intro f h
    refine s_nil ?_
    refine hK6 _ _ ?_
    refine wpIn_cond_false (h.ev rfl) ?_
    refine wpIn_skip ?_
    refine hK5 _ _ ?_
    refine c_seq fun K7 hK7 => ?_
    cases hr : (rightN r : Bool)
    · skip
      refine c_region ?_
      refine s_load_row 6 h s row28 rfl rfl (ndArr_size _ _ _ _) rfl ?_; intro f h
      refine s_call h s fnc15 (ret_val (.bool false) (rnright_any r (cutV vs (min n.sc.length 6)) (cutV vf (min n.fg.length 18)) _ (hlv.keep s.ext) (hlf.keep s.ext) (by omega) (by omega)) (congrArg Value.bool hr)) rfl rfl ?_; intro f w1 v9 hT hE h s; obtain rfl := hT
      refine s_pure h (ru_assign (h.ev rfl)) rfl ?_; intro f h
      refine s_nil ?_
      refine hK7 _ _ ?_
      refine c_seq fun K8 hK8 => ?_
      refine c_seq fun K9 hK9 => ?_
      refine c_region ?_
      refine s_load_row 6 h s row28 rfl rfl (ndArr_size _ _ _ _) rfl ?_; intro f h
      refine s_call h s fnc16 (ret_val (.bool false) (nright_any r (cutV vs (min n.sc.length 6)) (cutV vf (min n.fg.length 18)) _ (hlv.keep s.ext) (hlf.keep s.ext) (by omega) (by omega)) (congrArg Value.bool hr)) rfl rfl ?_; intro f w1 v9 hT hE h s; obtain rfl := hT
      refine s_pure h (ru_move (h.ev rfl)) rfl ?_; intro f h
      refine s_pure h (ru_val (.bool false) (ru_neq_bool Try.underlying4 (h.ev rfl) (h.ev rfl)) (rfl)) rfl ?_; intro f h
      refine s_pure h (ru_move (h.ev rfl)) rfl ?_; intro f h
      refine s_on h rfl rfl rfl ?_
      refine s_load_row 6 h s row28 rfl rfl (ndArr_size _ _ _ _) rfl ?_; intro f h
      refine s_on h rfl rfl rfl ?_
      refine s_load_row 4 h s row23 rfl rfl (by first | exact idArr_size _ | exact bytesF_size _ _) rfl ?_; intro f h
      refine s_on h rfl rfl rfl ?_
      refine s_call h s fnc17 (ret_val (.bool false) (nowns_any r (cutV vs (min n.sc.length 6)) (cutV vf (min n.fg.length 18)) x _ (hlv.keep s.ext) (hlf.keep s.ext) (by omega) (by omega)) (congrArg Value.bool (owns_0 hr))) rfl rfl ?_; intro f w1 v9 hT hE h s; obtain rfl := hT
      refine s_on h rfl rfl rfl ?_
      refine s_pure h (ru_move (h.ev rfl)) rfl ?_; intro f h
      refine s_on h rfl rfl rfl ?_
      refine s_pure h (ru_move (h.ev rfl)) rfl ?_; intro f h
      refine s_off (b := true) h rfl rfl rfl rfl ?_; intro f h
      refine s_off (b := true) h rfl rfl rfl rfl ?_; intro f h
      refine s_off (b := true) h rfl rfl rfl rfl ?_; intro f h
      refine s_off (b := true) h rfl rfl rfl rfl ?_; intro f h
      refine s_on h rfl rfl rfl ?_
      refine s_pure h (ru_pick_f (h.ev rfl) (h.ev rfl)) rfl ?_; intro f h
      refine s_on h rfl rfl rfl ?_
      refine s_pure h (ru_move (h.ev rfl)) rfl ?_; intro f h
      refine s_off (b := true) h rfl rfl rfl rfl ?_; intro f h
      refine s_off (b := true) h rfl rfl rfl rfl ?_; intro f h
      refine s_off (b := true) h rfl rfl rfl rfl ?_; intro f h
      refine s_off (b := true) h rfl rfl rfl rfl ?_; intro f h
      refine s_off (b := true) h rfl rfl rfl rfl ?_; intro f h
      refine s_off (b := true) h rfl rfl rfl rfl ?_; intro f h
      refine s_off (b := true) h rfl rfl rfl rfl ?_; intro f h
      refine s_off (b := true) h rfl rfl rfl rfl ?_; intro f h
      refine s_on h rfl rfl rfl ?_
      refine s_pure h (ru_pick_f (h.ev rfl) (h.ev rfl)) rfl ?_; intro f h
      refine s_on h rfl rfl rfl ?_
      refine s_pure h (ru_val (.bool false) (ru_neq_bool Try.underlying4 (h.ev rfl) (h.ev rfl)) (rfl)) rfl ?_; intro f h
      refine s_pure h (ru_pick_f (h.ev rfl) (h.ev rfl)) rfl ?_; intro f h
      refine s_nil ?_
      refine hK9 _ _ ?_
      refine wpIn_cond_false (h.ev rfl) ?_
      refine wpIn_skip ?_
      refine hK8 _ _ ?_
      refine c_seq fun K10 hK10 => ?_
      refine c_seq fun K11 hK11 => ?_
      refine c_region ?_
      refine s_pure h (ru_move (h.ev rfl)) rfl ?_; intro f h
      refine s_pure h (ru_val (.bool true) (ru_not (h.ev rfl)) rfl) rfl ?_; intro f h
      refine s_nil ?_
      refine hK11 _ _ ?_
      refine wpIn_cond_true (h.ev rfl) ?_
      refine c_seq fun K12 hK12 => ?_
      refine c_region ?_
      refine s_pure h (ru_move (h.ev rfl)) rfl ?_; intro f h
      refine s_pure h (ru_val (.bool true) (ru_eql (h.ev rfl) (h.ev rfl)) (congrArg Value.bool (decide_eq_true ((nx_no x hr).2.2)))) rfl ?_; intro f h
      refine s_pure h (ru_move (h.ev rfl)) rfl ?_; intro f h
      refine s_on h rfl rfl rfl ?_
      refine s_pure h (ru_move (h.ev rfl)) rfl ?_; intro f h
      refine s_on h rfl rfl rfl ?_
      refine s_pure h (ru_val (.bool true) (ru_not (h.ev rfl)) (by rw [(nx_no x hr).2.1]; rfl)) rfl ?_; intro f h
      refine s_pure h (ru_pick_t (h.ev rfl) (h.ev rfl)) rfl ?_; intro f h
      refine s_pure h (ru_move (h.ev rfl)) rfl ?_; intro f h
      refine s_on h rfl rfl rfl ?_
      refine s_load_row 0 h s row25 rfl rfl (mbArr_size _) rfl ?_; intro f h
      refine s_on h rfl rfl rfl ?_
      refine s_pure h (ru_build_mb0 sttM) rfl ?_; intro f h
      refine s_on h rfl rfl rfl ?_
      refine s_pure h (ru_val (.bool true) (ru_eqlW (eqM _ _) (by kernel_rfl) (by decide) (h.ev rfl) (h.ev rfl) (decide (nxM r x = zMb)) (mbEq _ _)) (congrArg Value.bool (decide_eq_true ((nx_no x hr).1)))) rfl ?_; intro f h
      refine s_pure h (ru_pick_t (h.ev rfl) (h.ev rfl)) rfl ?_; intro f h
      refine s_pure h (ru_assign (h.ev rfl)) rfl ?_; intro f h
      refine s_nil ?_
      refine hK12 _ _ ?_
      refine wpIn_ret ?_
      refine t_ret ?_
      exact e_tmp rfl h s rfl (rfl)
    · skip
      refine c_region ?_
      refine s_load_row 6 h s row28 rfl rfl (ndArr_size _ _ _ _) rfl ?_; intro f h
      refine s_call h s fnc15 (ret_val (.bool true) (rnright_any r (cutV vs (min n.sc.length 6)) (cutV vf (min n.fg.length 18)) _ (hlv.keep s.ext) (hlf.keep s.ext) (by omega) (by omega)) (congrArg Value.bool hr)) rfl rfl ?_; intro f w1 v9 hT hE h s; obtain rfl := hT
      refine s_pure h (ru_assign (h.ev rfl)) rfl ?_; intro f h
      refine s_nil ?_
      refine hK7 _ _ ?_
      refine c_seq fun K13 hK13 => ?_
      refine c_seq fun K14 hK14 => ?_
      cases q0 : (decide (r.pr = nMb) : Bool)
      · skip
        cases q1 : (inB x r.pr.2 r.me.2 : Bool)
        · skip
          refine c_region ?_
          refine s_load_row 6 h s row28 rfl rfl (ndArr_size _ _ _ _) rfl ?_; intro f h
          refine s_call h s fnc16 (ret_val (.bool true) (nright_any r (cutV vs (min n.sc.length 6)) (cutV vf (min n.fg.length 18)) _ (hlv.keep s.ext) (hlf.keep s.ext) (by omega) (by omega)) (congrArg Value.bool hr)) rfl rfl ?_; intro f w1 v9 hT hE h s; obtain rfl := hT
          refine s_pure h (ru_move (h.ev rfl)) rfl ?_; intro f h
          refine s_pure h (ru_val (.bool false) (ru_neq_bool Try.underlying4 (h.ev rfl) (h.ev rfl)) (rfl)) rfl ?_; intro f h
          refine s_pure h (ru_move (h.ev rfl)) rfl ?_; intro f h
          refine s_on h rfl rfl rfl ?_
          refine s_load_row 6 h s row28 rfl rfl (ndArr_size _ _ _ _) rfl ?_; intro f h
          refine s_on h rfl rfl rfl ?_
          refine s_load_row 4 h s row23 rfl rfl (by first | exact idArr_size _ | exact bytesF_size _ _) rfl ?_; intro f h
          refine s_on h rfl rfl rfl ?_
          refine s_call h s fnc17 (ret_val (.bool false) (nowns_any r (cutV vs (min n.sc.length 6)) (cutV vf (min n.fg.length 18)) x _ (hlv.keep s.ext) (hlf.keep s.ext) (by omega) (by omega)) (congrArg Value.bool ((owns_2 hr q0).trans q1))) rfl rfl ?_; intro f w1 v9 hT hE h s; obtain rfl := hT
          refine s_on h rfl rfl rfl ?_
          refine s_pure h (ru_move (h.ev rfl)) rfl ?_; intro f h
          refine s_on h rfl rfl rfl ?_
          refine s_pure h (ru_move (h.ev rfl)) rfl ?_; intro f h
          refine s_on h rfl rfl rfl ?_
          refine s_pure h (ru_field fld28_1 (h.ev rfl)) rfl ?_; intro f h
          refine s_on h rfl rfl rfl ?_
          refine s_load_at (Has.subL (Has.of_own s 6 rfl) 33 33 (D := mbArr r.pr) (ndArr_pr _ _ _ _)) h row25 rfl (mbArr_size _) rfl ?_; intro f h
          refine s_on h rfl rfl rfl ?_
          refine s_call h s fnc18 (ret_val (.bool false) (rnone_any r.pr _) (congrArg Value.bool q0)) rfl rfl ?_; intro f w1 v9 hT hE h s; obtain rfl := hT
          refine s_on h rfl rfl rfl ?_
          refine s_pure h (ru_val (.bool true) (ru_not (h.ev rfl)) rfl) rfl ?_; intro f h
          refine s_on h rfl rfl rfl ?_
          refine s_pure h (ru_pick_t (h.ev rfl) (h.ev rfl)) rfl ?_; intro f h
          refine s_on h rfl rfl rfl ?_
          refine s_pure h (ru_move (h.ev rfl)) rfl ?_; intro f h
          refine s_on h rfl rfl rfl ?_
          refine s_load_row 4 h s row23 rfl rfl (by first | exact idArr_size _ | exact bytesF_size _ _) rfl ?_; intro f h
          refine s_on h rfl rfl rfl ?_
          refine s_pure h (ru_field fld28_1 (h.ev rfl)) rfl ?_; intro f h
          refine s_on h rfl rfl rfl ?_
          refine s_pure h (ru_field fld25_1 (h.ev rfl)) rfl ?_; intro f h
          refine s_on h rfl rfl rfl ?_
          refine s_load_at (Has.subL (Has.of_own s 6 rfl) 34 32 (D := idArr r.pr.2) (ndArr_pid _ _ _ _)) h row23 rfl (by first | exact idArr_size _ | exact bytesF_size _ _) rfl ?_; intro f h
          refine s_on h rfl rfl rfl ?_
          refine s_pure h (ru_field fld28_0 (h.ev rfl)) rfl ?_; intro f h
          refine s_on h rfl rfl rfl ?_
          refine s_pure h (ru_field fld25_1 (h.ev rfl)) rfl ?_; intro f h
          refine s_on h rfl rfl rfl ?_
          refine s_load_at (Has.subL (Has.of_own s 6 rfl) 1 32 (D := idArr r.me.2) (ndArr_id _ _ _ _)) h row23 rfl (by first | exact idArr_size _ | exact bytesF_size _ _) rfl ?_; intro f h
          refine s_on h rfl rfl rfl ?_
          refine s_call h s fnc19 (ret_val (.bool false) (rin_any _ _ _ _) (congrArg Value.bool q1)) rfl rfl ?_; intro f w1 v9 hT hE h s; obtain rfl := hT
          refine s_on h rfl rfl rfl ?_
          refine s_pure h (ru_pick_t (h.ev rfl) (h.ev rfl)) rfl ?_; intro f h
          refine s_on h rfl rfl rfl ?_
          refine s_pure h (ru_val (.bool false) (ru_neq_bool Try.underlying4 (h.ev rfl) (h.ev rfl)) (rfl)) rfl ?_; intro f h
          refine s_pure h (ru_pick_f (h.ev rfl) (h.ev rfl)) rfl ?_; intro f h
          refine s_nil ?_
          refine hK14 _ _ ?_
          refine wpIn_cond_false (h.ev rfl) ?_
          refine wpIn_skip ?_
          refine hK13 _ _ ?_
          refine c_seq fun K15 hK15 => ?_
          refine c_seq fun K16 hK16 => ?_
          refine c_region ?_
          refine s_pure h (ru_move (h.ev rfl)) rfl ?_; intro f h
          refine s_pure h (ru_val (.bool false) (ru_not (h.ev rfl)) rfl) rfl ?_; intro f h
          refine s_nil ?_
          refine hK16 _ _ ?_
          refine wpIn_cond_false (h.ev rfl) ?_
          refine wpIn_skip ?_
          refine hK15 _ _ ?_
          refine c_seq fun K17 hK17 => ?_
          refine c_region ?_
          refine s_load_row 6 h s row28 rfl rfl (ndArr_size _ _ _ _) rfl ?_; intro f h
          refine s_load_row 4 h s row23 rfl rfl (by first | exact idArr_size _ | exact bytesF_size _ _) rfl ?_; intro f h
          refine s_call h s fnc20 (rnext9_any r (cutV vs (min n.sc.length 6)) (cutV vf (min n.fg.length 18)) x _ (hlv.keep s.ext) (hlf.keep s.ext) (by omega) (by omega) hr) rfl rfl ?_; intro f w1 v9 hT hE h s; obtain rfl := hT
          refine s_alloc (nnArr zMb false) h s zero42 rfl rfl ?_; intro f w1 b13 h s
          refine s_store_row 0 h s row42 rfl rfl rfl (nnArr_size _ _) (nnArr_size _ _) (nnArr_ones _ _) ?_; intro w1 s
          refine s_nil ?_
          refine hK17 _ _ ?_
          refine c_seq fun K18 hK18 => ?_
          refine c_region ?_
          refine s_pure h (ru_move (h.ev rfl)) rfl ?_; intro f h
          refine s_pure h (ru_val (.bool true) (ru_eql (h.ev rfl) (h.ev rfl)) (congrArg Value.bool (decide_eq_true (by unfold nxE; rw [hr]; rfl)))) rfl ?_; intro f h
          refine s_pure h (ru_move (h.ev rfl)) rfl ?_; intro f h
          refine s_on h rfl rfl rfl ?_
          refine s_load_row 1 h s row25 rfl rfl (mbArr_size _) rfl ?_; intro f h
          refine s_on h rfl rfl rfl ?_
          refine s_pure h (ru_field fld42_0 (h.ev rfl)) rfl ?_; intro f h
          refine s_on h rfl rfl rfl ?_
          refine s_load_at (Has.subL (Has.of_own s 0 rfl) 0 33 (D := mbArr _) (nnArr_m _ _)) h row25 rfl (mbArr_size _) rfl ?_; intro f h
          refine s_on h rfl rfl rfl ?_
          refine s_pure h (ru_val (.bool true) (ru_eqlW (eqM _ _) (by kernel_rfl) (by decide) (h.ev rfl) (h.ev rfl) (decide (nxM r x = nxM r x)) (mbEq _ _)) (congrArg Value.bool (decide_eq_true (rfl)))) rfl ?_; intro f h
          refine s_pure h (ru_pick_t (h.ev rfl) (h.ev rfl)) rfl ?_; intro f h
          refine s_pure h (ru_move (h.ev rfl)) rfl ?_; intro f h
          refine s_on h rfl rfl rfl ?_
          refine s_pure h (ru_move (h.ev rfl)) rfl ?_; intro f h
          refine s_on h rfl rfl rfl ?_
          refine s_pure h (ru_field fld42_1 (h.ev rfl)) rfl ?_; intro f h
          refine s_on h rfl rfl rfl ?_
          refine s_load_at1 (cell_of_has (Has.of_own s 0 rfl) 33 (nnArr_b _ _)) h one4 rfl rfl ?_; intro f h
          refine s_on h rfl rfl rfl ?_
          refine s_pure h (ru_val (.bool true) (ru_eql_bool Try.underlying4 (h.ev rfl) (h.ev rfl)) (by simp)) rfl ?_; intro f h
          refine s_pure h (ru_pick_t (h.ev rfl) (h.ev rfl)) rfl ?_; intro f h
          refine s_pure h (ru_assign (h.ev rfl)) rfl ?_; intro f h
          refine s_nil ?_
          refine hK18 _ _ ?_
          refine wpIn_ret ?_
          exact e_tmp rfl h s rfl (rfl)
        · skip
          refine c_region ?_
          refine s_load_row 6 h s row28 rfl rfl (ndArr_size _ _ _ _) rfl ?_; intro f h
          refine s_call h s fnc16 (ret_val (.bool true) (nright_any r (cutV vs (min n.sc.length 6)) (cutV vf (min n.fg.length 18)) _ (hlv.keep s.ext) (hlf.keep s.ext) (by omega) (by omega)) (congrArg Value.bool hr)) rfl rfl ?_; intro f w1 v9 hT hE h s; obtain rfl := hT
          refine s_pure h (ru_move (h.ev rfl)) rfl ?_; intro f h
          refine s_pure h (ru_val (.bool false) (ru_neq_bool Try.underlying4 (h.ev rfl) (h.ev rfl)) (rfl)) rfl ?_; intro f h
          refine s_pure h (ru_move (h.ev rfl)) rfl ?_; intro f h
          refine s_on h rfl rfl rfl ?_
          refine s_load_row 6 h s row28 rfl rfl (ndArr_size _ _ _ _) rfl ?_; intro f h
          refine s_on h rfl rfl rfl ?_
          refine s_load_row 4 h s row23 rfl rfl (by first | exact idArr_size _ | exact bytesF_size _ _) rfl ?_; intro f h
          refine s_on h rfl rfl rfl ?_
          refine s_call h s fnc17 (ret_val (.bool true) (nowns_any r (cutV vs (min n.sc.length 6)) (cutV vf (min n.fg.length 18)) x _ (hlv.keep s.ext) (hlf.keep s.ext) (by omega) (by omega)) (congrArg Value.bool ((owns_2 hr q0).trans q1))) rfl rfl ?_; intro f w1 v9 hT hE h s; obtain rfl := hT
          refine s_on h rfl rfl rfl ?_
          refine s_pure h (ru_move (h.ev rfl)) rfl ?_; intro f h
          refine s_on h rfl rfl rfl ?_
          refine s_pure h (ru_move (h.ev rfl)) rfl ?_; intro f h
          refine s_on h rfl rfl rfl ?_
          refine s_pure h (ru_field fld28_1 (h.ev rfl)) rfl ?_; intro f h
          refine s_on h rfl rfl rfl ?_
          refine s_load_at (Has.subL (Has.of_own s 6 rfl) 33 33 (D := mbArr r.pr) (ndArr_pr _ _ _ _)) h row25 rfl (mbArr_size _) rfl ?_; intro f h
          refine s_on h rfl rfl rfl ?_
          refine s_call h s fnc18 (ret_val (.bool false) (rnone_any r.pr _) (congrArg Value.bool q0)) rfl rfl ?_; intro f w1 v9 hT hE h s; obtain rfl := hT
          refine s_on h rfl rfl rfl ?_
          refine s_pure h (ru_val (.bool true) (ru_not (h.ev rfl)) rfl) rfl ?_; intro f h
          refine s_on h rfl rfl rfl ?_
          refine s_pure h (ru_pick_t (h.ev rfl) (h.ev rfl)) rfl ?_; intro f h
          refine s_on h rfl rfl rfl ?_
          refine s_pure h (ru_move (h.ev rfl)) rfl ?_; intro f h
          refine s_on h rfl rfl rfl ?_
          refine s_load_row 4 h s row23 rfl rfl (by first | exact idArr_size _ | exact bytesF_size _ _) rfl ?_; intro f h
          refine s_on h rfl rfl rfl ?_
          refine s_pure h (ru_field fld28_1 (h.ev rfl)) rfl ?_; intro f h
          refine s_on h rfl rfl rfl ?_
          refine s_pure h (ru_field fld25_1 (h.ev rfl)) rfl ?_; intro f h
          refine s_on h rfl rfl rfl ?_
          refine s_load_at (Has.subL (Has.of_own s 6 rfl) 34 32 (D := idArr r.pr.2) (ndArr_pid _ _ _ _)) h row23 rfl (by first | exact idArr_size _ | exact bytesF_size _ _) rfl ?_; intro f h
          refine s_on h rfl rfl rfl ?_
          refine s_pure h (ru_field fld28_0 (h.ev rfl)) rfl ?_; intro f h
          refine s_on h rfl rfl rfl ?_
          refine s_pure h (ru_field fld25_1 (h.ev rfl)) rfl ?_; intro f h
          refine s_on h rfl rfl rfl ?_
          refine s_load_at (Has.subL (Has.of_own s 6 rfl) 1 32 (D := idArr r.me.2) (ndArr_id _ _ _ _)) h row23 rfl (by first | exact idArr_size _ | exact bytesF_size _ _) rfl ?_; intro f h
          refine s_on h rfl rfl rfl ?_
          refine s_call h s fnc19 (ret_val (.bool true) (rin_any _ _ _ _) (congrArg Value.bool q1)) rfl rfl ?_; intro f w1 v9 hT hE h s; obtain rfl := hT
          refine s_on h rfl rfl rfl ?_
          refine s_pure h (ru_pick_t (h.ev rfl) (h.ev rfl)) rfl ?_; intro f h
          refine s_on h rfl rfl rfl ?_
          refine s_pure h (ru_val (.bool false) (ru_neq_bool Try.underlying4 (h.ev rfl) (h.ev rfl)) (rfl)) rfl ?_; intro f h
          refine s_pure h (ru_pick_f (h.ev rfl) (h.ev rfl)) rfl ?_; intro f h
          refine s_nil ?_
          refine hK14 _ _ ?_
          refine wpIn_cond_false (h.ev rfl) ?_
          refine wpIn_skip ?_
          refine hK13 _ _ ?_
          refine c_seq fun K19 hK19 => ?_
          refine c_seq fun K20 hK20 => ?_
          refine c_region ?_
          refine s_pure h (ru_move (h.ev rfl)) rfl ?_; intro f h
          refine s_pure h (ru_val (.bool false) (ru_not (h.ev rfl)) rfl) rfl ?_; intro f h
          refine s_nil ?_
          refine hK20 _ _ ?_
          refine wpIn_cond_false (h.ev rfl) ?_
          refine wpIn_skip ?_
          refine hK19 _ _ ?_
          refine c_seq fun K21 hK21 => ?_
          refine c_region ?_
          refine s_load_row 6 h s row28 rfl rfl (ndArr_size _ _ _ _) rfl ?_; intro f h
          refine s_load_row 4 h s row23 rfl rfl (by first | exact idArr_size _ | exact bytesF_size _ _) rfl ?_; intro f h
          refine s_call h s fnc20 (rnext9_any r (cutV vs (min n.sc.length 6)) (cutV vf (min n.fg.length 18)) x _ (hlv.keep s.ext) (hlf.keep s.ext) (by omega) (by omega) hr) rfl rfl ?_; intro f w1 v9 hT hE h s; obtain rfl := hT
          refine s_alloc (nnArr zMb false) h s zero42 rfl rfl ?_; intro f w1 b13 h s
          refine s_store_row 0 h s row42 rfl rfl rfl (nnArr_size _ _) (nnArr_size _ _) (nnArr_ones _ _) ?_; intro w1 s
          refine s_nil ?_
          refine hK21 _ _ ?_
          refine c_seq fun K22 hK22 => ?_
          refine c_region ?_
          refine s_pure h (ru_move (h.ev rfl)) rfl ?_; intro f h
          refine s_pure h (ru_val (.bool true) (ru_eql (h.ev rfl) (h.ev rfl)) (congrArg Value.bool (decide_eq_true (by unfold nxE; rw [hr]; rfl)))) rfl ?_; intro f h
          refine s_pure h (ru_move (h.ev rfl)) rfl ?_; intro f h
          refine s_on h rfl rfl rfl ?_
          refine s_load_row 1 h s row25 rfl rfl (mbArr_size _) rfl ?_; intro f h
          refine s_on h rfl rfl rfl ?_
          refine s_pure h (ru_field fld42_0 (h.ev rfl)) rfl ?_; intro f h
          refine s_on h rfl rfl rfl ?_
          refine s_load_at (Has.subL (Has.of_own s 0 rfl) 0 33 (D := mbArr _) (nnArr_m _ _)) h row25 rfl (mbArr_size _) rfl ?_; intro f h
          refine s_on h rfl rfl rfl ?_
          refine s_pure h (ru_val (.bool true) (ru_eqlW (eqM _ _) (by kernel_rfl) (by decide) (h.ev rfl) (h.ev rfl) (decide (nxM r x = nxM r x)) (mbEq _ _)) (congrArg Value.bool (decide_eq_true (rfl)))) rfl ?_; intro f h
          refine s_pure h (ru_pick_t (h.ev rfl) (h.ev rfl)) rfl ?_; intro f h
          refine s_pure h (ru_move (h.ev rfl)) rfl ?_; intro f h
          refine s_on h rfl rfl rfl ?_
          refine s_pure h (ru_move (h.ev rfl)) rfl ?_; intro f h
          refine s_on h rfl rfl rfl ?_
          refine s_pure h (ru_field fld42_1 (h.ev rfl)) rfl ?_; intro f h
          refine s_on h rfl rfl rfl ?_
          refine s_load_at1 (cell_of_has (Has.of_own s 0 rfl) 33 (nnArr_b _ _)) h one4 rfl rfl ?_; intro f h
          refine s_on h rfl rfl rfl ?_
          refine s_pure h (ru_val (.bool true) (ru_eql_bool Try.underlying4 (h.ev rfl) (h.ev rfl)) (by simp)) rfl ?_; intro f h
          refine s_pure h (ru_pick_t (h.ev rfl) (h.ev rfl)) rfl ?_; intro f h
          refine s_pure h (ru_assign (h.ev rfl)) rfl ?_; intro f h
          refine s_nil ?_
          refine hK22 _ _ ?_
          refine wpIn_ret ?_
          exact e_tmp rfl h s rfl (rfl)
      · skip
        refine c_region ?_
        refine s_load_row 6 h s row28 rfl rfl (ndArr_size _ _ _ _) rfl ?_; intro f h
        refine s_call h s fnc16 (ret_val (.bool true) (nright_any r (cutV vs (min n.sc.length 6)) (cutV vf (min n.fg.length 18)) _ (hlv.keep s.ext) (hlf.keep s.ext) (by omega) (by omega)) (congrArg Value.bool hr)) rfl rfl ?_; intro f w1 v9 hT hE h s; obtain rfl := hT
        refine s_pure h (ru_move (h.ev rfl)) rfl ?_; intro f h
        refine s_pure h (ru_val (.bool false) (ru_neq_bool Try.underlying4 (h.ev rfl) (h.ev rfl)) (rfl)) rfl ?_; intro f h
        refine s_pure h (ru_move (h.ev rfl)) rfl ?_; intro f h
        refine s_on h rfl rfl rfl ?_
        refine s_load_row 6 h s row28 rfl rfl (ndArr_size _ _ _ _) rfl ?_; intro f h
        refine s_on h rfl rfl rfl ?_
        refine s_load_row 4 h s row23 rfl rfl (by first | exact idArr_size _ | exact bytesF_size _ _) rfl ?_; intro f h
        refine s_on h rfl rfl rfl ?_
        refine s_call h s fnc17 (ret_val (.bool false) (nowns_any r (cutV vs (min n.sc.length 6)) (cutV vf (min n.fg.length 18)) x _ (hlv.keep s.ext) (hlf.keep s.ext) (by omega) (by omega)) (congrArg Value.bool (owns_1 q0))) rfl rfl ?_; intro f w1 v9 hT hE h s; obtain rfl := hT
        refine s_on h rfl rfl rfl ?_
        refine s_pure h (ru_move (h.ev rfl)) rfl ?_; intro f h
        refine s_on h rfl rfl rfl ?_
        refine s_pure h (ru_move (h.ev rfl)) rfl ?_; intro f h
        refine s_on h rfl rfl rfl ?_
        refine s_pure h (ru_field fld28_1 (h.ev rfl)) rfl ?_; intro f h
        refine s_on h rfl rfl rfl ?_
        refine s_load_at (Has.subL (Has.of_own s 6 rfl) 33 33 (D := mbArr r.pr) (ndArr_pr _ _ _ _)) h row25 rfl (mbArr_size _) rfl ?_; intro f h
        refine s_on h rfl rfl rfl ?_
        refine s_call h s fnc18 (ret_val (.bool true) (rnone_any r.pr _) (congrArg Value.bool q0)) rfl rfl ?_; intro f w1 v9 hT hE h s; obtain rfl := hT
        refine s_on h rfl rfl rfl ?_
        refine s_pure h (ru_val (.bool false) (ru_not (h.ev rfl)) rfl) rfl ?_; intro f h
        refine s_on h rfl rfl rfl ?_
        refine s_pure h (ru_pick_t (h.ev rfl) (h.ev rfl)) rfl ?_; intro f h
        refine s_on h rfl rfl rfl ?_
        refine s_pure h (ru_move (h.ev rfl)) rfl ?_; intro f h
        refine s_off (b := true) h rfl rfl rfl rfl ?_; intro f h
        refine s_off (b := true) h rfl rfl rfl rfl ?_; intro f h
        refine s_off (b := true) h rfl rfl rfl rfl ?_; intro f h
        refine s_off (b := true) h rfl rfl rfl rfl ?_; intro f h
        refine s_off (b := true) h rfl rfl rfl rfl ?_; intro f h
        refine s_off (b := true) h rfl rfl rfl rfl ?_; intro f h
        refine s_off (b := true) h rfl rfl rfl rfl ?_; intro f h
        refine s_off (b := true) h rfl rfl rfl rfl ?_; intro f h
        refine s_on h rfl rfl rfl ?_
        refine s_pure h (ru_pick_f (h.ev rfl) (h.ev rfl)) rfl ?_; intro f h
        refine s_on h rfl rfl rfl ?_
        refine s_pure h (ru_val (.bool false) (ru_neq_bool Try.underlying4 (h.ev rfl) (h.ev rfl)) (rfl)) rfl ?_; intro f h
        refine s_pure h (ru_pick_f (h.ev rfl) (h.ev rfl)) rfl ?_; intro f h
        refine s_nil ?_
        refine hK14 _ _ ?_
        refine wpIn_cond_false (h.ev rfl) ?_
        refine wpIn_skip ?_
        refine hK13 _ _ ?_
        refine c_seq fun K23 hK23 => ?_
        refine c_seq fun K24 hK24 => ?_
        refine c_region ?_
        refine s_pure h (ru_move (h.ev rfl)) rfl ?_; intro f h
        refine s_pure h (ru_val (.bool false) (ru_not (h.ev rfl)) rfl) rfl ?_; intro f h
        refine s_nil ?_
        refine hK24 _ _ ?_
        refine wpIn_cond_false (h.ev rfl) ?_
        refine wpIn_skip ?_
        refine hK23 _ _ ?_
        refine c_seq fun K25 hK25 => ?_
        refine c_region ?_
        refine s_load_row 6 h s row28 rfl rfl (ndArr_size _ _ _ _) rfl ?_; intro f h
        refine s_load_row 4 h s row23 rfl rfl (by first | exact idArr_size _ | exact bytesF_size _ _) rfl ?_; intro f h
        refine s_call h s fnc20 (rnext9_any r (cutV vs (min n.sc.length 6)) (cutV vf (min n.fg.length 18)) x _ (hlv.keep s.ext) (hlf.keep s.ext) (by omega) (by omega) hr) rfl rfl ?_; intro f w1 v9 hT hE h s; obtain rfl := hT
        refine s_alloc (nnArr zMb false) h s zero42 rfl rfl ?_; intro f w1 b13 h s
        refine s_store_row 0 h s row42 rfl rfl rfl (nnArr_size _ _) (nnArr_size _ _) (nnArr_ones _ _) ?_; intro w1 s
        refine s_nil ?_
        refine hK25 _ _ ?_
        refine c_seq fun K26 hK26 => ?_
        refine c_region ?_
        refine s_pure h (ru_move (h.ev rfl)) rfl ?_; intro f h
        refine s_pure h (ru_val (.bool true) (ru_eql (h.ev rfl) (h.ev rfl)) (congrArg Value.bool (decide_eq_true (by unfold nxE; rw [hr]; rfl)))) rfl ?_; intro f h
        refine s_pure h (ru_move (h.ev rfl)) rfl ?_; intro f h
        refine s_on h rfl rfl rfl ?_
        refine s_load_row 1 h s row25 rfl rfl (mbArr_size _) rfl ?_; intro f h
        refine s_on h rfl rfl rfl ?_
        refine s_pure h (ru_field fld42_0 (h.ev rfl)) rfl ?_; intro f h
        refine s_on h rfl rfl rfl ?_
        refine s_load_at (Has.subL (Has.of_own s 0 rfl) 0 33 (D := mbArr _) (nnArr_m _ _)) h row25 rfl (mbArr_size _) rfl ?_; intro f h
        refine s_on h rfl rfl rfl ?_
        refine s_pure h (ru_val (.bool true) (ru_eqlW (eqM _ _) (by kernel_rfl) (by decide) (h.ev rfl) (h.ev rfl) (decide (nxM r x = nxM r x)) (mbEq _ _)) (congrArg Value.bool (decide_eq_true (rfl)))) rfl ?_; intro f h
        refine s_pure h (ru_pick_t (h.ev rfl) (h.ev rfl)) rfl ?_; intro f h
        refine s_pure h (ru_move (h.ev rfl)) rfl ?_; intro f h
        refine s_on h rfl rfl rfl ?_
        refine s_pure h (ru_move (h.ev rfl)) rfl ?_; intro f h
        refine s_on h rfl rfl rfl ?_
        refine s_pure h (ru_field fld42_1 (h.ev rfl)) rfl ?_; intro f h
        refine s_on h rfl rfl rfl ?_
        refine s_load_at1 (cell_of_has (Has.of_own s 0 rfl) 33 (nnArr_b _ _)) h one4 rfl rfl ?_; intro f h
        refine s_on h rfl rfl rfl ?_
        refine s_pure h (ru_val (.bool true) (ru_eql_bool Try.underlying4 (h.ev rfl) (h.ev rfl)) (by simp)) rfl ?_; intro f h
        refine s_pure h (ru_pick_t (h.ev rfl) (h.ev rfl)) rfl ?_; intro f h
        refine s_pure h (ru_assign (h.ev rfl)) rfl ?_; intro f h
        refine s_nil ?_
        refine hK26 _ _ ?_
        refine wpIn_ret ?_
        exact e_tmp rfl h s rfl (rfl)
  · skip
    refine c_region ?_
    refine s_load_row 5 h s row25 rfl rfl (mbArr_size _) rfl ?_; intro f h
    refine s_call h s fnc12 (ret_val (.bool true) (lmay_any m _) (congrArg Value.bool k0)) rfl rfl ?_; intro f w1 v9 hT hE h s; obtain rfl := hT
    refine s_pure h (ru_move (h.ev rfl)) rfl ?_; intro f h
    refine s_on h rfl rfl rfl ?_
    refine s_pure h (ru_move (h.ev rfl)) rfl ?_; intro f h
    refine s_on h rfl rfl rfl ?_
    refine s_pure h (ru_val (.bool false) (ru_neq (h.ev rfl) (h.ev rfl)) (congrArg Value.bool (decide_eq_false (not_not_intro (al_ok k0).2)))) rfl ?_; intro f h
    refine s_on h rfl rfl rfl ?_
    refine s_pure h (ru_move (h.ev rfl)) rfl ?_; intro f h
    refine s_on h rfl rfl rfl ?_
    refine s_load_row 1 h s row28 rfl rfl (ndArr_size _ _ _ _) rfl ?_; intro f h
    refine s_on h rfl rfl rfl ?_
    refine s_load_row 5 h s row25 rfl rfl (mbArr_size _) rfl ?_; intro f h
    refine s_on h rfl rfl rfl ?_
    refine s_pure h (ru_build_mb1 sttM rfl) rfl ?_; intro f h
    refine s_on h rfl rfl rfl ?_
    refine s_load_row 5 h s row25 rfl rfl (mbArr_size _) rfl ?_; intro f h
    refine s_on h rfl rfl rfl ?_
    refine s_bslice (vs := [.agg (mbArr m)]) [.tmp 37] h s Try.underlying26 elm25 rfl rfl (mb_sz _) rfl rfl rfl ?_; intro f w1 v38 h s
    replace s := s.resl (m := [m].length) (ys := mbCells [m]) 0 rfl rfl (by rw [one_mb, mbCells_one])
    refine s_on h rfl rfl rfl ?_
    refine s_pure h (ru_build_nd3 sttN (rd_size (RdZ.of_own (s.getSl 0 rfl))) (rd_cells (RdZ.of_own (s.getSl 0 rfl))) (h.ev rfl) (h.ev rfl) (h.ev rfl)) rfl ?_; intro f h
    refine s_on h rfl rfl rfl ?_
    refine s_call h s fnc13 (ret_val (.bool true) (like_any (alN m) ⟨m, nMb, [m], []⟩ au av v38 nilV _ (RdZ.of_own (s.getSl 3 rfl)) (RdZ.of_own (s.getSl 4 rfl)) (RdZ.of_own (s.getSl 0 rfl)) (rd_nilM _) (by omega) (by omega) (by show 1 ≤ 1000; omega) (by show 0 ≤ 1000; omega)) (congrArg Value.bool (lkN_eq (al_ok k0).1))) rfl rfl ?_; intro f w1 v9 hT hE h s; obtain rfl := hT
    refine s_on h rfl rfl rfl ?_
    refine s_pure h (ru_val (.bool false) (ru_not (h.ev rfl)) rfl) rfl ?_; intro f h
    refine s_on h rfl rfl rfl ?_
    refine s_pure h (ru_pick_f (h.ev rfl) (h.ev rfl)) rfl ?_; intro f h
    refine s_pure h (ru_pick_t (h.ev rfl) (h.ev rfl)) rfl ?_; intro f h
    refine s_pure h (ru_move (h.ev rfl)) rfl ?_; intro f h
    refine s_on h rfl rfl rfl ?_
    refine s_load_row 6 h s row25 rfl rfl (mbArr_size _) rfl ?_; intro f h
    refine s_on h rfl rfl rfl ?_
    refine s_call h s fnc12 (ret_val (.bool true) (lmay_any m _) (congrArg Value.bool k0)) rfl rfl ?_; intro f w1 v9 hT hE h s; obtain rfl := hT
    refine s_on h rfl rfl rfl ?_
    refine s_pure h (ru_val (.bool false) (ru_not (h.ev rfl)) rfl) rfl ?_; intro f h
    refine s_on h rfl rfl rfl ?_
    refine s_pure h (ru_move (h.ev rfl)) rfl ?_; intro f h
    refine s_off (b := true) h rfl rfl rfl rfl ?_; intro f h
    refine s_off (b := true) h rfl rfl rfl rfl ?_; intro f h
    refine s_on h rfl rfl rfl ?_
    refine s_pure h (ru_pick_f (h.ev rfl) (h.ev rfl)) rfl ?_; intro f h
    refine s_pure h (ru_pick_f (h.ev rfl) (h.ev rfl)) rfl ?_; intro f h
    refine s_pure h (ru_move (h.ev rfl)) rfl ?_; intro f h
    refine s_on h rfl rfl rfl ?_
    refine s_call h s fnc14 (alive_any _) rfl rfl ?_; intro f w1 v9 hT hE h s; obtain rfl := hT
    refine s_on h rfl rfl rfl ?_
    refine s_pure h (ru_val (.bool false) (ru_not (h.ev rfl)) rfl) rfl ?_; intro f h
    refine s_pure h (ru_pick_f (h.ev rfl) (h.ev rfl)) rfl ?_; intro f h
    refine s_nil ?_
    refine hK6 _ _ ?_
    refine wpIn_cond_false (h.ev rfl) ?_
    refine wpIn_skip ?_
    refine hK5 _ _ ?_
    refine c_seq fun K27 hK27 => ?_
    cases hr : (rightN r : Bool)
    · skip
      refine c_region ?_
      refine s_load_row 7 h s row28 rfl rfl (ndArr_size _ _ _ _) rfl ?_; intro f h
      refine s_call h s fnc15 (ret_val (.bool false) (rnright_any r (cutV vs (min n.sc.length 6)) (cutV vf (min n.fg.length 18)) _ (hlv.keep s.ext) (hlf.keep s.ext) (by omega) (by omega)) (congrArg Value.bool hr)) rfl rfl ?_; intro f w1 v9 hT hE h s; obtain rfl := hT
      refine s_pure h (ru_assign (h.ev rfl)) rfl ?_; intro f h
      refine s_nil ?_
      refine hK27 _ _ ?_
      refine c_seq fun K28 hK28 => ?_
      refine c_seq fun K29 hK29 => ?_
      refine c_region ?_
      refine s_load_row 7 h s row28 rfl rfl (ndArr_size _ _ _ _) rfl ?_; intro f h
      refine s_call h s fnc16 (ret_val (.bool false) (nright_any r (cutV vs (min n.sc.length 6)) (cutV vf (min n.fg.length 18)) _ (hlv.keep s.ext) (hlf.keep s.ext) (by omega) (by omega)) (congrArg Value.bool hr)) rfl rfl ?_; intro f w1 v9 hT hE h s; obtain rfl := hT
      refine s_pure h (ru_move (h.ev rfl)) rfl ?_; intro f h
      refine s_pure h (ru_val (.bool false) (ru_neq_bool Try.underlying4 (h.ev rfl) (h.ev rfl)) (rfl)) rfl ?_; intro f h
      refine s_pure h (ru_move (h.ev rfl)) rfl ?_; intro f h
      refine s_on h rfl rfl rfl ?_
      refine s_load_row 7 h s row28 rfl rfl (ndArr_size _ _ _ _) rfl ?_; intro f h
      refine s_on h rfl rfl rfl ?_
      refine s_load_row 5 h s row23 rfl rfl (by first | exact idArr_size _ | exact bytesF_size _ _) rfl ?_; intro f h
      refine s_on h rfl rfl rfl ?_
      refine s_call h s fnc17 (ret_val (.bool false) (nowns_any r (cutV vs (min n.sc.length 6)) (cutV vf (min n.fg.length 18)) x _ (hlv.keep s.ext) (hlf.keep s.ext) (by omega) (by omega)) (congrArg Value.bool (owns_0 hr))) rfl rfl ?_; intro f w1 v9 hT hE h s; obtain rfl := hT
      refine s_on h rfl rfl rfl ?_
      refine s_pure h (ru_move (h.ev rfl)) rfl ?_; intro f h
      refine s_on h rfl rfl rfl ?_
      refine s_pure h (ru_move (h.ev rfl)) rfl ?_; intro f h
      refine s_off (b := true) h rfl rfl rfl rfl ?_; intro f h
      refine s_off (b := true) h rfl rfl rfl rfl ?_; intro f h
      refine s_off (b := true) h rfl rfl rfl rfl ?_; intro f h
      refine s_off (b := true) h rfl rfl rfl rfl ?_; intro f h
      refine s_on h rfl rfl rfl ?_
      refine s_pure h (ru_pick_f (h.ev rfl) (h.ev rfl)) rfl ?_; intro f h
      refine s_on h rfl rfl rfl ?_
      refine s_pure h (ru_move (h.ev rfl)) rfl ?_; intro f h
      refine s_off (b := true) h rfl rfl rfl rfl ?_; intro f h
      refine s_off (b := true) h rfl rfl rfl rfl ?_; intro f h
      refine s_off (b := true) h rfl rfl rfl rfl ?_; intro f h
      refine s_off (b := true) h rfl rfl rfl rfl ?_; intro f h
      refine s_off (b := true) h rfl rfl rfl rfl ?_; intro f h
      refine s_off (b := true) h rfl rfl rfl rfl ?_; intro f h
      refine s_off (b := true) h rfl rfl rfl rfl ?_; intro f h
      refine s_off (b := true) h rfl rfl rfl rfl ?_; intro f h
      refine s_on h rfl rfl rfl ?_
      refine s_pure h (ru_pick_f (h.ev rfl) (h.ev rfl)) rfl ?_; intro f h
      refine s_on h rfl rfl rfl ?_
      refine s_pure h (ru_val (.bool false) (ru_neq_bool Try.underlying4 (h.ev rfl) (h.ev rfl)) (rfl)) rfl ?_; intro f h
      refine s_pure h (ru_pick_f (h.ev rfl) (h.ev rfl)) rfl ?_; intro f h
      refine s_nil ?_
      refine hK29 _ _ ?_
      refine wpIn_cond_false (h.ev rfl) ?_
      refine wpIn_skip ?_
      refine hK28 _ _ ?_
      refine c_seq fun K30 hK30 => ?_
      refine c_seq fun K31 hK31 => ?_
      refine c_region ?_
      refine s_pure h (ru_move (h.ev rfl)) rfl ?_; intro f h
      refine s_pure h (ru_val (.bool true) (ru_not (h.ev rfl)) rfl) rfl ?_; intro f h
      refine s_nil ?_
      refine hK31 _ _ ?_
      refine wpIn_cond_true (h.ev rfl) ?_
      refine c_seq fun K32 hK32 => ?_
      refine c_region ?_
      refine s_pure h (ru_move (h.ev rfl)) rfl ?_; intro f h
      refine s_pure h (ru_val (.bool true) (ru_eql (h.ev rfl) (h.ev rfl)) (congrArg Value.bool (decide_eq_true ((nx_no x hr).2.2)))) rfl ?_; intro f h
      refine s_pure h (ru_move (h.ev rfl)) rfl ?_; intro f h
      refine s_on h rfl rfl rfl ?_
      refine s_pure h (ru_move (h.ev rfl)) rfl ?_; intro f h
      refine s_on h rfl rfl rfl ?_
      refine s_pure h (ru_val (.bool true) (ru_not (h.ev rfl)) (by rw [(nx_no x hr).2.1]; rfl)) rfl ?_; intro f h
      refine s_pure h (ru_pick_t (h.ev rfl) (h.ev rfl)) rfl ?_; intro f h
      refine s_pure h (ru_move (h.ev rfl)) rfl ?_; intro f h
      refine s_on h rfl rfl rfl ?_
      refine s_load_row 1 h s row25 rfl rfl (mbArr_size _) rfl ?_; intro f h
      refine s_on h rfl rfl rfl ?_
      refine s_pure h (ru_build_mb0 sttM) rfl ?_; intro f h
      refine s_on h rfl rfl rfl ?_
      refine s_pure h (ru_val (.bool true) (ru_eqlW (eqM _ _) (by kernel_rfl) (by decide) (h.ev rfl) (h.ev rfl) (decide (nxM r x = zMb)) (mbEq _ _)) (congrArg Value.bool (decide_eq_true ((nx_no x hr).1)))) rfl ?_; intro f h
      refine s_pure h (ru_pick_t (h.ev rfl) (h.ev rfl)) rfl ?_; intro f h
      refine s_pure h (ru_assign (h.ev rfl)) rfl ?_; intro f h
      refine s_nil ?_
      refine hK32 _ _ ?_
      refine wpIn_ret ?_
      refine t_ret ?_
      exact e_tmp rfl h s rfl (rfl)
    · skip
      refine c_region ?_
      refine s_load_row 7 h s row28 rfl rfl (ndArr_size _ _ _ _) rfl ?_; intro f h
      refine s_call h s fnc15 (ret_val (.bool true) (rnright_any r (cutV vs (min n.sc.length 6)) (cutV vf (min n.fg.length 18)) _ (hlv.keep s.ext) (hlf.keep s.ext) (by omega) (by omega)) (congrArg Value.bool hr)) rfl rfl ?_; intro f w1 v9 hT hE h s; obtain rfl := hT
      refine s_pure h (ru_assign (h.ev rfl)) rfl ?_; intro f h
      refine s_nil ?_
      refine hK27 _ _ ?_
      refine c_seq fun K33 hK33 => ?_
      refine c_seq fun K34 hK34 => ?_
      cases q0 : (decide (r.pr = nMb) : Bool)
      · skip
        cases q1 : (inB x r.pr.2 r.me.2 : Bool)
        · skip
          refine c_region ?_
          refine s_load_row 7 h s row28 rfl rfl (ndArr_size _ _ _ _) rfl ?_; intro f h
          refine s_call h s fnc16 (ret_val (.bool true) (nright_any r (cutV vs (min n.sc.length 6)) (cutV vf (min n.fg.length 18)) _ (hlv.keep s.ext) (hlf.keep s.ext) (by omega) (by omega)) (congrArg Value.bool hr)) rfl rfl ?_; intro f w1 v9 hT hE h s; obtain rfl := hT
          refine s_pure h (ru_move (h.ev rfl)) rfl ?_; intro f h
          refine s_pure h (ru_val (.bool false) (ru_neq_bool Try.underlying4 (h.ev rfl) (h.ev rfl)) (rfl)) rfl ?_; intro f h
          refine s_pure h (ru_move (h.ev rfl)) rfl ?_; intro f h
          refine s_on h rfl rfl rfl ?_
          refine s_load_row 7 h s row28 rfl rfl (ndArr_size _ _ _ _) rfl ?_; intro f h
          refine s_on h rfl rfl rfl ?_
          refine s_load_row 5 h s row23 rfl rfl (by first | exact idArr_size _ | exact bytesF_size _ _) rfl ?_; intro f h
          refine s_on h rfl rfl rfl ?_
          refine s_call h s fnc17 (ret_val (.bool false) (nowns_any r (cutV vs (min n.sc.length 6)) (cutV vf (min n.fg.length 18)) x _ (hlv.keep s.ext) (hlf.keep s.ext) (by omega) (by omega)) (congrArg Value.bool ((owns_2 hr q0).trans q1))) rfl rfl ?_; intro f w1 v9 hT hE h s; obtain rfl := hT
          refine s_on h rfl rfl rfl ?_
          refine s_pure h (ru_move (h.ev rfl)) rfl ?_; intro f h
          refine s_on h rfl rfl rfl ?_
          refine s_pure h (ru_move (h.ev rfl)) rfl ?_; intro f h
          refine s_on h rfl rfl rfl ?_
          refine s_pure h (ru_field fld28_1 (h.ev rfl)) rfl ?_; intro f h
          refine s_on h rfl rfl rfl ?_
          refine s_load_at (Has.subL (Has.of_own s 7 rfl) 33 33 (D := mbArr r.pr) (ndArr_pr _ _ _ _)) h row25 rfl (mbArr_size _) rfl ?_; intro f h
          refine s_on h rfl rfl rfl ?_
          refine s_call h s fnc18 (ret_val (.bool false) (rnone_any r.pr _) (congrArg Value.bool q0)) rfl rfl ?_; intro f w1 v9 hT hE h s; obtain rfl := hT
          refine s_on h rfl rfl rfl ?_
          refine s_pure h (ru_val (.bool true) (ru_not (h.ev rfl)) rfl) rfl ?_; intro f h
          refine s_on h rfl rfl rfl ?_
          refine s_pure h (ru_pick_t (h.ev rfl) (h.ev rfl)) rfl ?_; intro f h
          refine s_on h rfl rfl rfl ?_
          refine s_pure h (ru_move (h.ev rfl)) rfl ?_; intro f h
          refine s_on h rfl rfl rfl ?_
          refine s_load_row 5 h s row23 rfl rfl (by first | exact idArr_size _ | exact bytesF_size _ _) rfl ?_; intro f h
          refine s_on h rfl rfl rfl ?_
          refine s_pure h (ru_field fld28_1 (h.ev rfl)) rfl ?_; intro f h
          refine s_on h rfl rfl rfl ?_
          refine s_pure h (ru_field fld25_1 (h.ev rfl)) rfl ?_; intro f h
          refine s_on h rfl rfl rfl ?_
          refine s_load_at (Has.subL (Has.of_own s 7 rfl) 34 32 (D := idArr r.pr.2) (ndArr_pid _ _ _ _)) h row23 rfl (by first | exact idArr_size _ | exact bytesF_size _ _) rfl ?_; intro f h
          refine s_on h rfl rfl rfl ?_
          refine s_pure h (ru_field fld28_0 (h.ev rfl)) rfl ?_; intro f h
          refine s_on h rfl rfl rfl ?_
          refine s_pure h (ru_field fld25_1 (h.ev rfl)) rfl ?_; intro f h
          refine s_on h rfl rfl rfl ?_
          refine s_load_at (Has.subL (Has.of_own s 7 rfl) 1 32 (D := idArr r.me.2) (ndArr_id _ _ _ _)) h row23 rfl (by first | exact idArr_size _ | exact bytesF_size _ _) rfl ?_; intro f h
          refine s_on h rfl rfl rfl ?_
          refine s_call h s fnc19 (ret_val (.bool false) (rin_any _ _ _ _) (congrArg Value.bool q1)) rfl rfl ?_; intro f w1 v9 hT hE h s; obtain rfl := hT
          refine s_on h rfl rfl rfl ?_
          refine s_pure h (ru_pick_t (h.ev rfl) (h.ev rfl)) rfl ?_; intro f h
          refine s_on h rfl rfl rfl ?_
          refine s_pure h (ru_val (.bool false) (ru_neq_bool Try.underlying4 (h.ev rfl) (h.ev rfl)) (rfl)) rfl ?_; intro f h
          refine s_pure h (ru_pick_f (h.ev rfl) (h.ev rfl)) rfl ?_; intro f h
          refine s_nil ?_
          refine hK34 _ _ ?_
          refine wpIn_cond_false (h.ev rfl) ?_
          refine wpIn_skip ?_
          refine hK33 _ _ ?_
          refine c_seq fun K35 hK35 => ?_
          refine c_seq fun K36 hK36 => ?_
          refine c_region ?_
          refine s_pure h (ru_move (h.ev rfl)) rfl ?_; intro f h
          refine s_pure h (ru_val (.bool false) (ru_not (h.ev rfl)) rfl) rfl ?_; intro f h
          refine s_nil ?_
          refine hK36 _ _ ?_
          refine wpIn_cond_false (h.ev rfl) ?_
          refine wpIn_skip ?_
          refine hK35 _ _ ?_
          refine c_seq fun K37 hK37 => ?_
          refine c_region ?_
          refine s_load_row 7 h s row28 rfl rfl (ndArr_size _ _ _ _) rfl ?_; intro f h
          refine s_load_row 5 h s row23 rfl rfl (by first | exact idArr_size _ | exact bytesF_size _ _) rfl ?_; intro f h
          refine s_call h s fnc20 (rnext9_any r (cutV vs (min n.sc.length 6)) (cutV vf (min n.fg.length 18)) x _ (hlv.keep s.ext) (hlf.keep s.ext) (by omega) (by omega) hr) rfl rfl ?_; intro f w1 v9 hT hE h s; obtain rfl := hT
          refine s_alloc (nnArr zMb false) h s zero42 rfl rfl ?_; intro f w1 b13 h s
          refine s_store_row 0 h s row42 rfl rfl rfl (nnArr_size _ _) (nnArr_size _ _) (nnArr_ones _ _) ?_; intro w1 s
          refine s_nil ?_
          refine hK37 _ _ ?_
          refine c_seq fun K38 hK38 => ?_
          refine c_region ?_
          refine s_pure h (ru_move (h.ev rfl)) rfl ?_; intro f h
          refine s_pure h (ru_val (.bool true) (ru_eql (h.ev rfl) (h.ev rfl)) (congrArg Value.bool (decide_eq_true (by unfold nxE; rw [hr]; rfl)))) rfl ?_; intro f h
          refine s_pure h (ru_move (h.ev rfl)) rfl ?_; intro f h
          refine s_on h rfl rfl rfl ?_
          refine s_load_row 2 h s row25 rfl rfl (mbArr_size _) rfl ?_; intro f h
          refine s_on h rfl rfl rfl ?_
          refine s_pure h (ru_field fld42_0 (h.ev rfl)) rfl ?_; intro f h
          refine s_on h rfl rfl rfl ?_
          refine s_load_at (Has.subL (Has.of_own s 0 rfl) 0 33 (D := mbArr _) (nnArr_m _ _)) h row25 rfl (mbArr_size _) rfl ?_; intro f h
          refine s_on h rfl rfl rfl ?_
          refine s_pure h (ru_val (.bool true) (ru_eqlW (eqM _ _) (by kernel_rfl) (by decide) (h.ev rfl) (h.ev rfl) (decide (nxM r x = nxM r x)) (mbEq _ _)) (congrArg Value.bool (decide_eq_true (rfl)))) rfl ?_; intro f h
          refine s_pure h (ru_pick_t (h.ev rfl) (h.ev rfl)) rfl ?_; intro f h
          refine s_pure h (ru_move (h.ev rfl)) rfl ?_; intro f h
          refine s_on h rfl rfl rfl ?_
          refine s_pure h (ru_move (h.ev rfl)) rfl ?_; intro f h
          refine s_on h rfl rfl rfl ?_
          refine s_pure h (ru_field fld42_1 (h.ev rfl)) rfl ?_; intro f h
          refine s_on h rfl rfl rfl ?_
          refine s_load_at1 (cell_of_has (Has.of_own s 0 rfl) 33 (nnArr_b _ _)) h one4 rfl rfl ?_; intro f h
          refine s_on h rfl rfl rfl ?_
          refine s_pure h (ru_val (.bool true) (ru_eql_bool Try.underlying4 (h.ev rfl) (h.ev rfl)) (by simp)) rfl ?_; intro f h
          refine s_pure h (ru_pick_t (h.ev rfl) (h.ev rfl)) rfl ?_; intro f h
          refine s_pure h (ru_assign (h.ev rfl)) rfl ?_; intro f h
          refine s_nil ?_
          refine hK38 _ _ ?_
          refine wpIn_ret ?_
          exact e_tmp rfl h s rfl (rfl)
        · skip
          refine c_region ?_
          refine s_load_row 7 h s row28 rfl rfl (ndArr_size _ _ _ _) rfl ?_; intro f h
          refine s_call h s fnc16 (ret_val (.bool true) (nright_any r (cutV vs (min n.sc.length 6)) (cutV vf (min n.fg.length 18)) _ (hlv.keep s.ext) (hlf.keep s.ext) (by omega) (by omega)) (congrArg Value.bool hr)) rfl rfl ?_; intro f w1 v9 hT hE h s; obtain rfl := hT
          refine s_pure h (ru_move (h.ev rfl)) rfl ?_; intro f h
          refine s_pure h (ru_val (.bool false) (ru_neq_bool Try.underlying4 (h.ev rfl) (h.ev rfl)) (rfl)) rfl ?_; intro f h
          refine s_pure h (ru_move (h.ev rfl)) rfl ?_; intro f h
          refine s_on h rfl rfl rfl ?_
          refine s_load_row 7 h s row28 rfl rfl (ndArr_size _ _ _ _) rfl ?_; intro f h
          refine s_on h rfl rfl rfl ?_
          refine s_load_row 5 h s row23 rfl rfl (by first | exact idArr_size _ | exact bytesF_size _ _) rfl ?_; intro f h
          refine s_on h rfl rfl rfl ?_
          refine s_call h s fnc17 (ret_val (.bool true) (nowns_any r (cutV vs (min n.sc.length 6)) (cutV vf (min n.fg.length 18)) x _ (hlv.keep s.ext) (hlf.keep s.ext) (by omega) (by omega)) (congrArg Value.bool ((owns_2 hr q0).trans q1))) rfl rfl ?_; intro f w1 v9 hT hE h s; obtain rfl := hT
          refine s_on h rfl rfl rfl ?_
          refine s_pure h (ru_move (h.ev rfl)) rfl ?_; intro f h
          refine s_on h rfl rfl rfl ?_
          refine s_pure h (ru_move (h.ev rfl)) rfl ?_; intro f h
          refine s_on h rfl rfl rfl ?_
          refine s_pure h (ru_field fld28_1 (h.ev rfl)) rfl ?_; intro f h
          refine s_on h rfl rfl rfl ?_
          refine s_load_at (Has.subL (Has.of_own s 7 rfl) 33 33 (D := mbArr r.pr) (ndArr_pr _ _ _ _)) h row25 rfl (mbArr_size _) rfl ?_; intro f h
          refine s_on h rfl rfl rfl ?_
          refine s_call h s fnc18 (ret_val (.bool false) (rnone_any r.pr _) (congrArg Value.bool q0)) rfl rfl ?_; intro f w1 v9 hT hE h s; obtain rfl := hT
          refine s_on h rfl rfl rfl ?_
          refine s_pure h (ru_val (.bool true) (ru_not (h.ev rfl)) rfl) rfl ?_; intro f h
          refine s_on h rfl rfl rfl ?_
          refine s_pure h (ru_pick_t (h.ev rfl) (h.ev rfl)) rfl ?_; intro f h
          refine s_on h rfl rfl rfl ?_
          refine s_pure h (ru_move (h.ev rfl)) rfl ?_; intro f h
          refine s_on h rfl rfl rfl ?_
          refine s_load_row 5 h s row23 rfl rfl (by first | exact idArr_size _ | exact bytesF_size _ _) rfl ?_; intro f h
          refine s_on h rfl rfl rfl ?_
          refine s_pure h (ru_field fld28_1 (h.ev rfl)) rfl ?_; intro f h
          refine s_on h rfl rfl rfl ?_
          refine s_pure h (ru_field fld25_1 (h.ev rfl)) rfl ?_; intro f h
          refine s_on h rfl rfl rfl ?_
          refine s_load_at (Has.subL (Has.of_own s 7 rfl) 34 32 (D := idArr r.pr.2) (ndArr_pid _ _ _ _)) h row23 rfl (by first | exact idArr_size _ | exact bytesF_size _ _) rfl ?_; intro f h
          refine s_on h rfl rfl rfl ?_
          refine s_pure h (ru_field fld28_0 (h.ev rfl)) rfl ?_; intro f h
          refine s_on h rfl rfl rfl ?_
          refine s_pure h (ru_field fld25_1 (h.ev rfl)) rfl ?_; intro f h
          refine s_on h rfl rfl rfl ?_
          refine s_load_at (Has.subL (Has.of_own s 7 rfl) 1 32 (D := idArr r.me.2) (ndArr_id _ _ _ _)) h row23 rfl (by first | exact idArr_size _ | exact bytesF_size _ _) rfl ?_; intro f h
          refine s_on h rfl rfl rfl ?_
          refine s_call h s fnc19 (ret_val (.bool true) (rin_any _ _ _ _) (congrArg Value.bool q1)) rfl rfl ?_; intro f w1 v9 hT hE h s; obtain rfl := hT
          refine s_on h rfl rfl rfl ?_
          refine s_pure h (ru_pick_t (h.ev rfl) (h.ev rfl)) rfl ?_; intro f h
          refine s_on h rfl rfl rfl ?_
          refine s_pure h (ru_val (.bool false) (ru_neq_bool Try.underlying4 (h.ev rfl) (h.ev rfl)) (rfl)) rfl ?_; intro f h
          refine s_pure h (ru_pick_f (h.ev rfl) (h.ev rfl)) rfl ?_; intro f h
          refine s_nil ?_
          refine hK34 _ _ ?_
          refine wpIn_cond_false (h.ev rfl) ?_
          refine wpIn_skip ?_
          refine hK33 _ _ ?_
          refine c_seq fun K39 hK39 => ?_
          refine c_seq fun K40 hK40 => ?_
          refine c_region ?_
          refine s_pure h (ru_move (h.ev rfl)) rfl ?_; intro f h
          refine s_pure h (ru_val (.bool false) (ru_not (h.ev rfl)) rfl) rfl ?_; intro f h
          refine s_nil ?_
          refine hK40 _ _ ?_
          refine wpIn_cond_false (h.ev rfl) ?_
          refine wpIn_skip ?_
          refine hK39 _ _ ?_
          refine c_seq fun K41 hK41 => ?_
          refine c_region ?_
          refine s_load_row 7 h s row28 rfl rfl (ndArr_size _ _ _ _) rfl ?_; intro f h
          refine s_load_row 5 h s row23 rfl rfl (by first | exact idArr_size _ | exact bytesF_size _ _) rfl ?_; intro f h
          refine s_call h s fnc20 (rnext9_any r (cutV vs (min n.sc.length 6)) (cutV vf (min n.fg.length 18)) x _ (hlv.keep s.ext) (hlf.keep s.ext) (by omega) (by omega) hr) rfl rfl ?_; intro f w1 v9 hT hE h s; obtain rfl := hT
          refine s_alloc (nnArr zMb false) h s zero42 rfl rfl ?_; intro f w1 b13 h s
          refine s_store_row 0 h s row42 rfl rfl rfl (nnArr_size _ _) (nnArr_size _ _) (nnArr_ones _ _) ?_; intro w1 s
          refine s_nil ?_
          refine hK41 _ _ ?_
          refine c_seq fun K42 hK42 => ?_
          refine c_region ?_
          refine s_pure h (ru_move (h.ev rfl)) rfl ?_; intro f h
          refine s_pure h (ru_val (.bool true) (ru_eql (h.ev rfl) (h.ev rfl)) (congrArg Value.bool (decide_eq_true (by unfold nxE; rw [hr]; rfl)))) rfl ?_; intro f h
          refine s_pure h (ru_move (h.ev rfl)) rfl ?_; intro f h
          refine s_on h rfl rfl rfl ?_
          refine s_load_row 2 h s row25 rfl rfl (mbArr_size _) rfl ?_; intro f h
          refine s_on h rfl rfl rfl ?_
          refine s_pure h (ru_field fld42_0 (h.ev rfl)) rfl ?_; intro f h
          refine s_on h rfl rfl rfl ?_
          refine s_load_at (Has.subL (Has.of_own s 0 rfl) 0 33 (D := mbArr _) (nnArr_m _ _)) h row25 rfl (mbArr_size _) rfl ?_; intro f h
          refine s_on h rfl rfl rfl ?_
          refine s_pure h (ru_val (.bool true) (ru_eqlW (eqM _ _) (by kernel_rfl) (by decide) (h.ev rfl) (h.ev rfl) (decide (nxM r x = nxM r x)) (mbEq _ _)) (congrArg Value.bool (decide_eq_true (rfl)))) rfl ?_; intro f h
          refine s_pure h (ru_pick_t (h.ev rfl) (h.ev rfl)) rfl ?_; intro f h
          refine s_pure h (ru_move (h.ev rfl)) rfl ?_; intro f h
          refine s_on h rfl rfl rfl ?_
          refine s_pure h (ru_move (h.ev rfl)) rfl ?_; intro f h
          refine s_on h rfl rfl rfl ?_
          refine s_pure h (ru_field fld42_1 (h.ev rfl)) rfl ?_; intro f h
          refine s_on h rfl rfl rfl ?_
          refine s_load_at1 (cell_of_has (Has.of_own s 0 rfl) 33 (nnArr_b _ _)) h one4 rfl rfl ?_; intro f h
          refine s_on h rfl rfl rfl ?_
          refine s_pure h (ru_val (.bool true) (ru_eql_bool Try.underlying4 (h.ev rfl) (h.ev rfl)) (by simp)) rfl ?_; intro f h
          refine s_pure h (ru_pick_t (h.ev rfl) (h.ev rfl)) rfl ?_; intro f h
          refine s_pure h (ru_assign (h.ev rfl)) rfl ?_; intro f h
          refine s_nil ?_
          refine hK42 _ _ ?_
          refine wpIn_ret ?_
          exact e_tmp rfl h s rfl (rfl)
      · skip
        refine c_region ?_
        refine s_load_row 7 h s row28 rfl rfl (ndArr_size _ _ _ _) rfl ?_; intro f h
        refine s_call h s fnc16 (ret_val (.bool true) (nright_any r (cutV vs (min n.sc.length 6)) (cutV vf (min n.fg.length 18)) _ (hlv.keep s.ext) (hlf.keep s.ext) (by omega) (by omega)) (congrArg Value.bool hr)) rfl rfl ?_; intro f w1 v9 hT hE h s; obtain rfl := hT
        refine s_pure h (ru_move (h.ev rfl)) rfl ?_; intro f h
        refine s_pure h (ru_val (.bool false) (ru_neq_bool Try.underlying4 (h.ev rfl) (h.ev rfl)) (rfl)) rfl ?_; intro f h
        refine s_pure h (ru_move (h.ev rfl)) rfl ?_; intro f h
        refine s_on h rfl rfl rfl ?_
        refine s_load_row 7 h s row28 rfl rfl (ndArr_size _ _ _ _) rfl ?_; intro f h
        refine s_on h rfl rfl rfl ?_
        refine s_load_row 5 h s row23 rfl rfl (by first | exact idArr_size _ | exact bytesF_size _ _) rfl ?_; intro f h
        refine s_on h rfl rfl rfl ?_
        refine s_call h s fnc17 (ret_val (.bool false) (nowns_any r (cutV vs (min n.sc.length 6)) (cutV vf (min n.fg.length 18)) x _ (hlv.keep s.ext) (hlf.keep s.ext) (by omega) (by omega)) (congrArg Value.bool (owns_1 q0))) rfl rfl ?_; intro f w1 v9 hT hE h s; obtain rfl := hT
        refine s_on h rfl rfl rfl ?_
        refine s_pure h (ru_move (h.ev rfl)) rfl ?_; intro f h
        refine s_on h rfl rfl rfl ?_
        refine s_pure h (ru_move (h.ev rfl)) rfl ?_; intro f h
        refine s_on h rfl rfl rfl ?_
        refine s_pure h (ru_field fld28_1 (h.ev rfl)) rfl ?_; intro f h
        refine s_on h rfl rfl rfl ?_
        refine s_load_at (Has.subL (Has.of_own s 7 rfl) 33 33 (D := mbArr r.pr) (ndArr_pr _ _ _ _)) h row25 rfl (mbArr_size _) rfl ?_; intro f h
        refine s_on h rfl rfl rfl ?_
        refine s_call h s fnc18 (ret_val (.bool true) (rnone_any r.pr _) (congrArg Value.bool q0)) rfl rfl ?_; intro f w1 v9 hT hE h s; obtain rfl := hT
        refine s_on h rfl rfl rfl ?_
        refine s_pure h (ru_val (.bool false) (ru_not (h.ev rfl)) rfl) rfl ?_; intro f h
        refine s_on h rfl rfl rfl ?_
        refine s_pure h (ru_pick_t (h.ev rfl) (h.ev rfl)) rfl ?_; intro f h
        refine s_on h rfl rfl rfl ?_
        refine s_pure h (ru_move (h.ev rfl)) rfl ?_; intro f h
        refine s_off (b := true) h rfl rfl rfl rfl ?_; intro f h
        refine s_off (b := true) h rfl rfl rfl rfl ?_; intro f h
        refine s_off (b := true) h rfl rfl rfl rfl ?_; intro f h
        refine s_off (b := true) h rfl rfl rfl rfl ?_; intro f h
        refine s_off (b := true) h rfl rfl rfl rfl ?_; intro f h
        refine s_off (b := true) h rfl rfl rfl rfl ?_; intro f h
        refine s_off (b := true) h rfl rfl rfl rfl ?_; intro f h
        refine s_off (b := true) h rfl rfl rfl rfl ?_; intro f h
        refine s_on h rfl rfl rfl ?_
        refine s_pure h (ru_pick_f (h.ev rfl) (h.ev rfl)) rfl ?_; intro f h
        refine s_on h rfl rfl rfl ?_
        refine s_pure h (ru_val (.bool false) (ru_neq_bool Try.underlying4 (h.ev rfl) (h.ev rfl)) (rfl)) rfl ?_; intro f h
        refine s_pure h (ru_pick_f (h.ev rfl) (h.ev rfl)) rfl ?_; intro f h
        refine s_nil ?_
        refine hK34 _ _ ?_
        refine wpIn_cond_false (h.ev rfl) ?_
        refine wpIn_skip ?_
        refine hK33 _ _ ?_
        refine c_seq fun K43 hK43 => ?_
        refine c_seq fun K44 hK44 => ?_
        refine c_region ?_
        refine s_pure h (ru_move (h.ev rfl)) rfl ?_; intro f h
        refine s_pure h (ru_val (.bool false) (ru_not (h.ev rfl)) rfl) rfl ?_; intro f h
        refine s_nil ?_
        refine hK44 _ _ ?_
        refine wpIn_cond_false (h.ev rfl) ?_
        refine wpIn_skip ?_
        refine hK43 _ _ ?_
        refine c_seq fun K45 hK45 => ?_
        refine c_region ?_
        refine s_load_row 7 h s row28 rfl rfl (ndArr_size _ _ _ _) rfl ?_; intro f h
        refine s_load_row 5 h s row23 rfl rfl (by first | exact idArr_size _ | exact bytesF_size _ _) rfl ?_; intro f h
        refine s_call h s fnc20 (rnext9_any r (cutV vs (min n.sc.length 6)) (cutV vf (min n.fg.length 18)) x _ (hlv.keep s.ext) (hlf.keep s.ext) (by omega) (by omega) hr) rfl rfl ?_; intro f w1 v9 hT hE h s; obtain rfl := hT
        refine s_alloc (nnArr zMb false) h s zero42 rfl rfl ?_; intro f w1 b13 h s
        refine s_store_row 0 h s row42 rfl rfl rfl (nnArr_size _ _) (nnArr_size _ _) (nnArr_ones _ _) ?_; intro w1 s
        refine s_nil ?_
        refine hK45 _ _ ?_
        refine c_seq fun K46 hK46 => ?_
        refine c_region ?_
        refine s_pure h (ru_move (h.ev rfl)) rfl ?_; intro f h
        refine s_pure h (ru_val (.bool true) (ru_eql (h.ev rfl) (h.ev rfl)) (congrArg Value.bool (decide_eq_true (by unfold nxE; rw [hr]; rfl)))) rfl ?_; intro f h
        refine s_pure h (ru_move (h.ev rfl)) rfl ?_; intro f h
        refine s_on h rfl rfl rfl ?_
        refine s_load_row 2 h s row25 rfl rfl (mbArr_size _) rfl ?_; intro f h
        refine s_on h rfl rfl rfl ?_
        refine s_pure h (ru_field fld42_0 (h.ev rfl)) rfl ?_; intro f h
        refine s_on h rfl rfl rfl ?_
        refine s_load_at (Has.subL (Has.of_own s 0 rfl) 0 33 (D := mbArr _) (nnArr_m _ _)) h row25 rfl (mbArr_size _) rfl ?_; intro f h
        refine s_on h rfl rfl rfl ?_
        refine s_pure h (ru_val (.bool true) (ru_eqlW (eqM _ _) (by kernel_rfl) (by decide) (h.ev rfl) (h.ev rfl) (decide (nxM r x = nxM r x)) (mbEq _ _)) (congrArg Value.bool (decide_eq_true (rfl)))) rfl ?_; intro f h
        refine s_pure h (ru_pick_t (h.ev rfl) (h.ev rfl)) rfl ?_; intro f h
        refine s_pure h (ru_move (h.ev rfl)) rfl ?_; intro f h
        refine s_on h rfl rfl rfl ?_
        refine s_pure h (ru_move (h.ev rfl)) rfl ?_; intro f h
        refine s_on h rfl rfl rfl ?_
        refine s_pure h (ru_field fld42_1 (h.ev rfl)) rfl ?_; intro f h
        refine s_on h rfl rfl rfl ?_
        refine s_load_at1 (cell_of_has (Has.of_own s 0 rfl) 33 (nnArr_b _ _)) h one4 rfl rfl ?_; intro f h
        refine s_on h rfl rfl rfl ?_
        refine s_pure h (ru_val (.bool true) (ru_eql_bool Try.underlying4 (h.ev rfl) (h.ev rfl)) (by simp)) rfl ?_; intro f h
        refine s_pure h (ru_pick_t (h.ev rfl) (h.ev rfl)) rfl ?_; intro f h
        refine s_pure h (ru_assign (h.ev rfl)) rfl ?_; intro f h
        refine s_nil ?_
        refine hK46 _ _ ?_
        refine wpIn_ret ?_
        exact e_tmp rfl h s rfl (rfl)
end Go.Proofs.Ytfnjdjbknjcocaa
