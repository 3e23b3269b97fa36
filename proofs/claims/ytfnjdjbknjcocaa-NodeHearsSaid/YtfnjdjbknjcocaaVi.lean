/- What NodeHears answers, and the reference that it calls: for all arguments. -/
import Derived.Test.YtfnjdjbknjcocaaVd
import Derived.Test.YtfnjdjbknjcocaaVe
import Derived.Test.YtfnjdjbknjcocaaVg
set_option linter.unusedVariables false
set_option linter.unusedSimpArgs false
set_option linter.unusedSectionVars false
namespace Go.Proofs.Ytfnjdjbknjcocaa
open Go.RowKit
theorem rfind_any (l : List Mb) (vh : Value) (no : Int) (w : World) (hR : RdZ w vh 33 l.length (mbCells l)) (hln : l.length ≤ 1000) : Calls Try.prog 28 [vh, .int .i64 no].toArray w (Ret w (is (.agg (mbArr (refF l no))))) := by
  refine c_enter Try.func28 rfl Try.ntmps28 rfl [(0, vh), (1, .int .i64 no)] (by simp) fun f h => ?_
  have s := St.start w
  refine c_seq fun K1 hK1 => ?_
  refine c_region ?_
  refine s_alloc (mbArr zMb) h s zero25 rfl rfl ?_; intro f w1 b4 h s
  refine s_nil ?_
  refine hK1 _ _ ?_
  refine c_seq fun K2 hK2 => ?_
  refine c_seq fun K3 hK3 => ?_
  refine c_region ?_
  refine s_pure h (ru_move (h.ev rfl)) rfl ?_; intro f h
  refine s_pure h (ru_lenZ (hR.keep s.ext) Try.underlying26 (h.ev rfl)) rfl ?_; intro f h
  refine s_pure h (ru_move (h.ev rfl)) rfl ?_; intro f h
  refine s_nil ?_
  refine hK3 _ _ ?_
  refine wpIn_block ?_
  refine wpIn_loop_ghost (fun nn aa ww => ∃ k : Nat, Sl 20 aa [(0, vh), (1, .int .i64 no), (4, .pointer (some ⟨b4, 0, none⟩)), (7, vh), (8, .int .i64 (l.length : Int)), (9, .int .i64 (k : Int))] ∧ St w [.blk b4 (.cells (mbArr zMb) 25)] ww ∧ nn = l.length - k ∧ k ≤ l.length ∧ ∀ j, j < k → decide ((l.getD j zMb).1 = no) = false) (l.length - (0)) ⟨0, h.only ⟨rfl, rfl, rfl, rfl, rfl, slot_int rfl (by omega), trivial⟩, s.as ⟨rfl, trivial⟩, rfl, Nat.zero_le _, fun j hj => absurd hj (Nat.not_lt_zero _)⟩ ?_
  rintro _ f w1 ⟨k, h, s, hnn, hp0, hp1⟩
  refine c_seq fun K4 hK4 => ?_
  refine c_region ?_
  refine s_pure h (ru_lss (h.ev rfl) (h.ev rfl)) rfl ?_; intro f h
  refine s_nil ?_
  refine hK4 _ _ ?_
  refine c_seq fun K5 hK5 => ?_
  refine c_cond h rfl (fun hc => ?_) (fun hc => ?_)
  · replace hc := of_decide_eq_true hc
    refine wpIn_skip ?_
    refine hK5 _ _ ?_
    refine c_seq fun K6 hK6 => ?_
    refine wpIn_block ?_
    refine c_seq fun K7 hK7 => ?_
    refine c_region ?_
    have hkl : k < l.length := by omega
    refine s_pure h (ru_ixz (hR.keep s.ext) (k) Try.underlying26 szo25 (h.ev rfl) (h.ev rfl) (by omega) (by omega)) rfl ?_; intro f h
    refine s_load_at ((hR.keep s.ext).el (k) (by omega) (by decide) (D := mbArr (l.getD k zMb)) (mb_elD l k hkl)) h row25 rfl (mbArr_size _) rfl ?_; intro f h
    refine s_alloc (mbArr zMb) h s zero25 rfl rfl ?_; intro f w1 b6 h s
    refine s_store_row 0 h s row25 rfl rfl rfl (mbArr_size _) (mbArr_size _) (mbArr_ones _) ?_; intro w1 s
    refine s_nil ?_
    refine hK7 _ _ ?_
    refine c_seq fun K8 hK8 => ?_
    refine c_region ?_
    refine s_pure h (ru_field fld25_0 (h.ev rfl)) rfl ?_; intro f h
    refine s_load_at1 (cell_of_has (Has.of_own s 0 rfl) 0 (mbArr_no _)) h one3 rfl rfl ?_; intro f h
    refine s_pure h (ru_move (h.ev rfl)) rfl ?_; intro f h
    refine s_pure h (ru_eql (h.ev rfl) (h.ev rfl)) rfl ?_; intro f h
    refine s_nil ?_
    refine hK8 _ _ ?_
    refine c_cond h rfl (fun hc => ?_) (fun hc => ?_)
    · refine c_seq fun K9 hK9 => ?_
      refine c_region ?_
      refine s_load_row 0 h s row25 rfl rfl (mbArr_size _) rfl ?_; intro f h
      refine s_store_row 1 h s row25 rfl rfl rfl (mbArr_size _) (mbArr_size _) (mbArr_ones _) ?_; intro w1 s
      refine s_nil ?_
      refine hK9 _ _ ?_
      refine wpIn_ret ?_
      refine b_ret ?_
      refine t_ret ?_
      refine t_ret ?_
      refine b_ret ?_
      refine t_ret ?_
      exact e_row 1 rfl h s row25 rfl rfl (mbArr_size _) (by show _ = _; unfold refF; rw [find_at hkl hp1 hc] <;> rfl)
    · refine wpIn_skip ?_
      refine b_norm ?_
      refine hK6 _ _ ?_
      refine c_region ?_
      refine s_pure h (ru_add (h.ev rfl) (h.ev rfl) (by omega)) rfl ?_; intro f h
      refine s_pure h (ru_move (h.ev rfl)) rfl ?_; intro f h
      refine s_nil ?_
      refine t_norm ?_
      exact ⟨_, by omega, ⟨k + 1, h.only ⟨rfl, rfl, rfl, rfl, rfl, slot_int rfl (by omega), trivial⟩, St.as (s.pick _ (List.sublist_append_right [_] _)) ⟨rfl, trivial⟩, rfl, by omega, qs_next (q := fun j => decide ((l.getD j zMb).1 = no)) hp1 hc⟩⟩
  · replace hc := of_decide_eq_false hc
    refine wpIn_exit ?_
    refine t_exit ?_
    refine t_exit ?_
    refine b_exit ?_
    refine hK2 _ _ ?_
    refine c_seq fun K10 hK10 => ?_
    refine c_region ?_
    refine s_pure h (ru_build_mb1 sttM (h.ev rfl)) rfl ?_; intro f h
    refine s_store_row 0 h s row25 rfl rfl rfl (mbArr_size _) (mbArr_size _) (mbArr_ones _) ?_; intro w1 s
    refine s_nil ?_
    refine hK10 _ _ ?_
    refine wpIn_ret ?_
    exact e_row 0 rfl h s row25 rfl rfl (mbArr_size _) (by show _ = _; unfold refF; rw [find_no (by omega) hp1] <;> rfl)

theorem between_any (x : Mb) (s9 t9 : Id) (w : World) : Calls Try.prog 49 [idV x.2, idV s9, idV t9].toArray w (Ret w (is (.bool (btw s9 t9 x)))) := by
  refine c_enter Try.func49 rfl Try.ntmps49 rfl [(0, idV x.2), (1, idV s9), (2, idV t9)] (by simp) fun f h => ?_
  have s := St.start w
  refine c_seq fun K1 hK1 => ?_
  refine c_region ?_
  refine s_box (idArr x.2) h s rfl rfl rfl ?_; intro f w1 b3 h s
  refine s_box (idArr s9) h s rfl rfl rfl ?_; intro f w1 b4 h s
  refine s_box (idArr t9) h s rfl rfl rfl ?_; intro f w1 b5 h s
  refine s_pure h (ru_assign (h.ev rfl)) rfl ?_; intro f h
  refine s_nil ?_
  refine hK1 _ _ ?_
  refine c_seq fun K2 hK2 => ?_
  cases q1 : (decide (x.2 ≠ s9) : Bool)
  · skip
    refine c_region ?_
    refine s_load_row 2 h s row23 rfl rfl (by first | exact idArr_size _ | exact bytesF_size _ _) rfl ?_; intro f h
    refine s_load_row 1 h s row23 rfl rfl (by first | exact idArr_size _ | exact bytesF_size _ _) rfl ?_; intro f h
    refine s_pure h (ru_val (.bool false) (ru_neq_id idTy (h.ev rfl) (h.ev rfl)) (congrArg Value.bool q1)) rfl ?_; intro f h
    refine s_pure h (ru_move (h.ev rfl)) rfl ?_; intro f h
    refine s_off (b := true) h rfl rfl rfl rfl ?_; intro f h
    refine s_off (b := true) h rfl rfl rfl rfl ?_; intro f h
    refine s_off (b := true) h rfl rfl rfl rfl ?_; intro f h
    refine s_pure h (ru_pick_f (h.ev rfl) (h.ev rfl)) rfl ?_; intro f h
    refine s_pure h (ru_move (h.ev rfl)) rfl ?_; intro f h
    refine s_off (b := true) h rfl rfl rfl rfl ?_; intro f h
    refine s_off (b := true) h rfl rfl rfl rfl ?_; intro f h
    refine s_off (b := true) h rfl rfl rfl rfl ?_; intro f h
    refine s_off (b := true) h rfl rfl rfl rfl ?_; intro f h
    refine s_pure h (ru_pick_f (h.ev rfl) (h.ev rfl)) rfl ?_; intro f h
    refine s_pure h (ru_assign (h.ev rfl)) rfl ?_; intro f h
    refine s_nil ?_
    refine hK2 _ _ ?_
    refine wpIn_ret ?_
    exact e_tmp rfl h s rfl (by show _ = _; rw [btw_1 q1])
  · skip
    cases q0 : (decide (x.2 ≠ t9) : Bool)
    · skip
      refine c_region ?_
      refine s_load_row 2 h s row23 rfl rfl (by first | exact idArr_size _ | exact bytesF_size _ _) rfl ?_; intro f h
      refine s_load_row 1 h s row23 rfl rfl (by first | exact idArr_size _ | exact bytesF_size _ _) rfl ?_; intro f h
      refine s_pure h (ru_val (.bool true) (ru_neq_id idTy (h.ev rfl) (h.ev rfl)) (congrArg Value.bool q1)) rfl ?_; intro f h
      refine s_pure h (ru_move (h.ev rfl)) rfl ?_; intro f h
      refine s_on h rfl rfl rfl ?_
      refine s_load_row 2 h s row23 rfl rfl (by first | exact idArr_size _ | exact bytesF_size _ _) rfl ?_; intro f h
      refine s_on h rfl rfl rfl ?_
      refine s_load_row 0 h s row23 rfl rfl (by first | exact idArr_size _ | exact bytesF_size _ _) rfl ?_; intro f h
      refine s_on h rfl rfl rfl ?_
      refine s_pure h (ru_val (.bool false) (ru_neq_id idTy (h.ev rfl) (h.ev rfl)) (congrArg Value.bool q0)) rfl ?_; intro f h
      refine s_pure h (ru_pick_t (h.ev rfl) (h.ev rfl)) rfl ?_; intro f h
      refine s_pure h (ru_move (h.ev rfl)) rfl ?_; intro f h
      refine s_off (b := true) h rfl rfl rfl rfl ?_; intro f h
      refine s_off (b := true) h rfl rfl rfl rfl ?_; intro f h
      refine s_off (b := true) h rfl rfl rfl rfl ?_; intro f h
      refine s_off (b := true) h rfl rfl rfl rfl ?_; intro f h
      refine s_pure h (ru_pick_f (h.ev rfl) (h.ev rfl)) rfl ?_; intro f h
      refine s_pure h (ru_assign (h.ev rfl)) rfl ?_; intro f h
      refine s_nil ?_
      refine hK2 _ _ ?_
      refine wpIn_ret ?_
      exact e_tmp rfl h s rfl (by show _ = _; rw [btw_0 q0])
    · skip
      refine c_region ?_
      refine s_load_row 2 h s row23 rfl rfl (by first | exact idArr_size _ | exact bytesF_size _ _) rfl ?_; intro f h
      refine s_load_row 1 h s row23 rfl rfl (by first | exact idArr_size _ | exact bytesF_size _ _) rfl ?_; intro f h
      refine s_pure h (ru_val (.bool true) (ru_neq_id idTy (h.ev rfl) (h.ev rfl)) (congrArg Value.bool q1)) rfl ?_; intro f h
      refine s_pure h (ru_move (h.ev rfl)) rfl ?_; intro f h
      refine s_on h rfl rfl rfl ?_
      refine s_load_row 2 h s row23 rfl rfl (by first | exact idArr_size _ | exact bytesF_size _ _) rfl ?_; intro f h
      refine s_on h rfl rfl rfl ?_
      refine s_load_row 0 h s row23 rfl rfl (by first | exact idArr_size _ | exact bytesF_size _ _) rfl ?_; intro f h
      refine s_on h rfl rfl rfl ?_
      refine s_pure h (ru_val (.bool true) (ru_neq_id idTy (h.ev rfl) (h.ev rfl)) (congrArg Value.bool q0)) rfl ?_; intro f h
      refine s_pure h (ru_pick_t (h.ev rfl) (h.ev rfl)) rfl ?_; intro f h
      refine s_pure h (ru_move (h.ev rfl)) rfl ?_; intro f h
      refine s_on h rfl rfl rfl ?_
      refine s_load_row 2 h s row23 rfl rfl (by first | exact idArr_size _ | exact bytesF_size _ _) rfl ?_; intro f h
      refine s_on h rfl rfl rfl ?_
      refine s_load_row 1 h s row23 rfl rfl (by first | exact idArr_size _ | exact bytesF_size _ _) rfl ?_; intro f h
      refine s_on h rfl rfl rfl ?_
      refine s_load_row 0 h s row23 rfl rfl (by first | exact idArr_size _ | exact bytesF_size _ _) rfl ?_; intro f h
      refine s_on h rfl rfl rfl ?_
      refine s_call h s fnc19 (rin_any _ _ _ _) rfl rfl ?_; intro f w1 v9 hT hE h s; obtain rfl := hT
      refine s_pure h (ru_pick_t (h.ev rfl) (h.ev rfl)) rfl ?_; intro f h
      refine s_pure h (ru_assign (h.ev rfl)) rfl ?_; intro f h
      refine s_nil ?_
      refine hK2 _ _ ?_
      refine wpIn_ret ?_
      exact e_tmp rfl h s rfl (by show _ = _; rw [btw_2 q0 q1])

theorem rnotify_any (n : Nd) (vs vf : Value) (x : Mb) (w : World) (hRs : RdZ w vs 33 n.sc.length (mbCells n.sc)) (hRf : RdZ w vf 33 n.fg.length (mbCells n.fg)) : Calls Try.prog 23 [.agg (ndArr n.me n.pr vs vf), .agg (mbArr x)].toArray w (Ret w (is (.agg (ndArr n.me (ntP n x) vs vf)))) := by
  refine c_enter Try.func23 rfl Try.ntmps23 rfl [(0, .agg (ndArr n.me n.pr vs vf)), (1, .agg (mbArr x))] (by simp) fun f h => ?_
  have s := St.start w
  refine c_seq fun K1 hK1 => ?_
  refine c_region ?_
  refine s_box (ndArr n.me n.pr vs vf) h s rfl rfl rfl ?_; intro f w1 b2 h s
  refine s_box ((mbArr x)) h s rfl rfl rfl ?_; intro f w1 b3 h s
  refine s_alloc (ndArr zMb zMb nilV nilV) h s zero28 rfl rfl ?_; intro f w1 b4 h s
  refine s_nil ?_
  refine hK1 _ _ ?_
  refine c_seq fun K2 hK2 => ?_
  refine c_seq fun K3 hK3 => ?_
  cases g0 : (decide (x.1 = n.me.1) : Bool)
  · skip
    cases g1 : (decide (x.2 = n.me.2) : Bool)
    · skip
      refine c_region ?_
      refine s_pure h (ru_field fld25_0 (h.ev rfl)) rfl ?_; intro f h
      refine s_load_at1 (cell_of_has (Has.of_own s 1 rfl) 0 (mbArr_no _)) h one3 rfl rfl ?_; intro f h
      refine s_pure h (ru_field fld28_0 (h.ev rfl)) rfl ?_; intro f h
      refine s_pure h (ru_field fld25_0 (h.ev rfl)) rfl ?_; intro f h
      refine s_load_at1 (cell_of_has (Has.of_own s 2 rfl) 0 (ndArr_no _ _ _ _)) h one3 rfl rfl ?_; intro f h
      refine s_pure h (ru_val (.bool false) (ru_eql (h.ev rfl) (h.ev rfl)) (congrArg Value.bool g0)) rfl ?_; intro f h
      refine s_pure h (ru_move (h.ev rfl)) rfl ?_; intro f h
      refine s_on h rfl rfl rfl ?_
      refine s_pure h (ru_field fld25_1 (h.ev rfl)) rfl ?_; intro f h
      refine s_on h rfl rfl rfl ?_
      refine s_load_at (Has.subL (Has.of_own s 1 rfl) 1 32 (D := idArr (_)) (mbArr_id _)) h row23 rfl (by first | exact idArr_size _ | exact bytesF_size _ _) rfl ?_; intro f h
      refine s_on h rfl rfl rfl ?_
      refine s_pure h (ru_field fld28_0 (h.ev rfl)) rfl ?_; intro f h
      refine s_on h rfl rfl rfl ?_
      refine s_pure h (ru_field fld25_1 (h.ev rfl)) rfl ?_; intro f h
      refine s_on h rfl rfl rfl ?_
      refine s_load_at (Has.subL (Has.of_own s 2 rfl) 1 32 (D := idArr n.me.2) (ndArr_id _ _ _ _)) h row23 rfl (by first | exact idArr_size _ | exact bytesF_size _ _) rfl ?_; intro f h
      refine s_on h rfl rfl rfl ?_
      refine s_pure h (ru_val (.bool false) (ru_eql_id idTy (h.ev rfl) (h.ev rfl)) (congrArg Value.bool g1)) rfl ?_; intro f h
      refine s_pure h (ru_pick_f (h.ev rfl) (h.ev rfl)) rfl ?_; intro f h
      refine s_nil ?_
      refine hK3 _ _ ?_
      refine wpIn_cond_false (h.ev rfl) ?_
      refine wpIn_skip ?_
      refine hK2 _ _ ?_
      refine c_seq fun K4 hK4 => ?_
      refine c_seq fun K5 hK5 => ?_
      cases q0 : (decide (n.pr = nMb) : Bool)
      · skip
        cases q1 : (inB x.2 n.pr.2 n.me.2 : Bool)
        · skip
          refine c_region ?_
          refine s_pure h (ru_field fld28_1 (h.ev rfl)) rfl ?_; intro f h
          refine s_load_at (Has.subL (Has.of_own s 2 rfl) 33 33 (D := mbArr n.pr) (ndArr_pr _ _ _ _)) h row25 rfl (mbArr_size _) rfl ?_; intro f h
          refine s_call h s fnc18 (ret_val (.bool false) (rnone_any n.pr _) (congrArg Value.bool q0)) rfl rfl ?_; intro f w1 v9 hT hE h s; obtain rfl := hT
          refine s_pure h (ru_move (h.ev rfl)) rfl ?_; intro f h
          refine s_on h rfl rfl rfl ?_
          refine s_pure h (ru_field fld25_1 (h.ev rfl)) rfl ?_; intro f h
          refine s_on h rfl rfl rfl ?_
          refine s_load_at (Has.subL (Has.of_own s 1 rfl) 1 32 (D := idArr (_)) (mbArr_id _)) h row23 rfl (by first | exact idArr_size _ | exact bytesF_size _ _) rfl ?_; intro f h
          refine s_on h rfl rfl rfl ?_
          refine s_pure h (ru_field fld28_1 (h.ev rfl)) rfl ?_; intro f h
          refine s_on h rfl rfl rfl ?_
          refine s_pure h (ru_field fld25_1 (h.ev rfl)) rfl ?_; intro f h
          refine s_on h rfl rfl rfl ?_
          refine s_load_at (Has.subL (Has.of_own s 2 rfl) 34 32 (D := idArr n.pr.2) (ndArr_pid _ _ _ _)) h row23 rfl (by first | exact idArr_size _ | exact bytesF_size _ _) rfl ?_; intro f h
          refine s_on h rfl rfl rfl ?_
          refine s_pure h (ru_field fld28_0 (h.ev rfl)) rfl ?_; intro f h
          refine s_on h rfl rfl rfl ?_
          refine s_pure h (ru_field fld25_1 (h.ev rfl)) rfl ?_; intro f h
          refine s_on h rfl rfl rfl ?_
          refine s_load_at (Has.subL (Has.of_own s 2 rfl) 1 32 (D := idArr n.me.2) (ndArr_id _ _ _ _)) h row23 rfl (by first | exact idArr_size _ | exact bytesF_size _ _) rfl ?_; intro f h
          refine s_on h rfl rfl rfl ?_
          refine s_call h s fnc19 (ret_val (.bool false) (rin_any _ _ _ _) (congrArg Value.bool q1)) rfl rfl ?_; intro f w1 v9 hT hE h s; obtain rfl := hT
          refine s_pure h (ru_pick_f (h.ev rfl) (h.ev rfl)) rfl ?_; intro f h
          refine s_nil ?_
          refine hK5 _ _ ?_
          refine wpIn_cond_false (h.ev rfl) ?_
          refine wpIn_skip ?_
          refine hK4 _ _ ?_
          refine c_seq fun K6 hK6 => ?_
          refine c_region ?_
          refine s_load_row 2 h s row28 rfl rfl (ndArr_size _ _ _ _) rfl ?_; intro f h
          refine s_store_row 0 h s row28 rfl rfl rfl (ndArr_size _ _ _ _) (ndArr_size _ _ _ _) (ndArr_ones (rd_one (hRs.keep s.ext)) (rd_one (hRf.keep s.ext))) ?_; intro w1 s
          refine s_nil ?_
          refine hK6 _ _ ?_
          refine wpIn_ret ?_
          exact e_row 0 rfl h s row28 rfl rfl (ndArr_size _ _ _ _) (by show _ = _; rw [ntP_4 q0 q1])
        · skip
          refine c_region ?_
          refine s_pure h (ru_field fld28_1 (h.ev rfl)) rfl ?_; intro f h
          refine s_load_at (Has.subL (Has.of_own s 2 rfl) 33 33 (D := mbArr n.pr) (ndArr_pr _ _ _ _)) h row25 rfl (mbArr_size _) rfl ?_; intro f h
          refine s_call h s fnc18 (ret_val (.bool false) (rnone_any n.pr _) (congrArg Value.bool q0)) rfl rfl ?_; intro f w1 v9 hT hE h s; obtain rfl := hT
          refine s_pure h (ru_move (h.ev rfl)) rfl ?_; intro f h
          refine s_on h rfl rfl rfl ?_
          refine s_pure h (ru_field fld25_1 (h.ev rfl)) rfl ?_; intro f h
          refine s_on h rfl rfl rfl ?_
          refine s_load_at (Has.subL (Has.of_own s 1 rfl) 1 32 (D := idArr (_)) (mbArr_id _)) h row23 rfl (by first | exact idArr_size _ | exact bytesF_size _ _) rfl ?_; intro f h
          refine s_on h rfl rfl rfl ?_
          refine s_pure h (ru_field fld28_1 (h.ev rfl)) rfl ?_; intro f h
          refine s_on h rfl rfl rfl ?_
          refine s_pure h (ru_field fld25_1 (h.ev rfl)) rfl ?_; intro f h
          refine s_on h rfl rfl rfl ?_
          refine s_load_at (Has.subL (Has.of_own s 2 rfl) 34 32 (D := idArr n.pr.2) (ndArr_pid _ _ _ _)) h row23 rfl (by first | exact idArr_size _ | exact bytesF_size _ _) rfl ?_; intro f h
          refine s_on h rfl rfl rfl ?_
          refine s_pure h (ru_field fld28_0 (h.ev rfl)) rfl ?_; intro f h
          refine s_on h rfl rfl rfl ?_
          refine s_pure h (ru_field fld25_1 (h.ev rfl)) rfl ?_; intro f h
          refine s_on h rfl rfl rfl ?_
          refine s_load_at (Has.subL (Has.of_own s 2 rfl) 1 32 (D := idArr n.me.2) (ndArr_id _ _ _ _)) h row23 rfl (by first | exact idArr_size _ | exact bytesF_size _ _) rfl ?_; intro f h
          refine s_on h rfl rfl rfl ?_
          refine s_call h s fnc19 (ret_val (.bool true) (rin_any _ _ _ _) (congrArg Value.bool q1)) rfl rfl ?_; intro f w1 v9 hT hE h s; obtain rfl := hT
          refine s_pure h (ru_pick_f (h.ev rfl) (h.ev rfl)) rfl ?_; intro f h
          refine s_nil ?_
          refine hK5 _ _ ?_
          refine wpIn_cond_true (h.ev rfl) ?_
          refine c_region ?_
          refine s_load_row 1 h s row25 rfl rfl (mbArr_size _) rfl ?_; intro f h
          refine s_pure h (ru_field fld28_1 (h.ev rfl)) rfl ?_; intro f h
          refine s_store_sub 2 h s row25 rfl rfl rfl (mbArr_size _) (by rw [ndArr_size]; omega) (mbArr_ones _) ?_; intro w1 s
          replace s := s.recell (D := ndArr n.me x vs vf) 2 rfl (nd_setp _ _ _ _ _)
          refine s_nil ?_
          refine hK4 _ _ ?_
          refine c_seq fun K7 hK7 => ?_
          refine c_region ?_
          refine s_load_row 2 h s row28 rfl rfl (ndArr_size _ _ _ _) rfl ?_; intro f h
          refine s_store_row 0 h s row28 rfl rfl rfl (ndArr_size _ _ _ _) (ndArr_size _ _ _ _) (ndArr_ones (rd_one (hRs.keep s.ext)) (rd_one (hRf.keep s.ext))) ?_; intro w1 s
          refine s_nil ?_
          refine hK7 _ _ ?_
          refine wpIn_ret ?_
          exact e_row 0 rfl h s row28 rfl rfl (ndArr_size _ _ _ _) (by show _ = _; rw [ntP_d g0 g1 q0 q1])
      · skip
        refine c_region ?_
        refine s_pure h (ru_field fld28_1 (h.ev rfl)) rfl ?_; intro f h
        refine s_load_at (Has.subL (Has.of_own s 2 rfl) 33 33 (D := mbArr n.pr) (ndArr_pr _ _ _ _)) h row25 rfl (mbArr_size _) rfl ?_; intro f h
        refine s_call h s fnc18 (ret_val (.bool true) (rnone_any n.pr _) (congrArg Value.bool q0)) rfl rfl ?_; intro f w1 v9 hT hE h s; obtain rfl := hT
        refine s_pure h (ru_move (h.ev rfl)) rfl ?_; intro f h
        refine s_off (b := false) h rfl rfl rfl rfl ?_; intro f h
        refine s_off (b := false) h rfl rfl rfl rfl ?_; intro f h
        refine s_off (b := false) h rfl rfl rfl rfl ?_; intro f h
        refine s_off (b := false) h rfl rfl rfl rfl ?_; intro f h
        refine s_off (b := false) h rfl rfl rfl rfl ?_; intro f h
        refine s_off (b := false) h rfl rfl rfl rfl ?_; intro f h
        refine s_off (b := false) h rfl rfl rfl rfl ?_; intro f h
        refine s_off (b := false) h rfl rfl rfl rfl ?_; intro f h
        refine s_off (b := false) h rfl rfl rfl rfl ?_; intro f h
        refine s_pure h (ru_pick_t (h.ev rfl) (h.ev rfl)) rfl ?_; intro f h
        refine s_nil ?_
        refine hK5 _ _ ?_
        refine wpIn_cond_true (h.ev rfl) ?_
        refine c_region ?_
        refine s_load_row 1 h s row25 rfl rfl (mbArr_size _) rfl ?_; intro f h
        refine s_pure h (ru_field fld28_1 (h.ev rfl)) rfl ?_; intro f h
        refine s_store_sub 2 h s row25 rfl rfl rfl (mbArr_size _) (by rw [ndArr_size]; omega) (mbArr_ones _) ?_; intro w1 s
        replace s := s.recell (D := ndArr n.me x vs vf) 2 rfl (nd_setp _ _ _ _ _)
        refine s_nil ?_
        refine hK4 _ _ ?_
        refine c_seq fun K8 hK8 => ?_
        refine c_region ?_
        refine s_load_row 2 h s row28 rfl rfl (ndArr_size _ _ _ _) rfl ?_; intro f h
        refine s_store_row 0 h s row28 rfl rfl rfl (ndArr_size _ _ _ _) (ndArr_size _ _ _ _) (ndArr_ones (rd_one (hRs.keep s.ext)) (rd_one (hRf.keep s.ext))) ?_; intro w1 s
        refine s_nil ?_
        refine hK8 _ _ ?_
        refine wpIn_ret ?_
        exact e_row 0 rfl h s row28 rfl rfl (ndArr_size _ _ _ _) (by show _ = _; rw [ntP_c g0 g1 q0])
    · skip
      refine c_region ?_
      refine s_pure h (ru_field fld25_0 (h.ev rfl)) rfl ?_; intro f h
      refine s_load_at1 (cell_of_has (Has.of_own s 1 rfl) 0 (mbArr_no _)) h one3 rfl rfl ?_; intro f h
      refine s_pure h (ru_field fld28_0 (h.ev rfl)) rfl ?_; intro f h
      refine s_pure h (ru_field fld25_0 (h.ev rfl)) rfl ?_; intro f h
      refine s_load_at1 (cell_of_has (Has.of_own s 2 rfl) 0 (ndArr_no _ _ _ _)) h one3 rfl rfl ?_; intro f h
      refine s_pure h (ru_val (.bool false) (ru_eql (h.ev rfl) (h.ev rfl)) (congrArg Value.bool g0)) rfl ?_; intro f h
      refine s_pure h (ru_move (h.ev rfl)) rfl ?_; intro f h
      refine s_on h rfl rfl rfl ?_
      refine s_pure h (ru_field fld25_1 (h.ev rfl)) rfl ?_; intro f h
      refine s_on h rfl rfl rfl ?_
      refine s_load_at (Has.subL (Has.of_own s 1 rfl) 1 32 (D := idArr (_)) (mbArr_id _)) h row23 rfl (by first | exact idArr_size _ | exact bytesF_size _ _) rfl ?_; intro f h
      refine s_on h rfl rfl rfl ?_
      refine s_pure h (ru_field fld28_0 (h.ev rfl)) rfl ?_; intro f h
      refine s_on h rfl rfl rfl ?_
      refine s_pure h (ru_field fld25_1 (h.ev rfl)) rfl ?_; intro f h
      refine s_on h rfl rfl rfl ?_
      refine s_load_at (Has.subL (Has.of_own s 2 rfl) 1 32 (D := idArr n.me.2) (ndArr_id _ _ _ _)) h row23 rfl (by first | exact idArr_size _ | exact bytesF_size _ _) rfl ?_; intro f h
      refine s_on h rfl rfl rfl ?_
      refine s_pure h (ru_val (.bool true) (ru_eql_id idTy (h.ev rfl) (h.ev rfl)) (congrArg Value.bool g1)) rfl ?_; intro f h
      refine s_pure h (ru_pick_f (h.ev rfl) (h.ev rfl)) rfl ?_; intro f h
      refine s_nil ?_
      refine hK3 _ _ ?_
      refine wpIn_cond_true (h.ev rfl) ?_
      refine c_seq fun K9 hK9 => ?_
      refine c_region ?_
      refine s_load_row 2 h s row28 rfl rfl (ndArr_size _ _ _ _) rfl ?_; intro f h
      refine s_store_row 0 h s row28 rfl rfl rfl (ndArr_size _ _ _ _) (ndArr_size _ _ _ _) (ndArr_ones (rd_one (hRs.keep s.ext)) (rd_one (hRf.keep s.ext))) ?_; intro w1 s
      refine s_nil ?_
      refine hK9 _ _ ?_
      refine wpIn_ret ?_
      refine t_ret ?_
      exact e_row 0 rfl h s row28 rfl rfl (ndArr_size _ _ _ _) (by show _ = _; rw [ntP_b g1])
  · skip
    refine c_region ?_
    refine s_pure h (ru_field fld25_0 (h.ev rfl)) rfl ?_; intro f h
    refine s_load_at1 (cell_of_has (Has.of_own s 1 rfl) 0 (mbArr_no _)) h one3 rfl rfl ?_; intro f h
    refine s_pure h (ru_field fld28_0 (h.ev rfl)) rfl ?_; intro f h
    refine s_pure h (ru_field fld25_0 (h.ev rfl)) rfl ?_; intro f h
    refine s_load_at1 (cell_of_has (Has.of_own s 2 rfl) 0 (ndArr_no _ _ _ _)) h one3 rfl rfl ?_; intro f h
    refine s_pure h (ru_val (.bool true) (ru_eql (h.ev rfl) (h.ev rfl)) (congrArg Value.bool g0)) rfl ?_; intro f h
    refine s_pure h (ru_move (h.ev rfl)) rfl ?_; intro f h
    refine s_off (b := false) h rfl rfl rfl rfl ?_; intro f h
    refine s_off (b := false) h rfl rfl rfl rfl ?_; intro f h
    refine s_off (b := false) h rfl rfl rfl rfl ?_; intro f h
    refine s_off (b := false) h rfl rfl rfl rfl ?_; intro f h
    refine s_off (b := false) h rfl rfl rfl rfl ?_; intro f h
    refine s_off (b := false) h rfl rfl rfl rfl ?_; intro f h
    refine s_pure h (ru_pick_t (h.ev rfl) (h.ev rfl)) rfl ?_; intro f h
    refine s_nil ?_
    refine hK3 _ _ ?_
    refine wpIn_cond_true (h.ev rfl) ?_
    refine c_seq fun K10 hK10 => ?_
    refine c_region ?_
    refine s_load_row 2 h s row28 rfl rfl (ndArr_size _ _ _ _) rfl ?_; intro f h
    refine s_store_row 0 h s row28 rfl rfl rfl (ndArr_size _ _ _ _) (ndArr_size _ _ _ _) (ndArr_ones (rd_one (hRs.keep s.ext)) (rd_one (hRf.keep s.ext))) ?_; intro w1 s
    refine s_nil ?_
    refine hK10 _ _ ?_
    refine wpIn_ret ?_
    refine t_ret ?_
    exact e_row 0 rfl h s row28 rfl rfl (ndArr_size _ _ _ _) (by show _ = _; rw [ntP_a g0])

set_option maxHeartbeats 2000000 in
theorem rfollow_any (n : Nd) (vs vf : Value) (z : Nd) (ws wf : Value) (w : World) (hRs : RdZ w vs 33 n.sc.length (mbCells n.sc)) (hRf : RdZ w vf 33 n.fg.length (mbCells n.fg)) (hns : n.sc.length ≤ 400) (hnf : n.fg.length ≤ 400) (hZs : RdZ w ws 33 z.sc.length (mbCells z.sc)) (hZf : RdZ w wf 33 z.fg.length (mbCells z.fg)) (hzs : z.sc.length ≤ 400) (hzf : z.fg.length ≤ 400) (hz : RN z) : Calls Try.prog 24 [.agg (ndArr n.me n.pr vs vf), .agg (ndArr z.me z.pr ws wf)].toArray w (Ret w (FolR w 25 n.me n.pr (folS n z) vf)) := by
  refine c_enter Try.func24 rfl Try.ntmps24 rfl [(0, .agg (ndArr n.me n.pr vs vf)), (1, .agg (ndArr z.me z.pr ws wf))] (by simp) fun f h => ?_
  have s := St.start w
  refine c_seq fun K1 hK1 => ?_
  refine c_region ?_
  refine s_box (ndArr n.me n.pr vs vf) h s rfl rfl rfl ?_; intro f w1 b2 h s
  refine s_box (ndArr z.me z.pr ws wf) h s rfl rfl rfl ?_; intro f w1 b3 h s
  refine s_alloc (ndArr zMb zMb nilV nilV) h s zero28 rfl rfl ?_; intro f w1 b4 h s
  refine s_nil ?_
  refine hK1 _ _ ?_
  refine c_seq fun K2 hK2 => ?_
  refine c_region ?_
  refine s_bslice (vs := []) [] h s Try.underlying26 elm25 rfl rfl (by simp) rfl rfl rfl ?_; intro f w1 v10 h s
  replace s := s.resl (m := ([] : List Mb).length) (ys := mbCells []) 0 rfl rfl rfl
  refine s_pure h (ru_assign (h.ev rfl)) rfl ?_; intro f h
  refine s_nil ?_
  refine hK2 _ _ ?_
  refine c_seq fun K3 hK3 => ?_
  refine c_region ?_
  refine s_pure h (ru_field fld28_1 (h.ev rfl)) rfl ?_; intro f h
  refine s_load_at (Has.subL (Has.of_own s 2 rfl) 33 33 (D := mbArr z.pr) (ndArr_pr _ _ _ _)) h row25 rfl (mbArr_size _) rfl ?_; intro f h
  refine s_alloc (mbArr zMb) h s zero25 rfl rfl ?_; intro f w1 b6 h s
  refine s_store_row 0 h s row25 rfl rfl rfl (mbArr_size _) (mbArr_size _) (mbArr_ones _) ?_; intro w1 s
  refine s_nil ?_
  refine hK3 _ _ ?_
  refine c_seq fun K4 hK4 => ?_
  refine c_seq fun K5 hK5 => ?_
  refine c_join (fun aa ww => Sl 88 aa [(0, .agg (ndArr n.me n.pr vs vf)), (1, .agg (ndArr z.me z.pr ws wf)), (2, .pointer (some ⟨b2, 0, none⟩)), (3, .pointer (some ⟨b3, 0, none⟩)), (4, .pointer (some ⟨b4, 0, none⟩)), (5, v10), (6, .pointer (some ⟨b6, 0, none⟩)), (10, v10), (34, .bool (frB n.me z))] ∧ St w [.blk b6 (.cells ((mbArr z.pr)) 25), .sl v10 25 33 ([] : List Mb).length (mbCells []), .blk b4 (.cells (ndArr zMb zMb nilV nilV) 28), .blk b3 (.cells (ndArr z.me z.pr ws wf) 28), .blk b2 (.cells (ndArr n.me n.pr vs vf) 28)] ww) ?_ ?_
  · skip
    cases q0 : (decide (z.pr = nMb) : Bool)
    · skip
      cases q1 : (decide (z.pr.1 ≠ n.me.1) : Bool)
      · skip
        refine c_region ?_
        refine s_load_row 0 h s row25 rfl rfl (mbArr_size _) rfl ?_; intro f h
        refine s_call h s fnc18 (ret_val (.bool false) (rnone_any z.pr _) (congrArg Value.bool q0)) rfl rfl ?_; intro f w1 v9 hT hE h s; obtain rfl := hT
        refine s_pure h (ru_val (.bool true) (ru_not (h.ev rfl)) rfl) rfl ?_; intro f h
        refine s_pure h (ru_move (h.ev rfl)) rfl ?_; intro f h
        refine s_on h rfl rfl rfl ?_
        refine s_pure h (ru_field fld25_0 (h.ev rfl)) rfl ?_; intro f h
        refine s_on h rfl rfl rfl ?_
        refine s_load_at1 (cell_of_has (Has.of_own s 0 rfl) 0 (mbArr_no _)) h one3 rfl rfl ?_; intro f h
        refine s_on h rfl rfl rfl ?_
        refine s_pure h (ru_field fld28_0 (h.ev rfl)) rfl ?_; intro f h
        refine s_on h rfl rfl rfl ?_
        refine s_pure h (ru_field fld25_0 (h.ev rfl)) rfl ?_; intro f h
        refine s_on h rfl rfl rfl ?_
        refine s_load_at1 (cell_of_has (Has.of_own s 4 rfl) 0 (ndArr_no _ _ _ _)) h one3 rfl rfl ?_; intro f h
        refine s_on h rfl rfl rfl ?_
        refine s_pure h (ru_val (.bool false) (ru_neq (h.ev rfl) (h.ev rfl)) (congrArg Value.bool q1)) rfl ?_; intro f h
        refine s_pure h (ru_pick_t (h.ev rfl) (h.ev rfl)) rfl ?_; intro f h
        refine s_pure h (ru_move (h.ev rfl)) rfl ?_; intro f h
        refine s_off (b := true) h rfl rfl rfl rfl ?_; intro f h
        refine s_off (b := true) h rfl rfl rfl rfl ?_; intro f h
        refine s_off (b := true) h rfl rfl rfl rfl ?_; intro f h
        refine s_off (b := true) h rfl rfl rfl rfl ?_; intro f h
        refine s_off (b := true) h rfl rfl rfl rfl ?_; intro f h
        refine s_off (b := true) h rfl rfl rfl rfl ?_; intro f h
        refine s_off (b := true) h rfl rfl rfl rfl ?_; intro f h
        refine s_off (b := true) h rfl rfl rfl rfl ?_; intro f h
        refine s_off (b := true) h rfl rfl rfl rfl ?_; intro f h
        refine s_pure h (ru_pick_f (h.ev rfl) (h.ev rfl)) rfl ?_; intro f h
        refine s_nil ?_
        refine t_norm ?_
        exact ⟨h.only ⟨rfl, rfl, rfl, rfl, rfl, rfl, rfl, rfl, congrArg (fun b => some (Value.bool b)) (fr_n1 q1).symm, trivial⟩, St.as s ⟨rfl, rfl, rfl, rfl, rfl, trivial⟩⟩
      · skip
        cases q2 : (btw n.me.2 z.me.2 z.pr : Bool)
        · skip
          refine c_region ?_
          refine s_load_row 0 h s row25 rfl rfl (mbArr_size _) rfl ?_; intro f h
          refine s_call h s fnc18 (ret_val (.bool false) (rnone_any z.pr _) (congrArg Value.bool q0)) rfl rfl ?_; intro f w1 v9 hT hE h s; obtain rfl := hT
          refine s_pure h (ru_val (.bool true) (ru_not (h.ev rfl)) rfl) rfl ?_; intro f h
          refine s_pure h (ru_move (h.ev rfl)) rfl ?_; intro f h
          refine s_on h rfl rfl rfl ?_
          refine s_pure h (ru_field fld25_0 (h.ev rfl)) rfl ?_; intro f h
          refine s_on h rfl rfl rfl ?_
          refine s_load_at1 (cell_of_has (Has.of_own s 0 rfl) 0 (mbArr_no _)) h one3 rfl rfl ?_; intro f h
          refine s_on h rfl rfl rfl ?_
          refine s_pure h (ru_field fld28_0 (h.ev rfl)) rfl ?_; intro f h
          refine s_on h rfl rfl rfl ?_
          refine s_pure h (ru_field fld25_0 (h.ev rfl)) rfl ?_; intro f h
          refine s_on h rfl rfl rfl ?_
          refine s_load_at1 (cell_of_has (Has.of_own s 4 rfl) 0 (ndArr_no _ _ _ _)) h one3 rfl rfl ?_; intro f h
          refine s_on h rfl rfl rfl ?_
          refine s_pure h (ru_val (.bool true) (ru_neq (h.ev rfl) (h.ev rfl)) (congrArg Value.bool q1)) rfl ?_; intro f h
          refine s_pure h (ru_pick_t (h.ev rfl) (h.ev rfl)) rfl ?_; intro f h
          refine s_pure h (ru_move (h.ev rfl)) rfl ?_; intro f h
          refine s_on h rfl rfl rfl ?_
          refine s_pure h (ru_field fld25_1 (h.ev rfl)) rfl ?_; intro f h
          refine s_on h rfl rfl rfl ?_
          refine s_load_at (Has.subL (Has.of_own s 0 rfl) 1 32 (D := idArr (_)) (mbArr_id _)) h row23 rfl (by first | exact idArr_size _ | exact bytesF_size _ _) rfl ?_; intro f h
          refine s_on h rfl rfl rfl ?_
          refine s_pure h (ru_field fld28_0 (h.ev rfl)) rfl ?_; intro f h
          refine s_on h rfl rfl rfl ?_
          refine s_pure h (ru_field fld25_1 (h.ev rfl)) rfl ?_; intro f h
          refine s_on h rfl rfl rfl ?_
          refine s_load_at (Has.subL (Has.of_own s 4 rfl) 1 32 (D := idArr n.me.2) (ndArr_id _ _ _ _)) h row23 rfl (by first | exact idArr_size _ | exact bytesF_size _ _) rfl ?_; intro f h
          refine s_on h rfl rfl rfl ?_
          refine s_pure h (ru_field fld28_0 (h.ev rfl)) rfl ?_; intro f h
          refine s_on h rfl rfl rfl ?_
          refine s_pure h (ru_field fld25_1 (h.ev rfl)) rfl ?_; intro f h
          refine s_on h rfl rfl rfl ?_
          refine s_load_at (Has.subL (Has.of_own s 3 rfl) 1 32 (D := idArr z.me.2) (ndArr_id _ _ _ _)) h row23 rfl (by first | exact idArr_size _ | exact bytesF_size _ _) rfl ?_; intro f h
          refine s_on h rfl rfl rfl ?_
          refine s_call h s fnc49 (ret_val (.bool false) (between_any z.pr n.me.2 z.me.2 _) (congrArg Value.bool q2)) rfl rfl ?_; intro f w1 v9 hT hE h s; obtain rfl := hT
          refine s_pure h (ru_pick_t (h.ev rfl) (h.ev rfl)) rfl ?_; intro f h
          refine s_nil ?_
          refine t_norm ?_
          exact ⟨h.only ⟨rfl, rfl, rfl, rfl, rfl, rfl, rfl, rfl, congrArg (fun b => some (Value.bool b)) (fr_n2 q2).symm, trivial⟩, St.as s ⟨rfl, rfl, rfl, rfl, rfl, trivial⟩⟩
        · skip
          refine c_region ?_
          refine s_load_row 0 h s row25 rfl rfl (mbArr_size _) rfl ?_; intro f h
          refine s_call h s fnc18 (ret_val (.bool false) (rnone_any z.pr _) (congrArg Value.bool q0)) rfl rfl ?_; intro f w1 v9 hT hE h s; obtain rfl := hT
          refine s_pure h (ru_val (.bool true) (ru_not (h.ev rfl)) rfl) rfl ?_; intro f h
          refine s_pure h (ru_move (h.ev rfl)) rfl ?_; intro f h
          refine s_on h rfl rfl rfl ?_
          refine s_pure h (ru_field fld25_0 (h.ev rfl)) rfl ?_; intro f h
          refine s_on h rfl rfl rfl ?_
          refine s_load_at1 (cell_of_has (Has.of_own s 0 rfl) 0 (mbArr_no _)) h one3 rfl rfl ?_; intro f h
          refine s_on h rfl rfl rfl ?_
          refine s_pure h (ru_field fld28_0 (h.ev rfl)) rfl ?_; intro f h
          refine s_on h rfl rfl rfl ?_
          refine s_pure h (ru_field fld25_0 (h.ev rfl)) rfl ?_; intro f h
          refine s_on h rfl rfl rfl ?_
          refine s_load_at1 (cell_of_has (Has.of_own s 4 rfl) 0 (ndArr_no _ _ _ _)) h one3 rfl rfl ?_; intro f h
          refine s_on h rfl rfl rfl ?_
          refine s_pure h (ru_val (.bool true) (ru_neq (h.ev rfl) (h.ev rfl)) (congrArg Value.bool q1)) rfl ?_; intro f h
          refine s_pure h (ru_pick_t (h.ev rfl) (h.ev rfl)) rfl ?_; intro f h
          refine s_pure h (ru_move (h.ev rfl)) rfl ?_; intro f h
          refine s_on h rfl rfl rfl ?_
          refine s_pure h (ru_field fld25_1 (h.ev rfl)) rfl ?_; intro f h
          refine s_on h rfl rfl rfl ?_
          refine s_load_at (Has.subL (Has.of_own s 0 rfl) 1 32 (D := idArr (_)) (mbArr_id _)) h row23 rfl (by first | exact idArr_size _ | exact bytesF_size _ _) rfl ?_; intro f h
          refine s_on h rfl rfl rfl ?_
          refine s_pure h (ru_field fld28_0 (h.ev rfl)) rfl ?_; intro f h
          refine s_on h rfl rfl rfl ?_
          refine s_pure h (ru_field fld25_1 (h.ev rfl)) rfl ?_; intro f h
          refine s_on h rfl rfl rfl ?_
          refine s_load_at (Has.subL (Has.of_own s 4 rfl) 1 32 (D := idArr n.me.2) (ndArr_id _ _ _ _)) h row23 rfl (by first | exact idArr_size _ | exact bytesF_size _ _) rfl ?_; intro f h
          refine s_on h rfl rfl rfl ?_
          refine s_pure h (ru_field fld28_0 (h.ev rfl)) rfl ?_; intro f h
          refine s_on h rfl rfl rfl ?_
          refine s_pure h (ru_field fld25_1 (h.ev rfl)) rfl ?_; intro f h
          refine s_on h rfl rfl rfl ?_
          refine s_load_at (Has.subL (Has.of_own s 3 rfl) 1 32 (D := idArr z.me.2) (ndArr_id _ _ _ _)) h row23 rfl (by first | exact idArr_size _ | exact bytesF_size _ _) rfl ?_; intro f h
          refine s_on h rfl rfl rfl ?_
          refine s_call h s fnc49 (ret_val (.bool true) (between_any z.pr n.me.2 z.me.2 _) (congrArg Value.bool q2)) rfl rfl ?_; intro f w1 v9 hT hE h s; obtain rfl := hT
          refine s_pure h (ru_pick_t (h.ev rfl) (h.ev rfl)) rfl ?_; intro f h
          refine s_nil ?_
          refine t_norm ?_
          exact ⟨h.only ⟨rfl, rfl, rfl, rfl, rfl, rfl, rfl, rfl, congrArg (fun b => some (Value.bool b)) (fr_y q0 q1 q2).symm, trivial⟩, St.as s ⟨rfl, rfl, rfl, rfl, rfl, trivial⟩⟩
    · skip
      refine c_region ?_
      refine s_load_row 0 h s row25 rfl rfl (mbArr_size _) rfl ?_; intro f h
      refine s_call h s fnc18 (ret_val (.bool true) (rnone_any z.pr _) (congrArg Value.bool q0)) rfl rfl ?_; intro f w1 v9 hT hE h s; obtain rfl := hT
      refine s_pure h (ru_val (.bool false) (ru_not (h.ev rfl)) rfl) rfl ?_; intro f h
      refine s_pure h (ru_move (h.ev rfl)) rfl ?_; intro f h
      refine s_off (b := true) h rfl rfl rfl rfl ?_; intro f h
      refine s_off (b := true) h rfl rfl rfl rfl ?_; intro f h
      refine s_off (b := true) h rfl rfl rfl rfl ?_; intro f h
      refine s_off (b := true) h rfl rfl rfl rfl ?_; intro f h
      refine s_off (b := true) h rfl rfl rfl rfl ?_; intro f h
      refine s_off (b := true) h rfl rfl rfl rfl ?_; intro f h
      refine s_pure h (ru_pick_f (h.ev rfl) (h.ev rfl)) rfl ?_; intro f h
      refine s_pure h (ru_move (h.ev rfl)) rfl ?_; intro f h
      refine s_off (b := true) h rfl rfl rfl rfl ?_; intro f h
      refine s_off (b := true) h rfl rfl rfl rfl ?_; intro f h
      refine s_off (b := true) h rfl rfl rfl rfl ?_; intro f h
      refine s_off (b := true) h rfl rfl rfl rfl ?_; intro f h
      refine s_off (b := true) h rfl rfl rfl rfl ?_; intro f h
      refine s_off (b := true) h rfl rfl rfl rfl ?_; intro f h
      refine s_off (b := true) h rfl rfl rfl rfl ?_; intro f h
      refine s_off (b := true) h rfl rfl rfl rfl ?_; intro f h
      refine s_off (b := true) h rfl rfl rfl rfl ?_; intro f h
      refine s_pure h (ru_pick_f (h.ev rfl) (h.ev rfl)) rfl ?_; intro f h
      refine s_nil ?_
      refine t_norm ?_
      exact ⟨h.only ⟨rfl, rfl, rfl, rfl, rfl, rfl, rfl, rfl, congrArg (fun b => some (Value.bool b)) (fr_n0 q0).symm, trivial⟩, St.as s ⟨rfl, rfl, rfl, rfl, rfl, trivial⟩⟩
  rintro f w1 ⟨h, s⟩
  refine hK5 _ _ ?_
  refine c_join (fun aa ww => ∃ vj : Value, Sl 88 aa [(0, .agg (ndArr n.me n.pr vs vf)), (1, .agg (ndArr z.me z.pr ws wf)), (2, .pointer (some ⟨b2, 0, none⟩)), (3, .pointer (some ⟨b3, 0, none⟩)), (4, .pointer (some ⟨b4, 0, none⟩)), (6, .pointer (some ⟨b6, 0, none⟩)), (5, vj)] ∧ St w [.blk b6 (.cells ((mbArr z.pr)) 25), .sl vj 25 33 (preR n z).length (mbCells (preR n z)), .blk b4 (.cells (ndArr zMb zMb nilV nilV) 28), .blk b3 (.cells (ndArr z.me z.pr ws wf) 28), .blk b2 (.cells (ndArr n.me n.pr vs vf) 28)] ww) ?_ ?_
  · skip
    refine c_cond h rfl (fun hc => ?_) (fun hc => ?_)
    · refine c_region ?_
      have hpl := preR_le n z
      refine s_pure h (ru_move (h.ev rfl)) rfl ?_; intro f h
      refine s_load_row 0 h s row25 rfl rfl (mbArr_size _) rfl ?_; intro f h
      refine s_bslice (vs := [.agg (mbArr z.pr)]) [.tmp 36] h s Try.underlying26 elm25 rfl rfl (mb_sz _) rfl rfl rfl ?_; intro f w1 v37 h s
      refine s_append 2 0 h s Try.underlying26 elm25 rfl rfl rfl rfl (by decide) (by rw [one_mb]; exact mbArr_ones _) (by show 0 + 1 ≤ maxLen; unfold maxLen; omega) (by show (0 + 1) * _ ≤ _; omega) rfl ?_; intro f w1 v38 h s
      replace s := s.pick _ (List.sublist_cons_self _ _)
      replace s := s.resl (m := [z.pr].length) (ys := mbCells [z.pr]) 1 rfl rfl (by rw [one_mb, mbCells_one]; rfl)
      refine s_pure h (ru_assign (h.ev rfl)) rfl ?_; intro f h
      refine s_nil ?_
      refine t_norm ?_
      exact ⟨v38, h.only ⟨rfl, rfl, rfl, rfl, rfl, rfl, rfl, trivial⟩, St.as s ⟨rfl, sl_eq (by rw [preR_y hc]) (by rw [preR_y hc]), rfl, rfl, rfl, trivial⟩⟩
    · refine wpIn_skip ?_
      refine t_norm ?_
      exact ⟨v10, h.only ⟨rfl, rfl, rfl, rfl, rfl, rfl, rfl, trivial⟩, St.as s ⟨rfl, sl_eq (by rw [preR_n hc]) (by rw [preR_n hc]), rfl, rfl, rfl, trivial⟩⟩
  rintro f w1 ⟨vj, h, s⟩
  refine hK4 _ _ ?_
  refine c_seq fun K8 hK8 => ?_
  refine c_region ?_
  have hpl := preR_le n z
  refine s_pure h (ru_move (h.ev rfl)) rfl ?_; intro f h
  refine s_pure h (ru_field fld28_0 (h.ev rfl)) rfl ?_; intro f h
  refine s_load_at (Has.subL (Has.of_own s 3 rfl) 0 33 (D := mbArr z.me) (ndArr_me _ _ _ _)) h row25 rfl (mbArr_size _) rfl ?_; intro f h
  refine s_bslice (vs := [.agg (mbArr z.me)]) [.tmp 41] h s Try.underlying26 elm25 rfl rfl (mb_sz _) rfl rfl rfl ?_; intro f w1 v42 h s
  refine s_append 2 0 h s Try.underlying26 elm25 rfl rfl rfl rfl (by decide) (by rw [one_mb]; exact mbArr_ones _) (by unfold maxLen; omega) (by omega) rfl ?_; intro f w1 v43 h s
  replace s := s.pick _ (List.sublist_cons_self _ _)
  replace s := s.resl (m := ((preR n z) ++ [z.me]).length) (ys := mbCells ((preR n z) ++ [z.me])) 1 rfl (by rw [List.length_append]; rfl) (by rw [one_mb, mb_snoc])
  refine s_pure h (ru_assign (h.ev rfl)) rfl ?_; intro f h
  refine s_nil ?_
  refine hK8 _ _ ?_
  refine c_seq fun K9 hK9 => ?_
  refine c_region ?_
  refine s_pure h (ru_move (h.ev rfl)) rfl ?_; intro f h
  refine s_pure h (ru_field fld28_2 (h.ev rfl)) rfl ?_; intro f h
  refine s_load_at1 (V := ws) (cell_of_has (Has.of_own s 3 rfl) 66 (ndArr_sc _ _ _ _)) h one26 rfl rfl ?_; intro f h
  refine s_append_rd 1 (hZs.keep s.ext) h s Try.underlying26 elm25 rfl rfl rfl (mbCells_ones _) (by rw [List.length_append]; show _ + 1 + _ ≤ _; unfold maxLen; omega) (by rw [List.length_append]; show (_ + 1 + _) * _ ≤ _; omega) rfl ?_; intro f w1 v47 h s
  replace s := s.resl (m := (rowR n z).length) (ys := mbCells (rowR n z)) 1 rfl (by rw [rowR_app]; exact List.length_append.symm) (by rw [rowR_app]; exact (mbCells_app _ _).symm)
  have hrl := rowR_len n z
  refine s_pure h (ru_assign (h.ev rfl)) rfl ?_; intro f h
  refine s_nil ?_
  refine hK9 _ _ ?_
  refine c_seq fun K10 hK10 => ?_
  refine c_region ?_
  refine s_bslice (vs := []) [] h s Try.underlying26 elm25 rfl rfl (by simp) rfl rfl rfl ?_; intro f w1 v48 h s
  refine s_pure h (ru_assign (h.ev rfl)) rfl ?_; intro f h
  refine s_nil ?_
  refine hK10 _ _ ?_
  refine c_seq fun K11 hK11 => ?_
  refine c_seq fun K12 hK12 => ?_
  refine c_region ?_
  refine s_pure h (ru_move (h.ev rfl)) rfl ?_; intro f h
  refine s_len_sl 2 h s Try.underlying26 rfl rfl rfl ?_; intro f h
  refine s_pure h (ru_move (h.ev rfl)) rfl ?_; intro f h
  refine s_nil ?_
  refine hK12 _ _ ?_
  refine wpIn_block ?_
  refine wpIn_loop_ghost (fun nn aa ww => ∃ k : Nat, ∃ vb : Value, Sl 88 aa [(0, .agg (ndArr n.me n.pr vs vf)), (1, .agg (ndArr z.me z.pr ws wf)), (2, .pointer (some ⟨b2, 0, none⟩)), (3, .pointer (some ⟨b3, 0, none⟩)), (4, .pointer (some ⟨b4, 0, none⟩)), (5, v47), (6, .pointer (some ⟨b6, 0, none⟩)), (39, vj), (42, v42), (43, v43), (44, v43), (47, v47), (7, vb), (49, v47), (50, .int .i64 ((rowR n z).length : Int)), (51, .int .i64 (k : Int))] ∧ St w [.sl vb 25 33 (folF ((rowU n.me.1 (rowR n z)).take k)).length (mbCells (folF ((rowU n.me.1 (rowR n z)).take k))), .blk b6 (.cells ((mbArr z.pr)) 25), .sl v47 25 33 (rowR n z).length (mbCells (rowR n z)), .blk b4 (.cells (ndArr zMb zMb nilV nilV) 28), .blk b3 (.cells (ndArr z.me z.pr ws wf) 28), .blk b2 (.cells (ndArr n.me n.pr vs vf) 28)] ww ∧ nn = (rowR n z).length - k ∧ k ≤ (rowU n.me.1 (rowR n z)).length) ((rowR n z).length - (0)) ⟨0, v48, h.only ⟨rfl, rfl, rfl, rfl, rfl, rfl, rfl, rfl, rfl, rfl, rfl, rfl, rfl, rfl, rfl, slot_int rfl (by omega), trivial⟩, s.as ⟨rfl, rfl, rfl, rfl, rfl, rfl, trivial⟩, rfl, Nat.zero_le _⟩ ?_
  rintro _ f w1 ⟨k, vb, h, s, hnn, hp0⟩
  have hrl9 := rowU_le n.me.1 (rowR n z)
  have hf4 := fol_4 ((rowU n.me.1 (rowR n z)).take k)
  refine c_seq fun K13 hK13 => ?_
  refine c_region ?_
  refine s_pure h (ru_lss (h.ev rfl) (h.ev rfl)) rfl ?_; intro f h
  refine s_nil ?_
  refine hK13 _ _ ?_
  refine c_seq fun K14 hK14 => ?_
  refine c_cond h rfl (fun hc => ?_) (fun hc => ?_)
  · replace hc := of_decide_eq_true hc
    refine wpIn_skip ?_
    refine hK14 _ _ ?_
    refine c_seq fun K15 hK15 => ?_
    refine wpIn_block ?_
    refine c_seq fun K16 hK16 => ?_
    refine c_region ?_
    have hkl : k < (rowR n z).length := by omega
    refine s_pure h (ru_ixz (RdZ.of_own (s.getSl 2 rfl)) (k) Try.underlying26 szo25 (h.ev rfl) (h.ev rfl) (by omega) (by omega)) rfl ?_; intro f h
    refine s_load_at ((RdZ.of_own (s.getSl 2 rfl)).el (k) (by omega) (by decide) (D := mbArr ((rowR n z).getD k zMb)) (mb_elD (rowR n z) k hkl)) h row25 rfl (mbArr_size _) rfl ?_; intro f h
    refine s_alloc (mbArr zMb) h s zero25 rfl rfl ?_; intro f w1 b9 h s
    refine s_store_row 0 h s row25 rfl rfl rfl (mbArr_size _) (mbArr_size _) (mbArr_ones _) ?_; intro w1 s
    refine s_nil ?_
    refine hK16 _ _ ?_
    refine c_seq fun K17 hK17 => ?_
    refine c_seq fun K18 hK18 => ?_
    cases s9 : (decide (((rowR n z).getD k zMb).1 = n.me.1) : Bool)
    · skip
      refine c_region ?_
      refine s_pure h (ru_field fld25_0 (h.ev rfl)) rfl ?_; intro f h
      refine s_load_at1 (cell_of_has (Has.of_own s 0 rfl) 0 (mbArr_no _)) h one3 rfl rfl ?_; intro f h
      refine s_pure h (ru_field fld28_0 (h.ev rfl)) rfl ?_; intro f h
      refine s_pure h (ru_field fld25_0 (h.ev rfl)) rfl ?_; intro f h
      refine s_load_at1 (cell_of_has (Has.of_own s 6 rfl) 0 (ndArr_no _ _ _ _)) h one3 rfl rfl ?_; intro f h
      refine s_pure h (ru_val (.bool false) (ru_eql (h.ev rfl) (h.ev rfl)) (congrArg Value.bool s9)) rfl ?_; intro f h
      refine s_nil ?_
      refine hK18 _ _ ?_
      refine wpIn_cond_false (h.ev rfl) ?_
      refine wpIn_skip ?_
      refine hK17 _ _ ?_
      refine c_seq fun K19 hK19 => ?_
      cases g1 : (hasB (folF ((rowU n.me.1 (rowR n z)).take k)) ((rowR n z).getD k zMb).1 : Bool)
      · skip
        cases g0 : (decide ((folF ((rowU n.me.1 (rowR n z)).take k)).length < 4) : Bool)
        · skip
          refine c_region ?_
          have hdm := rowU_lt hp0 hkl s9
          have hnx : (folF ((rowU n.me.1 (rowR n z)).take (k + 1))) = keepF (folF ((rowU n.me.1 (rowR n z)).take k)) ((rowR n z).getD k zMb) := by rw [fol_atF hdm, rowU_get hdm]
          refine s_pure h (ru_move (h.ev rfl)) rfl ?_; intro f h
          refine s_pure h (ru_field fld25_0 (h.ev rfl)) rfl ?_; intro f h
          refine s_load_at1 (cell_of_has (Has.of_own s 0 rfl) 0 (mbArr_no _)) h one3 rfl rfl ?_; intro f h
          refine s_call h s fnc28 (rfind_any (folF ((rowU n.me.1 (rowR n z)).take k)) vb ((rowR n z).getD k zMb).1 _ (RdZ.of_own (s.getSl 1 rfl)) (by omega)) rfl rfl ?_; intro f w1 v9 hT hE h s; obtain rfl := hT
          refine s_pure h (ru_fieldV flt25_0 one3 (h.ev rfl) (mbArr_no _)) rfl ?_; intro f h
          refine s_pure h (ru_val (.bool true) (ru_lss (h.ev rfl) (h.ev rfl)) (congrArg Value.bool ((ref_has (fun x hx => fol_pos hz hx)).trans (by rw [g1]; rfl)))) rfl ?_; intro f h
          refine s_pure h (ru_move (h.ev rfl)) rfl ?_; intro f h
          refine s_on h rfl rfl rfl ?_
          refine s_pure h (ru_move (h.ev rfl)) rfl ?_; intro f h
          refine s_on h rfl rfl rfl ?_
          refine s_len_sl 1 h s Try.underlying26 rfl rfl rfl ?_; intro f h
          refine s_on h rfl rfl rfl ?_
          refine s_pure h (ru_val (.bool false) (ru_lss (h.ev rfl) (h.ev rfl)) (congrArg Value.bool (decide_eq_false (by have := of_decide_eq_false g0; omega)))) rfl ?_; intro f h
          refine s_pure h (ru_pick_t (h.ev rfl) (h.ev rfl)) rfl ?_; intro f h
          refine s_nil ?_
          refine hK19 _ _ ?_
          refine wpIn_cond_false (h.ev rfl) ?_
          refine wpIn_skip ?_
          refine b_norm ?_
          refine hK15 _ _ ?_
          refine c_region ?_
          refine s_pure h (ru_add (h.ev rfl) (h.ev rfl) (by omega)) rfl ?_; intro f h
          refine s_pure h (ru_move (h.ev rfl)) rfl ?_; intro f h
          refine s_nil ?_
          refine t_norm ?_
          have hsame : (folF ((rowU n.me.1 (rowR n z)).take (k + 1))) = (folF ((rowU n.me.1 (rowR n z)).take k)) := by rw [hnx, add_n0 (of_decide_eq_false g0)]
          exact ⟨_, by omega, ⟨k + 1, vb, h.only ⟨rfl, rfl, rfl, rfl, rfl, rfl, rfl, rfl, rfl, rfl, rfl, rfl, rfl, rfl, rfl, slot_int rfl (by omega), trivial⟩, St.as (s.pick _ (List.sublist_append_right [_] _)) ⟨sl_eq (by rw [hsame]) (by rw [hsame]), rfl, rfl, rfl, rfl, rfl, trivial⟩, rfl, hdm⟩⟩
        · skip
          refine c_region ?_
          have hdm := rowU_lt hp0 hkl s9
          have hnx : (folF ((rowU n.me.1 (rowR n z)).take (k + 1))) = keepF (folF ((rowU n.me.1 (rowR n z)).take k)) ((rowR n z).getD k zMb) := by rw [fol_atF hdm, rowU_get hdm]
          refine s_pure h (ru_move (h.ev rfl)) rfl ?_; intro f h
          refine s_pure h (ru_field fld25_0 (h.ev rfl)) rfl ?_; intro f h
          refine s_load_at1 (cell_of_has (Has.of_own s 0 rfl) 0 (mbArr_no _)) h one3 rfl rfl ?_; intro f h
          refine s_call h s fnc28 (rfind_any (folF ((rowU n.me.1 (rowR n z)).take k)) vb ((rowR n z).getD k zMb).1 _ (RdZ.of_own (s.getSl 1 rfl)) (by omega)) rfl rfl ?_; intro f w1 v9 hT hE h s; obtain rfl := hT
          refine s_pure h (ru_fieldV flt25_0 one3 (h.ev rfl) (mbArr_no _)) rfl ?_; intro f h
          refine s_pure h (ru_val (.bool true) (ru_lss (h.ev rfl) (h.ev rfl)) (congrArg Value.bool ((ref_has (fun x hx => fol_pos hz hx)).trans (by rw [g1]; rfl)))) rfl ?_; intro f h
          refine s_pure h (ru_move (h.ev rfl)) rfl ?_; intro f h
          refine s_on h rfl rfl rfl ?_
          refine s_pure h (ru_move (h.ev rfl)) rfl ?_; intro f h
          refine s_on h rfl rfl rfl ?_
          refine s_len_sl 1 h s Try.underlying26 rfl rfl rfl ?_; intro f h
          refine s_on h rfl rfl rfl ?_
          refine s_pure h (ru_val (.bool true) (ru_lss (h.ev rfl) (h.ev rfl)) (congrArg Value.bool (decide_eq_true (by have := of_decide_eq_true g0; omega)))) rfl ?_; intro f h
          refine s_pure h (ru_pick_t (h.ev rfl) (h.ev rfl)) rfl ?_; intro f h
          refine s_nil ?_
          refine hK19 _ _ ?_
          refine wpIn_cond_true (h.ev rfl) ?_
          refine c_region ?_
          refine s_pure h (ru_move (h.ev rfl)) rfl ?_; intro f h
          refine s_load_row 0 h s row25 rfl rfl (mbArr_size _) rfl ?_; intro f h
          refine s_bslice (vs := [.agg (mbArr ((rowR n z).getD k zMb))]) [.tmp 73] h s Try.underlying26 elm25 rfl rfl (mb_sz _) rfl rfl rfl ?_; intro f w1 v74 h s
          refine s_append 2 0 h s Try.underlying26 elm25 rfl rfl rfl rfl (by decide) (by rw [one_mb]; exact mbArr_ones _) (by unfold maxLen; omega) (by omega) rfl ?_; intro f w1 v75 h s
          replace s := s.pick _ (List.sublist_cons_self _ _)
          replace s := s.resl (m := (folF ((rowU n.me.1 (rowR n z)).take (k + 1))).length) (ys := mbCells (folF ((rowU n.me.1 (rowR n z)).take (k + 1)))) 1 rfl (by rw [hnx, add_y (of_decide_eq_true g0) g1, List.length_append]; rfl) (by rw [hnx, add_y (of_decide_eq_true g0) g1, one_mb, mb_snoc])
          refine s_pure h (ru_assign (h.ev rfl)) rfl ?_; intro f h
          refine s_nil ?_
          refine b_norm ?_
          refine hK15 _ _ ?_
          refine c_region ?_
          refine s_pure h (ru_add (h.ev rfl) (h.ev rfl) (by omega)) rfl ?_; intro f h
          refine s_pure h (ru_move (h.ev rfl)) rfl ?_; intro f h
          refine s_nil ?_
          refine t_norm ?_
          exact ⟨_, by omega, ⟨k + 1, v75, h.only ⟨rfl, rfl, rfl, rfl, rfl, rfl, rfl, rfl, rfl, rfl, rfl, rfl, rfl, rfl, rfl, slot_int rfl (by omega), trivial⟩, St.as (s.pick _ (List.sublist_append_right [_] _)) ⟨rfl, rfl, rfl, rfl, rfl, rfl, trivial⟩, rfl, hdm⟩⟩
      · skip
        refine c_region ?_
        have hdm := rowU_lt hp0 hkl s9
        have hnx : (folF ((rowU n.me.1 (rowR n z)).take (k + 1))) = keepF (folF ((rowU n.me.1 (rowR n z)).take k)) ((rowR n z).getD k zMb) := by rw [fol_atF hdm, rowU_get hdm]
        refine s_pure h (ru_move (h.ev rfl)) rfl ?_; intro f h
        refine s_pure h (ru_field fld25_0 (h.ev rfl)) rfl ?_; intro f h
        refine s_load_at1 (cell_of_has (Has.of_own s 0 rfl) 0 (mbArr_no _)) h one3 rfl rfl ?_; intro f h
        refine s_call h s fnc28 (rfind_any (folF ((rowU n.me.1 (rowR n z)).take k)) vb ((rowR n z).getD k zMb).1 _ (RdZ.of_own (s.getSl 1 rfl)) (by omega)) rfl rfl ?_; intro f w1 v9 hT hE h s; obtain rfl := hT
        refine s_pure h (ru_fieldV flt25_0 one3 (h.ev rfl) (mbArr_no _)) rfl ?_; intro f h
        refine s_pure h (ru_val (.bool false) (ru_lss (h.ev rfl) (h.ev rfl)) (congrArg Value.bool ((ref_has (fun x hx => fol_pos hz hx)).trans (by rw [g1]; rfl)))) rfl ?_; intro f h
        refine s_pure h (ru_move (h.ev rfl)) rfl ?_; intro f h
        refine s_off (b := true) h rfl rfl rfl rfl ?_; intro f h
        refine s_off (b := true) h rfl rfl rfl rfl ?_; intro f h
        refine s_off (b := true) h rfl rfl rfl rfl ?_; intro f h
        refine s_pure h (ru_pick_f (h.ev rfl) (h.ev rfl)) rfl ?_; intro f h
        refine s_nil ?_
        refine hK19 _ _ ?_
        refine wpIn_cond_false (h.ev rfl) ?_
        refine wpIn_skip ?_
        refine b_norm ?_
        refine hK15 _ _ ?_
        refine c_region ?_
        refine s_pure h (ru_add (h.ev rfl) (h.ev rfl) (by omega)) rfl ?_; intro f h
        refine s_pure h (ru_move (h.ev rfl)) rfl ?_; intro f h
        refine s_nil ?_
        refine t_norm ?_
        have hsame : (folF ((rowU n.me.1 (rowR n z)).take (k + 1))) = (folF ((rowU n.me.1 (rowR n z)).take k)) := by rw [hnx, add_n1 g1]
        exact ⟨_, by omega, ⟨k + 1, vb, h.only ⟨rfl, rfl, rfl, rfl, rfl, rfl, rfl, rfl, rfl, rfl, rfl, rfl, rfl, rfl, rfl, slot_int rfl (by omega), trivial⟩, St.as (s.pick _ (List.sublist_append_right [_] _)) ⟨sl_eq (by rw [hsame]) (by rw [hsame]), rfl, rfl, rfl, rfl, rfl, trivial⟩, rfl, hdm⟩⟩
    · skip
      refine c_region ?_
      refine s_pure h (ru_field fld25_0 (h.ev rfl)) rfl ?_; intro f h
      refine s_load_at1 (cell_of_has (Has.of_own s 0 rfl) 0 (mbArr_no _)) h one3 rfl rfl ?_; intro f h
      refine s_pure h (ru_field fld28_0 (h.ev rfl)) rfl ?_; intro f h
      refine s_pure h (ru_field fld25_0 (h.ev rfl)) rfl ?_; intro f h
      refine s_load_at1 (cell_of_has (Has.of_own s 6 rfl) 0 (ndArr_no _ _ _ _)) h one3 rfl rfl ?_; intro f h
      refine s_pure h (ru_val (.bool true) (ru_eql (h.ev rfl) (h.ev rfl)) (congrArg Value.bool s9)) rfl ?_; intro f h
      refine s_nil ?_
      refine hK18 _ _ ?_
      refine wpIn_cond_true (h.ev rfl) ?_
      refine wpIn_exit ?_
      refine t_exit ?_
      refine b_exit_other rfl ?_
      refine t_exit ?_
      refine t_exit ?_
      refine b_exit ?_
      refine hK11 _ _ ?_
      refine c_seq fun K20 hK20 => ?_
      refine c_seq fun K21 hK21 => ?_
      refine c_region ?_
      have hke : k = (rowU n.me.1 (rowR n z)).length := by first | omega | exact Nat.le_antisymm hp0 (rowU_stop (of_decide_eq_true s9) hkl)
      rw [hke, List.take_length] at s
      refine s_pure h (ru_move (h.ev rfl)) rfl ?_; intro f h
      refine s_len_sl 1 h s Try.underlying26 rfl rfl rfl ?_; intro f h
      refine s_pure h (ru_eql (h.ev rfl) (h.ev rfl)) rfl ?_; intro f h
      refine s_nil ?_
      refine hK21 _ _ ?_
      refine c_cond h rfl (fun hc => ?_) (fun hc => ?_)
      · have h0 : (folF (rowU n.me.1 (rowR n z))).length = 0 := by have := of_decide_eq_true hc; omega
        refine c_region ?_
        refine s_pure h (ru_move (h.ev rfl)) rfl ?_; intro f h
        refine s_pure h (ru_field fld28_0 (h.ev rfl)) rfl ?_; intro f h
        refine s_load_at (Has.subL (Has.of_own s 6 rfl) 0 33 (D := mbArr n.me) (ndArr_me _ _ _ _)) h row25 rfl (mbArr_size _) rfl ?_; intro f h
        refine s_bslice (vs := [.agg (mbArr n.me)]) [.tmp 82] h s Try.underlying26 elm25 rfl rfl (mb_sz _) rfl rfl rfl ?_; intro f w1 v83 h s
        refine s_append 2 0 h s Try.underlying26 elm25 rfl rfl rfl rfl (by decide) (by rw [one_mb]; exact mbArr_ones _) (by unfold maxLen; omega) (by omega) rfl ?_; intro f w1 v84 h s
        replace s := s.pick _ (List.sublist_cons_self _ _)
        replace s := s.resl (m := [n.me].length) (ys := mbCells [n.me]) 1 rfl (by rw [h0]; rfl) (by rw [List.eq_nil_of_length_eq_zero h0, one_mb, mbCells_one]; rfl)
        refine s_pure h (ru_assign (h.ev rfl)) rfl ?_; intro f h
        refine s_nil ?_
        refine hK20 _ _ ?_
        refine c_seq fun K22 hK22 => ?_
        refine c_region ?_
        refine s_pure h (ru_move (h.ev rfl)) rfl ?_; intro f h
        refine s_pure h (ru_field fld28_2 (h.ev rfl)) rfl ?_; intro f h
        refine s_store_one 6 h s one26 rfl rfl rfl (by rw [ndArr_size]; omega) (own_one (s.getSl 1 rfl)) ?_; intro w1 s
        replace s := s.recell (D := ndArr n.me n.pr v84 vf) 6 rfl (nd_set66 _ _ _ _ _)
        refine s_nil ?_
        refine hK22 _ _ ?_
        refine c_seq fun K23 hK23 => ?_
        refine c_region ?_
        refine s_load_row 6 h s row28 rfl rfl (ndArr_size _ _ _ _) rfl ?_; intro f h
        refine s_store_row 4 h s row28 rfl rfl rfl (ndArr_size _ _ _ _) (ndArr_size _ _ _ _) (ndArr_ones (own_one (s.getSl 1 rfl)) (rd_one (hRf.keep s.ext))) ?_; intro w1 s
        refine s_nil ?_
        refine hK23 _ _ ?_
        refine wpIn_ret ?_
        exact e_row 4 rfl h s row28 rfl rfl (ndArr_size _ _ _ _) (folR_ok (by rw [folS_ref, orA_n h0]) (s.getSl 1 rfl))
      · have h0 : ¬ (folF (rowU n.me.1 (rowR n z))).length = 0 := by have := of_decide_eq_false hc; omega
        refine wpIn_skip ?_
        refine hK20 _ _ ?_
        refine c_seq fun K24 hK24 => ?_
        refine c_region ?_
        refine s_pure h (ru_move (h.ev rfl)) rfl ?_; intro f h
        refine s_pure h (ru_field fld28_2 (h.ev rfl)) rfl ?_; intro f h
        refine s_store_one 6 h s one26 rfl rfl rfl (by rw [ndArr_size]; omega) (own_one (s.getSl 1 rfl)) ?_; intro w1 s
        replace s := s.recell (D := ndArr n.me n.pr vb vf) 6 rfl (nd_set66 _ _ _ _ _)
        refine s_nil ?_
        refine hK24 _ _ ?_
        refine c_seq fun K25 hK25 => ?_
        refine c_region ?_
        refine s_load_row 6 h s row28 rfl rfl (ndArr_size _ _ _ _) rfl ?_; intro f h
        refine s_store_row 4 h s row28 rfl rfl rfl (ndArr_size _ _ _ _) (ndArr_size _ _ _ _) (ndArr_ones (own_one (s.getSl 1 rfl)) (rd_one (hRf.keep s.ext))) ?_; intro w1 s
        refine s_nil ?_
        refine hK25 _ _ ?_
        refine wpIn_ret ?_
        exact e_row 4 rfl h s row28 rfl rfl (ndArr_size _ _ _ _) (folR_ok (by rw [folS_ref, orA_l h0]) (s.getSl 1 rfl))
  · replace hc := of_decide_eq_false hc
    refine wpIn_exit ?_
    refine t_exit ?_
    refine t_exit ?_
    refine b_exit ?_
    refine hK11 _ _ ?_
    refine c_seq fun K26 hK26 => ?_
    refine c_seq fun K27 hK27 => ?_
    refine c_region ?_
    have hke : k = (rowU n.me.1 (rowR n z)).length := by first | omega | exact Nat.le_antisymm hp0 (rowU_stop (of_decide_eq_true s9) hkl)
    rw [hke, List.take_length] at s
    refine s_pure h (ru_move (h.ev rfl)) rfl ?_; intro f h
    refine s_len_sl 0 h s Try.underlying26 rfl rfl rfl ?_; intro f h
    refine s_pure h (ru_eql (h.ev rfl) (h.ev rfl)) rfl ?_; intro f h
    refine s_nil ?_
    refine hK27 _ _ ?_
    refine c_cond h rfl (fun hc => ?_) (fun hc => ?_)
    · have h0 : (folF (rowU n.me.1 (rowR n z))).length = 0 := by have := of_decide_eq_true hc; omega
      refine c_region ?_
      refine s_pure h (ru_move (h.ev rfl)) rfl ?_; intro f h
      refine s_pure h (ru_field fld28_0 (h.ev rfl)) rfl ?_; intro f h
      refine s_load_at (Has.subL (Has.of_own s 5 rfl) 0 33 (D := mbArr n.me) (ndArr_me _ _ _ _)) h row25 rfl (mbArr_size _) rfl ?_; intro f h
      refine s_bslice (vs := [.agg (mbArr n.me)]) [.tmp 82] h s Try.underlying26 elm25 rfl rfl (mb_sz _) rfl rfl rfl ?_; intro f w1 v83 h s
      refine s_append 1 0 h s Try.underlying26 elm25 rfl rfl rfl rfl (by decide) (by rw [one_mb]; exact mbArr_ones _) (by unfold maxLen; omega) (by omega) rfl ?_; intro f w1 v84 h s
      replace s := s.pick _ (List.sublist_cons_self _ _)
      replace s := s.resl (m := [n.me].length) (ys := mbCells [n.me]) 0 rfl (by rw [h0]; rfl) (by rw [List.eq_nil_of_length_eq_zero h0, one_mb, mbCells_one]; rfl)
      refine s_pure h (ru_assign (h.ev rfl)) rfl ?_; intro f h
      refine s_nil ?_
      refine hK26 _ _ ?_
      refine c_seq fun K28 hK28 => ?_
      refine c_region ?_
      refine s_pure h (ru_move (h.ev rfl)) rfl ?_; intro f h
      refine s_pure h (ru_field fld28_2 (h.ev rfl)) rfl ?_; intro f h
      refine s_store_one 5 h s one26 rfl rfl rfl (by rw [ndArr_size]; omega) (own_one (s.getSl 0 rfl)) ?_; intro w1 s
      replace s := s.recell (D := ndArr n.me n.pr v84 vf) 5 rfl (nd_set66 _ _ _ _ _)
      refine s_nil ?_
      refine hK28 _ _ ?_
      refine c_seq fun K29 hK29 => ?_
      refine c_region ?_
      refine s_load_row 5 h s row28 rfl rfl (ndArr_size _ _ _ _) rfl ?_; intro f h
      refine s_store_row 3 h s row28 rfl rfl rfl (ndArr_size _ _ _ _) (ndArr_size _ _ _ _) (ndArr_ones (own_one (s.getSl 0 rfl)) (rd_one (hRf.keep s.ext))) ?_; intro w1 s
      refine s_nil ?_
      refine hK29 _ _ ?_
      refine wpIn_ret ?_
      exact e_row 3 rfl h s row28 rfl rfl (ndArr_size _ _ _ _) (folR_ok (by rw [folS_ref, orA_n h0]) (s.getSl 0 rfl))
    · have h0 : ¬ (folF (rowU n.me.1 (rowR n z))).length = 0 := by have := of_decide_eq_false hc; omega
      refine wpIn_skip ?_
      refine hK26 _ _ ?_
      refine c_seq fun K30 hK30 => ?_
      refine c_region ?_
      refine s_pure h (ru_move (h.ev rfl)) rfl ?_; intro f h
      refine s_pure h (ru_field fld28_2 (h.ev rfl)) rfl ?_; intro f h
      refine s_store_one 5 h s one26 rfl rfl rfl (by rw [ndArr_size]; omega) (own_one (s.getSl 0 rfl)) ?_; intro w1 s
      replace s := s.recell (D := ndArr n.me n.pr vb vf) 5 rfl (nd_set66 _ _ _ _ _)
      refine s_nil ?_
      refine hK30 _ _ ?_
      refine c_seq fun K31 hK31 => ?_
      refine c_region ?_
      refine s_load_row 5 h s row28 rfl rfl (ndArr_size _ _ _ _) rfl ?_; intro f h
      refine s_store_row 3 h s row28 rfl rfl rfl (ndArr_size _ _ _ _) (ndArr_size _ _ _ _) (ndArr_ones (own_one (s.getSl 0 rfl)) (rd_one (hRf.keep s.ext))) ?_; intro w1 s
      refine s_nil ?_
      refine hK31 _ _ ?_
      refine wpIn_ret ?_
      exact e_row 3 rfl h s row28 rfl rfl (ndArr_size _ _ _ _) (folR_ok (by rw [folS_ref, orA_l h0]) (s.getSl 0 rfl))

set_option maxHeartbeats 4000000 in
theorem nhears_any (n : Nd) (vs vf : Value) (y : Nd) (ws wf : Value) (m : Mb) (w : World) (hRs : RdZ w vs 33 n.sc.length (mbCells n.sc)) (hRf : RdZ w vf 33 n.fg.length (mbCells n.fg)) (hZs : RdZ w ws 33 y.sc.length (mbCells y.sc)) (hZf : RdZ w wf 33 y.fg.length (mbCells y.fg)) : Calls Try.prog 4 [.agg (ndArr n.me n.pr vs vf), .agg (ndArr y.me y.pr ws wf), .agg (mbArr m)].toArray w (Ret w (is (.bool true))) := by
  obtain ⟨r, hme, hpr, hlv, hlf, hl6, hl18⟩ := few_nd hRs hRf
  obtain ⟨q, hme2, hpr2, hlv2, hlf2, hq6, hq18⟩ := few_nd hZs hZf
  have hnl := nt_len r m
  have hfl := fo_len r q
  have hfs := folS_len r q
  refine c_enter Try.func4 rfl Try.ntmps4 rfl [(0, .agg (ndArr n.me n.pr vs vf)), (1, .agg (ndArr y.me y.pr ws wf)), (2, .agg (mbArr m))] (by simp) fun f h => ?_
  have s := St.start w
  refine c_seq fun K1 hK1 => ?_
  refine c_region ?_
  refine s_box (ndArr n.me n.pr vs vf) h s rfl rfl rfl ?_; intro f w1 b3 h s
  refine s_box (ndArr y.me y.pr ws wf) h s rfl rfl rfl ?_; intro f w1 b4 h s
  refine s_box ((mbArr m)) h s rfl rfl rfl ?_; intro f w1 b5 h s
  refine s_pure h (ru_assign (h.ev rfl)) rfl ?_; intro f h
  refine s_nil ?_
  refine hK1 _ _ ?_
  refine c_seq fun K2 hK2 => ?_
  refine c_walkN 4 [[], [0], [], [0, 1, 2]] h (by kernel_rfl) (by kernel_rfl) (by kernel_rfl) ?_
  refine w_load_row 2 h s row28 rfl rfl (ndArr_size _ _ _ _) rfl ?_; intro f h
  refine w_call h fnc9 (fun w9 hE9 => ret_val (.agg (ndArr r.me r.pr (cutV vs (min n.sc.length 6)) (cutV vf (min n.fg.length 18)))) (few_any n vs vf w9 (hRs.keep (s.ext.trans hE9)) (hRf.keep (s.ext.trans hE9))) (by rw [hme, hpr])) rfl rfl ?_; intro f h
  refine w_load_row 1 h s row28 rfl rfl (ndArr_size _ _ _ _) rfl ?_; intro f h
  refine w_call h fnc9 (fun w9 hE9 => ret_val (.agg (ndArr q.me q.pr (cutV ws (min y.sc.length 6)) (cutV wf (min y.fg.length 18)))) (few_any y ws wf w9 (hZs.keep (s.ext.trans hE9)) (hZf.keep (s.ext.trans hE9))) (by rw [hme2, hpr2])) rfl rfl ?_; intro f h
  refine w_nil s fun w1 s => ?_
  refine s_store_row 2 h s row28 rfl rfl rfl (ndArr_size _ _ _ _) (ndArr_size _ _ _ _) (ndArr_ones (rd_one (hlv.keep s.ext)) (rd_one (hlf.keep s.ext))) ?_; intro w1 s
  refine s_store_row 1 h s row28 rfl rfl rfl (ndArr_size _ _ _ _) (ndArr_size _ _ _ _) (ndArr_ones (rd_one (hlv2.keep s.ext)) (rd_one (hlf2.keep s.ext))) ?_; intro w1 s
  refine s_nil ?_
  refine hK2 _ _ ?_
  refine c_seq fun K3 hK3 => ?_
  refine c_region ?_
  refine s_load_row 2 h s row28 rfl rfl (ndArr_size _ _ _ _) rfl ?_; intro f h
  refine s_load_row 0 h s row25 rfl rfl (mbArr_size _) rfl ?_; intro f h
  refine s_call h s fnc21 (notify_any r (cutV vs (min n.sc.length 6)) (cutV vf (min n.fg.length 18)) m _ (hlv.keep s.ext) (hlf.keep s.ext) (by omega) (by omega)) rfl rfl ?_; rintro f w1 v19 ⟨au, av, rfl, hS⟩ hE h sq; replace s := s.add hS; clear hS
  refine s_pure h (ru_move (h.ev rfl)) rfl ?_; intro f h
  refine s_pure h (ru_extract (h.ev rfl) rfl) rfl ?_; intro f h
  refine s_pure h (ru_extract (h.ev rfl) rfl) rfl ?_; intro f h
  refine s_alloc (ndArr zMb zMb nilV nilV) h s zero28 rfl rfl ?_; intro f w1 b7 h s
  refine s_store_row 0 h s row28 rfl rfl rfl (ndArr_size _ _ _ _) (ndArr_size _ _ _ _) (ndArr_ones (own_one (s.getSl 1 rfl)) (own_one (s.getSl 2 rfl))) ?_; intro w1 s
  refine s_pure h (ru_assign (h.ev rfl)) rfl ?_; intro f h
  refine s_nil ?_
  refine hK3 _ _ ?_
  refine c_seq fun K4 hK4 => ?_
  refine c_region ?_
  refine s_load_row 5 h s row28 rfl rfl (ndArr_size _ _ _ _) rfl ?_; intro f h
  refine s_load_row 4 h s row28 rfl rfl (ndArr_size _ _ _ _) rfl ?_; intro f h
  refine s_call h s fnc22 (nfollow_any r (cutV vs (min n.sc.length 6)) (cutV vf (min n.fg.length 18)) q (cutV ws (min y.sc.length 6)) (cutV wf (min y.fg.length 18)) _ (hlv.keep s.ext) (hlf.keep s.ext) (by omega) (by omega) (hlv2.keep s.ext) (hlf2.keep s.ext) (by omega) (by omega)) rfl rfl ?_; rintro f w1 v25 ⟨bu, bv, rfl, hS⟩ hE h sq; replace s := s.add hS; clear hS
  refine s_pure h (ru_move (h.ev rfl)) rfl ?_; intro f h
  refine s_pure h (ru_extract (h.ev rfl) rfl) rfl ?_; intro f h
  refine s_pure h (ru_extract (h.ev rfl) rfl) rfl ?_; intro f h
  refine s_alloc (ndArr zMb zMb nilV nilV) h s zero28 rfl rfl ?_; intro f w1 b9 h s
  refine s_store_row 0 h s row28 rfl rfl rfl (ndArr_size _ _ _ _) (ndArr_size _ _ _ _) (ndArr_ones (own_one (s.getSl 1 rfl)) (own_one (s.getSl 2 rfl))) ?_; intro w1 s
  refine s_pure h (ru_assign (h.ev rfl)) rfl ?_; intro f h
  refine s_nil ?_
  refine hK4 _ _ ?_
  refine c_seq fun K5 hK5 => ?_
  refine c_region ?_
  refine s_pure h (ru_build_nd0 sttN) rfl ?_; intro f h
  refine s_alloc (ndArr zMb zMb nilV nilV) h s zero28 rfl rfl ?_; intro f w1 b11 h s
  refine s_store_row 0 h s row28 rfl rfl rfl (ndArr_size _ _ _ _) (ndArr_size _ _ _ _) (ndArr_ones (rfl) (rfl)) ?_; intro w1 s
  refine s_nil ?_
  refine hK5 _ _ ?_
  refine c_seq fun K6 hK6 => ?_
  refine c_seq fun K7 hK7 => ?_
  refine c_region ?_
  refine s_call h s fnc14 (alive_any _) rfl rfl ?_; intro f w1 v9 hT hE h s; obtain rfl := hT
  refine s_pure h (ru_val (.bool false) (ru_not (h.ev rfl)) rfl) rfl ?_; intro f h
  refine s_nil ?_
  refine hK7 _ _ ?_
  refine wpIn_cond_false (h.ev rfl) ?_
  refine wpIn_skip ?_
  refine hK6 _ _ ?_
  refine c_seq fun K8 hK8 => ?_
  refine c_seq fun K9 hK9 => ?_
  cases hr : (rightN r : Bool)
  · skip
    refine c_region ?_
    refine s_load_row 9 h s row28 rfl rfl (ndArr_size _ _ _ _) rfl ?_; intro f h
    refine s_call h s fnc15 (ret_val (.bool false) (rnright_any r (cutV vs (min n.sc.length 6)) (cutV vf (min n.fg.length 18)) _ (hlv.keep s.ext) (hlf.keep s.ext) (by omega) (by omega)) (congrArg Value.bool hr)) rfl rfl ?_; intro f w1 v9 hT hE h s; obtain rfl := hT
    refine s_pure h (ru_val (.bool true) (ru_not (h.ev rfl)) rfl) rfl ?_; intro f h
    refine s_nil ?_
    refine hK9 _ _ ?_
    refine wpIn_cond_true (h.ev rfl) ?_
    refine c_seq fun K10 hK10 => ?_
    refine c_region ?_
    refine s_pure h (ru_move (h.ev rfl)) rfl ?_; intro f h
    refine s_pure h (ru_val (.bool true) (ru_eql (h.ev rfl) (h.ev rfl)) (congrArg Value.bool (decide_eq_true ((nt_no0 hr).2)))) rfl ?_; intro f h
    refine s_pure h (ru_move (h.ev rfl)) rfl ?_; intro f h
    refine s_on h rfl rfl rfl ?_
    refine s_pure h (ru_move (h.ev rfl)) rfl ?_; intro f h
    refine s_on h rfl rfl rfl ?_
    refine s_pure h (ru_val (.bool true) (ru_eql (h.ev rfl) (h.ev rfl)) (congrArg Value.bool (decide_eq_true ((fo_no0 hr).2)))) rfl ?_; intro f h
    refine s_pure h (ru_pick_t (h.ev rfl) (h.ev rfl)) rfl ?_; intro f h
    refine s_pure h (ru_move (h.ev rfl)) rfl ?_; intro f h
    refine s_on h rfl rfl rfl ?_
    refine s_load_row 4 h s row28 rfl rfl (ndArr_size _ _ _ _) rfl ?_; intro f h
    refine s_on h rfl rfl rfl ?_
    refine s_load_row 0 h s row28 rfl rfl (ndArr_size _ _ _ _) rfl ?_; intro f h
    refine s_on h rfl rfl rfl ?_
    refine s_call h s fnc13 (ret_val (.bool true) (like_any (ntN r m) zNd au av nilV nilV _ (RdZ.of_own (s.getSl 5 rfl)) (RdZ.of_own (s.getSl 6 rfl)) (rd_nilM _) (rd_nilM _) (by omega) (by omega) (by exact Nat.zero_le _) (by exact Nat.zero_le _)) (congrArg Value.bool (lkN_eq (nt_no0 hr).1))) rfl rfl ?_; intro f w1 v9 hT hE h s; obtain rfl := hT
    refine s_pure h (ru_pick_t (h.ev rfl) (h.ev rfl)) rfl ?_; intro f h
    refine s_pure h (ru_move (h.ev rfl)) rfl ?_; intro f h
    refine s_on h rfl rfl rfl ?_
    refine s_load_row 1 h s row28 rfl rfl (ndArr_size _ _ _ _) rfl ?_; intro f h
    refine s_on h rfl rfl rfl ?_
    refine s_load_row 0 h s row28 rfl rfl (ndArr_size _ _ _ _) rfl ?_; intro f h
    refine s_on h rfl rfl rfl ?_
    refine s_call h s fnc13 (ret_val (.bool true) (like_any (foN r q) zNd bu bv nilV nilV _ (RdZ.of_own (s.getSl 2 rfl)) (RdZ.of_own (s.getSl 3 rfl)) (rd_nilM _) (rd_nilM _) (by omega) (by omega) (by exact Nat.zero_le _) (by exact Nat.zero_le _)) (congrArg Value.bool (lkN_eq (fo_no0 hr).1))) rfl rfl ?_; intro f w1 v9 hT hE h s; obtain rfl := hT
    refine s_pure h (ru_pick_t (h.ev rfl) (h.ev rfl)) rfl ?_; intro f h
    refine s_pure h (ru_assign (h.ev rfl)) rfl ?_; intro f h
    refine s_nil ?_
    refine hK10 _ _ ?_
    refine wpIn_ret ?_
    refine t_ret ?_
    exact e_tmp rfl h s rfl (rfl)
  · skip
    refine c_region ?_
    refine s_load_row 9 h s row28 rfl rfl (ndArr_size _ _ _ _) rfl ?_; intro f h
    refine s_call h s fnc15 (ret_val (.bool true) (rnright_any r (cutV vs (min n.sc.length 6)) (cutV vf (min n.fg.length 18)) _ (hlv.keep s.ext) (hlf.keep s.ext) (by omega) (by omega)) (congrArg Value.bool hr)) rfl rfl ?_; intro f w1 v9 hT hE h s; obtain rfl := hT
    refine s_pure h (ru_val (.bool false) (ru_not (h.ev rfl)) rfl) rfl ?_; intro f h
    refine s_nil ?_
    refine hK9 _ _ ?_
    refine wpIn_cond_false (h.ev rfl) ?_
    refine wpIn_skip ?_
    refine hK8 _ _ ?_
    refine c_seq fun K11 hK11 => ?_
    refine c_seq fun K12 hK12 => ?_
    cases hx : (mayB m : Bool)
    · skip
      refine c_walkN 29 [[], [0], [0, 1], [0, 1, 2], [0, 1, 2, 3], [0, 1, 2, 3, 4], [0, 1, 2, 3, 4, 5], [0, 1, 2, 3, 4, 5], [0, 1, 2, 3, 4, 5], [0, 1, 2, 3, 4, 5, 7, 8], [0, 1, 2, 3, 4, 5, 6, 7, 8, 9], [0, 1, 2, 3, 4, 5, 6, 7, 8, 9, 10], [0, 1, 2, 3, 4, 5, 6, 7, 8, 9, 10, 11], [0, 1, 2, 3, 4, 5, 6, 7, 8, 9, 10, 11, 12], [0, 1, 2, 3, 4, 5, 6, 7, 8, 9, 10, 11, 12, 13], [0, 1, 2, 3, 4, 5, 6, 7, 8, 9, 10, 11, 12, 13, 14], [0, 1, 2, 3, 4, 5, 6, 7, 8, 9, 10, 11, 12, 13, 14, 15], [0, 1, 2, 3, 4, 5, 6, 7, 8, 9, 10, 11, 12, 13, 14, 15, 16], [0, 1, 2, 3, 4, 5, 6, 7, 8, 9, 10, 11, 12, 13, 14, 15, 16, 17], [0, 1, 2, 3, 4, 5, 6, 7, 8, 9, 10, 11, 12, 13, 14, 15, 16, 17, 18], [0, 1, 2, 3, 4, 5, 6, 7, 8, 9, 10, 11, 12, 13, 14, 15, 16, 17, 18, 19], [0, 1, 2, 3, 4, 5, 6, 7, 8, 9, 10, 11, 12, 13, 14, 15, 16, 17, 18, 19, 20], [0, 1, 2, 3, 4, 5, 6, 7, 8, 9, 10, 11, 12, 13, 14, 15, 16, 17, 18, 19, 20, 21], [0, 1, 2, 3, 4, 5, 6, 7, 8, 9, 10, 11, 12, 13, 14, 15, 16, 17, 18, 19, 20, 21], [0, 1, 2, 3, 4, 5, 6, 7, 8, 9, 10, 11, 12, 13, 14, 15, 16, 17, 18, 19, 20, 21, 22, 23], [0, 1, 2, 3, 4, 5, 6, 7, 8, 9, 10, 11, 12, 13, 14, 15, 16, 17, 18, 19, 20, 21, 22, 23, 24], [0, 1, 2, 3, 4, 5, 6, 7, 8, 9, 10, 11, 12, 13, 14, 15, 16, 17, 18, 19, 20, 21, 22, 23, 24, 25], [0, 1, 2, 3, 4, 5, 6, 7, 8, 9, 10, 11, 12, 13, 14, 15, 16, 17, 18, 19, 20, 21, 22, 23, 24, 25, 26], [0, 1, 2, 3, 4, 5, 6, 7, 8, 9, 10, 11, 12, 13, 14, 15, 16, 17, 18, 19, 20, 21, 22, 23, 24, 25, 26, 27]] h (by kernel_rfl) (by kernel_rfl) (by kernel_rfl) ?_
      refine w_load_row 7 h s row25 rfl rfl (mbArr_size _) rfl ?_; intro f h
      refine w_call h fnc12 (fun w9 hE9 => ret_val (.bool false) (lmay_any m w9) (congrArg Value.bool hx)) rfl rfl ?_; intro f h
      refine w_pure h (ru_move (h.ev rfl)) rfl ?_; intro f h
      refine w_off (b := true) h rfl rfl rfl rfl ?_; intro f h
      refine w_off (b := true) h rfl rfl rfl rfl ?_; intro f h
      refine w_off (b := true) h rfl rfl rfl rfl ?_; intro f h
      refine w_none h rfl rfl rfl rfl ?_; intro f h
      refine w_none h rfl rfl rfl rfl ?_; intro f h
      refine w_none h rfl rfl rfl rfl ?_; intro f h
      refine w_none h rfl rfl rfl rfl ?_; intro f h
      refine w_none h rfl rfl rfl rfl ?_; intro f h
      refine w_none h rfl rfl rfl rfl ?_; intro f h
      refine w_off (b := true) h rfl rfl rfl rfl ?_; intro f h
      refine w_pure h (ru_pick_f (h.ev rfl) (h.ev rfl)) rfl ?_; intro f h
      refine w_pure h (ru_move (h.ev rfl)) rfl ?_; intro f h
      refine w_on h rfl rfl rfl ?_
      refine w_load_row 7 h s row25 rfl rfl (mbArr_size _) rfl ?_; intro f h
      refine w_on h rfl rfl rfl ?_
      refine w_call h fnc12 (fun w9 hE9 => ret_val (.bool false) (lmay_any m w9) (congrArg Value.bool hx)) rfl rfl ?_; intro f h
      refine w_on h rfl rfl rfl ?_
      refine w_pure h (ru_val (.bool true) (ru_not (h.ev rfl)) rfl) rfl ?_; intro f h
      refine w_on h rfl rfl rfl ?_
      refine w_pure h (ru_move (h.ev rfl)) rfl ?_; intro f h
      refine w_on h rfl rfl rfl ?_
      refine w_pure h (ru_move (h.ev rfl)) rfl ?_; intro f h
      refine w_on h rfl rfl rfl ?_
      refine w_pure h (ru_val (.bool false) (ru_neq (h.ev rfl) (h.ev rfl)) (congrArg Value.bool (decide_eq_false (not_not_intro (nt_no1 hx).2)))) rfl ?_; intro f h
      refine w_on h rfl rfl rfl ?_
      refine w_pure h (ru_move (h.ev rfl)) rfl ?_; intro f h
      refine w_on h rfl rfl rfl ?_
      refine w_load_row 4 h s row28 rfl rfl (ndArr_size _ _ _ _) rfl ?_; intro f h
      refine w_on h rfl rfl rfl ?_
      refine w_load_row 0 h s row28 rfl rfl (ndArr_size _ _ _ _) rfl ?_; intro f h
      refine w_on h rfl rfl rfl ?_
      refine w_call h fnc13 (fun w9 hE9 => ret_val (.bool true) (like_any (ntN r m) zNd au av nilV nilV w9 ((RdZ.of_own (s.getSl 5 rfl)).keep hE9) ((RdZ.of_own (s.getSl 6 rfl)).keep hE9) (rd_nilM _) (rd_nilM _) (by omega) (by omega) (by exact Nat.zero_le _) (by exact Nat.zero_le _)) (congrArg Value.bool (lkN_eq (nt_no1 hx).1))) rfl rfl ?_; intro f h
      refine w_on h rfl rfl rfl ?_
      refine w_pure h (ru_val (.bool false) (ru_not (h.ev rfl)) rfl) rfl ?_; intro f h
      refine w_on h rfl rfl rfl ?_
      refine w_pure h (ru_pick_f (h.ev rfl) (h.ev rfl)) rfl ?_; intro f h
      refine w_on h rfl rfl rfl ?_
      refine w_pure h (ru_pick_t (h.ev rfl) (h.ev rfl)) rfl ?_; intro f h
      refine w_pure h (ru_pick_f (h.ev rfl) (h.ev rfl)) rfl ?_; intro f h
      refine w_nil s fun w1 s => ?_
      refine s_nil ?_
      refine hK12 _ _ ?_
      refine wpIn_cond_false (h.ev rfl) ?_
      refine wpIn_skip ?_
      refine hK11 _ _ ?_
      refine c_seq fun K13 hK13 => ?_
      refine c_seq fun K14 hK14 => ?_
      cases hz : (rightN q : Bool)
      · skip
        refine c_region ?_
        refine s_load_row 8 h s row28 rfl rfl (ndArr_size _ _ _ _) rfl ?_; intro f h
        refine s_call h s fnc15 (ret_val (.bool false) (rnright_any q (cutV ws (min y.sc.length 6)) (cutV wf (min y.fg.length 18)) _ (hlv2.keep s.ext) (hlf2.keep s.ext) (by omega) (by omega)) (congrArg Value.bool hz)) rfl rfl ?_; intro f w1 v9 hT hE h s; obtain rfl := hT
        refine s_pure h (ru_val (.bool true) (ru_not (h.ev rfl)) rfl) rfl ?_; intro f h
        refine s_nil ?_
        refine hK14 _ _ ?_
        refine wpIn_cond_true (h.ev rfl) ?_
        refine c_seq fun K15 hK15 => ?_
        refine c_region ?_
        refine s_pure h (ru_move (h.ev rfl)) rfl ?_; intro f h
        refine s_pure h (ru_val (.bool true) (ru_eql (h.ev rfl) (h.ev rfl)) (congrArg Value.bool (decide_eq_true ((fo_no1 hz).2)))) rfl ?_; intro f h
        refine s_pure h (ru_move (h.ev rfl)) rfl ?_; intro f h
        refine s_on h rfl rfl rfl ?_
        refine s_load_row 1 h s row28 rfl rfl (ndArr_size _ _ _ _) rfl ?_; intro f h
        refine s_on h rfl rfl rfl ?_
        refine s_load_row 0 h s row28 rfl rfl (ndArr_size _ _ _ _) rfl ?_; intro f h
        refine s_on h rfl rfl rfl ?_
        refine s_call h s fnc13 (ret_val (.bool true) (like_any (foN r q) zNd bu bv nilV nilV _ (RdZ.of_own (s.getSl 2 rfl)) (RdZ.of_own (s.getSl 3 rfl)) (rd_nilM _) (rd_nilM _) (by omega) (by omega) (by exact Nat.zero_le _) (by exact Nat.zero_le _)) (congrArg Value.bool (lkN_eq (fo_no1 hz).1))) rfl rfl ?_; intro f w1 v9 hT hE h s; obtain rfl := hT
        refine s_pure h (ru_pick_t (h.ev rfl) (h.ev rfl)) rfl ?_; intro f h
        refine s_pure h (ru_assign (h.ev rfl)) rfl ?_; intro f h
        refine s_nil ?_
        refine hK15 _ _ ?_
        refine wpIn_ret ?_
        refine t_ret ?_
        exact e_tmp rfl h s rfl (rfl)
      · skip
        refine c_region ?_
        refine s_load_row 8 h s row28 rfl rfl (ndArr_size _ _ _ _) rfl ?_; intro f h
        refine s_call h s fnc15 (ret_val (.bool true) (rnright_any q (cutV ws (min y.sc.length 6)) (cutV wf (min y.fg.length 18)) _ (hlv2.keep s.ext) (hlf2.keep s.ext) (by omega) (by omega)) (congrArg Value.bool hz)) rfl rfl ?_; intro f w1 v9 hT hE h s; obtain rfl := hT
        refine s_pure h (ru_val (.bool false) (ru_not (h.ev rfl)) rfl) rfl ?_; intro f h
        refine s_nil ?_
        refine hK14 _ _ ?_
        refine wpIn_cond_false (h.ev rfl) ?_
        refine wpIn_skip ?_
        refine hK13 _ _ ?_
        refine c_seq fun K16 hK16 => ?_
        have hbs := s.ext.le
        refine' c_reg2 8 [0, 1, 2] [] [[], [0], [0, 1], [0, 1, 2], [0, 1, 2], [0, 1, 2], [0, 1, 2, 4, 5], [0, 1, 2, 3, 4, 5, 6], [0, 1, 2, 3, 4, 5, 6, 7], [0, 1, 2, 3, 4, 5, 6, 7, 8]] (is _ :: is _ :: is _ :: is _ :: is _ :: is _ :: (FolD r.me r.pr (folS r q) (cutV vf (min n.fg.length 18))) :: is _ :: is undef :: is undef :: []) (fun _ => True) h s (by kernel_rfl) (by kernel_rfl) (by kernel_rfl) (by kernel_rfl) rfl (fun _ _ h _ => h) (trivial) ⟨⟨_, rfl⟩, ⟨_, rfl⟩, ⟨_, rfl⟩, trivial⟩ ⟨is_mono _, is_mono _, is_mono _, is_mono _, is_mono _, is_mono _, FolD.mono _ _ _ _, is_mono _, is_mono _, is_mono _, trivial⟩ (And.intro ?_ (And.intro ?_ (And.intro ?_ (And.intro ?_ (And.intro ?_ (And.intro ?_ (And.intro ?_ (And.intro ?_ (And.intro ?_ (And.intro ?_ (trivial))))))))))) ?_
        rotate_left 7
        · refine obH_in 89 rfl (by decide) ?_
          intro f9 w2 hE hs hl
          have e10 : f9.tmps.getD 10 undef = _ := sx_old hl 10 (by kernel_rfl) (by kernel_rfl) (h.holds 10 _ rfl)
          have h := fin_slot [(10, _)] hs rfl (holds_lk ⟨e10, trivial⟩)
          refine s_pure h (ru_move (h.ev rfl)) rfl ?_; intro f h
          refine s_nil ?_
          have e9 := h.holds 89 _ rfl
          refine ⟨?_, rfl⟩
          refine e9.trans ?_
          exact rfl
        · refine obH_in 90 rfl (by decide) ?_
          intro f9 w2 hE hs hl
          have e89 : f9.tmps.getD 89 undef = _ := sx_get hl 89 0 (by kernel_rfl) (by kernel_rfl)
          have h := fin_slot [(89, _)] hs rfl (holds_lk ⟨e89, trivial⟩)
          refine s_pure h (ru_val (.bool true) (ru_eql (h.ev rfl) (h.ev rfl)) (congrArg Value.bool (decide_eq_true ((fo_ok hr hz).2)))) rfl ?_; intro f h
          refine s_nil ?_
          have e9 := h.holds 90 _ rfl
          refine ⟨?_, rfl⟩
          refine e9.trans ?_
          exact rfl
        · refine obH_in 91 rfl (by decide) ?_
          intro f9 w2 hE hs hl
          have e90 : f9.tmps.getD 90 undef = _ := sx_get hl 90 1 (by kernel_rfl) (by kernel_rfl)
          have h := fin_slot [(90, _)] hs rfl (holds_lk ⟨e90, trivial⟩)
          refine s_pure h (ru_move (h.ev rfl)) rfl ?_; intro f h
          refine s_nil ?_
          have e9 := h.holds 91 _ rfl
          refine ⟨?_, rfl⟩
          refine e9.trans ?_
          exact rfl
        · refine obF_in 92 rfl (by decide) (by decide) ?_
          intro f9 w2 hE hs hd9 hl
          have e9 : f9.tmps.getD 9 undef = _ := sx_old hl 9 (by kernel_rfl) (by kernel_rfl) (h.holds 9 _ rfl)
          have e91 : f9.tmps.getD 91 undef = _ := sx_get hl 91 2 (by kernel_rfl) (by kernel_rfl)
          have h := fin_slot [(9, _), (91, _)] hs hd9 (holds_lk ⟨e9, e91, trivial⟩)
          have s := s.more hE
          have z := St.start w2
          refine s_on h rfl rfl rfl ?_
          refine s_load_row 1 h s row28 rfl rfl (ndArr_size _ _ _ _) rfl ?_; intro f h
          refine s_nil ?_
          have e9 := h.holds 92 _ rfl
          refine ⟨?_, Ext.refl _, fun h9 => absurd h9 (by decide)⟩
          refine e9.trans ?_
          exact rfl
        · refine obF_in 93 rfl (by decide) (by decide) ?_
          intro f9 w2 hE hs hd9 hl
          have e3 : f9.tmps.getD 3 undef = _ := sx_old hl 3 (by kernel_rfl) (by kernel_rfl) (h.holds 3 _ rfl)
          have e91 : f9.tmps.getD 91 undef = _ := sx_get hl 91 2 (by kernel_rfl) (by kernel_rfl)
          have h := fin_slot [(3, _), (91, _)] hs hd9 (holds_lk ⟨e3, e91, trivial⟩)
          have s := s.more hE
          have z := St.start w2
          refine s_on h rfl rfl rfl ?_
          refine s_load_row 9 h s row28 rfl rfl (ndArr_size _ _ _ _) rfl ?_; intro f h
          refine s_nil ?_
          have e9 := h.holds 93 _ rfl
          refine ⟨?_, Ext.refl _, fun h9 => absurd h9 (by decide)⟩
          refine e9.trans ?_
          exact rfl
        · refine obF_in 94 rfl (by decide) (by decide) ?_
          intro f9 w2 hE hs hd9 hl
          have e4 : f9.tmps.getD 4 undef = _ := sx_old hl 4 (by kernel_rfl) (by kernel_rfl) (h.holds 4 _ rfl)
          have e91 : f9.tmps.getD 91 undef = _ := sx_get hl 91 2 (by kernel_rfl) (by kernel_rfl)
          have h := fin_slot [(4, _), (91, _)] hs hd9 (holds_lk ⟨e4, e91, trivial⟩)
          have s := s.more hE
          have z := St.start w2
          refine s_on h rfl rfl rfl ?_
          refine s_load_row 8 h s row28 rfl rfl (ndArr_size _ _ _ _) rfl ?_; intro f h
          refine s_nil ?_
          have e9 := h.holds 94 _ rfl
          refine ⟨?_, Ext.refl _, fun h9 => absurd h9 (by decide)⟩
          refine e9.trans ?_
          exact rfl
        · refine obF_in 95 rfl (by decide) (by decide) ?_
          intro f9 w2 hE hs hd9 hl
          have e93 : f9.tmps.getD 93 undef = _ := sx_get hl 93 4 (by kernel_rfl) (by kernel_rfl)
          have e94 : f9.tmps.getD 94 undef = _ := sx_get hl 94 5 (by kernel_rfl) (by kernel_rfl)
          have e91 : f9.tmps.getD 91 undef = _ := sx_get hl 91 2 (by kernel_rfl) (by kernel_rfl)
          have h := fin_slot [(93, _), (94, _), (91, _)] hs hd9 (holds_lk ⟨e93, e94, e91, trivial⟩)
          have s := s.more hE
          have z := St.start w2
          refine s_on h rfl rfl rfl ?_
          refine s_call h s fnc24 (rfollow_any r (cutV vs (min n.sc.length 6)) (cutV vf (min n.fg.length 18)) q (cutV ws (min y.sc.length 6)) (cutV wf (min y.fg.length 18)) _ (hlv.keep s.ext) (hlf.keep s.ext) (by omega) (by omega) (hlv2.keep s.ext) (hlf2.keep s.ext) (by omega) (by omega) (rn_iff.1 hz)) rfl rfl ?_; intro f w3 v3 hT9 hE3 h s
          refine s_nil ?_
          exact ⟨by rw [h.holds 95 _ rfl]; exact hT9.d, hE3, fun h9 => absurd h9 (by decide)⟩
        · refine obF_in 96 rfl (by decide) (by decide) ?_
          intro f9 w2 hE hs hd9 hl
          have e92 : f9.tmps.getD 92 undef = _ := sx_get hl 92 3 (by kernel_rfl) (by kernel_rfl)
          obtain ⟨u95, hu95⟩ : ∃ v, f9.tmps.getD 95 undef = v := ⟨_, rfl⟩
          have e95 : (FolD r.me r.pr (folS r q) (cutV vf (min n.fg.length 18))) u95 w2 := by rw [← hu95]; exact sx_get hl 95 6 (by kernel_rfl) (by kernel_rfl)
          have e91 : f9.tmps.getD 91 undef = _ := sx_get hl 91 2 (by kernel_rfl) (by kernel_rfl)
          have h := fin_slot [(92, _), (95, u95), (91, _)] hs hd9 (holds_lk ⟨e92, hu95, e91, trivial⟩)
          have s := s.more hE
          have z := St.start w2
          obtain ⟨vo, rfl, hRo⟩ := e95
          refine s_on h rfl rfl rfl ?_
          refine s_call h s fnc13 (ret_val (.bool true) (like_any (foN r q) ⟨r.me, r.pr, folS r q, r.fg⟩ bu bv vo (cutV vf (min n.fg.length 18)) _ (RdZ.of_own (s.getSl 2 rfl)) (RdZ.of_own (s.getSl 3 rfl)) hRo (hlf.keep s.ext) (by omega) (by omega) (by show (folS r q).length ≤ 1000; omega) (by show r.fg.length ≤ 1000; omega)) (congrArg Value.bool (lkN_eq (fo_ok hr hz).1))) rfl rfl ?_; intro f w3 v3 hT9 hE3 h s
          refine s_nil ?_
          exact ⟨by rw [h.holds 96 _ rfl]; exact hT9, hE3, fun h9 => absurd h9 (by decide)⟩
        · exact obT_in (by decide) (by decide)
        · exact obT_in (by decide) (by decide)
        · intro f9 w2 hE hs hd9 hWp hT hR hFr hDj
          obtain ⟨u95, hu95⟩ : ∃ v, f9.tmps.getD 95 undef = v := ⟨_, rfl⟩
          have e95 : (FolD r.me r.pr (folS r q) (cutV vf (min n.fg.length 18))) u95 w2 := by rw [← hu95]; exact hT 6 95 (by decide) rfl
          replace h := sl_new (ops := _) [(89, _), (90, _), (91, _), (92, _), (93, _), (94, _), (95, u95), (96, _)] h hs hd9 hR ⟨hT 0 89 (by decide) rfl, hT 1 90 (by decide) rfl, hT 2 91 (by decide) rfl, hT 3 92 (by decide) rfl, hT 4 93 (by decide) rfl, hT 5 94 (by decide) rfl, hu95, hT 7 96 (by decide) rfl, trivial⟩ (by kernel_rfl)
          replace s := s.more hE
          clear hT hR hFr hDj
          refine LstW.of ?_
          refine s_pure h (ru_pick_t (h.ev rfl) (h.ev rfl)) rfl ?_; intro f h
          refine s_pure h (ru_assign (h.ev rfl)) rfl ?_; intro f h
          refine s_nil ?_
          refine hK16 _ _ ?_
          refine wpIn_ret ?_
          exact e_tmp rfl h s rfl (rfl)
    · skip
      refine c_walkN 29 [[], [0], [0, 1], [0, 1, 2], [0, 1, 2, 3], [0, 1, 2, 3, 4], [0, 1, 2, 3, 4, 5], [0, 1, 2, 3, 4, 5], [0, 1, 2, 3, 4, 5], [0, 1, 2, 3, 4, 5, 7, 8], [0, 1, 2, 3, 4, 5, 6, 7, 8, 9], [0, 1, 2, 3, 4, 5, 6, 7, 8, 9, 10], [0, 1, 2, 3, 4, 5, 6, 7, 8, 9, 10, 11], [0, 1, 2, 3, 4, 5, 6, 7, 8, 9, 10, 11, 12], [0, 1, 2, 3, 4, 5, 6, 7, 8, 9, 10, 11, 12, 13], [0, 1, 2, 3, 4, 5, 6, 7, 8, 9, 10, 11, 12, 13, 14], [0, 1, 2, 3, 4, 5, 6, 7, 8, 9, 10, 11, 12, 13, 14, 15], [0, 1, 2, 3, 4, 5, 6, 7, 8, 9, 10, 11, 12, 13, 14, 15, 16], [0, 1, 2, 3, 4, 5, 6, 7, 8, 9, 10, 11, 12, 13, 14, 15, 16, 17], [0, 1, 2, 3, 4, 5, 6, 7, 8, 9, 10, 11, 12, 13, 14, 15, 16, 17, 18], [0, 1, 2, 3, 4, 5, 6, 7, 8, 9, 10, 11, 12, 13, 14, 15, 16, 17, 18, 19], [0, 1, 2, 3, 4, 5, 6, 7, 8, 9, 10, 11, 12, 13, 14, 15, 16, 17, 18, 19, 20], [0, 1, 2, 3, 4, 5, 6, 7, 8, 9, 10, 11, 12, 13, 14, 15, 16, 17, 18, 19, 20, 21], [0, 1, 2, 3, 4, 5, 6, 7, 8, 9, 10, 11, 12, 13, 14, 15, 16, 17, 18, 19, 20, 21], [0, 1, 2, 3, 4, 5, 6, 7, 8, 9, 10, 11, 12, 13, 14, 15, 16, 17, 18, 19, 20, 21, 22, 23], [0, 1, 2, 3, 4, 5, 6, 7, 8, 9, 10, 11, 12, 13, 14, 15, 16, 17, 18, 19, 20, 21, 22, 23, 24], [0, 1, 2, 3, 4, 5, 6, 7, 8, 9, 10, 11, 12, 13, 14, 15, 16, 17, 18, 19, 20, 21, 22, 23, 24, 25], [0, 1, 2, 3, 4, 5, 6, 7, 8, 9, 10, 11, 12, 13, 14, 15, 16, 17, 18, 19, 20, 21, 22, 23, 24, 25, 26], [0, 1, 2, 3, 4, 5, 6, 7, 8, 9, 10, 11, 12, 13, 14, 15, 16, 17, 18, 19, 20, 21, 22, 23, 24, 25, 26, 27]] h (by kernel_rfl) (by kernel_rfl) (by kernel_rfl) ?_
      refine w_load_row 7 h s row25 rfl rfl (mbArr_size _) rfl ?_; intro f h
      refine w_call h fnc12 (fun w9 hE9 => ret_val (.bool true) (lmay_any m w9) (congrArg Value.bool hx)) rfl rfl ?_; intro f h
      refine w_pure h (ru_move (h.ev rfl)) rfl ?_; intro f h
      refine w_on h rfl rfl rfl ?_
      refine w_pure h (ru_move (h.ev rfl)) rfl ?_; intro f h
      refine w_on h rfl rfl rfl ?_
      refine w_pure h (ru_val (.bool false) (ru_neq (h.ev rfl) (h.ev rfl)) (congrArg Value.bool (decide_eq_false (not_not_intro (nt_ok hr hx).2)))) rfl ?_; intro f h
      refine w_on h rfl rfl rfl ?_
      refine w_pure h (ru_move (h.ev rfl)) rfl ?_; intro f h
      refine w_on h rfl rfl rfl ?_
      refine w_load_row 4 h s row28 rfl rfl (ndArr_size _ _ _ _) rfl ?_; intro f h
      refine w_on h rfl rfl rfl ?_
      refine w_load_row 9 h s row28 rfl rfl (ndArr_size _ _ _ _) rfl ?_; intro f h
      refine w_on h rfl rfl rfl ?_
      refine w_load_row 7 h s row25 rfl rfl (mbArr_size _) rfl ?_; intro f h
      refine w_on h rfl rfl rfl ?_
      refine w_call h fnc23 (fun w9 hE9 => rnotify_any r (cutV vs (min n.sc.length 6)) (cutV vf (min n.fg.length 18)) m w9 (hlv.keep (s.ext.trans hE9)) (hlf.keep (s.ext.trans hE9))) rfl rfl ?_; intro f h
      refine w_on h rfl rfl rfl ?_
      refine w_call h fnc13 (fun w9 hE9 => ret_val (.bool true) (like_any (ntN r m) ⟨r.me, ntP r m, r.sc, r.fg⟩ au av (cutV vs (min n.sc.length 6)) (cutV vf (min n.fg.length 18)) w9 ((RdZ.of_own (s.getSl 5 rfl)).keep hE9) ((RdZ.of_own (s.getSl 6 rfl)).keep hE9) (hlv.keep (s.ext.trans hE9)) (hlf.keep (s.ext.trans hE9)) (by omega) (by omega) (by show r.sc.length ≤ 1000; omega) (by show r.fg.length ≤ 1000; omega)) (congrArg Value.bool (lkN_eq (nt_ok hr hx).1))) rfl rfl ?_; intro f h
      refine w_on h rfl rfl rfl ?_
      refine w_pure h (ru_val (.bool false) (ru_not (h.ev rfl)) rfl) rfl ?_; intro f h
      refine w_on h rfl rfl rfl ?_
      refine w_pure h (ru_pick_f (h.ev rfl) (h.ev rfl)) rfl ?_; intro f h
      refine w_pure h (ru_pick_t (h.ev rfl) (h.ev rfl)) rfl ?_; intro f h
      refine w_pure h (ru_move (h.ev rfl)) rfl ?_; intro f h
      refine w_on h rfl rfl rfl ?_
      refine w_load_row 7 h s row25 rfl rfl (mbArr_size _) rfl ?_; intro f h
      refine w_on h rfl rfl rfl ?_
      refine w_call h fnc12 (fun w9 hE9 => ret_val (.bool true) (lmay_any m w9) (congrArg Value.bool hx)) rfl rfl ?_; intro f h
      refine w_on h rfl rfl rfl ?_
      refine w_pure h (ru_val (.bool false) (ru_not (h.ev rfl)) rfl) rfl ?_; intro f h
      refine w_on h rfl rfl rfl ?_
      refine w_pure h (ru_move (h.ev rfl)) rfl ?_; intro f h
      refine w_off (b := true) h rfl rfl rfl rfl ?_; intro f h
      refine w_off (b := true) h rfl rfl rfl rfl ?_; intro f h
      refine w_off (b := true) h rfl rfl rfl rfl ?_; intro f h
      refine w_none h rfl rfl rfl rfl ?_; intro f h
      refine w_none h rfl rfl rfl rfl ?_; intro f h
      refine w_none h rfl rfl rfl rfl ?_; intro f h
      refine w_none h rfl rfl rfl rfl ?_; intro f h
      refine w_off (b := true) h rfl rfl rfl rfl ?_; intro f h
      refine w_on h rfl rfl rfl ?_
      refine w_pure h (ru_pick_f (h.ev rfl) (h.ev rfl)) rfl ?_; intro f h
      refine w_pure h (ru_pick_f (h.ev rfl) (h.ev rfl)) rfl ?_; intro f h
      refine w_nil s fun w1 s => ?_
      refine s_nil ?_
      refine hK12 _ _ ?_
      refine wpIn_cond_false (h.ev rfl) ?_
      refine wpIn_skip ?_
      refine hK11 _ _ ?_
      refine c_seq fun K17 hK17 => ?_
      refine c_seq fun K18 hK18 => ?_
      cases hz : (rightN q : Bool)
      · skip
        refine c_region ?_
        refine s_load_row 8 h s row28 rfl rfl (ndArr_size _ _ _ _) rfl ?_; intro f h
        refine s_call h s fnc15 (ret_val (.bool false) (rnright_any q (cutV ws (min y.sc.length 6)) (cutV wf (min y.fg.length 18)) _ (hlv2.keep s.ext) (hlf2.keep s.ext) (by omega) (by omega)) (congrArg Value.bool hz)) rfl rfl ?_; intro f w1 v9 hT hE h s; obtain rfl := hT
        refine s_pure h (ru_val (.bool true) (ru_not (h.ev rfl)) rfl) rfl ?_; intro f h
        refine s_nil ?_
        refine hK18 _ _ ?_
        refine wpIn_cond_true (h.ev rfl) ?_
        refine c_seq fun K19 hK19 => ?_
        refine c_region ?_
        refine s_pure h (ru_move (h.ev rfl)) rfl ?_; intro f h
        refine s_pure h (ru_val (.bool true) (ru_eql (h.ev rfl) (h.ev rfl)) (congrArg Value.bool (decide_eq_true ((fo_no1 hz).2)))) rfl ?_; intro f h
        refine s_pure h (ru_move (h.ev rfl)) rfl ?_; intro f h
        refine s_on h rfl rfl rfl ?_
        refine s_load_row 1 h s row28 rfl rfl (ndArr_size _ _ _ _) rfl ?_; intro f h
        refine s_on h rfl rfl rfl ?_
        refine s_load_row 0 h s row28 rfl rfl (ndArr_size _ _ _ _) rfl ?_; intro f h
        refine s_on h rfl rfl rfl ?_
        refine s_call h s fnc13 (ret_val (.bool true) (like_any (foN r q) zNd bu bv nilV nilV _ (RdZ.of_own (s.getSl 2 rfl)) (RdZ.of_own (s.getSl 3 rfl)) (rd_nilM _) (rd_nilM _) (by omega) (by omega) (by exact Nat.zero_le _) (by exact Nat.zero_le _)) (congrArg Value.bool (lkN_eq (fo_no1 hz).1))) rfl rfl ?_; intro f w1 v9 hT hE h s; obtain rfl := hT
        refine s_pure h (ru_pick_t (h.ev rfl) (h.ev rfl)) rfl ?_; intro f h
        refine s_pure h (ru_assign (h.ev rfl)) rfl ?_; intro f h
        refine s_nil ?_
        refine hK19 _ _ ?_
        refine wpIn_ret ?_
        refine t_ret ?_
        exact e_tmp rfl h s rfl (rfl)
      · skip
        refine c_region ?_
        refine s_load_row 8 h s row28 rfl rfl (ndArr_size _ _ _ _) rfl ?_; intro f h
        refine s_call h s fnc15 (ret_val (.bool true) (rnright_any q (cutV ws (min y.sc.length 6)) (cutV wf (min y.fg.length 18)) _ (hlv2.keep s.ext) (hlf2.keep s.ext) (by omega) (by omega)) (congrArg Value.bool hz)) rfl rfl ?_; intro f w1 v9 hT hE h s; obtain rfl := hT
        refine s_pure h (ru_val (.bool false) (ru_not (h.ev rfl)) rfl) rfl ?_; intro f h
        refine s_nil ?_
        refine hK18 _ _ ?_
        refine wpIn_cond_false (h.ev rfl) ?_
        refine wpIn_skip ?_
        refine hK17 _ _ ?_
        refine c_seq fun K20 hK20 => ?_
        have hbs := s.ext.le
        refine' c_reg2 8 [0, 1, 2] [] [[], [0], [0, 1], [0, 1, 2], [0, 1, 2], [0, 1, 2], [0, 1, 2, 4, 5], [0, 1, 2, 3, 4, 5, 6], [0, 1, 2, 3, 4, 5, 6, 7], [0, 1, 2, 3, 4, 5, 6, 7, 8]] (is _ :: is _ :: is _ :: is _ :: is _ :: is _ :: (FolD r.me r.pr (folS r q) (cutV vf (min n.fg.length 18))) :: is _ :: is undef :: is undef :: []) (fun _ => True) h s (by kernel_rfl) (by kernel_rfl) (by kernel_rfl) (by kernel_rfl) rfl (fun _ _ h _ => h) (trivial) ⟨⟨_, rfl⟩, ⟨_, rfl⟩, ⟨_, rfl⟩, trivial⟩ ⟨is_mono _, is_mono _, is_mono _, is_mono _, is_mono _, is_mono _, FolD.mono _ _ _ _, is_mono _, is_mono _, is_mono _, trivial⟩ (And.intro ?_ (And.intro ?_ (And.intro ?_ (And.intro ?_ (And.intro ?_ (And.intro ?_ (And.intro ?_ (And.intro ?_ (And.intro ?_ (And.intro ?_ (trivial))))))))))) ?_
        rotate_left 7
        · refine obH_in 89 rfl (by decide) ?_
          intro f9 w2 hE hs hl
          have e10 : f9.tmps.getD 10 undef = _ := sx_old hl 10 (by kernel_rfl) (by kernel_rfl) (h.holds 10 _ rfl)
          have h := fin_slot [(10, _)] hs rfl (holds_lk ⟨e10, trivial⟩)
          refine s_pure h (ru_move (h.ev rfl)) rfl ?_; intro f h
          refine s_nil ?_
          have e9 := h.holds 89 _ rfl
          refine ⟨?_, rfl⟩
          refine e9.trans ?_
          exact rfl
        · refine obH_in 90 rfl (by decide) ?_
          intro f9 w2 hE hs hl
          have e89 : f9.tmps.getD 89 undef = _ := sx_get hl 89 0 (by kernel_rfl) (by kernel_rfl)
          have h := fin_slot [(89, _)] hs rfl (holds_lk ⟨e89, trivial⟩)
          refine s_pure h (ru_val (.bool true) (ru_eql (h.ev rfl) (h.ev rfl)) (congrArg Value.bool (decide_eq_true ((fo_ok hr hz).2)))) rfl ?_; intro f h
          refine s_nil ?_
          have e9 := h.holds 90 _ rfl
          refine ⟨?_, rfl⟩
          refine e9.trans ?_
          exact rfl
        · refine obH_in 91 rfl (by decide) ?_
          intro f9 w2 hE hs hl
          have e90 : f9.tmps.getD 90 undef = _ := sx_get hl 90 1 (by kernel_rfl) (by kernel_rfl)
          have h := fin_slot [(90, _)] hs rfl (holds_lk ⟨e90, trivial⟩)
          refine s_pure h (ru_move (h.ev rfl)) rfl ?_; intro f h
          refine s_nil ?_
          have e9 := h.holds 91 _ rfl
          refine ⟨?_, rfl⟩
          refine e9.trans ?_
          exact rfl
        · refine obF_in 92 rfl (by decide) (by decide) ?_
          intro f9 w2 hE hs hd9 hl
          have e9 : f9.tmps.getD 9 undef = _ := sx_old hl 9 (by kernel_rfl) (by kernel_rfl) (h.holds 9 _ rfl)
          have e91 : f9.tmps.getD 91 undef = _ := sx_get hl 91 2 (by kernel_rfl) (by kernel_rfl)
          have h := fin_slot [(9, _), (91, _)] hs hd9 (holds_lk ⟨e9, e91, trivial⟩)
          have s := s.more hE
          have z := St.start w2
          refine s_on h rfl rfl rfl ?_
          refine s_load_row 1 h s row28 rfl rfl (ndArr_size _ _ _ _) rfl ?_; intro f h
          refine s_nil ?_
          have e9 := h.holds 92 _ rfl
          refine ⟨?_, Ext.refl _, fun h9 => absurd h9 (by decide)⟩
          refine e9.trans ?_
          exact rfl
        · refine obF_in 93 rfl (by decide) (by decide) ?_
          intro f9 w2 hE hs hd9 hl
          have e3 : f9.tmps.getD 3 undef = _ := sx_old hl 3 (by kernel_rfl) (by kernel_rfl) (h.holds 3 _ rfl)
          have e91 : f9.tmps.getD 91 undef = _ := sx_get hl 91 2 (by kernel_rfl) (by kernel_rfl)
          have h := fin_slot [(3, _), (91, _)] hs hd9 (holds_lk ⟨e3, e91, trivial⟩)
          have s := s.more hE
          have z := St.start w2
          refine s_on h rfl rfl rfl ?_
          refine s_load_row 9 h s row28 rfl rfl (ndArr_size _ _ _ _) rfl ?_; intro f h
          refine s_nil ?_
          have e9 := h.holds 93 _ rfl
          refine ⟨?_, Ext.refl _, fun h9 => absurd h9 (by decide)⟩
          refine e9.trans ?_
          exact rfl
        · refine obF_in 94 rfl (by decide) (by decide) ?_
          intro f9 w2 hE hs hd9 hl
          have e4 : f9.tmps.getD 4 undef = _ := sx_old hl 4 (by kernel_rfl) (by kernel_rfl) (h.holds 4 _ rfl)
          have e91 : f9.tmps.getD 91 undef = _ := sx_get hl 91 2 (by kernel_rfl) (by kernel_rfl)
          have h := fin_slot [(4, _), (91, _)] hs hd9 (holds_lk ⟨e4, e91, trivial⟩)
          have s := s.more hE
          have z := St.start w2
          refine s_on h rfl rfl rfl ?_
          refine s_load_row 8 h s row28 rfl rfl (ndArr_size _ _ _ _) rfl ?_; intro f h
          refine s_nil ?_
          have e9 := h.holds 94 _ rfl
          refine ⟨?_, Ext.refl _, fun h9 => absurd h9 (by decide)⟩
          refine e9.trans ?_
          exact rfl
        · refine obF_in 95 rfl (by decide) (by decide) ?_
          intro f9 w2 hE hs hd9 hl
          have e93 : f9.tmps.getD 93 undef = _ := sx_get hl 93 4 (by kernel_rfl) (by kernel_rfl)
          have e94 : f9.tmps.getD 94 undef = _ := sx_get hl 94 5 (by kernel_rfl) (by kernel_rfl)
          have e91 : f9.tmps.getD 91 undef = _ := sx_get hl 91 2 (by kernel_rfl) (by kernel_rfl)
          have h := fin_slot [(93, _), (94, _), (91, _)] hs hd9 (holds_lk ⟨e93, e94, e91, trivial⟩)
          have s := s.more hE
          have z := St.start w2
          refine s_on h rfl rfl rfl ?_
          refine s_call h s fnc24 (rfollow_any r (cutV vs (min n.sc.length 6)) (cutV vf (min n.fg.length 18)) q (cutV ws (min y.sc.length 6)) (cutV wf (min y.fg.length 18)) _ (hlv.keep s.ext) (hlf.keep s.ext) (by omega) (by omega) (hlv2.keep s.ext) (hlf2.keep s.ext) (by omega) (by omega) (rn_iff.1 hz)) rfl rfl ?_; intro f w3 v3 hT9 hE3 h s
          refine s_nil ?_
          exact ⟨by rw [h.holds 95 _ rfl]; exact hT9.d, hE3, fun h9 => absurd h9 (by decide)⟩
        · refine obF_in 96 rfl (by decide) (by decide) ?_
          intro f9 w2 hE hs hd9 hl
          have e92 : f9.tmps.getD 92 undef = _ := sx_get hl 92 3 (by kernel_rfl) (by kernel_rfl)
          obtain ⟨u95, hu95⟩ : ∃ v, f9.tmps.getD 95 undef = v := ⟨_, rfl⟩
          have e95 : (FolD r.me r.pr (folS r q) (cutV vf (min n.fg.length 18))) u95 w2 := by rw [← hu95]; exact sx_get hl 95 6 (by kernel_rfl) (by kernel_rfl)
          have e91 : f9.tmps.getD 91 undef = _ := sx_get hl 91 2 (by kernel_rfl) (by kernel_rfl)
          have h := fin_slot [(92, _), (95, u95), (91, _)] hs hd9 (holds_lk ⟨e92, hu95, e91, trivial⟩)
          have s := s.more hE
          have z := St.start w2
          obtain ⟨vo, rfl, hRo⟩ := e95
          refine s_on h rfl rfl rfl ?_
          refine s_call h s fnc13 (ret_val (.bool true) (like_any (foN r q) ⟨r.me, r.pr, folS r q, r.fg⟩ bu bv vo (cutV vf (min n.fg.length 18)) _ (RdZ.of_own (s.getSl 2 rfl)) (RdZ.of_own (s.getSl 3 rfl)) hRo (hlf.keep s.ext) (by omega) (by omega) (by show (folS r q).length ≤ 1000; omega) (by show r.fg.length ≤ 1000; omega)) (congrArg Value.bool (lkN_eq (fo_ok hr hz).1))) rfl rfl ?_; intro f w3 v3 hT9 hE3 h s
          refine s_nil ?_
          exact ⟨by rw [h.holds 96 _ rfl]; exact hT9, hE3, fun h9 => absurd h9 (by decide)⟩
        · exact obT_in (by decide) (by decide)
        · exact obT_in (by decide) (by decide)
        · intro f9 w2 hE hs hd9 hWp hT hR hFr hDj
          obtain ⟨u95, hu95⟩ : ∃ v, f9.tmps.getD 95 undef = v := ⟨_, rfl⟩
          have e95 : (FolD r.me r.pr (folS r q) (cutV vf (min n.fg.length 18))) u95 w2 := by rw [← hu95]; exact hT 6 95 (by decide) rfl
          replace h := sl_new (ops := _) [(89, _), (90, _), (91, _), (92, _), (93, _), (94, _), (95, u95), (96, _)] h hs hd9 hR ⟨hT 0 89 (by decide) rfl, hT 1 90 (by decide) rfl, hT 2 91 (by decide) rfl, hT 3 92 (by decide) rfl, hT 4 93 (by decide) rfl, hT 5 94 (by decide) rfl, hu95, hT 7 96 (by decide) rfl, trivial⟩ (by kernel_rfl)
          replace s := s.more hE
          clear hT hR hFr hDj
          refine LstW.of ?_
          refine s_pure h (ru_pick_t (h.ev rfl) (h.ev rfl)) rfl ?_; intro f h
          refine s_pure h (ru_assign (h.ev rfl)) rfl ?_; intro f h
          refine s_nil ?_
          refine hK20 _ _ ?_
          refine wpIn_ret ?_
          exact e_tmp rfl h s rfl (rfl)
end Go.Proofs.Ytfnjdjbknjcocaa
