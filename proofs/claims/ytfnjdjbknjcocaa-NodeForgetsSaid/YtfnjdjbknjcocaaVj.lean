/- What NodeForgets answers, and the reference that it calls: for all arguments. -/
import Derived.Test.YtfnjdjbknjcocaaVd
import Derived.Test.YtfnjdjbknjcocaaVf
import Derived.Test.YtfnjdjbknjcocaaVg
set_option linter.unusedVariables false
set_option linter.unusedSimpArgs false
set_option linter.unusedSectionVars false
namespace Go.Proofs.Ytfnjdjbknjcocaa
open Go.RowKit
theorem rfind_any (l : List Mb) (vh : Value) (no : Int) (w : World) (hR : RdZ w vh 33 l.length (mbCells l)) (hln : l.length ≤ 1000) : Calls Try.prog 28 [vh, .int .i64 no].toArray w (Ret w (is (.agg (mbArr (refF l no))))) := by
  refine c_enter Try.func28 rfl Try.ntmps28 rfl [(0, vh), (1, .int .i64 no)] (by simp) fun f h => ?_
  have s := St.start w
  refine c_seq fun K1 hK1 => ?_
  refine c_region ?_
  refine s_alloc (mbArr zMb) h s zero25 rfl rfl ?_; intro f w1 b4 h s
  refine s_nil ?_
  refine hK1 _ _ ?_
  refine c_seq fun K2 hK2 => ?_
  refine c_seq fun K3 hK3 => ?_
  refine c_region ?_
  refine s_pure h (ru_move (h.ev rfl)) rfl ?_; intro f h
  refine s_pure h (ru_lenZ (hR.keep s.ext) Try.underlying26 (h.ev rfl)) rfl ?_; intro f h
  refine s_pure h (ru_move (h.ev rfl)) rfl ?_; intro f h
  refine s_nil ?_
  refine hK3 _ _ ?_
  refine wpIn_block ?_
  refine wpIn_loop_ghost (fun nn aa ww => ∃ k : Nat, Sl 20 aa [(0, vh), (1, .int .i64 no), (4, .pointer (some ⟨b4, 0, none⟩)), (7, vh), (8, .int .i64 (l.length : Int)), (9, .int .i64 (k : Int))] ∧ St w [.blk b4 (.cells (mbArr zMb) 25)] ww ∧ nn = l.length - k ∧ k ≤ l.length ∧ ∀ j, j < k → decide ((l.getD j zMb).1 = no) = false) (l.length - (0)) ⟨0, h.only ⟨rfl, rfl, rfl, rfl, rfl, slot_int rfl (by omega), trivial⟩, s.as ⟨rfl, trivial⟩, rfl, Nat.zero_le _, fun j hj => absurd hj (Nat.not_lt_zero _)⟩ ?_
  rintro _ f w1 ⟨k, h, s, hnn, hp0, hp1⟩
  refine c_seq fun K4 hK4 => ?_
  refine c_region ?_
  refine s_pure h (ru_lss (h.ev rfl) (h.ev rfl)) rfl ?_; intro f h
  refine s_nil ?_
  refine hK4 _ _ ?_
  refine c_seq fun K5 hK5 => ?_
  refine c_cond h rfl (fun hc => ?_) (fun hc => ?_)
  · replace hc := of_decide_eq_true hc
    refine wpIn_skip ?_
    refine hK5 _ _ ?_
    refine c_seq fun K6 hK6 => ?_
    refine wpIn_block ?_
    refine c_seq fun K7 hK7 => ?_
    refine c_region ?_
    have hkl : k < l.length := by omega
    refine s_pure h (ru_ixz (hR.keep s.ext) (k) Try.underlying26 szo25 (h.ev rfl) (h.ev rfl) (by omega) (by omega)) rfl ?_; intro f h
    refine s_load_at ((hR.keep s.ext).el (k) (by omega) (by decide) (D := mbArr (l.getD k zMb)) (mb_elD l k hkl)) h row25 rfl (mbArr_size _) rfl ?_; intro f h
    refine s_alloc (mbArr zMb) h s zero25 rfl rfl ?_; intro f w1 b6 h s
    refine s_store_row 0 h s row25 rfl rfl rfl (mbArr_size _) (mbArr_size _) (mbArr_ones _) ?_; intro w1 s
    refine s_nil ?_
    refine hK7 _ _ ?_
    refine c_seq fun K8 hK8 => ?_
    refine c_region ?_
    refine s_pure h (ru_field fld25_0 (h.ev rfl)) rfl ?_; intro f h
    refine s_load_at1 (cell_of_has (Has.of_own s 0 rfl) 0 (mbArr_no _)) h one3 rfl rfl ?_; intro f h
    refine s_pure h (ru_move (h.ev rfl)) rfl ?_; intro f h
    refine s_pure h (ru_eql (h.ev rfl) (h.ev rfl)) rfl ?_; intro f h
    refine s_nil ?_
    refine hK8 _ _ ?_
    refine c_cond h rfl (fun hc => ?_) (fun hc => ?_)
    · refine c_seq fun K9 hK9 => ?_
      refine c_region ?_
      refine s_load_row 0 h s row25 rfl rfl (mbArr_size _) rfl ?_; intro f h
      refine s_store_row 1 h s row25 rfl rfl rfl (mbArr_size _) (mbArr_size _) (mbArr_ones _) ?_; intro w1 s
      refine s_nil ?_
      refine hK9 _ _ ?_
      refine wpIn_ret ?_
      refine b_ret ?_
      refine t_ret ?_
      refine t_ret ?_
      refine b_ret ?_
      refine t_ret ?_
      exact e_row 1 rfl h s row25 rfl rfl (mbArr_size _) (by show _ = _; unfold refF; rw [find_at hkl hp1 hc] <;> rfl)
    · refine wpIn_skip ?_
      refine b_norm ?_
      refine hK6 _ _ ?_
      refine c_region ?_
      refine s_pure h (ru_add (h.ev rfl) (h.ev rfl) (by omega)) rfl ?_; intro f h
      refine s_pure h (ru_move (h.ev rfl)) rfl ?_; intro f h
      refine s_nil ?_
      refine t_norm ?_
      exact ⟨_, by omega, ⟨k + 1, h.only ⟨rfl, rfl, rfl, rfl, rfl, slot_int rfl (by omega), trivial⟩, St.as (s.pick _ (List.sublist_append_right [_] _)) ⟨rfl, trivial⟩, rfl, by omega, qs_next (q := fun j => decide ((l.getD j zMb).1 = no)) hp1 hc⟩⟩
  · replace hc := of_decide_eq_false hc
    refine wpIn_exit ?_
    refine t_exit ?_
    refine t_exit ?_
    refine b_exit ?_
    refine hK2 _ _ ?_
    refine c_seq fun K10 hK10 => ?_
    refine c_region ?_
    refine s_pure h (ru_build_mb1 sttM (h.ev rfl)) rfl ?_; intro f h
    refine s_store_row 0 h s row25 rfl rfl rfl (mbArr_size _) (mbArr_size _) (mbArr_ones _) ?_; intro w1 s
    refine s_nil ?_
    refine hK10 _ _ ?_
    refine wpIn_ret ?_
    exact e_row 0 rfl h s row25 rfl rfl (mbArr_size _) (by show _ = _; unfold refF; rw [find_no (by omega) hp1] <;> rfl)

set_option maxHeartbeats 1000000 in
theorem without_any (l : List Mb) (vh : Value) (nos : List Int) (vn : Value) (no : Int) (w : World) (hR : RdZ w vh 33 l.length (mbCells l)) (hln : l.length ≤ 1000) (hN : RdZ w vn 1 nos.length (nos.map (Value.int .i64))) (hnn : nos.length ≤ 1000) : Calls Try.prog 53 [vh, vn, .int .i64 no].toArray w (Ret w (fun v w' => Owns w' w.heap.size 25 33 v (withL l nos no).length (mbCells (withL l nos no)))) := by
  refine c_enter Try.func53 rfl Try.ntmps53 rfl [(0, vh), (1, vn), (2, .int .i64 no)] (by simp) fun f h => ?_
  have s := St.start w
  refine c_seq fun K1 hK1 => ?_
  refine c_region ?_
  refine s_pure h (ru_assign (h.ev rfl)) rfl ?_; intro f h
  refine s_nil ?_
  refine hK1 _ _ ?_
  refine c_seq fun K2 hK2 => ?_
  refine c_region ?_
  refine s_bslice (vs := []) [] h s Try.underlying26 elm25 rfl rfl (by simp) rfl rfl rfl ?_; intro f w1 v13 h s
  replace s := s.resl (m := (withL (l.take 0) nos no).length) (ys := mbCells (withL (l.take 0) nos no)) 0 rfl rfl rfl
  refine s_pure h (ru_assign (h.ev rfl)) rfl ?_; intro f h
  refine s_nil ?_
  refine hK2 _ _ ?_
  refine c_seq fun K3 hK3 => ?_
  refine c_seq fun K4 hK4 => ?_
  refine c_region ?_
  refine s_pure h (ru_move (h.ev rfl)) rfl ?_; intro f h
  refine s_pure h (ru_lenZ (hR.keep s.ext) Try.underlying26 (h.ev rfl)) rfl ?_; intro f h
  refine s_pure h (ru_move (h.ev rfl)) rfl ?_; intro f h
  refine s_nil ?_
  refine hK4 _ _ ?_
  refine wpIn_block ?_
  refine wpIn_loop_ghost (fun nn aa ww => ∃ k : Nat, ∃ vb : Value, Sl 47 aa [(0, vh), (1, vn), (2, .int .i64 no), (7, vb), (14, vh), (15, .int .i64 (l.length : Int)), (16, .int .i64 (k : Int))] ∧ St w [.sl vb 25 33 (withL (l.take k) nos no).length (mbCells (withL (l.take k) nos no))] ww ∧ nn = l.length - k ∧ k ≤ l.length) (l.length - (0)) ⟨0, v13, h.only ⟨rfl, rfl, rfl, rfl, rfl, rfl, slot_int rfl (by omega), trivial⟩, s.as ⟨rfl, trivial⟩, rfl, Nat.zero_le _⟩ ?_
  rintro _ f w1 ⟨k, vb, h, s, hnn, hp0⟩
  have hwl := withL_le (l.take k) nos no
  rw [List.length_take] at hwl
  refine c_seq fun K5 hK5 => ?_
  refine c_region ?_
  refine s_pure h (ru_lss (h.ev rfl) (h.ev rfl)) rfl ?_; intro f h
  refine s_nil ?_
  refine hK5 _ _ ?_
  refine c_seq fun K6 hK6 => ?_
  refine c_cond h rfl (fun hc => ?_) (fun hc => ?_)
  · replace hc := of_decide_eq_true hc
    refine wpIn_skip ?_
    refine hK6 _ _ ?_
    refine c_seq fun K7 hK7 => ?_
    refine wpIn_block ?_
    refine c_seq fun K8 hK8 => ?_
    refine c_region ?_
    have hkl : k < l.length := by omega
    refine s_pure h (ru_ixz (hR.keep s.ext) (k) Try.underlying26 szo25 (h.ev rfl) (h.ev rfl) (by omega) (by omega)) rfl ?_; intro f h
    refine s_load_at ((hR.keep s.ext).el (k) (by omega) (by decide) (D := mbArr (l.getD k zMb)) (mb_elD l k hkl)) h row25 rfl (mbArr_size _) rfl ?_; intro f h
    refine s_alloc (mbArr zMb) h s zero25 rfl rfl ?_; intro f w1 b9 h s
    refine s_store_row 0 h s row25 rfl rfl rfl (mbArr_size _) (mbArr_size _) (mbArr_ones _) ?_; intro w1 s
    refine s_nil ?_
    refine hK8 _ _ ?_
    refine c_seq fun K9 hK9 => ?_
    refine c_region ?_
    refine s_pure h (ru_assign (h.ev rfl)) rfl ?_; intro f h
    refine s_nil ?_
    refine hK9 _ _ ?_
    refine c_seq fun K10 hK10 => ?_
    refine c_seq fun K11 hK11 => ?_
    refine c_region ?_
    refine s_pure h (ru_move (h.ev rfl)) rfl ?_; intro f h
    refine s_pure h (ru_lenZ (hN.keep s.ext) Try.underlying50 (h.ev rfl)) rfl ?_; intro f h
    refine s_pure h (ru_move (h.ev rfl)) rfl ?_; intro f h
    refine s_nil ?_
    refine hK11 _ _ ?_
    refine wpIn_block ?_
    refine wpIn_loop_ghost (fun nn aa ww => ∃ j : Nat, Sl 47 aa [(0, vh), (1, vn), (2, .int .i64 no), (9, .pointer (some ⟨b9, 0, none⟩)), (7, vb), (10, .bool (goneK nos (gnF no (l.getD k zMb)) j)), (14, vh), (15, .int .i64 (l.length : Int)), (16, .int .i64 (k : Int)), (20, vn), (21, .int .i64 (nos.length : Int)), (22, .int .i64 (j : Int))] ∧ St w [.blk b9 (.cells (mbArr (l.getD k zMb)) 25), .sl vb 25 33 (withL (l.take k) nos no).length (mbCells (withL (l.take k) nos no))] ww ∧ nn = nos.length - j ∧ j ≤ nos.length) (nos.length - (0)) ⟨0, h.only ⟨rfl, rfl, rfl, rfl, rfl, rfl, rfl, rfl, rfl, rfl, rfl, slot_int rfl (by omega), trivial⟩, s.as ⟨rfl, rfl, trivial⟩, rfl, Nat.zero_le _⟩ ?_
    rintro _ f w1 ⟨j, h, s, hnn, hp0⟩
    refine c_seq fun K12 hK12 => ?_
    refine c_region ?_
    refine s_pure h (ru_lss (h.ev rfl) (h.ev rfl)) rfl ?_; intro f h
    refine s_nil ?_
    refine hK12 _ _ ?_
    refine c_seq fun K13 hK13 => ?_
    refine c_cond h rfl (fun hc => ?_) (fun hc => ?_)
    · replace hc := of_decide_eq_true hc
      refine wpIn_skip ?_
      refine hK13 _ _ ?_
      refine c_seq fun K14 hK14 => ?_
      refine wpIn_block ?_
      refine c_seq fun K15 hK15 => ?_
      refine c_region ?_
      have hjl : j < nos.length := by omega
      refine s_pure h (ru_ixz (hN.keep s.ext) (j) Try.underlying50 szo3 (h.ev rfl) (h.ev rfl) (by omega) (by omega)) rfl ?_; intro f h
      refine s_load_at1 ((hN.keep s.ext).el1 (j) (V := .int .i64 (nos.getD j 0)) (ns_el nos j hjl)) h one3 rfl rfl ?_; intro f h
      refine s_pure h (ru_assign (h.ev rfl)) rfl ?_; intro f h
      refine s_nil ?_
      refine hK15 _ _ ?_
      cases d0 : ((goneK nos (gnF no (l.getD k zMb)) j) : Bool)
      · skip
        cases d1 : (decide (nos.getD j 0 = (l.getD k zMb).1) : Bool)
        · skip
          refine c_region ?_
          refine s_pure h (ru_move (h.ev rfl)) rfl ?_; intro f h
          refine s_pure h (ru_val (.bool false) (ru_move (h.ev rfl)) (congrArg Value.bool d0)) rfl ?_; intro f h
          refine s_on h rfl rfl rfl ?_
          refine s_pure h (ru_move (h.ev rfl)) rfl ?_; intro f h
          refine s_on h rfl rfl rfl ?_
          refine s_pure h (ru_field fld25_0 (h.ev rfl)) rfl ?_; intro f h
          refine s_on h rfl rfl rfl ?_
          refine s_load_at1 (cell_of_has (Has.of_own s 0 rfl) 0 (mbArr_no _)) h one3 rfl rfl ?_; intro f h
          refine s_on h rfl rfl rfl ?_
          refine s_pure h (ru_val (.bool false) (ru_eql (h.ev rfl) (h.ev rfl)) (congrArg Value.bool d1)) rfl ?_; intro f h
          refine s_on h rfl rfl rfl ?_
          refine s_pure h (ru_move (h.ev rfl)) rfl ?_; intro f h
          refine s_off (b := true) h rfl rfl rfl rfl ?_; intro f h
          refine s_off (b := true) h rfl rfl rfl rfl ?_; intro f h
          refine s_off (b := true) h rfl rfl rfl rfl ?_; intro f h
          refine s_on h rfl rfl rfl ?_
          refine s_pure h (ru_pick_f (h.ev rfl) (h.ev rfl)) rfl ?_; intro f h
          refine s_pure h (ru_pick_f (h.ev rfl) (h.ev rfl)) rfl ?_; intro f h
          refine s_pure h (ru_assign (h.ev rfl)) rfl ?_; intro f h
          refine s_nil ?_
          refine b_norm ?_
          refine hK14 _ _ ?_
          refine c_region ?_
          refine s_pure h (ru_add (h.ev rfl) (h.ev rfl) (by omega)) rfl ?_; intro f h
          refine s_pure h (ru_move (h.ev rfl)) rfl ?_; intro f h
          refine s_nil ?_
          refine t_norm ?_
          exact ⟨_, by omega, ⟨j + 1, h.only ⟨rfl, rfl, rfl, rfl, rfl, congrArg (fun b => some (Value.bool b)) (gn_0 hjl d0 d1).symm, rfl, rfl, rfl, rfl, rfl, slot_int rfl (by omega), trivial⟩, St.as s ⟨rfl, rfl, trivial⟩, rfl, by omega⟩⟩
        · skip
          cases d2 : (decide (nos.getD j 0 ≠ no) : Bool)
          · skip
            refine c_region ?_
            refine s_pure h (ru_move (h.ev rfl)) rfl ?_; intro f h
            refine s_pure h (ru_val (.bool false) (ru_move (h.ev rfl)) (congrArg Value.bool d0)) rfl ?_; intro f h
            refine s_on h rfl rfl rfl ?_
            refine s_pure h (ru_move (h.ev rfl)) rfl ?_; intro f h
            refine s_on h rfl rfl rfl ?_
            refine s_pure h (ru_field fld25_0 (h.ev rfl)) rfl ?_; intro f h
            refine s_on h rfl rfl rfl ?_
            refine s_load_at1 (cell_of_has (Has.of_own s 0 rfl) 0 (mbArr_no _)) h one3 rfl rfl ?_; intro f h
            refine s_on h rfl rfl rfl ?_
            refine s_pure h (ru_val (.bool true) (ru_eql (h.ev rfl) (h.ev rfl)) (congrArg Value.bool d1)) rfl ?_; intro f h
            refine s_on h rfl rfl rfl ?_
            refine s_pure h (ru_move (h.ev rfl)) rfl ?_; intro f h
            refine s_on h rfl rfl rfl ?_
            refine s_pure h (ru_move (h.ev rfl)) rfl ?_; intro f h
            refine s_on h rfl rfl rfl ?_
            refine s_pure h (ru_move (h.ev rfl)) rfl ?_; intro f h
            refine s_on h rfl rfl rfl ?_
            refine s_pure h (ru_val (.bool false) (ru_neq (h.ev rfl) (h.ev rfl)) (congrArg Value.bool d2)) rfl ?_; intro f h
            refine s_on h rfl rfl rfl ?_
            refine s_pure h (ru_pick_t (h.ev rfl) (h.ev rfl)) rfl ?_; intro f h
            refine s_pure h (ru_pick_f (h.ev rfl) (h.ev rfl)) rfl ?_; intro f h
            refine s_pure h (ru_assign (h.ev rfl)) rfl ?_; intro f h
            refine s_nil ?_
            refine b_norm ?_
            refine hK14 _ _ ?_
            refine c_region ?_
            refine s_pure h (ru_add (h.ev rfl) (h.ev rfl) (by omega)) rfl ?_; intro f h
            refine s_pure h (ru_move (h.ev rfl)) rfl ?_; intro f h
            refine s_nil ?_
            refine t_norm ?_
            exact ⟨_, by omega, ⟨j + 1, h.only ⟨rfl, rfl, rfl, rfl, rfl, congrArg (fun b => some (Value.bool b)) (gn_1 hjl d0 d2).symm, rfl, rfl, rfl, rfl, rfl, slot_int rfl (by omega), trivial⟩, St.as s ⟨rfl, rfl, trivial⟩, rfl, by omega⟩⟩
          · skip
            refine c_region ?_
            refine s_pure h (ru_move (h.ev rfl)) rfl ?_; intro f h
            refine s_pure h (ru_val (.bool false) (ru_move (h.ev rfl)) (congrArg Value.bool d0)) rfl ?_; intro f h
            refine s_on h rfl rfl rfl ?_
            refine s_pure h (ru_move (h.ev rfl)) rfl ?_; intro f h
            refine s_on h rfl rfl rfl ?_
            refine s_pure h (ru_field fld25_0 (h.ev rfl)) rfl ?_; intro f h
            refine s_on h rfl rfl rfl ?_
            refine s_load_at1 (cell_of_has (Has.of_own s 0 rfl) 0 (mbArr_no _)) h one3 rfl rfl ?_; intro f h
            refine s_on h rfl rfl rfl ?_
            refine s_pure h (ru_val (.bool true) (ru_eql (h.ev rfl) (h.ev rfl)) (congrArg Value.bool d1)) rfl ?_; intro f h
            refine s_on h rfl rfl rfl ?_
            refine s_pure h (ru_move (h.ev rfl)) rfl ?_; intro f h
            refine s_on h rfl rfl rfl ?_
            refine s_pure h (ru_move (h.ev rfl)) rfl ?_; intro f h
            refine s_on h rfl rfl rfl ?_
            refine s_pure h (ru_move (h.ev rfl)) rfl ?_; intro f h
            refine s_on h rfl rfl rfl ?_
            refine s_pure h (ru_val (.bool true) (ru_neq (h.ev rfl) (h.ev rfl)) (congrArg Value.bool d2)) rfl ?_; intro f h
            refine s_on h rfl rfl rfl ?_
            refine s_pure h (ru_pick_t (h.ev rfl) (h.ev rfl)) rfl ?_; intro f h
            refine s_pure h (ru_pick_f (h.ev rfl) (h.ev rfl)) rfl ?_; intro f h
            refine s_pure h (ru_assign (h.ev rfl)) rfl ?_; intro f h
            refine s_nil ?_
            refine b_norm ?_
            refine hK14 _ _ ?_
            refine c_region ?_
            refine s_pure h (ru_add (h.ev rfl) (h.ev rfl) (by omega)) rfl ?_; intro f h
            refine s_pure h (ru_move (h.ev rfl)) rfl ?_; intro f h
            refine s_nil ?_
            refine t_norm ?_
            exact ⟨_, by omega, ⟨j + 1, h.only ⟨rfl, rfl, rfl, rfl, rfl, congrArg (fun b => some (Value.bool b)) (gn_2 hjl d1 d2).symm, rfl, rfl, rfl, rfl, rfl, slot_int rfl (by omega), trivial⟩, St.as s ⟨rfl, rfl, trivial⟩, rfl, by omega⟩⟩
      · skip
        refine c_region ?_
        refine s_pure h (ru_move (h.ev rfl)) rfl ?_; intro f h
        refine s_pure h (ru_val (.bool true) (ru_move (h.ev rfl)) (congrArg Value.bool d0)) rfl ?_; intro f h
        refine s_off (b := false) h rfl rfl rfl rfl ?_; intro f h
        refine s_off (b := false) h rfl rfl rfl rfl ?_; intro f h
        refine s_off (b := false) h rfl rfl rfl rfl ?_; intro f h
        refine s_off (b := false) h rfl rfl rfl rfl ?_; intro f h
        refine s_off (b := false) h rfl rfl rfl rfl ?_; intro f h
        refine s_none h rfl rfl rfl rfl ?_; intro f h
        refine s_none h rfl rfl rfl rfl ?_; intro f h
        refine s_none h rfl rfl rfl rfl ?_; intro f h
        refine s_off (b := false) h rfl rfl rfl rfl ?_; intro f h
        refine s_pure h (ru_pick_t (h.ev rfl) (h.ev rfl)) rfl ?_; intro f h
        refine s_pure h (ru_assign (h.ev rfl)) rfl ?_; intro f h
        refine s_nil ?_
        refine b_norm ?_
        refine hK14 _ _ ?_
        refine c_region ?_
        refine s_pure h (ru_add (h.ev rfl) (h.ev rfl) (by omega)) rfl ?_; intro f h
        refine s_pure h (ru_move (h.ev rfl)) rfl ?_; intro f h
        refine s_nil ?_
        refine t_norm ?_
        exact ⟨_, by omega, ⟨j + 1, h.only ⟨rfl, rfl, rfl, rfl, rfl, congrArg (fun b => some (Value.bool b)) (gn_3 hjl d0).symm, rfl, rfl, rfl, rfl, rfl, slot_int rfl (by omega), trivial⟩, St.as s ⟨rfl, rfl, trivial⟩, rfl, by omega⟩⟩
    · replace hc := of_decide_eq_false hc
      refine wpIn_exit ?_
      refine t_exit ?_
      refine t_exit ?_
      refine b_exit ?_
      refine hK10 _ _ ?_
      refine c_seq fun K16 hK16 => ?_
      cases hgr : (goneR nos no (l.getD k zMb) : Bool)
      · skip
        refine c_region ?_
        have hje := gn_end (no := no) (x := (l.getD k zMb)) (show j = nos.length by omega)
        refine s_pure h (ru_val (.bool false) (ru_move (h.ev rfl)) (congrArg Value.bool (hje.trans hgr))) rfl ?_; intro f h
        refine s_pure h (ru_val (.bool true) (ru_not (h.ev rfl)) rfl) rfl ?_; intro f h
        refine s_nil ?_
        refine hK16 _ _ ?_
        refine wpIn_cond_true (h.ev rfl) ?_
        refine c_region ?_
        refine s_pure h (ru_move (h.ev rfl)) rfl ?_; intro f h
        refine s_load_row 0 h s row25 rfl rfl (mbArr_size _) rfl ?_; intro f h
        refine s_bslice (vs := [.agg (mbArr (l.getD k zMb))]) [.tmp 42] h s Try.underlying26 elm25 rfl rfl (mb_sz _) rfl rfl rfl ?_; intro f w1 v43 h s
        refine s_append 2 0 h s Try.underlying26 elm25 rfl rfl rfl rfl (by decide) (by rw [one_mb]; exact mbArr_ones _) (by unfold maxLen; omega) (by omega) rfl ?_; intro f w1 v44 h s
        replace s := s.pick _ (List.sublist_cons_self _ _)
        replace s := s.resl (m := (withL (l.take (k + 1)) nos no).length) (ys := mbCells (withL (l.take (k + 1)) nos no)) 1 rfl (by rw [withL_n hkl hgr, List.length_append]; rfl) (by rw [withL_n hkl hgr, one_mb, mb_snoc])
        refine s_pure h (ru_assign (h.ev rfl)) rfl ?_; intro f h
        refine s_nil ?_
        refine b_norm ?_
        refine hK7 _ _ ?_
        refine c_region ?_
        refine s_pure h (ru_add (h.ev rfl) (h.ev rfl) (by omega)) rfl ?_; intro f h
        refine s_pure h (ru_move (h.ev rfl)) rfl ?_; intro f h
        refine s_nil ?_
        refine t_norm ?_
        exact ⟨_, by omega, ⟨k + 1, v44, h.only ⟨rfl, rfl, rfl, rfl, rfl, rfl, slot_int rfl (by omega), trivial⟩, St.as (s.pick _ (List.sublist_append_right [_] _)) ⟨rfl, trivial⟩, rfl, by omega⟩⟩
      · skip
        refine c_region ?_
        have hje := gn_end (no := no) (x := (l.getD k zMb)) (show j = nos.length by omega)
        refine s_pure h (ru_val (.bool true) (ru_move (h.ev rfl)) (congrArg Value.bool (hje.trans hgr))) rfl ?_; intro f h
        refine s_pure h (ru_val (.bool false) (ru_not (h.ev rfl)) rfl) rfl ?_; intro f h
        refine s_nil ?_
        refine hK16 _ _ ?_
        refine wpIn_cond_false (h.ev rfl) ?_
        refine wpIn_skip ?_
        refine b_norm ?_
        refine hK7 _ _ ?_
        refine c_region ?_
        refine s_pure h (ru_add (h.ev rfl) (h.ev rfl) (by omega)) rfl ?_; intro f h
        refine s_pure h (ru_move (h.ev rfl)) rfl ?_; intro f h
        refine s_nil ?_
        refine t_norm ?_
        exact ⟨_, by omega, ⟨k + 1, vb, h.only ⟨rfl, rfl, rfl, rfl, rfl, rfl, slot_int rfl (by omega), trivial⟩, St.as (s.pick _ (List.sublist_append_right [_] _)) ⟨sl_eq (by rw [withL_y hkl hgr]) (by rw [withL_y hkl hgr]), trivial⟩, rfl, by omega⟩⟩
  · replace hc := of_decide_eq_false hc
    refine wpIn_exit ?_
    refine t_exit ?_
    refine t_exit ?_
    refine b_exit ?_
    refine hK3 _ _ ?_
    refine c_seq fun K17 hK17 => ?_
    refine c_region ?_
    refine s_pure h (ru_move (h.ev rfl)) rfl ?_; intro f h
    refine s_pure h (ru_assign (h.ev rfl)) rfl ?_; intro f h
    refine s_nil ?_
    refine hK17 _ _ ?_
    refine wpIn_ret ?_
    exact e_tmp rfl h s rfl ((by obtain rfl : k = l.length := (by omega); rw [List.take_length] at s; exact (s.getSl 0 rfl)))

set_option maxHeartbeats 1000000 in
theorem rdrop_any (n : Nd) (vs vf : Value) (nos : List Int) (vn : Value) (w : World) (hRs : RdZ w vs 33 n.sc.length (mbCells n.sc)) (hRf : RdZ w vf 33 n.fg.length (mbCells n.fg)) (hns : n.sc.length ≤ 900) (hnf : n.fg.length ≤ 900) (hN : RdZ w vn 1 nos.length (nos.map (Value.int .i64))) (hnn : nos.length ≤ 1000) : Calls Try.prog 27 [.agg (ndArr n.me n.pr vs vf), vn].toArray w (Ret w (DrR w 25 n.me (rdP n nos) (orA (withL n.sc nos n.me.1) n.me) (withL n.fg nos n.me.1))) := by
  have hwl := withL_le n.sc nos n.me.1
  refine c_enter Try.func27 rfl Try.ntmps27 rfl [(0, .agg (ndArr n.me n.pr vs vf)), (1, vn)] (by simp) fun f h => ?_
  have s := St.start w
  refine c_seq fun K1 hK1 => ?_
  refine c_region ?_
  refine s_box (ndArr n.me n.pr vs vf) h s rfl rfl rfl ?_; intro f w1 b2 h s
  refine s_alloc (ndArr zMb zMb nilV nilV) h s zero28 rfl rfl ?_; intro f w1 b4 h s
  refine s_nil ?_
  refine hK1 _ _ ?_
  refine c_seq fun K2 hK2 => ?_
  refine c_region ?_
  refine s_pure h (ru_field fld28_2 (h.ev rfl)) rfl ?_; intro f h
  refine s_load_at1 (V := vs) (cell_of_has (Has.of_own s 1 rfl) 66 (ndArr_sc _ _ _ _)) h one26 rfl rfl ?_; intro f h
  refine s_pure h (ru_move (h.ev rfl)) rfl ?_; intro f h
  refine s_pure h (ru_field fld28_0 (h.ev rfl)) rfl ?_; intro f h
  refine s_pure h (ru_field fld25_0 (h.ev rfl)) rfl ?_; intro f h
  refine s_load_at1 (cell_of_has (Has.of_own s 1 rfl) 0 (ndArr_no _ _ _ _)) h one3 rfl rfl ?_; intro f h
  refine s_call h s fnc53 (without_any n.sc vs nos vn n.me.1 _ (hRs.keep s.ext) (by omega) (hN.keep s.ext) hnn) rfl rfl ?_; intro f w1 v11 hT hE h sq; replace s := s.sl_new hE hT
  refine s_pure h (ru_field fld28_2 (h.ev rfl)) rfl ?_; intro f h
  refine s_store_one 2 h s one26 rfl rfl rfl (by rw [ndArr_size]; omega) (own_one (s.getSl 0 rfl)) ?_; intro w1 s
  replace s := s.recell (D := ndArr n.me n.pr v11 vf) 2 rfl (nd_set66 _ _ _ _ _)
  refine s_nil ?_
  refine hK2 _ _ ?_
  refine c_seq fun K3 hK3 => ?_
  refine c_region ?_
  refine s_pure h (ru_field fld28_3 (h.ev rfl)) rfl ?_; intro f h
  refine s_load_at1 (V := vf) (cell_of_has (Has.of_own s 2 rfl) 67 (ndArr_fg _ _ _ _)) h one26 rfl rfl ?_; intro f h
  refine s_pure h (ru_move (h.ev rfl)) rfl ?_; intro f h
  refine s_pure h (ru_field fld28_0 (h.ev rfl)) rfl ?_; intro f h
  refine s_pure h (ru_field fld25_0 (h.ev rfl)) rfl ?_; intro f h
  refine s_load_at1 (cell_of_has (Has.of_own s 2 rfl) 0 (ndArr_no _ _ _ _)) h one3 rfl rfl ?_; intro f h
  refine s_call h s fnc53 (without_any n.fg vf nos vn n.me.1 _ (hRf.keep s.ext) (by omega) (hN.keep s.ext) hnn) rfl rfl ?_; intro f w1 v19 hT hE h sq; replace s := s.sl_new hE hT
  refine s_pure h (ru_field fld28_3 (h.ev rfl)) rfl ?_; intro f h
  refine s_store_one 3 h s one26 rfl rfl rfl (by rw [ndArr_size]; omega) (own_one (s.getSl 0 rfl)) ?_; intro w1 s
  replace s := s.recell (D := ndArr n.me n.pr v11 v19) 3 rfl (nd_set67 _ _ _ _ _)
  refine s_nil ?_
  refine hK3 _ _ ?_
  refine c_seq fun K4 hK4 => ?_
  refine c_seq fun K5 hK5 => ?_
  refine c_region ?_
  refine s_pure h (ru_field fld28_2 (h.ev rfl)) rfl ?_; intro f h
  refine s_load_at1 (V := v11) (cell_of_has (Has.of_own s 3 rfl) 66 (ndArr_sc _ _ _ _)) h one26 rfl rfl ?_; intro f h
  refine s_len_sl 1 h s Try.underlying26 rfl rfl rfl ?_; intro f h
  refine s_pure h (ru_eql (h.ev rfl) (h.ev rfl)) rfl ?_; intro f h
  refine s_nil ?_
  refine hK5 _ _ ?_
  refine c_cond h rfl (fun hc => ?_) (fun hc => ?_)
  · have h0 : (withL n.sc nos n.me.1).length = 0 := by have := of_decide_eq_true hc; omega
    refine c_region ?_
    refine s_pure h (ru_field fld28_2 (h.ev rfl)) rfl ?_; intro f h
    refine s_load_at1 (V := v11) (cell_of_has (Has.of_own s 3 rfl) 66 (ndArr_sc _ _ _ _)) h one26 rfl rfl ?_; intro f h
    refine s_pure h (ru_field fld28_0 (h.ev rfl)) rfl ?_; intro f h
    refine s_load_at (Has.subL (Has.of_own s 3 rfl) 0 33 (D := mbArr n.me) (ndArr_me _ _ _ _)) h row25 rfl (mbArr_size _) rfl ?_; intro f h
    refine s_bslice (vs := [.agg (mbArr n.me)]) [.tmp 28] h s Try.underlying26 elm25 rfl rfl (mb_sz _) rfl rfl rfl ?_; intro f w1 v29 h s
    refine s_append 2 0 h s Try.underlying26 elm25 rfl rfl rfl rfl (by decide) (by rw [one_mb]; exact mbArr_ones _) (by unfold maxLen; omega) (by omega) rfl ?_; intro f w1 v30 h s
    replace s := s.pick _ (List.sublist_cons_self _ _)
    replace s := s.resl (m := [n.me].length) (ys := mbCells [n.me]) 1 rfl (by rw [h0]; rfl) (by rw [List.eq_nil_of_length_eq_zero h0, one_mb, mbCells_one]; rfl)
    refine s_pure h (ru_field fld28_2 (h.ev rfl)) rfl ?_; intro f h
    refine s_store_one 3 h s one26 rfl rfl rfl (by rw [ndArr_size]; omega) (own_one (s.getSl 1 rfl)) ?_; intro w1 s
    replace s := s.recell (D := ndArr n.me n.pr v30 v19) 3 rfl (nd_set66 _ _ _ _ _)
    refine s_nil ?_
    refine hK4 _ _ ?_
    refine c_seq fun K6 hK6 => ?_
    refine c_seq fun K7 hK7 => ?_
    cases q0 : (!decide (n.pr = nMb) : Bool)
    · skip
      refine c_region ?_
      refine s_pure h (ru_field fld28_1 (h.ev rfl)) rfl ?_; intro f h
      refine s_load_at (Has.subL (Has.of_own s 3 rfl) 33 33 (D := mbArr n.pr) (ndArr_pr _ _ _ _)) h row25 rfl (mbArr_size _) rfl ?_; intro f h
      refine s_call h s fnc18 (rnone_any n.pr _) rfl rfl ?_; intro f w1 v9 hT hE h s; obtain rfl := hT
      refine s_pure h (ru_val (.bool false) (ru_not (h.ev rfl)) (congrArg Value.bool q0)) rfl ?_; intro f h
      refine s_pure h (ru_move (h.ev rfl)) rfl ?_; intro f h
      refine s_off (b := true) h rfl rfl rfl rfl ?_; intro f h
      refine s_off (b := true) h rfl rfl rfl rfl ?_; intro f h
      refine s_off (b := true) h rfl rfl rfl rfl ?_; intro f h
      refine s_off (b := true) h rfl rfl rfl rfl ?_; intro f h
      refine s_off (b := true) h rfl rfl rfl rfl ?_; intro f h
      refine s_off (b := true) h rfl rfl rfl rfl ?_; intro f h
      refine s_off (b := true) h rfl rfl rfl rfl ?_; intro f h
      refine s_off (b := true) h rfl rfl rfl rfl ?_; intro f h
      refine s_off (b := true) h rfl rfl rfl rfl ?_; intro f h
      refine s_off (b := true) h rfl rfl rfl rfl ?_; intro f h
      refine s_pure h (ru_pick_f (h.ev rfl) (h.ev rfl)) rfl ?_; intro f h
      refine s_nil ?_
      refine hK7 _ _ ?_
      refine wpIn_cond_false (h.ev rfl) ?_
      refine wpIn_skip ?_
      refine hK6 _ _ ?_
      refine c_seq fun K8 hK8 => ?_
      refine c_region ?_
      refine s_load_row 3 h s row28 rfl rfl (ndArr_size _ _ _ _) rfl ?_; intro f h
      refine s_store_row 2 h s row28 rfl rfl rfl (ndArr_size _ _ _ _) (ndArr_size _ _ _ _) (ndArr_ones (own_one (s.getSl 1 rfl)) (own_one (s.getSl 0 rfl))) ?_; intro w1 s
      refine s_nil ?_
      refine hK8 _ _ ?_
      refine wpIn_ret ?_
      exact e_row 2 rfl h s row28 rfl rfl (ndArr_size _ _ _ _) (drR_ok (rd_n0 q0) (orA_n h0) (s.sel [1, 0] rfl (by decide)))
    · skip
      cases q1 : (decide ((withL [n.pr] nos n.me.1).length = 0) : Bool)
      · skip
        refine c_region ?_
        refine s_pure h (ru_field fld28_1 (h.ev rfl)) rfl ?_; intro f h
        refine s_load_at (Has.subL (Has.of_own s 3 rfl) 33 33 (D := mbArr n.pr) (ndArr_pr _ _ _ _)) h row25 rfl (mbArr_size _) rfl ?_; intro f h
        refine s_call h s fnc18 (rnone_any n.pr _) rfl rfl ?_; intro f w1 v9 hT hE h s; obtain rfl := hT
        refine s_pure h (ru_val (.bool true) (ru_not (h.ev rfl)) (congrArg Value.bool q0)) rfl ?_; intro f h
        refine s_pure h (ru_move (h.ev rfl)) rfl ?_; intro f h
        refine s_on h rfl rfl rfl ?_
        refine s_pure h (ru_field fld28_1 (h.ev rfl)) rfl ?_; intro f h
        refine s_on h rfl rfl rfl ?_
        refine s_load_at (Has.subL (Has.of_own s 3 rfl) 33 33 (D := mbArr n.pr) (ndArr_pr _ _ _ _)) h row25 rfl (mbArr_size _) rfl ?_; intro f h
        refine s_on h rfl rfl rfl ?_
        refine s_bslice (vs := [.agg (mbArr n.pr)]) [.tmp 38] h s Try.underlying26 elm25 rfl rfl (mb_sz _) rfl rfl rfl ?_; intro f w1 v39 h s
        replace s := s.resl (m := [n.pr].length) (ys := mbCells [n.pr]) 0 rfl rfl (by rw [one_mb, mbCells_one])
        refine s_on h rfl rfl rfl ?_
        refine s_pure h (ru_move (h.ev rfl)) rfl ?_; intro f h
        refine s_on h rfl rfl rfl ?_
        refine s_pure h (ru_field fld28_0 (h.ev rfl)) rfl ?_; intro f h
        refine s_on h rfl rfl rfl ?_
        refine s_pure h (ru_field fld25_0 (h.ev rfl)) rfl ?_; intro f h
        refine s_on h rfl rfl rfl ?_
        refine s_load_at1 (cell_of_has (Has.of_own s 4 rfl) 0 (ndArr_no _ _ _ _)) h one3 rfl rfl ?_; intro f h
        refine s_on h rfl rfl rfl ?_
        refine s_call h s fnc53 (without_any [n.pr] v39 nos vn n.me.1 _ (RdZ.of_own (s.getSl 0 rfl)) (by show 1 ≤ 1000; omega) (hN.keep s.ext) hnn) rfl rfl ?_; intro f w1 v44 hT hE h sq; replace s := s.sl_new hE hT
        refine s_on h rfl rfl rfl ?_
        refine s_len_sl 0 h s Try.underlying26 rfl rfl rfl ?_; intro f h
        refine s_on h rfl rfl rfl ?_
        refine s_pure h (ru_val (.bool false) (ru_eql (h.ev rfl) (h.ev rfl)) (congrArg Value.bool (decide_eq_false (by have := of_decide_eq_false q1; omega)))) rfl ?_; intro f h
        refine s_pure h (ru_pick_t (h.ev rfl) (h.ev rfl)) rfl ?_; intro f h
        refine s_nil ?_
        refine hK7 _ _ ?_
        refine wpIn_cond_false (h.ev rfl) ?_
        refine wpIn_skip ?_
        refine hK6 _ _ ?_
        refine c_seq fun K9 hK9 => ?_
        refine c_region ?_
        refine s_load_row 5 h s row28 rfl rfl (ndArr_size _ _ _ _) rfl ?_; intro f h
        refine s_store_row 4 h s row28 rfl rfl rfl (ndArr_size _ _ _ _) (ndArr_size _ _ _ _) (ndArr_ones (own_one (s.getSl 3 rfl)) (own_one (s.getSl 2 rfl))) ?_; intro w1 s
        refine s_nil ?_
        refine hK9 _ _ ?_
        refine wpIn_ret ?_
        exact e_row 4 rfl h s row28 rfl rfl (ndArr_size _ _ _ _) (drR_ok (rd_n1 q1) (orA_n h0) (s.sel [3, 2] rfl (by decide)))
      · skip
        refine c_region ?_
        refine s_pure h (ru_field fld28_1 (h.ev rfl)) rfl ?_; intro f h
        refine s_load_at (Has.subL (Has.of_own s 3 rfl) 33 33 (D := mbArr n.pr) (ndArr_pr _ _ _ _)) h row25 rfl (mbArr_size _) rfl ?_; intro f h
        refine s_call h s fnc18 (rnone_any n.pr _) rfl rfl ?_; intro f w1 v9 hT hE h s; obtain rfl := hT
        refine s_pure h (ru_val (.bool true) (ru_not (h.ev rfl)) (congrArg Value.bool q0)) rfl ?_; intro f h
        refine s_pure h (ru_move (h.ev rfl)) rfl ?_; intro f h
        refine s_on h rfl rfl rfl ?_
        refine s_pure h (ru_field fld28_1 (h.ev rfl)) rfl ?_; intro f h
        refine s_on h rfl rfl rfl ?_
        refine s_load_at (Has.subL (Has.of_own s 3 rfl) 33 33 (D := mbArr n.pr) (ndArr_pr _ _ _ _)) h row25 rfl (mbArr_size _) rfl ?_; intro f h
        refine s_on h rfl rfl rfl ?_
        refine s_bslice (vs := [.agg (mbArr n.pr)]) [.tmp 38] h s Try.underlying26 elm25 rfl rfl (mb_sz _) rfl rfl rfl ?_; intro f w1 v39 h s
        replace s := s.resl (m := [n.pr].length) (ys := mbCells [n.pr]) 0 rfl rfl (by rw [one_mb, mbCells_one])
        refine s_on h rfl rfl rfl ?_
        refine s_pure h (ru_move (h.ev rfl)) rfl ?_; intro f h
        refine s_on h rfl rfl rfl ?_
        refine s_pure h (ru_field fld28_0 (h.ev rfl)) rfl ?_; intro f h
        refine s_on h rfl rfl rfl ?_
        refine s_pure h (ru_field fld25_0 (h.ev rfl)) rfl ?_; intro f h
        refine s_on h rfl rfl rfl ?_
        refine s_load_at1 (cell_of_has (Has.of_own s 4 rfl) 0 (ndArr_no _ _ _ _)) h one3 rfl rfl ?_; intro f h
        refine s_on h rfl rfl rfl ?_
        refine s_call h s fnc53 (without_any [n.pr] v39 nos vn n.me.1 _ (RdZ.of_own (s.getSl 0 rfl)) (by show 1 ≤ 1000; omega) (hN.keep s.ext) hnn) rfl rfl ?_; intro f w1 v44 hT hE h sq; replace s := s.sl_new hE hT
        refine s_on h rfl rfl rfl ?_
        refine s_len_sl 0 h s Try.underlying26 rfl rfl rfl ?_; intro f h
        refine s_on h rfl rfl rfl ?_
        refine s_pure h (ru_val (.bool true) (ru_eql (h.ev rfl) (h.ev rfl)) (congrArg Value.bool (decide_eq_true (by have := of_decide_eq_true q1; omega)))) rfl ?_; intro f h
        refine s_pure h (ru_pick_t (h.ev rfl) (h.ev rfl)) rfl ?_; intro f h
        refine s_nil ?_
        refine hK7 _ _ ?_
        refine wpIn_cond_true (h.ev rfl) ?_
        refine c_region ?_
        refine s_pure h (ru_build_mb1 sttM rfl) rfl ?_; intro f h
        refine s_pure h (ru_field fld28_1 (h.ev rfl)) rfl ?_; intro f h
        refine s_store_sub 5 h s row25 rfl rfl rfl (mbArr_size _) (by rw [ndArr_size]; omega) (mbArr_ones _) ?_; intro w1 s
        replace s := s.recell (D := ndArr n.me nMb v30 v19) 5 rfl (nd_setp _ _ _ _ _)
        refine s_nil ?_
        refine hK6 _ _ ?_
        refine c_seq fun K10 hK10 => ?_
        refine c_region ?_
        refine s_load_row 5 h s row28 rfl rfl (ndArr_size _ _ _ _) rfl ?_; intro f h
        refine s_store_row 4 h s row28 rfl rfl rfl (ndArr_size _ _ _ _) (ndArr_size _ _ _ _) (ndArr_ones (own_one (s.getSl 3 rfl)) (own_one (s.getSl 2 rfl))) ?_; intro w1 s
        refine s_nil ?_
        refine hK10 _ _ ?_
        refine wpIn_ret ?_
        exact e_row 4 rfl h s row28 rfl rfl (ndArr_size _ _ _ _) (drR_ok (rd_y q0 q1) (orA_n h0) (s.sel [3, 2] rfl (by decide)))
  · have h0 : ¬ (withL n.sc nos n.me.1).length = 0 := by have := of_decide_eq_false hc; omega
    refine wpIn_skip ?_
    refine hK4 _ _ ?_
    refine c_seq fun K11 hK11 => ?_
    refine c_seq fun K12 hK12 => ?_
    cases q0 : (!decide (n.pr = nMb) : Bool)
    · skip
      refine c_region ?_
      refine s_pure h (ru_field fld28_1 (h.ev rfl)) rfl ?_; intro f h
      refine s_load_at (Has.subL (Has.of_own s 3 rfl) 33 33 (D := mbArr n.pr) (ndArr_pr _ _ _ _)) h row25 rfl (mbArr_size _) rfl ?_; intro f h
      refine s_call h s fnc18 (rnone_any n.pr _) rfl rfl ?_; intro f w1 v9 hT hE h s; obtain rfl := hT
      refine s_pure h (ru_val (.bool false) (ru_not (h.ev rfl)) (congrArg Value.bool q0)) rfl ?_; intro f h
      refine s_pure h (ru_move (h.ev rfl)) rfl ?_; intro f h
      refine s_off (b := true) h rfl rfl rfl rfl ?_; intro f h
      refine s_off (b := true) h rfl rfl rfl rfl ?_; intro f h
      refine s_off (b := true) h rfl rfl rfl rfl ?_; intro f h
      refine s_off (b := true) h rfl rfl rfl rfl ?_; intro f h
      refine s_off (b := true) h rfl rfl rfl rfl ?_; intro f h
      refine s_off (b := true) h rfl rfl rfl rfl ?_; intro f h
      refine s_off (b := true) h rfl rfl rfl rfl ?_; intro f h
      refine s_off (b := true) h rfl rfl rfl rfl ?_; intro f h
      refine s_off (b := true) h rfl rfl rfl rfl ?_; intro f h
      refine s_off (b := true) h rfl rfl rfl rfl ?_; intro f h
      refine s_pure h (ru_pick_f (h.ev rfl) (h.ev rfl)) rfl ?_; intro f h
      refine s_nil ?_
      refine hK12 _ _ ?_
      refine wpIn_cond_false (h.ev rfl) ?_
      refine wpIn_skip ?_
      refine hK11 _ _ ?_
      refine c_seq fun K13 hK13 => ?_
      refine c_region ?_
      refine s_load_row 3 h s row28 rfl rfl (ndArr_size _ _ _ _) rfl ?_; intro f h
      refine s_store_row 2 h s row28 rfl rfl rfl (ndArr_size _ _ _ _) (ndArr_size _ _ _ _) (ndArr_ones (own_one (s.getSl 1 rfl)) (own_one (s.getSl 0 rfl))) ?_; intro w1 s
      refine s_nil ?_
      refine hK13 _ _ ?_
      refine wpIn_ret ?_
      exact e_row 2 rfl h s row28 rfl rfl (ndArr_size _ _ _ _) (drR_ok (rd_n0 q0) (orA_l h0) (s.sel [1, 0] rfl (by decide)))
    · skip
      cases q1 : (decide ((withL [n.pr] nos n.me.1).length = 0) : Bool)
      · skip
        refine c_region ?_
        refine s_pure h (ru_field fld28_1 (h.ev rfl)) rfl ?_; intro f h
        refine s_load_at (Has.subL (Has.of_own s 3 rfl) 33 33 (D := mbArr n.pr) (ndArr_pr _ _ _ _)) h row25 rfl (mbArr_size _) rfl ?_; intro f h
        refine s_call h s fnc18 (rnone_any n.pr _) rfl rfl ?_; intro f w1 v9 hT hE h s; obtain rfl := hT
        refine s_pure h (ru_val (.bool true) (ru_not (h.ev rfl)) (congrArg Value.bool q0)) rfl ?_; intro f h
        refine s_pure h (ru_move (h.ev rfl)) rfl ?_; intro f h
        refine s_on h rfl rfl rfl ?_
        refine s_pure h (ru_field fld28_1 (h.ev rfl)) rfl ?_; intro f h
        refine s_on h rfl rfl rfl ?_
        refine s_load_at (Has.subL (Has.of_own s 3 rfl) 33 33 (D := mbArr n.pr) (ndArr_pr _ _ _ _)) h row25 rfl (mbArr_size _) rfl ?_; intro f h
        refine s_on h rfl rfl rfl ?_
        refine s_bslice (vs := [.agg (mbArr n.pr)]) [.tmp 38] h s Try.underlying26 elm25 rfl rfl (mb_sz _) rfl rfl rfl ?_; intro f w1 v39 h s
        replace s := s.resl (m := [n.pr].length) (ys := mbCells [n.pr]) 0 rfl rfl (by rw [one_mb, mbCells_one])
        refine s_on h rfl rfl rfl ?_
        refine s_pure h (ru_move (h.ev rfl)) rfl ?_; intro f h
        refine s_on h rfl rfl rfl ?_
        refine s_pure h (ru_field fld28_0 (h.ev rfl)) rfl ?_; intro f h
        refine s_on h rfl rfl rfl ?_
        refine s_pure h (ru_field fld25_0 (h.ev rfl)) rfl ?_; intro f h
        refine s_on h rfl rfl rfl ?_
        refine s_load_at1 (cell_of_has (Has.of_own s 4 rfl) 0 (ndArr_no _ _ _ _)) h one3 rfl rfl ?_; intro f h
        refine s_on h rfl rfl rfl ?_
        refine s_call h s fnc53 (without_any [n.pr] v39 nos vn n.me.1 _ (RdZ.of_own (s.getSl 0 rfl)) (by show 1 ≤ 1000; omega) (hN.keep s.ext) hnn) rfl rfl ?_; intro f w1 v44 hT hE h sq; replace s := s.sl_new hE hT
        refine s_on h rfl rfl rfl ?_
        refine s_len_sl 0 h s Try.underlying26 rfl rfl rfl ?_; intro f h
        refine s_on h rfl rfl rfl ?_
        refine s_pure h (ru_val (.bool false) (ru_eql (h.ev rfl) (h.ev rfl)) (congrArg Value.bool (decide_eq_false (by have := of_decide_eq_false q1; omega)))) rfl ?_; intro f h
        refine s_pure h (ru_pick_t (h.ev rfl) (h.ev rfl)) rfl ?_; intro f h
        refine s_nil ?_
        refine hK12 _ _ ?_
        refine wpIn_cond_false (h.ev rfl) ?_
        refine wpIn_skip ?_
        refine hK11 _ _ ?_
        refine c_seq fun K14 hK14 => ?_
        refine c_region ?_
        refine s_load_row 5 h s row28 rfl rfl (ndArr_size _ _ _ _) rfl ?_; intro f h
        refine s_store_row 4 h s row28 rfl rfl rfl (ndArr_size _ _ _ _) (ndArr_size _ _ _ _) (ndArr_ones (own_one (s.getSl 3 rfl)) (own_one (s.getSl 2 rfl))) ?_; intro w1 s
        refine s_nil ?_
        refine hK14 _ _ ?_
        refine wpIn_ret ?_
        exact e_row 4 rfl h s row28 rfl rfl (ndArr_size _ _ _ _) (drR_ok (rd_n1 q1) (orA_l h0) (s.sel [3, 2] rfl (by decide)))
      · skip
        refine c_region ?_
        refine s_pure h (ru_field fld28_1 (h.ev rfl)) rfl ?_; intro f h
        refine s_load_at (Has.subL (Has.of_own s 3 rfl) 33 33 (D := mbArr n.pr) (ndArr_pr _ _ _ _)) h row25 rfl (mbArr_size _) rfl ?_; intro f h
        refine s_call h s fnc18 (rnone_any n.pr _) rfl rfl ?_; intro f w1 v9 hT hE h s; obtain rfl := hT
        refine s_pure h (ru_val (.bool true) (ru_not (h.ev rfl)) (congrArg Value.bool q0)) rfl ?_; intro f h
        refine s_pure h (ru_move (h.ev rfl)) rfl ?_; intro f h
        refine s_on h rfl rfl rfl ?_
        refine s_pure h (ru_field fld28_1 (h.ev rfl)) rfl ?_; intro f h
        refine s_on h rfl rfl rfl ?_
        refine s_load_at (Has.subL (Has.of_own s 3 rfl) 33 33 (D := mbArr n.pr) (ndArr_pr _ _ _ _)) h row25 rfl (mbArr_size _) rfl ?_; intro f h
        refine s_on h rfl rfl rfl ?_
        refine s_bslice (vs := [.agg (mbArr n.pr)]) [.tmp 38] h s Try.underlying26 elm25 rfl rfl (mb_sz _) rfl rfl rfl ?_; intro f w1 v39 h s
        replace s := s.resl (m := [n.pr].length) (ys := mbCells [n.pr]) 0 rfl rfl (by rw [one_mb, mbCells_one])
        refine s_on h rfl rfl rfl ?_
        refine s_pure h (ru_move (h.ev rfl)) rfl ?_; intro f h
        refine s_on h rfl rfl rfl ?_
        refine s_pure h (ru_field fld28_0 (h.ev rfl)) rfl ?_; intro f h
        refine s_on h rfl rfl rfl ?_
        refine s_pure h (ru_field fld25_0 (h.ev rfl)) rfl ?_; intro f h
        refine s_on h rfl rfl rfl ?_
        refine s_load_at1 (cell_of_has (Has.of_own s 4 rfl) 0 (ndArr_no _ _ _ _)) h one3 rfl rfl ?_; intro f h
        refine s_on h rfl rfl rfl ?_
        refine s_call h s fnc53 (without_any [n.pr] v39 nos vn n.me.1 _ (RdZ.of_own (s.getSl 0 rfl)) (by show 1 ≤ 1000; omega) (hN.keep s.ext) hnn) rfl rfl ?_; intro f w1 v44 hT hE h sq; replace s := s.sl_new hE hT
        refine s_on h rfl rfl rfl ?_
        refine s_len_sl 0 h s Try.underlying26 rfl rfl rfl ?_; intro f h
        refine s_on h rfl rfl rfl ?_
        refine s_pure h (ru_val (.bool true) (ru_eql (h.ev rfl) (h.ev rfl)) (congrArg Value.bool (decide_eq_true (by have := of_decide_eq_true q1; omega)))) rfl ?_; intro f h
        refine s_pure h (ru_pick_t (h.ev rfl) (h.ev rfl)) rfl ?_; intro f h
        refine s_nil ?_
        refine hK12 _ _ ?_
        refine wpIn_cond_true (h.ev rfl) ?_
        refine c_region ?_
        refine s_pure h (ru_build_mb1 sttM rfl) rfl ?_; intro f h
        refine s_pure h (ru_field fld28_1 (h.ev rfl)) rfl ?_; intro f h
        refine s_store_sub 5 h s row25 rfl rfl rfl (mbArr_size _) (by rw [ndArr_size]; omega) (mbArr_ones _) ?_; intro w1 s
        replace s := s.recell (D := ndArr n.me nMb v11 v19) 5 rfl (nd_setp _ _ _ _ _)
        refine s_nil ?_
        refine hK11 _ _ ?_
        refine c_seq fun K15 hK15 => ?_
        refine c_region ?_
        refine s_load_row 5 h s row28 rfl rfl (ndArr_size _ _ _ _) rfl ?_; intro f h
        refine s_store_row 4 h s row28 rfl rfl rfl (ndArr_size _ _ _ _) (ndArr_size _ _ _ _) (ndArr_ones (own_one (s.getSl 3 rfl)) (own_one (s.getSl 2 rfl))) ?_; intro w1 s
        refine s_nil ?_
        refine hK15 _ _ ?_
        refine wpIn_ret ?_
        exact e_row 4 rfl h s row28 rfl rfl (ndArr_size _ _ _ _) (drR_ok (rd_y q0 q1) (orA_l h0) (s.sel [3, 2] rfl (by decide)))

set_option maxHeartbeats 4000000 in
theorem nforgets_any (n : Nd) (vs vf : Value) (nos : List Int) (vn : Value) (m : Mb) (w : World) (hRs : RdZ w vs 33 n.sc.length (mbCells n.sc)) (hRf : RdZ w vf 33 n.fg.length (mbCells n.fg)) (hN : RdZ w vn 1 nos.length (nos.map (Value.int .i64))) : Calls Try.prog 5 [.agg (ndArr n.me n.pr vs vf), vn, .agg (mbArr m)].toArray w (Ret w (is (.bool true))) := by
  obtain ⟨r, hme, hpr, hlv, hlf, hl6, hl18⟩ := few_nd hRs hRf
  have hlN0 := hN.cut (min nos.length 20) (Nat.min_le_left _ _)
  obtain ⟨ps, hps⟩ : ∃ x9, x9 = nos.take (min nos.length 20) := ⟨_, rfl⟩
  have hlN : RdZ w (cutV vn (min nos.length 20)) 1 ps.length (ps.map (Value.int .i64)) := by rw [hps, List.length_take, Nat.min_eq_left (Nat.min_le_left _ _), List.map_take]; rwa [Nat.mul_one] at hlN0
  have hp20 : ps.length ≤ 20 := by rw [hps, List.length_take]; omega
  have hdl := dr_len r ps
  have hpl := pt_len r m
  refine c_enter Try.func5 rfl Try.ntmps5 rfl [(0, .agg (ndArr n.me n.pr vs vf)), (1, vn), (2, .agg (mbArr m))] (by simp) fun f h => ?_
  have s := St.start w
  refine c_seq fun K1 hK1 => ?_
  refine c_region ?_
  refine s_box (ndArr n.me n.pr vs vf) h s rfl rfl rfl ?_; intro f w1 b3 h s
  refine s_box ((mbArr m)) h s rfl rfl rfl ?_; intro f w1 b5 h s
  refine s_pure h (ru_assign (h.ev rfl)) rfl ?_; intro f h
  refine s_nil ?_
  refine hK1 _ _ ?_
  refine c_seq fun K2 hK2 => ?_
  have hbs := s.ext.le
  refine' c_reg2 0 [2, 3, 4, 5, 6, 8] [] [[], [0], [], [], [3], [3, 4], [2, 3, 4, 5], [0, 1], [0, 1, 2, 3, 4, 5, 6, 7]] (is undef :: is undef :: is _ :: is _ :: is _ :: is _ :: is _ :: is undef :: is _ :: []) (fun _ => True) h s (by kernel_rfl) (by kernel_rfl) (by kernel_rfl) (by kernel_rfl) rfl (fun _ _ h _ => h) (trivial) ⟨⟨_, rfl⟩, ⟨_, rfl⟩, ⟨_, rfl⟩, ⟨_, rfl⟩, ⟨_, rfl⟩, ⟨_, rfl⟩, trivial⟩ ⟨is_mono _, is_mono _, is_mono _, is_mono _, is_mono _, is_mono _, is_mono _, is_mono _, is_mono _, trivial⟩ (And.intro ?_ (And.intro ?_ (And.intro ?_ (And.intro ?_ (And.intro ?_ (And.intro ?_ (And.intro ?_ (And.intro ?_ (And.intro ?_ (trivial)))))))))) ?_
  rotate_left 6
  · exact obT_in (by decide) (by decide)
  · exact obT_in (by decide) (by decide)
  · refine obH_in 15 rfl (by decide) ?_
    intro f9 w2 hE hs hl
    have e1 : f9.tmps.getD 1 undef = _ := sx_old hl 1 (by kernel_rfl) (by kernel_rfl) (h.holds 1 _ rfl)
    have h := fin_slot [(1, _)] hs rfl (holds_lk ⟨e1, trivial⟩)
    refine s_pure h (ru_move (h.ev rfl)) rfl ?_; intro f h
    refine s_nil ?_
    have e9 := h.holds 15 _ rfl
    refine ⟨?_, rfl⟩
    refine e9.trans ?_
    exact rfl
  · refine obH_in 16 rfl (by decide) ?_
    intro f9 w2 hE hs hl
    have e1 : f9.tmps.getD 1 undef = _ := sx_old hl 1 (by kernel_rfl) (by kernel_rfl) (h.holds 1 _ rfl)
    have h := fin_slot [(1, _)] hs rfl (holds_lk ⟨e1, trivial⟩)
    refine s_pure h (ru_move (h.ev rfl)) rfl ?_; intro f h
    refine s_nil ?_
    have e9 := h.holds 16 _ rfl
    refine ⟨?_, rfl⟩
    refine e9.trans ?_
    exact rfl
  · refine obH_in 17 rfl (by decide) ?_
    intro f9 w2 hE hs hl
    have e16 : f9.tmps.getD 16 undef = _ := sx_get hl 16 3 (by kernel_rfl) (by kernel_rfl)
    have h := fin_slot [(16, _)] hs rfl (holds_lk ⟨e16, trivial⟩)
    refine s_pure h (ru_lenZ (hN.keep s.ext) Try.underlying50 (h.ev rfl)) rfl ?_; intro f h
    refine s_nil ?_
    have e9 := h.holds 17 _ rfl
    refine ⟨?_, rfl⟩
    refine e9.trans ?_
    exact rfl
  · refine obH_in 18 rfl (by decide) ?_
    intro f9 w2 hE hs hl
    have e17 : f9.tmps.getD 17 undef = _ := sx_get hl 17 4 (by kernel_rfl) (by kernel_rfl)
    have h := fin_slot [(17, _)] hs rfl (holds_lk ⟨e17, trivial⟩)
    refine s_pure h (ru_min (h.ev rfl) (h.ev rfl)) rfl ?_; intro f h
    refine s_nil ?_
    have e9 := h.holds 18 _ rfl
    refine ⟨?_, rfl⟩
    refine e9.trans ?_
    exact rfl
  · refine obH_in 19 rfl (by decide) ?_
    intro f9 w2 hE hs hl
    have e15 : f9.tmps.getD 15 undef = _ := sx_get hl 15 2 (by kernel_rfl) (by kernel_rfl)
    have e18 : f9.tmps.getD 18 undef = _ := sx_get hl 18 5 (by kernel_rfl) (by kernel_rfl)
    have h := fin_slot [(15, _), (18, _)] hs rfl (holds_lk ⟨e15, e18, trivial⟩)
    refine s_pure h (ru_slice_hiZ (hN.keep s.ext) (min nos.length 20) Try.underlying50 szo3 (h.ev rfl) (h.ev rfl) (by split <;> omega) (by omega)) rfl ?_; intro f h
    refine s_nil ?_
    have e9 := h.holds 19 _ rfl
    refine ⟨?_, rfl⟩
    refine e9.trans ?_
    exact rfl
  · exact obT_in (by decide) (by decide)
  · refine obH_in 1 rfl (by decide) ?_
    intro f9 w2 hE hs hl
    have e19 : f9.tmps.getD 19 undef = _ := sx_get hl 19 6 (by kernel_rfl) (by kernel_rfl)
    have h := fin_slot [(19, _)] hs rfl (holds_lk ⟨e19, trivial⟩)
    refine s_pure h (ru_assign (h.ev rfl)) rfl ?_; intro f h
    refine s_nil ?_
    have e9 := h.holds 1 _ rfl
    refine ⟨?_, rfl⟩
    refine e9.trans ?_
    exact rfl
  · intro f9 w2 hE hs hd9 hWp hT hR hFr hDj
    replace h := sl_new (ops := _) [(15, _), (16, _), (17, _), (18, _), (19, _), (1, _)] h hs hd9 hR ⟨hT 2 15 (by decide) rfl, hT 3 16 (by decide) rfl, hT 4 17 (by decide) rfl, hT 5 18 (by decide) rfl, hT 6 19 (by decide) rfl, hT 8 1 (by decide) rfl, trivial⟩ (by kernel_rfl)
    replace s := s.more hE
    clear hT hR hFr hDj
    refine LstW.of ?_
    refine s_load_row 1 h s row28 rfl rfl (ndArr_size _ _ _ _) rfl ?_; intro f h
    refine s_call h s fnc9 (ret_val (.agg (ndArr r.me r.pr (cutV vs (min n.sc.length 6)) (cutV vf (min n.fg.length 18)))) (few_any n vs vf _ (hRs.keep s.ext) (hRf.keep s.ext)) (by rw [hme, hpr])) rfl rfl ?_; intro f w1 v9 hT hE h s; obtain rfl := hT
    refine s_store_row 1 h s row28 rfl rfl rfl (ndArr_size _ _ _ _) (ndArr_size _ _ _ _) (ndArr_ones (rd_one (hlv.keep s.ext)) (rd_one (hlf.keep s.ext))) ?_; intro w1 s
    refine s_nil ?_
    refine hK2 _ _ ?_
    refine c_seq fun K3 hK3 => ?_
    refine c_region ?_
    refine s_load_row 1 h s row28 rfl rfl (ndArr_size _ _ _ _) rfl ?_; intro f h
    refine s_pure h (ru_move (h.ev rfl)) rfl ?_; intro f h
    refine s_call h s fnc25 (ndrop_any r (cutV vs (min n.sc.length 6)) (cutV vf (min n.fg.length 18)) ps (cutV vn (min nos.length 20)) _ (hlv.keep s.ext) (hlf.keep s.ext) (by omega) (by omega) (hlN.keep s.ext) (by omega)) rfl rfl ?_; rintro f w1 v23 ⟨au, av, rfl, hS⟩ hE h sq; replace s := s.add hS; clear hS
    refine s_pure h (ru_move (h.ev rfl)) rfl ?_; intro f h
    refine s_pure h (ru_extract (h.ev rfl) rfl) rfl ?_; intro f h
    refine s_pure h (ru_extract (h.ev rfl) rfl) rfl ?_; intro f h
    refine s_alloc (ndArr zMb zMb nilV nilV) h s zero28 rfl rfl ?_; intro f w1 b7 h s
    refine s_store_row 0 h s row28 rfl rfl rfl (ndArr_size _ _ _ _) (ndArr_size _ _ _ _) (ndArr_ones (own_one (s.getSl 1 rfl)) (own_one (s.getSl 2 rfl))) ?_; intro w1 s
    refine s_pure h (ru_assign (h.ev rfl)) rfl ?_; intro f h
    refine s_nil ?_
    refine hK3 _ _ ?_
    refine c_seq fun K4 hK4 => ?_
    refine c_region ?_
    refine s_load_row 4 h s row28 rfl rfl (ndArr_size _ _ _ _) rfl ?_; intro f h
    refine s_load_row 3 h s row25 rfl rfl (mbArr_size _) rfl ?_; intro f h
    refine s_call h s fnc26 (npoint_any r (cutV vs (min n.sc.length 6)) (cutV vf (min n.fg.length 18)) m _ (hlv.keep s.ext) (hlf.keep s.ext) (by omega) (by omega)) rfl rfl ?_; rintro f w1 v29 ⟨bu, bv, rfl, hS⟩ hE h sq; replace s := s.add hS; clear hS
    refine s_pure h (ru_move (h.ev rfl)) rfl ?_; intro f h
    refine s_pure h (ru_extract (h.ev rfl) rfl) rfl ?_; intro f h
    refine s_pure h (ru_extract (h.ev rfl) rfl) rfl ?_; intro f h
    refine s_alloc (ndArr zMb zMb nilV nilV) h s zero28 rfl rfl ?_; intro f w1 b9 h s
    refine s_store_row 0 h s row28 rfl rfl rfl (ndArr_size _ _ _ _) (ndArr_size _ _ _ _) (ndArr_ones (own_one (s.getSl 1 rfl)) (own_one (s.getSl 2 rfl))) ?_; intro w1 s
    refine s_pure h (ru_assign (h.ev rfl)) rfl ?_; intro f h
    refine s_nil ?_
    refine hK4 _ _ ?_
    refine c_seq fun K5 hK5 => ?_
    refine c_region ?_
    refine s_pure h (ru_build_nd0 sttN) rfl ?_; intro f h
    refine s_alloc (ndArr zMb zMb nilV nilV) h s zero28 rfl rfl ?_; intro f w1 b11 h s
    refine s_store_row 0 h s row28 rfl rfl rfl (ndArr_size _ _ _ _) (ndArr_size _ _ _ _) (ndArr_ones (rfl) (rfl)) ?_; intro w1 s
    refine s_nil ?_
    refine hK5 _ _ ?_
    refine c_seq fun K6 hK6 => ?_
    refine c_seq fun K7 hK7 => ?_
    refine c_region ?_
    refine s_call h s fnc14 (alive_any _) rfl rfl ?_; intro f w1 v9 hT hE h s; obtain rfl := hT
    refine s_pure h (ru_val (.bool false) (ru_not (h.ev rfl)) rfl) rfl ?_; intro f h
    refine s_nil ?_
    refine hK7 _ _ ?_
    refine wpIn_cond_false (h.ev rfl) ?_
    refine wpIn_skip ?_
    refine hK6 _ _ ?_
    refine c_seq fun K8 hK8 => ?_
    refine c_seq fun K9 hK9 => ?_
    cases hr : (rightN r : Bool)
    · skip
      refine c_region ?_
      refine s_load_row 8 h s row28 rfl rfl (ndArr_size _ _ _ _) rfl ?_; intro f h
      refine s_call h s fnc15 (ret_val (.bool false) (rnright_any r (cutV vs (min n.sc.length 6)) (cutV vf (min n.fg.length 18)) _ (hlv.keep s.ext) (hlf.keep s.ext) (by omega) (by omega)) (congrArg Value.bool hr)) rfl rfl ?_; intro f w1 v9 hT hE h s; obtain rfl := hT
      refine s_pure h (ru_val (.bool true) (ru_not (h.ev rfl)) rfl) rfl ?_; intro f h
      refine s_nil ?_
      refine hK9 _ _ ?_
      refine wpIn_cond_true (h.ev rfl) ?_
      refine c_seq fun K10 hK10 => ?_
      refine c_region ?_
      refine s_pure h (ru_move (h.ev rfl)) rfl ?_; intro f h
      refine s_pure h (ru_val (.bool true) (ru_eql (h.ev rfl) (h.ev rfl)) (congrArg Value.bool (decide_eq_true ((dr_no ps hr).2)))) rfl ?_; intro f h
      refine s_pure h (ru_move (h.ev rfl)) rfl ?_; intro f h
      refine s_on h rfl rfl rfl ?_
      refine s_pure h (ru_move (h.ev rfl)) rfl ?_; intro f h
      refine s_on h rfl rfl rfl ?_
      refine s_pure h (ru_val (.bool true) (ru_eql (h.ev rfl) (h.ev rfl)) (congrArg Value.bool (decide_eq_true (pt_0 hr)))) rfl ?_; intro f h
      refine s_pure h (ru_pick_t (h.ev rfl) (h.ev rfl)) rfl ?_; intro f h
      refine s_pure h (ru_move (h.ev rfl)) rfl ?_; intro f h
      refine s_on h rfl rfl rfl ?_
      refine s_load_row 4 h s row28 rfl rfl (ndArr_size _ _ _ _) rfl ?_; intro f h
      refine s_on h rfl rfl rfl ?_
      refine s_load_row 0 h s row28 rfl rfl (ndArr_size _ _ _ _) rfl ?_; intro f h
      refine s_on h rfl rfl rfl ?_
      refine s_call h s fnc13 (ret_val (.bool true) (like_any (drN r ps) zNd au av nilV nilV _ (RdZ.of_own (s.getSl 5 rfl)) (RdZ.of_own (s.getSl 6 rfl)) (rd_nilM _) (rd_nilM _) (by omega) (by omega) (by exact Nat.zero_le _) (by exact Nat.zero_le _)) (congrArg Value.bool (lkN_eq (dr_no ps hr).1))) rfl rfl ?_; intro f w1 v9 hT hE h s; obtain rfl := hT
      refine s_pure h (ru_pick_t (h.ev rfl) (h.ev rfl)) rfl ?_; intro f h
      refine s_pure h (ru_move (h.ev rfl)) rfl ?_; intro f h
      refine s_on h rfl rfl rfl ?_
      refine s_load_row 1 h s row28 rfl rfl (ndArr_size _ _ _ _) rfl ?_; intro f h
      refine s_on h rfl rfl rfl ?_
      refine s_load_row 0 h s row28 rfl rfl (ndArr_size _ _ _ _) rfl ?_; intro f h
      refine s_on h rfl rfl rfl ?_
      refine s_call h s fnc13 (ret_val (.bool true) (like_any (ptN r m) zNd bu bv nilV nilV _ (RdZ.of_own (s.getSl 2 rfl)) (RdZ.of_own (s.getSl 3 rfl)) (rd_nilM _) (rd_nilM _) (by omega) (by omega) (by exact Nat.zero_le _) (by exact Nat.zero_le _)) (congrArg Value.bool (lkN_eq (pt_of (by rw [pt_0 hr]; decide))))) rfl rfl ?_; intro f w1 v9 hT hE h s; obtain rfl := hT
      refine s_pure h (ru_pick_t (h.ev rfl) (h.ev rfl)) rfl ?_; intro f h
      refine s_pure h (ru_assign (h.ev rfl)) rfl ?_; intro f h
      refine s_nil ?_
      refine hK10 _ _ ?_
      refine wpIn_ret ?_
      refine t_ret ?_
      exact e_tmp rfl h s rfl (rfl)
    · skip
      refine c_region ?_
      refine s_load_row 8 h s row28 rfl rfl (ndArr_size _ _ _ _) rfl ?_; intro f h
      refine s_call h s fnc15 (ret_val (.bool true) (rnright_any r (cutV vs (min n.sc.length 6)) (cutV vf (min n.fg.length 18)) _ (hlv.keep s.ext) (hlf.keep s.ext) (by omega) (by omega)) (congrArg Value.bool hr)) rfl rfl ?_; intro f w1 v9 hT hE h s; obtain rfl := hT
      refine s_pure h (ru_val (.bool false) (ru_not (h.ev rfl)) rfl) rfl ?_; intro f h
      refine s_nil ?_
      refine hK9 _ _ ?_
      refine wpIn_cond_false (h.ev rfl) ?_
      refine wpIn_skip ?_
      refine hK8 _ _ ?_
      refine c_seq fun K11 hK11 => ?_
      refine c_seq fun K12 hK12 => ?_
      have hbs := s.ext.le
      refine' c_reg2 8 [0, 1, 2] [] [[], [0], [0, 1], [0, 1, 2], [0, 1, 2], [0, 1, 2], [0, 1, 2, 4, 5], [0, 1, 2, 3, 4, 5, 6], [0, 1, 2, 3, 4, 5, 6, 7], [0, 1, 2, 3, 4, 5, 6, 7, 8]] (is _ :: is _ :: is _ :: is _ :: is _ :: is _ :: (DrD r.me (rdP r ps) (orA (withL r.sc ps r.me.1) r.me) (withL r.fg ps r.me.1)) :: is _ :: is undef :: is undef :: []) (fun _ => True) h s (by kernel_rfl) (by kernel_rfl) (by kernel_rfl) (by kernel_rfl) rfl (fun _ _ h _ => h) (trivial) ⟨⟨_, rfl⟩, ⟨_, rfl⟩, ⟨_, rfl⟩, trivial⟩ ⟨is_mono _, is_mono _, is_mono _, is_mono _, is_mono _, is_mono _, DrD.mono _ _ _ _, is_mono _, is_mono _, is_mono _, trivial⟩ (And.intro ?_ (And.intro ?_ (And.intro ?_ (And.intro ?_ (And.intro ?_ (And.intro ?_ (And.intro ?_ (And.intro ?_ (And.intro ?_ (And.intro ?_ (trivial))))))))))) ?_
      rotate_left 7
      · refine obH_in 54 rfl (by decide) ?_
        intro f9 w2 hE hs hl
        have e8 : f9.tmps.getD 8 undef = _ := sx_old hl 8 (by kernel_rfl) (by kernel_rfl) (h.holds 8 _ rfl)
        have h := fin_slot [(8, _)] hs rfl (holds_lk ⟨e8, trivial⟩)
        refine s_pure h (ru_move (h.ev rfl)) rfl ?_; intro f h
        refine s_nil ?_
        have e9 := h.holds 54 _ rfl
        refine ⟨?_, rfl⟩
        refine e9.trans ?_
        exact rfl
      · refine obH_in 55 rfl (by decide) ?_
        intro f9 w2 hE hs hl
        have e54 : f9.tmps.getD 54 undef = _ := sx_get hl 54 0 (by kernel_rfl) (by kernel_rfl)
        have h := fin_slot [(54, _)] hs rfl (holds_lk ⟨e54, trivial⟩)
        refine s_pure h (ru_val (.bool false) (ru_neq (h.ev rfl) (h.ev rfl)) (congrArg Value.bool (decide_eq_false (not_not_intro (dr_ok ps hr).2)))) rfl ?_; intro f h
        refine s_nil ?_
        have e9 := h.holds 55 _ rfl
        refine ⟨?_, rfl⟩
        refine e9.trans ?_
        exact rfl
      · refine obH_in 56 rfl (by decide) ?_
        intro f9 w2 hE hs hl
        have e55 : f9.tmps.getD 55 undef = _ := sx_get hl 55 1 (by kernel_rfl) (by kernel_rfl)
        have h := fin_slot [(55, _)] hs rfl (holds_lk ⟨e55, trivial⟩)
        refine s_pure h (ru_move (h.ev rfl)) rfl ?_; intro f h
        refine s_nil ?_
        have e9 := h.holds 56 _ rfl
        refine ⟨?_, rfl⟩
        refine e9.trans ?_
        exact rfl
      · refine obF_in 57 rfl (by decide) (by decide) ?_
        intro f9 w2 hE hs hd9 hl
        have e7 : f9.tmps.getD 7 undef = _ := sx_old hl 7 (by kernel_rfl) (by kernel_rfl) (h.holds 7 _ rfl)
        have e56 : f9.tmps.getD 56 undef = _ := sx_get hl 56 2 (by kernel_rfl) (by kernel_rfl)
        have h := fin_slot [(7, _), (56, _)] hs hd9 (holds_lk ⟨e7, e56, trivial⟩)
        have s := s.more hE
        have z := St.start w2
        refine s_on h rfl rfl rfl ?_
        refine s_load_row 4 h s row28 rfl rfl (ndArr_size _ _ _ _) rfl ?_; intro f h
        refine s_nil ?_
        have e9 := h.holds 57 _ rfl
        refine ⟨?_, Ext.refl _, fun h9 => absurd h9 (by decide)⟩
        refine e9.trans ?_
        exact rfl
      · refine obF_in 58 rfl (by decide) (by decide) ?_
        intro f9 w2 hE hs hd9 hl
        have e3 : f9.tmps.getD 3 undef = _ := sx_old hl 3 (by kernel_rfl) (by kernel_rfl) (h.holds 3 _ rfl)
        have e56 : f9.tmps.getD 56 undef = _ := sx_get hl 56 2 (by kernel_rfl) (by kernel_rfl)
        have h := fin_slot [(3, _), (56, _)] hs hd9 (holds_lk ⟨e3, e56, trivial⟩)
        have s := s.more hE
        have z := St.start w2
        refine s_on h rfl rfl rfl ?_
        refine s_load_row 8 h s row28 rfl rfl (ndArr_size _ _ _ _) rfl ?_; intro f h
        refine s_nil ?_
        have e9 := h.holds 58 _ rfl
        refine ⟨?_, Ext.refl _, fun h9 => absurd h9 (by decide)⟩
        refine e9.trans ?_
        exact rfl
      · refine obF_in 59 rfl (by decide) (by decide) ?_
        intro f9 w2 hE hs hd9 hl
        have e1 : f9.tmps.getD 1 undef = _ := sx_old hl 1 (by kernel_rfl) (by kernel_rfl) (h.holds 1 _ rfl)
        have e56 : f9.tmps.getD 56 undef = _ := sx_get hl 56 2 (by kernel_rfl) (by kernel_rfl)
        have h := fin_slot [(1, _), (56, _)] hs hd9 (holds_lk ⟨e1, e56, trivial⟩)
        have s := s.more hE
        have z := St.start w2
        refine s_on h rfl rfl rfl ?_
        refine s_pure h (ru_move (h.ev rfl)) rfl ?_; intro f h
        refine s_nil ?_
        have e9 := h.holds 59 _ rfl
        refine ⟨?_, Ext.refl _, fun h9 => absurd h9 (by decide)⟩
        refine e9.trans ?_
        exact rfl
      · refine obF_in 60 rfl (by decide) (by decide) ?_
        intro f9 w2 hE hs hd9 hl
        have e58 : f9.tmps.getD 58 undef = _ := sx_get hl 58 4 (by kernel_rfl) (by kernel_rfl)
        have e59 : f9.tmps.getD 59 undef = _ := sx_get hl 59 5 (by kernel_rfl) (by kernel_rfl)
        have e56 : f9.tmps.getD 56 undef = _ := sx_get hl 56 2 (by kernel_rfl) (by kernel_rfl)
        have h := fin_slot [(58, _), (59, _), (56, _)] hs hd9 (holds_lk ⟨e58, e59, e56, trivial⟩)
        have s := s.more hE
        have z := St.start w2
        refine s_on h rfl rfl rfl ?_
        refine s_call h s fnc27 (rdrop_any r (cutV vs (min n.sc.length 6)) (cutV vf (min n.fg.length 18)) ps (cutV vn (min nos.length 20)) _ (hlv.keep s.ext) (hlf.keep s.ext) (by omega) (by omega) (hlN.keep s.ext) (by omega)) rfl rfl ?_; intro f w3 v3 hT9 hE3 h s
        refine s_nil ?_
        exact ⟨by rw [h.holds 60 _ rfl]; exact hT9.d, hE3, fun h9 => absurd h9 (by decide)⟩
      · refine obF_in 61 rfl (by decide) (by decide) ?_
        intro f9 w2 hE hs hd9 hl
        have e57 : f9.tmps.getD 57 undef = _ := sx_get hl 57 3 (by kernel_rfl) (by kernel_rfl)
        obtain ⟨u60, hu60⟩ : ∃ v, f9.tmps.getD 60 undef = v := ⟨_, rfl⟩
        have e60 : (DrD r.me (rdP r ps) (orA (withL r.sc ps r.me.1) r.me) (withL r.fg ps r.me.1)) u60 w2 := by rw [← hu60]; exact sx_get hl 60 6 (by kernel_rfl) (by kernel_rfl)
        have e56 : f9.tmps.getD 56 undef = _ := sx_get hl 56 2 (by kernel_rfl) (by kernel_rfl)
        have h := fin_slot [(57, _), (60, u60), (56, _)] hs hd9 (holds_lk ⟨e57, hu60, e56, trivial⟩)
        have s := s.more hE
        have z := St.start w2
        obtain ⟨vo, vg, rfl, hRo, hRg⟩ := e60
        refine s_on h rfl rfl rfl ?_
        refine s_call h s fnc13 (ret_val (.bool true) (like_any (drN r ps) ⟨r.me, rdP r ps, orA (withL r.sc ps r.me.1) r.me, withL r.fg ps r.me.1⟩ au av vo vg _ (RdZ.of_own (s.getSl 5 rfl)) (RdZ.of_own (s.getSl 6 rfl)) hRo hRg (by omega) (by omega) (by have h9 := withL_le r.sc ps r.me.1; have h8 := orA_len (withL r.sc ps r.me.1) r.me; show (orA _ _).length ≤ _; omega) (by have h9 := withL_le r.fg ps r.me.1; show (withL _ _ _).length ≤ _; omega)) (congrArg Value.bool (lkN_eq ((dr_ok ps hr).1.trans (by rw [with_pr (rn_iff.1 hr), with_sc (rn_iff.1 hr), with_fg (rn_iff.1 hr)]))))) rfl rfl ?_; intro f w3 v3 hT9 hE3 h s
        refine s_nil ?_
        exact ⟨by rw [h.holds 61 _ rfl]; exact hT9, hE3, fun h9 => absurd h9 (by decide)⟩
      · exact obT_in (by decide) (by decide)
      · exact obT_in (by decide) (by decide)
      · intro f9 w2 hE hs hd9 hWp hT hR hFr hDj
        obtain ⟨u60, hu60⟩ : ∃ v, f9.tmps.getD 60 undef = v := ⟨_, rfl⟩
        have e60 : (DrD r.me (rdP r ps) (orA (withL r.sc ps r.me.1) r.me) (withL r.fg ps r.me.1)) u60 w2 := by rw [← hu60]; exact hT 6 60 (by decide) rfl
        replace h := sl_new (ops := _) [(54, _), (55, _), (56, _), (57, _), (58, _), (59, _), (60, u60), (61, _)] h hs hd9 hR ⟨hT 0 54 (by decide) rfl, hT 1 55 (by decide) rfl, hT 2 56 (by decide) rfl, hT 3 57 (by decide) rfl, hT 4 58 (by decide) rfl, hT 5 59 (by decide) rfl, hu60, hT 7 61 (by decide) rfl, trivial⟩ (by kernel_rfl)
        replace s := s.more hE
        clear hT hR hFr hDj
        refine LstW.of ?_
        refine s_on h rfl rfl rfl ?_
        refine s_pure h (ru_val (.bool false) (ru_not (h.ev rfl)) rfl) rfl ?_; intro f h
        refine s_pure h (ru_pick_f (h.ev rfl) (h.ev rfl)) rfl ?_; intro f h
        refine s_nil ?_
        refine hK12 _ _ ?_
        refine wpIn_cond_false (h.ev rfl) ?_
        refine wpIn_skip ?_
        refine hK11 _ _ ?_
        refine c_seq fun K13 hK13 => ?_
        refine c_seq fun K14 hK14 => ?_
        cases hx : (mayB m : Bool)
        · skip
          refine c_region ?_
          refine s_load_row 7 h s row25 rfl rfl (mbArr_size _) rfl ?_; intro f h
          refine s_call h s fnc12 (ret_val (.bool false) (lmay_any m _) (congrArg Value.bool hx)) rfl rfl ?_; intro f w1 v9 hT hE h s; obtain rfl := hT
          refine s_pure h (ru_val (.bool true) (ru_not (h.ev rfl)) rfl) rfl ?_; intro f h
          refine s_pure h (ru_move (h.ev rfl)) rfl ?_; intro f h
          refine s_off (b := false) h rfl rfl rfl rfl ?_; intro f h
          refine s_off (b := false) h rfl rfl rfl rfl ?_; intro f h
          refine s_off (b := false) h rfl rfl rfl rfl ?_; intro f h
          refine s_off (b := false) h rfl rfl rfl rfl ?_; intro f h
          refine s_off (b := false) h rfl rfl rfl rfl ?_; intro f h
          refine s_off (b := false) h rfl rfl rfl rfl ?_; intro f h
          refine s_pure h (ru_pick_t (h.ev rfl) (h.ev rfl)) rfl ?_; intro f h
          refine s_nil ?_
          refine hK14 _ _ ?_
          refine wpIn_cond_true (h.ev rfl) ?_
          refine c_seq fun K15 hK15 => ?_
          refine c_region ?_
          refine s_pure h (ru_move (h.ev rfl)) rfl ?_; intro f h
          refine s_pure h (ru_val (.bool true) (ru_eql (h.ev rfl) (h.ev rfl)) (congrArg Value.bool (decide_eq_true (pt_1 hx)))) rfl ?_; intro f h
          refine s_pure h (ru_move (h.ev rfl)) rfl ?_; intro f h
          refine s_on h rfl rfl rfl ?_
          refine s_load_row 1 h s row28 rfl rfl (ndArr_size _ _ _ _) rfl ?_; intro f h
          refine s_on h rfl rfl rfl ?_
          refine s_load_row 0 h s row28 rfl rfl (ndArr_size _ _ _ _) rfl ?_; intro f h
          refine s_on h rfl rfl rfl ?_
          refine s_call h s fnc13 (ret_val (.bool true) (like_any (ptN r m) zNd bu bv nilV nilV _ (RdZ.of_own (s.getSl 2 rfl)) (RdZ.of_own (s.getSl 3 rfl)) (rd_nilM _) (rd_nilM _) (by omega) (by omega) (by exact Nat.zero_le _) (by exact Nat.zero_le _)) (congrArg Value.bool (lkN_eq (pt_of (by rw [pt_1 hx]; decide))))) rfl rfl ?_; intro f w1 v9 hT hE h s; obtain rfl := hT
          refine s_pure h (ru_pick_t (h.ev rfl) (h.ev rfl)) rfl ?_; intro f h
          refine s_pure h (ru_assign (h.ev rfl)) rfl ?_; intro f h
          refine s_nil ?_
          refine hK15 _ _ ?_
          refine wpIn_ret ?_
          refine t_ret ?_
          exact e_tmp rfl h s rfl (rfl)
        · skip
          cases h2 : (decide (m.1 = r.me.1) : Bool)
          · skip
            refine c_region ?_
            refine s_load_row 7 h s row25 rfl rfl (mbArr_size _) rfl ?_; intro f h
            refine s_call h s fnc12 (ret_val (.bool true) (lmay_any m _) (congrArg Value.bool hx)) rfl rfl ?_; intro f w1 v9 hT hE h s; obtain rfl := hT
            refine s_pure h (ru_val (.bool false) (ru_not (h.ev rfl)) rfl) rfl ?_; intro f h
            refine s_pure h (ru_move (h.ev rfl)) rfl ?_; intro f h
            refine s_on h rfl rfl rfl ?_
            refine s_pure h (ru_field fld25_0 (h.ev rfl)) rfl ?_; intro f h
            refine s_on h rfl rfl rfl ?_
            refine s_load_at1 (cell_of_has (Has.of_own s 7 rfl) 0 (mbArr_no _)) h one3 rfl rfl ?_; intro f h
            refine s_on h rfl rfl rfl ?_
            refine s_pure h (ru_field fld28_0 (h.ev rfl)) rfl ?_; intro f h
            refine s_on h rfl rfl rfl ?_
            refine s_pure h (ru_field fld25_0 (h.ev rfl)) rfl ?_; intro f h
            refine s_on h rfl rfl rfl ?_
            refine s_load_at1 (cell_of_has (Has.of_own s 8 rfl) 0 (ndArr_no _ _ _ _)) h one3 rfl rfl ?_; intro f h
            refine s_on h rfl rfl rfl ?_
            refine s_pure h (ru_val (.bool false) (ru_eql (h.ev rfl) (h.ev rfl)) (congrArg Value.bool h2)) rfl ?_; intro f h
            refine s_pure h (ru_pick_f (h.ev rfl) (h.ev rfl)) rfl ?_; intro f h
            refine s_nil ?_
            refine hK14 _ _ ?_
            refine wpIn_cond_false (h.ev rfl) ?_
            refine wpIn_skip ?_
            refine hK13 _ _ ?_
            refine c_seq fun K16 hK16 => ?_
            refine c_region ?_
            have hrt := hr
            refine s_load_row 8 h s row28 rfl rfl (ndArr_size _ _ _ _) rfl ?_; intro f h
            refine s_alloc (ndArr zMb zMb nilV nilV) h s zero28 rfl rfl ?_; intro f w1 b12 h s
            refine s_store_row 0 h s row28 rfl rfl rfl (ndArr_size _ _ _ _) (ndArr_size _ _ _ _) (ndArr_ones (rd_one (hlv.keep s.ext)) (rd_one (hlf.keep s.ext))) ?_; intro w1 s
            refine s_nil ?_
            refine hK16 _ _ ?_
            refine c_seq fun K17 hK17 => ?_
            refine c_seq fun K18 hK18 => ?_
            cases h3 : (hasB r.fg m.1 : Bool)
            · skip
              refine c_region ?_
              refine s_pure h (ru_field fld28_3 (h.ev rfl)) rfl ?_; intro f h
              refine s_load_at1 (V := (cutV vf (min n.fg.length 18))) (cell_of_has (Has.of_own s 9 rfl) 67 (ndArr_fg _ _ _ _)) h one26 rfl rfl ?_; intro f h
              refine s_pure h (ru_field fld25_0 (h.ev rfl)) rfl ?_; intro f h
              refine s_load_at1 (cell_of_has (Has.of_own s 8 rfl) 0 (mbArr_no _)) h one3 rfl rfl ?_; intro f h
              refine s_call h s fnc28 (rfind_any r.fg (cutV vf (min n.fg.length 18)) m.1 _ (hlf.keep s.ext) (by omega)) rfl rfl ?_; intro f w1 v9 hT hE h s; obtain rfl := hT
              refine s_pure h (ru_fieldV flt25_0 one3 (h.ev rfl) (mbArr_no _)) rfl ?_; intro f h
              refine s_pure h (ru_val (.bool true) (ru_lss (h.ev rfl) (h.ev rfl)) (congrArg Value.bool ((ref_has (fun x hx9 => ((rn_iff.1 hr).fg.2.may x hx9).1)).trans (by rw [h3]; rfl)))) rfl ?_; intro f h
              refine s_nil ?_
              refine hK18 _ _ ?_
              refine wpIn_cond_true (h.ev rfl) ?_
              refine c_seq fun K19 hK19 => ?_
              refine c_seq fun K20 hK20 => ?_
              cases h4 : (decide (r.fg.length = 16) : Bool)
              · skip
                refine c_region ?_
                refine s_pure h (ru_field fld28_3 (h.ev rfl)) rfl ?_; intro f h
                refine s_load_at1 (V := (cutV vf (min n.fg.length 18))) (cell_of_has (Has.of_own s 9 rfl) 67 (ndArr_fg _ _ _ _)) h one26 rfl rfl ?_; intro f h
                refine s_pure h (ru_lenZ (hlf.keep s.ext) Try.underlying26 (h.ev rfl)) rfl ?_; intro f h
                refine s_pure h (ru_val (.bool false) (ru_eql (h.ev rfl) (h.ev rfl)) (congrArg Value.bool (decide_eq_false (by have := of_decide_eq_false h4; omega)))) rfl ?_; intro f h
                refine s_nil ?_
                refine hK20 _ _ ?_
                refine wpIn_cond_false (h.ev rfl) ?_
                refine wpIn_skip ?_
                refine hK19 _ _ ?_
                refine c_regT 0 7 [[], [], [1], [0, 1, 2], [], [4], [0, 1, 2, 3, 4, 5], [0, 1, 2, 3, 4, 5, 6], [0, 1, 2, 3, 4, 5, 6, 7]] [[], [], [], [0], [], [], [3, 5], [], []] [fun v => [.sl (v 0) 25 33 0 []], fun _ => [], fun _ => [], fun v => [.sl (v 3) 25 33 r.fg.length (mbCells r.fg)], fun _ => [], fun v => [.sl (v 5) 25 33 1 (mbArr m).toList], fun v => [.sl (v 6) 25 33 (r.fg ++ [m]).length (mbCells (r.fg ++ [m]))], fun _ => [], fun _ => []] [] [fun _ => True, fun v => v 1 = .pointer (some ⟨b3, 67, none⟩), fun v => v 2 = (cutV vf (min n.fg.length 18)), fun _ => True, fun v => v 4 = .agg ((mbArr m)), fun _ => True, fun _ => True, fun _ => True, fun _ => True] [.blk b12 (.cells (ndArr r.me r.pr (cutV vs (min n.sc.length 6)) (cutV vf (min n.fg.length 18))) 28), .blk b11 (.cells (ndArr zMb zMb nilV nilV) 28), .blk b9 (.cells (ndArr (ptN r m).me (ptN r m).pr bu bv) 28), .sl bu 25 33 (ptN r m).sc.length (mbCells (ptN r m).sc), .sl bv 25 33 (ptN r m).fg.length (mbCells (ptN r m).fg), .blk b7 (.cells (ndArr (drN r ps).me (drN r ps).pr au av) 28), .sl au 25 33 (drN r ps).sc.length (mbCells (drN r ps).sc), .sl av 25 33 (drN r ps).fg.length (mbCells (drN r ps).fg), .blk b5 (.cells ((mbArr m)) 25), .blk b3 (.cells (ndArr r.me r.pr (cutV vs (min n.sc.length 6)) (cutV vf (min n.fg.length 18))) 28)] h s rfl (by kernel_rfl) (by kernel_rfl) (by kernel_rfl) (And.intro ?_ (And.intro ?_ (And.intro ?_ (And.intro ?_ (And.intro ?_ (And.intro ?_ (And.intro ?_ (trivial)))))))) [1, 2, 4, 6] (by kernel_rfl) ?_
                · intro f9 w2 vl17 E9 hs9 hd9 hl hF s
                  have h := fin_slot [] (hs9.trans h.size) (hd9.trans h.defers) (holds_lk trivial)
                  replace s : St w (.blk b12 (.cells (ndArr r.me r.pr (cutV vs (min n.sc.length 6)) (cutV vf (min n.fg.length 18))) 28) :: .blk b11 (.cells (ndArr zMb zMb nilV nilV) 28) :: .blk b9 (.cells (ndArr (ptN r m).me (ptN r m).pr bu bv) 28) :: .sl bu 25 33 (ptN r m).sc.length (mbCells (ptN r m).sc) :: .sl bv 25 33 (ptN r m).fg.length (mbCells (ptN r m).fg) :: .blk b7 (.cells (ndArr (drN r ps).me (drN r ps).pr au av) 28) :: .sl au 25 33 (drN r ps).sc.length (mbCells (drN r ps).sc) :: .sl av 25 33 (drN r ps).fg.length (mbCells (drN r ps).fg) :: .blk b5 (.cells ((mbArr m)) 25) :: .blk b3 (.cells (ndArr r.me r.pr (cutV vs (min n.sc.length 6)) (cutV vf (min n.fg.length 18))) 28) :: E9) _ := s
                  refine s_bslice (vs := []) [] h s Try.underlying26 elm25 rfl rfl (by simp) rfl rfl rfl ?_; intro f w1 v101 h s
                  exact s_nil ⟨_, oc_out 101 rfl (h.holds 101 _ rfl), trivial, s⟩
                · intro f9 w2 vl17 E9 hs9 hd9 hl hF s
                  have e3 : f9.tmps.getD 3 undef = _ := oc_old hl 3 (by kernel_rfl) (by kernel_rfl) (h.holds 3 _ rfl)
                  have h := fin_slot [(3, _)] (hs9.trans h.size) (hd9.trans h.defers) (holds_lk ⟨e3, trivial⟩)
                  replace s : St w (.blk b12 (.cells (ndArr r.me r.pr (cutV vs (min n.sc.length 6)) (cutV vf (min n.fg.length 18))) 28) :: .blk b11 (.cells (ndArr zMb zMb nilV nilV) 28) :: .blk b9 (.cells (ndArr (ptN r m).me (ptN r m).pr bu bv) 28) :: .sl bu 25 33 (ptN r m).sc.length (mbCells (ptN r m).sc) :: .sl bv 25 33 (ptN r m).fg.length (mbCells (ptN r m).fg) :: .blk b7 (.cells (ndArr (drN r ps).me (drN r ps).pr au av) 28) :: .sl au 25 33 (drN r ps).sc.length (mbCells (drN r ps).sc) :: .sl av 25 33 (drN r ps).fg.length (mbCells (drN r ps).fg) :: .blk b5 (.cells ((mbArr m)) 25) :: .blk b3 (.cells (ndArr r.me r.pr (cutV vs (min n.sc.length 6)) (cutV vf (min n.fg.length 18))) 28) :: E9) _ := s
                  refine s_pure h (ru_field fld28_3 (h.ev rfl)) rfl ?_; intro f h
                  exact s_nil ⟨_, oc_out 102 rfl (h.holds 102 _ rfl), rfl, s⟩
                · intro f9 w2 vl17 E9 hs9 hd9 hl hF s
                  have e102 : f9.tmps.getD 102 undef = .pointer (some ⟨b3, 67, none⟩) := (oc_get hl 102 1 (by kernel_rfl) (by kernel_rfl)).trans (hF 1 (by decide))
                  have h := fin_slot [(102, .pointer (some ⟨b3, 67, none⟩))] (hs9.trans h.size) (hd9.trans h.defers) (holds_lk ⟨e102, trivial⟩)
                  replace s : St w (.blk b12 (.cells (ndArr r.me r.pr (cutV vs (min n.sc.length 6)) (cutV vf (min n.fg.length 18))) 28) :: .blk b11 (.cells (ndArr zMb zMb nilV nilV) 28) :: .blk b9 (.cells (ndArr (ptN r m).me (ptN r m).pr bu bv) 28) :: .sl bu 25 33 (ptN r m).sc.length (mbCells (ptN r m).sc) :: .sl bv 25 33 (ptN r m).fg.length (mbCells (ptN r m).fg) :: .blk b7 (.cells (ndArr (drN r ps).me (drN r ps).pr au av) 28) :: .sl au 25 33 (drN r ps).sc.length (mbCells (drN r ps).sc) :: .sl av 25 33 (drN r ps).fg.length (mbCells (drN r ps).fg) :: .blk b5 (.cells ((mbArr m)) 25) :: .blk b3 (.cells (ndArr r.me r.pr (cutV vs (min n.sc.length 6)) (cutV vf (min n.fg.length 18))) 28) :: E9) _ := s
                  refine s_load_at1 (V := (cutV vf (min n.fg.length 18))) (cell_of_has (Has.of_own s 9 rfl) 67 (ndArr_fg _ _ _ _)) h one26 rfl rfl ?_; intro f h
                  exact s_nil ⟨_, oc_out 103 rfl (h.holds 103 _ rfl), rfl, s⟩
                · intro f9 w2 vl17 E9 hs9 hd9 hl hF s
                  have e101 : f9.tmps.getD 101 undef = (vl17 0) := oc_get hl 101 0 (by kernel_rfl) (by kernel_rfl)
                  have e103 : f9.tmps.getD 103 undef = (cutV vf (min n.fg.length 18)) := (oc_get hl 103 2 (by kernel_rfl) (by kernel_rfl)).trans (hF 2 (by decide))
                  have h := fin_slot [(101, (vl17 0)), (103, (cutV vf (min n.fg.length 18)))] (hs9.trans h.size) (hd9.trans h.defers) (holds_lk ⟨e101, e103, trivial⟩)
                  replace s : St w (.sl (vl17 0) 25 33 0 [] :: .blk b12 (.cells (ndArr r.me r.pr (cutV vs (min n.sc.length 6)) (cutV vf (min n.fg.length 18))) 28) :: .blk b11 (.cells (ndArr zMb zMb nilV nilV) 28) :: .blk b9 (.cells (ndArr (ptN r m).me (ptN r m).pr bu bv) 28) :: .sl bu 25 33 (ptN r m).sc.length (mbCells (ptN r m).sc) :: .sl bv 25 33 (ptN r m).fg.length (mbCells (ptN r m).fg) :: .blk b7 (.cells (ndArr (drN r ps).me (drN r ps).pr au av) 28) :: .sl au 25 33 (drN r ps).sc.length (mbCells (drN r ps).sc) :: .sl av 25 33 (drN r ps).fg.length (mbCells (drN r ps).fg) :: .blk b5 (.cells ((mbArr m)) 25) :: .blk b3 (.cells (ndArr r.me r.pr (cutV vs (min n.sc.length 6)) (cutV vf (min n.fg.length 18))) 28) :: E9) _ := s
                  refine s_append_rd 0 (hlf.keep s.ext) h s Try.underlying26 elm25 rfl rfl rfl (mbCells_ones _) (by unfold maxLen; omega) (by omega) rfl ?_; intro f w1 v104 h s
                  replace s := s.resl (m := r.fg.length) (ys := mbCells r.fg) 0 rfl (by omega) rfl
                  exact s_nil ⟨_, oc_out 104 rfl (h.holds 104 _ rfl), trivial, s⟩
                · intro f9 w2 vl17 E9 hs9 hd9 hl hF s
                  have e5 : f9.tmps.getD 5 undef = _ := oc_old hl 5 (by kernel_rfl) (by kernel_rfl) (h.holds 5 _ rfl)
                  have h := fin_slot [(5, _)] (hs9.trans h.size) (hd9.trans h.defers) (holds_lk ⟨e5, trivial⟩)
                  replace s : St w (.blk b12 (.cells (ndArr r.me r.pr (cutV vs (min n.sc.length 6)) (cutV vf (min n.fg.length 18))) 28) :: .blk b11 (.cells (ndArr zMb zMb nilV nilV) 28) :: .blk b9 (.cells (ndArr (ptN r m).me (ptN r m).pr bu bv) 28) :: .sl bu 25 33 (ptN r m).sc.length (mbCells (ptN r m).sc) :: .sl bv 25 33 (ptN r m).fg.length (mbCells (ptN r m).fg) :: .blk b7 (.cells (ndArr (drN r ps).me (drN r ps).pr au av) 28) :: .sl au 25 33 (drN r ps).sc.length (mbCells (drN r ps).sc) :: .sl av 25 33 (drN r ps).fg.length (mbCells (drN r ps).fg) :: .blk b5 (.cells ((mbArr m)) 25) :: .blk b3 (.cells (ndArr r.me r.pr (cutV vs (min n.sc.length 6)) (cutV vf (min n.fg.length 18))) 28) :: E9) _ := s
                  refine s_load_row 8 h s row25 rfl rfl (mbArr_size _) rfl ?_; intro f h
                  exact s_nil ⟨_, oc_out 105 rfl (h.holds 105 _ rfl), rfl, s⟩
                · intro f9 w2 vl17 E9 hs9 hd9 hl hF s
                  have e105 : f9.tmps.getD 105 undef = .agg ((mbArr m)) := (oc_get hl 105 4 (by kernel_rfl) (by kernel_rfl)).trans (hF 4 (by decide))
                  have h := fin_slot [(105, .agg ((mbArr m)))] (hs9.trans h.size) (hd9.trans h.defers) (holds_lk ⟨e105, trivial⟩)
                  replace s : St w (.blk b12 (.cells (ndArr r.me r.pr (cutV vs (min n.sc.length 6)) (cutV vf (min n.fg.length 18))) 28) :: .blk b11 (.cells (ndArr zMb zMb nilV nilV) 28) :: .blk b9 (.cells (ndArr (ptN r m).me (ptN r m).pr bu bv) 28) :: .sl bu 25 33 (ptN r m).sc.length (mbCells (ptN r m).sc) :: .sl bv 25 33 (ptN r m).fg.length (mbCells (ptN r m).fg) :: .blk b7 (.cells (ndArr (drN r ps).me (drN r ps).pr au av) 28) :: .sl au 25 33 (drN r ps).sc.length (mbCells (drN r ps).sc) :: .sl av 25 33 (drN r ps).fg.length (mbCells (drN r ps).fg) :: .blk b5 (.cells ((mbArr m)) 25) :: .blk b3 (.cells (ndArr r.me r.pr (cutV vs (min n.sc.length 6)) (cutV vf (min n.fg.length 18))) 28) :: E9) _ := s
                  refine s_bslice (vs := [.agg (mbArr m)]) [.tmp 105] h s Try.underlying26 elm25 rfl rfl (mb_sz _) rfl rfl rfl ?_; intro f w1 v106 h s
                  replace s := s.resl (m := 1) (ys := (mbArr m).toList) 0 rfl rfl (one_mb m)
                  exact s_nil ⟨_, oc_out 106 rfl (h.holds 106 _ rfl), trivial, s⟩
                · intro f9 w2 vl17 E9 hs9 hd9 hl hF s
                  have e104 : f9.tmps.getD 104 undef = (vl17 3) := oc_get hl 104 3 (by kernel_rfl) (by kernel_rfl)
                  have e106 : f9.tmps.getD 106 undef = (vl17 5) := oc_get hl 106 5 (by kernel_rfl) (by kernel_rfl)
                  have h := fin_slot [(104, (vl17 3)), (106, (vl17 5))] (hs9.trans h.size) (hd9.trans h.defers) (holds_lk ⟨e104, e106, trivial⟩)
                  replace s : St w (.sl (vl17 3) 25 33 r.fg.length (mbCells r.fg) :: .sl (vl17 5) 25 33 1 (mbArr m).toList :: .blk b12 (.cells (ndArr r.me r.pr (cutV vs (min n.sc.length 6)) (cutV vf (min n.fg.length 18))) 28) :: .blk b11 (.cells (ndArr zMb zMb nilV nilV) 28) :: .blk b9 (.cells (ndArr (ptN r m).me (ptN r m).pr bu bv) 28) :: .sl bu 25 33 (ptN r m).sc.length (mbCells (ptN r m).sc) :: .sl bv 25 33 (ptN r m).fg.length (mbCells (ptN r m).fg) :: .blk b7 (.cells (ndArr (drN r ps).me (drN r ps).pr au av) 28) :: .sl au 25 33 (drN r ps).sc.length (mbCells (drN r ps).sc) :: .sl av 25 33 (drN r ps).fg.length (mbCells (drN r ps).fg) :: .blk b5 (.cells ((mbArr m)) 25) :: .blk b3 (.cells (ndArr r.me r.pr (cutV vs (min n.sc.length 6)) (cutV vf (min n.fg.length 18))) 28) :: E9) _ := s
                  refine s_append 0 1 h s Try.underlying26 elm25 rfl rfl rfl rfl (by decide) (mbArr_ones m) (by unfold maxLen; omega) (by omega) rfl ?_; intro f w1 v107 h s
                  replace s := s.resl (m := (r.fg ++ [m]).length) (ys := mbCells (r.fg ++ [m])) 0 rfl (by rw [List.length_append]; rfl) (mb_snoc _ _)
                  exact s_nil ⟨_, oc_out 107 rfl (h.holds 107 _ rfl), trivial, (s.pick _ (List.Sublist.cons_cons _ (List.Sublist.cons _ (List.Sublist.cons_cons _ (List.Sublist.cons_cons _ (List.Sublist.cons_cons _ (List.Sublist.cons_cons _ (List.Sublist.cons_cons _ (List.Sublist.cons_cons _ (List.Sublist.cons_cons _ (List.Sublist.cons_cons _ (List.Sublist.cons_cons _ (List.Sublist.cons_cons _ (List.Sublist.refl _))))))))))))))⟩
                intro f w1 vl17 hs9 hd9 hv hr hF s
                replace hv := fun i d h9 => hv i d (show Nat.blt i 7 = true from h9)
                replace h := oc_slT 7 (ops := _) [(101, (vl17 0)), (102, .pointer (some ⟨b3, 67, none⟩)), (103, (cutV vf (min n.fg.length 18))), (104, (vl17 3)), (105, .agg ((mbArr m))), (106, (vl17 5)), (107, (vl17 6))] h hs9 hd9 hr ⟨hv 0 101 rfl rfl, (hv 1 102 rfl rfl).trans (hF 1 (by kernel_rfl)), (hv 2 103 rfl rfl).trans (hF 2 (by kernel_rfl)), hv 3 104 rfl rfl, (hv 4 105 rfl rfl).trans (hF 4 (by kernel_rfl)), hv 5 106 rfl rfl, hv 6 107 rfl rfl, trivial⟩ (by kernel_rfl)
                replace s : St w [.sl (vl17 6) 25 33 (r.fg ++ [m]).length (mbCells (r.fg ++ [m])), .blk b12 (.cells (ndArr r.me r.pr (cutV vs (min n.sc.length 6)) (cutV vf (min n.fg.length 18))) 28), .blk b11 (.cells (ndArr zMb zMb nilV nilV) 28), .blk b9 (.cells (ndArr (ptN r m).me (ptN r m).pr bu bv) 28), .sl bu 25 33 (ptN r m).sc.length (mbCells (ptN r m).sc), .sl bv 25 33 (ptN r m).fg.length (mbCells (ptN r m).fg), .blk b7 (.cells (ndArr (drN r ps).me (drN r ps).pr au av) 28), .sl au 25 33 (drN r ps).sc.length (mbCells (drN r ps).sc), .sl av 25 33 (drN r ps).fg.length (mbCells (drN r ps).fg), .blk b5 (.cells ((mbArr m)) 25), .blk b3 (.cells (ndArr r.me r.pr (cutV vs (min n.sc.length 6)) (cutV vf (min n.fg.length 18))) 28)] _ := s
                refine s_pure h (ru_field fld28_3 (h.ev rfl)) rfl ?_; intro f h
                refine s_store_one 1 h s one26 rfl rfl rfl (by rw [ndArr_size]; omega) (own_one (s.getSl 0 rfl)) ?_; intro w1 s
                replace s := s.recell (D := ndArr r.me r.pr (cutV vs (min n.sc.length 6)) (vl17 6)) 1 rfl (nd_set67 _ _ _ _ _)
                refine s_nil ?_
                refine hK17 _ _ ?_
                refine c_seq fun K21 hK21 => ?_
                refine c_region ?_
                refine s_pure h (ru_move (h.ev rfl)) rfl ?_; intro f h
                refine s_pure h (ru_val (.bool true) (ru_eql (h.ev rfl) (h.ev rfl)) (congrArg Value.bool (decide_eq_true ((pt_6 hrt hx h2 h3 h4).1)))) rfl ?_; intro f h
                refine s_pure h (ru_move (h.ev rfl)) rfl ?_; intro f h
                refine s_on h rfl rfl rfl ?_
                refine s_load_row 3 h s row28 rfl rfl (ndArr_size _ _ _ _) rfl ?_; intro f h
                refine s_on h rfl rfl rfl ?_
                refine s_load_row 1 h s row28 rfl rfl (ndArr_size _ _ _ _) rfl ?_; intro f h
                refine s_on h rfl rfl rfl ?_
                refine s_call h s fnc13 (ret_val (.bool true) (like_any (ptN r m) ⟨r.me, r.pr, r.sc, (r.fg ++ [m])⟩ bu bv (cutV vs (min n.sc.length 6)) (vl17 6) _ (RdZ.of_own (s.getSl 4 rfl)) (RdZ.of_own (s.getSl 5 rfl)) (hlv.keep s.ext) (RdZ.of_own (s.getSl 0 rfl)) (by omega) (by omega) (by show r.sc.length ≤ 1000; omega) (by show (r.fg ++ [m]).length ≤ _; rw [List.length_append]; show _ + 1 ≤ _; omega)) (congrArg Value.bool (lkN_eq ((pt_to (pt_6 hrt hx h2 h3 h4).1).trans (by rw [(pt_6 hrt hx h2 h3 h4).2]))))) rfl rfl ?_; intro f w1 v9 hT hE h s; obtain rfl := hT
                refine s_pure h (ru_pick_t (h.ev rfl) (h.ev rfl)) rfl ?_; intro f h
                refine s_pure h (ru_assign (h.ev rfl)) rfl ?_; intro f h
                refine s_nil ?_
                refine hK21 _ _ ?_
                refine wpIn_ret ?_
                exact e_tmp rfl h s rfl (rfl)
              · skip
                refine c_region ?_
                refine s_pure h (ru_field fld28_3 (h.ev rfl)) rfl ?_; intro f h
                refine s_load_at1 (V := (cutV vf (min n.fg.length 18))) (cell_of_has (Has.of_own s 9 rfl) 67 (ndArr_fg _ _ _ _)) h one26 rfl rfl ?_; intro f h
                refine s_pure h (ru_lenZ (hlf.keep s.ext) Try.underlying26 (h.ev rfl)) rfl ?_; intro f h
                refine s_pure h (ru_val (.bool true) (ru_eql (h.ev rfl) (h.ev rfl)) (congrArg Value.bool (decide_eq_true (by have := of_decide_eq_true h4; omega)))) rfl ?_; intro f h
                refine s_nil ?_
                refine hK20 _ _ ?_
                refine wpIn_cond_true (h.ev rfl) ?_
                refine c_seq fun K22 hK22 => ?_
                refine c_region ?_
                refine s_pure h (ru_move (h.ev rfl)) rfl ?_; intro f h
                refine s_pure h (ru_val (.bool true) (ru_eql (h.ev rfl) (h.ev rfl)) (congrArg Value.bool (decide_eq_true (pt_5 hr hx h2 h3 h4)))) rfl ?_; intro f h
                refine s_pure h (ru_move (h.ev rfl)) rfl ?_; intro f h
                refine s_on h rfl rfl rfl ?_
                refine s_load_row 2 h s row28 rfl rfl (ndArr_size _ _ _ _) rfl ?_; intro f h
                refine s_on h rfl rfl rfl ?_
                refine s_load_row 1 h s row28 rfl rfl (ndArr_size _ _ _ _) rfl ?_; intro f h
                refine s_on h rfl rfl rfl ?_
                refine s_call h s fnc13 (ret_val (.bool true) (like_any (ptN r m) zNd bu bv nilV nilV _ (RdZ.of_own (s.getSl 3 rfl)) (RdZ.of_own (s.getSl 4 rfl)) (rd_nilM _) (rd_nilM _) (by omega) (by omega) (by exact Nat.zero_le _) (by exact Nat.zero_le _)) (congrArg Value.bool (lkN_eq (pt_of (by rw [pt_5 hr hx h2 h3 h4]; decide))))) rfl rfl ?_; intro f w1 v9 hT hE h s; obtain rfl := hT
                refine s_pure h (ru_pick_t (h.ev rfl) (h.ev rfl)) rfl ?_; intro f h
                refine s_pure h (ru_assign (h.ev rfl)) rfl ?_; intro f h
                refine s_nil ?_
                refine hK22 _ _ ?_
                refine wpIn_ret ?_
                refine t_ret ?_
                refine t_ret ?_
                exact e_tmp rfl h s rfl (rfl)
            · skip
              refine c_region ?_
              refine s_pure h (ru_field fld28_3 (h.ev rfl)) rfl ?_; intro f h
              refine s_load_at1 (V := (cutV vf (min n.fg.length 18))) (cell_of_has (Has.of_own s 9 rfl) 67 (ndArr_fg _ _ _ _)) h one26 rfl rfl ?_; intro f h
              refine s_pure h (ru_field fld25_0 (h.ev rfl)) rfl ?_; intro f h
              refine s_load_at1 (cell_of_has (Has.of_own s 8 rfl) 0 (mbArr_no _)) h one3 rfl rfl ?_; intro f h
              refine s_call h s fnc28 (rfind_any r.fg (cutV vf (min n.fg.length 18)) m.1 _ (hlf.keep s.ext) (by omega)) rfl rfl ?_; intro f w1 v9 hT hE h s; obtain rfl := hT
              refine s_pure h (ru_fieldV flt25_0 one3 (h.ev rfl) (mbArr_no _)) rfl ?_; intro f h
              refine s_pure h (ru_val (.bool false) (ru_lss (h.ev rfl) (h.ev rfl)) (congrArg Value.bool ((ref_has (fun x hx9 => ((rn_iff.1 hr).fg.2.may x hx9).1)).trans (by rw [h3]; rfl)))) rfl ?_; intro f h
              refine s_nil ?_
              refine hK18 _ _ ?_
              refine wpIn_cond_false (h.ev rfl) ?_
              refine wpIn_skip ?_
              refine hK17 _ _ ?_
              refine c_seq fun K23 hK23 => ?_
              refine c_region ?_
              refine s_pure h (ru_move (h.ev rfl)) rfl ?_; intro f h
              refine s_pure h (ru_val (.bool true) (ru_eql (h.ev rfl) (h.ev rfl)) (congrArg Value.bool (decide_eq_true ((pt_4 hrt hx h2 h3).1)))) rfl ?_; intro f h
              refine s_pure h (ru_move (h.ev rfl)) rfl ?_; intro f h
              refine s_on h rfl rfl rfl ?_
              refine s_load_row 2 h s row28 rfl rfl (ndArr_size _ _ _ _) rfl ?_; intro f h
              refine s_on h rfl rfl rfl ?_
              refine s_load_row 0 h s row28 rfl rfl (ndArr_size _ _ _ _) rfl ?_; intro f h
              refine s_on h rfl rfl rfl ?_
              refine s_call h s fnc13 (ret_val (.bool true) (like_any (ptN r m) ⟨r.me, r.pr, r.sc, r.fg⟩ bu bv (cutV vs (min n.sc.length 6)) (cutV vf (min n.fg.length 18)) _ (RdZ.of_own (s.getSl 3 rfl)) (RdZ.of_own (s.getSl 4 rfl)) (hlv.keep s.ext) (hlf.keep s.ext) (by omega) (by omega) (by show r.sc.length ≤ 1000; omega) (by show r.fg.length ≤ 1000; omega)) (congrArg Value.bool (lkN_eq ((pt_to (pt_4 hrt hx h2 h3).1).trans (by rw [(pt_4 hrt hx h2 h3).2]))))) rfl rfl ?_; intro f w1 v9 hT hE h s; obtain rfl := hT
              refine s_pure h (ru_pick_t (h.ev rfl) (h.ev rfl)) rfl ?_; intro f h
              refine s_pure h (ru_assign (h.ev rfl)) rfl ?_; intro f h
              refine s_nil ?_
              refine hK23 _ _ ?_
              refine wpIn_ret ?_
              exact e_tmp rfl h s rfl (rfl)
          · skip
            refine c_region ?_
            refine s_load_row 7 h s row25 rfl rfl (mbArr_size _) rfl ?_; intro f h
            refine s_call h s fnc12 (ret_val (.bool true) (lmay_any m _) (congrArg Value.bool hx)) rfl rfl ?_; intro f w1 v9 hT hE h s; obtain rfl := hT
            refine s_pure h (ru_val (.bool false) (ru_not (h.ev rfl)) rfl) rfl ?_; intro f h
            refine s_pure h (ru_move (h.ev rfl)) rfl ?_; intro f h
            refine s_on h rfl rfl rfl ?_
            refine s_pure h (ru_field fld25_0 (h.ev rfl)) rfl ?_; intro f h
            refine s_on h rfl rfl rfl ?_
            refine s_load_at1 (cell_of_has (Has.of_own s 7 rfl) 0 (mbArr_no _)) h one3 rfl rfl ?_; intro f h
            refine s_on h rfl rfl rfl ?_
            refine s_pure h (ru_field fld28_0 (h.ev rfl)) rfl ?_; intro f h
            refine s_on h rfl rfl rfl ?_
            refine s_pure h (ru_field fld25_0 (h.ev rfl)) rfl ?_; intro f h
            refine s_on h rfl rfl rfl ?_
            refine s_load_at1 (cell_of_has (Has.of_own s 8 rfl) 0 (ndArr_no _ _ _ _)) h one3 rfl rfl ?_; intro f h
            refine s_on h rfl rfl rfl ?_
            refine s_pure h (ru_val (.bool true) (ru_eql (h.ev rfl) (h.ev rfl)) (congrArg Value.bool h2)) rfl ?_; intro f h
            refine s_pure h (ru_pick_f (h.ev rfl) (h.ev rfl)) rfl ?_; intro f h
            refine s_nil ?_
            refine hK14 _ _ ?_
            refine wpIn_cond_true (h.ev rfl) ?_
            refine c_seq fun K24 hK24 => ?_
            refine c_region ?_
            refine s_pure h (ru_move (h.ev rfl)) rfl ?_; intro f h
            refine s_pure h (ru_val (.bool true) (ru_eql (h.ev rfl) (h.ev rfl)) (congrArg Value.bool (decide_eq_true (pt_2 h2)))) rfl ?_; intro f h
            refine s_pure h (ru_move (h.ev rfl)) rfl ?_; intro f h
            refine s_on h rfl rfl rfl ?_
            refine s_load_row 1 h s row28 rfl rfl (ndArr_size _ _ _ _) rfl ?_; intro f h
            refine s_on h rfl rfl rfl ?_
            refine s_load_row 0 h s row28 rfl rfl (ndArr_size _ _ _ _) rfl ?_; intro f h
            refine s_on h rfl rfl rfl ?_
            refine s_call h s fnc13 (ret_val (.bool true) (like_any (ptN r m) zNd bu bv nilV nilV _ (RdZ.of_own (s.getSl 2 rfl)) (RdZ.of_own (s.getSl 3 rfl)) (rd_nilM _) (rd_nilM _) (by omega) (by omega) (by exact Nat.zero_le _) (by exact Nat.zero_le _)) (congrArg Value.bool (lkN_eq (pt_of (by rw [pt_2 h2]; decide))))) rfl rfl ?_; intro f w1 v9 hT hE h s; obtain rfl := hT
            refine s_pure h (ru_pick_t (h.ev rfl) (h.ev rfl)) rfl ?_; intro f h
            refine s_pure h (ru_assign (h.ev rfl)) rfl ?_; intro f h
            refine s_nil ?_
            refine hK24 _ _ ?_
            refine wpIn_ret ?_
            refine t_ret ?_
            exact e_tmp rfl h s rfl (rfl)
end Go.Proofs.Ytfnjdjbknjcocaa
