/- What is alike; few; which members may be. -/
import Derived.Test.YtndbijifgalpbaaCon
set_option linter.unusedVariables false
set_option linter.unusedSimpArgs false
set_option linter.unusedSectionVars false
namespace Go.Proofs.Ytndbijifgalpbaa
open Go.RowKit
theorem rmay_any (m : Mb) (w : World) : Calls Try.prog 48 [.agg (mbArr m)].toArray w (Ret w (is (.bool (mayB m)))) := by
  refine c_enter Try.func48 rfl Try.ntmps48 rfl [(0, .agg (mbArr m))] (by simp) fun f h => ?_
  have s := St.start w
  refine c_seq fun K1 hK1 => ?_
  refine c_region ?_
  refine s_box ((mbArr m)) h s rfl rfl rfl ?_; intro f w1 b1 h s
  refine s_pure h (ru_assign (h.ev rfl)) rfl ?_; intro f h
  refine s_nil ?_
  refine hK1 _ _ ?_
  refine c_seq fun K2 hK2 => ?_
  cases h0 : (decide (0 ≤ m.1) : Bool)
  · skip
    refine c_region ?_
    refine s_pure h (ru_field fld30_0 (h.ev rfl)) rfl ?_; intro f h
    refine s_load_at1 (cell_of_has (Has.of_own s 0 rfl) 0 (mbArr_no _)) h one3 rfl rfl ?_; intro f h
    refine s_pure h (ru_val (.bool false) (ru_geq (h.ev rfl) (h.ev rfl)) (congrArg Value.bool h0)) rfl ?_; intro f h
    refine s_pure h (ru_move (h.ev rfl)) rfl ?_; intro f h
    refine s_off (b := true) h rfl rfl rfl rfl ?_; intro f h
    refine s_off (b := true) h rfl rfl rfl rfl ?_; intro f h
    refine s_off (b := true) h rfl rfl rfl rfl ?_; intro f h
    refine s_pure h (ru_pick_f (h.ev rfl) (h.ev rfl)) rfl ?_; intro f h
    refine s_pure h (ru_assign (h.ev rfl)) rfl ?_; intro f h
    refine s_nil ?_
    refine hK2 _ _ ?_
    refine wpIn_ret ?_
    exact e_tmp rfl h s rfl (by show _ = _; rw [may_0 h0] <;> rfl)
  · skip
    refine c_region ?_
    refine s_pure h (ru_field fld30_0 (h.ev rfl)) rfl ?_; intro f h
    refine s_load_at1 (cell_of_has (Has.of_own s 0 rfl) 0 (mbArr_no _)) h one3 rfl rfl ?_; intro f h
    refine s_pure h (ru_val (.bool true) (ru_geq (h.ev rfl) (h.ev rfl)) (congrArg Value.bool h0)) rfl ?_; intro f h
    refine s_pure h (ru_move (h.ev rfl)) rfl ?_; intro f h
    refine s_on h rfl rfl rfl ?_
    refine s_pure h (ru_field fld30_0 (h.ev rfl)) rfl ?_; intro f h
    refine s_on h rfl rfl rfl ?_
    refine s_load_at1 (cell_of_has (Has.of_own s 0 rfl) 0 (mbArr_no _)) h one3 rfl rfl ?_; intro f h
    refine s_on h rfl rfl rfl ?_
    refine s_pure h (ru_val (.bool (decide (m.1 < 16))) (ru_leq (h.ev rfl) (h.ev rfl)) (congrArg Value.bool (decide_eq_decide.2 (by omega)))) rfl ?_; intro f h
    refine s_pure h (ru_pick_t (h.ev rfl) (h.ev rfl)) rfl ?_; intro f h
    refine s_pure h (ru_assign (h.ev rfl)) rfl ?_; intro f h
    refine s_nil ?_
    refine hK2 _ _ ?_
    refine wpIn_ret ?_
    exact e_tmp rfl h s rfl (by show _ = _; rw [may_1 h0] <;> rfl)

theorem rnone_any (m : Mb) (w : World) : Calls Try.prog 49 [.agg (mbArr m)].toArray w (Ret w (is (.bool (decide (m = nMb))))) := by
  refine c_enter Try.func49 rfl Try.ntmps49 rfl [(0, .agg (mbArr m))] (by simp) fun f h => ?_
  have s := St.start w
  refine c_seq fun K1 hK1 => ?_
  refine c_region ?_
  refine s_box ((mbArr m)) h s rfl rfl rfl ?_; intro f w1 b1 h s
  refine s_pure h (ru_assign (h.ev rfl)) rfl ?_; intro f h
  refine s_nil ?_
  refine hK1 _ _ ?_
  refine c_seq fun K2 hK2 => ?_
  cases h0 : (decide (m.1 = -1) : Bool)
  · skip
    refine c_region ?_
    refine s_pure h (ru_field fld30_0 (h.ev rfl)) rfl ?_; intro f h
    refine s_load_at1 (cell_of_has (Has.of_own s 0 rfl) 0 (mbArr_no _)) h one3 rfl rfl ?_; intro f h
    refine s_pure h (ru_val (.bool false) (ru_eql (h.ev rfl) (h.ev rfl)) (congrArg Value.bool h0)) rfl ?_; intro f h
    refine s_pure h (ru_move (h.ev rfl)) rfl ?_; intro f h
    refine s_off (b := true) h rfl rfl rfl rfl ?_; intro f h
    refine s_off (b := true) h rfl rfl rfl rfl ?_; intro f h
    refine s_off (b := true) h rfl rfl rfl rfl ?_; intro f h
    refine s_off (b := true) h rfl rfl rfl rfl ?_; intro f h
    refine s_pure h (ru_pick_f (h.ev rfl) (h.ev rfl)) rfl ?_; intro f h
    refine s_pure h (ru_assign (h.ev rfl)) rfl ?_; intro f h
    refine s_nil ?_
    refine hK2 _ _ ?_
    refine wpIn_ret ?_
    exact e_tmp rfl h s rfl (by show _ = _; rw [none_0 h0])
  · skip
    refine c_region ?_
    refine s_pure h (ru_field fld30_0 (h.ev rfl)) rfl ?_; intro f h
    refine s_load_at1 (cell_of_has (Has.of_own s 0 rfl) 0 (mbArr_no _)) h one3 rfl rfl ?_; intro f h
    refine s_pure h (ru_val (.bool true) (ru_eql (h.ev rfl) (h.ev rfl)) (congrArg Value.bool h0)) rfl ?_; intro f h
    refine s_pure h (ru_move (h.ev rfl)) rfl ?_; intro f h
    refine s_on h rfl rfl rfl ?_
    refine s_pure h (ru_field fld30_1 (h.ev rfl)) rfl ?_; intro f h
    refine s_on h rfl rfl rfl ?_
    refine s_load_at (Has.subL (Has.of_own s 0 rfl) 1 32 (D := idArr (_)) (mbArr_id _)) h row26 rfl (by first | exact idArr_size _ | exact bytesF_size _ _) rfl ?_; intro f h
    refine s_on h rfl rfl rfl ?_
    refine s_pure h (ru_build0 idTy) rfl ?_; intro f h
    refine s_on h rfl rfl rfl ?_
    refine s_pure h (ru_eql_id idTy (h.ev rfl) (h.ev rfl)) rfl ?_; intro f h
    refine s_pure h (ru_pick_t (h.ev rfl) (h.ev rfl)) rfl ?_; intro f h
    refine s_pure h (ru_assign (h.ev rfl)) rfl ?_; intro f h
    refine s_nil ?_
    refine hK2 _ _ ?_
    refine wpIn_ret ?_
    exact e_tmp rfl h s rfl (by show _ = _; rw [none_1 h0] <;> rfl)

theorem unlike_any (l : List Mb) (vh : Value) (no : Int) (w : World) (hR : RdZ w vh 33 l.length (mbCells l)) (hln : l.length ≤ 1000) : Calls Try.prog 50 [vh, .int .i64 no].toArray w (Ret w (is (.bool (othL l no)))) := by
  refine c_enter Try.func50 rfl Try.ntmps50 rfl [(0, vh), (1, .int .i64 no)] (by simp) fun f h => ?_
  have s := St.start w
  refine c_seq fun K1 hK1 => ?_
  refine c_region ?_
  refine s_pure h (ru_assign (h.ev rfl)) rfl ?_; intro f h
  refine s_nil ?_
  refine hK1 _ _ ?_
  refine c_seq fun K2 hK2 => ?_
  refine c_seq fun K3 hK3 => ?_
  refine c_region ?_
  refine s_pure h (ru_move (h.ev rfl)) rfl ?_; intro f h
  refine s_pure h (ru_lenZ (hR.keep s.ext) Try.underlying40 (h.ev rfl)) rfl ?_; intro f h
  refine s_pure h (ru_move (h.ev rfl)) rfl ?_; intro f h
  refine s_nil ?_
  refine hK3 _ _ ?_
  refine wpIn_block ?_
  refine wpIn_loop_ghost (fun nn aa ww => ∃ k : Nat, Sl 40 aa [(0, vh), (1, .int .i64 no), (9, vh), (10, .int .i64 (l.length : Int)), (11, .int .i64 (k : Int))] ∧ St w [] ww ∧ nn = l.length - k ∧ k ≤ l.length ∧ ∀ j, j < k → badO l no j = false) (l.length - (0)) ⟨0, h.only ⟨rfl, rfl, rfl, rfl, slot_int rfl (by omega), trivial⟩, s.as trivial, rfl, Nat.zero_le _, fun j hj => absurd hj (Nat.not_lt_zero _)⟩ ?_
  rintro _ f w1 ⟨k, h, s, hnn, hp0, hp1⟩
  refine c_seq fun K4 hK4 => ?_
  refine c_region ?_
  refine s_pure h (ru_lss (h.ev rfl) (h.ev rfl)) rfl ?_; intro f h
  refine s_nil ?_
  refine hK4 _ _ ?_
  refine c_seq fun K5 hK5 => ?_
  refine c_cond h rfl (fun hc => ?_) (fun hc => ?_)
  · replace hc := of_decide_eq_true hc
    refine wpIn_skip ?_
    refine hK5 _ _ ?_
    refine c_seq fun K6 hK6 => ?_
    refine wpIn_block ?_
    refine c_seq fun K7 hK7 => ?_
    refine c_region ?_
    refine s_pure h (ru_move (h.ev rfl)) rfl ?_; intro f h
    have hkl : k < l.length := by omega
    refine s_pure h (ru_ixz (hR.keep s.ext) (k) Try.underlying40 szo30 (h.ev rfl) (h.ev rfl) (by omega) (by omega)) rfl ?_; intro f h
    refine s_load_at ((hR.keep s.ext).el (k) (by omega) (by decide) (D := mbArr (l.getD k zMb)) (mb_elD l k hkl)) h row30 rfl (mbArr_size _) rfl ?_; intro f h
    refine s_alloc (mbArr zMb) h s zero30 rfl rfl ?_; intro f w1 b6 h s
    refine s_pure h (ru_assign (h.ev rfl)) rfl ?_; intro f h
    refine s_store_row 0 h s row30 rfl rfl rfl (mbArr_size _) (mbArr_size _) (mbArr_ones _) ?_; intro w1 s
    refine s_nil ?_
    refine hK7 _ _ ?_
    refine c_seq fun K8 hK8 => ?_
    refine c_seq fun K9 hK9 => ?_
    cases k0 : (mayB (l.getD k zMb) : Bool)
    · skip
      refine c_region ?_
      refine s_load_row 0 h s row30 rfl rfl (mbArr_size _) rfl ?_; intro f h
      refine s_call h s fnc48 (ret_val (.bool false) (rmay_any (l.getD k zMb) _) (congrArg Value.bool k0)) rfl rfl ?_; intro f w1 v9 hT hE h s; obtain rfl := hT
      refine s_pure h (ru_val (.bool true) (ru_not (h.ev rfl)) rfl) rfl ?_; intro f h
      refine s_pure h (ru_move (h.ev rfl)) rfl ?_; intro f h
      refine s_off (b := false) h rfl rfl rfl rfl ?_; intro f h
      refine s_off (b := false) h rfl rfl rfl rfl ?_; intro f h
      refine s_off (b := false) h rfl rfl rfl rfl ?_; intro f h
      refine s_off (b := false) h rfl rfl rfl rfl ?_; intro f h
      refine s_pure h (ru_pick_t (h.ev rfl) (h.ev rfl)) rfl ?_; intro f h
      refine s_nil ?_
      refine hK9 _ _ ?_
      refine wpIn_cond_true (h.ev rfl) ?_
      refine c_seq fun K10 hK10 => ?_
      refine c_region ?_
      refine s_pure h (ru_assign (h.ev rfl)) rfl ?_; intro f h
      refine s_nil ?_
      refine hK10 _ _ ?_
      refine wpIn_ret ?_
      refine t_ret ?_
      refine b_ret ?_
      refine t_ret ?_
      refine t_ret ?_
      refine b_ret ?_
      refine t_ret ?_
      exact e_tmp rfl h s rfl (by show _ = _; rw [oth_left hkl (badO_0 k0)])
    · skip
      cases k1 : (decide ((l.getD k zMb).1 = no) : Bool)
      · skip
        refine c_region ?_
        refine s_load_row 0 h s row30 rfl rfl (mbArr_size _) rfl ?_; intro f h
        refine s_call h s fnc48 (ret_val (.bool true) (rmay_any (l.getD k zMb) _) (congrArg Value.bool k0)) rfl rfl ?_; intro f w1 v9 hT hE h s; obtain rfl := hT
        refine s_pure h (ru_val (.bool false) (ru_not (h.ev rfl)) rfl) rfl ?_; intro f h
        refine s_pure h (ru_move (h.ev rfl)) rfl ?_; intro f h
        refine s_on h rfl rfl rfl ?_
        refine s_pure h (ru_field fld30_0 (h.ev rfl)) rfl ?_; intro f h
        refine s_on h rfl rfl rfl ?_
        refine s_load_at1 (cell_of_has (Has.of_own s 0 rfl) 0 (mbArr_no _)) h one3 rfl rfl ?_; intro f h
        refine s_on h rfl rfl rfl ?_
        refine s_pure h (ru_move (h.ev rfl)) rfl ?_; intro f h
        refine s_on h rfl rfl rfl ?_
        refine s_pure h (ru_val (.bool false) (ru_eql (h.ev rfl) (h.ev rfl)) (congrArg Value.bool k1)) rfl ?_; intro f h
        refine s_pure h (ru_pick_f (h.ev rfl) (h.ev rfl)) rfl ?_; intro f h
        refine s_nil ?_
        refine hK9 _ _ ?_
        refine wpIn_cond_false (h.ev rfl) ?_
        refine wpIn_skip ?_
        refine hK8 _ _ ?_
        refine c_seq fun K11 hK11 => ?_
        refine c_region ?_
        have hq1 := hp1
        have hlt9 : (l.take k).length = k := by rw [List.length_take]; omega
        refine s_pure h (ru_move (h.ev rfl)) rfl ?_; intro f h
        refine s_pure h (ru_move (h.ev rfl)) rfl ?_; intro f h
        refine s_pure h (ru_slice_hiZ (hR.keep s.ext) (k) Try.underlying40 szo30 (h.ev rfl) (h.ev rfl) (rfl) (by omega)) rfl ?_; intro f h
        refine s_pure h (ru_lenZ ((mb_take hR k (by omega)).keep s.ext) Try.underlying40 (h.ev rfl)) rfl ?_; intro f h
        refine s_pure h (ru_move (h.ev rfl)) rfl ?_; intro f h
        refine s_nil ?_
        refine hK11 _ _ ?_
        refine wpIn_block ?_
        refine wpIn_loop_ghost (fun nn aa ww => ∃ j : Nat, Sl 40 aa [(0, vh), (1, .int .i64 no), (6, .pointer (some ⟨b6, 0, none⟩)), (9, vh), (10, .int .i64 (l.length : Int)), (11, .int .i64 (k : Int)), (27, cutV vh k), (28, .int .i64 ((l.take k).length : Int)), (29, .int .i64 (j : Int))] ∧ St w [.blk b6 (.cells (mbArr (l.getD k zMb)) 30)] ww ∧ nn = k - j ∧ j ≤ k ∧ ∀ i, i < j → decide ((l.getD i zMb).1 = (l.getD k zMb).1) = false) (k - (0)) ⟨0, h.only ⟨rfl, rfl, rfl, rfl, rfl, rfl, rfl, rfl, slot_int rfl (by omega), trivial⟩, s.as ⟨rfl, trivial⟩, rfl, Nat.zero_le _, fun j hj => absurd hj (Nat.not_lt_zero _)⟩ ?_
        rintro _ f w1 ⟨j, h, s, hnn, hp0, hp1⟩
        refine c_seq fun K12 hK12 => ?_
        refine c_region ?_
        refine s_pure h (ru_lss (h.ev rfl) (h.ev rfl)) rfl ?_; intro f h
        refine s_nil ?_
        refine hK12 _ _ ?_
        refine c_seq fun K13 hK13 => ?_
        refine c_cond h rfl (fun hc => ?_) (fun hc => ?_)
        · replace hc := of_decide_eq_true hc
          refine wpIn_skip ?_
          refine hK13 _ _ ?_
          refine c_seq fun K14 hK14 => ?_
          refine wpIn_block ?_
          refine c_seq fun K15 hK15 => ?_
          refine c_region ?_
          have hjk : j < k := by omega
          refine s_pure h (ru_ixz ((mb_take hR k (by omega)).keep s.ext) (j) Try.underlying40 szo30 (h.ev rfl) (h.ev rfl) (by omega) (by omega)) rfl ?_; intro f h
          refine s_load_at (((mb_take hR k (by omega)).keep s.ext).el (j) (by omega) (by decide) (D := mbArr (l.getD j zMb)) (mb_elT l hjk (by omega))) h row30 rfl (mbArr_size _) rfl ?_; intro f h
          refine s_alloc (mbArr zMb) h s zero30 rfl rfl ?_; intro f w1 b8 h s
          refine s_store_row 0 h s row30 rfl rfl rfl (mbArr_size _) (mbArr_size _) (mbArr_ones _) ?_; intro w1 s
          refine s_nil ?_
          refine hK15 _ _ ?_
          refine c_seq fun K16 hK16 => ?_
          refine c_region ?_
          refine s_pure h (ru_field fld30_0 (h.ev rfl)) rfl ?_; intro f h
          refine s_load_at1 (cell_of_has (Has.of_own s 0 rfl) 0 (mbArr_no _)) h one3 rfl rfl ?_; intro f h
          refine s_pure h (ru_field fld30_0 (h.ev rfl)) rfl ?_; intro f h
          refine s_load_at1 (cell_of_has (Has.of_own s 1 rfl) 0 (mbArr_no _)) h one3 rfl rfl ?_; intro f h
          refine s_pure h (ru_eql (h.ev rfl) (h.ev rfl)) rfl ?_; intro f h
          refine s_nil ?_
          refine hK16 _ _ ?_
          refine c_cond h rfl (fun hc => ?_) (fun hc => ?_)
          · refine c_seq fun K17 hK17 => ?_
            refine c_region ?_
            refine s_pure h (ru_assign (h.ev rfl)) rfl ?_; intro f h
            refine s_nil ?_
            refine hK17 _ _ ?_
            refine wpIn_ret ?_
            refine b_ret ?_
            refine t_ret ?_
            refine t_ret ?_
            refine b_ret ?_
            refine b_ret ?_
            refine t_ret ?_
            refine t_ret ?_
            refine b_ret ?_
            refine t_ret ?_
            exact e_tmp rfl h s rfl (by show _ = _; rw [oth_left hkl ((badO_2 k0 k1).trans (any_takeT (p := fun x => decide (x.1 = (l.getD k zMb).1)) (by omega) hjk hc))])
          · refine wpIn_skip ?_
            refine b_norm ?_
            refine hK14 _ _ ?_
            refine c_region ?_
            refine s_pure h (ru_add (h.ev rfl) (h.ev rfl) (by omega)) rfl ?_; intro f h
            refine s_pure h (ru_move (h.ev rfl)) rfl ?_; intro f h
            refine s_nil ?_
            refine t_norm ?_
            exact ⟨_, by omega, ⟨j + 1, h.only ⟨rfl, rfl, rfl, rfl, rfl, rfl, rfl, rfl, slot_int rfl (by omega), trivial⟩, St.as (s.pick _ (List.sublist_append_right [_] _)) ⟨rfl, trivial⟩, rfl, by omega, qs_next (q := fun i => decide ((l.getD i zMb).1 = (l.getD k zMb).1)) hp1 hc⟩⟩
        · replace hc := of_decide_eq_false hc
          refine wpIn_exit ?_
          refine t_exit ?_
          refine t_exit ?_
          refine b_exit ?_
          refine b_norm ?_
          refine hK6 _ _ ?_
          refine c_region ?_
          refine s_pure h (ru_add (h.ev rfl) (h.ev rfl) (by omega)) rfl ?_; intro f h
          refine s_pure h (ru_move (h.ev rfl)) rfl ?_; intro f h
          refine s_nil ?_
          refine t_norm ?_
          have hb9 : badO l no k = false := (badO_2 k0 k1).trans (any_take (p := fun x => decide (x.1 = (l.getD k zMb).1)) (by omega) (fun i hi => hp1 i (by omega)))
          exact ⟨_, by omega, ⟨k + 1, h.only ⟨rfl, rfl, rfl, rfl, slot_int rfl (by omega), trivial⟩, St.as (s.pick _ (List.sublist_append_right [_] _)) trivial, rfl, by omega, qs_next hq1 hb9⟩⟩
      · skip
        refine c_region ?_
        refine s_load_row 0 h s row30 rfl rfl (mbArr_size _) rfl ?_; intro f h
        refine s_call h s fnc48 (ret_val (.bool true) (rmay_any (l.getD k zMb) _) (congrArg Value.bool k0)) rfl rfl ?_; intro f w1 v9 hT hE h s; obtain rfl := hT
        refine s_pure h (ru_val (.bool false) (ru_not (h.ev rfl)) rfl) rfl ?_; intro f h
        refine s_pure h (ru_move (h.ev rfl)) rfl ?_; intro f h
        refine s_on h rfl rfl rfl ?_
        refine s_pure h (ru_field fld30_0 (h.ev rfl)) rfl ?_; intro f h
        refine s_on h rfl rfl rfl ?_
        refine s_load_at1 (cell_of_has (Has.of_own s 0 rfl) 0 (mbArr_no _)) h one3 rfl rfl ?_; intro f h
        refine s_on h rfl rfl rfl ?_
        refine s_pure h (ru_move (h.ev rfl)) rfl ?_; intro f h
        refine s_on h rfl rfl rfl ?_
        refine s_pure h (ru_val (.bool true) (ru_eql (h.ev rfl) (h.ev rfl)) (congrArg Value.bool k1)) rfl ?_; intro f h
        refine s_pure h (ru_pick_f (h.ev rfl) (h.ev rfl)) rfl ?_; intro f h
        refine s_nil ?_
        refine hK9 _ _ ?_
        refine wpIn_cond_true (h.ev rfl) ?_
        refine c_seq fun K18 hK18 => ?_
        refine c_region ?_
        refine s_pure h (ru_assign (h.ev rfl)) rfl ?_; intro f h
        refine s_nil ?_
        refine hK18 _ _ ?_
        refine wpIn_ret ?_
        refine t_ret ?_
        refine b_ret ?_
        refine t_ret ?_
        refine t_ret ?_
        refine b_ret ?_
        refine t_ret ?_
        exact e_tmp rfl h s rfl (by show _ = _; rw [oth_left hkl (badO_1 k1)])
  · replace hc := of_decide_eq_false hc
    refine wpIn_exit ?_
    refine t_exit ?_
    refine t_exit ?_
    refine b_exit ?_
    refine hK2 _ _ ?_
    refine c_seq fun K19 hK19 => ?_
    refine c_region ?_
    refine s_pure h (ru_assign (h.ev rfl)) rfl ?_; intro f h
    refine s_nil ?_
    refine hK19 _ _ ?_
    refine wpIn_ret ?_
    exact e_tmp rfl h s rfl (by show _ = _; rw [oth_done (by omega) hp1])

set_option maxHeartbeats 1000000 in
theorem ofew_any (L : List N3) (vo : Value) (w : World) (hO : RdO w vo L) : Calls Try.prog 7 [.agg #[vo]].toArray w (Ret w (OvL w 46 ((L.take (min L.length 18)).map few3))) := by
  have hT := hO.take (min L.length 18) (Nat.min_le_left _ _)
  obtain ⟨M, hM⟩ : ∃ x9, x9 = L.take (min L.length 18) := ⟨_, rfl⟩
  rw [← hM] at hT
  have hM18 : M.length ≤ 18 := by rw [hM, List.length_take]; omega
  refine c_enter Try.func7 rfl Try.ntmps7 rfl [(0, .agg #[vo])] (by simp) fun f h => ?_
  have s := St.start w
  refine c_seq fun K1 hK1 => ?_
  refine c_region ?_
  refine s_box (#[vo]) h s rfl rfl rfl ?_; intro f w1 b1 h s
  refine s_alloc (#[nilV]) h s zero24 rfl rfl ?_; intro f w1 b2 h s
  refine s_nil ?_
  refine hK1 _ _ ?_
  refine c_seq fun K2 hK2 => ?_
  refine c_region ?_
  refine s_alloc (#[nilV]) h s zero24 rfl rfl ?_; intro f w1 b3 h s
  refine s_nil ?_
  refine hK2 _ _ ?_
  refine c_seq fun K3 hK3 => ?_
  refine c_seq fun K4 hK4 => ?_
  refine c_region ?_
  replace s := s.nilSl 46 68
  refine s_pure h (ru_field fld24_0 (h.ev rfl)) rfl ?_; intro f h
  refine s_load_at1 (V := vo) (cell_of_has (Has.of_own s 3 rfl) 0 rfl) h one22 rfl rfl ?_; intro f h
  refine s_pure h (ru_field fld24_0 (h.ev rfl)) rfl ?_; intro f h
  refine s_load_at1 (V := vo) (cell_of_has (Has.of_own s 3 rfl) 0 rfl) h one22 rfl rfl ?_; intro f h
  refine s_pure h (ru_lenZ (hO.1.keep s.ext) Try.underlying22 (h.ev rfl)) rfl ?_; intro f h
  refine s_pure h (ru_min (h.ev rfl) (h.ev rfl)) rfl ?_; intro f h
  refine s_pure h (ru_slice_hiZ (hO.1.keep s.ext) (min L.length 18) Try.underlying22 szo46 (h.ev rfl) (h.ev rfl) (by split <;> omega) (by omega)) rfl ?_; intro f h
  refine s_pure h (ru_lenZ (hT.1.keep s.ext) Try.underlying22 (h.ev rfl)) rfl ?_; intro f h
  refine s_pure h (ru_move (h.ev rfl)) rfl ?_; intro f h
  refine s_nil ?_
  refine hK4 _ _ ?_
  refine wpIn_block ?_
  refine wpIn_loop_ghost (fun nn aa ww => ∃ k : Nat, ∃ vb : Value, Sl 42 aa [(0, .agg #[vo]), (1, .pointer (some ⟨b1, 0, none⟩)), (2, .pointer (some ⟨b2, 0, none⟩)), (3, .pointer (some ⟨b3, 0, none⟩)), (12, (cutV vo (min L.length 18))), (13, .int .i64 (M.length : Int)), (14, .int .i64 (k : Int))] ∧ St w [.sl vb 46 68 ((M.take k).map few3).length (n3Cells ((M.take k).map few3)), .blk b3 (.cells (#[vb]) 24), .blk b2 (.cells (#[nilV]) 24), .blk b1 (.cells (#[vo]) 24)] ww ∧ nn = M.length - k ∧ k ≤ M.length) (M.length - (0)) ⟨0, nilV, h.only ⟨rfl, rfl, rfl, rfl, rfl, rfl, slot_int rfl (by omega), trivial⟩, s.as ⟨rfl, rfl, rfl, rfl, trivial⟩, rfl, Nat.zero_le _⟩ ?_
  rintro _ f w1 ⟨k, vb, h, s, hnn, hp0⟩
  refine c_seq fun K5 hK5 => ?_
  refine c_region ?_
  refine s_pure h (ru_lss (h.ev rfl) (h.ev rfl)) rfl ?_; intro f h
  refine s_nil ?_
  refine hK5 _ _ ?_
  refine c_seq fun K6 hK6 => ?_
  refine c_cond h rfl (fun hc => ?_) (fun hc => ?_)
  · replace hc := of_decide_eq_true hc
    refine wpIn_skip ?_
    refine hK6 _ _ ?_
    refine c_seq fun K7 hK7 => ?_
    refine wpIn_block ?_
    refine c_seq fun K8 hK8 => ?_
    refine c_region ?_
    have hkl : k < M.length := by omega
    refine s_pure h (ru_ixz (hT.1.keep s.ext) (k) Try.underlying22 szo46 (h.ev rfl) (h.ev rfl) (by omega) (by omega)) rfl ?_; intro f h
    refine s_load_at ((hT.1.keep s.ext).el (k) (by omega) (by decide) (D := ndArr (M.getD k z3).1.me (M.getD k z3).1.pr (M.getD k z3).2.1 (M.getD k z3).2.2) (n3_el M k hkl)) h row46 rfl (ndArr_size _ _ _ _) rfl ?_; intro f h
    refine s_alloc (ndArr zMb zMb nilV nilV) h s zero46 rfl rfl ?_; intro f w1 b5 h s
    refine s_store_row 0 h s row46 rfl rfl rfl (ndArr_size _ _ _ _) (ndArr_size _ _ _ _) (ndArr_ones (rd_one ((hT.2 _ (n3_mem hkl)).1.keep s.ext)) (rd_one ((hT.2 _ (n3_mem hkl)).2.keep s.ext))) ?_; intro w1 s
    refine s_nil ?_
    refine hK8 _ _ ?_
    refine c_seq fun K9 hK9 => ?_
    have hbs := s.ext.le
    refine' c_reg3 11 [0, 2, 7, 9, 11, 12, 13, 14, 16] [8, 10] [] [[], [0], [], [2], [2, 3], [2, 3, 4], [0, 1, 2, 3, 4, 5], [], [7], [], [9], [9, 10], [9, 10, 11], [7, 8, 9, 10, 11, 12], [0, 1, 2, 3, 4, 5, 6, 7, 8, 9, 10], [0, 1, 2, 3, 4, 5, 6, 7, 8, 9, 10, 14], [0, 1, 2, 3, 4, 5, 6, 7, 8, 9, 10, 11, 12, 13, 14, 15], [0, 1, 2, 3, 4, 5, 6, 7, 8, 9, 10, 11, 12, 13, 14, 15, 16]] (is _ :: is _ :: is _ :: is _ :: is _ :: is _ :: is _ :: is _ :: (is ((M.getD k z3).2.2)) :: is _ :: (is ((M.getD k z3).2.2)) :: is _ :: is _ :: is _ :: is _ :: is undef :: is _ :: is undef :: []) (fun _ => True) h s (by kernel_rfl) (by kernel_rfl) (by kernel_rfl) (by kernel_rfl) rfl (fun _ _ h _ => h) (trivial) ⟨⟨_, rfl⟩, ⟨_, rfl⟩, ⟨_, rfl⟩, ⟨_, rfl⟩, ⟨_, rfl⟩, ⟨_, rfl⟩, ⟨_, rfl⟩, ⟨_, rfl⟩, ⟨_, rfl⟩, trivial⟩ ⟨⟨_, rfl⟩, ⟨_, rfl⟩, trivial⟩ ⟨is_mono _, is_mono _, is_mono _, is_mono _, is_mono _, is_mono _, is_mono _, is_mono _, is_mono _, is_mono _, is_mono _, is_mono _, is_mono _, is_mono _, is_mono _, is_mono _, is_mono _, is_mono _, trivial⟩ (And.intro ?_ (And.intro ?_ (And.intro ?_ (And.intro ?_ (And.intro ?_ (And.intro ?_ (And.intro ?_ (And.intro ?_ (And.intro ?_ (And.intro ?_ (And.intro ?_ (And.intro ?_ (And.intro ?_ (And.intro ?_ (And.intro ?_ (And.intro ?_ (And.intro ?_ (And.intro ?_ (trivial))))))))))))))))))) ?_
    rotate_left 14
    · refine obH_in 18 rfl (by decide) ?_
      intro f9 w2 hE hs hl
      have e5 : f9.tmps.getD 5 undef = _ := sx_old hl 5 (by kernel_rfl) (by kernel_rfl) (h.holds 5 _ rfl)
      have h := fin_slot [(5, _)] hs rfl (holds_lk ⟨e5, trivial⟩)
      refine s_pure h (ru_field fld46_2 (h.ev rfl)) rfl ?_; intro f h
      refine s_nil ?_
      have e9 := h.holds 18 _ rfl
      refine ⟨?_, rfl⟩
      refine e9.trans ?_
      exact rfl
    · refine obF_in 19 rfl (by decide) (by decide) ?_
      intro f9 w2 hE hs hd9 hl
      have e18 : f9.tmps.getD 18 undef = _ := sx_get hl 18 0 (by kernel_rfl) (by kernel_rfl)
      have h := fin_slot [(18, _)] hs hd9 (holds_lk ⟨e18, trivial⟩)
      have s := s.more hE
      have z := St.start w2
      refine s_load_at1 (V := (M.getD k z3).2.1) (cell_of_has (Has.of_own s 0 rfl) 66 (ndArr_sc _ _ _ _)) h one40 rfl rfl ?_; intro f h
      refine s_nil ?_
      have e9 := h.holds 19 _ rfl
      refine ⟨?_, Ext.refl _, fun h9 => absurd h9 (by decide)⟩
      refine e9.trans ?_
      exact rfl
    · refine obH_in 20 rfl (by decide) ?_
      intro f9 w2 hE hs hl
      have e5 : f9.tmps.getD 5 undef = _ := sx_old hl 5 (by kernel_rfl) (by kernel_rfl) (h.holds 5 _ rfl)
      have h := fin_slot [(5, _)] hs rfl (holds_lk ⟨e5, trivial⟩)
      refine s_pure h (ru_field fld46_2 (h.ev rfl)) rfl ?_; intro f h
      refine s_nil ?_
      have e9 := h.holds 20 _ rfl
      refine ⟨?_, rfl⟩
      refine e9.trans ?_
      exact rfl
    · refine obF_in 21 rfl (by decide) (by decide) ?_
      intro f9 w2 hE hs hd9 hl
      have e20 : f9.tmps.getD 20 undef = _ := sx_get hl 20 2 (by kernel_rfl) (by kernel_rfl)
      have h := fin_slot [(20, _)] hs hd9 (holds_lk ⟨e20, trivial⟩)
      have s := s.more hE
      have z := St.start w2
      refine s_load_at1 (V := (M.getD k z3).2.1) (cell_of_has (Has.of_own s 0 rfl) 66 (ndArr_sc _ _ _ _)) h one40 rfl rfl ?_; intro f h
      refine s_nil ?_
      have e9 := h.holds 21 _ rfl
      refine ⟨?_, Ext.refl _, fun h9 => absurd h9 (by decide)⟩
      refine e9.trans ?_
      exact rfl
    · refine obF_in 22 rfl (by decide) (by decide) ?_
      intro f9 w2 hE hs hd9 hl
      have e21 : f9.tmps.getD 21 undef = _ := sx_get hl 21 3 (by kernel_rfl) (by kernel_rfl)
      have h := fin_slot [(21, _)] hs hd9 (holds_lk ⟨e21, trivial⟩)
      have s := s.more hE
      have z := St.start w2
      refine s_pure h (ru_lenZ ((hT.2 _ (n3_mem hkl)).1.keep s.ext) Try.underlying40 (h.ev rfl)) rfl ?_; intro f h
      refine s_nil ?_
      have e9 := h.holds 22 _ rfl
      refine ⟨?_, Ext.refl _, fun h9 => absurd h9 (by decide)⟩
      refine e9.trans ?_
      exact rfl
    · refine obF_in 23 rfl (by decide) (by decide) ?_
      intro f9 w2 hE hs hd9 hl
      have e22 : f9.tmps.getD 22 undef = _ := sx_get hl 22 4 (by kernel_rfl) (by kernel_rfl)
      have h := fin_slot [(22, _)] hs hd9 (holds_lk ⟨e22, trivial⟩)
      have s := s.more hE
      have z := St.start w2
      refine s_pure h (ru_min (h.ev rfl) (h.ev rfl)) rfl ?_; intro f h
      refine s_nil ?_
      have e9 := h.holds 23 _ rfl
      refine ⟨?_, Ext.refl _, fun h9 => absurd h9 (by decide)⟩
      refine e9.trans ?_
      exact rfl
    · refine obF_in 24 rfl (by decide) (by decide) ?_
      intro f9 w2 hE hs hd9 hl
      have e19 : f9.tmps.getD 19 undef = _ := sx_get hl 19 1 (by kernel_rfl) (by kernel_rfl)
      have e23 : f9.tmps.getD 23 undef = _ := sx_get hl 23 5 (by kernel_rfl) (by kernel_rfl)
      have h := fin_slot [(19, _), (23, _)] hs hd9 (holds_lk ⟨e19, e23, trivial⟩)
      have s := s.more hE
      have z := St.start w2
      refine s_pure h (ru_slice_hiZ ((hT.2 _ (n3_mem hkl)).1.keep s.ext) (min (M.getD k z3).1.sc.length 6) Try.underlying40 szo30 (h.ev rfl) (h.ev rfl) (by split <;> omega) (by omega)) rfl ?_; intro f h
      refine s_nil ?_
      have e9 := h.holds 24 _ rfl
      refine ⟨?_, Ext.refl _, fun h9 => absurd h9 (by decide)⟩
      refine e9.trans ?_
      exact rfl
    · refine obH_in 25 rfl (by decide) ?_
      intro f9 w2 hE hs hl
      have e5 : f9.tmps.getD 5 undef = _ := sx_old hl 5 (by kernel_rfl) (by kernel_rfl) (h.holds 5 _ rfl)
      have h := fin_slot [(5, _)] hs rfl (holds_lk ⟨e5, trivial⟩)
      refine s_pure h (ru_field fld46_3 (h.ev rfl)) rfl ?_; intro f h
      refine s_nil ?_
      have e9 := h.holds 25 _ rfl
      refine ⟨?_, rfl⟩
      refine e9.trans ?_
      exact rfl
    · refine obF_in 26 rfl (by decide) (by decide) ?_
      intro f9 w2 hE hs hd9 hl
      have e25 : f9.tmps.getD 25 undef = _ := sx_get hl 25 7 (by kernel_rfl) (by kernel_rfl)
      have h := fin_slot [(25, _)] hs hd9 (holds_lk ⟨e25, trivial⟩)
      have s := s.more hE
      have z := St.start w2
      refine s_load_at1 (V := (M.getD k z3).2.2) (cell_of_has (Has.of_own s 0 rfl) 67 (ndArr_fg _ _ _ _)) h one40 rfl rfl ?_; intro f h
      refine s_nil ?_
      have e9 := h.holds 26 _ rfl
      refine ⟨?_, Ext.refl _, fun h9 => absurd h9 (by decide)⟩
      refine e9.trans ?_
      exact rfl
    · refine obH_in 27 rfl (by decide) ?_
      intro f9 w2 hE hs hl
      have e5 : f9.tmps.getD 5 undef = _ := sx_old hl 5 (by kernel_rfl) (by kernel_rfl) (h.holds 5 _ rfl)
      have h := fin_slot [(5, _)] hs rfl (holds_lk ⟨e5, trivial⟩)
      refine s_pure h (ru_field fld46_3 (h.ev rfl)) rfl ?_; intro f h
      refine s_nil ?_
      have e9 := h.holds 27 _ rfl
      refine ⟨?_, rfl⟩
      refine e9.trans ?_
      exact rfl
    · refine obF_in 28 rfl (by decide) (by decide) ?_
      intro f9 w2 hE hs hd9 hl
      have e27 : f9.tmps.getD 27 undef = _ := sx_get hl 27 9 (by kernel_rfl) (by kernel_rfl)
      have h := fin_slot [(27, _)] hs hd9 (holds_lk ⟨e27, trivial⟩)
      have s := s.more hE
      have z := St.start w2
      refine s_load_at1 (V := (M.getD k z3).2.2) (cell_of_has (Has.of_own s 0 rfl) 67 (ndArr_fg _ _ _ _)) h one40 rfl rfl ?_; intro f h
      refine s_nil ?_
      have e9 := h.holds 28 _ rfl
      refine ⟨?_, Ext.refl _, fun h9 => absurd h9 (by decide)⟩
      refine e9.trans ?_
      exact rfl
    · refine obH_in 29 rfl (by decide) ?_
      intro f9 w2 hE hs hl
      have e28 : f9.tmps.getD 28 undef = _ := sx_get hl 28 10 (by kernel_rfl) (by kernel_rfl)
      have h := fin_slot [(28, _)] hs rfl (holds_lk ⟨e28, trivial⟩)
      refine s_pure h (ru_lenZ ((hT.2 _ (n3_mem hkl)).2.keep s.ext) Try.underlying40 (h.ev rfl)) rfl ?_; intro f h
      refine s_nil ?_
      have e9 := h.holds 29 _ rfl
      refine ⟨?_, rfl⟩
      refine e9.trans ?_
      exact rfl
    · refine obH_in 30 rfl (by decide) ?_
      intro f9 w2 hE hs hl
      have e29 : f9.tmps.getD 29 undef = _ := sx_get hl 29 11 (by kernel_rfl) (by kernel_rfl)
      have h := fin_slot [(29, _)] hs rfl (holds_lk ⟨e29, trivial⟩)
      refine s_pure h (ru_min (h.ev rfl) (h.ev rfl)) rfl ?_; intro f h
      refine s_nil ?_
      have e9 := h.holds 30 _ rfl
      refine ⟨?_, rfl⟩
      refine e9.trans ?_
      exact rfl
    · refine obH_in 31 rfl (by decide) ?_
      intro f9 w2 hE hs hl
      have e26 : f9.tmps.getD 26 undef = _ := sx_get hl 26 8 (by kernel_rfl) (by kernel_rfl)
      have e30 : f9.tmps.getD 30 undef = _ := sx_get hl 30 12 (by kernel_rfl) (by kernel_rfl)
      have h := fin_slot [(26, _), (30, _)] hs rfl (holds_lk ⟨e26, e30, trivial⟩)
      refine s_pure h (ru_slice_hiZ ((hT.2 _ (n3_mem hkl)).2.keep s.ext) (min (M.getD k z3).1.fg.length 18) Try.underlying40 szo30 (h.ev rfl) (h.ev rfl) (by split <;> omega) (by omega)) rfl ?_; intro f h
      refine s_nil ?_
      have e9 := h.holds 31 _ rfl
      refine ⟨?_, rfl⟩
      refine e9.trans ?_
      exact rfl
    · refine obH_in 32 rfl (by decide) ?_
      intro f9 w2 hE hs hl
      have e5 : f9.tmps.getD 5 undef = _ := sx_old hl 5 (by kernel_rfl) (by kernel_rfl) (h.holds 5 _ rfl)
      have h := fin_slot [(5, _)] hs rfl (holds_lk ⟨e5, trivial⟩)
      refine s_pure h (ru_field fld46_2 (h.ev rfl)) rfl ?_; intro f h
      refine s_nil ?_
      have e9 := h.holds 32 _ rfl
      refine ⟨?_, rfl⟩
      refine e9.trans ?_
      exact rfl
    · exact obT_in (by decide) (by decide)
    · refine obH_in 33 rfl (by decide) ?_
      intro f9 w2 hE hs hl
      have e5 : f9.tmps.getD 5 undef = _ := sx_old hl 5 (by kernel_rfl) (by kernel_rfl) (h.holds 5 _ rfl)
      have h := fin_slot [(5, _)] hs rfl (holds_lk ⟨e5, trivial⟩)
      refine s_pure h (ru_field fld46_3 (h.ev rfl)) rfl ?_; intro f h
      refine s_nil ?_
      have e9 := h.holds 33 _ rfl
      refine ⟨?_, rfl⟩
      refine e9.trans ?_
      exact rfl
    · exact obT_in (by decide) (by decide)
    · intro f9 w2 hE hs hd9 hWp hT hR hFr hDj
      replace h := sl_new (ops := _) [(18, _), (19, _), (20, _), (21, _), (22, _), (23, _), (24, _), (25, _), (26, _), (27, _), (28, _), (29, _), (30, _), (31, _), (32, _), (33, _)] h hs hd9 hR ⟨hT 0 18 (by decide) rfl, hT 1 19 (by decide) rfl, hT 2 20 (by decide) rfl, hT 3 21 (by decide) rfl, hT 4 22 (by decide) rfl, hT 5 23 (by decide) rfl, hT 6 24 (by decide) rfl, hT 7 25 (by decide) rfl, hT 8 26 (by decide) rfl, hT 9 27 (by decide) rfl, hT 10 28 (by decide) rfl, hT 11 29 (by decide) rfl, hT 12 30 (by decide) rfl, hT 13 31 (by decide) rfl, hT 14 32 (by decide) rfl, hT 16 33 (by decide) rfl, trivial⟩ (by kernel_rfl)
      replace s := s.more hE
      clear hT hR hFr hDj
      refine LstV.cons ?_
      refine s_store_one 0 h s one40 rfl rfl rfl (by rw [ndArr_size]; omega) (rd_one (((hT.2 _ (n3_mem hkl)).1.cut _ (Nat.min_le_left _ _)).keep s.ext)) ?_; intro w1 s
      replace s := s.recell (D := ndArr (M.getD k z3).1.me (M.getD k z3).1.pr (cutV (M.getD k z3).2.1 (min (M.getD k z3).1.sc.length 6)) (M.getD k z3).2.2) 0 rfl (nd_set66 _ _ _ _ _)
      refine s_nil ⟨trivial, VOk.no (by kernel_rfl), ?_⟩
      refine LstV.cons ?_
      refine s_store_one 0 h s one40 rfl rfl rfl (by rw [ndArr_size]; omega) (rd_one (((hT.2 _ (n3_mem hkl)).2.cut _ (Nat.min_le_left _ _)).keep s.ext)) ?_; intro w1 s
      replace s := s.recell (D := ndArr (M.getD k z3).1.me (M.getD k z3).1.pr (cutV (M.getD k z3).2.1 (min (M.getD k z3).1.sc.length 6)) (cutV (M.getD k z3).2.2 (min (M.getD k z3).1.fg.length 18))) 0 rfl (nd_set67 _ _ _ _ _)
      refine s_nil ⟨trivial, VOk.no (by kernel_rfl), ?_⟩
      refine LstV.nil ?_
      refine hK9 _ _ ?_
      refine c_region ?_
      refine s_pure h (ru_field fld24_0 (h.ev rfl)) rfl ?_; intro f h
      refine s_load_at1 (V := vb) (cell_of_has (Has.of_own s 2 rfl) 0 rfl) h one22 rfl rfl ?_; intro f h
      refine s_load_row 0 h s row46 rfl rfl (ndArr_size _ _ _ _) rfl ?_; intro f h
      refine s_bslice (vs := [.agg (ndArr (few3 (M.getD k z3)).1.me (few3 (M.getD k z3)).1.pr (few3 (M.getD k z3)).2.1 (few3 (M.getD k z3)).2.2)]) [.tmp 36] h s Try.underlying22 elm46 rfl rfl (n3_size (few3 (M.getD k z3))) rfl rfl rfl ?_; intro f w1 v37 h s
      refine s_append 2 0 h s Try.underlying22 elm46 rfl rfl rfl rfl (by decide) (n3_ones (few3_rd (hT.2 _ (n3_mem hkl))).ones.1 (few3_rd (hT.2 _ (n3_mem hkl))).ones.2) (by rw [List.length_map, List.length_take]; unfold maxLen; omega) (by rw [List.length_map, List.length_take]; omega) rfl ?_; intro f w1 v38 h s
      replace s := s.pick _ (List.sublist_cons_self _ _)
      replace s := s.resl (m := ((M.take (k + 1)).map few3).length) (ys := n3Cells ((M.take (k + 1)).map few3)) 1 rfl (by rw [few3_snoc hkl, List.length_append]; rfl) (by rw [few3_snoc hkl, one_n3, n3_snoc])
      refine s_pure h (ru_field fld24_0 (h.ev rfl)) rfl ?_; intro f h
      refine s_store_one 2 h s one22 rfl rfl rfl (by show 0 < 1; decide) (own_one (s.getSl 1 rfl)) ?_; intro w1 s
      replace s := s.recell (D := #[v38]) 2 rfl rfl
      refine s_nil ?_
      refine b_norm ?_
      refine hK7 _ _ ?_
      refine c_region ?_
      refine s_pure h (ru_add (h.ev rfl) (h.ev rfl) (by omega)) rfl ?_; intro f h
      refine s_pure h (ru_move (h.ev rfl)) rfl ?_; intro f h
      refine s_nil ?_
      refine t_norm ?_
      exact ⟨_, by omega, ⟨k + 1, v38, h.only ⟨rfl, rfl, rfl, rfl, rfl, rfl, slot_int rfl (by omega), trivial⟩, St.as (s.pick _ (List.sublist_append_right [_] _)) ⟨rfl, rfl, rfl, rfl, trivial⟩, rfl, by omega⟩⟩
  · replace hc := of_decide_eq_false hc
    refine wpIn_exit ?_
    refine t_exit ?_
    refine t_exit ?_
    refine b_exit ?_
    refine hK3 _ _ ?_
    refine c_seq fun K10 hK10 => ?_
    refine c_region ?_
    refine s_load_row 1 h s row24 rfl rfl (rfl) rfl ?_; intro f h
    refine s_store_row 2 h s row24 rfl rfl rfl (rfl) (rfl) (ov_ones (own_one (s.getSl 0 rfl))) ?_; intro w1 s
    refine s_nil ?_
    refine hK10 _ _ ?_
    refine wpIn_ret ?_
    exact e_row 2 rfl h s row24 rfl rfl (rfl) (ovL_ok (by obtain rfl : k = M.length := (by omega); rw [List.take_length, hM]) (s.getSl 0 rfl))
end Go.Proofs.Ytndbijifgalpbaa
