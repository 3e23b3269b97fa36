/- Which overlays may be, by the reference. -/
import Derived.Test.YtndbijifgalpbaaVb
import Derived.Test.YtndbijifgalpbaaVd
set_option linter.unusedVariables false
set_option linter.unusedSimpArgs false
set_option linter.unusedSectionVars false
namespace Go.Proofs.Ytndbijifgalpbaa
open Go.RowKit
theorem rright_any (l : List Mb) (vh : Value) (w : World) (hR : RdZ w vh 33 l.length (mbCells l)) (hln : l.length ≤ 1000) : Calls Try.prog 26 [vh].toArray w (Ret w (is (.bool (rightR l)))) := by
  refine c_enter Try.func26 rfl Try.ntmps26 rfl [(0, vh)] (by simp) fun f h => ?_
  have s := St.start w
  refine c_seq fun K1 hK1 => ?_
  refine c_region ?_
  refine s_pure h (ru_assign (h.ev rfl)) rfl ?_; intro f h
  refine s_nil ?_
  refine hK1 _ _ ?_
  refine c_seq fun K2 hK2 => ?_
  refine c_seq fun K3 hK3 => ?_
  refine c_region ?_
  refine s_pure h (ru_move (h.ev rfl)) rfl ?_; intro f h
  refine s_pure h (ru_lenZ (hR.keep s.ext) Try.underlying40 (h.ev rfl)) rfl ?_; intro f h
  refine s_pure h (ru_move (h.ev rfl)) rfl ?_; intro f h
  refine s_nil ?_
  refine hK3 _ _ ?_
  refine wpIn_block ?_
  refine wpIn_loop_ghost (fun nn aa ww => ∃ k : Nat, Sl 47 aa [(0, vh), (7, vh), (8, .int .i64 (l.length : Int)), (9, .int .i64 (k : Int))] ∧ St w [] ww ∧ nn = l.length - k ∧ k ≤ l.length ∧ ∀ j, j < k → badR l j = false) (l.length - (0)) ⟨0, h.only ⟨rfl, rfl, rfl, slot_int rfl (by omega), trivial⟩, s.as trivial, rfl, Nat.zero_le _, fun j hj => absurd hj (Nat.not_lt_zero _)⟩ ?_
  rintro _ f w1 ⟨k, h, s, hnn, hp0, hp1⟩
  refine c_seq fun K4 hK4 => ?_
  refine c_region ?_
  refine s_pure h (ru_lss (h.ev rfl) (h.ev rfl)) rfl ?_; intro f h
  refine s_nil ?_
  refine hK4 _ _ ?_
  refine c_seq fun K5 hK5 => ?_
  refine c_cond h rfl (fun hc => ?_) (fun hc => ?_)
  · replace hc := of_decide_eq_true hc
    refine wpIn_skip ?_
    refine hK5 _ _ ?_
    refine c_seq fun K6 hK6 => ?_
    refine wpIn_block ?_
    refine c_seq fun K7 hK7 => ?_
    refine c_region ?_
    refine s_pure h (ru_move (h.ev rfl)) rfl ?_; intro f h
    have hkl : k < l.length := by omega
    refine s_pure h (ru_ixz (hR.keep s.ext) (k) Try.underlying40 szo30 (h.ev rfl) (h.ev rfl) (by omega) (by omega)) rfl ?_; intro f h
    refine s_load_at ((hR.keep s.ext).el (k) (by omega) (by decide) (D := mbArr (l.getD k zMb)) (mb_elD l k hkl)) h row30 rfl (mbArr_size _) rfl ?_; intro f h
    refine s_alloc (mbArr zMb) h s zero30 rfl rfl ?_; intro f w1 b4 h s
    refine s_pure h (ru_assign (h.ev rfl)) rfl ?_; intro f h
    refine s_store_row 0 h s row30 rfl rfl rfl (mbArr_size _) (mbArr_size _) (mbArr_ones _) ?_; intro w1 s
    refine s_nil ?_
    refine hK7 _ _ ?_
    refine c_seq fun K8 hK8 => ?_
    refine c_seq fun K9 hK9 => ?_
    cases k0 : (decide ((l.getD k zMb).1 < 0) : Bool)
    · skip
      cases k1 : (decide (16 ≤ (l.getD k zMb).1) : Bool)
      · skip
        refine c_region ?_
        refine s_pure h (ru_field fld30_0 (h.ev rfl)) rfl ?_; intro f h
        refine s_load_at1 (cell_of_has (Has.of_own s 0 rfl) 0 (mbArr_no _)) h one3 rfl rfl ?_; intro f h
        refine s_pure h (ru_val (.bool false) (ru_lss (h.ev rfl) (h.ev rfl)) (congrArg Value.bool k0)) rfl ?_; intro f h
        refine s_pure h (ru_move (h.ev rfl)) rfl ?_; intro f h
        refine s_on h rfl rfl rfl ?_
        refine s_pure h (ru_field fld30_0 (h.ev rfl)) rfl ?_; intro f h
        refine s_on h rfl rfl rfl ?_
        refine s_load_at1 (cell_of_has (Has.of_own s 0 rfl) 0 (mbArr_no _)) h one3 rfl rfl ?_; intro f h
        refine s_on h rfl rfl rfl ?_
        refine s_pure h (ru_val (.bool false) (ru_gtr (h.ev rfl) (h.ev rfl)) (congrArg Value.bool ((decide_eq_decide.2 (by omega)).trans k1))) rfl ?_; intro f h
        refine s_pure h (ru_pick_f (h.ev rfl) (h.ev rfl)) rfl ?_; intro f h
        refine s_nil ?_
        refine hK9 _ _ ?_
        refine wpIn_cond_false (h.ev rfl) ?_
        refine wpIn_skip ?_
        refine hK8 _ _ ?_
        refine c_seq fun K10 hK10 => ?_
        refine c_region ?_
        have hq1 := hp1
        have hlt9 : (l.take k).length = k := by rw [List.length_take]; omega
        refine s_pure h (ru_move (h.ev rfl)) rfl ?_; intro f h
        refine s_pure h (ru_move (h.ev rfl)) rfl ?_; intro f h
        refine s_pure h (ru_slice_hiZ (hR.keep s.ext) (k) Try.underlying40 szo30 (h.ev rfl) (h.ev rfl) (rfl) (by omega)) rfl ?_; intro f h
        refine s_pure h (ru_lenZ ((mb_take hR k (by omega)).keep s.ext) Try.underlying40 (h.ev rfl)) rfl ?_; intro f h
        refine s_pure h (ru_move (h.ev rfl)) rfl ?_; intro f h
        refine s_nil ?_
        refine hK10 _ _ ?_
        refine wpIn_block ?_
        refine wpIn_loop_ghost (fun nn aa ww => ∃ j : Nat, Sl 47 aa [(0, vh), (4, .pointer (some ⟨b4, 0, none⟩)), (7, vh), (8, .int .i64 (l.length : Int)), (9, .int .i64 (k : Int)), (24, cutV vh k), (25, .int .i64 ((l.take k).length : Int)), (26, .int .i64 (j : Int))] ∧ St w [.blk b4 (.cells (mbArr (l.getD k zMb)) 30)] ww ∧ nn = k - j ∧ j ≤ k ∧ ∀ i, i < j → clash (l.getD k zMb) (l.getD i zMb) = false) (k - (0)) ⟨0, h.only ⟨rfl, rfl, rfl, rfl, rfl, rfl, rfl, slot_int rfl (by omega), trivial⟩, s.as ⟨rfl, trivial⟩, rfl, Nat.zero_le _, fun j hj => absurd hj (Nat.not_lt_zero _)⟩ ?_
        rintro _ f w1 ⟨j, h, s, hnn, hp0, hp1⟩
        refine c_seq fun K11 hK11 => ?_
        refine c_region ?_
        refine s_pure h (ru_lss (h.ev rfl) (h.ev rfl)) rfl ?_; intro f h
        refine s_nil ?_
        refine hK11 _ _ ?_
        refine c_seq fun K12 hK12 => ?_
        refine c_cond h rfl (fun hc => ?_) (fun hc => ?_)
        · replace hc := of_decide_eq_true hc
          refine wpIn_skip ?_
          refine hK12 _ _ ?_
          refine c_seq fun K13 hK13 => ?_
          refine wpIn_block ?_
          refine c_seq fun K14 hK14 => ?_
          refine c_region ?_
          have hjk : j < k := by omega
          refine s_pure h (ru_ixz ((mb_take hR k (by omega)).keep s.ext) (j) Try.underlying40 szo30 (h.ev rfl) (h.ev rfl) (by omega) (by omega)) rfl ?_; intro f h
          refine s_load_at (((mb_take hR k (by omega)).keep s.ext).el (j) (by omega) (by decide) (D := mbArr (l.getD j zMb)) (mb_elT l hjk (by omega))) h row30 rfl (mbArr_size _) rfl ?_; intro f h
          refine s_alloc (mbArr zMb) h s zero30 rfl rfl ?_; intro f w1 b6 h s
          refine s_store_row 0 h s row30 rfl rfl rfl (mbArr_size _) (mbArr_size _) (mbArr_ones _) ?_; intro w1 s
          refine s_nil ?_
          refine hK14 _ _ ?_
          refine c_seq fun K15 hK15 => ?_
          cases h0 : (decide ((l.getD j zMb).1 = (l.getD k zMb).1) : Bool)
          · skip
            refine c_region ?_
            refine s_pure h (ru_field fld30_0 (h.ev rfl)) rfl ?_; intro f h
            refine s_load_at1 (cell_of_has (Has.of_own s 0 rfl) 0 (mbArr_no _)) h one3 rfl rfl ?_; intro f h
            refine s_pure h (ru_field fld30_0 (h.ev rfl)) rfl ?_; intro f h
            refine s_load_at1 (cell_of_has (Has.of_own s 1 rfl) 0 (mbArr_no _)) h one3 rfl rfl ?_; intro f h
            refine s_pure h (ru_val (.bool false) (ru_eql (h.ev rfl) (h.ev rfl)) (congrArg Value.bool h0)) rfl ?_; intro f h
            refine s_pure h (ru_move (h.ev rfl)) rfl ?_; intro f h
            refine s_on h rfl rfl rfl ?_
            refine s_pure h (ru_field fld30_1 (h.ev rfl)) rfl ?_; intro f h
            refine s_on h rfl rfl rfl ?_
            refine s_load_at (Has.subL (Has.of_own s 0 rfl) 1 32 (D := idArr (_)) (mbArr_id _)) h row26 rfl (by first | exact idArr_size _ | exact bytesF_size _ _) rfl ?_; intro f h
            refine s_on h rfl rfl rfl ?_
            refine s_pure h (ru_field fld30_1 (h.ev rfl)) rfl ?_; intro f h
            refine s_on h rfl rfl rfl ?_
            refine s_load_at (Has.subL (Has.of_own s 1 rfl) 1 32 (D := idArr (_)) (mbArr_id _)) h row26 rfl (by first | exact idArr_size _ | exact bytesF_size _ _) rfl ?_; intro f h
            refine s_on h rfl rfl rfl ?_
            refine s_pure h (ru_eql_id idTy (h.ev rfl) (h.ev rfl)) rfl ?_; intro f h
            refine s_pure h (ru_pick_f (h.ev rfl) (h.ev rfl)) rfl ?_; intro f h
            refine s_nil ?_
            refine hK15 _ _ ?_
            refine c_cond h rfl (fun hc => ?_) (fun hc => ?_)
            · refine c_seq fun K16 hK16 => ?_
              refine c_region ?_
              refine s_pure h (ru_assign (h.ev rfl)) rfl ?_; intro f h
              refine s_nil ?_
              refine hK16 _ _ ?_
              refine wpIn_ret ?_
              refine b_ret ?_
              refine t_ret ?_
              refine t_ret ?_
              refine b_ret ?_
              refine b_ret ?_
              refine t_ret ?_
              refine t_ret ?_
              refine b_ret ?_
              refine t_ret ?_
              exact e_tmp rfl h s rfl (by show _ = _; rw [right_leftR hkl ((badR_2 k0 k1).trans (any_takeT (by omega) hjk ((clash_2 h0).trans hc)))] <;> rfl)
            · refine wpIn_skip ?_
              refine b_norm ?_
              refine hK13 _ _ ?_
              refine c_region ?_
              refine s_pure h (ru_add (h.ev rfl) (h.ev rfl) (by omega)) rfl ?_; intro f h
              refine s_pure h (ru_move (h.ev rfl)) rfl ?_; intro f h
              refine s_nil ?_
              refine t_norm ?_
              have hb8 : clash (l.getD k zMb) (l.getD j zMb) = false := (clash_2 h0).trans hc
              exact ⟨_, by omega, ⟨j + 1, h.only ⟨rfl, rfl, rfl, rfl, rfl, rfl, rfl, slot_int rfl (by omega), trivial⟩, St.as (s.pick _ (List.sublist_append_right [_] _)) ⟨rfl, trivial⟩, rfl, by omega, qs_next hp1 hb8⟩⟩
          · skip
            refine c_region ?_
            refine s_pure h (ru_field fld30_0 (h.ev rfl)) rfl ?_; intro f h
            refine s_load_at1 (cell_of_has (Has.of_own s 0 rfl) 0 (mbArr_no _)) h one3 rfl rfl ?_; intro f h
            refine s_pure h (ru_field fld30_0 (h.ev rfl)) rfl ?_; intro f h
            refine s_load_at1 (cell_of_has (Has.of_own s 1 rfl) 0 (mbArr_no _)) h one3 rfl rfl ?_; intro f h
            refine s_pure h (ru_val (.bool true) (ru_eql (h.ev rfl) (h.ev rfl)) (congrArg Value.bool h0)) rfl ?_; intro f h
            refine s_pure h (ru_move (h.ev rfl)) rfl ?_; intro f h
            refine s_off (b := false) h rfl rfl rfl rfl ?_; intro f h
            refine s_off (b := false) h rfl rfl rfl rfl ?_; intro f h
            refine s_off (b := false) h rfl rfl rfl rfl ?_; intro f h
            refine s_off (b := false) h rfl rfl rfl rfl ?_; intro f h
            refine s_off (b := false) h rfl rfl rfl rfl ?_; intro f h
            refine s_pure h (ru_pick_t (h.ev rfl) (h.ev rfl)) rfl ?_; intro f h
            refine s_nil ?_
            refine hK15 _ _ ?_
            refine wpIn_cond_true (h.ev rfl) ?_
            refine c_seq fun K17 hK17 => ?_
            refine c_region ?_
            refine s_pure h (ru_assign (h.ev rfl)) rfl ?_; intro f h
            refine s_nil ?_
            refine hK17 _ _ ?_
            refine wpIn_ret ?_
            refine b_ret ?_
            refine t_ret ?_
            refine t_ret ?_
            refine b_ret ?_
            refine b_ret ?_
            refine t_ret ?_
            refine t_ret ?_
            refine b_ret ?_
            refine t_ret ?_
            exact e_tmp rfl h s rfl (by show _ = _; rw [right_leftR hkl ((badR_2 k0 k1).trans (any_takeT (by omega) hjk (clash_1 h0)))] <;> rfl)
        · replace hc := of_decide_eq_false hc
          refine wpIn_exit ?_
          refine t_exit ?_
          refine t_exit ?_
          refine b_exit ?_
          refine b_norm ?_
          refine hK6 _ _ ?_
          refine c_region ?_
          refine s_pure h (ru_add (h.ev rfl) (h.ev rfl) (by omega)) rfl ?_; intro f h
          refine s_pure h (ru_move (h.ev rfl)) rfl ?_; intro f h
          refine s_nil ?_
          refine t_norm ?_
          have hb9 : badR l k = false := (badR_2 k0 k1).trans (any_take (by omega) (fun i hi => hp1 i (by omega)))
          exact ⟨_, by omega, ⟨k + 1, h.only ⟨rfl, rfl, rfl, slot_int rfl (by omega), trivial⟩, St.as (s.pick _ (List.sublist_append_right [_] _)) trivial, rfl, by omega, qs_next hq1 hb9⟩⟩
      · skip
        refine c_region ?_
        refine s_pure h (ru_field fld30_0 (h.ev rfl)) rfl ?_; intro f h
        refine s_load_at1 (cell_of_has (Has.of_own s 0 rfl) 0 (mbArr_no _)) h one3 rfl rfl ?_; intro f h
        refine s_pure h (ru_val (.bool false) (ru_lss (h.ev rfl) (h.ev rfl)) (congrArg Value.bool k0)) rfl ?_; intro f h
        refine s_pure h (ru_move (h.ev rfl)) rfl ?_; intro f h
        refine s_on h rfl rfl rfl ?_
        refine s_pure h (ru_field fld30_0 (h.ev rfl)) rfl ?_; intro f h
        refine s_on h rfl rfl rfl ?_
        refine s_load_at1 (cell_of_has (Has.of_own s 0 rfl) 0 (mbArr_no _)) h one3 rfl rfl ?_; intro f h
        refine s_on h rfl rfl rfl ?_
        refine s_pure h (ru_val (.bool true) (ru_gtr (h.ev rfl) (h.ev rfl)) (congrArg Value.bool ((decide_eq_decide.2 (by omega)).trans k1))) rfl ?_; intro f h
        refine s_pure h (ru_pick_f (h.ev rfl) (h.ev rfl)) rfl ?_; intro f h
        refine s_nil ?_
        refine hK9 _ _ ?_
        refine wpIn_cond_true (h.ev rfl) ?_
        refine c_seq fun K18 hK18 => ?_
        refine c_region ?_
        refine s_pure h (ru_assign (h.ev rfl)) rfl ?_; intro f h
        refine s_nil ?_
        refine hK18 _ _ ?_
        refine wpIn_ret ?_
        refine t_ret ?_
        refine b_ret ?_
        refine t_ret ?_
        refine t_ret ?_
        refine b_ret ?_
        refine t_ret ?_
        exact e_tmp rfl h s rfl (by show _ = _; rw [right_leftR hkl (badR_1 k1)] <;> rfl)
    · skip
      refine c_region ?_
      refine s_pure h (ru_field fld30_0 (h.ev rfl)) rfl ?_; intro f h
      refine s_load_at1 (cell_of_has (Has.of_own s 0 rfl) 0 (mbArr_no _)) h one3 rfl rfl ?_; intro f h
      refine s_pure h (ru_val (.bool true) (ru_lss (h.ev rfl) (h.ev rfl)) (congrArg Value.bool k0)) rfl ?_; intro f h
      refine s_pure h (ru_move (h.ev rfl)) rfl ?_; intro f h
      refine s_off (b := false) h rfl rfl rfl rfl ?_; intro f h
      refine s_off (b := false) h rfl rfl rfl rfl ?_; intro f h
      refine s_off (b := false) h rfl rfl rfl rfl ?_; intro f h
      refine s_pure h (ru_pick_t (h.ev rfl) (h.ev rfl)) rfl ?_; intro f h
      refine s_nil ?_
      refine hK9 _ _ ?_
      refine wpIn_cond_true (h.ev rfl) ?_
      refine c_seq fun K19 hK19 => ?_
      refine c_region ?_
      refine s_pure h (ru_assign (h.ev rfl)) rfl ?_; intro f h
      refine s_nil ?_
      refine hK19 _ _ ?_
      refine wpIn_ret ?_
      refine t_ret ?_
      refine b_ret ?_
      refine t_ret ?_
      refine t_ret ?_
      refine b_ret ?_
      refine t_ret ?_
      exact e_tmp rfl h s rfl (by show _ = _; rw [right_leftR hkl (badR_0 k0)] <;> rfl)
  · replace hc := of_decide_eq_false hc
    refine wpIn_exit ?_
    refine t_exit ?_
    refine t_exit ?_
    refine b_exit ?_
    refine hK2 _ _ ?_
    refine c_seq fun K20 hK20 => ?_
    refine c_region ?_
    refine s_pure h (ru_move (h.ev rfl)) rfl ?_; intro f h
    refine s_pure h (ru_lenZ (hR.keep s.ext) Try.underlying40 (h.ev rfl)) rfl ?_; intro f h
    refine s_pure h (ru_leq (h.ev rfl) (h.ev rfl)) rfl ?_; intro f h
    refine s_pure h (ru_assign (h.ev rfl)) rfl ?_; intro f h
    refine s_nil ?_
    refine hK20 _ _ ?_
    refine wpIn_ret ?_
    exact e_tmp rfl h s rfl (by show _ = _; rw [right_endR (fun j hj => hp1 j (by omega))]; exact congrArg Value.bool (decide_eq_decide.2 (by omega)))

set_option maxHeartbeats 1000000 in
theorem rnright_any (n : Nd) (vs vf : Value) (w : World) (hRs : RdZ w vs 33 n.sc.length (mbCells n.sc)) (hRf : RdZ w vf 33 n.fg.length (mbCells n.fg)) (hns : n.sc.length ≤ 1000) (hnf : n.fg.length ≤ 1000) : Calls Try.prog 23 [.agg (ndArr n.me n.pr vs vf)].toArray w (Ret w (is (.bool (rightN n)))) := by
  refine c_enter Try.func23 rfl Try.ntmps23 rfl [(0, .agg (ndArr n.me n.pr vs vf))] (by simp) fun f h => ?_
  have s := St.start w
  refine c_seq fun K1 hK1 => ?_
  refine c_region ?_
  refine s_box (ndArr n.me n.pr vs vf) h s rfl rfl rfl ?_; intro f w1 b1 h s
  refine s_pure h (ru_assign (h.ev rfl)) rfl ?_; intro f h
  refine s_nil ?_
  refine hK1 _ _ ?_
  refine c_seq fun K2 hK2 => ?_
  refine c_seq fun K3 hK3 => ?_
  cases h0 : (mayB n.me : Bool)
  · skip
    refine c_region ?_
    refine s_pure h (ru_field fld46_0 (h.ev rfl)) rfl ?_; intro f h
    refine s_load_at (Has.subL (Has.of_own s 0 rfl) 0 33 (D := mbArr n.me) (ndArr_me _ _ _ _)) h row30 rfl (mbArr_size _) rfl ?_; intro f h
    refine s_call h s fnc48 (ret_val (.bool false) (rmay_any n.me _) (congrArg Value.bool h0)) rfl rfl ?_; intro f w1 v9 hT hE h s; obtain rfl := hT
    refine s_pure h (ru_val (.bool true) (ru_not (h.ev rfl)) rfl) rfl ?_; intro f h
    refine s_pure h (ru_move (h.ev rfl)) rfl ?_; intro f h
    refine s_off (b := false) h rfl rfl rfl rfl ?_; intro f h
    refine s_off (b := false) h rfl rfl rfl rfl ?_; intro f h
    refine s_off (b := false) h rfl rfl rfl rfl ?_; intro f h
    refine s_off (b := false) h rfl rfl rfl rfl ?_; intro f h
    refine s_off (b := false) h rfl rfl rfl rfl ?_; intro f h
    refine s_none h rfl rfl rfl rfl ?_; intro f h
    refine s_none h rfl rfl rfl rfl ?_; intro f h
    refine s_none h rfl rfl rfl rfl ?_; intro f h
    refine s_none h rfl rfl rfl rfl ?_; intro f h
    refine s_none h rfl rfl rfl rfl ?_; intro f h
    refine s_none h rfl rfl rfl rfl ?_; intro f h
    refine s_none h rfl rfl rfl rfl ?_; intro f h
    refine s_none h rfl rfl rfl rfl ?_; intro f h
    refine s_none h rfl rfl rfl rfl ?_; intro f h
    refine s_none h rfl rfl rfl rfl ?_; intro f h
    refine s_none h rfl rfl rfl rfl ?_; intro f h
    refine s_none h rfl rfl rfl rfl ?_; intro f h
    refine s_none h rfl rfl rfl rfl ?_; intro f h
    refine s_off (b := false) h rfl rfl rfl rfl ?_; intro f h
    refine s_pure h (ru_pick_t (h.ev rfl) (h.ev rfl)) rfl ?_; intro f h
    refine s_nil ?_
    refine hK3 _ _ ?_
    refine wpIn_cond_true (h.ev rfl) ?_
    refine c_seq fun K4 hK4 => ?_
    refine c_region ?_
    refine s_pure h (ru_assign (h.ev rfl)) rfl ?_; intro f h
    refine s_nil ?_
    refine hK4 _ _ ?_
    refine wpIn_ret ?_
    refine t_ret ?_
    exact e_tmp rfl h s rfl (by show _ = _; rw [right_0 h0])
  · skip
    cases p0 : (decide (n.pr = nMb) : Bool)
    · skip
      cases p1 : (mayB n.pr : Bool)
      · skip
        refine c_region ?_
        refine s_pure h (ru_field fld46_0 (h.ev rfl)) rfl ?_; intro f h
        refine s_load_at (Has.subL (Has.of_own s 0 rfl) 0 33 (D := mbArr n.me) (ndArr_me _ _ _ _)) h row30 rfl (mbArr_size _) rfl ?_; intro f h
        refine s_call h s fnc48 (ret_val (.bool true) (rmay_any n.me _) (congrArg Value.bool h0)) rfl rfl ?_; intro f w1 v9 hT hE h s; obtain rfl := hT
        refine s_pure h (ru_val (.bool false) (ru_not (h.ev rfl)) rfl) rfl ?_; intro f h
        refine s_pure h (ru_move (h.ev rfl)) rfl ?_; intro f h
        refine s_on h rfl rfl rfl ?_
        refine s_pure h (ru_field fld46_1 (h.ev rfl)) rfl ?_; intro f h
        refine s_on h rfl rfl rfl ?_
        refine s_load_at (Has.subL (Has.of_own s 0 rfl) 33 33 (D := mbArr n.pr) (ndArr_pr _ _ _ _)) h row30 rfl (mbArr_size _) rfl ?_; intro f h
        refine s_on h rfl rfl rfl ?_
        refine s_call h s fnc49 (ret_val (.bool false) (rnone_any n.pr _) (congrArg Value.bool p0)) rfl rfl ?_; intro f w1 v9 hT hE h s; obtain rfl := hT
        refine s_on h rfl rfl rfl ?_
        refine s_pure h (ru_val (.bool true) (ru_not (h.ev rfl)) rfl) rfl ?_; intro f h
        refine s_on h rfl rfl rfl ?_
        refine s_pure h (ru_move (h.ev rfl)) rfl ?_; intro f h
        refine s_on h rfl rfl rfl ?_
        refine s_pure h (ru_field fld46_1 (h.ev rfl)) rfl ?_; intro f h
        refine s_on h rfl rfl rfl ?_
        refine s_load_at (Has.subL (Has.of_own s 0 rfl) 33 33 (D := mbArr n.pr) (ndArr_pr _ _ _ _)) h row30 rfl (mbArr_size _) rfl ?_; intro f h
        refine s_on h rfl rfl rfl ?_
        refine s_call h s fnc48 (ret_val (.bool false) (rmay_any n.pr _) (congrArg Value.bool p1)) rfl rfl ?_; intro f w1 v9 hT hE h s; obtain rfl := hT
        refine s_on h rfl rfl rfl ?_
        refine s_pure h (ru_val (.bool true) (ru_not (h.ev rfl)) rfl) rfl ?_; intro f h
        refine s_on h rfl rfl rfl ?_
        refine s_pure h (ru_move (h.ev rfl)) rfl ?_; intro f h
        refine s_off (b := false) h rfl rfl rfl rfl ?_; intro f h
        refine s_off (b := false) h rfl rfl rfl rfl ?_; intro f h
        refine s_off (b := false) h rfl rfl rfl rfl ?_; intro f h
        refine s_off (b := false) h rfl rfl rfl rfl ?_; intro f h
        refine s_off (b := false) h rfl rfl rfl rfl ?_; intro f h
        refine s_off (b := false) h rfl rfl rfl rfl ?_; intro f h
        refine s_off (b := false) h rfl rfl rfl rfl ?_; intro f h
        refine s_on h rfl rfl rfl ?_
        refine s_pure h (ru_pick_t (h.ev rfl) (h.ev rfl)) rfl ?_; intro f h
        refine s_on h rfl rfl rfl ?_
        refine s_pure h (ru_pick_t (h.ev rfl) (h.ev rfl)) rfl ?_; intro f h
        refine s_pure h (ru_pick_f (h.ev rfl) (h.ev rfl)) rfl ?_; intro f h
        refine s_nil ?_
        refine hK3 _ _ ?_
        refine wpIn_cond_true (h.ev rfl) ?_
        refine c_seq fun K5 hK5 => ?_
        refine c_region ?_
        refine s_pure h (ru_assign (h.ev rfl)) rfl ?_; intro f h
        refine s_nil ?_
        refine hK5 _ _ ?_
        refine wpIn_ret ?_
        refine t_ret ?_
        exact e_tmp rfl h s rfl (by show _ = _; rw [right_1 (pre_1 p0 p1)])
      · skip
        cases p2 : (decide (n.pr.1 = n.me.1) : Bool)
        · skip
          refine c_region ?_
          refine s_pure h (ru_field fld46_0 (h.ev rfl)) rfl ?_; intro f h
          refine s_load_at (Has.subL (Has.of_own s 0 rfl) 0 33 (D := mbArr n.me) (ndArr_me _ _ _ _)) h row30 rfl (mbArr_size _) rfl ?_; intro f h
          refine s_call h s fnc48 (ret_val (.bool true) (rmay_any n.me _) (congrArg Value.bool h0)) rfl rfl ?_; intro f w1 v9 hT hE h s; obtain rfl := hT
          refine s_pure h (ru_val (.bool false) (ru_not (h.ev rfl)) rfl) rfl ?_; intro f h
          refine s_pure h (ru_move (h.ev rfl)) rfl ?_; intro f h
          refine s_on h rfl rfl rfl ?_
          refine s_pure h (ru_field fld46_1 (h.ev rfl)) rfl ?_; intro f h
          refine s_on h rfl rfl rfl ?_
          refine s_load_at (Has.subL (Has.of_own s 0 rfl) 33 33 (D := mbArr n.pr) (ndArr_pr _ _ _ _)) h row30 rfl (mbArr_size _) rfl ?_; intro f h
          refine s_on h rfl rfl rfl ?_
          refine s_call h s fnc49 (ret_val (.bool false) (rnone_any n.pr _) (congrArg Value.bool p0)) rfl rfl ?_; intro f w1 v9 hT hE h s; obtain rfl := hT
          refine s_on h rfl rfl rfl ?_
          refine s_pure h (ru_val (.bool true) (ru_not (h.ev rfl)) rfl) rfl ?_; intro f h
          refine s_on h rfl rfl rfl ?_
          refine s_pure h (ru_move (h.ev rfl)) rfl ?_; intro f h
          refine s_on h rfl rfl rfl ?_
          refine s_pure h (ru_field fld46_1 (h.ev rfl)) rfl ?_; intro f h
          refine s_on h rfl rfl rfl ?_
          refine s_load_at (Has.subL (Has.of_own s 0 rfl) 33 33 (D := mbArr n.pr) (ndArr_pr _ _ _ _)) h row30 rfl (mbArr_size _) rfl ?_; intro f h
          refine s_on h rfl rfl rfl ?_
          refine s_call h s fnc48 (ret_val (.bool true) (rmay_any n.pr _) (congrArg Value.bool p1)) rfl rfl ?_; intro f w1 v9 hT hE h s; obtain rfl := hT
          refine s_on h rfl rfl rfl ?_
          refine s_pure h (ru_val (.bool false) (ru_not (h.ev rfl)) rfl) rfl ?_; intro f h
          refine s_on h rfl rfl rfl ?_
          refine s_pure h (ru_move (h.ev rfl)) rfl ?_; intro f h
          refine s_on h rfl rfl rfl ?_
          refine s_pure h (ru_field fld46_1 (h.ev rfl)) rfl ?_; intro f h
          refine s_on h rfl rfl rfl ?_
          refine s_pure h (ru_field fld30_0 (h.ev rfl)) rfl ?_; intro f h
          refine s_on h rfl rfl rfl ?_
          refine s_load_at1 (cell_of_has (Has.of_own s 0 rfl) 33 (ndArr_pno _ _ _ _)) h one3 rfl rfl ?_; intro f h
          refine s_on h rfl rfl rfl ?_
          refine s_pure h (ru_field fld46_0 (h.ev rfl)) rfl ?_; intro f h
          refine s_on h rfl rfl rfl ?_
          refine s_pure h (ru_field fld30_0 (h.ev rfl)) rfl ?_; intro f h
          refine s_on h rfl rfl rfl ?_
          refine s_load_at1 (cell_of_has (Has.of_own s 0 rfl) 0 (ndArr_no _ _ _ _)) h one3 rfl rfl ?_; intro f h
          refine s_on h rfl rfl rfl ?_
          refine s_pure h (ru_val (.bool false) (ru_eql (h.ev rfl) (h.ev rfl)) (congrArg Value.bool p2)) rfl ?_; intro f h
          refine s_on h rfl rfl rfl ?_
          refine s_pure h (ru_pick_f (h.ev rfl) (h.ev rfl)) rfl ?_; intro f h
          refine s_on h rfl rfl rfl ?_
          refine s_pure h (ru_pick_t (h.ev rfl) (h.ev rfl)) rfl ?_; intro f h
          refine s_pure h (ru_pick_f (h.ev rfl) (h.ev rfl)) rfl ?_; intro f h
          refine s_nil ?_
          refine hK3 _ _ ?_
          refine wpIn_cond_false (h.ev rfl) ?_
          refine wpIn_skip ?_
          refine hK2 _ _ ?_
          refine c_seq fun K6 hK6 => ?_
          refine c_seq fun K7 hK7 => ?_
          cases s0 : (decide (n.sc.length < 1) : Bool)
          · skip
            cases s1 : (decide (4 < n.sc.length) : Bool)
            · skip
              cases f0 : (decide (16 < n.fg.length) : Bool)
              · skip
                cases f1 : (othL n.fg n.me.1 : Bool)
                · skip
                  refine c_region ?_
                  refine s_pure h (ru_field fld46_2 (h.ev rfl)) rfl ?_; intro f h
                  refine s_load_at1 (V := vs) (cell_of_has (Has.of_own s 0 rfl) 66 (ndArr_sc _ _ _ _)) h one40 rfl rfl ?_; intro f h
                  refine s_pure h (ru_lenZ (hRs.keep s.ext) Try.underlying40 (h.ev rfl)) rfl ?_; intro f h
                  refine s_pure h (ru_val (.bool false) (ru_lss (h.ev rfl) (h.ev rfl)) (congrArg Value.bool (decide_eq_false (by have := of_decide_eq_false s0; omega)))) rfl ?_; intro f h
                  refine s_pure h (ru_move (h.ev rfl)) rfl ?_; intro f h
                  refine s_on h rfl rfl rfl ?_
                  refine s_pure h (ru_field fld46_2 (h.ev rfl)) rfl ?_; intro f h
                  refine s_on h rfl rfl rfl ?_
                  refine s_load_at1 (V := vs) (cell_of_has (Has.of_own s 0 rfl) 66 (ndArr_sc _ _ _ _)) h one40 rfl rfl ?_; intro f h
                  refine s_on h rfl rfl rfl ?_
                  refine s_pure h (ru_lenZ (hRs.keep s.ext) Try.underlying40 (h.ev rfl)) rfl ?_; intro f h
                  refine s_on h rfl rfl rfl ?_
                  refine s_pure h (ru_val (.bool false) (ru_gtr (h.ev rfl) (h.ev rfl)) (congrArg Value.bool (decide_eq_false (by have := of_decide_eq_false s1; omega)))) rfl ?_; intro f h
                  refine s_pure h (ru_pick_f (h.ev rfl) (h.ev rfl)) rfl ?_; intro f h
                  refine s_pure h (ru_move (h.ev rfl)) rfl ?_; intro f h
                  refine s_on h rfl rfl rfl ?_
                  refine s_pure h (ru_field fld46_3 (h.ev rfl)) rfl ?_; intro f h
                  refine s_on h rfl rfl rfl ?_
                  refine s_load_at1 (V := vf) (cell_of_has (Has.of_own s 0 rfl) 67 (ndArr_fg _ _ _ _)) h one40 rfl rfl ?_; intro f h
                  refine s_on h rfl rfl rfl ?_
                  refine s_pure h (ru_lenZ (hRf.keep s.ext) Try.underlying40 (h.ev rfl)) rfl ?_; intro f h
                  refine s_on h rfl rfl rfl ?_
                  refine s_pure h (ru_val (.bool false) (ru_gtr (h.ev rfl) (h.ev rfl)) (congrArg Value.bool (decide_eq_false (by have := of_decide_eq_false f0; omega)))) rfl ?_; intro f h
                  refine s_pure h (ru_pick_f (h.ev rfl) (h.ev rfl)) rfl ?_; intro f h
                  refine s_pure h (ru_move (h.ev rfl)) rfl ?_; intro f h
                  refine s_on h rfl rfl rfl ?_
                  refine s_pure h (ru_field fld46_3 (h.ev rfl)) rfl ?_; intro f h
                  refine s_on h rfl rfl rfl ?_
                  refine s_load_at1 (V := vf) (cell_of_has (Has.of_own s 0 rfl) 67 (ndArr_fg _ _ _ _)) h one40 rfl rfl ?_; intro f h
                  refine s_on h rfl rfl rfl ?_
                  refine s_pure h (ru_field fld46_0 (h.ev rfl)) rfl ?_; intro f h
                  refine s_on h rfl rfl rfl ?_
                  refine s_pure h (ru_field fld30_0 (h.ev rfl)) rfl ?_; intro f h
                  refine s_on h rfl rfl rfl ?_
                  refine s_load_at1 (cell_of_has (Has.of_own s 0 rfl) 0 (ndArr_no _ _ _ _)) h one3 rfl rfl ?_; intro f h
                  refine s_on h rfl rfl rfl ?_
                  refine s_call h s fnc50 (ret_val (.bool false) (unlike_any n.fg vf n.me.1 _ (hRf.keep s.ext) hnf) (congrArg Value.bool f1)) rfl rfl ?_; intro f w1 v9 hT hE h s; obtain rfl := hT
                  refine s_on h rfl rfl rfl ?_
                  refine s_pure h (ru_val (.bool true) (ru_not (h.ev rfl)) rfl) rfl ?_; intro f h
                  refine s_pure h (ru_pick_f (h.ev rfl) (h.ev rfl)) rfl ?_; intro f h
                  refine s_nil ?_
                  refine hK7 _ _ ?_
                  refine wpIn_cond_true (h.ev rfl) ?_
                  refine c_seq fun K8 hK8 => ?_
                  refine c_region ?_
                  refine s_pure h (ru_assign (h.ev rfl)) rfl ?_; intro f h
                  refine s_nil ?_
                  refine hK8 _ _ ?_
                  refine wpIn_ret ?_
                  refine t_ret ?_
                  exact e_tmp rfl h s rfl (by show _ = _; rw [right_4 (fin_f1 f1)])
                · skip
                  refine c_region ?_
                  refine s_pure h (ru_field fld46_2 (h.ev rfl)) rfl ?_; intro f h
                  refine s_load_at1 (V := vs) (cell_of_has (Has.of_own s 0 rfl) 66 (ndArr_sc _ _ _ _)) h one40 rfl rfl ?_; intro f h
                  refine s_pure h (ru_lenZ (hRs.keep s.ext) Try.underlying40 (h.ev rfl)) rfl ?_; intro f h
                  refine s_pure h (ru_val (.bool false) (ru_lss (h.ev rfl) (h.ev rfl)) (congrArg Value.bool (decide_eq_false (by have := of_decide_eq_false s0; omega)))) rfl ?_; intro f h
                  refine s_pure h (ru_move (h.ev rfl)) rfl ?_; intro f h
                  refine s_on h rfl rfl rfl ?_
                  refine s_pure h (ru_field fld46_2 (h.ev rfl)) rfl ?_; intro f h
                  refine s_on h rfl rfl rfl ?_
                  refine s_load_at1 (V := vs) (cell_of_has (Has.of_own s 0 rfl) 66 (ndArr_sc _ _ _ _)) h one40 rfl rfl ?_; intro f h
                  refine s_on h rfl rfl rfl ?_
                  refine s_pure h (ru_lenZ (hRs.keep s.ext) Try.underlying40 (h.ev rfl)) rfl ?_; intro f h
                  refine s_on h rfl rfl rfl ?_
                  refine s_pure h (ru_val (.bool false) (ru_gtr (h.ev rfl) (h.ev rfl)) (congrArg Value.bool (decide_eq_false (by have := of_decide_eq_false s1; omega)))) rfl ?_; intro f h
                  refine s_pure h (ru_pick_f (h.ev rfl) (h.ev rfl)) rfl ?_; intro f h
                  refine s_pure h (ru_move (h.ev rfl)) rfl ?_; intro f h
                  refine s_on h rfl rfl rfl ?_
                  refine s_pure h (ru_field fld46_3 (h.ev rfl)) rfl ?_; intro f h
                  refine s_on h rfl rfl rfl ?_
                  refine s_load_at1 (V := vf) (cell_of_has (Has.of_own s 0 rfl) 67 (ndArr_fg _ _ _ _)) h one40 rfl rfl ?_; intro f h
                  refine s_on h rfl rfl rfl ?_
                  refine s_pure h (ru_lenZ (hRf.keep s.ext) Try.underlying40 (h.ev rfl)) rfl ?_; intro f h
                  refine s_on h rfl rfl rfl ?_
                  refine s_pure h (ru_val (.bool false) (ru_gtr (h.ev rfl) (h.ev rfl)) (congrArg Value.bool (decide_eq_false (by have := of_decide_eq_false f0; omega)))) rfl ?_; intro f h
                  refine s_pure h (ru_pick_f (h.ev rfl) (h.ev rfl)) rfl ?_; intro f h
                  refine s_pure h (ru_move (h.ev rfl)) rfl ?_; intro f h
                  refine s_on h rfl rfl rfl ?_
                  refine s_pure h (ru_field fld46_3 (h.ev rfl)) rfl ?_; intro f h
                  refine s_on h rfl rfl rfl ?_
                  refine s_load_at1 (V := vf) (cell_of_has (Has.of_own s 0 rfl) 67 (ndArr_fg _ _ _ _)) h one40 rfl rfl ?_; intro f h
                  refine s_on h rfl rfl rfl ?_
                  refine s_pure h (ru_field fld46_0 (h.ev rfl)) rfl ?_; intro f h
                  refine s_on h rfl rfl rfl ?_
                  refine s_pure h (ru_field fld30_0 (h.ev rfl)) rfl ?_; intro f h
                  refine s_on h rfl rfl rfl ?_
                  refine s_load_at1 (cell_of_has (Has.of_own s 0 rfl) 0 (ndArr_no _ _ _ _)) h one3 rfl rfl ?_; intro f h
                  refine s_on h rfl rfl rfl ?_
                  refine s_call h s fnc50 (ret_val (.bool true) (unlike_any n.fg vf n.me.1 _ (hRf.keep s.ext) hnf) (congrArg Value.bool f1)) rfl rfl ?_; intro f w1 v9 hT hE h s; obtain rfl := hT
                  refine s_on h rfl rfl rfl ?_
                  refine s_pure h (ru_val (.bool false) (ru_not (h.ev rfl)) rfl) rfl ?_; intro f h
                  refine s_pure h (ru_pick_f (h.ev rfl) (h.ev rfl)) rfl ?_; intro f h
                  refine s_nil ?_
                  refine hK7 _ _ ?_
                  refine wpIn_cond_false (h.ev rfl) ?_
                  refine wpIn_skip ?_
                  refine hK6 _ _ ?_
                  refine c_seq fun K9 hK9 => ?_
                  cases t0 : (decide (n.sc.length = 1) : Bool)
                  · skip
                    refine c_walkN 22 [[], [0], [0, 1], [0, 1, 2], [0, 1, 2, 3], [0, 1, 2, 3, 4], [0, 1, 2, 3, 4, 5], [0, 1, 2, 3, 4, 5, 6], [0, 1, 2, 3, 4, 5, 6, 7], [0, 1, 2, 3, 4], [0, 1, 2, 3, 4, 9], [0, 1, 2, 3, 4, 5, 6, 7, 8, 9, 10], [0, 1, 2, 3, 4, 5, 6, 7, 8, 9, 10, 11], [0, 1, 2, 3, 4, 5, 6, 7, 8, 9, 10, 11, 12], [0, 1, 2, 3, 4, 5, 6, 7, 8, 9, 10, 11, 12, 13], [0, 1, 2, 3, 4, 5, 6, 7, 8, 9, 10, 11, 12, 13, 14], [0, 1, 2, 3, 4, 5, 6, 7, 8, 9, 10, 11, 12, 13], [0, 1, 2, 3, 4, 5, 6, 7, 8, 9, 10, 11, 12, 13, 16], [0, 1, 2, 3, 4, 5, 6, 7, 8, 9, 10, 11, 12, 13, 16, 17], [0, 1, 2, 3, 4, 5, 6, 7, 8, 9, 10, 11, 12, 13, 14, 15, 16, 17, 18], [0, 1, 2, 3, 4, 5, 6, 7, 8, 9, 10, 11, 12, 13, 14, 15, 16, 17, 18, 19], [0, 1, 2, 3, 4, 5, 6, 7, 8, 9, 10, 11, 12, 13, 14, 15, 16, 17, 18, 19, 20]] h (by kernel_rfl) (by kernel_rfl) (by kernel_rfl) ?_
                    refine w_pure h (ru_field fld46_2 (h.ev rfl)) rfl ?_; intro f h
                    refine w_load_at1 (V := vs) (cell_of_has (Has.of_own s 0 rfl) 66 (ndArr_sc _ _ _ _)) h one40 rfl rfl ?_; intro f h
                    refine w_pure h (ru_lenZ (hRs.keep s.ext) Try.underlying40 (h.ev rfl)) rfl ?_; intro f h
                    refine w_pure h (ru_val (.bool false) (ru_eql (h.ev rfl) (h.ev rfl)) (congrArg Value.bool (decide_eq_false (by have := of_decide_eq_false t0; omega)))) rfl ?_; intro f h
                    refine w_pure h (ru_move (h.ev rfl)) rfl ?_; intro f h
                    refine w_off (b := true) h rfl rfl rfl rfl ?_; intro f h
                    refine w_off (b := true) h rfl rfl rfl rfl ?_; intro f h
                    refine w_off (b := true) h rfl rfl rfl rfl ?_; intro f h
                    refine w_off (b := true) h rfl rfl rfl rfl ?_; intro f h
                    refine w_off (b := true) h rfl rfl rfl rfl ?_; intro f h
                    refine w_off (b := true) h rfl rfl rfl rfl ?_; intro f h
                    refine w_off (b := true) h rfl rfl rfl rfl ?_; intro f h
                    refine w_pure h (ru_pick_f (h.ev rfl) (h.ev rfl)) rfl ?_; intro f h
                    refine w_pure h (ru_move (h.ev rfl)) rfl ?_; intro f h
                    refine w_on h rfl rfl rfl ?_
                    refine w_pure h (ru_field fld46_2 (h.ev rfl)) rfl ?_; intro f h
                    refine w_on h rfl rfl rfl ?_
                    refine w_load_at1 (V := vs) (cell_of_has (Has.of_own s 0 rfl) 66 (ndArr_sc _ _ _ _)) h one40 rfl rfl ?_; intro f h
                    refine w_on h rfl rfl rfl ?_
                    refine w_pure h (ru_field fld46_0 (h.ev rfl)) rfl ?_; intro f h
                    refine w_on h rfl rfl rfl ?_
                    refine w_pure h (ru_field fld30_0 (h.ev rfl)) rfl ?_; intro f h
                    refine w_on h rfl rfl rfl ?_
                    refine w_load_at1 (cell_of_has (Has.of_own s 0 rfl) 0 (ndArr_no _ _ _ _)) h one3 rfl rfl ?_; intro f h
                    refine w_on h rfl rfl rfl ?_
                    refine w_call h fnc50 (fun w9 hE9 => unlike_any n.sc vs n.me.1 w9 (hRs.keep (s.ext.trans hE9)) hns) rfl rfl ?_; intro f h
                    refine w_pure h (ru_pick_f (h.ev rfl) (h.ev rfl)) rfl ?_; intro f h
                    refine w_pure h (ru_assign (h.ev rfl)) rfl ?_; intro f h
                    refine w_nil s fun w1 s => ?_
                    refine s_nil ?_
                    refine hK9 _ _ ?_
                    refine wpIn_ret ?_
                    exact e_tmp rfl h s rfl (by show _ = _; rw [right_5 h0 (pre_y p0 p1 p2) (fin_f2 f0 f1), suc_o s0 s1 (by rintro ⟨h9, h8⟩; exact absurd h9 (of_decide_eq_false t0))])
                  · skip
                    cases t1 : (decide (n.sc.getD 0 zMb = n.me) : Bool)
                    · skip
                      refine c_walkN 22 [[], [0], [0, 1], [0, 1, 2], [0, 1, 2, 3], [0, 1, 2, 3, 4], [0, 1, 2, 3, 4, 5], [0, 1, 2, 3, 4, 5, 6], [0, 1, 2, 3, 4, 5, 6, 7], [0, 1, 2, 3, 4], [0, 1, 2, 3, 4, 9], [0, 1, 2, 3, 4, 5, 6, 7, 8, 9, 10], [0, 1, 2, 3, 4, 5, 6, 7, 8, 9, 10, 11], [0, 1, 2, 3, 4, 5, 6, 7, 8, 9, 10, 11, 12], [0, 1, 2, 3, 4, 5, 6, 7, 8, 9, 10, 11, 12, 13], [0, 1, 2, 3, 4, 5, 6, 7, 8, 9, 10, 11, 12, 13, 14], [0, 1, 2, 3, 4, 5, 6, 7, 8, 9, 10, 11, 12, 13], [0, 1, 2, 3, 4, 5, 6, 7, 8, 9, 10, 11, 12, 13, 16], [0, 1, 2, 3, 4, 5, 6, 7, 8, 9, 10, 11, 12, 13, 16, 17], [0, 1, 2, 3, 4, 5, 6, 7, 8, 9, 10, 11, 12, 13, 14, 15, 16, 17, 18], [0, 1, 2, 3, 4, 5, 6, 7, 8, 9, 10, 11, 12, 13, 14, 15, 16, 17, 18, 19], [0, 1, 2, 3, 4, 5, 6, 7, 8, 9, 10, 11, 12, 13, 14, 15, 16, 17, 18, 19, 20]] h (by kernel_rfl) (by kernel_rfl) (by kernel_rfl) ?_
                      refine w_pure h (ru_field fld46_2 (h.ev rfl)) rfl ?_; intro f h
                      refine w_load_at1 (V := vs) (cell_of_has (Has.of_own s 0 rfl) 66 (ndArr_sc _ _ _ _)) h one40 rfl rfl ?_; intro f h
                      refine w_pure h (ru_lenZ (hRs.keep s.ext) Try.underlying40 (h.ev rfl)) rfl ?_; intro f h
                      refine w_pure h (ru_val (.bool true) (ru_eql (h.ev rfl) (h.ev rfl)) (congrArg Value.bool (decide_eq_true (by have := of_decide_eq_true t0; omega)))) rfl ?_; intro f h
                      refine w_pure h (ru_move (h.ev rfl)) rfl ?_; intro f h
                      refine w_on h rfl rfl rfl ?_
                      refine w_pure h (ru_field fld46_2 (h.ev rfl)) rfl ?_; intro f h
                      refine w_on h rfl rfl rfl ?_
                      refine w_load_at1 (V := vs) (cell_of_has (Has.of_own s 0 rfl) 66 (ndArr_sc _ _ _ _)) h one40 rfl rfl ?_; intro f h
                      refine w_on h rfl rfl rfl ?_
                      have h19 := of_decide_eq_true t0
                      refine w_pure h (ru_ixz (hRs.keep s.ext) (0) Try.underlying40 szo30 (h.ev rfl) (h.ev rfl) (by omega) (by omega)) rfl ?_; intro f h
                      refine w_on h rfl rfl rfl ?_
                      refine w_load_at ((hRs.keep s.ext).el (0) (by omega) (by decide) (D := mbArr (n.sc.getD 0 zMb)) (mb_elD n.sc 0 (by omega))) h row30 rfl (mbArr_size _) rfl ?_; intro f h
                      refine w_on h rfl rfl rfl ?_
                      refine w_pure h (ru_field fld46_0 (h.ev rfl)) rfl ?_; intro f h
                      refine w_on h rfl rfl rfl ?_
                      refine w_load_at (Has.subL (Has.of_own s 0 rfl) 0 33 (D := mbArr n.me) (ndArr_me _ _ _ _)) h row30 rfl (mbArr_size _) rfl ?_; intro f h
                      refine w_on h rfl rfl rfl ?_
                      refine w_pure h (ru_val (.bool false) (ru_eqlW (eqM _ _) (by kernel_rfl) (by decide) (h.ev rfl) (h.ev rfl) (decide (n.sc.getD 0 zMb = n.me)) (mbEq _ _)) (congrArg Value.bool t1)) rfl ?_; intro f h
                      refine w_pure h (ru_pick_t (h.ev rfl) (h.ev rfl)) rfl ?_; intro f h
                      refine w_pure h (ru_move (h.ev rfl)) rfl ?_; intro f h
                      refine w_on h rfl rfl rfl ?_
                      refine w_pure h (ru_field fld46_2 (h.ev rfl)) rfl ?_; intro f h
                      refine w_on h rfl rfl rfl ?_
                      refine w_load_at1 (V := vs) (cell_of_has (Has.of_own s 0 rfl) 66 (ndArr_sc _ _ _ _)) h one40 rfl rfl ?_; intro f h
                      refine w_on h rfl rfl rfl ?_
                      refine w_pure h (ru_field fld46_0 (h.ev rfl)) rfl ?_; intro f h
                      refine w_on h rfl rfl rfl ?_
                      refine w_pure h (ru_field fld30_0 (h.ev rfl)) rfl ?_; intro f h
                      refine w_on h rfl rfl rfl ?_
                      refine w_load_at1 (cell_of_has (Has.of_own s 0 rfl) 0 (ndArr_no _ _ _ _)) h one3 rfl rfl ?_; intro f h
                      refine w_on h rfl rfl rfl ?_
                      refine w_call h fnc50 (fun w9 hE9 => unlike_any n.sc vs n.me.1 w9 (hRs.keep (s.ext.trans hE9)) hns) rfl rfl ?_; intro f h
                      refine w_pure h (ru_pick_f (h.ev rfl) (h.ev rfl)) rfl ?_; intro f h
                      refine w_pure h (ru_assign (h.ev rfl)) rfl ?_; intro f h
                      refine w_nil s fun w1 s => ?_
                      refine s_nil ?_
                      refine hK9 _ _ ?_
                      refine wpIn_ret ?_
                      exact e_tmp rfl h s rfl (by show _ = _; rw [right_5 h0 (pre_y p0 p1 p2) (fin_f2 f0 f1), suc_o s0 s1 (by rintro ⟨h9, h8⟩; exact absurd h8 (of_decide_eq_false t1))])
                    · skip
                      refine c_walkN 22 [[], [0], [0, 1], [0, 1, 2], [0, 1, 2, 3], [0, 1, 2, 3, 4], [0, 1, 2, 3, 4, 5], [0, 1, 2, 3, 4, 5, 6], [0, 1, 2, 3, 4, 5, 6, 7], [0, 1, 2, 3, 4], [0, 1, 2, 3, 4, 9], [0, 1, 2, 3, 4, 5, 6, 7, 8, 9, 10], [0, 1, 2, 3, 4, 5, 6, 7, 8, 9, 10, 11], [0, 1, 2, 3, 4, 5, 6, 7, 8, 9, 10, 11, 12], [0, 1, 2, 3, 4, 5, 6, 7, 8, 9, 10, 11, 12, 13], [0, 1, 2, 3, 4, 5, 6, 7, 8, 9, 10, 11, 12, 13, 14], [0, 1, 2, 3, 4, 5, 6, 7, 8, 9, 10, 11, 12, 13], [0, 1, 2, 3, 4, 5, 6, 7, 8, 9, 10, 11, 12, 13, 16], [0, 1, 2, 3, 4, 5, 6, 7, 8, 9, 10, 11, 12, 13, 16, 17], [0, 1, 2, 3, 4, 5, 6, 7, 8, 9, 10, 11, 12, 13, 14, 15, 16, 17, 18], [0, 1, 2, 3, 4, 5, 6, 7, 8, 9, 10, 11, 12, 13, 14, 15, 16, 17, 18, 19], [0, 1, 2, 3, 4, 5, 6, 7, 8, 9, 10, 11, 12, 13, 14, 15, 16, 17, 18, 19, 20]] h (by kernel_rfl) (by kernel_rfl) (by kernel_rfl) ?_
                      refine w_pure h (ru_field fld46_2 (h.ev rfl)) rfl ?_; intro f h
                      refine w_load_at1 (V := vs) (cell_of_has (Has.of_own s 0 rfl) 66 (ndArr_sc _ _ _ _)) h one40 rfl rfl ?_; intro f h
                      refine w_pure h (ru_lenZ (hRs.keep s.ext) Try.underlying40 (h.ev rfl)) rfl ?_; intro f h
                      refine w_pure h (ru_val (.bool true) (ru_eql (h.ev rfl) (h.ev rfl)) (congrArg Value.bool (decide_eq_true (by have := of_decide_eq_true t0; omega)))) rfl ?_; intro f h
                      refine w_pure h (ru_move (h.ev rfl)) rfl ?_; intro f h
                      refine w_on h rfl rfl rfl ?_
                      refine w_pure h (ru_field fld46_2 (h.ev rfl)) rfl ?_; intro f h
                      refine w_on h rfl rfl rfl ?_
                      refine w_load_at1 (V := vs) (cell_of_has (Has.of_own s 0 rfl) 66 (ndArr_sc _ _ _ _)) h one40 rfl rfl ?_; intro f h
                      refine w_on h rfl rfl rfl ?_
                      have h19 := of_decide_eq_true t0
                      refine w_pure h (ru_ixz (hRs.keep s.ext) (0) Try.underlying40 szo30 (h.ev rfl) (h.ev rfl) (by omega) (by omega)) rfl ?_; intro f h
                      refine w_on h rfl rfl rfl ?_
                      refine w_load_at ((hRs.keep s.ext).el (0) (by omega) (by decide) (D := mbArr (n.sc.getD 0 zMb)) (mb_elD n.sc 0 (by omega))) h row30 rfl (mbArr_size _) rfl ?_; intro f h
                      refine w_on h rfl rfl rfl ?_
                      refine w_pure h (ru_field fld46_0 (h.ev rfl)) rfl ?_; intro f h
                      refine w_on h rfl rfl rfl ?_
                      refine w_load_at (Has.subL (Has.of_own s 0 rfl) 0 33 (D := mbArr n.me) (ndArr_me _ _ _ _)) h row30 rfl (mbArr_size _) rfl ?_; intro f h
                      refine w_on h rfl rfl rfl ?_
                      refine w_pure h (ru_val (.bool true) (ru_eqlW (eqM _ _) (by kernel_rfl) (by decide) (h.ev rfl) (h.ev rfl) (decide (n.sc.getD 0 zMb = n.me)) (mbEq _ _)) (congrArg Value.bool t1)) rfl ?_; intro f h
                      refine w_pure h (ru_pick_t (h.ev rfl) (h.ev rfl)) rfl ?_; intro f h
                      refine w_pure h (ru_move (h.ev rfl)) rfl ?_; intro f h
                      refine w_off (b := false) h rfl rfl rfl rfl ?_; intro f h
                      refine w_off (b := false) h rfl rfl rfl rfl ?_; intro f h
                      refine w_off (b := false) h rfl rfl rfl rfl ?_; intro f h
                      refine w_off (b := false) h rfl rfl rfl rfl ?_; intro f h
                      refine w_off (b := false) h rfl rfl rfl rfl ?_; intro f h
                      refine w_off (b := false) h rfl rfl rfl rfl ?_; intro f h
                      refine w_pure h (ru_pick_t (h.ev rfl) (h.ev rfl)) rfl ?_; intro f h
                      refine w_pure h (ru_assign (h.ev rfl)) rfl ?_; intro f h
                      refine w_nil s fun w1 s => ?_
                      refine s_nil ?_
                      refine hK9 _ _ ?_
                      refine wpIn_ret ?_
                      exact e_tmp rfl h s rfl (by show _ = _; rw [right_5 h0 (pre_y p0 p1 p2) (fin_f2 f0 f1), suc_y t0 t1])
              · skip
                refine c_region ?_
                refine s_pure h (ru_field fld46_2 (h.ev rfl)) rfl ?_; intro f h
                refine s_load_at1 (V := vs) (cell_of_has (Has.of_own s 0 rfl) 66 (ndArr_sc _ _ _ _)) h one40 rfl rfl ?_; intro f h
                refine s_pure h (ru_lenZ (hRs.keep s.ext) Try.underlying40 (h.ev rfl)) rfl ?_; intro f h
                refine s_pure h (ru_val (.bool false) (ru_lss (h.ev rfl) (h.ev rfl)) (congrArg Value.bool (decide_eq_false (by have := of_decide_eq_false s0; omega)))) rfl ?_; intro f h
                refine s_pure h (ru_move (h.ev rfl)) rfl ?_; intro f h
                refine s_on h rfl rfl rfl ?_
                refine s_pure h (ru_field fld46_2 (h.ev rfl)) rfl ?_; intro f h
                refine s_on h rfl rfl rfl ?_
                refine s_load_at1 (V := vs) (cell_of_has (Has.of_own s 0 rfl) 66 (ndArr_sc _ _ _ _)) h one40 rfl rfl ?_; intro f h
                refine s_on h rfl rfl rfl ?_
                refine s_pure h (ru_lenZ (hRs.keep s.ext) Try.underlying40 (h.ev rfl)) rfl ?_; intro f h
                refine s_on h rfl rfl rfl ?_
                refine s_pure h (ru_val (.bool false) (ru_gtr (h.ev rfl) (h.ev rfl)) (congrArg Value.bool (decide_eq_false (by have := of_decide_eq_false s1; omega)))) rfl ?_; intro f h
                refine s_pure h (ru_pick_f (h.ev rfl) (h.ev rfl)) rfl ?_; intro f h
                refine s_pure h (ru_move (h.ev rfl)) rfl ?_; intro f h
                refine s_on h rfl rfl rfl ?_
                refine s_pure h (ru_field fld46_3 (h.ev rfl)) rfl ?_; intro f h
                refine s_on h rfl rfl rfl ?_
                refine s_load_at1 (V := vf) (cell_of_has (Has.of_own s 0 rfl) 67 (ndArr_fg _ _ _ _)) h one40 rfl rfl ?_; intro f h
                refine s_on h rfl rfl rfl ?_
                refine s_pure h (ru_lenZ (hRf.keep s.ext) Try.underlying40 (h.ev rfl)) rfl ?_; intro f h
                refine s_on h rfl rfl rfl ?_
                refine s_pure h (ru_val (.bool true) (ru_gtr (h.ev rfl) (h.ev rfl)) (congrArg Value.bool (decide_eq_true (by have := of_decide_eq_true f0; omega)))) rfl ?_; intro f h
                refine s_pure h (ru_pick_f (h.ev rfl) (h.ev rfl)) rfl ?_; intro f h
                refine s_pure h (ru_move (h.ev rfl)) rfl ?_; intro f h
                refine s_off (b := false) h rfl rfl rfl rfl ?_; intro f h
                refine s_off (b := false) h rfl rfl rfl rfl ?_; intro f h
                refine s_off (b := false) h rfl rfl rfl rfl ?_; intro f h
                refine s_off (b := false) h rfl rfl rfl rfl ?_; intro f h
                refine s_off (b := false) h rfl rfl rfl rfl ?_; intro f h
                refine s_off (b := false) h rfl rfl rfl rfl ?_; intro f h
                refine s_off (b := false) h rfl rfl rfl rfl ?_; intro f h
                refine s_pure h (ru_pick_t (h.ev rfl) (h.ev rfl)) rfl ?_; intro f h
                refine s_nil ?_
                refine hK7 _ _ ?_
                refine wpIn_cond_true (h.ev rfl) ?_
                refine c_seq fun K10 hK10 => ?_
                refine c_region ?_
                refine s_pure h (ru_assign (h.ev rfl)) rfl ?_; intro f h
                refine s_nil ?_
                refine hK10 _ _ ?_
                refine wpIn_ret ?_
                refine t_ret ?_
                exact e_tmp rfl h s rfl (by show _ = _; rw [right_4 (fin_f0 f0)])
            · skip
              refine c_region ?_
              refine s_pure h (ru_field fld46_2 (h.ev rfl)) rfl ?_; intro f h
              refine s_load_at1 (V := vs) (cell_of_has (Has.of_own s 0 rfl) 66 (ndArr_sc _ _ _ _)) h one40 rfl rfl ?_; intro f h
              refine s_pure h (ru_lenZ (hRs.keep s.ext) Try.underlying40 (h.ev rfl)) rfl ?_; intro f h
              refine s_pure h (ru_val (.bool false) (ru_lss (h.ev rfl) (h.ev rfl)) (congrArg Value.bool (decide_eq_false (by have := of_decide_eq_false s0; omega)))) rfl ?_; intro f h
              refine s_pure h (ru_move (h.ev rfl)) rfl ?_; intro f h
              refine s_on h rfl rfl rfl ?_
              refine s_pure h (ru_field fld46_2 (h.ev rfl)) rfl ?_; intro f h
              refine s_on h rfl rfl rfl ?_
              refine s_load_at1 (V := vs) (cell_of_has (Has.of_own s 0 rfl) 66 (ndArr_sc _ _ _ _)) h one40 rfl rfl ?_; intro f h
              refine s_on h rfl rfl rfl ?_
              refine s_pure h (ru_lenZ (hRs.keep s.ext) Try.underlying40 (h.ev rfl)) rfl ?_; intro f h
              refine s_on h rfl rfl rfl ?_
              refine s_pure h (ru_val (.bool true) (ru_gtr (h.ev rfl) (h.ev rfl)) (congrArg Value.bool (decide_eq_true (by have := of_decide_eq_true s1; omega)))) rfl ?_; intro f h
              refine s_pure h (ru_pick_f (h.ev rfl) (h.ev rfl)) rfl ?_; intro f h
              refine s_pure h (ru_move (h.ev rfl)) rfl ?_; intro f h
              refine s_off (b := false) h rfl rfl rfl rfl ?_; intro f h
              refine s_off (b := false) h rfl rfl rfl rfl ?_; intro f h
              refine s_off (b := false) h rfl rfl rfl rfl ?_; intro f h
              refine s_off (b := false) h rfl rfl rfl rfl ?_; intro f h
              refine s_pure h (ru_pick_t (h.ev rfl) (h.ev rfl)) rfl ?_; intro f h
              refine s_pure h (ru_move (h.ev rfl)) rfl ?_; intro f h
              refine s_off (b := false) h rfl rfl rfl rfl ?_; intro f h
              refine s_off (b := false) h rfl rfl rfl rfl ?_; intro f h
              refine s_off (b := false) h rfl rfl rfl rfl ?_; intro f h
              refine s_off (b := false) h rfl rfl rfl rfl ?_; intro f h
              refine s_off (b := false) h rfl rfl rfl rfl ?_; intro f h
              refine s_off (b := false) h rfl rfl rfl rfl ?_; intro f h
              refine s_off (b := false) h rfl rfl rfl rfl ?_; intro f h
              refine s_pure h (ru_pick_t (h.ev rfl) (h.ev rfl)) rfl ?_; intro f h
              refine s_nil ?_
              refine hK7 _ _ ?_
              refine wpIn_cond_true (h.ev rfl) ?_
              refine c_seq fun K11 hK11 => ?_
              refine c_region ?_
              refine s_pure h (ru_assign (h.ev rfl)) rfl ?_; intro f h
              refine s_nil ?_
              refine hK11 _ _ ?_
              refine wpIn_ret ?_
              refine t_ret ?_
              exact e_tmp rfl h s rfl (by show _ = _; rw [right_2 (suc_s1 s1)])
          · skip
            refine c_region ?_
            refine s_pure h (ru_field fld46_2 (h.ev rfl)) rfl ?_; intro f h
            refine s_load_at1 (V := vs) (cell_of_has (Has.of_own s 0 rfl) 66 (ndArr_sc _ _ _ _)) h one40 rfl rfl ?_; intro f h
            refine s_pure h (ru_lenZ (hRs.keep s.ext) Try.underlying40 (h.ev rfl)) rfl ?_; intro f h
            refine s_pure h (ru_val (.bool true) (ru_lss (h.ev rfl) (h.ev rfl)) (congrArg Value.bool (decide_eq_true (by have := of_decide_eq_true s0; omega)))) rfl ?_; intro f h
            refine s_pure h (ru_move (h.ev rfl)) rfl ?_; intro f h
            refine s_off (b := false) h rfl rfl rfl rfl ?_; intro f h
            refine s_off (b := false) h rfl rfl rfl rfl ?_; intro f h
            refine s_off (b := false) h rfl rfl rfl rfl ?_; intro f h
            refine s_off (b := false) h rfl rfl rfl rfl ?_; intro f h
            refine s_pure h (ru_pick_t (h.ev rfl) (h.ev rfl)) rfl ?_; intro f h
            refine s_pure h (ru_move (h.ev rfl)) rfl ?_; intro f h
            refine s_off (b := false) h rfl rfl rfl rfl ?_; intro f h
            refine s_off (b := false) h rfl rfl rfl rfl ?_; intro f h
            refine s_off (b := false) h rfl rfl rfl rfl ?_; intro f h
            refine s_off (b := false) h rfl rfl rfl rfl ?_; intro f h
            refine s_pure h (ru_pick_t (h.ev rfl) (h.ev rfl)) rfl ?_; intro f h
            refine s_pure h (ru_move (h.ev rfl)) rfl ?_; intro f h
            refine s_off (b := false) h rfl rfl rfl rfl ?_; intro f h
            refine s_off (b := false) h rfl rfl rfl rfl ?_; intro f h
            refine s_off (b := false) h rfl rfl rfl rfl ?_; intro f h
            refine s_off (b := false) h rfl rfl rfl rfl ?_; intro f h
            refine s_off (b := false) h rfl rfl rfl rfl ?_; intro f h
            refine s_off (b := false) h rfl rfl rfl rfl ?_; intro f h
            refine s_off (b := false) h rfl rfl rfl rfl ?_; intro f h
            refine s_pure h (ru_pick_t (h.ev rfl) (h.ev rfl)) rfl ?_; intro f h
            refine s_nil ?_
            refine hK7 _ _ ?_
            refine wpIn_cond_true (h.ev rfl) ?_
            refine c_seq fun K12 hK12 => ?_
            refine c_region ?_
            refine s_pure h (ru_assign (h.ev rfl)) rfl ?_; intro f h
            refine s_nil ?_
            refine hK12 _ _ ?_
            refine wpIn_ret ?_
            refine t_ret ?_
            exact e_tmp rfl h s rfl (by show _ = _; rw [right_2 (suc_s0 s0)])
        · skip
          refine c_region ?_
          refine s_pure h (ru_field fld46_0 (h.ev rfl)) rfl ?_; intro f h
          refine s_load_at (Has.subL (Has.of_own s 0 rfl) 0 33 (D := mbArr n.me) (ndArr_me _ _ _ _)) h row30 rfl (mbArr_size _) rfl ?_; intro f h
          refine s_call h s fnc48 (ret_val (.bool true) (rmay_any n.me _) (congrArg Value.bool h0)) rfl rfl ?_; intro f w1 v9 hT hE h s; obtain rfl := hT
          refine s_pure h (ru_val (.bool false) (ru_not (h.ev rfl)) rfl) rfl ?_; intro f h
          refine s_pure h (ru_move (h.ev rfl)) rfl ?_; intro f h
          refine s_on h rfl rfl rfl ?_
          refine s_pure h (ru_field fld46_1 (h.ev rfl)) rfl ?_; intro f h
          refine s_on h rfl rfl rfl ?_
          refine s_load_at (Has.subL (Has.of_own s 0 rfl) 33 33 (D := mbArr n.pr) (ndArr_pr _ _ _ _)) h row30 rfl (mbArr_size _) rfl ?_; intro f h
          refine s_on h rfl rfl rfl ?_
          refine s_call h s fnc49 (ret_val (.bool false) (rnone_any n.pr _) (congrArg Value.bool p0)) rfl rfl ?_; intro f w1 v9 hT hE h s; obtain rfl := hT
          refine s_on h rfl rfl rfl ?_
          refine s_pure h (ru_val (.bool true) (ru_not (h.ev rfl)) rfl) rfl ?_; intro f h
          refine s_on h rfl rfl rfl ?_
          refine s_pure h (ru_move (h.ev rfl)) rfl ?_; intro f h
          refine s_on h rfl rfl rfl ?_
          refine s_pure h (ru_field fld46_1 (h.ev rfl)) rfl ?_; intro f h
          refine s_on h rfl rfl rfl ?_
          refine s_load_at (Has.subL (Has.of_own s 0 rfl) 33 33 (D := mbArr n.pr) (ndArr_pr _ _ _ _)) h row30 rfl (mbArr_size _) rfl ?_; intro f h
          refine s_on h rfl rfl rfl ?_
          refine s_call h s fnc48 (ret_val (.bool true) (rmay_any n.pr _) (congrArg Value.bool p1)) rfl rfl ?_; intro f w1 v9 hT hE h s; obtain rfl := hT
          refine s_on h rfl rfl rfl ?_
          refine s_pure h (ru_val (.bool false) (ru_not (h.ev rfl)) rfl) rfl ?_; intro f h
          refine s_on h rfl rfl rfl ?_
          refine s_pure h (ru_move (h.ev rfl)) rfl ?_; intro f h
          refine s_on h rfl rfl rfl ?_
          refine s_pure h (ru_field fld46_1 (h.ev rfl)) rfl ?_; intro f h
          refine s_on h rfl rfl rfl ?_
          refine s_pure h (ru_field fld30_0 (h.ev rfl)) rfl ?_; intro f h
          refine s_on h rfl rfl rfl ?_
          refine s_load_at1 (cell_of_has (Has.of_own s 0 rfl) 33 (ndArr_pno _ _ _ _)) h one3 rfl rfl ?_; intro f h
          refine s_on h rfl rfl rfl ?_
          refine s_pure h (ru_field fld46_0 (h.ev rfl)) rfl ?_; intro f h
          refine s_on h rfl rfl rfl ?_
          refine s_pure h (ru_field fld30_0 (h.ev rfl)) rfl ?_; intro f h
          refine s_on h rfl rfl rfl ?_
          refine s_load_at1 (cell_of_has (Has.of_own s 0 rfl) 0 (ndArr_no _ _ _ _)) h one3 rfl rfl ?_; intro f h
          refine s_on h rfl rfl rfl ?_
          refine s_pure h (ru_val (.bool true) (ru_eql (h.ev rfl) (h.ev rfl)) (congrArg Value.bool p2)) rfl ?_; intro f h
          refine s_on h rfl rfl rfl ?_
          refine s_pure h (ru_pick_f (h.ev rfl) (h.ev rfl)) rfl ?_; intro f h
          refine s_on h rfl rfl rfl ?_
          refine s_pure h (ru_pick_t (h.ev rfl) (h.ev rfl)) rfl ?_; intro f h
          refine s_pure h (ru_pick_f (h.ev rfl) (h.ev rfl)) rfl ?_; intro f h
          refine s_nil ?_
          refine hK3 _ _ ?_
          refine wpIn_cond_true (h.ev rfl) ?_
          refine c_seq fun K13 hK13 => ?_
          refine c_region ?_
          refine s_pure h (ru_assign (h.ev rfl)) rfl ?_; intro f h
          refine s_nil ?_
          refine hK13 _ _ ?_
          refine wpIn_ret ?_
          refine t_ret ?_
          exact e_tmp rfl h s rfl (by show _ = _; rw [right_1 (pre_n p0 p1 p2)])
    · skip
      refine c_region ?_
      refine s_pure h (ru_field fld46_0 (h.ev rfl)) rfl ?_; intro f h
      refine s_load_at (Has.subL (Has.of_own s 0 rfl) 0 33 (D := mbArr n.me) (ndArr_me _ _ _ _)) h row30 rfl (mbArr_size _) rfl ?_; intro f h
      refine s_call h s fnc48 (ret_val (.bool true) (rmay_any n.me _) (congrArg Value.bool h0)) rfl rfl ?_; intro f w1 v9 hT hE h s; obtain rfl := hT
      refine s_pure h (ru_val (.bool false) (ru_not (h.ev rfl)) rfl) rfl ?_; intro f h
      refine s_pure h (ru_move (h.ev rfl)) rfl ?_; intro f h
      refine s_on h rfl rfl rfl ?_
      refine s_pure h (ru_field fld46_1 (h.ev rfl)) rfl ?_; intro f h
      refine s_on h rfl rfl rfl ?_
      refine s_load_at (Has.subL (Has.of_own s 0 rfl) 33 33 (D := mbArr n.pr) (ndArr_pr _ _ _ _)) h row30 rfl (mbArr_size _) rfl ?_; intro f h
      refine s_on h rfl rfl rfl ?_
      refine s_call h s fnc49 (ret_val (.bool true) (rnone_any n.pr _) (congrArg Value.bool p0)) rfl rfl ?_; intro f w1 v9 hT hE h s; obtain rfl := hT
      refine s_on h rfl rfl rfl ?_
      refine s_pure h (ru_val (.bool false) (ru_not (h.ev rfl)) rfl) rfl ?_; intro f h
      refine s_on h rfl rfl rfl ?_
      refine s_pure h (ru_move (h.ev rfl)) rfl ?_; intro f h
      refine s_off (b := true) h rfl rfl rfl rfl ?_; intro f h
      refine s_off (b := true) h rfl rfl rfl rfl ?_; intro f h
      refine s_off (b := true) h rfl rfl rfl rfl ?_; intro f h
      refine s_off (b := true) h rfl rfl rfl rfl ?_; intro f h
      refine s_off (b := true) h rfl rfl rfl rfl ?_; intro f h
      refine s_none h rfl rfl rfl rfl ?_; intro f h
      refine s_none h rfl rfl rfl rfl ?_; intro f h
      refine s_none h rfl rfl rfl rfl ?_; intro f h
      refine s_none h rfl rfl rfl rfl ?_; intro f h
      refine s_none h rfl rfl rfl rfl ?_; intro f h
      refine s_none h rfl rfl rfl rfl ?_; intro f h
      refine s_none h rfl rfl rfl rfl ?_; intro f h
      refine s_off (b := true) h rfl rfl rfl rfl ?_; intro f h
      refine s_on h rfl rfl rfl ?_
      refine s_pure h (ru_pick_f (h.ev rfl) (h.ev rfl)) rfl ?_; intro f h
      refine s_pure h (ru_pick_f (h.ev rfl) (h.ev rfl)) rfl ?_; intro f h
      refine s_nil ?_
      refine hK3 _ _ ?_
      refine wpIn_cond_false (h.ev rfl) ?_
      refine wpIn_skip ?_
      refine hK2 _ _ ?_
      refine c_seq fun K14 hK14 => ?_
      refine c_seq fun K15 hK15 => ?_
      cases s0 : (decide (n.sc.length < 1) : Bool)
      · skip
        cases s1 : (decide (4 < n.sc.length) : Bool)
        · skip
          cases f0 : (decide (16 < n.fg.length) : Bool)
          · skip
            cases f1 : (othL n.fg n.me.1 : Bool)
            · skip
              refine c_region ?_
              refine s_pure h (ru_field fld46_2 (h.ev rfl)) rfl ?_; intro f h
              refine s_load_at1 (V := vs) (cell_of_has (Has.of_own s 0 rfl) 66 (ndArr_sc _ _ _ _)) h one40 rfl rfl ?_; intro f h
              refine s_pure h (ru_lenZ (hRs.keep s.ext) Try.underlying40 (h.ev rfl)) rfl ?_; intro f h
              refine s_pure h (ru_val (.bool false) (ru_lss (h.ev rfl) (h.ev rfl)) (congrArg Value.bool (decide_eq_false (by have := of_decide_eq_false s0; omega)))) rfl ?_; intro f h
              refine s_pure h (ru_move (h.ev rfl)) rfl ?_; intro f h
              refine s_on h rfl rfl rfl ?_
              refine s_pure h (ru_field fld46_2 (h.ev rfl)) rfl ?_; intro f h
              refine s_on h rfl rfl rfl ?_
              refine s_load_at1 (V := vs) (cell_of_has (Has.of_own s 0 rfl) 66 (ndArr_sc _ _ _ _)) h one40 rfl rfl ?_; intro f h
              refine s_on h rfl rfl rfl ?_
              refine s_pure h (ru_lenZ (hRs.keep s.ext) Try.underlying40 (h.ev rfl)) rfl ?_; intro f h
              refine s_on h rfl rfl rfl ?_
              refine s_pure h (ru_val (.bool false) (ru_gtr (h.ev rfl) (h.ev rfl)) (congrArg Value.bool (decide_eq_false (by have := of_decide_eq_false s1; omega)))) rfl ?_; intro f h
              refine s_pure h (ru_pick_f (h.ev rfl) (h.ev rfl)) rfl ?_; intro f h
              refine s_pure h (ru_move (h.ev rfl)) rfl ?_; intro f h
              refine s_on h rfl rfl rfl ?_
              refine s_pure h (ru_field fld46_3 (h.ev rfl)) rfl ?_; intro f h
              refine s_on h rfl rfl rfl ?_
              refine s_load_at1 (V := vf) (cell_of_has (Has.of_own s 0 rfl) 67 (ndArr_fg _ _ _ _)) h one40 rfl rfl ?_; intro f h
              refine s_on h rfl rfl rfl ?_
              refine s_pure h (ru_lenZ (hRf.keep s.ext) Try.underlying40 (h.ev rfl)) rfl ?_; intro f h
              refine s_on h rfl rfl rfl ?_
              refine s_pure h (ru_val (.bool false) (ru_gtr (h.ev rfl) (h.ev rfl)) (congrArg Value.bool (decide_eq_false (by have := of_decide_eq_false f0; omega)))) rfl ?_; intro f h
              refine s_pure h (ru_pick_f (h.ev rfl) (h.ev rfl)) rfl ?_; intro f h
              refine s_pure h (ru_move (h.ev rfl)) rfl ?_; intro f h
              refine s_on h rfl rfl rfl ?_
              refine s_pure h (ru_field fld46_3 (h.ev rfl)) rfl ?_; intro f h
              refine s_on h rfl rfl rfl ?_
              refine s_load_at1 (V := vf) (cell_of_has (Has.of_own s 0 rfl) 67 (ndArr_fg _ _ _ _)) h one40 rfl rfl ?_; intro f h
              refine s_on h rfl rfl rfl ?_
              refine s_pure h (ru_field fld46_0 (h.ev rfl)) rfl ?_; intro f h
              refine s_on h rfl rfl rfl ?_
              refine s_pure h (ru_field fld30_0 (h.ev rfl)) rfl ?_; intro f h
              refine s_on h rfl rfl rfl ?_
              refine s_load_at1 (cell_of_has (Has.of_own s 0 rfl) 0 (ndArr_no _ _ _ _)) h one3 rfl rfl ?_; intro f h
              refine s_on h rfl rfl rfl ?_
              refine s_call h s fnc50 (ret_val (.bool false) (unlike_any n.fg vf n.me.1 _ (hRf.keep s.ext) hnf) (congrArg Value.bool f1)) rfl rfl ?_; intro f w1 v9 hT hE h s; obtain rfl := hT
              refine s_on h rfl rfl rfl ?_
              refine s_pure h (ru_val (.bool true) (ru_not (h.ev rfl)) rfl) rfl ?_; intro f h
              refine s_pure h (ru_pick_f (h.ev rfl) (h.ev rfl)) rfl ?_; intro f h
              refine s_nil ?_
              refine hK15 _ _ ?_
              refine wpIn_cond_true (h.ev rfl) ?_
              refine c_seq fun K16 hK16 => ?_
              refine c_region ?_
              refine s_pure h (ru_assign (h.ev rfl)) rfl ?_; intro f h
              refine s_nil ?_
              refine hK16 _ _ ?_
              refine wpIn_ret ?_
              refine t_ret ?_
              exact e_tmp rfl h s rfl (by show _ = _; rw [right_4 (fin_f1 f1)])
            · skip
              refine c_region ?_
              refine s_pure h (ru_field fld46_2 (h.ev rfl)) rfl ?_; intro f h
              refine s_load_at1 (V := vs) (cell_of_has (Has.of_own s 0 rfl) 66 (ndArr_sc _ _ _ _)) h one40 rfl rfl ?_; intro f h
              refine s_pure h (ru_lenZ (hRs.keep s.ext) Try.underlying40 (h.ev rfl)) rfl ?_; intro f h
              refine s_pure h (ru_val (.bool false) (ru_lss (h.ev rfl) (h.ev rfl)) (congrArg Value.bool (decide_eq_false (by have := of_decide_eq_false s0; omega)))) rfl ?_; intro f h
              refine s_pure h (ru_move (h.ev rfl)) rfl ?_; intro f h
              refine s_on h rfl rfl rfl ?_
              refine s_pure h (ru_field fld46_2 (h.ev rfl)) rfl ?_; intro f h
              refine s_on h rfl rfl rfl ?_
              refine s_load_at1 (V := vs) (cell_of_has (Has.of_own s 0 rfl) 66 (ndArr_sc _ _ _ _)) h one40 rfl rfl ?_; intro f h
              refine s_on h rfl rfl rfl ?_
              refine s_pure h (ru_lenZ (hRs.keep s.ext) Try.underlying40 (h.ev rfl)) rfl ?_; intro f h
              refine s_on h rfl rfl rfl ?_
              refine s_pure h (ru_val (.bool false) (ru_gtr (h.ev rfl) (h.ev rfl)) (congrArg Value.bool (decide_eq_false (by have := of_decide_eq_false s1; omega)))) rfl ?_; intro f h
              refine s_pure h (ru_pick_f (h.ev rfl) (h.ev rfl)) rfl ?_; intro f h
              refine s_pure h (ru_move (h.ev rfl)) rfl ?_; intro f h
              refine s_on h rfl rfl rfl ?_
              refine s_pure h (ru_field fld46_3 (h.ev rfl)) rfl ?_; intro f h
              refine s_on h rfl rfl rfl ?_
              refine s_load_at1 (V := vf) (cell_of_has (Has.of_own s 0 rfl) 67 (ndArr_fg _ _ _ _)) h one40 rfl rfl ?_; intro f h
              refine s_on h rfl rfl rfl ?_
              refine s_pure h (ru_lenZ (hRf.keep s.ext) Try.underlying40 (h.ev rfl)) rfl ?_; intro f h
              refine s_on h rfl rfl rfl ?_
              refine s_pure h (ru_val (.bool false) (ru_gtr (h.ev rfl) (h.ev rfl)) (congrArg Value.bool (decide_eq_false (by have := of_decide_eq_false f0; omega)))) rfl ?_; intro f h
              refine s_pure h (ru_pick_f (h.ev rfl) (h.ev rfl)) rfl ?_; intro f h
              refine s_pure h (ru_move (h.ev rfl)) rfl ?_; intro f h
              refine s_on h rfl rfl rfl ?_
              refine s_pure h (ru_field fld46_3 (h.ev rfl)) rfl ?_; intro f h
              refine s_on h rfl rfl rfl ?_
              refine s_load_at1 (V := vf) (cell_of_has (Has.of_own s 0 rfl) 67 (ndArr_fg _ _ _ _)) h one40 rfl rfl ?_; intro f h
              refine s_on h rfl rfl rfl ?_
              refine s_pure h (ru_field fld46_0 (h.ev rfl)) rfl ?_; intro f h
              refine s_on h rfl rfl rfl ?_
              refine s_pure h (ru_field fld30_0 (h.ev rfl)) rfl ?_; intro f h
              refine s_on h rfl rfl rfl ?_
              refine s_load_at1 (cell_of_has (Has.of_own s 0 rfl) 0 (ndArr_no _ _ _ _)) h one3 rfl rfl ?_; intro f h
              refine s_on h rfl rfl rfl ?_
              refine s_call h s fnc50 (ret_val (.bool true) (unlike_any n.fg vf n.me.1 _ (hRf.keep s.ext) hnf) (congrArg Value.bool f1)) rfl rfl ?_; intro f w1 v9 hT hE h s; obtain rfl := hT
              refine s_on h rfl rfl rfl ?_
              refine s_pure h (ru_val (.bool false) (ru_not (h.ev rfl)) rfl) rfl ?_; intro f h
              refine s_pure h (ru_pick_f (h.ev rfl) (h.ev rfl)) rfl ?_; intro f h
              refine s_nil ?_
              refine hK15 _ _ ?_
              refine wpIn_cond_false (h.ev rfl) ?_
              refine wpIn_skip ?_
              refine hK14 _ _ ?_
              refine c_seq fun K17 hK17 => ?_
              cases t0 : (decide (n.sc.length = 1) : Bool)
              · skip
                refine c_walkN 22 [[], [0], [0, 1], [0, 1, 2], [0, 1, 2, 3], [0, 1, 2, 3, 4], [0, 1, 2, 3, 4, 5], [0, 1, 2, 3, 4, 5, 6], [0, 1, 2, 3, 4, 5, 6, 7], [0, 1, 2, 3, 4], [0, 1, 2, 3, 4, 9], [0, 1, 2, 3, 4, 5, 6, 7, 8, 9, 10], [0, 1, 2, 3, 4, 5, 6, 7, 8, 9, 10, 11], [0, 1, 2, 3, 4, 5, 6, 7, 8, 9, 10, 11, 12], [0, 1, 2, 3, 4, 5, 6, 7, 8, 9, 10, 11, 12, 13], [0, 1, 2, 3, 4, 5, 6, 7, 8, 9, 10, 11, 12, 13, 14], [0, 1, 2, 3, 4, 5, 6, 7, 8, 9, 10, 11, 12, 13], [0, 1, 2, 3, 4, 5, 6, 7, 8, 9, 10, 11, 12, 13, 16], [0, 1, 2, 3, 4, 5, 6, 7, 8, 9, 10, 11, 12, 13, 16, 17], [0, 1, 2, 3, 4, 5, 6, 7, 8, 9, 10, 11, 12, 13, 14, 15, 16, 17, 18], [0, 1, 2, 3, 4, 5, 6, 7, 8, 9, 10, 11, 12, 13, 14, 15, 16, 17, 18, 19], [0, 1, 2, 3, 4, 5, 6, 7, 8, 9, 10, 11, 12, 13, 14, 15, 16, 17, 18, 19, 20]] h (by kernel_rfl) (by kernel_rfl) (by kernel_rfl) ?_
                refine w_pure h (ru_field fld46_2 (h.ev rfl)) rfl ?_; intro f h
                refine w_load_at1 (V := vs) (cell_of_has (Has.of_own s 0 rfl) 66 (ndArr_sc _ _ _ _)) h one40 rfl rfl ?_; intro f h
                refine w_pure h (ru_lenZ (hRs.keep s.ext) Try.underlying40 (h.ev rfl)) rfl ?_; intro f h
                refine w_pure h (ru_val (.bool false) (ru_eql (h.ev rfl) (h.ev rfl)) (congrArg Value.bool (decide_eq_false (by have := of_decide_eq_false t0; omega)))) rfl ?_; intro f h
                refine w_pure h (ru_move (h.ev rfl)) rfl ?_; intro f h
                refine w_off (b := true) h rfl rfl rfl rfl ?_; intro f h
                refine w_off (b := true) h rfl rfl rfl rfl ?_; intro f h
                refine w_off (b := true) h rfl rfl rfl rfl ?_; intro f h
                refine w_off (b := true) h rfl rfl rfl rfl ?_; intro f h
                refine w_off (b := true) h rfl rfl rfl rfl ?_; intro f h
                refine w_off (b := true) h rfl rfl rfl rfl ?_; intro f h
                refine w_off (b := true) h rfl rfl rfl rfl ?_; intro f h
                refine w_pure h (ru_pick_f (h.ev rfl) (h.ev rfl)) rfl ?_; intro f h
                refine w_pure h (ru_move (h.ev rfl)) rfl ?_; intro f h
                refine w_on h rfl rfl rfl ?_
                refine w_pure h (ru_field fld46_2 (h.ev rfl)) rfl ?_; intro f h
                refine w_on h rfl rfl rfl ?_
                refine w_load_at1 (V := vs) (cell_of_has (Has.of_own s 0 rfl) 66 (ndArr_sc _ _ _ _)) h one40 rfl rfl ?_; intro f h
                refine w_on h rfl rfl rfl ?_
                refine w_pure h (ru_field fld46_0 (h.ev rfl)) rfl ?_; intro f h
                refine w_on h rfl rfl rfl ?_
                refine w_pure h (ru_field fld30_0 (h.ev rfl)) rfl ?_; intro f h
                refine w_on h rfl rfl rfl ?_
                refine w_load_at1 (cell_of_has (Has.of_own s 0 rfl) 0 (ndArr_no _ _ _ _)) h one3 rfl rfl ?_; intro f h
                refine w_on h rfl rfl rfl ?_
                refine w_call h fnc50 (fun w9 hE9 => unlike_any n.sc vs n.me.1 w9 (hRs.keep (s.ext.trans hE9)) hns) rfl rfl ?_; intro f h
                refine w_pure h (ru_pick_f (h.ev rfl) (h.ev rfl)) rfl ?_; intro f h
                refine w_pure h (ru_assign (h.ev rfl)) rfl ?_; intro f h
                refine w_nil s fun w1 s => ?_
                refine s_nil ?_
                refine hK17 _ _ ?_
                refine wpIn_ret ?_
                exact e_tmp rfl h s rfl (by show _ = _; rw [right_5 h0 (pre_0 p0) (fin_f2 f0 f1), suc_o s0 s1 (by rintro ⟨h9, h8⟩; exact absurd h9 (of_decide_eq_false t0))])
              · skip
                cases t1 : (decide (n.sc.getD 0 zMb = n.me) : Bool)
                · skip
                  refine c_walkN 22 [[], [0], [0, 1], [0, 1, 2], [0, 1, 2, 3], [0, 1, 2, 3, 4], [0, 1, 2, 3, 4, 5], [0, 1, 2, 3, 4, 5, 6], [0, 1, 2, 3, 4, 5, 6, 7], [0, 1, 2, 3, 4], [0, 1, 2, 3, 4, 9], [0, 1, 2, 3, 4, 5, 6, 7, 8, 9, 10], [0, 1, 2, 3, 4, 5, 6, 7, 8, 9, 10, 11], [0, 1, 2, 3, 4, 5, 6, 7, 8, 9, 10, 11, 12], [0, 1, 2, 3, 4, 5, 6, 7, 8, 9, 10, 11, 12, 13], [0, 1, 2, 3, 4, 5, 6, 7, 8, 9, 10, 11, 12, 13, 14], [0, 1, 2, 3, 4, 5, 6, 7, 8, 9, 10, 11, 12, 13], [0, 1, 2, 3, 4, 5, 6, 7, 8, 9, 10, 11, 12, 13, 16], [0, 1, 2, 3, 4, 5, 6, 7, 8, 9, 10, 11, 12, 13, 16, 17], [0, 1, 2, 3, 4, 5, 6, 7, 8, 9, 10, 11, 12, 13, 14, 15, 16, 17, 18], [0, 1, 2, 3, 4, 5, 6, 7, 8, 9, 10, 11, 12, 13, 14, 15, 16, 17, 18, 19], [0, 1, 2, 3, 4, 5, 6, 7, 8, 9, 10, 11, 12, 13, 14, 15, 16, 17, 18, 19, 20]] h (by kernel_rfl) (by kernel_rfl) (by kernel_rfl) ?_
                  refine w_pure h (ru_field fld46_2 (h.ev rfl)) rfl ?_; intro f h
                  refine w_load_at1 (V := vs) (cell_of_has (Has.of_own s 0 rfl) 66 (ndArr_sc _ _ _ _)) h one40 rfl rfl ?_; intro f h
                  refine w_pure h (ru_lenZ (hRs.keep s.ext) Try.underlying40 (h.ev rfl)) rfl ?_; intro f h
                  refine w_pure h (ru_val (.bool true) (ru_eql (h.ev rfl) (h.ev rfl)) (congrArg Value.bool (decide_eq_true (by have := of_decide_eq_true t0; omega)))) rfl ?_; intro f h
                  refine w_pure h (ru_move (h.ev rfl)) rfl ?_; intro f h
                  refine w_on h rfl rfl rfl ?_
                  refine w_pure h (ru_field fld46_2 (h.ev rfl)) rfl ?_; intro f h
                  refine w_on h rfl rfl rfl ?_
                  refine w_load_at1 (V := vs) (cell_of_has (Has.of_own s 0 rfl) 66 (ndArr_sc _ _ _ _)) h one40 rfl rfl ?_; intro f h
                  refine w_on h rfl rfl rfl ?_
                  have h19 := of_decide_eq_true t0
                  refine w_pure h (ru_ixz (hRs.keep s.ext) (0) Try.underlying40 szo30 (h.ev rfl) (h.ev rfl) (by omega) (by omega)) rfl ?_; intro f h
                  refine w_on h rfl rfl rfl ?_
                  refine w_load_at ((hRs.keep s.ext).el (0) (by omega) (by decide) (D := mbArr (n.sc.getD 0 zMb)) (mb_elD n.sc 0 (by omega))) h row30 rfl (mbArr_size _) rfl ?_; intro f h
                  refine w_on h rfl rfl rfl ?_
                  refine w_pure h (ru_field fld46_0 (h.ev rfl)) rfl ?_; intro f h
                  refine w_on h rfl rfl rfl ?_
                  refine w_load_at (Has.subL (Has.of_own s 0 rfl) 0 33 (D := mbArr n.me) (ndArr_me _ _ _ _)) h row30 rfl (mbArr_size _) rfl ?_; intro f h
                  refine w_on h rfl rfl rfl ?_
                  refine w_pure h (ru_val (.bool false) (ru_eqlW (eqM _ _) (by kernel_rfl) (by decide) (h.ev rfl) (h.ev rfl) (decide (n.sc.getD 0 zMb = n.me)) (mbEq _ _)) (congrArg Value.bool t1)) rfl ?_; intro f h
                  refine w_pure h (ru_pick_t (h.ev rfl) (h.ev rfl)) rfl ?_; intro f h
                  refine w_pure h (ru_move (h.ev rfl)) rfl ?_; intro f h
                  refine w_on h rfl rfl rfl ?_
                  refine w_pure h (ru_field fld46_2 (h.ev rfl)) rfl ?_; intro f h
                  refine w_on h rfl rfl rfl ?_
                  refine w_load_at1 (V := vs) (cell_of_has (Has.of_own s 0 rfl) 66 (ndArr_sc _ _ _ _)) h one40 rfl rfl ?_; intro f h
                  refine w_on h rfl rfl rfl ?_
                  refine w_pure h (ru_field fld46_0 (h.ev rfl)) rfl ?_; intro f h
                  refine w_on h rfl rfl rfl ?_
                  refine w_pure h (ru_field fld30_0 (h.ev rfl)) rfl ?_; intro f h
                  refine w_on h rfl rfl rfl ?_
                  refine w_load_at1 (cell_of_has (Has.of_own s 0 rfl) 0 (ndArr_no _ _ _ _)) h one3 rfl rfl ?_; intro f h
                  refine w_on h rfl rfl rfl ?_
                  refine w_call h fnc50 (fun w9 hE9 => unlike_any n.sc vs n.me.1 w9 (hRs.keep (s.ext.trans hE9)) hns) rfl rfl ?_; intro f h
                  refine w_pure h (ru_pick_f (h.ev rfl) (h.ev rfl)) rfl ?_; intro f h
                  refine w_pure h (ru_assign (h.ev rfl)) rfl ?_; intro f h
                  refine w_nil s fun w1 s => ?_
                  refine s_nil ?_
                  refine hK17 _ _ ?_
                  refine wpIn_ret ?_
                  exact e_tmp rfl h s rfl (by show _ = _; rw [right_5 h0 (pre_0 p0) (fin_f2 f0 f1), suc_o s0 s1 (by rintro ⟨h9, h8⟩; exact absurd h8 (of_decide_eq_false t1))])
                · skip
                  refine c_walkN 22 [[], [0], [0, 1], [0, 1, 2], [0, 1, 2, 3], [0, 1, 2, 3, 4], [0, 1, 2, 3, 4, 5], [0, 1, 2, 3, 4, 5, 6], [0, 1, 2, 3, 4, 5, 6, 7], [0, 1, 2, 3, 4], [0, 1, 2, 3, 4, 9], [0, 1, 2, 3, 4, 5, 6, 7, 8, 9, 10], [0, 1, 2, 3, 4, 5, 6, 7, 8, 9, 10, 11], [0, 1, 2, 3, 4, 5, 6, 7, 8, 9, 10, 11, 12], [0, 1, 2, 3, 4, 5, 6, 7, 8, 9, 10, 11, 12, 13], [0, 1, 2, 3, 4, 5, 6, 7, 8, 9, 10, 11, 12, 13, 14], [0, 1, 2, 3, 4, 5, 6, 7, 8, 9, 10, 11, 12, 13], [0, 1, 2, 3, 4, 5, 6, 7, 8, 9, 10, 11, 12, 13, 16], [0, 1, 2, 3, 4, 5, 6, 7, 8, 9, 10, 11, 12, 13, 16, 17], [0, 1, 2, 3, 4, 5, 6, 7, 8, 9, 10, 11, 12, 13, 14, 15, 16, 17, 18], [0, 1, 2, 3, 4, 5, 6, 7, 8, 9, 10, 11, 12, 13, 14, 15, 16, 17, 18, 19], [0, 1, 2, 3, 4, 5, 6, 7, 8, 9, 10, 11, 12, 13, 14, 15, 16, 17, 18, 19, 20]] h (by kernel_rfl) (by kernel_rfl) (by kernel_rfl) ?_
                  refine w_pure h (ru_field fld46_2 (h.ev rfl)) rfl ?_; intro f h
                  refine w_load_at1 (V := vs) (cell_of_has (Has.of_own s 0 rfl) 66 (ndArr_sc _ _ _ _)) h one40 rfl rfl ?_; intro f h
                  refine w_pure h (ru_lenZ (hRs.keep s.ext) Try.underlying40 (h.ev rfl)) rfl ?_; intro f h
                  refine w_pure h (ru_val (.bool true) (ru_eql (h.ev rfl) (h.ev rfl)) (congrArg Value.bool (decide_eq_true (by have := of_decide_eq_true t0; omega)))) rfl ?_; intro f h
                  refine w_pure h (ru_move (h.ev rfl)) rfl ?_; intro f h
                  refine w_on h rfl rfl rfl ?_
                  refine w_pure h (ru_field fld46_2 (h.ev rfl)) rfl ?_; intro f h
                  refine w_on h rfl rfl rfl ?_
                  refine w_load_at1 (V := vs) (cell_of_has (Has.of_own s 0 rfl) 66 (ndArr_sc _ _ _ _)) h one40 rfl rfl ?_; intro f h
                  refine w_on h rfl rfl rfl ?_
                  have h19 := of_decide_eq_true t0
                  refine w_pure h (ru_ixz (hRs.keep s.ext) (0) Try.underlying40 szo30 (h.ev rfl) (h.ev rfl) (by omega) (by omega)) rfl ?_; intro f h
                  refine w_on h rfl rfl rfl ?_
                  refine w_load_at ((hRs.keep s.ext).el (0) (by omega) (by decide) (D := mbArr (n.sc.getD 0 zMb)) (mb_elD n.sc 0 (by omega))) h row30 rfl (mbArr_size _) rfl ?_; intro f h
                  refine w_on h rfl rfl rfl ?_
                  refine w_pure h (ru_field fld46_0 (h.ev rfl)) rfl ?_; intro f h
                  refine w_on h rfl rfl rfl ?_
                  refine w_load_at (Has.subL (Has.of_own s 0 rfl) 0 33 (D := mbArr n.me) (ndArr_me _ _ _ _)) h row30 rfl (mbArr_size _) rfl ?_; intro f h
                  refine w_on h rfl rfl rfl ?_
                  refine w_pure h (ru_val (.bool true) (ru_eqlW (eqM _ _) (by kernel_rfl) (by decide) (h.ev rfl) (h.ev rfl) (decide (n.sc.getD 0 zMb = n.me)) (mbEq _ _)) (congrArg Value.bool t1)) rfl ?_; intro f h
                  refine w_pure h (ru_pick_t (h.ev rfl) (h.ev rfl)) rfl ?_; intro f h
                  refine w_pure h (ru_move (h.ev rfl)) rfl ?_; intro f h
                  refine w_off (b := false) h rfl rfl rfl rfl ?_; intro f h
                  refine w_off (b := false) h rfl rfl rfl rfl ?_; intro f h
                  refine w_off (b := false) h rfl rfl rfl rfl ?_; intro f h
                  refine w_off (b := false) h rfl rfl rfl rfl ?_; intro f h
                  refine w_off (b := false) h rfl rfl rfl rfl ?_; intro f h
                  refine w_off (b := false) h rfl rfl rfl rfl ?_; intro f h
                  refine w_pure h (ru_pick_t (h.ev rfl) (h.ev rfl)) rfl ?_; intro f h
                  refine w_pure h (ru_assign (h.ev rfl)) rfl ?_; intro f h
                  refine w_nil s fun w1 s => ?_
                  refine s_nil ?_
                  refine hK17 _ _ ?_
                  refine wpIn_ret ?_
                  exact e_tmp rfl h s rfl (by show _ = _; rw [right_5 h0 (pre_0 p0) (fin_f2 f0 f1), suc_y t0 t1])
          · skip
            refine c_region ?_
            refine s_pure h (ru_field fld46_2 (h.ev rfl)) rfl ?_; intro f h
            refine s_load_at1 (V := vs) (cell_of_has (Has.of_own s 0 rfl) 66 (ndArr_sc _ _ _ _)) h one40 rfl rfl ?_; intro f h
            refine s_pure h (ru_lenZ (hRs.keep s.ext) Try.underlying40 (h.ev rfl)) rfl ?_; intro f h
            refine s_pure h (ru_val (.bool false) (ru_lss (h.ev rfl) (h.ev rfl)) (congrArg Value.bool (decide_eq_false (by have := of_decide_eq_false s0; omega)))) rfl ?_; intro f h
            refine s_pure h (ru_move (h.ev rfl)) rfl ?_; intro f h
            refine s_on h rfl rfl rfl ?_
            refine s_pure h (ru_field fld46_2 (h.ev rfl)) rfl ?_; intro f h
            refine s_on h rfl rfl rfl ?_
            refine s_load_at1 (V := vs) (cell_of_has (Has.of_own s 0 rfl) 66 (ndArr_sc _ _ _ _)) h one40 rfl rfl ?_; intro f h
            refine s_on h rfl rfl rfl ?_
            refine s_pure h (ru_lenZ (hRs.keep s.ext) Try.underlying40 (h.ev rfl)) rfl ?_; intro f h
            refine s_on h rfl rfl rfl ?_
            refine s_pure h (ru_val (.bool false) (ru_gtr (h.ev rfl) (h.ev rfl)) (congrArg Value.bool (decide_eq_false (by have := of_decide_eq_false s1; omega)))) rfl ?_; intro f h
            refine s_pure h (ru_pick_f (h.ev rfl) (h.ev rfl)) rfl ?_; intro f h
            refine s_pure h (ru_move (h.ev rfl)) rfl ?_; intro f h
            refine s_on h rfl rfl rfl ?_
            refine s_pure h (ru_field fld46_3 (h.ev rfl)) rfl ?_; intro f h
            refine s_on h rfl rfl rfl ?_
            refine s_load_at1 (V := vf) (cell_of_has (Has.of_own s 0 rfl) 67 (ndArr_fg _ _ _ _)) h one40 rfl rfl ?_; intro f h
            refine s_on h rfl rfl rfl ?_
            refine s_pure h (ru_lenZ (hRf.keep s.ext) Try.underlying40 (h.ev rfl)) rfl ?_; intro f h
            refine s_on h rfl rfl rfl ?_
            refine s_pure h (ru_val (.bool true) (ru_gtr (h.ev rfl) (h.ev rfl)) (congrArg Value.bool (decide_eq_true (by have := of_decide_eq_true f0; omega)))) rfl ?_; intro f h
            refine s_pure h (ru_pick_f (h.ev rfl) (h.ev rfl)) rfl ?_; intro f h
            refine s_pure h (ru_move (h.ev rfl)) rfl ?_; intro f h
            refine s_off (b := false) h rfl rfl rfl rfl ?_; intro f h
            refine s_off (b := false) h rfl rfl rfl rfl ?_; intro f h
            refine s_off (b := false) h rfl rfl rfl rfl ?_; intro f h
            refine s_off (b := false) h rfl rfl rfl rfl ?_; intro f h
            refine s_off (b := false) h rfl rfl rfl rfl ?_; intro f h
            refine s_off (b := false) h rfl rfl rfl rfl ?_; intro f h
            refine s_off (b := false) h rfl rfl rfl rfl ?_; intro f h
            refine s_pure h (ru_pick_t (h.ev rfl) (h.ev rfl)) rfl ?_; intro f h
            refine s_nil ?_
            refine hK15 _ _ ?_
            refine wpIn_cond_true (h.ev rfl) ?_
            refine c_seq fun K18 hK18 => ?_
            refine c_region ?_
            refine s_pure h (ru_assign (h.ev rfl)) rfl ?_; intro f h
            refine s_nil ?_
            refine hK18 _ _ ?_
            refine wpIn_ret ?_
            refine t_ret ?_
            exact e_tmp rfl h s rfl (by show _ = _; rw [right_4 (fin_f0 f0)])
        · skip
          refine c_region ?_
          refine s_pure h (ru_field fld46_2 (h.ev rfl)) rfl ?_; intro f h
          refine s_load_at1 (V := vs) (cell_of_has (Has.of_own s 0 rfl) 66 (ndArr_sc _ _ _ _)) h one40 rfl rfl ?_; intro f h
          refine s_pure h (ru_lenZ (hRs.keep s.ext) Try.underlying40 (h.ev rfl)) rfl ?_; intro f h
          refine s_pure h (ru_val (.bool false) (ru_lss (h.ev rfl) (h.ev rfl)) (congrArg Value.bool (decide_eq_false (by have := of_decide_eq_false s0; omega)))) rfl ?_; intro f h
          refine s_pure h (ru_move (h.ev rfl)) rfl ?_; intro f h
          refine s_on h rfl rfl rfl ?_
          refine s_pure h (ru_field fld46_2 (h.ev rfl)) rfl ?_; intro f h
          refine s_on h rfl rfl rfl ?_
          refine s_load_at1 (V := vs) (cell_of_has (Has.of_own s 0 rfl) 66 (ndArr_sc _ _ _ _)) h one40 rfl rfl ?_; intro f h
          refine s_on h rfl rfl rfl ?_
          refine s_pure h (ru_lenZ (hRs.keep s.ext) Try.underlying40 (h.ev rfl)) rfl ?_; intro f h
          refine s_on h rfl rfl rfl ?_
          refine s_pure h (ru_val (.bool true) (ru_gtr (h.ev rfl) (h.ev rfl)) (congrArg Value.bool (decide_eq_true (by have := of_decide_eq_true s1; omega)))) rfl ?_; intro f h
          refine s_pure h (ru_pick_f (h.ev rfl) (h.ev rfl)) rfl ?_; intro f h
          refine s_pure h (ru_move (h.ev rfl)) rfl ?_; intro f h
          refine s_off (b := false) h rfl rfl rfl rfl ?_; intro f h
          refine s_off (b := false) h rfl rfl rfl rfl ?_; intro f h
          refine s_off (b := false) h rfl rfl rfl rfl ?_; intro f h
          refine s_off (b := false) h rfl rfl rfl rfl ?_; intro f h
          refine s_pure h (ru_pick_t (h.ev rfl) (h.ev rfl)) rfl ?_; intro f h
          refine s_pure h (ru_move (h.ev rfl)) rfl ?_; intro f h
          refine s_off (b := false) h rfl rfl rfl rfl ?_; intro f h
          refine s_off (b := false) h rfl rfl rfl rfl ?_; intro f h
          refine s_off (b := false) h rfl rfl rfl rfl ?_; intro f h
          refine s_off (b := false) h rfl rfl rfl rfl ?_; intro f h
          refine s_off (b := false) h rfl rfl rfl rfl ?_; intro f h
          refine s_off (b := false) h rfl rfl rfl rfl ?_; intro f h
          refine s_off (b := false) h rfl rfl rfl rfl ?_; intro f h
          refine s_pure h (ru_pick_t (h.ev rfl) (h.ev rfl)) rfl ?_; intro f h
          refine s_nil ?_
          refine hK15 _ _ ?_
          refine wpIn_cond_true (h.ev rfl) ?_
          refine c_seq fun K19 hK19 => ?_
          refine c_region ?_
          refine s_pure h (ru_assign (h.ev rfl)) rfl ?_; intro f h
          refine s_nil ?_
          refine hK19 _ _ ?_
          refine wpIn_ret ?_
          refine t_ret ?_
          exact e_tmp rfl h s rfl (by show _ = _; rw [right_2 (suc_s1 s1)])
      · skip
        refine c_region ?_
        refine s_pure h (ru_field fld46_2 (h.ev rfl)) rfl ?_; intro f h
        refine s_load_at1 (V := vs) (cell_of_has (Has.of_own s 0 rfl) 66 (ndArr_sc _ _ _ _)) h one40 rfl rfl ?_; intro f h
        refine s_pure h (ru_lenZ (hRs.keep s.ext) Try.underlying40 (h.ev rfl)) rfl ?_; intro f h
        refine s_pure h (ru_val (.bool true) (ru_lss (h.ev rfl) (h.ev rfl)) (congrArg Value.bool (decide_eq_true (by have := of_decide_eq_true s0; omega)))) rfl ?_; intro f h
        refine s_pure h (ru_move (h.ev rfl)) rfl ?_; intro f h
        refine s_off (b := false) h rfl rfl rfl rfl ?_; intro f h
        refine s_off (b := false) h rfl rfl rfl rfl ?_; intro f h
        refine s_off (b := false) h rfl rfl rfl rfl ?_; intro f h
        refine s_off (b := false) h rfl rfl rfl rfl ?_; intro f h
        refine s_pure h (ru_pick_t (h.ev rfl) (h.ev rfl)) rfl ?_; intro f h
        refine s_pure h (ru_move (h.ev rfl)) rfl ?_; intro f h
        refine s_off (b := false) h rfl rfl rfl rfl ?_; intro f h
        refine s_off (b := false) h rfl rfl rfl rfl ?_; intro f h
        refine s_off (b := false) h rfl rfl rfl rfl ?_; intro f h
        refine s_off (b := false) h rfl rfl rfl rfl ?_; intro f h
        refine s_pure h (ru_pick_t (h.ev rfl) (h.ev rfl)) rfl ?_; intro f h
        refine s_pure h (ru_move (h.ev rfl)) rfl ?_; intro f h
        refine s_off (b := false) h rfl rfl rfl rfl ?_; intro f h
        refine s_off (b := false) h rfl rfl rfl rfl ?_; intro f h
        refine s_off (b := false) h rfl rfl rfl rfl ?_; intro f h
        refine s_off (b := false) h rfl rfl rfl rfl ?_; intro f h
        refine s_off (b := false) h rfl rfl rfl rfl ?_; intro f h
        refine s_off (b := false) h rfl rfl rfl rfl ?_; intro f h
        refine s_off (b := false) h rfl rfl rfl rfl ?_; intro f h
        refine s_pure h (ru_pick_t (h.ev rfl) (h.ev rfl)) rfl ?_; intro f h
        refine s_nil ?_
        refine hK15 _ _ ?_
        refine wpIn_cond_true (h.ev rfl) ?_
        refine c_seq fun K20 hK20 => ?_
        refine c_region ?_
        refine s_pure h (ru_assign (h.ev rfl)) rfl ?_; intro f h
        refine s_nil ?_
        refine hK20 _ _ ?_
        refine wpIn_ret ?_
        refine t_ret ?_
        exact e_tmp rfl h s rfl (by show _ = _; rw [right_2 (suc_s0 s0)])

set_option maxHeartbeats 1000000 in
theorem oright_any (L : List N3) (vo : Value) (w : World) (hO : RdO w vo L) (hL : L.length ≤ 40) (hb : RwB L) : Calls Try.prog 9 [.agg #[vo]].toArray w (Ret w (is (.bool (ovR L)))) := by
  refine c_enter Try.func9 rfl Try.ntmps9 rfl [(0, .agg #[vo])] (by simp) fun f h => ?_
  have s := St.start w
  refine c_seq fun K1 hK1 => ?_
  refine c_region ?_
  refine s_box (#[vo]) h s rfl rfl rfl ?_; intro f w1 b1 h s
  refine s_pure h (ru_assign (h.ev rfl)) rfl ?_; intro f h
  refine s_nil ?_
  refine hK1 _ _ ?_
  refine c_seq fun K2 hK2 => ?_
  refine c_region ?_
  refine s_load_row 0 h s row24 rfl rfl (rfl) rfl ?_; intro f h
  refine s_call h s fnc22 (members_any L vo _ (hO.keep s.ext) hL) rfl rfl ?_; intro f w1 v10 hT hE h sq; replace s := s.sl_new hE hT
  refine s_pure h (ru_assign (h.ev rfl)) rfl ?_; intro f h
  refine s_nil ?_
  refine hK2 _ _ ?_
  refine c_seq fun K3 hK3 => ?_
  refine c_seq fun K4 hK4 => ?_
  refine c_region ?_
  refine s_pure h (ru_field fld24_0 (h.ev rfl)) rfl ?_; intro f h
  refine s_load_at1 (V := vo) (cell_of_has (Has.of_own s 1 rfl) 0 rfl) h one22 rfl rfl ?_; intro f h
  refine s_pure h (ru_lenZ (hO.1.keep s.ext) Try.underlying22 (h.ev rfl)) rfl ?_; intro f h
  refine s_pure h (ru_move (h.ev rfl)) rfl ?_; intro f h
  refine s_nil ?_
  refine hK4 _ _ ?_
  refine wpIn_block ?_
  refine wpIn_loop_ghost (fun nn aa ww => ∃ k : Nat, Sl 63 aa [(0, .agg #[vo]), (1, .pointer (some ⟨b1, 0, none⟩)), (10, v10), (3, v10), (12, vo), (13, .int .i64 (L.length : Int)), (14, .int .i64 (k : Int))] ∧ St w [.sl v10 30 33 (memL L).length (mbCells (memL L)), .blk b1 (.cells (#[vo]) 24)] ww ∧ nn = L.length - k ∧ k ≤ L.length ∧ ∀ j, j < k → badV L j = false) (L.length - (0)) ⟨0, h.only ⟨rfl, rfl, rfl, rfl, rfl, rfl, slot_int rfl (by omega), trivial⟩, s.as ⟨rfl, rfl, trivial⟩, rfl, Nat.zero_le _, fun j hj => absurd hj (Nat.not_lt_zero _)⟩ ?_
  rintro _ f w1 ⟨k, h, s, hnn, hp0, hp1⟩
  refine c_seq fun K5 hK5 => ?_
  refine c_region ?_
  refine s_pure h (ru_lss (h.ev rfl) (h.ev rfl)) rfl ?_; intro f h
  refine s_nil ?_
  refine hK5 _ _ ?_
  refine c_seq fun K6 hK6 => ?_
  refine c_cond h rfl (fun hc => ?_) (fun hc => ?_)
  · replace hc := of_decide_eq_true hc
    refine wpIn_skip ?_
    refine hK6 _ _ ?_
    refine c_seq fun K7 hK7 => ?_
    refine wpIn_block ?_
    refine c_seq fun K8 hK8 => ?_
    refine c_region ?_
    have hkl : k < L.length := by omega
    have hx9 := hb.each _ (n3_mem hkl)
    refine s_pure h (ru_move (h.ev rfl)) rfl ?_; intro f h
    refine s_pure h (ru_ixz (hO.1.keep s.ext) (k) Try.underlying22 szo46 (h.ev rfl) (h.ev rfl) (by omega) (by omega)) rfl ?_; intro f h
    refine s_load_at ((hO.1.keep s.ext).el (k) (by omega) (by decide) (D := ndArr (L.getD k z3).1.me (L.getD k z3).1.pr (L.getD k z3).2.1 (L.getD k z3).2.2) (n3_el L k hkl)) h row46 rfl (ndArr_size _ _ _ _) rfl ?_; intro f h
    refine s_alloc (ndArr zMb zMb nilV nilV) h s zero46 rfl rfl ?_; intro f w1 b5 h s
    refine s_pure h (ru_assign (h.ev rfl)) rfl ?_; intro f h
    refine s_store_row 0 h s row46 rfl rfl rfl (ndArr_size _ _ _ _) (ndArr_size _ _ _ _) (ndArr_ones (rd_one ((hO.2 _ (n3_mem hkl)).1.keep s.ext)) (rd_one ((hO.2 _ (n3_mem hkl)).2.keep s.ext))) ?_; intro w1 s
    refine s_nil ?_
    refine hK8 _ _ ?_
    refine c_seq fun K9 hK9 => ?_
    refine c_seq fun K10 hK10 => ?_
    cases r0 : (rightN (L.getD k z3).1 : Bool)
    · skip
      refine c_walkN 21 [[], [0], [0, 1], [0, 1, 2], [0, 1, 2, 3], [0, 1, 2, 3, 4], [0, 1, 2, 3, 4, 5], [0, 1, 2, 3, 4, 5, 6], [0, 1, 2, 3, 4, 5, 6, 7], [0, 1, 2, 3, 4, 5, 6], [0, 1, 2, 3, 4, 5, 6, 9], [0, 1, 2, 3, 4, 5, 6, 7, 8, 9, 10], [0, 1, 2, 3, 4, 5, 6, 7, 8, 9, 10, 11], [0, 1, 2, 3, 4, 5, 6, 7, 8, 9, 10, 11, 12], [0, 1, 2, 3, 4, 5, 6, 7, 8, 9, 10, 11, 12, 13], [0, 1, 2, 3, 4, 5, 6], [0, 1, 2, 3, 4, 5, 6, 15], [0, 1, 2, 3, 4, 5, 6, 15, 16], [0, 1, 2, 3, 4, 5, 6, 7, 8, 9, 10, 11, 12, 13, 14, 15, 16, 17], [0, 1, 2, 3, 4, 5, 6, 7, 8, 9, 10, 11, 12, 13, 14, 15, 16, 17, 18], [0, 1, 2, 3, 4, 5, 6, 7, 8, 9, 10, 11, 12, 13, 14, 15, 16, 17, 18, 19]] h (by kernel_rfl) (by kernel_rfl) (by kernel_rfl) ?_
      refine w_load_row 0 h s row46 rfl rfl (ndArr_size _ _ _ _) rfl ?_; intro f h
      refine w_call h fnc23 (fun w9 hE9 => ret_val (.bool false) (rnright_any (L.getD k z3).1 (L.getD k z3).2.1 (L.getD k z3).2.2 w9 ((hO.2 _ (n3_mem hkl)).1.keep (s.ext.trans hE9)) ((hO.2 _ (n3_mem hkl)).2.keep (s.ext.trans hE9)) (by omega) (by omega)) (congrArg Value.bool r0)) rfl rfl ?_; intro f h
      refine w_pure h (ru_val (.bool true) (ru_not (h.ev rfl)) rfl) rfl ?_; intro f h
      refine w_pure h (ru_move (h.ev rfl)) rfl ?_; intro f h
      refine w_off (b := false) h rfl rfl rfl rfl ?_; intro f h
      refine w_off (b := false) h rfl rfl rfl rfl ?_; intro f h
      refine w_off (b := false) h rfl rfl rfl rfl ?_; intro f h
      refine w_none h rfl rfl rfl rfl ?_; intro f h
      refine w_none h rfl rfl rfl rfl ?_; intro f h
      refine w_none h rfl rfl rfl rfl ?_; intro f h
      refine w_none h rfl rfl rfl rfl ?_; intro f h
      refine w_none h rfl rfl rfl rfl ?_; intro f h
      refine w_none h rfl rfl rfl rfl ?_; intro f h
      refine w_none h rfl rfl rfl rfl ?_; intro f h
      refine w_none h rfl rfl rfl rfl ?_; intro f h
      refine w_none h rfl rfl rfl rfl ?_; intro f h
      refine w_none h rfl rfl rfl rfl ?_; intro f h
      refine w_none h rfl rfl rfl rfl ?_; intro f h
      refine w_none h rfl rfl rfl rfl ?_; intro f h
      refine w_off (b := false) h rfl rfl rfl rfl ?_; intro f h
      refine w_pure h (ru_pick_t (h.ev rfl) (h.ev rfl)) rfl ?_; intro f h
      refine w_nil s fun w1 s => ?_
      refine s_nil ?_
      refine hK10 _ _ ?_
      refine wpIn_cond_true (h.ev rfl) ?_
      refine c_seq fun K11 hK11 => ?_
      refine c_region ?_
      refine s_pure h (ru_assign (h.ev rfl)) rfl ?_; intro f h
      refine s_nil ?_
      refine hK11 _ _ ?_
      refine wpIn_ret ?_
      refine t_ret ?_
      refine b_ret ?_
      refine t_ret ?_
      refine t_ret ?_
      refine b_ret ?_
      refine t_ret ?_
      exact e_tmp rfl h s rfl (by show _ = _; rw [rl_left hkl (bv_0 r0)])
    · skip
      cases k0 : (decide (0 < k) : Bool)
      · skip
        refine c_walkN 21 [[], [0], [0, 1], [0, 1, 2], [0, 1, 2, 3], [0, 1, 2, 3, 4], [0, 1, 2, 3, 4, 5], [0, 1, 2, 3, 4, 5, 6], [0, 1, 2, 3, 4, 5, 6, 7], [0, 1, 2, 3, 4, 5, 6], [0, 1, 2, 3, 4, 5, 6, 9], [0, 1, 2, 3, 4, 5, 6, 7, 8, 9, 10], [0, 1, 2, 3, 4, 5, 6, 7, 8, 9, 10, 11], [0, 1, 2, 3, 4, 5, 6, 7, 8, 9, 10, 11, 12], [0, 1, 2, 3, 4, 5, 6, 7, 8, 9, 10, 11, 12, 13], [0, 1, 2, 3, 4, 5, 6], [0, 1, 2, 3, 4, 5, 6, 15], [0, 1, 2, 3, 4, 5, 6, 15, 16], [0, 1, 2, 3, 4, 5, 6, 7, 8, 9, 10, 11, 12, 13, 14, 15, 16, 17], [0, 1, 2, 3, 4, 5, 6, 7, 8, 9, 10, 11, 12, 13, 14, 15, 16, 17, 18], [0, 1, 2, 3, 4, 5, 6, 7, 8, 9, 10, 11, 12, 13, 14, 15, 16, 17, 18, 19]] h (by kernel_rfl) (by kernel_rfl) (by kernel_rfl) ?_
        refine w_load_row 0 h s row46 rfl rfl (ndArr_size _ _ _ _) rfl ?_; intro f h
        refine w_call h fnc23 (fun w9 hE9 => ret_val (.bool true) (rnright_any (L.getD k z3).1 (L.getD k z3).2.1 (L.getD k z3).2.2 w9 ((hO.2 _ (n3_mem hkl)).1.keep (s.ext.trans hE9)) ((hO.2 _ (n3_mem hkl)).2.keep (s.ext.trans hE9)) (by omega) (by omega)) (congrArg Value.bool r0)) rfl rfl ?_; intro f h
        refine w_pure h (ru_val (.bool false) (ru_not (h.ev rfl)) rfl) rfl ?_; intro f h
        refine w_pure h (ru_move (h.ev rfl)) rfl ?_; intro f h
        refine w_on h rfl rfl rfl ?_
        refine w_pure h (ru_move (h.ev rfl)) rfl ?_; intro f h
        refine w_on h rfl rfl rfl ?_
        refine w_pure h (ru_val (.bool false) (ru_gtr (h.ev rfl) (h.ev rfl)) (congrArg Value.bool (decide_eq_false (by have := of_decide_eq_false k0; omega)))) rfl ?_; intro f h
        refine w_on h rfl rfl rfl ?_
        refine w_pure h (ru_move (h.ev rfl)) rfl ?_; intro f h
        refine w_off (b := true) h rfl rfl rfl rfl ?_; intro f h
        refine w_off (b := true) h rfl rfl rfl rfl ?_; intro f h
        refine w_off (b := true) h rfl rfl rfl rfl ?_; intro f h
        refine w_off (b := true) h rfl rfl rfl rfl ?_; intro f h
        refine w_off (b := true) h rfl rfl rfl rfl ?_; intro f h
        refine w_off (b := true) h rfl rfl rfl rfl ?_; intro f h
        refine w_off (b := true) h rfl rfl rfl rfl ?_; intro f h
        refine w_off (b := true) h rfl rfl rfl rfl ?_; intro f h
        refine w_off (b := true) h rfl rfl rfl rfl ?_; intro f h
        refine w_off (b := true) h rfl rfl rfl rfl ?_; intro f h
        refine w_off (b := true) h rfl rfl rfl rfl ?_; intro f h
        refine w_off (b := true) h rfl rfl rfl rfl ?_; intro f h
        refine w_on h rfl rfl rfl ?_
        refine w_pure h (ru_pick_f (h.ev rfl) (h.ev rfl)) rfl ?_; intro f h
        refine w_pure h (ru_pick_f (h.ev rfl) (h.ev rfl)) rfl ?_; intro f h
        refine w_nil s fun w1 s => ?_
        refine s_nil ?_
        refine hK10 _ _ ?_
        refine wpIn_cond_false (h.ev rfl) ?_
        refine wpIn_skip ?_
        refine hK9 _ _ ?_
        refine c_seq fun K12 hK12 => ?_
        refine c_region ?_
        have hq1 := hp1
        have hr9 := r0
        have hk9 : decide (0 < k) = false ∨ decide ((L.getD k z3).1.me.1 ≤ (L.getD (k - 1) z3).1.me.1) = false := .inl k0
        have hkl2 : (knownN (L.getD k z3).1).length ≤ 700 := by simp only [knownN, List.length_append, List.length_cons]; omega
        refine s_load_row 0 h s row46 rfl rfl (ndArr_size _ _ _ _) rfl ?_; intro f h
        refine s_call h s fnc24 (known_any (L.getD k z3).1 (L.getD k z3).2.1 (L.getD k z3).2.2 _ ((hO.2 _ (n3_mem hkl)).1.keep s.ext) ((hO.2 _ (n3_mem hkl)).2.keep s.ext) (by omega) (by omega)) rfl rfl ?_; intro f w1 v41 hT hE h sq; replace s := s.sl_new hE hT
        refine s_len_sl 0 h s Try.underlying40 rfl rfl rfl ?_; intro f h
        refine s_pure h (ru_move (h.ev rfl)) rfl ?_; intro f h
        refine s_nil ?_
        refine hK12 _ _ ?_
        refine wpIn_block ?_
        refine wpIn_loop_ghost (fun nn aa ww => ∃ j : Nat, Sl 63 aa [(0, .agg #[vo]), (1, .pointer (some ⟨b1, 0, none⟩)), (5, .pointer (some ⟨b5, 0, none⟩)), (10, v10), (3, v10), (12, vo), (13, .int .i64 (L.length : Int)), (14, .int .i64 (k : Int)), (41, v41), (42, .int .i64 ((knownN (L.getD k z3).1).length : Int)), (43, .int .i64 (j : Int))] ∧ St w [.sl v41 30 33 (knownN (L.getD k z3).1).length (mbCells (knownN (L.getD k z3).1)), .blk b5 (.cells (ndArr (L.getD k z3).1.me (L.getD k z3).1.pr (L.getD k z3).2.1 (L.getD k z3).2.2) 46), .sl v10 30 33 (memL L).length (mbCells (memL L)), .blk b1 (.cells (#[vo]) 24)] ww ∧ nn = (knownN (L.getD k z3).1).length - j ∧ j ≤ (knownN (L.getD k z3).1).length ∧ ∀ i, i < j → badM (memL L) ((knownN (L.getD k z3).1).getD i zMb) = false) ((knownN (L.getD k z3).1).length - (0)) ⟨0, h.only ⟨rfl, rfl, rfl, rfl, rfl, rfl, rfl, rfl, rfl, rfl, slot_int rfl (by omega), trivial⟩, s.as ⟨rfl, rfl, rfl, rfl, trivial⟩, rfl, Nat.zero_le _, fun j hj => absurd hj (Nat.not_lt_zero _)⟩ ?_
        rintro _ f w1 ⟨j, h, s, hnn, hp0, hp1⟩
        refine c_seq fun K13 hK13 => ?_
        refine c_region ?_
        refine s_pure h (ru_lss (h.ev rfl) (h.ev rfl)) rfl ?_; intro f h
        refine s_nil ?_
        refine hK13 _ _ ?_
        refine c_seq fun K14 hK14 => ?_
        refine c_cond h rfl (fun hc => ?_) (fun hc => ?_)
        · replace hc := of_decide_eq_true hc
          refine wpIn_skip ?_
          refine hK14 _ _ ?_
          refine c_seq fun K15 hK15 => ?_
          refine wpIn_block ?_
          refine c_seq fun K16 hK16 => ?_
          refine c_region ?_
          have hjl : j < (knownN (L.getD k z3).1).length := by omega
          refine s_pure h (ru_ixz (RdZ.of_own (s.getSl 0 rfl)) (j) Try.underlying40 szo30 (h.ev rfl) (h.ev rfl) (by omega) (by omega)) rfl ?_; intro f h
          refine s_load_at ((RdZ.of_own (s.getSl 0 rfl)).el (j) (by omega) (by decide) (D := mbArr ((knownN (L.getD k z3).1).getD j zMb)) (mb_elD (knownN (L.getD k z3).1) j hjl)) h row30 rfl (mbArr_size _) rfl ?_; intro f h
          refine s_alloc (mbArr zMb) h s zero30 rfl rfl ?_; intro f w1 b7 h s
          refine s_store_row 0 h s row30 rfl rfl rfl (mbArr_size _) (mbArr_size _) (mbArr_ones _) ?_; intro w1 s
          refine s_nil ?_
          refine hK16 _ _ ?_
          refine c_seq fun K17 hK17 => ?_
          refine c_region ?_
          refine s_pure h (ru_move (h.ev rfl)) rfl ?_; intro f h
          refine s_pure h (ru_field fld30_0 (h.ev rfl)) rfl ?_; intro f h
          refine s_load_at1 (cell_of_has (Has.of_own s 0 rfl) 0 (mbArr_no _)) h one3 rfl rfl ?_; intro f h
          refine s_call h s fnc25 (rfind_any (memL L) v10 ((knownN (L.getD k z3).1).getD j zMb).1 _ (RdZ.of_own (s.getSl 3 rfl)) (by rw [List.length_map]; omega)) rfl rfl ?_; intro f w1 v9 hT hE h s; obtain rfl := hT
          refine s_alloc (mbArr zMb) h s zero30 rfl rfl ?_; intro f w1 b8 h s
          refine s_store_row 0 h s row30 rfl rfl rfl (mbArr_size _) (mbArr_size _) (mbArr_ones _) ?_; intro w1 s
          refine s_nil ?_
          refine hK17 _ _ ?_
          refine c_seq fun K18 hK18 => ?_
          cases f0 : (decide (0 ≤ (refF (memL L) ((knownN (L.getD k z3).1).getD j zMb).1).1) : Bool)
          · skip
            refine c_region ?_
            refine s_pure h (ru_field fld30_0 (h.ev rfl)) rfl ?_; intro f h
            refine s_load_at1 (cell_of_has (Has.of_own s 0 rfl) 0 (mbArr_no _)) h one3 rfl rfl ?_; intro f h
            refine s_pure h (ru_val (.bool false) (ru_geq (h.ev rfl) (h.ev rfl)) (congrArg Value.bool f0)) rfl ?_; intro f h
            refine s_pure h (ru_move (h.ev rfl)) rfl ?_; intro f h
            refine s_off (b := true) h rfl rfl rfl rfl ?_; intro f h
            refine s_off (b := true) h rfl rfl rfl rfl ?_; intro f h
            refine s_off (b := true) h rfl rfl rfl rfl ?_; intro f h
            refine s_pure h (ru_pick_f (h.ev rfl) (h.ev rfl)) rfl ?_; intro f h
            refine s_nil ?_
            refine hK18 _ _ ?_
            refine wpIn_cond_false (h.ev rfl) ?_
            refine wpIn_skip ?_
            refine b_norm ?_
            refine hK15 _ _ ?_
            refine c_region ?_
            refine s_pure h (ru_add (h.ev rfl) (h.ev rfl) (by omega)) rfl ?_; intro f h
            refine s_pure h (ru_move (h.ev rfl)) rfl ?_; intro f h
            refine s_nil ?_
            refine t_norm ?_
            exact ⟨_, by omega, ⟨j + 1, h.only ⟨rfl, rfl, rfl, rfl, rfl, rfl, rfl, rfl, rfl, rfl, slot_int rfl (by omega), trivial⟩, St.as (s.pick _ (List.sublist_append_right [_, _] _)) ⟨rfl, rfl, rfl, rfl, trivial⟩, rfl, by omega, qs_next hp1 (bm_0 f0)⟩⟩
          · skip
            cases f1 : (decide ((refF (memL L) ((knownN (L.getD k z3).1).getD j zMb).1) = ((knownN (L.getD k z3).1).getD j zMb)) : Bool)
            · skip
              refine c_region ?_
              refine s_pure h (ru_field fld30_0 (h.ev rfl)) rfl ?_; intro f h
              refine s_load_at1 (cell_of_has (Has.of_own s 0 rfl) 0 (mbArr_no _)) h one3 rfl rfl ?_; intro f h
              refine s_pure h (ru_val (.bool true) (ru_geq (h.ev rfl) (h.ev rfl)) (congrArg Value.bool f0)) rfl ?_; intro f h
              refine s_pure h (ru_move (h.ev rfl)) rfl ?_; intro f h
              refine s_on h rfl rfl rfl ?_
              refine s_load_row 0 h s row30 rfl rfl (mbArr_size _) rfl ?_; intro f h
              refine s_on h rfl rfl rfl ?_
              refine s_load_row 1 h s row30 rfl rfl (mbArr_size _) rfl ?_; intro f h
              refine s_on h rfl rfl rfl ?_
              refine s_pure h (ru_val (.bool true) (ru_neqW (eqM _ _) (by kernel_rfl) (by decide) (h.ev rfl) (h.ev rfl) (decide ((refF (memL L) ((knownN (L.getD k z3).1).getD j zMb).1) = ((knownN (L.getD k z3).1).getD j zMb))) (mbEq _ _)) (by rw [f1]; rfl)) rfl ?_; intro f h
              refine s_pure h (ru_pick_t (h.ev rfl) (h.ev rfl)) rfl ?_; intro f h
              refine s_nil ?_
              refine hK18 _ _ ?_
              refine wpIn_cond_true (h.ev rfl) ?_
              refine c_seq fun K19 hK19 => ?_
              refine c_region ?_
              refine s_pure h (ru_assign (h.ev rfl)) rfl ?_; intro f h
              refine s_nil ?_
              refine hK19 _ _ ?_
              refine wpIn_ret ?_
              refine b_ret ?_
              refine t_ret ?_
              refine t_ret ?_
              refine b_ret ?_
              refine b_ret ?_
              refine t_ret ?_
              refine t_ret ?_
              refine b_ret ?_
              refine t_ret ?_
              exact e_tmp rfl h s rfl (by show _ = _; rw [rl_left hkl (bv_2 hjl (by rw [bm_1 f0, f1]; rfl))])
            · skip
              refine c_region ?_
              refine s_pure h (ru_field fld30_0 (h.ev rfl)) rfl ?_; intro f h
              refine s_load_at1 (cell_of_has (Has.of_own s 0 rfl) 0 (mbArr_no _)) h one3 rfl rfl ?_; intro f h
              refine s_pure h (ru_val (.bool true) (ru_geq (h.ev rfl) (h.ev rfl)) (congrArg Value.bool f0)) rfl ?_; intro f h
              refine s_pure h (ru_move (h.ev rfl)) rfl ?_; intro f h
              refine s_on h rfl rfl rfl ?_
              refine s_load_row 0 h s row30 rfl rfl (mbArr_size _) rfl ?_; intro f h
              refine s_on h rfl rfl rfl ?_
              refine s_load_row 1 h s row30 rfl rfl (mbArr_size _) rfl ?_; intro f h
              refine s_on h rfl rfl rfl ?_
              refine s_pure h (ru_val (.bool false) (ru_neqW (eqM _ _) (by kernel_rfl) (by decide) (h.ev rfl) (h.ev rfl) (decide ((refF (memL L) ((knownN (L.getD k z3).1).getD j zMb).1) = ((knownN (L.getD k z3).1).getD j zMb))) (mbEq _ _)) (by rw [f1]; rfl)) rfl ?_; intro f h
              refine s_pure h (ru_pick_t (h.ev rfl) (h.ev rfl)) rfl ?_; intro f h
              refine s_nil ?_
              refine hK18 _ _ ?_
              refine wpIn_cond_false (h.ev rfl) ?_
              refine wpIn_skip ?_
              refine b_norm ?_
              refine hK15 _ _ ?_
              refine c_region ?_
              refine s_pure h (ru_add (h.ev rfl) (h.ev rfl) (by omega)) rfl ?_; intro f h
              refine s_pure h (ru_move (h.ev rfl)) rfl ?_; intro f h
              refine s_nil ?_
              refine t_norm ?_
              exact ⟨_, by omega, ⟨j + 1, h.only ⟨rfl, rfl, rfl, rfl, rfl, rfl, rfl, rfl, rfl, rfl, slot_int rfl (by omega), trivial⟩, St.as (s.pick _ (List.sublist_append_right [_, _] _)) ⟨rfl, rfl, rfl, rfl, trivial⟩, rfl, by omega, qs_next hp1 (by rw [bm_1 f0, f1]; rfl)⟩⟩
        · replace hc := of_decide_eq_false hc
          refine wpIn_exit ?_
          refine t_exit ?_
          refine t_exit ?_
          refine b_exit ?_
          refine b_norm ?_
          refine hK7 _ _ ?_
          refine c_region ?_
          refine s_pure h (ru_add (h.ev rfl) (h.ev rfl) (by omega)) rfl ?_; intro f h
          refine s_pure h (ru_move (h.ev rfl)) rfl ?_; intro f h
          refine s_nil ?_
          refine t_norm ?_
          have hb9 : badV L k = false := bv_3 (j := j) hr9 hk9 (by omega) hp1
          exact ⟨_, by omega, ⟨k + 1, h.only ⟨rfl, rfl, rfl, rfl, rfl, rfl, slot_int rfl (by omega), trivial⟩, St.as (s.pick _ (List.sublist_append_right [_, _] _)) ⟨rfl, rfl, trivial⟩, rfl, by omega, qs_next hq1 hb9⟩⟩
      · skip
        cases k1 : (decide ((L.getD k z3).1.me.1 ≤ (L.getD (k - 1) z3).1.me.1) : Bool)
        · skip
          refine c_walkN 21 [[], [0], [0, 1], [0, 1, 2], [0, 1, 2, 3], [0, 1, 2, 3, 4], [0, 1, 2, 3, 4, 5], [0, 1, 2, 3, 4, 5, 6], [0, 1, 2, 3, 4, 5, 6, 7], [0, 1, 2, 3, 4, 5, 6], [0, 1, 2, 3, 4, 5, 6, 9], [0, 1, 2, 3, 4, 5, 6, 7, 8, 9, 10], [0, 1, 2, 3, 4, 5, 6, 7, 8, 9, 10, 11], [0, 1, 2, 3, 4, 5, 6, 7, 8, 9, 10, 11, 12], [0, 1, 2, 3, 4, 5, 6, 7, 8, 9, 10, 11, 12, 13], [0, 1, 2, 3, 4, 5, 6], [0, 1, 2, 3, 4, 5, 6, 15], [0, 1, 2, 3, 4, 5, 6, 15, 16], [0, 1, 2, 3, 4, 5, 6, 7, 8, 9, 10, 11, 12, 13, 14, 15, 16, 17], [0, 1, 2, 3, 4, 5, 6, 7, 8, 9, 10, 11, 12, 13, 14, 15, 16, 17, 18], [0, 1, 2, 3, 4, 5, 6, 7, 8, 9, 10, 11, 12, 13, 14, 15, 16, 17, 18, 19]] h (by kernel_rfl) (by kernel_rfl) (by kernel_rfl) ?_
          refine w_load_row 0 h s row46 rfl rfl (ndArr_size _ _ _ _) rfl ?_; intro f h
          refine w_call h fnc23 (fun w9 hE9 => ret_val (.bool true) (rnright_any (L.getD k z3).1 (L.getD k z3).2.1 (L.getD k z3).2.2 w9 ((hO.2 _ (n3_mem hkl)).1.keep (s.ext.trans hE9)) ((hO.2 _ (n3_mem hkl)).2.keep (s.ext.trans hE9)) (by omega) (by omega)) (congrArg Value.bool r0)) rfl rfl ?_; intro f h
          refine w_pure h (ru_val (.bool false) (ru_not (h.ev rfl)) rfl) rfl ?_; intro f h
          refine w_pure h (ru_move (h.ev rfl)) rfl ?_; intro f h
          refine w_on h rfl rfl rfl ?_
          refine w_pure h (ru_move (h.ev rfl)) rfl ?_; intro f h
          refine w_on h rfl rfl rfl ?_
          refine w_pure h (ru_val (.bool true) (ru_gtr (h.ev rfl) (h.ev rfl)) (congrArg Value.bool (decide_eq_true (by have := of_decide_eq_true k0; omega)))) rfl ?_; intro f h
          refine w_on h rfl rfl rfl ?_
          refine w_pure h (ru_move (h.ev rfl)) rfl ?_; intro f h
          refine w_on h rfl rfl rfl ?_
          refine w_pure h (ru_field fld24_0 (h.ev rfl)) rfl ?_; intro f h
          refine w_on h rfl rfl rfl ?_
          refine w_load_at1 (V := vo) (cell_of_has (Has.of_own s 2 rfl) 0 rfl) h one22 rfl rfl ?_; intro f h
          refine w_on h rfl rfl rfl ?_
          refine w_pure h (ru_move (h.ev rfl)) rfl ?_; intro f h
          refine w_on h rfl rfl rfl ?_
          have hk0 := of_decide_eq_true k0
          refine w_pure h (ru_sub (h.ev rfl) (h.ev rfl) (by omega)) rfl ?_; intro f h
          refine w_on h rfl rfl rfl ?_
          refine w_pure h (ru_ixz (hO.1.keep s.ext) ((k - 1)) Try.underlying22 szo46 (h.ev rfl) (h.ev rfl) (by omega) (by omega)) rfl ?_; intro f h
          refine w_on h rfl rfl rfl ?_
          refine w_pure h (ru_fieldE fld46_0 (h.ev rfl) ((hO.1.keep s.ext).some (by omega))) rfl ?_; intro f h
          refine w_on h rfl rfl rfl ?_
          refine w_pure h (ru_fieldE fld30_0 (h.ev rfl) ((hO.1.keep s.ext).some (by omega))) rfl ?_; intro f h
          refine w_on h rfl rfl rfl ?_
          refine w_load_at1 (V := .int .i64 (L.getD (k - 1) z3).1.me.1) (rdz_at (hO.1.keep s.ext) ((k - 1) * 68 + 0) (n3_no L (k - 1) (by omega))) h one3 rfl rfl ?_; intro f h
          refine w_on h rfl rfl rfl ?_
          refine w_pure h (ru_field fld46_0 (h.ev rfl)) rfl ?_; intro f h
          refine w_on h rfl rfl rfl ?_
          refine w_pure h (ru_field fld30_0 (h.ev rfl)) rfl ?_; intro f h
          refine w_on h rfl rfl rfl ?_
          refine w_load_at1 (cell_of_has (Has.of_own s 0 rfl) 0 (ndArr_no _ _ _ _)) h one3 rfl rfl ?_; intro f h
          refine w_on h rfl rfl rfl ?_
          refine w_pure h (ru_val (.bool false) (ru_geq (h.ev rfl) (h.ev rfl)) (congrArg Value.bool k1)) rfl ?_; intro f h
          refine w_on h rfl rfl rfl ?_
          refine w_pure h (ru_pick_t (h.ev rfl) (h.ev rfl)) rfl ?_; intro f h
          refine w_pure h (ru_pick_f (h.ev rfl) (h.ev rfl)) rfl ?_; intro f h
          refine w_nil s fun w1 s => ?_
          refine s_nil ?_
          refine hK10 _ _ ?_
          refine wpIn_cond_false (h.ev rfl) ?_
          refine wpIn_skip ?_
          refine hK9 _ _ ?_
          refine c_seq fun K20 hK20 => ?_
          refine c_region ?_
          have hq1 := hp1
          have hr9 := r0
          have hk9 : decide (0 < k) = false ∨ decide ((L.getD k z3).1.me.1 ≤ (L.getD (k - 1) z3).1.me.1) = false := .inr k1
          have hkl2 : (knownN (L.getD k z3).1).length ≤ 700 := by simp only [knownN, List.length_append, List.length_cons]; omega
          refine s_load_row 0 h s row46 rfl rfl (ndArr_size _ _ _ _) rfl ?_; intro f h
          refine s_call h s fnc24 (known_any (L.getD k z3).1 (L.getD k z3).2.1 (L.getD k z3).2.2 _ ((hO.2 _ (n3_mem hkl)).1.keep s.ext) ((hO.2 _ (n3_mem hkl)).2.keep s.ext) (by omega) (by omega)) rfl rfl ?_; intro f w1 v41 hT hE h sq; replace s := s.sl_new hE hT
          refine s_len_sl 0 h s Try.underlying40 rfl rfl rfl ?_; intro f h
          refine s_pure h (ru_move (h.ev rfl)) rfl ?_; intro f h
          refine s_nil ?_
          refine hK20 _ _ ?_
          refine wpIn_block ?_
          refine wpIn_loop_ghost (fun nn aa ww => ∃ j : Nat, Sl 63 aa [(0, .agg #[vo]), (1, .pointer (some ⟨b1, 0, none⟩)), (5, .pointer (some ⟨b5, 0, none⟩)), (10, v10), (3, v10), (12, vo), (13, .int .i64 (L.length : Int)), (14, .int .i64 (k : Int)), (41, v41), (42, .int .i64 ((knownN (L.getD k z3).1).length : Int)), (43, .int .i64 (j : Int))] ∧ St w [.sl v41 30 33 (knownN (L.getD k z3).1).length (mbCells (knownN (L.getD k z3).1)), .blk b5 (.cells (ndArr (L.getD k z3).1.me (L.getD k z3).1.pr (L.getD k z3).2.1 (L.getD k z3).2.2) 46), .sl v10 30 33 (memL L).length (mbCells (memL L)), .blk b1 (.cells (#[vo]) 24)] ww ∧ nn = (knownN (L.getD k z3).1).length - j ∧ j ≤ (knownN (L.getD k z3).1).length ∧ ∀ i, i < j → badM (memL L) ((knownN (L.getD k z3).1).getD i zMb) = false) ((knownN (L.getD k z3).1).length - (0)) ⟨0, h.only ⟨rfl, rfl, rfl, rfl, rfl, rfl, rfl, rfl, rfl, rfl, slot_int rfl (by omega), trivial⟩, s.as ⟨rfl, rfl, rfl, rfl, trivial⟩, rfl, Nat.zero_le _, fun j hj => absurd hj (Nat.not_lt_zero _)⟩ ?_
          rintro _ f w1 ⟨j, h, s, hnn, hp0, hp1⟩
          refine c_seq fun K21 hK21 => ?_
          refine c_region ?_
          refine s_pure h (ru_lss (h.ev rfl) (h.ev rfl)) rfl ?_; intro f h
          refine s_nil ?_
          refine hK21 _ _ ?_
          refine c_seq fun K22 hK22 => ?_
          refine c_cond h rfl (fun hc => ?_) (fun hc => ?_)
          · replace hc := of_decide_eq_true hc
            refine wpIn_skip ?_
            refine hK22 _ _ ?_
            refine c_seq fun K23 hK23 => ?_
            refine wpIn_block ?_
            refine c_seq fun K24 hK24 => ?_
            refine c_region ?_
            have hjl : j < (knownN (L.getD k z3).1).length := by omega
            refine s_pure h (ru_ixz (RdZ.of_own (s.getSl 0 rfl)) (j) Try.underlying40 szo30 (h.ev rfl) (h.ev rfl) (by omega) (by omega)) rfl ?_; intro f h
            refine s_load_at ((RdZ.of_own (s.getSl 0 rfl)).el (j) (by omega) (by decide) (D := mbArr ((knownN (L.getD k z3).1).getD j zMb)) (mb_elD (knownN (L.getD k z3).1) j hjl)) h row30 rfl (mbArr_size _) rfl ?_; intro f h
            refine s_alloc (mbArr zMb) h s zero30 rfl rfl ?_; intro f w1 b7 h s
            refine s_store_row 0 h s row30 rfl rfl rfl (mbArr_size _) (mbArr_size _) (mbArr_ones _) ?_; intro w1 s
            refine s_nil ?_
            refine hK24 _ _ ?_
            refine c_seq fun K25 hK25 => ?_
            refine c_region ?_
            refine s_pure h (ru_move (h.ev rfl)) rfl ?_; intro f h
            refine s_pure h (ru_field fld30_0 (h.ev rfl)) rfl ?_; intro f h
            refine s_load_at1 (cell_of_has (Has.of_own s 0 rfl) 0 (mbArr_no _)) h one3 rfl rfl ?_; intro f h
            refine s_call h s fnc25 (rfind_any (memL L) v10 ((knownN (L.getD k z3).1).getD j zMb).1 _ (RdZ.of_own (s.getSl 3 rfl)) (by rw [List.length_map]; omega)) rfl rfl ?_; intro f w1 v9 hT hE h s; obtain rfl := hT
            refine s_alloc (mbArr zMb) h s zero30 rfl rfl ?_; intro f w1 b8 h s
            refine s_store_row 0 h s row30 rfl rfl rfl (mbArr_size _) (mbArr_size _) (mbArr_ones _) ?_; intro w1 s
            refine s_nil ?_
            refine hK25 _ _ ?_
            refine c_seq fun K26 hK26 => ?_
            cases f0 : (decide (0 ≤ (refF (memL L) ((knownN (L.getD k z3).1).getD j zMb).1).1) : Bool)
            · skip
              refine c_region ?_
              refine s_pure h (ru_field fld30_0 (h.ev rfl)) rfl ?_; intro f h
              refine s_load_at1 (cell_of_has (Has.of_own s 0 rfl) 0 (mbArr_no _)) h one3 rfl rfl ?_; intro f h
              refine s_pure h (ru_val (.bool false) (ru_geq (h.ev rfl) (h.ev rfl)) (congrArg Value.bool f0)) rfl ?_; intro f h
              refine s_pure h (ru_move (h.ev rfl)) rfl ?_; intro f h
              refine s_off (b := true) h rfl rfl rfl rfl ?_; intro f h
              refine s_off (b := true) h rfl rfl rfl rfl ?_; intro f h
              refine s_off (b := true) h rfl rfl rfl rfl ?_; intro f h
              refine s_pure h (ru_pick_f (h.ev rfl) (h.ev rfl)) rfl ?_; intro f h
              refine s_nil ?_
              refine hK26 _ _ ?_
              refine wpIn_cond_false (h.ev rfl) ?_
              refine wpIn_skip ?_
              refine b_norm ?_
              refine hK23 _ _ ?_
              refine c_region ?_
              refine s_pure h (ru_add (h.ev rfl) (h.ev rfl) (by omega)) rfl ?_; intro f h
              refine s_pure h (ru_move (h.ev rfl)) rfl ?_; intro f h
              refine s_nil ?_
              refine t_norm ?_
              exact ⟨_, by omega, ⟨j + 1, h.only ⟨rfl, rfl, rfl, rfl, rfl, rfl, rfl, rfl, rfl, rfl, slot_int rfl (by omega), trivial⟩, St.as (s.pick _ (List.sublist_append_right [_, _] _)) ⟨rfl, rfl, rfl, rfl, trivial⟩, rfl, by omega, qs_next hp1 (bm_0 f0)⟩⟩
            · skip
              cases f1 : (decide ((refF (memL L) ((knownN (L.getD k z3).1).getD j zMb).1) = ((knownN (L.getD k z3).1).getD j zMb)) : Bool)
              · skip
                refine c_region ?_
                refine s_pure h (ru_field fld30_0 (h.ev rfl)) rfl ?_; intro f h
                refine s_load_at1 (cell_of_has (Has.of_own s 0 rfl) 0 (mbArr_no _)) h one3 rfl rfl ?_; intro f h
                refine s_pure h (ru_val (.bool true) (ru_geq (h.ev rfl) (h.ev rfl)) (congrArg Value.bool f0)) rfl ?_; intro f h
                refine s_pure h (ru_move (h.ev rfl)) rfl ?_; intro f h
                refine s_on h rfl rfl rfl ?_
                refine s_load_row 0 h s row30 rfl rfl (mbArr_size _) rfl ?_; intro f h
                refine s_on h rfl rfl rfl ?_
                refine s_load_row 1 h s row30 rfl rfl (mbArr_size _) rfl ?_; intro f h
                refine s_on h rfl rfl rfl ?_
                refine s_pure h (ru_val (.bool true) (ru_neqW (eqM _ _) (by kernel_rfl) (by decide) (h.ev rfl) (h.ev rfl) (decide ((refF (memL L) ((knownN (L.getD k z3).1).getD j zMb).1) = ((knownN (L.getD k z3).1).getD j zMb))) (mbEq _ _)) (by rw [f1]; rfl)) rfl ?_; intro f h
                refine s_pure h (ru_pick_t (h.ev rfl) (h.ev rfl)) rfl ?_; intro f h
                refine s_nil ?_
                refine hK26 _ _ ?_
                refine wpIn_cond_true (h.ev rfl) ?_
                refine c_seq fun K27 hK27 => ?_
                refine c_region ?_
                refine s_pure h (ru_assign (h.ev rfl)) rfl ?_; intro f h
                refine s_nil ?_
                refine hK27 _ _ ?_
                refine wpIn_ret ?_
                refine b_ret ?_
                refine t_ret ?_
                refine t_ret ?_
                refine b_ret ?_
                refine b_ret ?_
                refine t_ret ?_
                refine t_ret ?_
                refine b_ret ?_
                refine t_ret ?_
                exact e_tmp rfl h s rfl (by show _ = _; rw [rl_left hkl (bv_2 hjl (by rw [bm_1 f0, f1]; rfl))])
              · skip
                refine c_region ?_
                refine s_pure h (ru_field fld30_0 (h.ev rfl)) rfl ?_; intro f h
                refine s_load_at1 (cell_of_has (Has.of_own s 0 rfl) 0 (mbArr_no _)) h one3 rfl rfl ?_; intro f h
                refine s_pure h (ru_val (.bool true) (ru_geq (h.ev rfl) (h.ev rfl)) (congrArg Value.bool f0)) rfl ?_; intro f h
                refine s_pure h (ru_move (h.ev rfl)) rfl ?_; intro f h
                refine s_on h rfl rfl rfl ?_
                refine s_load_row 0 h s row30 rfl rfl (mbArr_size _) rfl ?_; intro f h
                refine s_on h rfl rfl rfl ?_
                refine s_load_row 1 h s row30 rfl rfl (mbArr_size _) rfl ?_; intro f h
                refine s_on h rfl rfl rfl ?_
                refine s_pure h (ru_val (.bool false) (ru_neqW (eqM _ _) (by kernel_rfl) (by decide) (h.ev rfl) (h.ev rfl) (decide ((refF (memL L) ((knownN (L.getD k z3).1).getD j zMb).1) = ((knownN (L.getD k z3).1).getD j zMb))) (mbEq _ _)) (by rw [f1]; rfl)) rfl ?_; intro f h
                refine s_pure h (ru_pick_t (h.ev rfl) (h.ev rfl)) rfl ?_; intro f h
                refine s_nil ?_
                refine hK26 _ _ ?_
                refine wpIn_cond_false (h.ev rfl) ?_
                refine wpIn_skip ?_
                refine b_norm ?_
                refine hK23 _ _ ?_
                refine c_region ?_
                refine s_pure h (ru_add (h.ev rfl) (h.ev rfl) (by omega)) rfl ?_; intro f h
                refine s_pure h (ru_move (h.ev rfl)) rfl ?_; intro f h
                refine s_nil ?_
                refine t_norm ?_
                exact ⟨_, by omega, ⟨j + 1, h.only ⟨rfl, rfl, rfl, rfl, rfl, rfl, rfl, rfl, rfl, rfl, slot_int rfl (by omega), trivial⟩, St.as (s.pick _ (List.sublist_append_right [_, _] _)) ⟨rfl, rfl, rfl, rfl, trivial⟩, rfl, by omega, qs_next hp1 (by rw [bm_1 f0, f1]; rfl)⟩⟩
          · replace hc := of_decide_eq_false hc
            refine wpIn_exit ?_
            refine t_exit ?_
            refine t_exit ?_
            refine b_exit ?_
            refine b_norm ?_
            refine hK7 _ _ ?_
            refine c_region ?_
            refine s_pure h (ru_add (h.ev rfl) (h.ev rfl) (by omega)) rfl ?_; intro f h
            refine s_pure h (ru_move (h.ev rfl)) rfl ?_; intro f h
            refine s_nil ?_
            refine t_norm ?_
            have hb9 : badV L k = false := bv_3 (j := j) hr9 hk9 (by omega) hp1
            exact ⟨_, by omega, ⟨k + 1, h.only ⟨rfl, rfl, rfl, rfl, rfl, rfl, slot_int rfl (by omega), trivial⟩, St.as (s.pick _ (List.sublist_append_right [_, _] _)) ⟨rfl, rfl, trivial⟩, rfl, by omega, qs_next hq1 hb9⟩⟩
        · skip
          refine c_walkN 21 [[], [0], [0, 1], [0, 1, 2], [0, 1, 2, 3], [0, 1, 2, 3, 4], [0, 1, 2, 3, 4, 5], [0, 1, 2, 3, 4, 5, 6], [0, 1, 2, 3, 4, 5, 6, 7], [0, 1, 2, 3, 4, 5, 6], [0, 1, 2, 3, 4, 5, 6, 9], [0, 1, 2, 3, 4, 5, 6, 7, 8, 9, 10], [0, 1, 2, 3, 4, 5, 6, 7, 8, 9, 10, 11], [0, 1, 2, 3, 4, 5, 6, 7, 8, 9, 10, 11, 12], [0, 1, 2, 3, 4, 5, 6, 7, 8, 9, 10, 11, 12, 13], [0, 1, 2, 3, 4, 5, 6], [0, 1, 2, 3, 4, 5, 6, 15], [0, 1, 2, 3, 4, 5, 6, 15, 16], [0, 1, 2, 3, 4, 5, 6, 7, 8, 9, 10, 11, 12, 13, 14, 15, 16, 17], [0, 1, 2, 3, 4, 5, 6, 7, 8, 9, 10, 11, 12, 13, 14, 15, 16, 17, 18], [0, 1, 2, 3, 4, 5, 6, 7, 8, 9, 10, 11, 12, 13, 14, 15, 16, 17, 18, 19]] h (by kernel_rfl) (by kernel_rfl) (by kernel_rfl) ?_
          refine w_load_row 0 h s row46 rfl rfl (ndArr_size _ _ _ _) rfl ?_; intro f h
          refine w_call h fnc23 (fun w9 hE9 => ret_val (.bool true) (rnright_any (L.getD k z3).1 (L.getD k z3).2.1 (L.getD k z3).2.2 w9 ((hO.2 _ (n3_mem hkl)).1.keep (s.ext.trans hE9)) ((hO.2 _ (n3_mem hkl)).2.keep (s.ext.trans hE9)) (by omega) (by omega)) (congrArg Value.bool r0)) rfl rfl ?_; intro f h
          refine w_pure h (ru_val (.bool false) (ru_not (h.ev rfl)) rfl) rfl ?_; intro f h
          refine w_pure h (ru_move (h.ev rfl)) rfl ?_; intro f h
          refine w_on h rfl rfl rfl ?_
          refine w_pure h (ru_move (h.ev rfl)) rfl ?_; intro f h
          refine w_on h rfl rfl rfl ?_
          refine w_pure h (ru_val (.bool true) (ru_gtr (h.ev rfl) (h.ev rfl)) (congrArg Value.bool (decide_eq_true (by have := of_decide_eq_true k0; omega)))) rfl ?_; intro f h
          refine w_on h rfl rfl rfl ?_
          refine w_pure h (ru_move (h.ev rfl)) rfl ?_; intro f h
          refine w_on h rfl rfl rfl ?_
          refine w_pure h (ru_field fld24_0 (h.ev rfl)) rfl ?_; intro f h
          refine w_on h rfl rfl rfl ?_
          refine w_load_at1 (V := vo) (cell_of_has (Has.of_own s 2 rfl) 0 rfl) h one22 rfl rfl ?_; intro f h
          refine w_on h rfl rfl rfl ?_
          refine w_pure h (ru_move (h.ev rfl)) rfl ?_; intro f h
          refine w_on h rfl rfl rfl ?_
          have hk0 := of_decide_eq_true k0
          refine w_pure h (ru_sub (h.ev rfl) (h.ev rfl) (by omega)) rfl ?_; intro f h
          refine w_on h rfl rfl rfl ?_
          refine w_pure h (ru_ixz (hO.1.keep s.ext) ((k - 1)) Try.underlying22 szo46 (h.ev rfl) (h.ev rfl) (by omega) (by omega)) rfl ?_; intro f h
          refine w_on h rfl rfl rfl ?_
          refine w_pure h (ru_fieldE fld46_0 (h.ev rfl) ((hO.1.keep s.ext).some (by omega))) rfl ?_; intro f h
          refine w_on h rfl rfl rfl ?_
          refine w_pure h (ru_fieldE fld30_0 (h.ev rfl) ((hO.1.keep s.ext).some (by omega))) rfl ?_; intro f h
          refine w_on h rfl rfl rfl ?_
          refine w_load_at1 (V := .int .i64 (L.getD (k - 1) z3).1.me.1) (rdz_at (hO.1.keep s.ext) ((k - 1) * 68 + 0) (n3_no L (k - 1) (by omega))) h one3 rfl rfl ?_; intro f h
          refine w_on h rfl rfl rfl ?_
          refine w_pure h (ru_field fld46_0 (h.ev rfl)) rfl ?_; intro f h
          refine w_on h rfl rfl rfl ?_
          refine w_pure h (ru_field fld30_0 (h.ev rfl)) rfl ?_; intro f h
          refine w_on h rfl rfl rfl ?_
          refine w_load_at1 (cell_of_has (Has.of_own s 0 rfl) 0 (ndArr_no _ _ _ _)) h one3 rfl rfl ?_; intro f h
          refine w_on h rfl rfl rfl ?_
          refine w_pure h (ru_val (.bool true) (ru_geq (h.ev rfl) (h.ev rfl)) (congrArg Value.bool k1)) rfl ?_; intro f h
          refine w_on h rfl rfl rfl ?_
          refine w_pure h (ru_pick_t (h.ev rfl) (h.ev rfl)) rfl ?_; intro f h
          refine w_pure h (ru_pick_f (h.ev rfl) (h.ev rfl)) rfl ?_; intro f h
          refine w_nil s fun w1 s => ?_
          refine s_nil ?_
          refine hK10 _ _ ?_
          refine wpIn_cond_true (h.ev rfl) ?_
          refine c_seq fun K28 hK28 => ?_
          refine c_region ?_
          refine s_pure h (ru_assign (h.ev rfl)) rfl ?_; intro f h
          refine s_nil ?_
          refine hK28 _ _ ?_
          refine wpIn_ret ?_
          refine t_ret ?_
          refine b_ret ?_
          refine t_ret ?_
          refine t_ret ?_
          refine b_ret ?_
          refine t_ret ?_
          exact e_tmp rfl h s rfl (by show _ = _; rw [rl_left hkl (bv_1 k0 k1)])
  · replace hc := of_decide_eq_false hc
    refine wpIn_exit ?_
    refine t_exit ?_
    refine t_exit ?_
    refine b_exit ?_
    refine hK3 _ _ ?_
    refine c_seq fun K29 hK29 => ?_
    refine c_region ?_
    refine s_pure h (ru_move (h.ev rfl)) rfl ?_; intro f h
    refine s_call h s fnc26 (rright_any (memL L) v10 _ (RdZ.of_own (s.getSl 0 rfl)) (by rw [List.length_map]; omega)) rfl rfl ?_; intro f w1 v9 hT hE h s; obtain rfl := hT
    refine s_pure h (ru_assign (h.ev rfl)) rfl ?_; intro f h
    refine s_nil ?_
    refine hK29 _ _ ?_
    refine wpIn_ret ?_
    exact e_tmp rfl h s rfl (by show _ = _; rw [rl_done (by omega) hp1])
end Go.Proofs.Ytndbijifgalpbaa
