/- What the reference of node answers for which may be, and for what is alike. -/
import Derived.Test.YtfnjdjbknjcocaaVa
set_option linter.unusedVariables false
set_option linter.unusedSimpArgs false
set_option linter.unusedSectionVars false
namespace Go.Proofs.Ytfnjdjbknjcocaa
open Go.RowKit
theorem rmay_any (m : Mb) (w : World) : Calls Try.prog 37 [.agg (mbArr m)].toArray w (Ret w (is (.bool (mayB m)))) := by
  refine c_enter Try.func37 rfl Try.ntmps37 rfl [(0, .agg (mbArr m))] (by simp) fun f h => ?_
  have s := St.start w
  refine c_seq fun K1 hK1 => ?_
  refine c_region ?_
  refine s_box ((mbArr m)) h s rfl rfl rfl ?_; intro f w1 b1 h s
  refine s_pure h (ru_assign (h.ev rfl)) rfl ?_; intro f h
  refine s_nil ?_
  refine hK1 _ _ ?_
  refine c_seq fun K2 hK2 => ?_
  cases h0 : (decide (0 ≤ m.1) : Bool)
  · skip
    refine c_region ?_
    refine s_pure h (ru_field fld25_0 (h.ev rfl)) rfl ?_; intro f h
    refine s_load_at1 (cell_of_has (Has.of_own s 0 rfl) 0 (mbArr_no _)) h one3 rfl rfl ?_; intro f h
    refine s_pure h (ru_val (.bool false) (ru_geq (h.ev rfl) (h.ev rfl)) (congrArg Value.bool h0)) rfl ?_; intro f h
    refine s_pure h (ru_move (h.ev rfl)) rfl ?_; intro f h
    refine s_off (b := true) h rfl rfl rfl rfl ?_; intro f h
    refine s_off (b := true) h rfl rfl rfl rfl ?_; intro f h
    refine s_off (b := true) h rfl rfl rfl rfl ?_; intro f h
    refine s_pure h (ru_pick_f (h.ev rfl) (h.ev rfl)) rfl ?_; intro f h
    refine s_pure h (ru_assign (h.ev rfl)) rfl ?_; intro f h
    refine s_nil ?_
    refine hK2 _ _ ?_
    refine wpIn_ret ?_
    exact e_tmp rfl h s rfl (by show _ = _; rw [may_0 h0] <;> rfl)
  · skip
    refine c_region ?_
    refine s_pure h (ru_field fld25_0 (h.ev rfl)) rfl ?_; intro f h
    refine s_load_at1 (cell_of_has (Has.of_own s 0 rfl) 0 (mbArr_no _)) h one3 rfl rfl ?_; intro f h
    refine s_pure h (ru_val (.bool true) (ru_geq (h.ev rfl) (h.ev rfl)) (congrArg Value.bool h0)) rfl ?_; intro f h
    refine s_pure h (ru_move (h.ev rfl)) rfl ?_; intro f h
    refine s_on h rfl rfl rfl ?_
    refine s_pure h (ru_field fld25_0 (h.ev rfl)) rfl ?_; intro f h
    refine s_on h rfl rfl rfl ?_
    refine s_load_at1 (cell_of_has (Has.of_own s 0 rfl) 0 (mbArr_no _)) h one3 rfl rfl ?_; intro f h
    refine s_on h rfl rfl rfl ?_
    refine s_pure h (ru_val (.bool (decide (m.1 < 16))) (ru_leq (h.ev rfl) (h.ev rfl)) (congrArg Value.bool (decide_eq_decide.2 (by omega)))) rfl ?_; intro f h
    refine s_pure h (ru_pick_t (h.ev rfl) (h.ev rfl)) rfl ?_; intro f h
    refine s_pure h (ru_assign (h.ev rfl)) rfl ?_; intro f h
    refine s_nil ?_
    refine hK2 _ _ ?_
    refine wpIn_ret ?_
    exact e_tmp rfl h s rfl (by show _ = _; rw [may_1 h0] <;> rfl)

theorem rnone_any (m : Mb) (w : World) : Calls Try.prog 18 [.agg (mbArr m)].toArray w (Ret w (is (.bool (decide (m = nMb))))) := by
  refine c_enter Try.func18 rfl Try.ntmps18 rfl [(0, .agg (mbArr m))] (by simp) fun f h => ?_
  have s := St.start w
  refine c_seq fun K1 hK1 => ?_
  refine c_region ?_
  refine s_box ((mbArr m)) h s rfl rfl rfl ?_; intro f w1 b1 h s
  refine s_pure h (ru_assign (h.ev rfl)) rfl ?_; intro f h
  refine s_nil ?_
  refine hK1 _ _ ?_
  refine c_seq fun K2 hK2 => ?_
  cases h0 : (decide (m.1 = -1) : Bool)
  · skip
    refine c_region ?_
    refine s_pure h (ru_field fld25_0 (h.ev rfl)) rfl ?_; intro f h
    refine s_load_at1 (cell_of_has (Has.of_own s 0 rfl) 0 (mbArr_no _)) h one3 rfl rfl ?_; intro f h
    refine s_pure h (ru_val (.bool false) (ru_eql (h.ev rfl) (h.ev rfl)) (congrArg Value.bool h0)) rfl ?_; intro f h
    refine s_pure h (ru_move (h.ev rfl)) rfl ?_; intro f h
    refine s_off (b := true) h rfl rfl rfl rfl ?_; intro f h
    refine s_off (b := true) h rfl rfl rfl rfl ?_; intro f h
    refine s_off (b := true) h rfl rfl rfl rfl ?_; intro f h
    refine s_off (b := true) h rfl rfl rfl rfl ?_; intro f h
    refine s_pure h (ru_pick_f (h.ev rfl) (h.ev rfl)) rfl ?_; intro f h
    refine s_pure h (ru_assign (h.ev rfl)) rfl ?_; intro f h
    refine s_nil ?_
    refine hK2 _ _ ?_
    refine wpIn_ret ?_
    exact e_tmp rfl h s rfl (by show _ = _; rw [none_0 h0])
  · skip
    refine c_region ?_
    refine s_pure h (ru_field fld25_0 (h.ev rfl)) rfl ?_; intro f h
    refine s_load_at1 (cell_of_has (Has.of_own s 0 rfl) 0 (mbArr_no _)) h one3 rfl rfl ?_; intro f h
    refine s_pure h (ru_val (.bool true) (ru_eql (h.ev rfl) (h.ev rfl)) (congrArg Value.bool h0)) rfl ?_; intro f h
    refine s_pure h (ru_move (h.ev rfl)) rfl ?_; intro f h
    refine s_on h rfl rfl rfl ?_
    refine s_pure h (ru_field fld25_1 (h.ev rfl)) rfl ?_; intro f h
    refine s_on h rfl rfl rfl ?_
    refine s_load_at (Has.subL (Has.of_own s 0 rfl) 1 32 (D := idArr (_)) (mbArr_id _)) h row23 rfl (by first | exact idArr_size _ | exact bytesF_size _ _) rfl ?_; intro f h
    refine s_on h rfl rfl rfl ?_
    refine s_pure h (ru_build0 idTy) rfl ?_; intro f h
    refine s_on h rfl rfl rfl ?_
    refine s_pure h (ru_eql_id idTy (h.ev rfl) (h.ev rfl)) rfl ?_; intro f h
    refine s_pure h (ru_pick_t (h.ev rfl) (h.ev rfl)) rfl ?_; intro f h
    refine s_pure h (ru_assign (h.ev rfl)) rfl ?_; intro f h
    refine s_nil ?_
    refine hK2 _ _ ?_
    refine wpIn_ret ?_
    exact e_tmp rfl h s rfl (by show _ = _; rw [none_1 h0] <;> rfl)

theorem unlike_any (l : List Mb) (vh : Value) (no : Int) (w : World) (hR : RdZ w vh 33 l.length (mbCells l)) (hln : l.length ≤ 1000) : Calls Try.prog 38 [vh, .int .i64 no].toArray w (Ret w (is (.bool (othL l no)))) := by
  refine c_enter Try.func38 rfl Try.ntmps38 rfl [(0, vh), (1, .int .i64 no)] (by simp) fun f h => ?_
  have s := St.start w
  refine c_seq fun K1 hK1 => ?_
  refine c_region ?_
  refine s_pure h (ru_assign (h.ev rfl)) rfl ?_; intro f h
  refine s_nil ?_
  refine hK1 _ _ ?_
  refine c_seq fun K2 hK2 => ?_
  refine c_seq fun K3 hK3 => ?_
  refine c_region ?_
  refine s_pure h (ru_move (h.ev rfl)) rfl ?_; intro f h
  refine s_pure h (ru_lenZ (hR.keep s.ext) Try.underlying26 (h.ev rfl)) rfl ?_; intro f h
  refine s_pure h (ru_move (h.ev rfl)) rfl ?_; intro f h
  refine s_nil ?_
  refine hK3 _ _ ?_
  refine wpIn_block ?_
  refine wpIn_loop_ghost (fun nn aa ww => ∃ k : Nat, Sl 40 aa [(0, vh), (1, .int .i64 no), (9, vh), (10, .int .i64 (l.length : Int)), (11, .int .i64 (k : Int))] ∧ St w [] ww ∧ nn = l.length - k ∧ k ≤ l.length ∧ ∀ j, j < k → badO l no j = false) (l.length - (0)) ⟨0, h.only ⟨rfl, rfl, rfl, rfl, slot_int rfl (by omega), trivial⟩, s.as trivial, rfl, Nat.zero_le _, fun j hj => absurd hj (Nat.not_lt_zero _)⟩ ?_
  rintro _ f w1 ⟨k, h, s, hnn, hp0, hp1⟩
  refine c_seq fun K4 hK4 => ?_
  refine c_region ?_
  refine s_pure h (ru_lss (h.ev rfl) (h.ev rfl)) rfl ?_; intro f h
  refine s_nil ?_
  refine hK4 _ _ ?_
  refine c_seq fun K5 hK5 => ?_
  refine c_cond h rfl (fun hc => ?_) (fun hc => ?_)
  · replace hc := of_decide_eq_true hc
    refine wpIn_skip ?_
    refine hK5 _ _ ?_
    refine c_seq fun K6 hK6 => ?_
    refine wpIn_block ?_
    refine c_seq fun K7 hK7 => ?_
    refine c_region ?_
    refine s_pure h (ru_move (h.ev rfl)) rfl ?_; intro f h
    have hkl : k < l.length := by omega
    refine s_pure h (ru_ixz (hR.keep s.ext) (k) Try.underlying26 szo25 (h.ev rfl) (h.ev rfl) (by omega) (by omega)) rfl ?_; intro f h
    refine s_load_at ((hR.keep s.ext).el (k) (by omega) (by decide) (D := mbArr (l.getD k zMb)) (mb_elD l k hkl)) h row25 rfl (mbArr_size _) rfl ?_; intro f h
    refine s_alloc (mbArr zMb) h s zero25 rfl rfl ?_; intro f w1 b6 h s
    refine s_pure h (ru_assign (h.ev rfl)) rfl ?_; intro f h
    refine s_store_row 0 h s row25 rfl rfl rfl (mbArr_size _) (mbArr_size _) (mbArr_ones _) ?_; intro w1 s
    refine s_nil ?_
    refine hK7 _ _ ?_
    refine c_seq fun K8 hK8 => ?_
    refine c_seq fun K9 hK9 => ?_
    cases k0 : (mayB (l.getD k zMb) : Bool)
    · skip
      refine c_region ?_
      refine s_load_row 0 h s row25 rfl rfl (mbArr_size _) rfl ?_; intro f h
      refine s_call h s fnc37 (ret_val (.bool false) (rmay_any (l.getD k zMb) _) (congrArg Value.bool k0)) rfl rfl ?_; intro f w1 v9 hT hE h s; obtain rfl := hT
      refine s_pure h (ru_val (.bool true) (ru_not (h.ev rfl)) rfl) rfl ?_; intro f h
      refine s_pure h (ru_move (h.ev rfl)) rfl ?_; intro f h
      refine s_off (b := false) h rfl rfl rfl rfl ?_; intro f h
      refine s_off (b := false) h rfl rfl rfl rfl ?_; intro f h
      refine s_off (b := false) h rfl rfl rfl rfl ?_; intro f h
      refine s_off (b := false) h rfl rfl rfl rfl ?_; intro f h
      refine s_pure h (ru_pick_t (h.ev rfl) (h.ev rfl)) rfl ?_; intro f h
      refine s_nil ?_
      refine hK9 _ _ ?_
      refine wpIn_cond_true (h.ev rfl) ?_
      refine c_seq fun K10 hK10 => ?_
      refine c_region ?_
      refine s_pure h (ru_assign (h.ev rfl)) rfl ?_; intro f h
      refine s_nil ?_
      refine hK10 _ _ ?_
      refine wpIn_ret ?_
      refine t_ret ?_
      refine b_ret ?_
      refine t_ret ?_
      refine t_ret ?_
      refine b_ret ?_
      refine t_ret ?_
      exact e_tmp rfl h s rfl (by show _ = _; rw [oth_left hkl (badO_0 k0)])
    · skip
      cases k1 : (decide ((l.getD k zMb).1 = no) : Bool)
      · skip
        refine c_region ?_
        refine s_load_row 0 h s row25 rfl rfl (mbArr_size _) rfl ?_; intro f h
        refine s_call h s fnc37 (ret_val (.bool true) (rmay_any (l.getD k zMb) _) (congrArg Value.bool k0)) rfl rfl ?_; intro f w1 v9 hT hE h s; obtain rfl := hT
        refine s_pure h (ru_val (.bool false) (ru_not (h.ev rfl)) rfl) rfl ?_; intro f h
        refine s_pure h (ru_move (h.ev rfl)) rfl ?_; intro f h
        refine s_on h rfl rfl rfl ?_
        refine s_pure h (ru_field fld25_0 (h.ev rfl)) rfl ?_; intro f h
        refine s_on h rfl rfl rfl ?_
        refine s_load_at1 (cell_of_has (Has.of_own s 0 rfl) 0 (mbArr_no _)) h one3 rfl rfl ?_; intro f h
        refine s_on h rfl rfl rfl ?_
        refine s_pure h (ru_move (h.ev rfl)) rfl ?_; intro f h
        refine s_on h rfl rfl rfl ?_
        refine s_pure h (ru_val (.bool false) (ru_eql (h.ev rfl) (h.ev rfl)) (congrArg Value.bool k1)) rfl ?_; intro f h
        refine s_pure h (ru_pick_f (h.ev rfl) (h.ev rfl)) rfl ?_; intro f h
        refine s_nil ?_
        refine hK9 _ _ ?_
        refine wpIn_cond_false (h.ev rfl) ?_
        refine wpIn_skip ?_
        refine hK8 _ _ ?_
        refine c_seq fun K11 hK11 => ?_
        refine c_region ?_
        have hq1 := hp1
        have hlt9 : (l.take k).length = k := by rw [List.length_take]; omega
        refine s_pure h (ru_move (h.ev rfl)) rfl ?_; intro f h
        refine s_pure h (ru_move (h.ev rfl)) rfl ?_; intro f h
        refine s_pure h (ru_slice_hiZ (hR.keep s.ext) (k) Try.underlying26 szo25 (h.ev rfl) (h.ev rfl) (rfl) (by omega)) rfl ?_; intro f h
        refine s_pure h (ru_lenZ ((mb_take hR k (by omega)).keep s.ext) Try.underlying26 (h.ev rfl)) rfl ?_; intro f h
        refine s_pure h (ru_move (h.ev rfl)) rfl ?_; intro f h
        refine s_nil ?_
        refine hK11 _ _ ?_
        refine wpIn_block ?_
        refine wpIn_loop_ghost (fun nn aa ww => ∃ j : Nat, Sl 40 aa [(0, vh), (1, .int .i64 no), (6, .pointer (some ⟨b6, 0, none⟩)), (9, vh), (10, .int .i64 (l.length : Int)), (11, .int .i64 (k : Int)), (27, cutV vh k), (28, .int .i64 ((l.take k).length : Int)), (29, .int .i64 (j : Int))] ∧ St w [.blk b6 (.cells (mbArr (l.getD k zMb)) 25)] ww ∧ nn = k - j ∧ j ≤ k ∧ ∀ i, i < j → decide ((l.getD i zMb).1 = (l.getD k zMb).1) = false) (k - (0)) ⟨0, h.only ⟨rfl, rfl, rfl, rfl, rfl, rfl, rfl, rfl, slot_int rfl (by omega), trivial⟩, s.as ⟨rfl, trivial⟩, rfl, Nat.zero_le _, fun j hj => absurd hj (Nat.not_lt_zero _)⟩ ?_
        rintro _ f w1 ⟨j, h, s, hnn, hp0, hp1⟩
        refine c_seq fun K12 hK12 => ?_
        refine c_region ?_
        refine s_pure h (ru_lss (h.ev rfl) (h.ev rfl)) rfl ?_; intro f h
        refine s_nil ?_
        refine hK12 _ _ ?_
        refine c_seq fun K13 hK13 => ?_
        refine c_cond h rfl (fun hc => ?_) (fun hc => ?_)
        · replace hc := of_decide_eq_true hc
          refine wpIn_skip ?_
          refine hK13 _ _ ?_
          refine c_seq fun K14 hK14 => ?_
          refine wpIn_block ?_
          refine c_seq fun K15 hK15 => ?_
          refine c_region ?_
          have hjk : j < k := by omega
          refine s_pure h (ru_ixz ((mb_take hR k (by omega)).keep s.ext) (j) Try.underlying26 szo25 (h.ev rfl) (h.ev rfl) (by omega) (by omega)) rfl ?_; intro f h
          refine s_load_at (((mb_take hR k (by omega)).keep s.ext).el (j) (by omega) (by decide) (D := mbArr (l.getD j zMb)) (mb_elT l hjk (by omega))) h row25 rfl (mbArr_size _) rfl ?_; intro f h
          refine s_alloc (mbArr zMb) h s zero25 rfl rfl ?_; intro f w1 b8 h s
          refine s_store_row 0 h s row25 rfl rfl rfl (mbArr_size _) (mbArr_size _) (mbArr_ones _) ?_; intro w1 s
          refine s_nil ?_
          refine hK15 _ _ ?_
          refine c_seq fun K16 hK16 => ?_
          refine c_region ?_
          refine s_pure h (ru_field fld25_0 (h.ev rfl)) rfl ?_; intro f h
          refine s_load_at1 (cell_of_has (Has.of_own s 0 rfl) 0 (mbArr_no _)) h one3 rfl rfl ?_; intro f h
          refine s_pure h (ru_field fld25_0 (h.ev rfl)) rfl ?_; intro f h
          refine s_load_at1 (cell_of_has (Has.of_own s 1 rfl) 0 (mbArr_no _)) h one3 rfl rfl ?_; intro f h
          refine s_pure h (ru_eql (h.ev rfl) (h.ev rfl)) rfl ?_; intro f h
          refine s_nil ?_
          refine hK16 _ _ ?_
          refine c_cond h rfl (fun hc => ?_) (fun hc => ?_)
          · refine c_seq fun K17 hK17 => ?_
            refine c_region ?_
            refine s_pure h (ru_assign (h.ev rfl)) rfl ?_; intro f h
            refine s_nil ?_
            refine hK17 _ _ ?_
            refine wpIn_ret ?_
            refine b_ret ?_
            refine t_ret ?_
            refine t_ret ?_
            refine b_ret ?_
            refine b_ret ?_
            refine t_ret ?_
            refine t_ret ?_
            refine b_ret ?_
            refine t_ret ?_
            exact e_tmp rfl h s rfl (by show _ = _; rw [oth_left hkl ((badO_2 k0 k1).trans (any_takeT (p := fun x => decide (x.1 = (l.getD k zMb).1)) (by omega) hjk hc))])
          · refine wpIn_skip ?_
            refine b_norm ?_
            refine hK14 _ _ ?_
            refine c_region ?_
            refine s_pure h (ru_add (h.ev rfl) (h.ev rfl) (by omega)) rfl ?_; intro f h
            refine s_pure h (ru_move (h.ev rfl)) rfl ?_; intro f h
            refine s_nil ?_
            refine t_norm ?_
            exact ⟨_, by omega, ⟨j + 1, h.only ⟨rfl, rfl, rfl, rfl, rfl, rfl, rfl, rfl, slot_int rfl (by omega), trivial⟩, St.as (s.pick _ (List.sublist_append_right [_] _)) ⟨rfl, trivial⟩, rfl, by omega, qs_next (q := fun i => decide ((l.getD i zMb).1 = (l.getD k zMb).1)) hp1 hc⟩⟩
        · replace hc := of_decide_eq_false hc
          refine wpIn_exit ?_
          refine t_exit ?_
          refine t_exit ?_
          refine b_exit ?_
          refine b_norm ?_
          refine hK6 _ _ ?_
          refine c_region ?_
          refine s_pure h (ru_add (h.ev rfl) (h.ev rfl) (by omega)) rfl ?_; intro f h
          refine s_pure h (ru_move (h.ev rfl)) rfl ?_; intro f h
          refine s_nil ?_
          refine t_norm ?_
          have hb9 : badO l no k = false := (badO_2 k0 k1).trans (any_take (p := fun x => decide (x.1 = (l.getD k zMb).1)) (by omega) (fun i hi => hp1 i (by omega)))
          exact ⟨_, by omega, ⟨k + 1, h.only ⟨rfl, rfl, rfl, rfl, slot_int rfl (by omega), trivial⟩, St.as (s.pick _ (List.sublist_append_right [_] _)) trivial, rfl, by omega, qs_next hq1 hb9⟩⟩
      · skip
        refine c_region ?_
        refine s_load_row 0 h s row25 rfl rfl (mbArr_size _) rfl ?_; intro f h
        refine s_call h s fnc37 (ret_val (.bool true) (rmay_any (l.getD k zMb) _) (congrArg Value.bool k0)) rfl rfl ?_; intro f w1 v9 hT hE h s; obtain rfl := hT
        refine s_pure h (ru_val (.bool false) (ru_not (h.ev rfl)) rfl) rfl ?_; intro f h
        refine s_pure h (ru_move (h.ev rfl)) rfl ?_; intro f h
        refine s_on h rfl rfl rfl ?_
        refine s_pure h (ru_field fld25_0 (h.ev rfl)) rfl ?_; intro f h
        refine s_on h rfl rfl rfl ?_
        refine s_load_at1 (cell_of_has (Has.of_own s 0 rfl) 0 (mbArr_no _)) h one3 rfl rfl ?_; intro f h
        refine s_on h rfl rfl rfl ?_
        refine s_pure h (ru_move (h.ev rfl)) rfl ?_; intro f h
        refine s_on h rfl rfl rfl ?_
        refine s_pure h (ru_val (.bool true) (ru_eql (h.ev rfl) (h.ev rfl)) (congrArg Value.bool k1)) rfl ?_; intro f h
        refine s_pure h (ru_pick_f (h.ev rfl) (h.ev rfl)) rfl ?_; intro f h
        refine s_nil ?_
        refine hK9 _ _ ?_
        refine wpIn_cond_true (h.ev rfl) ?_
        refine c_seq fun K18 hK18 => ?_
        refine c_region ?_
        refine s_pure h (ru_assign (h.ev rfl)) rfl ?_; intro f h
        refine s_nil ?_
        refine hK18 _ _ ?_
        refine wpIn_ret ?_
        refine t_ret ?_
        refine b_ret ?_
        refine t_ret ?_
        refine t_ret ?_
        refine b_ret ?_
        refine t_ret ?_
        exact e_tmp rfl h s rfl (by show _ = _; rw [oth_left hkl (badO_1 k1)])
  · replace hc := of_decide_eq_false hc
    refine wpIn_exit ?_
    refine t_exit ?_
    refine t_exit ?_
    refine b_exit ?_
    refine hK2 _ _ ?_
    refine c_seq fun K19 hK19 => ?_
    refine c_region ?_
    refine s_pure h (ru_assign (h.ev rfl)) rfl ?_; intro f h
    refine s_nil ?_
    refine hK19 _ _ ?_
    refine wpIn_ret ?_
    exact e_tmp rfl h s rfl (by show _ = _; rw [oth_done (by omega) hp1])

theorem same_any (l r : List Mb) (vh vu : Value) (w : World) (hR : RdZ w vh 33 l.length (mbCells l)) (hS : RdZ w vu 33 r.length (mbCells r)) (hln : l.length ≤ 1000) (hln2 : r.length ≤ 1000) : Calls Try.prog 36 [vh, vu].toArray w (Ret w (is (.bool (decide (l = r))))) := by
  refine c_enter Try.func36 rfl Try.ntmps36 rfl [(0, vh), (1, vu)] (by simp) fun f h => ?_
  have s := St.start w
  refine c_seq fun K1 hK1 => ?_
  refine c_region ?_
  refine s_pure h (ru_assign (h.ev rfl)) rfl ?_; intro f h
  refine s_nil ?_
  refine hK1 _ _ ?_
  refine c_seq fun K2 hK2 => ?_
  refine c_seq fun K3 hK3 => ?_
  refine c_region ?_
  refine s_pure h (ru_move (h.ev rfl)) rfl ?_; intro f h
  refine s_pure h (ru_lenZ (hR.keep s.ext) Try.underlying26 (h.ev rfl)) rfl ?_; intro f h
  refine s_pure h (ru_move (h.ev rfl)) rfl ?_; intro f h
  refine s_pure h (ru_lenZ (hS.keep s.ext) Try.underlying26 (h.ev rfl)) rfl ?_; intro f h
  refine s_pure h (ru_neq (h.ev rfl) (h.ev rfl)) rfl ?_; intro f h
  refine s_nil ?_
  refine hK3 _ _ ?_
  refine c_cond h rfl (fun hc => ?_) (fun hc => ?_)
  · replace hc := hc
    refine c_seq fun K4 hK4 => ?_
    refine c_region ?_
    refine s_pure h (ru_assign (h.ev rfl)) rfl ?_; intro f h
    refine s_nil ?_
    refine hK4 _ _ ?_
    refine wpIn_ret ?_
    refine t_ret ?_
    exact e_tmp rfl h s rfl ((by show _ = _; rw [decide_eq_false (fun e => by subst e; simp at hc)]))
  · have hl9 : l.length = r.length := by have := hc; simp at this; omega
    refine wpIn_skip ?_
    refine hK2 _ _ ?_
    refine c_seq fun K5 hK5 => ?_
    refine c_seq fun K6 hK6 => ?_
    refine c_region ?_
    refine s_pure h (ru_move (h.ev rfl)) rfl ?_; intro f h
    refine s_pure h (ru_lenZ (hR.keep s.ext) Try.underlying26 (h.ev rfl)) rfl ?_; intro f h
    refine s_pure h (ru_move (h.ev rfl)) rfl ?_; intro f h
    refine s_nil ?_
    refine hK6 _ _ ?_
    refine wpIn_block ?_
    refine wpIn_loop_ghost (fun nn aa ww => ∃ k : Nat, Sl 26 aa [(0, vh), (1, vu), (11, vh), (12, .int .i64 (l.length : Int)), (13, .int .i64 (k : Int))] ∧ St w [] ww ∧ nn = l.length - k ∧ k ≤ l.length ∧ ∀ j, j < k → l.getD j zMb = r.getD j zMb) (l.length - (0)) ⟨0, h.only ⟨rfl, rfl, rfl, rfl, slot_int rfl (by omega), trivial⟩, s.as trivial, rfl, Nat.zero_le _, fun j hj => absurd hj (Nat.not_lt_zero _)⟩ ?_
    rintro _ f w1 ⟨k, h, s, hnn, hp0, hp1⟩
    refine c_seq fun K7 hK7 => ?_
    refine c_region ?_
    refine s_pure h (ru_lss (h.ev rfl) (h.ev rfl)) rfl ?_; intro f h
    refine s_nil ?_
    refine hK7 _ _ ?_
    refine c_seq fun K8 hK8 => ?_
    refine c_cond h rfl (fun hc => ?_) (fun hc => ?_)
    · replace hc := of_decide_eq_true hc
      refine wpIn_skip ?_
      refine hK8 _ _ ?_
      refine c_seq fun K9 hK9 => ?_
      refine wpIn_block ?_
      refine c_seq fun K10 hK10 => ?_
      refine c_region ?_
      refine s_pure h (ru_move (h.ev rfl)) rfl ?_; intro f h
      refine s_pure h (ru_assign (h.ev rfl)) rfl ?_; intro f h
      refine s_nil ?_
      refine hK10 _ _ ?_
      refine c_seq fun K11 hK11 => ?_
      refine c_walkN 9 [[], [], [0, 1], [0, 1, 2], [], [], [4, 5], [4, 5, 6], [0, 1, 2, 3, 4, 5, 6, 7]] h (by kernel_rfl) (by kernel_rfl) (by kernel_rfl) ?_
      have hka : k < l.length := by omega
      have hkb : k < r.length := by omega
      refine w_pure h (ru_move (h.ev rfl)) rfl ?_; intro f h
      refine w_pure h (ru_move (h.ev rfl)) rfl ?_; intro f h
      refine w_pure h (ru_ixz (hR.keep s.ext) (k) Try.underlying26 szo25 (h.ev rfl) (h.ev rfl) (by omega) (by omega)) rfl ?_; intro f h
      refine w_load_at ((hR.keep s.ext).el (k) (by omega) (by decide) (D := mbArr (l.getD k zMb)) (mb_elD l k hka)) h row25 rfl (mbArr_size _) rfl ?_; intro f h
      refine w_pure h (ru_move (h.ev rfl)) rfl ?_; intro f h
      refine w_pure h (ru_move (h.ev rfl)) rfl ?_; intro f h
      refine w_pure h (ru_ixz (hS.keep s.ext) (k) Try.underlying26 szo25 (h.ev rfl) (h.ev rfl) (by omega) (by omega)) rfl ?_; intro f h
      refine w_load_at ((hS.keep s.ext).el (k) (by omega) (by decide) (D := mbArr (r.getD k zMb)) (mb_elD r k hkb)) h row25 rfl (mbArr_size _) rfl ?_; intro f h
      refine w_pure h (ru_neqW (eqM _ _) (by kernel_rfl) (by decide) (h.ev rfl) (h.ev rfl) (decide ((l.getD k zMb) = r.getD k zMb)) (mbEq _ _)) rfl ?_; intro f h
      refine w_nil s fun w1 s => ?_
      refine s_nil ?_
      refine hK11 _ _ ?_
      refine c_cond h rfl (fun hc => ?_) (fun hc => ?_)
      · refine c_seq fun K12 hK12 => ?_
        refine c_region ?_
        refine s_pure h (ru_assign (h.ev rfl)) rfl ?_; intro f h
        refine s_nil ?_
        refine hK12 _ _ ?_
        refine wpIn_ret ?_
        refine b_ret ?_
        refine t_ret ?_
        refine t_ret ?_
        refine b_ret ?_
        refine t_ret ?_
        exact e_tmp rfl h s rfl ((by show _ = _; rw [decide_eq_false (fun e => by subst e; simp at hc)]))
      · refine wpIn_skip ?_
        refine b_norm ?_
        refine hK9 _ _ ?_
        refine c_region ?_
        refine s_pure h (ru_add (h.ev rfl) (h.ev rfl) (by omega)) rfl ?_; intro f h
        refine s_pure h (ru_move (h.ev rfl)) rfl ?_; intro f h
        refine s_nil ?_
        refine t_norm ?_
        exact ⟨_, by omega, ⟨k + 1, h.only ⟨rfl, rfl, rfl, rfl, slot_int rfl (by omega), trivial⟩, St.as s trivial, rfl, by omega, eqM_next hp1 (by simpa using hc)⟩⟩
    · replace hc := of_decide_eq_false hc
      refine wpIn_exit ?_
      refine t_exit ?_
      refine t_exit ?_
      refine b_exit ?_
      refine hK5 _ _ ?_
      refine c_seq fun K13 hK13 => ?_
      refine c_region ?_
      refine s_pure h (ru_assign (h.ev rfl)) rfl ?_; intro f h
      refine s_nil ?_
      refine hK13 _ _ ?_
      refine wpIn_ret ?_
      exact e_tmp rfl h s rfl ((by show _ = _; rw [decide_eq_true (eqM_yes hl9 (fun j hj => hp1 j (by omega)))]))

theorem like_any (a b : Nd) (u1 u2 v1 v2 : Value) (w : World) (hA1 : RdZ w u1 33 a.sc.length (mbCells a.sc)) (hA2 : RdZ w u2 33 a.fg.length (mbCells a.fg)) (hB1 : RdZ w v1 33 b.sc.length (mbCells b.sc)) (hB2 : RdZ w v2 33 b.fg.length (mbCells b.fg)) (ha1 : a.sc.length ≤ 1000) (ha2 : a.fg.length ≤ 1000) (hb1 : b.sc.length ≤ 1000) (hb2 : b.fg.length ≤ 1000) : Calls Try.prog 13 [.agg (ndArr a.me a.pr u1 u2), .agg (ndArr b.me b.pr v1 v2)].toArray w (Ret w (is (.bool (likeN a b)))) := by
  refine c_enter Try.func13 rfl Try.ntmps13 rfl [(0, .agg (ndArr a.me a.pr u1 u2)), (1, .agg (ndArr b.me b.pr v1 v2))] (by simp) fun f h => ?_
  have s := St.start w
  refine c_seq fun K1 hK1 => ?_
  refine c_region ?_
  refine s_box (ndArr a.me a.pr u1 u2) h s rfl rfl rfl ?_; intro f w1 b2 h s
  refine s_box (ndArr b.me b.pr v1 v2) h s rfl rfl rfl ?_; intro f w1 b3 h s
  refine s_pure h (ru_assign (h.ev rfl)) rfl ?_; intro f h
  refine s_nil ?_
  refine hK1 _ _ ?_
  refine c_seq fun K2 hK2 => ?_
  cases e0 : (decide (a.me = b.me) : Bool)
  · skip
    refine c_region ?_
    refine s_pure h (ru_field fld28_0 (h.ev rfl)) rfl ?_; intro f h
    refine s_load_at (Has.subL (Has.of_own s 1 rfl) 0 33 (D := mbArr a.me) (ndArr_me _ _ _ _)) h row25 rfl (mbArr_size _) rfl ?_; intro f h
    refine s_pure h (ru_field fld28_0 (h.ev rfl)) rfl ?_; intro f h
    refine s_load_at (Has.subL (Has.of_own s 0 rfl) 0 33 (D := mbArr b.me) (ndArr_me _ _ _ _)) h row25 rfl (mbArr_size _) rfl ?_; intro f h
    refine s_pure h (ru_val (.bool false) (ru_eqlW (eqM _ _) (by kernel_rfl) (by decide) (h.ev rfl) (h.ev rfl) (decide (a.me = b.me)) (mbEq _ _)) (congrArg Value.bool e0)) rfl ?_; intro f h
    refine s_pure h (ru_move (h.ev rfl)) rfl ?_; intro f h
    refine s_off (b := true) h rfl rfl rfl rfl ?_; intro f h
    refine s_off (b := true) h rfl rfl rfl rfl ?_; intro f h
    refine s_off (b := true) h rfl rfl rfl rfl ?_; intro f h
    refine s_off (b := true) h rfl rfl rfl rfl ?_; intro f h
    refine s_off (b := true) h rfl rfl rfl rfl ?_; intro f h
    refine s_pure h (ru_pick_f (h.ev rfl) (h.ev rfl)) rfl ?_; intro f h
    refine s_pure h (ru_move (h.ev rfl)) rfl ?_; intro f h
    refine s_off (b := true) h rfl rfl rfl rfl ?_; intro f h
    refine s_off (b := true) h rfl rfl rfl rfl ?_; intro f h
    refine s_off (b := true) h rfl rfl rfl rfl ?_; intro f h
    refine s_off (b := true) h rfl rfl rfl rfl ?_; intro f h
    refine s_off (b := true) h rfl rfl rfl rfl ?_; intro f h
    refine s_pure h (ru_pick_f (h.ev rfl) (h.ev rfl)) rfl ?_; intro f h
    refine s_pure h (ru_move (h.ev rfl)) rfl ?_; intro f h
    refine s_off (b := true) h rfl rfl rfl rfl ?_; intro f h
    refine s_off (b := true) h rfl rfl rfl rfl ?_; intro f h
    refine s_off (b := true) h rfl rfl rfl rfl ?_; intro f h
    refine s_off (b := true) h rfl rfl rfl rfl ?_; intro f h
    refine s_off (b := true) h rfl rfl rfl rfl ?_; intro f h
    refine s_pure h (ru_pick_f (h.ev rfl) (h.ev rfl)) rfl ?_; intro f h
    refine s_pure h (ru_assign (h.ev rfl)) rfl ?_; intro f h
    refine s_nil ?_
    refine hK2 _ _ ?_
    refine wpIn_ret ?_
    exact e_tmp rfl h s rfl (by show _ = _; rw [lk_0 e0])
  · skip
    cases e1 : (decide (a.pr = b.pr) : Bool)
    · skip
      refine c_region ?_
      refine s_pure h (ru_field fld28_0 (h.ev rfl)) rfl ?_; intro f h
      refine s_load_at (Has.subL (Has.of_own s 1 rfl) 0 33 (D := mbArr a.me) (ndArr_me _ _ _ _)) h row25 rfl (mbArr_size _) rfl ?_; intro f h
      refine s_pure h (ru_field fld28_0 (h.ev rfl)) rfl ?_; intro f h
      refine s_load_at (Has.subL (Has.of_own s 0 rfl) 0 33 (D := mbArr b.me) (ndArr_me _ _ _ _)) h row25 rfl (mbArr_size _) rfl ?_; intro f h
      refine s_pure h (ru_val (.bool true) (ru_eqlW (eqM _ _) (by kernel_rfl) (by decide) (h.ev rfl) (h.ev rfl) (decide (a.me = b.me)) (mbEq _ _)) (congrArg Value.bool e0)) rfl ?_; intro f h
      refine s_pure h (ru_move (h.ev rfl)) rfl ?_; intro f h
      refine s_on h rfl rfl rfl ?_
      refine s_pure h (ru_field fld28_1 (h.ev rfl)) rfl ?_; intro f h
      refine s_on h rfl rfl rfl ?_
      refine s_load_at (Has.subL (Has.of_own s 1 rfl) 33 33 (D := mbArr a.pr) (ndArr_pr _ _ _ _)) h row25 rfl (mbArr_size _) rfl ?_; intro f h
      refine s_on h rfl rfl rfl ?_
      refine s_pure h (ru_field fld28_1 (h.ev rfl)) rfl ?_; intro f h
      refine s_on h rfl rfl rfl ?_
      refine s_load_at (Has.subL (Has.of_own s 0 rfl) 33 33 (D := mbArr b.pr) (ndArr_pr _ _ _ _)) h row25 rfl (mbArr_size _) rfl ?_; intro f h
      refine s_on h rfl rfl rfl ?_
      refine s_pure h (ru_val (.bool false) (ru_eqlW (eqM _ _) (by kernel_rfl) (by decide) (h.ev rfl) (h.ev rfl) (decide (a.pr = b.pr)) (mbEq _ _)) (congrArg Value.bool e1)) rfl ?_; intro f h
      refine s_pure h (ru_pick_t (h.ev rfl) (h.ev rfl)) rfl ?_; intro f h
      refine s_pure h (ru_move (h.ev rfl)) rfl ?_; intro f h
      refine s_off (b := true) h rfl rfl rfl rfl ?_; intro f h
      refine s_off (b := true) h rfl rfl rfl rfl ?_; intro f h
      refine s_off (b := true) h rfl rfl rfl rfl ?_; intro f h
      refine s_off (b := true) h rfl rfl rfl rfl ?_; intro f h
      refine s_off (b := true) h rfl rfl rfl rfl ?_; intro f h
      refine s_pure h (ru_pick_f (h.ev rfl) (h.ev rfl)) rfl ?_; intro f h
      refine s_pure h (ru_move (h.ev rfl)) rfl ?_; intro f h
      refine s_off (b := true) h rfl rfl rfl rfl ?_; intro f h
      refine s_off (b := true) h rfl rfl rfl rfl ?_; intro f h
      refine s_off (b := true) h rfl rfl rfl rfl ?_; intro f h
      refine s_off (b := true) h rfl rfl rfl rfl ?_; intro f h
      refine s_off (b := true) h rfl rfl rfl rfl ?_; intro f h
      refine s_pure h (ru_pick_f (h.ev rfl) (h.ev rfl)) rfl ?_; intro f h
      refine s_pure h (ru_assign (h.ev rfl)) rfl ?_; intro f h
      refine s_nil ?_
      refine hK2 _ _ ?_
      refine wpIn_ret ?_
      exact e_tmp rfl h s rfl (by show _ = _; rw [lk_1 e1])
    · skip
      cases e2 : (decide (a.sc = b.sc) : Bool)
      · skip
        refine c_region ?_
        refine s_pure h (ru_field fld28_0 (h.ev rfl)) rfl ?_; intro f h
        refine s_load_at (Has.subL (Has.of_own s 1 rfl) 0 33 (D := mbArr a.me) (ndArr_me _ _ _ _)) h row25 rfl (mbArr_size _) rfl ?_; intro f h
        refine s_pure h (ru_field fld28_0 (h.ev rfl)) rfl ?_; intro f h
        refine s_load_at (Has.subL (Has.of_own s 0 rfl) 0 33 (D := mbArr b.me) (ndArr_me _ _ _ _)) h row25 rfl (mbArr_size _) rfl ?_; intro f h
        refine s_pure h (ru_val (.bool true) (ru_eqlW (eqM _ _) (by kernel_rfl) (by decide) (h.ev rfl) (h.ev rfl) (decide (a.me = b.me)) (mbEq _ _)) (congrArg Value.bool e0)) rfl ?_; intro f h
        refine s_pure h (ru_move (h.ev rfl)) rfl ?_; intro f h
        refine s_on h rfl rfl rfl ?_
        refine s_pure h (ru_field fld28_1 (h.ev rfl)) rfl ?_; intro f h
        refine s_on h rfl rfl rfl ?_
        refine s_load_at (Has.subL (Has.of_own s 1 rfl) 33 33 (D := mbArr a.pr) (ndArr_pr _ _ _ _)) h row25 rfl (mbArr_size _) rfl ?_; intro f h
        refine s_on h rfl rfl rfl ?_
        refine s_pure h (ru_field fld28_1 (h.ev rfl)) rfl ?_; intro f h
        refine s_on h rfl rfl rfl ?_
        refine s_load_at (Has.subL (Has.of_own s 0 rfl) 33 33 (D := mbArr b.pr) (ndArr_pr _ _ _ _)) h row25 rfl (mbArr_size _) rfl ?_; intro f h
        refine s_on h rfl rfl rfl ?_
        refine s_pure h (ru_val (.bool true) (ru_eqlW (eqM _ _) (by kernel_rfl) (by decide) (h.ev rfl) (h.ev rfl) (decide (a.pr = b.pr)) (mbEq _ _)) (congrArg Value.bool e1)) rfl ?_; intro f h
        refine s_pure h (ru_pick_t (h.ev rfl) (h.ev rfl)) rfl ?_; intro f h
        refine s_pure h (ru_move (h.ev rfl)) rfl ?_; intro f h
        refine s_on h rfl rfl rfl ?_
        refine s_pure h (ru_field fld28_2 (h.ev rfl)) rfl ?_; intro f h
        refine s_on h rfl rfl rfl ?_
        refine s_load_at1 (V := u1) (cell_of_has (Has.of_own s 1 rfl) 66 (ndArr_sc _ _ _ _)) h one26 rfl rfl ?_; intro f h
        refine s_on h rfl rfl rfl ?_
        refine s_pure h (ru_field fld28_2 (h.ev rfl)) rfl ?_; intro f h
        refine s_on h rfl rfl rfl ?_
        refine s_load_at1 (V := v1) (cell_of_has (Has.of_own s 0 rfl) 66 (ndArr_sc _ _ _ _)) h one26 rfl rfl ?_; intro f h
        refine s_on h rfl rfl rfl ?_
        refine s_call h s fnc36 (ret_val (.bool false) (same_any a.sc b.sc u1 v1 _ (hA1.keep s.ext) (hB1.keep s.ext) ha1 hb1) (congrArg Value.bool e2)) rfl rfl ?_; intro f w1 v9 hT hE h s; obtain rfl := hT
        refine s_pure h (ru_pick_t (h.ev rfl) (h.ev rfl)) rfl ?_; intro f h
        refine s_pure h (ru_move (h.ev rfl)) rfl ?_; intro f h
        refine s_off (b := true) h rfl rfl rfl rfl ?_; intro f h
        refine s_off (b := true) h rfl rfl rfl rfl ?_; intro f h
        refine s_off (b := true) h rfl rfl rfl rfl ?_; intro f h
        refine s_off (b := true) h rfl rfl rfl rfl ?_; intro f h
        refine s_off (b := true) h rfl rfl rfl rfl ?_; intro f h
        refine s_pure h (ru_pick_f (h.ev rfl) (h.ev rfl)) rfl ?_; intro f h
        refine s_pure h (ru_assign (h.ev rfl)) rfl ?_; intro f h
        refine s_nil ?_
        refine hK2 _ _ ?_
        refine wpIn_ret ?_
        exact e_tmp rfl h s rfl (by show _ = _; rw [lk_2 e2])
      · skip
        refine c_region ?_
        refine s_pure h (ru_field fld28_0 (h.ev rfl)) rfl ?_; intro f h
        refine s_load_at (Has.subL (Has.of_own s 1 rfl) 0 33 (D := mbArr a.me) (ndArr_me _ _ _ _)) h row25 rfl (mbArr_size _) rfl ?_; intro f h
        refine s_pure h (ru_field fld28_0 (h.ev rfl)) rfl ?_; intro f h
        refine s_load_at (Has.subL (Has.of_own s 0 rfl) 0 33 (D := mbArr b.me) (ndArr_me _ _ _ _)) h row25 rfl (mbArr_size _) rfl ?_; intro f h
        refine s_pure h (ru_val (.bool true) (ru_eqlW (eqM _ _) (by kernel_rfl) (by decide) (h.ev rfl) (h.ev rfl) (decide (a.me = b.me)) (mbEq _ _)) (congrArg Value.bool e0)) rfl ?_; intro f h
        refine s_pure h (ru_move (h.ev rfl)) rfl ?_; intro f h
        refine s_on h rfl rfl rfl ?_
        refine s_pure h (ru_field fld28_1 (h.ev rfl)) rfl ?_; intro f h
        refine s_on h rfl rfl rfl ?_
        refine s_load_at (Has.subL (Has.of_own s 1 rfl) 33 33 (D := mbArr a.pr) (ndArr_pr _ _ _ _)) h row25 rfl (mbArr_size _) rfl ?_; intro f h
        refine s_on h rfl rfl rfl ?_
        refine s_pure h (ru_field fld28_1 (h.ev rfl)) rfl ?_; intro f h
        refine s_on h rfl rfl rfl ?_
        refine s_load_at (Has.subL (Has.of_own s 0 rfl) 33 33 (D := mbArr b.pr) (ndArr_pr _ _ _ _)) h row25 rfl (mbArr_size _) rfl ?_; intro f h
        refine s_on h rfl rfl rfl ?_
        refine s_pure h (ru_val (.bool true) (ru_eqlW (eqM _ _) (by kernel_rfl) (by decide) (h.ev rfl) (h.ev rfl) (decide (a.pr = b.pr)) (mbEq _ _)) (congrArg Value.bool e1)) rfl ?_; intro f h
        refine s_pure h (ru_pick_t (h.ev rfl) (h.ev rfl)) rfl ?_; intro f h
        refine s_pure h (ru_move (h.ev rfl)) rfl ?_; intro f h
        refine s_on h rfl rfl rfl ?_
        refine s_pure h (ru_field fld28_2 (h.ev rfl)) rfl ?_; intro f h
        refine s_on h rfl rfl rfl ?_
        refine s_load_at1 (V := u1) (cell_of_has (Has.of_own s 1 rfl) 66 (ndArr_sc _ _ _ _)) h one26 rfl rfl ?_; intro f h
        refine s_on h rfl rfl rfl ?_
        refine s_pure h (ru_field fld28_2 (h.ev rfl)) rfl ?_; intro f h
        refine s_on h rfl rfl rfl ?_
        refine s_load_at1 (V := v1) (cell_of_has (Has.of_own s 0 rfl) 66 (ndArr_sc _ _ _ _)) h one26 rfl rfl ?_; intro f h
        refine s_on h rfl rfl rfl ?_
        refine s_call h s fnc36 (ret_val (.bool true) (same_any a.sc b.sc u1 v1 _ (hA1.keep s.ext) (hB1.keep s.ext) ha1 hb1) (congrArg Value.bool e2)) rfl rfl ?_; intro f w1 v9 hT hE h s; obtain rfl := hT
        refine s_pure h (ru_pick_t (h.ev rfl) (h.ev rfl)) rfl ?_; intro f h
        refine s_pure h (ru_move (h.ev rfl)) rfl ?_; intro f h
        refine s_on h rfl rfl rfl ?_
        refine s_pure h (ru_field fld28_3 (h.ev rfl)) rfl ?_; intro f h
        refine s_on h rfl rfl rfl ?_
        refine s_load_at1 (V := u2) (cell_of_has (Has.of_own s 1 rfl) 67 (ndArr_fg _ _ _ _)) h one26 rfl rfl ?_; intro f h
        refine s_on h rfl rfl rfl ?_
        refine s_pure h (ru_field fld28_3 (h.ev rfl)) rfl ?_; intro f h
        refine s_on h rfl rfl rfl ?_
        refine s_load_at1 (V := v2) (cell_of_has (Has.of_own s 0 rfl) 67 (ndArr_fg _ _ _ _)) h one26 rfl rfl ?_; intro f h
        refine s_on h rfl rfl rfl ?_
        refine s_call h s fnc36 (same_any a.fg b.fg u2 v2 _ (hA2.keep s.ext) (hB2.keep s.ext) ha2 hb2) rfl rfl ?_; intro f w1 v9 hT hE h s; obtain rfl := hT
        refine s_pure h (ru_pick_t (h.ev rfl) (h.ev rfl)) rfl ?_; intro f h
        refine s_pure h (ru_assign (h.ev rfl)) rfl ?_; intro f h
        refine s_nil ?_
        refine hK2 _ _ ?_
        refine wpIn_ret ?_
        exact e_tmp rfl h s rfl (by show _ = _; rw [lk_3 e0 e1 e2])

set_option maxHeartbeats 1000000 in
theorem rnright_any (n : Nd) (vs vf : Value) (w : World) (hRs : RdZ w vs 33 n.sc.length (mbCells n.sc)) (hRf : RdZ w vf 33 n.fg.length (mbCells n.fg)) (hns : n.sc.length ≤ 1000) (hnf : n.fg.length ≤ 1000) : Calls Try.prog 15 [.agg (ndArr n.me n.pr vs vf)].toArray w (Ret w (is (.bool (rightN n)))) := by
  refine c_enter Try.func15 rfl Try.ntmps15 rfl [(0, .agg (ndArr n.me n.pr vs vf))] (by simp) fun f h => ?_
  have s := St.start w
  refine c_seq fun K1 hK1 => ?_
  refine c_region ?_
  refine s_box (ndArr n.me n.pr vs vf) h s rfl rfl rfl ?_; intro f w1 b1 h s
  refine s_pure h (ru_assign (h.ev rfl)) rfl ?_; intro f h
  refine s_nil ?_
  refine hK1 _ _ ?_
  refine c_seq fun K2 hK2 => ?_
  refine c_seq fun K3 hK3 => ?_
  cases h0 : (mayB n.me : Bool)
  · skip
    refine c_region ?_
    refine s_pure h (ru_field fld28_0 (h.ev rfl)) rfl ?_; intro f h
    refine s_load_at (Has.subL (Has.of_own s 0 rfl) 0 33 (D := mbArr n.me) (ndArr_me _ _ _ _)) h row25 rfl (mbArr_size _) rfl ?_; intro f h
    refine s_call h s fnc37 (ret_val (.bool false) (rmay_any n.me _) (congrArg Value.bool h0)) rfl rfl ?_; intro f w1 v9 hT hE h s; obtain rfl := hT
    refine s_pure h (ru_val (.bool true) (ru_not (h.ev rfl)) rfl) rfl ?_; intro f h
    refine s_pure h (ru_move (h.ev rfl)) rfl ?_; intro f h
    refine s_off (b := false) h rfl rfl rfl rfl ?_; intro f h
    refine s_off (b := false) h rfl rfl rfl rfl ?_; intro f h
    refine s_off (b := false) h rfl rfl rfl rfl ?_; intro f h
    refine s_off (b := false) h rfl rfl rfl rfl ?_; intro f h
    refine s_off (b := false) h rfl rfl rfl rfl ?_; intro f h
    refine s_none h rfl rfl rfl rfl ?_; intro f h
    refine s_none h rfl rfl rfl rfl ?_; intro f h
    refine s_none h rfl rfl rfl rfl ?_; intro f h
    refine s_none h rfl rfl rfl rfl ?_; intro f h
    refine s_none h rfl rfl rfl rfl ?_; intro f h
    refine s_none h rfl rfl rfl rfl ?_; intro f h
    refine s_none h rfl rfl rfl rfl ?_; intro f h
    refine s_none h rfl rfl rfl rfl ?_; intro f h
    refine s_none h rfl rfl rfl rfl ?_; intro f h
    refine s_none h rfl rfl rfl rfl ?_; intro f h
    refine s_none h rfl rfl rfl rfl ?_; intro f h
    refine s_none h rfl rfl rfl rfl ?_; intro f h
    refine s_none h rfl rfl rfl rfl ?_; intro f h
    refine s_off (b := false) h rfl rfl rfl rfl ?_; intro f h
    refine s_pure h (ru_pick_t (h.ev rfl) (h.ev rfl)) rfl ?_; intro f h
    refine s_nil ?_
    refine hK3 _ _ ?_
    refine wpIn_cond_true (h.ev rfl) ?_
    refine c_seq fun K4 hK4 => ?_
    refine c_region ?_
    refine s_pure h (ru_assign (h.ev rfl)) rfl ?_; intro f h
    refine s_nil ?_
    refine hK4 _ _ ?_
    refine wpIn_ret ?_
    refine t_ret ?_
    exact e_tmp rfl h s rfl (by show _ = _; rw [right_0 h0])
  · skip
    cases p0 : (decide (n.pr = nMb) : Bool)
    · skip
      cases p1 : (mayB n.pr : Bool)
      · skip
        refine c_region ?_
        refine s_pure h (ru_field fld28_0 (h.ev rfl)) rfl ?_; intro f h
        refine s_load_at (Has.subL (Has.of_own s 0 rfl) 0 33 (D := mbArr n.me) (ndArr_me _ _ _ _)) h row25 rfl (mbArr_size _) rfl ?_; intro f h
        refine s_call h s fnc37 (ret_val (.bool true) (rmay_any n.me _) (congrArg Value.bool h0)) rfl rfl ?_; intro f w1 v9 hT hE h s; obtain rfl := hT
        refine s_pure h (ru_val (.bool false) (ru_not (h.ev rfl)) rfl) rfl ?_; intro f h
        refine s_pure h (ru_move (h.ev rfl)) rfl ?_; intro f h
        refine s_on h rfl rfl rfl ?_
        refine s_pure h (ru_field fld28_1 (h.ev rfl)) rfl ?_; intro f h
        refine s_on h rfl rfl rfl ?_
        refine s_load_at (Has.subL (Has.of_own s 0 rfl) 33 33 (D := mbArr n.pr) (ndArr_pr _ _ _ _)) h row25 rfl (mbArr_size _) rfl ?_; intro f h
        refine s_on h rfl rfl rfl ?_
        refine s_call h s fnc18 (ret_val (.bool false) (rnone_any n.pr _) (congrArg Value.bool p0)) rfl rfl ?_; intro f w1 v9 hT hE h s; obtain rfl := hT
        refine s_on h rfl rfl rfl ?_
        refine s_pure h (ru_val (.bool true) (ru_not (h.ev rfl)) rfl) rfl ?_; intro f h
        refine s_on h rfl rfl rfl ?_
        refine s_pure h (ru_move (h.ev rfl)) rfl ?_; intro f h
        refine s_on h rfl rfl rfl ?_
        refine s_pure h (ru_field fld28_1 (h.ev rfl)) rfl ?_; intro f h
        refine s_on h rfl rfl rfl ?_
        refine s_load_at (Has.subL (Has.of_own s 0 rfl) 33 33 (D := mbArr n.pr) (ndArr_pr _ _ _ _)) h row25 rfl (mbArr_size _) rfl ?_; intro f h
        refine s_on h rfl rfl rfl ?_
        refine s_call h s fnc37 (ret_val (.bool false) (rmay_any n.pr _) (congrArg Value.bool p1)) rfl rfl ?_; intro f w1 v9 hT hE h s; obtain rfl := hT
        refine s_on h rfl rfl rfl ?_
        refine s_pure h (ru_val (.bool true) (ru_not (h.ev rfl)) rfl) rfl ?_; intro f h
        refine s_on h rfl rfl rfl ?_
        refine s_pure h (ru_move (h.ev rfl)) rfl ?_; intro f h
        refine s_off (b := false) h rfl rfl rfl rfl ?_; intro f h
        refine s_off (b := false) h rfl rfl rfl rfl ?_; intro f h
        refine s_off (b := false) h rfl rfl rfl rfl ?_; intro f h
        refine s_off (b := false) h rfl rfl rfl rfl ?_; intro f h
        refine s_off (b := false) h rfl rfl rfl rfl ?_; intro f h
        refine s_off (b := false) h rfl rfl rfl rfl ?_; intro f h
        refine s_off (b := false) h rfl rfl rfl rfl ?_; intro f h
        refine s_on h rfl rfl rfl ?_
        refine s_pure h (ru_pick_t (h.ev rfl) (h.ev rfl)) rfl ?_; intro f h
        refine s_on h rfl rfl rfl ?_
        refine s_pure h (ru_pick_t (h.ev rfl) (h.ev rfl)) rfl ?_; intro f h
        refine s_pure h (ru_pick_f (h.ev rfl) (h.ev rfl)) rfl ?_; intro f h
        refine s_nil ?_
        refine hK3 _ _ ?_
        refine wpIn_cond_true (h.ev rfl) ?_
        refine c_seq fun K5 hK5 => ?_
        refine c_region ?_
        refine s_pure h (ru_assign (h.ev rfl)) rfl ?_; intro f h
        refine s_nil ?_
        refine hK5 _ _ ?_
        refine wpIn_ret ?_
        refine t_ret ?_
        exact e_tmp rfl h s rfl (by show _ = _; rw [right_1 (pre_1 p0 p1)])
      · skip
        cases p2 : (decide (n.pr.1 = n.me.1) : Bool)
        · skip
          refine c_region ?_
          refine s_pure h (ru_field fld28_0 (h.ev rfl)) rfl ?_; intro f h
          refine s_load_at (Has.subL (Has.of_own s 0 rfl) 0 33 (D := mbArr n.me) (ndArr_me _ _ _ _)) h row25 rfl (mbArr_size _) rfl ?_; intro f h
          refine s_call h s fnc37 (ret_val (.bool true) (rmay_any n.me _) (congrArg Value.bool h0)) rfl rfl ?_; intro f w1 v9 hT hE h s; obtain rfl := hT
          refine s_pure h (ru_val (.bool false) (ru_not (h.ev rfl)) rfl) rfl ?_; intro f h
          refine s_pure h (ru_move (h.ev rfl)) rfl ?_; intro f h
          refine s_on h rfl rfl rfl ?_
          refine s_pure h (ru_field fld28_1 (h.ev rfl)) rfl ?_; intro f h
          refine s_on h rfl rfl rfl ?_
          refine s_load_at (Has.subL (Has.of_own s 0 rfl) 33 33 (D := mbArr n.pr) (ndArr_pr _ _ _ _)) h row25 rfl (mbArr_size _) rfl ?_; intro f h
          refine s_on h rfl rfl rfl ?_
          refine s_call h s fnc18 (ret_val (.bool false) (rnone_any n.pr _) (congrArg Value.bool p0)) rfl rfl ?_; intro f w1 v9 hT hE h s; obtain rfl := hT
          refine s_on h rfl rfl rfl ?_
          refine s_pure h (ru_val (.bool true) (ru_not (h.ev rfl)) rfl) rfl ?_; intro f h
          refine s_on h rfl rfl rfl ?_
          refine s_pure h (ru_move (h.ev rfl)) rfl ?_; intro f h
          refine s_on h rfl rfl rfl ?_
          refine s_pure h (ru_field fld28_1 (h.ev rfl)) rfl ?_; intro f h
          refine s_on h rfl rfl rfl ?_
          refine s_load_at (Has.subL (Has.of_own s 0 rfl) 33 33 (D := mbArr n.pr) (ndArr_pr _ _ _ _)) h row25 rfl (mbArr_size _) rfl ?_; intro f h
          refine s_on h rfl rfl rfl ?_
          refine s_call h s fnc37 (ret_val (.bool true) (rmay_any n.pr _) (congrArg Value.bool p1)) rfl rfl ?_; intro f w1 v9 hT hE h s; obtain rfl := hT
          refine s_on h rfl rfl rfl ?_
          refine s_pure h (ru_val (.bool false) (ru_not (h.ev rfl)) rfl) rfl ?_; intro f h
          refine s_on h rfl rfl rfl ?_
          refine s_pure h (ru_move (h.ev rfl)) rfl ?_; intro f h
          refine s_on h rfl rfl rfl ?_
          refine s_pure h (ru_field fld28_1 (h.ev rfl)) rfl ?_; intro f h
          refine s_on h rfl rfl rfl ?_
          refine s_pure h (ru_field fld25_0 (h.ev rfl)) rfl ?_; intro f h
          refine s_on h rfl rfl rfl ?_
          refine s_load_at1 (cell_of_has (Has.of_own s 0 rfl) 33 (ndArr_pno _ _ _ _)) h one3 rfl rfl ?_; intro f h
          refine s_on h rfl rfl rfl ?_
          refine s_pure h (ru_field fld28_0 (h.ev rfl)) rfl ?_; intro f h
          refine s_on h rfl rfl rfl ?_
          refine s_pure h (ru_field fld25_0 (h.ev rfl)) rfl ?_; intro f h
          refine s_on h rfl rfl rfl ?_
          refine s_load_at1 (cell_of_has (Has.of_own s 0 rfl) 0 (ndArr_no _ _ _ _)) h one3 rfl rfl ?_; intro f h
          refine s_on h rfl rfl rfl ?_
          refine s_pure h (ru_val (.bool false) (ru_eql (h.ev rfl) (h.ev rfl)) (congrArg Value.bool p2)) rfl ?_; intro f h
          refine s_on h rfl rfl rfl ?_
          refine s_pure h (ru_pick_f (h.ev rfl) (h.ev rfl)) rfl ?_; intro f h
          refine s_on h rfl rfl rfl ?_
          refine s_pure h (ru_pick_t (h.ev rfl) (h.ev rfl)) rfl ?_; intro f h
          refine s_pure h (ru_pick_f (h.ev rfl) (h.ev rfl)) rfl ?_; intro f h
          refine s_nil ?_
          refine hK3 _ _ ?_
          refine wpIn_cond_false (h.ev rfl) ?_
          refine wpIn_skip ?_
          refine hK2 _ _ ?_
          refine c_seq fun K6 hK6 => ?_
          refine c_seq fun K7 hK7 => ?_
          cases s0 : (decide (n.sc.length < 1) : Bool)
          · skip
            cases s1 : (decide (4 < n.sc.length) : Bool)
            · skip
              cases f0 : (decide (16 < n.fg.length) : Bool)
              · skip
                cases f1 : (othL n.fg n.me.1 : Bool)
                · skip
                  refine c_region ?_
                  refine s_pure h (ru_field fld28_2 (h.ev rfl)) rfl ?_; intro f h
                  refine s_load_at1 (V := vs) (cell_of_has (Has.of_own s 0 rfl) 66 (ndArr_sc _ _ _ _)) h one26 rfl rfl ?_; intro f h
                  refine s_pure h (ru_lenZ (hRs.keep s.ext) Try.underlying26 (h.ev rfl)) rfl ?_; intro f h
                  refine s_pure h (ru_val (.bool false) (ru_lss (h.ev rfl) (h.ev rfl)) (congrArg Value.bool (decide_eq_false (by have := of_decide_eq_false s0; omega)))) rfl ?_; intro f h
                  refine s_pure h (ru_move (h.ev rfl)) rfl ?_; intro f h
                  refine s_on h rfl rfl rfl ?_
                  refine s_pure h (ru_field fld28_2 (h.ev rfl)) rfl ?_; intro f h
                  refine s_on h rfl rfl rfl ?_
                  refine s_load_at1 (V := vs) (cell_of_has (Has.of_own s 0 rfl) 66 (ndArr_sc _ _ _ _)) h one26 rfl rfl ?_; intro f h
                  refine s_on h rfl rfl rfl ?_
                  refine s_pure h (ru_lenZ (hRs.keep s.ext) Try.underlying26 (h.ev rfl)) rfl ?_; intro f h
                  refine s_on h rfl rfl rfl ?_
                  refine s_pure h (ru_val (.bool false) (ru_gtr (h.ev rfl) (h.ev rfl)) (congrArg Value.bool (decide_eq_false (by have := of_decide_eq_false s1; omega)))) rfl ?_; intro f h
                  refine s_pure h (ru_pick_f (h.ev rfl) (h.ev rfl)) rfl ?_; intro f h
                  refine s_pure h (ru_move (h.ev rfl)) rfl ?_; intro f h
                  refine s_on h rfl rfl rfl ?_
                  refine s_pure h (ru_field fld28_3 (h.ev rfl)) rfl ?_; intro f h
                  refine s_on h rfl rfl rfl ?_
                  refine s_load_at1 (V := vf) (cell_of_has (Has.of_own s 0 rfl) 67 (ndArr_fg _ _ _ _)) h one26 rfl rfl ?_; intro f h
                  refine s_on h rfl rfl rfl ?_
                  refine s_pure h (ru_lenZ (hRf.keep s.ext) Try.underlying26 (h.ev rfl)) rfl ?_; intro f h
                  refine s_on h rfl rfl rfl ?_
                  refine s_pure h (ru_val (.bool false) (ru_gtr (h.ev rfl) (h.ev rfl)) (congrArg Value.bool (decide_eq_false (by have := of_decide_eq_false f0; omega)))) rfl ?_; intro f h
                  refine s_pure h (ru_pick_f (h.ev rfl) (h.ev rfl)) rfl ?_; intro f h
                  refine s_pure h (ru_move (h.ev rfl)) rfl ?_; intro f h
                  refine s_on h rfl rfl rfl ?_
                  refine s_pure h (ru_field fld28_3 (h.ev rfl)) rfl ?_; intro f h
                  refine s_on h rfl rfl rfl ?_
                  refine s_load_at1 (V := vf) (cell_of_has (Has.of_own s 0 rfl) 67 (ndArr_fg _ _ _ _)) h one26 rfl rfl ?_; intro f h
                  refine s_on h rfl rfl rfl ?_
                  refine s_pure h (ru_field fld28_0 (h.ev rfl)) rfl ?_; intro f h
                  refine s_on h rfl rfl rfl ?_
                  refine s_pure h (ru_field fld25_0 (h.ev rfl)) rfl ?_; intro f h
                  refine s_on h rfl rfl rfl ?_
                  refine s_load_at1 (cell_of_has (Has.of_own s 0 rfl) 0 (ndArr_no _ _ _ _)) h one3 rfl rfl ?_; intro f h
                  refine s_on h rfl rfl rfl ?_
                  refine s_call h s fnc38 (ret_val (.bool false) (unlike_any n.fg vf n.me.1 _ (hRf.keep s.ext) hnf) (congrArg Value.bool f1)) rfl rfl ?_; intro f w1 v9 hT hE h s; obtain rfl := hT
                  refine s_on h rfl rfl rfl ?_
                  refine s_pure h (ru_val (.bool true) (ru_not (h.ev rfl)) rfl) rfl ?_; intro f h
                  refine s_pure h (ru_pick_f (h.ev rfl) (h.ev rfl)) rfl ?_; intro f h
                  refine s_nil ?_
                  refine hK7 _ _ ?_
                  refine wpIn_cond_true (h.ev rfl) ?_
                  refine c_seq fun K8 hK8 => ?_
                  refine c_region ?_
                  refine s_pure h (ru_assign (h.ev rfl)) rfl ?_; intro f h
                  refine s_nil ?_
                  refine hK8 _ _ ?_
                  refine wpIn_ret ?_
                  refine t_ret ?_
                  exact e_tmp rfl h s rfl (by show _ = _; rw [right_4 (fin_f1 f1)])
                · skip
                  refine c_region ?_
                  refine s_pure h (ru_field fld28_2 (h.ev rfl)) rfl ?_; intro f h
                  refine s_load_at1 (V := vs) (cell_of_has (Has.of_own s 0 rfl) 66 (ndArr_sc _ _ _ _)) h one26 rfl rfl ?_; intro f h
                  refine s_pure h (ru_lenZ (hRs.keep s.ext) Try.underlying26 (h.ev rfl)) rfl ?_; intro f h
                  refine s_pure h (ru_val (.bool false) (ru_lss (h.ev rfl) (h.ev rfl)) (congrArg Value.bool (decide_eq_false (by have := of_decide_eq_false s0; omega)))) rfl ?_; intro f h
                  refine s_pure h (ru_move (h.ev rfl)) rfl ?_; intro f h
                  refine s_on h rfl rfl rfl ?_
                  refine s_pure h (ru_field fld28_2 (h.ev rfl)) rfl ?_; intro f h
                  refine s_on h rfl rfl rfl ?_
                  refine s_load_at1 (V := vs) (cell_of_has (Has.of_own s 0 rfl) 66 (ndArr_sc _ _ _ _)) h one26 rfl rfl ?_; intro f h
                  refine s_on h rfl rfl rfl ?_
                  refine s_pure h (ru_lenZ (hRs.keep s.ext) Try.underlying26 (h.ev rfl)) rfl ?_; intro f h
                  refine s_on h rfl rfl rfl ?_
                  refine s_pure h (ru_val (.bool false) (ru_gtr (h.ev rfl) (h.ev rfl)) (congrArg Value.bool (decide_eq_false (by have := of_decide_eq_false s1; omega)))) rfl ?_; intro f h
                  refine s_pure h (ru_pick_f (h.ev rfl) (h.ev rfl)) rfl ?_; intro f h
                  refine s_pure h (ru_move (h.ev rfl)) rfl ?_; intro f h
                  refine s_on h rfl rfl rfl ?_
                  refine s_pure h (ru_field fld28_3 (h.ev rfl)) rfl ?_; intro f h
                  refine s_on h rfl rfl rfl ?_
                  refine s_load_at1 (V := vf) (cell_of_has (Has.of_own s 0 rfl) 67 (ndArr_fg _ _ _ _)) h one26 rfl rfl ?_; intro f h
                  refine s_on h rfl rfl rfl ?_
                  refine s_pure h (ru_lenZ (hRf.keep s.ext) Try.underlying26 (h.ev rfl)) rfl ?_; intro f h
                  refine s_on h rfl rfl rfl ?_
                  refine s_pure h (ru_val (.bool false) (ru_gtr (h.ev rfl) (h.ev rfl)) (congrArg Value.bool (decide_eq_false (by have := of_decide_eq_false f0; omega)))) rfl ?_; intro f h
                  refine s_pure h (ru_pick_f (h.ev rfl) (h.ev rfl)) rfl ?_; intro f h
                  refine s_pure h (ru_move (h.ev rfl)) rfl ?_; intro f h
                  refine s_on h rfl rfl rfl ?_
                  refine s_pure h (ru_field fld28_3 (h.ev rfl)) rfl ?_; intro f h
                  refine s_on h rfl rfl rfl ?_
                  refine s_load_at1 (V := vf) (cell_of_has (Has.of_own s 0 rfl) 67 (ndArr_fg _ _ _ _)) h one26 rfl rfl ?_; intro f h
                  refine s_on h rfl rfl rfl ?_
                  refine s_pure h (ru_field fld28_0 (h.ev rfl)) rfl ?_; intro f h
                  refine s_on h rfl rfl rfl ?_
                  refine s_pure h (ru_field fld25_0 (h.ev rfl)) rfl ?_; intro f h
                  refine s_on h rfl rfl rfl ?_
                  refine s_load_at1 (cell_of_has (Has.of_own s 0 rfl) 0 (ndArr_no _ _ _ _)) h one3 rfl rfl ?_; intro f h
                  refine s_on h rfl rfl rfl ?_
                  refine s_call h s fnc38 (ret_val (.bool true) (unlike_any n.fg vf n.me.1 _ (hRf.keep s.ext) hnf) (congrArg Value.bool f1)) rfl rfl ?_; intro f w1 v9 hT hE h s; obtain rfl := hT
                  refine s_on h rfl rfl rfl ?_
                  refine s_pure h (ru_val (.bool false) (ru_not (h.ev rfl)) rfl) rfl ?_; intro f h
                  refine s_pure h (ru_pick_f (h.ev rfl) (h.ev rfl)) rfl ?_; intro f h
                  refine s_nil ?_
                  refine hK7 _ _ ?_
                  refine wpIn_cond_false (h.ev rfl) ?_
                  refine wpIn_skip ?_
                  refine hK6 _ _ ?_
                  refine c_seq fun K9 hK9 => ?_
                  cases t0 : (decide (n.sc.length = 1) : Bool)
                  · skip
                    refine c_walkN 22 [[], [0], [0, 1], [0, 1, 2], [0, 1, 2, 3], [0, 1, 2, 3, 4], [0, 1, 2, 3, 4, 5], [0, 1, 2, 3, 4, 5, 6], [0, 1, 2, 3, 4, 5, 6, 7], [0, 1, 2, 3, 4], [0, 1, 2, 3, 4, 9], [0, 1, 2, 3, 4, 5, 6, 7, 8, 9, 10], [0, 1, 2, 3, 4, 5, 6, 7, 8, 9, 10, 11], [0, 1, 2, 3, 4, 5, 6, 7, 8, 9, 10, 11, 12], [0, 1, 2, 3, 4, 5, 6, 7, 8, 9, 10, 11, 12, 13], [0, 1, 2, 3, 4, 5, 6, 7, 8, 9, 10, 11, 12, 13, 14], [0, 1, 2, 3, 4, 5, 6, 7, 8, 9, 10, 11, 12, 13], [0, 1, 2, 3, 4, 5, 6, 7, 8, 9, 10, 11, 12, 13, 16], [0, 1, 2, 3, 4, 5, 6, 7, 8, 9, 10, 11, 12, 13, 16, 17], [0, 1, 2, 3, 4, 5, 6, 7, 8, 9, 10, 11, 12, 13, 14, 15, 16, 17, 18], [0, 1, 2, 3, 4, 5, 6, 7, 8, 9, 10, 11, 12, 13, 14, 15, 16, 17, 18, 19], [0, 1, 2, 3, 4, 5, 6, 7, 8, 9, 10, 11, 12, 13, 14, 15, 16, 17, 18, 19, 20]] h (by kernel_rfl) (by kernel_rfl) (by kernel_rfl) ?_
                    refine w_pure h (ru_field fld28_2 (h.ev rfl)) rfl ?_; intro f h
                    refine w_load_at1 (V := vs) (cell_of_has (Has.of_own s 0 rfl) 66 (ndArr_sc _ _ _ _)) h one26 rfl rfl ?_; intro f h
                    refine w_pure h (ru_lenZ (hRs.keep s.ext) Try.underlying26 (h.ev rfl)) rfl ?_; intro f h
                    refine w_pure h (ru_val (.bool false) (ru_eql (h.ev rfl) (h.ev rfl)) (congrArg Value.bool (decide_eq_false (by have := of_decide_eq_false t0; omega)))) rfl ?_; intro f h
                    refine w_pure h (ru_move (h.ev rfl)) rfl ?_; intro f h
                    refine w_off (b := true) h rfl rfl rfl rfl ?_; intro f h
                    refine w_off (b := true) h rfl rfl rfl rfl ?_; intro f h
                    refine w_off (b := true) h rfl rfl rfl rfl ?_; intro f h
                    refine w_off (b := true) h rfl rfl rfl rfl ?_; intro f h
                    refine w_off (b := true) h rfl rfl rfl rfl ?_; intro f h
                    refine w_off (b := true) h rfl rfl rfl rfl ?_; intro f h
                    refine w_off (b := true) h rfl rfl rfl rfl ?_; intro f h
                    refine w_pure h (ru_pick_f (h.ev rfl) (h.ev rfl)) rfl ?_; intro f h
                    refine w_pure h (ru_move (h.ev rfl)) rfl ?_; intro f h
                    refine w_on h rfl rfl rfl ?_
                    refine w_pure h (ru_field fld28_2 (h.ev rfl)) rfl ?_; intro f h
                    refine w_on h rfl rfl rfl ?_
                    refine w_load_at1 (V := vs) (cell_of_has (Has.of_own s 0 rfl) 66 (ndArr_sc _ _ _ _)) h one26 rfl rfl ?_; intro f h
                    refine w_on h rfl rfl rfl ?_
                    refine w_pure h (ru_field fld28_0 (h.ev rfl)) rfl ?_; intro f h
                    refine w_on h rfl rfl rfl ?_
                    refine w_pure h (ru_field fld25_0 (h.ev rfl)) rfl ?_; intro f h
                    refine w_on h rfl rfl rfl ?_
                    refine w_load_at1 (cell_of_has (Has.of_own s 0 rfl) 0 (ndArr_no _ _ _ _)) h one3 rfl rfl ?_; intro f h
                    refine w_on h rfl rfl rfl ?_
                    refine w_call h fnc38 (fun w9 hE9 => unlike_any n.sc vs n.me.1 w9 (hRs.keep (s.ext.trans hE9)) hns) rfl rfl ?_; intro f h
                    refine w_pure h (ru_pick_f (h.ev rfl) (h.ev rfl)) rfl ?_; intro f h
                    refine w_pure h (ru_assign (h.ev rfl)) rfl ?_; intro f h
                    refine w_nil s fun w1 s => ?_
                    refine s_nil ?_
                    refine hK9 _ _ ?_
                    refine wpIn_ret ?_
                    exact e_tmp rfl h s rfl (by show _ = _; rw [right_5 h0 (pre_y p0 p1 p2) (fin_f2 f0 f1), suc_o s0 s1 (by rintro ⟨h9, h8⟩; exact absurd h9 (of_decide_eq_false t0))])
                  · skip
                    cases t1 : (decide (n.sc.getD 0 zMb = n.me) : Bool)
                    · skip
                      refine c_walkN 22 [[], [0], [0, 1], [0, 1, 2], [0, 1, 2, 3], [0, 1, 2, 3, 4], [0, 1, 2, 3, 4, 5], [0, 1, 2, 3, 4, 5, 6], [0, 1, 2, 3, 4, 5, 6, 7], [0, 1, 2, 3, 4], [0, 1, 2, 3, 4, 9], [0, 1, 2, 3, 4, 5, 6, 7, 8, 9, 10], [0, 1, 2, 3, 4, 5, 6, 7, 8, 9, 10, 11], [0, 1, 2, 3, 4, 5, 6, 7, 8, 9, 10, 11, 12], [0, 1, 2, 3, 4, 5, 6, 7, 8, 9, 10, 11, 12, 13], [0, 1, 2, 3, 4, 5, 6, 7, 8, 9, 10, 11, 12, 13, 14], [0, 1, 2, 3, 4, 5, 6, 7, 8, 9, 10, 11, 12, 13], [0, 1, 2, 3, 4, 5, 6, 7, 8, 9, 10, 11, 12, 13, 16], [0, 1, 2, 3, 4, 5, 6, 7, 8, 9, 10, 11, 12, 13, 16, 17], [0, 1, 2, 3, 4, 5, 6, 7, 8, 9, 10, 11, 12, 13, 14, 15, 16, 17, 18], [0, 1, 2, 3, 4, 5, 6, 7, 8, 9, 10, 11, 12, 13, 14, 15, 16, 17, 18, 19], [0, 1, 2, 3, 4, 5, 6, 7, 8, 9, 10, 11, 12, 13, 14, 15, 16, 17, 18, 19, 20]] h (by kernel_rfl) (by kernel_rfl) (by kernel_rfl) ?_
                      refine w_pure h (ru_field fld28_2 (h.ev rfl)) rfl ?_; intro f h
                      refine w_load_at1 (V := vs) (cell_of_has (Has.of_own s 0 rfl) 66 (ndArr_sc _ _ _ _)) h one26 rfl rfl ?_; intro f h
                      refine w_pure h (ru_lenZ (hRs.keep s.ext) Try.underlying26 (h.ev rfl)) rfl ?_; intro f h
                      refine w_pure h (ru_val (.bool true) (ru_eql (h.ev rfl) (h.ev rfl)) (congrArg Value.bool (decide_eq_true (by have := of_decide_eq_true t0; omega)))) rfl ?_; intro f h
                      refine w_pure h (ru_move (h.ev rfl)) rfl ?_; intro f h
                      refine w_on h rfl rfl rfl ?_
                      refine w_pure h (ru_field fld28_2 (h.ev rfl)) rfl ?_; intro f h
                      refine w_on h rfl rfl rfl ?_
                      refine w_load_at1 (V := vs) (cell_of_has (Has.of_own s 0 rfl) 66 (ndArr_sc _ _ _ _)) h one26 rfl rfl ?_; intro f h
                      refine w_on h rfl rfl rfl ?_
                      have h19 := of_decide_eq_true t0
                      refine w_pure h (ru_ixz (hRs.keep s.ext) (0) Try.underlying26 szo25 (h.ev rfl) (h.ev rfl) (by omega) (by omega)) rfl ?_; intro f h
                      refine w_on h rfl rfl rfl ?_
                      refine w_load_at ((hRs.keep s.ext).el (0) (by omega) (by decide) (D := mbArr (n.sc.getD 0 zMb)) (mb_elD n.sc 0 (by omega))) h row25 rfl (mbArr_size _) rfl ?_; intro f h
                      refine w_on h rfl rfl rfl ?_
                      refine w_pure h (ru_field fld28_0 (h.ev rfl)) rfl ?_; intro f h
                      refine w_on h rfl rfl rfl ?_
                      refine w_load_at (Has.subL (Has.of_own s 0 rfl) 0 33 (D := mbArr n.me) (ndArr_me _ _ _ _)) h row25 rfl (mbArr_size _) rfl ?_; intro f h
                      refine w_on h rfl rfl rfl ?_
                      refine w_pure h (ru_val (.bool false) (ru_eqlW (eqM _ _) (by kernel_rfl) (by decide) (h.ev rfl) (h.ev rfl) (decide (n.sc.getD 0 zMb = n.me)) (mbEq _ _)) (congrArg Value.bool t1)) rfl ?_; intro f h
                      refine w_pure h (ru_pick_t (h.ev rfl) (h.ev rfl)) rfl ?_; intro f h
                      refine w_pure h (ru_move (h.ev rfl)) rfl ?_; intro f h
                      refine w_on h rfl rfl rfl ?_
                      refine w_pure h (ru_field fld28_2 (h.ev rfl)) rfl ?_; intro f h
                      refine w_on h rfl rfl rfl ?_
                      refine w_load_at1 (V := vs) (cell_of_has (Has.of_own s 0 rfl) 66 (ndArr_sc _ _ _ _)) h one26 rfl rfl ?_; intro f h
                      refine w_on h rfl rfl rfl ?_
                      refine w_pure h (ru_field fld28_0 (h.ev rfl)) rfl ?_; intro f h
                      refine w_on h rfl rfl rfl ?_
                      refine w_pure h (ru_field fld25_0 (h.ev rfl)) rfl ?_; intro f h
                      refine w_on h rfl rfl rfl ?_
                      refine w_load_at1 (cell_of_has (Has.of_own s 0 rfl) 0 (ndArr_no _ _ _ _)) h one3 rfl rfl ?_; intro f h
                      refine w_on h rfl rfl rfl ?_
                      refine w_call h fnc38 (fun w9 hE9 => unlike_any n.sc vs n.me.1 w9 (hRs.keep (s.ext.trans hE9)) hns) rfl rfl ?_; intro f h
                      refine w_pure h (ru_pick_f (h.ev rfl) (h.ev rfl)) rfl ?_; intro f h
                      refine w_pure h (ru_assign (h.ev rfl)) rfl ?_; intro f h
                      refine w_nil s fun w1 s => ?_
                      refine s_nil ?_
                      refine hK9 _ _ ?_
                      refine wpIn_ret ?_
                      exact e_tmp rfl h s rfl (by show _ = _; rw [right_5 h0 (pre_y p0 p1 p2) (fin_f2 f0 f1), suc_o s0 s1 (by rintro ⟨h9, h8⟩; exact absurd h8 (of_decide_eq_false t1))])
                    · skip
                      refine c_walkN 22 [[], [0], [0, 1], [0, 1, 2], [0, 1, 2, 3], [0, 1, 2, 3, 4], [0, 1, 2, 3, 4, 5], [0, 1, 2, 3, 4, 5, 6], [0, 1, 2, 3, 4, 5, 6, 7], [0, 1, 2, 3, 4], [0, 1, 2, 3, 4, 9], [0, 1, 2, 3, 4, 5, 6, 7, 8, 9, 10], [0, 1, 2, 3, 4, 5, 6, 7, 8, 9, 10, 11], [0, 1, 2, 3, 4, 5, 6, 7, 8, 9, 10, 11, 12], [0, 1, 2, 3, 4, 5, 6, 7, 8, 9, 10, 11, 12, 13], [0, 1, 2, 3, 4, 5, 6, 7, 8, 9, 10, 11, 12, 13, 14], [0, 1, 2, 3, 4, 5, 6, 7, 8, 9, 10, 11, 12, 13], [0, 1, 2, 3, 4, 5, 6, 7, 8, 9, 10, 11, 12, 13, 16], [0, 1, 2, 3, 4, 5, 6, 7, 8, 9, 10, 11, 12, 13, 16, 17], [0, 1, 2, 3, 4, 5, 6, 7, 8, 9, 10, 11, 12, 13, 14, 15, 16, 17, 18], [0, 1, 2, 3, 4, 5, 6, 7, 8, 9, 10, 11, 12, 13, 14, 15, 16, 17, 18, 19], [0, 1, 2, 3, 4, 5, 6, 7, 8, 9, 10, 11, 12, 13, 14, 15, 16, 17, 18, 19, 20]] h (by kernel_rfl) (by kernel_rfl) (by kernel_rfl) ?_
                      refine w_pure h (ru_field fld28_2 (h.ev rfl)) rfl ?_; intro f h
                      refine w_load_at1 (V := vs) (cell_of_has (Has.of_own s 0 rfl) 66 (ndArr_sc _ _ _ _)) h one26 rfl rfl ?_; intro f h
                      refine w_pure h (ru_lenZ (hRs.keep s.ext) Try.underlying26 (h.ev rfl)) rfl ?_; intro f h
                      refine w_pure h (ru_val (.bool true) (ru_eql (h.ev rfl) (h.ev rfl)) (congrArg Value.bool (decide_eq_true (by have := of_decide_eq_true t0; omega)))) rfl ?_; intro f h
                      refine w_pure h (ru_move (h.ev rfl)) rfl ?_; intro f h
                      refine w_on h rfl rfl rfl ?_
                      refine w_pure h (ru_field fld28_2 (h.ev rfl)) rfl ?_; intro f h
                      refine w_on h rfl rfl rfl ?_
                      refine w_load_at1 (V := vs) (cell_of_has (Has.of_own s 0 rfl) 66 (ndArr_sc _ _ _ _)) h one26 rfl rfl ?_; intro f h
                      refine w_on h rfl rfl rfl ?_
                      have h19 := of_decide_eq_true t0
                      refine w_pure h (ru_ixz (hRs.keep s.ext) (0) Try.underlying26 szo25 (h.ev rfl) (h.ev rfl) (by omega) (by omega)) rfl ?_; intro f h
                      refine w_on h rfl rfl rfl ?_
                      refine w_load_at ((hRs.keep s.ext).el (0) (by omega) (by decide) (D := mbArr (n.sc.getD 0 zMb)) (mb_elD n.sc 0 (by omega))) h row25 rfl (mbArr_size _) rfl ?_; intro f h
                      refine w_on h rfl rfl rfl ?_
                      refine w_pure h (ru_field fld28_0 (h.ev rfl)) rfl ?_; intro f h
                      refine w_on h rfl rfl rfl ?_
                      refine w_load_at (Has.subL (Has.of_own s 0 rfl) 0 33 (D := mbArr n.me) (ndArr_me _ _ _ _)) h row25 rfl (mbArr_size _) rfl ?_; intro f h
                      refine w_on h rfl rfl rfl ?_
                      refine w_pure h (ru_val (.bool true) (ru_eqlW (eqM _ _) (by kernel_rfl) (by decide) (h.ev rfl) (h.ev rfl) (decide (n.sc.getD 0 zMb = n.me)) (mbEq _ _)) (congrArg Value.bool t1)) rfl ?_; intro f h
                      refine w_pure h (ru_pick_t (h.ev rfl) (h.ev rfl)) rfl ?_; intro f h
                      refine w_pure h (ru_move (h.ev rfl)) rfl ?_; intro f h
                      refine w_off (b := false) h rfl rfl rfl rfl ?_; intro f h
                      refine w_off (b := false) h rfl rfl rfl rfl ?_; intro f h
                      refine w_off (b := false) h rfl rfl rfl rfl ?_; intro f h
                      refine w_off (b := false) h rfl rfl rfl rfl ?_; intro f h
                      refine w_off (b := false) h rfl rfl rfl rfl ?_; intro f h
                      refine w_off (b := false) h rfl rfl rfl rfl ?_; intro f h
                      refine w_pure h (ru_pick_t (h.ev rfl) (h.ev rfl)) rfl ?_; intro f h
                      refine w_pure h (ru_assign (h.ev rfl)) rfl ?_; intro f h
                      refine w_nil s fun w1 s => ?_
                      refine s_nil ?_
                      refine hK9 _ _ ?_
                      refine wpIn_ret ?_
                      exact e_tmp rfl h s rfl (by show _ = _; rw [right_5 h0 (pre_y p0 p1 p2) (fin_f2 f0 f1), suc_y t0 t1])
              · skip
                refine c_region ?_
                refine s_pure h (ru_field fld28_2 (h.ev rfl)) rfl ?_; intro f h
                refine s_load_at1 (V := vs) (cell_of_has (Has.of_own s 0 rfl) 66 (ndArr_sc _ _ _ _)) h one26 rfl rfl ?_; intro f h
                refine s_pure h (ru_lenZ (hRs.keep s.ext) Try.underlying26 (h.ev rfl)) rfl ?_; intro f h
                refine s_pure h (ru_val (.bool false) (ru_lss (h.ev rfl) (h.ev rfl)) (congrArg Value.bool (decide_eq_false (by have := of_decide_eq_false s0; omega)))) rfl ?_; intro f h
                refine s_pure h (ru_move (h.ev rfl)) rfl ?_; intro f h
                refine s_on h rfl rfl rfl ?_
                refine s_pure h (ru_field fld28_2 (h.ev rfl)) rfl ?_; intro f h
                refine s_on h rfl rfl rfl ?_
                refine s_load_at1 (V := vs) (cell_of_has (Has.of_own s 0 rfl) 66 (ndArr_sc _ _ _ _)) h one26 rfl rfl ?_; intro f h
                refine s_on h rfl rfl rfl ?_
                refine s_pure h (ru_lenZ (hRs.keep s.ext) Try.underlying26 (h.ev rfl)) rfl ?_; intro f h
                refine s_on h rfl rfl rfl ?_
                refine s_pure h (ru_val (.bool false) (ru_gtr (h.ev rfl) (h.ev rfl)) (congrArg Value.bool (decide_eq_false (by have := of_decide_eq_false s1; omega)))) rfl ?_; intro f h
                refine s_pure h (ru_pick_f (h.ev rfl) (h.ev rfl)) rfl ?_; intro f h
                refine s_pure h (ru_move (h.ev rfl)) rfl ?_; intro f h
                refine s_on h rfl rfl rfl ?_
                refine s_pure h (ru_field fld28_3 (h.ev rfl)) rfl ?_; intro f h
                refine s_on h rfl rfl rfl ?_
                refine s_load_at1 (V := vf) (cell_of_has (Has.of_own s 0 rfl) 67 (ndArr_fg _ _ _ _)) h one26 rfl rfl ?_; intro f h
                refine s_on h rfl rfl rfl ?_
                refine s_pure h (ru_lenZ (hRf.keep s.ext) Try.underlying26 (h.ev rfl)) rfl ?_; intro f h
                refine s_on h rfl rfl rfl ?_
                refine s_pure h (ru_val (.bool true) (ru_gtr (h.ev rfl) (h.ev rfl)) (congrArg Value.bool (decide_eq_true (by have := of_decide_eq_true f0; omega)))) rfl ?_; intro f h
                refine s_pure h (ru_pick_f (h.ev rfl) (h.ev rfl)) rfl ?_; intro f h
                refine s_pure h (ru_move (h.ev rfl)) rfl ?_; intro f h
                refine s_off (b := false) h rfl rfl rfl rfl ?_; intro f h
                refine s_off (b := false) h rfl rfl rfl rfl ?_; intro f h
                refine s_off (b := false) h rfl rfl rfl rfl ?_; intro f h
                refine s_off (b := false) h rfl rfl rfl rfl ?_; intro f h
                refine s_off (b := false) h rfl rfl rfl rfl ?_; intro f h
                refine s_off (b := false) h rfl rfl rfl rfl ?_; intro f h
                refine s_off (b := false) h rfl rfl rfl rfl ?_; intro f h
                refine s_pure h (ru_pick_t (h.ev rfl) (h.ev rfl)) rfl ?_; intro f h
                refine s_nil ?_
                refine hK7 _ _ ?_
                refine wpIn_cond_true (h.ev rfl) ?_
                refine c_seq fun K10 hK10 => ?_
                refine c_region ?_
                refine s_pure h (ru_assign (h.ev rfl)) rfl ?_; intro f h
                refine s_nil ?_
                refine hK10 _ _ ?_
                refine wpIn_ret ?_
                refine t_ret ?_
                exact e_tmp rfl h s rfl (by show _ = _; rw [right_4 (fin_f0 f0)])
            · skip
              refine c_region ?_
              refine s_pure h (ru_field fld28_2 (h.ev rfl)) rfl ?_; intro f h
              refine s_load_at1 (V := vs) (cell_of_has (Has.of_own s 0 rfl) 66 (ndArr_sc _ _ _ _)) h one26 rfl rfl ?_; intro f h
              refine s_pure h (ru_lenZ (hRs.keep s.ext) Try.underlying26 (h.ev rfl)) rfl ?_; intro f h
              refine s_pure h (ru_val (.bool false) (ru_lss (h.ev rfl) (h.ev rfl)) (congrArg Value.bool (decide_eq_false (by have := of_decide_eq_false s0; omega)))) rfl ?_; intro f h
              refine s_pure h (ru_move (h.ev rfl)) rfl ?_; intro f h
              refine s_on h rfl rfl rfl ?_
              refine s_pure h (ru_field fld28_2 (h.ev rfl)) rfl ?_; intro f h
              refine s_on h rfl rfl rfl ?_
              refine s_load_at1 (V := vs) (cell_of_has (Has.of_own s 0 rfl) 66 (ndArr_sc _ _ _ _)) h one26 rfl rfl ?_; intro f h
              refine s_on h rfl rfl rfl ?_
              refine s_pure h (ru_lenZ (hRs.keep s.ext) Try.underlying26 (h.ev rfl)) rfl ?_; intro f h
              refine s_on h rfl rfl rfl ?_
              refine s_pure h (ru_val (.bool true) (ru_gtr (h.ev rfl) (h.ev rfl)) (congrArg Value.bool (decide_eq_true (by have := of_decide_eq_true s1; omega)))) rfl ?_; intro f h
              refine s_pure h (ru_pick_f (h.ev rfl) (h.ev rfl)) rfl ?_; intro f h
              refine s_pure h (ru_move (h.ev rfl)) rfl ?_; intro f h
              refine s_off (b := false) h rfl rfl rfl rfl ?_; intro f h
              refine s_off (b := false) h rfl rfl rfl rfl ?_; intro f h
              refine s_off (b := false) h rfl rfl rfl rfl ?_; intro f h
              refine s_off (b := false) h rfl rfl rfl rfl ?_; intro f h
              refine s_pure h (ru_pick_t (h.ev rfl) (h.ev rfl)) rfl ?_; intro f h
              refine s_pure h (ru_move (h.ev rfl)) rfl ?_; intro f h
              refine s_off (b := false) h rfl rfl rfl rfl ?_; intro f h
              refine s_off (b := false) h rfl rfl rfl rfl ?_; intro f h
              refine s_off (b := false) h rfl rfl rfl rfl ?_; intro f h
              refine s_off (b := false) h rfl rfl rfl rfl ?_; intro f h
              refine s_off (b := false) h rfl rfl rfl rfl ?_; intro f h
              refine s_off (b := false) h rfl rfl rfl rfl ?_; intro f h
              refine s_off (b := false) h rfl rfl rfl rfl ?_; intro f h
              refine s_pure h (ru_pick_t (h.ev rfl) (h.ev rfl)) rfl ?_; intro f h
              refine s_nil ?_
              refine hK7 _ _ ?_
              refine wpIn_cond_true (h.ev rfl) ?_
              refine c_seq fun K11 hK11 => ?_
              refine c_region ?_
              refine s_pure h (ru_assign (h.ev rfl)) rfl ?_; intro f h
              refine s_nil ?_
              refine hK11 _ _ ?_
              refine wpIn_ret ?_
              refine t_ret ?_
              exact e_tmp rfl h s rfl (by show _ = _; rw [right_2 (suc_s1 s1)])
          · skip
            refine c_region ?_
            refine s_pure h (ru_field fld28_2 (h.ev rfl)) rfl ?_; intro f h
            refine s_load_at1 (V := vs) (cell_of_has (Has.of_own s 0 rfl) 66 (ndArr_sc _ _ _ _)) h one26 rfl rfl ?_; intro f h
            refine s_pure h (ru_lenZ (hRs.keep s.ext) Try.underlying26 (h.ev rfl)) rfl ?_; intro f h
            refine s_pure h (ru_val (.bool true) (ru_lss (h.ev rfl) (h.ev rfl)) (congrArg Value.bool (decide_eq_true (by have := of_decide_eq_true s0; omega)))) rfl ?_; intro f h
            refine s_pure h (ru_move (h.ev rfl)) rfl ?_; intro f h
            refine s_off (b := false) h rfl rfl rfl rfl ?_; intro f h
            refine s_off (b := false) h rfl rfl rfl rfl ?_; intro f h
            refine s_off (b := false) h rfl rfl rfl rfl ?_; intro f h
            refine s_off (b := false) h rfl rfl rfl rfl ?_; intro f h
            refine s_pure h (ru_pick_t (h.ev rfl) (h.ev rfl)) rfl ?_; intro f h
            refine s_pure h (ru_move (h.ev rfl)) rfl ?_; intro f h
            refine s_off (b := false) h rfl rfl rfl rfl ?_; intro f h
            refine s_off (b := false) h rfl rfl rfl rfl ?_; intro f h
            refine s_off (b := false) h rfl rfl rfl rfl ?_; intro f h
            refine s_off (b := false) h rfl rfl rfl rfl ?_; intro f h
            refine s_pure h (ru_pick_t (h.ev rfl) (h.ev rfl)) rfl ?_; intro f h
            refine s_pure h (ru_move (h.ev rfl)) rfl ?_; intro f h
            refine s_off (b := false) h rfl rfl rfl rfl ?_; intro f h
            refine s_off (b := false) h rfl rfl rfl rfl ?_; intro f h
            refine s_off (b := false) h rfl rfl rfl rfl ?_; intro f h
            refine s_off (b := false) h rfl rfl rfl rfl ?_; intro f h
            refine s_off (b := false) h rfl rfl rfl rfl ?_; intro f h
            refine s_off (b := false) h rfl rfl rfl rfl ?_; intro f h
            refine s_off (b := false) h rfl rfl rfl rfl ?_; intro f h
            refine s_pure h (ru_pick_t (h.ev rfl) (h.ev rfl)) rfl ?_; intro f h
            refine s_nil ?_
            refine hK7 _ _ ?_
            refine wpIn_cond_true (h.ev rfl) ?_
            refine c_seq fun K12 hK12 => ?_
            refine c_region ?_
            refine s_pure h (ru_assign (h.ev rfl)) rfl ?_; intro f h
            refine s_nil ?_
            refine hK12 _ _ ?_
            refine wpIn_ret ?_
            refine t_ret ?_
            exact e_tmp rfl h s rfl (by show _ = _; rw [right_2 (suc_s0 s0)])
        · skip
          refine c_region ?_
          refine s_pure h (ru_field fld28_0 (h.ev rfl)) rfl ?_; intro f h
          refine s_load_at (Has.subL (Has.of_own s 0 rfl) 0 33 (D := mbArr n.me) (ndArr_me _ _ _ _)) h row25 rfl (mbArr_size _) rfl ?_; intro f h
          refine s_call h s fnc37 (ret_val (.bool true) (rmay_any n.me _) (congrArg Value.bool h0)) rfl rfl ?_; intro f w1 v9 hT hE h s; obtain rfl := hT
          refine s_pure h (ru_val (.bool false) (ru_not (h.ev rfl)) rfl) rfl ?_; intro f h
          refine s_pure h (ru_move (h.ev rfl)) rfl ?_; intro f h
          refine s_on h rfl rfl rfl ?_
          refine s_pure h (ru_field fld28_1 (h.ev rfl)) rfl ?_; intro f h
          refine s_on h rfl rfl rfl ?_
          refine s_load_at (Has.subL (Has.of_own s 0 rfl) 33 33 (D := mbArr n.pr) (ndArr_pr _ _ _ _)) h row25 rfl (mbArr_size _) rfl ?_; intro f h
          refine s_on h rfl rfl rfl ?_
          refine s_call h s fnc18 (ret_val (.bool false) (rnone_any n.pr _) (congrArg Value.bool p0)) rfl rfl ?_; intro f w1 v9 hT hE h s; obtain rfl := hT
          refine s_on h rfl rfl rfl ?_
          refine s_pure h (ru_val (.bool true) (ru_not (h.ev rfl)) rfl) rfl ?_; intro f h
          refine s_on h rfl rfl rfl ?_
          refine s_pure h (ru_move (h.ev rfl)) rfl ?_; intro f h
          refine s_on h rfl rfl rfl ?_
          refine s_pure h (ru_field fld28_1 (h.ev rfl)) rfl ?_; intro f h
          refine s_on h rfl rfl rfl ?_
          refine s_load_at (Has.subL (Has.of_own s 0 rfl) 33 33 (D := mbArr n.pr) (ndArr_pr _ _ _ _)) h row25 rfl (mbArr_size _) rfl ?_; intro f h
          refine s_on h rfl rfl rfl ?_
          refine s_call h s fnc37 (ret_val (.bool true) (rmay_any n.pr _) (congrArg Value.bool p1)) rfl rfl ?_; intro f w1 v9 hT hE h s; obtain rfl := hT
          refine s_on h rfl rfl rfl ?_
          refine s_pure h (ru_val (.bool false) (ru_not (h.ev rfl)) rfl) rfl ?_; intro f h
          refine s_on h rfl rfl rfl ?_
          refine s_pure h (ru_move (h.ev rfl)) rfl ?_; intro f h
          refine s_on h rfl rfl rfl ?_
          refine s_pure h (ru_field fld28_1 (h.ev rfl)) rfl ?_; intro f h
          refine s_on h rfl rfl rfl ?_
          refine s_pure h (ru_field fld25_0 (h.ev rfl)) rfl ?_; intro f h
          refine s_on h rfl rfl rfl ?_
          refine s_load_at1 (cell_of_has (Has.of_own s 0 rfl) 33 (ndArr_pno _ _ _ _)) h one3 rfl rfl ?_; intro f h
          refine s_on h rfl rfl rfl ?_
          refine s_pure h (ru_field fld28_0 (h.ev rfl)) rfl ?_; intro f h
          refine s_on h rfl rfl rfl ?_
          refine s_pure h (ru_field fld25_0 (h.ev rfl)) rfl ?_; intro f h
          refine s_on h rfl rfl rfl ?_
          refine s_load_at1 (cell_of_has (Has.of_own s 0 rfl) 0 (ndArr_no _ _ _ _)) h one3 rfl rfl ?_; intro f h
          refine s_on h rfl rfl rfl ?_
          refine s_pure h (ru_val (.bool true) (ru_eql (h.ev rfl) (h.ev rfl)) (congrArg Value.bool p2)) rfl ?_; intro f h
          refine s_on h rfl rfl rfl ?_
          refine s_pure h (ru_pick_f (h.ev rfl) (h.ev rfl)) rfl ?_; intro f h
          refine s_on h rfl rfl rfl ?_
          refine s_pure h (ru_pick_t (h.ev rfl) (h.ev rfl)) rfl ?_; intro f h
          refine s_pure h (ru_pick_f (h.ev rfl) (h.ev rfl)) rfl ?_; intro f h
          refine s_nil ?_
          refine hK3 _ _ ?_
          refine wpIn_cond_true (h.ev rfl) ?_
          refine c_seq fun K13 hK13 => ?_
          refine c_region ?_
          refine s_pure h (ru_assign (h.ev rfl)) rfl ?_; intro f h
          refine s_nil ?_
          refine hK13 _ _ ?_
          refine wpIn_ret ?_
          refine t_ret ?_
          exact e_tmp rfl h s rfl (by show _ = _; rw [right_1 (pre_n p0 p1 p2)])
    · skip
      refine c_region ?_
      refine s_pure h (ru_field fld28_0 (h.ev rfl)) rfl ?_; intro f h
      refine s_load_at (Has.subL (Has.of_own s 0 rfl) 0 33 (D := mbArr n.me) (ndArr_me _ _ _ _)) h row25 rfl (mbArr_size _) rfl ?_; intro f h
      refine s_call h s fnc37 (ret_val (.bool true) (rmay_any n.me _) (congrArg Value.bool h0)) rfl rfl ?_; intro f w1 v9 hT hE h s; obtain rfl := hT
      refine s_pure h (ru_val (.bool false) (ru_not (h.ev rfl)) rfl) rfl ?_; intro f h
      refine s_pure h (ru_move (h.ev rfl)) rfl ?_; intro f h
      refine s_on h rfl rfl rfl ?_
      refine s_pure h (ru_field fld28_1 (h.ev rfl)) rfl ?_; intro f h
      refine s_on h rfl rfl rfl ?_
      refine s_load_at (Has.subL (Has.of_own s 0 rfl) 33 33 (D := mbArr n.pr) (ndArr_pr _ _ _ _)) h row25 rfl (mbArr_size _) rfl ?_; intro f h
      refine s_on h rfl rfl rfl ?_
      refine s_call h s fnc18 (ret_val (.bool true) (rnone_any n.pr _) (congrArg Value.bool p0)) rfl rfl ?_; intro f w1 v9 hT hE h s; obtain rfl := hT
      refine s_on h rfl rfl rfl ?_
      refine s_pure h (ru_val (.bool false) (ru_not (h.ev rfl)) rfl) rfl ?_; intro f h
      refine s_on h rfl rfl rfl ?_
      refine s_pure h (ru_move (h.ev rfl)) rfl ?_; intro f h
      refine s_off (b := true) h rfl rfl rfl rfl ?_; intro f h
      refine s_off (b := true) h rfl rfl rfl rfl ?_; intro f h
      refine s_off (b := true) h rfl rfl rfl rfl ?_; intro f h
      refine s_off (b := true) h rfl rfl rfl rfl ?_; intro f h
      refine s_off (b := true) h rfl rfl rfl rfl ?_; intro f h
      refine s_none h rfl rfl rfl rfl ?_; intro f h
      refine s_none h rfl rfl rfl rfl ?_; intro f h
      refine s_none h rfl rfl rfl rfl ?_; intro f h
      refine s_none h rfl rfl rfl rfl ?_; intro f h
      refine s_none h rfl rfl rfl rfl ?_; intro f h
      refine s_none h rfl rfl rfl rfl ?_; intro f h
      refine s_none h rfl rfl rfl rfl ?_; intro f h
      refine s_off (b := true) h rfl rfl rfl rfl ?_; intro f h
      refine s_on h rfl rfl rfl ?_
      refine s_pure h (ru_pick_f (h.ev rfl) (h.ev rfl)) rfl ?_; intro f h
      refine s_pure h (ru_pick_f (h.ev rfl) (h.ev rfl)) rfl ?_; intro f h
      refine s_nil ?_
      refine hK3 _ _ ?_
      refine wpIn_cond_false (h.ev rfl) ?_
      refine wpIn_skip ?_
      refine hK2 _ _ ?_
      refine c_seq fun K14 hK14 => ?_
      refine c_seq fun K15 hK15 => ?_
      cases s0 : (decide (n.sc.length < 1) : Bool)
      · skip
        cases s1 : (decide (4 < n.sc.length) : Bool)
        · skip
          cases f0 : (decide (16 < n.fg.length) : Bool)
          · skip
            cases f1 : (othL n.fg n.me.1 : Bool)
            · skip
              refine c_region ?_
              refine s_pure h (ru_field fld28_2 (h.ev rfl)) rfl ?_; intro f h
              refine s_load_at1 (V := vs) (cell_of_has (Has.of_own s 0 rfl) 66 (ndArr_sc _ _ _ _)) h one26 rfl rfl ?_; intro f h
              refine s_pure h (ru_lenZ (hRs.keep s.ext) Try.underlying26 (h.ev rfl)) rfl ?_; intro f h
              refine s_pure h (ru_val (.bool false) (ru_lss (h.ev rfl) (h.ev rfl)) (congrArg Value.bool (decide_eq_false (by have := of_decide_eq_false s0; omega)))) rfl ?_; intro f h
              refine s_pure h (ru_move (h.ev rfl)) rfl ?_; intro f h
              refine s_on h rfl rfl rfl ?_
              refine s_pure h (ru_field fld28_2 (h.ev rfl)) rfl ?_; intro f h
              refine s_on h rfl rfl rfl ?_
              refine s_load_at1 (V := vs) (cell_of_has (Has.of_own s 0 rfl) 66 (ndArr_sc _ _ _ _)) h one26 rfl rfl ?_; intro f h
              refine s_on h rfl rfl rfl ?_
              refine s_pure h (ru_lenZ (hRs.keep s.ext) Try.underlying26 (h.ev rfl)) rfl ?_; intro f h
              refine s_on h rfl rfl rfl ?_
              refine s_pure h (ru_val (.bool false) (ru_gtr (h.ev rfl) (h.ev rfl)) (congrArg Value.bool (decide_eq_false (by have := of_decide_eq_false s1; omega)))) rfl ?_; intro f h
              refine s_pure h (ru_pick_f (h.ev rfl) (h.ev rfl)) rfl ?_; intro f h
              refine s_pure h (ru_move (h.ev rfl)) rfl ?_; intro f h
              refine s_on h rfl rfl rfl ?_
              refine s_pure h (ru_field fld28_3 (h.ev rfl)) rfl ?_; intro f h
              refine s_on h rfl rfl rfl ?_
              refine s_load_at1 (V := vf) (cell_of_has (Has.of_own s 0 rfl) 67 (ndArr_fg _ _ _ _)) h one26 rfl rfl ?_; intro f h
              refine s_on h rfl rfl rfl ?_
              refine s_pure h (ru_lenZ (hRf.keep s.ext) Try.underlying26 (h.ev rfl)) rfl ?_; intro f h
              refine s_on h rfl rfl rfl ?_
              refine s_pure h (ru_val (.bool false) (ru_gtr (h.ev rfl) (h.ev rfl)) (congrArg Value.bool (decide_eq_false (by have := of_decide_eq_false f0; omega)))) rfl ?_; intro f h
              refine s_pure h (ru_pick_f (h.ev rfl) (h.ev rfl)) rfl ?_; intro f h
              refine s_pure h (ru_move (h.ev rfl)) rfl ?_; intro f h
              refine s_on h rfl rfl rfl ?_
              refine s_pure h (ru_field fld28_3 (h.ev rfl)) rfl ?_; intro f h
              refine s_on h rfl rfl rfl ?_
              refine s_load_at1 (V := vf) (cell_of_has (Has.of_own s 0 rfl) 67 (ndArr_fg _ _ _ _)) h one26 rfl rfl ?_; intro f h
              refine s_on h rfl rfl rfl ?_
              refine s_pure h (ru_field fld28_0 (h.ev rfl)) rfl ?_; intro f h
              refine s_on h rfl rfl rfl ?_
              refine s_pure h (ru_field fld25_0 (h.ev rfl)) rfl ?_; intro f h
              refine s_on h rfl rfl rfl ?_
              refine s_load_at1 (cell_of_has (Has.of_own s 0 rfl) 0 (ndArr_no _ _ _ _)) h one3 rfl rfl ?_; intro f h
              refine s_on h rfl rfl rfl ?_
              refine s_call h s fnc38 (ret_val (.bool false) (unlike_any n.fg vf n.me.1 _ (hRf.keep s.ext) hnf) (congrArg Value.bool f1)) rfl rfl ?_; intro f w1 v9 hT hE h s; obtain rfl := hT
              refine s_on h rfl rfl rfl ?_
              refine s_pure h (ru_val (.bool true) (ru_not (h.ev rfl)) rfl) rfl ?_; intro f h
              refine s_pure h (ru_pick_f (h.ev rfl) (h.ev rfl)) rfl ?_; intro f h
              refine s_nil ?_
              refine hK15 _ _ ?_
              refine wpIn_cond_true (h.ev rfl) ?_
              refine c_seq fun K16 hK16 => ?_
              refine c_region ?_
              refine s_pure h (ru_assign (h.ev rfl)) rfl ?_; intro f h
              refine s_nil ?_
              refine hK16 _ _ ?_
              refine wpIn_ret ?_
              refine t_ret ?_
              exact e_tmp rfl h s rfl (by show _ = _; rw [right_4 (fin_f1 f1)])
            · skip
              refine c_region ?_
              refine s_pure h (ru_field fld28_2 (h.ev rfl)) rfl ?_; intro f h
              refine s_load_at1 (V := vs) (cell_of_has (Has.of_own s 0 rfl) 66 (ndArr_sc _ _ _ _)) h one26 rfl rfl ?_; intro f h
              refine s_pure h (ru_lenZ (hRs.keep s.ext) Try.underlying26 (h.ev rfl)) rfl ?_; intro f h
              refine s_pure h (ru_val (.bool false) (ru_lss (h.ev rfl) (h.ev rfl)) (congrArg Value.bool (decide_eq_false (by have := of_decide_eq_false s0; omega)))) rfl ?_; intro f h
              refine s_pure h (ru_move (h.ev rfl)) rfl ?_; intro f h
              refine s_on h rfl rfl rfl ?_
              refine s_pure h (ru_field fld28_2 (h.ev rfl)) rfl ?_; intro f h
              refine s_on h rfl rfl rfl ?_
              refine s_load_at1 (V := vs) (cell_of_has (Has.of_own s 0 rfl) 66 (ndArr_sc _ _ _ _)) h one26 rfl rfl ?_; intro f h
              refine s_on h rfl rfl rfl ?_
              refine s_pure h (ru_lenZ (hRs.keep s.ext) Try.underlying26 (h.ev rfl)) rfl ?_; intro f h
              refine s_on h rfl rfl rfl ?_
              refine s_pure h (ru_val (.bool false) (ru_gtr (h.ev rfl) (h.ev rfl)) (congrArg Value.bool (decide_eq_false (by have := of_decide_eq_false s1; omega)))) rfl ?_; intro f h
              refine s_pure h (ru_pick_f (h.ev rfl) (h.ev rfl)) rfl ?_; intro f h
              refine s_pure h (ru_move (h.ev rfl)) rfl ?_; intro f h
              refine s_on h rfl rfl rfl ?_
              refine s_pure h (ru_field fld28_3 (h.ev rfl)) rfl ?_; intro f h
              refine s_on h rfl rfl rfl ?_
              refine s_load_at1 (V := vf) (cell_of_has (Has.of_own s 0 rfl) 67 (ndArr_fg _ _ _ _)) h one26 rfl rfl ?_; intro f h
              refine s_on h rfl rfl rfl ?_
              refine s_pure h (ru_lenZ (hRf.keep s.ext) Try.underlying26 (h.ev rfl)) rfl ?_; intro f h
              refine s_on h rfl rfl rfl ?_
              refine s_pure h (ru_val (.bool false) (ru_gtr (h.ev rfl) (h.ev rfl)) (congrArg Value.bool (decide_eq_false (by have := of_decide_eq_false f0; omega)))) rfl ?_; intro f h
              refine s_pure h (ru_pick_f (h.ev rfl) (h.ev rfl)) rfl ?_; intro f h
              refine s_pure h (ru_move (h.ev rfl)) rfl ?_; intro f h
              refine s_on h rfl rfl rfl ?_
              refine s_pure h (ru_field fld28_3 (h.ev rfl)) rfl ?_; intro f h
              refine s_on h rfl rfl rfl ?_
              refine s_load_at1 (V := vf) (cell_of_has (Has.of_own s 0 rfl) 67 (ndArr_fg _ _ _ _)) h one26 rfl rfl ?_; intro f h
              refine s_on h rfl rfl rfl ?_
              refine s_pure h (ru_field fld28_0 (h.ev rfl)) rfl ?_; intro f h
              refine s_on h rfl rfl rfl ?_
              refine s_pure h (ru_field fld25_0 (h.ev rfl)) rfl ?_; intro f h
              refine s_on h rfl rfl rfl ?_
              refine s_load_at1 (cell_of_has (Has.of_own s 0 rfl) 0 (ndArr_no _ _ _ _)) h one3 rfl rfl ?_; intro f h
              refine s_on h rfl rfl rfl ?_
              refine s_call h s fnc38 (ret_val (.bool true) (unlike_any n.fg vf n.me.1 _ (hRf.keep s.ext) hnf) (congrArg Value.bool f1)) rfl rfl ?_; intro f w1 v9 hT hE h s; obtain rfl := hT
              refine s_on h rfl rfl rfl ?_
              refine s_pure h (ru_val (.bool false) (ru_not (h.ev rfl)) rfl) rfl ?_; intro f h
              refine s_pure h (ru_pick_f (h.ev rfl) (h.ev rfl)) rfl ?_; intro f h
              refine s_nil ?_
              refine hK15 _ _ ?_
              refine wpIn_cond_false (h.ev rfl) ?_
              refine wpIn_skip ?_
              refine hK14 _ _ ?_
              refine c_seq fun K17 hK17 => ?_
              cases t0 : (decide (n.sc.length = 1) : Bool)
              · skip
                refine c_walkN 22 [[], [0], [0, 1], [0, 1, 2], [0, 1, 2, 3], [0, 1, 2, 3, 4], [0, 1, 2, 3, 4, 5], [0, 1, 2, 3, 4, 5, 6], [0, 1, 2, 3, 4, 5, 6, 7], [0, 1, 2, 3, 4], [0, 1, 2, 3, 4, 9], [0, 1, 2, 3, 4, 5, 6, 7, 8, 9, 10], [0, 1, 2, 3, 4, 5, 6, 7, 8, 9, 10, 11], [0, 1, 2, 3, 4, 5, 6, 7, 8, 9, 10, 11, 12], [0, 1, 2, 3, 4, 5, 6, 7, 8, 9, 10, 11, 12, 13], [0, 1, 2, 3, 4, 5, 6, 7, 8, 9, 10, 11, 12, 13, 14], [0, 1, 2, 3, 4, 5, 6, 7, 8, 9, 10, 11, 12, 13], [0, 1, 2, 3, 4, 5, 6, 7, 8, 9, 10, 11, 12, 13, 16], [0, 1, 2, 3, 4, 5, 6, 7, 8, 9, 10, 11, 12, 13, 16, 17], [0, 1, 2, 3, 4, 5, 6, 7, 8, 9, 10, 11, 12, 13, 14, 15, 16, 17, 18], [0, 1, 2, 3, 4, 5, 6, 7, 8, 9, 10, 11, 12, 13, 14, 15, 16, 17, 18, 19], [0, 1, 2, 3, 4, 5, 6, 7, 8, 9, 10, 11, 12, 13, 14, 15, 16, 17, 18, 19, 20]] h (by kernel_rfl) (by kernel_rfl) (by kernel_rfl) ?_
                refine w_pure h (ru_field fld28_2 (h.ev rfl)) rfl ?_; intro f h
                refine w_load_at1 (V := vs) (cell_of_has (Has.of_own s 0 rfl) 66 (ndArr_sc _ _ _ _)) h one26 rfl rfl ?_; intro f h
                refine w_pure h (ru_lenZ (hRs.keep s.ext) Try.underlying26 (h.ev rfl)) rfl ?_; intro f h
                refine w_pure h (ru_val (.bool false) (ru_eql (h.ev rfl) (h.ev rfl)) (congrArg Value.bool (decide_eq_false (by have := of_decide_eq_false t0; omega)))) rfl ?_; intro f h
                refine w_pure h (ru_move (h.ev rfl)) rfl ?_; intro f h
                refine w_off (b := true) h rfl rfl rfl rfl ?_; intro f h
                refine w_off (b := true) h rfl rfl rfl rfl ?_; intro f h
                refine w_off (b := true) h rfl rfl rfl rfl ?_; intro f h
                refine w_off (b := true) h rfl rfl rfl rfl ?_; intro f h
                refine w_off (b := true) h rfl rfl rfl rfl ?_; intro f h
                refine w_off (b := true) h rfl rfl rfl rfl ?_; intro f h
                refine w_off (b := true) h rfl rfl rfl rfl ?_; intro f h
                refine w_pure h (ru_pick_f (h.ev rfl) (h.ev rfl)) rfl ?_; intro f h
                refine w_pure h (ru_move (h.ev rfl)) rfl ?_; intro f h
                refine w_on h rfl rfl rfl ?_
                refine w_pure h (ru_field fld28_2 (h.ev rfl)) rfl ?_; intro f h
                refine w_on h rfl rfl rfl ?_
                refine w_load_at1 (V := vs) (cell_of_has (Has.of_own s 0 rfl) 66 (ndArr_sc _ _ _ _)) h one26 rfl rfl ?_; intro f h
                refine w_on h rfl rfl rfl ?_
                refine w_pure h (ru_field fld28_0 (h.ev rfl)) rfl ?_; intro f h
                refine w_on h rfl rfl rfl ?_
                refine w_pure h (ru_field fld25_0 (h.ev rfl)) rfl ?_; intro f h
                refine w_on h rfl rfl rfl ?_
                refine w_load_at1 (cell_of_has (Has.of_own s 0 rfl) 0 (ndArr_no _ _ _ _)) h one3 rfl rfl ?_; intro f h
                refine w_on h rfl rfl rfl ?_
                refine w_call h fnc38 (fun w9 hE9 => unlike_any n.sc vs n.me.1 w9 (hRs.keep (s.ext.trans hE9)) hns) rfl rfl ?_; intro f h
                refine w_pure h (ru_pick_f (h.ev rfl) (h.ev rfl)) rfl ?_; intro f h
                refine w_pure h (ru_assign (h.ev rfl)) rfl ?_; intro f h
                refine w_nil s fun w1 s => ?_
                refine s_nil ?_
                refine hK17 _ _ ?_
                refine wpIn_ret ?_
                exact e_tmp rfl h s rfl (by show _ = _; rw [right_5 h0 (pre_0 p0) (fin_f2 f0 f1), suc_o s0 s1 (by rintro ⟨h9, h8⟩; exact absurd h9 (of_decide_eq_false t0))])
              · skip
                cases t1 : (decide (n.sc.getD 0 zMb = n.me) : Bool)
                · skip
                  refine c_walkN 22 [[], [0], [0, 1], [0, 1, 2], [0, 1, 2, 3], [0, 1, 2, 3, 4], [0, 1, 2, 3, 4, 5], [0, 1, 2, 3, 4, 5, 6], [0, 1, 2, 3, 4, 5, 6, 7], [0, 1, 2, 3, 4], [0, 1, 2, 3, 4, 9], [0, 1, 2, 3, 4, 5, 6, 7, 8, 9, 10], [0, 1, 2, 3, 4, 5, 6, 7, 8, 9, 10, 11], [0, 1, 2, 3, 4, 5, 6, 7, 8, 9, 10, 11, 12], [0, 1, 2, 3, 4, 5, 6, 7, 8, 9, 10, 11, 12, 13], [0, 1, 2, 3, 4, 5, 6, 7, 8, 9, 10, 11, 12, 13, 14], [0, 1, 2, 3, 4, 5, 6, 7, 8, 9, 10, 11, 12, 13], [0, 1, 2, 3, 4, 5, 6, 7, 8, 9, 10, 11, 12, 13, 16], [0, 1, 2, 3, 4, 5, 6, 7, 8, 9, 10, 11, 12, 13, 16, 17], [0, 1, 2, 3, 4, 5, 6, 7, 8, 9, 10, 11, 12, 13, 14, 15, 16, 17, 18], [0, 1, 2, 3, 4, 5, 6, 7, 8, 9, 10, 11, 12, 13, 14, 15, 16, 17, 18, 19], [0, 1, 2, 3, 4, 5, 6, 7, 8, 9, 10, 11, 12, 13, 14, 15, 16, 17, 18, 19, 20]] h (by kernel_rfl) (by kernel_rfl) (by kernel_rfl) ?_
                  refine w_pure h (ru_field fld28_2 (h.ev rfl)) rfl ?_; intro f h
                  refine w_load_at1 (V := vs) (cell_of_has (Has.of_own s 0 rfl) 66 (ndArr_sc _ _ _ _)) h one26 rfl rfl ?_; intro f h
                  refine w_pure h (ru_lenZ (hRs.keep s.ext) Try.underlying26 (h.ev rfl)) rfl ?_; intro f h
                  refine w_pure h (ru_val (.bool true) (ru_eql (h.ev rfl) (h.ev rfl)) (congrArg Value.bool (decide_eq_true (by have := of_decide_eq_true t0; omega)))) rfl ?_; intro f h
                  refine w_pure h (ru_move (h.ev rfl)) rfl ?_; intro f h
                  refine w_on h rfl rfl rfl ?_
                  refine w_pure h (ru_field fld28_2 (h.ev rfl)) rfl ?_; intro f h
                  refine w_on h rfl rfl rfl ?_
                  refine w_load_at1 (V := vs) (cell_of_has (Has.of_own s 0 rfl) 66 (ndArr_sc _ _ _ _)) h one26 rfl rfl ?_; intro f h
                  refine w_on h rfl rfl rfl ?_
                  have h19 := of_decide_eq_true t0
                  refine w_pure h (ru_ixz (hRs.keep s.ext) (0) Try.underlying26 szo25 (h.ev rfl) (h.ev rfl) (by omega) (by omega)) rfl ?_; intro f h
                  refine w_on h rfl rfl rfl ?_
                  refine w_load_at ((hRs.keep s.ext).el (0) (by omega) (by decide) (D := mbArr (n.sc.getD 0 zMb)) (mb_elD n.sc 0 (by omega))) h row25 rfl (mbArr_size _) rfl ?_; intro f h
                  refine w_on h rfl rfl rfl ?_
                  refine w_pure h (ru_field fld28_0 (h.ev rfl)) rfl ?_; intro f h
                  refine w_on h rfl rfl rfl ?_
                  refine w_load_at (Has.subL (Has.of_own s 0 rfl) 0 33 (D := mbArr n.me) (ndArr_me _ _ _ _)) h row25 rfl (mbArr_size _) rfl ?_; intro f h
                  refine w_on h rfl rfl rfl ?_
                  refine w_pure h (ru_val (.bool false) (ru_eqlW (eqM _ _) (by kernel_rfl) (by decide) (h.ev rfl) (h.ev rfl) (decide (n.sc.getD 0 zMb = n.me)) (mbEq _ _)) (congrArg Value.bool t1)) rfl ?_; intro f h
                  refine w_pure h (ru_pick_t (h.ev rfl) (h.ev rfl)) rfl ?_; intro f h
                  refine w_pure h (ru_move (h.ev rfl)) rfl ?_; intro f h
                  refine w_on h rfl rfl rfl ?_
                  refine w_pure h (ru_field fld28_2 (h.ev rfl)) rfl ?_; intro f h
                  refine w_on h rfl rfl rfl ?_
                  refine w_load_at1 (V := vs) (cell_of_has (Has.of_own s 0 rfl) 66 (ndArr_sc _ _ _ _)) h one26 rfl rfl ?_; intro f h
                  refine w_on h rfl rfl rfl ?_
                  refine w_pure h (ru_field fld28_0 (h.ev rfl)) rfl ?_; intro f h
                  refine w_on h rfl rfl rfl ?_
                  refine w_pure h (ru_field fld25_0 (h.ev rfl)) rfl ?_; intro f h
                  refine w_on h rfl rfl rfl ?_
                  refine w_load_at1 (cell_of_has (Has.of_own s 0 rfl) 0 (ndArr_no _ _ _ _)) h one3 rfl rfl ?_; intro f h
                  refine w_on h rfl rfl rfl ?_
                  refine w_call h fnc38 (fun w9 hE9 => unlike_any n.sc vs n.me.1 w9 (hRs.keep (s.ext.trans hE9)) hns) rfl rfl ?_; intro f h
                  refine w_pure h (ru_pick_f (h.ev rfl) (h.ev rfl)) rfl ?_; intro f h
                  refine w_pure h (ru_assign (h.ev rfl)) rfl ?_; intro f h
                  refine w_nil s fun w1 s => ?_
                  refine s_nil ?_
                  refine hK17 _ _ ?_
                  refine wpIn_ret ?_
                  exact e_tmp rfl h s rfl (by show _ = _; rw [right_5 h0 (pre_0 p0) (fin_f2 f0 f1), suc_o s0 s1 (by rintro ⟨h9, h8⟩; exact absurd h8 (of_decide_eq_false t1))])
                · skip
                  refine c_walkN 22 [[], [0], [0, 1], [0, 1, 2], [0, 1, 2, 3], [0, 1, 2, 3, 4], [0, 1, 2, 3, 4, 5], [0, 1, 2, 3, 4, 5, 6], [0, 1, 2, 3, 4, 5, 6, 7], [0, 1, 2, 3, 4], [0, 1, 2, 3, 4, 9], [0, 1, 2, 3, 4, 5, 6, 7, 8, 9, 10], [0, 1, 2, 3, 4, 5, 6, 7, 8, 9, 10, 11], [0, 1, 2, 3, 4, 5, 6, 7, 8, 9, 10, 11, 12], [0, 1, 2, 3, 4, 5, 6, 7, 8, 9, 10, 11, 12, 13], [0, 1, 2, 3, 4, 5, 6, 7, 8, 9, 10, 11, 12, 13, 14], [0, 1, 2, 3, 4, 5, 6, 7, 8, 9, 10, 11, 12, 13], [0, 1, 2, 3, 4, 5, 6, 7, 8, 9, 10, 11, 12, 13, 16], [0, 1, 2, 3, 4, 5, 6, 7, 8, 9, 10, 11, 12, 13, 16, 17], [0, 1, 2, 3, 4, 5, 6, 7, 8, 9, 10, 11, 12, 13, 14, 15, 16, 17, 18], [0, 1, 2, 3, 4, 5, 6, 7, 8, 9, 10, 11, 12, 13, 14, 15, 16, 17, 18, 19], [0, 1, 2, 3, 4, 5, 6, 7, 8, 9, 10, 11, 12, 13, 14, 15, 16, 17, 18, 19, 20]] h (by kernel_rfl) (by kernel_rfl) (by kernel_rfl) ?_
                  refine w_pure h (ru_field fld28_2 (h.ev rfl)) rfl ?_; intro f h
                  refine w_load_at1 (V := vs) (cell_of_has (Has.of_own s 0 rfl) 66 (ndArr_sc _ _ _ _)) h one26 rfl rfl ?_; intro f h
                  refine w_pure h (ru_lenZ (hRs.keep s.ext) Try.underlying26 (h.ev rfl)) rfl ?_; intro f h
                  refine w_pure h (ru_val (.bool true) (ru_eql (h.ev rfl) (h.ev rfl)) (congrArg Value.bool (decide_eq_true (by have := of_decide_eq_true t0; omega)))) rfl ?_; intro f h
                  refine w_pure h (ru_move (h.ev rfl)) rfl ?_; intro f h
                  refine w_on h rfl rfl rfl ?_
                  refine w_pure h (ru_field fld28_2 (h.ev rfl)) rfl ?_; intro f h
                  refine w_on h rfl rfl rfl ?_
                  refine w_load_at1 (V := vs) (cell_of_has (Has.of_own s 0 rfl) 66 (ndArr_sc _ _ _ _)) h one26 rfl rfl ?_; intro f h
                  refine w_on h rfl rfl rfl ?_
                  have h19 := of_decide_eq_true t0
                  refine w_pure h (ru_ixz (hRs.keep s.ext) (0) Try.underlying26 szo25 (h.ev rfl) (h.ev rfl) (by omega) (by omega)) rfl ?_; intro f h
                  refine w_on h rfl rfl rfl ?_
                  refine w_load_at ((hRs.keep s.ext).el (0) (by omega) (by decide) (D := mbArr (n.sc.getD 0 zMb)) (mb_elD n.sc 0 (by omega))) h row25 rfl (mbArr_size _) rfl ?_; intro f h
                  refine w_on h rfl rfl rfl ?_
                  refine w_pure h (ru_field fld28_0 (h.ev rfl)) rfl ?_; intro f h
                  refine w_on h rfl rfl rfl ?_
                  refine w_load_at (Has.subL (Has.of_own s 0 rfl) 0 33 (D := mbArr n.me) (ndArr_me _ _ _ _)) h row25 rfl (mbArr_size _) rfl ?_; intro f h
                  refine w_on h rfl rfl rfl ?_
                  refine w_pure h (ru_val (.bool true) (ru_eqlW (eqM _ _) (by kernel_rfl) (by decide) (h.ev rfl) (h.ev rfl) (decide (n.sc.getD 0 zMb = n.me)) (mbEq _ _)) (congrArg Value.bool t1)) rfl ?_; intro f h
                  refine w_pure h (ru_pick_t (h.ev rfl) (h.ev rfl)) rfl ?_; intro f h
                  refine w_pure h (ru_move (h.ev rfl)) rfl ?_; intro f h
                  refine w_off (b := false) h rfl rfl rfl rfl ?_; intro f h
                  refine w_off (b := false) h rfl rfl rfl rfl ?_; intro f h
                  refine w_off (b := false) h rfl rfl rfl rfl ?_; intro f h
                  refine w_off (b := false) h rfl rfl rfl rfl ?_; intro f h
                  refine w_off (b := false) h rfl rfl rfl rfl ?_; intro f h
                  refine w_off (b := false) h rfl rfl rfl rfl ?_; intro f h
                  refine w_pure h (ru_pick_t (h.ev rfl) (h.ev rfl)) rfl ?_; intro f h
                  refine w_pure h (ru_assign (h.ev rfl)) rfl ?_; intro f h
                  refine w_nil s fun w1 s => ?_
                  refine s_nil ?_
                  refine hK17 _ _ ?_
                  refine wpIn_ret ?_
                  exact e_tmp rfl h s rfl (by show _ = _; rw [right_5 h0 (pre_0 p0) (fin_f2 f0 f1), suc_y t0 t1])
          · skip
            refine c_region ?_
            refine s_pure h (ru_field fld28_2 (h.ev rfl)) rfl ?_; intro f h
            refine s_load_at1 (V := vs) (cell_of_has (Has.of_own s 0 rfl) 66 (ndArr_sc _ _ _ _)) h one26 rfl rfl ?_; intro f h
            refine s_pure h (ru_lenZ (hRs.keep s.ext) Try.underlying26 (h.ev rfl)) rfl ?_; intro f h
            refine s_pure h (ru_val (.bool false) (ru_lss (h.ev rfl) (h.ev rfl)) (congrArg Value.bool (decide_eq_false (by have := of_decide_eq_false s0; omega)))) rfl ?_; intro f h
            refine s_pure h (ru_move (h.ev rfl)) rfl ?_; intro f h
            refine s_on h rfl rfl rfl ?_
            refine s_pure h (ru_field fld28_2 (h.ev rfl)) rfl ?_; intro f h
            refine s_on h rfl rfl rfl ?_
            refine s_load_at1 (V := vs) (cell_of_has (Has.of_own s 0 rfl) 66 (ndArr_sc _ _ _ _)) h one26 rfl rfl ?_; intro f h
            refine s_on h rfl rfl rfl ?_
            refine s_pure h (ru_lenZ (hRs.keep s.ext) Try.underlying26 (h.ev rfl)) rfl ?_; intro f h
            refine s_on h rfl rfl rfl ?_
            refine s_pure h (ru_val (.bool false) (ru_gtr (h.ev rfl) (h.ev rfl)) (congrArg Value.bool (decide_eq_false (by have := of_decide_eq_false s1; omega)))) rfl ?_; intro f h
            refine s_pure h (ru_pick_f (h.ev rfl) (h.ev rfl)) rfl ?_; intro f h
            refine s_pure h (ru_move (h.ev rfl)) rfl ?_; intro f h
            refine s_on h rfl rfl rfl ?_
            refine s_pure h (ru_field fld28_3 (h.ev rfl)) rfl ?_; intro f h
            refine s_on h rfl rfl rfl ?_
            refine s_load_at1 (V := vf) (cell_of_has (Has.of_own s 0 rfl) 67 (ndArr_fg _ _ _ _)) h one26 rfl rfl ?_; intro f h
            refine s_on h rfl rfl rfl ?_
            refine s_pure h (ru_lenZ (hRf.keep s.ext) Try.underlying26 (h.ev rfl)) rfl ?_; intro f h
            refine s_on h rfl rfl rfl ?_
            refine s_pure h (ru_val (.bool true) (ru_gtr (h.ev rfl) (h.ev rfl)) (congrArg Value.bool (decide_eq_true (by have := of_decide_eq_true f0; omega)))) rfl ?_; intro f h
            refine s_pure h (ru_pick_f (h.ev rfl) (h.ev rfl)) rfl ?_; intro f h
            refine s_pure h (ru_move (h.ev rfl)) rfl ?_; intro f h
            refine s_off (b := false) h rfl rfl rfl rfl ?_; intro f h
            refine s_off (b := false) h rfl rfl rfl rfl ?_; intro f h
            refine s_off (b := false) h rfl rfl rfl rfl ?_; intro f h
            refine s_off (b := false) h rfl rfl rfl rfl ?_; intro f h
            refine s_off (b := false) h rfl rfl rfl rfl ?_; intro f h
            refine s_off (b := false) h rfl rfl rfl rfl ?_; intro f h
            refine s_off (b := false) h rfl rfl rfl rfl ?_; intro f h
            refine s_pure h (ru_pick_t (h.ev rfl) (h.ev rfl)) rfl ?_; intro f h
            refine s_nil ?_
            refine hK15 _ _ ?_
            refine wpIn_cond_true (h.ev rfl) ?_
            refine c_seq fun K18 hK18 => ?_
            refine c_region ?_
            refine s_pure h (ru_assign (h.ev rfl)) rfl ?_; intro f h
            refine s_nil ?_
            refine hK18 _ _ ?_
            refine wpIn_ret ?_
            refine t_ret ?_
            exact e_tmp rfl h s rfl (by show _ = _; rw [right_4 (fin_f0 f0)])
        · skip
          refine c_region ?_
          refine s_pure h (ru_field fld28_2 (h.ev rfl)) rfl ?_; intro f h
          refine s_load_at1 (V := vs) (cell_of_has (Has.of_own s 0 rfl) 66 (ndArr_sc _ _ _ _)) h one26 rfl rfl ?_; intro f h
          refine s_pure h (ru_lenZ (hRs.keep s.ext) Try.underlying26 (h.ev rfl)) rfl ?_; intro f h
          refine s_pure h (ru_val (.bool false) (ru_lss (h.ev rfl) (h.ev rfl)) (congrArg Value.bool (decide_eq_false (by have := of_decide_eq_false s0; omega)))) rfl ?_; intro f h
          refine s_pure h (ru_move (h.ev rfl)) rfl ?_; intro f h
          refine s_on h rfl rfl rfl ?_
          refine s_pure h (ru_field fld28_2 (h.ev rfl)) rfl ?_; intro f h
          refine s_on h rfl rfl rfl ?_
          refine s_load_at1 (V := vs) (cell_of_has (Has.of_own s 0 rfl) 66 (ndArr_sc _ _ _ _)) h one26 rfl rfl ?_; intro f h
          refine s_on h rfl rfl rfl ?_
          refine s_pure h (ru_lenZ (hRs.keep s.ext) Try.underlying26 (h.ev rfl)) rfl ?_; intro f h
          refine s_on h rfl rfl rfl ?_
          refine s_pure h (ru_val (.bool true) (ru_gtr (h.ev rfl) (h.ev rfl)) (congrArg Value.bool (decide_eq_true (by have := of_decide_eq_true s1; omega)))) rfl ?_; intro f h
          refine s_pure h (ru_pick_f (h.ev rfl) (h.ev rfl)) rfl ?_; intro f h
          refine s_pure h (ru_move (h.ev rfl)) rfl ?_; intro f h
          refine s_off (b := false) h rfl rfl rfl rfl ?_; intro f h
          refine s_off (b := false) h rfl rfl rfl rfl ?_; intro f h
          refine s_off (b := false) h rfl rfl rfl rfl ?_; intro f h
          refine s_off (b := false) h rfl rfl rfl rfl ?_; intro f h
          refine s_pure h (ru_pick_t (h.ev rfl) (h.ev rfl)) rfl ?_; intro f h
          refine s_pure h (ru_move (h.ev rfl)) rfl ?_; intro f h
          refine s_off (b := false) h rfl rfl rfl rfl ?_; intro f h
          refine s_off (b := false) h rfl rfl rfl rfl ?_; intro f h
          refine s_off (b := false) h rfl rfl rfl rfl ?_; intro f h
          refine s_off (b := false) h rfl rfl rfl rfl ?_; intro f h
          refine s_off (b := false) h rfl rfl rfl rfl ?_; intro f h
          refine s_off (b := false) h rfl rfl rfl rfl ?_; intro f h
          refine s_off (b := false) h rfl rfl rfl rfl ?_; intro f h
          refine s_pure h (ru_pick_t (h.ev rfl) (h.ev rfl)) rfl ?_; intro f h
          refine s_nil ?_
          refine hK15 _ _ ?_
          refine wpIn_cond_true (h.ev rfl) ?_
          refine c_seq fun K19 hK19 => ?_
          refine c_region ?_
          refine s_pure h (ru_assign (h.ev rfl)) rfl ?_; intro f h
          refine s_nil ?_
          refine hK19 _ _ ?_
          refine wpIn_ret ?_
          refine t_ret ?_
          exact e_tmp rfl h s rfl (by show _ = _; rw [right_2 (suc_s1 s1)])
      · skip
        refine c_region ?_
        refine s_pure h (ru_field fld28_2 (h.ev rfl)) rfl ?_; intro f h
        refine s_load_at1 (V := vs) (cell_of_has (Has.of_own s 0 rfl) 66 (ndArr_sc _ _ _ _)) h one26 rfl rfl ?_; intro f h
        refine s_pure h (ru_lenZ (hRs.keep s.ext) Try.underlying26 (h.ev rfl)) rfl ?_; intro f h
        refine s_pure h (ru_val (.bool true) (ru_lss (h.ev rfl) (h.ev rfl)) (congrArg Value.bool (decide_eq_true (by have := of_decide_eq_true s0; omega)))) rfl ?_; intro f h
        refine s_pure h (ru_move (h.ev rfl)) rfl ?_; intro f h
        refine s_off (b := false) h rfl rfl rfl rfl ?_; intro f h
        refine s_off (b := false) h rfl rfl rfl rfl ?_; intro f h
        refine s_off (b := false) h rfl rfl rfl rfl ?_; intro f h
        refine s_off (b := false) h rfl rfl rfl rfl ?_; intro f h
        refine s_pure h (ru_pick_t (h.ev rfl) (h.ev rfl)) rfl ?_; intro f h
        refine s_pure h (ru_move (h.ev rfl)) rfl ?_; intro f h
        refine s_off (b := false) h rfl rfl rfl rfl ?_; intro f h
        refine s_off (b := false) h rfl rfl rfl rfl ?_; intro f h
        refine s_off (b := false) h rfl rfl rfl rfl ?_; intro f h
        refine s_off (b := false) h rfl rfl rfl rfl ?_; intro f h
        refine s_pure h (ru_pick_t (h.ev rfl) (h.ev rfl)) rfl ?_; intro f h
        refine s_pure h (ru_move (h.ev rfl)) rfl ?_; intro f h
        refine s_off (b := false) h rfl rfl rfl rfl ?_; intro f h
        refine s_off (b := false) h rfl rfl rfl rfl ?_; intro f h
        refine s_off (b := false) h rfl rfl rfl rfl ?_; intro f h
        refine s_off (b := false) h rfl rfl rfl rfl ?_; intro f h
        refine s_off (b := false) h rfl rfl rfl rfl ?_; intro f h
        refine s_off (b := false) h rfl rfl rfl rfl ?_; intro f h
        refine s_off (b := false) h rfl rfl rfl rfl ?_; intro f h
        refine s_pure h (ru_pick_t (h.ev rfl) (h.ev rfl)) rfl ?_; intro f h
        refine s_nil ?_
        refine hK15 _ _ ?_
        refine wpIn_cond_true (h.ev rfl) ?_
        refine c_seq fun K20 hK20 => ?_
        refine c_region ?_
        refine s_pure h (ru_assign (h.ev rfl)) rfl ?_; intro f h
        refine s_nil ?_
        refine hK20 _ _ ?_
        refine wpIn_ret ?_
        refine t_ret ?_
        exact e_tmp rfl h s rfl (by show _ = _; rw [right_2 (suc_s0 s0)])
end Go.Proofs.Ytfnjdjbknjcocaa
