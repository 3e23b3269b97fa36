/- What one server answers, by the reference: who is dropped, whom node names next. -/
import Derived.Test.YtndbijifgalpbaaVa
import Derived.Test.YtndbijifgalpbaaVe
set_option linter.unusedVariables false
set_option linter.unusedSimpArgs false
set_option linter.unusedSectionVars false
namespace Go.Proofs.Ytndbijifgalpbaa
open Go.RowKit
set_option maxHeartbeats 1000000 in
theorem without_any (l : List Mb) (vh : Value) (nos : List Int) (vn : Value) (no : Int) (w : World) (hR : RdZ w vh 33 l.length (mbCells l)) (hln : l.length ≤ 1000) (hN : RdZ w vn 1 nos.length (nos.map (Value.int .i64))) (hnn : nos.length ≤ 1000) : Calls Try.prog 80 [vh, vn, .int .i64 no].toArray w (Ret w (fun v w' => Owns w' w.heap.size 30 33 v (withL l nos no).length (mbCells (withL l nos no)))) := by
  refine c_enter Try.func80 rfl Try.ntmps80 rfl [(0, vh), (1, vn), (2, .int .i64 no)] (by simp) fun f h => ?_
  have s := St.start w
  refine c_seq fun K1 hK1 => ?_
  refine c_region ?_
  refine s_pure h (ru_assign (h.ev rfl)) rfl ?_; intro f h
  refine s_nil ?_
  refine hK1 _ _ ?_
  refine c_seq fun K2 hK2 => ?_
  refine c_region ?_
  refine s_bslice (vs := []) [] h s Try.underlying40 elm30 rfl rfl (by simp) rfl rfl rfl ?_; intro f w1 v13 h s
  replace s := s.resl (m := (withL (l.take 0) nos no).length) (ys := mbCells (withL (l.take 0) nos no)) 0 rfl rfl rfl
  refine s_pure h (ru_assign (h.ev rfl)) rfl ?_; intro f h
  refine s_nil ?_
  refine hK2 _ _ ?_
  refine c_seq fun K3 hK3 => ?_
  refine c_seq fun K4 hK4 => ?_
  refine c_region ?_
  refine s_pure h (ru_move (h.ev rfl)) rfl ?_; intro f h
  refine s_pure h (ru_lenZ (hR.keep s.ext) Try.underlying40 (h.ev rfl)) rfl ?_; intro f h
  refine s_pure h (ru_move (h.ev rfl)) rfl ?_; intro f h
  refine s_nil ?_
  refine hK4 _ _ ?_
  refine wpIn_block ?_
  refine wpIn_loop_ghost (fun nn aa ww => ∃ k : Nat, ∃ vb : Value, Sl 47 aa [(0, vh), (1, vn), (2, .int .i64 no), (7, vb), (14, vh), (15, .int .i64 (l.length : Int)), (16, .int .i64 (k : Int))] ∧ St w [.sl vb 30 33 (withL (l.take k) nos no).length (mbCells (withL (l.take k) nos no))] ww ∧ nn = l.length - k ∧ k ≤ l.length) (l.length - (0)) ⟨0, v13, h.only ⟨rfl, rfl, rfl, rfl, rfl, rfl, slot_int rfl (by omega), trivial⟩, s.as ⟨rfl, trivial⟩, rfl, Nat.zero_le _⟩ ?_
  rintro _ f w1 ⟨k, vb, h, s, hnn, hp0⟩
  have hwl := withL_le (l.take k) nos no
  rw [List.length_take] at hwl
  refine c_seq fun K5 hK5 => ?_
  refine c_region ?_
  refine s_pure h (ru_lss (h.ev rfl) (h.ev rfl)) rfl ?_; intro f h
  refine s_nil ?_
  refine hK5 _ _ ?_
  refine c_seq fun K6 hK6 => ?_
  refine c_cond h rfl (fun hc => ?_) (fun hc => ?_)
  · replace hc := of_decide_eq_true hc
    refine wpIn_skip ?_
    refine hK6 _ _ ?_
    refine c_seq fun K7 hK7 => ?_
    refine wpIn_block ?_
    refine c_seq fun K8 hK8 => ?_
    refine c_region ?_
    have hkl : k < l.length := by omega
    refine s_pure h (ru_ixz (hR.keep s.ext) (k) Try.underlying40 szo30 (h.ev rfl) (h.ev rfl) (by omega) (by omega)) rfl ?_; intro f h
    refine s_load_at ((hR.keep s.ext).el (k) (by omega) (by decide) (D := mbArr (l.getD k zMb)) (mb_elD l k hkl)) h row30 rfl (mbArr_size _) rfl ?_; intro f h
    refine s_alloc (mbArr zMb) h s zero30 rfl rfl ?_; intro f w1 b9 h s
    refine s_store_row 0 h s row30 rfl rfl rfl (mbArr_size _) (mbArr_size _) (mbArr_ones _) ?_; intro w1 s
    refine s_nil ?_
    refine hK8 _ _ ?_
    refine c_seq fun K9 hK9 => ?_
    refine c_region ?_
    refine s_pure h (ru_assign (h.ev rfl)) rfl ?_; intro f h
    refine s_nil ?_
    refine hK9 _ _ ?_
    refine c_seq fun K10 hK10 => ?_
    refine c_seq fun K11 hK11 => ?_
    refine c_region ?_
    refine s_pure h (ru_move (h.ev rfl)) rfl ?_; intro f h
    refine s_pure h (ru_lenZ (hN.keep s.ext) Try.underlying28 (h.ev rfl)) rfl ?_; intro f h
    refine s_pure h (ru_move (h.ev rfl)) rfl ?_; intro f h
    refine s_nil ?_
    refine hK11 _ _ ?_
    refine wpIn_block ?_
    refine wpIn_loop_ghost (fun nn aa ww => ∃ j : Nat, Sl 47 aa [(0, vh), (1, vn), (2, .int .i64 no), (9, .pointer (some ⟨b9, 0, none⟩)), (7, vb), (10, .bool (goneK nos (gnF no (l.getD k zMb)) j)), (14, vh), (15, .int .i64 (l.length : Int)), (16, .int .i64 (k : Int)), (20, vn), (21, .int .i64 (nos.length : Int)), (22, .int .i64 (j : Int))] ∧ St w [.blk b9 (.cells (mbArr (l.getD k zMb)) 30), .sl vb 30 33 (withL (l.take k) nos no).length (mbCells (withL (l.take k) nos no))] ww ∧ nn = nos.length - j ∧ j ≤ nos.length) (nos.length - (0)) ⟨0, h.only ⟨rfl, rfl, rfl, rfl, rfl, rfl, rfl, rfl, rfl, rfl, rfl, slot_int rfl (by omega), trivial⟩, s.as ⟨rfl, rfl, trivial⟩, rfl, Nat.zero_le _⟩ ?_
    rintro _ f w1 ⟨j, h, s, hnn, hp0⟩
    refine c_seq fun K12 hK12 => ?_
    refine c_region ?_
    refine s_pure h (ru_lss (h.ev rfl) (h.ev rfl)) rfl ?_; intro f h
    refine s_nil ?_
    refine hK12 _ _ ?_
    refine c_seq fun K13 hK13 => ?_
    refine c_cond h rfl (fun hc => ?_) (fun hc => ?_)
    · replace hc := of_decide_eq_true hc
      refine wpIn_skip ?_
      refine hK13 _ _ ?_
      refine c_seq fun K14 hK14 => ?_
      refine wpIn_block ?_
      refine c_seq fun K15 hK15 => ?_
      refine c_region ?_
      have hjl : j < nos.length := by omega
      refine s_pure h (ru_ixz (hN.keep s.ext) (j) Try.underlying28 szo3 (h.ev rfl) (h.ev rfl) (by omega) (by omega)) rfl ?_; intro f h
      refine s_load_at1 ((hN.keep s.ext).el1 (j) (V := .int .i64 (nos.getD j 0)) (ns_el nos j hjl)) h one3 rfl rfl ?_; intro f h
      refine s_pure h (ru_assign (h.ev rfl)) rfl ?_; intro f h
      refine s_nil ?_
      refine hK15 _ _ ?_
      cases d0 : ((goneK nos (gnF no (l.getD k zMb)) j) : Bool)
      · skip
        cases d1 : (decide (nos.getD j 0 = (l.getD k zMb).1) : Bool)
        · skip
          refine c_region ?_
          refine s_pure h (ru_move (h.ev rfl)) rfl ?_; intro f h
          refine s_pure h (ru_val (.bool false) (ru_move (h.ev rfl)) (congrArg Value.bool d0)) rfl ?_; intro f h
          refine s_on h rfl rfl rfl ?_
          refine s_pure h (ru_move (h.ev rfl)) rfl ?_; intro f h
          refine s_on h rfl rfl rfl ?_
          refine s_pure h (ru_field fld30_0 (h.ev rfl)) rfl ?_; intro f h
          refine s_on h rfl rfl rfl ?_
          refine s_load_at1 (cell_of_has (Has.of_own s 0 rfl) 0 (mbArr_no _)) h one3 rfl rfl ?_; intro f h
          refine s_on h rfl rfl rfl ?_
          refine s_pure h (ru_val (.bool false) (ru_eql (h.ev rfl) (h.ev rfl)) (congrArg Value.bool d1)) rfl ?_; intro f h
          refine s_on h rfl rfl rfl ?_
          refine s_pure h (ru_move (h.ev rfl)) rfl ?_; intro f h
          refine s_off (b := true) h rfl rfl rfl rfl ?_; intro f h
          refine s_off (b := true) h rfl rfl rfl rfl ?_; intro f h
          refine s_off (b := true) h rfl rfl rfl rfl ?_; intro f h
          refine s_on h rfl rfl rfl ?_
          refine s_pure h (ru_pick_f (h.ev rfl) (h.ev rfl)) rfl ?_; intro f h
          refine s_pure h (ru_pick_f (h.ev rfl) (h.ev rfl)) rfl ?_; intro f h
          refine s_pure h (ru_assign (h.ev rfl)) rfl ?_; intro f h
          refine s_nil ?_
          refine b_norm ?_
          refine hK14 _ _ ?_
          refine c_region ?_
          refine s_pure h (ru_add (h.ev rfl) (h.ev rfl) (by omega)) rfl ?_; intro f h
          refine s_pure h (ru_move (h.ev rfl)) rfl ?_; intro f h
          refine s_nil ?_
          refine t_norm ?_
          exact ⟨_, by omega, ⟨j + 1, h.only ⟨rfl, rfl, rfl, rfl, rfl, congrArg (fun b => some (Value.bool b)) (gn_0 hjl d0 d1).symm, rfl, rfl, rfl, rfl, rfl, slot_int rfl (by omega), trivial⟩, St.as s ⟨rfl, rfl, trivial⟩, rfl, by omega⟩⟩
        · skip
          cases d2 : (decide (nos.getD j 0 ≠ no) : Bool)
          · skip
            refine c_region ?_
            refine s_pure h (ru_move (h.ev rfl)) rfl ?_; intro f h
            refine s_pure h (ru_val (.bool false) (ru_move (h.ev rfl)) (congrArg Value.bool d0)) rfl ?_; intro f h
            refine s_on h rfl rfl rfl ?_
            refine s_pure h (ru_move (h.ev rfl)) rfl ?_; intro f h
            refine s_on h rfl rfl rfl ?_
            refine s_pure h (ru_field fld30_0 (h.ev rfl)) rfl ?_; intro f h
            refine s_on h rfl rfl rfl ?_
            refine s_load_at1 (cell_of_has (Has.of_own s 0 rfl) 0 (mbArr_no _)) h one3 rfl rfl ?_; intro f h
            refine s_on h rfl rfl rfl ?_
            refine s_pure h (ru_val (.bool true) (ru_eql (h.ev rfl) (h.ev rfl)) (congrArg Value.bool d1)) rfl ?_; intro f h
            refine s_on h rfl rfl rfl ?_
            refine s_pure h (ru_move (h.ev rfl)) rfl ?_; intro f h
            refine s_on h rfl rfl rfl ?_
            refine s_pure h (ru_move (h.ev rfl)) rfl ?_; intro f h
            refine s_on h rfl rfl rfl ?_
            refine s_pure h (ru_move (h.ev rfl)) rfl ?_; intro f h
            refine s_on h rfl rfl rfl ?_
            refine s_pure h (ru_val (.bool false) (ru_neq (h.ev rfl) (h.ev rfl)) (congrArg Value.bool d2)) rfl ?_; intro f h
            refine s_on h rfl rfl rfl ?_
            refine s_pure h (ru_pick_t (h.ev rfl) (h.ev rfl)) rfl ?_; intro f h
            refine s_pure h (ru_pick_f (h.ev rfl) (h.ev rfl)) rfl ?_; intro f h
            refine s_pure h (ru_assign (h.ev rfl)) rfl ?_; intro f h
            refine s_nil ?_
            refine b_norm ?_
            refine hK14 _ _ ?_
            refine c_region ?_
            refine s_pure h (ru_add (h.ev rfl) (h.ev rfl) (by omega)) rfl ?_; intro f h
            refine s_pure h (ru_move (h.ev rfl)) rfl ?_; intro f h
            refine s_nil ?_
            refine t_norm ?_
            exact ⟨_, by omega, ⟨j + 1, h.only ⟨rfl, rfl, rfl, rfl, rfl, congrArg (fun b => some (Value.bool b)) (gn_1 hjl d0 d2).symm, rfl, rfl, rfl, rfl, rfl, slot_int rfl (by omega), trivial⟩, St.as s ⟨rfl, rfl, trivial⟩, rfl, by omega⟩⟩
          · skip
            refine c_region ?_
            refine s_pure h (ru_move (h.ev rfl)) rfl ?_; intro f h
            refine s_pure h (ru_val (.bool false) (ru_move (h.ev rfl)) (congrArg Value.bool d0)) rfl ?_; intro f h
            refine s_on h rfl rfl rfl ?_
            refine s_pure h (ru_move (h.ev rfl)) rfl ?_; intro f h
            refine s_on h rfl rfl rfl ?_
            refine s_pure h (ru_field fld30_0 (h.ev rfl)) rfl ?_; intro f h
            refine s_on h rfl rfl rfl ?_
            refine s_load_at1 (cell_of_has (Has.of_own s 0 rfl) 0 (mbArr_no _)) h one3 rfl rfl ?_; intro f h
            refine s_on h rfl rfl rfl ?_
            refine s_pure h (ru_val (.bool true) (ru_eql (h.ev rfl) (h.ev rfl)) (congrArg Value.bool d1)) rfl ?_; intro f h
            refine s_on h rfl rfl rfl ?_
            refine s_pure h (ru_move (h.ev rfl)) rfl ?_; intro f h
            refine s_on h rfl rfl rfl ?_
            refine s_pure h (ru_move (h.ev rfl)) rfl ?_; intro f h
            refine s_on h rfl rfl rfl ?_
            refine s_pure h (ru_move (h.ev rfl)) rfl ?_; intro f h
            refine s_on h rfl rfl rfl ?_
            refine s_pure h (ru_val (.bool true) (ru_neq (h.ev rfl) (h.ev rfl)) (congrArg Value.bool d2)) rfl ?_; intro f h
            refine s_on h rfl rfl rfl ?_
            refine s_pure h (ru_pick_t (h.ev rfl) (h.ev rfl)) rfl ?_; intro f h
            refine s_pure h (ru_pick_f (h.ev rfl) (h.ev rfl)) rfl ?_; intro f h
            refine s_pure h (ru_assign (h.ev rfl)) rfl ?_; intro f h
            refine s_nil ?_
            refine b_norm ?_
            refine hK14 _ _ ?_
            refine c_region ?_
            refine s_pure h (ru_add (h.ev rfl) (h.ev rfl) (by omega)) rfl ?_; intro f h
            refine s_pure h (ru_move (h.ev rfl)) rfl ?_; intro f h
            refine s_nil ?_
            refine t_norm ?_
            exact ⟨_, by omega, ⟨j + 1, h.only ⟨rfl, rfl, rfl, rfl, rfl, congrArg (fun b => some (Value.bool b)) (gn_2 hjl d1 d2).symm, rfl, rfl, rfl, rfl, rfl, slot_int rfl (by omega), trivial⟩, St.as s ⟨rfl, rfl, trivial⟩, rfl, by omega⟩⟩
      · skip
        refine c_region ?_
        refine s_pure h (ru_move (h.ev rfl)) rfl ?_; intro f h
        refine s_pure h (ru_val (.bool true) (ru_move (h.ev rfl)) (congrArg Value.bool d0)) rfl ?_; intro f h
        refine s_off (b := false) h rfl rfl rfl rfl ?_; intro f h
        refine s_off (b := false) h rfl rfl rfl rfl ?_; intro f h
        refine s_off (b := false) h rfl rfl rfl rfl ?_; intro f h
        refine s_off (b := false) h rfl rfl rfl rfl ?_; intro f h
        refine s_off (b := false) h rfl rfl rfl rfl ?_; intro f h
        refine s_none h rfl rfl rfl rfl ?_; intro f h
        refine s_none h rfl rfl rfl rfl ?_; intro f h
        refine s_none h rfl rfl rfl rfl ?_; intro f h
        refine s_off (b := false) h rfl rfl rfl rfl ?_; intro f h
        refine s_pure h (ru_pick_t (h.ev rfl) (h.ev rfl)) rfl ?_; intro f h
        refine s_pure h (ru_assign (h.ev rfl)) rfl ?_; intro f h
        refine s_nil ?_
        refine b_norm ?_
        refine hK14 _ _ ?_
        refine c_region ?_
        refine s_pure h (ru_add (h.ev rfl) (h.ev rfl) (by omega)) rfl ?_; intro f h
        refine s_pure h (ru_move (h.ev rfl)) rfl ?_; intro f h
        refine s_nil ?_
        refine t_norm ?_
        exact ⟨_, by omega, ⟨j + 1, h.only ⟨rfl, rfl, rfl, rfl, rfl, congrArg (fun b => some (Value.bool b)) (gn_3 hjl d0).symm, rfl, rfl, rfl, rfl, rfl, slot_int rfl (by omega), trivial⟩, St.as s ⟨rfl, rfl, trivial⟩, rfl, by omega⟩⟩
    · replace hc := of_decide_eq_false hc
      refine wpIn_exit ?_
      refine t_exit ?_
      refine t_exit ?_
      refine b_exit ?_
      refine hK10 _ _ ?_
      refine c_seq fun K16 hK16 => ?_
      cases hgr : (goneR nos no (l.getD k zMb) : Bool)
      · skip
        refine c_region ?_
        have hje := gn_end (no := no) (x := (l.getD k zMb)) (show j = nos.length by omega)
        refine s_pure h (ru_val (.bool false) (ru_move (h.ev rfl)) (congrArg Value.bool (hje.trans hgr))) rfl ?_; intro f h
        refine s_pure h (ru_val (.bool true) (ru_not (h.ev rfl)) rfl) rfl ?_; intro f h
        refine s_nil ?_
        refine hK16 _ _ ?_
        refine wpIn_cond_true (h.ev rfl) ?_
        refine c_region ?_
        refine s_pure h (ru_move (h.ev rfl)) rfl ?_; intro f h
        refine s_load_row 0 h s row30 rfl rfl (mbArr_size _) rfl ?_; intro f h
        refine s_bslice (vs := [.agg (mbArr (l.getD k zMb))]) [.tmp 42] h s Try.underlying40 elm30 rfl rfl (mb_sz _) rfl rfl rfl ?_; intro f w1 v43 h s
        refine s_append 2 0 h s Try.underlying40 elm30 rfl rfl rfl rfl (by decide) (by rw [one_mb]; exact mbArr_ones _) (by unfold maxLen; omega) (by omega) rfl ?_; intro f w1 v44 h s
        replace s := s.pick _ (List.sublist_cons_self _ _)
        replace s := s.resl (m := (withL (l.take (k + 1)) nos no).length) (ys := mbCells (withL (l.take (k + 1)) nos no)) 1 rfl (by rw [withL_n hkl hgr, List.length_append]; rfl) (by rw [withL_n hkl hgr, one_mb, mb_snoc])
        refine s_pure h (ru_assign (h.ev rfl)) rfl ?_; intro f h
        refine s_nil ?_
        refine b_norm ?_
        refine hK7 _ _ ?_
        refine c_region ?_
        refine s_pure h (ru_add (h.ev rfl) (h.ev rfl) (by omega)) rfl ?_; intro f h
        refine s_pure h (ru_move (h.ev rfl)) rfl ?_; intro f h
        refine s_nil ?_
        refine t_norm ?_
        exact ⟨_, by omega, ⟨k + 1, v44, h.only ⟨rfl, rfl, rfl, rfl, rfl, rfl, slot_int rfl (by omega), trivial⟩, St.as (s.pick _ (List.sublist_append_right [_] _)) ⟨rfl, trivial⟩, rfl, by omega⟩⟩
      · skip
        refine c_region ?_
        have hje := gn_end (no := no) (x := (l.getD k zMb)) (show j = nos.length by omega)
        refine s_pure h (ru_val (.bool true) (ru_move (h.ev rfl)) (congrArg Value.bool (hje.trans hgr))) rfl ?_; intro f h
        refine s_pure h (ru_val (.bool false) (ru_not (h.ev rfl)) rfl) rfl ?_; intro f h
        refine s_nil ?_
        refine hK16 _ _ ?_
        refine wpIn_cond_false (h.ev rfl) ?_
        refine wpIn_skip ?_
        refine b_norm ?_
        refine hK7 _ _ ?_
        refine c_region ?_
        refine s_pure h (ru_add (h.ev rfl) (h.ev rfl) (by omega)) rfl ?_; intro f h
        refine s_pure h (ru_move (h.ev rfl)) rfl ?_; intro f h
        refine s_nil ?_
        refine t_norm ?_
        exact ⟨_, by omega, ⟨k + 1, vb, h.only ⟨rfl, rfl, rfl, rfl, rfl, rfl, slot_int rfl (by omega), trivial⟩, St.as (s.pick _ (List.sublist_append_right [_] _)) ⟨sl_eq (by rw [withL_y hkl hgr]) (by rw [withL_y hkl hgr]), trivial⟩, rfl, by omega⟩⟩
  · replace hc := of_decide_eq_false hc
    refine wpIn_exit ?_
    refine t_exit ?_
    refine t_exit ?_
    refine b_exit ?_
    refine hK3 _ _ ?_
    refine c_seq fun K17 hK17 => ?_
    refine c_region ?_
    refine s_pure h (ru_move (h.ev rfl)) rfl ?_; intro f h
    refine s_pure h (ru_assign (h.ev rfl)) rfl ?_; intro f h
    refine s_nil ?_
    refine hK17 _ _ ?_
    refine wpIn_ret ?_
    exact e_tmp rfl h s rfl ((by obtain rfl : k = l.length := (by omega); rw [List.take_length] at s; exact (s.getSl 0 rfl)))

set_option maxHeartbeats 1000000 in
theorem rdrop_any (n : Nd) (vs vf : Value) (nos : List Int) (vn : Value) (w : World) (hRs : RdZ w vs 33 n.sc.length (mbCells n.sc)) (hRf : RdZ w vf 33 n.fg.length (mbCells n.fg)) (hns : n.sc.length ≤ 900) (hnf : n.fg.length ≤ 900) (hN : RdZ w vn 1 nos.length (nos.map (Value.int .i64))) (hnn : nos.length ≤ 1000) : Calls Try.prog 52 [.agg (ndArr n.me n.pr vs vf), vn].toArray w (Ret w (DrR w 30 n.me (rdP n nos) (orA (withL n.sc nos n.me.1) n.me) (withL n.fg nos n.me.1))) := by
  have hwl := withL_le n.sc nos n.me.1
  refine c_enter Try.func52 rfl Try.ntmps52 rfl [(0, .agg (ndArr n.me n.pr vs vf)), (1, vn)] (by simp) fun f h => ?_
  have s := St.start w
  refine c_seq fun K1 hK1 => ?_
  refine c_region ?_
  refine s_box (ndArr n.me n.pr vs vf) h s rfl rfl rfl ?_; intro f w1 b2 h s
  refine s_alloc (ndArr zMb zMb nilV nilV) h s zero46 rfl rfl ?_; intro f w1 b4 h s
  refine s_nil ?_
  refine hK1 _ _ ?_
  refine c_seq fun K2 hK2 => ?_
  refine c_region ?_
  refine s_pure h (ru_field fld46_2 (h.ev rfl)) rfl ?_; intro f h
  refine s_load_at1 (V := vs) (cell_of_has (Has.of_own s 1 rfl) 66 (ndArr_sc _ _ _ _)) h one40 rfl rfl ?_; intro f h
  refine s_pure h (ru_move (h.ev rfl)) rfl ?_; intro f h
  refine s_pure h (ru_field fld46_0 (h.ev rfl)) rfl ?_; intro f h
  refine s_pure h (ru_field fld30_0 (h.ev rfl)) rfl ?_; intro f h
  refine s_load_at1 (cell_of_has (Has.of_own s 1 rfl) 0 (ndArr_no _ _ _ _)) h one3 rfl rfl ?_; intro f h
  refine s_call h s fnc80 (without_any n.sc vs nos vn n.me.1 _ (hRs.keep s.ext) (by omega) (hN.keep s.ext) hnn) rfl rfl ?_; intro f w1 v11 hT hE h sq; replace s := s.sl_new hE hT
  refine s_pure h (ru_field fld46_2 (h.ev rfl)) rfl ?_; intro f h
  refine s_store_one 2 h s one40 rfl rfl rfl (by rw [ndArr_size]; omega) (own_one (s.getSl 0 rfl)) ?_; intro w1 s
  replace s := s.recell (D := ndArr n.me n.pr v11 vf) 2 rfl (nd_set66 _ _ _ _ _)
  refine s_nil ?_
  refine hK2 _ _ ?_
  refine c_seq fun K3 hK3 => ?_
  refine c_region ?_
  refine s_pure h (ru_field fld46_3 (h.ev rfl)) rfl ?_; intro f h
  refine s_load_at1 (V := vf) (cell_of_has (Has.of_own s 2 rfl) 67 (ndArr_fg _ _ _ _)) h one40 rfl rfl ?_; intro f h
  refine s_pure h (ru_move (h.ev rfl)) rfl ?_; intro f h
  refine s_pure h (ru_field fld46_0 (h.ev rfl)) rfl ?_; intro f h
  refine s_pure h (ru_field fld30_0 (h.ev rfl)) rfl ?_; intro f h
  refine s_load_at1 (cell_of_has (Has.of_own s 2 rfl) 0 (ndArr_no _ _ _ _)) h one3 rfl rfl ?_; intro f h
  refine s_call h s fnc80 (without_any n.fg vf nos vn n.me.1 _ (hRf.keep s.ext) (by omega) (hN.keep s.ext) hnn) rfl rfl ?_; intro f w1 v19 hT hE h sq; replace s := s.sl_new hE hT
  refine s_pure h (ru_field fld46_3 (h.ev rfl)) rfl ?_; intro f h
  refine s_store_one 3 h s one40 rfl rfl rfl (by rw [ndArr_size]; omega) (own_one (s.getSl 0 rfl)) ?_; intro w1 s
  replace s := s.recell (D := ndArr n.me n.pr v11 v19) 3 rfl (nd_set67 _ _ _ _ _)
  refine s_nil ?_
  refine hK3 _ _ ?_
  refine c_seq fun K4 hK4 => ?_
  refine c_seq fun K5 hK5 => ?_
  refine c_region ?_
  refine s_pure h (ru_field fld46_2 (h.ev rfl)) rfl ?_; intro f h
  refine s_load_at1 (V := v11) (cell_of_has (Has.of_own s 3 rfl) 66 (ndArr_sc _ _ _ _)) h one40 rfl rfl ?_; intro f h
  refine s_len_sl 1 h s Try.underlying40 rfl rfl rfl ?_; intro f h
  refine s_pure h (ru_eql (h.ev rfl) (h.ev rfl)) rfl ?_; intro f h
  refine s_nil ?_
  refine hK5 _ _ ?_
  refine c_cond h rfl (fun hc => ?_) (fun hc => ?_)
  · have h0 : (withL n.sc nos n.me.1).length = 0 := by have := of_decide_eq_true hc; omega
    refine c_region ?_
    refine s_pure h (ru_field fld46_2 (h.ev rfl)) rfl ?_; intro f h
    refine s_load_at1 (V := v11) (cell_of_has (Has.of_own s 3 rfl) 66 (ndArr_sc _ _ _ _)) h one40 rfl rfl ?_; intro f h
    refine s_pure h (ru_field fld46_0 (h.ev rfl)) rfl ?_; intro f h
    refine s_load_at (Has.subL (Has.of_own s 3 rfl) 0 33 (D := mbArr n.me) (ndArr_me _ _ _ _)) h row30 rfl (mbArr_size _) rfl ?_; intro f h
    refine s_bslice (vs := [.agg (mbArr n.me)]) [.tmp 28] h s Try.underlying40 elm30 rfl rfl (mb_sz _) rfl rfl rfl ?_; intro f w1 v29 h s
    refine s_append 2 0 h s Try.underlying40 elm30 rfl rfl rfl rfl (by decide) (by rw [one_mb]; exact mbArr_ones _) (by unfold maxLen; omega) (by omega) rfl ?_; intro f w1 v30 h s
    replace s := s.pick _ (List.sublist_cons_self _ _)
    replace s := s.resl (m := [n.me].length) (ys := mbCells [n.me]) 1 rfl (by rw [h0]; rfl) (by rw [List.eq_nil_of_length_eq_zero h0, one_mb, mbCells_one]; rfl)
    refine s_pure h (ru_field fld46_2 (h.ev rfl)) rfl ?_; intro f h
    refine s_store_one 3 h s one40 rfl rfl rfl (by rw [ndArr_size]; omega) (own_one (s.getSl 1 rfl)) ?_; intro w1 s
    replace s := s.recell (D := ndArr n.me n.pr v30 v19) 3 rfl (nd_set66 _ _ _ _ _)
    refine s_nil ?_
    refine hK4 _ _ ?_
    refine c_seq fun K6 hK6 => ?_
    refine c_seq fun K7 hK7 => ?_
    cases q0 : (!decide (n.pr = nMb) : Bool)
    · skip
      refine c_region ?_
      refine s_pure h (ru_field fld46_1 (h.ev rfl)) rfl ?_; intro f h
      refine s_load_at (Has.subL (Has.of_own s 3 rfl) 33 33 (D := mbArr n.pr) (ndArr_pr _ _ _ _)) h row30 rfl (mbArr_size _) rfl ?_; intro f h
      refine s_call h s fnc49 (rnone_any n.pr _) rfl rfl ?_; intro f w1 v9 hT hE h s; obtain rfl := hT
      refine s_pure h (ru_val (.bool false) (ru_not (h.ev rfl)) (congrArg Value.bool q0)) rfl ?_; intro f h
      refine s_pure h (ru_move (h.ev rfl)) rfl ?_; intro f h
      refine s_off (b := true) h rfl rfl rfl rfl ?_; intro f h
      refine s_off (b := true) h rfl rfl rfl rfl ?_; intro f h
      refine s_off (b := true) h rfl rfl rfl rfl ?_; intro f h
      refine s_off (b := true) h rfl rfl rfl rfl ?_; intro f h
      refine s_off (b := true) h rfl rfl rfl rfl ?_; intro f h
      refine s_off (b := true) h rfl rfl rfl rfl ?_; intro f h
      refine s_off (b := true) h rfl rfl rfl rfl ?_; intro f h
      refine s_off (b := true) h rfl rfl rfl rfl ?_; intro f h
      refine s_off (b := true) h rfl rfl rfl rfl ?_; intro f h
      refine s_off (b := true) h rfl rfl rfl rfl ?_; intro f h
      refine s_pure h (ru_pick_f (h.ev rfl) (h.ev rfl)) rfl ?_; intro f h
      refine s_nil ?_
      refine hK7 _ _ ?_
      refine wpIn_cond_false (h.ev rfl) ?_
      refine wpIn_skip ?_
      refine hK6 _ _ ?_
      refine c_seq fun K8 hK8 => ?_
      refine c_region ?_
      refine s_load_row 3 h s row46 rfl rfl (ndArr_size _ _ _ _) rfl ?_; intro f h
      refine s_store_row 2 h s row46 rfl rfl rfl (ndArr_size _ _ _ _) (ndArr_size _ _ _ _) (ndArr_ones (own_one (s.getSl 1 rfl)) (own_one (s.getSl 0 rfl))) ?_; intro w1 s
      refine s_nil ?_
      refine hK8 _ _ ?_
      refine wpIn_ret ?_
      exact e_row 2 rfl h s row46 rfl rfl (ndArr_size _ _ _ _) (drR_ok (rd_n0 q0) (orA_n h0) (s.sel [1, 0] rfl (by decide)))
    · skip
      cases q1 : (decide ((withL [n.pr] nos n.me.1).length = 0) : Bool)
      · skip
        refine c_region ?_
        refine s_pure h (ru_field fld46_1 (h.ev rfl)) rfl ?_; intro f h
        refine s_load_at (Has.subL (Has.of_own s 3 rfl) 33 33 (D := mbArr n.pr) (ndArr_pr _ _ _ _)) h row30 rfl (mbArr_size _) rfl ?_; intro f h
        refine s_call h s fnc49 (rnone_any n.pr _) rfl rfl ?_; intro f w1 v9 hT hE h s; obtain rfl := hT
        refine s_pure h (ru_val (.bool true) (ru_not (h.ev rfl)) (congrArg Value.bool q0)) rfl ?_; intro f h
        refine s_pure h (ru_move (h.ev rfl)) rfl ?_; intro f h
        refine s_on h rfl rfl rfl ?_
        refine s_pure h (ru_field fld46_1 (h.ev rfl)) rfl ?_; intro f h
        refine s_on h rfl rfl rfl ?_
        refine s_load_at (Has.subL (Has.of_own s 3 rfl) 33 33 (D := mbArr n.pr) (ndArr_pr _ _ _ _)) h row30 rfl (mbArr_size _) rfl ?_; intro f h
        refine s_on h rfl rfl rfl ?_
        refine s_bslice (vs := [.agg (mbArr n.pr)]) [.tmp 38] h s Try.underlying40 elm30 rfl rfl (mb_sz _) rfl rfl rfl ?_; intro f w1 v39 h s
        replace s := s.resl (m := [n.pr].length) (ys := mbCells [n.pr]) 0 rfl rfl (by rw [one_mb, mbCells_one])
        refine s_on h rfl rfl rfl ?_
        refine s_pure h (ru_move (h.ev rfl)) rfl ?_; intro f h
        refine s_on h rfl rfl rfl ?_
        refine s_pure h (ru_field fld46_0 (h.ev rfl)) rfl ?_; intro f h
        refine s_on h rfl rfl rfl ?_
        refine s_pure h (ru_field fld30_0 (h.ev rfl)) rfl ?_; intro f h
        refine s_on h rfl rfl rfl ?_
        refine s_load_at1 (cell_of_has (Has.of_own s 4 rfl) 0 (ndArr_no _ _ _ _)) h one3 rfl rfl ?_; intro f h
        refine s_on h rfl rfl rfl ?_
        refine s_call h s fnc80 (without_any [n.pr] v39 nos vn n.me.1 _ (RdZ.of_own (s.getSl 0 rfl)) (by show 1 ≤ 1000; omega) (hN.keep s.ext) hnn) rfl rfl ?_; intro f w1 v44 hT hE h sq; replace s := s.sl_new hE hT
        refine s_on h rfl rfl rfl ?_
        refine s_len_sl 0 h s Try.underlying40 rfl rfl rfl ?_; intro f h
        refine s_on h rfl rfl rfl ?_
        refine s_pure h (ru_val (.bool false) (ru_eql (h.ev rfl) (h.ev rfl)) (congrArg Value.bool (decide_eq_false (by have := of_decide_eq_false q1; omega)))) rfl ?_; intro f h
        refine s_pure h (ru_pick_t (h.ev rfl) (h.ev rfl)) rfl ?_; intro f h
        refine s_nil ?_
        refine hK7 _ _ ?_
        refine wpIn_cond_false (h.ev rfl) ?_
        refine wpIn_skip ?_
        refine hK6 _ _ ?_
        refine c_seq fun K9 hK9 => ?_
        refine c_region ?_
        refine s_load_row 5 h s row46 rfl rfl (ndArr_size _ _ _ _) rfl ?_; intro f h
        refine s_store_row 4 h s row46 rfl rfl rfl (ndArr_size _ _ _ _) (ndArr_size _ _ _ _) (ndArr_ones (own_one (s.getSl 3 rfl)) (own_one (s.getSl 2 rfl))) ?_; intro w1 s
        refine s_nil ?_
        refine hK9 _ _ ?_
        refine wpIn_ret ?_
        exact e_row 4 rfl h s row46 rfl rfl (ndArr_size _ _ _ _) (drR_ok (rd_n1 q1) (orA_n h0) (s.sel [3, 2] rfl (by decide)))
      · skip
        refine c_region ?_
        refine s_pure h (ru_field fld46_1 (h.ev rfl)) rfl ?_; intro f h
        refine s_load_at (Has.subL (Has.of_own s 3 rfl) 33 33 (D := mbArr n.pr) (ndArr_pr _ _ _ _)) h row30 rfl (mbArr_size _) rfl ?_; intro f h
        refine s_call h s fnc49 (rnone_any n.pr _) rfl rfl ?_; intro f w1 v9 hT hE h s; obtain rfl := hT
        refine s_pure h (ru_val (.bool true) (ru_not (h.ev rfl)) (congrArg Value.bool q0)) rfl ?_; intro f h
        refine s_pure h (ru_move (h.ev rfl)) rfl ?_; intro f h
        refine s_on h rfl rfl rfl ?_
        refine s_pure h (ru_field fld46_1 (h.ev rfl)) rfl ?_; intro f h
        refine s_on h rfl rfl rfl ?_
        refine s_load_at (Has.subL (Has.of_own s 3 rfl) 33 33 (D := mbArr n.pr) (ndArr_pr _ _ _ _)) h row30 rfl (mbArr_size _) rfl ?_; intro f h
        refine s_on h rfl rfl rfl ?_
        refine s_bslice (vs := [.agg (mbArr n.pr)]) [.tmp 38] h s Try.underlying40 elm30 rfl rfl (mb_sz _) rfl rfl rfl ?_; intro f w1 v39 h s
        replace s := s.resl (m := [n.pr].length) (ys := mbCells [n.pr]) 0 rfl rfl (by rw [one_mb, mbCells_one])
        refine s_on h rfl rfl rfl ?_
        refine s_pure h (ru_move (h.ev rfl)) rfl ?_; intro f h
        refine s_on h rfl rfl rfl ?_
        refine s_pure h (ru_field fld46_0 (h.ev rfl)) rfl ?_; intro f h
        refine s_on h rfl rfl rfl ?_
        refine s_pure h (ru_field fld30_0 (h.ev rfl)) rfl ?_; intro f h
        refine s_on h rfl rfl rfl ?_
        refine s_load_at1 (cell_of_has (Has.of_own s 4 rfl) 0 (ndArr_no _ _ _ _)) h one3 rfl rfl ?_; intro f h
        refine s_on h rfl rfl rfl ?_
        refine s_call h s fnc80 (without_any [n.pr] v39 nos vn n.me.1 _ (RdZ.of_own (s.getSl 0 rfl)) (by show 1 ≤ 1000; omega) (hN.keep s.ext) hnn) rfl rfl ?_; intro f w1 v44 hT hE h sq; replace s := s.sl_new hE hT
        refine s_on h rfl rfl rfl ?_
        refine s_len_sl 0 h s Try.underlying40 rfl rfl rfl ?_; intro f h
        refine s_on h rfl rfl rfl ?_
        refine s_pure h (ru_val (.bool true) (ru_eql (h.ev rfl) (h.ev rfl)) (congrArg Value.bool (decide_eq_true (by have := of_decide_eq_true q1; omega)))) rfl ?_; intro f h
        refine s_pure h (ru_pick_t (h.ev rfl) (h.ev rfl)) rfl ?_; intro f h
        refine s_nil ?_
        refine hK7 _ _ ?_
        refine wpIn_cond_true (h.ev rfl) ?_
        refine c_region ?_
        refine s_pure h (ru_build_mb1 sttM rfl) rfl ?_; intro f h
        refine s_pure h (ru_field fld46_1 (h.ev rfl)) rfl ?_; intro f h
        refine s_store_sub 5 h s row30 rfl rfl rfl (mbArr_size _) (by rw [ndArr_size]; omega) (mbArr_ones _) ?_; intro w1 s
        replace s := s.recell (D := ndArr n.me nMb v30 v19) 5 rfl (nd_setp _ _ _ _ _)
        refine s_nil ?_
        refine hK6 _ _ ?_
        refine c_seq fun K10 hK10 => ?_
        refine c_region ?_
        refine s_load_row 5 h s row46 rfl rfl (ndArr_size _ _ _ _) rfl ?_; intro f h
        refine s_store_row 4 h s row46 rfl rfl rfl (ndArr_size _ _ _ _) (ndArr_size _ _ _ _) (ndArr_ones (own_one (s.getSl 3 rfl)) (own_one (s.getSl 2 rfl))) ?_; intro w1 s
        refine s_nil ?_
        refine hK10 _ _ ?_
        refine wpIn_ret ?_
        exact e_row 4 rfl h s row46 rfl rfl (ndArr_size _ _ _ _) (drR_ok (rd_y q0 q1) (orA_n h0) (s.sel [3, 2] rfl (by decide)))
  · have h0 : ¬ (withL n.sc nos n.me.1).length = 0 := by have := of_decide_eq_false hc; omega
    refine wpIn_skip ?_
    refine hK4 _ _ ?_
    refine c_seq fun K11 hK11 => ?_
    refine c_seq fun K12 hK12 => ?_
    cases q0 : (!decide (n.pr = nMb) : Bool)
    · skip
      refine c_region ?_
      refine s_pure h (ru_field fld46_1 (h.ev rfl)) rfl ?_; intro f h
      refine s_load_at (Has.subL (Has.of_own s 3 rfl) 33 33 (D := mbArr n.pr) (ndArr_pr _ _ _ _)) h row30 rfl (mbArr_size _) rfl ?_; intro f h
      refine s_call h s fnc49 (rnone_any n.pr _) rfl rfl ?_; intro f w1 v9 hT hE h s; obtain rfl := hT
      refine s_pure h (ru_val (.bool false) (ru_not (h.ev rfl)) (congrArg Value.bool q0)) rfl ?_; intro f h
      refine s_pure h (ru_move (h.ev rfl)) rfl ?_; intro f h
      refine s_off (b := true) h rfl rfl rfl rfl ?_; intro f h
      refine s_off (b := true) h rfl rfl rfl rfl ?_; intro f h
      refine s_off (b := true) h rfl rfl rfl rfl ?_; intro f h
      refine s_off (b := true) h rfl rfl rfl rfl ?_; intro f h
      refine s_off (b := true) h rfl rfl rfl rfl ?_; intro f h
      refine s_off (b := true) h rfl rfl rfl rfl ?_; intro f h
      refine s_off (b := true) h rfl rfl rfl rfl ?_; intro f h
      refine s_off (b := true) h rfl rfl rfl rfl ?_; intro f h
      refine s_off (b := true) h rfl rfl rfl rfl ?_; intro f h
      refine s_off (b := true) h rfl rfl rfl rfl ?_; intro f h
      refine s_pure h (ru_pick_f (h.ev rfl) (h.ev rfl)) rfl ?_; intro f h
      refine s_nil ?_
      refine hK12 _ _ ?_
      refine wpIn_cond_false (h.ev rfl) ?_
      refine wpIn_skip ?_
      refine hK11 _ _ ?_
      refine c_seq fun K13 hK13 => ?_
      refine c_region ?_
      refine s_load_row 3 h s row46 rfl rfl (ndArr_size _ _ _ _) rfl ?_; intro f h
      refine s_store_row 2 h s row46 rfl rfl rfl (ndArr_size _ _ _ _) (ndArr_size _ _ _ _) (ndArr_ones (own_one (s.getSl 1 rfl)) (own_one (s.getSl 0 rfl))) ?_; intro w1 s
      refine s_nil ?_
      refine hK13 _ _ ?_
      refine wpIn_ret ?_
      exact e_row 2 rfl h s row46 rfl rfl (ndArr_size _ _ _ _) (drR_ok (rd_n0 q0) (orA_l h0) (s.sel [1, 0] rfl (by decide)))
    · skip
      cases q1 : (decide ((withL [n.pr] nos n.me.1).length = 0) : Bool)
      · skip
        refine c_region ?_
        refine s_pure h (ru_field fld46_1 (h.ev rfl)) rfl ?_; intro f h
        refine s_load_at (Has.subL (Has.of_own s 3 rfl) 33 33 (D := mbArr n.pr) (ndArr_pr _ _ _ _)) h row30 rfl (mbArr_size _) rfl ?_; intro f h
        refine s_call h s fnc49 (rnone_any n.pr _) rfl rfl ?_; intro f w1 v9 hT hE h s; obtain rfl := hT
        refine s_pure h (ru_val (.bool true) (ru_not (h.ev rfl)) (congrArg Value.bool q0)) rfl ?_; intro f h
        refine s_pure h (ru_move (h.ev rfl)) rfl ?_; intro f h
        refine s_on h rfl rfl rfl ?_
        refine s_pure h (ru_field fld46_1 (h.ev rfl)) rfl ?_; intro f h
        refine s_on h rfl rfl rfl ?_
        refine s_load_at (Has.subL (Has.of_own s 3 rfl) 33 33 (D := mbArr n.pr) (ndArr_pr _ _ _ _)) h row30 rfl (mbArr_size _) rfl ?_; intro f h
        refine s_on h rfl rfl rfl ?_
        refine s_bslice (vs := [.agg (mbArr n.pr)]) [.tmp 38] h s Try.underlying40 elm30 rfl rfl (mb_sz _) rfl rfl rfl ?_; intro f w1 v39 h s
        replace s := s.resl (m := [n.pr].length) (ys := mbCells [n.pr]) 0 rfl rfl (by rw [one_mb, mbCells_one])
        refine s_on h rfl rfl rfl ?_
        refine s_pure h (ru_move (h.ev rfl)) rfl ?_; intro f h
        refine s_on h rfl rfl rfl ?_
        refine s_pure h (ru_field fld46_0 (h.ev rfl)) rfl ?_; intro f h
        refine s_on h rfl rfl rfl ?_
        refine s_pure h (ru_field fld30_0 (h.ev rfl)) rfl ?_; intro f h
        refine s_on h rfl rfl rfl ?_
        refine s_load_at1 (cell_of_has (Has.of_own s 4 rfl) 0 (ndArr_no _ _ _ _)) h one3 rfl rfl ?_; intro f h
        refine s_on h rfl rfl rfl ?_
        refine s_call h s fnc80 (without_any [n.pr] v39 nos vn n.me.1 _ (RdZ.of_own (s.getSl 0 rfl)) (by show 1 ≤ 1000; omega) (hN.keep s.ext) hnn) rfl rfl ?_; intro f w1 v44 hT hE h sq; replace s := s.sl_new hE hT
        refine s_on h rfl rfl rfl ?_
        refine s_len_sl 0 h s Try.underlying40 rfl rfl rfl ?_; intro f h
        refine s_on h rfl rfl rfl ?_
        refine s_pure h (ru_val (.bool false) (ru_eql (h.ev rfl) (h.ev rfl)) (congrArg Value.bool (decide_eq_false (by have := of_decide_eq_false q1; omega)))) rfl ?_; intro f h
        refine s_pure h (ru_pick_t (h.ev rfl) (h.ev rfl)) rfl ?_; intro f h
        refine s_nil ?_
        refine hK12 _ _ ?_
        refine wpIn_cond_false (h.ev rfl) ?_
        refine wpIn_skip ?_
        refine hK11 _ _ ?_
        refine c_seq fun K14 hK14 => ?_
        refine c_region ?_
        refine s_load_row 5 h s row46 rfl rfl (ndArr_size _ _ _ _) rfl ?_; intro f h
        refine s_store_row 4 h s row46 rfl rfl rfl (ndArr_size _ _ _ _) (ndArr_size _ _ _ _) (ndArr_ones (own_one (s.getSl 3 rfl)) (own_one (s.getSl 2 rfl))) ?_; intro w1 s
        refine s_nil ?_
        refine hK14 _ _ ?_
        refine wpIn_ret ?_
        exact e_row 4 rfl h s row46 rfl rfl (ndArr_size _ _ _ _) (drR_ok (rd_n1 q1) (orA_l h0) (s.sel [3, 2] rfl (by decide)))
      · skip
        refine c_region ?_
        refine s_pure h (ru_field fld46_1 (h.ev rfl)) rfl ?_; intro f h
        refine s_load_at (Has.subL (Has.of_own s 3 rfl) 33 33 (D := mbArr n.pr) (ndArr_pr _ _ _ _)) h row30 rfl (mbArr_size _) rfl ?_; intro f h
        refine s_call h s fnc49 (rnone_any n.pr _) rfl rfl ?_; intro f w1 v9 hT hE h s; obtain rfl := hT
        refine s_pure h (ru_val (.bool true) (ru_not (h.ev rfl)) (congrArg Value.bool q0)) rfl ?_; intro f h
        refine s_pure h (ru_move (h.ev rfl)) rfl ?_; intro f h
        refine s_on h rfl rfl rfl ?_
        refine s_pure h (ru_field fld46_1 (h.ev rfl)) rfl ?_; intro f h
        refine s_on h rfl rfl rfl ?_
        refine s_load_at (Has.subL (Has.of_own s 3 rfl) 33 33 (D := mbArr n.pr) (ndArr_pr _ _ _ _)) h row30 rfl (mbArr_size _) rfl ?_; intro f h
        refine s_on h rfl rfl rfl ?_
        refine s_bslice (vs := [.agg (mbArr n.pr)]) [.tmp 38] h s Try.underlying40 elm30 rfl rfl (mb_sz _) rfl rfl rfl ?_; intro f w1 v39 h s
        replace s := s.resl (m := [n.pr].length) (ys := mbCells [n.pr]) 0 rfl rfl (by rw [one_mb, mbCells_one])
        refine s_on h rfl rfl rfl ?_
        refine s_pure h (ru_move (h.ev rfl)) rfl ?_; intro f h
        refine s_on h rfl rfl rfl ?_
        refine s_pure h (ru_field fld46_0 (h.ev rfl)) rfl ?_; intro f h
        refine s_on h rfl rfl rfl ?_
        refine s_pure h (ru_field fld30_0 (h.ev rfl)) rfl ?_; intro f h
        refine s_on h rfl rfl rfl ?_
        refine s_load_at1 (cell_of_has (Has.of_own s 4 rfl) 0 (ndArr_no _ _ _ _)) h one3 rfl rfl ?_; intro f h
        refine s_on h rfl rfl rfl ?_
        refine s_call h s fnc80 (without_any [n.pr] v39 nos vn n.me.1 _ (RdZ.of_own (s.getSl 0 rfl)) (by show 1 ≤ 1000; omega) (hN.keep s.ext) hnn) rfl rfl ?_; intro f w1 v44 hT hE h sq; replace s := s.sl_new hE hT
        refine s_on h rfl rfl rfl ?_
        refine s_len_sl 0 h s Try.underlying40 rfl rfl rfl ?_; intro f h
        refine s_on h rfl rfl rfl ?_
        refine s_pure h (ru_val (.bool true) (ru_eql (h.ev rfl) (h.ev rfl)) (congrArg Value.bool (decide_eq_true (by have := of_decide_eq_true q1; omega)))) rfl ?_; intro f h
        refine s_pure h (ru_pick_t (h.ev rfl) (h.ev rfl)) rfl ?_; intro f h
        refine s_nil ?_
        refine hK12 _ _ ?_
        refine wpIn_cond_true (h.ev rfl) ?_
        refine c_region ?_
        refine s_pure h (ru_build_mb1 sttM rfl) rfl ?_; intro f h
        refine s_pure h (ru_field fld46_1 (h.ev rfl)) rfl ?_; intro f h
        refine s_store_sub 5 h s row30 rfl rfl rfl (mbArr_size _) (by rw [ndArr_size]; omega) (mbArr_ones _) ?_; intro w1 s
        replace s := s.recell (D := ndArr n.me nMb v11 v19) 5 rfl (nd_setp _ _ _ _ _)
        refine s_nil ?_
        refine hK11 _ _ ?_
        refine c_seq fun K15 hK15 => ?_
        refine c_region ?_
        refine s_load_row 5 h s row46 rfl rfl (ndArr_size _ _ _ _) rfl ?_; intro f h
        refine s_store_row 4 h s row46 rfl rfl rfl (ndArr_size _ _ _ _) (ndArr_size _ _ _ _) (ndArr_ones (own_one (s.getSl 3 rfl)) (own_one (s.getSl 2 rfl))) ?_; intro w1 s
        refine s_nil ?_
        refine hK15 _ _ ?_
        refine wpIn_ret ?_
        exact e_row 4 rfl h s row46 rfl rfl (ndArr_size _ _ _ _) (drR_ok (rd_y q0 q1) (orA_l h0) (s.sel [3, 2] rfl (by decide)))

theorem rclosest_any (l : List Mb) (vh : Value) (t9 s9 : Id) (w : World) (hR : RdZ w vh 33 l.length (mbCells l)) (hln : l.length ≤ 1000) : Calls Try.prog 82 [idV t9, idV s9, vh].toArray w (Ret w (is (.agg (mbArr (rcM s9 t9 l))))) := by
  refine c_enter Try.func82 rfl Try.ntmps82 rfl [(0, idV t9), (1, idV s9), (2, vh)] (by simp) fun f h => ?_
  have s := St.start w
  refine c_seq fun K1 hK1 => ?_
  refine c_region ?_
  refine s_box (idArr t9) h s rfl rfl rfl ?_; intro f w1 b3 h s
  refine s_box (idArr s9) h s rfl rfl rfl ?_; intro f w1 b4 h s
  refine s_alloc (mbArr zMb) h s zero30 rfl rfl ?_; intro f w1 b6 h s
  refine s_nil ?_
  refine hK1 _ _ ?_
  refine c_seq fun K2 hK2 => ?_
  refine c_region ?_
  refine s_pure h (ru_build_mb1 sttM (h.ev rfl)) rfl ?_; intro f h
  refine s_alloc (mbArr zMb) h s zero30 rfl rfl ?_; intro f w1 b7 h s
  refine s_store_row 0 h s row30 rfl rfl rfl (mbArr_size _) (mbArr_size _) (mbArr_ones _) ?_; intro w1 s
  refine s_nil ?_
  refine hK2 _ _ ?_
  refine c_seq fun K3 hK3 => ?_
  refine c_region ?_
  refine s_pure h (ru_assign (h.ev rfl)) rfl ?_; intro f h
  refine s_nil ?_
  refine hK3 _ _ ?_
  refine c_seq fun K4 hK4 => ?_
  refine c_seq fun K5 hK5 => ?_
  refine c_region ?_
  refine s_pure h (ru_move (h.ev rfl)) rfl ?_; intro f h
  refine s_pure h (ru_lenZ (hR.keep s.ext) Try.underlying40 (h.ev rfl)) rfl ?_; intro f h
  refine s_pure h (ru_move (h.ev rfl)) rfl ?_; intro f h
  refine s_nil ?_
  refine hK5 _ _ ?_
  refine wpIn_block ?_
  refine wpIn_loop_ghost (fun nn aa ww => ∃ k : Nat, Sl 38 aa [(0, idV t9), (1, idV s9), (2, vh), (3, .pointer (some ⟨b3, 0, none⟩)), (4, .pointer (some ⟨b4, 0, none⟩)), (6, .pointer (some ⟨b6, 0, none⟩)), (7, .pointer (some ⟨b7, 0, none⟩)), (8, .bool (rcB s9 t9 l k)), (12, vh), (13, .int .i64 (l.length : Int)), (14, .int .i64 (k : Int))] ∧ St w [.blk b7 (.cells (mbArr (rcM s9 t9 (l.take k))) 30), .blk b6 (.cells (mbArr zMb) 30), .blk b4 (.cells (idArr s9) 26), .blk b3 (.cells (idArr t9) 26)] ww ∧ nn = l.length - k ∧ k ≤ l.length) (l.length - (0)) ⟨0, h.only ⟨rfl, rfl, rfl, rfl, rfl, rfl, rfl, rfl, rfl, rfl, rfl, trivial⟩, s.as ⟨rfl, rfl, rfl, rfl, trivial⟩, rfl, Nat.zero_le _⟩ ?_
  rintro _ f w1 ⟨k, h, s, hnn, hp0⟩
  refine c_seq fun K6 hK6 => ?_
  refine c_region ?_
  refine s_pure h (ru_lss (h.ev rfl) (h.ev rfl)) rfl ?_; intro f h
  refine s_nil ?_
  refine hK6 _ _ ?_
  refine c_seq fun K7 hK7 => ?_
  refine c_cond h rfl (fun hc => ?_) (fun hc => ?_)
  · replace hc := of_decide_eq_true hc
    refine wpIn_skip ?_
    refine hK7 _ _ ?_
    refine c_seq fun K8 hK8 => ?_
    refine wpIn_block ?_
    refine c_seq fun K9 hK9 => ?_
    refine c_region ?_
    have hkl : k < l.length := by omega
    refine s_pure h (ru_ixz (hR.keep s.ext) (k) Try.underlying40 szo30 (h.ev rfl) (h.ev rfl) (by omega) (by omega)) rfl ?_; intro f h
    refine s_load_at ((hR.keep s.ext).el (k) (by omega) (by decide) (D := mbArr (l.getD k zMb)) (mb_elD l k hkl)) h row30 rfl (mbArr_size _) rfl ?_; intro f h
    refine s_alloc (mbArr zMb) h s zero30 rfl rfl ?_; intro f w1 b10 h s
    refine s_store_row 0 h s row30 rfl rfl rfl (mbArr_size _) (mbArr_size _) (mbArr_ones _) ?_; intro w1 s
    refine s_nil ?_
    refine hK9 _ _ ?_
    refine c_seq fun K10 hK10 => ?_
    cases hb : (btw s9 t9 (l.getD k zMb) : Bool)
    · skip
      refine c_region ?_
      refine s_pure h (ru_field fld30_1 (h.ev rfl)) rfl ?_; intro f h
      refine s_load_at (Has.subL (Has.of_own s 0 rfl) 1 32 (D := idArr (_)) (mbArr_id _)) h row26 rfl (by first | exact idArr_size _ | exact bytesF_size _ _) rfl ?_; intro f h
      refine s_load_row 3 h s row26 rfl rfl (by first | exact idArr_size _ | exact bytesF_size _ _) rfl ?_; intro f h
      refine s_load_row 4 h s row26 rfl rfl (by first | exact idArr_size _ | exact bytesF_size _ _) rfl ?_; intro f h
      refine s_call h s fnc97 (ret_val (.bool false) (between_any (l.getD k zMb) s9 t9 _) (congrArg Value.bool hb)) rfl rfl ?_; intro f w1 v9 hT hE h s; obtain rfl := hT
      refine s_pure h (ru_move (h.ev rfl)) rfl ?_; intro f h
      refine s_off (b := true) h rfl rfl rfl rfl ?_; intro f h
      refine s_off (b := true) h rfl rfl rfl rfl ?_; intro f h
      refine s_off (b := true) h rfl rfl rfl rfl ?_; intro f h
      refine s_none h rfl rfl rfl rfl ?_; intro f h
      refine s_none h rfl rfl rfl rfl ?_; intro f h
      refine s_none h rfl rfl rfl rfl ?_; intro f h
      refine s_none h rfl rfl rfl rfl ?_; intro f h
      refine s_none h rfl rfl rfl rfl ?_; intro f h
      refine s_none h rfl rfl rfl rfl ?_; intro f h
      refine s_off (b := true) h rfl rfl rfl rfl ?_; intro f h
      refine s_pure h (ru_pick_f (h.ev rfl) (h.ev rfl)) rfl ?_; intro f h
      refine s_nil ?_
      refine hK10 _ _ ?_
      refine wpIn_cond_false (h.ev rfl) ?_
      refine wpIn_skip ?_
      refine b_norm ?_
      refine hK8 _ _ ?_
      refine c_region ?_
      refine s_pure h (ru_add (h.ev rfl) (h.ev rfl) (by omega)) rfl ?_; intro f h
      refine s_pure h (ru_move (h.ev rfl)) rfl ?_; intro f h
      refine s_nil ?_
      refine t_norm ?_
      exact ⟨_, by omega, ⟨k + 1, h.only ⟨rfl, rfl, rfl, rfl, rfl, rfl, rfl, congrArg (fun b => some (Value.bool b)) (rc_no hkl hb).2.symm, rfl, rfl, slot_int rfl (by omega), trivial⟩, St.as (s.pick _ (List.sublist_append_right [_] _)) ⟨cells_eq (congrArg mbArr (rc_no hkl hb).1.symm), rfl, rfl, rfl, trivial⟩, rfl, by omega⟩⟩
    · skip
      cases hf : (rcB s9 t9 l k : Bool)
      · skip
        refine c_region ?_
        refine s_pure h (ru_field fld30_1 (h.ev rfl)) rfl ?_; intro f h
        refine s_load_at (Has.subL (Has.of_own s 0 rfl) 1 32 (D := idArr (_)) (mbArr_id _)) h row26 rfl (by first | exact idArr_size _ | exact bytesF_size _ _) rfl ?_; intro f h
        refine s_load_row 3 h s row26 rfl rfl (by first | exact idArr_size _ | exact bytesF_size _ _) rfl ?_; intro f h
        refine s_load_row 4 h s row26 rfl rfl (by first | exact idArr_size _ | exact bytesF_size _ _) rfl ?_; intro f h
        refine s_call h s fnc97 (ret_val (.bool true) (between_any (l.getD k zMb) s9 t9 _) (congrArg Value.bool hb)) rfl rfl ?_; intro f w1 v9 hT hE h s; obtain rfl := hT
        refine s_pure h (ru_move (h.ev rfl)) rfl ?_; intro f h
        refine s_on h rfl rfl rfl ?_
        refine s_pure h (ru_val (.bool false) (ru_move (h.ev rfl)) (congrArg Value.bool hf)) rfl ?_; intro f h
        refine s_on h rfl rfl rfl ?_
        refine s_pure h (ru_val (.bool true) (ru_not (h.ev rfl)) rfl) rfl ?_; intro f h
        refine s_on h rfl rfl rfl ?_
        refine s_pure h (ru_move (h.ev rfl)) rfl ?_; intro f h
        refine s_off (b := false) h rfl rfl rfl rfl ?_; intro f h
        refine s_off (b := false) h rfl rfl rfl rfl ?_; intro f h
        refine s_off (b := false) h rfl rfl rfl rfl ?_; intro f h
        refine s_off (b := false) h rfl rfl rfl rfl ?_; intro f h
        refine s_off (b := false) h rfl rfl rfl rfl ?_; intro f h
        refine s_off (b := false) h rfl rfl rfl rfl ?_; intro f h
        refine s_on h rfl rfl rfl ?_
        refine s_pure h (ru_pick_t (h.ev rfl) (h.ev rfl)) rfl ?_; intro f h
        refine s_pure h (ru_pick_t (h.ev rfl) (h.ev rfl)) rfl ?_; intro f h
        refine s_nil ?_
        refine hK10 _ _ ?_
        refine wpIn_cond_true (h.ev rfl) ?_
        refine c_seq fun K11 hK11 => ?_
        refine c_region ?_
        refine s_load_row 0 h s row30 rfl rfl (mbArr_size _) rfl ?_; intro f h
        refine s_store_row 1 h s row30 rfl rfl rfl (mbArr_size _) (mbArr_size _) (mbArr_ones _) ?_; intro w1 s
        refine s_nil ?_
        refine hK11 _ _ ?_
        refine c_region ?_
        refine s_pure h (ru_assign (h.ev rfl)) rfl ?_; intro f h
        refine s_nil ?_
        refine b_norm ?_
        refine hK8 _ _ ?_
        refine c_region ?_
        refine s_pure h (ru_add (h.ev rfl) (h.ev rfl) (by omega)) rfl ?_; intro f h
        refine s_pure h (ru_move (h.ev rfl)) rfl ?_; intro f h
        refine s_nil ?_
        refine t_norm ?_
        exact ⟨_, by omega, ⟨k + 1, h.only ⟨rfl, rfl, rfl, rfl, rfl, rfl, rfl, congrArg (fun b => some (Value.bool b)) (rc_tr hkl hb).symm, rfl, rfl, slot_int rfl (by omega), trivial⟩, St.as (s.pick _ (List.sublist_append_right [_] _)) ⟨cells_eq (congrArg mbArr (rc_first hkl hb hf).symm), rfl, rfl, rfl, trivial⟩, rfl, by omega⟩⟩
      · skip
        cases h2 : (btw s9 (l.getD k zMb).2 (rcM s9 t9 (l.take k)) : Bool)
        · skip
          refine c_region ?_
          refine s_pure h (ru_field fld30_1 (h.ev rfl)) rfl ?_; intro f h
          refine s_load_at (Has.subL (Has.of_own s 0 rfl) 1 32 (D := idArr (_)) (mbArr_id _)) h row26 rfl (by first | exact idArr_size _ | exact bytesF_size _ _) rfl ?_; intro f h
          refine s_load_row 3 h s row26 rfl rfl (by first | exact idArr_size _ | exact bytesF_size _ _) rfl ?_; intro f h
          refine s_load_row 4 h s row26 rfl rfl (by first | exact idArr_size _ | exact bytesF_size _ _) rfl ?_; intro f h
          refine s_call h s fnc97 (ret_val (.bool true) (between_any (l.getD k zMb) s9 t9 _) (congrArg Value.bool hb)) rfl rfl ?_; intro f w1 v9 hT hE h s; obtain rfl := hT
          refine s_pure h (ru_move (h.ev rfl)) rfl ?_; intro f h
          refine s_on h rfl rfl rfl ?_
          refine s_pure h (ru_val (.bool true) (ru_move (h.ev rfl)) (congrArg Value.bool hf)) rfl ?_; intro f h
          refine s_on h rfl rfl rfl ?_
          refine s_pure h (ru_val (.bool false) (ru_not (h.ev rfl)) rfl) rfl ?_; intro f h
          refine s_on h rfl rfl rfl ?_
          refine s_pure h (ru_move (h.ev rfl)) rfl ?_; intro f h
          refine s_on h rfl rfl rfl ?_
          refine s_pure h (ru_field fld30_1 (h.ev rfl)) rfl ?_; intro f h
          refine s_on h rfl rfl rfl ?_
          refine s_load_at (Has.subL (Has.of_own s 1 rfl) 1 32 (D := idArr (_)) (mbArr_id _)) h row26 rfl (by first | exact idArr_size _ | exact bytesF_size _ _) rfl ?_; intro f h
          refine s_on h rfl rfl rfl ?_
          refine s_load_row 3 h s row26 rfl rfl (by first | exact idArr_size _ | exact bytesF_size _ _) rfl ?_; intro f h
          refine s_on h rfl rfl rfl ?_
          refine s_pure h (ru_field fld30_1 (h.ev rfl)) rfl ?_; intro f h
          refine s_on h rfl rfl rfl ?_
          refine s_load_at (Has.subL (Has.of_own s 0 rfl) 1 32 (D := idArr (_)) (mbArr_id _)) h row26 rfl (by first | exact idArr_size _ | exact bytesF_size _ _) rfl ?_; intro f h
          refine s_on h rfl rfl rfl ?_
          refine s_call h s fnc97 (ret_val (.bool false) (between_any (rcM s9 t9 (l.take k)) s9 (l.getD k zMb).2 _) (congrArg Value.bool h2)) rfl rfl ?_; intro f w1 v9 hT hE h s; obtain rfl := hT
          refine s_on h rfl rfl rfl ?_
          refine s_pure h (ru_pick_f (h.ev rfl) (h.ev rfl)) rfl ?_; intro f h
          refine s_pure h (ru_pick_t (h.ev rfl) (h.ev rfl)) rfl ?_; intro f h
          refine s_nil ?_
          refine hK10 _ _ ?_
          refine wpIn_cond_false (h.ev rfl) ?_
          refine wpIn_skip ?_
          refine b_norm ?_
          refine hK8 _ _ ?_
          refine c_region ?_
          refine s_pure h (ru_add (h.ev rfl) (h.ev rfl) (by omega)) rfl ?_; intro f h
          refine s_pure h (ru_move (h.ev rfl)) rfl ?_; intro f h
          refine s_nil ?_
          refine t_norm ?_
          exact ⟨_, by omega, ⟨k + 1, h.only ⟨rfl, rfl, rfl, rfl, rfl, rfl, rfl, congrArg (fun b => some (Value.bool b)) (hf.trans (rc_tr hkl hb).symm), rfl, rfl, slot_int rfl (by omega), trivial⟩, St.as (s.pick _ (List.sublist_append_right [_] _)) ⟨cells_eq (congrArg mbArr (rc_not hkl hb hf h2).symm), rfl, rfl, rfl, trivial⟩, rfl, by omega⟩⟩
        · skip
          refine c_region ?_
          refine s_pure h (ru_field fld30_1 (h.ev rfl)) rfl ?_; intro f h
          refine s_load_at (Has.subL (Has.of_own s 0 rfl) 1 32 (D := idArr (_)) (mbArr_id _)) h row26 rfl (by first | exact idArr_size _ | exact bytesF_size _ _) rfl ?_; intro f h
          refine s_load_row 3 h s row26 rfl rfl (by first | exact idArr_size _ | exact bytesF_size _ _) rfl ?_; intro f h
          refine s_load_row 4 h s row26 rfl rfl (by first | exact idArr_size _ | exact bytesF_size _ _) rfl ?_; intro f h
          refine s_call h s fnc97 (ret_val (.bool true) (between_any (l.getD k zMb) s9 t9 _) (congrArg Value.bool hb)) rfl rfl ?_; intro f w1 v9 hT hE h s; obtain rfl := hT
          refine s_pure h (ru_move (h.ev rfl)) rfl ?_; intro f h
          refine s_on h rfl rfl rfl ?_
          refine s_pure h (ru_val (.bool true) (ru_move (h.ev rfl)) (congrArg Value.bool hf)) rfl ?_; intro f h
          refine s_on h rfl rfl rfl ?_
          refine s_pure h (ru_val (.bool false) (ru_not (h.ev rfl)) rfl) rfl ?_; intro f h
          refine s_on h rfl rfl rfl ?_
          refine s_pure h (ru_move (h.ev rfl)) rfl ?_; intro f h
          refine s_on h rfl rfl rfl ?_
          refine s_pure h (ru_field fld30_1 (h.ev rfl)) rfl ?_; intro f h
          refine s_on h rfl rfl rfl ?_
          refine s_load_at (Has.subL (Has.of_own s 1 rfl) 1 32 (D := idArr (_)) (mbArr_id _)) h row26 rfl (by first | exact idArr_size _ | exact bytesF_size _ _) rfl ?_; intro f h
          refine s_on h rfl rfl rfl ?_
          refine s_load_row 3 h s row26 rfl rfl (by first | exact idArr_size _ | exact bytesF_size _ _) rfl ?_; intro f h
          refine s_on h rfl rfl rfl ?_
          refine s_pure h (ru_field fld30_1 (h.ev rfl)) rfl ?_; intro f h
          refine s_on h rfl rfl rfl ?_
          refine s_load_at (Has.subL (Has.of_own s 0 rfl) 1 32 (D := idArr (_)) (mbArr_id _)) h row26 rfl (by first | exact idArr_size _ | exact bytesF_size _ _) rfl ?_; intro f h
          refine s_on h rfl rfl rfl ?_
          refine s_call h s fnc97 (ret_val (.bool true) (between_any (rcM s9 t9 (l.take k)) s9 (l.getD k zMb).2 _) (congrArg Value.bool h2)) rfl rfl ?_; intro f w1 v9 hT hE h s; obtain rfl := hT
          refine s_on h rfl rfl rfl ?_
          refine s_pure h (ru_pick_f (h.ev rfl) (h.ev rfl)) rfl ?_; intro f h
          refine s_pure h (ru_pick_t (h.ev rfl) (h.ev rfl)) rfl ?_; intro f h
          refine s_nil ?_
          refine hK10 _ _ ?_
          refine wpIn_cond_true (h.ev rfl) ?_
          refine c_seq fun K12 hK12 => ?_
          refine c_region ?_
          refine s_load_row 0 h s row30 rfl rfl (mbArr_size _) rfl ?_; intro f h
          refine s_store_row 1 h s row30 rfl rfl rfl (mbArr_size _) (mbArr_size _) (mbArr_ones _) ?_; intro w1 s
          refine s_nil ?_
          refine hK12 _ _ ?_
          refine c_region ?_
          refine s_pure h (ru_assign (h.ev rfl)) rfl ?_; intro f h
          refine s_nil ?_
          refine b_norm ?_
          refine hK8 _ _ ?_
          refine c_region ?_
          refine s_pure h (ru_add (h.ev rfl) (h.ev rfl) (by omega)) rfl ?_; intro f h
          refine s_pure h (ru_move (h.ev rfl)) rfl ?_; intro f h
          refine s_nil ?_
          refine t_norm ?_
          exact ⟨_, by omega, ⟨k + 1, h.only ⟨rfl, rfl, rfl, rfl, rfl, rfl, rfl, congrArg (fun b => some (Value.bool b)) (rc_tr hkl hb).symm, rfl, rfl, slot_int rfl (by omega), trivial⟩, St.as (s.pick _ (List.sublist_append_right [_] _)) ⟨cells_eq (congrArg mbArr (rc_yes hkl hb hf h2).symm), rfl, rfl, rfl, trivial⟩, rfl, by omega⟩⟩
  · replace hc := of_decide_eq_false hc
    refine wpIn_exit ?_
    refine t_exit ?_
    refine t_exit ?_
    refine b_exit ?_
    refine hK4 _ _ ?_
    refine c_seq fun K13 hK13 => ?_
    refine c_region ?_
    refine s_load_row 0 h s row30 rfl rfl (mbArr_size _) rfl ?_; intro f h
    refine s_store_row 1 h s row30 rfl rfl rfl (mbArr_size _) (mbArr_size _) (mbArr_ones _) ?_; intro w1 s
    refine s_nil ?_
    refine hK13 _ _ ?_
    refine wpIn_ret ?_
    exact e_row 1 rfl h s row30 rfl rfl (mbArr_size _) ((by obtain rfl : k = l.length := (by omega); show _ = _; rw [List.take_length]))

theorem rnext9_any (n : Nd) (vs vf : Value) (x : Id) (w : World) (hRs : RdZ w vs 33 n.sc.length (mbCells n.sc)) (hRf : RdZ w vf 33 n.fg.length (mbCells n.fg)) (hns : n.sc.length ≤ 400) (hnf : n.fg.length ≤ 400) (hr : rightN n = true) : Calls Try.prog 54 [.agg (ndArr n.me n.pr vs vf), idV x].toArray w (Ret w (is (.agg (nnArr (nxM n x) (nxB n x))))) := by
  have hrn := rn_iff.1 hr
  have hl1 := hrn.len
  have hnx := nx_ref hrn x
  refine c_enter Try.func54 rfl Try.ntmps54 rfl [(0, .agg (ndArr n.me n.pr vs vf)), (1, idV x)] (by simp) fun f h => ?_
  have s := St.start w
  refine c_seq fun K1 hK1 => ?_
  refine c_region ?_
  refine s_box (ndArr n.me n.pr vs vf) h s rfl rfl rfl ?_; intro f w1 b2 h s
  refine s_box (idArr x) h s rfl rfl rfl ?_; intro f w1 b3 h s
  refine s_alloc (nnArr zMb false) h s zero64 rfl rfl ?_; intro f w1 b4 h s
  refine s_nil ?_
  refine hK1 _ _ ?_
  refine c_seq fun K2 hK2 => ?_
  refine c_region ?_
  refine s_pure h (ru_field fld46_2 (h.ev rfl)) rfl ?_; intro f h
  refine s_load_at1 (V := vs) (cell_of_has (Has.of_own s 2 rfl) 66 (ndArr_sc _ _ _ _)) h one40 rfl rfl ?_; intro f h
  refine s_pure h (ru_ixz (hRs.keep s.ext) (0) Try.underlying40 szo30 (h.ev rfl) (h.ev rfl) (by omega) (by omega)) rfl ?_; intro f h
  refine s_load_at ((hRs.keep s.ext).el (0) (by omega) (by decide) (D := mbArr (n.sc.getD 0 zMb)) (mb_elD n.sc 0 (by omega))) h row30 rfl (mbArr_size _) rfl ?_; intro f h
  refine s_alloc (mbArr zMb) h s zero30 rfl rfl ?_; intro f w1 b5 h s
  refine s_store_row 0 h s row30 rfl rfl rfl (mbArr_size _) (mbArr_size _) (mbArr_ones _) ?_; intro w1 s
  refine s_nil ?_
  refine hK2 _ _ ?_
  refine c_seq fun K3 hK3 => ?_
  refine c_seq fun K4 hK4 => ?_
  cases hi : (inB x n.me.2 (n.sc.getD 0 zMb).2 : Bool)
  · skip
    refine c_region ?_
    refine s_load_row 2 h s row26 rfl rfl (by first | exact idArr_size _ | exact bytesF_size _ _) rfl ?_; intro f h
    refine s_pure h (ru_field fld46_0 (h.ev rfl)) rfl ?_; intro f h
    refine s_pure h (ru_field fld30_1 (h.ev rfl)) rfl ?_; intro f h
    refine s_load_at (Has.subL (Has.of_own s 3 rfl) 1 32 (D := idArr n.me.2) (ndArr_id _ _ _ _)) h row26 rfl (by first | exact idArr_size _ | exact bytesF_size _ _) rfl ?_; intro f h
    refine s_pure h (ru_field fld30_1 (h.ev rfl)) rfl ?_; intro f h
    refine s_load_at (Has.subL (Has.of_own s 0 rfl) 1 32 (D := idArr (_)) (mbArr_id _)) h row26 rfl (by first | exact idArr_size _ | exact bytesF_size _ _) rfl ?_; intro f h
    refine s_call h s fnc53 (ret_val (.bool false) (rin_any _ _ _ _) (congrArg Value.bool hi)) rfl rfl ?_; intro f w1 v9 hT hE h s; obtain rfl := hT
    refine s_nil ?_
    refine hK4 _ _ ?_
    refine wpIn_cond_false (h.ev rfl) ?_
    refine wpIn_skip ?_
    refine hK3 _ _ ?_
    refine c_seq fun K5 hK5 => ?_
    refine c_region ?_
    refine s_bslice (vs := []) [] h s Try.underlying40 elm30 rfl rfl (by simp) rfl rfl rfl ?_; intro f w1 v21 h s
    refine s_pure h (ru_assign (h.ev rfl)) rfl ?_; intro f h
    refine s_nil ?_
    refine hK5 _ _ ?_
    refine c_seq fun K6 hK6 => ?_
    refine c_region ?_
    refine s_pure h (ru_move (h.ev rfl)) rfl ?_; intro f h
    refine s_pure h (ru_field fld46_3 (h.ev rfl)) rfl ?_; intro f h
    refine s_load_at1 (V := vf) (cell_of_has (Has.of_own s 4 rfl) 67 (ndArr_fg _ _ _ _)) h one40 rfl rfl ?_; intro f h
    refine s_append_rd 0 (hRf.keep s.ext) h s Try.underlying40 elm30 rfl rfl rfl (mbCells_ones _) (by unfold maxLen; omega) (by omega) rfl ?_; intro f w1 v25 h s
    replace s := s.resl (m := n.fg.length) (ys := mbCells n.fg) 0 rfl (by omega) rfl
    refine s_pure h (ru_assign (h.ev rfl)) rfl ?_; intro f h
    refine s_nil ?_
    refine hK6 _ _ ?_
    refine c_seq fun K7 hK7 => ?_
    refine c_region ?_
    refine s_pure h (ru_move (h.ev rfl)) rfl ?_; intro f h
    refine s_pure h (ru_field fld46_2 (h.ev rfl)) rfl ?_; intro f h
    refine s_load_at1 (V := vs) (cell_of_has (Has.of_own s 4 rfl) 66 (ndArr_sc _ _ _ _)) h one40 rfl rfl ?_; intro f h
    refine s_append_rd 0 (hRs.keep s.ext) h s Try.underlying40 elm30 rfl rfl rfl (mbCells_ones _) (by unfold maxLen; omega) (by omega) rfl ?_; intro f w1 v29 h s
    replace s := s.resl (m := (n.fg ++ n.sc).length) (ys := mbCells (n.fg ++ n.sc)) 0 rfl (by rw [List.length_append]) (mbCells_app _ _).symm
    refine s_pure h (ru_assign (h.ev rfl)) rfl ?_; intro f h
    refine s_nil ?_
    refine hK7 _ _ ?_
    refine c_seq fun K8 hK8 => ?_
    refine c_region ?_
    refine s_load_row 3 h s row26 rfl rfl (by first | exact idArr_size _ | exact bytesF_size _ _) rfl ?_; intro f h
    refine s_pure h (ru_field fld46_0 (h.ev rfl)) rfl ?_; intro f h
    refine s_pure h (ru_field fld30_1 (h.ev rfl)) rfl ?_; intro f h
    refine s_load_at (Has.subL (Has.of_own s 4 rfl) 1 32 (D := idArr n.me.2) (ndArr_id _ _ _ _)) h row26 rfl (by first | exact idArr_size _ | exact bytesF_size _ _) rfl ?_; intro f h
    refine s_pure h (ru_move (h.ev rfl)) rfl ?_; intro f h
    refine s_call h s fnc82 (rclosest_any (n.fg ++ n.sc) v29 x n.me.2 _ (RdZ.of_own (s.getSl 0 rfl)) (by rw [List.length_append]; omega)) rfl rfl ?_; intro f w1 v9 hT hE h s; obtain rfl := hT
    refine s_alloc (mbArr zMb) h s zero30 rfl rfl ?_; intro f w1 b7 h s
    refine s_store_row 0 h s row30 rfl rfl rfl (mbArr_size _) (mbArr_size _) (mbArr_ones _) ?_; intro w1 s
    refine s_nil ?_
    refine hK8 _ _ ?_
    refine c_seq fun K9 hK9 => ?_
    refine c_seq fun K10 hK10 => ?_
    refine c_region ?_
    refine s_pure h (ru_field fld30_0 (h.ev rfl)) rfl ?_; intro f h
    refine s_load_at1 (cell_of_has (Has.of_own s 0 rfl) 0 (mbArr_no _)) h one3 rfl rfl ?_; intro f h
    refine s_pure h (ru_lss (h.ev rfl) (h.ev rfl)) rfl ?_; intro f h
    refine s_nil ?_
    refine hK10 _ _ ?_
    refine c_cond h rfl (fun hc => ?_) (fun hc => ?_)
    · have h0 := (hnx.resolve_right (fun h9 => h9.1 (of_decide_eq_true hc))).2
      refine c_region ?_
      refine s_load_row 2 h s row30 rfl rfl (mbArr_size _) rfl ?_; intro f h
      refine s_store_row 0 h s row30 rfl rfl rfl (mbArr_size _) (mbArr_size _) (mbArr_ones _) ?_; intro w1 s
      refine s_nil ?_
      refine hK9 _ _ ?_
      refine c_seq fun K11 hK11 => ?_
      refine c_region ?_
      refine s_load_row 0 h s row30 rfl rfl (mbArr_size _) rfl ?_; intro f h
      refine s_pure h (ru_build_nn1 sttK (h.ev rfl)) rfl ?_; intro f h
      refine s_store_row 3 h s row64 rfl rfl rfl (nnArr_size _ _) (nnArr_size _ _) (nnArr_ones _ _) ?_; intro w1 s
      refine s_nil ?_
      refine hK11 _ _ ?_
      refine wpIn_ret ?_
      exact e_row 3 rfl h s row64 rfl rfl (nnArr_size _ _) (by show _ = _; rw [(nx_cls hr hi).1, (nx_cls hr hi).2.1, h0])
    · have h0 := (hnx.resolve_left (fun h9 => of_decide_eq_false hc h9.1)).2
      refine wpIn_skip ?_
      refine hK9 _ _ ?_
      refine c_seq fun K12 hK12 => ?_
      refine c_region ?_
      refine s_load_row 0 h s row30 rfl rfl (mbArr_size _) rfl ?_; intro f h
      refine s_pure h (ru_build_nn1 sttK (h.ev rfl)) rfl ?_; intro f h
      refine s_store_row 3 h s row64 rfl rfl rfl (nnArr_size _ _) (nnArr_size _ _) (nnArr_ones _ _) ?_; intro w1 s
      refine s_nil ?_
      refine hK12 _ _ ?_
      refine wpIn_ret ?_
      exact e_row 3 rfl h s row64 rfl rfl (nnArr_size _ _) (by show _ = _; rw [(nx_cls hr hi).1, (nx_cls hr hi).2.1, h0])
  · skip
    refine c_region ?_
    refine s_load_row 2 h s row26 rfl rfl (by first | exact idArr_size _ | exact bytesF_size _ _) rfl ?_; intro f h
    refine s_pure h (ru_field fld46_0 (h.ev rfl)) rfl ?_; intro f h
    refine s_pure h (ru_field fld30_1 (h.ev rfl)) rfl ?_; intro f h
    refine s_load_at (Has.subL (Has.of_own s 3 rfl) 1 32 (D := idArr n.me.2) (ndArr_id _ _ _ _)) h row26 rfl (by first | exact idArr_size _ | exact bytesF_size _ _) rfl ?_; intro f h
    refine s_pure h (ru_field fld30_1 (h.ev rfl)) rfl ?_; intro f h
    refine s_load_at (Has.subL (Has.of_own s 0 rfl) 1 32 (D := idArr (_)) (mbArr_id _)) h row26 rfl (by first | exact idArr_size _ | exact bytesF_size _ _) rfl ?_; intro f h
    refine s_call h s fnc53 (ret_val (.bool true) (rin_any _ _ _ _) (congrArg Value.bool hi)) rfl rfl ?_; intro f w1 v9 hT hE h s; obtain rfl := hT
    refine s_nil ?_
    refine hK4 _ _ ?_
    refine wpIn_cond_true (h.ev rfl) ?_
    refine c_seq fun K13 hK13 => ?_
    refine c_region ?_
    refine s_load_row 0 h s row30 rfl rfl (mbArr_size _) rfl ?_; intro f h
    refine s_pure h (ru_build_nn2 sttK (h.ev rfl) rfl) rfl ?_; intro f h
    refine s_store_row 1 h s row64 rfl rfl rfl (nnArr_size _ _) (nnArr_size _ _) (nnArr_ones _ _) ?_; intro w1 s
    refine s_nil ?_
    refine hK13 _ _ ?_
    refine wpIn_ret ?_
    refine t_ret ?_
    exact e_row 1 rfl h s row64 rfl rfl (nnArr_size _ _) (by show _ = _; rw [(nx_first hr hi).1, (nx_first hr hi).2.1])

set_option maxHeartbeats 2000000 in
theorem answer_any (L : List N3) (vo : Value) (no : Int) (x : Id) (w : World) (hO : RdO w vo L) (hL : L.length ≤ 40) (hrs : RS L) (hlv : livesB (memL L) no = true) (hb : RwB L) : Calls Try.prog 28 [.agg #[vo], .int .i64 no, idV x].toArray w (Ret w (is (.agg (nnArr (anM (memL L) (getL L no).1 x) (anB (memL L) (getL L no).1 x))))) := by
  obtain ⟨hgm, hgn⟩ := hrs.get hlv
  have hgr := hrs.rn _ hgm
  have hgb := hb.each _ hgm
  have hl16 := hrs.len
  have hkl2 : (knownN (getL L no).1).length ≤ 700 := by simp only [knownN, List.length_append, List.length_cons]; omega
  refine c_enter Try.func28 rfl Try.ntmps28 rfl [(0, .agg #[vo]), (1, .int .i64 no), (2, idV x)] (by simp) fun f h => ?_
  have s := St.start w
  refine c_seq fun K1 hK1 => ?_
  refine c_region ?_
  refine s_box (#[vo]) h s rfl rfl rfl ?_; intro f w1 b3 h s
  refine s_box (idArr x) h s rfl rfl rfl ?_; intro f w1 b5 h s
  refine s_alloc (nnArr zMb false) h s zero64 rfl rfl ?_; intro f w1 b6 h s
  refine s_nil ?_
  refine hK1 _ _ ?_
  refine c_seq fun K2 hK2 => ?_
  refine c_region ?_
  refine s_load_row 2 h s row24 rfl rfl (rfl) rfl ?_; intro f h
  refine s_pure h (ru_move (h.ev rfl)) rfl ?_; intro f h
  refine s_call h s fnc51 (get_any L vo no _ (hO.keep s.ext) hL) rfl rfl ?_; intro f w1 v9 hT hE h s; obtain rfl := hT
  refine s_alloc (ndArr zMb zMb nilV nilV) h s zero46 rfl rfl ?_; intro f w1 b7 h s
  refine s_store_row 0 h s row46 rfl rfl rfl (ndArr_size _ _ _ _) (ndArr_size _ _ _ _) (ndArr_ones (rd_one ((rd_get hO.2 no).1.keep s.ext)) (rd_one ((rd_get hO.2 no).2.keep s.ext))) ?_; intro w1 s
  refine s_nil ?_
  refine hK2 _ _ ?_
  refine c_seq fun K3 hK3 => ?_
  refine c_region ?_
  refine s_bslice (vs := []) [] h s Try.underlying28 elm3 rfl rfl (by simp) rfl rfl rfl ?_; intro f w1 v14 h s
  replace s := s.resl (m := (dwnK (memL L) (getL L no).1 0).length) (ys := List.map (Value.int .i64) (dwnK (memL L) (getL L no).1 0)) 0 rfl (rfl) (rfl)
  refine s_pure h (ru_assign (h.ev rfl)) rfl ?_; intro f h
  refine s_nil ?_
  refine hK3 _ _ ?_
  refine c_seq fun K4 hK4 => ?_
  refine c_seq fun K5 hK5 => ?_
  refine c_region ?_
  refine s_load_row 1 h s row46 rfl rfl (ndArr_size _ _ _ _) rfl ?_; intro f h
  refine s_call h s fnc24 (known_any (getL L no).1 (getL L no).2.1 (getL L no).2.2 _ ((rd_get hO.2 no).1.keep s.ext) ((rd_get hO.2 no).2.keep s.ext) (by omega) (by omega)) rfl rfl ?_; intro f w1 v16 hT hE h sq; replace s := s.sl_new hE hT
  refine s_len_sl 0 h s Try.underlying40 rfl rfl rfl ?_; intro f h
  refine s_pure h (ru_move (h.ev rfl)) rfl ?_; intro f h
  refine s_nil ?_
  refine hK5 _ _ ?_
  refine wpIn_block ?_
  refine wpIn_loop_ghost (fun nn aa ww => ∃ k : Nat, ∃ vb : Value, Sl 56 aa [(0, .agg #[vo]), (1, .int .i64 no), (2, idV x), (3, .pointer (some ⟨b3, 0, none⟩)), (5, .pointer (some ⟨b5, 0, none⟩)), (6, .pointer (some ⟨b6, 0, none⟩)), (7, .pointer (some ⟨b7, 0, none⟩)), (8, vb), (16, v16), (17, .int .i64 ((knownN (getL L no).1).length : Int)), (18, .int .i64 (k : Int))] ∧ St w [.sl v16 30 33 (knownN (getL L no).1).length (mbCells (knownN (getL L no).1)), .sl vb 3 1 (dwnK (memL L) (getL L no).1 k).length ((dwnK (memL L) (getL L no).1 k).map (Value.int .i64)), .blk b7 (.cells (ndArr (getL L no).1.me (getL L no).1.pr (getL L no).2.1 (getL L no).2.2) 46), .blk b6 (.cells (nnArr zMb false) 64), .blk b5 (.cells (idArr x) 26), .blk b3 (.cells (#[vo]) 24)] ww ∧ nn = (knownN (getL L no).1).length - k ∧ k ≤ (knownN (getL L no).1).length) ((knownN (getL L no).1).length - (0)) ⟨0, v14, h.only ⟨rfl, rfl, rfl, rfl, rfl, rfl, rfl, rfl, rfl, rfl, slot_int rfl (by omega), trivial⟩, s.as ⟨rfl, rfl, rfl, rfl, rfl, rfl, trivial⟩, rfl, Nat.zero_le _⟩ ?_
  rintro _ f w1 ⟨k, vb, h, s, hnn, hp0⟩
  refine c_seq fun K6 hK6 => ?_
  refine c_region ?_
  refine s_pure h (ru_lss (h.ev rfl) (h.ev rfl)) rfl ?_; intro f h
  refine s_nil ?_
  refine hK6 _ _ ?_
  refine c_seq fun K7 hK7 => ?_
  refine c_cond h rfl (fun hc => ?_) (fun hc => ?_)
  · replace hc := of_decide_eq_true hc
    refine wpIn_skip ?_
    refine hK7 _ _ ?_
    refine c_seq fun K8 hK8 => ?_
    refine wpIn_block ?_
    refine c_seq fun K9 hK9 => ?_
    refine c_region ?_
    have hkl : k < (knownN (getL L no).1).length := by omega
    refine s_pure h (ru_ixz (RdZ.of_own (s.getSl 0 rfl)) (k) Try.underlying40 szo30 (h.ev rfl) (h.ev rfl) (by omega) (by omega)) rfl ?_; intro f h
    refine s_load_at ((RdZ.of_own (s.getSl 0 rfl)).el (k) (by omega) (by decide) (D := mbArr ((knownN (getL L no).1).getD k zMb)) (mb_elD (knownN (getL L no).1) k hkl)) h row30 rfl (mbArr_size _) rfl ?_; intro f h
    refine s_alloc (mbArr zMb) h s zero30 rfl rfl ?_; intro f w1 b10 h s
    refine s_store_row 0 h s row30 rfl rfl rfl (mbArr_size _) (mbArr_size _) (mbArr_ones _) ?_; intro w1 s
    refine s_nil ?_
    refine hK9 _ _ ?_
    refine c_seq fun K10 hK10 => ?_
    cases l1 : (livesB (memL L) ((knownN (getL L no).1).getD k zMb).1 : Bool)
    · skip
      refine c_region ?_
      refine s_load_row 6 h s row24 rfl rfl (rfl) rfl ?_; intro f h
      refine s_pure h (ru_field fld30_0 (h.ev rfl)) rfl ?_; intro f h
      refine s_load_at1 (cell_of_has (Has.of_own s 0 rfl) 0 (mbArr_no _)) h one3 rfl rfl ?_; intro f h
      refine s_call h s fnc27 (ret_val (.bool false) (lives_any L vo ((knownN (getL L no).1).getD k zMb).1 _ (hO.keep s.ext) hL) (congrArg Value.bool l1)) rfl rfl ?_; intro f w1 v9 hT hE h s; obtain rfl := hT
      refine s_pure h (ru_val (.bool true) (ru_not (h.ev rfl)) rfl) rfl ?_; intro f h
      refine s_nil ?_
      refine hK10 _ _ ?_
      refine wpIn_cond_true (h.ev rfl) ?_
      refine c_region ?_
      refine s_pure h (ru_move (h.ev rfl)) rfl ?_; intro f h
      refine s_pure h (ru_field fld30_0 (h.ev rfl)) rfl ?_; intro f h
      refine s_load_at1 (cell_of_has (Has.of_own s 0 rfl) 0 (mbArr_no _)) h one3 rfl rfl ?_; intro f h
      refine s_bslice (vs := [.int .i64 ((knownN (getL L no).1).getD k zMb).1]) [.tmp 29] h s Try.underlying28 elm3 rfl rfl (by simp [Value.cells]) rfl rfl rfl ?_; intro f w1 v30 h s
      refine s_append 3 0 h s Try.underlying28 elm3 rfl rfl rfl rfl (by decide) (by simp [Value.oneCell', Value.cells]) (by have h9 := dwnK_le (memL L) (getL L no).1 k; unfold maxLen; omega) (by have h9 := dwnK_le (memL L) (getL L no).1 k; omega) rfl ?_; intro f w1 v31 h s
      replace s := s.pick _ (List.sublist_cons_self _ _)
      replace s := s.resl (m := (dwnK (memL L) (getL L no).1 (k + 1)).length) (ys := List.map (Value.int .i64) (dwnK (memL L) (getL L no).1 (k + 1))) 2 rfl (by rw [dwnK_n hkl l1, List.length_append]; rfl) (by rw [dwnK_n hkl l1, List.map_append]; simp [Value.cells])
      refine s_pure h (ru_assign (h.ev rfl)) rfl ?_; intro f h
      refine s_nil ?_
      refine b_norm ?_
      refine hK8 _ _ ?_
      refine c_region ?_
      refine s_pure h (ru_add (h.ev rfl) (h.ev rfl) (by omega)) rfl ?_; intro f h
      refine s_pure h (ru_move (h.ev rfl)) rfl ?_; intro f h
      refine s_nil ?_
      refine t_norm ?_
      exact ⟨_, by omega, ⟨k + 1, v31, h.only ⟨rfl, rfl, rfl, rfl, rfl, rfl, rfl, rfl, rfl, rfl, slot_int rfl (by omega), trivial⟩, St.as (s.pick _ (List.sublist_append_right [_] _)) ⟨rfl, rfl, rfl, rfl, rfl, rfl, trivial⟩, rfl, by omega⟩⟩
    · skip
      refine c_region ?_
      refine s_load_row 6 h s row24 rfl rfl (rfl) rfl ?_; intro f h
      refine s_pure h (ru_field fld30_0 (h.ev rfl)) rfl ?_; intro f h
      refine s_load_at1 (cell_of_has (Has.of_own s 0 rfl) 0 (mbArr_no _)) h one3 rfl rfl ?_; intro f h
      refine s_call h s fnc27 (ret_val (.bool true) (lives_any L vo ((knownN (getL L no).1).getD k zMb).1 _ (hO.keep s.ext) hL) (congrArg Value.bool l1)) rfl rfl ?_; intro f w1 v9 hT hE h s; obtain rfl := hT
      refine s_pure h (ru_val (.bool false) (ru_not (h.ev rfl)) rfl) rfl ?_; intro f h
      refine s_nil ?_
      refine hK10 _ _ ?_
      refine wpIn_cond_false (h.ev rfl) ?_
      refine wpIn_skip ?_
      refine b_norm ?_
      refine hK8 _ _ ?_
      refine c_region ?_
      refine s_pure h (ru_add (h.ev rfl) (h.ev rfl) (by omega)) rfl ?_; intro f h
      refine s_pure h (ru_move (h.ev rfl)) rfl ?_; intro f h
      refine s_nil ?_
      refine t_norm ?_
      exact ⟨_, by omega, ⟨k + 1, vb, h.only ⟨rfl, rfl, rfl, rfl, rfl, rfl, rfl, rfl, rfl, rfl, slot_int rfl (by omega), trivial⟩, St.as (s.pick _ (List.sublist_append_right [_] _)) ⟨rfl, sl_eq (by rw [dwnK_y hkl l1]) (by rw [dwnK_y hkl l1]), rfl, rfl, rfl, rfl, trivial⟩, rfl, by omega⟩⟩
  · replace hc := of_decide_eq_false hc
    refine wpIn_exit ?_
    refine t_exit ?_
    refine t_exit ?_
    refine b_exit ?_
    refine hK4 _ _ ?_
    refine c_seq fun K11 hK11 => ?_
    refine c_region ?_
    obtain rfl : k = (knownN (getL L no).1).length := by omega
    rw [dwnK_end] at s
    have hdw : (dwn (memL L) (getL L no).1).length ≤ 700 := by have h9 := dwnK_le (memL L) (getL L no).1 (knownN (getL L no).1).length; rw [dwnK_end] at h9; omega
    refine s_load_row 2 h s row46 rfl rfl (ndArr_size _ _ _ _) rfl ?_; intro f h
    refine s_pure h (ru_move (h.ev rfl)) rfl ?_; intro f h
    refine s_call h s fnc52 (rdrop_any (getL L no).1 (getL L no).2.1 (getL L no).2.2 (dwn (memL L) (getL L no).1) vb _ ((rd_get hO.2 no).1.keep s.ext) ((rd_get hO.2 no).2.keep s.ext) (by omega) (by omega) (RdZ.of_own (s.getSl 1 rfl)) (by omega)) rfl rfl ?_; rintro f w1 v35 ⟨du, dv, rfl, hS⟩ hE h sq; replace hS : St _ [.sl du 30 33 (td1 (memL L) (getL L no).1).sc.length (mbCells (td1 (memL L) (getL L no).1).sc), .sl dv 30 33 (td1 (memL L) (getL L no).1).fg.length (mbCells (td1 (memL L) (getL L no).1).fg)] _ := hS; replace s := s.add hS; clear hS
    have hT1 : RN (td1 (memL L) (getL L no).1) := td1_rn (l := memL L) hgr
    have hT1l := hT1.len
    have hT1f := hT1.fg.1
    refine s_store_row 4 h s row46 rfl rfl rfl (ndArr_size _ _ _ _) (ndArr_size _ _ _ _) (ndArr_ones (own_one (s.getSl 0 rfl)) (own_one (s.getSl 1 rfl))) ?_; intro w1 s
    refine s_nil ?_
    refine hK11 _ _ ?_
    refine c_seq fun K12 hK12 => ?_
    refine c_seq fun K13 hK13 => ?_
    cases a0 : (decide ((td1 (memL L) (getL L no).1).pr = nMb) : Bool)
    · skip
      cases a1 : (inB x (td1 (memL L) (getL L no).1).pr.2 (td1 (memL L) (getL L no).1).me.2 : Bool)
      · skip
        refine c_region ?_
        refine s_pure h (ru_field fld46_1 (h.ev rfl)) rfl ?_; intro f h
        refine s_load_at (Has.subL (Has.of_own s 4 rfl) 33 33 (D := mbArr (td1 (memL L) (getL L no).1).pr) (ndArr_pr _ _ _ _)) h row30 rfl (mbArr_size _) rfl ?_; intro f h
        refine s_call h s fnc49 (ret_val (.bool false) (rnone_any (td1 (memL L) (getL L no).1).pr _) (congrArg Value.bool a0)) rfl rfl ?_; intro f w1 v9 hT hE h s; obtain rfl := hT
        refine s_pure h (ru_val (.bool true) (ru_not (h.ev rfl)) rfl) rfl ?_; intro f h
        refine s_pure h (ru_move (h.ev rfl)) rfl ?_; intro f h
        refine s_on h rfl rfl rfl ?_
        refine s_load_row 6 h s row26 rfl rfl (by first | exact idArr_size _ | exact bytesF_size _ _) rfl ?_; intro f h
        refine s_on h rfl rfl rfl ?_
        refine s_pure h (ru_field fld46_1 (h.ev rfl)) rfl ?_; intro f h
        refine s_on h rfl rfl rfl ?_
        refine s_pure h (ru_field fld30_1 (h.ev rfl)) rfl ?_; intro f h
        refine s_on h rfl rfl rfl ?_
        refine s_load_at (Has.subL (Has.of_own s 4 rfl) 34 32 (D := idArr (td1 (memL L) (getL L no).1).pr.2) (ndArr_pid _ _ _ _)) h row26 rfl (by first | exact idArr_size _ | exact bytesF_size _ _) rfl ?_; intro f h
        refine s_on h rfl rfl rfl ?_
        refine s_pure h (ru_field fld46_0 (h.ev rfl)) rfl ?_; intro f h
        refine s_on h rfl rfl rfl ?_
        refine s_pure h (ru_field fld30_1 (h.ev rfl)) rfl ?_; intro f h
        refine s_on h rfl rfl rfl ?_
        refine s_load_at (Has.subL (Has.of_own s 4 rfl) 1 32 (D := idArr (td1 (memL L) (getL L no).1).me.2) (ndArr_id _ _ _ _)) h row26 rfl (by first | exact idArr_size _ | exact bytesF_size _ _) rfl ?_; intro f h
        refine s_on h rfl rfl rfl ?_
        refine s_call h s fnc53 (ret_val (.bool false) (rin_any x (td1 (memL L) (getL L no).1).pr.2 (td1 (memL L) (getL L no).1).me.2 _) (congrArg Value.bool a1)) rfl rfl ?_; intro f w1 v9 hT hE h s; obtain rfl := hT
        refine s_pure h (ru_pick_t (h.ev rfl) (h.ev rfl)) rfl ?_; intro f h
        refine s_nil ?_
        refine hK13 _ _ ?_
        refine wpIn_cond_false (h.ev rfl) ?_
        refine wpIn_skip ?_
        refine hK12 _ _ ?_
        refine c_seq fun K14 hK14 => ?_
        refine c_region ?_
        refine s_load_row 4 h s row46 rfl rfl (ndArr_size _ _ _ _) rfl ?_; intro f h
        refine s_load_row 6 h s row26 rfl rfl (by first | exact idArr_size _ | exact bytesF_size _ _) rfl ?_; intro f h
        refine s_call h s fnc54 (rnext9_any (td1 (memL L) (getL L no).1) du dv x _ (RdZ.of_own (s.getSl 0 rfl)) (RdZ.of_own (s.getSl 1 rfl)) (by omega) (by omega) (rn_iff.2 hT1)) rfl rfl ?_; intro f w1 v9 hT hE h s; obtain rfl := hT
        refine s_store_row 5 h s row64 rfl rfl rfl (nnArr_size _ _) (nnArr_size _ _) (nnArr_ones _ _) ?_; intro w1 s
        refine s_nil ?_
        refine hK14 _ _ ?_
        refine wpIn_ret ?_
        exact e_row 5 rfl h s row64 rfl rfl (nnArr_size _ _) (by have h9 : anO (memL L) (getL L no).1 x = false := (ao_1 a0).trans a1; show _ = _; rw [(an_nx h9).1, (an_nx h9).2])
      · skip
        refine c_region ?_
        refine s_pure h (ru_field fld46_1 (h.ev rfl)) rfl ?_; intro f h
        refine s_load_at (Has.subL (Has.of_own s 4 rfl) 33 33 (D := mbArr (td1 (memL L) (getL L no).1).pr) (ndArr_pr _ _ _ _)) h row30 rfl (mbArr_size _) rfl ?_; intro f h
        refine s_call h s fnc49 (ret_val (.bool false) (rnone_any (td1 (memL L) (getL L no).1).pr _) (congrArg Value.bool a0)) rfl rfl ?_; intro f w1 v9 hT hE h s; obtain rfl := hT
        refine s_pure h (ru_val (.bool true) (ru_not (h.ev rfl)) rfl) rfl ?_; intro f h
        refine s_pure h (ru_move (h.ev rfl)) rfl ?_; intro f h
        refine s_on h rfl rfl rfl ?_
        refine s_load_row 6 h s row26 rfl rfl (by first | exact idArr_size _ | exact bytesF_size _ _) rfl ?_; intro f h
        refine s_on h rfl rfl rfl ?_
        refine s_pure h (ru_field fld46_1 (h.ev rfl)) rfl ?_; intro f h
        refine s_on h rfl rfl rfl ?_
        refine s_pure h (ru_field fld30_1 (h.ev rfl)) rfl ?_; intro f h
        refine s_on h rfl rfl rfl ?_
        refine s_load_at (Has.subL (Has.of_own s 4 rfl) 34 32 (D := idArr (td1 (memL L) (getL L no).1).pr.2) (ndArr_pid _ _ _ _)) h row26 rfl (by first | exact idArr_size _ | exact bytesF_size _ _) rfl ?_; intro f h
        refine s_on h rfl rfl rfl ?_
        refine s_pure h (ru_field fld46_0 (h.ev rfl)) rfl ?_; intro f h
        refine s_on h rfl rfl rfl ?_
        refine s_pure h (ru_field fld30_1 (h.ev rfl)) rfl ?_; intro f h
        refine s_on h rfl rfl rfl ?_
        refine s_load_at (Has.subL (Has.of_own s 4 rfl) 1 32 (D := idArr (td1 (memL L) (getL L no).1).me.2) (ndArr_id _ _ _ _)) h row26 rfl (by first | exact idArr_size _ | exact bytesF_size _ _) rfl ?_; intro f h
        refine s_on h rfl rfl rfl ?_
        refine s_call h s fnc53 (ret_val (.bool true) (rin_any x (td1 (memL L) (getL L no).1).pr.2 (td1 (memL L) (getL L no).1).me.2 _) (congrArg Value.bool a1)) rfl rfl ?_; intro f w1 v9 hT hE h s; obtain rfl := hT
        refine s_pure h (ru_pick_t (h.ev rfl) (h.ev rfl)) rfl ?_; intro f h
        refine s_nil ?_
        refine hK13 _ _ ?_
        refine wpIn_cond_true (h.ev rfl) ?_
        refine c_seq fun K15 hK15 => ?_
        refine c_region ?_
        refine s_pure h (ru_field fld46_0 (h.ev rfl)) rfl ?_; intro f h
        refine s_load_at (Has.subL (Has.of_own s 4 rfl) 0 33 (D := mbArr (td1 (memL L) (getL L no).1).me) (ndArr_me _ _ _ _)) h row30 rfl (mbArr_size _) rfl ?_; intro f h
        refine s_pure h (ru_build_nn2 sttK (h.ev rfl) (h.ev rfl)) rfl ?_; intro f h
        refine s_store_row 5 h s row64 rfl rfl rfl (nnArr_size _ _) (nnArr_size _ _) (nnArr_ones _ _) ?_; intro w1 s
        refine s_nil ?_
        refine hK15 _ _ ?_
        refine wpIn_ret ?_
        refine t_ret ?_
        exact e_row 5 rfl h s row64 rfl rfl (nnArr_size _ _) (by have h9 := (ao_1 a0).trans a1; show _ = _; rw [(an_own h9).1, (an_own h9).2]; rfl)
    · skip
      refine c_region ?_
      refine s_pure h (ru_field fld46_1 (h.ev rfl)) rfl ?_; intro f h
      refine s_load_at (Has.subL (Has.of_own s 4 rfl) 33 33 (D := mbArr (td1 (memL L) (getL L no).1).pr) (ndArr_pr _ _ _ _)) h row30 rfl (mbArr_size _) rfl ?_; intro f h
      refine s_call h s fnc49 (ret_val (.bool true) (rnone_any (td1 (memL L) (getL L no).1).pr _) (congrArg Value.bool a0)) rfl rfl ?_; intro f w1 v9 hT hE h s; obtain rfl := hT
      refine s_pure h (ru_val (.bool false) (ru_not (h.ev rfl)) rfl) rfl ?_; intro f h
      refine s_pure h (ru_move (h.ev rfl)) rfl ?_; intro f h
      refine s_off (b := true) h rfl rfl rfl rfl ?_; intro f h
      refine s_off (b := true) h rfl rfl rfl rfl ?_; intro f h
      refine s_off (b := true) h rfl rfl rfl rfl ?_; intro f h
      refine s_off (b := true) h rfl rfl rfl rfl ?_; intro f h
      refine s_off (b := true) h rfl rfl rfl rfl ?_; intro f h
      refine s_off (b := true) h rfl rfl rfl rfl ?_; intro f h
      refine s_off (b := true) h rfl rfl rfl rfl ?_; intro f h
      refine s_off (b := true) h rfl rfl rfl rfl ?_; intro f h
      refine s_pure h (ru_pick_f (h.ev rfl) (h.ev rfl)) rfl ?_; intro f h
      refine s_nil ?_
      refine hK13 _ _ ?_
      refine wpIn_cond_false (h.ev rfl) ?_
      refine wpIn_skip ?_
      refine hK12 _ _ ?_
      refine c_seq fun K16 hK16 => ?_
      refine c_region ?_
      refine s_load_row 4 h s row46 rfl rfl (ndArr_size _ _ _ _) rfl ?_; intro f h
      refine s_load_row 6 h s row26 rfl rfl (by first | exact idArr_size _ | exact bytesF_size _ _) rfl ?_; intro f h
      refine s_call h s fnc54 (rnext9_any (td1 (memL L) (getL L no).1) du dv x _ (RdZ.of_own (s.getSl 0 rfl)) (RdZ.of_own (s.getSl 1 rfl)) (by omega) (by omega) (rn_iff.2 hT1)) rfl rfl ?_; intro f w1 v9 hT hE h s; obtain rfl := hT
      refine s_store_row 5 h s row64 rfl rfl rfl (nnArr_size _ _) (nnArr_size _ _) (nnArr_ones _ _) ?_; intro w1 s
      refine s_nil ?_
      refine hK16 _ _ ?_
      refine wpIn_ret ?_
      exact e_row 5 rfl h s row64 rfl rfl (nnArr_size _ _) (by have h9 : anO (memL L) (getL L no).1 x = false := ao_0 a0; show _ = _; rw [(an_nx h9).1, (an_nx h9).2])
end Go.Proofs.Ytndbijifgalpbaa
