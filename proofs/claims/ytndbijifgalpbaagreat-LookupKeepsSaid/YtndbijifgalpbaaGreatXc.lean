/- What Keeps of the reference of lookup answers. -/
import Derived.Test.YtndbijifgalpbaaGreatVa
import Derived.Test.YtndbijifgalpbaaGreatVb
set_option linter.unusedVariables false
set_option linter.unusedSimpArgs false
set_option linter.unusedSectionVars false
namespace Go.Proofs.YtndbijifgalpbaaGreat
open Go.RowKit
theorem rowner_any (l : List Mb) (vh : Value) (x9 : Id) (w : World) (hR : RdZ w vh 33 l.length (mbCells l)) (hln : l.length ≤ 1000) (hn : ∀ m ∈ l, 0 ≤ m.1) : Calls Tryz.prog 23 [vh, idV x9].toArray w (Ret w (is (.agg (mbArr (rownK l x9 l.length))))) := by
  refine c_enter Tryz.func23 rfl Tryz.ntmps23 rfl [(0, vh), (1, idV x9)] (by simp) fun f h => ?_
  have s := St.start w
  refine c_seq fun K1 hK1 => ?_
  refine c_region ?_
  refine s_box (idArr x9) h s rfl rfl rfl ?_; intro f w1 b3 h s
  refine s_alloc (mbArr zMb) h s zero39 rfl rfl ?_; intro f w1 b4 h s
  refine s_nil ?_
  refine hK1 _ _ ?_
  refine c_seq fun K2 hK2 => ?_
  refine c_region ?_
  refine s_pure h (ru_build_mb1 sttM (h.ev rfl)) rfl ?_; intro f h
  refine s_alloc (mbArr zMb) h s zero39 rfl rfl ?_; intro f w1 b5 h s
  refine s_store_row 0 h s row39 rfl rfl rfl (mbArr_size _) (mbArr_size _) (mbArr_ones _) ?_; intro w1 s
  refine s_nil ?_
  refine hK2 _ _ ?_
  refine c_seq fun K3 hK3 => ?_
  refine c_seq fun K4 hK4 => ?_
  refine c_region ?_
  refine s_pure h (ru_move (h.ev rfl)) rfl ?_; intro f h
  refine s_pure h (ru_lenZ (hR.keep s.ext) Tryz.underlying28 (h.ev rfl)) rfl ?_; intro f h
  refine s_pure h (ru_move (h.ev rfl)) rfl ?_; intro f h
  refine s_nil ?_
  refine hK4 _ _ ?_
  refine wpIn_block ?_
  refine wpIn_loop_ghost (fun nn aa ww => ∃ k : Nat, Sl 33 aa [(0, vh), (1, idV x9), (3, .pointer (some ⟨b3, 0, none⟩)), (4, .pointer (some ⟨b4, 0, none⟩)), (5, .pointer (some ⟨b5, 0, none⟩)), (9, vh), (10, .int .i64 (l.length : Int)), (11, .int .i64 (k : Int))] ∧ St w [.blk b5 (.cells (mbArr (rownK l x9 k)) 39), .blk b4 (.cells (mbArr zMb) 39), .blk b3 (.cells (idArr x9) 26)] ww ∧ nn = l.length - k ∧ k ≤ l.length) (l.length - (0)) ⟨0, h.only ⟨rfl, rfl, rfl, rfl, rfl, rfl, rfl, slot_int rfl (by omega), trivial⟩, s.as ⟨rfl, rfl, rfl, trivial⟩, rfl, Nat.zero_le _⟩ ?_
  rintro _ f w1 ⟨k, h, s, hnn, hp0⟩
  refine c_seq fun K5 hK5 => ?_
  refine c_region ?_
  refine s_pure h (ru_lss (h.ev rfl) (h.ev rfl)) rfl ?_; intro f h
  refine s_nil ?_
  refine hK5 _ _ ?_
  refine c_seq fun K6 hK6 => ?_
  refine c_cond h rfl (fun hc => ?_) (fun hc => ?_)
  · replace hc := of_decide_eq_true hc
    refine wpIn_skip ?_
    refine hK6 _ _ ?_
    refine c_seq fun K7 hK7 => ?_
    refine wpIn_block ?_
    refine c_seq fun K8 hK8 => ?_
    refine c_region ?_
    have hkl : k < l.length := by omega
    refine s_pure h (ru_ixz (hR.keep s.ext) (k) Tryz.underlying28 szo39 (h.ev rfl) (h.ev rfl) (by omega) (by omega)) rfl ?_; intro f h
    refine s_load_at ((hR.keep s.ext).el (k) (by omega) (by decide) (D := mbArr (l.getD k zMb)) (mb_elD l k hkl)) h row39 rfl (mbArr_size _) rfl ?_; intro f h
    refine s_alloc (mbArr zMb) h s zero39 rfl rfl ?_; intro f w1 b7 h s
    refine s_store_row 0 h s row39 rfl rfl rfl (mbArr_size _) (mbArr_size _) (mbArr_ones _) ?_; intro w1 s
    refine s_nil ?_
    refine hK8 _ _ ?_
    refine c_seq fun K9 hK9 => ?_
    cases h0 : (decide ((rownK l x9 k).1 < 0) : Bool)
    · skip
      refine c_walkN 15 [[], [0], [0, 1], [0, 1, 2], [0, 1, 2, 3], [0, 1, 2, 3], [0, 1, 2, 3, 5], [0, 1, 2, 3, 4, 5, 6], [0, 1, 2, 3], [0, 1, 2, 3], [0, 1, 2, 3, 9], [0, 1, 2, 3, 4, 5, 6, 7, 8, 9, 10], [0, 1, 2, 3, 4, 5, 6, 7, 8, 9, 10, 11], [0, 1, 2, 3, 4, 5, 6, 7, 8, 9, 10, 11, 12], [0, 1, 2, 3, 4, 5, 6, 7, 8, 9, 10, 11, 12, 13]] h (by kernel_rfl) (by kernel_rfl) (by kernel_rfl) ?_
      refine w_pure h (ru_field fld39_0 (h.ev rfl)) rfl ?_; intro f h
      refine w_load_at1 (cell_of_has (Has.of_own s 1 rfl) 0 (mbArr_no _)) h one3 rfl rfl ?_; intro f h
      refine w_pure h (ru_val (.bool false) (ru_lss (h.ev rfl) (h.ev rfl)) (congrArg Value.bool h0)) rfl ?_; intro f h
      refine w_pure h (ru_move (h.ev rfl)) rfl ?_; intro f h
      refine w_on h rfl rfl rfl ?_
      refine w_load_row 3 h s row26 rfl rfl (by first | exact idArr_size _ | exact bytesF_size _ _) rfl ?_; intro f h
      refine w_on h rfl rfl rfl ?_
      refine w_pure h (ru_field fld39_1 (h.ev rfl)) rfl ?_; intro f h
      refine w_on h rfl rfl rfl ?_
      refine w_load_at (Has.subL (Has.of_own s 0 rfl) 1 32 (D := idArr (_)) (mbArr_id _)) h row26 rfl (by first | exact idArr_size _ | exact bytesF_size _ _) rfl ?_; intro f h
      refine w_on h rfl rfl rfl ?_
      refine w_call h fnc48 (fun w9 hE9 => rfar_any _ _ w9) rfl rfl ?_; intro f h
      refine w_on h rfl rfl rfl ?_
      refine w_load_row 3 h s row26 rfl rfl (by first | exact idArr_size _ | exact bytesF_size _ _) rfl ?_; intro f h
      refine w_on h rfl rfl rfl ?_
      refine w_pure h (ru_field fld39_1 (h.ev rfl)) rfl ?_; intro f h
      refine w_on h rfl rfl rfl ?_
      refine w_load_at (Has.subL (Has.of_own s 1 rfl) 1 32 (D := idArr (_)) (mbArr_id _)) h row26 rfl (by first | exact idArr_size _ | exact bytesF_size _ _) rfl ?_; intro f h
      refine w_on h rfl rfl rfl ?_
      refine w_call h fnc48 (fun w9 hE9 => rfar_any _ _ w9) rfl rfl ?_; intro f h
      refine w_on h rfl rfl rfl ?_
      refine w_call h fnc47 (fun w9 hE9 => rcompare_any _ _ w9) rfl rfl ?_; intro f h
      refine w_on h rfl rfl rfl ?_
      refine w_pure h (ru_val (.bool (decide (fd x9 (l.getD k zMb).2 < fd x9 (rownK l x9 k).2))) (ru_lss (h.ev rfl) (h.ev rfl)) (congrArg Value.bool (cmp_neg _ _ _))) rfl ?_; intro f h
      refine w_pure h (ru_pick_f (h.ev rfl) (h.ev rfl)) rfl ?_; intro f h
      refine w_nil s fun w1 s => ?_
      refine s_nil ?_
      refine hK9 _ _ ?_
      refine c_cond h rfl (fun hc => ?_) (fun hc => ?_)
      · replace hc := of_decide_eq_true hc
        refine c_region ?_
        refine s_load_row 0 h s row39 rfl rfl (mbArr_size _) rfl ?_; intro f h
        refine s_store_row 1 h s row39 rfl rfl rfl (mbArr_size _) (mbArr_size _) (mbArr_ones _) ?_; intro w1 s
        refine s_nil ?_
        refine b_norm ?_
        refine hK7 _ _ ?_
        refine c_region ?_
        refine s_pure h (ru_add (h.ev rfl) (h.ev rfl) (by omega)) rfl ?_; intro f h
        refine s_pure h (ru_move (h.ev rfl)) rfl ?_; intro f h
        refine s_nil ?_
        refine t_norm ?_
        exact ⟨_, by omega, ⟨k + 1, h.only ⟨rfl, rfl, rfl, rfl, rfl, rfl, rfl, slot_int rfl (by omega), trivial⟩, St.as (s.pick _ (List.sublist_append_right [_] _)) ⟨cells_eq (congrArg mbArr (rown_yes (of_decide_eq_false h0) hc).symm), rfl, rfl, trivial⟩, rfl, by omega⟩⟩
      · replace hc := of_decide_eq_false hc
        refine wpIn_skip ?_
        refine b_norm ?_
        refine hK7 _ _ ?_
        refine c_region ?_
        refine s_pure h (ru_add (h.ev rfl) (h.ev rfl) (by omega)) rfl ?_; intro f h
        refine s_pure h (ru_move (h.ev rfl)) rfl ?_; intro f h
        refine s_nil ?_
        refine t_norm ?_
        exact ⟨_, by omega, ⟨k + 1, h.only ⟨rfl, rfl, rfl, rfl, rfl, rfl, rfl, slot_int rfl (by omega), trivial⟩, St.as (s.pick _ (List.sublist_append_right [_] _)) ⟨cells_eq (congrArg mbArr (rown_no (of_decide_eq_false h0) hc).symm), rfl, rfl, trivial⟩, rfl, by omega⟩⟩
    · skip
      refine c_walkN 15 [[], [0], [0, 1], [0, 1, 2], [0, 1, 2, 3], [0, 1, 2, 3], [0, 1, 2, 3, 5], [0, 1, 2, 3, 4, 5, 6], [0, 1, 2, 3], [0, 1, 2, 3], [0, 1, 2, 3, 9], [0, 1, 2, 3, 4, 5, 6, 7, 8, 9, 10], [0, 1, 2, 3, 4, 5, 6, 7, 8, 9, 10, 11], [0, 1, 2, 3, 4, 5, 6, 7, 8, 9, 10, 11, 12], [0, 1, 2, 3, 4, 5, 6, 7, 8, 9, 10, 11, 12, 13]] h (by kernel_rfl) (by kernel_rfl) (by kernel_rfl) ?_
      refine w_pure h (ru_field fld39_0 (h.ev rfl)) rfl ?_; intro f h
      refine w_load_at1 (cell_of_has (Has.of_own s 1 rfl) 0 (mbArr_no _)) h one3 rfl rfl ?_; intro f h
      refine w_pure h (ru_val (.bool true) (ru_lss (h.ev rfl) (h.ev rfl)) (congrArg Value.bool h0)) rfl ?_; intro f h
      refine w_pure h (ru_move (h.ev rfl)) rfl ?_; intro f h
      refine w_off (b := false) h rfl rfl rfl rfl ?_; intro f h
      refine w_off (b := false) h rfl rfl rfl rfl ?_; intro f h
      refine w_off (b := false) h rfl rfl rfl rfl ?_; intro f h
      refine w_off (b := false) h rfl rfl rfl rfl ?_; intro f h
      refine w_off (b := false) h rfl rfl rfl rfl ?_; intro f h
      refine w_off (b := false) h rfl rfl rfl rfl ?_; intro f h
      refine w_off (b := false) h rfl rfl rfl rfl ?_; intro f h
      refine w_off (b := false) h rfl rfl rfl rfl ?_; intro f h
      refine w_off (b := false) h rfl rfl rfl rfl ?_; intro f h
      refine w_off (b := false) h rfl rfl rfl rfl ?_; intro f h
      refine w_pure h (ru_pick_t (h.ev rfl) (h.ev rfl)) rfl ?_; intro f h
      refine w_nil s fun w1 s => ?_
      refine s_nil ?_
      refine hK9 _ _ ?_
      refine wpIn_cond_true (h.ev rfl) ?_
      refine c_region ?_
      refine s_load_row 0 h s row39 rfl rfl (mbArr_size _) rfl ?_; intro f h
      refine s_store_row 1 h s row39 rfl rfl rfl (mbArr_size _) (mbArr_size _) (mbArr_ones _) ?_; intro w1 s
      refine s_nil ?_
      refine b_norm ?_
      refine hK7 _ _ ?_
      refine c_region ?_
      refine s_pure h (ru_add (h.ev rfl) (h.ev rfl) (by omega)) rfl ?_; intro f h
      refine s_pure h (ru_move (h.ev rfl)) rfl ?_; intro f h
      refine s_nil ?_
      refine t_norm ?_
      exact ⟨_, by omega, ⟨k + 1, h.only ⟨rfl, rfl, rfl, rfl, rfl, rfl, rfl, slot_int rfl (by omega), trivial⟩, St.as (s.pick _ (List.sublist_append_right [_] _)) ⟨cells_eq (congrArg mbArr (rown_neg hn hkl (of_decide_eq_true h0)).symm), rfl, rfl, trivial⟩, rfl, by omega⟩⟩
  · replace hc := of_decide_eq_false hc
    refine wpIn_exit ?_
    refine t_exit ?_
    refine t_exit ?_
    refine b_exit ?_
    refine hK3 _ _ ?_
    refine c_seq fun K10 hK10 => ?_
    refine c_region ?_
    refine s_load_row 0 h s row39 rfl rfl (mbArr_size _) rfl ?_; intro f h
    refine s_store_row 1 h s row39 rfl rfl rfl (mbArr_size _) (mbArr_size _) (mbArr_ones _) ?_; intro w1 s
    refine s_nil ?_
    refine hK10 _ _ ?_
    refine wpIn_ret ?_
    exact e_row 1 rfl h s row39 rfl rfl (mbArr_size _) ((by obtain rfl : k = l.length := (by omega); exact rfl))

theorem rnext_any (l : List Mb) (vh : Value) (m : Mb) (w : World) (hR : RdZ w vh 33 l.length (mbCells l)) (hln : l.length ≤ 1000) (hn : ∀ m ∈ l, 0 ≤ m.1) (h0 : 0 < l.length) : Calls Tryz.prog 49 [vh, .agg (mbArr m)].toArray w (Ret w (is (.agg (mbArr (nxtL l m))))) := by
  refine c_enter Tryz.func49 rfl Tryz.ntmps49 rfl [(0, vh), (1, .agg (mbArr m))] (by simp) fun f h => ?_
  have s := St.start w
  refine c_seq fun K1 hK1 => ?_
  refine c_region ?_
  refine s_box ((mbArr m)) h s rfl rfl rfl ?_; intro f w1 b3 h s
  refine s_alloc (mbArr zMb) h s zero39 rfl rfl ?_; intro f w1 b4 h s
  refine s_nil ?_
  refine hK1 _ _ ?_
  refine c_seq fun K2 hK2 => ?_
  refine c_walkN 6 [[], [], [1], [], [1, 2, 3], [0, 1, 2, 3, 4]] h (by kernel_rfl) (by kernel_rfl) (by kernel_rfl) ?_
  refine w_pure h (ru_move (h.ev rfl)) rfl ?_; intro f h
  refine w_pure h (ru_field fld39_1 (h.ev rfl)) rfl ?_; intro f h
  refine w_load_at (Has.subL (Has.of_own s 1 rfl) 1 32 (D := idArr (_)) (mbArr_id _)) h row26 rfl (by first | exact idArr_size _ | exact bytesF_size _ _) rfl ?_; intro f h
  refine w_call h fnc80 (fun w9 hE9 => power_any 0 (by omega) w9) rfl rfl ?_; intro f h
  refine w_call h fnc78 (fun w9 hE9 => add_any _ _ w9) rfl rfl ?_; intro f h
  refine w_call h fnc23 (fun w9 hE9 => rowner_any l vh (m.2 + powI 0) w9 (hR.keep (s.ext.trans hE9)) hln hn) rfl rfl ?_; intro f h
  refine w_nil s fun w1 s => ?_
  refine s_store_row 0 h s row39 rfl rfl rfl (mbArr_size _) (mbArr_size _) (mbArr_ones _) ?_; intro w1 s
  refine s_nil ?_
  refine hK2 _ _ ?_
  refine wpIn_ret ?_
  exact e_row 0 rfl h s row39 rfl rfl (mbArr_size _) (by show _ = _; rw [rown_end (by omega)] <;> rfl)

theorem rafter_any (l : List Mb) (vh : Value) (m : Mb) (many : Int) (n9 : Nat) (hn9 : n9 ≤ 1000) (hm9 : many = (n9 : Int)) (w : World) (hR : RdZ w vh 33 l.length (mbCells l)) (hln : l.length ≤ 1000) (hn : ∀ m ∈ l, 0 ≤ m.1) (hm : m ∈ l) : Calls Tryz.prog 24 [vh, .agg (mbArr m), .int .i64 many].toArray w (Ret w (fun v w' => Owns w' w.heap.size 39 33 v (folL l m n9).length (mbCells (folL l m n9)))) := by
  refine c_enter Tryz.func24 rfl Tryz.ntmps24 rfl [(0, vh), (1, .agg (mbArr m)), (2, .int .i64 many)] (by simp) fun f h => ?_
  have s := St.start w
  refine c_seq fun K1 hK1 => ?_
  refine c_region ?_
  refine s_box ((mbArr m)) h s rfl rfl rfl ?_; intro f w1 b4 h s
  refine s_pure h (ru_assign (h.ev rfl)) rfl ?_; intro f h
  refine s_nil ?_
  refine hK1 _ _ ?_
  refine c_seq fun K2 hK2 => ?_
  refine c_region ?_
  refine s_bslice (vs := []) [] h s Tryz.underlying28 elm39 rfl rfl (by simp) rfl rfl rfl ?_; intro f w1 v9 h s
  refine s_pure h (ru_assign (h.ev rfl)) rfl ?_; intro f h
  refine s_nil ?_
  refine hK2 _ _ ?_
  refine c_seq fun K3 hK3 => ?_
  refine c_seq fun K4 hK4 => ?_
  refine c_region ?_
  refine s_pure h (ru_assign (h.ev rfl)) rfl ?_; intro f h
  refine s_nil ?_
  refine hK4 _ _ ?_
  refine wpIn_block ?_
  refine wpIn_loop_ghost (fun nn aa ww => ∃ k : Nat, ∃ vl : Value, Sl 23 aa [(0, vh), (1, .agg (mbArr m)), (2, .int .i64 many), (4, .pointer (some ⟨b4, 0, none⟩)), (7, vl), (8, .int .i64 (k : Int))] ∧ St w [.sl vl 39 33 (folL l m k).length (mbCells (folL l m k)), .blk b4 (.cells (mbArr (nxtK l m k)) 39)] ww ∧ nn = n9 - k ∧ k ≤ n9) (n9 - (0)) ⟨0, v9, h.only ⟨rfl, rfl, rfl, rfl, rfl, rfl, trivial⟩, s.as ⟨rfl, rfl, trivial⟩, rfl, Nat.zero_le _⟩ ?_
  rintro _ f w1 ⟨k, vl, h, s, hnn, hp0⟩
  refine c_seq fun K5 hK5 => ?_
  refine c_seq fun K6 hK6 => ?_
  refine c_region ?_
  refine s_pure h (ru_move (h.ev rfl)) rfl ?_; intro f h
  refine s_pure h (ru_move (h.ev rfl)) rfl ?_; intro f h
  refine s_pure h (ru_lss (h.ev rfl) (h.ev rfl)) rfl ?_; intro f h
  refine s_nil ?_
  refine hK6 _ _ ?_
  refine c_cond h rfl (fun hc => ?_) (fun hc => ?_)
  · replace hc := of_decide_eq_true hc
    refine wpIn_skip ?_
    refine hK5 _ _ ?_
    refine c_seq fun K7 hK7 => ?_
    refine wpIn_block ?_
    refine c_seq fun K8 hK8 => ?_
    refine c_region ?_
    refine s_pure h (ru_move (h.ev rfl)) rfl ?_; intro f h
    refine s_load_row 1 h s row39 rfl rfl (mbArr_size _) rfl ?_; intro f h
    refine s_call h s fnc49 (rnext_any l vh (nxtK l m k) _ (hR.keep s.ext) hln hn (mem_pos hm)) rfl rfl ?_; intro f w1 v9 hT hE h s; obtain rfl := hT
    refine s_store_row 1 h s row39 rfl rfl rfl (mbArr_size _) (mbArr_size _) (mbArr_ones _) ?_; intro w1 s
    refine s_nil ?_
    refine hK8 _ _ ?_
    refine c_region ?_
    refine s_pure h (ru_move (h.ev rfl)) rfl ?_; intro f h
    refine s_load_row 1 h s row39 rfl rfl (mbArr_size _) rfl ?_; intro f h
    refine s_bslice (vs := [.agg (mbArr (nxtK l m (k + 1)))]) [.tmp 19] h s Tryz.underlying28 elm39 rfl rfl (mb_sz _) rfl rfl rfl ?_; intro f w1 v20 h s
    refine s_append 1 0 h s Tryz.underlying28 elm39 rfl rfl rfl rfl (by decide) (by rw [one_mb]; exact mbArr_ones _) (by rw [fol_len]; unfold maxLen; omega) (by rw [fol_len]; omega) rfl ?_; intro f w1 v21 h s
    replace s := s.pick _ (List.sublist_cons_self _ _)
    replace s := s.resl (m := (folL l m (k + 1)).length) (ys := mbCells (folL l m (k + 1))) 0 rfl (by rw [fol_succ, List.length_append]; rfl) (by rw [fol_succ, one_mb, mb_snoc])
    refine s_pure h (ru_assign (h.ev rfl)) rfl ?_; intro f h
    refine s_nil ?_
    refine b_norm ?_
    refine hK7 _ _ ?_
    refine c_region ?_
    refine s_pure h (ru_move (h.ev rfl)) rfl ?_; intro f h
    refine s_pure h (ru_add (h.ev rfl) (h.ev rfl) (by omega)) rfl ?_; intro f h
    refine s_pure h (ru_assign (h.ev rfl)) rfl ?_; intro f h
    refine s_nil ?_
    refine t_norm ?_
    exact ⟨_, by omega, ⟨k + 1, v21, h.only ⟨rfl, rfl, rfl, rfl, rfl, slot_int rfl (by omega), trivial⟩, St.as (s.pick _ (List.Sublist.cons_cons _ (List.Sublist.cons_cons _ (List.nil_sublist _)))) ⟨rfl, rfl, trivial⟩, rfl, by omega⟩⟩
  · replace hc := of_decide_eq_false hc
    refine wpIn_exit ?_
    refine t_exit ?_
    refine t_exit ?_
    refine b_exit ?_
    refine hK3 _ _ ?_
    refine c_seq fun K9 hK9 => ?_
    refine c_region ?_
    refine s_pure h (ru_move (h.ev rfl)) rfl ?_; intro f h
    refine s_pure h (ru_assign (h.ev rfl)) rfl ?_; intro f h
    refine s_nil ?_
    refine hK9 _ _ ?_
    refine wpIn_ret ?_
    exact e_tmp rfl h s rfl ((by obtain rfl : k = n9 := (by omega); exact (s.getSl 0 rfl)))

set_option maxHeartbeats 1000000 in
theorem rkeeps_any (L : List N3) (vo : Value) (x : Id) (many : Nat) (mY : Int) (w : World) (hO : RdO w vo L) (hL : L.length ≤ 40) (hrs : RS L) (h0 : 0 < L.length) (hm1 : 1 ≤ many) (hm4 : many ≤ 4) (hmy : mY = (many : Int)) : Calls Tryz.prog 10 [.agg #[vo], idV x, .int .i64 mY].toArray w (Ret w (fun v w' => Owns w' w.heap.size 39 33 v (kpR (memL L) x many).length (mbCells (kpR (memL L) x many)))) := by
  have hml : (memL L).length = L.length := List.length_map _
  have hl16 := hrs.len
  have h0m : 0 < (memL L).length := by omega
  refine c_enter Tryz.func10 rfl Tryz.ntmps10 rfl [(0, .agg #[vo]), (1, idV x), (2, .int .i64 mY)] (by simp) fun f h => ?_
  have s := St.start w
  refine c_seq fun K1 hK1 => ?_
  refine c_region ?_
  refine s_box (#[vo]) h s rfl rfl rfl ?_; intro f w1 b3 h s
  refine s_box (idArr x) h s rfl rfl rfl ?_; intro f w1 b4 h s
  refine s_pure h (ru_assign (h.ev rfl)) rfl ?_; intro f h
  refine s_nil ?_
  refine hK1 _ _ ?_
  refine c_seq fun K2 hK2 => ?_
  refine c_region ?_
  refine s_load_row 1 h s row24 rfl rfl (rfl) rfl ?_; intro f h
  refine s_call h s fnc18 (members_any L vo _ (hO.keep s.ext) hL) rfl rfl ?_; intro f w1 v11 hT hE h sq; replace s := s.sl_new hE hT
  refine s_pure h (ru_assign (h.ev rfl)) rfl ?_; intro f h
  refine s_nil ?_
  refine hK2 _ _ ?_
  refine c_seq fun K3 hK3 => ?_
  refine c_seq fun K4 hK4 => ?_
  refine c_region ?_
  refine s_pure h (ru_move (h.ev rfl)) rfl ?_; intro f h
  refine s_pure h (ru_move (h.ev rfl)) rfl ?_; intro f h
  refine s_len_sl 0 h s Tryz.underlying28 rfl rfl rfl ?_; intro f h
  refine s_pure h (ru_gtr (h.ev rfl) (h.ev rfl)) rfl ?_; intro f h
  refine s_nil ?_
  refine hK4 _ _ ?_
  refine c_join (fun aa ww => ∃ mI : Int, Sl 31 aa [(0, .agg #[vo]), (1, idV x), (3, .pointer (some ⟨b3, 0, none⟩)), (4, .pointer (some ⟨b4, 0, none⟩)), (7, v11), (11, v11), (13, v11), (2, .int .i64 mI)] ∧ St w [.sl v11 39 33 (memL L).length (mbCells (memL L)), .blk b4 (.cells (idArr x) 26), .blk b3 (.cells (#[vo]) 24)] ww ∧ mI = (min many (memL L).length : Nat)) ?_ ?_
  · skip
    refine c_cond h rfl (fun hc => ?_) (fun hc => ?_)
    · replace hc := of_decide_eq_true hc
      refine c_region ?_
      refine s_pure h (ru_move (h.ev rfl)) rfl ?_; intro f h
      refine s_len_sl 0 h s Tryz.underlying28 rfl rfl rfl ?_; intro f h
      refine s_pure h (ru_assign (h.ev rfl)) rfl ?_; intro f h
      refine s_nil ?_
      refine t_norm ?_
      exact ⟨((memL L).length : Int), h.only ⟨rfl, rfl, rfl, rfl, rfl, rfl, rfl, rfl, trivial⟩, St.as s ⟨rfl, rfl, rfl, trivial⟩, by omega⟩
    · replace hc := of_decide_eq_false hc
      refine wpIn_skip ?_
      refine t_norm ?_
      exact ⟨mY, h.only ⟨rfl, rfl, rfl, rfl, rfl, rfl, rfl, rfl, trivial⟩, St.as s ⟨rfl, rfl, rfl, trivial⟩, by omega⟩
  rintro f w1 ⟨mI, h, s, hmI⟩
  refine hK3 _ _ ?_
  refine c_seq fun K6 hK6 => ?_
  refine c_region ?_
  refine s_pure h (ru_move (h.ev rfl)) rfl ?_; intro f h
  refine s_load_row 1 h s row26 rfl rfl (by first | exact idArr_size _ | exact bytesF_size _ _) rfl ?_; intro f h
  refine s_call h s fnc23 (ret_val (.agg (mbArr (ownL (memL L) x))) (rowner_any (memL L) v11 x _ (RdZ.of_own (s.getSl 0 rfl)) (by omega) hrs.nos) (congrArg (fun x => Value.agg (mbArr x)) (rown_end (by omega)))) rfl rfl ?_; intro f w1 v9 hT hE h s; obtain rfl := hT
  refine s_alloc (mbArr zMb) h s zero39 rfl rfl ?_; intro f w1 b8 h s
  refine s_store_row 0 h s row39 rfl rfl rfl (mbArr_size _) (mbArr_size _) (mbArr_ones _) ?_; intro w1 s
  refine s_nil ?_
  refine hK6 _ _ ?_
  refine c_seq fun K7 hK7 => ?_
  refine c_region ?_
  refine s_load_row 0 h s row39 rfl rfl (mbArr_size _) rfl ?_; intro f h
  refine s_bslice (vs := [.agg (mbArr (ownL (memL L) x))]) [.tmp 21] h s Tryz.underlying28 elm39 rfl rfl (mb_sz _) rfl rfl rfl ?_; intro f w1 v22 h s
  replace s := s.resl (m := [(ownL (memL L) x)].length) (ys := mbCells [(ownL (memL L) x)]) 0 rfl (rfl) (by rw [one_mb, mbCells_one])
  refine s_pure h (ru_assign (h.ev rfl)) rfl ?_; intro f h
  refine s_nil ?_
  refine hK7 _ _ ?_
  refine c_seq fun K8 hK8 => ?_
  refine c_region ?_
  refine s_pure h (ru_move (h.ev rfl)) rfl ?_; intro f h
  refine s_pure h (ru_move (h.ev rfl)) rfl ?_; intro f h
  refine s_load_row 1 h s row39 rfl rfl (mbArr_size _) rfl ?_; intro f h
  refine s_pure h (ru_move (h.ev rfl)) rfl ?_; intro f h
  refine s_pure h (ru_sub (h.ev rfl) (h.ev rfl) (by omega)) rfl ?_; intro f h
  refine s_call h s fnc24 (rafter_any (memL L) v11 (ownL (memL L) x) (mI - 1) (min many (memL L).length - 1) (by omega) (by omega) _ (RdZ.of_own (s.getSl 2 rfl)) (by omega) hrs.nos (own_mem x (by omega))) rfl rfl ?_; intro f w1 v28 hT hE h sq; replace s := s.sl_new hE hT
  refine s_append_rd 1 (RdZ.of_own (s.getSl 0 rfl)) h s Tryz.underlying28 elm39 rfl rfl rfl (mbCells_ones _) (by rw [fol_len]; show 1 + _ ≤ _; unfold maxLen; omega) (by rw [fol_len]; show (1 + _) * _ ≤ _; omega) rfl ?_; intro f w1 v29 h s
  replace s := s.resl (m := (kpR (memL L) x many).length) (ys := mbCells (kpR (memL L) x many)) 1 rfl (by unfold kpR; simp only [List.length_cons, List.length_nil, fol_len]; omega) (by rw [← mbCells_app]; rfl)
  refine s_pure h (ru_assign (h.ev rfl)) rfl ?_; intro f h
  refine s_nil ?_
  refine hK8 _ _ ?_
  refine c_seq fun K9 hK9 => ?_
  refine c_region ?_
  refine s_pure h (ru_move (h.ev rfl)) rfl ?_; intro f h
  refine s_pure h (ru_assign (h.ev rfl)) rfl ?_; intro f h
  refine s_nil ?_
  refine hK9 _ _ ?_
  refine wpIn_ret ?_
  exact e_tmp rfl h s rfl ((s.getSl 1 rfl))
end Go.Proofs.YtndbijifgalpbaaGreat
