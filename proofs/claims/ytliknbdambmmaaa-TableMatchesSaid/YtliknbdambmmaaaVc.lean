/- What the reference of table answers for what is put, dropped, over, on a way: for all tables. -/
import Derived.Test.YtliknbdambmmaaaVb
set_option linter.unusedVariables false
set_option linter.unusedSimpArgs false
set_option linter.unusedSectionVars false
namespace Go.Proofs.Ytliknbdambmmaaa
open Go.RowKit
theorem rwost_any (l : List Tg) (vh : Value) (i : Id) (e : Ent) (w : World) (hR : RdZ w vh 67 l.length (tgCells l)) (hln : l.length ≤ 1000) : Calls Try.prog 18 [vh, idV i, .agg (eArr e)].toArray w (Ret w (fun v w' => Owns w' w.heap.size 28 67 v (l.filter (fun y => !isT i e y)).length (tgCells (l.filter (fun y => !isT i e y))))) := by
  refine c_enter Try.func18 rfl Try.ntmps18 rfl [(0, vh), (1, idV i), (2, .agg (eArr e))] (by simp) fun f h => ?_
  have s := St.start w
  refine c_seq fun K1 hK1 => ?_
  refine c_region ?_
  refine s_box (idArr i) h s rfl rfl rfl ?_; intro f w1 b4 h s
  refine s_box (eArr e) h s rfl rfl rfl ?_; intro f w1 b5 h s
  refine s_pure h (ru_assign (h.ev rfl)) rfl ?_; intro f h
  refine s_nil ?_
  refine hK1 _ _ ?_
  refine c_seq fun K2 hK2 => ?_
  refine c_region ?_
  refine s_bslice (vs := []) [] h s Try.underlying22 elm28 rfl rfl (by simp) rfl rfl rfl ?_; intro f w1 v10 h s
  replace s := s.resl (m := ((l.take 0).filter (fun y => !isT i e y)).length) (ys := tgCells ((l.take 0).filter (fun y => !isT i e y))) 0 rfl (rfl) (rfl)
  refine s_pure h (ru_assign (h.ev rfl)) rfl ?_; intro f h
  refine s_nil ?_
  refine hK2 _ _ ?_
  refine c_seq fun K3 hK3 => ?_
  refine c_seq fun K4 hK4 => ?_
  refine c_region ?_
  refine s_pure h (ru_move (h.ev rfl)) rfl ?_; intro f h
  refine s_pure h (ru_lenZ (hR.keep s.ext) Try.underlying22 (h.ev rfl)) rfl ?_; intro f h
  refine s_pure h (ru_move (h.ev rfl)) rfl ?_; intro f h
  refine s_nil ?_
  refine hK4 _ _ ?_
  refine wpIn_block ?_
  refine wpIn_loop_ghost (fun nn aa ww => ∃ k : Nat, ∃ vb : Value, Sl 28 aa [(0, vh), (1, idV i), (2, .agg (eArr e)), (4, .pointer (some ⟨b4, 0, none⟩)), (5, .pointer (some ⟨b5, 0, none⟩)), (11, vh), (12, .int .i64 (l.length : Int)), (13, .int .i64 (k : Int)), (7, vb)] ∧ St w [.sl vb 28 67 ((l.take k).filter (fun y => !isT i e y)).length (tgCells ((l.take k).filter (fun y => !isT i e y))), .blk b5 (.cells (eArr e) 26), .blk b4 (.cells (idArr i) 24)] ww ∧ nn = l.length - k ∧ k ≤ l.length) (l.length - (0)) ⟨0, v10, h.only ⟨rfl, rfl, rfl, rfl, rfl, rfl, rfl, slot_int rfl (by omega), rfl, trivial⟩, s.as ⟨rfl, rfl, rfl, trivial⟩, rfl, Nat.zero_le _⟩ ?_
  rintro _ f w1 ⟨k, vb, h, s, hnn, hp0⟩
  refine c_seq fun K5 hK5 => ?_
  refine c_region ?_
  refine s_pure h (ru_lss (h.ev rfl) (h.ev rfl)) rfl ?_; intro f h
  refine s_nil ?_
  refine hK5 _ _ ?_
  refine c_seq fun K6 hK6 => ?_
  refine c_cond h rfl (fun hc => ?_) (fun hc => ?_)
  · replace hc := of_decide_eq_true hc
    refine wpIn_skip ?_
    refine hK6 _ _ ?_
    refine c_seq fun K7 hK7 => ?_
    refine wpIn_block ?_
    refine c_seq fun K8 hK8 => ?_
    refine c_region ?_
    have hkl : k < l.length := by omega
    refine s_pure h (ru_ixz (hR.keep s.ext) (k) Try.underlying22 szo28 (h.ev rfl) (h.ev rfl) (by omega) (by omega)) rfl ?_; intro f h
    refine s_load_at ((hR.keep s.ext).el (k) (by omega) (by decide) (D := tgArr (l.getD k zTg)) (tgr_el l k hkl)) h row28 rfl (tgArr_size _) rfl ?_; intro f h
    refine s_alloc (tgArr zTg) h s zero28 rfl rfl ?_; intro f w1 b9 h s
    refine s_store_row 0 h s row28 rfl rfl rfl (tgArr_size _) (tgArr_size _) (tgArr_ones _) ?_; intro w1 s
    refine s_nil ?_
    refine hK8 _ _ ?_
    refine c_seq fun K9 hK9 => ?_
    cases hq : (!isT i e (l.getD k zTg) : Bool)
    · skip
      refine c_region ?_
      refine s_load_row 0 h s row28 rfl rfl (tgArr_size _) rfl ?_; intro f h
      refine s_load_row 3 h s row24 rfl rfl (by first | exact idArr_size _ | exact bytesF_size _ _) rfl ?_; intro f h
      refine s_load_row 2 h s row26 rfl rfl (eArr_size _) rfl ?_; intro f h
      refine s_call h s fnc34 (ret_val (.bool true) (rist_any (l.getD k zTg) i e _) (congrArg Value.bool (by simpa using hq))) rfl rfl ?_; intro f w1 v9 hT hE h s; obtain rfl := hT
      refine s_pure h (ru_val (.bool false) (ru_not (h.ev rfl)) rfl) rfl ?_; intro f h
      refine s_nil ?_
      refine hK9 _ _ ?_
      refine wpIn_cond_false (h.ev rfl) ?_
      refine wpIn_skip ?_
      refine b_norm ?_
      refine hK7 _ _ ?_
      refine c_region ?_
      refine s_pure h (ru_add (h.ev rfl) (h.ev rfl) (by omega)) rfl ?_; intro f h
      refine s_pure h (ru_move (h.ev rfl)) rfl ?_; intro f h
      refine s_nil ?_
      refine t_norm ?_
      exact ⟨_, by omega, ⟨k + 1, vb, h.only ⟨rfl, rfl, rfl, rfl, rfl, rfl, rfl, slot_int rfl (by omega), rfl, trivial⟩, St.as (s.pick _ (List.sublist_append_right [_] _)) ⟨sl_eq (by rw [flt_n hkl hq]) (by rw [flt_n hkl hq]), rfl, rfl, trivial⟩, rfl, by omega⟩⟩
    · skip
      refine c_region ?_
      refine s_load_row 0 h s row28 rfl rfl (tgArr_size _) rfl ?_; intro f h
      refine s_load_row 3 h s row24 rfl rfl (by first | exact idArr_size _ | exact bytesF_size _ _) rfl ?_; intro f h
      refine s_load_row 2 h s row26 rfl rfl (eArr_size _) rfl ?_; intro f h
      refine s_call h s fnc34 (ret_val (.bool false) (rist_any (l.getD k zTg) i e _) (congrArg Value.bool (by simpa using hq))) rfl rfl ?_; intro f w1 v9 hT hE h s; obtain rfl := hT
      refine s_pure h (ru_val (.bool true) (ru_not (h.ev rfl)) rfl) rfl ?_; intro f h
      refine s_nil ?_
      refine hK9 _ _ ?_
      refine wpIn_cond_true (h.ev rfl) ?_
      refine c_region ?_
      refine s_pure h (ru_move (h.ev rfl)) rfl ?_; intro f h
      refine s_load_row 0 h s row28 rfl rfl (tgArr_size _) rfl ?_; intro f h
      refine s_bslice (vs := [.agg (tgArr (l.getD k zTg))]) [.tmp 23] h s Try.underlying22 elm28 rfl rfl (tg_sz _) rfl rfl rfl ?_; intro f w1 v24 h s
      refine s_append 2 0 h s Try.underlying22 elm28 rfl rfl rfl rfl (by decide) (by rw [one_tg]; exact tgArr_ones _) (by have h9 := flt_le l (fun y => !isT i e y) k; unfold maxLen; omega) (by have h9 := flt_le l (fun y => !isT i e y) k; omega) rfl ?_; intro f w1 v25 h s
      replace s := s.pick _ (List.sublist_cons_self _ _)
      replace s := s.resl (m := ((l.take (k + 1)).filter (fun y => !isT i e y)).length) (ys := tgCells ((l.take (k + 1)).filter (fun y => !isT i e y))) 1 rfl (by rw [flt_y hkl hq, List.length_append]; rfl) (by rw [flt_y hkl hq, one_tg, tg_snoc])
      refine s_pure h (ru_assign (h.ev rfl)) rfl ?_; intro f h
      refine s_nil ?_
      refine b_norm ?_
      refine hK7 _ _ ?_
      refine c_region ?_
      refine s_pure h (ru_add (h.ev rfl) (h.ev rfl) (by omega)) rfl ?_; intro f h
      refine s_pure h (ru_move (h.ev rfl)) rfl ?_; intro f h
      refine s_nil ?_
      refine t_norm ?_
      exact ⟨_, by omega, ⟨k + 1, v25, h.only ⟨rfl, rfl, rfl, rfl, rfl, rfl, rfl, slot_int rfl (by omega), rfl, trivial⟩, St.as (s.pick _ (List.sublist_append_right [_] _)) ⟨rfl, rfl, rfl, trivial⟩, rfl, by omega⟩⟩
  · replace hc := of_decide_eq_false hc
    refine wpIn_exit ?_
    refine t_exit ?_
    refine t_exit ?_
    refine b_exit ?_
    refine hK3 _ _ ?_
    refine c_seq fun K10 hK10 => ?_
    refine c_region ?_
    refine s_pure h (ru_move (h.ev rfl)) rfl ?_; intro f h
    refine s_pure h (ru_assign (h.ev rfl)) rfl ?_; intro f h
    refine s_nil ?_
    refine hK10 _ _ ?_
    refine wpIn_ret ?_
    exact e_tmp rfl h s rfl ((by have h9 := s.getSl 0 rfl; rw [flt_end (by omega)] at h9; exact h9))

theorem rexpt_any (l : List Tg) (vh : Value) (now : Int) (w : World) (hR : RdZ w vh 67 l.length (tgCells l)) (hln : l.length ≤ 1000) : Calls Try.prog 22 [vh, .int .i64 now].toArray w (Ret w (fun v w' => Owns w' w.heap.size 28 67 v (l.filter (fun y => decide (now < y.2.2))).length (tgCells (l.filter (fun y => decide (now < y.2.2)))))) := by
  refine c_enter Try.func22 rfl Try.ntmps22 rfl [(0, vh), (1, .int .i64 now)] (by simp) fun f h => ?_
  have s := St.start w
  refine c_seq fun K1 hK1 => ?_
  refine c_region ?_
  refine s_pure h (ru_assign (h.ev rfl)) rfl ?_; intro f h
  refine s_nil ?_
  refine hK1 _ _ ?_
  refine c_seq fun K2 hK2 => ?_
  refine c_region ?_
  refine s_bslice (vs := []) [] h s Try.underlying22 elm28 rfl rfl (by simp) rfl rfl rfl ?_; intro f w1 v8 h s
  replace s := s.resl (m := ((l.take 0).filter (fun y => decide (now < y.2.2))).length) (ys := tgCells ((l.take 0).filter (fun y => decide (now < y.2.2)))) 0 rfl (rfl) (rfl)
  refine s_pure h (ru_assign (h.ev rfl)) rfl ?_; intro f h
  refine s_nil ?_
  refine hK2 _ _ ?_
  refine c_seq fun K3 hK3 => ?_
  refine c_seq fun K4 hK4 => ?_
  refine c_region ?_
  refine s_pure h (ru_move (h.ev rfl)) rfl ?_; intro f h
  refine s_pure h (ru_lenZ (hR.keep s.ext) Try.underlying22 (h.ev rfl)) rfl ?_; intro f h
  refine s_pure h (ru_move (h.ev rfl)) rfl ?_; intro f h
  refine s_nil ?_
  refine hK4 _ _ ?_
  refine wpIn_block ?_
  refine wpIn_loop_ghost (fun nn aa ww => ∃ k : Nat, ∃ vb : Value, Sl 25 aa [(0, vh), (9, vh), (10, .int .i64 (l.length : Int)), (11, .int .i64 (k : Int)), (5, vb), (1, .int .i64 now)] ∧ St w [.sl vb 28 67 ((l.take k).filter (fun y => decide (now < y.2.2))).length (tgCells ((l.take k).filter (fun y => decide (now < y.2.2))))] ww ∧ nn = l.length - k ∧ k ≤ l.length) (l.length - (0)) ⟨0, v8, h.only ⟨rfl, rfl, rfl, slot_int rfl (by omega), rfl, rfl, trivial⟩, s.as ⟨rfl, trivial⟩, rfl, Nat.zero_le _⟩ ?_
  rintro _ f w1 ⟨k, vb, h, s, hnn, hp0⟩
  refine c_seq fun K5 hK5 => ?_
  refine c_region ?_
  refine s_pure h (ru_lss (h.ev rfl) (h.ev rfl)) rfl ?_; intro f h
  refine s_nil ?_
  refine hK5 _ _ ?_
  refine c_seq fun K6 hK6 => ?_
  refine c_cond h rfl (fun hc => ?_) (fun hc => ?_)
  · replace hc := of_decide_eq_true hc
    refine wpIn_skip ?_
    refine hK6 _ _ ?_
    refine c_seq fun K7 hK7 => ?_
    refine wpIn_block ?_
    refine c_seq fun K8 hK8 => ?_
    refine c_region ?_
    have hkl : k < l.length := by omega
    refine s_pure h (ru_ixz (hR.keep s.ext) (k) Try.underlying22 szo28 (h.ev rfl) (h.ev rfl) (by omega) (by omega)) rfl ?_; intro f h
    refine s_load_at ((hR.keep s.ext).el (k) (by omega) (by decide) (D := tgArr (l.getD k zTg)) (tgr_el l k hkl)) h row28 rfl (tgArr_size _) rfl ?_; intro f h
    refine s_alloc (tgArr zTg) h s zero28 rfl rfl ?_; intro f w1 b7 h s
    refine s_store_row 0 h s row28 rfl rfl rfl (tgArr_size _) (tgArr_size _) (tgArr_ones _) ?_; intro w1 s
    refine s_nil ?_
    refine hK8 _ _ ?_
    refine c_seq fun K9 hK9 => ?_
    cases hq : (decide (now < (l.getD k zTg).2.2) : Bool)
    · skip
      refine c_region ?_
      refine s_pure h (ru_field fld28_2 (h.ev rfl)) rfl ?_; intro f h
      refine s_load_at1 (cell_of_has (Has.of_own s 0 rfl) 66 (tgArr_until _)) h one3 rfl rfl ?_; intro f h
      refine s_pure h (ru_move (h.ev rfl)) rfl ?_; intro f h
      refine s_pure h (ru_val (.bool false) (ru_gtr (h.ev rfl) (h.ev rfl)) (congrArg Value.bool hq)) rfl ?_; intro f h
      refine s_nil ?_
      refine hK9 _ _ ?_
      refine wpIn_cond_false (h.ev rfl) ?_
      refine wpIn_skip ?_
      refine b_norm ?_
      refine hK7 _ _ ?_
      refine c_region ?_
      refine s_pure h (ru_add (h.ev rfl) (h.ev rfl) (by omega)) rfl ?_; intro f h
      refine s_pure h (ru_move (h.ev rfl)) rfl ?_; intro f h
      refine s_nil ?_
      refine t_norm ?_
      exact ⟨_, by omega, ⟨k + 1, vb, h.only ⟨rfl, rfl, rfl, slot_int rfl (by omega), rfl, rfl, trivial⟩, St.as (s.pick _ (List.sublist_append_right [_] _)) ⟨sl_eq (by rw [flt_n hkl hq]) (by rw [flt_n hkl hq]), trivial⟩, rfl, by omega⟩⟩
    · skip
      refine c_region ?_
      refine s_pure h (ru_field fld28_2 (h.ev rfl)) rfl ?_; intro f h
      refine s_load_at1 (cell_of_has (Has.of_own s 0 rfl) 66 (tgArr_until _)) h one3 rfl rfl ?_; intro f h
      refine s_pure h (ru_move (h.ev rfl)) rfl ?_; intro f h
      refine s_pure h (ru_val (.bool true) (ru_gtr (h.ev rfl) (h.ev rfl)) (congrArg Value.bool hq)) rfl ?_; intro f h
      refine s_nil ?_
      refine hK9 _ _ ?_
      refine wpIn_cond_true (h.ev rfl) ?_
      refine c_region ?_
      refine s_pure h (ru_move (h.ev rfl)) rfl ?_; intro f h
      refine s_load_row 0 h s row28 rfl rfl (tgArr_size _) rfl ?_; intro f h
      refine s_bslice (vs := [.agg (tgArr (l.getD k zTg))]) [.tmp 20] h s Try.underlying22 elm28 rfl rfl (tg_sz _) rfl rfl rfl ?_; intro f w1 v21 h s
      refine s_append 2 0 h s Try.underlying22 elm28 rfl rfl rfl rfl (by decide) (by rw [one_tg]; exact tgArr_ones _) (by have h9 := flt_le l (fun y => decide (now < y.2.2)) k; unfold maxLen; omega) (by have h9 := flt_le l (fun y => decide (now < y.2.2)) k; omega) rfl ?_; intro f w1 v22 h s
      replace s := s.pick _ (List.sublist_cons_self _ _)
      replace s := s.resl (m := ((l.take (k + 1)).filter (fun y => decide (now < y.2.2))).length) (ys := tgCells ((l.take (k + 1)).filter (fun y => decide (now < y.2.2)))) 1 rfl (by rw [flt_y hkl hq, List.length_append]; rfl) (by rw [flt_y hkl hq, one_tg, tg_snoc])
      refine s_pure h (ru_assign (h.ev rfl)) rfl ?_; intro f h
      refine s_nil ?_
      refine b_norm ?_
      refine hK7 _ _ ?_
      refine c_region ?_
      refine s_pure h (ru_add (h.ev rfl) (h.ev rfl) (by omega)) rfl ?_; intro f h
      refine s_pure h (ru_move (h.ev rfl)) rfl ?_; intro f h
      refine s_nil ?_
      refine t_norm ?_
      exact ⟨_, by omega, ⟨k + 1, v22, h.only ⟨rfl, rfl, rfl, slot_int rfl (by omega), rfl, rfl, trivial⟩, St.as (s.pick _ (List.sublist_append_right [_] _)) ⟨rfl, trivial⟩, rfl, by omega⟩⟩
  · replace hc := of_decide_eq_false hc
    refine wpIn_exit ?_
    refine t_exit ?_
    refine t_exit ?_
    refine b_exit ?_
    refine hK3 _ _ ?_
    refine c_seq fun K10 hK10 => ?_
    refine c_region ?_
    refine s_pure h (ru_move (h.ev rfl)) rfl ?_; intro f h
    refine s_pure h (ru_assign (h.ev rfl)) rfl ?_; intro f h
    refine s_nil ?_
    refine hK10 _ _ ?_
    refine wpIn_ret ?_
    exact e_tmp rfl h s rfl ((by have h9 := s.getSl 0 rfl; rw [flt_end (by omega)] at h9; exact h9))

theorem ront_any (l : List Tg) (vh : Value) (a b : Id) (on : Bool) (w : World) (hR : RdZ w vh 67 l.length (tgCells l)) (hln : l.length ≤ 1000) : Calls Try.prog 23 [vh, idV a, idV b, .bool on].toArray w (Ret w (fun v w' => Owns w' w.heap.size 28 67 v (l.filter (fun y => inB y.1 a b == on)).length (tgCells (l.filter (fun y => inB y.1 a b == on))))) := by
  refine c_enter Try.func23 rfl Try.ntmps23 rfl [(0, vh), (1, idV a), (2, idV b), (3, .bool on)] (by simp) fun f h => ?_
  have s := St.start w
  refine c_seq fun K1 hK1 => ?_
  refine c_region ?_
  refine s_box (idArr a) h s rfl rfl rfl ?_; intro f w1 b5 h s
  refine s_box (idArr b) h s rfl rfl rfl ?_; intro f w1 b6 h s
  refine s_pure h (ru_assign (h.ev rfl)) rfl ?_; intro f h
  refine s_nil ?_
  refine hK1 _ _ ?_
  refine c_seq fun K2 hK2 => ?_
  refine c_region ?_
  refine s_bslice (vs := []) [] h s Try.underlying22 elm28 rfl rfl (by simp) rfl rfl rfl ?_; intro f w1 v12 h s
  replace s := s.resl (m := ((l.take 0).filter (fun y => inB y.1 a b == on)).length) (ys := tgCells ((l.take 0).filter (fun y => inB y.1 a b == on))) 0 rfl (rfl) (rfl)
  refine s_pure h (ru_assign (h.ev rfl)) rfl ?_; intro f h
  refine s_nil ?_
  refine hK2 _ _ ?_
  refine c_seq fun K3 hK3 => ?_
  refine c_seq fun K4 hK4 => ?_
  refine c_region ?_
  refine s_pure h (ru_move (h.ev rfl)) rfl ?_; intro f h
  refine s_pure h (ru_lenZ (hR.keep s.ext) Try.underlying22 (h.ev rfl)) rfl ?_; intro f h
  refine s_pure h (ru_move (h.ev rfl)) rfl ?_; intro f h
  refine s_nil ?_
  refine hK4 _ _ ?_
  refine wpIn_block ?_
  refine wpIn_loop_ghost (fun nn aa ww => ∃ k : Nat, ∃ vb : Value, Sl 32 aa [(0, vh), (1, idV a), (2, idV b), (5, .pointer (some ⟨b5, 0, none⟩)), (6, .pointer (some ⟨b6, 0, none⟩)), (13, vh), (14, .int .i64 (l.length : Int)), (15, .int .i64 (k : Int)), (9, vb), (3, .bool on)] ∧ St w [.sl vb 28 67 ((l.take k).filter (fun y => inB y.1 a b == on)).length (tgCells ((l.take k).filter (fun y => inB y.1 a b == on))), .blk b6 (.cells (idArr b) 24), .blk b5 (.cells (idArr a) 24)] ww ∧ nn = l.length - k ∧ k ≤ l.length) (l.length - (0)) ⟨0, v12, h.only ⟨rfl, rfl, rfl, rfl, rfl, rfl, rfl, slot_int rfl (by omega), rfl, rfl, trivial⟩, s.as ⟨rfl, rfl, rfl, trivial⟩, rfl, Nat.zero_le _⟩ ?_
  rintro _ f w1 ⟨k, vb, h, s, hnn, hp0⟩
  refine c_seq fun K5 hK5 => ?_
  refine c_region ?_
  refine s_pure h (ru_lss (h.ev rfl) (h.ev rfl)) rfl ?_; intro f h
  refine s_nil ?_
  refine hK5 _ _ ?_
  refine c_seq fun K6 hK6 => ?_
  refine c_cond h rfl (fun hc => ?_) (fun hc => ?_)
  · replace hc := of_decide_eq_true hc
    refine wpIn_skip ?_
    refine hK6 _ _ ?_
    refine c_seq fun K7 hK7 => ?_
    refine wpIn_block ?_
    refine c_seq fun K8 hK8 => ?_
    refine c_region ?_
    have hkl : k < l.length := by omega
    refine s_pure h (ru_ixz (hR.keep s.ext) (k) Try.underlying22 szo28 (h.ev rfl) (h.ev rfl) (by omega) (by omega)) rfl ?_; intro f h
    refine s_load_at ((hR.keep s.ext).el (k) (by omega) (by decide) (D := tgArr (l.getD k zTg)) (tgr_el l k hkl)) h row28 rfl (tgArr_size _) rfl ?_; intro f h
    refine s_alloc (tgArr zTg) h s zero28 rfl rfl ?_; intro f w1 b11 h s
    refine s_store_row 0 h s row28 rfl rfl rfl (tgArr_size _) (tgArr_size _) (tgArr_ones _) ?_; intro w1 s
    refine s_nil ?_
    refine hK8 _ _ ?_
    refine c_seq fun K9 hK9 => ?_
    cases hq : (inB (l.getD k zTg).1 a b == on : Bool)
    · skip
      refine c_region ?_
      refine s_pure h (ru_field fld28_0 (h.ev rfl)) rfl ?_; intro f h
      refine s_load_at (Has.subL (Has.of_own s 0 rfl) 0 32 (D := idArr (_)) (tgArr_id _)) h row24 rfl (by first | exact idArr_size _ | exact bytesF_size _ _) rfl ?_; intro f h
      refine s_load_row 3 h s row24 rfl rfl (by first | exact idArr_size _ | exact bytesF_size _ _) rfl ?_; intro f h
      refine s_load_row 2 h s row24 rfl rfl (by first | exact idArr_size _ | exact bytesF_size _ _) rfl ?_; intro f h
      refine s_call h s fnc42 (rin_any (l.getD k zTg).1 a b _) rfl rfl ?_; intro f w1 v9 hT hE h s; obtain rfl := hT
      refine s_pure h (ru_move (h.ev rfl)) rfl ?_; intro f h
      refine s_pure h (ru_val (.bool false) (ru_eql_bool Try.underlying4 (h.ev rfl) (h.ev rfl)) (congrArg Value.bool hq)) rfl ?_; intro f h
      refine s_nil ?_
      refine hK9 _ _ ?_
      refine wpIn_cond_false (h.ev rfl) ?_
      refine wpIn_skip ?_
      refine b_norm ?_
      refine hK7 _ _ ?_
      refine c_region ?_
      refine s_pure h (ru_add (h.ev rfl) (h.ev rfl) (by omega)) rfl ?_; intro f h
      refine s_pure h (ru_move (h.ev rfl)) rfl ?_; intro f h
      refine s_nil ?_
      refine t_norm ?_
      exact ⟨_, by omega, ⟨k + 1, vb, h.only ⟨rfl, rfl, rfl, rfl, rfl, rfl, rfl, slot_int rfl (by omega), rfl, rfl, trivial⟩, St.as (s.pick _ (List.sublist_append_right [_] _)) ⟨sl_eq (by rw [flt_n hkl hq]) (by rw [flt_n hkl hq]), rfl, rfl, trivial⟩, rfl, by omega⟩⟩
    · skip
      refine c_region ?_
      refine s_pure h (ru_field fld28_0 (h.ev rfl)) rfl ?_; intro f h
      refine s_load_at (Has.subL (Has.of_own s 0 rfl) 0 32 (D := idArr (_)) (tgArr_id _)) h row24 rfl (by first | exact idArr_size _ | exact bytesF_size _ _) rfl ?_; intro f h
      refine s_load_row 3 h s row24 rfl rfl (by first | exact idArr_size _ | exact bytesF_size _ _) rfl ?_; intro f h
      refine s_load_row 2 h s row24 rfl rfl (by first | exact idArr_size _ | exact bytesF_size _ _) rfl ?_; intro f h
      refine s_call h s fnc42 (rin_any (l.getD k zTg).1 a b _) rfl rfl ?_; intro f w1 v9 hT hE h s; obtain rfl := hT
      refine s_pure h (ru_move (h.ev rfl)) rfl ?_; intro f h
      refine s_pure h (ru_val (.bool true) (ru_eql_bool Try.underlying4 (h.ev rfl) (h.ev rfl)) (congrArg Value.bool hq)) rfl ?_; intro f h
      refine s_nil ?_
      refine hK9 _ _ ?_
      refine wpIn_cond_true (h.ev rfl) ?_
      refine c_region ?_
      refine s_pure h (ru_move (h.ev rfl)) rfl ?_; intro f h
      refine s_load_row 0 h s row28 rfl rfl (tgArr_size _) rfl ?_; intro f h
      refine s_bslice (vs := [.agg (tgArr (l.getD k zTg))]) [.tmp 27] h s Try.underlying22 elm28 rfl rfl (tg_sz _) rfl rfl rfl ?_; intro f w1 v28 h s
      refine s_append 2 0 h s Try.underlying22 elm28 rfl rfl rfl rfl (by decide) (by rw [one_tg]; exact tgArr_ones _) (by have h9 := flt_le l (fun y => inB y.1 a b == on) k; unfold maxLen; omega) (by have h9 := flt_le l (fun y => inB y.1 a b == on) k; omega) rfl ?_; intro f w1 v29 h s
      replace s := s.pick _ (List.sublist_cons_self _ _)
      replace s := s.resl (m := ((l.take (k + 1)).filter (fun y => inB y.1 a b == on)).length) (ys := tgCells ((l.take (k + 1)).filter (fun y => inB y.1 a b == on))) 1 rfl (by rw [flt_y hkl hq, List.length_append]; rfl) (by rw [flt_y hkl hq, one_tg, tg_snoc])
      refine s_pure h (ru_assign (h.ev rfl)) rfl ?_; intro f h
      refine s_nil ?_
      refine b_norm ?_
      refine hK7 _ _ ?_
      refine c_region ?_
      refine s_pure h (ru_add (h.ev rfl) (h.ev rfl) (by omega)) rfl ?_; intro f h
      refine s_pure h (ru_move (h.ev rfl)) rfl ?_; intro f h
      refine s_nil ?_
      refine t_norm ?_
      exact ⟨_, by omega, ⟨k + 1, v29, h.only ⟨rfl, rfl, rfl, rfl, rfl, rfl, rfl, slot_int rfl (by omega), rfl, rfl, trivial⟩, St.as (s.pick _ (List.sublist_append_right [_] _)) ⟨rfl, rfl, rfl, trivial⟩, rfl, by omega⟩⟩
  · replace hc := of_decide_eq_false hc
    refine wpIn_exit ?_
    refine t_exit ?_
    refine t_exit ?_
    refine b_exit ?_
    refine hK3 _ _ ?_
    refine c_seq fun K10 hK10 => ?_
    refine c_region ?_
    refine s_pure h (ru_move (h.ev rfl)) rfl ?_; intro f h
    refine s_pure h (ru_assign (h.ev rfl)) rfl ?_; intro f h
    refine s_nil ?_
    refine hK10 _ _ ?_
    refine wpIn_ret ?_
    exact e_tmp rfl h s rfl ((by have h9 := s.getSl 0 rfl; rw [flt_end (by omega)] at h9; exact h9))

set_option maxHeartbeats 1000000 in
theorem rputt_any (l : List Tg) (vh : Value) (x : Tg) (w : World) (hR : RdZ w vh 67 l.length (tgCells l)) (hln : l.length ≤ 1000) : Calls Try.prog 15 [vh, .agg (tgArr x)].toArray w (Ret w (fun v w' => ∃ p, v = .tuple #[p, .bool (decide ((putT l x).length ≤ 32))] ∧ Owns w' w.heap.size 28 67 p (putT l x).length (tgCells (putT l x)))) := by
  obtain ⟨W, hW⟩ : ∃ W, W = wosT l x.1 x.2.1 := ⟨_, rfl⟩
  refine c_enter Try.func15 rfl Try.ntmps15 rfl [(0, vh), (1, .agg (tgArr x))] (by simp) fun f h => ?_
  have s := St.start w
  refine c_seq fun K1 hK1 => ?_
  refine c_region ?_
  refine s_box (tgArr x) h s rfl rfl rfl ?_; intro f w1 b3 h s
  refine s_pure h (ru_assign (h.ev rfl)) rfl ?_; intro f h
  refine s_pure h (ru_assign (h.ev rfl)) rfl ?_; intro f h
  refine s_nil ?_
  refine hK1 _ _ ?_
  refine c_seq fun K2 hK2 => ?_
  refine c_region ?_
  refine s_pure h (ru_move (h.ev rfl)) rfl ?_; intro f h
  refine s_pure h (ru_field fld28_0 (h.ev rfl)) rfl ?_; intro f h
  refine s_load_at (Has.subL (Has.of_own s 0 rfl) 0 32 (D := idArr (_)) (tgArr_id _)) h row24 rfl (by first | exact idArr_size _ | exact bytesF_size _ _) rfl ?_; intro f h
  refine s_pure h (ru_field fld28_1 (h.ev rfl)) rfl ?_; intro f h
  refine s_load_at (Has.subL (Has.of_own s 0 rfl) 32 34 (D := eArr (_)) (tgArr_tg _)) h row26 rfl (eArr_size _) rfl ?_; intro f h
  refine s_call h s fnc17 (rfindt_any l vh x.1 x.2.1 _ (hR.keep s.ext) hln) rfl rfl ?_; intro f w1 v9 hT hE h s; obtain rfl := hT
  refine s_alloc (tgArr zTg) h s zero28 rfl rfl ?_; intro f w1 b6 h s
  refine s_store_row 0 h s row28 rfl rfl rfl (tgArr_size _) (tgArr_size _) (tgArr_ones _) ?_; intro w1 s
  refine s_nil ?_
  refine hK2 _ _ ?_
  refine c_seq fun K3 hK3 => ?_
  refine c_seq fun K4 hK4 => ?_
  refine c_region ?_
  refine s_pure h (ru_field fld28_2 (h.ev rfl)) rfl ?_; intro f h
  refine s_load_at1 (cell_of_has (Has.of_own s 0 rfl) 66 (tgArr_until _)) h one3 rfl rfl ?_; intro f h
  refine s_pure h (ru_field fld28_2 (h.ev rfl)) rfl ?_; intro f h
  refine s_load_at1 (cell_of_has (Has.of_own s 1 rfl) 66 (tgArr_until _)) h one3 rfl rfl ?_; intro f h
  refine s_pure h (ru_gtr (h.ev rfl) (h.ev rfl)) rfl ?_; intro f h
  refine s_nil ?_
  refine hK4 _ _ ?_
  refine c_join (fun aa ww => Sl 63 aa [(0, vh), (1, .agg (tgArr x)), (3, .pointer (some ⟨b3, 0, none⟩)), (6, .pointer (some ⟨b6, 0, none⟩))] ∧ St w [.blk b6 (.cells (tgArr (findT l x.1 x.2.1)) 28), .blk b3 (.cells (tgArr (bigT l x)) 28)] ww) ?_ ?_
  · skip
    refine c_cond h rfl (fun hc => ?_) (fun hc => ?_)
    · replace hc := of_decide_eq_true hc
      refine c_region ?_
      refine s_pure h (ru_field fld28_2 (h.ev rfl)) rfl ?_; intro f h
      refine s_load_at1 (cell_of_has (Has.of_own s 0 rfl) 66 (tgArr_until _)) h one3 rfl rfl ?_; intro f h
      refine s_pure h (ru_field fld28_2 (h.ev rfl)) rfl ?_; intro f h
      refine s_store_one 1 h s one3 rfl rfl rfl (by rw [tgArr_size]; omega) (rfl) ?_; intro w1 s
      refine s_nil ?_
      refine t_norm ?_
      replace s := s.recell (D := tgArr (bigT l x)) 1 rfl (by rw [tg_setU]; unfold bigT; rw [decide_eq_true hc]; rfl)
      exact ⟨h.only ⟨rfl, rfl, rfl, rfl, trivial⟩, St.as s ⟨rfl, rfl, trivial⟩⟩
    · replace hc := of_decide_eq_false hc
      refine wpIn_skip ?_
      refine t_norm ?_
      replace s := s.recell (D := tgArr (bigT l x)) 1 rfl (by unfold bigT; rw [decide_eq_false hc]; rfl)
      exact ⟨h.only ⟨rfl, rfl, rfl, rfl, trivial⟩, St.as s ⟨rfl, rfl, trivial⟩⟩
  rintro f w1 ⟨h, s⟩
  refine hK3 _ _ ?_
  refine c_seq fun K6 hK6 => ?_
  refine c_region ?_
  refine s_bslice (vs := []) [] h s Try.underlying22 elm28 rfl rfl (by simp) rfl rfl rfl ?_; intro f w1 v25 h s
  replace s := s.resl (m := (acK W (bigT l x) 0).length) (ys := tgCells (acK W (bigT l x) 0)) 0 rfl (rfl) (rfl)
  refine s_pure h (ru_assign (h.ev rfl)) rfl ?_; intro f h
  refine s_nil ?_
  refine hK6 _ _ ?_
  refine c_seq fun K7 hK7 => ?_
  refine c_region ?_
  refine s_pure h (ru_assign (h.ev rfl)) rfl ?_; intro f h
  refine s_nil ?_
  refine hK7 _ _ ?_
  refine c_seq fun K8 hK8 => ?_
  refine c_seq fun K9 hK9 => ?_
  refine c_region ?_
  refine s_pure h (ru_move (h.ev rfl)) rfl ?_; intro f h
  refine s_pure h (ru_field fld28_0 (h.ev rfl)) rfl ?_; intro f h
  refine s_load_at (Has.subL (Has.of_own s 2 rfl) 0 32 (D := idArr (_)) (tgArr_id _)) h row24 rfl (by first | exact idArr_size _ | exact bytesF_size _ _) rfl ?_; intro f h
  refine s_pure h (ru_field fld28_1 (h.ev rfl)) rfl ?_; intro f h
  refine s_load_at (Has.subL (Has.of_own s 2 rfl) 32 34 (D := eArr (_)) (tgArr_tg _)) h row26 rfl (eArr_size _) rfl ?_; intro f h
  refine s_call h s fnc18 (rwost_any l vh (bigT l x).1 (bigT l x).2.1 _ (hR.keep s.ext) hln) rfl rfl ?_; intro f w1 v31 hT hE h sq; rw [(big_sm l x).1, (big_sm l x).2] at hT; change Owns _ _ _ 67 _ (wosT l x.1 x.2.1).length (tgCells (wosT l x.1 x.2.1)) at hT; rw [← hW] at hT; replace s := s.sl_new hE hT
  have hWl : W.length ≤ l.length := by rw [hW]; exact List.length_filter_le _ _
  refine s_len_sl 0 h s Try.underlying22 rfl rfl rfl ?_; intro f h
  refine s_pure h (ru_move (h.ev rfl)) rfl ?_; intro f h
  refine s_nil ?_
  refine hK9 _ _ ?_
  refine wpIn_block ?_
  refine wpIn_loop_ghost (fun nn aa ww => ∃ k : Nat, ∃ vb : Value, Sl 63 aa [(0, vh), (1, .agg (tgArr x)), (3, .pointer (some ⟨b3, 0, none⟩)), (6, .pointer (some ⟨b6, 0, none⟩)), (7, vb), (8, .bool (dnK W (bigT l x) k)), (31, v31), (32, .int .i64 (W.length : Int)), (33, .int .i64 (k : Int))] ∧ St w [.sl v31 28 67 W.length (tgCells W), .sl vb 28 67 (acK W (bigT l x) k).length (tgCells (acK W (bigT l x) k)), .blk b6 (.cells (tgArr (findT l x.1 x.2.1)) 28), .blk b3 (.cells (tgArr (bigT l x)) 28)] ww ∧ nn = W.length - k ∧ k ≤ W.length) (W.length - (0)) ⟨0, v25, h.only ⟨rfl, rfl, rfl, rfl, rfl, rfl, rfl, rfl, slot_int rfl (by omega), trivial⟩, s.as ⟨rfl, rfl, rfl, rfl, trivial⟩, rfl, Nat.zero_le _⟩ ?_
  rintro _ f w1 ⟨k, vb, h, s, hnn, hp0⟩
  refine c_seq fun K10 hK10 => ?_
  refine c_region ?_
  refine s_pure h (ru_lss (h.ev rfl) (h.ev rfl)) rfl ?_; intro f h
  refine s_nil ?_
  refine hK10 _ _ ?_
  refine c_seq fun K11 hK11 => ?_
  refine c_cond h rfl (fun hc => ?_) (fun hc => ?_)
  · replace hc := of_decide_eq_true hc
    refine wpIn_skip ?_
    refine hK11 _ _ ?_
    refine c_seq fun K12 hK12 => ?_
    refine wpIn_block ?_
    refine c_seq fun K13 hK13 => ?_
    refine c_region ?_
    have hkw : k < W.length := by omega
    refine s_pure h (ru_ixz (RdZ.of_own (s.getSl 0 rfl)) (k) Try.underlying22 szo28 (h.ev rfl) (h.ev rfl) (by omega) (by omega)) rfl ?_; intro f h
    refine s_load_at ((RdZ.of_own (s.getSl 0 rfl)).el (k) (by omega) (by decide) (D := tgArr (W.getD k zTg)) (tgr_el W k hkw)) h row28 rfl (tgArr_size _) rfl ?_; intro f h
    refine s_alloc (tgArr zTg) h s zero28 rfl rfl ?_; intro f w1 b10 h s
    refine s_store_row 0 h s row28 rfl rfl rfl (tgArr_size _) (tgArr_size _) (tgArr_ones _) ?_; intro w1 s
    refine s_nil ?_
    refine hK13 _ _ ?_
    refine c_seq fun K14 hK14 => ?_
    refine c_seq fun K15 hK15 => ?_
    cases dn : ((dnK W (bigT l x) k) : Bool)
    · skip
      cases hl : (ltT (bigT l x) (W.getD k zTg) : Bool)
      · skip
        refine c_region ?_
        refine s_pure h (ru_val (.bool false) (ru_move (h.ev rfl)) (congrArg Value.bool dn)) rfl ?_; intro f h
        refine s_pure h (ru_val (.bool true) (ru_not (h.ev rfl)) rfl) rfl ?_; intro f h
        refine s_pure h (ru_move (h.ev rfl)) rfl ?_; intro f h
        refine s_on h rfl rfl rfl ?_
        refine s_load_row 4 h s row28 rfl rfl (tgArr_size _) rfl ?_; intro f h
        refine s_on h rfl rfl rfl ?_
        refine s_load_row 0 h s row28 rfl rfl (tgArr_size _) rfl ?_; intro f h
        refine s_on h rfl rfl rfl ?_
        refine s_call h s fnc32 (ret_val (.bool false) (rlesst_any (bigT l x) (W.getD k zTg) _) (congrArg Value.bool hl)) rfl rfl ?_; intro f w1 v9 hT hE h s; obtain rfl := hT
        refine s_pure h (ru_pick_t (h.ev rfl) (h.ev rfl)) rfl ?_; intro f h
        refine s_nil ?_
        refine hK15 _ _ ?_
        refine wpIn_cond_false (h.ev rfl) ?_
        refine wpIn_skip ?_
        refine hK14 _ _ ?_
        refine c_region ?_
        refine s_pure h (ru_move (h.ev rfl)) rfl ?_; intro f h
        refine s_load_row 0 h s row28 rfl rfl (tgArr_size _) rfl ?_; intro f h
        refine s_bslice (vs := [.agg (tgArr (W.getD k zTg))]) [.tmp 49] h s Try.underlying22 elm28 rfl rfl (tg_sz _) rfl rfl rfl ?_; intro f w1 v50 h s
        refine s_append 3 0 h s Try.underlying22 elm28 rfl rfl rfl rfl (by decide) (by rw [one_tg]; exact tgArr_ones _) (by have h9 := ac_le W (bigT l x) k; first | (unfold maxLen; omega) | (simp only [List.length_append, List.length_cons, List.length_nil]; unfold maxLen; omega)) (by have h9 := ac_le W (bigT l x) k; first | omega | (simp only [List.length_append, List.length_cons, List.length_nil]; omega)) rfl ?_; intro f w1 v51 h s
        replace s := s.pick _ (List.sublist_cons_self _ _)
        replace s := s.resl (m := (acK W (bigT l x) (k + 1)).length) (ys := tgCells (acK W (bigT l x) (k + 1))) 2 rfl (by rw [ac_on hkw dn hl]; simp only [List.length_append, List.length_cons, List.length_nil]) (by rw [ac_on hkw dn hl, one_tg, tg_snoc])
        refine s_pure h (ru_assign (h.ev rfl)) rfl ?_; intro f h
        refine s_nil ?_
        refine b_norm ?_
        refine hK12 _ _ ?_
        refine c_region ?_
        refine s_pure h (ru_add (h.ev rfl) (h.ev rfl) (by omega)) rfl ?_; intro f h
        refine s_pure h (ru_move (h.ev rfl)) rfl ?_; intro f h
        refine s_nil ?_
        refine t_norm ?_
        exact ⟨_, by omega, ⟨k + 1, v51, h.only ⟨rfl, rfl, rfl, rfl, rfl, slot_bool rfl (by rw [dn_succ hkw, dn, hl]; rfl), rfl, rfl, slot_int rfl (by omega), trivial⟩, St.as (s.pick _ (List.sublist_append_right [_] _)) ⟨rfl, rfl, rfl, rfl, trivial⟩, rfl, by omega⟩⟩
      · skip
        refine c_region ?_
        refine s_pure h (ru_val (.bool false) (ru_move (h.ev rfl)) (congrArg Value.bool dn)) rfl ?_; intro f h
        refine s_pure h (ru_val (.bool true) (ru_not (h.ev rfl)) rfl) rfl ?_; intro f h
        refine s_pure h (ru_move (h.ev rfl)) rfl ?_; intro f h
        refine s_on h rfl rfl rfl ?_
        refine s_load_row 4 h s row28 rfl rfl (tgArr_size _) rfl ?_; intro f h
        refine s_on h rfl rfl rfl ?_
        refine s_load_row 0 h s row28 rfl rfl (tgArr_size _) rfl ?_; intro f h
        refine s_on h rfl rfl rfl ?_
        refine s_call h s fnc32 (ret_val (.bool true) (rlesst_any (bigT l x) (W.getD k zTg) _) (congrArg Value.bool hl)) rfl rfl ?_; intro f w1 v9 hT hE h s; obtain rfl := hT
        refine s_pure h (ru_pick_t (h.ev rfl) (h.ev rfl)) rfl ?_; intro f h
        refine s_nil ?_
        refine hK15 _ _ ?_
        refine wpIn_cond_true (h.ev rfl) ?_
        refine c_seq fun K16 hK16 => ?_
        refine c_region ?_
        refine s_pure h (ru_move (h.ev rfl)) rfl ?_; intro f h
        refine s_load_row 4 h s row28 rfl rfl (tgArr_size _) rfl ?_; intro f h
        refine s_bslice (vs := [.agg (tgArr (bigT l x))]) [.tmp 45] h s Try.underlying22 elm28 rfl rfl (tg_sz _) rfl rfl rfl ?_; intro f w1 v46 h s
        refine s_append 3 0 h s Try.underlying22 elm28 rfl rfl rfl rfl (by decide) (by rw [one_tg]; exact tgArr_ones _) (by have h9 := ac_le W (bigT l x) k; first | (unfold maxLen; omega) | (simp only [List.length_append, List.length_cons, List.length_nil]; unfold maxLen; omega)) (by have h9 := ac_le W (bigT l x) k; first | omega | (simp only [List.length_append, List.length_cons, List.length_nil]; omega)) rfl ?_; intro f w1 v47 h s
        replace s := s.pick _ (List.sublist_cons_self _ _)
        replace s := s.resl (m := ((acK W (bigT l x) k) ++ [(bigT l x)]).length) (ys := tgCells ((acK W (bigT l x) k) ++ [(bigT l x)])) 2 rfl (by rw [List.length_append]; rfl) (by rw [one_tg, tg_snoc])
        refine s_pure h (ru_assign (h.ev rfl)) rfl ?_; intro f h
        refine s_nil ?_
        refine hK16 _ _ ?_
        refine c_region ?_
        refine s_pure h (ru_assign (h.ev rfl)) rfl ?_; intro f h
        refine s_nil ?_
        refine hK14 _ _ ?_
        refine c_region ?_
        refine s_pure h (ru_move (h.ev rfl)) rfl ?_; intro f h
        refine s_load_row 0 h s row28 rfl rfl (tgArr_size _) rfl ?_; intro f h
        refine s_bslice (vs := [.agg (tgArr (W.getD k zTg))]) [.tmp 49] h s Try.underlying22 elm28 rfl rfl (tg_sz _) rfl rfl rfl ?_; intro f w1 v50 h s
        refine s_append 3 0 h s Try.underlying22 elm28 rfl rfl rfl rfl (by decide) (by rw [one_tg]; exact tgArr_ones _) (by have h9 := ac_le W (bigT l x) k; first | (unfold maxLen; omega) | (simp only [List.length_append, List.length_cons, List.length_nil]; unfold maxLen; omega)) (by have h9 := ac_le W (bigT l x) k; first | omega | (simp only [List.length_append, List.length_cons, List.length_nil]; omega)) rfl ?_; intro f w1 v51 h s
        replace s := s.pick _ (List.sublist_cons_self _ _)
        replace s := s.resl (m := (acK W (bigT l x) (k + 1)).length) (ys := tgCells (acK W (bigT l x) (k + 1))) 2 rfl (by rw [ac_here hkw dn hl]; simp only [List.length_append, List.length_cons, List.length_nil]) (by rw [ac_here hkw dn hl, one_tg, tg_snoc])
        refine s_pure h (ru_assign (h.ev rfl)) rfl ?_; intro f h
        refine s_nil ?_
        refine b_norm ?_
        refine hK12 _ _ ?_
        refine c_region ?_
        refine s_pure h (ru_add (h.ev rfl) (h.ev rfl) (by omega)) rfl ?_; intro f h
        refine s_pure h (ru_move (h.ev rfl)) rfl ?_; intro f h
        refine s_nil ?_
        refine t_norm ?_
        exact ⟨_, by omega, ⟨k + 1, v51, h.only ⟨rfl, rfl, rfl, rfl, rfl, slot_bool rfl (by rw [dn_succ hkw, dn, hl]; rfl), rfl, rfl, slot_int rfl (by omega), trivial⟩, St.as (s.pick _ (List.sublist_append_right [_] _)) ⟨rfl, rfl, rfl, rfl, trivial⟩, rfl, by omega⟩⟩
    · skip
      refine c_region ?_
      refine s_pure h (ru_val (.bool true) (ru_move (h.ev rfl)) (congrArg Value.bool dn)) rfl ?_; intro f h
      refine s_pure h (ru_val (.bool false) (ru_not (h.ev rfl)) rfl) rfl ?_; intro f h
      refine s_pure h (ru_move (h.ev rfl)) rfl ?_; intro f h
      refine s_off (b := true) h rfl rfl rfl rfl ?_; intro f h
      refine s_off (b := true) h rfl rfl rfl rfl ?_; intro f h
      refine s_off (b := true) h rfl rfl rfl rfl ?_; intro f h
      refine s_pure h (ru_pick_f (h.ev rfl) (h.ev rfl)) rfl ?_; intro f h
      refine s_nil ?_
      refine hK15 _ _ ?_
      refine wpIn_cond_false (h.ev rfl) ?_
      refine wpIn_skip ?_
      refine hK14 _ _ ?_
      refine c_region ?_
      refine s_pure h (ru_move (h.ev rfl)) rfl ?_; intro f h
      refine s_load_row 0 h s row28 rfl rfl (tgArr_size _) rfl ?_; intro f h
      refine s_bslice (vs := [.agg (tgArr (W.getD k zTg))]) [.tmp 49] h s Try.underlying22 elm28 rfl rfl (tg_sz _) rfl rfl rfl ?_; intro f w1 v50 h s
      refine s_append 3 0 h s Try.underlying22 elm28 rfl rfl rfl rfl (by decide) (by rw [one_tg]; exact tgArr_ones _) (by have h9 := ac_le W (bigT l x) k; first | (unfold maxLen; omega) | (simp only [List.length_append, List.length_cons, List.length_nil]; unfold maxLen; omega)) (by have h9 := ac_le W (bigT l x) k; first | omega | (simp only [List.length_append, List.length_cons, List.length_nil]; omega)) rfl ?_; intro f w1 v51 h s
      replace s := s.pick _ (List.sublist_cons_self _ _)
      replace s := s.resl (m := (acK W (bigT l x) (k + 1)).length) (ys := tgCells (acK W (bigT l x) (k + 1))) 2 rfl (by rw [ac_more hkw dn]; simp only [List.length_append, List.length_cons, List.length_nil]) (by rw [ac_more hkw dn, one_tg, tg_snoc])
      refine s_pure h (ru_assign (h.ev rfl)) rfl ?_; intro f h
      refine s_nil ?_
      refine b_norm ?_
      refine hK12 _ _ ?_
      refine c_region ?_
      refine s_pure h (ru_add (h.ev rfl) (h.ev rfl) (by omega)) rfl ?_; intro f h
      refine s_pure h (ru_move (h.ev rfl)) rfl ?_; intro f h
      refine s_nil ?_
      refine t_norm ?_
      exact ⟨_, by omega, ⟨k + 1, v51, h.only ⟨rfl, rfl, rfl, rfl, rfl, slot_bool rfl (by rw [dn_succ hkw, dn]; rfl), rfl, rfl, slot_int rfl (by omega), trivial⟩, St.as (s.pick _ (List.sublist_append_right [_] _)) ⟨rfl, rfl, rfl, rfl, trivial⟩, rfl, by omega⟩⟩
  · replace hc := of_decide_eq_false hc
    refine wpIn_exit ?_
    refine t_exit ?_
    refine t_exit ?_
    refine b_exit ?_
    refine hK8 _ _ ?_
    refine c_seq fun K17 hK17 => ?_
    refine c_seq fun K18 hK18 => ?_
    cases de : ((dnK W (bigT l x) W.length) : Bool)
    · skip
      refine c_region ?_
      obtain rfl : k = W.length := by omega
      refine s_pure h (ru_val (.bool false) (ru_move (h.ev rfl)) (congrArg Value.bool de)) rfl ?_; intro f h
      refine s_pure h (ru_val (.bool true) (ru_not (h.ev rfl)) rfl) rfl ?_; intro f h
      refine s_nil ?_
      refine hK18 _ _ ?_
      refine wpIn_cond_true (h.ev rfl) ?_
      refine c_region ?_
      refine s_pure h (ru_move (h.ev rfl)) rfl ?_; intro f h
      refine s_load_row 3 h s row28 rfl rfl (tgArr_size _) rfl ?_; intro f h
      refine s_bslice (vs := [.agg (tgArr (bigT l x))]) [.tmp 56] h s Try.underlying22 elm28 rfl rfl (tg_sz _) rfl rfl rfl ?_; intro f w1 v57 h s
      refine s_append 2 0 h s Try.underlying22 elm28 rfl rfl rfl rfl (by decide) (by rw [one_tg]; exact tgArr_ones _) (by have h9 := ac_le W (bigT l x) W.length; first | (unfold maxLen; omega) | (simp only [List.length_append, List.length_cons, List.length_nil]; unfold maxLen; omega)) (by have h9 := ac_le W (bigT l x) W.length; first | omega | (simp only [List.length_append, List.length_cons, List.length_nil]; omega)) rfl ?_; intro f w1 v58 h s
      replace s := s.pick _ (List.sublist_cons_self _ _)
      replace s := s.resl (m := ((acK W (bigT l x) W.length) ++ [(bigT l x)]).length) (ys := tgCells ((acK W (bigT l x) W.length) ++ [(bigT l x)])) 1 rfl (by rw [List.length_append]; rfl) (by rw [one_tg, tg_snoc])
      refine s_pure h (ru_assign (h.ev rfl)) rfl ?_; intro f h
      refine s_nil ?_
      refine hK17 _ _ ?_
      refine c_seq fun K19 hK19 => ?_
      refine c_region ?_
      refine s_pure h (ru_move (h.ev rfl)) rfl ?_; intro f h
      refine s_pure h (ru_move (h.ev rfl)) rfl ?_; intro f h
      refine s_len_sl 1 h s Try.underlying22 rfl rfl rfl ?_; intro f h
      refine s_pure h (ru_leq (h.ev rfl) (h.ev rfl)) rfl ?_; intro f h
      refine s_pure h (ru_assign (h.ev rfl)) rfl ?_; intro f h
      refine s_pure h (ru_assign (h.ev rfl)) rfl ?_; intro f h
      refine s_nil ?_
      refine hK19 _ _ ?_
      refine wpIn_ret ?_
      exact e_tmps rfl h s rfl rfl ((by have he := ac_end (W := W) (y := (bigT l x)); rw [de] at he; exact putT_fin (K := ((acK W (bigT l x) W.length) ++ [(bigT l x)])) ((by rw [hW]; rfl : putT l x = insT W (bigT l x)).trans he) (s.getSl 1 rfl)))
    · skip
      refine c_region ?_
      obtain rfl : k = W.length := by omega
      refine s_pure h (ru_val (.bool true) (ru_move (h.ev rfl)) (congrArg Value.bool de)) rfl ?_; intro f h
      refine s_pure h (ru_val (.bool false) (ru_not (h.ev rfl)) rfl) rfl ?_; intro f h
      refine s_nil ?_
      refine hK18 _ _ ?_
      refine wpIn_cond_false (h.ev rfl) ?_
      refine wpIn_skip ?_
      refine hK17 _ _ ?_
      refine c_seq fun K20 hK20 => ?_
      refine c_region ?_
      refine s_pure h (ru_move (h.ev rfl)) rfl ?_; intro f h
      refine s_pure h (ru_move (h.ev rfl)) rfl ?_; intro f h
      refine s_len_sl 1 h s Try.underlying22 rfl rfl rfl ?_; intro f h
      refine s_pure h (ru_leq (h.ev rfl) (h.ev rfl)) rfl ?_; intro f h
      refine s_pure h (ru_assign (h.ev rfl)) rfl ?_; intro f h
      refine s_pure h (ru_assign (h.ev rfl)) rfl ?_; intro f h
      refine s_nil ?_
      refine hK20 _ _ ?_
      refine wpIn_ret ?_
      exact e_tmps rfl h s rfl rfl ((by have he := ac_end (W := W) (y := (bigT l x)); rw [de] at he; exact putT_fin (K := (acK W (bigT l x) W.length)) ((by rw [hW]; rfl : putT l x = insT W (bigT l x)).trans he) (s.getSl 1 rfl)))
end Go.Proofs.Ytliknbdambmmaaa
