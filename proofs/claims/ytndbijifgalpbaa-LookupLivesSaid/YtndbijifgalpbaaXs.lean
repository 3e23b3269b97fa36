/- Where a server lies, who does not live, what one answers, by package lookup. -/
import Derived.Test.YtndbijifgalpbaaXn
import Derived.Test.YtndbijifgalpbaaXd
set_option linter.unusedVariables false
set_option linter.unusedSimpArgs false
set_option linter.unusedSectionVars false
namespace Go.Proofs.Ytndbijifgalpbaa
open Go.RowKit
theorem nindexf_any (l : List N3) (vh : Value) (g9 : Nat) (caps : List Value) (p : N3 → Bool) (w : World) (hR : RdZ w vh 68 l.length (n3Cells l)) (hln : l.length ≤ 1000) (hg : Fnc Try.prog g9) (hp : ∀ w9, Ext w w9 → ∀ x ∈ l, Calls Try.prog g9 (.agg (ndArr x.1.me x.1.pr x.2.1 x.2.2) :: caps).toArray w9 (Ret w9 (is (.bool (p x))))) : Calls Try.prog 40 [vh, .func (.func g9) #[] caps.toArray].toArray w (Ret w (fun v _ => ∃ r : Int, v = .int .i64 r ∧ ((r = -1 ∧ ∀ x ∈ l, p x = false) ∨ ∃ k : Nat, k < l.length ∧ r = (k : Int) ∧ p (l.getD k z3) = true ∧ ∀ i, i < k → p (l.getD i z3) = false))) := by
  refine c_enter Try.func40 rfl Try.ntmps40 rfl [(0, vh), (1, .func (.func g9) #[] caps.toArray)] (by simp) fun f h => ?_
  have s := St.start w
  refine c_seq fun K1 hK1 => ?_
  refine c_region ?_
  refine s_pure h (ru_assign (h.ev rfl)) rfl ?_; intro f h
  refine s_nil ?_
  refine hK1 _ _ ?_
  refine c_seq fun K2 hK2 => ?_
  refine c_seq fun K3 hK3 => ?_
  refine c_region ?_
  refine s_pure h (ru_move (h.ev rfl)) rfl ?_; intro f h
  refine s_pure h (ru_lenZ (hR.keep s.ext) Try.underlying22 (h.ev rfl)) rfl ?_; intro f h
  refine s_pure h (ru_move (h.ev rfl)) rfl ?_; intro f h
  refine s_nil ?_
  refine hK3 _ _ ?_
  refine wpIn_block ?_
  refine wpIn_loop_ghost (fun nn aa ww => ∃ k : Nat, Sl 19 aa [(0, vh), (1, .func (.func g9) #[] caps.toArray), (6, vh), (7, .int .i64 (l.length : Int)), (8, .int .i64 (k : Int))] ∧ St w [] ww ∧ nn = l.length - k ∧ k ≤ l.length ∧ ∀ i, i < k → p (l.getD i z3) = false) (l.length - (0)) ⟨0, h.only ⟨rfl, rfl, rfl, rfl, slot_int rfl (by omega), trivial⟩, s.as trivial, rfl, Nat.zero_le _, fun i hi => absurd hi (Nat.not_lt_zero _)⟩ ?_
  rintro _ f w1 ⟨k, h, s, hnn, hp0, hp1⟩
  refine c_seq fun K4 hK4 => ?_
  refine c_region ?_
  refine s_pure h (ru_lss (h.ev rfl) (h.ev rfl)) rfl ?_; intro f h
  refine s_nil ?_
  refine hK4 _ _ ?_
  refine c_seq fun K5 hK5 => ?_
  refine c_cond h rfl (fun hc => ?_) (fun hc => ?_)
  · replace hc := of_decide_eq_true hc
    refine wpIn_skip ?_
    refine hK5 _ _ ?_
    refine c_seq fun K6 hK6 => ?_
    refine wpIn_block ?_
    refine c_seq fun K7 hK7 => ?_
    refine c_region ?_
    refine s_pure h (ru_move (h.ev rfl)) rfl ?_; intro f h
    refine s_pure h (ru_assign (h.ev rfl)) rfl ?_; intro f h
    refine s_nil ?_
    refine hK7 _ _ ?_
    refine c_seq fun K8 hK8 => ?_
    refine c_region ?_
    have hkl : k < l.length := by omega
    refine s_pure h (ru_move (h.ev rfl)) rfl ?_; intro f h
    refine s_pure h (ru_move (h.ev rfl)) rfl ?_; intro f h
    refine s_pure h (ru_move (h.ev rfl)) rfl ?_; intro f h
    refine s_pure h (ru_ixz (hR.keep s.ext) (k) Try.underlying22 szo46 (h.ev rfl) (h.ev rfl) (by omega) (by omega)) rfl ?_; intro f h
    refine s_load_at ((hR.keep s.ext).el (k) (by omega) (by decide) (D := ndArr (l.getD k z3).1.me (l.getD k z3).1.pr (l.getD k z3).2.1 (l.getD k z3).2.2) (n3_el l k hkl)) h row46 rfl (ndArr_size _ _ _ _) rfl ?_; intro f h
    refine s_callV [.agg (ndArr (l.getD k z3).1.me (l.getD k z3).1.pr (l.getD k z3).2.1 (l.getD k z3).2.2)] (caps := caps) h s hg rfl (hp _ s.ext _ (n3_mem hkl)) rfl rfl ?_; intro f w1 v9 hT hE h s; obtain rfl := hT
    refine s_nil ?_
    refine hK8 _ _ ?_
    refine c_cond h rfl (fun hc => ?_) (fun hc => ?_)
    · refine c_seq fun K9 hK9 => ?_
      refine c_region ?_
      refine s_pure h (ru_move (h.ev rfl)) rfl ?_; intro f h
      refine s_pure h (ru_assign (h.ev rfl)) rfl ?_; intro f h
      refine s_nil ?_
      refine hK9 _ _ ?_
      refine wpIn_ret ?_
      refine b_ret ?_
      refine t_ret ?_
      refine t_ret ?_
      refine b_ret ?_
      refine t_ret ?_
      exact e_tmp rfl h s rfl (⟨_, rfl, .inr ⟨k, hkl, rfl, hc, hp1⟩⟩)
    · refine wpIn_skip ?_
      refine b_norm ?_
      refine hK6 _ _ ?_
      refine c_region ?_
      refine s_pure h (ru_add (h.ev rfl) (h.ev rfl) (by omega)) rfl ?_; intro f h
      refine s_pure h (ru_move (h.ev rfl)) rfl ?_; intro f h
      refine s_nil ?_
      refine t_norm ?_
      exact ⟨_, by omega, ⟨k + 1, h.only ⟨rfl, rfl, rfl, rfl, slot_int rfl (by omega), trivial⟩, St.as s trivial, rfl, by omega, qs_next (q := fun j => p (l.getD j z3)) hp1 hc⟩⟩
  · replace hc := of_decide_eq_false hc
    refine wpIn_exit ?_
    refine t_exit ?_
    refine t_exit ?_
    refine b_exit ?_
    refine hK2 _ _ ?_
    refine c_seq fun K10 hK10 => ?_
    refine c_region ?_
    refine s_pure h (ru_assign (h.ev rfl)) rfl ?_; intro f h
    refine s_nil ?_
    refine hK10 _ _ ?_
    refine wpIn_ret ?_
    exact e_tmp rfl h s rfl (⟨_, rfl, .inl ⟨rfl, fun x hx => (by obtain ⟨i, hi, rfl⟩ := n3_at hx; exact hp1 i (by omega))⟩⟩)

theorem lfind1_any (x : N3) (no : Int) (bx : Nat) (w : World) (hb : w.heap[bx]? = some (.cells #[.int .i64 no] 3)) : Calls Try.prog 41 [.agg (ndArr x.1.me x.1.pr x.2.1 x.2.2), .pointer (some ⟨bx, 0, none⟩)].toArray w (Ret w (is (.bool (decide (x.1.me.1 = no))))) := by
  refine c_enter Try.func41 rfl Try.ntmps41 rfl [(0, .agg (ndArr x.1.me x.1.pr x.2.1 x.2.2)), (1, .pointer (some ⟨bx, 0, none⟩))] (by simp) fun f h => ?_
  have s := St.start w
  refine c_seq fun K1 hK1 => ?_
  refine c_region ?_
  refine s_box (ndArr x.1.me x.1.pr x.2.1 x.2.2) h s rfl rfl rfl ?_; intro f w1 b2 h s
  refine s_pure h (ru_assign (h.ev rfl)) rfl ?_; intro f h
  refine s_nil ?_
  refine hK1 _ _ ?_
  refine c_seq fun K2 hK2 => ?_
  refine c_region ?_
  refine s_pure h (ru_field fld46_0 (h.ev rfl)) rfl ?_; intro f h
  refine s_pure h (ru_field fld30_0 (h.ev rfl)) rfl ?_; intro f h
  refine s_load_at1 (cell_of_has (Has.of_own s 0 rfl) 0 (ndArr_no _ _ _ _)) h one3 rfl rfl ?_; intro f h
  refine s_load_at1 (V := .int .i64 no) (cell_of_has (Has.of_blk (heap_keep hb s.ext)) 0 (rfl)) h one3 rfl rfl ?_; intro f h
  refine s_pure h (ru_eql (h.ev rfl) (h.ev rfl)) rfl ?_; intro f h
  refine s_pure h (ru_assign (h.ev rfl)) rfl ?_; intro f h
  refine s_nil ?_
  refine hK2 _ _ ?_
  refine wpIn_ret ?_
  exact e_tmp rfl h s rfl (rfl)

theorem lfind_any (L : List N3) (vo : Value) (no : Int) (w : World) (hO : RdO w vo L) (hL : L.length ≤ 40) : Calls Try.prog 18 [.agg #[vo], .int .i64 no].toArray w (Ret w (is (.int .i64 (fnI L no)))) := by
  refine c_enter Try.func18 rfl Try.ntmps18 rfl [(0, .agg #[vo]), (1, .int .i64 no)] (by simp) fun f h => ?_
  have s := St.start w
  refine c_seq fun K1 hK1 => ?_
  refine c_region ?_
  refine s_box (#[vo]) h s rfl rfl rfl ?_; intro f w1 b2 h s
  refine s_box (#[.int .i64 no]) h s rfl rfl rfl ?_; intro f w1 b3 h s
  refine s_pure h (ru_assign (h.ev rfl)) rfl ?_; intro f h
  refine s_nil ?_
  refine hK1 _ _ ?_
  refine c_seq fun K2 hK2 => ?_
  refine c_region ?_
  refine s_pure h (ru_field fld24_0 (h.ev rfl)) rfl ?_; intro f h
  refine s_load_at1 (V := vo) (cell_of_has (Has.of_own s 1 rfl) 0 rfl) h one22 rfl rfl ?_; intro f h
  refine s_pure h (ru_makeFunc [.pointer (some ⟨b3, 0, none⟩)] (evsA h rfl)) rfl ?_; intro f h
  refine s_call h s fnc40 (nindexf_any L vo 41 [.pointer (some ⟨b3, 0, none⟩)] (fun x => decide (x.1.me.1 = no)) _ (hO.1.keep s.ext) (by omega) fnc41 (fun w9 h9 x _ => lfind1_any x no b3 w9 (heap_keep (s.get 0 rfl) h9))) rfl rfl ?_; rintro f w1 v9 ⟨r9, rfl, hr⟩ hE h s
  have hr9 := fn_of hr
  subst hr9
  refine s_pure h (ru_assign (h.ev rfl)) rfl ?_; intro f h
  refine s_nil ?_
  refine hK2 _ _ ?_
  refine wpIn_ret ?_
  exact e_tmp rfl h s rfl (rfl)

theorem ldead_any (L : List N3) (vo : Value) (w : World) (hO : RdO w vo L) (hL : L.length ≤ 40) (hno : ∀ m ∈ memL L, 0 ≤ m.1) : Calls Try.prog 43 [.agg #[vo]].toArray w (Ret w (fun v w' => Owns w' w.heap.size 3 1 v (deadK (memL L) 16).length (intC (deadK (memL L) 16)))) := by
  refine c_enter Try.func43 rfl Try.ntmps43 rfl [(0, .agg #[vo])] (by simp) fun f h => ?_
  have s := St.start w
  refine c_seq fun K1 hK1 => ?_
  refine c_region ?_
  refine s_box (#[vo]) h s rfl rfl rfl ?_; intro f w1 b1 h s
  refine s_pure h (ru_assign (h.ev rfl)) rfl ?_; intro f h
  refine s_nil ?_
  refine hK1 _ _ ?_
  refine c_seq fun K2 hK2 => ?_
  refine c_region ?_
  refine s_pure h (ru_assign (h.ev rfl)) rfl ?_; intro f h
  refine s_nil ?_
  refine hK2 _ _ ?_
  refine c_seq fun K3 hK3 => ?_
  refine c_seq fun K4 hK4 => ?_
  refine c_region ?_
  replace s := s.nilSl 3 1
  refine s_pure h (ru_move (h.ev rfl)) rfl ?_; intro f h
  refine s_nil ?_
  refine hK4 _ _ ?_
  refine wpIn_block ?_
  refine wpIn_loop_ghost (fun nn aa ww => ∃ k : Nat, ∃ vb : Value, Sl 18 aa [(0, .agg #[vo]), (1, .pointer (some ⟨b1, 0, none⟩)), (3, vb), (5, .int .i64 (k : Int))] ∧ St w [.sl vb 3 1 (deadK (memL L) k).length (intC (deadK (memL L) k)), .blk b1 (.cells (#[vo]) 24)] ww ∧ nn = 16 - k ∧ k ≤ 16) (16 - (0)) ⟨0, nilV, h.only ⟨rfl, rfl, rfl, slot_int rfl (by omega), trivial⟩, s.as ⟨rfl, rfl, trivial⟩, rfl, Nat.zero_le _⟩ ?_
  rintro _ f w1 ⟨k, vb, h, s, hnn, hp0⟩
  refine c_seq fun K5 hK5 => ?_
  refine c_region ?_
  refine s_pure h (ru_lss (h.ev rfl) (h.ev rfl)) rfl ?_; intro f h
  refine s_nil ?_
  refine hK5 _ _ ?_
  refine c_seq fun K6 hK6 => ?_
  refine c_cond h rfl (fun hc => ?_) (fun hc => ?_)
  · replace hc := of_decide_eq_true hc
    refine wpIn_skip ?_
    refine hK6 _ _ ?_
    refine c_seq fun K7 hK7 => ?_
    refine wpIn_block ?_
    refine c_seq fun K8 hK8 => ?_
    refine c_region ?_
    refine s_pure h (ru_move (h.ev rfl)) rfl ?_; intro f h
    refine s_pure h (ru_assign (h.ev rfl)) rfl ?_; intro f h
    refine s_nil ?_
    refine hK8 _ _ ?_
    refine c_seq fun K9 hK9 => ?_
    cases l1 : (livesB (memL L) (k : Int) : Bool)
    · skip
      refine c_region ?_
      refine s_load_row 1 h s row24 rfl rfl (rfl) rfl ?_; intro f h
      refine s_pure h (ru_move (h.ev rfl)) rfl ?_; intro f h
      refine s_call h s fnc18 (lfind_any L vo (k : Int) _ (hO.keep s.ext) hL) rfl rfl ?_; intro f w1 v9 hT hE h s; obtain rfl := hT
      refine s_pure h (ru_val (.bool true) (ru_lss (h.ev rfl) (h.ev rfl)) (congrArg Value.bool ((fn_lives hno).trans (by rw [l1]; rfl)))) rfl ?_; intro f h
      refine s_nil ?_
      refine hK9 _ _ ?_
      refine wpIn_cond_true (h.ev rfl) ?_
      refine c_region ?_
      refine s_pure h (ru_move (h.ev rfl)) rfl ?_; intro f h
      refine s_pure h (ru_move (h.ev rfl)) rfl ?_; intro f h
      refine s_bslice (vs := [.int .i64 (k : Int)]) [.tmp 13] h s Try.underlying28 elm3 rfl rfl (by simp [Value.cells]) rfl rfl rfl ?_; intro f w1 v14 h s
      refine s_append 1 0 h s Try.underlying28 elm3 rfl rfl rfl rfl (by decide) (by simp [Value.oneCell', Value.cells]) (by have h9 := deadK_le (memL L) k; unfold maxLen; omega) (by have h9 := deadK_le (memL L) k; omega) rfl ?_; intro f w1 v15 h s
      replace s := s.pick _ (List.sublist_cons_self _ _)
      replace s := s.resl (m := (deadK (memL L) (k + 1)).length) (ys := intC (deadK (memL L) (k + 1))) 0 rfl (by rw [deadK_y l1, List.length_append]; rfl) (by rw [deadK_y l1]; simp [Value.cells])
      refine s_pure h (ru_assign (h.ev rfl)) rfl ?_; intro f h
      refine s_nil ?_
      refine b_norm ?_
      refine hK7 _ _ ?_
      refine c_region ?_
      refine s_pure h (ru_add (h.ev rfl) (h.ev rfl) (by omega)) rfl ?_; intro f h
      replace s := s.nilSl 3 1
      refine s_pure h (ru_move (h.ev rfl)) rfl ?_; intro f h
      refine s_nil ?_
      refine t_norm ?_
      exact ⟨_, by omega, ⟨k + 1, v15, h.only ⟨rfl, rfl, rfl, slot_int rfl (by omega), trivial⟩, St.as (s.pick _ (List.sublist_append_right [_] _)) ⟨rfl, rfl, trivial⟩, rfl, by omega⟩⟩
    · skip
      refine c_region ?_
      refine s_load_row 1 h s row24 rfl rfl (rfl) rfl ?_; intro f h
      refine s_pure h (ru_move (h.ev rfl)) rfl ?_; intro f h
      refine s_call h s fnc18 (lfind_any L vo (k : Int) _ (hO.keep s.ext) hL) rfl rfl ?_; intro f w1 v9 hT hE h s; obtain rfl := hT
      refine s_pure h (ru_val (.bool false) (ru_lss (h.ev rfl) (h.ev rfl)) (congrArg Value.bool ((fn_lives hno).trans (by rw [l1]; rfl)))) rfl ?_; intro f h
      refine s_nil ?_
      refine hK9 _ _ ?_
      refine wpIn_cond_false (h.ev rfl) ?_
      refine wpIn_skip ?_
      refine b_norm ?_
      refine hK7 _ _ ?_
      refine c_region ?_
      refine s_pure h (ru_add (h.ev rfl) (h.ev rfl) (by omega)) rfl ?_; intro f h
      replace s := s.nilSl 3 1
      refine s_pure h (ru_move (h.ev rfl)) rfl ?_; intro f h
      refine s_nil ?_
      refine t_norm ?_
      exact ⟨_, by omega, ⟨k + 1, vb, h.only ⟨rfl, rfl, rfl, slot_int rfl (by omega), trivial⟩, St.as (s.pick _ (List.sublist_append_right [_] _)) ⟨sl_eq (by rw [deadK_n l1]) (by rw [deadK_n l1]), rfl, trivial⟩, rfl, by omega⟩⟩
  · replace hc := of_decide_eq_false hc
    refine wpIn_exit ?_
    refine t_exit ?_
    refine t_exit ?_
    refine b_exit ?_
    refine hK3 _ _ ?_
    refine c_seq fun K10 hK10 => ?_
    refine c_region ?_
    refine s_pure h (ru_move (h.ev rfl)) rfl ?_; intro f h
    refine s_pure h (ru_assign (h.ev rfl)) rfl ?_; intro f h
    refine s_nil ?_
    refine hK10 _ _ ?_
    refine wpIn_ret ?_
    exact e_tmp rfl h s rfl (by obtain rfl : k = 16 := (by omega); exact s.getSl 0 rfl)

set_option maxHeartbeats 1000000 in
theorem lans_any (L : List N3) (vo : Value) (no : Int) (x : Id) (w : World) (hO : RdO w vo L) (hL : L.length ≤ 40) (hrs : RS L) (hlv : livesB (memL L) no = true) (hb : RwB L) : Calls Try.prog 20 [.agg #[vo], .int .i64 no, idV x].toArray w (Ret w (is (.agg (nnArr (anM (memL L) (getL L no).1 x) (anB (memL L) (getL L no).1 x))))) := by
  obtain ⟨hgm, hgn⟩ := hrs.get hlv
  have hgr := hrs.rn _ hgm
  have hgb := hb.each _ hgm
  have hl16 := hrs.len
  have hnos := hrs.nos
  have hil : ixL L no < L.length := of_decide_eq_true ((ix_lives hnos).trans hlv)
  have hdl := deadK_le (memL L) 16
  have htd : drN (getL L no).1 (deadK (memL L) 16) = (td1 (memL L) (getL L no).1) := dead_drop hgr
  have hde : drE (getL L no).1 = 0 := (dr_ok [] (rn_iff.2 hgr)).2
  have hTr : RN (td1 (memL L) (getL L no).1) := td1_rn (l := memL L) hgr
  have hTl := hTr.len
  have hTf := hTr.fg.1
  have hix := (ix_get hil).1
  refine c_enter Try.func20 rfl Try.ntmps20 rfl [(0, .agg #[vo]), (1, .int .i64 no), (2, idV x)] (by simp) fun f h => ?_
  have s := St.start w
  refine c_seq fun K1 hK1 => ?_
  refine c_region ?_
  refine s_box (#[vo]) h s rfl rfl rfl ?_; intro f w1 b3 h s
  refine s_box (idArr x) h s rfl rfl rfl ?_; intro f w1 b5 h s
  refine s_alloc (nnArr zMb false) h s zero54 rfl rfl ?_; intro f w1 b6 h s
  refine s_nil ?_
  refine hK1 _ _ ?_
  refine c_seq fun K2 hK2 => ?_
  refine c_regC 0 [[], [0], [], [], [2, 3], [0, 1, 2, 3, 4], [0, 1, 2, 3, 4, 5], [], [2, 3, 4, 7], [0, 1, 2, 3, 4, 5, 6, 7, 8], [0, 1, 2, 3, 4, 5, 6, 7, 8, 9], [0, 1, 2, 3, 4, 5, 6, 7, 8, 9, 10], [0, 1, 2, 3, 4, 5, 6, 7, 8, 9, 10], [], [0, 1, 2, 3, 4, 5, 6, 7, 8, 9, 10, 11, 13], [0, 1, 2, 3, 4, 5, 6, 7, 8, 9, 10, 11, 12, 13, 14]] [[], [], [], [], [], [], [], [], [], [8], [], [], [], [], [13], []] [fun _ => [], fun _ => [], fun _ => [], fun _ => [], fun _ => [], fun _ => [], fun _ => [], fun _ => [], fun v => [.sl (v 8) 3 1 (deadK (memL L) 16).length (intC (deadK (memL L) 16))], fun v => [.sl (ndS 66 (v 9)) 30 33 (td1 (memL L) (getL L no).1).sc.length (mbCells (td1 (memL L) (getL L no).1).sc), .sl (ndS 67 (v 9)) 30 33 (td1 (memL L) (getL L no).1).fg.length (mbCells (td1 (memL L) (getL L no).1).fg)], fun _ => [], fun _ => [], fun _ => [], fun v => [.blk (pbk (v 13)) (.cells (ndArr zMb zMb nilV nilV) 46)], fun v => [.blk (pbk (v 13)) (.cells (ndArr (td1 (memL L) (getL L no).1).me (td1 (memL L) (getL L no).1).pr (ndS 66 (v 9)) (ndS 67 (v 9))) 46)], fun _ => []] [] [fun v => v 0 = .pointer (some ⟨b3, 0, none⟩), fun v => v 1 = vo, fun v => v 2 = .agg #[vo], fun v => v 3 = .int .i64 no, fun v => v 4 = .int .i64 (ixL L no : Int), fun v => v 5 = .pointer (some (elAddr vo (ixL L no * 68))), fun v => v 6 = .agg (ndArr (getL L no).1.me (getL L no).1.pr (getL L no).2.1 (getL L no).2.2), fun v => v 7 = .agg #[vo], fun _ => True, fun v => v 9 = .tuple #[.agg (ndArr (td1 (memL L) (getL L no).1).me (td1 (memL L) (getL L no).1).pr (ndS 66 (v 9)) (ndS 67 (v 9))), .int .i64 0], fun v => v 10 = .tuple #[.agg (ndArr (td1 (memL L) (getL L no).1).me (td1 (memL L) (getL L no).1).pr (ndS 66 (v 9)) (ndS 67 (v 9))), .int .i64 0], fun v => v 11 = .agg (ndArr (td1 (memL L) (getL L no).1).me (td1 (memL L) (getL L no).1).pr (ndS 66 (v 9)) (ndS 67 (v 9))), fun v => v 12 = .int .i64 0, fun v => ∃ b, v 13 = .pointer (some ⟨b, 0, none⟩), fun _ => True, fun v => v 15 = .int .i64 0] [.blk b6 (.cells (nnArr zMb false) 54), .blk b5 (.cells (idArr x) 26), .blk b3 (.cells (#[vo]) 24)] h s rfl (by kernel_rfl) (by kernel_rfl) (by kernel_rfl) (And.intro ?_ (And.intro ?_ (And.intro ?_ (And.intro ?_ (And.intro ?_ (And.intro ?_ (And.intro ?_ (And.intro ?_ (And.intro ?_ (And.intro ?_ (And.intro ?_ (And.intro ?_ (And.intro ?_ (And.intro ?_ (And.intro ?_ (And.intro ?_ (trivial))))))))))))))))) [0, 1, 2, 3, 4, 5, 6, 7, 9, 10, 11, 12, 14, 15] (by kernel_rfl) ?_
  · intro f9 w2 vl1 E9 hs9 hd9 hl hF s
    have e3 : f9.tmps.getD 3 undef = _ := oc_old hl 3 (by kernel_rfl) (by kernel_rfl) (h.holds 3 _ rfl)
    have h := fin_slot [(3, _)] (hs9.trans h.size) (hd9.trans h.defers) (holds_lk ⟨e3, trivial⟩)
    replace s : St w (.blk b6 (.cells (nnArr zMb false) 54) :: .blk b5 (.cells (idArr x) 26) :: .blk b3 (.cells (#[vo]) 24) :: E9) _ := s
    refine s_pure h (ru_field fld24_0 (h.ev rfl)) rfl ?_; intro f h
    exact s_nil ⟨_, oc_out 13 rfl (h.holds 13 _ rfl), rfl, s⟩
  · intro f9 w2 vl1 E9 hs9 hd9 hl hF s
    have e13 : f9.tmps.getD 13 undef = .pointer (some ⟨b3, 0, none⟩) := (oc_get hl 13 0 (by kernel_rfl) (by kernel_rfl)).trans (hF 0 (by decide))
    have h := fin_slot [(13, .pointer (some ⟨b3, 0, none⟩))] (hs9.trans h.size) (hd9.trans h.defers) (holds_lk ⟨e13, trivial⟩)
    replace s : St w (.blk b6 (.cells (nnArr zMb false) 54) :: .blk b5 (.cells (idArr x) 26) :: .blk b3 (.cells (#[vo]) 24) :: E9) _ := s
    refine s_load_at1 (V := vo) (cell_of_has (Has.of_own s 2 rfl) 0 rfl) h one22 rfl rfl ?_; intro f h
    exact s_nil ⟨_, oc_out 14 rfl (h.holds 14 _ rfl), rfl, s⟩
  · intro f9 w2 vl1 E9 hs9 hd9 hl hF s
    have e3 : f9.tmps.getD 3 undef = _ := oc_old hl 3 (by kernel_rfl) (by kernel_rfl) (h.holds 3 _ rfl)
    have h := fin_slot [(3, _)] (hs9.trans h.size) (hd9.trans h.defers) (holds_lk ⟨e3, trivial⟩)
    replace s : St w (.blk b6 (.cells (nnArr zMb false) 54) :: .blk b5 (.cells (idArr x) 26) :: .blk b3 (.cells (#[vo]) 24) :: E9) _ := s
    refine s_load_row 2 h s row24 rfl rfl (rfl) rfl ?_; intro f h
    exact s_nil ⟨_, oc_out 15 rfl (h.holds 15 _ rfl), rfl, s⟩
  · intro f9 w2 vl1 E9 hs9 hd9 hl hF s
    have e1 : f9.tmps.getD 1 undef = _ := oc_old hl 1 (by kernel_rfl) (by kernel_rfl) (h.holds 1 _ rfl)
    have h := fin_slot [(1, _)] (hs9.trans h.size) (hd9.trans h.defers) (holds_lk ⟨e1, trivial⟩)
    replace s : St w (.blk b6 (.cells (nnArr zMb false) 54) :: .blk b5 (.cells (idArr x) 26) :: .blk b3 (.cells (#[vo]) 24) :: E9) _ := s
    refine s_pure h (ru_move (h.ev rfl)) rfl ?_; intro f h
    exact s_nil ⟨_, oc_out 16 rfl (h.holds 16 _ rfl), rfl, s⟩
  · intro f9 w2 vl1 E9 hs9 hd9 hl hF s
    have e15 : f9.tmps.getD 15 undef = .agg #[vo] := (oc_get hl 15 2 (by kernel_rfl) (by kernel_rfl)).trans (hF 2 (by decide))
    have e16 : f9.tmps.getD 16 undef = .int .i64 no := (oc_get hl 16 3 (by kernel_rfl) (by kernel_rfl)).trans (hF 3 (by decide))
    have h := fin_slot [(15, .agg #[vo]), (16, .int .i64 no)] (hs9.trans h.size) (hd9.trans h.defers) (holds_lk ⟨e15, e16, trivial⟩)
    replace s : St w (.blk b6 (.cells (nnArr zMb false) 54) :: .blk b5 (.cells (idArr x) 26) :: .blk b3 (.cells (#[vo]) 24) :: E9) _ := s
    refine s_call h s fnc18 (ret_val (.int .i64 (ixL L no : Int)) (lfind_any L vo no _ (hO.keep s.ext) hL) (congrArg (Value.int .i64) (fn_y hil))) rfl rfl ?_; intro f w1 v9 hT hE h s; obtain rfl := hT
    exact s_nil ⟨_, oc_out 17 rfl (h.holds 17 _ rfl), rfl, s⟩
  · intro f9 w2 vl1 E9 hs9 hd9 hl hF s
    have e14 : f9.tmps.getD 14 undef = vo := (oc_get hl 14 1 (by kernel_rfl) (by kernel_rfl)).trans (hF 1 (by decide))
    have e17 : f9.tmps.getD 17 undef = .int .i64 (ixL L no : Int) := (oc_get hl 17 4 (by kernel_rfl) (by kernel_rfl)).trans (hF 4 (by decide))
    have h := fin_slot [(14, vo), (17, .int .i64 (ixL L no : Int))] (hs9.trans h.size) (hd9.trans h.defers) (holds_lk ⟨e14, e17, trivial⟩)
    replace s : St w (.blk b6 (.cells (nnArr zMb false) 54) :: .blk b5 (.cells (idArr x) 26) :: .blk b3 (.cells (#[vo]) 24) :: E9) _ := s
    refine s_pure h (ru_ixz (hO.1.keep s.ext) ((ixL L no)) Try.underlying22 szo46 (h.ev rfl) (h.ev rfl) (rfl) (by omega)) rfl ?_; intro f h
    exact s_nil ⟨_, oc_out 18 rfl (h.holds 18 _ rfl), rfl, s⟩
  · intro f9 w2 vl1 E9 hs9 hd9 hl hF s
    have e18 : f9.tmps.getD 18 undef = .pointer (some (elAddr vo (ixL L no * 68))) := (oc_get hl 18 5 (by kernel_rfl) (by kernel_rfl)).trans (hF 5 (by decide))
    have h := fin_slot [(18, .pointer (some (elAddr vo (ixL L no * 68))))] (hs9.trans h.size) (hd9.trans h.defers) (holds_lk ⟨e18, trivial⟩)
    replace s : St w (.blk b6 (.cells (nnArr zMb false) 54) :: .blk b5 (.cells (idArr x) 26) :: .blk b3 (.cells (#[vo]) 24) :: E9) _ := s
    refine s_load_at ((hO.1.keep s.ext).el ((ixL L no)) (by omega) (by decide) (D := ndArr (getL L no).1.me (getL L no).1.pr (getL L no).2.1 (getL L no).2.2) ((n3_el L (ixL L no) hil).trans (by rw [hix]))) h row46 rfl (ndArr_size _ _ _ _) rfl ?_; intro f h
    exact s_nil ⟨_, oc_out 19 rfl (h.holds 19 _ rfl), rfl, s⟩
  · intro f9 w2 vl1 E9 hs9 hd9 hl hF s
    have e3 : f9.tmps.getD 3 undef = _ := oc_old hl 3 (by kernel_rfl) (by kernel_rfl) (h.holds 3 _ rfl)
    have h := fin_slot [(3, _)] (hs9.trans h.size) (hd9.trans h.defers) (holds_lk ⟨e3, trivial⟩)
    replace s : St w (.blk b6 (.cells (nnArr zMb false) 54) :: .blk b5 (.cells (idArr x) 26) :: .blk b3 (.cells (#[vo]) 24) :: E9) _ := s
    refine s_load_row 2 h s row24 rfl rfl (rfl) rfl ?_; intro f h
    exact s_nil ⟨_, oc_out 20 rfl (h.holds 20 _ rfl), rfl, s⟩
  · intro f9 w2 vl1 E9 hs9 hd9 hl hF s
    have e20 : f9.tmps.getD 20 undef = .agg #[vo] := (oc_get hl 20 7 (by kernel_rfl) (by kernel_rfl)).trans (hF 7 (by decide))
    have h := fin_slot [(20, .agg #[vo])] (hs9.trans h.size) (hd9.trans h.defers) (holds_lk ⟨e20, trivial⟩)
    replace s : St w (.blk b6 (.cells (nnArr zMb false) 54) :: .blk b5 (.cells (idArr x) 26) :: .blk b3 (.cells (#[vo]) 24) :: E9) _ := s
    refine s_call h s fnc43 (ldead_any L vo _ (hO.keep s.ext) hL hnos) rfl rfl ?_; intro f w1 v21 hT9 hE h sq; replace s := s.sl_new hE hT9
    exact s_nil ⟨_, oc_out 21 rfl (h.holds 21 _ rfl), trivial, s⟩
  · intro f9 w2 vl1 E9 hs9 hd9 hl hF s
    have e19 : f9.tmps.getD 19 undef = .agg (ndArr (getL L no).1.me (getL L no).1.pr (getL L no).2.1 (getL L no).2.2) := (oc_get hl 19 6 (by kernel_rfl) (by kernel_rfl)).trans (hF 6 (by decide))
    have e21 : f9.tmps.getD 21 undef = (vl1 8) := oc_get hl 21 8 (by kernel_rfl) (by kernel_rfl)
    have h := fin_slot [(19, .agg (ndArr (getL L no).1.me (getL L no).1.pr (getL L no).2.1 (getL L no).2.2)), (21, (vl1 8))] (hs9.trans h.size) (hd9.trans h.defers) (holds_lk ⟨e19, e21, trivial⟩)
    replace s : St w (.sl (vl1 8) 3 1 (deadK (memL L) 16).length (intC (deadK (memL L) 16)) :: .blk b6 (.cells (nnArr zMb false) 54) :: .blk b5 (.cells (idArr x) 26) :: .blk b3 (.cells (#[vo]) 24) :: E9) _ := s
    refine s_call h s fnc42 (ndrop_any (getL L no).1 (getL L no).2.1 (getL L no).2.2 (deadK (memL L) 16) (vl1 8) _ ((rd_get hO.2 no).1.keep s.ext) ((rd_get hO.2 no).2.keep s.ext) (by omega) (by omega) (RdZ.of_own (s.getSl 0 rfl)) (by omega)) rfl rfl ?_; rintro f w1 v22 ⟨cu, cv, hv9, hS⟩ hE h sq; rw [htd, hde] at hv9; rw [htd] at hS; replace s := s.add hS
    have h66 : cu = ndS 66 v22 := by rw [hv9]; exact (ndS_66 (RdZ.of_own (hS.getSl 0 rfl))).symm
    have h67 : cv = ndS 67 v22 := by rw [hv9]; exact (ndS_67 (RdZ.of_own (hS.getSl 1 rfl))).symm
    clear hS
    subst h66; subst h67
    exact s_nil ⟨_, oc_out 22 rfl (h.holds 22 _ rfl), hv9, (s.pick _ (List.Sublist.cons_cons _ (List.Sublist.cons_cons _ (List.Sublist.cons _ (List.Sublist.cons_cons _ (List.Sublist.cons_cons _ (List.Sublist.cons_cons _ (List.Sublist.refl _))))))))⟩
  · intro f9 w2 vl1 E9 hs9 hd9 hl hF s
    have e22 : f9.tmps.getD 22 undef = .tuple #[.agg (ndArr (td1 (memL L) (getL L no).1).me (td1 (memL L) (getL L no).1).pr (ndS 66 (vl1 9)) (ndS 67 (vl1 9))), .int .i64 0] := (oc_get hl 22 9 (by kernel_rfl) (by kernel_rfl)).trans (hF 9 (by decide))
    have h := fin_slot [(22, .tuple #[.agg (ndArr (td1 (memL L) (getL L no).1).me (td1 (memL L) (getL L no).1).pr (ndS 66 (vl1 9)) (ndS 67 (vl1 9))), .int .i64 0])] (hs9.trans h.size) (hd9.trans h.defers) (holds_lk ⟨e22, trivial⟩)
    replace s : St w (.blk b6 (.cells (nnArr zMb false) 54) :: .blk b5 (.cells (idArr x) 26) :: .blk b3 (.cells (#[vo]) 24) :: E9) _ := s
    refine s_pure h (ru_move (h.ev rfl)) rfl ?_; intro f h
    exact s_nil ⟨_, oc_out 12 rfl (h.holds 12 _ rfl), rfl, s⟩
  · intro f9 w2 vl1 E9 hs9 hd9 hl hF s
    have e12 : f9.tmps.getD 12 undef = .tuple #[.agg (ndArr (td1 (memL L) (getL L no).1).me (td1 (memL L) (getL L no).1).pr (ndS 66 (vl1 9)) (ndS 67 (vl1 9))), .int .i64 0] := (oc_get hl 12 10 (by kernel_rfl) (by kernel_rfl)).trans (hF 10 (by decide))
    have h := fin_slot [(12, .tuple #[.agg (ndArr (td1 (memL L) (getL L no).1).me (td1 (memL L) (getL L no).1).pr (ndS 66 (vl1 9)) (ndS 67 (vl1 9))), .int .i64 0])] (hs9.trans h.size) (hd9.trans h.defers) (holds_lk ⟨e12, trivial⟩)
    replace s : St w (.blk b6 (.cells (nnArr zMb false) 54) :: .blk b5 (.cells (idArr x) 26) :: .blk b3 (.cells (#[vo]) 24) :: E9) _ := s
    refine s_pure h (ru_extract (h.ev rfl) rfl) rfl ?_; intro f h
    exact s_nil ⟨_, oc_out 23 rfl (h.holds 23 _ rfl), rfl, s⟩
  · intro f9 w2 vl1 E9 hs9 hd9 hl hF s
    have e12 : f9.tmps.getD 12 undef = .tuple #[.agg (ndArr (td1 (memL L) (getL L no).1).me (td1 (memL L) (getL L no).1).pr (ndS 66 (vl1 9)) (ndS 67 (vl1 9))), .int .i64 0] := (oc_get hl 12 10 (by kernel_rfl) (by kernel_rfl)).trans (hF 10 (by decide))
    have h := fin_slot [(12, .tuple #[.agg (ndArr (td1 (memL L) (getL L no).1).me (td1 (memL L) (getL L no).1).pr (ndS 66 (vl1 9)) (ndS 67 (vl1 9))), .int .i64 0])] (hs9.trans h.size) (hd9.trans h.defers) (holds_lk ⟨e12, trivial⟩)
    replace s : St w (.blk b6 (.cells (nnArr zMb false) 54) :: .blk b5 (.cells (idArr x) 26) :: .blk b3 (.cells (#[vo]) 24) :: E9) _ := s
    refine s_pure h (ru_extract (h.ev rfl) rfl) rfl ?_; intro f h
    exact s_nil ⟨_, oc_out 24 rfl (h.holds 24 _ rfl), rfl, s⟩
  · intro f9 w2 vl1 E9 hs9 hd9 hl hF s
    have h := fin_slot [] (hs9.trans h.size) (hd9.trans h.defers) (holds_lk trivial)
    replace s : St w (.blk b6 (.cells (nnArr zMb false) 54) :: .blk b5 (.cells (idArr x) 26) :: .blk b3 (.cells (#[vo]) 24) :: E9) _ := s
    refine s_alloc (ndArr zMb zMb nilV nilV) h s zero46 rfl rfl ?_; intro f w1 b7 h s
    exact s_nil ⟨_, oc_out 7 rfl (h.holds 7 _ rfl), ⟨_, rfl⟩, s⟩
  · intro f9 w2 vl1 E9 hs9 hd9 hl hF s
    obtain ⟨b7, hb7⟩ : ∃ b, vl1 13 = .pointer (some ⟨b, 0, none⟩) := hF 13 (by decide)
    have e7 : f9.tmps.getD 7 undef = .pointer (some ⟨b7, 0, none⟩) := (oc_get hl 7 13 (by kernel_rfl) (by kernel_rfl)).trans hb7
    have e23 : f9.tmps.getD 23 undef = .agg (ndArr (td1 (memL L) (getL L no).1).me (td1 (memL L) (getL L no).1).pr (ndS 66 (vl1 9)) (ndS 67 (vl1 9))) := (oc_get hl 23 11 (by kernel_rfl) (by kernel_rfl)).trans (hF 11 (by decide))
    have h := fin_slot [(7, .pointer (some ⟨b7, 0, none⟩)), (23, .agg (ndArr (td1 (memL L) (getL L no).1).me (td1 (memL L) (getL L no).1).pr (ndS 66 (vl1 9)) (ndS 67 (vl1 9))))] (hs9.trans h.size) (hd9.trans h.defers) (holds_lk ⟨e7, e23, trivial⟩)
    replace s : St w (.blk (pbk (vl1 13)) (.cells (ndArr zMb zMb nilV nilV) 46) :: .blk b6 (.cells (nnArr zMb false) 54) :: .blk b5 (.cells (idArr x) 26) :: .blk b3 (.cells (#[vo]) 24) :: E9) _ := s
    rw [hb7] at s
    replace s : St w (.blk b7 (.cells (ndArr zMb zMb nilV nilV) 46) :: .blk b6 (.cells (nnArr zMb false) 54) :: .blk b5 (.cells (idArr x) 26) :: .blk b3 (.cells (#[vo]) 24) :: E9) _ := s
    refine s_store_row 0 h s row46 rfl rfl rfl (ndArr_size _ _ _ _) (ndArr_size _ _ _ _) (ndArr_ones (ndS_one _ _) (ndS_one _ _)) ?_; intro w1 s
    refine s_nil ⟨undef, oc_none rfl, trivial, ?_⟩
    have z := s
    rw [← show pbk (vl1 13) = b7 from by rw [hb7]; rfl] at z
    exact z
  · intro f9 w2 vl1 E9 hs9 hd9 hl hF s
    have e24 : f9.tmps.getD 24 undef = .int .i64 0 := (oc_get hl 24 12 (by kernel_rfl) (by kernel_rfl)).trans (hF 12 (by decide))
    have h := fin_slot [(24, .int .i64 0)] (hs9.trans h.size) (hd9.trans h.defers) (holds_lk ⟨e24, trivial⟩)
    replace s : St w (.blk b6 (.cells (nnArr zMb false) 54) :: .blk b5 (.cells (idArr x) 26) :: .blk b3 (.cells (#[vo]) 24) :: E9) _ := s
    refine s_pure h (ru_assign (h.ev rfl)) rfl ?_; intro f h
    exact s_nil ⟨_, oc_out 8 rfl (h.holds 8 _ rfl), rfl, s⟩
  intro f w1 vl1 hs9 hd9 hv hr hF s
  obtain ⟨b7, hb7⟩ : ∃ b, vl1 13 = .pointer (some ⟨b, 0, none⟩) := hF 13 (by kernel_rfl)
  replace h := oc_sl (ops := _) [(13, .pointer (some ⟨b3, 0, none⟩)), (14, vo), (15, .agg #[vo]), (16, .int .i64 no), (17, .int .i64 (ixL L no : Int)), (18, .pointer (some (elAddr vo (ixL L no * 68)))), (19, .agg (ndArr (getL L no).1.me (getL L no).1.pr (getL L no).2.1 (getL L no).2.2)), (20, .agg #[vo]), (21, (vl1 8)), (22, .tuple #[.agg (ndArr (td1 (memL L) (getL L no).1).me (td1 (memL L) (getL L no).1).pr (ndS 66 (vl1 9)) (ndS 67 (vl1 9))), .int .i64 0]), (12, .tuple #[.agg (ndArr (td1 (memL L) (getL L no).1).me (td1 (memL L) (getL L no).1).pr (ndS 66 (vl1 9)) (ndS 67 (vl1 9))), .int .i64 0]), (23, .agg (ndArr (td1 (memL L) (getL L no).1).me (td1 (memL L) (getL L no).1).pr (ndS 66 (vl1 9)) (ndS 67 (vl1 9)))), (24, .int .i64 0), (7, .pointer (some ⟨b7, 0, none⟩)), (8, .int .i64 0)] h hs9 hd9 hr ⟨(hv 0 13 rfl).trans (hF 0 (by kernel_rfl)), (hv 1 14 rfl).trans (hF 1 (by kernel_rfl)), (hv 2 15 rfl).trans (hF 2 (by kernel_rfl)), (hv 3 16 rfl).trans (hF 3 (by kernel_rfl)), (hv 4 17 rfl).trans (hF 4 (by kernel_rfl)), (hv 5 18 rfl).trans (hF 5 (by kernel_rfl)), (hv 6 19 rfl).trans (hF 6 (by kernel_rfl)), (hv 7 20 rfl).trans (hF 7 (by kernel_rfl)), hv 8 21 rfl, (hv 9 22 rfl).trans (hF 9 (by kernel_rfl)), (hv 10 12 rfl).trans (hF 10 (by kernel_rfl)), (hv 11 23 rfl).trans (hF 11 (by kernel_rfl)), (hv 12 24 rfl).trans (hF 12 (by kernel_rfl)), (hv 13 7 rfl).trans hb7, (hv 15 8 rfl).trans (hF 15 (by kernel_rfl)), trivial⟩ (by kernel_rfl)
  replace s : St w [.sl (ndS 66 (vl1 9)) 30 33 (td1 (memL L) (getL L no).1).sc.length (mbCells (td1 (memL L) (getL L no).1).sc), .sl (ndS 67 (vl1 9)) 30 33 (td1 (memL L) (getL L no).1).fg.length (mbCells (td1 (memL L) (getL L no).1).fg), .blk (pbk (vl1 13)) (.cells (ndArr (td1 (memL L) (getL L no).1).me (td1 (memL L) (getL L no).1).pr (ndS 66 (vl1 9)) (ndS 67 (vl1 9))) 46), .blk b6 (.cells (nnArr zMb false) 54), .blk b5 (.cells (idArr x) 26), .blk b3 (.cells (#[vo]) 24)] _ := s
  rw [hb7] at s
  replace s : St w [.sl (ndS 66 (vl1 9)) 30 33 (td1 (memL L) (getL L no).1).sc.length (mbCells (td1 (memL L) (getL L no).1).sc), .sl (ndS 67 (vl1 9)) 30 33 (td1 (memL L) (getL L no).1).fg.length (mbCells (td1 (memL L) (getL L no).1).fg), .blk b7 (.cells (ndArr (td1 (memL L) (getL L no).1).me (td1 (memL L) (getL L no).1).pr (ndS 66 (vl1 9)) (ndS 67 (vl1 9))) 46), .blk b6 (.cells (nnArr zMb false) 54), .blk b5 (.cells (idArr x) 26), .blk b3 (.cells (#[vo]) 24)] _ := s
  refine hK2 _ _ ?_
  refine c_seq fun K3 hK3 => ?_
  refine c_seq fun K4 hK4 => ?_
  cases a1 : (anO (memL L) (getL L no).1 x : Bool)
  · skip
    refine c_region ?_
    refine s_load_row 2 h s row46 rfl rfl (ndArr_size _ _ _ _) rfl ?_; intro f h
    refine s_load_row 4 h s row26 rfl rfl (by first | exact idArr_size _ | exact bytesF_size _ _) rfl ?_; intro f h
    refine s_call h s fnc44 (ret_val (.bool false) (nowns_any (td1 (memL L) (getL L no).1) (ndS 66 (vl1 9)) (ndS 67 (vl1 9)) x _ (RdZ.of_own (s.getSl 0 rfl)) (RdZ.of_own (s.getSl 1 rfl)) (by omega) (by omega)) (congrArg Value.bool ((own_an hgr).trans a1))) rfl rfl ?_; intro f w1 v9 hT hE h s; obtain rfl := hT
    refine s_nil ?_
    refine hK4 _ _ ?_
    refine wpIn_cond_false (h.ev rfl) ?_
    refine wpIn_skip ?_
    refine hK3 _ _ ?_
    refine c_seq fun K5 hK5 => ?_
    refine c_region ?_
    refine s_load_row 2 h s row46 rfl rfl (ndArr_size _ _ _ _) rfl ?_; intro f h
    refine s_load_row 4 h s row26 rfl rfl (by first | exact idArr_size _ | exact bytesF_size _ _) rfl ?_; intro f h
    refine s_call h s fnc45 (nnext_any (td1 (memL L) (getL L no).1) (ndS 66 (vl1 9)) (ndS 67 (vl1 9)) x _ (RdZ.of_own (s.getSl 0 rfl)) (RdZ.of_own (s.getSl 1 rfl)) (by omega) (by omega)) rfl rfl ?_; intro f w1 v9 hT hE h s; obtain rfl := hT
    refine s_pure h (ru_move (h.ev rfl)) rfl ?_; intro f h
    refine s_pure h (ru_extract (h.ev rfl) rfl) rfl ?_; intro f h
    refine s_pure h (ru_extract (h.ev rfl) rfl) rfl ?_; intro f h
    refine s_pure h (ru_extract (h.ev rfl) rfl) rfl ?_; intro f h
    refine s_alloc (mbArr zMb) h s zero30 rfl rfl ?_; intro f w1 b9 h s
    refine s_store_row 0 h s row30 rfl rfl rfl (mbArr_size _) (mbArr_size _) (mbArr_ones _) ?_; intro w1 s
    refine s_pure h (ru_assign (h.ev rfl)) rfl ?_; intro f h
    refine s_pure h (ru_assign (h.ev rfl)) rfl ?_; intro f h
    refine s_nil ?_
    refine hK5 _ _ ?_
    refine c_seq fun K6 hK6 => ?_
    refine c_region ?_
    refine s_load_row 0 h s row30 rfl rfl (mbArr_size _) rfl ?_; intro f h
    refine s_pure h (ru_move (h.ev rfl)) rfl ?_; intro f h
    refine s_pure h (ru_build_nn2 sttA (h.ev rfl) (h.ev rfl)) rfl ?_; intro f h
    refine s_store_row 4 h s row54 rfl rfl rfl (nnArr_size _ _) (nnArr_size _ _) (nnArr_ones _ _) ?_; intro w1 s
    refine s_nil ?_
    refine hK6 _ _ ?_
    refine wpIn_ret ?_
    exact e_row 4 rfl h s row54 rfl rfl (nnArr_size _ _) (by show _ = _; rw [(an_nx a1).1, (an_nx a1).2])
  · skip
    refine c_region ?_
    refine s_load_row 2 h s row46 rfl rfl (ndArr_size _ _ _ _) rfl ?_; intro f h
    refine s_load_row 4 h s row26 rfl rfl (by first | exact idArr_size _ | exact bytesF_size _ _) rfl ?_; intro f h
    refine s_call h s fnc44 (ret_val (.bool true) (nowns_any (td1 (memL L) (getL L no).1) (ndS 66 (vl1 9)) (ndS 67 (vl1 9)) x _ (RdZ.of_own (s.getSl 0 rfl)) (RdZ.of_own (s.getSl 1 rfl)) (by omega) (by omega)) (congrArg Value.bool ((own_an hgr).trans a1))) rfl rfl ?_; intro f w1 v9 hT hE h s; obtain rfl := hT
    refine s_nil ?_
    refine hK4 _ _ ?_
    refine wpIn_cond_true (h.ev rfl) ?_
    refine c_seq fun K7 hK7 => ?_
    refine c_region ?_
    refine s_pure h (ru_field fld46_0 (h.ev rfl)) rfl ?_; intro f h
    refine s_load_at (Has.subL (Has.of_own s 2 rfl) 0 33 (D := mbArr (td1 (memL L) (getL L no).1).me) (ndArr_me _ _ _ _)) h row30 rfl (mbArr_size _) rfl ?_; intro f h
    refine s_pure h (ru_build_nn2 sttA (h.ev rfl) (h.ev rfl)) rfl ?_; intro f h
    refine s_store_row 3 h s row54 rfl rfl rfl (nnArr_size _ _) (nnArr_size _ _) (nnArr_ones _ _) ?_; intro w1 s
    refine s_nil ?_
    refine hK7 _ _ ?_
    refine wpIn_ret ?_
    refine t_ret ?_
    exact e_row 3 rfl h s row54 rfl rfl (nnArr_size _ _) (by show _ = _; rw [(an_own a1).1, (an_own a1).2]; rfl)
end Go.Proofs.Ytndbijifgalpbaa
