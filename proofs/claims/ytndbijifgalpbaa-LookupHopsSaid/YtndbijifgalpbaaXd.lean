/- What Drop of package node answers. -/
import Derived.Test.YtndbijifgalpbaaVj
set_option linter.unusedVariables false
set_option linter.unusedSimpArgs false
set_option linter.unusedSectionVars false
namespace Go.Proofs.Ytndbijifgalpbaa
open Go.RowKit
theorem oralone_any (l : List Mb) (vh : Value) (m : Mb) (B9 : List Own) (w0 w : World) (s : St w0 (.sl vh 30 33 (l).length (mbCells (l)) :: B9) w) : Calls Try.prog 73 [vh, .agg (mbArr m)].toArray w (fun e w9 => ∃ v9, e = .returned v9 ∧ St w0 (.sl v9 30 33 (orA l m).length (mbCells (orA l m)) :: B9) w9) := by
  refine c_enterF Try.func73 rfl Try.ntmps73 rfl [(0, vh), (1, .agg (mbArr m))] (by simp) fun f h => ?_
  refine c_seq fun K1 hK1 => ?_
  refine c_region ?_
  refine s_box ((mbArr m)) h s rfl rfl rfl ?_; intro f w1 b3 h s
  refine s_pure h (ru_assign (h.ev rfl)) rfl ?_; intro f h
  refine s_nil ?_
  refine hK1 _ _ ?_
  refine c_seq fun K2 hK2 => ?_
  refine c_seq fun K3 hK3 => ?_
  refine c_region ?_
  refine s_pure h (ru_move (h.ev rfl)) rfl ?_; intro f h
  refine s_len_sl 1 h s Try.underlying40 rfl rfl rfl ?_; intro f h
  refine s_pure h (ru_eql (h.ev rfl) (h.ev rfl)) rfl ?_; intro f h
  refine s_nil ?_
  refine hK3 _ _ ?_
  refine c_cond h rfl (fun hc => ?_) (fun hc => ?_)
  · have h0 : l.length = 0 := by have := of_decide_eq_true hc; omega
    refine c_seq fun K4 hK4 => ?_
    refine c_region ?_
    refine s_load_row 0 h s row30 rfl rfl (mbArr_size _) rfl ?_; intro f h
    refine s_bslice (vs := [.agg (mbArr m)]) [.tmp 8] h s Try.underlying40 elm30 rfl rfl (mb_sz _) rfl rfl rfl ?_; intro f w1 v9 h s
    replace s := s.resl (m := [m].length) (ys := mbCells [m]) 0 rfl rfl (by rw [one_mb, mbCells_one])
    refine s_pure h (ru_assign (h.ev rfl)) rfl ?_; intro f h
    refine s_nil ?_
    refine hK4 _ _ ?_
    refine wpIn_ret ?_
    refine t_ret ?_
    exact e_tmpF rfl h rfl (⟨_, rfl, sl_same (orA_n h0).symm (s.pick _ (List.Sublist.cons_cons _ (List.Sublist.cons _ (List.Sublist.cons _ (List.Sublist.refl _)))))⟩)
  · have h0 : ¬ l.length = 0 := by have := of_decide_eq_false hc; omega
    refine wpIn_skip ?_
    refine hK2 _ _ ?_
    refine c_seq fun K5 hK5 => ?_
    refine c_region ?_
    refine s_pure h (ru_move (h.ev rfl)) rfl ?_; intro f h
    refine s_pure h (ru_assign (h.ev rfl)) rfl ?_; intro f h
    refine s_nil ?_
    refine hK5 _ _ ?_
    refine wpIn_ret ?_
    exact e_tmpF rfl h rfl (⟨_, rfl, sl_same (orA_l h0).symm (s.pick _ (List.Sublist.cons _ (List.Sublist.cons_cons _ (List.Sublist.refl _))))⟩)

theorem ixint_any (nos : List Int) (vn : Value) (no : Int) (w : World) (hN : RdZ w vn 1 nos.length (nos.map (Value.int .i64))) (hnn : nos.length ≤ 1000) : Calls Try.prog 91 [vn, .int .i64 no].toArray w (Ret w (fun v _ => ∃ r : Int, v = .int .i64 r ∧ ((r = -1 ∧ ∀ k, k < nos.length → nos.getD k 0 ≠ no) ∨ ∃ k : Nat, k < nos.length ∧ r = (k : Int) ∧ nos.getD k 0 = no))) := by
  refine c_enter Try.func91 rfl Try.ntmps91 rfl [(0, vn), (1, .int .i64 no)] (by simp) fun f h => ?_
  have s := St.start w
  refine c_seq fun K1 hK1 => ?_
  refine c_region ?_
  refine s_pure h (ru_assign (h.ev rfl)) rfl ?_; intro f h
  refine s_nil ?_
  refine hK1 _ _ ?_
  refine c_seq fun K2 hK2 => ?_
  refine c_seq fun K3 hK3 => ?_
  refine c_region ?_
  refine s_pure h (ru_move (h.ev rfl)) rfl ?_; intro f h
  refine s_pure h (ru_lenZ (hN.keep s.ext) Try.underlying28 (h.ev rfl)) rfl ?_; intro f h
  refine s_pure h (ru_move (h.ev rfl)) rfl ?_; intro f h
  refine s_nil ?_
  refine hK3 _ _ ?_
  refine wpIn_block ?_
  refine wpIn_loop_ghost (fun nn aa ww => ∃ k : Nat, Sl 19 aa [(0, vn), (1, .int .i64 no), (6, vn), (7, .int .i64 (nos.length : Int)), (8, .int .i64 (k : Int))] ∧ St w [] ww ∧ nn = nos.length - k ∧ k ≤ nos.length ∧ ∀ j, j < k → decide (no = nos.getD j 0) = false) (nos.length - (0)) ⟨0, h.only ⟨rfl, rfl, rfl, rfl, slot_int rfl (by omega), trivial⟩, s.as trivial, rfl, Nat.zero_le _, fun j hj => absurd hj (Nat.not_lt_zero _)⟩ ?_
  rintro _ f w1 ⟨k, h, s, hnn, hp0, hp1⟩
  refine c_seq fun K4 hK4 => ?_
  refine c_region ?_
  refine s_pure h (ru_lss (h.ev rfl) (h.ev rfl)) rfl ?_; intro f h
  refine s_nil ?_
  refine hK4 _ _ ?_
  refine c_seq fun K5 hK5 => ?_
  refine c_cond h rfl (fun hc => ?_) (fun hc => ?_)
  · replace hc := of_decide_eq_true hc
    refine wpIn_skip ?_
    refine hK5 _ _ ?_
    refine c_seq fun K6 hK6 => ?_
    refine wpIn_block ?_
    refine c_seq fun K7 hK7 => ?_
    refine c_region ?_
    refine s_pure h (ru_move (h.ev rfl)) rfl ?_; intro f h
    refine s_pure h (ru_assign (h.ev rfl)) rfl ?_; intro f h
    refine s_nil ?_
    refine hK7 _ _ ?_
    refine c_seq fun K8 hK8 => ?_
    refine c_region ?_
    have hkl : k < nos.length := by omega
    refine s_pure h (ru_move (h.ev rfl)) rfl ?_; intro f h
    refine s_pure h (ru_move (h.ev rfl)) rfl ?_; intro f h
    refine s_pure h (ru_move (h.ev rfl)) rfl ?_; intro f h
    refine s_pure h (ru_ixz (hN.keep s.ext) (k) Try.underlying28 szo3 (h.ev rfl) (h.ev rfl) (by omega) (by omega)) rfl ?_; intro f h
    refine s_load_at1 ((hN.keep s.ext).el1 (k) (V := .int .i64 (nos.getD k 0)) (ns_el nos k hkl)) h one3 rfl rfl ?_; intro f h
    refine s_pure h (ru_eql (h.ev rfl) (h.ev rfl)) rfl ?_; intro f h
    refine s_nil ?_
    refine hK8 _ _ ?_
    refine c_cond h rfl (fun hc => ?_) (fun hc => ?_)
    · refine c_seq fun K9 hK9 => ?_
      refine c_region ?_
      refine s_pure h (ru_move (h.ev rfl)) rfl ?_; intro f h
      refine s_pure h (ru_assign (h.ev rfl)) rfl ?_; intro f h
      refine s_nil ?_
      refine hK9 _ _ ?_
      refine wpIn_ret ?_
      refine b_ret ?_
      refine t_ret ?_
      refine t_ret ?_
      refine b_ret ?_
      refine t_ret ?_
      exact e_tmp rfl h s rfl (⟨_, rfl, .inr ⟨k, hkl, rfl, (of_decide_eq_true hc).symm⟩⟩)
    · refine wpIn_skip ?_
      refine b_norm ?_
      refine hK6 _ _ ?_
      refine c_region ?_
      refine s_pure h (ru_add (h.ev rfl) (h.ev rfl) (by omega)) rfl ?_; intro f h
      refine s_pure h (ru_move (h.ev rfl)) rfl ?_; intro f h
      refine s_nil ?_
      refine t_norm ?_
      exact ⟨_, by omega, ⟨k + 1, h.only ⟨rfl, rfl, rfl, rfl, slot_int rfl (by omega), trivial⟩, St.as s trivial, rfl, by omega, qs_next (q := fun j => decide (no = nos.getD j 0)) hp1 hc⟩⟩
  · replace hc := of_decide_eq_false hc
    refine wpIn_exit ?_
    refine t_exit ?_
    refine t_exit ?_
    refine b_exit ?_
    refine hK2 _ _ ?_
    refine c_seq fun K10 hK10 => ?_
    refine c_region ?_
    refine s_pure h (ru_assign (h.ev rfl)) rfl ?_; intro f h
    refine s_nil ?_
    refine hK10 _ _ ?_
    refine wpIn_ret ?_
    exact e_tmp rfl h s rfl (⟨_, rfl, .inl ⟨rfl, fun i hi e9 => of_decide_eq_false (hp1 i (by omega)) e9.symm⟩⟩)

theorem ctint_any (nos : List Int) (vn : Value) (no : Int) (w : World) (hN : RdZ w vn 1 nos.length (nos.map (Value.int .i64))) (hnn : nos.length ≤ 1000) : Calls Try.prog 71 [vn, .int .i64 no].toArray w (Ret w (is (.bool (nos.any fun k => decide (k = no))))) := by
  refine c_enter Try.func71 rfl Try.ntmps71 rfl [(0, vn), (1, .int .i64 no)] (by simp) fun f h => ?_
  have s := St.start w
  refine c_seq fun K1 hK1 => ?_
  refine c_region ?_
  refine s_pure h (ru_assign (h.ev rfl)) rfl ?_; intro f h
  refine s_nil ?_
  refine hK1 _ _ ?_
  refine c_seq fun K2 hK2 => ?_
  refine c_region ?_
  refine s_pure h (ru_move (h.ev rfl)) rfl ?_; intro f h
  refine s_pure h (ru_move (h.ev rfl)) rfl ?_; intro f h
  refine s_call h s fnc91 (ixint_any nos vn no _ (hN.keep s.ext) hnn) rfl rfl ?_; rintro f w1 v9 ⟨r9, rfl, hr⟩ hE h s
  refine s_pure h (ru_val (.bool (nos.any fun k => decide (k = no))) (ru_geq (h.ev rfl) (h.ev rfl)) (congrArg Value.bool (ix_find hr))) rfl ?_; intro f h
  refine s_pure h (ru_assign (h.ev rfl)) rfl ?_; intro f h
  refine s_nil ?_
  refine hK2 _ _ ?_
  refine wpIn_ret ?_
  exact e_tmp rfl h s rfl (rfl)

theorem dropf_any (x : Mb) (nos : List Int) (vn : Value) (bx : Nat) (w : World) (hb : Tab w bx #[vn]) (hN : RdZ w vn 1 nos.length (nos.map (Value.int .i64))) (hnn : nos.length ≤ 1000) : Calls Try.prog 70 [.agg (mbArr x), .pointer (some ⟨bx, 0, none⟩)].toArray w (Ret w (is (.bool (goneB nos x)))) := by
  refine c_enter Try.func70 rfl Try.ntmps70 rfl [(0, .agg (mbArr x)), (1, .pointer (some ⟨bx, 0, none⟩))] (by simp) fun f h => ?_
  have s := St.start w
  refine c_seq fun K1 hK1 => ?_
  refine c_region ?_
  refine s_box ((mbArr x)) h s rfl rfl rfl ?_; intro f w1 b2 h s
  refine s_pure h (ru_assign (h.ev rfl)) rfl ?_; intro f h
  refine s_nil ?_
  refine hK1 _ _ ?_
  refine c_seq fun K2 hK2 => ?_
  refine c_region ?_
  refine s_load_at1 (V := vn) (cell_of_has (Has.of_tab (hb.keep s.ext)) 0 (rfl)) h one28 rfl rfl ?_; intro f h
  refine s_pure h (ru_field fld30_0 (h.ev rfl)) rfl ?_; intro f h
  refine s_load_at1 (cell_of_has (Has.of_own s 0 rfl) 0 (mbArr_no _)) h one3 rfl rfl ?_; intro f h
  refine s_call h s fnc71 (ctint_any nos vn x.1 _ (hN.keep s.ext) hnn) rfl rfl ?_; intro f w1 v9 hT hE h s; obtain rfl := hT
  refine s_pure h (ru_assign (h.ev rfl)) rfl ?_; intro f h
  refine s_nil ?_
  refine hK2 _ _ ?_
  refine wpIn_ret ?_
  exact e_tmp rfl h s rfl (rfl)

theorem indexf1_any (l : List Mb) (vh : Value) (g9 : Nat) (caps : List Value) (p : Mb → Bool) (w : World) (hR : RdZ w vh 33 l.length (mbCells l)) (hln : l.length ≤ 1000) (hg : Fnc Try.prog g9) (hp : ∀ w9, Ext w w9 → ∀ x ∈ l, Calls Try.prog g9 (.agg (mbArr x) :: caps).toArray w9 (Ret w9 (is (.bool (p x))))) : Calls Try.prog 86 [vh, .func (.func g9) #[] caps.toArray].toArray w (Ret w (fun v _ => ∃ r : Int, v = .int .i64 r ∧ ((r = -1 ∧ ∀ x ∈ l, p x = false) ∨ ∃ k : Nat, k < l.length ∧ r = (k : Int) ∧ p (l.getD k zMb) = true ∧ ∀ i, i < k → p (l.getD i zMb) = false))) := by
  refine c_enter Try.func86 rfl Try.ntmps86 rfl [(0, vh), (1, .func (.func g9) #[] caps.toArray)] (by simp) fun f h => ?_
  have s := St.start w
  refine c_seq fun K1 hK1 => ?_
  refine c_region ?_
  refine s_pure h (ru_assign (h.ev rfl)) rfl ?_; intro f h
  refine s_nil ?_
  refine hK1 _ _ ?_
  refine c_seq fun K2 hK2 => ?_
  refine c_seq fun K3 hK3 => ?_
  refine c_region ?_
  refine s_pure h (ru_move (h.ev rfl)) rfl ?_; intro f h
  refine s_pure h (ru_lenZ (hR.keep s.ext) Try.underlying40 (h.ev rfl)) rfl ?_; intro f h
  refine s_pure h (ru_move (h.ev rfl)) rfl ?_; intro f h
  refine s_nil ?_
  refine hK3 _ _ ?_
  refine wpIn_block ?_
  refine wpIn_loop_ghost (fun nn aa ww => ∃ k : Nat, Sl 19 aa [(0, vh), (1, .func (.func g9) #[] caps.toArray), (6, vh), (7, .int .i64 (l.length : Int)), (8, .int .i64 (k : Int))] ∧ St w [] ww ∧ nn = l.length - k ∧ k ≤ l.length ∧ ∀ i (hi : i < l.length), i < k → p l[i] = false) (l.length - (0)) ⟨0, h.only ⟨rfl, rfl, rfl, rfl, slot_int rfl (by omega), trivial⟩, s.as trivial, rfl, Nat.zero_le _, fun i hi h9 => absurd h9 (Nat.not_lt_zero _)⟩ ?_
  rintro _ f w1 ⟨k, h, s, hnn, hp0, hp1⟩
  refine c_seq fun K4 hK4 => ?_
  refine c_region ?_
  refine s_pure h (ru_lss (h.ev rfl) (h.ev rfl)) rfl ?_; intro f h
  refine s_nil ?_
  refine hK4 _ _ ?_
  refine c_seq fun K5 hK5 => ?_
  refine c_cond h rfl (fun hc => ?_) (fun hc => ?_)
  · replace hc := of_decide_eq_true hc
    refine wpIn_skip ?_
    refine hK5 _ _ ?_
    refine c_seq fun K6 hK6 => ?_
    refine wpIn_block ?_
    refine c_seq fun K7 hK7 => ?_
    refine c_region ?_
    refine s_pure h (ru_move (h.ev rfl)) rfl ?_; intro f h
    refine s_pure h (ru_assign (h.ev rfl)) rfl ?_; intro f h
    refine s_nil ?_
    refine hK7 _ _ ?_
    refine c_seq fun K8 hK8 => ?_
    refine c_region ?_
    have hkl : k < l.length := by omega
    refine s_pure h (ru_move (h.ev rfl)) rfl ?_; intro f h
    refine s_pure h (ru_move (h.ev rfl)) rfl ?_; intro f h
    refine s_pure h (ru_move (h.ev rfl)) rfl ?_; intro f h
    refine s_pure h (ru_ixz (hR.keep s.ext) (k) Try.underlying40 szo30 (h.ev rfl) (h.ev rfl) (by omega) (by omega)) rfl ?_; intro f h
    refine s_load_at ((hR.keep s.ext).el (k) (by omega) (by decide) (D := mbArr l[k]) (mb_el l k hkl)) h row30 rfl (mbArr_size _) rfl ?_; intro f h
    refine s_callV [.agg (mbArr l[k])] (caps := caps) h s hg rfl (hp _ s.ext _ (List.getElem_mem hkl)) rfl rfl ?_; intro f w1 v9 hT hE h s; obtain rfl := hT
    refine s_nil ?_
    refine hK8 _ _ ?_
    refine c_cond h rfl (fun hc => ?_) (fun hc => ?_)
    · refine c_seq fun K9 hK9 => ?_
      refine c_region ?_
      refine s_pure h (ru_move (h.ev rfl)) rfl ?_; intro f h
      refine s_pure h (ru_assign (h.ev rfl)) rfl ?_; intro f h
      refine s_nil ?_
      refine hK9 _ _ ?_
      refine wpIn_ret ?_
      refine b_ret ?_
      refine t_ret ?_
      refine t_ret ?_
      refine b_ret ?_
      refine t_ret ?_
      exact e_tmp rfl h s rfl (⟨_, rfl, .inr ⟨k, hkl, rfl, by rw [← mbD hkl]; exact hc, fun i hi => by rw [← mbD (show i < l.length by omega)]; exact hp1 i (by omega) hi⟩⟩)
    · refine wpIn_skip ?_
      refine b_norm ?_
      refine hK6 _ _ ?_
      refine c_region ?_
      refine s_pure h (ru_add (h.ev rfl) (h.ev rfl) (by omega)) rfl ?_; intro f h
      refine s_pure h (ru_move (h.ev rfl)) rfl ?_; intro f h
      refine s_nil ?_
      refine t_norm ?_
      exact ⟨_, by omega, ⟨k + 1, h.only ⟨rfl, rfl, rfl, rfl, slot_int rfl (by omega), trivial⟩, St.as s trivial, rfl, by omega, all_next (fun y => p y = false) hp1 hkl hc⟩⟩
  · replace hc := of_decide_eq_false hc
    refine wpIn_exit ?_
    refine t_exit ?_
    refine t_exit ?_
    refine b_exit ?_
    refine hK2 _ _ ?_
    refine c_seq fun K10 hK10 => ?_
    refine c_region ?_
    refine s_pure h (ru_assign (h.ev rfl)) rfl ?_; intro f h
    refine s_nil ?_
    refine hK10 _ _ ?_
    refine wpIn_ret ?_
    exact e_tmp rfl h s rfl (⟨_, rfl, .inl ⟨rfl, fun x hx => (by obtain ⟨i, hi, e⟩ := List.getElem_of_mem hx; rw [← e]; exact hp1 i hi (by omega))⟩⟩)

set_option maxHeartbeats 1000000 in
theorem deletef_any (l : List Mb) (hln : l.length ≤ 1000) (vh : Value) (g9 : Nat) (caps : List Value) (p : Mb → Bool) (B9 : List Own) (w0 w : World) (s : St w0 (.sl vh 30 33 (l).length (mbCells (l)) :: B9) w) (hg : Fnc Try.prog g9) (hp : ∀ (A9 : List Own) (w9 : World), St w0 (A9 ++ B9) w9 → ∀ x ∈ l, Calls Try.prog g9 (.agg (mbArr x) :: caps).toArray w9 (Ret w9 (is (.bool (p x))))) : Calls Try.prog 74 [vh, .func (.func g9) #[] caps.toArray].toArray w (fun e w9 => ∃ v9, e = .returned v9 ∧ St w0 (.sl v9 30 33 ((l.filter fun x => !p x)).length (mbCells ((l.filter fun x => !p x))) :: B9) w9) := by
  refine c_enterF Try.func74 rfl Try.ntmps74 rfl [(0, vh), (1, .func (.func g9) #[] caps.toArray)] (by simp) fun f h => ?_
  refine c_seq fun K1 hK1 => ?_
  refine c_region ?_
  refine s_pure h (ru_assign (h.ev rfl)) rfl ?_; intro f h
  refine s_nil ?_
  refine hK1 _ _ ?_
  refine c_seq fun K2 hK2 => ?_
  refine c_region ?_
  refine s_pure h (ru_move (h.ev rfl)) rfl ?_; intro f h
  refine s_pure h (ru_move (h.ev rfl)) rfl ?_; intro f h
  refine s_call h s fnc86 (indexf1_any l vh g9 caps p _ (RdZ.of_own (s.getSl 0 rfl)) hln hg (fun w9 h9 x hx => hp [_] w9 (s.more h9) x hx)) rfl rfl ?_; rintro f w1 v9 ⟨r9, rfl, hr⟩ hE h s
  refine s_pure h (ru_assign (h.ev rfl)) rfl ?_; intro f h
  refine s_nil ?_
  refine hK2 _ _ ?_
  refine c_seq fun K3 hK3 => ?_
  refine c_seq fun K4 hK4 => ?_
  refine c_region ?_
  refine s_pure h (ru_move (h.ev rfl)) rfl ?_; intro f h
  refine s_pure h (ru_eql (h.ev rfl) (h.ev rfl)) rfl ?_; intro f h
  refine s_nil ?_
  refine hK4 _ _ ?_
  refine c_cond h rfl (fun hc => ?_) (fun hc => ?_)
  · have hc := of_decide_eq_true hc
    have hn := (hr.resolve_right (fun ⟨k9, _, h9, _⟩ => by omega)).2
    refine c_seq fun K5 hK5 => ?_
    refine c_region ?_
    refine s_pure h (ru_move (h.ev rfl)) rfl ?_; intro f h
    refine s_pure h (ru_assign (h.ev rfl)) rfl ?_; intro f h
    refine s_nil ?_
    refine hK5 _ _ ?_
    refine wpIn_ret ?_
    refine t_ret ?_
    exact e_tmpF rfl h rfl (⟨_, rfl, sl_same (drop_none hn).symm s⟩)
  · obtain ⟨k9, hk9, rfl, hpk, hpf⟩ := hr.resolve_left (fun h9 => of_decide_eq_false hc h9.1)
    have hqk : (!p (l.getD k9 zMb)) = false := by rw [hpk]; rfl
    obtain ⟨hst1, hst2⟩ := stS_start (q := (fun x => !p x)) hk9 (fun i hi => by rw [hpf i hi]; rfl) hqk
    refine wpIn_skip ?_
    refine hK3 _ _ ?_
    refine c_seq fun K6 hK6 => ?_
    refine c_seq fun K7 hK7 => ?_
    refine c_region ?_
    refine s_pure h (ru_move (h.ev rfl)) rfl ?_; intro f h
    refine s_pure h (ru_add (h.ev rfl) (h.ev rfl) (by omega)) rfl ?_; intro f h
    refine s_pure h (ru_assign (h.ev rfl)) rfl ?_; intro f h
    refine s_nil ?_
    refine hK7 _ _ ?_
    refine wpIn_block ?_
    refine wpIn_loop_ghost (fun nn aa ww => ∃ j : Nat, Sl 42 aa [(0, vh), (1, .func (.func g9) #[] caps.toArray), (8, vh), (5, .int .i64 (((ixS (fun x => !p x) l j) : Nat) : Int)), (6, .int .i64 (j : Int))] ∧ St w0 (.sl vh 30 33 (l).length (mbCells (stS (fun x => !p x) l j)) :: B9) ww ∧ nn = l.length - j ∧ k9 + 1 ≤ j ∧ j ≤ l.length) (l.length - (k9 + 1)) ⟨k9 + 1, h.only ⟨rfl, rfl, rfl, slot_int rfl (by omega), slot_int rfl (by omega), trivial⟩, s.as ⟨sl_eq rfl (by rw [hst1]), beq'_refl _⟩, rfl, by omega, by omega⟩ ?_
    rintro _ f w1 ⟨j, h, s, hnn, hp0, hp1⟩
    refine c_seq fun K8 hK8 => ?_
    refine c_seq fun K9 hK9 => ?_
    refine c_region ?_
    refine s_pure h (ru_move (h.ev rfl)) rfl ?_; intro f h
    refine s_pure h (ru_move (h.ev rfl)) rfl ?_; intro f h
    refine s_len_sl 0 h s Try.underlying40 rfl rfl rfl ?_; intro f h
    refine s_pure h (ru_lss (h.ev rfl) (h.ev rfl)) rfl ?_; intro f h
    refine s_nil ?_
    refine hK9 _ _ ?_
    refine c_cond h rfl (fun hc => ?_) (fun hc => ?_)
    · replace hc := of_decide_eq_true hc
      refine wpIn_skip ?_
      refine hK8 _ _ ?_
      refine c_seq fun K10 hK10 => ?_
      refine wpIn_block ?_
      refine c_seq fun K11 hK11 => ?_
      refine c_region ?_
      have hjl : j < l.length := by omega
      have hix := ixS_le (fun x => !p x) l j
      refine s_pure h (ru_move (h.ev rfl)) rfl ?_; intro f h
      refine s_pure h (ru_move (h.ev rfl)) rfl ?_; intro f h
      refine s_pure h (ru_ixz (RdZ.of_own (s.getSl 0 rfl)) (j) Try.underlying40 szo30 (h.ev rfl) (h.ev rfl) (rfl) (by omega)) rfl ?_; intro f h
      refine s_load_at ((RdZ.of_own (s.getSl 0 rfl)).el (j) (by omega) (by decide) (D := mbArr (l.getD j zMb)) ((mb_elD (stS (fun x => !p x) l j) j (by rw [stS_len]; omega)).trans (by rw [stS_get hjl]))) h row30 rfl (mbArr_size _) rfl ?_; intro f h
      refine s_alloc (mbArr zMb) h s zero30 rfl rfl ?_; intro f w1 b7 h s
      refine s_store_row 0 h s row30 rfl rfl rfl (mbArr_size _) (mbArr_size _) (mbArr_ones _) ?_; intro w1 s
      refine s_nil ?_
      refine hK11 _ _ ?_
      refine c_seq fun K12 hK12 => ?_
      cases hq : (p (l.getD j zMb) : Bool)
      · skip
        refine c_region ?_
        refine s_pure h (ru_move (h.ev rfl)) rfl ?_; intro f h
        refine s_load_row 0 h s row30 rfl rfl (mbArr_size _) rfl ?_; intro f h
        refine s_callV [.agg (mbArr (l.getD j zMb))] (caps := caps) h s hg rfl (hp [_, _] _ s _ (mb_mem hjl)) rfl rfl ?_; intro f w1 v28 hT hE h s; obtain rfl := hT
        refine s_pure h (ru_val (.bool true) (ru_not (h.ev rfl)) (by rw [hq]; rfl)) rfl ?_; intro f h
        refine s_nil ?_
        refine hK12 _ _ ?_
        refine wpIn_cond_true (h.ev rfl) ?_
        refine c_seq fun K13 hK13 => ?_
        refine c_region ?_
        refine s_pure h (ru_move (h.ev rfl)) rfl ?_; intro f h
        refine s_pure h (ru_move (h.ev rfl)) rfl ?_; intro f h
        refine s_load_row 0 h s row30 rfl rfl (mbArr_size _) rfl ?_; intro f h
        refine s_pure h (ru_ixz (RdZ.of_own (s.getSl 1 rfl)) ((ixS (fun x => !p x) l j)) Try.underlying40 szo30 (h.ev rfl) (h.ev rfl) (rfl) (by omega)) rfl ?_; intro f h
        refine s_store_el 1 ((ixS (fun x => !p x) l j)) h s row30 rfl rfl rfl (mbArr_size _) (by omega) (mbArr_ones _) ((mb_set (l := (stS (fun x => !p x) l j)) _ (by rw [stS_len]; omega)).trans (congrArg mbCells (stS_yes (q := (fun x => !p x)) hjl (by rw [hq]; rfl)).1.symm)) ?_; intro w1 s
        refine s_nil ?_
        refine hK13 _ _ ?_
        refine c_region ?_
        refine s_pure h (ru_move (h.ev rfl)) rfl ?_; intro f h
        refine s_pure h (ru_add (h.ev rfl) (h.ev rfl) (by omega)) rfl ?_; intro f h
        refine s_pure h (ru_assign (h.ev rfl)) rfl ?_; intro f h
        refine s_nil ?_
        refine b_norm ?_
        refine hK10 _ _ ?_
        refine c_region ?_
        refine s_pure h (ru_move (h.ev rfl)) rfl ?_; intro f h
        refine s_pure h (ru_add (h.ev rfl) (h.ev rfl) (by omega)) rfl ?_; intro f h
        refine s_pure h (ru_assign (h.ev rfl)) rfl ?_; intro f h
        refine s_nil ?_
        refine t_norm ?_
        have h8 := (stS_yes (q := (fun x => !p x)) hjl (by rw [hq]; rfl)).2
        exact ⟨_, by omega, ⟨j + 1, h.only ⟨rfl, rfl, rfl, slot_int rfl (by omega), slot_int rfl (by omega), trivial⟩, St.as (s.pick _ (List.sublist_append_right [_] _)) ⟨rfl, beq'_refl _⟩, rfl, by omega, by omega⟩⟩
      · skip
        refine c_region ?_
        refine s_pure h (ru_move (h.ev rfl)) rfl ?_; intro f h
        refine s_load_row 0 h s row30 rfl rfl (mbArr_size _) rfl ?_; intro f h
        refine s_callV [.agg (mbArr (l.getD j zMb))] (caps := caps) h s hg rfl (hp [_, _] _ s _ (mb_mem hjl)) rfl rfl ?_; intro f w1 v28 hT hE h s; obtain rfl := hT
        refine s_pure h (ru_val (.bool false) (ru_not (h.ev rfl)) (by rw [hq]; rfl)) rfl ?_; intro f h
        refine s_nil ?_
        refine hK12 _ _ ?_
        refine wpIn_cond_false (h.ev rfl) ?_
        refine wpIn_skip ?_
        refine b_norm ?_
        refine hK10 _ _ ?_
        refine c_region ?_
        refine s_pure h (ru_move (h.ev rfl)) rfl ?_; intro f h
        refine s_pure h (ru_add (h.ev rfl) (h.ev rfl) (by omega)) rfl ?_; intro f h
        refine s_pure h (ru_assign (h.ev rfl)) rfl ?_; intro f h
        refine s_nil ?_
        refine t_norm ?_
        obtain ⟨h7, h8⟩ := stS_no (q := (fun x => !p x)) hjl (by rw [hq]; rfl)
        exact ⟨_, by omega, ⟨j + 1, h.only ⟨rfl, rfl, rfl, slot_int rfl (by omega), slot_int rfl (by omega), trivial⟩, St.as (s.pick _ (List.sublist_append_right [_] _)) ⟨sl_eq rfl (by rw [h7]), beq'_refl _⟩, rfl, by omega, by omega⟩⟩
    · replace hc := of_decide_eq_false hc
      refine wpIn_exit ?_
      refine t_exit ?_
      refine t_exit ?_
      refine b_exit ?_
      refine hK6 _ _ ?_
      refine c_seq fun K14 hK14 => ?_
      refine c_region ?_
      obtain rfl : j = l.length := by omega
      have hlt := ixS_lt (q := (fun x => !p x)) hk9 hqk
      have hI := ixS_end (fun x => !p x) l
      obtain ⟨b9, cap, cur, fz, hvh, hfz, hnc, hcm, hcs, hct, s2⟩ := s.open_sl (by omega)
      clear s
      subst hvh
      have s := s2
      have hz33 : (Value.agg (mbArr zMb)).cells.size = 33 := mbArr_size _
      refine s_pure h (ru_move (h.ev rfl)) rfl ?_; intro f h
      refine s_pure h (ru_move (h.ev rfl)) rfl ?_; intro f h
      refine s_pure h (ru_val (.slice (some ⟨b9, (ixS (fun x => !p x) l l.length) * 33, none⟩) (l.length - (ixS (fun x => !p x) l l.length)) (cap - (ixS (fun x => !p x) l l.length))) (ru_slice_lo_lit (i := (ixS (fun x => !p x) l l.length)) Try.underlying40 szo30 (h.ev rfl) (h.ev rfl) rfl (by omega)) (by unfold loA; rw [if_neg (by omega)])) rfl ?_; intro f h
      refine s_clear_blk (fz := fz) (Z := .agg (mbArr zMb)) 0 h s Try.underlying40 zero30 rfl (by omega) rfl hfz (by rw [hz33]; omega) (mbArr_ones _) ?_; intro w1 s
      refine s_nil ?_
      refine hK14 _ _ ?_
      refine c_seq fun K15 hK15 => ?_
      refine c_region ?_
      refine s_pure h (ru_move (h.ev rfl)) rfl ?_; intro f h
      refine s_pure h (ru_move (h.ev rfl)) rfl ?_; intro f h
      refine s_pure h (ru_slice_hi_lit (i := (ixS (fun x => !p x) l l.length)) Try.underlying40 szo30 (h.ev rfl) (h.ev rfl) rfl (by omega)) rfl ?_; intro f h
      refine s_pure h (ru_assign (h.ev rfl)) rfl ?_; intro f h
      refine s_nil ?_
      refine hK15 _ _ ?_
      refine wpIn_ret ?_
      exact e_tmpF rfl h rfl (⟨_, rfl, (by have hzl : (Builtin.zeroCells (Value.agg (mbArr zMb)).cells (l.length - (ixS (fun x => !p x) l l.length))).toList.length = (l.length - (l.filter fun x => !p x).length) * 33 := (by rw [Array.length_toList, size_zeroCells, hz33, hI]); obtain ⟨hf1, hf2⟩ := drop_fin cur.toList _ (fun x => !p x) l hct (by have e9 := Array.length_toList (xs := cur); omega) hzl ((ixS (fun x => !p x) l l.length) * 33) (by rw [hI]) ((l.length - (ixS (fun x => !p x) l l.length)) * (Value.agg (mbArr zMb)).cells.size) (by rw [hz33, hI]); rw [← hI]; exact s.close_sl (by rw [List.size_toArray]; exact hfz.imp id fun h9 => (by rw [hf1, Array.length_toList]; exact h9)) (by omega) hcm (by rw [List.size_toArray]; exact hf1.trans hcs) hf2 (by rw [mbCells_len, hI]))⟩)

set_option maxHeartbeats 1000000 in
theorem ndrop_any (n : Nd) (vs vf : Value) (nos : List Int) (vn : Value) (w : World) (hRs : RdZ w vs 33 n.sc.length (mbCells n.sc)) (hRf : RdZ w vf 33 n.fg.length (mbCells n.fg)) (hns : n.sc.length ≤ 1000) (hnf : n.fg.length ≤ 1000) (hN : RdZ w vn 1 nos.length (nos.map (Value.int .i64))) (hnn : nos.length ≤ 1000) : Calls Try.prog 42 [.agg (ndArr n.me n.pr vs vf), vn].toArray w (Ret w (NodP w 30 (drN n nos) (drE n))) := by
  refine c_enter Try.func42 rfl Try.ntmps42 rfl [(0, .agg (ndArr n.me n.pr vs vf)), (1, vn)] (by simp) fun f h => ?_
  have s := St.start w
  refine c_seq fun K1 hK1 => ?_
  refine c_region ?_
  refine s_box (ndArr n.me n.pr vs vf) h s rfl rfl rfl ?_; intro f w1 b2 h s
  refine s_box (#[vn]) h s rfl (rd_arr (hN.keep s.ext)) rfl ?_; intro f w1 b3 h s
  refine s_alloc (ndArr zMb zMb nilV nilV) h s zero46 rfl rfl ?_; intro f w1 b4 h s
  refine s_pure h (ru_assign (h.ev rfl)) rfl ?_; intro f h
  refine s_nil ?_
  refine hK1 _ _ ?_
  refine c_seq fun K2 hK2 => ?_
  refine c_seq fun K3 hK3 => ?_
  cases hr : (rightN n : Bool)
  · skip
    refine c_region ?_
    refine s_load_row 2 h s row46 rfl rfl (ndArr_size _ _ _ _) rfl ?_; intro f h
    refine s_call h s fnc38 (ret_val (.bool false) (nright_any n vs vf _ (hRs.keep s.ext) (hRf.keep s.ext) hns hnf) (congrArg Value.bool hr)) rfl rfl ?_; intro f w1 v9 hT hE h s; obtain rfl := hT
    refine s_pure h (ru_val (.bool true) (ru_not (h.ev rfl)) rfl) rfl ?_; intro f h
    refine s_nil ?_
    refine hK3 _ _ ?_
    refine wpIn_cond_true (h.ev rfl) ?_
    refine c_seq fun K4 hK4 => ?_
    refine c_region ?_
    refine s_pure h (ru_build_nd0 sttN) rfl ?_; intro f h
    refine s_store_row 0 h s row46 rfl rfl rfl (ndArr_size _ _ _ _) (ndArr_size _ _ _ _) (ndArr_ones (rfl) (rfl)) ?_; intro w1 s
    refine s_pure h (ru_assign (h.ev rfl)) rfl ?_; intro f h
    refine s_nil ?_
    refine hK4 _ _ ?_
    refine wpIn_ret ?_
    refine t_ret ?_
    exact e_row_tmp 0 rfl h s row46 rfl rfl (ndArr_size _ _ _ _) rfl (nod_no s (dr_no nos hr).1 (dr_no nos hr).2)
  · skip
    refine c_region ?_
    refine s_load_row 2 h s row46 rfl rfl (ndArr_size _ _ _ _) rfl ?_; intro f h
    refine s_call h s fnc38 (ret_val (.bool true) (nright_any n vs vf _ (hRs.keep s.ext) (hRf.keep s.ext) hns hnf) (congrArg Value.bool hr)) rfl rfl ?_; intro f w1 v9 hT hE h s; obtain rfl := hT
    refine s_pure h (ru_val (.bool false) (ru_not (h.ev rfl)) rfl) rfl ?_; intro f h
    refine s_nil ?_
    refine hK3 _ _ ?_
    refine wpIn_cond_false (h.ev rfl) ?_
    refine wpIn_skip ?_
    refine hK2 _ _ ?_
    refine c_seq fun K5 hK5 => ?_
    refine c_region ?_
    have hrt := hr
    refine s_pure h (ru_makeFunc [.pointer (some ⟨b3, 0, none⟩)] (evsA h rfl)) rfl ?_; intro f h
    refine s_pure h (ru_assign (h.ev rfl)) rfl ?_; intro f h
    refine s_nil ?_
    refine hK5 _ _ ?_
    refine c_seq fun K6 hK6 => ?_
    refine c_region ?_
    refine s_load_row 2 h s row46 rfl rfl (ndArr_size _ _ _ _) rfl ?_; intro f h
    refine s_call h s fnc72 (copied_any n vs vf _ (hRs.keep s.ext) (hRf.keep s.ext) hns hnf) rfl rfl ?_; rintro f w1 v13 ⟨us, uf, rfl, hS⟩ hE h sq; replace s := s.add hS
    refine s_store_row 4 h s row46 rfl rfl rfl (ndArr_size _ _ _ _) (ndArr_size _ _ _ _) (ndArr_ones (own_one (s.getSl 0 rfl)) (own_one (s.getSl 1 rfl))) ?_; intro w1 s
    refine s_nil ?_
    refine hK6 _ _ ?_
    refine c_seq fun K7 hK7 => ?_
    refine c_regT 1 7 [[], [0], [], [0, 1, 2], [], [4], [0, 1, 2, 3, 4, 5], [0, 1, 2, 3, 4, 5, 6], [0, 1, 2, 3, 4, 5, 6, 7]] [[], [], [], [9], [], [], [3], [], []] [fun _ => [], fun _ => [], fun _ => [], fun v => [.sl (v 3) 30 33 (n.sc.filter fun x => !(goneB nos) x).length (mbCells (n.sc.filter fun x => !(goneB nos) x))], fun _ => [], fun _ => [], fun v => [.sl (v 6) 30 33 (orA (n.sc.filter fun x => !(goneB nos) x) n.me).length (mbCells (orA (n.sc.filter fun x => !(goneB nos) x) n.me))], fun _ => [], fun _ => []] [[.sl us 30 33 n.sc.length (mbCells n.sc)]] [fun v => v 0 = .pointer (some ⟨b2, 66, none⟩), fun v => v 1 = us, fun v => v 2 = .func (.func 70) #[] #[.pointer (some ⟨b3, 0, none⟩)], fun _ => True, fun v => v 4 = .pointer (some ⟨b2, 0, none⟩), fun v => v 5 = .agg (mbArr n.me), fun _ => True, fun _ => True, fun _ => True] [.sl uf 30 33 n.fg.length (mbCells n.fg), .blk b4 (.cells (ndArr zMb zMb nilV nilV) 46), .blk b3 (.cells (#[vn]) 28), .blk b2 (.cells (ndArr n.me n.pr us uf) 46)] h s rfl (by kernel_rfl) (by kernel_rfl) (by kernel_rfl) (And.intro ?_ (And.intro ?_ (And.intro ?_ (And.intro ?_ (And.intro ?_ (And.intro ?_ (And.intro ?_ (trivial)))))))) [0, 1, 2, 4, 5, 6] (by kernel_rfl) ?_
    · intro f9 w2 vl5 E9 hs9 hd9 hl hF s
      have e2 : f9.tmps.getD 2 undef = _ := oc_old hl 2 (by kernel_rfl) (by kernel_rfl) (h.holds 2 _ rfl)
      have h := fin_slot [(2, _)] (hs9.trans h.size) (hd9.trans h.defers) (holds_lk ⟨e2, trivial⟩)
      replace s : St w (.sl uf 30 33 n.fg.length (mbCells n.fg) :: .blk b4 (.cells (ndArr zMb zMb nilV nilV) 46) :: .blk b3 (.cells (#[vn]) 28) :: .blk b2 (.cells (ndArr n.me n.pr us uf) 46) :: E9) _ := s
      refine s_pure h (ru_field fld46_2 (h.ev rfl)) rfl ?_; intro f h
      exact s_nil ⟨_, oc_out 14 rfl (h.holds 14 _ rfl), rfl, s⟩
    · intro f9 w2 vl5 E9 hs9 hd9 hl hF s
      have e14 : f9.tmps.getD 14 undef = .pointer (some ⟨b2, 66, none⟩) := (oc_get hl 14 0 (by kernel_rfl) (by kernel_rfl)).trans (hF 0 (by decide))
      have h := fin_slot [(14, .pointer (some ⟨b2, 66, none⟩))] (hs9.trans h.size) (hd9.trans h.defers) (holds_lk ⟨e14, trivial⟩)
      replace s : St w (.sl uf 30 33 n.fg.length (mbCells n.fg) :: .blk b4 (.cells (ndArr zMb zMb nilV nilV) 46) :: .blk b3 (.cells (#[vn]) 28) :: .blk b2 (.cells (ndArr n.me n.pr us uf) 46) :: E9) _ := s
      refine s_load_at1 (V := us) (cell_of_has (Has.of_own s 3 rfl) 66 (ndArr_sc _ _ _ _)) h one40 rfl rfl ?_; intro f h
      exact s_nil ⟨_, oc_out 15 rfl (h.holds 15 _ rfl), rfl, s⟩
    · intro f9 w2 vl5 E9 hs9 hd9 hl hF s
      have e6 : f9.tmps.getD 6 undef = _ := oc_old hl 6 (by kernel_rfl) (by kernel_rfl) (h.holds 6 _ rfl)
      have h := fin_slot [(6, _)] (hs9.trans h.size) (hd9.trans h.defers) (holds_lk ⟨e6, trivial⟩)
      replace s : St w (.sl uf 30 33 n.fg.length (mbCells n.fg) :: .blk b4 (.cells (ndArr zMb zMb nilV nilV) 46) :: .blk b3 (.cells (#[vn]) 28) :: .blk b2 (.cells (ndArr n.me n.pr us uf) 46) :: E9) _ := s
      refine s_pure h (ru_move (h.ev rfl)) rfl ?_; intro f h
      exact s_nil ⟨_, oc_out 16 rfl (h.holds 16 _ rfl), rfl, s⟩
    · intro f9 w2 vl5 E9 hs9 hd9 hl hF s
      have e15 : f9.tmps.getD 15 undef = us := (oc_get hl 15 1 (by kernel_rfl) (by kernel_rfl)).trans (hF 1 (by decide))
      have e16 : f9.tmps.getD 16 undef = .func (.func 70) #[] #[.pointer (some ⟨b3, 0, none⟩)] := (oc_get hl 16 2 (by kernel_rfl) (by kernel_rfl)).trans (hF 2 (by decide))
      have h := fin_slot [(15, us), (16, .func (.func 70) #[] #[.pointer (some ⟨b3, 0, none⟩)])] (hs9.trans h.size) (hd9.trans h.defers) (holds_lk ⟨e15, e16, trivial⟩)
      replace s : St w (.sl us 30 33 n.sc.length (mbCells n.sc) :: .sl uf 30 33 n.fg.length (mbCells n.fg) :: .blk b4 (.cells (ndArr zMb zMb nilV nilV) 46) :: .blk b3 (.cells (#[vn]) 28) :: .blk b2 (.cells (ndArr n.me n.pr us uf) 46) :: E9) _ := s
      refine s_callS [us, .func (.func 70) #[] #[.pointer (some ⟨b3, 0, none⟩)]] h fnc74 (deletef_any n.sc hns us 70 [.pointer (some ⟨b3, 0, none⟩)] (goneB nos) _ _ _ s fnc70 (fun A9 w9 s9 x hx => dropf_any x nos vn b3 w9 (Tab.of_mem (u := 28) s9 (by simp)) (hN.keep s9.ext) hnn)) rfl rfl ?_; rintro f w1 v17 s h
      exact s_nil ⟨_, oc_out 17 rfl (h.holds 17 _ rfl), trivial, s⟩
    · intro f9 w2 vl5 E9 hs9 hd9 hl hF s
      have e2 : f9.tmps.getD 2 undef = _ := oc_old hl 2 (by kernel_rfl) (by kernel_rfl) (h.holds 2 _ rfl)
      have h := fin_slot [(2, _)] (hs9.trans h.size) (hd9.trans h.defers) (holds_lk ⟨e2, trivial⟩)
      replace s : St w (.sl uf 30 33 n.fg.length (mbCells n.fg) :: .blk b4 (.cells (ndArr zMb zMb nilV nilV) 46) :: .blk b3 (.cells (#[vn]) 28) :: .blk b2 (.cells (ndArr n.me n.pr us uf) 46) :: E9) _ := s
      refine s_pure h (ru_field fld46_0 (h.ev rfl)) rfl ?_; intro f h
      exact s_nil ⟨_, oc_out 18 rfl (h.holds 18 _ rfl), rfl, s⟩
    · intro f9 w2 vl5 E9 hs9 hd9 hl hF s
      have e18 : f9.tmps.getD 18 undef = .pointer (some ⟨b2, 0, none⟩) := (oc_get hl 18 4 (by kernel_rfl) (by kernel_rfl)).trans (hF 4 (by decide))
      have h := fin_slot [(18, .pointer (some ⟨b2, 0, none⟩))] (hs9.trans h.size) (hd9.trans h.defers) (holds_lk ⟨e18, trivial⟩)
      replace s : St w (.sl uf 30 33 n.fg.length (mbCells n.fg) :: .blk b4 (.cells (ndArr zMb zMb nilV nilV) 46) :: .blk b3 (.cells (#[vn]) 28) :: .blk b2 (.cells (ndArr n.me n.pr us uf) 46) :: E9) _ := s
      refine s_load_at (Has.subL (Has.of_own s 3 rfl) 0 33 (D := mbArr n.me) (ndArr_me _ _ _ _)) h row30 rfl (mbArr_size _) rfl ?_; intro f h
      exact s_nil ⟨_, oc_out 19 rfl (h.holds 19 _ rfl), rfl, s⟩
    · intro f9 w2 vl5 E9 hs9 hd9 hl hF s
      have e17 : f9.tmps.getD 17 undef = (vl5 3) := oc_get hl 17 3 (by kernel_rfl) (by kernel_rfl)
      have e19 : f9.tmps.getD 19 undef = .agg (mbArr n.me) := (oc_get hl 19 5 (by kernel_rfl) (by kernel_rfl)).trans (hF 5 (by decide))
      have h := fin_slot [(17, (vl5 3)), (19, .agg (mbArr n.me))] (hs9.trans h.size) (hd9.trans h.defers) (holds_lk ⟨e17, e19, trivial⟩)
      replace s : St w (.sl (vl5 3) 30 33 (n.sc.filter fun x => !(goneB nos) x).length (mbCells (n.sc.filter fun x => !(goneB nos) x)) :: .sl uf 30 33 n.fg.length (mbCells n.fg) :: .blk b4 (.cells (ndArr zMb zMb nilV nilV) 46) :: .blk b3 (.cells (#[vn]) 28) :: .blk b2 (.cells (ndArr n.me n.pr us uf) 46) :: E9) _ := s
      refine s_callS [(vl5 3), .agg (mbArr n.me)] h fnc73 (oralone_any (n.sc.filter fun x => !(goneB nos) x) (vl5 3) n.me _ _ _ s) rfl rfl ?_; rintro f w1 v20 s h
      exact s_nil ⟨_, oc_out 20 rfl (h.holds 20 _ rfl), trivial, s⟩
    intro f w1 vl5 hs9 hd9 hv hr hF s
    replace hv := fun i d h9 => hv i d (show Nat.blt i 7 = true from h9)
    replace h := oc_slT 7 (ops := _) [(14, .pointer (some ⟨b2, 66, none⟩)), (15, us), (16, .func (.func 70) #[] #[.pointer (some ⟨b3, 0, none⟩)]), (17, (vl5 3)), (18, .pointer (some ⟨b2, 0, none⟩)), (19, .agg (mbArr n.me)), (20, (vl5 6))] h hs9 hd9 hr ⟨(hv 0 14 rfl rfl).trans (hF 0 (by kernel_rfl)), (hv 1 15 rfl rfl).trans (hF 1 (by kernel_rfl)), (hv 2 16 rfl rfl).trans (hF 2 (by kernel_rfl)), hv 3 17 rfl rfl, (hv 4 18 rfl rfl).trans (hF 4 (by kernel_rfl)), (hv 5 19 rfl rfl).trans (hF 5 (by kernel_rfl)), hv 6 20 rfl rfl, trivial⟩ (by kernel_rfl)
    replace s : St w [.sl (vl5 6) 30 33 (orA (n.sc.filter fun x => !(goneB nos) x) n.me).length (mbCells (orA (n.sc.filter fun x => !(goneB nos) x) n.me)), .sl uf 30 33 n.fg.length (mbCells n.fg), .blk b4 (.cells (ndArr zMb zMb nilV nilV) 46), .blk b3 (.cells (#[vn]) 28), .blk b2 (.cells (ndArr n.me n.pr us uf) 46)] _ := s
    refine s_pure h (ru_field fld46_2 (h.ev rfl)) rfl ?_; intro f h
    refine s_store_one 4 h s one40 rfl rfl rfl (by rw [ndArr_size]; omega) (own_one (s.getSl 0 rfl)) ?_; intro w1 s
    replace s := s.recell (D := ndArr n.me n.pr (vl5 6) uf) 4 rfl (nd_set66 _ _ _ _ _)
    refine s_nil ?_
    refine hK7 _ _ ?_
    refine c_seq fun K8 hK8 => ?_
    refine c_region ?_
    refine s_pure h (ru_field fld46_3 (h.ev rfl)) rfl ?_; intro f h
    refine s_load_at1 (V := uf) (cell_of_has (Has.of_own s 4 rfl) 67 (ndArr_fg _ _ _ _)) h one40 rfl rfl ?_; intro f h
    refine s_pure h (ru_move (h.ev rfl)) rfl ?_; intro f h
    replace s := (s.sel [1, 0, 2, 3, 4] rfl (by decide))
    refine s_callS [uf, .func (.func 70) #[] #[.pointer (some ⟨b3, 0, none⟩)]] h fnc74 (deletef_any n.fg hnf uf 70 [.pointer (some ⟨b3, 0, none⟩)] (goneB nos) _ _ _ s fnc70 (fun A9 w9 s9 x hx => dropf_any x nos vn b3 w9 (Tab.of_mem (u := 28) s9 (by simp)) (hN.keep s9.ext) hnn)) rfl rfl ?_; rintro f w1 v25 s h
    refine s_pure h (ru_field fld46_3 (h.ev rfl)) rfl ?_; intro f h
    refine s_store_one 4 h s one40 rfl rfl rfl (by rw [ndArr_size]; omega) (own_one (s.getSl 0 rfl)) ?_; intro w1 s
    replace s := s.recell (D := ndArr n.me n.pr (vl5 6) v25) 4 rfl (nd_set67 _ _ _ _ _)
    refine s_nil ?_
    refine hK8 _ _ ?_
    refine c_seq fun K9 hK9 => ?_
    refine c_seq fun K10 hK10 => ?_
    cases hgn : (goneB nos n.pr : Bool)
    · skip
      refine c_region ?_
      refine s_pure h (ru_move (h.ev rfl)) rfl ?_; intro f h
      refine s_pure h (ru_field fld46_1 (h.ev rfl)) rfl ?_; intro f h
      refine s_load_at (Has.subL (Has.of_own s 4 rfl) 33 33 (D := mbArr n.pr) (ndArr_pr _ _ _ _)) h row30 rfl (mbArr_size _) rfl ?_; intro f h
      refine s_callV [.agg (mbArr n.pr)] (caps := [.pointer (some ⟨b3, 0, none⟩)]) h s fnc70 rfl (ret_val (.bool false) (dropf_any n.pr nos vn b3 _ (Tab.of_own s 3 rfl) (hN.keep s.ext) hnn) (congrArg Value.bool hgn)) rfl rfl ?_; intro f w1 v30 hT hE h s; obtain rfl := hT
      refine s_nil ?_
      refine hK10 _ _ ?_
      refine wpIn_cond_false (h.ev rfl) ?_
      refine wpIn_skip ?_
      refine hK9 _ _ ?_
      refine c_seq fun K11 hK11 => ?_
      refine c_region ?_
      refine s_load_row 4 h s row46 rfl rfl (ndArr_size _ _ _ _) rfl ?_; intro f h
      refine s_store_row 2 h s row46 rfl rfl rfl (ndArr_size _ _ _ _) (ndArr_size _ _ _ _) (ndArr_ones (own_one (s.getSl 1 rfl)) (own_one (s.getSl 0 rfl))) ?_; intro w1 s
      refine s_pure h (ru_assign (h.ev rfl)) rfl ?_; intro f h
      refine s_nil ?_
      refine hK11 _ _ ?_
      refine wpIn_ret ?_
      exact e_row_tmp 2 rfl h s row46 rfl rfl (ndArr_size _ _ _ _) rfl (nod_ok ((dr_ok nos hrt).1.trans (by rw [drP_n hgn]; rfl)) (dr_ok nos hrt).2 (s.sel [1, 0] rfl (by decide)))
    · skip
      refine c_region ?_
      refine s_pure h (ru_move (h.ev rfl)) rfl ?_; intro f h
      refine s_pure h (ru_field fld46_1 (h.ev rfl)) rfl ?_; intro f h
      refine s_load_at (Has.subL (Has.of_own s 4 rfl) 33 33 (D := mbArr n.pr) (ndArr_pr _ _ _ _)) h row30 rfl (mbArr_size _) rfl ?_; intro f h
      refine s_callV [.agg (mbArr n.pr)] (caps := [.pointer (some ⟨b3, 0, none⟩)]) h s fnc70 rfl (ret_val (.bool true) (dropf_any n.pr nos vn b3 _ (Tab.of_own s 3 rfl) (hN.keep s.ext) hnn) (congrArg Value.bool hgn)) rfl rfl ?_; intro f w1 v30 hT hE h s; obtain rfl := hT
      refine s_nil ?_
      refine hK10 _ _ ?_
      refine wpIn_cond_true (h.ev rfl) ?_
      refine c_region ?_
      refine s_call h s fnc75 (none_any _) rfl rfl ?_; intro f w1 v9 hT hE h s; obtain rfl := hT
      refine s_pure h (ru_field fld46_1 (h.ev rfl)) rfl ?_; intro f h
      refine s_store_sub 4 h s row30 rfl rfl rfl (mbArr_size _) (by rw [ndArr_size]; omega) (mbArr_ones _) ?_; intro w1 s
      replace s := s.recell (D := ndArr n.me nMb (vl5 6) v25) 4 rfl (nd_setp _ _ _ _ _)
      refine s_nil ?_
      refine hK9 _ _ ?_
      refine c_seq fun K12 hK12 => ?_
      refine c_region ?_
      refine s_load_row 4 h s row46 rfl rfl (ndArr_size _ _ _ _) rfl ?_; intro f h
      refine s_store_row 2 h s row46 rfl rfl rfl (ndArr_size _ _ _ _) (ndArr_size _ _ _ _) (ndArr_ones (own_one (s.getSl 1 rfl)) (own_one (s.getSl 0 rfl))) ?_; intro w1 s
      refine s_pure h (ru_assign (h.ev rfl)) rfl ?_; intro f h
      refine s_nil ?_
      refine hK12 _ _ ?_
      refine wpIn_ret ?_
      exact e_row_tmp 2 rfl h s row46 rfl rfl (ndArr_size _ _ _ _) rfl (nod_ok ((dr_ok nos hrt).1.trans (by rw [drP_y hgn]; rfl)) (dr_ok nos hrt).2 (s.sel [1, 0] rfl (by decide)))
end Go.Proofs.Ytndbijifgalpbaa
