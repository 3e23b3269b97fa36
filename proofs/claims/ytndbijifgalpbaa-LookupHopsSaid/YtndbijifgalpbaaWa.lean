/- What package chord answers for an overlay that is read: its nodes, its members, the node of a number, who is known, which may be. -/
import Derived.Test.YtndbijifgalpbaaVj
set_option linter.unusedVariables false
set_option linter.unusedSimpArgs false
set_option linter.unusedSectionVars false
namespace Go.Proofs.Ytndbijifgalpbaa
open Go.RowKit
theorem iNaN_any (x : Int) (w : World) : Calls Try.prog 88 [.int .i64 x].toArray w (Ret w (is (.bool false))) := by
  refine c_enter Try.func88 rfl Try.ntmps88 rfl [(0, .int .i64 x)] (by simp) fun f h => ?_
  have s := St.start w
  refine c_seq fun K1 hK1 => ?_
  refine c_region ?_
  refine s_pure h (ru_assign (h.ev rfl)) rfl ?_; intro f h
  refine s_nil ?_
  refine hK1 _ _ ?_
  refine c_seq fun K2 hK2 => ?_
  refine c_region ?_
  refine s_pure h (ru_move (h.ev rfl)) rfl ?_; intro f h
  refine s_pure h (ru_move (h.ev rfl)) rfl ?_; intro f h
  refine s_pure h (ru_val (.bool false) (ru_neq (h.ev rfl) (h.ev rfl)) (by simp)) rfl ?_; intro f h
  refine s_pure h (ru_assign (h.ev rfl)) rfl ?_; intro f h
  refine s_nil ?_
  refine hK2 _ _ ?_
  refine wpIn_ret ?_
  exact e_tmp rfl h s rfl (rfl)

theorem icmp_any (x y : Int) (w : World) : Calls Try.prog 63 [.int .i64 x, .int .i64 y].toArray w (Ret w (is (.int .i64 (cmpInt x y)))) := by
  refine c_enter Try.func63 rfl Try.ntmps63 rfl [(0, .int .i64 x), (1, .int .i64 y)] (by simp) fun f h => ?_
  have s := St.start w
  refine c_seq fun K1 hK1 => ?_
  refine c_region ?_
  refine s_pure h (ru_assign (h.ev rfl)) rfl ?_; intro f h
  refine s_nil ?_
  refine hK1 _ _ ?_
  refine c_seq fun K2 hK2 => ?_
  refine c_region ?_
  refine s_pure h (ru_move (h.ev rfl)) rfl ?_; intro f h
  refine s_call h s fnc88 (iNaN_any _ _) rfl rfl ?_; intro f w1 v9 hT hE h s; obtain rfl := hT
  refine s_pure h (ru_assign (h.ev rfl)) rfl ?_; intro f h
  refine s_nil ?_
  refine hK2 _ _ ?_
  refine c_seq fun K3 hK3 => ?_
  refine c_region ?_
  refine s_pure h (ru_move (h.ev rfl)) rfl ?_; intro f h
  refine s_call h s fnc88 (iNaN_any _ _) rfl rfl ?_; intro f w1 v9 hT hE h s; obtain rfl := hT
  refine s_pure h (ru_assign (h.ev rfl)) rfl ?_; intro f h
  refine s_nil ?_
  refine hK3 _ _ ?_
  refine c_seq fun K4 hK4 => ?_
  refine c_seq fun K5 hK5 => ?_
  refine c_region ?_
  refine s_pure h (ru_move (h.ev rfl)) rfl ?_; intro f h
  refine s_nil ?_
  refine hK5 _ _ ?_
  refine wpIn_cond_false (h.ev rfl) ?_
  refine wpIn_skip ?_
  refine hK4 _ _ ?_
  refine c_seq fun K6 hK6 => ?_
  refine c_seq fun K7 hK7 => ?_
  refine c_region ?_
  refine s_pure h (ru_move (h.ev rfl)) rfl ?_; intro f h
  refine s_nil ?_
  refine hK7 _ _ ?_
  refine wpIn_cond_false (h.ev rfl) ?_
  refine wpIn_skip ?_
  refine hK6 _ _ ?_
  refine c_seq fun K8 hK8 => ?_
  refine c_seq fun K9 hK9 => ?_
  refine c_region ?_
  refine s_pure h (ru_move (h.ev rfl)) rfl ?_; intro f h
  refine s_pure h (ru_move (h.ev rfl)) rfl ?_; intro f h
  refine s_pure h (ru_lss (h.ev rfl) (h.ev rfl)) rfl ?_; intro f h
  refine s_nil ?_
  refine hK9 _ _ ?_
  refine c_cond h rfl (fun hc => ?_) (fun hc => ?_)
  · have hc := of_decide_eq_true hc
    refine c_seq fun K10 hK10 => ?_
    refine c_region ?_
    refine s_pure h (ru_assign (h.ev rfl)) rfl ?_; intro f h
    refine s_nil ?_
    refine hK10 _ _ ?_
    refine wpIn_ret ?_
    refine t_ret ?_
    exact e_tmp rfl h s rfl (by show _ = _; unfold cmpInt; rw [if_pos hc])
  · have hc1 := of_decide_eq_false hc
    refine wpIn_skip ?_
    refine hK8 _ _ ?_
    refine c_seq fun K11 hK11 => ?_
    refine c_seq fun K12 hK12 => ?_
    refine c_region ?_
    refine s_pure h (ru_move (h.ev rfl)) rfl ?_; intro f h
    refine s_pure h (ru_move (h.ev rfl)) rfl ?_; intro f h
    refine s_pure h (ru_gtr (h.ev rfl) (h.ev rfl)) rfl ?_; intro f h
    refine s_nil ?_
    refine hK12 _ _ ?_
    refine c_cond h rfl (fun hc => ?_) (fun hc => ?_)
    · replace hc := of_decide_eq_true hc
      refine c_seq fun K13 hK13 => ?_
      refine c_region ?_
      refine s_pure h (ru_assign (h.ev rfl)) rfl ?_; intro f h
      refine s_nil ?_
      refine hK13 _ _ ?_
      refine wpIn_ret ?_
      refine t_ret ?_
      exact e_tmp rfl h s rfl (by show _ = _; unfold cmpInt; rw [if_neg (by omega), if_pos (by omega)])
    · replace hc := of_decide_eq_false hc
      refine wpIn_skip ?_
      refine hK11 _ _ ?_
      refine c_seq fun K14 hK14 => ?_
      refine c_region ?_
      refine s_pure h (ru_assign (h.ev rfl)) rfl ?_; intro f h
      refine s_nil ?_
      refine hK14 _ _ ?_
      refine wpIn_ret ?_
      exact e_tmp rfl h s rfl (by show _ = _; unfold cmpInt; rw [if_neg (by omega), if_neg (by omega)])

theorem byno_any (x y : Mb) (w : World) : Calls Try.prog 37 [.agg (mbArr x), .agg (mbArr y)].toArray w (Ret w (is (.int .i64 (cmpInt x.1 y.1)))) := by
  refine c_enter Try.func37 rfl Try.ntmps37 rfl [(0, .agg (mbArr x)), (1, .agg (mbArr y))] (by simp) fun f h => ?_
  have s := St.start w
  refine c_seq fun K1 hK1 => ?_
  refine c_region ?_
  refine s_box ((mbArr x)) h s rfl rfl rfl ?_; intro f w1 b2 h s
  refine s_box ((mbArr y)) h s rfl rfl rfl ?_; intro f w1 b3 h s
  refine s_pure h (ru_assign (h.ev rfl)) rfl ?_; intro f h
  refine s_nil ?_
  refine hK1 _ _ ?_
  refine c_seq fun K2 hK2 => ?_
  refine c_region ?_
  refine s_pure h (ru_field fld30_0 (h.ev rfl)) rfl ?_; intro f h
  refine s_load_at1 (cell_of_has (Has.of_own s 1 rfl) 0 (mbArr_no _)) h one3 rfl rfl ?_; intro f h
  refine s_pure h (ru_field fld30_0 (h.ev rfl)) rfl ?_; intro f h
  refine s_load_at1 (cell_of_has (Has.of_own s 0 rfl) 0 (mbArr_no _)) h one3 rfl rfl ?_; intro f h
  refine s_call h s fnc63 (icmp_any _ _ _) rfl rfl ?_; intro f w1 v9 hT hE h s; obtain rfl := hT
  refine s_pure h (ru_assign (h.ev rfl)) rfl ?_; intro f h
  refine s_nil ?_
  refine hK2 _ _ ?_
  refine wpIn_ret ?_
  exact e_tmp rfl h s rfl (rfl)

theorem cnone_any  (w : World) : Calls Try.prog 56 [].toArray w (Ret w (is (.agg (mbArr nMb)))) := by
  refine c_enter Try.func56 rfl Try.ntmps56 rfl [] (by simp) fun f h => ?_
  have s := St.start w
  refine c_seq fun K1 hK1 => ?_
  refine c_region ?_
  refine s_alloc (mbArr zMb) h s zero30 rfl rfl ?_; intro f w1 b0 h s
  refine s_nil ?_
  refine hK1 _ _ ?_
  refine c_seq fun K2 hK2 => ?_
  refine c_region ?_
  refine s_pure h (ru_build_mb1 sttM rfl) rfl ?_; intro f h
  refine s_store_row 0 h s row30 rfl rfl rfl (mbArr_size _) (mbArr_size _) (mbArr_ones _) ?_; intro w1 s
  refine s_nil ?_
  refine hK2 _ _ ?_
  refine wpIn_ret ?_
  exact e_row 0 rfl h s row30 rfl rfl (mbArr_size _) (rfl)

theorem issorted_any (l : List Mb) (vh : Value) (w : World) (hR : RdZ w vh 33 l.length (mbCells l)) (hln : l.length ≤ 1000) : Calls Try.prog 36 [vh, .func (.func 37) #[] #[]].toArray w (Ret w (is (.bool (srtB l)))) := by
  refine c_enter Try.func36 rfl Try.ntmps36 rfl [(0, vh), (1, .func (.func 37) #[] #[])] (by simp) fun f h => ?_
  have s := St.start w
  refine c_seq fun K1 hK1 => ?_
  refine c_region ?_
  refine s_pure h (ru_assign (h.ev rfl)) rfl ?_; intro f h
  refine s_nil ?_
  refine hK1 _ _ ?_
  refine c_seq fun K2 hK2 => ?_
  refine c_seq fun K3 hK3 => ?_
  refine c_region ?_
  refine s_pure h (ru_move (h.ev rfl)) rfl ?_; intro f h
  refine s_pure h (ru_lenZ (hR.keep s.ext) Try.underlying40 (h.ev rfl)) rfl ?_; intro f h
  refine s_pure h (ru_sub (h.ev rfl) (h.ev rfl) (by omega)) rfl ?_; intro f h
  refine s_pure h (ru_assign (h.ev rfl)) rfl ?_; intro f h
  refine s_nil ?_
  refine hK3 _ _ ?_
  refine wpIn_block ?_
  refine wpIn_loop_ghost (fun nn aa ww => ∃ k : Nat, Sl 25 aa [(0, vh), (1, .func (.func 37) #[] #[]), (5, .int .i64 ((k : Int) - 1))] ∧ St w [] ww ∧ nn = k ∧ k ≤ l.length ∧ ∀ j, k ≤ j → 0 < j → j < l.length → srtQ l j = false) ((l.length)) ⟨l.length, h.only ⟨rfl, rfl, slot_int rfl (by omega), trivial⟩, s.as trivial, rfl, Nat.le_refl _, fun j h1 _ h2 => absurd h2 (by omega)⟩ ?_
  rintro _ f w1 ⟨k, h, s, hnn, hp0, hp1⟩
  refine c_seq fun K4 hK4 => ?_
  refine c_seq fun K5 hK5 => ?_
  refine c_region ?_
  refine s_pure h (ru_move (h.ev rfl)) rfl ?_; intro f h
  refine s_pure h (ru_gtr (h.ev rfl) (h.ev rfl)) rfl ?_; intro f h
  refine s_nil ?_
  refine hK5 _ _ ?_
  refine c_cond h rfl (fun hc => ?_) (fun hc => ?_)
  · replace hc := of_decide_eq_true hc
    refine wpIn_skip ?_
    refine hK4 _ _ ?_
    refine c_seq fun K6 hK6 => ?_
    refine wpIn_block ?_
    refine c_seq fun K7 hK7 => ?_
    cases hq : (srtQ l (k - 1) : Bool)
    · skip
      refine c_walkN 12 [[], [], [], [1, 2], [1, 2, 3], [], [], [6], [5, 6, 7], [5, 6, 7, 8], [0, 1, 2, 3, 4, 5, 6, 7, 8, 9], [0, 1, 2, 3, 4, 5, 6, 7, 8, 9, 10]] h (by kernel_rfl) (by kernel_rfl) (by kernel_rfl) ?_
      have h0 := hc
      have hk1 : 0 < k - 1 := by omega
      refine w_pure h (ru_move (h.ev rfl)) rfl ?_; intro f h
      refine w_pure h (ru_move (h.ev rfl)) rfl ?_; intro f h
      refine w_pure h (ru_move (h.ev rfl)) rfl ?_; intro f h
      refine w_pure h (ru_ixz (hR.keep s.ext) (k - 1) Try.underlying40 szo30 (h.ev rfl) (h.ev rfl) (by omega) (by omega)) rfl ?_; intro f h
      refine w_load_at ((hR.keep s.ext).el (k - 1) (by omega) (by decide) (D := mbArr (l.getD (k - 1) zMb)) (mb_elD l (k - 1) (by omega))) h row30 rfl (mbArr_size _) rfl ?_; intro f h
      refine w_pure h (ru_move (h.ev rfl)) rfl ?_; intro f h
      refine w_pure h (ru_move (h.ev rfl)) rfl ?_; intro f h
      refine w_pure h (ru_sub (h.ev rfl) (h.ev rfl) (by omega)) rfl ?_; intro f h
      refine w_pure h (ru_ixz (hR.keep s.ext) (k - 1 - 1) Try.underlying40 szo30 (h.ev rfl) (h.ev rfl) (by omega) (by omega)) rfl ?_; intro f h
      refine w_load_at ((hR.keep s.ext).el (k - 1 - 1) (by omega) (by decide) (D := mbArr (l.getD (k - 1 - 1) zMb)) (mb_elD l (k - 1 - 1) (by omega))) h row30 rfl (mbArr_size _) rfl ?_; intro f h
      refine w_callV [.agg (mbArr (l.getD (k - 1) zMb)), .agg (mbArr (l.getD (k - 1 - 1) zMb))] (caps := []) h fnc37 rfl (fun w9 h9 => byno_any _ _ w9) rfl rfl ?_; intro f h
      refine w_pure h (ru_val (.bool false) (ru_lss (h.ev rfl) (h.ev rfl)) (congrArg Value.bool ((decide_eq_decide.2 (cmpInt_neg _ _)).trans hq))) rfl ?_; intro f h
      refine w_nil s fun w1 s => ?_
      refine s_nil ?_
      refine hK7 _ _ ?_
      refine wpIn_cond_false (h.ev rfl) ?_
      refine wpIn_skip ?_
      refine b_norm ?_
      refine hK6 _ _ ?_
      refine c_region ?_
      refine s_pure h (ru_move (h.ev rfl)) rfl ?_; intro f h
      refine s_pure h (ru_sub (h.ev rfl) (h.ev rfl) (by omega)) rfl ?_; intro f h
      refine s_pure h (ru_assign (h.ev rfl)) rfl ?_; intro f h
      refine s_nil ?_
      refine t_norm ?_
      exact ⟨_, by omega, ⟨k - 1, h.only ⟨rfl, rfl, slot_int rfl (by omega), trivial⟩, St.as s trivial, rfl, by omega, srt_next hp1 (by omega) hq⟩⟩
    · skip
      refine c_walkN 12 [[], [], [], [1, 2], [1, 2, 3], [], [], [6], [5, 6, 7], [5, 6, 7, 8], [0, 1, 2, 3, 4, 5, 6, 7, 8, 9], [0, 1, 2, 3, 4, 5, 6, 7, 8, 9, 10]] h (by kernel_rfl) (by kernel_rfl) (by kernel_rfl) ?_
      have h0 := hc
      have hk1 : 0 < k - 1 := by omega
      refine w_pure h (ru_move (h.ev rfl)) rfl ?_; intro f h
      refine w_pure h (ru_move (h.ev rfl)) rfl ?_; intro f h
      refine w_pure h (ru_move (h.ev rfl)) rfl ?_; intro f h
      refine w_pure h (ru_ixz (hR.keep s.ext) (k - 1) Try.underlying40 szo30 (h.ev rfl) (h.ev rfl) (by omega) (by omega)) rfl ?_; intro f h
      refine w_load_at ((hR.keep s.ext).el (k - 1) (by omega) (by decide) (D := mbArr (l.getD (k - 1) zMb)) (mb_elD l (k - 1) (by omega))) h row30 rfl (mbArr_size _) rfl ?_; intro f h
      refine w_pure h (ru_move (h.ev rfl)) rfl ?_; intro f h
      refine w_pure h (ru_move (h.ev rfl)) rfl ?_; intro f h
      refine w_pure h (ru_sub (h.ev rfl) (h.ev rfl) (by omega)) rfl ?_; intro f h
      refine w_pure h (ru_ixz (hR.keep s.ext) (k - 1 - 1) Try.underlying40 szo30 (h.ev rfl) (h.ev rfl) (by omega) (by omega)) rfl ?_; intro f h
      refine w_load_at ((hR.keep s.ext).el (k - 1 - 1) (by omega) (by decide) (D := mbArr (l.getD (k - 1 - 1) zMb)) (mb_elD l (k - 1 - 1) (by omega))) h row30 rfl (mbArr_size _) rfl ?_; intro f h
      refine w_callV [.agg (mbArr (l.getD (k - 1) zMb)), .agg (mbArr (l.getD (k - 1 - 1) zMb))] (caps := []) h fnc37 rfl (fun w9 h9 => byno_any _ _ w9) rfl rfl ?_; intro f h
      refine w_pure h (ru_val (.bool true) (ru_lss (h.ev rfl) (h.ev rfl)) (congrArg Value.bool ((decide_eq_decide.2 (cmpInt_neg _ _)).trans hq))) rfl ?_; intro f h
      refine w_nil s fun w1 s => ?_
      refine s_nil ?_
      refine hK7 _ _ ?_
      refine wpIn_cond_true (h.ev rfl) ?_
      refine c_seq fun K8 hK8 => ?_
      refine c_region ?_
      refine s_pure h (ru_assign (h.ev rfl)) rfl ?_; intro f h
      refine s_nil ?_
      refine hK8 _ _ ?_
      refine wpIn_ret ?_
      refine b_ret ?_
      refine t_ret ?_
      refine t_ret ?_
      refine b_ret ?_
      refine t_ret ?_
      exact e_tmp rfl h s rfl (by show _ = _; rw [srt_left (by omega) hk1 hq])
  · replace hc := of_decide_eq_false hc
    refine wpIn_exit ?_
    refine t_exit ?_
    refine t_exit ?_
    refine b_exit ?_
    refine hK2 _ _ ?_
    refine c_seq fun K9 hK9 => ?_
    refine c_region ?_
    refine s_pure h (ru_assign (h.ev rfl)) rfl ?_; intro f h
    refine s_nil ?_
    refine hK9 _ _ ?_
    refine wpIn_ret ?_
    exact e_tmp rfl h s rfl (by show _ = _; rw [srt_done (fun j h1 h2 => hp1 j (by omega) h1 h2)])

theorem equal_any (l r : List Mb) (vh vu : Value) (w : World) (hR : RdZ w vh 33 l.length (mbCells l)) (hS : RdZ w vu 33 r.length (mbCells r)) (hln : l.length ≤ 1000) (hln2 : r.length ≤ 1000) : Calls Try.prog 31 [vh, vu].toArray w (Ret w (is (.bool (decide (l = r))))) := by
  refine c_enter Try.func31 rfl Try.ntmps31 rfl [(0, vh), (1, vu)] (by simp) fun f h => ?_
  have s := St.start w
  refine c_seq fun K1 hK1 => ?_
  refine c_region ?_
  refine s_pure h (ru_assign (h.ev rfl)) rfl ?_; intro f h
  refine s_nil ?_
  refine hK1 _ _ ?_
  refine c_seq fun K2 hK2 => ?_
  refine c_seq fun K3 hK3 => ?_
  refine c_region ?_
  refine s_pure h (ru_move (h.ev rfl)) rfl ?_; intro f h
  refine s_pure h (ru_lenZ (hR.keep s.ext) Try.underlying40 (h.ev rfl)) rfl ?_; intro f h
  refine s_pure h (ru_move (h.ev rfl)) rfl ?_; intro f h
  refine s_pure h (ru_lenZ (hS.keep s.ext) Try.underlying40 (h.ev rfl)) rfl ?_; intro f h
  refine s_pure h (ru_neq (h.ev rfl) (h.ev rfl)) rfl ?_; intro f h
  refine s_nil ?_
  refine hK3 _ _ ?_
  refine c_cond h rfl (fun hc => ?_) (fun hc => ?_)
  · replace hc := hc
    refine c_seq fun K4 hK4 => ?_
    refine c_region ?_
    refine s_pure h (ru_assign (h.ev rfl)) rfl ?_; intro f h
    refine s_nil ?_
    refine hK4 _ _ ?_
    refine wpIn_ret ?_
    refine t_ret ?_
    exact e_tmp rfl h s rfl ((by show _ = _; rw [decide_eq_false (fun e => by subst e; simp at hc)]))
  · have hl9 : l.length = r.length := by have := hc; simp at this; omega
    refine wpIn_skip ?_
    refine hK2 _ _ ?_
    refine c_seq fun K5 hK5 => ?_
    refine c_seq fun K6 hK6 => ?_
    refine c_region ?_
    refine s_pure h (ru_move (h.ev rfl)) rfl ?_; intro f h
    refine s_pure h (ru_lenZ (hR.keep s.ext) Try.underlying40 (h.ev rfl)) rfl ?_; intro f h
    refine s_pure h (ru_move (h.ev rfl)) rfl ?_; intro f h
    refine s_nil ?_
    refine hK6 _ _ ?_
    refine wpIn_block ?_
    refine wpIn_loop_ghost (fun nn aa ww => ∃ k : Nat, Sl 26 aa [(0, vh), (1, vu), (12, .int .i64 (l.length : Int)), (13, .int .i64 (k : Int))] ∧ St w [] ww ∧ nn = l.length - k ∧ k ≤ l.length ∧ ∀ j, j < k → l.getD j zMb = r.getD j zMb) (l.length - (0)) ⟨0, h.only ⟨rfl, rfl, rfl, slot_int rfl (by omega), trivial⟩, s.as trivial, rfl, Nat.zero_le _, fun j hj => absurd hj (Nat.not_lt_zero _)⟩ ?_
    rintro _ f w1 ⟨k, h, s, hnn, hp0, hp1⟩
    refine c_seq fun K7 hK7 => ?_
    refine c_region ?_
    refine s_pure h (ru_lss (h.ev rfl) (h.ev rfl)) rfl ?_; intro f h
    refine s_nil ?_
    refine hK7 _ _ ?_
    refine c_seq fun K8 hK8 => ?_
    refine c_cond h rfl (fun hc => ?_) (fun hc => ?_)
    · replace hc := of_decide_eq_true hc
      refine wpIn_skip ?_
      refine hK8 _ _ ?_
      refine c_seq fun K9 hK9 => ?_
      refine wpIn_block ?_
      refine c_seq fun K10 hK10 => ?_
      refine c_region ?_
      refine s_pure h (ru_move (h.ev rfl)) rfl ?_; intro f h
      refine s_pure h (ru_assign (h.ev rfl)) rfl ?_; intro f h
      refine s_nil ?_
      refine hK10 _ _ ?_
      refine c_seq fun K11 hK11 => ?_
      refine c_walkN 9 [[], [], [0, 1], [0, 1, 2], [], [], [4, 5], [4, 5, 6], [0, 1, 2, 3, 4, 5, 6, 7]] h (by kernel_rfl) (by kernel_rfl) (by kernel_rfl) ?_
      have hka : k < l.length := by omega
      have hkb : k < r.length := by omega
      refine w_pure h (ru_move (h.ev rfl)) rfl ?_; intro f h
      refine w_pure h (ru_move (h.ev rfl)) rfl ?_; intro f h
      refine w_pure h (ru_ixz (hR.keep s.ext) (k) Try.underlying40 szo30 (h.ev rfl) (h.ev rfl) (by omega) (by omega)) rfl ?_; intro f h
      refine w_load_at ((hR.keep s.ext).el (k) (by omega) (by decide) (D := mbArr (l.getD k zMb)) (mb_elD l k hka)) h row30 rfl (mbArr_size _) rfl ?_; intro f h
      refine w_pure h (ru_move (h.ev rfl)) rfl ?_; intro f h
      refine w_pure h (ru_move (h.ev rfl)) rfl ?_; intro f h
      refine w_pure h (ru_ixz (hS.keep s.ext) (k) Try.underlying40 szo30 (h.ev rfl) (h.ev rfl) (by omega) (by omega)) rfl ?_; intro f h
      refine w_load_at ((hS.keep s.ext).el (k) (by omega) (by decide) (D := mbArr (r.getD k zMb)) (mb_elD r k hkb)) h row30 rfl (mbArr_size _) rfl ?_; intro f h
      refine w_pure h (ru_neqW (eqM _ _) (by kernel_rfl) (by decide) (h.ev rfl) (h.ev rfl) (decide ((l.getD k zMb) = r.getD k zMb)) (mbEq _ _)) rfl ?_; intro f h
      refine w_nil s fun w1 s => ?_
      refine s_nil ?_
      refine hK11 _ _ ?_
      refine c_cond h rfl (fun hc => ?_) (fun hc => ?_)
      · refine c_seq fun K12 hK12 => ?_
        refine c_region ?_
        refine s_pure h (ru_assign (h.ev rfl)) rfl ?_; intro f h
        refine s_nil ?_
        refine hK12 _ _ ?_
        refine wpIn_ret ?_
        refine b_ret ?_
        refine t_ret ?_
        refine t_ret ?_
        refine b_ret ?_
        refine t_ret ?_
        exact e_tmp rfl h s rfl ((by show _ = _; rw [decide_eq_false (fun e => by subst e; simp at hc)]))
      · refine wpIn_skip ?_
        refine b_norm ?_
        refine hK9 _ _ ?_
        refine c_region ?_
        refine s_pure h (ru_add (h.ev rfl) (h.ev rfl) (by omega)) rfl ?_; intro f h
        refine s_pure h (ru_move (h.ev rfl)) rfl ?_; intro f h
        refine s_nil ?_
        refine t_norm ?_
        exact ⟨_, by omega, ⟨k + 1, h.only ⟨rfl, rfl, rfl, slot_int rfl (by omega), trivial⟩, St.as s trivial, rfl, by omega, eqM_next hp1 (by simpa using hc)⟩⟩
    · replace hc := of_decide_eq_false hc
      refine wpIn_exit ?_
      refine t_exit ?_
      refine t_exit ?_
      refine b_exit ?_
      refine hK5 _ _ ?_
      refine c_seq fun K13 hK13 => ?_
      refine c_region ?_
      refine s_pure h (ru_assign (h.ev rfl)) rfl ?_; intro f h
      refine s_nil ?_
      refine hK13 _ _ ?_
      refine wpIn_ret ?_
      exact e_tmp rfl h s rfl ((by show _ = _; rw [decide_eq_true (eqM_yes hl9 (fun j hj => hp1 j (by omega)))]))

theorem nodes_ok (vo : Value) (B9 : List Own) (w0 w : World) (s : St w0 B9 w) : Calls Try.prog 29 [.agg #[vo]].toArray w (fun e w9 => ∃ r, e = .returned r ∧ ∃ bn, r = .func (.func 55) #[] #[.pointer (some ⟨bn, 0, none⟩)] ∧ St w0 (.blk bn (.cells #[vo] 24) :: B9) w9) := by
  refine c_enterF Try.func29 rfl Try.ntmps29 rfl [(0, .agg #[vo])] (by simp) fun f h => ?_
  refine c_seq fun K1 hK1 => ?_
  refine c_region ?_
  refine s_box (#[vo]) h s rfl rfl rfl ?_; intro f w1 b1 h s
  refine s_pure h (ru_assign (h.ev rfl)) rfl ?_; intro f h
  refine s_nil ?_
  refine hK1 _ _ ?_
  refine c_seq fun K2 hK2 => ?_
  refine c_region ?_
  refine s_pure h (ru_makeFunc [.pointer (some ⟨b1, 0, none⟩)] (evsA h rfl)) rfl ?_; intro f h
  refine s_pure h (ru_assign (h.ev rfl)) rfl ?_; intro f h
  refine s_nil ?_
  refine hK2 _ _ ?_
  refine wpIn_ret ?_
  exact e_tmpF rfl h rfl (⟨_, rfl, b1, rfl, s⟩)

theorem niter_any (m : Nat) (hm : m ≤ 1000) (vo : Value) (xs : List Value) (wr : World) (hV : RdZ wr vo 68 m xs) (lp bx : Nat) (q : Nat → Bool) (GG : Nat → Own → Prop) (g0 : Own) (w0 w : World) (s : St w0 [.blk bx (.cells #[vo] 24), g0] w) (hg0 : GG 0 g0) (hY : ∀ (d : Nat) (B9 : List Own) (w9 : World) (i : Nat) (g : Own), d < m → (∀ j, j < d → q j = false) → GG d g → St w0 B9 w9 → B9[i]? = some g → Yields Try.prog lp [Value.pointer (some (elAddr vo (d * 68)))].toArray w9 (fun v w2 => v = .bool (!q d) ∧ ∃ g', GG (d + 1) g' ∧ St w0 (B9.set i g') w2)) : Calls Try.prog 55 [.func (.yield lp) #[] #[], .pointer (some ⟨bx, 0, none⟩)].toArray w (fun e w9 => (∃ v, e = .returned v) ∧ ∃ d g, GG d g ∧ St w0 ([.blk bx (.cells #[vo] 24)] ++ [g]) w9 ∧ d ≤ m ∧ (∀ j, j + 1 < d → q j = false) ∧ (lq q d = false → d = m)) := by
  refine c_enterF Try.func55 rfl Try.ntmps55 rfl [(0, .func (.yield lp) #[] #[]), (1, .pointer (some ⟨bx, 0, none⟩))] (by simp) fun f h => ?_
  refine c_seq fun K1 hK1 => ?_
  refine c_region ?_
  refine s_pure h (ru_field fld24_0 (h.ev rfl)) rfl ?_; intro f h
  refine s_load_at1 (V := vo) (cell_of_has (Has.of_own s 0 rfl) 0 rfl) h one22 rfl rfl ?_; intro f h
  refine s_pure h (ru_lenZ (hV) Try.underlying22 (h.ev rfl)) rfl ?_; intro f h
  refine s_pure h (ru_move (h.ev rfl)) rfl ?_; intro f h
  refine s_nil ?_
  refine hK1 _ _ ?_
  refine wpIn_block ?_
  refine wpIn_loop_ghost (fun nn aa ww => ∃ d : Nat, ∃ gg : Own, Sl 18 aa [(0, .func (.yield lp) #[] #[]), (1, .pointer (some ⟨bx, 0, none⟩)), (6, .int .i64 (m : Int)), (7, .int .i64 (d : Int))] ∧ St w0 [.blk bx (.cells (#[vo]) 24), (gg)] ww ∧ nn = m - d ∧ d ≤ m ∧ GG d gg ∧ ∀ j, j < d → q j = false) (m - (0)) ⟨0, g0, h.only ⟨rfl, rfl, rfl, slot_int rfl (by omega), trivial⟩, s.as ⟨rfl, rfl, trivial⟩, rfl, Nat.zero_le _, hg0, fun j hj => absurd hj (Nat.not_lt_zero _)⟩ ?_
  rintro _ f w1 ⟨d, gg, h, s, hnn, hp0, hp1, hp2⟩
  refine c_seq fun K2 hK2 => ?_
  refine c_region ?_
  refine s_pure h (ru_lss (h.ev rfl) (h.ev rfl)) rfl ?_; intro f h
  refine s_nil ?_
  refine hK2 _ _ ?_
  refine c_seq fun K3 hK3 => ?_
  refine c_cond h rfl (fun hc => ?_) (fun hc => ?_)
  · replace hc := of_decide_eq_true hc
    refine wpIn_skip ?_
    refine hK3 _ _ ?_
    refine c_seq fun K4 hK4 => ?_
    refine wpIn_block ?_
    refine c_seq fun K5 hK5 => ?_
    refine c_region ?_
    have hdl : d < m := by omega
    refine s_pure h (ru_move (h.ev rfl)) rfl ?_; intro f h
    refine s_pure h (ru_assign (h.ev rfl)) rfl ?_; intro f h
    refine s_nil ?_
    refine hK5 _ _ ?_
    refine c_seq fun K6 hK6 => ?_
    cases hq : (q d : Bool)
    · skip
      refine c_region ?_
      refine s_pure h (ru_move (h.ev rfl)) rfl ?_; intro f h
      refine s_pure h (ru_field fld24_0 (h.ev rfl)) rfl ?_; intro f h
      refine s_load_at1 (V := vo) (cell_of_has (Has.of_own s 0 rfl) 0 rfl) h one22 rfl rfl ?_; intro f h
      refine s_pure h (ru_move (h.ev rfl)) rfl ?_; intro f h
      refine s_pure h (ru_ixz (hV) (d) Try.underlying22 szo46 (h.ev rfl) (h.ev rfl) (by omega) (by omega)) rfl ?_; intro f h
      refine s_yieldG (V := .bool true) (G := GG (d + 1)) [.pointer (some (elAddr vo (d * 68)))] 1 h rfl rfl (by have h9 := hY d _ _ 1 gg hdl hp2 hp1 s rfl; rw [hq] at h9; exact h9) rfl ?_; intro f w1 g1 hg1 h s
      refine s_pure h (ru_val (.bool false) (ru_not (h.ev rfl)) rfl) rfl ?_; intro f h
      refine s_nil ?_
      refine hK6 _ _ ?_
      refine wpIn_cond_false (h.ev rfl) ?_
      refine wpIn_skip ?_
      refine b_norm ?_
      refine hK4 _ _ ?_
      refine c_region ?_
      refine s_pure h (ru_add (h.ev rfl) (h.ev rfl) (by omega)) rfl ?_; intro f h
      refine s_pure h (ru_move (h.ev rfl)) rfl ?_; intro f h
      refine s_nil ?_
      refine t_norm ?_
      exact ⟨_, by omega, ⟨d + 1, g1, h.only ⟨rfl, rfl, rfl, slot_int rfl (by omega), trivial⟩, St.as s ⟨rfl, rfl, trivial⟩, rfl, by omega, hg1, qs_next hp2 hq⟩⟩
    · skip
      refine c_region ?_
      refine s_pure h (ru_move (h.ev rfl)) rfl ?_; intro f h
      refine s_pure h (ru_field fld24_0 (h.ev rfl)) rfl ?_; intro f h
      refine s_load_at1 (V := vo) (cell_of_has (Has.of_own s 0 rfl) 0 rfl) h one22 rfl rfl ?_; intro f h
      refine s_pure h (ru_move (h.ev rfl)) rfl ?_; intro f h
      refine s_pure h (ru_ixz (hV) (d) Try.underlying22 szo46 (h.ev rfl) (h.ev rfl) (by omega) (by omega)) rfl ?_; intro f h
      refine s_yieldG (V := .bool false) (G := GG (d + 1)) [.pointer (some (elAddr vo (d * 68)))] 1 h rfl rfl (by have h9 := hY d _ _ 1 gg hdl hp2 hp1 s rfl; rw [hq] at h9; exact h9) rfl ?_; intro f w1 g1 hg1 h s
      refine s_pure h (ru_val (.bool true) (ru_not (h.ev rfl)) rfl) rfl ?_; intro f h
      refine s_nil ?_
      refine hK6 _ _ ?_
      refine wpIn_cond_true (h.ev rfl) ?_
      refine wpIn_ret ?_
      refine b_ret ?_
      refine t_ret ?_
      refine t_ret ?_
      refine b_ret ?_
      exact e_noneF rfl h (⟨⟨_, rfl⟩, d + 1, g1, hg1, s, by omega, fun j hj => hp2 j (by omega), fun h9 => absurd (hq.symm.trans h9) (by decide)⟩)
  · replace hc := of_decide_eq_false hc
    refine wpIn_exit ?_
    refine t_exit ?_
    refine t_exit ?_
    refine b_exit ?_
    exact e_noneF_end rfl h (⟨⟨_, rfl⟩, d, gg, hp1, s, hp0, fun j hj => hp2 j (by omega), fun _ => by omega⟩)

theorem cfind_any (L : List N3) (vo : Value) (no : Int) (w : World) (hO : RdO w vo L) (hL : L.length ≤ 40) : Calls Try.prog 69 [.agg #[vo], .int .i64 no].toArray w (Ret w (is (ptrL vo L no))) := by
  refine c_enterM Try.func69 rfl Try.ntmps69 rfl [(0, .agg #[vo]), (1, .int .i64 no)] (by simp) fun f h => ?_
  have s := St.start w
  refine c_seq fun K1 hK1 => ?_
  refine c_region ?_
  refine s_box (#[vo]) h s rfl rfl rfl ?_; intro f w1 b2 h s
  refine s_box (#[.int .i64 no]) h s rfl rfl rfl ?_; intro f w1 b3 h s
  refine s_alloc (#[.pointer none]) h s zero69 rfl rfl ?_; intro f w1 b4 h s
  refine s_nil ?_
  refine hK1 _ _ ?_
  refine c_seq fun K2 hK2 => ?_
  refine c_seq fun K3 hK3 => ?_
  refine c_region ?_
  refine s_load_row 2 h s row24 rfl rfl (rfl) rfl ?_; intro f h
  refine s_callS [.agg #[vo]] h fnc29 (nodes_ok vo _ _ _ s) rfl rfl ?_; rintro f w1 r ⟨bn, rfl, s⟩ h
  refine s_nil ?_
  refine hK3 _ _ ?_
  refine wpIn_block ?_
  refine c_rangeE (fun d A9 => A9 = [.blk b4 (.cells #[ptJ vo (qL L no) d] 69), .blk b3 (.cells #[.int .i64 no] 3), .blk b2 (.cells #[vo] 24)]) [.blk b4 (.cells #[.pointer none] 69), .blk b3 (.cells #[.int .i64 no] 3), .blk b2 (.cells #[vo] 24)] [.blk bn (.cells #[vo] 24)] (L.length) (qL L no) (fun d => [Value.pointer (some (elAddr vo (d * 68)))]) h s rfl fnc55 (List.Perm.refl _) (rfl) (fun _ => rfl) ?_ ?_ ?_ ?_
  · intro lp w2 GG g0 hg0 s2 hY; exact niter_any L.length (by omega) vo _ _ hO.1 lp bn (qL L no) GG g0 w w2 s2 hg0 hY
  · intro lp D9 d9 rc R9 A9 w2 hd9 hq9 hJ9 s
    obtain rfl := hJ9
    have h := Sl.round1 (p := 8) (V := .pointer (some (elAddr vo (d9 * 68)))) h rfl
    have hdl9 := hd9
    refine c_region ?_
    refine s_pure h (ru_assign (h.ev rfl)) rfl ?_; intro f h
    refine s_nil ?_
    refine t_norm ?_
    refine ⟨_, s, fun w3 s => ?_⟩
    refine wpIn_block ?_
    refine c_seq fun K4 hK4 => ?_
    cases hq : (qL L no d9 : Bool)
    · skip
      refine c_walkN 7 [[], [0], [0, 1], [0, 1, 2], [0, 1, 2, 3], [], [0, 1, 2, 3, 4, 5]] h (by kernel_rfl) (by kernel_rfl) (by kernel_rfl) ?_
      refine w_pure h (ru_move (h.ev rfl)) rfl ?_; intro f h
      refine w_pure h (ru_nilCheck (h.ev rfl)) rfl ?_; intro f h
      refine w_pure h (ru_fieldE fld46_0 (h.ev rfl) ((hO.1.keep s.ext).some (by omega))) rfl ?_; intro f h
      refine w_pure h (ru_fieldE fld30_0 (h.ev rfl) ((hO.1.keep s.ext).some (by omega))) rfl ?_; intro f h
      refine w_load_at1 (V := .int .i64 (L.getD d9 z3).1.me.1) (rdz_at (hO.1.keep s.ext) (d9 * 68 + 0) (n3_no L d9 hdl9)) h one3 rfl rfl ?_; intro f h
      refine w_load_one 3 h s one3 rfl rfl (rfl) rfl ?_; intro f h
      refine w_pure h (ru_val (.bool false) (ru_eql (h.ev rfl) (h.ev rfl)) (congrArg Value.bool hq)) rfl ?_; intro f h
      refine w_nil s fun w1 s => ?_
      refine s_nil ?_
      refine hK4 _ _ ?_
      refine wpIn_cond_false (h.ev rfl) ?_
      refine wpIn_skip ?_
      refine b_norm ?_
      replace s := s.recell (D := #[ptJ vo (qL L no) (d9 + 1)]) 2 rfl (by rw [ptJ_now hq9]; show _ = #[bif qL L no d9 then _ else _]; rw [hq]; rfl)
      refine ⟨by first | exact hq | rfl, _, rfl, s.pick _ ?_⟩
      exact List.Sublist.cons_cons _ (List.Sublist.refl _)
    · skip
      refine c_walkN 7 [[], [0], [0, 1], [0, 1, 2], [0, 1, 2, 3], [], [0, 1, 2, 3, 4, 5]] h (by kernel_rfl) (by kernel_rfl) (by kernel_rfl) ?_
      refine w_pure h (ru_move (h.ev rfl)) rfl ?_; intro f h
      refine w_pure h (ru_nilCheck (h.ev rfl)) rfl ?_; intro f h
      refine w_pure h (ru_fieldE fld46_0 (h.ev rfl) ((hO.1.keep s.ext).some (by omega))) rfl ?_; intro f h
      refine w_pure h (ru_fieldE fld30_0 (h.ev rfl) ((hO.1.keep s.ext).some (by omega))) rfl ?_; intro f h
      refine w_load_at1 (V := .int .i64 (L.getD d9 z3).1.me.1) (rdz_at (hO.1.keep s.ext) (d9 * 68 + 0) (n3_no L d9 hdl9)) h one3 rfl rfl ?_; intro f h
      refine w_load_one 3 h s one3 rfl rfl (rfl) rfl ?_; intro f h
      refine w_pure h (ru_val (.bool true) (ru_eql (h.ev rfl) (h.ev rfl)) (congrArg Value.bool hq)) rfl ?_; intro f h
      refine w_nil s fun w1 s => ?_
      refine s_nil ?_
      refine hK4 _ _ ?_
      refine wpIn_cond_true (h.ev rfl) ?_
      refine c_seq fun K5 hK5 => ?_
      refine c_region ?_
      refine s_pure h (ru_move (h.ev rfl)) rfl ?_; intro f h
      refine s_store_one 2 h s one69 rfl rfl rfl (by simp) (rfl) ?_; intro w1 s
      refine s_nil ?_
      refine hK5 _ _ ?_
      refine wpIn_ret ?_
      refine b_ret ?_
      replace s := s.recell (D := #[ptJ vo (qL L no) (d9 + 1)]) 2 rfl (by show _ = #[bif qL L no d9 then _ else _]; rw [hq]; rfl)
      refine ⟨by first | exact hq | rfl, _, rfl, s.pick _ ?_⟩
      exact List.Sublist.cons_cons _ (List.Sublist.refl _)
  · intro D9 A9 w2 hJ9 hq9 s
    obtain rfl := hJ9
    replace h : Sl _ { f with defers := { target := .collected D9, args := #[] } :: f.defers } _ [{ target := .collected D9, args := #[] }] := ⟨h.size, by rw [h.defers], h.holds⟩
    refine b_norm ?_
    refine hK2 _ _ ?_
    refine c_seq fun K6 hK6 => ?_
    refine c_region ?_
    refine s_store_one 2 h s one69 rfl rfl rfl (by simp) (rfl) ?_; intro w1 s
    refine s_nil ?_
    refine hK6 _ _ ?_
    refine wpIn_ret ?_
    exact e_one_M 2 0 rfl h s one69 rfl rfl rfl rfl rfl (fun w9 => (fnd_n hq9).symm)
  · intro D9 d9 A9 w2 hd9 hqd9 hq9 hJ9 s
    obtain rfl := hJ9
    replace h : Sl _ { f with defers := { target := .collected D9, args := #[] } :: f.defers } _ [{ target := .collected D9, args := #[] }] := ⟨h.size, by rw [h.defers], h.holds⟩
    refine b_ret ?_
    refine t_ret ?_
    exact e_one_M 2 0 rfl h s one69 rfl rfl rfl rfl rfl (fun w9 => fnd_y hd9 hq9 hqd9)

theorem cmembers_any (L : List N3) (vo : Value) (w : World) (hO : RdO w vo L) (hL : L.length ≤ 40) : Calls Try.prog 13 [.agg #[vo]].toArray w (Ret w (fun v w' => Owns w' w.heap.size 30 33 v (memL L).length (mbCells (memL L)))) := by
  refine c_enterM Try.func13 rfl Try.ntmps13 rfl [(0, .agg #[vo])] (by simp) fun f h => ?_
  have s := St.start w
  refine c_seq fun K1 hK1 => ?_
  refine c_region ?_
  refine s_box (#[vo]) h s rfl rfl rfl ?_; intro f w1 b1 h s
  refine s_pure h (ru_assign (h.ev rfl)) rfl ?_; intro f h
  refine s_nil ?_
  refine hK1 _ _ ?_
  refine c_seq fun K2 hK2 => ?_
  refine c_region ?_
  refine s_alloc (#[.slice none 0 0]) h s zero40 rfl rfl ?_; intro f w1 b3 h s
  refine s_nil ?_
  refine hK2 _ _ ?_
  refine c_seq fun K3 hK3 => ?_
  refine c_seq fun K4 hK4 => ?_
  refine c_region ?_
  refine s_load_row 1 h s row24 rfl rfl (rfl) rfl ?_; intro f h
  replace s := s.nilSl 30 33
  refine s_callS [.agg #[vo]] h fnc29 (nodes_ok vo _ _ _ s) rfl rfl ?_; rintro f w1 r ⟨bn, rfl, s⟩ h
  refine s_nil ?_
  refine hK4 _ _ ?_
  refine wpIn_block ?_
  refine c_rangeE (fun d A9 => ∃ v8 : Value, A9 = [.sl v8 30 33 (memL (L.take d)).length (mbCells (memL (L.take d))), .blk b3 (.cells #[v8] 40), .blk b1 (.cells #[vo] 24)]) [.sl (Value.slice none 0 0) 30 33 (memL (L.take 0)).length (mbCells (memL (L.take 0))), .blk b3 (.cells #[(Value.slice none 0 0)] 40), .blk b1 (.cells #[vo] 24)] [.blk bn (.cells #[vo] 24)] (L.length) (fun _ => false) (fun d => [Value.pointer (some (elAddr vo (d * 68)))]) h s rfl fnc55 (List.Perm.refl _) (⟨_, rfl⟩) (fun _ => rfl) ?_ ?_ ?_ ?_
  · intro lp w2 GG g0 hg0 s2 hY; exact niter_any L.length (by omega) vo _ _ hO.1 lp bn (fun _ => false) GG g0 w w2 s2 hg0 hY
  · intro lp D9 d9 rc R9 A9 w2 hd9 hq9 hJ9 s
    obtain ⟨v8, rfl⟩ := hJ9
    have h := Sl.round1 (p := 7) (V := .pointer (some (elAddr vo (d9 * 68)))) h rfl
    have hdl9 := hd9
    refine c_region ?_
    refine s_pure h (ru_assign (h.ev rfl)) rfl ?_; intro f h
    refine s_nil ?_
    refine t_norm ?_
    refine ⟨_, s, fun w3 s => ?_⟩
    refine wpIn_block ?_
    have hbs := s.ext.le
    refine' c_reg2 6 [1, 2, 3] [] [[], [], [1], [1, 2], [1, 2, 3], [1, 2, 3, 4], [0, 1, 2, 3, 4, 5], [0, 1, 2, 3, 4, 5, 6]] (is _ :: is _ :: is _ :: is _ :: is _ :: (fun v w9 => RdZ w9 v 33 1 ((mbArr (L.getD d9 z3).1.me).toList)) :: is undef :: is undef :: []) (fun _ => True) h s (by kernel_rfl) (by kernel_rfl) (by kernel_rfl) (by kernel_rfl) rfl (fun _ _ h _ => h) (trivial) ⟨⟨_, rfl⟩, ⟨_, rfl⟩, ⟨_, rfl⟩, trivial⟩ ⟨is_mono _, is_mono _, is_mono _, is_mono _, is_mono _, RdZ.mono, is_mono _, is_mono _, trivial⟩ (And.intro ?_ (And.intro ?_ (And.intro ?_ (And.intro ?_ (And.intro ?_ (And.intro ?_ (And.intro ?_ (And.intro ?_ (trivial))))))))) ?_
    rotate_left 5
    · refine obF_in 8 rfl (by decide) (by decide) ?_
      intro f9 w2 hE hs hd9 hl
      have e3 : f9.tmps.getD 3 undef = _ := sx_old hl 3 (by kernel_rfl) (by kernel_rfl) (h.holds 3 _ rfl)
      have h := fin_slot [(3, _)] hs hd9 (holds_lk ⟨e3, trivial⟩)
      have s := s.more hE
      have z := St.start w2
      refine s_load_one 3 h s one40 rfl rfl (rfl) rfl ?_; intro f h
      refine s_nil ?_
      have e9 := h.holds 8 _ rfl
      refine ⟨?_, Ext.refl _, fun h9 => absurd h9 (by decide)⟩
      refine e9.trans ?_
      exact rfl
    · refine obH_in 9 rfl (by decide) ?_
      intro f9 w2 hE hs hl
      have e4 : f9.tmps.getD 4 undef = _ := sx_old hl 4 (by kernel_rfl) (by kernel_rfl) (h.holds 4 _ rfl)
      have h := fin_slot [(4, _)] hs rfl (holds_lk ⟨e4, trivial⟩)
      refine s_pure h (ru_move (h.ev rfl)) rfl ?_; intro f h
      refine s_nil ?_
      have e9 := h.holds 9 _ rfl
      refine ⟨?_, rfl⟩
      refine e9.trans ?_
      exact rfl
    · refine obH_in 10 rfl (by decide) ?_
      intro f9 w2 hE hs hl
      have e9 : f9.tmps.getD 9 undef = _ := sx_get hl 9 1 (by kernel_rfl) (by kernel_rfl)
      have h := fin_slot [(9, _)] hs rfl (holds_lk ⟨e9, trivial⟩)
      refine s_pure h (ru_nilCheck (h.ev rfl)) rfl ?_; intro f h
      refine s_nil ?_
      have e9 := h.holds 10 _ rfl
      refine ⟨?_, rfl⟩
      refine e9.trans ?_
      exact rfl
    · refine obH_in 11 rfl (by decide) ?_
      intro f9 w2 hE hs hl
      have e10 : f9.tmps.getD 10 undef = _ := sx_get hl 10 2 (by kernel_rfl) (by kernel_rfl)
      have h := fin_slot [(10, _)] hs rfl (holds_lk ⟨e10, trivial⟩)
      refine s_pure h (ru_fieldE fld46_0 (h.ev rfl) ((hO.1.keep s.ext).some (by omega))) rfl ?_; intro f h
      refine s_nil ?_
      have e9 := h.holds 11 _ rfl
      refine ⟨?_, rfl⟩
      refine e9.trans ?_
      exact rfl
    · refine obF_in 12 rfl (by decide) (by decide) ?_
      intro f9 w2 hE hs hd9 hl
      have e11 : f9.tmps.getD 11 undef = _ := sx_get hl 11 3 (by kernel_rfl) (by kernel_rfl)
      have h := fin_slot [(11, _)] hs hd9 (holds_lk ⟨e11, trivial⟩)
      have s := s.more hE
      have z := St.start w2
      refine s_load_at (RdZ.elF (hO.1.keep s.ext) (d9) 0 33 (by omega) (by decide) (C := ndArr (L.getD d9 z3).1.me (L.getD d9 z3).1.pr (L.getD d9 z3).2.1 (L.getD d9 z3).2.2) (n3_el L d9 hdl9) (D := mbArr (L.getD d9 z3).1.me) (ndArr_me _ _ _ _)) h row30 rfl (mbArr_size _) rfl ?_; intro f h
      refine s_nil ?_
      have e9 := h.holds 12 _ rfl
      refine ⟨?_, Ext.refl _, fun h9 => absurd h9 (by decide)⟩
      refine e9.trans ?_
      exact rfl
    · refine obF_in 13 rfl (by decide) (by decide) ?_
      intro f9 w2 hE hs hd9 hl
      have e12 : f9.tmps.getD 12 undef = _ := sx_get hl 12 4 (by kernel_rfl) (by kernel_rfl)
      have h := fin_slot [(12, _)] hs hd9 (holds_lk ⟨e12, trivial⟩)
      have s := s.more hE
      have z := St.start w2
      refine s_bslice (vs := [.agg (mbArr (L.getD d9 z3).1.me)]) [.tmp 12] h z Try.underlying40 elm30 rfl rfl (mb_sz _) rfl rfl rfl ?_; intro f w1 v9 h z
      refine s_nil ?_
      exact kf_rd (h.holds 13 _ rfl) z _ (one_mb _)
    · exact obT_in (by decide) (by decide)
    · exact obT_in (by decide) (by decide)
    · intro f9 w2 hE hs hd9 hWp hT hR hFr hDj
      obtain ⟨u13, hu13⟩ : ∃ v, f9.tmps.getD 13 undef = v := ⟨_, rfl⟩
      have e13 : (fun v w9 => RdZ w9 v 33 1 ((mbArr (L.getD d9 z3).1.me).toList)) u13 w2 := by rw [← hu13]; exact hT 5 13 (by decide) rfl
      replace h := sl_new (ops := _) [(8, _), (9, _), (10, _), (11, _), (12, _), (13, u13)] h hs hd9 hR ⟨hT 0 8 (by decide) rfl, hT 1 9 (by decide) rfl, hT 2 10 (by decide) rfl, hT 3 11 (by decide) rfl, hT 4 12 (by decide) rfl, hu13, trivial⟩ (by kernel_rfl)
      replace s := s.more hE
      clear hT hR hFr hDj
      refine LstW.of ?_
      refine s_append_rd 2 (e13) h s Try.underlying40 elm30 rfl rfl rfl (mbArr_ones _) (by rw [List.length_map, List.length_take]; unfold maxLen; omega) (by rw [List.length_map, List.length_take]; omega) rfl ?_; intro f w1 v14 h s
      refine s_store_one 3 h s one40 rfl rfl rfl (by simp) (own_one (s.getSl 2 rfl)) ?_; intro w1 s
      refine s_nil ?_
      refine b_norm ?_
      replace s := s.resl (m := (memL (L.take (d9 + 1))).length) (ys := mbCells (memL (L.take (d9 + 1)))) 2 rfl (by rw [mem_snoc hdl9, List.length_append]; rfl) (by rw [mem_snoc hdl9, mb_snoc])
      refine ⟨rfl, _, ⟨v14, rfl⟩, s.pick _ ?_⟩
      exact List.Sublist.cons_cons _ (List.Sublist.refl _)
  · intro D9 A9 w2 hJ9 hq9 s
    obtain ⟨v8, rfl⟩ := hJ9
    replace h : Sl _ { f with defers := { target := .collected D9, args := #[] } :: f.defers } _ [{ target := .collected D9, args := #[] }] := ⟨h.size, by rw [h.defers], h.holds⟩
    rw [List.take_length] at s
    refine b_norm ?_
    refine hK3 _ _ ?_
    refine c_seq fun K5 hK5 => ?_
    refine c_region ?_
    refine s_load_one 3 h s one40 rfl rfl (rfl) rfl ?_; intro f h
    refine s_pure h (ru_assign (h.ev rfl)) rfl ?_; intro f h
    refine s_nil ?_
    refine hK5 _ _ ?_
    refine wpIn_ret ?_
    exact e_tmp_MS 0 rfl h s rfl rfl (fun w9 s9 => s9.getSl 2 rfl)
  · intro D9 d9 A9 w2 hd9 hqd9 hq9 hJ9 s
    cases hqd9

theorem valuesf_ok (a9 : Option Addr) (n9 c9 : Nat) (B9 : List Own) (w0 w : World) (s : St w0 B9 w) : Calls Try.prog 90 [.slice a9 n9 c9].toArray w (fun e w9 => ∃ r, e = .returned r ∧ ∃ bv, r = .func (.func 100) #[] #[.pointer (some ⟨bv, 0, none⟩)] ∧ St w0 (.blk bv (.cells #[.slice a9 n9 c9] 40) :: B9) w9) := by
  refine c_enterF Try.func90 rfl Try.ntmps90 rfl [(0, .slice a9 n9 c9)] (by simp) fun f h => ?_
  refine c_seq fun K1 hK1 => ?_
  refine c_region ?_
  refine s_box (#[.slice a9 n9 c9]) h s rfl rfl rfl ?_; intro f w1 b1 h s
  refine s_pure h (ru_assign (h.ev rfl)) rfl ?_; intro f h
  refine s_nil ?_
  refine hK1 _ _ ?_
  refine c_seq fun K2 hK2 => ?_
  refine c_region ?_
  refine s_pure h (ru_makeFunc [.pointer (some ⟨b1, 0, none⟩)] (evsA h rfl)) rfl ?_; intro f h
  refine s_pure h (ru_assign (h.ev rfl)) rfl ?_; intro f h
  refine s_nil ?_
  refine hK2 _ _ ?_
  refine wpIn_ret ?_
  exact e_tmpF rfl h rfl (⟨_, rfl, b1, rfl, s⟩)

theorem valuesf_any (l : List Mb) (vh : Value) (B9 : List Own) (w0 w : World) (s : St w0 B9 w) (hR : RdZ w vh 33 l.length (mbCells l)) : Calls Try.prog 90 [vh].toArray w (fun e w9 => ∃ r, e = .returned r ∧ ∃ bv, r = .func (.func 100) #[] #[.pointer (some ⟨bv, 0, none⟩)] ∧ St w0 (.blk bv (.cells #[vh] 40) :: B9) w9) := by
  obtain ⟨a, c, rfl⟩ := hR.len
  exact valuesf_ok a _ c B9 w0 w s

theorem viterx_any (l : List Mb) (hln : l.length ≤ 1000) (vh : Value) (lp bx : Nat) (q : Nat → Bool) (GG : Nat → Own → Prop) (g0 : Own) (w0 w : World) (s : St w0 [.blk bx (.cells #[vh] 40), .sl vh 30 33 l.length (mbCells l), g0] w) (hg0 : GG 0 g0) (hY : ∀ (d : Nat) (B9 : List Own) (w9 : World) (i : Nat) (g : Own), d < l.length → (∀ j, j < d → q j = false) → GG d g → St w0 B9 w9 → B9[i]? = some g → Yields Try.prog lp [Value.agg (mbArr (l.getD d zMb))].toArray w9 (fun v w2 => v = .bool (!q d) ∧ ∃ g', GG (d + 1) g' ∧ St w0 (B9.set i g') w2)) : Calls Try.prog 100 [.func (.yield lp) #[] #[], .pointer (some ⟨bx, 0, none⟩)].toArray w (fun e w9 => (∃ v, e = .returned v) ∧ ∃ d g, GG d g ∧ St w0 ([.blk bx (.cells #[vh] 40), .sl vh 30 33 l.length (mbCells l)] ++ [g]) w9 ∧ d ≤ l.length ∧ (∀ j, j + 1 < d → q j = false) ∧ (lq q d = false → d = l.length)) := by
  refine c_enterF Try.func100 rfl Try.ntmps100 rfl [(0, .func (.yield lp) #[] #[]), (1, .pointer (some ⟨bx, 0, none⟩))] (by simp) fun f h => ?_
  refine c_seq fun K1 hK1 => ?_
  refine c_region ?_
  refine s_load_one 0 h s one40 rfl rfl (rfl) rfl ?_; intro f h
  refine s_len_sl 1 h s Try.underlying40 rfl rfl rfl ?_; intro f h
  refine s_pure h (ru_move (h.ev rfl)) rfl ?_; intro f h
  refine s_nil ?_
  refine hK1 _ _ ?_
  refine wpIn_block ?_
  refine wpIn_loop_ghost (fun nn aa ww => ∃ d : Nat, ∃ gg : Own, Sl 16 aa [(0, .func (.yield lp) #[] #[]), (1, .pointer (some ⟨bx, 0, none⟩)), (5, vh), (6, .int .i64 (l.length : Int)), (7, .int .i64 (d : Int))] ∧ St w0 [.blk bx (.cells (#[vh]) 40), .sl vh 30 33 l.length (mbCells l), (gg)] ww ∧ nn = l.length - d ∧ d ≤ l.length ∧ GG d gg ∧ ∀ j, j < d → q j = false) (l.length - (0)) ⟨0, g0, h.only ⟨rfl, rfl, rfl, rfl, slot_int rfl (by omega), trivial⟩, s.as ⟨rfl, rfl, rfl, trivial⟩, rfl, Nat.zero_le _, hg0, fun j hj => absurd hj (Nat.not_lt_zero _)⟩ ?_
  rintro _ f w1 ⟨d, gg, h, s, hnn, hp0, hp1, hp2⟩
  refine c_seq fun K2 hK2 => ?_
  refine c_region ?_
  refine s_pure h (ru_lss (h.ev rfl) (h.ev rfl)) rfl ?_; intro f h
  refine s_nil ?_
  refine hK2 _ _ ?_
  refine c_seq fun K3 hK3 => ?_
  refine c_cond h rfl (fun hc => ?_) (fun hc => ?_)
  · replace hc := of_decide_eq_true hc
    refine wpIn_skip ?_
    refine hK3 _ _ ?_
    refine c_seq fun K4 hK4 => ?_
    refine wpIn_block ?_
    refine c_seq fun K5 hK5 => ?_
    refine c_region ?_
    have hdl : d < l.length := by omega
    refine s_pure h (ru_ixz (RdZ.of_own (s.getSl 1 rfl)) (d) Try.underlying40 szo30 (h.ev rfl) (h.ev rfl) (by omega) (by omega)) rfl ?_; intro f h
    refine s_load_at ((RdZ.of_own (s.getSl 1 rfl)).el (d) (by omega) (by decide) (D := mbArr (l.getD d zMb)) (mb_elD l d hdl)) h row30 rfl (mbArr_size _) rfl ?_; intro f h
    refine s_alloc (mbArr zMb) h s zero30 rfl rfl ?_; intro f w1 b4 h s
    refine s_store_row 0 h s row30 rfl rfl rfl (mbArr_size _) (mbArr_size _) (mbArr_ones _) ?_; intro w1 s
    refine s_nil ?_
    refine hK5 _ _ ?_
    refine c_seq fun K6 hK6 => ?_
    cases hq : (q d : Bool)
    · skip
      refine c_region ?_
      refine s_pure h (ru_move (h.ev rfl)) rfl ?_; intro f h
      refine s_load_row 0 h s row30 rfl rfl (mbArr_size _) rfl ?_; intro f h
      refine s_yieldG (V := .bool true) (G := GG (d + 1)) [.agg (mbArr (l.getD d zMb))] 3 h rfl rfl (by have h9 := hY d _ _ 3 gg hdl hp2 hp1 s rfl; rw [hq] at h9; exact h9) rfl ?_; intro f w1 g1 hg1 h s
      refine s_pure h (ru_val (.bool false) (ru_not (h.ev rfl)) rfl) rfl ?_; intro f h
      refine s_nil ?_
      refine hK6 _ _ ?_
      refine wpIn_cond_false (h.ev rfl) ?_
      refine wpIn_skip ?_
      refine b_norm ?_
      refine hK4 _ _ ?_
      refine c_region ?_
      refine s_pure h (ru_add (h.ev rfl) (h.ev rfl) (by omega)) rfl ?_; intro f h
      refine s_pure h (ru_move (h.ev rfl)) rfl ?_; intro f h
      refine s_nil ?_
      refine t_norm ?_
      exact ⟨_, by omega, ⟨d + 1, g1, h.only ⟨rfl, rfl, rfl, rfl, slot_int rfl (by omega), trivial⟩, St.as (s.pick _ (List.sublist_append_right [_] _)) ⟨rfl, rfl, rfl, trivial⟩, rfl, by omega, hg1, qs_next hp2 hq⟩⟩
    · skip
      refine c_region ?_
      refine s_pure h (ru_move (h.ev rfl)) rfl ?_; intro f h
      refine s_load_row 0 h s row30 rfl rfl (mbArr_size _) rfl ?_; intro f h
      refine s_yieldG (V := .bool false) (G := GG (d + 1)) [.agg (mbArr (l.getD d zMb))] 3 h rfl rfl (by have h9 := hY d _ _ 3 gg hdl hp2 hp1 s rfl; rw [hq] at h9; exact h9) rfl ?_; intro f w1 g1 hg1 h s
      refine s_pure h (ru_val (.bool true) (ru_not (h.ev rfl)) rfl) rfl ?_; intro f h
      refine s_nil ?_
      refine hK6 _ _ ?_
      refine wpIn_cond_true (h.ev rfl) ?_
      refine wpIn_ret ?_
      refine b_ret ?_
      refine t_ret ?_
      refine t_ret ?_
      refine b_ret ?_
      exact e_noneF rfl h (⟨⟨_, rfl⟩, d + 1, g1, hg1, s.pick _ (List.sublist_cons_self _ _), by omega, fun j hj => hp2 j (by omega), fun h9 => absurd (hq.symm.trans h9) (by decide)⟩)
  · replace hc := of_decide_eq_false hc
    refine wpIn_exit ?_
    refine t_exit ?_
    refine t_exit ?_
    refine b_exit ?_
    exact e_noneF_end rfl h (⟨⟨_, rfl⟩, d, gg, hp1, s, hp0, fun j hj => hp2 j (by omega), fun _ => by omega⟩)

theorem mgrow_any (n : Nat) (hn : n ≤ 1000) (w : World) : Calls Try.prog 95 [.slice none 0 0, .int .i64 (n : Int)].toArray w (Ret w (fun v w' => Owns w' w.heap.size 30 33 v 0 [])) := by
  refine c_enter Try.func95 rfl Try.ntmps95 rfl [(0, .slice none 0 0), (1, .int .i64 (n : Int))] (by simp) fun f h => ?_
  have s := St.start w
  refine c_seq fun K1 hK1 => ?_
  refine c_region ?_
  refine s_pure h (ru_assign (h.ev rfl)) rfl ?_; intro f h
  refine s_nil ?_
  refine hK1 _ _ ?_
  refine c_seq fun K2 hK2 => ?_
  refine c_seq fun K3 hK3 => ?_
  refine c_region ?_
  refine s_pure h (ru_move (h.ev rfl)) rfl ?_; intro f h
  refine s_pure h (ru_val (.bool false) (ru_lss (h.ev rfl) (h.ev rfl)) (congrArg Value.bool (decide_eq_false (by omega)))) rfl ?_; intro f h
  refine s_nil ?_
  refine hK3 _ _ ?_
  refine wpIn_cond_false (h.ev rfl) ?_
  refine wpIn_skip ?_
  refine hK2 _ _ ?_
  refine c_seq fun K4 hK4 => ?_
  refine c_seq fun K5 hK5 => ?_
  refine c_region ?_
  refine s_pure h (ru_move (h.ev rfl)) rfl ?_; intro f h
  refine s_pure h (ru_move (h.ev rfl)) rfl ?_; intro f h
  refine s_pure h (ru_cap_nil Try.underlying40 (h.ev rfl)) rfl ?_; intro f h
  refine s_pure h (ru_move (h.ev rfl)) rfl ?_; intro f h
  refine s_pure h (ru_len_lit Try.underlying40 (h.ev rfl)) rfl ?_; intro f h
  refine s_pure h (ru_val (.int .i64 0) (ru_sub (h.ev rfl) (h.ev rfl) (by omega)) (rfl)) rfl ?_; intro f h
  refine s_pure h (ru_val (.int .i64 (n : Int)) (ru_sub (h.ev rfl) (h.ev rfl) (by omega)) (congrArg (Value.int .i64) (by omega))) rfl ?_; intro f h
  refine s_pure h (ru_assign (h.ev rfl)) rfl ?_; intro f h
  refine s_nil ?_
  refine hK5 _ _ ?_
  refine c_seq fun K6 hK6 => ?_
  refine c_region ?_
  refine s_pure h (ru_move (h.ev rfl)) rfl ?_; intro f h
  refine s_pure h (ru_gtr (h.ev rfl) (h.ev rfl)) rfl ?_; intro f h
  refine s_nil ?_
  refine hK6 _ _ ?_
  refine c_cond h rfl (fun hc => ?_) (fun hc => ?_)
  · replace hc := of_decide_eq_true hc
    refine c_region ?_
    refine s_pure h (ru_move (h.ev rfl)) rfl ?_; intro f h
    refine s_pure h (ru_move (h.ev rfl)) rfl ?_; intro f h
    refine s_pure h (ru_cap_nil Try.underlying40 (h.ev rfl)) rfl ?_; intro f h
    refine s_pure h (ru_slice_nil Try.underlying40 szo30 (h.ev rfl) (h.ev rfl)) rfl ?_; intro f h
    refine s_pure h (ru_move (h.ev rfl)) rfl ?_; intro f h
    refine s_append_zeros (n := n) (base := w.heap.size) h Try.underlying40 Try.underlying3 elm30 rfl rfl (by omega) (by omega) (by omega) (Nat.le_refl _) rfl ?_; intro f w1 v22 xs9 h hE9 hO9
    replace s := s.sl_new hE9 hO9
    refine s_pure h (ru_move (h.ev rfl)) rfl ?_; intro f h
    refine s_pure h (ru_len_lit Try.underlying40 (h.ev rfl)) rfl ?_; intro f h
    refine s_pure h (ru_slice_own0 hO9 Try.underlying40 szo30 (h.ev rfl) (h.ev rfl)) rfl ?_; intro f h
    refine s_pure h (ru_assign (h.ev rfl)) rfl ?_; intro f h
    refine s_nil ?_
    refine hK4 _ _ ?_
    refine c_seq fun K7 hK7 => ?_
    refine c_region ?_
    refine s_pure h (ru_move (h.ev rfl)) rfl ?_; intro f h
    refine s_pure h (ru_assign (h.ev rfl)) rfl ?_; intro f h
    refine s_nil ?_
    refine hK7 _ _ ?_
    refine wpIn_ret ?_
    exact e_tmp rfl h s rfl (hO9.cut0)
  · replace hc := of_decide_eq_false hc
    refine wpIn_skip ?_
    refine hK4 _ _ ?_
    refine c_seq fun K8 hK8 => ?_
    refine c_region ?_
    refine s_pure h (ru_move (h.ev rfl)) rfl ?_; intro f h
    refine s_pure h (ru_assign (h.ev rfl)) rfl ?_; intro f h
    refine s_nil ?_
    refine hK8 _ _ ?_
    refine wpIn_ret ?_
    exact e_tmp rfl h s rfl (owns_nil _ _ _ _)

theorem mconcat_any (vh : Value) (us : List Value) (ls : List (List Mb)) (hls : us.length = ls.length) (htot : ls.flatten.length ≤ 1000) (hvn : us.length ≤ 1000) (w : World) (hv : RdZ w vh 1 us.length us) (hr : ∀ k, k < us.length → RdZ w (us.getD k undef) 33 (ls.getD k []).length (mbCells (ls.getD k []))) : Calls Try.prog 78 [vh].toArray w (Ret w (fun v w' => Owns w' w.heap.size 30 33 v ls.flatten.length (mbCells ls.flatten))) := by
  refine c_enter Try.func78 rfl Try.ntmps78 rfl [(0, vh)] (by simp) fun f h => ?_
  have s := St.start w
  refine c_seq fun K1 hK1 => ?_
  refine c_region ?_
  refine s_pure h (ru_assign (h.ev rfl)) rfl ?_; intro f h
  refine s_nil ?_
  refine hK1 _ _ ?_
  refine c_seq fun K2 hK2 => ?_
  refine c_region ?_
  refine s_pure h (ru_assign (h.ev rfl)) rfl ?_; intro f h
  refine s_nil ?_
  refine hK2 _ _ ?_
  refine c_seq fun K3 hK3 => ?_
  refine c_seq fun K4 hK4 => ?_
  refine c_region ?_
  refine s_pure h (ru_move (h.ev rfl)) rfl ?_; intro f h
  refine s_pure h (ru_lenZ (hv.keep s.ext) Try.underlying127 (h.ev rfl)) rfl ?_; intro f h
  refine s_pure h (ru_move (h.ev rfl)) rfl ?_; intro f h
  refine s_nil ?_
  refine hK4 _ _ ?_
  refine wpIn_block ?_
  refine wpIn_loop_ghost (fun nn aa ww => ∃ k : Nat, Sl 36 aa [(0, vh), (3, .int .i64 (((ls.take k).flatten.length : Nat) : Int)), (9, vh), (10, .int .i64 (us.length : Int)), (11, .int .i64 (k : Int))] ∧ St w [] ww ∧ nn = us.length - k ∧ k ≤ us.length) (us.length - (0)) ⟨0, h.only ⟨rfl, slot_int rfl rfl, rfl, rfl, slot_int rfl (by omega), trivial⟩, s.as trivial, rfl, Nat.zero_le _⟩ ?_
  rintro _ f w1 ⟨k, h, s, hnn, hp0⟩
  refine c_seq fun K5 hK5 => ?_
  refine c_region ?_
  refine s_pure h (ru_lss (h.ev rfl) (h.ev rfl)) rfl ?_; intro f h
  refine s_nil ?_
  refine hK5 _ _ ?_
  refine c_seq fun K6 hK6 => ?_
  refine c_cond h rfl (fun hc => ?_) (fun hc => ?_)
  · replace hc := of_decide_eq_true hc
    refine wpIn_skip ?_
    refine hK6 _ _ ?_
    refine c_seq fun K7 hK7 => ?_
    refine wpIn_block ?_
    refine c_seq fun K8 hK8 => ?_
    refine c_region ?_
    have hkl : k < us.length := by omega
    refine s_pure h (ru_ixz (hv.keep s.ext) (k) Try.underlying127 szo40 (h.ev rfl) (h.ev rfl) (by omega) (by omega)) rfl ?_; intro f h
    refine s_load_at1 ((hv.keep s.ext).el1 (k) (V := us.getD k undef) (getD_el hkl)) h one40 rfl rfl ?_; intro f h
    refine s_pure h (ru_assign (h.ev rfl)) rfl ?_; intro f h
    refine s_nil ?_
    refine hK8 _ _ ?_
    refine c_seq fun K9 hK9 => ?_
    refine c_region ?_
    refine s_pure h (ru_move (h.ev rfl)) rfl ?_; intro f h
    refine s_pure h (ru_move (h.ev rfl)) rfl ?_; intro f h
    refine s_pure h (ru_lenZ ((hr k hkl).keep s.ext) Try.underlying40 (h.ev rfl)) rfl ?_; intro f h
    have hk1 := catM_len ls k (by omega)
    have hk2 := catM_le ls (k + 1)
    refine s_pure h (ru_add (h.ev rfl) (h.ev rfl) (by omega)) rfl ?_; intro f h
    refine s_pure h (ru_assign (h.ev rfl)) rfl ?_; intro f h
    refine s_nil ?_
    refine hK9 _ _ ?_
    refine c_seq fun K10 hK10 => ?_
    refine c_region ?_
    refine s_pure h (ru_move (h.ev rfl)) rfl ?_; intro f h
    refine s_pure h (ru_val (.bool false) (ru_lss (h.ev rfl) (h.ev rfl)) (congrArg Value.bool (decide_eq_false (by omega)))) rfl ?_; intro f h
    refine s_nil ?_
    refine hK10 _ _ ?_
    refine wpIn_cond_false (h.ev rfl) ?_
    refine wpIn_skip ?_
    refine b_norm ?_
    refine hK7 _ _ ?_
    refine c_region ?_
    refine s_pure h (ru_add (h.ev rfl) (h.ev rfl) (by omega)) rfl ?_; intro f h
    refine s_pure h (ru_move (h.ev rfl)) rfl ?_; intro f h
    refine s_nil ?_
    refine t_norm ?_
    exact ⟨_, by omega, ⟨k + 1, h.only ⟨rfl, slot_int rfl (by omega), rfl, rfl, slot_int rfl (by omega), trivial⟩, St.as s trivial, rfl, by omega⟩⟩
  · replace hc := of_decide_eq_false hc
    refine wpIn_exit ?_
    refine t_exit ?_
    refine t_exit ?_
    refine b_exit ?_
    refine hK3 _ _ ?_
    refine c_seq fun K11 hK11 => ?_
    refine c_region ?_
    obtain rfl : k = us.length := by omega
    refine s_pure h (ru_val (.int .i64 ((ls.flatten.length : Nat) : Int)) (ru_move (h.ev rfl)) (by rw [hls, List.take_length])) rfl ?_; intro f h
    refine s_call h s fnc95 (mgrow_any ls.flatten.length (by omega) _) rfl rfl ?_; intro f w1 v24 hT hE h sq; replace s := s.sl_new hE hT
    refine s_pure h (ru_assign (h.ev rfl)) rfl ?_; intro f h
    refine s_nil ?_
    refine hK11 _ _ ?_
    refine c_seq fun K12 hK12 => ?_
    refine c_seq fun K13 hK13 => ?_
    refine c_region ?_
    refine s_pure h (ru_move (h.ev rfl)) rfl ?_; intro f h
    refine s_pure h (ru_lenZ (hv.keep s.ext) Try.underlying127 (h.ev rfl)) rfl ?_; intro f h
    refine s_pure h (ru_move (h.ev rfl)) rfl ?_; intro f h
    refine s_nil ?_
    refine hK13 _ _ ?_
    refine wpIn_block ?_
    refine wpIn_loop_ghost (fun nn aa ww => ∃ i : Nat, ∃ vb : Value, Sl 36 aa [(0, vh), (6, vb), (25, vh), (26, .int .i64 (us.length : Int)), (27, .int .i64 (i : Int))] ∧ St w [.sl vb 30 33 (ls.take i).flatten.length (mbCells (ls.take i).flatten)] ww ∧ nn = us.length - i ∧ i ≤ us.length) (us.length - (0)) ⟨0, v24, h.only ⟨rfl, rfl, rfl, rfl, slot_int rfl (by omega), trivial⟩, s.as ⟨sl_eq rfl rfl, trivial⟩, rfl, Nat.zero_le _⟩ ?_
    rintro _ f w1 ⟨i, vb, h, s, hnn, hp0⟩
    refine c_seq fun K14 hK14 => ?_
    refine c_region ?_
    refine s_pure h (ru_lss (h.ev rfl) (h.ev rfl)) rfl ?_; intro f h
    refine s_nil ?_
    refine hK14 _ _ ?_
    refine c_seq fun K15 hK15 => ?_
    refine c_cond h rfl (fun hc => ?_) (fun hc => ?_)
    · replace hc := of_decide_eq_true hc
      refine wpIn_skip ?_
      refine hK15 _ _ ?_
      refine c_seq fun K16 hK16 => ?_
      refine wpIn_block ?_
      refine c_seq fun K17 hK17 => ?_
      refine c_region ?_
      have hkl : i < us.length := by omega
      have hk1 := catM_len ls i (by omega)
      have hk2 := catM_le ls (i + 1)
      refine s_pure h (ru_ixz (hv.keep s.ext) (i) Try.underlying127 szo40 (h.ev rfl) (h.ev rfl) (by omega) (by omega)) rfl ?_; intro f h
      refine s_load_at1 ((hv.keep s.ext).el1 (i) (V := us.getD i undef) (getD_el hkl)) h one40 rfl rfl ?_; intro f h
      refine s_pure h (ru_assign (h.ev rfl)) rfl ?_; intro f h
      refine s_nil ?_
      refine hK17 _ _ ?_
      refine c_region ?_
      refine s_pure h (ru_move (h.ev rfl)) rfl ?_; intro f h
      refine s_pure h (ru_move (h.ev rfl)) rfl ?_; intro f h
      refine s_append_rd 0 ((hr i hkl).keep s.ext) h s Try.underlying40 elm30 rfl rfl rfl (mbCells_ones _) (by unfold maxLen; omega) (by omega) rfl ?_; intro f w1 v33 h s
      refine s_pure h (ru_assign (h.ev rfl)) rfl ?_; intro f h
      refine s_nil ?_
      refine b_norm ?_
      refine hK16 _ _ ?_
      refine c_region ?_
      refine s_pure h (ru_add (h.ev rfl) (h.ev rfl) (by omega)) rfl ?_; intro f h
      refine s_pure h (ru_move (h.ev rfl)) rfl ?_; intro f h
      refine s_nil ?_
      refine t_norm ?_
      exact ⟨_, by omega, ⟨i + 1, v33, h.only ⟨rfl, rfl, rfl, rfl, slot_int rfl (by omega), trivial⟩, St.as s ⟨sl_eq (catM_len ls i (by omega)) (catM_cells ls i (by omega)), trivial⟩, rfl, by omega⟩⟩
    · replace hc := of_decide_eq_false hc
      refine wpIn_exit ?_
      refine t_exit ?_
      refine t_exit ?_
      refine b_exit ?_
      refine hK12 _ _ ?_
      refine c_seq fun K18 hK18 => ?_
      refine c_region ?_
      refine s_pure h (ru_move (h.ev rfl)) rfl ?_; intro f h
      refine s_pure h (ru_assign (h.ev rfl)) rfl ?_; intro f h
      refine s_nil ?_
      refine hK18 _ _ ?_
      refine wpIn_ret ?_
      exact e_tmp rfl h s rfl (concatM_fin (by omega) (s.getSl 0 rfl))

theorem known9_any (n : Nd) (vs vf : Value) (w : World) (hRs : RdZ w vs 33 n.sc.length (mbCells n.sc)) (hRf : RdZ w vf 33 n.fg.length (mbCells n.fg)) (hns : n.sc.length ≤ 400) (hnf : n.fg.length ≤ 400) : Calls Try.prog 68 [.agg (ndArr n.me n.pr vs vf)].toArray w (Ret w (fun v w9 => ∃ bv vk, v = .func (.func 100) #[] #[.pointer (some ⟨bv, 0, none⟩)] ∧ St w [.blk bv (.cells #[vk] 40), .sl vk 30 33 (knownN n).length (mbCells (knownN n))] w9)) := by
  refine c_enter Try.func68 rfl Try.ntmps68 rfl [(0, .agg (ndArr n.me n.pr vs vf))] (by simp) fun f h => ?_
  have s := St.start w
  refine c_seq fun K1 hK1 => ?_
  refine c_region ?_
  refine s_box (ndArr n.me n.pr vs vf) h s rfl rfl rfl ?_; intro f w1 b1 h s
  refine s_pure h (ru_assign (h.ev rfl)) rfl ?_; intro f h
  refine s_nil ?_
  refine hK1 _ _ ?_
  refine c_seq fun K2 hK2 => ?_
  refine c_region ?_
  refine s_pure h (ru_field fld46_1 (h.ev rfl)) rfl ?_; intro f h
  refine s_load_at (Has.subL (Has.of_own s 0 rfl) 33 33 (D := mbArr n.pr) (ndArr_pr _ _ _ _)) h row30 rfl (mbArr_size _) rfl ?_; intro f h
  refine s_bslice (vs := [.agg (mbArr n.pr)]) [.tmp 4] h s Try.underlying40 elm30 rfl rfl (mb_sz _) rfl rfl rfl ?_; intro f w1 v5 h s
  replace s := s.resl (m := [n.pr].length) (ys := mbCells [n.pr]) 0 rfl rfl (by rw [one_mb, mbCells_one])
  refine s_pure h (ru_field fld46_2 (h.ev rfl)) rfl ?_; intro f h
  refine s_load_at1 (V := vs) (cell_of_has (Has.of_own s 1 rfl) 66 (ndArr_sc _ _ _ _)) h one40 rfl rfl ?_; intro f h
  refine s_pure h (ru_field fld46_3 (h.ev rfl)) rfl ?_; intro f h
  refine s_load_at1 (V := vf) (cell_of_has (Has.of_own s 1 rfl) 67 (ndArr_fg _ _ _ _)) h one40 rfl rfl ?_; intro f h
  refine s_bslice (vs := [v5, vs, vf]) [.tmp 5, .tmp 7, .tmp 9] h s Try.underlying127 elm40 rfl rfl (by intro v hv; simp only [List.mem_cons, List.not_mem_nil, or_false] at hv; rcases hv with rfl | rfl | rfl; exact rd_size (RdZ.of_own (s.getSl 0 rfl)); exact rd_size hRs; exact rd_size hRf) rfl rfl rfl ?_; intro f w1 v10 h s
  replace s := s.resl (m := 3) (ys := [v5, vs, vf]) 0 rfl rfl (by simp [rd_cells (RdZ.of_own (s.getSl 1 rfl)), rd_cells hRs, rd_cells hRf])
  refine s_call h s fnc78 (mconcat_any v10 [v5, vs, vf] [[n.pr], n.sc, n.fg] rfl (by rw [three_flat]; simp only [List.length_append, List.length_cons, List.length_nil]; omega) (by show 3 ≤ 1000; omega) _ (RdZ.of_own (s.getSl 0 rfl)) (three_rd (RdZ.of_own (s.getSl 1 rfl)) (hRs.keep s.ext) (hRf.keep s.ext))) rfl rfl ?_; intro f w1 v11 hT hE h sq; replace s := s.sl_new hE (hT.seq (m := (knownN n).length) (ys := mbCells (knownN n)) (by rw [three_flat]; rfl) (by rw [three_flat]; rfl))
  refine s_callS [v11] h fnc90 (valuesf_any (knownN n) v11 _ _ _ s (RdZ.of_own (s.getSl 0 rfl))) rfl rfl ?_; rintro f w1 r ⟨bv, rfl, s⟩ h
  refine s_pure h (ru_assign (h.ev rfl)) rfl ?_; intro f h
  refine s_nil ?_
  refine hK2 _ _ ?_
  refine wpIn_ret ?_
  exact e_tmp rfl h s rfl (⟨bv, v11, rfl, (s.sel [0, 1] rfl (by decide))⟩)

theorem clashes_any (m : Mb) (w : World) : Calls Try.prog 60 [.agg (mbArr m)].toArray w (Ret w (fun v w9 => ∃ bx, v = .func (.func 87) #[] #[.pointer (some ⟨bx, 0, none⟩)] ∧ Tab w9 bx (mbArr m))) := by
  refine c_enter Try.func60 rfl Try.ntmps60 rfl [(0, .agg (mbArr m))] (by simp) fun f h => ?_
  have s := St.start w
  refine c_seq fun K1 hK1 => ?_
  refine c_region ?_
  refine s_box ((mbArr m)) h s rfl rfl rfl ?_; intro f w1 b1 h s
  refine s_pure h (ru_assign (h.ev rfl)) rfl ?_; intro f h
  refine s_nil ?_
  refine hK1 _ _ ?_
  refine c_seq fun K2 hK2 => ?_
  refine c_region ?_
  refine s_pure h (ru_makeFunc [.pointer (some ⟨b1, 0, none⟩)] (evsA h rfl)) rfl ?_; intro f h
  refine s_pure h (ru_assign (h.ev rfl)) rfl ?_; intro f h
  refine s_nil ?_
  refine hK2 _ _ ?_
  refine wpIn_ret ?_
  exact e_tmp rfl h s rfl (⟨b1, rfl, Tab.of_own s 0 rfl⟩)

theorem clash1_any (x m : Mb) (bx : Nat) (w : World) (hb : Tab w bx (mbArr m)) : Calls Try.prog 87 [.agg (mbArr x), .pointer (some ⟨bx, 0, none⟩)].toArray w (Ret w (is (.bool (clash m x)))) := by
  refine c_enter Try.func87 rfl Try.ntmps87 rfl [(0, .agg (mbArr x)), (1, .pointer (some ⟨bx, 0, none⟩))] (by simp) fun f h => ?_
  have s := St.start w
  refine c_seq fun K1 hK1 => ?_
  refine c_region ?_
  refine s_box ((mbArr x)) h s rfl rfl rfl ?_; intro f w1 b2 h s
  refine s_pure h (ru_assign (h.ev rfl)) rfl ?_; intro f h
  refine s_nil ?_
  refine hK1 _ _ ?_
  refine c_seq fun K2 hK2 => ?_
  cases h0 : (decide (x.1 = m.1) : Bool)
  · skip
    refine c_region ?_
    refine s_pure h (ru_field fld30_0 (h.ev rfl)) rfl ?_; intro f h
    refine s_load_at1 (cell_of_has (Has.of_own s 0 rfl) 0 (mbArr_no _)) h one3 rfl rfl ?_; intro f h
    refine s_pure h (ru_field fld30_0 (h.ev rfl)) rfl ?_; intro f h
    refine s_load_at1 (V := .int .i64 m.1) (cell_of_has (Has.of_tab (hb.keep s.ext)) 0 (mbArr_no _)) h one3 rfl rfl ?_; intro f h
    refine s_pure h (ru_val (.bool false) (ru_eql (h.ev rfl) (h.ev rfl)) (congrArg Value.bool h0)) rfl ?_; intro f h
    refine s_pure h (ru_move (h.ev rfl)) rfl ?_; intro f h
    refine s_on h rfl rfl rfl ?_
    refine s_pure h (ru_field fld30_1 (h.ev rfl)) rfl ?_; intro f h
    refine s_on h rfl rfl rfl ?_
    refine s_load_at (Has.subL (Has.of_own s 0 rfl) 1 32 (D := idArr (_)) (mbArr_id _)) h row26 rfl (by first | exact idArr_size _ | exact bytesF_size _ _) rfl ?_; intro f h
    refine s_on h rfl rfl rfl ?_
    refine s_pure h (ru_field fld30_1 (h.ev rfl)) rfl ?_; intro f h
    refine s_on h rfl rfl rfl ?_
    refine s_load_at (Has.subL (Has.of_tab (hb.keep s.ext)) 1 32 (D := idArr (_)) (mbArr_id _)) h row26 rfl (by first | exact idArr_size _ | exact bytesF_size _ _) rfl ?_; intro f h
    refine s_on h rfl rfl rfl ?_
    refine s_pure h (ru_eql_id idTy (h.ev rfl) (h.ev rfl)) rfl ?_; intro f h
    refine s_pure h (ru_pick_f (h.ev rfl) (h.ev rfl)) rfl ?_; intro f h
    refine s_pure h (ru_assign (h.ev rfl)) rfl ?_; intro f h
    refine s_nil ?_
    refine hK2 _ _ ?_
    refine wpIn_ret ?_
    exact e_tmp rfl h s rfl (by show _ = _; rw [clash_2 h0] <;> rfl)
  · skip
    refine c_region ?_
    refine s_pure h (ru_field fld30_0 (h.ev rfl)) rfl ?_; intro f h
    refine s_load_at1 (cell_of_has (Has.of_own s 0 rfl) 0 (mbArr_no _)) h one3 rfl rfl ?_; intro f h
    refine s_pure h (ru_field fld30_0 (h.ev rfl)) rfl ?_; intro f h
    refine s_load_at1 (V := .int .i64 m.1) (cell_of_has (Has.of_tab (hb.keep s.ext)) 0 (mbArr_no _)) h one3 rfl rfl ?_; intro f h
    refine s_pure h (ru_val (.bool true) (ru_eql (h.ev rfl) (h.ev rfl)) (congrArg Value.bool h0)) rfl ?_; intro f h
    refine s_pure h (ru_move (h.ev rfl)) rfl ?_; intro f h
    refine s_off (b := false) h rfl rfl rfl rfl ?_; intro f h
    refine s_off (b := false) h rfl rfl rfl rfl ?_; intro f h
    refine s_off (b := false) h rfl rfl rfl rfl ?_; intro f h
    refine s_off (b := false) h rfl rfl rfl rfl ?_; intro f h
    refine s_off (b := false) h rfl rfl rfl rfl ?_; intro f h
    refine s_pure h (ru_pick_t (h.ev rfl) (h.ev rfl)) rfl ?_; intro f h
    refine s_pure h (ru_assign (h.ev rfl)) rfl ?_; intro f h
    refine s_nil ?_
    refine hK2 _ _ ?_
    refine wpIn_ret ?_
    exact e_tmp rfl h s rfl (by show _ = _; rw [clash_1 h0] <;> rfl)

theorem right_any (l : List Mb) (vh : Value) (w : World) (hR : RdZ w vh 33 l.length (mbCells l)) (hln : l.length ≤ 1000) : Calls Try.prog 32 [vh].toArray w (Ret w (is (.bool (rightR l)))) := by
  refine c_enter Try.func32 rfl Try.ntmps32 rfl [(0, vh)] (by simp) fun f h => ?_
  have s := St.start w
  refine c_seq fun K1 hK1 => ?_
  refine c_region ?_
  refine s_pure h (ru_assign (h.ev rfl)) rfl ?_; intro f h
  refine s_nil ?_
  refine hK1 _ _ ?_
  refine c_seq fun K2 hK2 => ?_
  refine c_seq fun K3 hK3 => ?_
  refine c_region ?_
  refine s_pure h (ru_move (h.ev rfl)) rfl ?_; intro f h
  refine s_pure h (ru_lenZ (hR.keep s.ext) Try.underlying40 (h.ev rfl)) rfl ?_; intro f h
  refine s_pure h (ru_gtr (h.ev rfl) (h.ev rfl)) rfl ?_; intro f h
  refine s_nil ?_
  refine hK3 _ _ ?_
  refine c_cond h rfl (fun hc => ?_) (fun hc => ?_)
  · replace hc := of_decide_eq_true hc
    refine c_seq fun K4 hK4 => ?_
    refine c_region ?_
    refine s_pure h (ru_assign (h.ev rfl)) rfl ?_; intro f h
    refine s_nil ?_
    refine hK4 _ _ ?_
    refine wpIn_ret ?_
    refine t_ret ?_
    exact e_tmp rfl h s rfl (by show _ = _; rw [right_longR (by omega)] <;> rfl)
  · replace hc := of_decide_eq_false hc
    have hl16 : l.length ≤ 16 := by omega
    refine wpIn_skip ?_
    refine hK2 _ _ ?_
    refine c_seq fun K5 hK5 => ?_
    refine c_seq fun K6 hK6 => ?_
    refine c_region ?_
    refine s_pure h (ru_move (h.ev rfl)) rfl ?_; intro f h
    refine s_pure h (ru_lenZ (hR.keep s.ext) Try.underlying40 (h.ev rfl)) rfl ?_; intro f h
    refine s_pure h (ru_move (h.ev rfl)) rfl ?_; intro f h
    refine s_nil ?_
    refine hK6 _ _ ?_
    refine wpIn_block ?_
    refine wpIn_loop_ghost (fun nn aa ww => ∃ k : Nat, Sl 32 aa [(0, vh), (8, vh), (9, .int .i64 (l.length : Int)), (10, .int .i64 (k : Int))] ∧ St w [] ww ∧ nn = l.length - k ∧ k ≤ l.length ∧ ∀ j, j < k → badR l j = false) (l.length - (0)) ⟨0, h.only ⟨rfl, rfl, rfl, slot_int rfl (by omega), trivial⟩, s.as trivial, rfl, Nat.zero_le _, fun j hj => absurd hj (Nat.not_lt_zero _)⟩ ?_
    rintro _ f w1 ⟨k, h, s, hnn, hp0, hp1⟩
    refine c_seq fun K7 hK7 => ?_
    refine c_region ?_
    refine s_pure h (ru_lss (h.ev rfl) (h.ev rfl)) rfl ?_; intro f h
    refine s_nil ?_
    refine hK7 _ _ ?_
    refine c_seq fun K8 hK8 => ?_
    refine c_cond h rfl (fun hc => ?_) (fun hc => ?_)
    · replace hc := of_decide_eq_true hc
      refine wpIn_skip ?_
      refine hK8 _ _ ?_
      refine c_seq fun K9 hK9 => ?_
      refine wpIn_block ?_
      refine c_seq fun K10 hK10 => ?_
      refine c_region ?_
      refine s_pure h (ru_move (h.ev rfl)) rfl ?_; intro f h
      have hkl : k < l.length := by omega
      refine s_pure h (ru_ixz (hR.keep s.ext) (k) Try.underlying40 szo30 (h.ev rfl) (h.ev rfl) (by omega) (by omega)) rfl ?_; intro f h
      refine s_load_at ((hR.keep s.ext).el (k) (by omega) (by decide) (D := mbArr (l.getD k zMb)) (mb_elD l k hkl)) h row30 rfl (mbArr_size _) rfl ?_; intro f h
      refine s_alloc (mbArr zMb) h s zero30 rfl rfl ?_; intro f w1 b4 h s
      refine s_pure h (ru_assign (h.ev rfl)) rfl ?_; intro f h
      refine s_store_row 0 h s row30 rfl rfl rfl (mbArr_size _) (mbArr_size _) (mbArr_ones _) ?_; intro w1 s
      refine s_nil ?_
      refine hK10 _ _ ?_
      refine c_seq fun K11 hK11 => ?_
      cases k0 : (decide ((l.getD k zMb).1 < 0) : Bool)
      · skip
        cases k1 : (decide (16 ≤ (l.getD k zMb).1) : Bool)
        · skip
          have hbs := s.ext.le
          refine' c_reg2 14 [0] [] [[], [0], [0, 1], [0, 1, 2], [0, 1, 2, 3], [0, 1, 2, 3, 4], [0, 1, 2, 3, 4, 5], [0, 1, 2, 3, 4, 5, 6], [0, 1, 2, 3, 4, 5, 6, 7], [0, 1, 2, 3, 4, 5, 6, 7, 8], [0, 1, 2, 3, 4, 5, 6, 7, 8], [0, 1, 2, 3, 4, 5, 6, 7, 8, 9, 10], [0, 1, 2, 3, 4, 5, 6, 7, 8], [0, 1, 2, 3, 4, 5, 6, 7, 8, 12], [0, 1, 2, 3, 4, 5, 6, 7, 8, 9, 10, 11, 12, 13], [0, 1, 2, 3, 4, 5, 6, 7, 8, 9, 10, 11, 12, 13, 14]] (is _ :: is _ :: is _ :: is _ :: is _ :: is _ :: is _ :: is _ :: is _ :: is _ :: is _ :: is _ :: is _ :: (fun v w9 => ∃ bx, v = .func (.func 87) #[] #[.pointer (some ⟨bx, 0, none⟩)] ∧ Tab w9 bx (mbArr (l.getD k zMb))) :: is undef :: is undef :: []) (fun _ => True) h s (by kernel_rfl) (by kernel_rfl) (by kernel_rfl) (by kernel_rfl) rfl (fun _ _ h _ => h) (trivial) ⟨⟨_, rfl⟩, trivial⟩ ⟨is_mono _, is_mono _, is_mono _, is_mono _, is_mono _, is_mono _, is_mono _, is_mono _, is_mono _, is_mono _, is_mono _, is_mono _, is_mono _, fun _ _ _ h9 hE => by obtain ⟨bx, h1, h2⟩ := h9; exact ⟨bx, h1, h2.keep hE⟩, is_mono _, is_mono _, trivial⟩ (And.intro ?_ (And.intro ?_ (And.intro ?_ (And.intro ?_ (And.intro ?_ (And.intro ?_ (And.intro ?_ (And.intro ?_ (And.intro ?_ (And.intro ?_ (And.intro ?_ (And.intro ?_ (And.intro ?_ (And.intro ?_ (And.intro ?_ (And.intro ?_ (trivial))))))))))))))))) ?_
          rotate_left 13
          · refine obH_in 15 rfl (by decide) ?_
            intro f9 w2 hE hs hl
            have e4 : f9.tmps.getD 4 undef = _ := sx_old hl 4 (by kernel_rfl) (by kernel_rfl) (h.holds 4 _ rfl)
            have h := fin_slot [(4, _)] hs rfl (holds_lk ⟨e4, trivial⟩)
            refine s_pure h (ru_field fld30_0 (h.ev rfl)) rfl ?_; intro f h
            refine s_nil ?_
            have e9 := h.holds 15 _ rfl
            refine ⟨?_, rfl⟩
            refine e9.trans ?_
            exact rfl
          · refine obF_in 16 rfl (by decide) (by decide) ?_
            intro f9 w2 hE hs hd9 hl
            have e15 : f9.tmps.getD 15 undef = _ := sx_get hl 15 0 (by kernel_rfl) (by kernel_rfl)
            have h := fin_slot [(15, _)] hs hd9 (holds_lk ⟨e15, trivial⟩)
            have s := s.more hE
            have z := St.start w2
            refine s_load_at1 (cell_of_has (Has.of_own s 0 rfl) 0 (mbArr_no _)) h one3 rfl rfl ?_; intro f h
            refine s_nil ?_
            have e9 := h.holds 16 _ rfl
            refine ⟨?_, Ext.refl _, fun h9 => absurd h9 (by decide)⟩
            refine e9.trans ?_
            exact rfl
          · refine obF_in 17 rfl (by decide) (by decide) ?_
            intro f9 w2 hE hs hd9 hl
            have e16 : f9.tmps.getD 16 undef = _ := sx_get hl 16 1 (by kernel_rfl) (by kernel_rfl)
            have h := fin_slot [(16, _)] hs hd9 (holds_lk ⟨e16, trivial⟩)
            have s := s.more hE
            have z := St.start w2
            refine s_pure h (ru_val (.bool false) (ru_lss (h.ev rfl) (h.ev rfl)) (congrArg Value.bool k0)) rfl ?_; intro f h
            refine s_nil ?_
            have e9 := h.holds 17 _ rfl
            refine ⟨?_, Ext.refl _, fun h9 => absurd h9 (by decide)⟩
            refine e9.trans ?_
            exact rfl
          · refine obF_in 18 rfl (by decide) (by decide) ?_
            intro f9 w2 hE hs hd9 hl
            have e17 : f9.tmps.getD 17 undef = _ := sx_get hl 17 2 (by kernel_rfl) (by kernel_rfl)
            have h := fin_slot [(17, _)] hs hd9 (holds_lk ⟨e17, trivial⟩)
            have s := s.more hE
            have z := St.start w2
            refine s_pure h (ru_move (h.ev rfl)) rfl ?_; intro f h
            refine s_nil ?_
            have e9 := h.holds 18 _ rfl
            refine ⟨?_, Ext.refl _, fun h9 => absurd h9 (by decide)⟩
            refine e9.trans ?_
            exact rfl
          · refine obF_in 19 rfl (by decide) (by decide) ?_
            intro f9 w2 hE hs hd9 hl
            have e4 : f9.tmps.getD 4 undef = _ := sx_old hl 4 (by kernel_rfl) (by kernel_rfl) (h.holds 4 _ rfl)
            have e18 : f9.tmps.getD 18 undef = _ := sx_get hl 18 3 (by kernel_rfl) (by kernel_rfl)
            have h := fin_slot [(4, _), (18, _)] hs hd9 (holds_lk ⟨e4, e18, trivial⟩)
            have s := s.more hE
            have z := St.start w2
            refine s_on h rfl rfl rfl ?_
            refine s_pure h (ru_field fld30_0 (h.ev rfl)) rfl ?_; intro f h
            refine s_nil ?_
            have e9 := h.holds 19 _ rfl
            refine ⟨?_, Ext.refl _, fun h9 => absurd h9 (by decide)⟩
            refine e9.trans ?_
            exact rfl
          · refine obF_in 20 rfl (by decide) (by decide) ?_
            intro f9 w2 hE hs hd9 hl
            have e19 : f9.tmps.getD 19 undef = _ := sx_get hl 19 4 (by kernel_rfl) (by kernel_rfl)
            have e18 : f9.tmps.getD 18 undef = _ := sx_get hl 18 3 (by kernel_rfl) (by kernel_rfl)
            have h := fin_slot [(19, _), (18, _)] hs hd9 (holds_lk ⟨e19, e18, trivial⟩)
            have s := s.more hE
            have z := St.start w2
            refine s_on h rfl rfl rfl ?_
            refine s_load_at1 (cell_of_has (Has.of_own s 0 rfl) 0 (mbArr_no _)) h one3 rfl rfl ?_; intro f h
            refine s_nil ?_
            have e9 := h.holds 20 _ rfl
            refine ⟨?_, Ext.refl _, fun h9 => absurd h9 (by decide)⟩
            refine e9.trans ?_
            exact rfl
          · refine obF_in 21 rfl (by decide) (by decide) ?_
            intro f9 w2 hE hs hd9 hl
            have e20 : f9.tmps.getD 20 undef = _ := sx_get hl 20 5 (by kernel_rfl) (by kernel_rfl)
            have e18 : f9.tmps.getD 18 undef = _ := sx_get hl 18 3 (by kernel_rfl) (by kernel_rfl)
            have h := fin_slot [(20, _), (18, _)] hs hd9 (holds_lk ⟨e20, e18, trivial⟩)
            have s := s.more hE
            have z := St.start w2
            refine s_on h rfl rfl rfl ?_
            refine s_pure h (ru_val (.bool false) (ru_geq (h.ev rfl) (h.ev rfl)) (congrArg Value.bool k1)) rfl ?_; intro f h
            refine s_nil ?_
            have e9 := h.holds 21 _ rfl
            refine ⟨?_, Ext.refl _, fun h9 => absurd h9 (by decide)⟩
            refine e9.trans ?_
            exact rfl
          · refine obF_in 22 rfl (by decide) (by decide) ?_
            intro f9 w2 hE hs hd9 hl
            have e18 : f9.tmps.getD 18 undef = _ := sx_get hl 18 3 (by kernel_rfl) (by kernel_rfl)
            have e21 : f9.tmps.getD 21 undef = _ := sx_get hl 21 6 (by kernel_rfl) (by kernel_rfl)
            have h := fin_slot [(18, _), (21, _)] hs hd9 (holds_lk ⟨e18, e21, trivial⟩)
            have s := s.more hE
            have z := St.start w2
            refine s_pure h (ru_pick_f (h.ev rfl) (h.ev rfl)) rfl ?_; intro f h
            refine s_nil ?_
            have e9 := h.holds 22 _ rfl
            refine ⟨?_, Ext.refl _, fun h9 => absurd h9 (by decide)⟩
            refine e9.trans ?_
            exact rfl
          · refine obF_in 23 rfl (by decide) (by decide) ?_
            intro f9 w2 hE hs hd9 hl
            have e22 : f9.tmps.getD 22 undef = _ := sx_get hl 22 7 (by kernel_rfl) (by kernel_rfl)
            have h := fin_slot [(22, _)] hs hd9 (holds_lk ⟨e22, trivial⟩)
            have s := s.more hE
            have z := St.start w2
            refine s_pure h (ru_move (h.ev rfl)) rfl ?_; intro f h
            refine s_nil ?_
            have e9 := h.holds 23 _ rfl
            refine ⟨?_, Ext.refl _, fun h9 => absurd h9 (by decide)⟩
            refine e9.trans ?_
            exact rfl
          · refine obF_in 24 rfl (by decide) (by decide) ?_
            intro f9 w2 hE hs hd9 hl
            have e0 : f9.tmps.getD 0 undef = _ := sx_old hl 0 (by kernel_rfl) (by kernel_rfl) (h.holds 0 _ rfl)
            have e23 : f9.tmps.getD 23 undef = _ := sx_get hl 23 8 (by kernel_rfl) (by kernel_rfl)
            have h := fin_slot [(0, _), (23, _)] hs hd9 (holds_lk ⟨e0, e23, trivial⟩)
            have s := s.more hE
            have z := St.start w2
            refine s_on h rfl rfl rfl ?_
            refine s_pure h (ru_move (h.ev rfl)) rfl ?_; intro f h
            refine s_nil ?_
            have e9 := h.holds 24 _ rfl
            refine ⟨?_, Ext.refl _, fun h9 => absurd h9 (by decide)⟩
            refine e9.trans ?_
            exact rfl
          · refine obF_in 25 rfl (by decide) (by decide) ?_
            intro f9 w2 hE hs hd9 hl
            have e3 : f9.tmps.getD 3 undef = _ := sx_old hl 3 (by kernel_rfl) (by kernel_rfl) (h.holds 3 _ rfl)
            have e23 : f9.tmps.getD 23 undef = _ := sx_get hl 23 8 (by kernel_rfl) (by kernel_rfl)
            have h := fin_slot [(3, _), (23, _)] hs hd9 (holds_lk ⟨e3, e23, trivial⟩)
            have s := s.more hE
            have z := St.start w2
            refine s_on h rfl rfl rfl ?_
            refine s_pure h (ru_move (h.ev rfl)) rfl ?_; intro f h
            refine s_nil ?_
            have e9 := h.holds 25 _ rfl
            refine ⟨?_, Ext.refl _, fun h9 => absurd h9 (by decide)⟩
            refine e9.trans ?_
            exact rfl
          · refine obF_in 26 rfl (by decide) (by decide) ?_
            intro f9 w2 hE hs hd9 hl
            have e24 : f9.tmps.getD 24 undef = _ := sx_get hl 24 9 (by kernel_rfl) (by kernel_rfl)
            have e25 : f9.tmps.getD 25 undef = _ := sx_get hl 25 10 (by kernel_rfl) (by kernel_rfl)
            have e23 : f9.tmps.getD 23 undef = _ := sx_get hl 23 8 (by kernel_rfl) (by kernel_rfl)
            have h := fin_slot [(24, _), (25, _), (23, _)] hs hd9 (holds_lk ⟨e24, e25, e23, trivial⟩)
            have s := s.more hE
            have z := St.start w2
            refine s_on h rfl rfl rfl ?_
            refine s_pure h (ru_slice_hiZ (hR.keep s.ext) (k) Try.underlying40 szo30 (h.ev rfl) (h.ev rfl) (rfl) (by omega)) rfl ?_; intro f h
            refine s_nil ?_
            have e9 := h.holds 26 _ rfl
            refine ⟨?_, Ext.refl _, fun h9 => absurd h9 (by decide)⟩
            refine e9.trans ?_
            exact rfl
          · refine obF_in 27 rfl (by decide) (by decide) ?_
            intro f9 w2 hE hs hd9 hl
            have e4 : f9.tmps.getD 4 undef = _ := sx_old hl 4 (by kernel_rfl) (by kernel_rfl) (h.holds 4 _ rfl)
            have e23 : f9.tmps.getD 23 undef = _ := sx_get hl 23 8 (by kernel_rfl) (by kernel_rfl)
            have h := fin_slot [(4, _), (23, _)] hs hd9 (holds_lk ⟨e4, e23, trivial⟩)
            have s := s.more hE
            have z := St.start w2
            refine s_on h rfl rfl rfl ?_
            refine s_load_row 0 h s row30 rfl rfl (mbArr_size _) rfl ?_; intro f h
            refine s_nil ?_
            have e9 := h.holds 27 _ rfl
            refine ⟨?_, Ext.refl _, fun h9 => absurd h9 (by decide)⟩
            refine e9.trans ?_
            exact rfl
          · refine obF_in 28 rfl (by decide) (by decide) ?_
            intro f9 w2 hE hs hd9 hl
            have e27 : f9.tmps.getD 27 undef = _ := sx_get hl 27 12 (by kernel_rfl) (by kernel_rfl)
            have e23 : f9.tmps.getD 23 undef = _ := sx_get hl 23 8 (by kernel_rfl) (by kernel_rfl)
            have h := fin_slot [(27, _), (23, _)] hs hd9 (holds_lk ⟨e27, e23, trivial⟩)
            have s := s.more hE
            have z := St.start w2
            refine s_on h rfl rfl rfl ?_
            refine s_call h s fnc60 (clashes_any _ _) rfl rfl ?_; intro f w3 v3 hT9 hE3 h s
            refine s_nil ?_
            exact ⟨by rw [h.holds 28 _ rfl]; exact hT9, hE3, fun h9 => absurd h9 (by decide)⟩
          · exact obT_in (by decide) (by decide)
          · exact obT_in (by decide) (by decide)
          · intro f9 w2 hE hs hd9 hWp hT hR hFr hDj
            obtain ⟨u28, hu28⟩ : ∃ v, f9.tmps.getD 28 undef = v := ⟨_, rfl⟩
            have e28 : (fun v w9 => ∃ bx, v = .func (.func 87) #[] #[.pointer (some ⟨bx, 0, none⟩)] ∧ Tab w9 bx (mbArr (l.getD k zMb))) u28 w2 := by rw [← hu28]; exact hT 13 28 (by decide) rfl
            replace h := sl_new (ops := _) [(15, _), (16, _), (17, _), (18, _), (19, _), (20, _), (21, _), (22, _), (23, _), (24, _), (25, _), (26, _), (27, _), (28, u28)] h hs hd9 hR ⟨hT 0 15 (by decide) rfl, hT 1 16 (by decide) rfl, hT 2 17 (by decide) rfl, hT 3 18 (by decide) rfl, hT 4 19 (by decide) rfl, hT 5 20 (by decide) rfl, hT 6 21 (by decide) rfl, hT 7 22 (by decide) rfl, hT 8 23 (by decide) rfl, hT 9 24 (by decide) rfl, hT 10 25 (by decide) rfl, hT 11 26 (by decide) rfl, hT 12 27 (by decide) rfl, hu28, trivial⟩ (by kernel_rfl)
            replace s := s.more hE
            clear hT hR hFr hDj
            refine LstW.of ?_
            refine s_on h rfl rfl rfl ?_
            obtain ⟨bx, hbx0, hbx⟩ := e28; subst hbx0
            refine s_call h s fnc59 (containsf_any (l.take k) (cutV vh k) 87 [.pointer (some ⟨bx, 0, none⟩)] (clash (l.getD k zMb)) _ (mb_take (hR.keep s.ext) k (by omega)) (by rw [List.length_take]; omega) fnc87 (fun w9 h9 x hx => clash1_any x _ bx w9 (hbx.keep h9))) rfl rfl ?_; intro f w1 v9 hT hE h s; obtain rfl := hT
            refine s_pure h (ru_pick_f (h.ev rfl) (h.ev rfl)) rfl ?_; intro f h
            refine s_nil ?_
            refine hK11 _ _ ?_
            refine c_cond h rfl (fun hc => ?_) (fun hc => ?_)
            · refine c_seq fun K12 hK12 => ?_
              refine c_region ?_
              refine s_pure h (ru_assign (h.ev rfl)) rfl ?_; intro f h
              refine s_nil ?_
              refine hK12 _ _ ?_
              refine wpIn_ret ?_
              refine b_ret ?_
              refine t_ret ?_
              refine t_ret ?_
              refine b_ret ?_
              refine t_ret ?_
              exact e_tmp rfl h s rfl (by show _ = _; rw [right_leftR hkl ((badR_2 k0 k1).trans hc)] <;> rfl)
            · refine wpIn_skip ?_
              refine b_norm ?_
              refine hK9 _ _ ?_
              refine c_region ?_
              refine s_pure h (ru_add (h.ev rfl) (h.ev rfl) (by omega)) rfl ?_; intro f h
              refine s_pure h (ru_move (h.ev rfl)) rfl ?_; intro f h
              refine s_nil ?_
              refine t_norm ?_
              have hb9 : badR l k = false := (badR_2 k0 k1).trans hc
              exact ⟨_, by omega, ⟨k + 1, h.only ⟨rfl, rfl, rfl, slot_int rfl (by omega), trivial⟩, St.as (s.pick _ (List.sublist_append_right [_] _)) trivial, rfl, by omega, qs_next hp1 hb9⟩⟩
        · skip
          refine c_walkN 16 [[], [0], [0, 1], [0, 1, 2], [0, 1, 2, 3], [0, 1, 2, 3, 4], [0, 1, 2, 3, 4, 5], [0, 1, 2, 3, 4, 5, 6], [0, 1, 2, 3, 4, 5, 6, 7], [0, 1, 2, 3, 4, 5, 6, 7, 8], [0, 1, 2, 3, 4, 5, 6, 7, 8], [0, 1, 2, 3, 4, 5, 6, 7, 8, 9, 10], [0, 1, 2, 3, 4, 5, 6, 7, 8], [0, 1, 2, 3, 4, 5, 6, 7, 8, 12], [0, 1, 2, 3, 4, 5, 6, 7, 8, 9, 10, 11, 12, 13], [0, 1, 2, 3, 4, 5, 6, 7, 8, 9, 10, 11, 12, 13, 14]] h (by kernel_rfl) (by kernel_rfl) (by kernel_rfl) ?_
          refine w_pure h (ru_field fld30_0 (h.ev rfl)) rfl ?_; intro f h
          refine w_load_at1 (cell_of_has (Has.of_own s 0 rfl) 0 (mbArr_no _)) h one3 rfl rfl ?_; intro f h
          refine w_pure h (ru_val (.bool false) (ru_lss (h.ev rfl) (h.ev rfl)) (congrArg Value.bool k0)) rfl ?_; intro f h
          refine w_pure h (ru_move (h.ev rfl)) rfl ?_; intro f h
          refine w_on h rfl rfl rfl ?_
          refine w_pure h (ru_field fld30_0 (h.ev rfl)) rfl ?_; intro f h
          refine w_on h rfl rfl rfl ?_
          refine w_load_at1 (cell_of_has (Has.of_own s 0 rfl) 0 (mbArr_no _)) h one3 rfl rfl ?_; intro f h
          refine w_on h rfl rfl rfl ?_
          refine w_pure h (ru_val (.bool true) (ru_geq (h.ev rfl) (h.ev rfl)) (congrArg Value.bool k1)) rfl ?_; intro f h
          refine w_pure h (ru_pick_f (h.ev rfl) (h.ev rfl)) rfl ?_; intro f h
          refine w_pure h (ru_move (h.ev rfl)) rfl ?_; intro f h
          refine w_off (b := false) h rfl rfl rfl rfl ?_; intro f h
          refine w_off (b := false) h rfl rfl rfl rfl ?_; intro f h
          refine w_off (b := false) h rfl rfl rfl rfl ?_; intro f h
          refine w_off (b := false) h rfl rfl rfl rfl ?_; intro f h
          refine w_off (b := false) h rfl rfl rfl rfl ?_; intro f h
          refine w_off (b := false) h rfl rfl rfl rfl ?_; intro f h
          refine w_pure h (ru_pick_t (h.ev rfl) (h.ev rfl)) rfl ?_; intro f h
          refine w_nil s fun w1 s => ?_
          refine s_nil ?_
          refine hK11 _ _ ?_
          refine wpIn_cond_true (h.ev rfl) ?_
          refine c_seq fun K13 hK13 => ?_
          refine c_region ?_
          refine s_pure h (ru_assign (h.ev rfl)) rfl ?_; intro f h
          refine s_nil ?_
          refine hK13 _ _ ?_
          refine wpIn_ret ?_
          refine b_ret ?_
          refine t_ret ?_
          refine t_ret ?_
          refine b_ret ?_
          refine t_ret ?_
          exact e_tmp rfl h s rfl (by show _ = _; rw [right_leftR hkl (badR_1 k1)] <;> rfl)
      · skip
        refine c_walkN 16 [[], [0], [0, 1], [0, 1, 2], [0, 1, 2, 3], [0, 1, 2, 3, 4], [0, 1, 2, 3, 4, 5], [0, 1, 2, 3, 4, 5, 6], [0, 1, 2, 3, 4, 5, 6, 7], [0, 1, 2, 3, 4, 5, 6, 7, 8], [0, 1, 2, 3, 4, 5, 6, 7, 8], [0, 1, 2, 3, 4, 5, 6, 7, 8, 9, 10], [0, 1, 2, 3, 4, 5, 6, 7, 8], [0, 1, 2, 3, 4, 5, 6, 7, 8, 12], [0, 1, 2, 3, 4, 5, 6, 7, 8, 9, 10, 11, 12, 13], [0, 1, 2, 3, 4, 5, 6, 7, 8, 9, 10, 11, 12, 13, 14]] h (by kernel_rfl) (by kernel_rfl) (by kernel_rfl) ?_
        refine w_pure h (ru_field fld30_0 (h.ev rfl)) rfl ?_; intro f h
        refine w_load_at1 (cell_of_has (Has.of_own s 0 rfl) 0 (mbArr_no _)) h one3 rfl rfl ?_; intro f h
        refine w_pure h (ru_val (.bool true) (ru_lss (h.ev rfl) (h.ev rfl)) (congrArg Value.bool k0)) rfl ?_; intro f h
        refine w_pure h (ru_move (h.ev rfl)) rfl ?_; intro f h
        refine w_off (b := false) h rfl rfl rfl rfl ?_; intro f h
        refine w_off (b := false) h rfl rfl rfl rfl ?_; intro f h
        refine w_off (b := false) h rfl rfl rfl rfl ?_; intro f h
        refine w_pure h (ru_pick_t (h.ev rfl) (h.ev rfl)) rfl ?_; intro f h
        refine w_pure h (ru_move (h.ev rfl)) rfl ?_; intro f h
        refine w_off (b := false) h rfl rfl rfl rfl ?_; intro f h
        refine w_off (b := false) h rfl rfl rfl rfl ?_; intro f h
        refine w_off (b := false) h rfl rfl rfl rfl ?_; intro f h
        refine w_off (b := false) h rfl rfl rfl rfl ?_; intro f h
        refine w_off (b := false) h rfl rfl rfl rfl ?_; intro f h
        refine w_off (b := false) h rfl rfl rfl rfl ?_; intro f h
        refine w_pure h (ru_pick_t (h.ev rfl) (h.ev rfl)) rfl ?_; intro f h
        refine w_nil s fun w1 s => ?_
        refine s_nil ?_
        refine hK11 _ _ ?_
        refine wpIn_cond_true (h.ev rfl) ?_
        refine c_seq fun K14 hK14 => ?_
        refine c_region ?_
        refine s_pure h (ru_assign (h.ev rfl)) rfl ?_; intro f h
        refine s_nil ?_
        refine hK14 _ _ ?_
        refine wpIn_ret ?_
        refine b_ret ?_
        refine t_ret ?_
        refine t_ret ?_
        refine b_ret ?_
        refine t_ret ?_
        exact e_tmp rfl h s rfl (by show _ = _; rw [right_leftR hkl (badR_0 k0)] <;> rfl)
    · replace hc := of_decide_eq_false hc
      refine wpIn_exit ?_
      refine t_exit ?_
      refine t_exit ?_
      refine b_exit ?_
      refine hK5 _ _ ?_
      refine c_seq fun K15 hK15 => ?_
      refine c_region ?_
      refine s_pure h (ru_assign (h.ev rfl)) rfl ?_; intro f h
      refine s_nil ?_
      refine hK15 _ _ ?_
      refine wpIn_ret ?_
      exact e_tmp rfl h s rfl (by show _ = _; rw [right_doneR hl16 (fun j hj => hp1 j (by omega))] <;> rfl)

theorem knows_any (n : Nd) (vs vf : Value) (L : List N3) (vo : Value) (w : World) (hRs : RdZ w vs 33 n.sc.length (mbCells n.sc)) (hRf : RdZ w vf 33 n.fg.length (mbCells n.fg)) (hns : n.sc.length ≤ 400) (hnf : n.fg.length ≤ 400) (hO : RdO w vo L) (hL : L.length ≤ 40) : Calls Try.prog 39 [.agg (ndArr n.me n.pr vs vf), .agg #[vo]].toArray w (Ret w (is (.bool !((knownN n).any (kbad L))))) := by
  have hkl9 : (knownN n).length ≤ 1000 := by simp only [knownN, List.length_append, List.length_cons]; omega
  refine c_enterM Try.func39 rfl Try.ntmps39 rfl [(0, .agg (ndArr n.me n.pr vs vf)), (1, .agg #[vo])] (by simp) fun f h => ?_
  have s := St.start w
  refine c_seq fun K1 hK1 => ?_
  refine c_region ?_
  refine s_box (ndArr n.me n.pr vs vf) h s rfl rfl rfl ?_; intro f w1 b2 h s
  refine s_box (#[vo]) h s rfl rfl rfl ?_; intro f w1 b3 h s
  refine s_alloc (#[.bool false]) h s zero4 rfl rfl ?_; intro f w1 b4 h s
  refine s_nil ?_
  refine hK1 _ _ ?_
  refine c_seq fun K2 hK2 => ?_
  refine c_seq fun K3 hK3 => ?_
  refine c_region ?_
  refine s_load_row 2 h s row46 rfl rfl (ndArr_size _ _ _ _) rfl ?_; intro f h
  refine s_call h s fnc68 (known9_any n vs vf _ (hRs.keep s.ext) (hRf.keep s.ext) (by omega) (by omega)) rfl rfl ?_; rintro f w1 r9 ⟨bv, vk, rfl, hS⟩ hE h sq; replace s := s.add hS; clear hS
  refine s_nil ?_
  refine hK3 _ _ ?_
  refine wpIn_block ?_
  refine c_rangeE (fun d A9 => A9 = [.blk b4 (.cells #[.bool false] 4), .blk b3 (.cells #[vo] 24), .blk b2 (.cells (ndArr n.me n.pr vs vf) 46)]) [.blk b4 (.cells #[.bool false] 4), .blk b3 (.cells #[vo] 24), .blk b2 (.cells (ndArr n.me n.pr vs vf) 46)] [.blk bv (.cells #[vk] 40), .sl vk 30 33 (knownN n).length (mbCells (knownN n))] ((knownN n).length) (kbQ n L) (fun d => [Value.agg (mbArr ((knownN n).getD d zMb))]) h s rfl fnc100 (List.Perm.refl _) (rfl) (fun _ => rfl) ?_ ?_ ?_ ?_
  · intro lp w2 GG g0 hg0 s2 hY; exact viterx_any (knownN n) hkl9 vk lp bv (kbQ n L) GG g0 w w2 s2 hg0 hY
  · intro lp D9 d9 rc R9 A9 w2 hd9 hq9 hJ9 s
    obtain rfl := hJ9
    have h := Sl.round1 (p := 9) (V := .agg (mbArr ((knownN n).getD d9 zMb))) h rfl
    have hdl9 := hd9
    refine c_region ?_
    refine s_alloc (mbArr zMb) h s zero30 rfl rfl ?_; intro f w1 b5 h s
    refine s_store_row 0 h s row30 rfl rfl rfl (mbArr_size _) (mbArr_size _) (mbArr_ones _) ?_; intro w1 s
    refine s_nil ?_
    refine t_norm ?_
    refine ⟨_, s.perm (List.perm_middle (l₁ := [_])), fun w3 s => ?_⟩
    refine wpIn_block ?_
    refine c_seq fun K4 hK4 => ?_
    cases p0 : (decide (ixL L ((knownN n).getD d9 zMb).1 < L.length) : Bool)
    · skip
      refine c_region ?_
      refine s_load_row 4 h s row24 rfl rfl (rfl) rfl ?_; intro f h
      refine s_pure h (ru_field fld30_0 (h.ev rfl)) rfl ?_; intro f h
      refine s_load_at1 (cell_of_has (Has.of_own s 1 rfl) 0 (mbArr_no _)) h one3 rfl rfl ?_; intro f h
      refine s_call h s fnc69 (ret_val (.pointer none) (cfind_any L vo ((knownN n).getD d9 zMb).1 _ (hO.keep s.ext) hL) (ptr_n (of_decide_eq_false p0))) rfl rfl ?_; intro f w1 v9 hT hE h s; obtain rfl := hT
      refine s_pure h (ru_assign (h.ev rfl)) rfl ?_; intro f h
      refine s_nil ?_
      refine hK4 _ _ ?_
      refine c_seq fun K5 hK5 => ?_
      refine c_walkN 10 [[], [0], [0, 1], [0, 1, 2], [0, 1, 2, 3], [0, 1, 2, 3, 4], [0, 1, 2, 3, 4, 5], [0, 1, 2], [0, 1, 2, 3, 4, 5, 6, 7], [0, 1, 2, 3, 4, 5, 6, 7, 8]] h (by kernel_rfl) (by kernel_rfl) (by kernel_rfl) ?_
      refine w_pure h (ru_move (h.ev rfl)) rfl ?_; intro f h
      refine w_pure h (ru_val (.bool false) (ru_neq_ptr0 Try.underlying69 (h.ev rfl) (h.ev rfl)) (rfl)) rfl ?_; intro f h
      refine w_pure h (ru_move (h.ev rfl)) rfl ?_; intro f h
      refine w_off (b := true) h rfl rfl rfl rfl ?_; intro f h
      refine w_off (b := true) h rfl rfl rfl rfl ?_; intro f h
      refine w_off (b := true) h rfl rfl rfl rfl ?_; intro f h
      refine w_off (b := true) h rfl rfl rfl rfl ?_; intro f h
      refine w_off (b := true) h rfl rfl rfl rfl ?_; intro f h
      refine w_off (b := true) h rfl rfl rfl rfl ?_; intro f h
      refine w_pure h (ru_pick_f (h.ev rfl) (h.ev rfl)) rfl ?_; intro f h
      refine w_nil s fun w1 s => ?_
      refine s_nil ?_
      refine hK5 _ _ ?_
      refine wpIn_cond_false (h.ev rfl) ?_
      refine wpIn_skip ?_
      refine b_norm ?_
      refine ⟨(kb_0 p0), _, rfl, s.pick _ ?_⟩
      exact List.Sublist.cons_cons _ (List.Sublist.cons _ (List.Sublist.refl _))
    · skip
      refine c_region ?_
      refine s_load_row 4 h s row24 rfl rfl (rfl) rfl ?_; intro f h
      refine s_pure h (ru_field fld30_0 (h.ev rfl)) rfl ?_; intro f h
      refine s_load_at1 (cell_of_has (Has.of_own s 1 rfl) 0 (mbArr_no _)) h one3 rfl rfl ?_; intro f h
      refine s_call h s fnc69 (ret_val (.pointer (some (elAddr vo (ixL L ((knownN n).getD d9 zMb).1 * 68)))) (cfind_any L vo ((knownN n).getD d9 zMb).1 _ (hO.keep s.ext) hL) (ptr_y (of_decide_eq_true p0))) rfl rfl ?_; intro f w1 v9 hT hE h s; obtain rfl := hT
      refine s_pure h (ru_assign (h.ev rfl)) rfl ?_; intro f h
      refine s_nil ?_
      refine hK4 _ _ ?_
      refine c_seq fun K6 hK6 => ?_
      cases p1 : (decide ((L.getD (ixL L ((knownN n).getD d9 zMb).1) z3).1.me = ((knownN n).getD d9 zMb)) : Bool)
      · skip
        refine c_walkN 10 [[], [0], [0, 1], [0, 1, 2], [0, 1, 2, 3], [0, 1, 2, 3, 4], [0, 1, 2, 3, 4, 5], [0, 1, 2], [0, 1, 2, 3, 4, 5, 6, 7], [0, 1, 2, 3, 4, 5, 6, 7, 8]] h (by kernel_rfl) (by kernel_rfl) (by kernel_rfl) ?_
        have hp9 := of_decide_eq_true p0
        refine w_pure h (ru_move (h.ev rfl)) rfl ?_; intro f h
        refine w_pure h (ru_val (.bool true) (ru_neq_ptr0 Try.underlying69 (h.ev rfl) (h.ev rfl)) (rfl)) rfl ?_; intro f h
        refine w_pure h (ru_move (h.ev rfl)) rfl ?_; intro f h
        refine w_on h rfl rfl rfl ?_
        refine w_pure h (ru_move (h.ev rfl)) rfl ?_; intro f h
        refine w_on h rfl rfl rfl ?_
        refine w_pure h (ru_nilCheck (h.ev rfl)) rfl ?_; intro f h
        refine w_on h rfl rfl rfl ?_
        refine w_pure h (ru_fieldE fld46_0 (h.ev rfl) ((hO.1.keep s.ext).some (by omega))) rfl ?_; intro f h
        refine w_on h rfl rfl rfl ?_
        refine w_load_at (RdZ.elF (hO.1.keep s.ext) (ixL L ((knownN n).getD d9 zMb).1) 0 33 (by omega) (by decide) (C := ndArr (L.getD (ixL L ((knownN n).getD d9 zMb).1) z3).1.me (L.getD (ixL L ((knownN n).getD d9 zMb).1) z3).1.pr (L.getD (ixL L ((knownN n).getD d9 zMb).1) z3).2.1 (L.getD (ixL L ((knownN n).getD d9 zMb).1) z3).2.2) (n3_el L _ hp9) (D := mbArr (L.getD (ixL L ((knownN n).getD d9 zMb).1) z3).1.me) (ndArr_me _ _ _ _)) h row30 rfl (mbArr_size _) rfl ?_; intro f h
        refine w_on h rfl rfl rfl ?_
        refine w_load_row 1 h s row30 rfl rfl (mbArr_size _) rfl ?_; intro f h
        refine w_on h rfl rfl rfl ?_
        refine w_pure h (ru_val (.bool true) (ru_neqW (eqM _ _) (by kernel_rfl) (by decide) (h.ev rfl) (h.ev rfl) (decide ((L.getD (ixL L ((knownN n).getD d9 zMb).1) z3).1.me = ((knownN n).getD d9 zMb))) (mbEq _ _)) (by rw [p1]; rfl)) rfl ?_; intro f h
        refine w_pure h (ru_pick_t (h.ev rfl) (h.ev rfl)) rfl ?_; intro f h
        refine w_nil s fun w1 s => ?_
        refine s_nil ?_
        refine hK6 _ _ ?_
        refine wpIn_cond_true (h.ev rfl) ?_
        refine c_seq fun K7 hK7 => ?_
        refine c_region ?_
        refine s_store_one 3 h s one4 rfl rfl rfl (by simp) (rfl) ?_; intro w1 s
        refine s_nil ?_
        refine hK7 _ _ ?_
        refine wpIn_ret ?_
        refine b_ret ?_
        refine ⟨((kb_1 p0).trans (by rw [p1]; rfl)), _, rfl, s.pick _ ?_⟩
        exact List.Sublist.cons_cons _ (List.Sublist.cons _ (List.Sublist.refl _))
      · skip
        refine c_walkN 10 [[], [0], [0, 1], [0, 1, 2], [0, 1, 2, 3], [0, 1, 2, 3, 4], [0, 1, 2, 3, 4, 5], [0, 1, 2], [0, 1, 2, 3, 4, 5, 6, 7], [0, 1, 2, 3, 4, 5, 6, 7, 8]] h (by kernel_rfl) (by kernel_rfl) (by kernel_rfl) ?_
        have hp9 := of_decide_eq_true p0
        refine w_pure h (ru_move (h.ev rfl)) rfl ?_; intro f h
        refine w_pure h (ru_val (.bool true) (ru_neq_ptr0 Try.underlying69 (h.ev rfl) (h.ev rfl)) (rfl)) rfl ?_; intro f h
        refine w_pure h (ru_move (h.ev rfl)) rfl ?_; intro f h
        refine w_on h rfl rfl rfl ?_
        refine w_pure h (ru_move (h.ev rfl)) rfl ?_; intro f h
        refine w_on h rfl rfl rfl ?_
        refine w_pure h (ru_nilCheck (h.ev rfl)) rfl ?_; intro f h
        refine w_on h rfl rfl rfl ?_
        refine w_pure h (ru_fieldE fld46_0 (h.ev rfl) ((hO.1.keep s.ext).some (by omega))) rfl ?_; intro f h
        refine w_on h rfl rfl rfl ?_
        refine w_load_at (RdZ.elF (hO.1.keep s.ext) (ixL L ((knownN n).getD d9 zMb).1) 0 33 (by omega) (by decide) (C := ndArr (L.getD (ixL L ((knownN n).getD d9 zMb).1) z3).1.me (L.getD (ixL L ((knownN n).getD d9 zMb).1) z3).1.pr (L.getD (ixL L ((knownN n).getD d9 zMb).1) z3).2.1 (L.getD (ixL L ((knownN n).getD d9 zMb).1) z3).2.2) (n3_el L _ hp9) (D := mbArr (L.getD (ixL L ((knownN n).getD d9 zMb).1) z3).1.me) (ndArr_me _ _ _ _)) h row30 rfl (mbArr_size _) rfl ?_; intro f h
        refine w_on h rfl rfl rfl ?_
        refine w_load_row 1 h s row30 rfl rfl (mbArr_size _) rfl ?_; intro f h
        refine w_on h rfl rfl rfl ?_
        refine w_pure h (ru_val (.bool false) (ru_neqW (eqM _ _) (by kernel_rfl) (by decide) (h.ev rfl) (h.ev rfl) (decide ((L.getD (ixL L ((knownN n).getD d9 zMb).1) z3).1.me = ((knownN n).getD d9 zMb))) (mbEq _ _)) (by rw [p1]; rfl)) rfl ?_; intro f h
        refine w_pure h (ru_pick_t (h.ev rfl) (h.ev rfl)) rfl ?_; intro f h
        refine w_nil s fun w1 s => ?_
        refine s_nil ?_
        refine hK6 _ _ ?_
        refine wpIn_cond_false (h.ev rfl) ?_
        refine wpIn_skip ?_
        refine b_norm ?_
        refine ⟨((kb_1 p0).trans (by rw [p1]; rfl)), _, rfl, s.pick _ ?_⟩
        exact List.Sublist.cons_cons _ (List.Sublist.cons _ (List.Sublist.refl _))
  · intro D9 A9 w2 hJ9 hq9 s
    obtain rfl := hJ9
    replace h : Sl _ { f with defers := { target := .collected D9, args := #[] } :: f.defers } _ [{ target := .collected D9, args := #[] }] := ⟨h.size, by rw [h.defers], h.holds⟩
    refine b_norm ?_
    refine hK2 _ _ ?_
    refine c_seq fun K8 hK8 => ?_
    refine c_region ?_
    refine s_store_one 3 h s one4 rfl rfl rfl (by simp) (rfl) ?_; intro w1 s
    refine s_nil ?_
    refine hK8 _ _ ?_
    refine wpIn_ret ?_
    exact e_one_M 3 0 rfl h s one4 rfl rfl rfl rfl rfl (fun w9 => by show _ = _; rw [kn_done hq9]; rfl)
  · intro D9 d9 A9 w2 hd9 hqd9 hq9 hJ9 s
    obtain rfl := hJ9
    replace h : Sl _ { f with defers := { target := .collected D9, args := #[] } :: f.defers } _ [{ target := .collected D9, args := #[] }] := ⟨h.size, by rw [h.defers], h.holds⟩
    refine b_ret ?_
    refine t_ret ?_
    exact e_one_M 3 0 rfl h s one4 rfl rfl rfl rfl rfl (fun w9 => by show _ = _; rw [kn_left hd9 hqd9]; rfl)

theorem cright_any (L : List N3) (vo : Value) (w : World) (hO : RdO w vo L) (hL : L.length ≤ 40) (hb : RwB L) : Calls Try.prog 17 [.agg #[vo]].toArray w (Ret w (is (.bool (ovR L)))) := by
  have hml : (memL L).length ≤ 1000 := by rw [List.length_map]; omega
  refine c_enterM Try.func17 rfl Try.ntmps17 rfl [(0, .agg #[vo])] (by simp) fun f h => ?_
  have s := St.start w
  refine c_seq fun K1 hK1 => ?_
  refine c_region ?_
  refine s_box (#[vo]) h s rfl rfl rfl ?_; intro f w1 b1 h s
  refine s_alloc (#[.bool false]) h s zero4 rfl rfl ?_; intro f w1 b2 h s
  refine s_nil ?_
  refine hK1 _ _ ?_
  refine c_seq fun K2 hK2 => ?_
  refine c_region ?_
  refine s_load_row 1 h s row24 rfl rfl (rfl) rfl ?_; intro f h
  refine s_call h s fnc13 (cmembers_any L vo _ (hO.keep s.ext) hL) rfl rfl ?_; intro f w1 v6 hT hE h sq; replace s := s.sl_new hE hT
  refine s_pure h (ru_assign (h.ev rfl)) rfl ?_; intro f h
  refine s_nil ?_
  refine hK2 _ _ ?_
  refine c_seq fun K3 hK3 => ?_
  refine c_seq fun K4 hK4 => ?_
  cases r0 : (rightR (memL L) : Bool)
  · skip
    refine c_region ?_
    refine s_pure h (ru_move (h.ev rfl)) rfl ?_; intro f h
    refine s_call h s fnc32 (ret_val (.bool false) (right_any (memL L) v6 _ (RdZ.of_own (s.getSl 0 rfl)) hml) (congrArg Value.bool r0)) rfl rfl ?_; intro f w1 v9 hT hE h s; obtain rfl := hT
    refine s_pure h (ru_val (.bool true) (ru_not (h.ev rfl)) rfl) rfl ?_; intro f h
    refine s_pure h (ru_move (h.ev rfl)) rfl ?_; intro f h
    refine s_off (b := false) h rfl rfl rfl rfl ?_; intro f h
    refine s_off (b := false) h rfl rfl rfl rfl ?_; intro f h
    refine s_off (b := false) h rfl rfl rfl rfl ?_; intro f h
    refine s_pure h (ru_pick_t (h.ev rfl) (h.ev rfl)) rfl ?_; intro f h
    refine s_nil ?_
    refine hK4 _ _ ?_
    refine wpIn_cond_true (h.ev rfl) ?_
    refine c_seq fun K5 hK5 => ?_
    refine c_region ?_
    refine s_store_one 1 h s one4 rfl rfl rfl (by simp) (rfl) ?_; intro w1 s
    refine s_nil ?_
    refine hK5 _ _ ?_
    refine wpIn_ret ?_
    refine t_ret ?_
    exact e_one_M0 1 rfl h s one4 rfl rfl rfl (fun w9 => (congrArg Value.bool (ow_no0 r0)).symm)
  · skip
    cases r1 : (srtB (memL L) : Bool)
    · skip
      refine c_region ?_
      refine s_pure h (ru_move (h.ev rfl)) rfl ?_; intro f h
      refine s_call h s fnc32 (ret_val (.bool true) (right_any (memL L) v6 _ (RdZ.of_own (s.getSl 0 rfl)) hml) (congrArg Value.bool r0)) rfl rfl ?_; intro f w1 v9 hT hE h s; obtain rfl := hT
      refine s_pure h (ru_val (.bool false) (ru_not (h.ev rfl)) rfl) rfl ?_; intro f h
      refine s_pure h (ru_move (h.ev rfl)) rfl ?_; intro f h
      refine s_on h rfl rfl rfl ?_
      refine s_pure h (ru_move (h.ev rfl)) rfl ?_; intro f h
      refine s_on h rfl rfl rfl ?_
      refine s_call h s fnc36 (ret_val (.bool false) (issorted_any (memL L) v6 _ (RdZ.of_own (s.getSl 0 rfl)) hml) (congrArg Value.bool r1)) rfl rfl ?_; intro f w1 v9 hT hE h s; obtain rfl := hT
      refine s_on h rfl rfl rfl ?_
      refine s_pure h (ru_val (.bool true) (ru_not (h.ev rfl)) rfl) rfl ?_; intro f h
      refine s_pure h (ru_pick_f (h.ev rfl) (h.ev rfl)) rfl ?_; intro f h
      refine s_nil ?_
      refine hK4 _ _ ?_
      refine wpIn_cond_true (h.ev rfl) ?_
      refine c_seq fun K6 hK6 => ?_
      refine c_region ?_
      refine s_store_one 1 h s one4 rfl rfl rfl (by simp) (rfl) ?_; intro w1 s
      refine s_nil ?_
      refine hK6 _ _ ?_
      refine wpIn_ret ?_
      refine t_ret ?_
      exact e_one_M0 1 rfl h s one4 rfl rfl rfl (fun w9 => (congrArg Value.bool (ow_no1 r1)).symm)
    · skip
      refine c_region ?_
      refine s_pure h (ru_move (h.ev rfl)) rfl ?_; intro f h
      refine s_call h s fnc32 (ret_val (.bool true) (right_any (memL L) v6 _ (RdZ.of_own (s.getSl 0 rfl)) hml) (congrArg Value.bool r0)) rfl rfl ?_; intro f w1 v9 hT hE h s; obtain rfl := hT
      refine s_pure h (ru_val (.bool false) (ru_not (h.ev rfl)) rfl) rfl ?_; intro f h
      refine s_pure h (ru_move (h.ev rfl)) rfl ?_; intro f h
      refine s_on h rfl rfl rfl ?_
      refine s_pure h (ru_move (h.ev rfl)) rfl ?_; intro f h
      refine s_on h rfl rfl rfl ?_
      refine s_call h s fnc36 (ret_val (.bool true) (issorted_any (memL L) v6 _ (RdZ.of_own (s.getSl 0 rfl)) hml) (congrArg Value.bool r1)) rfl rfl ?_; intro f w1 v9 hT hE h s; obtain rfl := hT
      refine s_on h rfl rfl rfl ?_
      refine s_pure h (ru_val (.bool false) (ru_not (h.ev rfl)) rfl) rfl ?_; intro f h
      refine s_pure h (ru_pick_f (h.ev rfl) (h.ev rfl)) rfl ?_; intro f h
      refine s_nil ?_
      refine hK4 _ _ ?_
      refine wpIn_cond_false (h.ev rfl) ?_
      refine wpIn_skip ?_
      refine hK3 _ _ ?_
      refine c_seq fun K7 hK7 => ?_
      refine c_seq fun K8 hK8 => ?_
      refine c_region ?_
      refine s_load_row 2 h s row24 rfl rfl (rfl) rfl ?_; intro f h
      refine s_callS [.agg #[vo]] h fnc29 (nodes_ok vo _ _ _ s) rfl rfl ?_; rintro f w1 r ⟨bn, rfl, s⟩ h
      refine s_nil ?_
      refine hK8 _ _ ?_
      refine wpIn_block ?_
      refine c_rangeE (fun d A9 => A9 = [.sl v6 30 33 (memL L).length (mbCells (memL L)), .blk b2 (.cells #[.bool false] 4), .blk b1 (.cells #[vo] 24)]) [.sl v6 30 33 (memL L).length (mbCells (memL L)), .blk b2 (.cells #[.bool false] 4), .blk b1 (.cells #[vo] 24)] [.blk bn (.cells #[vo] 24)] (L.length) (rvB L) (fun d => [Value.pointer (some (elAddr vo (d * 68)))]) h s rfl fnc55 (List.Perm.refl _) (rfl) (fun _ => rfl) ?_ ?_ ?_ ?_
      · intro lp w2 GG g0 hg0 s2 hY; exact niter_any L.length (by omega) vo _ _ hO.1 lp bn (rvB L) GG g0 w w2 s2 hg0 hY
      · intro lp D9 d9 rc R9 A9 w2 hd9 hq9 hJ9 s
        obtain rfl := hJ9
        have h := Sl.round1 (p := 17) (V := .pointer (some (elAddr vo (d9 * 68)))) h rfl
        have hdl9 := hd9
        refine c_region ?_
        refine s_pure h (ru_assign (h.ev rfl)) rfl ?_; intro f h
        refine s_nil ?_
        refine t_norm ?_
        refine ⟨_, s, fun w3 s => ?_⟩
        refine wpIn_block ?_
        refine c_seq fun K9 hK9 => ?_
        cases k0 : (rightN (L.getD d9 z3).1 : Bool)
        · skip
          refine c_walkN 13 [[], [0], [0, 1], [0, 1, 2], [0, 1, 2, 3], [0, 1, 2, 3, 4], [0, 1, 2, 3, 4, 5], [0, 1, 2, 3, 4, 5, 6], [0, 1, 2, 3, 4, 5, 6, 7], [0, 1, 2, 3, 4, 5], [0, 1, 2, 3, 4, 5, 6, 7, 8, 9], [0, 1, 2, 3, 4, 5, 6, 7, 8, 9, 10], [0, 1, 2, 3, 4, 5, 6, 7, 8, 9, 10, 11]] h (by kernel_rfl) (by kernel_rfl) (by kernel_rfl) ?_
          have hx9 := hb.each _ (n3_mem hdl9)
          refine w_pure h (ru_move (h.ev rfl)) rfl ?_; intro f h
          refine w_pure h (ru_nilCheck (h.ev rfl)) rfl ?_; intro f h
          refine w_load_at ((hO.1.keep s.ext).el (d9) (by omega) (by decide) (D := ndArr (L.getD d9 z3).1.me (L.getD d9 z3).1.pr (L.getD d9 z3).2.1 (L.getD d9 z3).2.2) (n3_el L d9 hdl9)) h row46 rfl (ndArr_size _ _ _ _) rfl ?_; intro f h
          refine w_call h fnc38 (fun w9 hE9 => ret_val (.bool false) (nright_any (L.getD d9 z3).1 (L.getD d9 z3).2.1 (L.getD d9 z3).2.2 w9 ((hO.2 _ (n3_mem hdl9)).1.keep (s.ext.trans hE9)) ((hO.2 _ (n3_mem hdl9)).2.keep (s.ext.trans hE9)) (by omega) (by omega)) (congrArg Value.bool k0)) rfl rfl ?_; intro f h
          refine w_pure h (ru_val (.bool true) (ru_not (h.ev rfl)) rfl) rfl ?_; intro f h
          refine w_pure h (ru_move (h.ev rfl)) rfl ?_; intro f h
          refine w_off (b := false) h rfl rfl rfl rfl ?_; intro f h
          refine w_off (b := false) h rfl rfl rfl rfl ?_; intro f h
          refine w_off (b := false) h rfl rfl rfl rfl ?_; intro f h
          refine w_off (b := false) h rfl rfl rfl rfl ?_; intro f h
          refine w_off (b := false) h rfl rfl rfl rfl ?_; intro f h
          refine w_off (b := false) h rfl rfl rfl rfl ?_; intro f h
          refine w_pure h (ru_pick_t (h.ev rfl) (h.ev rfl)) rfl ?_; intro f h
          refine w_nil s fun w1 s => ?_
          refine s_nil ?_
          refine hK9 _ _ ?_
          refine wpIn_cond_true (h.ev rfl) ?_
          refine c_seq fun K10 hK10 => ?_
          refine c_region ?_
          refine s_store_one 3 h s one4 rfl rfl rfl (by simp) (rfl) ?_; intro w1 s
          refine s_nil ?_
          refine hK10 _ _ ?_
          refine wpIn_ret ?_
          refine b_ret ?_
          refine ⟨(rv_0 k0), _, rfl, s.pick _ ?_⟩
          exact List.Sublist.cons_cons _ (List.Sublist.refl _)
        · skip
          cases k1 : ((knownN (L.getD d9 z3).1).any (kbad L) : Bool)
          · skip
            refine c_walkN 13 [[], [0], [0, 1], [0, 1, 2], [0, 1, 2, 3], [0, 1, 2, 3, 4], [0, 1, 2, 3, 4, 5], [0, 1, 2, 3, 4, 5, 6], [0, 1, 2, 3, 4, 5, 6, 7], [0, 1, 2, 3, 4, 5], [0, 1, 2, 3, 4, 5, 6, 7, 8, 9], [0, 1, 2, 3, 4, 5, 6, 7, 8, 9, 10], [0, 1, 2, 3, 4, 5, 6, 7, 8, 9, 10, 11]] h (by kernel_rfl) (by kernel_rfl) (by kernel_rfl) ?_
            have hx9 := hb.each _ (n3_mem hdl9)
            refine w_pure h (ru_move (h.ev rfl)) rfl ?_; intro f h
            refine w_pure h (ru_nilCheck (h.ev rfl)) rfl ?_; intro f h
            refine w_load_at ((hO.1.keep s.ext).el (d9) (by omega) (by decide) (D := ndArr (L.getD d9 z3).1.me (L.getD d9 z3).1.pr (L.getD d9 z3).2.1 (L.getD d9 z3).2.2) (n3_el L d9 hdl9)) h row46 rfl (ndArr_size _ _ _ _) rfl ?_; intro f h
            refine w_call h fnc38 (fun w9 hE9 => ret_val (.bool true) (nright_any (L.getD d9 z3).1 (L.getD d9 z3).2.1 (L.getD d9 z3).2.2 w9 ((hO.2 _ (n3_mem hdl9)).1.keep (s.ext.trans hE9)) ((hO.2 _ (n3_mem hdl9)).2.keep (s.ext.trans hE9)) (by omega) (by omega)) (congrArg Value.bool k0)) rfl rfl ?_; intro f h
            refine w_pure h (ru_val (.bool false) (ru_not (h.ev rfl)) rfl) rfl ?_; intro f h
            refine w_pure h (ru_move (h.ev rfl)) rfl ?_; intro f h
            refine w_on h rfl rfl rfl ?_
            refine w_pure h (ru_move (h.ev rfl)) rfl ?_; intro f h
            refine w_on h rfl rfl rfl ?_
            refine w_pure h (ru_nilCheck (h.ev rfl)) rfl ?_; intro f h
            refine w_on h rfl rfl rfl ?_
            refine w_load_at ((hO.1.keep s.ext).el (d9) (by omega) (by decide) (D := ndArr (L.getD d9 z3).1.me (L.getD d9 z3).1.pr (L.getD d9 z3).2.1 (L.getD d9 z3).2.2) (n3_el L d9 hdl9)) h row46 rfl (ndArr_size _ _ _ _) rfl ?_; intro f h
            refine w_on h rfl rfl rfl ?_
            refine w_load_row 4 h s row24 rfl rfl (rfl) rfl ?_; intro f h
            refine w_on h rfl rfl rfl ?_
            refine w_call h fnc39 (fun w9 hE9 => ret_val (.bool true) (knows_any (L.getD d9 z3).1 (L.getD d9 z3).2.1 (L.getD d9 z3).2.2 L vo w9 ((hO.2 _ (n3_mem hdl9)).1.keep (s.ext.trans hE9)) ((hO.2 _ (n3_mem hdl9)).2.keep (s.ext.trans hE9)) (by omega) (by omega) (hO.keep (s.ext.trans hE9)) hL) (by rw [k1]; rfl)) rfl rfl ?_; intro f h
            refine w_on h rfl rfl rfl ?_
            refine w_pure h (ru_val (.bool false) (ru_not (h.ev rfl)) rfl) rfl ?_; intro f h
            refine w_pure h (ru_pick_f (h.ev rfl) (h.ev rfl)) rfl ?_; intro f h
            refine w_nil s fun w1 s => ?_
            refine s_nil ?_
            refine hK9 _ _ ?_
            refine wpIn_cond_false (h.ev rfl) ?_
            refine wpIn_skip ?_
            refine b_norm ?_
            refine ⟨((rv_1 k0).trans k1), _, rfl, s.pick _ ?_⟩
            exact List.Sublist.cons_cons _ (List.Sublist.refl _)
          · skip
            refine c_walkN 13 [[], [0], [0, 1], [0, 1, 2], [0, 1, 2, 3], [0, 1, 2, 3, 4], [0, 1, 2, 3, 4, 5], [0, 1, 2, 3, 4, 5, 6], [0, 1, 2, 3, 4, 5, 6, 7], [0, 1, 2, 3, 4, 5], [0, 1, 2, 3, 4, 5, 6, 7, 8, 9], [0, 1, 2, 3, 4, 5, 6, 7, 8, 9, 10], [0, 1, 2, 3, 4, 5, 6, 7, 8, 9, 10, 11]] h (by kernel_rfl) (by kernel_rfl) (by kernel_rfl) ?_
            have hx9 := hb.each _ (n3_mem hdl9)
            refine w_pure h (ru_move (h.ev rfl)) rfl ?_; intro f h
            refine w_pure h (ru_nilCheck (h.ev rfl)) rfl ?_; intro f h
            refine w_load_at ((hO.1.keep s.ext).el (d9) (by omega) (by decide) (D := ndArr (L.getD d9 z3).1.me (L.getD d9 z3).1.pr (L.getD d9 z3).2.1 (L.getD d9 z3).2.2) (n3_el L d9 hdl9)) h row46 rfl (ndArr_size _ _ _ _) rfl ?_; intro f h
            refine w_call h fnc38 (fun w9 hE9 => ret_val (.bool true) (nright_any (L.getD d9 z3).1 (L.getD d9 z3).2.1 (L.getD d9 z3).2.2 w9 ((hO.2 _ (n3_mem hdl9)).1.keep (s.ext.trans hE9)) ((hO.2 _ (n3_mem hdl9)).2.keep (s.ext.trans hE9)) (by omega) (by omega)) (congrArg Value.bool k0)) rfl rfl ?_; intro f h
            refine w_pure h (ru_val (.bool false) (ru_not (h.ev rfl)) rfl) rfl ?_; intro f h
            refine w_pure h (ru_move (h.ev rfl)) rfl ?_; intro f h
            refine w_on h rfl rfl rfl ?_
            refine w_pure h (ru_move (h.ev rfl)) rfl ?_; intro f h
            refine w_on h rfl rfl rfl ?_
            refine w_pure h (ru_nilCheck (h.ev rfl)) rfl ?_; intro f h
            refine w_on h rfl rfl rfl ?_
            refine w_load_at ((hO.1.keep s.ext).el (d9) (by omega) (by decide) (D := ndArr (L.getD d9 z3).1.me (L.getD d9 z3).1.pr (L.getD d9 z3).2.1 (L.getD d9 z3).2.2) (n3_el L d9 hdl9)) h row46 rfl (ndArr_size _ _ _ _) rfl ?_; intro f h
            refine w_on h rfl rfl rfl ?_
            refine w_load_row 4 h s row24 rfl rfl (rfl) rfl ?_; intro f h
            refine w_on h rfl rfl rfl ?_
            refine w_call h fnc39 (fun w9 hE9 => ret_val (.bool false) (knows_any (L.getD d9 z3).1 (L.getD d9 z3).2.1 (L.getD d9 z3).2.2 L vo w9 ((hO.2 _ (n3_mem hdl9)).1.keep (s.ext.trans hE9)) ((hO.2 _ (n3_mem hdl9)).2.keep (s.ext.trans hE9)) (by omega) (by omega) (hO.keep (s.ext.trans hE9)) hL) (by rw [k1]; rfl)) rfl rfl ?_; intro f h
            refine w_on h rfl rfl rfl ?_
            refine w_pure h (ru_val (.bool true) (ru_not (h.ev rfl)) rfl) rfl ?_; intro f h
            refine w_pure h (ru_pick_f (h.ev rfl) (h.ev rfl)) rfl ?_; intro f h
            refine w_nil s fun w1 s => ?_
            refine s_nil ?_
            refine hK9 _ _ ?_
            refine wpIn_cond_true (h.ev rfl) ?_
            refine c_seq fun K11 hK11 => ?_
            refine c_region ?_
            refine s_store_one 3 h s one4 rfl rfl rfl (by simp) (rfl) ?_; intro w1 s
            refine s_nil ?_
            refine hK11 _ _ ?_
            refine wpIn_ret ?_
            refine b_ret ?_
            refine ⟨((rv_1 k0).trans k1), _, rfl, s.pick _ ?_⟩
            exact List.Sublist.cons_cons _ (List.Sublist.refl _)
      · intro D9 A9 w2 hJ9 hq9 s
        obtain rfl := hJ9
        replace h : Sl _ { f with defers := { target := .collected D9, args := #[] } :: f.defers } _ [{ target := .collected D9, args := #[] }] := ⟨h.size, by rw [h.defers], h.holds⟩
        refine b_norm ?_
        refine hK7 _ _ ?_
        refine c_seq fun K12 hK12 => ?_
        refine c_region ?_
        refine s_store_one 3 h s one4 rfl rfl rfl (by simp) (rfl) ?_; intro w1 s
        refine s_nil ?_
        refine hK12 _ _ ?_
        refine wpIn_ret ?_
        exact e_one_M 3 0 rfl h s one4 rfl rfl rfl rfl rfl (fun w9 => (congrArg Value.bool (ow_done r0 r1 hq9)).symm)
      · intro D9 d9 A9 w2 hd9 hqd9 hq9 hJ9 s
        obtain rfl := hJ9
        replace h : Sl _ { f with defers := { target := .collected D9, args := #[] } :: f.defers } _ [{ target := .collected D9, args := #[] }] := ⟨h.size, by rw [h.defers], h.holds⟩
        refine b_ret ?_
        refine t_ret ?_
        exact e_one_M 3 0 rfl h s one4 rfl rfl rfl rfl rfl (fun w9 => (congrArg Value.bool (ow_left r0 r1 hd9 hqd9)).symm)
end Go.Proofs.Ytndbijifgalpbaa
