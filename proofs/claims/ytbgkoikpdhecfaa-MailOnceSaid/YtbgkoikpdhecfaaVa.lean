/- What each function of package mail answers: for all mails of at most 1000 letters, all letters, places, ticks and texts. -/
import Derived.Test.YtbgkoikpdhecfaaCon
set_option linter.unusedVariables false
set_option linter.unusedSimpArgs false
set_option linter.unusedSectionVars false
namespace Go.Proofs.Ytbgkoikpdhecfaa
open Go.RowKit
theorem adr_any (n : Int) (w : World) : Calls Try.prog 18 [.int .i64 n].toArray w (Ret w (is (.bool (adr n)))) := by
  refine c_enter Try.func18 rfl Try.ntmps18 rfl [(0, .int .i64 n)] (by simp) fun f h => ?_
  have s := St.start w
  refine c_seq fun K1 hK1 => ?_
  refine c_region ?_
  refine s_pure h (ru_assign (h.ev rfl)) rfl ?_; intro f h
  refine s_nil ?_
  refine hK1 _ _ ?_
  refine c_seq fun K2 hK2 => ?_
  cases h0 : (decide (0 ≤ n) : Bool)
  · skip
    refine c_region ?_
    refine s_pure h (ru_move (h.ev rfl)) rfl ?_; intro f h
    refine s_pure h (ru_val (.bool false) (ru_geq (h.ev rfl) (h.ev rfl)) (congrArg Value.bool h0)) rfl ?_; intro f h
    refine s_pure h (ru_move (h.ev rfl)) rfl ?_; intro f h
    refine s_off (b := true) h rfl rfl rfl rfl ?_; intro f h
    refine s_off (b := true) h rfl rfl rfl rfl ?_; intro f h
    refine s_pure h (ru_pick_f (h.ev rfl) (h.ev rfl)) rfl ?_; intro f h
    refine s_pure h (ru_assign (h.ev rfl)) rfl ?_; intro f h
    refine s_nil ?_
    refine hK2 _ _ ?_
    refine wpIn_ret ?_
    exact e_tmp rfl h s rfl (by show _ = _; unfold adr; rw [h0]; rfl)
  · skip
    refine c_region ?_
    refine s_pure h (ru_move (h.ev rfl)) rfl ?_; intro f h
    refine s_pure h (ru_val (.bool true) (ru_geq (h.ev rfl) (h.ev rfl)) (congrArg Value.bool h0)) rfl ?_; intro f h
    refine s_pure h (ru_move (h.ev rfl)) rfl ?_; intro f h
    refine s_on h rfl rfl rfl ?_
    refine s_pure h (ru_move (h.ev rfl)) rfl ?_; intro f h
    refine s_on h rfl rfl rfl ?_
    refine s_pure h (ru_lss (h.ev rfl) (h.ev rfl)) rfl ?_; intro f h
    refine s_pure h (ru_pick_t (h.ev rfl) (h.ev rfl)) rfl ?_; intro f h
    refine s_pure h (ru_assign (h.ev rfl)) rfl ?_; intro f h
    refine s_nil ?_
    refine hK2 _ _ ?_
    refine wpIn_ret ?_
    exact e_tmp rfl h s rfl (by show _ = _; unfold adr; rw [h0]; rfl)

theorem tck_any (n : Int) (w : World) : Calls Try.prog 22 [.int .i64 n].toArray w (Ret w (is (.bool (tck n)))) := by
  refine c_enter Try.func22 rfl Try.ntmps22 rfl [(0, .int .i64 n)] (by simp) fun f h => ?_
  have s := St.start w
  refine c_seq fun K1 hK1 => ?_
  refine c_region ?_
  refine s_pure h (ru_assign (h.ev rfl)) rfl ?_; intro f h
  refine s_nil ?_
  refine hK1 _ _ ?_
  refine c_seq fun K2 hK2 => ?_
  cases h0 : (decide (0 ≤ n) : Bool)
  · skip
    refine c_region ?_
    refine s_pure h (ru_move (h.ev rfl)) rfl ?_; intro f h
    refine s_pure h (ru_val (.bool false) (ru_geq (h.ev rfl) (h.ev rfl)) (congrArg Value.bool h0)) rfl ?_; intro f h
    refine s_pure h (ru_move (h.ev rfl)) rfl ?_; intro f h
    refine s_off (b := true) h rfl rfl rfl rfl ?_; intro f h
    refine s_off (b := true) h rfl rfl rfl rfl ?_; intro f h
    refine s_pure h (ru_pick_f (h.ev rfl) (h.ev rfl)) rfl ?_; intro f h
    refine s_pure h (ru_assign (h.ev rfl)) rfl ?_; intro f h
    refine s_nil ?_
    refine hK2 _ _ ?_
    refine wpIn_ret ?_
    exact e_tmp rfl h s rfl (by show _ = _; unfold tck; rw [h0]; rfl)
  · skip
    refine c_region ?_
    refine s_pure h (ru_move (h.ev rfl)) rfl ?_; intro f h
    refine s_pure h (ru_val (.bool true) (ru_geq (h.ev rfl) (h.ev rfl)) (congrArg Value.bool h0)) rfl ?_; intro f h
    refine s_pure h (ru_move (h.ev rfl)) rfl ?_; intro f h
    refine s_on h rfl rfl rfl ?_
    refine s_pure h (ru_move (h.ev rfl)) rfl ?_; intro f h
    refine s_on h rfl rfl rfl ?_
    refine s_pure h (ru_leq (h.ev rfl) (h.ev rfl)) rfl ?_; intro f h
    refine s_pure h (ru_pick_t (h.ev rfl) (h.ev rfl)) rfl ?_; intro f h
    refine s_pure h (ru_assign (h.ev rfl)) rfl ?_; intro f h
    refine s_nil ?_
    refine hK2 _ _ ?_
    refine wpIn_ret ?_
    exact e_tmp rfl h s rfl (by show _ = _; unfold tck; rw [h0]; rfl)

theorem full_any (m : Ml) (v9 : Value) (w : World) (hR : RdZ w v9 4 m.l.length (ltCells m.l)) (hln : m.l.length ≤ 1000) : Calls Try.prog 19 [.agg (mlArr m v9)].toArray w (Ret w (is (.bool (decide (m.l.length = 64))))) := by
  refine c_enter Try.func19 rfl Try.ntmps19 rfl [(0, .agg (mlArr m v9))] (by simp) fun f h => ?_
  have s := St.start w
  refine c_seq fun K1 hK1 => ?_
  refine c_region ?_
  refine s_box ((mlArr m v9)) h s rfl rfl rfl ?_; intro f w1 b1 h s
  refine s_pure h (ru_assign (h.ev rfl)) rfl ?_; intro f h
  refine s_nil ?_
  refine hK1 _ _ ?_
  refine c_seq fun K2 hK2 => ?_
  refine c_region ?_
  refine s_pure h (ru_field fld24_0 (h.ev rfl)) rfl ?_; intro f h
  refine s_load_at1 (cell_of_has (Has.of_own s 0 rfl) 0 (rfl)) h one22 rfl rfl ?_; intro f h
  refine s_pure h (ru_lenZ (hR.keep s.ext) Try.underlying22 (h.ev rfl)) rfl ?_; intro f h
  refine s_pure h (ru_val (.bool (decide (m.l.length = 64))) (ru_eql (h.ev rfl) (h.ev rfl)) (congrArg Value.bool (decide_eq_decide.2 (by omega)))) rfl ?_; intro f h
  refine s_pure h (ru_assign (h.ev rfl)) rfl ?_; intro f h
  refine s_nil ?_
  refine hK2 _ _ ?_
  refine wpIn_ret ?_
  exact e_tmp rfl h s rfl (rfl)

theorem places_any (m : Ml) (v9 : Value) (B9 : List Own) (w0 w : World) (s : St w0 B9 w) : Calls Try.prog 23 [.agg (mlArr m v9)].toArray w (fun e w9 => ∃ r, e = .returned r ∧ ∃ bx, r = .func (.func 26) #[] #[.pointer (some ⟨bx, 0, none⟩)] ∧ St w0 (.blk bx (.cells (mlArr m v9) 24) :: B9) w9) := by
  refine c_enterF Try.func23 rfl Try.ntmps23 rfl [(0, .agg (mlArr m v9))] (by simp) fun f h => ?_
  refine c_seq fun K1 hK1 => ?_
  refine c_region ?_
  refine s_box ((mlArr m v9)) h s rfl rfl rfl ?_; intro f w1 b1 h s
  refine s_pure h (ru_assign (h.ev rfl)) rfl ?_; intro f h
  refine s_nil ?_
  refine hK1 _ _ ?_
  refine c_seq fun K2 hK2 => ?_
  refine c_region ?_
  refine s_pure h (ru_makeFunc [.pointer (some ⟨b1, 0, none⟩)] (evsA h rfl)) rfl ?_; intro f h
  refine s_pure h (ru_assign (h.ev rfl)) rfl ?_; intro f h
  refine s_nil ?_
  refine hK2 _ _ ?_
  refine wpIn_ret ?_
  exact e_tmpF rfl h rfl (⟨_, rfl, b1, rfl, s⟩)

theorem piter_any (m : Ml) (hln : m.l.length ≤ 1000) (v9 : Value) (lp bx : Nat) (q : Nat → Bool) (GG : Nat → Own → Prop) (g0 : Own) (w0 w : World) (s : St w0 [.blk bx (.cells (mlArr m v9) 24), g0] w) (hg0 : GG 0 g0) (hR : RdZ w0 v9 4 m.l.length (ltCells m.l)) (hY : ∀ (d : Nat) (B9 : List Own) (w9 : World) (i : Nat) (g : Own), d < m.l.length → (∀ j, j < d → q j = false) → GG d g → St w0 B9 w9 → B9[i]? = some g → Yields Try.prog lp [Value.int .i64 (d : Int), .agg (ltArr (m.l.getD d zLt))].toArray w9 (fun v w2 => v = .bool (!q d) ∧ ∃ g', GG (d + 1) g' ∧ St w0 (B9.set i g') w2)) : Calls Try.prog 26 [.func (.yield lp) #[] #[], .pointer (some ⟨bx, 0, none⟩)].toArray w (fun e w9 => (∃ v, e = .returned v) ∧ ∃ d g, GG d g ∧ St w0 ([.blk bx (.cells (mlArr m v9) 24)] ++ [g]) w9 ∧ d ≤ m.l.length ∧ (∀ j, j + 1 < d → q j = false) ∧ (lq q d = false → d = m.l.length)) := by
  refine c_enterF Try.func26 rfl Try.ntmps26 rfl [(0, .func (.yield lp) #[] #[]), (1, .pointer (some ⟨bx, 0, none⟩))] (by simp) fun f h => ?_
  refine c_seq fun K1 hK1 => ?_
  refine c_region ?_
  refine s_pure h (ru_field fld24_0 (h.ev rfl)) rfl ?_; intro f h
  refine s_load_at1 (cell_of_has (Has.of_own s 0 rfl) 0 (rfl)) h one22 rfl rfl ?_; intro f h
  refine s_pure h (ru_lenZ (hR.keep s.ext) Try.underlying22 (h.ev rfl)) rfl ?_; intro f h
  refine s_pure h (ru_move (h.ev rfl)) rfl ?_; intro f h
  refine s_nil ?_
  refine hK1 _ _ ?_
  refine wpIn_block ?_
  refine wpIn_loop_ghost (fun nn aa ww => ∃ d : Nat, ∃ gg : Own, Sl 19 aa [(0, .func (.yield lp) #[] #[]), (1, .pointer (some ⟨bx, 0, none⟩)), (6, v9), (7, .int .i64 (m.l.length : Int)), (8, .int .i64 (d : Int))] ∧ St w0 [.blk bx (.cells (mlArr m v9) 24), (gg)] ww ∧ nn = m.l.length - d ∧ d ≤ m.l.length ∧ GG d gg ∧ ∀ j, j < d → q j = false) (m.l.length - (0)) ⟨0, g0, h.only ⟨rfl, rfl, rfl, rfl, slot_int rfl (by omega), trivial⟩, s.as ⟨rfl, rfl, trivial⟩, rfl, Nat.zero_le _, hg0, fun j hj => absurd hj (Nat.not_lt_zero _)⟩ ?_
  rintro _ f w1 ⟨d, gg, h, s, hnn, hp0, hp1, hp2⟩
  refine c_seq fun K2 hK2 => ?_
  refine c_region ?_
  refine s_pure h (ru_lss (h.ev rfl) (h.ev rfl)) rfl ?_; intro f h
  refine s_nil ?_
  refine hK2 _ _ ?_
  refine c_seq fun K3 hK3 => ?_
  refine c_cond h rfl (fun hc => ?_) (fun hc => ?_)
  · replace hc := of_decide_eq_true hc
    refine wpIn_skip ?_
    refine hK3 _ _ ?_
    refine c_seq fun K4 hK4 => ?_
    refine wpIn_block ?_
    refine c_seq fun K5 hK5 => ?_
    refine c_region ?_
    refine s_pure h (ru_move (h.ev rfl)) rfl ?_; intro f h
    have hdl : d < m.l.length := by omega
    refine s_pure h (ru_ixz (hR.keep s.ext) (d) Try.underlying22 szo35 (h.ev rfl) (h.ev rfl) (by omega) (by omega)) rfl ?_; intro f h
    refine s_load_at ((hR.keep s.ext).el (d) (by omega) (by decide) (D := ltArr (m.l.getD d zLt)) ((lt_el m.l d hdl).trans (ltD hdl))) h row35 rfl (rfl) rfl ?_; intro f h
    refine s_alloc (ltArr zLt) h s zero35 rfl rfl ?_; intro f w1 b4 h s
    refine s_pure h (ru_assign (h.ev rfl)) rfl ?_; intro f h
    refine s_store_row 0 h s row35 rfl rfl rfl (rfl) (rfl) (ltArr_ones _) ?_; intro w1 s
    refine s_nil ?_
    refine hK5 _ _ ?_
    refine c_seq fun K6 hK6 => ?_
    cases hq : (q d : Bool)
    · skip
      refine c_region ?_
      refine s_pure h (ru_move (h.ev rfl)) rfl ?_; intro f h
      refine s_pure h (ru_move (h.ev rfl)) rfl ?_; intro f h
      refine s_load_row 0 h s row35 rfl rfl (rfl) rfl ?_; intro f h
      refine s_yieldG (V := .bool true) (G := GG (d + 1)) [.int .i64 (d : Int), .agg (ltArr (m.l.getD d zLt))] 2 h rfl rfl (by have h9 := hY d _ _ 2 gg hdl hp2 hp1 s rfl; rw [hq] at h9; exact h9) rfl ?_; intro f w1 g1 hg1 h s
      refine s_pure h (ru_val (.bool false) (ru_not (h.ev rfl)) rfl) rfl ?_; intro f h
      refine s_nil ?_
      refine hK6 _ _ ?_
      refine wpIn_cond_false (h.ev rfl) ?_
      refine wpIn_skip ?_
      refine b_norm ?_
      refine hK4 _ _ ?_
      refine c_region ?_
      refine s_pure h (ru_add (h.ev rfl) (h.ev rfl) (by omega)) rfl ?_; intro f h
      refine s_pure h (ru_move (h.ev rfl)) rfl ?_; intro f h
      refine s_nil ?_
      refine t_norm ?_
      exact ⟨_, by omega, ⟨d + 1, g1, h.only ⟨rfl, rfl, rfl, rfl, slot_int rfl (by omega), trivial⟩, St.as (s.pick _ (List.sublist_append_right [_] _)) ⟨rfl, rfl, trivial⟩, rfl, by omega, hg1, qs_next hp2 hq⟩⟩
    · skip
      refine c_region ?_
      refine s_pure h (ru_move (h.ev rfl)) rfl ?_; intro f h
      refine s_pure h (ru_move (h.ev rfl)) rfl ?_; intro f h
      refine s_load_row 0 h s row35 rfl rfl (rfl) rfl ?_; intro f h
      refine s_yieldG (V := .bool false) (G := GG (d + 1)) [.int .i64 (d : Int), .agg (ltArr (m.l.getD d zLt))] 2 h rfl rfl (by have h9 := hY d _ _ 2 gg hdl hp2 hp1 s rfl; rw [hq] at h9; exact h9) rfl ?_; intro f w1 g1 hg1 h s
      refine s_pure h (ru_val (.bool true) (ru_not (h.ev rfl)) rfl) rfl ?_; intro f h
      refine s_nil ?_
      refine hK6 _ _ ?_
      refine wpIn_cond_true (h.ev rfl) ?_
      refine wpIn_ret ?_
      refine b_ret ?_
      refine t_ret ?_
      refine t_ret ?_
      refine b_ret ?_
      exact e_noneF rfl h (⟨⟨_, rfl⟩, d + 1, g1, hg1, s.pick _ (List.sublist_cons_self _ _), by omega, fun j hj => hp2 j (by omega), fun h9 => absurd (hq.symm.trans h9) (by decide)⟩)
  · replace hc := of_decide_eq_false hc
    refine wpIn_exit ?_
    refine t_exit ?_
    refine t_exit ?_
    refine b_exit ?_
    exact e_noneF_end rfl h (⟨⟨_, rfl⟩, d, gg, hp1, s, hp0, fun j hj => hp2 j (by omega), fun _ => by omega⟩)

theorem mright_any (m : Ml) (v9 : Value) (w : World) (hR : RdZ w v9 4 m.l.length (ltCells m.l)) (hln : m.l.length ≤ 1000) : Calls Try.prog 10 [.agg (mlArr m v9)].toArray w (Ret w (is (.bool (rightL m)))) := by
  refine c_enterM Try.func10 rfl Try.ntmps10 rfl [(0, .agg (mlArr m v9))] (by simp) fun f h => ?_
  have s := St.start w
  refine c_seq fun K1 hK1 => ?_
  refine c_region ?_
  refine s_box ((mlArr m v9)) h s rfl rfl rfl ?_; intro f w1 b1 h s
  refine s_alloc (#[.bool false]) h s zero4 rfl rfl ?_; intro f w1 b2 h s
  refine s_nil ?_
  refine hK1 _ _ ?_
  refine c_seq fun K2 hK2 => ?_
  refine c_seq fun K3 hK3 => ?_
  cases h0 : (decide (m.l.length ≤ 64) : Bool)
  · skip
    refine c_region ?_
    refine s_pure h (ru_field fld24_0 (h.ev rfl)) rfl ?_; intro f h
    refine s_load_at1 (cell_of_has (Has.of_own s 1 rfl) 0 (rfl)) h one22 rfl rfl ?_; intro f h
    refine s_pure h (ru_lenZ (hR.keep s.ext) Try.underlying22 (h.ev rfl)) rfl ?_; intro f h
    refine s_pure h (ru_val (.bool true) (ru_gtr (h.ev rfl) (h.ev rfl)) (congrArg Value.bool (decide_eq_true (by have := of_decide_eq_false h0; omega)))) rfl ?_; intro f h
    refine s_pure h (ru_move (h.ev rfl)) rfl ?_; intro f h
    refine s_off (b := false) h rfl rfl rfl rfl ?_; intro f h
    refine s_off (b := false) h rfl rfl rfl rfl ?_; intro f h
    refine s_off (b := false) h rfl rfl rfl rfl ?_; intro f h
    refine s_off (b := false) h rfl rfl rfl rfl ?_; intro f h
    refine s_pure h (ru_pick_t (h.ev rfl) (h.ev rfl)) rfl ?_; intro f h
    refine s_pure h (ru_move (h.ev rfl)) rfl ?_; intro f h
    refine s_off (b := false) h rfl rfl rfl rfl ?_; intro f h
    refine s_off (b := false) h rfl rfl rfl rfl ?_; intro f h
    refine s_off (b := false) h rfl rfl rfl rfl ?_; intro f h
    refine s_off (b := false) h rfl rfl rfl rfl ?_; intro f h
    refine s_pure h (ru_pick_t (h.ev rfl) (h.ev rfl)) rfl ?_; intro f h
    refine s_nil ?_
    refine hK3 _ _ ?_
    refine wpIn_cond_true (h.ev rfl) ?_
    refine c_seq fun K4 hK4 => ?_
    refine c_region ?_
    refine s_store_one 0 h s one4 rfl rfl rfl (by simp) (rfl) ?_; intro w1 s
    refine s_nil ?_
    refine hK4 _ _ ?_
    refine wpIn_ret ?_
    refine t_ret ?_
    exact e_one_M0 0 rfl h s one4 rfl rfl rfl (fun w9 => by show _ = _; rw [right_no0 h0]; rfl)
  · skip
    cases h1 : (tck m.last : Bool)
    · skip
      refine c_region ?_
      refine s_pure h (ru_field fld24_0 (h.ev rfl)) rfl ?_; intro f h
      refine s_load_at1 (cell_of_has (Has.of_own s 1 rfl) 0 (rfl)) h one22 rfl rfl ?_; intro f h
      refine s_pure h (ru_lenZ (hR.keep s.ext) Try.underlying22 (h.ev rfl)) rfl ?_; intro f h
      refine s_pure h (ru_val (.bool false) (ru_gtr (h.ev rfl) (h.ev rfl)) (congrArg Value.bool (decide_eq_false (by have := of_decide_eq_true h0; omega)))) rfl ?_; intro f h
      refine s_pure h (ru_move (h.ev rfl)) rfl ?_; intro f h
      refine s_on h rfl rfl rfl ?_
      refine s_pure h (ru_field fld24_1 (h.ev rfl)) rfl ?_; intro f h
      refine s_on h rfl rfl rfl ?_
      refine s_load_at1 (cell_of_has (Has.of_own s 1 rfl) 1 (rfl)) h one3 rfl rfl ?_; intro f h
      refine s_on h rfl rfl rfl ?_
      refine s_call h s fnc22 (ret_val (.bool false) (tck_any _ _) (congrArg Value.bool h1)) rfl rfl ?_; intro f w1 v9 hT hE h s; obtain rfl := hT
      refine s_on h rfl rfl rfl ?_
      refine s_pure h (ru_val (.bool true) (ru_not (h.ev rfl)) rfl) rfl ?_; intro f h
      refine s_pure h (ru_pick_f (h.ev rfl) (h.ev rfl)) rfl ?_; intro f h
      refine s_pure h (ru_move (h.ev rfl)) rfl ?_; intro f h
      refine s_off (b := false) h rfl rfl rfl rfl ?_; intro f h
      refine s_off (b := false) h rfl rfl rfl rfl ?_; intro f h
      refine s_off (b := false) h rfl rfl rfl rfl ?_; intro f h
      refine s_off (b := false) h rfl rfl rfl rfl ?_; intro f h
      refine s_pure h (ru_pick_t (h.ev rfl) (h.ev rfl)) rfl ?_; intro f h
      refine s_nil ?_
      refine hK3 _ _ ?_
      refine wpIn_cond_true (h.ev rfl) ?_
      refine c_seq fun K5 hK5 => ?_
      refine c_region ?_
      refine s_store_one 0 h s one4 rfl rfl rfl (by simp) (rfl) ?_; intro w1 s
      refine s_nil ?_
      refine hK5 _ _ ?_
      refine wpIn_ret ?_
      refine t_ret ?_
      exact e_one_M0 0 rfl h s one4 rfl rfl rfl (fun w9 => by show _ = _; rw [right_no1 h1]; rfl)
    · skip
      cases h2 : (tck m.now : Bool)
      · skip
        refine c_region ?_
        refine s_pure h (ru_field fld24_0 (h.ev rfl)) rfl ?_; intro f h
        refine s_load_at1 (cell_of_has (Has.of_own s 1 rfl) 0 (rfl)) h one22 rfl rfl ?_; intro f h
        refine s_pure h (ru_lenZ (hR.keep s.ext) Try.underlying22 (h.ev rfl)) rfl ?_; intro f h
        refine s_pure h (ru_val (.bool false) (ru_gtr (h.ev rfl) (h.ev rfl)) (congrArg Value.bool (decide_eq_false (by have := of_decide_eq_true h0; omega)))) rfl ?_; intro f h
        refine s_pure h (ru_move (h.ev rfl)) rfl ?_; intro f h
        refine s_on h rfl rfl rfl ?_
        refine s_pure h (ru_field fld24_1 (h.ev rfl)) rfl ?_; intro f h
        refine s_on h rfl rfl rfl ?_
        refine s_load_at1 (cell_of_has (Has.of_own s 1 rfl) 1 (rfl)) h one3 rfl rfl ?_; intro f h
        refine s_on h rfl rfl rfl ?_
        refine s_call h s fnc22 (ret_val (.bool true) (tck_any _ _) (congrArg Value.bool h1)) rfl rfl ?_; intro f w1 v9 hT hE h s; obtain rfl := hT
        refine s_on h rfl rfl rfl ?_
        refine s_pure h (ru_val (.bool false) (ru_not (h.ev rfl)) rfl) rfl ?_; intro f h
        refine s_pure h (ru_pick_f (h.ev rfl) (h.ev rfl)) rfl ?_; intro f h
        refine s_pure h (ru_move (h.ev rfl)) rfl ?_; intro f h
        refine s_on h rfl rfl rfl ?_
        refine s_pure h (ru_field fld24_2 (h.ev rfl)) rfl ?_; intro f h
        refine s_on h rfl rfl rfl ?_
        refine s_load_at1 (cell_of_has (Has.of_own s 1 rfl) 2 (rfl)) h one3 rfl rfl ?_; intro f h
        refine s_on h rfl rfl rfl ?_
        refine s_call h s fnc22 (ret_val (.bool false) (tck_any _ _) (congrArg Value.bool h2)) rfl rfl ?_; intro f w1 v9 hT hE h s; obtain rfl := hT
        refine s_on h rfl rfl rfl ?_
        refine s_pure h (ru_val (.bool true) (ru_not (h.ev rfl)) rfl) rfl ?_; intro f h
        refine s_pure h (ru_pick_f (h.ev rfl) (h.ev rfl)) rfl ?_; intro f h
        refine s_nil ?_
        refine hK3 _ _ ?_
        refine wpIn_cond_true (h.ev rfl) ?_
        refine c_seq fun K6 hK6 => ?_
        refine c_region ?_
        refine s_store_one 0 h s one4 rfl rfl rfl (by simp) (rfl) ?_; intro w1 s
        refine s_nil ?_
        refine hK6 _ _ ?_
        refine wpIn_ret ?_
        refine t_ret ?_
        exact e_one_M0 0 rfl h s one4 rfl rfl rfl (fun w9 => by show _ = _; rw [right_no2 h2]; rfl)
      · skip
        refine c_region ?_
        refine s_pure h (ru_field fld24_0 (h.ev rfl)) rfl ?_; intro f h
        refine s_load_at1 (cell_of_has (Has.of_own s 1 rfl) 0 (rfl)) h one22 rfl rfl ?_; intro f h
        refine s_pure h (ru_lenZ (hR.keep s.ext) Try.underlying22 (h.ev rfl)) rfl ?_; intro f h
        refine s_pure h (ru_val (.bool false) (ru_gtr (h.ev rfl) (h.ev rfl)) (congrArg Value.bool (decide_eq_false (by have := of_decide_eq_true h0; omega)))) rfl ?_; intro f h
        refine s_pure h (ru_move (h.ev rfl)) rfl ?_; intro f h
        refine s_on h rfl rfl rfl ?_
        refine s_pure h (ru_field fld24_1 (h.ev rfl)) rfl ?_; intro f h
        refine s_on h rfl rfl rfl ?_
        refine s_load_at1 (cell_of_has (Has.of_own s 1 rfl) 1 (rfl)) h one3 rfl rfl ?_; intro f h
        refine s_on h rfl rfl rfl ?_
        refine s_call h s fnc22 (ret_val (.bool true) (tck_any _ _) (congrArg Value.bool h1)) rfl rfl ?_; intro f w1 v9 hT hE h s; obtain rfl := hT
        refine s_on h rfl rfl rfl ?_
        refine s_pure h (ru_val (.bool false) (ru_not (h.ev rfl)) rfl) rfl ?_; intro f h
        refine s_pure h (ru_pick_f (h.ev rfl) (h.ev rfl)) rfl ?_; intro f h
        refine s_pure h (ru_move (h.ev rfl)) rfl ?_; intro f h
        refine s_on h rfl rfl rfl ?_
        refine s_pure h (ru_field fld24_2 (h.ev rfl)) rfl ?_; intro f h
        refine s_on h rfl rfl rfl ?_
        refine s_load_at1 (cell_of_has (Has.of_own s 1 rfl) 2 (rfl)) h one3 rfl rfl ?_; intro f h
        refine s_on h rfl rfl rfl ?_
        refine s_call h s fnc22 (ret_val (.bool true) (tck_any _ _) (congrArg Value.bool h2)) rfl rfl ?_; intro f w1 v9 hT hE h s; obtain rfl := hT
        refine s_on h rfl rfl rfl ?_
        refine s_pure h (ru_val (.bool false) (ru_not (h.ev rfl)) rfl) rfl ?_; intro f h
        refine s_pure h (ru_pick_f (h.ev rfl) (h.ev rfl)) rfl ?_; intro f h
        refine s_nil ?_
        refine hK3 _ _ ?_
        refine wpIn_cond_false (h.ev rfl) ?_
        refine wpIn_skip ?_
        refine hK2 _ _ ?_
        refine c_seq fun K7 hK7 => ?_
        refine c_seq fun K8 hK8 => ?_
        refine c_region ?_
        refine s_load_row 1 h s row24 rfl rfl (rfl) rfl ?_; intro f h
        refine s_callS [.agg (mlArr m v9)] h fnc23 (places_any m v9 _ _ _ s) rfl rfl ?_; rintro f w1 r ⟨bx, rfl, s⟩ h
        refine s_nil ?_
        refine hK8 _ _ ?_
        refine wpIn_block ?_
        refine c_rangeE (fun _ A9 => A9 = [.blk b2 (.cells #[.bool false] 4), .blk b1 (.cells (mlArr m v9) 24)]) [.blk b2 (.cells #[.bool false] 4), .blk b1 (.cells (mlArr m v9) 24)] [.blk bx (.cells (mlArr m v9) 24)] (m.l.length) (badQ m) (fun d => [Value.int .i64 (d : Int), .agg (ltArr (m.l.getD d zLt))]) h s rfl fnc26 (List.Perm.refl _) (rfl) (fun _ => rfl) ?_ ?_ ?_ ?_
        · intro lp w2 GG g0 hg0 s2 hY; exact piter_any m hln v9 lp bx (badQ m) GG g0 w w2 s2 hg0 hR hY
        · intro lp D9 d9 rc R9 A9 w2 hd9 hq9 hJ9 s
          obtain rfl := hJ9
          have h := Sl.round2 (p := 23) (q := 24) (V := .int .i64 (d9 : Int)) (U := .agg (ltArr (m.l.getD d9 zLt))) h rfl rfl
          refine c_region ?_
          refine s_alloc (ltArr zLt) h s zero35 rfl rfl ?_; intro f w1 b4 h s
          refine s_store_row 0 h s row35 rfl rfl rfl (rfl) (rfl) (ltArr_ones _) ?_; intro w1 s
          refine s_nil ?_
          refine t_norm ?_
          refine ⟨_, s.perm (List.perm_middle (l₁ := [_])), fun w3 s => ?_⟩
          refine wpIn_block ?_
          refine c_seq fun K9 hK9 => ?_
          cases k0 : (decide ((m.l.getD d9 zLt).1 < 1) : Bool)
          · skip
            cases k1 : (decide (m.last < (m.l.getD d9 zLt).1) : Bool)
            · skip
              cases k2 : (adr (m.l.getD d9 zLt).2.1 : Bool)
              · skip
                refine c_region ?_
                refine s_pure h (ru_field fld35_0 (h.ev rfl)) rfl ?_; intro f h
                refine s_load_at1 (cell_of_has (Has.of_own s 1 rfl) 0 (rfl)) h one3 rfl rfl ?_; intro f h
                refine s_pure h (ru_val (.bool false) (ru_lss (h.ev rfl) (h.ev rfl)) (congrArg Value.bool k0)) rfl ?_; intro f h
                refine s_pure h (ru_move (h.ev rfl)) rfl ?_; intro f h
                refine s_on h rfl rfl rfl ?_
                refine s_pure h (ru_field fld35_0 (h.ev rfl)) rfl ?_; intro f h
                refine s_on h rfl rfl rfl ?_
                refine s_load_at1 (cell_of_has (Has.of_own s 1 rfl) 0 (rfl)) h one3 rfl rfl ?_; intro f h
                refine s_on h rfl rfl rfl ?_
                refine s_pure h (ru_field fld24_1 (h.ev rfl)) rfl ?_; intro f h
                refine s_on h rfl rfl rfl ?_
                refine s_load_at1 (cell_of_has (Has.of_own s 4 rfl) 1 (rfl)) h one3 rfl rfl ?_; intro f h
                refine s_on h rfl rfl rfl ?_
                refine s_pure h (ru_val (.bool false) (ru_gtr (h.ev rfl) (h.ev rfl)) (congrArg Value.bool k1)) rfl ?_; intro f h
                refine s_pure h (ru_pick_f (h.ev rfl) (h.ev rfl)) rfl ?_; intro f h
                refine s_pure h (ru_move (h.ev rfl)) rfl ?_; intro f h
                refine s_on h rfl rfl rfl ?_
                refine s_pure h (ru_field fld35_1 (h.ev rfl)) rfl ?_; intro f h
                refine s_on h rfl rfl rfl ?_
                refine s_load_at1 (cell_of_has (Has.of_own s 1 rfl) 1 (rfl)) h one3 rfl rfl ?_; intro f h
                refine s_on h rfl rfl rfl ?_
                refine s_call h s fnc18 (ret_val (.bool false) (adr_any _ _) (congrArg Value.bool k2)) rfl rfl ?_; intro f w1 v9 hT hE h s; obtain rfl := hT
                refine s_on h rfl rfl rfl ?_
                refine s_pure h (ru_val (.bool true) (ru_not (h.ev rfl)) rfl) rfl ?_; intro f h
                refine s_pure h (ru_pick_f (h.ev rfl) (h.ev rfl)) rfl ?_; intro f h
                refine s_pure h (ru_move (h.ev rfl)) rfl ?_; intro f h
                refine s_off (b := false) h rfl rfl rfl rfl ?_; intro f h
                refine s_off (b := false) h rfl rfl rfl rfl ?_; intro f h
                refine s_off (b := false) h rfl rfl rfl rfl ?_; intro f h
                refine s_off (b := false) h rfl rfl rfl rfl ?_; intro f h
                refine s_pure h (ru_pick_t (h.ev rfl) (h.ev rfl)) rfl ?_; intro f h
                refine s_pure h (ru_move (h.ev rfl)) rfl ?_; intro f h
                refine s_off (b := false) h rfl rfl rfl rfl ?_; intro f h
                refine s_off (b := false) h rfl rfl rfl rfl ?_; intro f h
                refine s_off (b := false) h rfl rfl rfl rfl ?_; intro f h
                refine s_off (b := false) h rfl rfl rfl rfl ?_; intro f h
                refine s_pure h (ru_pick_t (h.ev rfl) (h.ev rfl)) rfl ?_; intro f h
                refine s_nil ?_
                refine hK9 _ _ ?_
                refine wpIn_cond_true (h.ev rfl) ?_
                refine c_seq fun K10 hK10 => ?_
                refine c_region ?_
                refine s_store_one 3 h s one4 rfl rfl rfl (by simp) (rfl) ?_; intro w1 s
                refine s_nil ?_
                refine hK10 _ _ ?_
                refine wpIn_ret ?_
                refine b_ret ?_
                refine ⟨by show badL _ _ = _; unfold badL; simp only [k0, k1, k2, Bool.true_or, Bool.false_or, Bool.or_true, Bool.not_false, Bool.not_true], _, rfl, s.pick _ ?_⟩
                exact List.Sublist.cons_cons _ (List.Sublist.cons _ (List.Sublist.refl _))
              · skip
                cases k3 : (adr (m.l.getD d9 zLt).2.2.1 : Bool)
                · skip
                  refine c_region ?_
                  refine s_pure h (ru_field fld35_0 (h.ev rfl)) rfl ?_; intro f h
                  refine s_load_at1 (cell_of_has (Has.of_own s 1 rfl) 0 (rfl)) h one3 rfl rfl ?_; intro f h
                  refine s_pure h (ru_val (.bool false) (ru_lss (h.ev rfl) (h.ev rfl)) (congrArg Value.bool k0)) rfl ?_; intro f h
                  refine s_pure h (ru_move (h.ev rfl)) rfl ?_; intro f h
                  refine s_on h rfl rfl rfl ?_
                  refine s_pure h (ru_field fld35_0 (h.ev rfl)) rfl ?_; intro f h
                  refine s_on h rfl rfl rfl ?_
                  refine s_load_at1 (cell_of_has (Has.of_own s 1 rfl) 0 (rfl)) h one3 rfl rfl ?_; intro f h
                  refine s_on h rfl rfl rfl ?_
                  refine s_pure h (ru_field fld24_1 (h.ev rfl)) rfl ?_; intro f h
                  refine s_on h rfl rfl rfl ?_
                  refine s_load_at1 (cell_of_has (Has.of_own s 4 rfl) 1 (rfl)) h one3 rfl rfl ?_; intro f h
                  refine s_on h rfl rfl rfl ?_
                  refine s_pure h (ru_val (.bool false) (ru_gtr (h.ev rfl) (h.ev rfl)) (congrArg Value.bool k1)) rfl ?_; intro f h
                  refine s_pure h (ru_pick_f (h.ev rfl) (h.ev rfl)) rfl ?_; intro f h
                  refine s_pure h (ru_move (h.ev rfl)) rfl ?_; intro f h
                  refine s_on h rfl rfl rfl ?_
                  refine s_pure h (ru_field fld35_1 (h.ev rfl)) rfl ?_; intro f h
                  refine s_on h rfl rfl rfl ?_
                  refine s_load_at1 (cell_of_has (Has.of_own s 1 rfl) 1 (rfl)) h one3 rfl rfl ?_; intro f h
                  refine s_on h rfl rfl rfl ?_
                  refine s_call h s fnc18 (ret_val (.bool true) (adr_any _ _) (congrArg Value.bool k2)) rfl rfl ?_; intro f w1 v9 hT hE h s; obtain rfl := hT
                  refine s_on h rfl rfl rfl ?_
                  refine s_pure h (ru_val (.bool false) (ru_not (h.ev rfl)) rfl) rfl ?_; intro f h
                  refine s_pure h (ru_pick_f (h.ev rfl) (h.ev rfl)) rfl ?_; intro f h
                  refine s_pure h (ru_move (h.ev rfl)) rfl ?_; intro f h
                  refine s_on h rfl rfl rfl ?_
                  refine s_pure h (ru_field fld35_2 (h.ev rfl)) rfl ?_; intro f h
                  refine s_on h rfl rfl rfl ?_
                  refine s_load_at1 (cell_of_has (Has.of_own s 1 rfl) 2 (rfl)) h one3 rfl rfl ?_; intro f h
                  refine s_on h rfl rfl rfl ?_
                  refine s_call h s fnc18 (ret_val (.bool false) (adr_any _ _) (congrArg Value.bool k3)) rfl rfl ?_; intro f w1 v9 hT hE h s; obtain rfl := hT
                  refine s_on h rfl rfl rfl ?_
                  refine s_pure h (ru_val (.bool true) (ru_not (h.ev rfl)) rfl) rfl ?_; intro f h
                  refine s_pure h (ru_pick_f (h.ev rfl) (h.ev rfl)) rfl ?_; intro f h
                  refine s_pure h (ru_move (h.ev rfl)) rfl ?_; intro f h
                  refine s_off (b := false) h rfl rfl rfl rfl ?_; intro f h
                  refine s_off (b := false) h rfl rfl rfl rfl ?_; intro f h
                  refine s_off (b := false) h rfl rfl rfl rfl ?_; intro f h
                  refine s_off (b := false) h rfl rfl rfl rfl ?_; intro f h
                  refine s_pure h (ru_pick_t (h.ev rfl) (h.ev rfl)) rfl ?_; intro f h
                  refine s_nil ?_
                  refine hK9 _ _ ?_
                  refine wpIn_cond_true (h.ev rfl) ?_
                  refine c_seq fun K11 hK11 => ?_
                  refine c_region ?_
                  refine s_store_one 3 h s one4 rfl rfl rfl (by simp) (rfl) ?_; intro w1 s
                  refine s_nil ?_
                  refine hK11 _ _ ?_
                  refine wpIn_ret ?_
                  refine b_ret ?_
                  refine ⟨by show badL _ _ = _; unfold badL; simp only [k0, k1, k2, k3, Bool.true_or, Bool.false_or, Bool.or_true, Bool.not_false, Bool.not_true], _, rfl, s.pick _ ?_⟩
                  exact List.Sublist.cons_cons _ (List.Sublist.cons _ (List.Sublist.refl _))
                · skip
                  cases k4 : (decide (300 < (m.l.getD d9 zLt).2.2.2.size) : Bool)
                  · skip
                    refine c_region ?_
                    refine s_pure h (ru_field fld35_0 (h.ev rfl)) rfl ?_; intro f h
                    refine s_load_at1 (cell_of_has (Has.of_own s 1 rfl) 0 (rfl)) h one3 rfl rfl ?_; intro f h
                    refine s_pure h (ru_val (.bool false) (ru_lss (h.ev rfl) (h.ev rfl)) (congrArg Value.bool k0)) rfl ?_; intro f h
                    refine s_pure h (ru_move (h.ev rfl)) rfl ?_; intro f h
                    refine s_on h rfl rfl rfl ?_
                    refine s_pure h (ru_field fld35_0 (h.ev rfl)) rfl ?_; intro f h
                    refine s_on h rfl rfl rfl ?_
                    refine s_load_at1 (cell_of_has (Has.of_own s 1 rfl) 0 (rfl)) h one3 rfl rfl ?_; intro f h
                    refine s_on h rfl rfl rfl ?_
                    refine s_pure h (ru_field fld24_1 (h.ev rfl)) rfl ?_; intro f h
                    refine s_on h rfl rfl rfl ?_
                    refine s_load_at1 (cell_of_has (Has.of_own s 4 rfl) 1 (rfl)) h one3 rfl rfl ?_; intro f h
                    refine s_on h rfl rfl rfl ?_
                    refine s_pure h (ru_val (.bool false) (ru_gtr (h.ev rfl) (h.ev rfl)) (congrArg Value.bool k1)) rfl ?_; intro f h
                    refine s_pure h (ru_pick_f (h.ev rfl) (h.ev rfl)) rfl ?_; intro f h
                    refine s_pure h (ru_move (h.ev rfl)) rfl ?_; intro f h
                    refine s_on h rfl rfl rfl ?_
                    refine s_pure h (ru_field fld35_1 (h.ev rfl)) rfl ?_; intro f h
                    refine s_on h rfl rfl rfl ?_
                    refine s_load_at1 (cell_of_has (Has.of_own s 1 rfl) 1 (rfl)) h one3 rfl rfl ?_; intro f h
                    refine s_on h rfl rfl rfl ?_
                    refine s_call h s fnc18 (ret_val (.bool true) (adr_any _ _) (congrArg Value.bool k2)) rfl rfl ?_; intro f w1 v9 hT hE h s; obtain rfl := hT
                    refine s_on h rfl rfl rfl ?_
                    refine s_pure h (ru_val (.bool false) (ru_not (h.ev rfl)) rfl) rfl ?_; intro f h
                    refine s_pure h (ru_pick_f (h.ev rfl) (h.ev rfl)) rfl ?_; intro f h
                    refine s_pure h (ru_move (h.ev rfl)) rfl ?_; intro f h
                    refine s_on h rfl rfl rfl ?_
                    refine s_pure h (ru_field fld35_2 (h.ev rfl)) rfl ?_; intro f h
                    refine s_on h rfl rfl rfl ?_
                    refine s_load_at1 (cell_of_has (Has.of_own s 1 rfl) 2 (rfl)) h one3 rfl rfl ?_; intro f h
                    refine s_on h rfl rfl rfl ?_
                    refine s_call h s fnc18 (ret_val (.bool true) (adr_any _ _) (congrArg Value.bool k3)) rfl rfl ?_; intro f w1 v9 hT hE h s; obtain rfl := hT
                    refine s_on h rfl rfl rfl ?_
                    refine s_pure h (ru_val (.bool false) (ru_not (h.ev rfl)) rfl) rfl ?_; intro f h
                    refine s_pure h (ru_pick_f (h.ev rfl) (h.ev rfl)) rfl ?_; intro f h
                    refine s_pure h (ru_move (h.ev rfl)) rfl ?_; intro f h
                    refine s_on h rfl rfl rfl ?_
                    refine s_pure h (ru_field fld35_3 (h.ev rfl)) rfl ?_; intro f h
                    refine s_on h rfl rfl rfl ?_
                    refine s_load_at1 (cell_of_has (Has.of_own s 1 rfl) 3 (rfl)) h one9 rfl rfl ?_; intro f h
                    refine s_on h rfl rfl rfl ?_
                    refine s_pure h (ru_len_str Try.underlying9 (h.ev rfl)) rfl ?_; intro f h
                    refine s_on h rfl rfl rfl ?_
                    refine s_pure h (ru_val (.bool false) (ru_gtr (h.ev rfl) (h.ev rfl)) (congrArg Value.bool (decide_eq_false (by have := of_decide_eq_false k4; omega)))) rfl ?_; intro f h
                    refine s_pure h (ru_pick_f (h.ev rfl) (h.ev rfl)) rfl ?_; intro f h
                    refine s_nil ?_
                    refine hK9 _ _ ?_
                    refine wpIn_cond_false (h.ev rfl) ?_
                    refine wpIn_skip ?_
                    refine b_norm ?_
                    refine ⟨by show badL _ _ = _; unfold badL; simp only [k0, k1, k2, k3, k4, Bool.true_or, Bool.false_or, Bool.or_true, Bool.not_false, Bool.not_true], _, rfl, s.pick _ ?_⟩
                    exact List.Sublist.cons_cons _ (List.Sublist.cons _ (List.Sublist.refl _))
                  · skip
                    refine c_region ?_
                    refine s_pure h (ru_field fld35_0 (h.ev rfl)) rfl ?_; intro f h
                    refine s_load_at1 (cell_of_has (Has.of_own s 1 rfl) 0 (rfl)) h one3 rfl rfl ?_; intro f h
                    refine s_pure h (ru_val (.bool false) (ru_lss (h.ev rfl) (h.ev rfl)) (congrArg Value.bool k0)) rfl ?_; intro f h
                    refine s_pure h (ru_move (h.ev rfl)) rfl ?_; intro f h
                    refine s_on h rfl rfl rfl ?_
                    refine s_pure h (ru_field fld35_0 (h.ev rfl)) rfl ?_; intro f h
                    refine s_on h rfl rfl rfl ?_
                    refine s_load_at1 (cell_of_has (Has.of_own s 1 rfl) 0 (rfl)) h one3 rfl rfl ?_; intro f h
                    refine s_on h rfl rfl rfl ?_
                    refine s_pure h (ru_field fld24_1 (h.ev rfl)) rfl ?_; intro f h
                    refine s_on h rfl rfl rfl ?_
                    refine s_load_at1 (cell_of_has (Has.of_own s 4 rfl) 1 (rfl)) h one3 rfl rfl ?_; intro f h
                    refine s_on h rfl rfl rfl ?_
                    refine s_pure h (ru_val (.bool false) (ru_gtr (h.ev rfl) (h.ev rfl)) (congrArg Value.bool k1)) rfl ?_; intro f h
                    refine s_pure h (ru_pick_f (h.ev rfl) (h.ev rfl)) rfl ?_; intro f h
                    refine s_pure h (ru_move (h.ev rfl)) rfl ?_; intro f h
                    refine s_on h rfl rfl rfl ?_
                    refine s_pure h (ru_field fld35_1 (h.ev rfl)) rfl ?_; intro f h
                    refine s_on h rfl rfl rfl ?_
                    refine s_load_at1 (cell_of_has (Has.of_own s 1 rfl) 1 (rfl)) h one3 rfl rfl ?_; intro f h
                    refine s_on h rfl rfl rfl ?_
                    refine s_call h s fnc18 (ret_val (.bool true) (adr_any _ _) (congrArg Value.bool k2)) rfl rfl ?_; intro f w1 v9 hT hE h s; obtain rfl := hT
                    refine s_on h rfl rfl rfl ?_
                    refine s_pure h (ru_val (.bool false) (ru_not (h.ev rfl)) rfl) rfl ?_; intro f h
                    refine s_pure h (ru_pick_f (h.ev rfl) (h.ev rfl)) rfl ?_; intro f h
                    refine s_pure h (ru_move (h.ev rfl)) rfl ?_; intro f h
                    refine s_on h rfl rfl rfl ?_
                    refine s_pure h (ru_field fld35_2 (h.ev rfl)) rfl ?_; intro f h
                    refine s_on h rfl rfl rfl ?_
                    refine s_load_at1 (cell_of_has (Has.of_own s 1 rfl) 2 (rfl)) h one3 rfl rfl ?_; intro f h
                    refine s_on h rfl rfl rfl ?_
                    refine s_call h s fnc18 (ret_val (.bool true) (adr_any _ _) (congrArg Value.bool k3)) rfl rfl ?_; intro f w1 v9 hT hE h s; obtain rfl := hT
                    refine s_on h rfl rfl rfl ?_
                    refine s_pure h (ru_val (.bool false) (ru_not (h.ev rfl)) rfl) rfl ?_; intro f h
                    refine s_pure h (ru_pick_f (h.ev rfl) (h.ev rfl)) rfl ?_; intro f h
                    refine s_pure h (ru_move (h.ev rfl)) rfl ?_; intro f h
                    refine s_on h rfl rfl rfl ?_
                    refine s_pure h (ru_field fld35_3 (h.ev rfl)) rfl ?_; intro f h
                    refine s_on h rfl rfl rfl ?_
                    refine s_load_at1 (cell_of_has (Has.of_own s 1 rfl) 3 (rfl)) h one9 rfl rfl ?_; intro f h
                    refine s_on h rfl rfl rfl ?_
                    refine s_pure h (ru_len_str Try.underlying9 (h.ev rfl)) rfl ?_; intro f h
                    refine s_on h rfl rfl rfl ?_
                    refine s_pure h (ru_val (.bool true) (ru_gtr (h.ev rfl) (h.ev rfl)) (congrArg Value.bool (decide_eq_true (by have := of_decide_eq_true k4; omega)))) rfl ?_; intro f h
                    refine s_pure h (ru_pick_f (h.ev rfl) (h.ev rfl)) rfl ?_; intro f h
                    refine s_nil ?_
                    refine hK9 _ _ ?_
                    refine wpIn_cond_true (h.ev rfl) ?_
                    refine c_seq fun K12 hK12 => ?_
                    refine c_region ?_
                    refine s_store_one 3 h s one4 rfl rfl rfl (by simp) (rfl) ?_; intro w1 s
                    refine s_nil ?_
                    refine hK12 _ _ ?_
                    refine wpIn_ret ?_
                    refine b_ret ?_
                    refine ⟨by show badL _ _ = _; unfold badL; simp only [k0, k1, k2, k3, k4, Bool.true_or, Bool.false_or, Bool.or_true, Bool.not_false, Bool.not_true], _, rfl, s.pick _ ?_⟩
                    exact List.Sublist.cons_cons _ (List.Sublist.cons _ (List.Sublist.refl _))
            · skip
              refine c_region ?_
              refine s_pure h (ru_field fld35_0 (h.ev rfl)) rfl ?_; intro f h
              refine s_load_at1 (cell_of_has (Has.of_own s 1 rfl) 0 (rfl)) h one3 rfl rfl ?_; intro f h
              refine s_pure h (ru_val (.bool false) (ru_lss (h.ev rfl) (h.ev rfl)) (congrArg Value.bool k0)) rfl ?_; intro f h
              refine s_pure h (ru_move (h.ev rfl)) rfl ?_; intro f h
              refine s_on h rfl rfl rfl ?_
              refine s_pure h (ru_field fld35_0 (h.ev rfl)) rfl ?_; intro f h
              refine s_on h rfl rfl rfl ?_
              refine s_load_at1 (cell_of_has (Has.of_own s 1 rfl) 0 (rfl)) h one3 rfl rfl ?_; intro f h
              refine s_on h rfl rfl rfl ?_
              refine s_pure h (ru_field fld24_1 (h.ev rfl)) rfl ?_; intro f h
              refine s_on h rfl rfl rfl ?_
              refine s_load_at1 (cell_of_has (Has.of_own s 4 rfl) 1 (rfl)) h one3 rfl rfl ?_; intro f h
              refine s_on h rfl rfl rfl ?_
              refine s_pure h (ru_val (.bool true) (ru_gtr (h.ev rfl) (h.ev rfl)) (congrArg Value.bool k1)) rfl ?_; intro f h
              refine s_pure h (ru_pick_f (h.ev rfl) (h.ev rfl)) rfl ?_; intro f h
              refine s_pure h (ru_move (h.ev rfl)) rfl ?_; intro f h
              refine s_off (b := false) h rfl rfl rfl rfl ?_; intro f h
              refine s_off (b := false) h rfl rfl rfl rfl ?_; intro f h
              refine s_off (b := false) h rfl rfl rfl rfl ?_; intro f h
              refine s_off (b := false) h rfl rfl rfl rfl ?_; intro f h
              refine s_pure h (ru_pick_t (h.ev rfl) (h.ev rfl)) rfl ?_; intro f h
              refine s_pure h (ru_move (h.ev rfl)) rfl ?_; intro f h
              refine s_off (b := false) h rfl rfl rfl rfl ?_; intro f h
              refine s_off (b := false) h rfl rfl rfl rfl ?_; intro f h
              refine s_off (b := false) h rfl rfl rfl rfl ?_; intro f h
              refine s_off (b := false) h rfl rfl rfl rfl ?_; intro f h
              refine s_pure h (ru_pick_t (h.ev rfl) (h.ev rfl)) rfl ?_; intro f h
              refine s_pure h (ru_move (h.ev rfl)) rfl ?_; intro f h
              refine s_off (b := false) h rfl rfl rfl rfl ?_; intro f h
              refine s_off (b := false) h rfl rfl rfl rfl ?_; intro f h
              refine s_off (b := false) h rfl rfl rfl rfl ?_; intro f h
              refine s_off (b := false) h rfl rfl rfl rfl ?_; intro f h
              refine s_pure h (ru_pick_t (h.ev rfl) (h.ev rfl)) rfl ?_; intro f h
              refine s_nil ?_
              refine hK9 _ _ ?_
              refine wpIn_cond_true (h.ev rfl) ?_
              refine c_seq fun K13 hK13 => ?_
              refine c_region ?_
              refine s_store_one 3 h s one4 rfl rfl rfl (by simp) (rfl) ?_; intro w1 s
              refine s_nil ?_
              refine hK13 _ _ ?_
              refine wpIn_ret ?_
              refine b_ret ?_
              refine ⟨by show badL _ _ = _; unfold badL; simp only [k0, k1, Bool.true_or, Bool.false_or, Bool.or_true, Bool.not_false, Bool.not_true], _, rfl, s.pick _ ?_⟩
              exact List.Sublist.cons_cons _ (List.Sublist.cons _ (List.Sublist.refl _))
          · skip
            refine c_region ?_
            refine s_pure h (ru_field fld35_0 (h.ev rfl)) rfl ?_; intro f h
            refine s_load_at1 (cell_of_has (Has.of_own s 1 rfl) 0 (rfl)) h one3 rfl rfl ?_; intro f h
            refine s_pure h (ru_val (.bool true) (ru_lss (h.ev rfl) (h.ev rfl)) (congrArg Value.bool k0)) rfl ?_; intro f h
            refine s_pure h (ru_move (h.ev rfl)) rfl ?_; intro f h
            refine s_off (b := false) h rfl rfl rfl rfl ?_; intro f h
            refine s_off (b := false) h rfl rfl rfl rfl ?_; intro f h
            refine s_off (b := false) h rfl rfl rfl rfl ?_; intro f h
            refine s_off (b := false) h rfl rfl rfl rfl ?_; intro f h
            refine s_off (b := false) h rfl rfl rfl rfl ?_; intro f h
            refine s_pure h (ru_pick_t (h.ev rfl) (h.ev rfl)) rfl ?_; intro f h
            refine s_pure h (ru_move (h.ev rfl)) rfl ?_; intro f h
            refine s_off (b := false) h rfl rfl rfl rfl ?_; intro f h
            refine s_off (b := false) h rfl rfl rfl rfl ?_; intro f h
            refine s_off (b := false) h rfl rfl rfl rfl ?_; intro f h
            refine s_off (b := false) h rfl rfl rfl rfl ?_; intro f h
            refine s_pure h (ru_pick_t (h.ev rfl) (h.ev rfl)) rfl ?_; intro f h
            refine s_pure h (ru_move (h.ev rfl)) rfl ?_; intro f h
            refine s_off (b := false) h rfl rfl rfl rfl ?_; intro f h
            refine s_off (b := false) h rfl rfl rfl rfl ?_; intro f h
            refine s_off (b := false) h rfl rfl rfl rfl ?_; intro f h
            refine s_off (b := false) h rfl rfl rfl rfl ?_; intro f h
            refine s_pure h (ru_pick_t (h.ev rfl) (h.ev rfl)) rfl ?_; intro f h
            refine s_pure h (ru_move (h.ev rfl)) rfl ?_; intro f h
            refine s_off (b := false) h rfl rfl rfl rfl ?_; intro f h
            refine s_off (b := false) h rfl rfl rfl rfl ?_; intro f h
            refine s_off (b := false) h rfl rfl rfl rfl ?_; intro f h
            refine s_off (b := false) h rfl rfl rfl rfl ?_; intro f h
            refine s_pure h (ru_pick_t (h.ev rfl) (h.ev rfl)) rfl ?_; intro f h
            refine s_nil ?_
            refine hK9 _ _ ?_
            refine wpIn_cond_true (h.ev rfl) ?_
            refine c_seq fun K14 hK14 => ?_
            refine c_region ?_
            refine s_store_one 3 h s one4 rfl rfl rfl (by simp) (rfl) ?_; intro w1 s
            refine s_nil ?_
            refine hK14 _ _ ?_
            refine wpIn_ret ?_
            refine b_ret ?_
            refine ⟨by show badL _ _ = _; unfold badL; simp only [k0, Bool.true_or, Bool.false_or, Bool.or_true, Bool.not_false, Bool.not_true], _, rfl, s.pick _ ?_⟩
            exact List.Sublist.cons_cons _ (List.Sublist.cons _ (List.Sublist.refl _))
        · intro D9 A9 w2 hJ9 hq9 s
          obtain rfl := hJ9
          replace h : Sl _ { f with defers := { target := .collected D9, args := #[] } :: f.defers } _ [{ target := .collected D9, args := #[] }] := ⟨h.size, by rw [h.defers], h.holds⟩
          refine b_norm ?_
          refine hK7 _ _ ?_
          refine c_seq fun K15 hK15 => ?_
          refine c_region ?_
          refine s_store_one 2 h s one4 rfl rfl rfl (by simp) (rfl) ?_; intro w1 s
          refine s_nil ?_
          refine hK15 _ _ ?_
          refine wpIn_ret ?_
          exact e_one_M 2 0 rfl h s one4 rfl rfl rfl rfl rfl (fun w9 => by show _ = _; rw [right_done h0 h1 h2 hq9]; rfl)
        · intro D9 d9 A9 w2 hd9 hqd9 hq9 hJ9 s
          obtain rfl := hJ9
          replace h : Sl _ { f with defers := { target := .collected D9, args := #[] } :: f.defers } _ [{ target := .collected D9, args := #[] }] := ⟨h.size, by rw [h.defers], h.holds⟩
          refine b_ret ?_
          refine t_ret ?_
          exact e_one_M 2 0 rfl h s one4 rfl rfl rfl rfl rfl (fun w9 => by show _ = _; rw [right_left hd9 hqd9]; rfl)

theorem at_any (m : Ml) (v9 : Value) (p : Int) (w : World) (hR : RdZ w v9 4 m.l.length (ltCells m.l)) (hln : m.l.length ≤ 1000) : Calls Try.prog 24 [.agg (mlArr m v9), .int .i64 p].toArray w (Ret w (is (.tuple #[.agg (ltArr (atL m p)), .int .i64 (atE m p)]))) := by
  refine c_enterM Try.func24 rfl Try.ntmps24 rfl [(0, .agg (mlArr m v9)), (1, .int .i64 p)] (by simp) fun f h => ?_
  have s := St.start w
  refine c_seq fun K1 hK1 => ?_
  refine c_region ?_
  refine s_box ((mlArr m v9)) h s rfl rfl rfl ?_; intro f w1 b2 h s
  refine s_box (#[.int .i64 p]) h s rfl rfl rfl ?_; intro f w1 b3 h s
  refine s_alloc (ltArr zLt) h s zero35 rfl rfl ?_; intro f w1 b4 h s
  refine s_alloc (#[.int .i64 0]) h s zero26 rfl rfl ?_; intro f w1 b5 h s
  refine s_nil ?_
  refine hK1 _ _ ?_
  refine c_seq fun K2 hK2 => ?_
  refine c_seq fun K3 hK3 => ?_
  cases hr : (rightL m : Bool)
  · skip
    refine c_region ?_
    refine s_load_row 3 h s row24 rfl rfl (rfl) rfl ?_; intro f h
    refine s_call h s fnc10 (ret_val (.bool false) (mright_any m v9 _ (hR.keep s.ext) hln) (congrArg Value.bool hr)) rfl rfl ?_; intro f w1 v9 hT hE h s; obtain rfl := hT
    refine s_pure h (ru_val (.bool true) (ru_not (h.ev rfl)) rfl) rfl ?_; intro f h
    refine s_nil ?_
    refine hK3 _ _ ?_
    refine wpIn_cond_true (h.ev rfl) ?_
    refine c_seq fun K4 hK4 => ?_
    refine c_region ?_
    refine s_pure h (ru_build_lt0 sttL) rfl ?_; intro f h
    refine s_store_row 1 h s row35 rfl rfl rfl (rfl) (rfl) (ltArr_ones _) ?_; intro w1 s
    refine s_store_one 0 h s one26 rfl rfl rfl (by simp) (rfl) ?_; intro w1 s
    refine s_nil ?_
    refine hK4 _ _ ?_
    refine wpIn_ret ?_
    refine t_ret ?_
    exact e_row_one_M0 1 0 rfl h s row35 one26 rfl rfl rfl rfl (rfl) rfl (fun w9 => by show _ = _; rw [atE_bad p hr, atL_bad p hr] <;> rfl)
  · skip
    refine c_region ?_
    refine s_load_row 3 h s row24 rfl rfl (rfl) rfl ?_; intro f h
    refine s_call h s fnc10 (ret_val (.bool true) (mright_any m v9 _ (hR.keep s.ext) hln) (congrArg Value.bool hr)) rfl rfl ?_; intro f w1 v9 hT hE h s; obtain rfl := hT
    refine s_pure h (ru_val (.bool false) (ru_not (h.ev rfl)) rfl) rfl ?_; intro f h
    refine s_nil ?_
    refine hK3 _ _ ?_
    refine wpIn_cond_false (h.ev rfl) ?_
    refine wpIn_skip ?_
    refine hK2 _ _ ?_
    refine c_seq fun K5 hK5 => ?_
    refine c_seq fun K6 hK6 => ?_
    refine c_region ?_
    refine s_load_row 3 h s row24 rfl rfl (rfl) rfl ?_; intro f h
    refine s_callS [.agg (mlArr m v9)] h fnc23 (places_any m v9 _ _ _ s) rfl rfl ?_; rintro f w1 r ⟨bx, rfl, s⟩ h
    refine s_nil ?_
    refine hK6 _ _ ?_
    refine wpIn_block ?_
    refine c_rangeE (fun d A9 => A9 = [.blk b5 (.cells #[.int .i64 0] 26), .blk b4 (.cells (ltArr (atJ m.l (isQ p) d)) 35), .blk b3 (.cells #[.int .i64 p] 3), .blk b2 (.cells (mlArr m v9) 24)]) [.blk b5 (.cells #[.int .i64 0] 26), .blk b4 (.cells (ltArr zLt) 35), .blk b3 (.cells #[.int .i64 p] 3), .blk b2 (.cells (mlArr m v9) 24)] [.blk bx (.cells (mlArr m v9) 24)] (m.l.length) (isQ p) (fun d => [Value.int .i64 (d : Int), .agg (ltArr (m.l.getD d zLt))]) h s rfl fnc26 (List.Perm.refl _) (rfl) (fun _ => rfl) ?_ ?_ ?_ ?_
    · intro lp w2 GG g0 hg0 s2 hY; exact piter_any m hln v9 lp bx (isQ p) GG g0 w w2 s2 hg0 hR hY
    · intro lp D9 d9 rc R9 A9 w2 hd9 hq9 hJ9 s
      obtain rfl := hJ9
      have h := Sl.round2 (p := 14) (q := 15) (V := .int .i64 (d9 : Int)) (U := .agg (ltArr (m.l.getD d9 zLt))) h rfl rfl
      refine c_seq fun K7 hK7 => ?_
      refine c_region ?_
      refine s_pure h (ru_assign (h.ev rfl)) rfl ?_; intro f h
      refine s_nil ?_
      refine hK7 _ _ ?_
      refine c_region ?_
      refine s_alloc (ltArr zLt) h s zero35 rfl rfl ?_; intro f w1 b7 h s
      refine s_store_row 0 h s row35 rfl rfl rfl (rfl) (rfl) (ltArr_ones _) ?_; intro w1 s
      refine s_nil ?_
      refine t_norm ?_
      refine ⟨_, s.perm (List.perm_middle (l₁ := [_])), fun w3 s => ?_⟩
      refine wpIn_block ?_
      refine c_seq fun K8 hK8 => ?_
      cases hq : (isQ p d9 : Bool)
      · skip
        refine c_region ?_
        refine s_pure h (ru_move (h.ev rfl)) rfl ?_; intro f h
        refine s_load_one 5 h s one3 rfl rfl (rfl) rfl ?_; intro f h
        refine s_pure h (ru_val (.bool false) (ru_eql (h.ev rfl) (h.ev rfl)) (congrArg Value.bool hq)) rfl ?_; intro f h
        refine s_nil ?_
        refine hK8 _ _ ?_
        refine wpIn_cond_false (h.ev rfl) ?_
        refine wpIn_skip ?_
        refine b_norm ?_
        replace s := s.recell (D := ltArr (atJ m.l (isQ p) (d9 + 1))) 4 rfl (by rw [atJ_now hq9]; show ltArr zLt = ltArr (bif isQ p d9 then _ else _); rw [hq]; rfl)
        refine ⟨by first | exact hq | rfl, _, rfl, s.pick _ ?_⟩
        exact List.Sublist.cons_cons _ (List.Sublist.cons _ (List.Sublist.refl _))
      · skip
        refine c_region ?_
        refine s_pure h (ru_move (h.ev rfl)) rfl ?_; intro f h
        refine s_load_one 5 h s one3 rfl rfl (rfl) rfl ?_; intro f h
        refine s_pure h (ru_val (.bool true) (ru_eql (h.ev rfl) (h.ev rfl)) (congrArg Value.bool hq)) rfl ?_; intro f h
        refine s_nil ?_
        refine hK8 _ _ ?_
        refine wpIn_cond_true (h.ev rfl) ?_
        refine c_seq fun K9 hK9 => ?_
        refine c_region ?_
        refine s_load_row 1 h s row35 rfl rfl (rfl) rfl ?_; intro f h
        refine s_store_row 4 h s row35 rfl rfl rfl (rfl) (rfl) (ltArr_ones _) ?_; intro w1 s
        refine s_store_one 3 h s one26 rfl rfl rfl (by simp) (rfl) ?_; intro w1 s
        refine s_nil ?_
        refine hK9 _ _ ?_
        refine wpIn_ret ?_
        refine b_ret ?_
        replace s := s.recell (D := ltArr (atJ m.l (isQ p) (d9 + 1))) 4 rfl (by show ltArr _ = ltArr (bif isQ p d9 then _ else _); rw [hq]; rfl)
        refine ⟨by first | exact hq | rfl, _, rfl, s.pick _ ?_⟩
        exact List.Sublist.cons_cons _ (List.Sublist.cons _ (List.Sublist.refl _))
    · intro D9 A9 w2 hJ9 hq9 s
      obtain rfl := hJ9
      replace h : Sl _ { f with defers := { target := .collected D9, args := #[] } :: f.defers } _ [{ target := .collected D9, args := #[] }] := ⟨h.size, by rw [h.defers], h.holds⟩
      refine b_norm ?_
      refine hK5 _ _ ?_
      refine c_seq fun K10 hK10 => ?_
      refine c_region ?_
      refine s_pure h (ru_build_lt0 sttL) rfl ?_; intro f h
      refine s_store_row 3 h s row35 rfl rfl rfl (rfl) (rfl) (ltArr_ones _) ?_; intro w1 s
      refine s_store_one 2 h s one26 rfl rfl rfl (by simp) (rfl) ?_; intro w1 s
      refine s_nil ?_
      refine hK10 _ _ ?_
      refine wpIn_ret ?_
      exact e_row_one_M 3 2 0 rfl h s row35 one26 rfl rfl rfl rfl rfl (rfl) rfl (fun w9 => by show _ = _; rw [(at_done hr hq9).1, (at_done hr hq9).2] <;> rfl)
    · intro D9 d9 A9 w2 hd9 hqd9 hq9 hJ9 s
      obtain rfl := hJ9
      replace h : Sl _ { f with defers := { target := .collected D9, args := #[] } :: f.defers } _ [{ target := .collected D9, args := #[] }] := ⟨h.size, by rw [h.defers], h.holds⟩
      refine b_ret ?_
      refine t_ret ?_
      exact e_row_one_M 3 2 0 rfl h s row35 one26 rfl rfl rfl rfl rfl (rfl) rfl (fun w9 => by show _ = _; rw [(at_left hr hd9 hqd9).1, (at_left hr hd9 hqd9).2]; show Value.tuple #[.agg (ltArr (bif isQ p d9 then _ else _)), _] = _; rw [hqd9]; rfl)

theorem without_any (m : Ml) (v9 : Value) (p : Int) (hp0 : 0 ≤ p) (w : World) (hR : RdZ w v9 4 m.l.length (ltCells m.l)) (hln : m.l.length ≤ 1000) : Calls Try.prog 25 [.agg (mlArr m v9), .int .i64 p].toArray w (Ret w (OneP 35 w.heap.size { m with l := m.l.eraseIdx p.toNat })) := by
  refine c_enterM Try.func25 rfl Try.ntmps25 rfl [(0, .agg (mlArr m v9)), (1, .int .i64 p)] (by simp) fun f h => ?_
  have s := St.start w
  refine c_seq fun K1 hK1 => ?_
  refine c_region ?_
  refine s_box ((mlArr m v9)) h s rfl rfl rfl ?_; intro f w1 b2 h s
  refine s_box (#[.int .i64 p]) h s rfl rfl rfl ?_; intro f w1 b3 h s
  refine s_alloc (mlArr zMl (.slice none 0 0)) h s zero24 rfl rfl ?_; intro f w1 b4 h s
  refine s_nil ?_
  refine hK1 _ _ ?_
  refine c_seq fun K2 hK2 => ?_
  refine c_region ?_
  refine s_alloc (#[.slice none 0 0]) h s zero22 rfl rfl ?_; intro f w1 b5 h s
  refine s_nil ?_
  refine hK2 _ _ ?_
  refine c_seq fun K3 hK3 => ?_
  refine c_seq fun K4 hK4 => ?_
  refine c_region ?_
  replace s := s.nilSl 35 4
  refine s_load_row 4 h s row24 rfl rfl (rfl) rfl ?_; intro f h
  refine s_callS [.agg (mlArr m v9)] h fnc23 (places_any m v9 _ _ _ s) rfl rfl ?_; rintro f w1 r ⟨bx, rfl, s⟩ h
  refine s_nil ?_
  refine hK4 _ _ ?_
  refine wpIn_block ?_
  refine c_rangeE (fun d A9 => ∃ v8 : Value, A9 = [.sl v8 35 4 (dl m.l p.toNat d).length (ltCells (dl m.l p.toNat d)), .blk b5 (.cells #[v8] 22), .blk b4 (.cells (mlArr zMl (.slice none 0 0)) 24), .blk b3 (.cells #[.int .i64 p] 3), .blk b2 (.cells (mlArr m v9) 24)]) [.sl (.slice none 0 0) 35 4 0 [], .blk b5 (.cells #[(.slice none 0 0)] 22), .blk b4 (.cells (mlArr zMl (.slice none 0 0)) 24), .blk b3 (.cells #[.int .i64 p] 3), .blk b2 (.cells (mlArr m v9) 24)] [.blk bx (.cells (mlArr m v9) 24)] (m.l.length) (fun _ => false) (fun d => [Value.int .i64 (d : Int), .agg (ltArr (m.l.getD d zLt))]) h s rfl fnc26 (List.Perm.refl _) (⟨_, rfl⟩) (fun _ => rfl) ?_ ?_ ?_ ?_
  · intro lp w2 GG g0 hg0 s2 hY; exact piter_any m hln v9 lp bx (fun _ => false) GG g0 w w2 s2 hg0 hR hY
  · intro lp D9 d9 rc R9 A9 w2 hd9 hq9 hJ9 s
    obtain ⟨v8, rfl⟩ := hJ9
    have h := Sl.round2 (p := 10) (q := 11) (V := .int .i64 (d9 : Int)) (U := .agg (ltArr (m.l.getD d9 zLt))) h rfl rfl
    refine c_seq fun K5 hK5 => ?_
    refine c_region ?_
    refine s_pure h (ru_assign (h.ev rfl)) rfl ?_; intro f h
    refine s_nil ?_
    refine hK5 _ _ ?_
    refine c_region ?_
    refine s_alloc (ltArr zLt) h s zero35 rfl rfl ?_; intro f w1 b7 h s
    refine s_store_row 0 h s row35 rfl rfl rfl (rfl) (rfl) (ltArr_ones _) ?_; intro w1 s
    refine s_nil ?_
    refine t_norm ?_
    refine ⟨_, s.perm (List.perm_middle (l₁ := [_])), fun w3 s => ?_⟩
    refine wpIn_block ?_
    refine c_seq fun K6 hK6 => ?_
    cases hq : (decide ((d9 : Int) = p) : Bool)
    · skip
      refine c_region ?_
      refine s_pure h (ru_move (h.ev rfl)) rfl ?_; intro f h
      refine s_load_one 6 h s one3 rfl rfl (rfl) rfl ?_; intro f h
      refine s_pure h (ru_val (.bool true) (ru_neq (h.ev rfl) (h.ev rfl)) (congrArg Value.bool (decide_eq_true (of_decide_eq_false hq)))) rfl ?_; intro f h
      refine s_nil ?_
      refine hK6 _ _ ?_
      refine wpIn_cond_true (h.ev rfl) ?_
      refine c_region ?_
      refine s_load_one 4 h s one22 rfl rfl (rfl) rfl ?_; intro f h
      refine s_load_row 1 h s row35 rfl rfl (rfl) rfl ?_; intro f h
      refine s_bslice (vs := [.agg (ltArr (m.l.getD d9 zLt))]) [.tmp 16] h s Try.underlying22 elm35 rfl rfl (one_lt_size _) rfl rfl rfl ?_; intro f w1 v17 h s
      refine s_append 4 0 h s Try.underlying22 elm35 rfl rfl rfl rfl (by decide) (one_lt_ones _) (by have := dl_le m.l p.toNat d9; unfold maxLen; omega) (by have := dl_le m.l p.toNat d9; omega) rfl ?_; intro f w1 v18 h s
      replace s := s.pick _ (List.sublist_cons_self _ _)
      refine s_store_one 4 h s one22 rfl rfl rfl (by simp) (own_one (s.getSl 3 rfl)) ?_; intro w1 s
      refine s_nil ?_
      refine b_norm ?_
      have hk9 : p.toNat ≠ d9 := by have := of_decide_eq_false hq; omega
      replace s := s.resl (m := (dl m.l p.toNat (d9 + 1)).length) (ys := ltCells (dl m.l p.toNat (d9 + 1))) 3 rfl (by rw [dl_keep hd9 hk9, List.length_append]; rfl) (by rw [dl_keep hd9 hk9, one_lt, cells_snoc])
      refine ⟨rfl, _, ⟨v18, rfl⟩, s.pick _ ?_⟩
      exact List.Sublist.cons_cons _ (List.Sublist.cons _ (List.Sublist.refl _))
    · skip
      refine c_region ?_
      refine s_pure h (ru_move (h.ev rfl)) rfl ?_; intro f h
      refine s_load_one 6 h s one3 rfl rfl (rfl) rfl ?_; intro f h
      refine s_pure h (ru_val (.bool false) (ru_neq (h.ev rfl) (h.ev rfl)) (congrArg Value.bool (decide_eq_false (fun h9 => h9 (of_decide_eq_true hq))))) rfl ?_; intro f h
      refine s_nil ?_
      refine hK6 _ _ ?_
      refine wpIn_cond_false (h.ev rfl) ?_
      refine wpIn_skip ?_
      refine b_norm ?_
      have hk9 : p.toNat = d9 := by have := of_decide_eq_true hq; omega
      rw [show dl m.l p.toNat d9 = dl m.l p.toNat (d9 + 1) from by rw [hk9]; exact (dl_skip hd9).symm] at s
      refine ⟨rfl, _, ⟨v8, rfl⟩, s.pick _ ?_⟩
      exact List.Sublist.cons_cons _ (List.Sublist.cons _ (List.Sublist.refl _))
  · intro D9 A9 w2 hJ9 hq9 s
    obtain ⟨v8, rfl⟩ := hJ9
    replace h : Sl _ { f with defers := { target := .collected D9, args := #[] } :: f.defers } _ [{ target := .collected D9, args := #[] }] := ⟨h.size, by rw [h.defers], h.holds⟩
    rw [dl_end] at s
    refine b_norm ?_
    refine hK3 _ _ ?_
    refine c_seq fun K7 hK7 => ?_
    refine c_region ?_
    refine s_load_one 3 h s one22 rfl rfl (rfl) rfl ?_; intro f h
    refine s_pure h (ru_field fld24_0 (h.ev rfl)) rfl ?_; intro f h
    refine s_store_one 6 h s one22 rfl rfl rfl (by show _ < 3; decide) (own_one (s.getSl 2 rfl)) ?_; intro w1 s
    replace s := s.recell (D := mlArr { m with l := m.l.eraseIdx p.toNat } v8) 6 rfl rfl
    refine s_nil ?_
    refine hK7 _ _ ?_
    refine c_seq fun K8 hK8 => ?_
    refine c_region ?_
    refine s_load_row 6 h s row24 rfl rfl (rfl) rfl ?_; intro f h
    refine s_store_row 4 h s row24 rfl rfl rfl (rfl) (rfl) (mlArr_ones _ _ (own_one (s.getSl 2 rfl))) ?_; intro w1 s
    refine s_nil ?_
    refine hK8 _ _ ?_
    refine wpIn_ret ?_
    exact e_row_MS 4 0 rfl h s row24 rfl rfl rfl rfl (rfl) (fun w9 s9 => ⟨v8, rfl, s9.getSl 2 rfl⟩)
  · intro D9 d9 A9 w2 hd9 hqd9 hq9 hJ9 s
    cases hqd9

theorem clone_ok (l : List Lt) (hln : l.length ≤ 1000) (a9 : Option Addr) (n9 c9 : Nat) (w : World) (hR : RdZ w (.slice a9 n9 c9) 4 l.length (ltCells l)) : Calls Try.prog 21 [.slice a9 n9 c9].toArray w (Ret w (fun v w' => Owns w' w.heap.size 35 4 v l.length (ltCells l))) := by
  refine c_enter Try.func21 rfl Try.ntmps21 rfl [(0, .slice a9 n9 c9)] (by simp) fun f h => ?_
  have s := St.start w
  refine c_seq fun K1 hK1 => ?_
  refine c_region ?_
  refine s_pure h (ru_assign (h.ev rfl)) rfl ?_; intro f h
  refine s_nil ?_
  refine hK1 _ _ ?_
  refine c_seq fun K2 hK2 => ?_
  refine c_seq fun K3 hK3 => ?_
  cases hn : (a9.isNone : Bool)
  · skip
    refine c_region ?_
    refine s_pure h (ru_move (h.ev rfl)) rfl ?_; intro f h
    refine s_pure h (ru_val (.bool false) (ru_eql_nilS Try.underlying22 (h.ev rfl) (h.ev rfl)) (congrArg Value.bool hn)) rfl ?_; intro f h
    refine s_nil ?_
    refine hK3 _ _ ?_
    refine wpIn_cond_false (h.ev rfl) ?_
    refine wpIn_skip ?_
    refine hK2 _ _ ?_
    refine c_seq fun K4 hK4 => ?_
    refine c_region ?_
    refine s_bslice0 (base := w.heap.size) h Try.underlying22 elm35 (Nat.le_refl _) rfl ?_; intro f w2 v5 h hE3 e5
    refine s_pure h (ru_move (h.ev rfl)) rfl ?_; intro f h
    refine s_append_emp (base := w.heap.size) e5 (hR.keep hE3) h Try.underlying22 elm35 rfl rfl hE3.le (ltCells_ones _) (by unfold maxLen; omega) (by omega) rfl ?_; intro f w3 v7 h hE4 e7
    replace s := s.sl_new (hE3.trans hE4) e7
    refine s_pure h (ru_assign (h.ev rfl)) rfl ?_; intro f h
    refine s_nil ?_
    refine hK4 _ _ ?_
    refine wpIn_ret ?_
    exact e_tmp rfl h s rfl (s.getSl 0 rfl)
  · skip
    refine c_region ?_
    refine s_pure h (ru_move (h.ev rfl)) rfl ?_; intro f h
    refine s_pure h (ru_val (.bool true) (ru_eql_nilS Try.underlying22 (h.ev rfl) (h.ev rfl)) (congrArg Value.bool hn)) rfl ?_; intro f h
    refine s_nil ?_
    refine hK3 _ _ ?_
    refine wpIn_cond_true (h.ev rfl) ?_
    refine c_seq fun K5 hK5 => ?_
    refine c_region ?_
    refine s_pure h (ru_assign (h.ev rfl)) rfl ?_; intro f h
    refine s_nil ?_
    refine hK5 _ _ ?_
    refine wpIn_ret ?_
    refine t_ret ?_
    exact e_tmp rfl h s rfl (by obtain rfl := clone_nil hn hR; exact owns_nil _ _ _ _)

theorem clone_any (l : List Lt) (hln : l.length ≤ 1000) (v9 : Value) (w : World) (hR : RdZ w v9 4 l.length (ltCells l)) : Calls Try.prog 21 [v9].toArray w (Ret w (fun v w' => Owns w' w.heap.size 35 4 v l.length (ltCells l))) := by
  obtain ⟨a, c, rfl⟩ := hR.len
  exact clone_ok l hln a _ c w hR

theorem behind_any (m : Ml) (v9 : Value) (x : Lt) (w : World) (hR : RdZ w v9 4 m.l.length (ltCells m.l)) (hln : m.l.length ≤ 1000) : Calls Try.prog 20 [.agg (mlArr m v9), .agg (ltArr x)].toArray w (Ret w (OneP 35 w.heap.size { m with l := m.l ++ [x] })) := by
  refine c_enter Try.func20 rfl Try.ntmps20 rfl [(0, .agg (mlArr m v9)), (1, .agg (ltArr x))] (by simp) fun f h => ?_
  have s := St.start w
  refine c_seq fun K1 hK1 => ?_
  refine c_region ?_
  refine s_box ((mlArr m v9)) h s rfl rfl rfl ?_; intro f w1 b2 h s
  refine s_box ((ltArr x)) h s rfl rfl rfl ?_; intro f w1 b3 h s
  refine s_alloc (mlArr zMl (.slice none 0 0)) h s zero24 rfl rfl ?_; intro f w1 b4 h s
  refine s_nil ?_
  refine hK1 _ _ ?_
  refine c_seq fun K2 hK2 => ?_
  have hbs := s.ext.le
  refine' c_reg2 5 [0, 6] [] [[], [0], [0, 1], [], [3], [0, 1, 2, 3, 4], [0, 1, 2, 3, 4, 5], [0, 1, 2, 3, 4, 5, 6]] (is _ :: is _ :: (fun v w9 => Owns w9 w1.heap.size 35 4 v m.l.length (ltCells m.l)) :: is _ :: (fun v w9 => RdZ w9 v 4 1 ((ltArr x).toList)) :: is undef :: is _ :: is undef :: []) (fun _ => True) h s (by kernel_rfl) (by kernel_rfl) (by kernel_rfl) (by kernel_rfl) rfl (fun _ _ h _ => h) (trivial) ⟨⟨_, rfl⟩, ⟨_, rfl⟩, trivial⟩ ⟨is_mono _, is_mono _, ownsM _ _ _ _ _, is_mono _, RdZ.mono, is_mono _, is_mono _, is_mono _, trivial⟩ (And.intro ?_ (And.intro ?_ (And.intro ?_ (And.intro ?_ (And.intro ?_ (And.intro ?_ (And.intro ?_ (And.intro ?_ (trivial))))))))) ?_
  rotate_left 4
  · refine obH_in 5 rfl (by decide) ?_
    intro f9 w2 hE hs hl
    have e2 : f9.tmps.getD 2 undef = _ := sx_old hl 2 (by kernel_rfl) (by kernel_rfl) (h.holds 2 _ rfl)
    have h := fin_slot [(2, _)] hs rfl (holds_lk ⟨e2, trivial⟩)
    refine s_pure h (ru_field fld24_0 (h.ev rfl)) rfl ?_; intro f h
    refine s_nil ?_
    have e9 := h.holds 5 _ rfl
    refine ⟨?_, rfl⟩
    refine e9.trans ?_
    exact rfl
  · refine obF_in 6 rfl (by decide) (by decide) ?_
    intro f9 w2 hE hs hd9 hl
    have e5 : f9.tmps.getD 5 undef = _ := sx_get hl 5 0 (by kernel_rfl) (by kernel_rfl)
    have h := fin_slot [(5, _)] hs hd9 (holds_lk ⟨e5, trivial⟩)
    have s := s.more hE
    have z := St.start w2
    refine s_load_at1 (cell_of_has (Has.of_own s 2 rfl) 0 (rfl)) h one22 rfl rfl ?_; intro f h
    refine s_nil ?_
    have e9 := h.holds 6 _ rfl
    refine ⟨?_, Ext.refl _, fun h9 => absurd h9 (by decide)⟩
    refine e9.trans ?_
    exact rfl
  · refine obF_in 7 rfl (by decide) (by decide) ?_
    intro f9 w2 hE hs hd9 hl
    have e6 : f9.tmps.getD 6 undef = _ := sx_get hl 6 1 (by kernel_rfl) (by kernel_rfl)
    have h := fin_slot [(6, _)] hs hd9 (holds_lk ⟨e6, trivial⟩)
    have s := s.more hE
    have z := St.start w2
    refine s_call h s fnc21 (clone_any m.l hln v9 _ (hR.keep s.ext)) rfl rfl ?_; intro f w3 v3 hT9 hE3 h s
    refine s_nil ?_
    exact ⟨by rw [h.holds 7 _ rfl]; exact hT9.low hE.le, hE3, fun h9 => absurd h9 (by decide)⟩
  · refine obF_in 8 rfl (by decide) (by decide) ?_
    intro f9 w2 hE hs hd9 hl
    have e3 : f9.tmps.getD 3 undef = _ := sx_old hl 3 (by kernel_rfl) (by kernel_rfl) (h.holds 3 _ rfl)
    have h := fin_slot [(3, _)] hs hd9 (holds_lk ⟨e3, trivial⟩)
    have s := s.more hE
    have z := St.start w2
    refine s_load_row 1 h s row35 rfl rfl (rfl) rfl ?_; intro f h
    refine s_nil ?_
    have e9 := h.holds 8 _ rfl
    refine ⟨?_, Ext.refl _, fun h9 => absurd h9 (by decide)⟩
    refine e9.trans ?_
    exact rfl
  · refine obF_in 9 rfl (by decide) (by decide) ?_
    intro f9 w2 hE hs hd9 hl
    have e8 : f9.tmps.getD 8 undef = _ := sx_get hl 8 3 (by kernel_rfl) (by kernel_rfl)
    have h := fin_slot [(8, _)] hs hd9 (holds_lk ⟨e8, trivial⟩)
    have s := s.more hE
    have z := St.start w2
    refine s_bslice (vs := [.agg (ltArr x)]) [.tmp 8] h z Try.underlying22 elm35 rfl rfl (one_lt_size _) rfl rfl rfl ?_; intro f w1 v9 h z
    refine s_nil ?_
    exact kf_rd (h.holds 9 _ rfl) z _ (one_lt _)
  · exact obT_in (by decide) (by decide)
  · refine obH_in 11 rfl (by decide) ?_
    intro f9 w2 hE hs hl
    have e2 : f9.tmps.getD 2 undef = _ := sx_old hl 2 (by kernel_rfl) (by kernel_rfl) (h.holds 2 _ rfl)
    have h := fin_slot [(2, _)] hs rfl (holds_lk ⟨e2, trivial⟩)
    refine s_pure h (ru_field fld24_0 (h.ev rfl)) rfl ?_; intro f h
    refine s_nil ?_
    have e9 := h.holds 11 _ rfl
    refine ⟨?_, rfl⟩
    refine e9.trans ?_
    exact rfl
  · exact obT_in (by decide) (by decide)
  · intro f9 w2 hE hs hd9 hWp hT hR hFr hDj
    obtain ⟨u7, hu7⟩ : ∃ v, f9.tmps.getD 7 undef = v := ⟨_, rfl⟩
    have e7 : (fun v w9 => Owns w9 w1.heap.size 35 4 v m.l.length (ltCells m.l)) u7 w2 := by rw [← hu7]; exact hT 2 7 (by decide) rfl
    obtain ⟨u9, hu9⟩ : ∃ v, f9.tmps.getD 9 undef = v := ⟨_, rfl⟩
    have e9 : (fun v w9 => RdZ w9 v 4 1 ((ltArr x).toList)) u9 w2 := by rw [← hu9]; exact hT 4 9 (by decide) rfl
    replace h := sl_new (ops := _) [(5, _), (6, _), (7, u7), (8, _), (9, u9), (11, _)] h hs hd9 hR ⟨hT 0 5 (by decide) rfl, hT 1 6 (by decide) rfl, hu7, hT 3 8 (by decide) rfl, hu9, hT 6 11 (by decide) rfl, trivial⟩ (by kernel_rfl)
    replace s := s.sl_new hE e7
    clear hT hR hFr hDj
    refine LstW.of ?_
    refine s_append_rd 0 (e9) h s Try.underlying22 elm35 rfl rfl rfl (ltArr_ones x) (by unfold maxLen; omega) (by omega) rfl ?_; intro f w1 v10 h s
    replace s := s.resl (m := (m.l ++ [x]).length) (ys := ltCells (m.l ++ [x])) 0 rfl (by rw [List.length_append]; rfl) (cells_snoc _ _)
    refine s_store_one 3 h s one22 rfl rfl rfl (by show _ < 3; decide) (own_one (s.getSl 0 rfl)) ?_; intro w1 s
    replace s := s.recell (D := mlArr { m with l := m.l ++ [x] } v10) 3 rfl rfl
    refine s_nil ?_
    refine hK2 _ _ ?_
    refine c_seq fun K3 hK3 => ?_
    refine c_region ?_
    refine s_load_row 3 h s row24 rfl rfl (rfl) rfl ?_; intro f h
    refine s_store_row 1 h s row24 rfl rfl rfl (rfl) (rfl) (mlArr_ones _ _ (own_one (s.getSl 0 rfl))) ?_; intro w1 s
    refine s_nil ?_
    refine hK3 _ _ ?_
    refine wpIn_ret ?_
    exact e_row 1 rfl h s row24 rfl rfl (rfl) (⟨v10, rfl, (s.getSl 0 rfl)⟩)

theorem take_any (m : Ml) (v9 : Value) (p : Int) (w : World) (hR : RdZ w v9 4 m.l.length (ltCells m.l)) (hln : m.l.length ≤ 1000) : Calls Try.prog 14 [.agg (mlArr m v9), .int .i64 p].toArray w (Ret w (TakeP 35 w.heap.size m p)) := by
  refine c_enter Try.func14 rfl Try.ntmps14 rfl [(0, .agg (mlArr m v9)), (1, .int .i64 p)] (by simp) fun f h => ?_
  have s := St.start w
  refine c_seq fun K1 hK1 => ?_
  refine c_region ?_
  refine s_box ((mlArr m v9)) h s rfl rfl rfl ?_; intro f w1 b2 h s
  refine s_alloc (mlArr zMl (.slice none 0 0)) h s zero24 rfl rfl ?_; intro f w1 b4 h s
  refine s_alloc (ltArr zLt) h s zero35 rfl rfl ?_; intro f w1 b5 h s
  refine s_pure h (ru_assign (h.ev rfl)) rfl ?_; intro f h
  refine s_nil ?_
  refine hK1 _ _ ?_
  refine c_seq fun K2 hK2 => ?_
  refine c_region ?_
  refine s_load_row 2 h s row24 rfl rfl (rfl) rfl ?_; intro f h
  refine s_pure h (ru_move (h.ev rfl)) rfl ?_; intro f h
  refine s_call h s fnc24 (at_any m v9 p _ (hR.keep s.ext) hln) rfl rfl ?_; intro f w1 v9 hT hE h s; obtain rfl := hT
  refine s_pure h (ru_move (h.ev rfl)) rfl ?_; intro f h
  refine s_pure h (ru_extract (h.ev rfl) rfl) rfl ?_; intro f h
  refine s_pure h (ru_extract (h.ev rfl) rfl) rfl ?_; intro f h
  refine s_alloc (ltArr zLt) h s zero35 rfl rfl ?_; intro f w1 b7 h s
  refine s_store_row 0 h s row35 rfl rfl rfl (rfl) (rfl) (ltArr_ones _) ?_; intro w1 s
  refine s_pure h (ru_assign (h.ev rfl)) rfl ?_; intro f h
  refine s_nil ?_
  refine hK2 _ _ ?_
  refine c_seq fun K3 hK3 => ?_
  refine c_seq fun K4 hK4 => ?_
  refine c_region ?_
  refine s_pure h (ru_move (h.ev rfl)) rfl ?_; intro f h
  refine s_pure h (ru_neq (h.ev rfl) (h.ev rfl)) rfl ?_; intro f h
  refine s_nil ?_
  refine hK4 _ _ ?_
  refine c_cond h rfl (fun hc => ?_) (fun hc => ?_)
  · replace hc := of_decide_eq_true hc
    refine c_seq fun K5 hK5 => ?_
    refine c_region ?_
    refine s_pure h (ru_build_ml0 sttM) rfl ?_; intro f h
    refine s_pure h (ru_build_lt0 sttL) rfl ?_; intro f h
    refine s_pure h (ru_move (h.ev rfl)) rfl ?_; intro f h
    refine s_store_row 2 h s row24 rfl rfl rfl (rfl) (rfl) (mlArr_ones _ _ rfl) ?_; intro w1 s
    refine s_store_row 1 h s row35 rfl rfl rfl (rfl) (rfl) (ltArr_ones _) ?_; intro w1 s
    refine s_pure h (ru_assign (h.ev rfl)) rfl ?_; intro f h
    refine s_nil ?_
    refine hK5 _ _ ?_
    refine wpIn_ret ?_
    refine t_ret ?_
    exact e_row2_tmp 2 1 rfl h s row24 row35 rfl rfl rfl rfl (rfl) (rfl) rfl (take_fno hc)
  · have h0 : atE m p = 0 := by have := of_decide_eq_false hc; omega
    obtain ⟨hr1, hp0, hp1⟩ := at_ok h0
    refine wpIn_skip ?_
    refine hK3 _ _ ?_
    refine c_seq fun K6 hK6 => ?_
    have hbs := s.ext.le
    refine' c_reg2 3 [1, 3, 6] [] [[], [], [0, 1], [], [0, 1, 2], [0, 1, 2, 3, 4], [0, 1, 2, 3, 4, 5]] (is _ :: is _ :: (OneP 35 w1.heap.size ({ m with l := m.l.eraseIdx p.toNat })) :: is _ :: is undef :: is undef :: is _ :: []) (fun w9 => w9.heap[b7]? = some (.cells (ltArr (atL m p)) 35)) h s (by kernel_rfl) (by kernel_rfl) (by kernel_rfl) (by kernel_rfl) rfl (fun _ _ h9 hE => heap_keep h9 hE) (s.get 0 rfl) ⟨⟨_, rfl⟩, ⟨_, rfl⟩, ⟨_, rfl⟩, trivial⟩ ⟨is_mono _, is_mono _, OneP.mono _ _ _, is_mono _, is_mono _, is_mono _, is_mono _, trivial⟩ (And.intro ?_ (And.intro ?_ (And.intro ?_ (And.intro ?_ (And.intro ?_ (And.intro ?_ (And.intro ?_ (trivial)))))))) ?_
    rotate_left 4
    · refine obF_in 20 rfl (by decide) (by decide) ?_
      intro f9 w2 hE hs hd9 hl
      have e2 : f9.tmps.getD 2 undef = _ := sx_old hl 2 (by kernel_rfl) (by kernel_rfl) (h.holds 2 _ rfl)
      have h := fin_slot [(2, _)] hs hd9 (holds_lk ⟨e2, trivial⟩)
      have s := s.more hE
      have z := St.start w2
      refine s_load_row 3 h s row24 rfl rfl (rfl) rfl ?_; intro f h
      refine s_nil ?_
      have e9 := h.holds 20 _ rfl
      refine ⟨?_, Ext.refl _, fun h9 => absurd h9 (by decide)⟩
      refine e9.trans ?_
      exact rfl
    · refine obH_in 21 rfl (by decide) ?_
      intro f9 w2 hE hs hl
      have e1 : f9.tmps.getD 1 undef = _ := sx_old hl 1 (by kernel_rfl) (by kernel_rfl) (h.holds 1 _ rfl)
      have h := fin_slot [(1, _)] hs rfl (holds_lk ⟨e1, trivial⟩)
      refine s_pure h (ru_move (h.ev rfl)) rfl ?_; intro f h
      refine s_nil ?_
      have e9 := h.holds 21 _ rfl
      refine ⟨?_, rfl⟩
      refine e9.trans ?_
      exact rfl
    · refine obF_in 22 rfl (by decide) (by decide) ?_
      intro f9 w2 hE hs hd9 hl
      have e20 : f9.tmps.getD 20 undef = _ := sx_get hl 20 0 (by kernel_rfl) (by kernel_rfl)
      have e21 : f9.tmps.getD 21 undef = _ := sx_get hl 21 1 (by kernel_rfl) (by kernel_rfl)
      have h := fin_slot [(20, _), (21, _)] hs hd9 (holds_lk ⟨e20, e21, trivial⟩)
      have s := s.more hE
      have z := St.start w2
      refine s_call h s fnc25 (without_any m v9 p hp0 _ (hR.keep s.ext) hln) rfl rfl ?_; intro f w3 v3 hT9 hE3 h s
      refine s_nil ?_
      exact ⟨by rw [h.holds 22 _ rfl]; exact hT9.low hE.le, hE3, fun h9 => absurd h9 (by decide)⟩
    · refine obH_in 23 rfl (by decide) ?_
      intro f9 w2 hE hs hl
      have e7 : f9.tmps.getD 7 undef = _ := sx_old hl 7 (by kernel_rfl) (by kernel_rfl) (h.holds 7 _ rfl)
      have h := fin_slot [(7, _)] hs rfl (holds_lk ⟨e7, trivial⟩)
      refine s_load_at (Has.of_blk hE) h row35 rfl rfl rfl ?_; intro f h
      refine s_nil ?_
      have e9 := h.holds 23 _ rfl
      refine ⟨?_, rfl⟩
      refine e9.trans ?_
      exact rfl
    · exact obT_in (by decide) (by decide)
    · exact obT_in (by decide) (by decide)
    · refine obH_in 6 rfl (by decide) ?_
      intro f9 w2 hE hs hl
      have h := fin_slot [] hs rfl (holds_lk trivial)
      refine s_pure h (ru_assign (h.ev rfl)) rfl ?_; intro f h
      refine s_nil ?_
      have e9 := h.holds 6 _ rfl
      refine ⟨?_, rfl⟩
      refine e9.trans ?_
      exact rfl
    · intro f9 w2 hE hs hd9 hWp hT hR hFr hDj
      obtain ⟨u22, hu22⟩ : ∃ v, f9.tmps.getD 22 undef = v := ⟨_, rfl⟩
      have e22 : (OneP 35 w1.heap.size ({ m with l := m.l.eraseIdx p.toNat })) u22 w2 := by rw [← hu22]; exact hT 2 22 (by decide) rfl
      replace h := sl_new (ops := _) [(20, _), (21, _), (22, u22), (23, _), (6, _)] h hs hd9 hR ⟨hT 0 20 (by decide) rfl, hT 1 21 (by decide) rfl, hu22, hT 3 23 (by decide) rfl, hT 6 6 (by decide) rfl, trivial⟩ (by kernel_rfl)
      obtain ⟨vx, hvvx, hOvx⟩ := e22
      subst hvvx
      replace s := s.sl_new hE hOvx
      clear hT hR hFr hDj
      refine LstW.cons ?_
      refine s_store_row 3 h s row24 rfl rfl rfl (rfl) (rfl) (mlArr_ones _ _ (own_one (s.getSl 0 rfl))) ?_; intro w1 s
      refine s_nil ⟨s.get 1 rfl, ?_⟩
      refine LstW.cons ?_
      refine s_store_row 2 h s row35 rfl rfl rfl (rfl) (rfl) (ltArr_ones _) ?_; intro w1 s
      refine s_nil ⟨s.get 1 rfl, ?_⟩
      refine LstW.nil ?_
      refine hK6 _ _ ?_
      refine wpIn_ret ?_
      exact e_row2_tmp 3 2 rfl h s row24 row35 rfl rfl rfl rfl (rfl) (rfl) rfl (take_fok h0 (s.getSl 0 rfl))

theorem twice_any (m : Ml) (v9 : Value) (p : Int) (w : World) (hR : RdZ w v9 4 m.l.length (ltCells m.l)) (hln : m.l.length ≤ 1000) : Calls Try.prog 15 [.agg (mlArr m v9), .int .i64 p].toArray w (Ret w (MailP 35 w.heap.size (twM m p) (twE m p))) := by
  refine c_enter Try.func15 rfl Try.ntmps15 rfl [(0, .agg (mlArr m v9)), (1, .int .i64 p)] (by simp) fun f h => ?_
  have s := St.start w
  refine c_seq fun K1 hK1 => ?_
  refine c_region ?_
  refine s_box ((mlArr m v9)) h s rfl rfl rfl ?_; intro f w1 b2 h s
  refine s_alloc (mlArr zMl (.slice none 0 0)) h s zero24 rfl rfl ?_; intro f w1 b4 h s
  refine s_pure h (ru_assign (h.ev rfl)) rfl ?_; intro f h
  refine s_nil ?_
  refine hK1 _ _ ?_
  refine c_seq fun K2 hK2 => ?_
  refine c_region ?_
  refine s_load_row 1 h s row24 rfl rfl (rfl) rfl ?_; intro f h
  refine s_pure h (ru_move (h.ev rfl)) rfl ?_; intro f h
  refine s_call h s fnc24 (at_any m v9 p _ (hR.keep s.ext) hln) rfl rfl ?_; intro f w1 v9 hT hE h s; obtain rfl := hT
  refine s_pure h (ru_move (h.ev rfl)) rfl ?_; intro f h
  refine s_pure h (ru_extract (h.ev rfl) rfl) rfl ?_; intro f h
  refine s_pure h (ru_extract (h.ev rfl) rfl) rfl ?_; intro f h
  refine s_alloc (ltArr zLt) h s zero35 rfl rfl ?_; intro f w1 b6 h s
  refine s_store_row 0 h s row35 rfl rfl rfl (rfl) (rfl) (ltArr_ones _) ?_; intro w1 s
  refine s_pure h (ru_assign (h.ev rfl)) rfl ?_; intro f h
  refine s_nil ?_
  refine hK2 _ _ ?_
  refine c_seq fun K3 hK3 => ?_
  refine c_seq fun K4 hK4 => ?_
  refine c_region ?_
  refine s_pure h (ru_move (h.ev rfl)) rfl ?_; intro f h
  refine s_pure h (ru_neq (h.ev rfl) (h.ev rfl)) rfl ?_; intro f h
  refine s_nil ?_
  refine hK4 _ _ ?_
  refine c_cond h rfl (fun hc => ?_) (fun hc => ?_)
  · replace hc := of_decide_eq_true hc
    refine c_seq fun K5 hK5 => ?_
    refine c_region ?_
    refine s_pure h (ru_build_ml0 sttM) rfl ?_; intro f h
    refine s_pure h (ru_move (h.ev rfl)) rfl ?_; intro f h
    refine s_store_row 1 h s row24 rfl rfl rfl (rfl) (rfl) (mlArr_ones _ _ rfl) ?_; intro w1 s
    refine s_pure h (ru_assign (h.ev rfl)) rfl ?_; intro f h
    refine s_nil ?_
    refine hK5 _ _ ?_
    refine wpIn_ret ?_
    refine t_ret ?_
    exact e_row_tmp 1 rfl h s row24 rfl rfl (rfl) rfl (mail_no (twM_no hc) (twE_no hc))
  · have h0 : atE m p = 0 := by have := of_decide_eq_false hc; omega
    obtain ⟨hr1, hp0, hp1⟩ := at_ok h0
    refine wpIn_skip ?_
    refine hK3 _ _ ?_
    refine c_seq fun K6 hK6 => ?_
    refine c_seq fun K7 hK7 => ?_
    cases hf : (decide (m.l.length = 64) : Bool)
    · skip
      refine c_region ?_
      refine s_load_row 2 h s row24 rfl rfl (rfl) rfl ?_; intro f h
      refine s_call h s fnc19 (ret_val (.bool false) (full_any m v9 _ (hR.keep s.ext) hln) (congrArg Value.bool hf)) rfl rfl ?_; intro f w1 v9 hT hE h s; obtain rfl := hT
      refine s_nil ?_
      refine hK7 _ _ ?_
      refine wpIn_cond_false (h.ev rfl) ?_
      refine wpIn_skip ?_
      refine hK6 _ _ ?_
      refine c_seq fun K8 hK8 => ?_
      refine c_region ?_
      refine s_load_row 2 h s row24 rfl rfl (rfl) rfl ?_; intro f h
      refine s_load_row 0 h s row35 rfl rfl (rfl) rfl ?_; intro f h
      refine s_call h s fnc20 (behind_any m v9 (atL m p) _ (hR.keep s.ext) hln) rfl rfl ?_; rintro f w1 v23 ⟨vx, rfl, hvx⟩ hE h sq
      replace s := s.sl_new hE hvx
      refine s_store_row 2 h s row24 rfl rfl rfl (rfl) (rfl) (mlArr_ones _ _ (own_one (s.getSl 0 rfl))) ?_; intro w1 s
      refine s_pure h (ru_assign (h.ev rfl)) rfl ?_; intro f h
      refine s_nil ?_
      refine hK8 _ _ ?_
      refine wpIn_ret ?_
      exact e_row_tmp 2 rfl h s row24 rfl rfl (rfl) rfl (mail_ok (twM_ok h0 hf) (twE_ok h0 hf) (s.getSl 0 rfl))
    · skip
      refine c_region ?_
      refine s_load_row 2 h s row24 rfl rfl (rfl) rfl ?_; intro f h
      refine s_call h s fnc19 (ret_val (.bool true) (full_any m v9 _ (hR.keep s.ext) hln) (congrArg Value.bool hf)) rfl rfl ?_; intro f w1 v9 hT hE h s; obtain rfl := hT
      refine s_nil ?_
      refine hK7 _ _ ?_
      refine wpIn_cond_true (h.ev rfl) ?_
      refine c_seq fun K9 hK9 => ?_
      refine c_region ?_
      refine s_pure h (ru_build_ml0 sttM) rfl ?_; intro f h
      refine s_store_row 1 h s row24 rfl rfl rfl (rfl) (rfl) (mlArr_ones _ _ rfl) ?_; intro w1 s
      refine s_pure h (ru_assign (h.ev rfl)) rfl ?_; intro f h
      refine s_nil ?_
      refine hK9 _ _ ?_
      refine wpIn_ret ?_
      refine t_ret ?_
      exact e_row_tmp 1 rfl h s row24 rfl rfl (rfl) rfl (mail_no (twM_full h0 hf) (twE_full h0 hf))

theorem lose_any (m : Ml) (v9 : Value) (p : Int) (w : World) (hR : RdZ w v9 4 m.l.length (ltCells m.l)) (hln : m.l.length ≤ 1000) : Calls Try.prog 16 [.agg (mlArr m v9), .int .i64 p].toArray w (Ret w (MailP 35 w.heap.size (takeM m p) (atE m p))) := by
  refine c_enter Try.func16 rfl Try.ntmps16 rfl [(0, .agg (mlArr m v9)), (1, .int .i64 p)] (by simp) fun f h => ?_
  have s := St.start w
  refine c_seq fun K1 hK1 => ?_
  refine c_region ?_
  refine s_box ((mlArr m v9)) h s rfl rfl rfl ?_; intro f w1 b2 h s
  refine s_alloc (mlArr zMl (.slice none 0 0)) h s zero24 rfl rfl ?_; intro f w1 b4 h s
  refine s_pure h (ru_assign (h.ev rfl)) rfl ?_; intro f h
  refine s_nil ?_
  refine hK1 _ _ ?_
  refine c_seq fun K2 hK2 => ?_
  refine c_region ?_
  refine s_load_row 1 h s row24 rfl rfl (rfl) rfl ?_; intro f h
  refine s_pure h (ru_move (h.ev rfl)) rfl ?_; intro f h
  refine s_call h s fnc14 (take_any m v9 p _ (hR.keep s.ext) hln) rfl rfl ?_; rintro f w1 v12 ⟨vx, rfl, hvx⟩ hE h sq
  replace s := s.sl_new hE hvx
  refine s_pure h (ru_move (h.ev rfl)) rfl ?_; intro f h
  refine s_pure h (ru_extract (h.ev rfl) rfl) rfl ?_; intro f h
  refine s_pure h (ru_extract (h.ev rfl) rfl) rfl ?_; intro f h
  refine s_pure h (ru_extract (h.ev rfl) rfl) rfl ?_; intro f h
  refine s_alloc (mlArr zMl (.slice none 0 0)) h s zero24 rfl rfl ?_; intro f w1 b6 h s
  refine s_alloc (ltArr zLt) h s zero35 rfl rfl ?_; intro f w1 b7 h s
  refine s_store_row 1 h s row24 rfl rfl rfl (rfl) (rfl) (mlArr_ones _ _ (own_one (s.getSl 2 rfl))) ?_; intro w1 s
  refine s_store_row 0 h s row35 rfl rfl rfl (rfl) (rfl) (ltArr_ones _) ?_; intro w1 s
  refine s_pure h (ru_assign (h.ev rfl)) rfl ?_; intro f h
  refine s_nil ?_
  refine hK2 _ _ ?_
  refine c_seq fun K3 hK3 => ?_
  refine c_region ?_
  refine s_load_row 1 h s row24 rfl rfl (rfl) rfl ?_; intro f h
  refine s_pure h (ru_move (h.ev rfl)) rfl ?_; intro f h
  refine s_store_row 3 h s row24 rfl rfl rfl (rfl) (rfl) (mlArr_ones _ _ (own_one (s.getSl 2 rfl))) ?_; intro w1 s
  refine s_pure h (ru_assign (h.ev rfl)) rfl ?_; intro f h
  refine s_nil ?_
  refine hK3 _ _ ?_
  refine wpIn_ret ?_
  exact e_row_tmp 3 rfl h s row24 rfl rfl (rfl) rfl (mail_ok rfl rfl (s.getSl 2 rfl))

theorem last_any (m : Ml) (v9 : Value) (p : Int) (w : World) (hR : RdZ w v9 4 m.l.length (ltCells m.l)) (hln : m.l.length ≤ 1000) : Calls Try.prog 17 [.agg (mlArr m v9), .int .i64 p].toArray w (Ret w (MailP 35 w.heap.size (lastM m p) (atE m p))) := by
  refine c_enter Try.func17 rfl Try.ntmps17 rfl [(0, .agg (mlArr m v9)), (1, .int .i64 p)] (by simp) fun f h => ?_
  have s := St.start w
  refine c_seq fun K1 hK1 => ?_
  refine c_region ?_
  refine s_box ((mlArr m v9)) h s rfl rfl rfl ?_; intro f w1 b2 h s
  refine s_alloc (mlArr zMl (.slice none 0 0)) h s zero24 rfl rfl ?_; intro f w1 b4 h s
  refine s_pure h (ru_assign (h.ev rfl)) rfl ?_; intro f h
  refine s_nil ?_
  refine hK1 _ _ ?_
  refine c_seq fun K2 hK2 => ?_
  refine c_region ?_
  refine s_load_row 1 h s row24 rfl rfl (rfl) rfl ?_; intro f h
  refine s_pure h (ru_move (h.ev rfl)) rfl ?_; intro f h
  refine s_call h s fnc14 (take_any m v9 p _ (hR.keep s.ext) hln) rfl rfl ?_; rintro f w1 v12 ⟨vx, rfl, hvx⟩ hE h sq
  replace s := s.sl_new hE hvx
  refine s_pure h (ru_move (h.ev rfl)) rfl ?_; intro f h
  refine s_pure h (ru_extract (h.ev rfl) rfl) rfl ?_; intro f h
  refine s_pure h (ru_extract (h.ev rfl) rfl) rfl ?_; intro f h
  refine s_pure h (ru_extract (h.ev rfl) rfl) rfl ?_; intro f h
  refine s_alloc (mlArr zMl (.slice none 0 0)) h s zero24 rfl rfl ?_; intro f w1 b6 h s
  refine s_alloc (ltArr zLt) h s zero35 rfl rfl ?_; intro f w1 b7 h s
  refine s_store_row 1 h s row24 rfl rfl rfl (rfl) (rfl) (mlArr_ones _ _ (own_one (s.getSl 2 rfl))) ?_; intro w1 s
  refine s_store_row 0 h s row35 rfl rfl rfl (rfl) (rfl) (ltArr_ones _) ?_; intro w1 s
  refine s_pure h (ru_assign (h.ev rfl)) rfl ?_; intro f h
  refine s_nil ?_
  refine hK2 _ _ ?_
  refine c_seq fun K3 hK3 => ?_
  refine c_seq fun K4 hK4 => ?_
  refine c_region ?_
  refine s_pure h (ru_move (h.ev rfl)) rfl ?_; intro f h
  refine s_pure h (ru_neq (h.ev rfl) (h.ev rfl)) rfl ?_; intro f h
  refine s_nil ?_
  refine hK4 _ _ ?_
  refine c_cond h rfl (fun hc => ?_) (fun hc => ?_)
  · replace hc := of_decide_eq_true hc
    refine c_seq fun K5 hK5 => ?_
    refine c_region ?_
    refine s_pure h (ru_build_ml0 sttM) rfl ?_; intro f h
    refine s_pure h (ru_move (h.ev rfl)) rfl ?_; intro f h
    refine s_store_row 3 h s row24 rfl rfl rfl (rfl) (rfl) (mlArr_ones _ _ rfl) ?_; intro w1 s
    refine s_pure h (ru_assign (h.ev rfl)) rfl ?_; intro f h
    refine s_nil ?_
    refine hK5 _ _ ?_
    refine wpIn_ret ?_
    refine t_ret ?_
    exact e_row_tmp 3 rfl h s row24 rfl rfl (rfl) rfl (mail_no (lastM_no hc) rfl)
  · have h0 : atE m p = 0 := by have := of_decide_eq_false hc; omega
    obtain ⟨hr1, hp0, hp1⟩ := at_ok h0
    refine wpIn_skip ?_
    refine hK3 _ _ ?_
    refine c_seq fun K6 hK6 => ?_
    refine c_region ?_
    refine s_load_row 1 h s row24 rfl rfl (rfl) rfl ?_; intro f h
    refine s_load_row 0 h s row35 rfl rfl (rfl) rfl ?_; intro f h
    refine s_call h s fnc20 (behind_any (takeM m p) vx (atL m p) _ (RdZ.of_own (s.getSl 2 rfl)) (take_len p hln)) rfl rfl ?_; rintro f w1 v22 ⟨vy, rfl, hvy⟩ hE h sq
    replace s := s.sl_new hE hvy
    refine s_store_row 4 h s row24 rfl rfl rfl (rfl) (rfl) (mlArr_ones _ _ (own_one (s.getSl 0 rfl))) ?_; intro w1 s
    refine s_pure h (ru_assign (h.ev rfl)) rfl ?_; intro f h
    refine s_nil ?_
    refine hK6 _ _ ?_
    refine wpIn_ret ?_
    exact e_row_tmp 4 rfl h s row24 rfl rfl (rfl) rfl (mail_ok (last_take h0) h0 (s.getSl 0 rfl))

theorem post_any (m : Ml) (v9 : Value) (fr tt : Int) (dx : ByteArray) (w : World) (hR : RdZ w v9 4 m.l.length (ltCells m.l)) (hln : m.l.length ≤ 1000) : Calls Try.prog 8 [.agg (mlArr m v9), .int .i64 fr, .int .i64 tt, .string dx].toArray w (Ret w (PostP 35 w.heap.size m fr tt dx)) := by
  refine c_enter Try.func8 rfl Try.ntmps8 rfl [(0, .agg (mlArr m v9)), (1, .int .i64 fr), (2, .int .i64 tt), (3, .string dx)] (by simp) fun f h => ?_
  have s := St.start w
  refine c_seq fun K1 hK1 => ?_
  refine c_region ?_
  refine s_box ((mlArr m v9)) h s rfl rfl rfl ?_; intro f w1 b4 h s
  refine s_alloc (mlArr zMl (.slice none 0 0)) h s zero24 rfl rfl ?_; intro f w1 b8 h s
  refine s_pure h (ru_assign (h.ev rfl)) rfl ?_; intro f h
  refine s_pure h (ru_assign (h.ev rfl)) rfl ?_; intro f h
  refine s_nil ?_
  refine hK1 _ _ ?_
  refine c_seq fun K2 hK2 => ?_
  refine c_seq fun K3 hK3 => ?_
  cases hr : (rightL m : Bool)
  · skip
    refine c_region ?_
    refine s_load_row 1 h s row24 rfl rfl (rfl) rfl ?_; intro f h
    refine s_call h s fnc10 (ret_val (.bool false) (mright_any m v9 _ (hR.keep s.ext) hln) (congrArg Value.bool hr)) rfl rfl ?_; intro f w1 v9 hT hE h s; obtain rfl := hT
    refine s_pure h (ru_val (.bool true) (ru_not (h.ev rfl)) rfl) rfl ?_; intro f h
    refine s_pure h (ru_move (h.ev rfl)) rfl ?_; intro f h
    refine s_off (b := false) h rfl rfl rfl rfl ?_; intro f h
    refine s_off (b := false) h rfl rfl rfl rfl ?_; intro f h
    refine s_off (b := false) h rfl rfl rfl rfl ?_; intro f h
    refine s_pure h (ru_pick_t (h.ev rfl) (h.ev rfl)) rfl ?_; intro f h
    refine s_pure h (ru_move (h.ev rfl)) rfl ?_; intro f h
    refine s_off (b := false) h rfl rfl rfl rfl ?_; intro f h
    refine s_off (b := false) h rfl rfl rfl rfl ?_; intro f h
    refine s_off (b := false) h rfl rfl rfl rfl ?_; intro f h
    refine s_pure h (ru_pick_t (h.ev rfl) (h.ev rfl)) rfl ?_; intro f h
    refine s_nil ?_
    refine hK3 _ _ ?_
    refine wpIn_cond_true (h.ev rfl) ?_
    refine c_seq fun K4 hK4 => ?_
    refine c_region ?_
    refine s_pure h (ru_build_ml0 sttM) rfl ?_; intro f h
    refine s_store_row 0 h s row24 rfl rfl rfl (rfl) (rfl) (mlArr_ones _ _ rfl) ?_; intro w1 s
    refine s_pure h (ru_assign (h.ev rfl)) rfl ?_; intro f h
    refine s_pure h (ru_assign (h.ev rfl)) rfl ?_; intro f h
    refine s_nil ?_
    refine hK4 _ _ ?_
    refine wpIn_ret ?_
    refine t_ret ?_
    exact e_row_tmp2 0 rfl h s row24 rfl rfl (rfl) rfl rfl (post_no (postE_1 (by rw [hr]; rfl)) (by decide))
  · skip
    cases hf : (adr fr : Bool)
    · skip
      refine c_region ?_
      refine s_load_row 1 h s row24 rfl rfl (rfl) rfl ?_; intro f h
      refine s_call h s fnc10 (ret_val (.bool true) (mright_any m v9 _ (hR.keep s.ext) hln) (congrArg Value.bool hr)) rfl rfl ?_; intro f w1 v9 hT hE h s; obtain rfl := hT
      refine s_pure h (ru_val (.bool false) (ru_not (h.ev rfl)) rfl) rfl ?_; intro f h
      refine s_pure h (ru_move (h.ev rfl)) rfl ?_; intro f h
      refine s_on h rfl rfl rfl ?_
      refine s_pure h (ru_move (h.ev rfl)) rfl ?_; intro f h
      refine s_on h rfl rfl rfl ?_
      refine s_call h s fnc18 (ret_val (.bool false) (adr_any _ _) (congrArg Value.bool hf)) rfl rfl ?_; intro f w1 v9 hT hE h s; obtain rfl := hT
      refine s_on h rfl rfl rfl ?_
      refine s_pure h (ru_val (.bool true) (ru_not (h.ev rfl)) rfl) rfl ?_; intro f h
      refine s_pure h (ru_pick_f (h.ev rfl) (h.ev rfl)) rfl ?_; intro f h
      refine s_pure h (ru_move (h.ev rfl)) rfl ?_; intro f h
      refine s_off (b := false) h rfl rfl rfl rfl ?_; intro f h
      refine s_off (b := false) h rfl rfl rfl rfl ?_; intro f h
      refine s_off (b := false) h rfl rfl rfl rfl ?_; intro f h
      refine s_pure h (ru_pick_t (h.ev rfl) (h.ev rfl)) rfl ?_; intro f h
      refine s_nil ?_
      refine hK3 _ _ ?_
      refine wpIn_cond_true (h.ev rfl) ?_
      refine c_seq fun K5 hK5 => ?_
      refine c_region ?_
      refine s_pure h (ru_build_ml0 sttM) rfl ?_; intro f h
      refine s_store_row 0 h s row24 rfl rfl rfl (rfl) (rfl) (mlArr_ones _ _ rfl) ?_; intro w1 s
      refine s_pure h (ru_assign (h.ev rfl)) rfl ?_; intro f h
      refine s_pure h (ru_assign (h.ev rfl)) rfl ?_; intro f h
      refine s_nil ?_
      refine hK5 _ _ ?_
      refine wpIn_ret ?_
      refine t_ret ?_
      exact e_row_tmp2 0 rfl h s row24 rfl rfl (rfl) rfl rfl (post_no (postE_1 (by rw [hr, hf]; rfl)) (by decide))
    · skip
      cases ht : (adr tt : Bool)
      · skip
        refine c_region ?_
        refine s_load_row 1 h s row24 rfl rfl (rfl) rfl ?_; intro f h
        refine s_call h s fnc10 (ret_val (.bool true) (mright_any m v9 _ (hR.keep s.ext) hln) (congrArg Value.bool hr)) rfl rfl ?_; intro f w1 v9 hT hE h s; obtain rfl := hT
        refine s_pure h (ru_val (.bool false) (ru_not (h.ev rfl)) rfl) rfl ?_; intro f h
        refine s_pure h (ru_move (h.ev rfl)) rfl ?_; intro f h
        refine s_on h rfl rfl rfl ?_
        refine s_pure h (ru_move (h.ev rfl)) rfl ?_; intro f h
        refine s_on h rfl rfl rfl ?_
        refine s_call h s fnc18 (ret_val (.bool true) (adr_any _ _) (congrArg Value.bool hf)) rfl rfl ?_; intro f w1 v9 hT hE h s; obtain rfl := hT
        refine s_on h rfl rfl rfl ?_
        refine s_pure h (ru_val (.bool false) (ru_not (h.ev rfl)) rfl) rfl ?_; intro f h
        refine s_pure h (ru_pick_f (h.ev rfl) (h.ev rfl)) rfl ?_; intro f h
        refine s_pure h (ru_move (h.ev rfl)) rfl ?_; intro f h
        refine s_on h rfl rfl rfl ?_
        refine s_pure h (ru_move (h.ev rfl)) rfl ?_; intro f h
        refine s_on h rfl rfl rfl ?_
        refine s_call h s fnc18 (ret_val (.bool false) (adr_any _ _) (congrArg Value.bool ht)) rfl rfl ?_; intro f w1 v9 hT hE h s; obtain rfl := hT
        refine s_on h rfl rfl rfl ?_
        refine s_pure h (ru_val (.bool true) (ru_not (h.ev rfl)) rfl) rfl ?_; intro f h
        refine s_pure h (ru_pick_f (h.ev rfl) (h.ev rfl)) rfl ?_; intro f h
        refine s_nil ?_
        refine hK3 _ _ ?_
        refine wpIn_cond_true (h.ev rfl) ?_
        refine c_seq fun K6 hK6 => ?_
        refine c_region ?_
        refine s_pure h (ru_build_ml0 sttM) rfl ?_; intro f h
        refine s_store_row 0 h s row24 rfl rfl rfl (rfl) (rfl) (mlArr_ones _ _ rfl) ?_; intro w1 s
        refine s_pure h (ru_assign (h.ev rfl)) rfl ?_; intro f h
        refine s_pure h (ru_assign (h.ev rfl)) rfl ?_; intro f h
        refine s_nil ?_
        refine hK6 _ _ ?_
        refine wpIn_ret ?_
        refine t_ret ?_
        exact e_row_tmp2 0 rfl h s row24 rfl rfl (rfl) rfl rfl (post_no (postE_1 (by rw [hr, hf, ht]; rfl)) (by decide))
      · skip
        refine c_region ?_
        refine s_load_row 1 h s row24 rfl rfl (rfl) rfl ?_; intro f h
        refine s_call h s fnc10 (ret_val (.bool true) (mright_any m v9 _ (hR.keep s.ext) hln) (congrArg Value.bool hr)) rfl rfl ?_; intro f w1 v9 hT hE h s; obtain rfl := hT
        refine s_pure h (ru_val (.bool false) (ru_not (h.ev rfl)) rfl) rfl ?_; intro f h
        refine s_pure h (ru_move (h.ev rfl)) rfl ?_; intro f h
        refine s_on h rfl rfl rfl ?_
        refine s_pure h (ru_move (h.ev rfl)) rfl ?_; intro f h
        refine s_on h rfl rfl rfl ?_
        refine s_call h s fnc18 (ret_val (.bool true) (adr_any _ _) (congrArg Value.bool hf)) rfl rfl ?_; intro f w1 v9 hT hE h s; obtain rfl := hT
        refine s_on h rfl rfl rfl ?_
        refine s_pure h (ru_val (.bool false) (ru_not (h.ev rfl)) rfl) rfl ?_; intro f h
        refine s_pure h (ru_pick_f (h.ev rfl) (h.ev rfl)) rfl ?_; intro f h
        refine s_pure h (ru_move (h.ev rfl)) rfl ?_; intro f h
        refine s_on h rfl rfl rfl ?_
        refine s_pure h (ru_move (h.ev rfl)) rfl ?_; intro f h
        refine s_on h rfl rfl rfl ?_
        refine s_call h s fnc18 (ret_val (.bool true) (adr_any _ _) (congrArg Value.bool ht)) rfl rfl ?_; intro f w1 v9 hT hE h s; obtain rfl := hT
        refine s_on h rfl rfl rfl ?_
        refine s_pure h (ru_val (.bool false) (ru_not (h.ev rfl)) rfl) rfl ?_; intro f h
        refine s_pure h (ru_pick_f (h.ev rfl) (h.ev rfl)) rfl ?_; intro f h
        refine s_nil ?_
        refine hK3 _ _ ?_
        refine wpIn_cond_false (h.ev rfl) ?_
        refine wpIn_skip ?_
        refine hK2 _ _ ?_
        refine c_seq fun K7 hK7 => ?_
        refine c_seq fun K8 hK8 => ?_
        refine c_region ?_
        refine s_pure h (ru_move (h.ev rfl)) rfl ?_; intro f h
        refine s_pure h (ru_len_str Try.underlying9 (h.ev rfl)) rfl ?_; intro f h
        refine s_pure h (ru_gtr (h.ev rfl) (h.ev rfl)) rfl ?_; intro f h
        refine s_nil ?_
        refine hK8 _ _ ?_
        refine c_cond h rfl (fun hc => ?_) (fun hc => ?_)
        · replace hc := of_decide_eq_true hc
          have hb : (!rightL m || (!adr fr || !adr tt)) = false := by rw [hr, hf, ht]; rfl
          refine c_seq fun K9 hK9 => ?_
          refine c_region ?_
          refine s_pure h (ru_build_ml0 sttM) rfl ?_; intro f h
          refine s_store_row 0 h s row24 rfl rfl rfl (rfl) (rfl) (mlArr_ones _ _ rfl) ?_; intro w1 s
          refine s_pure h (ru_assign (h.ev rfl)) rfl ?_; intro f h
          refine s_pure h (ru_assign (h.ev rfl)) rfl ?_; intro f h
          refine s_nil ?_
          refine hK9 _ _ ?_
          refine wpIn_ret ?_
          refine t_ret ?_
          exact e_row_tmp2 0 rfl h s row24 rfl rfl (rfl) rfl rfl (post_no (postE_2 hb (by omega)) (by decide))
        · have hsz := of_decide_eq_false hc
          have hb : (!rightL m || (!adr fr || !adr tt)) = false := by rw [hr, hf, ht]; rfl
          refine wpIn_skip ?_
          refine hK7 _ _ ?_
          refine c_seq fun K10 hK10 => ?_
          refine c_seq fun K11 hK11 => ?_
          cases hu : (decide (m.l.length = 64) : Bool)
          · skip
            cases hv : (decide (m.last = 1099511627776) : Bool)
            · skip
              refine c_region ?_
              refine s_load_row 1 h s row24 rfl rfl (rfl) rfl ?_; intro f h
              refine s_call h s fnc19 (ret_val (.bool false) (full_any m v9 _ (hR.keep s.ext) hln) (congrArg Value.bool hu)) rfl rfl ?_; intro f w1 v9 hT hE h s; obtain rfl := hT
              refine s_pure h (ru_move (h.ev rfl)) rfl ?_; intro f h
              refine s_on h rfl rfl rfl ?_
              refine s_pure h (ru_field fld24_1 (h.ev rfl)) rfl ?_; intro f h
              refine s_on h rfl rfl rfl ?_
              refine s_load_at1 (cell_of_has (Has.of_own s 1 rfl) 1 (rfl)) h one3 rfl rfl ?_; intro f h
              refine s_on h rfl rfl rfl ?_
              refine s_pure h (ru_val (.bool false) (ru_eql (h.ev rfl) (h.ev rfl)) (congrArg Value.bool hv)) rfl ?_; intro f h
              refine s_pure h (ru_pick_f (h.ev rfl) (h.ev rfl)) rfl ?_; intro f h
              refine s_nil ?_
              refine hK11 _ _ ?_
              refine wpIn_cond_false (h.ev rfl) ?_
              refine wpIn_skip ?_
              refine hK10 _ _ ?_
              refine c_seq fun K12 hK12 => ?_
              refine c_region ?_
              refine s_pure h (ru_field fld24_1 (h.ev rfl)) rfl ?_; intro f h
              have hbd := ((right_iff m).1 hr).2.1
              refine s_load_at1 (cell_of_has (Has.of_own s 1 rfl) 1 (rfl)) h one3 rfl rfl ?_; intro f h
              refine s_pure h (ru_add (h.ev rfl) (h.ev rfl) (by omega)) rfl ?_; intro f h
              refine s_pure h (ru_field fld24_1 (h.ev rfl)) rfl ?_; intro f h
              refine s_store_one 1 h s one3 rfl rfl rfl (by show _ < 3; decide) (rfl) ?_; intro w1 s
              replace s := s.recell (D := mlArr { m with last := m.last + 1 } v9) 1 rfl rfl
              refine s_nil ?_
              refine hK12 _ _ ?_
              refine c_seq fun K13 hK13 => ?_
              have hbs := s.ext.le
              refine' c_reg2 8 [1, 3, 4, 5, 8, 9, 11, 12] [] [[], [], [1], [], [], [], [1, 2, 3, 4, 5], [0, 1, 2, 3, 4, 5, 6], [], [8], [0, 1, 2, 3, 4, 5, 6, 7], [0, 1, 2, 3, 4, 5, 6, 7, 8, 9, 10], [0, 1, 2, 3, 4, 5, 6, 7, 8, 9, 10, 11]] (is _ :: is _ :: is _ :: is _ :: is _ :: is _ :: is _ :: (OneP 35 w1.heap.size (⟨m.l ++ [(m.last + 1, fr, tt, dx)], m.last + 1, m.now⟩)) :: is _ :: is _ :: is undef :: is _ :: is _ :: []) (fun w9 => w9.heap[b4]? = some (.cells (mlArr { m with last := m.last + 1 } v9) 24)) h s (by kernel_rfl) (by kernel_rfl) (by kernel_rfl) (by kernel_rfl) rfl (fun _ _ h9 hE => heap_keep h9 hE) (s.get 1 rfl) ⟨⟨_, rfl⟩, ⟨_, rfl⟩, ⟨_, rfl⟩, ⟨_, rfl⟩, ⟨_, rfl⟩, ⟨_, rfl⟩, ⟨_, rfl⟩, ⟨_, rfl⟩, trivial⟩ ⟨is_mono _, is_mono _, is_mono _, is_mono _, is_mono _, is_mono _, is_mono _, OneP.mono _ _ _, is_mono _, is_mono _, is_mono _, is_mono _, is_mono _, trivial⟩ (And.intro ?_ (And.intro ?_ (And.intro ?_ (And.intro ?_ (And.intro ?_ (And.intro ?_ (And.intro ?_ (And.intro ?_ (And.intro ?_ (And.intro ?_ (And.intro ?_ (And.intro ?_ (And.intro ?_ (trivial)))))))))))))) ?_
              rotate_left 11
              · refine obF_in 41 rfl (by decide) (by decide) ?_
                intro f9 w2 hE hs hd9 hl
                have e4 : f9.tmps.getD 4 undef = _ := sx_old hl 4 (by kernel_rfl) (by kernel_rfl) (h.holds 4 _ rfl)
                have h := fin_slot [(4, _)] hs hd9 (holds_lk ⟨e4, trivial⟩)
                have s := s.more hE
                have z := St.start w2
                refine s_load_row 1 h s row24 rfl rfl (rfl) rfl ?_; intro f h
                refine s_nil ?_
                have e9 := h.holds 41 _ rfl
                refine ⟨?_, Ext.refl _, fun h9 => absurd h9 (by decide)⟩
                refine e9.trans ?_
                exact rfl
              · refine obH_in 42 rfl (by decide) ?_
                intro f9 w2 hE hs hl
                have e4 : f9.tmps.getD 4 undef = _ := sx_old hl 4 (by kernel_rfl) (by kernel_rfl) (h.holds 4 _ rfl)
                have h := fin_slot [(4, _)] hs rfl (holds_lk ⟨e4, trivial⟩)
                refine s_pure h (ru_field fld24_1 (h.ev rfl)) rfl ?_; intro f h
                refine s_nil ?_
                have e9 := h.holds 42 _ rfl
                refine ⟨?_, rfl⟩
                refine e9.trans ?_
                exact rfl
              · refine obF_in 43 rfl (by decide) (by decide) ?_
                intro f9 w2 hE hs hd9 hl
                have e42 : f9.tmps.getD 42 undef = _ := sx_get hl 42 1 (by kernel_rfl) (by kernel_rfl)
                have h := fin_slot [(42, _)] hs hd9 (holds_lk ⟨e42, trivial⟩)
                have s := s.more hE
                have z := St.start w2
                refine s_load_at1 (cell_of_has (Has.of_own s 1 rfl) 1 (rfl)) h one3 rfl rfl ?_; intro f h
                refine s_nil ?_
                have e9 := h.holds 43 _ rfl
                refine ⟨?_, Ext.refl _, fun h9 => absurd h9 (by decide)⟩
                refine e9.trans ?_
                exact rfl
              · refine obH_in 44 rfl (by decide) ?_
                intro f9 w2 hE hs hl
                have e1 : f9.tmps.getD 1 undef = _ := sx_old hl 1 (by kernel_rfl) (by kernel_rfl) (h.holds 1 _ rfl)
                have h := fin_slot [(1, _)] hs rfl (holds_lk ⟨e1, trivial⟩)
                refine s_pure h (ru_move (h.ev rfl)) rfl ?_; intro f h
                refine s_nil ?_
                have e9 := h.holds 44 _ rfl
                refine ⟨?_, rfl⟩
                refine e9.trans ?_
                exact rfl
              · refine obH_in 45 rfl (by decide) ?_
                intro f9 w2 hE hs hl
                have e2 : f9.tmps.getD 2 undef = _ := sx_old hl 2 (by kernel_rfl) (by kernel_rfl) (h.holds 2 _ rfl)
                have h := fin_slot [(2, _)] hs rfl (holds_lk ⟨e2, trivial⟩)
                refine s_pure h (ru_move (h.ev rfl)) rfl ?_; intro f h
                refine s_nil ?_
                have e9 := h.holds 45 _ rfl
                refine ⟨?_, rfl⟩
                refine e9.trans ?_
                exact rfl
              · refine obH_in 46 rfl (by decide) ?_
                intro f9 w2 hE hs hl
                have e3 : f9.tmps.getD 3 undef = _ := sx_old hl 3 (by kernel_rfl) (by kernel_rfl) (h.holds 3 _ rfl)
                have h := fin_slot [(3, _)] hs rfl (holds_lk ⟨e3, trivial⟩)
                refine s_pure h (ru_move (h.ev rfl)) rfl ?_; intro f h
                refine s_nil ?_
                have e9 := h.holds 46 _ rfl
                refine ⟨?_, rfl⟩
                refine e9.trans ?_
                exact rfl
              · refine obF_in 47 rfl (by decide) (by decide) ?_
                intro f9 w2 hE hs hd9 hl
                have e43 : f9.tmps.getD 43 undef = _ := sx_get hl 43 2 (by kernel_rfl) (by kernel_rfl)
                have e44 : f9.tmps.getD 44 undef = _ := sx_get hl 44 3 (by kernel_rfl) (by kernel_rfl)
                have e45 : f9.tmps.getD 45 undef = _ := sx_get hl 45 4 (by kernel_rfl) (by kernel_rfl)
                have e46 : f9.tmps.getD 46 undef = _ := sx_get hl 46 5 (by kernel_rfl) (by kernel_rfl)
                have h := fin_slot [(43, _), (44, _), (45, _), (46, _)] hs hd9 (holds_lk ⟨e43, e44, e45, e46, trivial⟩)
                have s := s.more hE
                have z := St.start w2
                refine s_pure h (ru_build_lt sttL (h.ev rfl) (h.ev rfl) (h.ev rfl) (h.ev rfl)) rfl ?_; intro f h
                refine s_nil ?_
                have e9 := h.holds 47 _ rfl
                refine ⟨?_, Ext.refl _, fun h9 => absurd h9 (by decide)⟩
                refine e9.trans ?_
                exact rfl
              · refine obF_in 48 rfl (by decide) (by decide) ?_
                intro f9 w2 hE hs hd9 hl
                have e41 : f9.tmps.getD 41 undef = _ := sx_get hl 41 0 (by kernel_rfl) (by kernel_rfl)
                have e47 : f9.tmps.getD 47 undef = _ := sx_get hl 47 6 (by kernel_rfl) (by kernel_rfl)
                have h := fin_slot [(41, _), (47, _)] hs hd9 (holds_lk ⟨e41, e47, trivial⟩)
                have s := s.more hE
                have z := St.start w2
                refine s_call h s fnc20 (behind_any { m with last := m.last + 1 } v9 (m.last + 1, fr, tt, dx) _ (hR.keep s.ext) hln) rfl rfl ?_; intro f w3 v3 hT9 hE3 h s
                refine s_nil ?_
                exact ⟨by rw [h.holds 48 _ rfl]; exact hT9.low hE.le, hE3, fun h9 => absurd h9 (by decide)⟩
              · refine obH_in 49 rfl (by decide) ?_
                intro f9 w2 hE hs hl
                have e4 : f9.tmps.getD 4 undef = _ := sx_old hl 4 (by kernel_rfl) (by kernel_rfl) (h.holds 4 _ rfl)
                have h := fin_slot [(4, _)] hs rfl (holds_lk ⟨e4, trivial⟩)
                refine s_pure h (ru_field fld24_1 (h.ev rfl)) rfl ?_; intro f h
                refine s_nil ?_
                have e9 := h.holds 49 _ rfl
                refine ⟨?_, rfl⟩
                refine e9.trans ?_
                exact rfl
              · refine obH_in 50 rfl (by decide) ?_
                intro f9 w2 hE hs hl
                have e49 : f9.tmps.getD 49 undef = _ := sx_get hl 49 8 (by kernel_rfl) (by kernel_rfl)
                have h := fin_slot [(49, _)] hs rfl (holds_lk ⟨e49, trivial⟩)
                refine s_load_at1 (V := .int .i64 (m.last + 1)) ((cell_of_row w2 b4 1 _ _ _ hE).trans rfl) h one3 rfl rfl ?_; intro f h
                refine s_nil ?_
                have e9 := h.holds 50 _ rfl
                refine ⟨?_, rfl⟩
                refine e9.trans ?_
                exact rfl
              · exact obT_in (by decide) (by decide)
              · refine obH_in 9 rfl (by decide) ?_
                intro f9 w2 hE hs hl
                have e50 : f9.tmps.getD 50 undef = _ := sx_get hl 50 9 (by kernel_rfl) (by kernel_rfl)
                have h := fin_slot [(50, _)] hs rfl (holds_lk ⟨e50, trivial⟩)
                refine s_pure h (ru_assign (h.ev rfl)) rfl ?_; intro f h
                refine s_nil ?_
                have e9 := h.holds 9 _ rfl
                refine ⟨?_, rfl⟩
                refine e9.trans ?_
                exact rfl
              · refine obH_in 10 rfl (by decide) ?_
                intro f9 w2 hE hs hl
                have h := fin_slot [] hs rfl (holds_lk trivial)
                refine s_pure h (ru_assign (h.ev rfl)) rfl ?_; intro f h
                refine s_nil ?_
                have e9 := h.holds 10 _ rfl
                refine ⟨?_, rfl⟩
                refine e9.trans ?_
                exact rfl
              · intro f9 w2 hE hs hd9 hWp hT hR hFr hDj
                obtain ⟨u48, hu48⟩ : ∃ v, f9.tmps.getD 48 undef = v := ⟨_, rfl⟩
                have e48 : (OneP 35 w1.heap.size (⟨m.l ++ [(m.last + 1, fr, tt, dx)], m.last + 1, m.now⟩)) u48 w2 := by rw [← hu48]; exact hT 7 48 (by decide) rfl
                replace h := sl_new (ops := _) [(41, _), (42, _), (43, _), (44, _), (45, _), (46, _), (47, _), (48, u48), (49, _), (50, _), (9, _), (10, _)] h hs hd9 hR ⟨hT 0 41 (by decide) rfl, hT 1 42 (by decide) rfl, hT 2 43 (by decide) rfl, hT 3 44 (by decide) rfl, hT 4 45 (by decide) rfl, hT 5 46 (by decide) rfl, hT 6 47 (by decide) rfl, hu48, hT 8 49 (by decide) rfl, hT 9 50 (by decide) rfl, hT 11 9 (by decide) rfl, hT 12 10 (by decide) rfl, trivial⟩ (by kernel_rfl)
                obtain ⟨vx, hvvx, hOvx⟩ := e48
                subst hvvx
                replace s := s.sl_new hE hOvx
                clear hT hR hFr hDj
                refine LstW.cons ?_
                refine s_store_row 1 h s row24 rfl rfl rfl (rfl) (rfl) (mlArr_ones _ _ (own_one (s.getSl 0 rfl))) ?_; intro w1 s
                refine s_nil ⟨s.get 2 rfl, ?_⟩
                refine LstW.nil ?_
                refine hK13 _ _ ?_
                refine wpIn_ret ?_
                exact e_row_tmp2 1 rfl h s row24 rfl rfl (rfl) rfl rfl (post_ok (postE_0 hb (by omega) (by rw [hu, hv]; rfl)) (s.getSl 0 rfl))
            · skip
              refine c_region ?_
              refine s_load_row 1 h s row24 rfl rfl (rfl) rfl ?_; intro f h
              refine s_call h s fnc19 (ret_val (.bool false) (full_any m v9 _ (hR.keep s.ext) hln) (congrArg Value.bool hu)) rfl rfl ?_; intro f w1 v9 hT hE h s; obtain rfl := hT
              refine s_pure h (ru_move (h.ev rfl)) rfl ?_; intro f h
              refine s_on h rfl rfl rfl ?_
              refine s_pure h (ru_field fld24_1 (h.ev rfl)) rfl ?_; intro f h
              refine s_on h rfl rfl rfl ?_
              refine s_load_at1 (cell_of_has (Has.of_own s 1 rfl) 1 (rfl)) h one3 rfl rfl ?_; intro f h
              refine s_on h rfl rfl rfl ?_
              refine s_pure h (ru_val (.bool true) (ru_eql (h.ev rfl) (h.ev rfl)) (congrArg Value.bool hv)) rfl ?_; intro f h
              refine s_pure h (ru_pick_f (h.ev rfl) (h.ev rfl)) rfl ?_; intro f h
              refine s_nil ?_
              refine hK11 _ _ ?_
              refine wpIn_cond_true (h.ev rfl) ?_
              refine c_seq fun K14 hK14 => ?_
              refine c_region ?_
              refine s_pure h (ru_build_ml0 sttM) rfl ?_; intro f h
              refine s_store_row 0 h s row24 rfl rfl rfl (rfl) (rfl) (mlArr_ones _ _ rfl) ?_; intro w1 s
              refine s_pure h (ru_assign (h.ev rfl)) rfl ?_; intro f h
              refine s_pure h (ru_assign (h.ev rfl)) rfl ?_; intro f h
              refine s_nil ?_
              refine hK14 _ _ ?_
              refine wpIn_ret ?_
              refine t_ret ?_
              exact e_row_tmp2 0 rfl h s row24 rfl rfl (rfl) rfl rfl (post_no (postE_8 hb (by omega) (by rw [hu, hv]; rfl)) (by decide))
          · skip
            refine c_region ?_
            refine s_load_row 1 h s row24 rfl rfl (rfl) rfl ?_; intro f h
            refine s_call h s fnc19 (ret_val (.bool true) (full_any m v9 _ (hR.keep s.ext) hln) (congrArg Value.bool hu)) rfl rfl ?_; intro f w1 v9 hT hE h s; obtain rfl := hT
            refine s_pure h (ru_move (h.ev rfl)) rfl ?_; intro f h
            refine s_off (b := false) h rfl rfl rfl rfl ?_; intro f h
            refine s_off (b := false) h rfl rfl rfl rfl ?_; intro f h
            refine s_off (b := false) h rfl rfl rfl rfl ?_; intro f h
            refine s_pure h (ru_pick_t (h.ev rfl) (h.ev rfl)) rfl ?_; intro f h
            refine s_nil ?_
            refine hK11 _ _ ?_
            refine wpIn_cond_true (h.ev rfl) ?_
            refine c_seq fun K15 hK15 => ?_
            refine c_region ?_
            refine s_pure h (ru_build_ml0 sttM) rfl ?_; intro f h
            refine s_store_row 0 h s row24 rfl rfl rfl (rfl) (rfl) (mlArr_ones _ _ rfl) ?_; intro w1 s
            refine s_pure h (ru_assign (h.ev rfl)) rfl ?_; intro f h
            refine s_pure h (ru_assign (h.ev rfl)) rfl ?_; intro f h
            refine s_nil ?_
            refine hK15 _ _ ?_
            refine wpIn_ret ?_
            refine t_ret ?_
            exact e_row_tmp2 0 rfl h s row24 rfl rfl (rfl) rfl rfl (post_no (postE_8 hb (by omega) (by rw [hu]; rfl)) (by decide))

theorem pass_any (m : Ml) (v9 : Value) (tk : Int) (w : World) (hR : RdZ w v9 4 m.l.length (ltCells m.l)) (hln : m.l.length ≤ 1000) : Calls Try.prog 9 [.agg (mlArr m v9), .int .i64 tk].toArray w (Ret w (PassP 35 w.heap.size m tk)) := by
  refine c_enter Try.func9 rfl Try.ntmps9 rfl [(0, .agg (mlArr m v9)), (1, .int .i64 tk)] (by simp) fun f h => ?_
  have s := St.start w
  refine c_seq fun K1 hK1 => ?_
  refine c_region ?_
  refine s_box ((mlArr m v9)) h s rfl rfl rfl ?_; intro f w1 b2 h s
  refine s_alloc (mlArr zMl (.slice none 0 0)) h s zero24 rfl rfl ?_; intro f w1 b4 h s
  refine s_pure h (ru_assign (h.ev rfl)) rfl ?_; intro f h
  refine s_nil ?_
  refine hK1 _ _ ?_
  refine c_seq fun K2 hK2 => ?_
  refine c_seq fun K3 hK3 => ?_
  cases hr : (rightL m : Bool)
  · skip
    refine c_region ?_
    refine s_load_row 1 h s row24 rfl rfl (rfl) rfl ?_; intro f h
    refine s_call h s fnc10 (ret_val (.bool false) (mright_any m v9 _ (hR.keep s.ext) hln) (congrArg Value.bool hr)) rfl rfl ?_; intro f w1 v9 hT hE h s; obtain rfl := hT
    refine s_pure h (ru_val (.bool true) (ru_not (h.ev rfl)) rfl) rfl ?_; intro f h
    refine s_pure h (ru_move (h.ev rfl)) rfl ?_; intro f h
    refine s_off (b := false) h rfl rfl rfl rfl ?_; intro f h
    refine s_off (b := false) h rfl rfl rfl rfl ?_; intro f h
    refine s_pure h (ru_pick_t (h.ev rfl) (h.ev rfl)) rfl ?_; intro f h
    refine s_nil ?_
    refine hK3 _ _ ?_
    refine wpIn_cond_true (h.ev rfl) ?_
    refine c_seq fun K4 hK4 => ?_
    refine c_region ?_
    refine s_pure h (ru_build_ml0 sttM) rfl ?_; intro f h
    refine s_store_row 0 h s row24 rfl rfl rfl (rfl) (rfl) (mlArr_ones _ _ rfl) ?_; intro w1 s
    refine s_pure h (ru_assign (h.ev rfl)) rfl ?_; intro f h
    refine s_nil ?_
    refine hK4 _ _ ?_
    refine wpIn_ret ?_
    refine t_ret ?_
    exact e_row_tmp 0 rfl h s row24 rfl rfl (rfl) rfl (pass_no (passE_1 (by rw [hr]; rfl)))
  · skip
    cases ht : (decide (tk < 0) : Bool)
    · skip
      refine c_region ?_
      refine s_load_row 1 h s row24 rfl rfl (rfl) rfl ?_; intro f h
      refine s_call h s fnc10 (ret_val (.bool true) (mright_any m v9 _ (hR.keep s.ext) hln) (congrArg Value.bool hr)) rfl rfl ?_; intro f w1 v9 hT hE h s; obtain rfl := hT
      refine s_pure h (ru_val (.bool false) (ru_not (h.ev rfl)) rfl) rfl ?_; intro f h
      refine s_pure h (ru_move (h.ev rfl)) rfl ?_; intro f h
      refine s_on h rfl rfl rfl ?_
      refine s_pure h (ru_move (h.ev rfl)) rfl ?_; intro f h
      refine s_on h rfl rfl rfl ?_
      refine s_pure h (ru_val (.bool false) (ru_lss (h.ev rfl) (h.ev rfl)) (congrArg Value.bool ht)) rfl ?_; intro f h
      refine s_pure h (ru_pick_f (h.ev rfl) (h.ev rfl)) rfl ?_; intro f h
      refine s_nil ?_
      refine hK3 _ _ ?_
      refine wpIn_cond_false (h.ev rfl) ?_
      refine wpIn_skip ?_
      refine hK2 _ _ ?_
      refine c_seq fun K5 hK5 => ?_
      refine c_region ?_
      refine s_pure h (ru_field fld24_2 (h.ev rfl)) rfl ?_; intro f h
      have hbd := ((right_iff m).1 hr).2.2.1
      have htk := of_decide_eq_false ht
      refine s_load_at1 (cell_of_has (Has.of_own s 1 rfl) 2 (rfl)) h one3 rfl rfl ?_; intro f h
      refine s_pure h (ru_move (h.ev rfl)) rfl ?_; intro f h
      refine s_pure h (ru_field fld24_2 (h.ev rfl)) rfl ?_; intro f h
      refine s_load_at1 (cell_of_has (Has.of_own s 1 rfl) 2 (rfl)) h one3 rfl rfl ?_; intro f h
      refine s_pure h (ru_sub (h.ev rfl) (h.ev rfl) (by omega)) rfl ?_; intro f h
      refine s_pure h (ru_val (.int .i64 (min tk (1099511627776 - m.now))) (ru_min (h.ev rfl) (h.ev rfl)) (congrArg (Value.int .i64) (by omega))) rfl ?_; intro f h
      refine s_pure h (ru_add (h.ev rfl) (h.ev rfl) (by omega)) rfl ?_; intro f h
      refine s_pure h (ru_field fld24_2 (h.ev rfl)) rfl ?_; intro f h
      refine s_store_one 1 h s one3 rfl rfl rfl (by show _ < 3; decide) (rfl) ?_; intro w1 s
      replace s := s.recell (D := mlArr { m with now := m.now + min tk (1099511627776 - m.now) } v9) 1 rfl rfl
      refine s_nil ?_
      refine hK5 _ _ ?_
      refine c_seq fun K6 hK6 => ?_
      refine c_region ?_
      refine s_pure h (ru_field fld24_0 (h.ev rfl)) rfl ?_; intro f h
      refine s_load_at1 (cell_of_has (Has.of_own s 1 rfl) 0 (rfl)) h one22 rfl rfl ?_; intro f h
      refine s_call h s fnc21 (clone_any m.l hln v9 _ (hR.keep s.ext)) rfl rfl ?_; intro f w1 v25 hT hE h sq; replace s := s.sl_new hE hT
      refine s_pure h (ru_field fld24_0 (h.ev rfl)) rfl ?_; intro f h
      refine s_store_one 2 h s one22 rfl rfl rfl (by show _ < 3; decide) (own_one (s.getSl 0 rfl)) ?_; intro w1 s
      replace s := s.recell (D := mlArr { m with now := m.now + min tk (1099511627776 - m.now) } v25) 2 rfl rfl
      refine s_nil ?_
      refine hK6 _ _ ?_
      refine c_seq fun K7 hK7 => ?_
      refine c_region ?_
      refine s_load_row 2 h s row24 rfl rfl (rfl) rfl ?_; intro f h
      refine s_store_row 1 h s row24 rfl rfl rfl (rfl) (rfl) (mlArr_ones _ _ (own_one (s.getSl 0 rfl))) ?_; intro w1 s
      refine s_pure h (ru_assign (h.ev rfl)) rfl ?_; intro f h
      refine s_nil ?_
      refine hK7 _ _ ?_
      refine wpIn_ret ?_
      exact e_row_tmp 1 rfl h s row24 rfl rfl (rfl) rfl (pass_ok (passE_0 (by rw [hr, ht]; rfl)) (s.getSl 0 rfl))
    · skip
      refine c_region ?_
      refine s_load_row 1 h s row24 rfl rfl (rfl) rfl ?_; intro f h
      refine s_call h s fnc10 (ret_val (.bool true) (mright_any m v9 _ (hR.keep s.ext) hln) (congrArg Value.bool hr)) rfl rfl ?_; intro f w1 v9 hT hE h s; obtain rfl := hT
      refine s_pure h (ru_val (.bool false) (ru_not (h.ev rfl)) rfl) rfl ?_; intro f h
      refine s_pure h (ru_move (h.ev rfl)) rfl ?_; intro f h
      refine s_on h rfl rfl rfl ?_
      refine s_pure h (ru_move (h.ev rfl)) rfl ?_; intro f h
      refine s_on h rfl rfl rfl ?_
      refine s_pure h (ru_val (.bool true) (ru_lss (h.ev rfl) (h.ev rfl)) (congrArg Value.bool ht)) rfl ?_; intro f h
      refine s_pure h (ru_pick_f (h.ev rfl) (h.ev rfl)) rfl ?_; intro f h
      refine s_nil ?_
      refine hK3 _ _ ?_
      refine wpIn_cond_true (h.ev rfl) ?_
      refine c_seq fun K8 hK8 => ?_
      refine c_region ?_
      refine s_pure h (ru_build_ml0 sttM) rfl ?_; intro f h
      refine s_store_row 0 h s row24 rfl rfl rfl (rfl) (rfl) (mlArr_ones _ _ rfl) ?_; intro w1 s
      refine s_pure h (ru_assign (h.ev rfl)) rfl ?_; intro f h
      refine s_nil ?_
      refine hK8 _ _ ?_
      refine wpIn_ret ?_
      refine t_ret ?_
      exact e_row_tmp 0 rfl h s row24 rfl rfl (rfl) rfl (pass_no (passE_1 (by rw [hr, ht]; rfl)))
end Go.Proofs.Ytbgkoikpdhecfaa
