/- What Owns and Next of package node answer, and Closest of package finger. -/
import Derived.Test.YtndbijifgalpbaaWa
import Derived.Test.YtndbijifgalpbaaWz
set_option linter.unusedVariables false
set_option linter.unusedSimpArgs false
set_option linter.unusedSectionVars false
namespace Go.Proofs.Ytndbijifgalpbaa
open Go.RowKit
theorem viterf_any (l : List Mb) (hln : l.length ≤ 1000) (vh : Value) (lp bx : Nat) (q : Nat → Bool) (GG : Nat → Own → Prop) (g0 : Own) (w0 w : World) (s : St w0 [.blk bx (.cells #[vh] 40), g0] w) (hg0 : GG 0 g0) (hR : RdZ w0 vh 33 l.length (mbCells l)) (hY : ∀ (d : Nat) (B9 : List Own) (w9 : World) (i : Nat) (g : Own), d < l.length → (∀ j, j < d → q j = false) → GG d g → St w0 B9 w9 → B9[i]? = some g → Yields Try.prog lp [Value.agg (mbArr (l.getD d zMb))].toArray w9 (fun v w2 => v = .bool (!q d) ∧ ∃ g', GG (d + 1) g' ∧ St w0 (B9.set i g') w2)) : Calls Try.prog 100 [.func (.yield lp) #[] #[], .pointer (some ⟨bx, 0, none⟩)].toArray w (fun e w9 => (∃ v, e = .returned v) ∧ ∃ d g, GG d g ∧ St w0 ([.blk bx (.cells #[vh] 40)] ++ [g]) w9 ∧ d ≤ l.length ∧ (∀ j, j + 1 < d → q j = false) ∧ (lq q d = false → d = l.length)) := by
  refine c_enterF Try.func100 rfl Try.ntmps100 rfl [(0, .func (.yield lp) #[] #[]), (1, .pointer (some ⟨bx, 0, none⟩))] (by simp) fun f h => ?_
  refine c_seq fun K1 hK1 => ?_
  refine c_region ?_
  refine s_load_one 0 h s one40 rfl rfl (rfl) rfl ?_; intro f h
  refine s_pure h (ru_lenZ (hR.keep s.ext) Try.underlying40 (h.ev rfl)) rfl ?_; intro f h
  refine s_pure h (ru_move (h.ev rfl)) rfl ?_; intro f h
  refine s_nil ?_
  refine hK1 _ _ ?_
  refine wpIn_block ?_
  refine wpIn_loop_ghost (fun nn aa ww => ∃ d : Nat, ∃ gg : Own, Sl 16 aa [(0, .func (.yield lp) #[] #[]), (1, .pointer (some ⟨bx, 0, none⟩)), (5, vh), (6, .int .i64 (l.length : Int)), (7, .int .i64 (d : Int))] ∧ St w0 [.blk bx (.cells (#[vh]) 40), (gg)] ww ∧ nn = l.length - d ∧ d ≤ l.length ∧ GG d gg ∧ ∀ j, j < d → q j = false) (l.length - (0)) ⟨0, g0, h.only ⟨rfl, rfl, rfl, rfl, slot_int rfl (by omega), trivial⟩, s.as ⟨rfl, rfl, trivial⟩, rfl, Nat.zero_le _, hg0, fun j hj => absurd hj (Nat.not_lt_zero _)⟩ ?_
  rintro _ f w1 ⟨d, gg, h, s, hnn, hp0, hp1, hp2⟩
  refine c_seq fun K2 hK2 => ?_
  refine c_region ?_
  refine s_pure h (ru_lss (h.ev rfl) (h.ev rfl)) rfl ?_; intro f h
  refine s_nil ?_
  refine hK2 _ _ ?_
  refine c_seq fun K3 hK3 => ?_
  refine c_cond h rfl (fun hc => ?_) (fun hc => ?_)
  · replace hc := of_decide_eq_true hc
    refine wpIn_skip ?_
    refine hK3 _ _ ?_
    refine c_seq fun K4 hK4 => ?_
    refine wpIn_block ?_
    refine c_seq fun K5 hK5 => ?_
    refine c_region ?_
    have hdl : d < l.length := by omega
    refine s_pure h (ru_ixz (hR.keep s.ext) (d) Try.underlying40 szo30 (h.ev rfl) (h.ev rfl) (by omega) (by omega)) rfl ?_; intro f h
    refine s_load_at ((hR.keep s.ext).el (d) (by omega) (by decide) (D := mbArr (l.getD d zMb)) (mb_elD l d hdl)) h row30 rfl (mbArr_size _) rfl ?_; intro f h
    refine s_alloc (mbArr zMb) h s zero30 rfl rfl ?_; intro f w1 b4 h s
    refine s_store_row 0 h s row30 rfl rfl rfl (mbArr_size _) (mbArr_size _) (mbArr_ones _) ?_; intro w1 s
    refine s_nil ?_
    refine hK5 _ _ ?_
    refine c_seq fun K6 hK6 => ?_
    cases hq : (q d : Bool)
    · skip
      refine c_region ?_
      refine s_pure h (ru_move (h.ev rfl)) rfl ?_; intro f h
      refine s_load_row 0 h s row30 rfl rfl (mbArr_size _) rfl ?_; intro f h
      refine s_yieldG (V := .bool true) (G := GG (d + 1)) [.agg (mbArr (l.getD d zMb))] 2 h rfl rfl (by have h9 := hY d _ _ 2 gg hdl hp2 hp1 s rfl; rw [hq] at h9; exact h9) rfl ?_; intro f w1 g1 hg1 h s
      refine s_pure h (ru_val (.bool false) (ru_not (h.ev rfl)) rfl) rfl ?_; intro f h
      refine s_nil ?_
      refine hK6 _ _ ?_
      refine wpIn_cond_false (h.ev rfl) ?_
      refine wpIn_skip ?_
      refine b_norm ?_
      refine hK4 _ _ ?_
      refine c_region ?_
      refine s_pure h (ru_add (h.ev rfl) (h.ev rfl) (by omega)) rfl ?_; intro f h
      refine s_pure h (ru_move (h.ev rfl)) rfl ?_; intro f h
      refine s_nil ?_
      refine t_norm ?_
      exact ⟨_, by omega, ⟨d + 1, g1, h.only ⟨rfl, rfl, rfl, rfl, slot_int rfl (by omega), trivial⟩, St.as (s.pick _ (List.sublist_append_right [_] _)) ⟨rfl, rfl, trivial⟩, rfl, by omega, hg1, qs_next hp2 hq⟩⟩
    · skip
      refine c_region ?_
      refine s_pure h (ru_move (h.ev rfl)) rfl ?_; intro f h
      refine s_load_row 0 h s row30 rfl rfl (mbArr_size _) rfl ?_; intro f h
      refine s_yieldG (V := .bool false) (G := GG (d + 1)) [.agg (mbArr (l.getD d zMb))] 2 h rfl rfl (by have h9 := hY d _ _ 2 gg hdl hp2 hp1 s rfl; rw [hq] at h9; exact h9) rfl ?_; intro f w1 g1 hg1 h s
      refine s_pure h (ru_val (.bool true) (ru_not (h.ev rfl)) rfl) rfl ?_; intro f h
      refine s_nil ?_
      refine hK6 _ _ ?_
      refine wpIn_cond_true (h.ev rfl) ?_
      refine wpIn_ret ?_
      refine b_ret ?_
      refine t_ret ?_
      refine t_ret ?_
      refine b_ret ?_
      exact e_noneF rfl h (⟨⟨_, rfl⟩, d + 1, g1, hg1, s.pick _ (List.sublist_cons_self _ _), by omega, fun j hj => hp2 j (by omega), fun h9 => absurd (hq.symm.trans h9) (by decide)⟩)
  · replace hc := of_decide_eq_false hc
    refine wpIn_exit ?_
    refine t_exit ?_
    refine t_exit ?_
    refine b_exit ?_
    exact e_noneF_end rfl h (⟨⟨_, rfl⟩, d, gg, hp1, s, hp0, fun j hj => hp2 j (by omega), fun _ => by omega⟩)

theorem clsf_any (x : Mb) (t9 s9 : Id) (bt bs : Nat) (w : World) (ht : Tab w bt (idArr t9)) (hs9 : Tab w bs (idArr s9)) : Calls Try.prog 93 [.agg (mbArr x), .pointer (some ⟨bt, 0, none⟩), .pointer (some ⟨bs, 0, none⟩)].toArray w (Ret w (is (.bool (btw s9 t9 x)))) := by
  refine c_enter Try.func93 rfl Try.ntmps93 rfl [(0, .agg (mbArr x)), (1, .pointer (some ⟨bt, 0, none⟩)), (2, .pointer (some ⟨bs, 0, none⟩))] (by simp) fun f h => ?_
  have s := St.start w
  refine c_seq fun K1 hK1 => ?_
  refine c_region ?_
  refine s_box ((mbArr x)) h s rfl rfl rfl ?_; intro f w1 b3 h s
  refine s_pure h (ru_assign (h.ev rfl)) rfl ?_; intro f h
  refine s_nil ?_
  refine hK1 _ _ ?_
  refine c_seq fun K2 hK2 => ?_
  cases q0 : (decide (x.2 ≠ t9) : Bool)
  · skip
    refine c_region ?_
    refine s_pure h (ru_field fld30_1 (h.ev rfl)) rfl ?_; intro f h
    refine s_load_at (Has.subL (Has.of_own s 0 rfl) 1 32 (D := idArr (_)) (mbArr_id _)) h row26 rfl (by first | exact idArr_size _ | exact bytesF_size _ _) rfl ?_; intro f h
    refine s_load_at (Has.subL (Has.of_tab (ht.keep s.ext)) 0 32 (D := idArr t9) (idArr_ext _)) h row26 rfl (by first | exact idArr_size _ | exact bytesF_size _ _) rfl ?_; intro f h
    refine s_pure h (ru_val (.bool false) (ru_neq_id idTy (h.ev rfl) (h.ev rfl)) (congrArg Value.bool q0)) rfl ?_; intro f h
    refine s_pure h (ru_move (h.ev rfl)) rfl ?_; intro f h
    refine s_off (b := true) h rfl rfl rfl rfl ?_; intro f h
    refine s_off (b := true) h rfl rfl rfl rfl ?_; intro f h
    refine s_off (b := true) h rfl rfl rfl rfl ?_; intro f h
    refine s_off (b := true) h rfl rfl rfl rfl ?_; intro f h
    refine s_pure h (ru_pick_f (h.ev rfl) (h.ev rfl)) rfl ?_; intro f h
    refine s_pure h (ru_move (h.ev rfl)) rfl ?_; intro f h
    refine s_off (b := true) h rfl rfl rfl rfl ?_; intro f h
    refine s_off (b := true) h rfl rfl rfl rfl ?_; intro f h
    refine s_off (b := true) h rfl rfl rfl rfl ?_; intro f h
    refine s_off (b := true) h rfl rfl rfl rfl ?_; intro f h
    refine s_off (b := true) h rfl rfl rfl rfl ?_; intro f h
    refine s_pure h (ru_pick_f (h.ev rfl) (h.ev rfl)) rfl ?_; intro f h
    refine s_pure h (ru_assign (h.ev rfl)) rfl ?_; intro f h
    refine s_nil ?_
    refine hK2 _ _ ?_
    refine wpIn_ret ?_
    exact e_tmp rfl h s rfl (by show _ = _; rw [btw_0 q0])
  · skip
    cases q1 : (decide (x.2 ≠ s9) : Bool)
    · skip
      refine c_region ?_
      refine s_pure h (ru_field fld30_1 (h.ev rfl)) rfl ?_; intro f h
      refine s_load_at (Has.subL (Has.of_own s 0 rfl) 1 32 (D := idArr (_)) (mbArr_id _)) h row26 rfl (by first | exact idArr_size _ | exact bytesF_size _ _) rfl ?_; intro f h
      refine s_load_at (Has.subL (Has.of_tab (ht.keep s.ext)) 0 32 (D := idArr t9) (idArr_ext _)) h row26 rfl (by first | exact idArr_size _ | exact bytesF_size _ _) rfl ?_; intro f h
      refine s_pure h (ru_val (.bool true) (ru_neq_id idTy (h.ev rfl) (h.ev rfl)) (congrArg Value.bool q0)) rfl ?_; intro f h
      refine s_pure h (ru_move (h.ev rfl)) rfl ?_; intro f h
      refine s_on h rfl rfl rfl ?_
      refine s_pure h (ru_field fld30_1 (h.ev rfl)) rfl ?_; intro f h
      refine s_on h rfl rfl rfl ?_
      refine s_load_at (Has.subL (Has.of_own s 0 rfl) 1 32 (D := idArr (_)) (mbArr_id _)) h row26 rfl (by first | exact idArr_size _ | exact bytesF_size _ _) rfl ?_; intro f h
      refine s_on h rfl rfl rfl ?_
      refine s_load_at (Has.subL (Has.of_tab (hs9.keep s.ext)) 0 32 (D := idArr s9) (idArr_ext _)) h row26 rfl (by first | exact idArr_size _ | exact bytesF_size _ _) rfl ?_; intro f h
      refine s_on h rfl rfl rfl ?_
      refine s_pure h (ru_val (.bool false) (ru_neq_id idTy (h.ev rfl) (h.ev rfl)) (congrArg Value.bool q1)) rfl ?_; intro f h
      refine s_pure h (ru_pick_t (h.ev rfl) (h.ev rfl)) rfl ?_; intro f h
      refine s_pure h (ru_move (h.ev rfl)) rfl ?_; intro f h
      refine s_off (b := true) h rfl rfl rfl rfl ?_; intro f h
      refine s_off (b := true) h rfl rfl rfl rfl ?_; intro f h
      refine s_off (b := true) h rfl rfl rfl rfl ?_; intro f h
      refine s_off (b := true) h rfl rfl rfl rfl ?_; intro f h
      refine s_off (b := true) h rfl rfl rfl rfl ?_; intro f h
      refine s_pure h (ru_pick_f (h.ev rfl) (h.ev rfl)) rfl ?_; intro f h
      refine s_pure h (ru_assign (h.ev rfl)) rfl ?_; intro f h
      refine s_nil ?_
      refine hK2 _ _ ?_
      refine wpIn_ret ?_
      exact e_tmp rfl h s rfl (by show _ = _; rw [btw_1 q1])
    · skip
      refine c_region ?_
      refine s_pure h (ru_field fld30_1 (h.ev rfl)) rfl ?_; intro f h
      refine s_load_at (Has.subL (Has.of_own s 0 rfl) 1 32 (D := idArr (_)) (mbArr_id _)) h row26 rfl (by first | exact idArr_size _ | exact bytesF_size _ _) rfl ?_; intro f h
      refine s_load_at (Has.subL (Has.of_tab (ht.keep s.ext)) 0 32 (D := idArr t9) (idArr_ext _)) h row26 rfl (by first | exact idArr_size _ | exact bytesF_size _ _) rfl ?_; intro f h
      refine s_pure h (ru_val (.bool true) (ru_neq_id idTy (h.ev rfl) (h.ev rfl)) (congrArg Value.bool q0)) rfl ?_; intro f h
      refine s_pure h (ru_move (h.ev rfl)) rfl ?_; intro f h
      refine s_on h rfl rfl rfl ?_
      refine s_pure h (ru_field fld30_1 (h.ev rfl)) rfl ?_; intro f h
      refine s_on h rfl rfl rfl ?_
      refine s_load_at (Has.subL (Has.of_own s 0 rfl) 1 32 (D := idArr (_)) (mbArr_id _)) h row26 rfl (by first | exact idArr_size _ | exact bytesF_size _ _) rfl ?_; intro f h
      refine s_on h rfl rfl rfl ?_
      refine s_load_at (Has.subL (Has.of_tab (hs9.keep s.ext)) 0 32 (D := idArr s9) (idArr_ext _)) h row26 rfl (by first | exact idArr_size _ | exact bytesF_size _ _) rfl ?_; intro f h
      refine s_on h rfl rfl rfl ?_
      refine s_pure h (ru_val (.bool true) (ru_neq_id idTy (h.ev rfl) (h.ev rfl)) (congrArg Value.bool q1)) rfl ?_; intro f h
      refine s_pure h (ru_pick_t (h.ev rfl) (h.ev rfl)) rfl ?_; intro f h
      refine s_pure h (ru_move (h.ev rfl)) rfl ?_; intro f h
      refine s_on h rfl rfl rfl ?_
      refine s_pure h (ru_field fld30_1 (h.ev rfl)) rfl ?_; intro f h
      refine s_on h rfl rfl rfl ?_
      refine s_load_at (Has.subL (Has.of_own s 0 rfl) 1 32 (D := idArr (_)) (mbArr_id _)) h row26 rfl (by first | exact idArr_size _ | exact bytesF_size _ _) rfl ?_; intro f h
      refine s_on h rfl rfl rfl ?_
      refine s_load_at (Has.subL (Has.of_tab (hs9.keep s.ext)) 0 32 (D := idArr s9) (idArr_ext _)) h row26 rfl (by first | exact idArr_size _ | exact bytesF_size _ _) rfl ?_; intro f h
      refine s_on h rfl rfl rfl ?_
      refine s_load_at (Has.subL (Has.of_tab (ht.keep s.ext)) 0 32 (D := idArr t9) (idArr_ext _)) h row26 rfl (by first | exact idArr_size _ | exact bytesF_size _ _) rfl ?_; intro f h
      refine s_on h rfl rfl rfl ?_
      refine s_call h s fnc76 (in_any _ _ _ _) rfl rfl ?_; intro f w1 v9 hT hE h s; obtain rfl := hT
      refine s_pure h (ru_pick_t (h.ev rfl) (h.ev rfl)) rfl ?_; intro f h
      refine s_pure h (ru_assign (h.ev rfl)) rfl ?_; intro f h
      refine s_nil ?_
      refine hK2 _ _ ?_
      refine wpIn_ret ?_
      exact e_tmp rfl h s rfl (by show _ = _; rw [btw_2 q0 q1])

theorem only_any (bv g9 : Nat) (caps : List Value) (B9 : List Own) (w0 w : World) (s : St w0 B9 w) : Calls Try.prog 94 [.func (.func 100) #[] #[.pointer (some ⟨bv, 0, none⟩)], .func (.func g9) #[] caps.toArray].toArray w (fun e w9 => ∃ r, e = .returned r ∧ ∃ ba bf, r = .func (.func 101) #[] #[.pointer (some ⟨ba, 0, none⟩), .pointer (some ⟨bf, 0, none⟩)] ∧ St w0 (.blk bf (.cells #[.func (.func g9) #[] caps.toArray] 90) :: .blk ba (.cells #[.func (.func 100) #[] #[.pointer (some ⟨bv, 0, none⟩)]] 108) :: B9) w9) := by
  refine c_enterF Try.func94 rfl Try.ntmps94 rfl [(0, .func (.func 100) #[] #[.pointer (some ⟨bv, 0, none⟩)]), (1, .func (.func g9) #[] caps.toArray)] (by simp) fun f h => ?_
  refine c_seq fun K1 hK1 => ?_
  refine c_region ?_
  refine s_box (#[.func (.func 100) #[] #[.pointer (some ⟨bv, 0, none⟩)]]) h s rfl rfl rfl ?_; intro f w1 b2 h s
  refine s_box (#[.func (.func g9) #[] caps.toArray]) h s rfl rfl rfl ?_; intro f w1 b3 h s
  refine s_pure h (ru_assign (h.ev rfl)) rfl ?_; intro f h
  refine s_nil ?_
  refine hK1 _ _ ?_
  refine c_seq fun K2 hK2 => ?_
  refine c_region ?_
  refine s_pure h (ru_makeFunc [.pointer (some ⟨b2, 0, none⟩), .pointer (some ⟨b3, 0, none⟩)] (evsA h rfl)) rfl ?_; intro f h
  refine s_pure h (ru_assign (h.ev rfl)) rfl ?_; intro f h
  refine s_nil ?_
  refine hK2 _ _ ?_
  refine wpIn_ret ?_
  exact e_tmpF rfl h rfl (⟨_, rfl, b2, b3, rfl, s⟩)

theorem oiter_any (l : List Mb) (hln : l.length ≤ 1000) (vh : Value) (lo bf ba bv g9 : Nat) (caps : List Value) (p : Mb → Bool) (GO : Nat → Own → Prop) (go : Own) (w0 w : World) (s : St w0 [.blk bf (.cells #[.func (.func g9) #[] caps.toArray] 90), .blk ba (.cells #[.func (.func 100) #[] #[.pointer (some ⟨bv, 0, none⟩)]] 108), .blk bv (.cells #[vh] 40), go] w) (hgo : GO 0 go) (hR : RdZ w0 vh 33 l.length (mbCells l)) (hg : Fnc Try.prog g9) (hp : ∀ w9, Ext w0 w9 → ∀ x ∈ l, Calls Try.prog g9 (.agg (mbArr x) :: caps).toArray w9 (Ret w9 (is (.bool (p x))))) (hYo : ∀ (d : Nat) (B9 : List Own) (w9 : World) (i : Nat) (g : Own), d < (l.filter p).length → GO d g → St w0 B9 w9 → B9[i]? = some g → Yields Try.prog lo [Value.agg (mbArr ((l.filter p).getD d zMb))].toArray w9 (fun v w2 => v = .bool true ∧ ∃ g', GO (d + 1) g' ∧ St w0 (B9.set i g') w2)) : Calls Try.prog 101 [.func (.yield lo) #[] #[], .pointer (some ⟨ba, 0, none⟩), .pointer (some ⟨bf, 0, none⟩)].toArray w (fun e w9 => (∃ v, e = .returned v) ∧ ∃ d g, GO d g ∧ St w0 ([.blk bf (.cells #[.func (.func g9) #[] caps.toArray] 90), .blk ba (.cells #[.func (.func 100) #[] #[.pointer (some ⟨bv, 0, none⟩)]] 108), .blk bv (.cells #[vh] 40)] ++ [g]) w9 ∧ d ≤ (l.filter p).length ∧ (∀ j, j + 1 < d → (fun _ => false) j = false) ∧ (lq (fun _ => false) d = false → d = (l.filter p).length)) := by
  refine c_enterFM Try.func101 rfl Try.ntmps101 rfl [(0, .func (.yield lo) #[] #[]), (1, .pointer (some ⟨ba, 0, none⟩)), (2, .pointer (some ⟨bf, 0, none⟩))] (by simp) fun f h => ?_
  refine c_seq fun K1 hK1 => ?_
  refine c_region ?_
  refine s_box (#[.func (.yield lo) #[] #[]]) h s rfl rfl rfl ?_; intro f w1 b3 h s
  refine s_nil ?_
  refine hK1 _ _ ?_
  refine c_seq fun K2 hK2 => ?_
  refine c_region ?_
  refine s_load_one 2 h s one108 rfl rfl (rfl) rfl ?_; intro f h
  refine s_nil ?_
  refine hK2 _ _ ?_
  refine wpIn_block ?_
  refine c_rangeE (fun d A9 => ∃ g, GO (cntP p l d) g ∧ A9 = [.blk b3 (.cells #[.func (.yield lo) #[] #[]] 90), .blk bf (.cells #[.func (.func g9) #[] caps.toArray] 90), .blk ba (.cells #[.func (.func 100) #[] #[.pointer (some ⟨bv, 0, none⟩)]] 108), g]) [.blk b3 (.cells #[.func (.yield lo) #[] #[]] 90), .blk bf (.cells #[.func (.func g9) #[] caps.toArray] 90), .blk ba (.cells #[.func (.func 100) #[] #[.pointer (some ⟨bv, 0, none⟩)]] 108), go] [.blk bv (.cells #[vh] 40)] (l.length) (fun _ => false) (fun d => [Value.agg (mbArr (l.getD d zMb))]) h s rfl fnc100 (List.perm_middle (l₁ := [_, _, _])) (⟨_, hgo, rfl⟩) (fun _ => rfl) ?_ ?_ ?_ ?_
  · intro lp w2 GG g0 hg0 s2 hY; exact viterf_any l hln vh lp bv (fun _ => false) GG g0 w0 w2 s2 hg0 hR hY
  · intro lp D9 d9 rc R9 A9 w2 hd9 hq9 hJ9 s
    obtain ⟨gg, hgg, rfl⟩ := hJ9
    have h := Sl.round1 (p := 6) (V := .agg (mbArr (l.getD d9 zMb))) h rfl
    refine c_region ?_
    refine s_alloc (mbArr zMb) h s zero30 rfl rfl ?_; intro f w1 b4 h s
    refine s_store_row 0 h s row30 rfl rfl rfl (mbArr_size _) (mbArr_size _) (mbArr_ones _) ?_; intro w1 s
    refine s_nil ?_
    refine t_norm ?_
    refine ⟨_, s.perm (List.perm_middle (l₁ := [_])), fun w3 s => ?_⟩
    refine wpIn_block ?_
    refine c_seq fun K3 hK3 => ?_
    cases hq : (p (l.getD d9 zMb) : Bool)
    · skip
      refine c_region ?_
      refine s_load_one 4 h s one90 rfl rfl (rfl) rfl ?_; intro f h
      refine s_load_row 1 h s row30 rfl rfl (mbArr_size _) rfl ?_; intro f h
      refine s_callV [.agg (mbArr (l.getD d9 zMb))] (caps := caps) h s hg rfl (hp _ s.ext _ (mb_mem hd9)) rfl rfl ?_; intro f w1 v9 hT hE h s; obtain rfl := hT
      refine s_pure h (ru_val (.bool false) (ru_move (h.ev rfl)) (congrArg Value.bool hq)) rfl ?_; intro f h
      refine s_off (b := true) h rfl rfl rfl rfl ?_; intro f h
      refine s_off (b := true) h rfl rfl rfl rfl ?_; intro f h
      refine s_off (b := true) h rfl rfl rfl rfl ?_; intro f h
      refine s_off (b := true) h rfl rfl rfl rfl ?_; intro f h
      refine s_pure h (ru_pick_f (h.ev rfl) (h.ev rfl)) rfl ?_; intro f h
      refine s_nil ?_
      refine hK3 _ _ ?_
      refine wpIn_cond_false (h.ev rfl) ?_
      refine wpIn_skip ?_
      refine b_norm ?_
      refine ⟨rfl, _, ⟨gg, by rw [cntP_no hd9 hq]; exact hgg, rfl⟩, s.pick _ ?_⟩
      exact List.Sublist.cons_cons _ (List.Sublist.cons _ (List.Sublist.refl _))
    · skip
      refine c_region ?_
      refine s_load_one 4 h s one90 rfl rfl (rfl) rfl ?_; intro f h
      refine s_load_row 1 h s row30 rfl rfl (mbArr_size _) rfl ?_; intro f h
      refine s_callV [.agg (mbArr (l.getD d9 zMb))] (caps := caps) h s hg rfl (hp _ s.ext _ (mb_mem hd9)) rfl rfl ?_; intro f w1 v9 hT hE h s; obtain rfl := hT
      refine s_pure h (ru_val (.bool true) (ru_move (h.ev rfl)) (congrArg Value.bool hq)) rfl ?_; intro f h
      refine s_on h rfl rfl rfl ?_
      refine s_load_one 3 h s one90 rfl rfl (rfl) rfl ?_; intro f h
      refine s_on h rfl rfl rfl ?_
      refine s_load_row 1 h s row30 rfl rfl (mbArr_size _) rfl ?_; intro f h
      refine s_on h rfl rfl rfl ?_
      refine s_yieldG (V := .bool true) (G := GO (cntP p l d9 + 1)) [.agg (mbArr (l.getD d9 zMb))] 6 h rfl rfl (by have h9 := hYo (cntP p l d9) _ _ 6 gg (cntP_at hd9 hq).1 hgg s rfl; rw [(cntP_at hd9 hq).2] at h9; exact h9) rfl ?_; intro f w1 g1 hg1 h s
      refine s_on h rfl rfl rfl ?_
      refine s_pure h (ru_val (.bool false) (ru_not (h.ev rfl)) rfl) rfl ?_; intro f h
      refine s_pure h (ru_pick_t (h.ev rfl) (h.ev rfl)) rfl ?_; intro f h
      refine s_nil ?_
      refine hK3 _ _ ?_
      refine wpIn_cond_false (h.ev rfl) ?_
      refine wpIn_skip ?_
      refine b_norm ?_
      refine ⟨rfl, _, ⟨g1, by rw [cntP_yes hd9 hq]; exact hg1, rfl⟩, s.pick _ ?_⟩
      exact List.Sublist.cons_cons _ (List.Sublist.cons _ (List.Sublist.refl _))
  · intro D9 A9 w2 hJ9 hq9 s
    obtain ⟨gg, hgg, rfl⟩ := hJ9
    replace h : Sl _ { f with defers := { target := .collected D9, args := #[] } :: f.defers } _ [{ target := .collected D9, args := #[] }] := ⟨h.size, by rw [h.defers], h.holds⟩
    refine b_norm ?_
    exact e_noneFM_end 0 rfl h s rfl (fun w9 s9 => ⟨⟨_, rfl⟩, _, gg, hgg, s9.sel [3, 4, 1, 5] rfl (by decide), Nat.le_of_eq (cntP_end p l), fun _ _ => rfl, fun _ => cntP_end p l⟩)
  · intro D9 d9 A9 w2 hd9 hqd9 hq9 hJ9 s
    cases hqd9

theorem closest_any (l : List Mb) (vh : Value) (t9 s9 : Id) (w : World) (hR : RdZ w vh 33 l.length (mbCells l)) (hln : l.length ≤ 1000) : Calls Try.prog 77 [idV t9, idV s9, vh].toArray w (Ret w (is (.tuple #[.agg (mbArr (csM s9 t9 l)), .int .i64 (csE s9 t9 l)]))) := by
  refine c_enterM Try.func77 rfl Try.ntmps77 rfl [(0, idV t9), (1, idV s9), (2, vh)] (by simp) fun f h => ?_
  have s := St.start w
  refine c_seq fun K1 hK1 => ?_
  refine c_region ?_
  refine s_box (idArr t9) h s rfl rfl rfl ?_; intro f w1 b3 h s
  refine s_box (idArr s9) h s rfl rfl rfl ?_; intro f w1 b4 h s
  obtain ⟨wm, hwm, ⟨hb3, hb4⟩, s⟩ := St.fork (X := fun w9 => Tab w9 b3 (idArr t9) ∧ Tab w9 b4 (idArr s9)) s (⟨Tab.of_own s 1 rfl, Tab.of_own s 0 rfl⟩)
  refine s_alloc (mbArr zMb) h s zero30 rfl rfl ?_; intro f w1 b6 h s
  refine s_pure h (ru_assign (h.ev rfl)) rfl ?_; intro f h
  refine s_nil ?_
  refine hK1 _ _ ?_
  refine c_seq fun K2 hK2 => ?_
  refine c_region ?_
  refine s_pure h (ru_makeFunc [.pointer (some ⟨b3, 0, none⟩), .pointer (some ⟨b4, 0, none⟩)] (evsA h rfl)) rfl ?_; intro f h
  refine s_pure h (ru_assign (h.ev rfl)) rfl ?_; intro f h
  refine s_nil ?_
  refine hK2 _ _ ?_
  refine c_seq fun K3 hK3 => ?_
  refine c_region ?_
  refine s_alloc (mbArr zMb) h s zero30 rfl rfl ?_; intro f w1 b9 h s
  refine s_nil ?_
  refine hK3 _ _ ?_
  refine c_seq fun K4 hK4 => ?_
  refine c_region ?_
  refine s_alloc (idArr 0#256) h s zero26 rfl rfl ?_; intro f w1 b10 h s
  refine s_nil ?_
  refine hK4 _ _ ?_
  refine c_seq fun K5 hK5 => ?_
  refine c_seq fun K6 hK6 => ?_
  refine c_region ?_
  refine s_pure h (ru_move (h.ev rfl)) rfl ?_; intro f h
  refine s_callS [vh] h fnc90 (valuesf_any l vh _ _ _ s (hR.keep (hwm.trans s.ext))) rfl rfl ?_; rintro f w1 r ⟨bv, rfl, s⟩ h
  refine s_pure h (ru_move (h.ev rfl)) rfl ?_; intro f h
  refine s_callS [.func (.func 100) #[] #[.pointer (some ⟨bv, 0, none⟩)], .func (.func 93) #[] #[.pointer (some ⟨b3, 0, none⟩), .pointer (some ⟨b4, 0, none⟩)]] h fnc94 (only_any bv 93 [.pointer (some ⟨b3, 0, none⟩), .pointer (some ⟨b4, 0, none⟩)] _ _ _ s) rfl rfl ?_; rintro f w1 r ⟨ba, bf, rfl, s⟩ h
  refine s_nil ?_
  refine hK6 _ _ ?_
  refine wpIn_block ?_
  refine c_rangeE (fun d A9 => A9 = [.blk b10 (.cells (idArr (csK s9 ((onW s9 t9 l).take d)).2) 26), .blk b9 (.cells (mbArr (csK s9 ((onW s9 t9 l).take d)).1) 30), .blk b6 (.cells (mbArr zMb) 30)]) [.blk b10 (.cells (idArr 0#256) 26), .blk b9 (.cells (mbArr zMb) 30), .blk b6 (.cells (mbArr zMb) 30)] [.blk bf (.cells #[.func (.func 93) #[] #[.pointer (some ⟨b3, 0, none⟩), .pointer (some ⟨b4, 0, none⟩)]] 90), .blk ba (.cells #[.func (.func 100) #[] #[.pointer (some ⟨bv, 0, none⟩)]] 108), .blk bv (.cells #[vh] 40)] ((onW s9 t9 l).length) (fun _ => false) (fun d => [Value.agg (mbArr ((onW s9 t9 l).getD d zMb))]) h s rfl fnc101 (List.Perm.refl _) (rfl) (fun _ => rfl) ?_ ?_ ?_ ?_
  · intro lp w2 GG g0 hg0 s2 hY; exact oiter_any l hln vh lp bf ba bv 93 [.pointer (some ⟨b3, 0, none⟩), .pointer (some ⟨b4, 0, none⟩)] (btw s9 t9) GG g0 wm w2 s2 hg0 (hR.keep hwm) fnc93 (fun w9 h9 x _ => clsf_any x t9 s9 b3 b4 w9 (hb3.keep h9) (hb4.keep h9)) (fun d B9 w9 i g hd hg hs hi => hY d B9 w9 i g hd (fun _ _ => rfl) hg hs hi)
  · intro lp D9 d9 rc R9 A9 w2 hd9 hq9 hJ9 s
    obtain rfl := hJ9
    have h := Sl.round1 (p := 18) (V := .agg (mbArr ((onW s9 t9 l).getD d9 zMb))) h rfl
    refine c_region ?_
    refine s_alloc (mbArr zMb) h s zero30 rfl rfl ?_; intro f w1 b11 h s
    refine s_store_row 0 h s row30 rfl rfl rfl (mbArr_size _) (mbArr_size _) (mbArr_ones _) ?_; intro w1 s
    refine s_nil ?_
    refine t_norm ?_
    refine ⟨_, s.perm (List.perm_middle (l₁ := [_])), fun w3 s => ?_⟩
    refine wpIn_block ?_
    refine c_seq fun K7 hK7 => ?_
    refine c_region ?_
    refine s_load_at (Has.subL (Has.of_tab (hb4.keep s.ext)) 0 32 (D := idArr s9) (idArr_ext _)) h row26 rfl (by first | exact idArr_size _ | exact bytesF_size _ _) rfl ?_; intro f h
    refine s_pure h (ru_field fld30_1 (h.ev rfl)) rfl ?_; intro f h
    refine s_load_at (Has.subL (Has.of_own s 1 rfl) 1 32 (D := idArr (_)) (mbArr_id _)) h row26 rfl (by first | exact idArr_size _ | exact bytesF_size _ _) rfl ?_; intro f h
    refine s_call h s fnc16 (far_any _ _ _) rfl rfl ?_; intro f w1 v9 hT hE h s; obtain rfl := hT
    refine s_alloc (idArr 0#256) h s zero26 rfl rfl ?_; intro f w1 b12 h s
    refine s_store_row 0 h s row26 rfl rfl rfl (by first | exact idArr_size _ | exact bytesF_size _ _) (by first | exact idArr_size _ | exact bytesF_size _ _) (by first | exact idArr_ones _ | exact bytesF_ones _ _) ?_; intro w1 s
    refine s_nil ?_
    refine hK7 _ _ ?_
    refine c_seq fun K8 hK8 => ?_
    refine c_region ?_
    refine s_load_row 0 h s row26 rfl rfl (by first | exact idArr_size _ | exact bytesF_size _ _) rfl ?_; intro f h
    refine s_load_row 4 h s row26 rfl rfl (by first | exact idArr_size _ | exact bytesF_size _ _) rfl ?_; intro f h
    refine s_call h s fnc15 (compare_any _ _ _) rfl rfl ?_; intro f w1 v9 hT hE h s; obtain rfl := hT
    refine s_pure h (ru_val (.bool (decide ((csK s9 ((onW s9 t9 l).take d9)).2.toNat < fd s9 ((onW s9 t9 l).getD d9 zMb).2))) (ru_gtr (h.ev rfl) (h.ev rfl)) (congrArg Value.bool (decide_eq_decide.2 (cmpI_pos _ _)))) rfl ?_; intro f h
    refine s_nil ?_
    refine hK8 _ _ ?_
    refine c_cond h rfl (fun hc => ?_) (fun hc => ?_)
    · replace hc := of_decide_eq_true hc
      have hdl9 := hd9
      have hbs := s.ext.le
      refine' c_reg2 0 [1] [] [[], [], [0], [0, 1, 2]] (is undef :: is _ :: is undef :: is undef :: []) (fun w9 => w9.heap[b12]? = some (.cells (idArr (((onW s9 t9 l).getD d9 zMb).2 - s9)) 26)) h s (by kernel_rfl) (by kernel_rfl) (by kernel_rfl) (by kernel_rfl) rfl (fun _ _ h9 hE => heap_keep h9 hE) (s.get 0 rfl) ⟨⟨_, rfl⟩, trivial⟩ ⟨is_mono _, is_mono _, is_mono _, is_mono _, trivial⟩ (And.intro ?_ (And.intro ?_ (And.intro ?_ (And.intro ?_ (trivial))))) ?_
      rotate_left 1
      · exact obT_in (by decide) (by decide)
      · refine obH_in 28 rfl (by decide) ?_
        intro f9 w2 hE hs hl
        have e12 : f9.tmps.getD 12 undef = _ := sx_old hl 12 (by kernel_rfl) (by kernel_rfl) (h.holds 12 _ rfl)
        have h := fin_slot [(12, _)] hs rfl (holds_lk ⟨e12, trivial⟩)
        refine s_load_at (Has.of_blk hE) h row26 rfl (idArr_size _) rfl ?_; intro f h
        refine s_nil ?_
        have e9 := h.holds 28 _ rfl
        refine ⟨?_, rfl⟩
        refine e9.trans ?_
        exact rfl
      · exact obT_in (by decide) (by decide)
      · exact obT_in (by decide) (by decide)
      · intro f9 w2 hE hs hd9 hWp hT hR hFr hDj
        replace h := sl_new (ops := _) [(28, _)] h hs hd9 hR ⟨hT 1 28 (by decide) rfl, trivial⟩ (by kernel_rfl)
        replace s := s.more hE
        clear hT hR hFr hDj
        refine LstW.cons ?_
        refine s_load_row 2 h s row30 rfl rfl (mbArr_size _) rfl ?_; intro f h
        refine s_nil ⟨s.get 0 rfl, ?_⟩
        refine LstW.cons ?_
        refine s_store_row 5 h s row30 rfl rfl rfl (mbArr_size _) (mbArr_size _) (mbArr_ones _) ?_; intro w1 s
        refine s_nil ⟨s.get 0 rfl, ?_⟩
        refine LstW.cons ?_
        refine s_store_row 4 h s row26 rfl rfl rfl (by first | exact idArr_size _ | exact bytesF_size _ _) (by first | exact idArr_size _ | exact bytesF_size _ _) (by first | exact idArr_ones _ | exact bytesF_ones _ _) ?_; intro w1 s
        refine s_nil ⟨s.get 0 rfl, ?_⟩
        refine LstW.nil ?_
        refine b_norm ?_
        replace s := s.recell (D := mbArr (csK s9 ((onW s9 t9 l).take (d9 + 1))).1) 5 rfl (by rw [cs_yes hdl9 hc])
        replace s := s.recell (D := idArr (csK s9 ((onW s9 t9 l).take (d9 + 1))).2) 4 rfl (by rw [cs_yes hdl9 hc])
        refine ⟨rfl, _, rfl, s.pick _ ?_⟩
        exact List.Sublist.cons _ (List.Sublist.cons_cons _ (List.Sublist.cons _ (List.Sublist.refl _)))
    · replace hc := of_decide_eq_false hc
      have hdl9 := hd9
      refine wpIn_skip ?_
      refine b_norm ?_
      replace s := s.recell (D := mbArr (csK s9 ((onW s9 t9 l).take (d9 + 1))).1) 5 rfl (by rw [cs_no hdl9 hc])
      replace s := s.recell (D := idArr (csK s9 ((onW s9 t9 l).take (d9 + 1))).2) 4 rfl (by rw [cs_no hdl9 hc])
      refine ⟨rfl, _, rfl, s.pick _ ?_⟩
      exact List.Sublist.cons _ (List.Sublist.cons_cons _ (List.Sublist.cons _ (List.Sublist.refl _)))
  · intro D9 A9 w2 hJ9 hq9 s
    obtain rfl := hJ9
    replace h : Sl _ { f with defers := { target := .collected D9, args := #[] } :: f.defers } _ [{ target := .collected D9, args := #[] }] := ⟨h.size, by rw [h.defers], h.holds⟩
    rw [List.take_length] at s
    refine b_norm ?_
    refine hK5 _ _ ?_
    refine c_seq fun K9 hK9 => ?_
    refine c_seq fun K10 hK10 => ?_
    cases he : ((onW s9 t9 l).isEmpty : Bool)
    · skip
      refine c_region ?_
      have hne : (onW s9 t9 l) ≠ [] := fun h9 => by rw [h9] at he; cases he
      refine s_load_row 4 h s row26 rfl rfl (by first | exact idArr_size _ | exact bytesF_size _ _) rfl ?_; intro f h
      refine s_pure h (ru_build0 idTy) rfl ?_; intro f h
      refine s_pure h (ru_val (.bool false) (ru_eql_id idTy (h.ev rfl) (h.ev rfl)) (congrArg Value.bool (decide_eq_false (fun h9 => hne (cs_zero.1 h9))))) rfl ?_; intro f h
      refine s_nil ?_
      refine hK10 _ _ ?_
      refine wpIn_cond_false (h.ev rfl) ?_
      refine wpIn_skip ?_
      refine hK9 _ _ ?_
      refine c_seq fun K11 hK11 => ?_
      refine c_region ?_
      refine s_load_row 5 h s row30 rfl rfl (mbArr_size _) rfl ?_; intro f h
      refine s_store_row 6 h s row30 rfl rfl rfl (mbArr_size _) (mbArr_size _) (mbArr_ones _) ?_; intro w1 s
      refine s_pure h (ru_assign (h.ev rfl)) rfl ?_; intro f h
      refine s_nil ?_
      refine hK11 _ _ ?_
      refine wpIn_ret ?_
      replace s := s.rebase hwm
      exact e_row_tmp_M 6 0 rfl h s row30 rfl rfl rfl rfl (mbArr_size _) (fun w9 => by show _ = _; rw [(cs_some hne).1]; rfl)
    · skip
      refine c_region ?_
      refine s_load_row 4 h s row26 rfl rfl (by first | exact idArr_size _ | exact bytesF_size _ _) rfl ?_; intro f h
      refine s_pure h (ru_build0 idTy) rfl ?_; intro f h
      refine s_pure h (ru_val (.bool true) (ru_eql_id idTy (h.ev rfl) (h.ev rfl)) (congrArg Value.bool (decide_eq_true (cs_zero.2 (List.isEmpty_iff.1 he))))) rfl ?_; intro f h
      refine s_nil ?_
      refine hK10 _ _ ?_
      refine wpIn_cond_true (h.ev rfl) ?_
      refine c_seq fun K12 hK12 => ?_
      refine c_region ?_
      refine s_pure h (ru_build_mb0 sttM) rfl ?_; intro f h
      refine s_store_row 6 h s row30 rfl rfl rfl (mbArr_size _) (mbArr_size _) (mbArr_ones _) ?_; intro w1 s
      refine s_pure h (ru_assign (h.ev rfl)) rfl ?_; intro f h
      refine s_nil ?_
      refine hK12 _ _ ?_
      refine wpIn_ret ?_
      refine t_ret ?_
      replace s := s.rebase hwm
      exact e_row_tmp_M 6 0 rfl h s row30 rfl rfl rfl rfl (mbArr_size _) (fun w9 => by show _ = _; rw [(cs_none (List.isEmpty_iff.1 he)).1, (cs_none (List.isEmpty_iff.1 he)).2])
  · intro D9 d9 A9 w2 hd9 hqd9 hq9 hJ9 s
    cases hqd9

theorem nowns_any (n : Nd) (vs vf : Value) (x : Id) (w : World) (hRs : RdZ w vs 33 n.sc.length (mbCells n.sc)) (hRf : RdZ w vf 33 n.fg.length (mbCells n.fg)) (hns : n.sc.length ≤ 1000) (hnf : n.fg.length ≤ 1000) : Calls Try.prog 44 [.agg (ndArr n.me n.pr vs vf), idV x].toArray w (Ret w (is (.bool (ownsN n x)))) := by
  refine c_enter Try.func44 rfl Try.ntmps44 rfl [(0, .agg (ndArr n.me n.pr vs vf)), (1, idV x)] (by simp) fun f h => ?_
  have s := St.start w
  refine c_seq fun K1 hK1 => ?_
  refine c_region ?_
  refine s_box (ndArr n.me n.pr vs vf) h s rfl rfl rfl ?_; intro f w1 b2 h s
  refine s_box (idArr x) h s rfl rfl rfl ?_; intro f w1 b3 h s
  refine s_pure h (ru_assign (h.ev rfl)) rfl ?_; intro f h
  refine s_nil ?_
  refine hK1 _ _ ?_
  refine c_seq fun K2 hK2 => ?_
  cases hr : (rightN n : Bool)
  · skip
    refine c_walkN 19 [[], [0], [0, 1], [0, 1, 2], [0, 1, 2, 3], [0, 1, 2], [0, 1, 2, 3, 4, 5], [0, 1, 2, 3, 4, 5, 6], [0, 1, 2, 3, 4, 5, 6, 7], [0, 1, 2, 3, 4, 5, 6, 7, 8], [0, 1, 2, 3, 4, 5, 6, 7, 8], [0, 1, 2, 3, 4, 5, 6, 7, 8, 10], [0, 1, 2, 3, 4, 5, 6, 7, 8, 10, 11], [0, 1, 2, 3, 4, 5, 6, 7, 8], [0, 1, 2, 3, 4, 5, 6, 7, 8, 13], [0, 1, 2, 3, 4, 5, 6, 7, 8, 13, 14], [0, 1, 2, 3, 4, 5, 6, 7, 8, 9, 10, 11, 12, 13, 14, 15], [0, 1, 2, 3, 4, 5, 6, 7, 8, 9, 10, 11, 12, 13, 14, 15, 16], [0, 1, 2, 3, 4, 5, 6, 7, 8, 9, 10, 11, 12, 13, 14, 15, 16, 17]] h (by kernel_rfl) (by kernel_rfl) (by kernel_rfl) ?_
    refine w_load_row 1 h s row46 rfl rfl (ndArr_size _ _ _ _) rfl ?_; intro f h
    refine w_call h fnc38 (fun w9 hE9 => ret_val (.bool false) (nright_any n vs vf w9 (hRs.keep (s.ext.trans hE9)) (hRf.keep (s.ext.trans hE9)) hns hnf) (congrArg Value.bool hr)) rfl rfl ?_; intro f h
    refine w_pure h (ru_move (h.ev rfl)) rfl ?_; intro f h
    refine w_off (b := true) h rfl rfl rfl rfl ?_; intro f h
    refine w_off (b := true) h rfl rfl rfl rfl ?_; intro f h
    refine w_off (b := true) h rfl rfl rfl rfl ?_; intro f h
    refine w_off (b := true) h rfl rfl rfl rfl ?_; intro f h
    refine w_pure h (ru_pick_f (h.ev rfl) (h.ev rfl)) rfl ?_; intro f h
    refine w_pure h (ru_move (h.ev rfl)) rfl ?_; intro f h
    refine w_off (b := true) h rfl rfl rfl rfl ?_; intro f h
    refine w_off (b := true) h rfl rfl rfl rfl ?_; intro f h
    refine w_off (b := true) h rfl rfl rfl rfl ?_; intro f h
    refine w_off (b := true) h rfl rfl rfl rfl ?_; intro f h
    refine w_off (b := true) h rfl rfl rfl rfl ?_; intro f h
    refine w_off (b := true) h rfl rfl rfl rfl ?_; intro f h
    refine w_off (b := true) h rfl rfl rfl rfl ?_; intro f h
    refine w_off (b := true) h rfl rfl rfl rfl ?_; intro f h
    refine w_pure h (ru_pick_f (h.ev rfl) (h.ev rfl)) rfl ?_; intro f h
    refine w_pure h (ru_assign (h.ev rfl)) rfl ?_; intro f h
    refine w_nil s fun w1 s => ?_
    refine s_nil ?_
    refine hK2 _ _ ?_
    refine wpIn_ret ?_
    exact e_tmp rfl h s rfl (by show _ = _; rw [owns_0 hr])
  · skip
    cases q0 : (!decide (n.pr = nMb) : Bool)
    · skip
      refine c_walkN 19 [[], [0], [0, 1], [0, 1, 2], [0, 1, 2, 3], [0, 1, 2], [0, 1, 2, 3, 4, 5], [0, 1, 2, 3, 4, 5, 6], [0, 1, 2, 3, 4, 5, 6, 7], [0, 1, 2, 3, 4, 5, 6, 7, 8], [0, 1, 2, 3, 4, 5, 6, 7, 8], [0, 1, 2, 3, 4, 5, 6, 7, 8, 10], [0, 1, 2, 3, 4, 5, 6, 7, 8, 10, 11], [0, 1, 2, 3, 4, 5, 6, 7, 8], [0, 1, 2, 3, 4, 5, 6, 7, 8, 13], [0, 1, 2, 3, 4, 5, 6, 7, 8, 13, 14], [0, 1, 2, 3, 4, 5, 6, 7, 8, 9, 10, 11, 12, 13, 14, 15], [0, 1, 2, 3, 4, 5, 6, 7, 8, 9, 10, 11, 12, 13, 14, 15, 16], [0, 1, 2, 3, 4, 5, 6, 7, 8, 9, 10, 11, 12, 13, 14, 15, 16, 17]] h (by kernel_rfl) (by kernel_rfl) (by kernel_rfl) ?_
      refine w_load_row 1 h s row46 rfl rfl (ndArr_size _ _ _ _) rfl ?_; intro f h
      refine w_call h fnc38 (fun w9 hE9 => ret_val (.bool true) (nright_any n vs vf w9 (hRs.keep (s.ext.trans hE9)) (hRf.keep (s.ext.trans hE9)) hns hnf) (congrArg Value.bool hr)) rfl rfl ?_; intro f h
      refine w_pure h (ru_move (h.ev rfl)) rfl ?_; intro f h
      refine w_on h rfl rfl rfl ?_
      refine w_pure h (ru_field fld46_1 (h.ev rfl)) rfl ?_; intro f h
      refine w_on h rfl rfl rfl ?_
      refine w_load_at (Has.subL (Has.of_own s 1 rfl) 33 33 (D := mbArr n.pr) (ndArr_pr _ _ _ _)) h row30 rfl (mbArr_size _) rfl ?_; intro f h
      refine w_on h rfl rfl rfl ?_
      refine w_call h fnc75 (fun w9 hE9 => none_any w9) rfl rfl ?_; intro f h
      refine w_on h rfl rfl rfl ?_
      refine w_pure h (ru_val (.bool false) (ru_neqW (eqM _ _) (by kernel_rfl) (by decide) (h.ev rfl) (h.ev rfl) (decide (n.pr = nMb)) (mbEq _ _)) (congrArg Value.bool q0)) rfl ?_; intro f h
      refine w_pure h (ru_pick_t (h.ev rfl) (h.ev rfl)) rfl ?_; intro f h
      refine w_pure h (ru_move (h.ev rfl)) rfl ?_; intro f h
      refine w_off (b := true) h rfl rfl rfl rfl ?_; intro f h
      refine w_off (b := true) h rfl rfl rfl rfl ?_; intro f h
      refine w_off (b := true) h rfl rfl rfl rfl ?_; intro f h
      refine w_off (b := true) h rfl rfl rfl rfl ?_; intro f h
      refine w_off (b := true) h rfl rfl rfl rfl ?_; intro f h
      refine w_off (b := true) h rfl rfl rfl rfl ?_; intro f h
      refine w_off (b := true) h rfl rfl rfl rfl ?_; intro f h
      refine w_off (b := true) h rfl rfl rfl rfl ?_; intro f h
      refine w_pure h (ru_pick_f (h.ev rfl) (h.ev rfl)) rfl ?_; intro f h
      refine w_pure h (ru_assign (h.ev rfl)) rfl ?_; intro f h
      refine w_nil s fun w1 s => ?_
      refine s_nil ?_
      refine hK2 _ _ ?_
      refine wpIn_ret ?_
      exact e_tmp rfl h s rfl (by show _ = _; rw [owns_3 q0])
    · skip
      refine c_walkN 19 [[], [0], [0, 1], [0, 1, 2], [0, 1, 2, 3], [0, 1, 2], [0, 1, 2, 3, 4, 5], [0, 1, 2, 3, 4, 5, 6], [0, 1, 2, 3, 4, 5, 6, 7], [0, 1, 2, 3, 4, 5, 6, 7, 8], [0, 1, 2, 3, 4, 5, 6, 7, 8], [0, 1, 2, 3, 4, 5, 6, 7, 8, 10], [0, 1, 2, 3, 4, 5, 6, 7, 8, 10, 11], [0, 1, 2, 3, 4, 5, 6, 7, 8], [0, 1, 2, 3, 4, 5, 6, 7, 8, 13], [0, 1, 2, 3, 4, 5, 6, 7, 8, 13, 14], [0, 1, 2, 3, 4, 5, 6, 7, 8, 9, 10, 11, 12, 13, 14, 15], [0, 1, 2, 3, 4, 5, 6, 7, 8, 9, 10, 11, 12, 13, 14, 15, 16], [0, 1, 2, 3, 4, 5, 6, 7, 8, 9, 10, 11, 12, 13, 14, 15, 16, 17]] h (by kernel_rfl) (by kernel_rfl) (by kernel_rfl) ?_
      refine w_load_row 1 h s row46 rfl rfl (ndArr_size _ _ _ _) rfl ?_; intro f h
      refine w_call h fnc38 (fun w9 hE9 => ret_val (.bool true) (nright_any n vs vf w9 (hRs.keep (s.ext.trans hE9)) (hRf.keep (s.ext.trans hE9)) hns hnf) (congrArg Value.bool hr)) rfl rfl ?_; intro f h
      refine w_pure h (ru_move (h.ev rfl)) rfl ?_; intro f h
      refine w_on h rfl rfl rfl ?_
      refine w_pure h (ru_field fld46_1 (h.ev rfl)) rfl ?_; intro f h
      refine w_on h rfl rfl rfl ?_
      refine w_load_at (Has.subL (Has.of_own s 1 rfl) 33 33 (D := mbArr n.pr) (ndArr_pr _ _ _ _)) h row30 rfl (mbArr_size _) rfl ?_; intro f h
      refine w_on h rfl rfl rfl ?_
      refine w_call h fnc75 (fun w9 hE9 => none_any w9) rfl rfl ?_; intro f h
      refine w_on h rfl rfl rfl ?_
      refine w_pure h (ru_val (.bool true) (ru_neqW (eqM _ _) (by kernel_rfl) (by decide) (h.ev rfl) (h.ev rfl) (decide (n.pr = nMb)) (mbEq _ _)) (congrArg Value.bool q0)) rfl ?_; intro f h
      refine w_pure h (ru_pick_t (h.ev rfl) (h.ev rfl)) rfl ?_; intro f h
      refine w_pure h (ru_move (h.ev rfl)) rfl ?_; intro f h
      refine w_on h rfl rfl rfl ?_
      refine w_load_row 0 h s row26 rfl rfl (by first | exact idArr_size _ | exact bytesF_size _ _) rfl ?_; intro f h
      refine w_on h rfl rfl rfl ?_
      refine w_pure h (ru_field fld46_1 (h.ev rfl)) rfl ?_; intro f h
      refine w_on h rfl rfl rfl ?_
      refine w_pure h (ru_field fld30_1 (h.ev rfl)) rfl ?_; intro f h
      refine w_on h rfl rfl rfl ?_
      refine w_load_at (Has.subL (Has.of_own s 1 rfl) 34 32 (D := idArr n.pr.2) (ndArr_pid _ _ _ _)) h row26 rfl (by first | exact idArr_size _ | exact bytesF_size _ _) rfl ?_; intro f h
      refine w_on h rfl rfl rfl ?_
      refine w_pure h (ru_field fld46_0 (h.ev rfl)) rfl ?_; intro f h
      refine w_on h rfl rfl rfl ?_
      refine w_pure h (ru_field fld30_1 (h.ev rfl)) rfl ?_; intro f h
      refine w_on h rfl rfl rfl ?_
      refine w_load_at (Has.subL (Has.of_own s 1 rfl) 1 32 (D := idArr n.me.2) (ndArr_id _ _ _ _)) h row26 rfl (by first | exact idArr_size _ | exact bytesF_size _ _) rfl ?_; intro f h
      refine w_on h rfl rfl rfl ?_
      refine w_call h fnc76 (fun w9 hE9 => in_any _ _ _ w9) rfl rfl ?_; intro f h
      refine w_pure h (ru_pick_t (h.ev rfl) (h.ev rfl)) rfl ?_; intro f h
      refine w_pure h (ru_assign (h.ev rfl)) rfl ?_; intro f h
      refine w_nil s fun w1 s => ?_
      refine s_nil ?_
      refine hK2 _ _ ?_
      refine wpIn_ret ?_
      exact e_tmp rfl h s rfl (by show _ = _; rw [owns_4 hr q0])

theorem nnext_any (n : Nd) (vs vf : Value) (x : Id) (w : World) (hRs : RdZ w vs 33 n.sc.length (mbCells n.sc)) (hRf : RdZ w vf 33 n.fg.length (mbCells n.fg)) (hns : n.sc.length ≤ 400) (hnf : n.fg.length ≤ 400) : Calls Try.prog 45 [.agg (ndArr n.me n.pr vs vf), idV x].toArray w (Ret w (is (.tuple #[.agg (mbArr (nxM n x)), .bool (nxB n x), .int .i64 (nxE n)]))) := by
  refine c_enter Try.func45 rfl Try.ntmps45 rfl [(0, .agg (ndArr n.me n.pr vs vf)), (1, idV x)] (by simp) fun f h => ?_
  have s := St.start w
  refine c_seq fun K1 hK1 => ?_
  refine c_region ?_
  refine s_box (ndArr n.me n.pr vs vf) h s rfl rfl rfl ?_; intro f w1 b2 h s
  refine s_box (idArr x) h s rfl rfl rfl ?_; intro f w1 b3 h s
  refine s_alloc (mbArr zMb) h s zero30 rfl rfl ?_; intro f w1 b4 h s
  refine s_pure h (ru_assign (h.ev rfl)) rfl ?_; intro f h
  refine s_pure h (ru_assign (h.ev rfl)) rfl ?_; intro f h
  refine s_nil ?_
  refine hK1 _ _ ?_
  refine c_seq fun K2 hK2 => ?_
  refine c_seq fun K3 hK3 => ?_
  cases hr : (rightN n : Bool)
  · skip
    refine c_region ?_
    refine s_load_row 2 h s row46 rfl rfl (ndArr_size _ _ _ _) rfl ?_; intro f h
    refine s_call h s fnc38 (ret_val (.bool false) (nright_any n vs vf _ (hRs.keep s.ext) (hRf.keep s.ext) (by omega) (by omega)) (congrArg Value.bool hr)) rfl rfl ?_; intro f w1 v9 hT hE h s; obtain rfl := hT
    refine s_pure h (ru_val (.bool true) (ru_not (h.ev rfl)) rfl) rfl ?_; intro f h
    refine s_nil ?_
    refine hK3 _ _ ?_
    refine wpIn_cond_true (h.ev rfl) ?_
    refine c_seq fun K4 hK4 => ?_
    refine c_region ?_
    refine s_pure h (ru_build_mb0 sttM) rfl ?_; intro f h
    refine s_store_row 0 h s row30 rfl rfl rfl (mbArr_size _) (mbArr_size _) (mbArr_ones _) ?_; intro w1 s
    refine s_pure h (ru_assign (h.ev rfl)) rfl ?_; intro f h
    refine s_pure h (ru_assign (h.ev rfl)) rfl ?_; intro f h
    refine s_nil ?_
    refine hK4 _ _ ?_
    refine wpIn_ret ?_
    refine t_ret ?_
    exact e_row_tmp2 0 rfl h s row30 rfl rfl (mbArr_size _) rfl rfl (by show _ = _; rw [(nx_no x hr).1, (nx_no x hr).2.1, (nx_no x hr).2.2])
  · skip
    refine c_region ?_
    refine s_load_row 2 h s row46 rfl rfl (ndArr_size _ _ _ _) rfl ?_; intro f h
    refine s_call h s fnc38 (ret_val (.bool true) (nright_any n vs vf _ (hRs.keep s.ext) (hRf.keep s.ext) (by omega) (by omega)) (congrArg Value.bool hr)) rfl rfl ?_; intro f w1 v9 hT hE h s; obtain rfl := hT
    refine s_pure h (ru_val (.bool false) (ru_not (h.ev rfl)) rfl) rfl ?_; intro f h
    refine s_nil ?_
    refine hK3 _ _ ?_
    refine wpIn_cond_false (h.ev rfl) ?_
    refine wpIn_skip ?_
    refine hK2 _ _ ?_
    refine c_seq fun K5 hK5 => ?_
    refine c_region ?_
    have hrn := rn_iff.1 hr
    have hl1 := hrn.len
    have hrt := hr
    refine s_pure h (ru_field fld46_2 (h.ev rfl)) rfl ?_; intro f h
    refine s_load_at1 (V := vs) (cell_of_has (Has.of_own s 2 rfl) 66 (ndArr_sc _ _ _ _)) h one40 rfl rfl ?_; intro f h
    refine s_pure h (ru_ixz (hRs.keep s.ext) (0) Try.underlying40 szo30 (h.ev rfl) (h.ev rfl) (by omega) (by omega)) rfl ?_; intro f h
    refine s_load_at ((hRs.keep s.ext).el (0) (by omega) (by decide) (D := mbArr (n.sc.getD 0 zMb)) (mb_elD n.sc 0 (by omega))) h row30 rfl (mbArr_size _) rfl ?_; intro f h
    refine s_alloc (mbArr zMb) h s zero30 rfl rfl ?_; intro f w1 b7 h s
    refine s_store_row 0 h s row30 rfl rfl rfl (mbArr_size _) (mbArr_size _) (mbArr_ones _) ?_; intro w1 s
    refine s_nil ?_
    refine hK5 _ _ ?_
    refine c_seq fun K6 hK6 => ?_
    refine c_seq fun K7 hK7 => ?_
    cases hi : (inB x n.me.2 (n.sc.getD 0 zMb).2 : Bool)
    · skip
      refine c_region ?_
      refine s_load_row 2 h s row26 rfl rfl (by first | exact idArr_size _ | exact bytesF_size _ _) rfl ?_; intro f h
      refine s_pure h (ru_field fld46_0 (h.ev rfl)) rfl ?_; intro f h
      refine s_pure h (ru_field fld30_1 (h.ev rfl)) rfl ?_; intro f h
      refine s_load_at (Has.subL (Has.of_own s 3 rfl) 1 32 (D := idArr n.me.2) (ndArr_id _ _ _ _)) h row26 rfl (by first | exact idArr_size _ | exact bytesF_size _ _) rfl ?_; intro f h
      refine s_pure h (ru_field fld30_1 (h.ev rfl)) rfl ?_; intro f h
      refine s_load_at (Has.subL (Has.of_own s 0 rfl) 1 32 (D := idArr (_)) (mbArr_id _)) h row26 rfl (by first | exact idArr_size _ | exact bytesF_size _ _) rfl ?_; intro f h
      refine s_call h s fnc76 (ret_val (.bool false) (in_any _ _ _ _) (congrArg Value.bool hi)) rfl rfl ?_; intro f w1 v9 hT hE h s; obtain rfl := hT
      refine s_nil ?_
      refine hK7 _ _ ?_
      refine wpIn_cond_false (h.ev rfl) ?_
      refine wpIn_skip ?_
      refine hK6 _ _ ?_
      refine c_seq fun K8 hK8 => ?_
      refine c_regC 0 [[], [], [1], [1, 2], [], [4], [], [6], [4, 5, 6, 7], [4, 5, 6, 7, 8], [0, 1, 2, 3, 4, 5, 6, 7, 8, 9], [0, 1, 2, 3, 4, 5, 6, 7, 8, 9, 10], [0, 1, 2, 3, 4, 5, 6, 7, 8, 9, 10, 11], [0, 1, 2, 3, 4, 5, 6, 7, 8, 9, 10, 11], [], [0, 1, 2, 3, 4, 5, 6, 7, 8, 9, 10, 11, 12, 14], [0, 1, 2, 3, 4, 5, 6, 7, 8, 9, 10, 11, 12, 13, 14, 15]] [[], [], [], [], [], [], [], [], [], [8], [9], [], [], [], [], [14], []] [fun _ => [], fun _ => [], fun _ => [], fun _ => [], fun _ => [], fun _ => [], fun _ => [], fun _ => [], fun v => [.sl (v 8) 40 1 2 [vf, vs]], fun v => [.sl (v 9) 30 33 (n.fg ++ n.sc).length (mbCells (n.fg ++ n.sc))], fun _ => [], fun _ => [], fun _ => [], fun _ => [], fun v => [.blk (pbk (v 14)) (.cells (mbArr zMb) 30)], fun v => [.blk (pbk (v 14)) (.cells (mbArr (csM n.me.2 x (n.fg ++ n.sc))) 30)], fun _ => []] [] [fun v => v 0 = .agg (idArr x), fun v => v 1 = .pointer (some ⟨b2, 0, none⟩), fun v => v 2 = .pointer (some ⟨b2, 1, none⟩), fun v => v 3 = .agg (idArr n.me.2), fun v => v 4 = .pointer (some ⟨b2, 67, none⟩), fun v => v 5 = vf, fun v => v 6 = .pointer (some ⟨b2, 66, none⟩), fun v => v 7 = vs, fun _ => True, fun _ => True, fun v => v 10 = .tuple #[.agg (mbArr (csM n.me.2 x (n.fg ++ n.sc))), .int .i64 (csE n.me.2 x (n.fg ++ n.sc))], fun v => v 11 = .tuple #[.agg (mbArr (csM n.me.2 x (n.fg ++ n.sc))), .int .i64 (csE n.me.2 x (n.fg ++ n.sc))], fun v => v 12 = .agg (mbArr (csM n.me.2 x (n.fg ++ n.sc))), fun v => v 13 = .int .i64 (csE n.me.2 x (n.fg ++ n.sc)), fun v => ∃ b, v 14 = .pointer (some ⟨b, 0, none⟩), fun _ => True, fun v => v 16 = .int .i64 (csE n.me.2 x (n.fg ++ n.sc))] [.blk b7 (.cells ((mbArr (n.sc.getD 0 zMb))) 30), .blk b4 (.cells (mbArr zMb) 30), .blk b3 (.cells (idArr x) 26), .blk b2 (.cells (ndArr n.me n.pr vs vf) 46)] h s rfl (by kernel_rfl) (by kernel_rfl) (by kernel_rfl) (And.intro ?_ (And.intro ?_ (And.intro ?_ (And.intro ?_ (And.intro ?_ (And.intro ?_ (And.intro ?_ (And.intro ?_ (And.intro ?_ (And.intro ?_ (And.intro ?_ (And.intro ?_ (And.intro ?_ (And.intro ?_ (And.intro ?_ (And.intro ?_ (And.intro ?_ (trivial)))))))))))))))))) [0, 1, 2, 3, 4, 5, 6, 7, 10, 11, 12, 13, 15, 16] (by kernel_rfl) ?_
      · intro f9 w2 vl6 E9 hs9 hd9 hl hF s
        have e3 : f9.tmps.getD 3 undef = _ := oc_old hl 3 (by kernel_rfl) (by kernel_rfl) (h.holds 3 _ rfl)
        have h := fin_slot [(3, _)] (hs9.trans h.size) (hd9.trans h.defers) (holds_lk ⟨e3, trivial⟩)
        replace s : St w (.blk b7 (.cells ((mbArr (n.sc.getD 0 zMb))) 30) :: .blk b4 (.cells (mbArr zMb) 30) :: .blk b3 (.cells (idArr x) 26) :: .blk b2 (.cells (ndArr n.me n.pr vs vf) 46) :: E9) _ := s
        refine s_load_row 2 h s row26 rfl rfl (by first | exact idArr_size _ | exact bytesF_size _ _) rfl ?_; intro f h
        exact s_nil ⟨_, oc_out 27 rfl (h.holds 27 _ rfl), rfl, s⟩
      · intro f9 w2 vl6 E9 hs9 hd9 hl hF s
        have e2 : f9.tmps.getD 2 undef = _ := oc_old hl 2 (by kernel_rfl) (by kernel_rfl) (h.holds 2 _ rfl)
        have h := fin_slot [(2, _)] (hs9.trans h.size) (hd9.trans h.defers) (holds_lk ⟨e2, trivial⟩)
        replace s : St w (.blk b7 (.cells ((mbArr (n.sc.getD 0 zMb))) 30) :: .blk b4 (.cells (mbArr zMb) 30) :: .blk b3 (.cells (idArr x) 26) :: .blk b2 (.cells (ndArr n.me n.pr vs vf) 46) :: E9) _ := s
        refine s_pure h (ru_field fld46_0 (h.ev rfl)) rfl ?_; intro f h
        exact s_nil ⟨_, oc_out 28 rfl (h.holds 28 _ rfl), rfl, s⟩
      · intro f9 w2 vl6 E9 hs9 hd9 hl hF s
        have e28 : f9.tmps.getD 28 undef = .pointer (some ⟨b2, 0, none⟩) := (oc_get hl 28 1 (by kernel_rfl) (by kernel_rfl)).trans (hF 1 (by decide))
        have h := fin_slot [(28, .pointer (some ⟨b2, 0, none⟩))] (hs9.trans h.size) (hd9.trans h.defers) (holds_lk ⟨e28, trivial⟩)
        replace s : St w (.blk b7 (.cells ((mbArr (n.sc.getD 0 zMb))) 30) :: .blk b4 (.cells (mbArr zMb) 30) :: .blk b3 (.cells (idArr x) 26) :: .blk b2 (.cells (ndArr n.me n.pr vs vf) 46) :: E9) _ := s
        refine s_pure h (ru_field fld30_1 (h.ev rfl)) rfl ?_; intro f h
        exact s_nil ⟨_, oc_out 29 rfl (h.holds 29 _ rfl), rfl, s⟩
      · intro f9 w2 vl6 E9 hs9 hd9 hl hF s
        have e29 : f9.tmps.getD 29 undef = .pointer (some ⟨b2, 1, none⟩) := (oc_get hl 29 2 (by kernel_rfl) (by kernel_rfl)).trans (hF 2 (by decide))
        have h := fin_slot [(29, .pointer (some ⟨b2, 1, none⟩))] (hs9.trans h.size) (hd9.trans h.defers) (holds_lk ⟨e29, trivial⟩)
        replace s : St w (.blk b7 (.cells ((mbArr (n.sc.getD 0 zMb))) 30) :: .blk b4 (.cells (mbArr zMb) 30) :: .blk b3 (.cells (idArr x) 26) :: .blk b2 (.cells (ndArr n.me n.pr vs vf) 46) :: E9) _ := s
        refine s_load_at (Has.subL (Has.of_own s 3 rfl) 1 32 (D := idArr n.me.2) (ndArr_id _ _ _ _)) h row26 rfl (by first | exact idArr_size _ | exact bytesF_size _ _) rfl ?_; intro f h
        exact s_nil ⟨_, oc_out 30 rfl (h.holds 30 _ rfl), rfl, s⟩
      · intro f9 w2 vl6 E9 hs9 hd9 hl hF s
        have e2 : f9.tmps.getD 2 undef = _ := oc_old hl 2 (by kernel_rfl) (by kernel_rfl) (h.holds 2 _ rfl)
        have h := fin_slot [(2, _)] (hs9.trans h.size) (hd9.trans h.defers) (holds_lk ⟨e2, trivial⟩)
        replace s : St w (.blk b7 (.cells ((mbArr (n.sc.getD 0 zMb))) 30) :: .blk b4 (.cells (mbArr zMb) 30) :: .blk b3 (.cells (idArr x) 26) :: .blk b2 (.cells (ndArr n.me n.pr vs vf) 46) :: E9) _ := s
        refine s_pure h (ru_field fld46_3 (h.ev rfl)) rfl ?_; intro f h
        exact s_nil ⟨_, oc_out 31 rfl (h.holds 31 _ rfl), rfl, s⟩
      · intro f9 w2 vl6 E9 hs9 hd9 hl hF s
        have e31 : f9.tmps.getD 31 undef = .pointer (some ⟨b2, 67, none⟩) := (oc_get hl 31 4 (by kernel_rfl) (by kernel_rfl)).trans (hF 4 (by decide))
        have h := fin_slot [(31, .pointer (some ⟨b2, 67, none⟩))] (hs9.trans h.size) (hd9.trans h.defers) (holds_lk ⟨e31, trivial⟩)
        replace s : St w (.blk b7 (.cells ((mbArr (n.sc.getD 0 zMb))) 30) :: .blk b4 (.cells (mbArr zMb) 30) :: .blk b3 (.cells (idArr x) 26) :: .blk b2 (.cells (ndArr n.me n.pr vs vf) 46) :: E9) _ := s
        refine s_load_at1 (V := vf) (cell_of_has (Has.of_own s 3 rfl) 67 (ndArr_fg _ _ _ _)) h one40 rfl rfl ?_; intro f h
        exact s_nil ⟨_, oc_out 32 rfl (h.holds 32 _ rfl), rfl, s⟩
      · intro f9 w2 vl6 E9 hs9 hd9 hl hF s
        have e2 : f9.tmps.getD 2 undef = _ := oc_old hl 2 (by kernel_rfl) (by kernel_rfl) (h.holds 2 _ rfl)
        have h := fin_slot [(2, _)] (hs9.trans h.size) (hd9.trans h.defers) (holds_lk ⟨e2, trivial⟩)
        replace s : St w (.blk b7 (.cells ((mbArr (n.sc.getD 0 zMb))) 30) :: .blk b4 (.cells (mbArr zMb) 30) :: .blk b3 (.cells (idArr x) 26) :: .blk b2 (.cells (ndArr n.me n.pr vs vf) 46) :: E9) _ := s
        refine s_pure h (ru_field fld46_2 (h.ev rfl)) rfl ?_; intro f h
        exact s_nil ⟨_, oc_out 33 rfl (h.holds 33 _ rfl), rfl, s⟩
      · intro f9 w2 vl6 E9 hs9 hd9 hl hF s
        have e33 : f9.tmps.getD 33 undef = .pointer (some ⟨b2, 66, none⟩) := (oc_get hl 33 6 (by kernel_rfl) (by kernel_rfl)).trans (hF 6 (by decide))
        have h := fin_slot [(33, .pointer (some ⟨b2, 66, none⟩))] (hs9.trans h.size) (hd9.trans h.defers) (holds_lk ⟨e33, trivial⟩)
        replace s : St w (.blk b7 (.cells ((mbArr (n.sc.getD 0 zMb))) 30) :: .blk b4 (.cells (mbArr zMb) 30) :: .blk b3 (.cells (idArr x) 26) :: .blk b2 (.cells (ndArr n.me n.pr vs vf) 46) :: E9) _ := s
        refine s_load_at1 (V := vs) (cell_of_has (Has.of_own s 3 rfl) 66 (ndArr_sc _ _ _ _)) h one40 rfl rfl ?_; intro f h
        exact s_nil ⟨_, oc_out 34 rfl (h.holds 34 _ rfl), rfl, s⟩
      · intro f9 w2 vl6 E9 hs9 hd9 hl hF s
        have e32 : f9.tmps.getD 32 undef = vf := (oc_get hl 32 5 (by kernel_rfl) (by kernel_rfl)).trans (hF 5 (by decide))
        have e34 : f9.tmps.getD 34 undef = vs := (oc_get hl 34 7 (by kernel_rfl) (by kernel_rfl)).trans (hF 7 (by decide))
        have h := fin_slot [(32, vf), (34, vs)] (hs9.trans h.size) (hd9.trans h.defers) (holds_lk ⟨e32, e34, trivial⟩)
        replace s : St w (.blk b7 (.cells ((mbArr (n.sc.getD 0 zMb))) 30) :: .blk b4 (.cells (mbArr zMb) 30) :: .blk b3 (.cells (idArr x) 26) :: .blk b2 (.cells (ndArr n.me n.pr vs vf) 46) :: E9) _ := s
        refine s_bslice (vs := [vf, vs]) [.tmp 32, .tmp 34] h s Try.underlying127 elm40 rfl rfl (by intro v hv; simp only [List.mem_cons, List.not_mem_nil, or_false] at hv; rcases hv with rfl | rfl; exact rd_size hRf; exact rd_size hRs) rfl rfl rfl ?_; intro f w1 v35 h s
        replace s := s.resl (m := 2) (ys := [vf, vs]) 0 rfl rfl (by simp [rd_cells hRf, rd_cells hRs])
        exact s_nil ⟨_, oc_out 35 rfl (h.holds 35 _ rfl), trivial, s⟩
      · intro f9 w2 vl6 E9 hs9 hd9 hl hF s
        have e35 : f9.tmps.getD 35 undef = (vl6 8) := oc_get hl 35 8 (by kernel_rfl) (by kernel_rfl)
        have h := fin_slot [(35, (vl6 8))] (hs9.trans h.size) (hd9.trans h.defers) (holds_lk ⟨e35, trivial⟩)
        replace s : St w (.sl (vl6 8) 40 1 2 [vf, vs] :: .blk b7 (.cells ((mbArr (n.sc.getD 0 zMb))) 30) :: .blk b4 (.cells (mbArr zMb) 30) :: .blk b3 (.cells (idArr x) 26) :: .blk b2 (.cells (ndArr n.me n.pr vs vf) 46) :: E9) _ := s
        refine s_call h s fnc78 (mconcat_any (vl6 8) [vf, vs] [n.fg, n.sc] rfl (by rw [two_flat, List.length_append]; omega) (by show 2 ≤ 1000; omega) _ (RdZ.of_own (s.getSl 0 rfl)) (twoM_rd (hRf.keep s.ext) (hRs.keep s.ext))) rfl rfl ?_; intro f w1 v36 hT hE h sq; replace s := s.sl_new hE (hT.seq (m := (n.fg ++ n.sc).length) (ys := mbCells (n.fg ++ n.sc)) (by rw [two_flat]) (by rw [two_flat]))
        exact s_nil ⟨_, oc_out 36 rfl (h.holds 36 _ rfl), trivial, (s.pick _ (List.Sublist.cons_cons _ (List.Sublist.cons _ (List.Sublist.cons_cons _ (List.Sublist.cons_cons _ (List.Sublist.cons_cons _ (List.Sublist.cons_cons _ (List.Sublist.refl _))))))))⟩
      · intro f9 w2 vl6 E9 hs9 hd9 hl hF s
        have e27 : f9.tmps.getD 27 undef = .agg (idArr x) := (oc_get hl 27 0 (by kernel_rfl) (by kernel_rfl)).trans (hF 0 (by decide))
        have e30 : f9.tmps.getD 30 undef = .agg (idArr n.me.2) := (oc_get hl 30 3 (by kernel_rfl) (by kernel_rfl)).trans (hF 3 (by decide))
        have e36 : f9.tmps.getD 36 undef = (vl6 9) := oc_get hl 36 9 (by kernel_rfl) (by kernel_rfl)
        have h := fin_slot [(27, .agg (idArr x)), (30, .agg (idArr n.me.2)), (36, (vl6 9))] (hs9.trans h.size) (hd9.trans h.defers) (holds_lk ⟨e27, e30, e36, trivial⟩)
        replace s : St w (.sl (vl6 9) 30 33 (n.fg ++ n.sc).length (mbCells (n.fg ++ n.sc)) :: .blk b7 (.cells ((mbArr (n.sc.getD 0 zMb))) 30) :: .blk b4 (.cells (mbArr zMb) 30) :: .blk b3 (.cells (idArr x) 26) :: .blk b2 (.cells (ndArr n.me n.pr vs vf) 46) :: E9) _ := s
        refine s_call h s fnc77 (closest_any (n.fg ++ n.sc) (vl6 9) x n.me.2 _ (RdZ.of_own (s.getSl 0 rfl)) (by rw [List.length_append]; omega)) rfl rfl ?_; intro f w1 v9 hT hE h s; obtain rfl := hT
        exact s_nil ⟨_, oc_out 37 rfl (h.holds 37 _ rfl), rfl, (s.pick _ (List.Sublist.cons _ (List.Sublist.cons_cons _ (List.Sublist.cons_cons _ (List.Sublist.cons_cons _ (List.Sublist.cons_cons _ (List.Sublist.refl _)))))))⟩
      · intro f9 w2 vl6 E9 hs9 hd9 hl hF s
        have e37 : f9.tmps.getD 37 undef = .tuple #[.agg (mbArr (csM n.me.2 x (n.fg ++ n.sc))), .int .i64 (csE n.me.2 x (n.fg ++ n.sc))] := (oc_get hl 37 10 (by kernel_rfl) (by kernel_rfl)).trans (hF 10 (by decide))
        have h := fin_slot [(37, .tuple #[.agg (mbArr (csM n.me.2 x (n.fg ++ n.sc))), .int .i64 (csE n.me.2 x (n.fg ++ n.sc))])] (hs9.trans h.size) (hd9.trans h.defers) (holds_lk ⟨e37, trivial⟩)
        replace s : St w (.blk b7 (.cells ((mbArr (n.sc.getD 0 zMb))) 30) :: .blk b4 (.cells (mbArr zMb) 30) :: .blk b3 (.cells (idArr x) 26) :: .blk b2 (.cells (ndArr n.me n.pr vs vf) 46) :: E9) _ := s
        refine s_pure h (ru_move (h.ev rfl)) rfl ?_; intro f h
        exact s_nil ⟨_, oc_out 26 rfl (h.holds 26 _ rfl), rfl, s⟩
      · intro f9 w2 vl6 E9 hs9 hd9 hl hF s
        have e26 : f9.tmps.getD 26 undef = .tuple #[.agg (mbArr (csM n.me.2 x (n.fg ++ n.sc))), .int .i64 (csE n.me.2 x (n.fg ++ n.sc))] := (oc_get hl 26 11 (by kernel_rfl) (by kernel_rfl)).trans (hF 11 (by decide))
        have h := fin_slot [(26, .tuple #[.agg (mbArr (csM n.me.2 x (n.fg ++ n.sc))), .int .i64 (csE n.me.2 x (n.fg ++ n.sc))])] (hs9.trans h.size) (hd9.trans h.defers) (holds_lk ⟨e26, trivial⟩)
        replace s : St w (.blk b7 (.cells ((mbArr (n.sc.getD 0 zMb))) 30) :: .blk b4 (.cells (mbArr zMb) 30) :: .blk b3 (.cells (idArr x) 26) :: .blk b2 (.cells (ndArr n.me n.pr vs vf) 46) :: E9) _ := s
        refine s_pure h (ru_extract (h.ev rfl) rfl) rfl ?_; intro f h
        exact s_nil ⟨_, oc_out 38 rfl (h.holds 38 _ rfl), rfl, s⟩
      · intro f9 w2 vl6 E9 hs9 hd9 hl hF s
        have e26 : f9.tmps.getD 26 undef = .tuple #[.agg (mbArr (csM n.me.2 x (n.fg ++ n.sc))), .int .i64 (csE n.me.2 x (n.fg ++ n.sc))] := (oc_get hl 26 11 (by kernel_rfl) (by kernel_rfl)).trans (hF 11 (by decide))
        have h := fin_slot [(26, .tuple #[.agg (mbArr (csM n.me.2 x (n.fg ++ n.sc))), .int .i64 (csE n.me.2 x (n.fg ++ n.sc))])] (hs9.trans h.size) (hd9.trans h.defers) (holds_lk ⟨e26, trivial⟩)
        replace s : St w (.blk b7 (.cells ((mbArr (n.sc.getD 0 zMb))) 30) :: .blk b4 (.cells (mbArr zMb) 30) :: .blk b3 (.cells (idArr x) 26) :: .blk b2 (.cells (ndArr n.me n.pr vs vf) 46) :: E9) _ := s
        refine s_pure h (ru_extract (h.ev rfl) rfl) rfl ?_; intro f h
        exact s_nil ⟨_, oc_out 39 rfl (h.holds 39 _ rfl), rfl, s⟩
      · intro f9 w2 vl6 E9 hs9 hd9 hl hF s
        have h := fin_slot [] (hs9.trans h.size) (hd9.trans h.defers) (holds_lk trivial)
        replace s : St w (.blk b7 (.cells ((mbArr (n.sc.getD 0 zMb))) 30) :: .blk b4 (.cells (mbArr zMb) 30) :: .blk b3 (.cells (idArr x) 26) :: .blk b2 (.cells (ndArr n.me n.pr vs vf) 46) :: E9) _ := s
        refine s_alloc (mbArr zMb) h s zero30 rfl rfl ?_; intro f w1 b8 h s
        exact s_nil ⟨_, oc_out 8 rfl (h.holds 8 _ rfl), ⟨_, rfl⟩, s⟩
      · intro f9 w2 vl6 E9 hs9 hd9 hl hF s
        obtain ⟨b8, hb8⟩ : ∃ b, vl6 14 = .pointer (some ⟨b, 0, none⟩) := hF 14 (by decide)
        have e8 : f9.tmps.getD 8 undef = .pointer (some ⟨b8, 0, none⟩) := (oc_get hl 8 14 (by kernel_rfl) (by kernel_rfl)).trans hb8
        have e38 : f9.tmps.getD 38 undef = .agg (mbArr (csM n.me.2 x (n.fg ++ n.sc))) := (oc_get hl 38 12 (by kernel_rfl) (by kernel_rfl)).trans (hF 12 (by decide))
        have h := fin_slot [(8, .pointer (some ⟨b8, 0, none⟩)), (38, .agg (mbArr (csM n.me.2 x (n.fg ++ n.sc))))] (hs9.trans h.size) (hd9.trans h.defers) (holds_lk ⟨e8, e38, trivial⟩)
        replace s : St w (.blk (pbk (vl6 14)) (.cells (mbArr zMb) 30) :: .blk b7 (.cells ((mbArr (n.sc.getD 0 zMb))) 30) :: .blk b4 (.cells (mbArr zMb) 30) :: .blk b3 (.cells (idArr x) 26) :: .blk b2 (.cells (ndArr n.me n.pr vs vf) 46) :: E9) _ := s
        rw [hb8] at s
        replace s : St w (.blk b8 (.cells (mbArr zMb) 30) :: .blk b7 (.cells ((mbArr (n.sc.getD 0 zMb))) 30) :: .blk b4 (.cells (mbArr zMb) 30) :: .blk b3 (.cells (idArr x) 26) :: .blk b2 (.cells (ndArr n.me n.pr vs vf) 46) :: E9) _ := s
        refine s_store_row 0 h s row30 rfl rfl rfl (mbArr_size _) (mbArr_size _) (mbArr_ones _) ?_; intro w1 s
        refine s_nil ⟨undef, oc_none rfl, trivial, ?_⟩
        have z := s
        rw [← show pbk (vl6 14) = b8 from by rw [hb8]; rfl] at z
        exact z
      · intro f9 w2 vl6 E9 hs9 hd9 hl hF s
        have e39 : f9.tmps.getD 39 undef = .int .i64 (csE n.me.2 x (n.fg ++ n.sc)) := (oc_get hl 39 13 (by kernel_rfl) (by kernel_rfl)).trans (hF 13 (by decide))
        have h := fin_slot [(39, .int .i64 (csE n.me.2 x (n.fg ++ n.sc)))] (hs9.trans h.size) (hd9.trans h.defers) (holds_lk ⟨e39, trivial⟩)
        replace s : St w (.blk b7 (.cells ((mbArr (n.sc.getD 0 zMb))) 30) :: .blk b4 (.cells (mbArr zMb) 30) :: .blk b3 (.cells (idArr x) 26) :: .blk b2 (.cells (ndArr n.me n.pr vs vf) 46) :: E9) _ := s
        refine s_pure h (ru_assign (h.ev rfl)) rfl ?_; intro f h
        exact s_nil ⟨_, oc_out 9 rfl (h.holds 9 _ rfl), rfl, s⟩
      intro f w1 vl6 hs9 hd9 hv hr hF s
      obtain ⟨b8, hb8⟩ : ∃ b, vl6 14 = .pointer (some ⟨b, 0, none⟩) := hF 14 (by kernel_rfl)
      replace h := oc_sl (ops := _) [(27, .agg (idArr x)), (28, .pointer (some ⟨b2, 0, none⟩)), (29, .pointer (some ⟨b2, 1, none⟩)), (30, .agg (idArr n.me.2)), (31, .pointer (some ⟨b2, 67, none⟩)), (32, vf), (33, .pointer (some ⟨b2, 66, none⟩)), (34, vs), (35, (vl6 8)), (36, (vl6 9)), (37, .tuple #[.agg (mbArr (csM n.me.2 x (n.fg ++ n.sc))), .int .i64 (csE n.me.2 x (n.fg ++ n.sc))]), (26, .tuple #[.agg (mbArr (csM n.me.2 x (n.fg ++ n.sc))), .int .i64 (csE n.me.2 x (n.fg ++ n.sc))]), (38, .agg (mbArr (csM n.me.2 x (n.fg ++ n.sc)))), (39, .int .i64 (csE n.me.2 x (n.fg ++ n.sc))), (8, .pointer (some ⟨b8, 0, none⟩)), (9, .int .i64 (csE n.me.2 x (n.fg ++ n.sc)))] h hs9 hd9 hr ⟨(hv 0 27 rfl).trans (hF 0 (by kernel_rfl)), (hv 1 28 rfl).trans (hF 1 (by kernel_rfl)), (hv 2 29 rfl).trans (hF 2 (by kernel_rfl)), (hv 3 30 rfl).trans (hF 3 (by kernel_rfl)), (hv 4 31 rfl).trans (hF 4 (by kernel_rfl)), (hv 5 32 rfl).trans (hF 5 (by kernel_rfl)), (hv 6 33 rfl).trans (hF 6 (by kernel_rfl)), (hv 7 34 rfl).trans (hF 7 (by kernel_rfl)), hv 8 35 rfl, hv 9 36 rfl, (hv 10 37 rfl).trans (hF 10 (by kernel_rfl)), (hv 11 26 rfl).trans (hF 11 (by kernel_rfl)), (hv 12 38 rfl).trans (hF 12 (by kernel_rfl)), (hv 13 39 rfl).trans (hF 13 (by kernel_rfl)), (hv 14 8 rfl).trans hb8, (hv 16 9 rfl).trans (hF 16 (by kernel_rfl)), trivial⟩ (by kernel_rfl)
      replace s : St w [.blk (pbk (vl6 14)) (.cells (mbArr (csM n.me.2 x (n.fg ++ n.sc))) 30), .blk b7 (.cells ((mbArr (n.sc.getD 0 zMb))) 30), .blk b4 (.cells (mbArr zMb) 30), .blk b3 (.cells (idArr x) 26), .blk b2 (.cells (ndArr n.me n.pr vs vf) 46)] _ := s
      rw [hb8] at s
      replace s : St w [.blk b8 (.cells (mbArr (csM n.me.2 x (n.fg ++ n.sc))) 30), .blk b7 (.cells ((mbArr (n.sc.getD 0 zMb))) 30), .blk b4 (.cells (mbArr zMb) 30), .blk b3 (.cells (idArr x) 26), .blk b2 (.cells (ndArr n.me n.pr vs vf) 46)] _ := s
      refine hK8 _ _ ?_
      refine c_seq fun K9 hK9 => ?_
      refine c_seq fun K10 hK10 => ?_
      refine c_region ?_
      refine s_pure h (ru_move (h.ev rfl)) rfl ?_; intro f h
      refine s_pure h (ru_neq (h.ev rfl) (h.ev rfl)) rfl ?_; intro f h
      refine s_nil ?_
      refine hK10 _ _ ?_
      refine c_cond h rfl (fun hc => ?_) (fun hc => ?_)
      · have h0 : ¬ (csE n.me.2 x (n.fg ++ n.sc)) = 0 := by simpa using hc
        refine c_seq fun K11 hK11 => ?_
        refine c_region ?_
        refine s_load_row 1 h s row30 rfl rfl (mbArr_size _) rfl ?_; intro f h
        refine s_store_row 2 h s row30 rfl rfl rfl (mbArr_size _) (mbArr_size _) (mbArr_ones _) ?_; intro w1 s
        refine s_pure h (ru_assign (h.ev rfl)) rfl ?_; intro f h
        refine s_pure h (ru_assign (h.ev rfl)) rfl ?_; intro f h
        refine s_nil ?_
        refine hK11 _ _ ?_
        refine wpIn_ret ?_
        refine t_ret ?_
        exact e_row_tmp2 2 rfl h s row30 rfl rfl (mbArr_size _) rfl rfl (by show _ = _; rw [(nx_cls hrt hi).1, (nx_cls hrt hi).2.1, (nx_cls hrt hi).2.2, nxC_n h0])
      · have h0 : (csE n.me.2 x (n.fg ++ n.sc)) = 0 := by simpa using hc
        refine wpIn_skip ?_
        refine hK9 _ _ ?_
        refine c_seq fun K12 hK12 => ?_
        refine c_region ?_
        refine s_load_row 0 h s row30 rfl rfl (mbArr_size _) rfl ?_; intro f h
        refine s_store_row 2 h s row30 rfl rfl rfl (mbArr_size _) (mbArr_size _) (mbArr_ones _) ?_; intro w1 s
        refine s_pure h (ru_assign (h.ev rfl)) rfl ?_; intro f h
        refine s_pure h (ru_assign (h.ev rfl)) rfl ?_; intro f h
        refine s_nil ?_
        refine hK12 _ _ ?_
        refine wpIn_ret ?_
        exact e_row_tmp2 2 rfl h s row30 rfl rfl (mbArr_size _) rfl rfl (by show _ = _; rw [(nx_cls hrt hi).1, (nx_cls hrt hi).2.1, (nx_cls hrt hi).2.2, nxC_y h0])
    · skip
      refine c_region ?_
      refine s_load_row 2 h s row26 rfl rfl (by first | exact idArr_size _ | exact bytesF_size _ _) rfl ?_; intro f h
      refine s_pure h (ru_field fld46_0 (h.ev rfl)) rfl ?_; intro f h
      refine s_pure h (ru_field fld30_1 (h.ev rfl)) rfl ?_; intro f h
      refine s_load_at (Has.subL (Has.of_own s 3 rfl) 1 32 (D := idArr n.me.2) (ndArr_id _ _ _ _)) h row26 rfl (by first | exact idArr_size _ | exact bytesF_size _ _) rfl ?_; intro f h
      refine s_pure h (ru_field fld30_1 (h.ev rfl)) rfl ?_; intro f h
      refine s_load_at (Has.subL (Has.of_own s 0 rfl) 1 32 (D := idArr (_)) (mbArr_id _)) h row26 rfl (by first | exact idArr_size _ | exact bytesF_size _ _) rfl ?_; intro f h
      refine s_call h s fnc76 (ret_val (.bool true) (in_any _ _ _ _) (congrArg Value.bool hi)) rfl rfl ?_; intro f w1 v9 hT hE h s; obtain rfl := hT
      refine s_nil ?_
      refine hK7 _ _ ?_
      refine wpIn_cond_true (h.ev rfl) ?_
      refine c_seq fun K13 hK13 => ?_
      refine c_region ?_
      refine s_load_row 0 h s row30 rfl rfl (mbArr_size _) rfl ?_; intro f h
      refine s_store_row 1 h s row30 rfl rfl rfl (mbArr_size _) (mbArr_size _) (mbArr_ones _) ?_; intro w1 s
      refine s_pure h (ru_assign (h.ev rfl)) rfl ?_; intro f h
      refine s_pure h (ru_assign (h.ev rfl)) rfl ?_; intro f h
      refine s_nil ?_
      refine hK13 _ _ ?_
      refine wpIn_ret ?_
      refine t_ret ?_
      exact e_row_tmp2 1 rfl h s row30 rfl rfl (mbArr_size _) rfl rfl (by show _ = _; rw [(nx_first hr hi).1, (nx_first hr hi).2.1, (nx_first hr hi).2.2])
end Go.Proofs.Ytndbijifgalpbaa
