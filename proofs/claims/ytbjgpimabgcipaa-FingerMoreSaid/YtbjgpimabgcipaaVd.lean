/- What Closest of package finger answers: for all lists of at most 1000 members and two identifiers; and what the laws call of their own: few, alive. -/
import Derived.Test.YtbjgpimabgcipaaVb
set_option linter.unusedVariables false
set_option linter.unusedSimpArgs false
set_option linter.unusedSectionVars false
namespace Go.Proofs.Ytbjgpimabgcipaa
open Go.RowKit
theorem clsf_any (x : Mb) (t9 s9 : Id) (bt bs : Nat) (w : World) (ht : Tab w bt (idArr t9)) (hs9 : Tab w bs (idArr s9)) : Calls Try.prog 31 [.agg (mbArr x), .pointer (some ⟨bt, 0, none⟩), .pointer (some ⟨bs, 0, none⟩)].toArray w (Ret w (is (.bool (btw s9 t9 x)))) := by
  refine c_enter Try.func31 rfl Try.ntmps31 rfl [(0, .agg (mbArr x)), (1, .pointer (some ⟨bt, 0, none⟩)), (2, .pointer (some ⟨bs, 0, none⟩))] (by simp) fun f h => ?_
  have s := St.start w
  refine c_seq fun K1 hK1 => ?_
  refine c_region ?_
  refine s_box ((mbArr x)) h s rfl rfl rfl ?_; intro f w1 b3 h s
  refine s_pure h (ru_assign (h.ev rfl)) rfl ?_; intro f h
  refine s_nil ?_
  refine hK1 _ _ ?_
  refine c_seq fun K2 hK2 => ?_
  cases q0 : (decide (x.2 ≠ t9) : Bool)
  · skip
    refine c_region ?_
    refine s_pure h (ru_field fld26_1 (h.ev rfl)) rfl ?_; intro f h
    refine s_load_at (Has.subL (Has.of_own s 0 rfl) 1 32 (D := idArr (_)) (mbArr_id _)) h row24 rfl (by first | exact idArr_size _ | exact bytesF_size _ _) rfl ?_; intro f h
    refine s_load_at (Has.subL (Has.of_tab (ht.keep s.ext)) 0 32 (D := idArr t9) (idArr_ext _)) h row24 rfl (by first | exact idArr_size _ | exact bytesF_size _ _) rfl ?_; intro f h
    refine s_pure h (ru_val (.bool false) (ru_neq_id idTy (h.ev rfl) (h.ev rfl)) (congrArg Value.bool q0)) rfl ?_; intro f h
    refine s_pure h (ru_move (h.ev rfl)) rfl ?_; intro f h
    refine s_off (b := true) h rfl rfl rfl rfl ?_; intro f h
    refine s_off (b := true) h rfl rfl rfl rfl ?_; intro f h
    refine s_off (b := true) h rfl rfl rfl rfl ?_; intro f h
    refine s_off (b := true) h rfl rfl rfl rfl ?_; intro f h
    refine s_pure h (ru_pick_f (h.ev rfl) (h.ev rfl)) rfl ?_; intro f h
    refine s_pure h (ru_move (h.ev rfl)) rfl ?_; intro f h
    refine s_off (b := true) h rfl rfl rfl rfl ?_; intro f h
    refine s_off (b := true) h rfl rfl rfl rfl ?_; intro f h
    refine s_off (b := true) h rfl rfl rfl rfl ?_; intro f h
    refine s_off (b := true) h rfl rfl rfl rfl ?_; intro f h
    refine s_off (b := true) h rfl rfl rfl rfl ?_; intro f h
    refine s_pure h (ru_pick_f (h.ev rfl) (h.ev rfl)) rfl ?_; intro f h
    refine s_pure h (ru_assign (h.ev rfl)) rfl ?_; intro f h
    refine s_nil ?_
    refine hK2 _ _ ?_
    refine wpIn_ret ?_
    exact e_tmp rfl h s rfl (by show _ = _; rw [btw_0 q0])
  · skip
    cases q1 : (decide (x.2 ≠ s9) : Bool)
    · skip
      refine c_region ?_
      refine s_pure h (ru_field fld26_1 (h.ev rfl)) rfl ?_; intro f h
      refine s_load_at (Has.subL (Has.of_own s 0 rfl) 1 32 (D := idArr (_)) (mbArr_id _)) h row24 rfl (by first | exact idArr_size _ | exact bytesF_size _ _) rfl ?_; intro f h
      refine s_load_at (Has.subL (Has.of_tab (ht.keep s.ext)) 0 32 (D := idArr t9) (idArr_ext _)) h row24 rfl (by first | exact idArr_size _ | exact bytesF_size _ _) rfl ?_; intro f h
      refine s_pure h (ru_val (.bool true) (ru_neq_id idTy (h.ev rfl) (h.ev rfl)) (congrArg Value.bool q0)) rfl ?_; intro f h
      refine s_pure h (ru_move (h.ev rfl)) rfl ?_; intro f h
      refine s_on h rfl rfl rfl ?_
      refine s_pure h (ru_field fld26_1 (h.ev rfl)) rfl ?_; intro f h
      refine s_on h rfl rfl rfl ?_
      refine s_load_at (Has.subL (Has.of_own s 0 rfl) 1 32 (D := idArr (_)) (mbArr_id _)) h row24 rfl (by first | exact idArr_size _ | exact bytesF_size _ _) rfl ?_; intro f h
      refine s_on h rfl rfl rfl ?_
      refine s_load_at (Has.subL (Has.of_tab (hs9.keep s.ext)) 0 32 (D := idArr s9) (idArr_ext _)) h row24 rfl (by first | exact idArr_size _ | exact bytesF_size _ _) rfl ?_; intro f h
      refine s_on h rfl rfl rfl ?_
      refine s_pure h (ru_val (.bool false) (ru_neq_id idTy (h.ev rfl) (h.ev rfl)) (congrArg Value.bool q1)) rfl ?_; intro f h
      refine s_pure h (ru_pick_t (h.ev rfl) (h.ev rfl)) rfl ?_; intro f h
      refine s_pure h (ru_move (h.ev rfl)) rfl ?_; intro f h
      refine s_off (b := true) h rfl rfl rfl rfl ?_; intro f h
      refine s_off (b := true) h rfl rfl rfl rfl ?_; intro f h
      refine s_off (b := true) h rfl rfl rfl rfl ?_; intro f h
      refine s_off (b := true) h rfl rfl rfl rfl ?_; intro f h
      refine s_off (b := true) h rfl rfl rfl rfl ?_; intro f h
      refine s_pure h (ru_pick_f (h.ev rfl) (h.ev rfl)) rfl ?_; intro f h
      refine s_pure h (ru_assign (h.ev rfl)) rfl ?_; intro f h
      refine s_nil ?_
      refine hK2 _ _ ?_
      refine wpIn_ret ?_
      exact e_tmp rfl h s rfl (by show _ = _; rw [btw_1 q1])
    · skip
      refine c_region ?_
      refine s_pure h (ru_field fld26_1 (h.ev rfl)) rfl ?_; intro f h
      refine s_load_at (Has.subL (Has.of_own s 0 rfl) 1 32 (D := idArr (_)) (mbArr_id _)) h row24 rfl (by first | exact idArr_size _ | exact bytesF_size _ _) rfl ?_; intro f h
      refine s_load_at (Has.subL (Has.of_tab (ht.keep s.ext)) 0 32 (D := idArr t9) (idArr_ext _)) h row24 rfl (by first | exact idArr_size _ | exact bytesF_size _ _) rfl ?_; intro f h
      refine s_pure h (ru_val (.bool true) (ru_neq_id idTy (h.ev rfl) (h.ev rfl)) (congrArg Value.bool q0)) rfl ?_; intro f h
      refine s_pure h (ru_move (h.ev rfl)) rfl ?_; intro f h
      refine s_on h rfl rfl rfl ?_
      refine s_pure h (ru_field fld26_1 (h.ev rfl)) rfl ?_; intro f h
      refine s_on h rfl rfl rfl ?_
      refine s_load_at (Has.subL (Has.of_own s 0 rfl) 1 32 (D := idArr (_)) (mbArr_id _)) h row24 rfl (by first | exact idArr_size _ | exact bytesF_size _ _) rfl ?_; intro f h
      refine s_on h rfl rfl rfl ?_
      refine s_load_at (Has.subL (Has.of_tab (hs9.keep s.ext)) 0 32 (D := idArr s9) (idArr_ext _)) h row24 rfl (by first | exact idArr_size _ | exact bytesF_size _ _) rfl ?_; intro f h
      refine s_on h rfl rfl rfl ?_
      refine s_pure h (ru_val (.bool true) (ru_neq_id idTy (h.ev rfl) (h.ev rfl)) (congrArg Value.bool q1)) rfl ?_; intro f h
      refine s_pure h (ru_pick_t (h.ev rfl) (h.ev rfl)) rfl ?_; intro f h
      refine s_pure h (ru_move (h.ev rfl)) rfl ?_; intro f h
      refine s_on h rfl rfl rfl ?_
      refine s_pure h (ru_field fld26_1 (h.ev rfl)) rfl ?_; intro f h
      refine s_on h rfl rfl rfl ?_
      refine s_load_at (Has.subL (Has.of_own s 0 rfl) 1 32 (D := idArr (_)) (mbArr_id _)) h row24 rfl (by first | exact idArr_size _ | exact bytesF_size _ _) rfl ?_; intro f h
      refine s_on h rfl rfl rfl ?_
      refine s_load_at (Has.subL (Has.of_tab (hs9.keep s.ext)) 0 32 (D := idArr s9) (idArr_ext _)) h row24 rfl (by first | exact idArr_size _ | exact bytesF_size _ _) rfl ?_; intro f h
      refine s_on h rfl rfl rfl ?_
      refine s_load_at (Has.subL (Has.of_tab (ht.keep s.ext)) 0 32 (D := idArr t9) (idArr_ext _)) h row24 rfl (by first | exact idArr_size _ | exact bytesF_size _ _) rfl ?_; intro f h
      refine s_on h rfl rfl rfl ?_
      refine s_call h s fnc20 (in_any _ _ _ _) rfl rfl ?_; intro f w1 v9 hT hE h s; obtain rfl := hT
      refine s_pure h (ru_pick_t (h.ev rfl) (h.ev rfl)) rfl ?_; intro f h
      refine s_pure h (ru_assign (h.ev rfl)) rfl ?_; intro f h
      refine s_nil ?_
      refine hK2 _ _ ?_
      refine wpIn_ret ?_
      exact e_tmp rfl h s rfl (by show _ = _; rw [btw_2 q0 q1])

theorem valuesf_ok (a9 : Option Addr) (n9 c9 : Nat) (B9 : List Own) (w0 w : World) (s : St w0 B9 w) : Calls Try.prog 33 [.slice a9 n9 c9].toArray w (fun e w9 => ∃ r, e = .returned r ∧ ∃ bv, r = .func (.func 43) #[] #[.pointer (some ⟨bv, 0, none⟩)] ∧ St w0 (.blk bv (.cells #[.slice a9 n9 c9] 22) :: B9) w9) := by
  refine c_enterF Try.func33 rfl Try.ntmps33 rfl [(0, .slice a9 n9 c9)] (by simp) fun f h => ?_
  refine c_seq fun K1 hK1 => ?_
  refine c_region ?_
  refine s_box (#[.slice a9 n9 c9]) h s rfl rfl rfl ?_; intro f w1 b1 h s
  refine s_pure h (ru_assign (h.ev rfl)) rfl ?_; intro f h
  refine s_nil ?_
  refine hK1 _ _ ?_
  refine c_seq fun K2 hK2 => ?_
  refine c_region ?_
  refine s_pure h (ru_makeFunc [.pointer (some ⟨b1, 0, none⟩)] (evsA h rfl)) rfl ?_; intro f h
  refine s_pure h (ru_assign (h.ev rfl)) rfl ?_; intro f h
  refine s_nil ?_
  refine hK2 _ _ ?_
  refine wpIn_ret ?_
  exact e_tmpF rfl h rfl (⟨_, rfl, b1, rfl, s⟩)

theorem valuesf_any (l : List Mb) (vh : Value) (B9 : List Own) (w0 w : World) (s : St w0 B9 w) (hR : RdZ w vh 33 l.length (mbCells l)) : Calls Try.prog 33 [vh].toArray w (fun e w9 => ∃ r, e = .returned r ∧ ∃ bv, r = .func (.func 43) #[] #[.pointer (some ⟨bv, 0, none⟩)] ∧ St w0 (.blk bv (.cells #[vh] 22) :: B9) w9) := by
  obtain ⟨a, c, rfl⟩ := hR.len
  exact valuesf_ok a _ c B9 w0 w s

theorem viterf_any (l : List Mb) (hln : l.length ≤ 1000) (vh : Value) (lp bx : Nat) (q : Nat → Bool) (GG : Nat → Own → Prop) (g0 : Own) (w0 w : World) (s : St w0 [.blk bx (.cells #[vh] 22), g0] w) (hg0 : GG 0 g0) (hR : RdZ w0 vh 33 l.length (mbCells l)) (hY : ∀ (d : Nat) (B9 : List Own) (w9 : World) (i : Nat) (g : Own), d < l.length → (∀ j, j < d → q j = false) → GG d g → St w0 B9 w9 → B9[i]? = some g → Yields Try.prog lp [Value.agg (mbArr (l.getD d zMb))].toArray w9 (fun v w2 => v = .bool (!q d) ∧ ∃ g', GG (d + 1) g' ∧ St w0 (B9.set i g') w2)) : Calls Try.prog 43 [.func (.yield lp) #[] #[], .pointer (some ⟨bx, 0, none⟩)].toArray w (fun e w9 => (∃ v, e = .returned v) ∧ ∃ d g, GG d g ∧ St w0 ([.blk bx (.cells #[vh] 22)] ++ [g]) w9 ∧ d ≤ l.length ∧ (∀ j, j + 1 < d → q j = false) ∧ (lq q d = false → d = l.length)) := by
  refine c_enterF Try.func43 rfl Try.ntmps43 rfl [(0, .func (.yield lp) #[] #[]), (1, .pointer (some ⟨bx, 0, none⟩))] (by simp) fun f h => ?_
  refine c_seq fun K1 hK1 => ?_
  refine c_region ?_
  refine s_load_one 0 h s one22 rfl rfl (rfl) rfl ?_; intro f h
  refine s_pure h (ru_lenZ (hR.keep s.ext) Try.underlying22 (h.ev rfl)) rfl ?_; intro f h
  refine s_pure h (ru_move (h.ev rfl)) rfl ?_; intro f h
  refine s_nil ?_
  refine hK1 _ _ ?_
  refine wpIn_block ?_
  refine wpIn_loop_ghost (fun nn aa ww => ∃ d : Nat, ∃ gg : Own, Sl 16 aa [(0, .func (.yield lp) #[] #[]), (1, .pointer (some ⟨bx, 0, none⟩)), (5, vh), (6, .int .i64 (l.length : Int)), (7, .int .i64 (d : Int))] ∧ St w0 [.blk bx (.cells (#[vh]) 22), (gg)] ww ∧ nn = l.length - d ∧ d ≤ l.length ∧ GG d gg ∧ ∀ j, j < d → q j = false) (l.length - (0)) ⟨0, g0, h.only ⟨rfl, rfl, rfl, rfl, slot_int rfl (by omega), trivial⟩, s.as ⟨rfl, rfl, trivial⟩, rfl, Nat.zero_le _, hg0, fun j hj => absurd hj (Nat.not_lt_zero _)⟩ ?_
  rintro _ f w1 ⟨d, gg, h, s, hnn, hp0, hp1, hp2⟩
  refine c_seq fun K2 hK2 => ?_
  refine c_region ?_
  refine s_pure h (ru_lss (h.ev rfl) (h.ev rfl)) rfl ?_; intro f h
  refine s_nil ?_
  refine hK2 _ _ ?_
  refine c_seq fun K3 hK3 => ?_
  refine c_cond h rfl (fun hc => ?_) (fun hc => ?_)
  · replace hc := of_decide_eq_true hc
    refine wpIn_skip ?_
    refine hK3 _ _ ?_
    refine c_seq fun K4 hK4 => ?_
    refine wpIn_block ?_
    refine c_seq fun K5 hK5 => ?_
    refine c_region ?_
    have hdl : d < l.length := by omega
    refine s_pure h (ru_ixz (hR.keep s.ext) (d) Try.underlying22 szo26 (h.ev rfl) (h.ev rfl) (by omega) (by omega)) rfl ?_; intro f h
    refine s_load_at ((hR.keep s.ext).el (d) (by omega) (by decide) (D := mbArr (l.getD d zMb)) (mb_elD l d hdl)) h row26 rfl (mbArr_size _) rfl ?_; intro f h
    refine s_alloc (mbArr zMb) h s zero26 rfl rfl ?_; intro f w1 b4 h s
    refine s_store_row 0 h s row26 rfl rfl rfl (mbArr_size _) (mbArr_size _) (mbArr_ones _) ?_; intro w1 s
    refine s_nil ?_
    refine hK5 _ _ ?_
    refine c_seq fun K6 hK6 => ?_
    cases hq : (q d : Bool)
    · skip
      refine c_region ?_
      refine s_pure h (ru_move (h.ev rfl)) rfl ?_; intro f h
      refine s_load_row 0 h s row26 rfl rfl (mbArr_size _) rfl ?_; intro f h
      refine s_yieldG (V := .bool true) (G := GG (d + 1)) [.agg (mbArr (l.getD d zMb))] 2 h rfl rfl (by have h9 := hY d _ _ 2 gg hdl hp2 hp1 s rfl; rw [hq] at h9; exact h9) rfl ?_; intro f w1 g1 hg1 h s
      refine s_pure h (ru_val (.bool false) (ru_not (h.ev rfl)) rfl) rfl ?_; intro f h
      refine s_nil ?_
      refine hK6 _ _ ?_
      refine wpIn_cond_false (h.ev rfl) ?_
      refine wpIn_skip ?_
      refine b_norm ?_
      refine hK4 _ _ ?_
      refine c_region ?_
      refine s_pure h (ru_add (h.ev rfl) (h.ev rfl) (by omega)) rfl ?_; intro f h
      refine s_pure h (ru_move (h.ev rfl)) rfl ?_; intro f h
      refine s_nil ?_
      refine t_norm ?_
      exact ⟨_, by omega, ⟨d + 1, g1, h.only ⟨rfl, rfl, rfl, rfl, slot_int rfl (by omega), trivial⟩, St.as (s.pick _ (List.sublist_append_right [_] _)) ⟨rfl, rfl, trivial⟩, rfl, by omega, hg1, qs_next hp2 hq⟩⟩
    · skip
      refine c_region ?_
      refine s_pure h (ru_move (h.ev rfl)) rfl ?_; intro f h
      refine s_load_row 0 h s row26 rfl rfl (mbArr_size _) rfl ?_; intro f h
      refine s_yieldG (V := .bool false) (G := GG (d + 1)) [.agg (mbArr (l.getD d zMb))] 2 h rfl rfl (by have h9 := hY d _ _ 2 gg hdl hp2 hp1 s rfl; rw [hq] at h9; exact h9) rfl ?_; intro f w1 g1 hg1 h s
      refine s_pure h (ru_val (.bool true) (ru_not (h.ev rfl)) rfl) rfl ?_; intro f h
      refine s_nil ?_
      refine hK6 _ _ ?_
      refine wpIn_cond_true (h.ev rfl) ?_
      refine wpIn_ret ?_
      refine b_ret ?_
      refine t_ret ?_
      refine t_ret ?_
      refine b_ret ?_
      exact e_noneF rfl h (⟨⟨_, rfl⟩, d + 1, g1, hg1, s.pick _ (List.sublist_cons_self _ _), by omega, fun j hj => hp2 j (by omega), fun h9 => absurd (hq.symm.trans h9) (by decide)⟩)
  · replace hc := of_decide_eq_false hc
    refine wpIn_exit ?_
    refine t_exit ?_
    refine t_exit ?_
    refine b_exit ?_
    exact e_noneF_end rfl h (⟨⟨_, rfl⟩, d, gg, hp1, s, hp0, fun j hj => hp2 j (by omega), fun _ => by omega⟩)

theorem only_any (bv g9 : Nat) (caps : List Value) (B9 : List Own) (w0 w : World) (s : St w0 B9 w) : Calls Try.prog 32 [.func (.func 43) #[] #[.pointer (some ⟨bv, 0, none⟩)], .func (.func g9) #[] caps.toArray].toArray w (fun e w9 => ∃ r, e = .returned r ∧ ∃ ba bf, r = .func (.func 42) #[] #[.pointer (some ⟨ba, 0, none⟩), .pointer (some ⟨bf, 0, none⟩)] ∧ St w0 (.blk bf (.cells #[.func (.func g9) #[] caps.toArray] 52) :: .blk ba (.cells #[.func (.func 43) #[] #[.pointer (some ⟨bv, 0, none⟩)]] 56) :: B9) w9) := by
  refine c_enterF Try.func32 rfl Try.ntmps32 rfl [(0, .func (.func 43) #[] #[.pointer (some ⟨bv, 0, none⟩)]), (1, .func (.func g9) #[] caps.toArray)] (by simp) fun f h => ?_
  refine c_seq fun K1 hK1 => ?_
  refine c_region ?_
  refine s_box (#[.func (.func 43) #[] #[.pointer (some ⟨bv, 0, none⟩)]]) h s rfl rfl rfl ?_; intro f w1 b2 h s
  refine s_box (#[.func (.func g9) #[] caps.toArray]) h s rfl rfl rfl ?_; intro f w1 b3 h s
  refine s_pure h (ru_assign (h.ev rfl)) rfl ?_; intro f h
  refine s_nil ?_
  refine hK1 _ _ ?_
  refine c_seq fun K2 hK2 => ?_
  refine c_region ?_
  refine s_pure h (ru_makeFunc [.pointer (some ⟨b2, 0, none⟩), .pointer (some ⟨b3, 0, none⟩)] (evsA h rfl)) rfl ?_; intro f h
  refine s_pure h (ru_assign (h.ev rfl)) rfl ?_; intro f h
  refine s_nil ?_
  refine hK2 _ _ ?_
  refine wpIn_ret ?_
  exact e_tmpF rfl h rfl (⟨_, rfl, b2, b3, rfl, s⟩)

theorem oiter_any (l : List Mb) (hln : l.length ≤ 1000) (vh : Value) (lo bf ba bv g9 : Nat) (caps : List Value) (p : Mb → Bool) (GO : Nat → Own → Prop) (go : Own) (w0 w : World) (s : St w0 [.blk bf (.cells #[.func (.func g9) #[] caps.toArray] 52), .blk ba (.cells #[.func (.func 43) #[] #[.pointer (some ⟨bv, 0, none⟩)]] 56), .blk bv (.cells #[vh] 22), go] w) (hgo : GO 0 go) (hR : RdZ w0 vh 33 l.length (mbCells l)) (hg : Fnc Try.prog g9) (hp : ∀ w9, Ext w0 w9 → ∀ x ∈ l, Calls Try.prog g9 (.agg (mbArr x) :: caps).toArray w9 (Ret w9 (is (.bool (p x))))) (hYo : ∀ (d : Nat) (B9 : List Own) (w9 : World) (i : Nat) (g : Own), d < (l.filter p).length → GO d g → St w0 B9 w9 → B9[i]? = some g → Yields Try.prog lo [Value.agg (mbArr ((l.filter p).getD d zMb))].toArray w9 (fun v w2 => v = .bool true ∧ ∃ g', GO (d + 1) g' ∧ St w0 (B9.set i g') w2)) : Calls Try.prog 42 [.func (.yield lo) #[] #[], .pointer (some ⟨ba, 0, none⟩), .pointer (some ⟨bf, 0, none⟩)].toArray w (fun e w9 => (∃ v, e = .returned v) ∧ ∃ d g, GO d g ∧ St w0 ([.blk bf (.cells #[.func (.func g9) #[] caps.toArray] 52), .blk ba (.cells #[.func (.func 43) #[] #[.pointer (some ⟨bv, 0, none⟩)]] 56), .blk bv (.cells #[vh] 22)] ++ [g]) w9 ∧ d ≤ (l.filter p).length ∧ (∀ j, j + 1 < d → (fun _ => false) j = false) ∧ (lq (fun _ => false) d = false → d = (l.filter p).length)) := by
  refine c_enterFM Try.func42 rfl Try.ntmps42 rfl [(0, .func (.yield lo) #[] #[]), (1, .pointer (some ⟨ba, 0, none⟩)), (2, .pointer (some ⟨bf, 0, none⟩))] (by simp) fun f h => ?_
  refine c_seq fun K1 hK1 => ?_
  refine c_region ?_
  refine s_box (#[.func (.yield lo) #[] #[]]) h s rfl rfl rfl ?_; intro f w1 b3 h s
  refine s_nil ?_
  refine hK1 _ _ ?_
  refine c_seq fun K2 hK2 => ?_
  refine c_region ?_
  refine s_load_one 2 h s one56 rfl rfl (rfl) rfl ?_; intro f h
  refine s_nil ?_
  refine hK2 _ _ ?_
  refine wpIn_block ?_
  refine c_rangeE (fun d A9 => ∃ g, GO (cntP p l d) g ∧ A9 = [.blk b3 (.cells #[.func (.yield lo) #[] #[]] 52), .blk bf (.cells #[.func (.func g9) #[] caps.toArray] 52), .blk ba (.cells #[.func (.func 43) #[] #[.pointer (some ⟨bv, 0, none⟩)]] 56), g]) [.blk b3 (.cells #[.func (.yield lo) #[] #[]] 52), .blk bf (.cells #[.func (.func g9) #[] caps.toArray] 52), .blk ba (.cells #[.func (.func 43) #[] #[.pointer (some ⟨bv, 0, none⟩)]] 56), go] [.blk bv (.cells #[vh] 22)] (l.length) (fun _ => false) (fun d => [Value.agg (mbArr (l.getD d zMb))]) h s rfl fnc43 (List.perm_middle (l₁ := [_, _, _])) (⟨_, hgo, rfl⟩) (fun _ => rfl) ?_ ?_ ?_ ?_
  · intro lp w2 GG g0 hg0 s2 hY; exact viterf_any l hln vh lp bv (fun _ => false) GG g0 w0 w2 s2 hg0 hR hY
  · intro lp D9 d9 rc R9 A9 w2 hd9 hq9 hJ9 s
    obtain ⟨gg, hgg, rfl⟩ := hJ9
    have h := Sl.round1 (p := 6) (V := .agg (mbArr (l.getD d9 zMb))) h rfl
    refine c_region ?_
    refine s_alloc (mbArr zMb) h s zero26 rfl rfl ?_; intro f w1 b4 h s
    refine s_store_row 0 h s row26 rfl rfl rfl (mbArr_size _) (mbArr_size _) (mbArr_ones _) ?_; intro w1 s
    refine s_nil ?_
    refine t_norm ?_
    refine ⟨_, s.perm (List.perm_middle (l₁ := [_])), fun w3 s => ?_⟩
    refine wpIn_block ?_
    refine c_seq fun K3 hK3 => ?_
    cases hq : (p (l.getD d9 zMb) : Bool)
    · skip
      refine c_region ?_
      refine s_load_one 4 h s one52 rfl rfl (rfl) rfl ?_; intro f h
      refine s_load_row 1 h s row26 rfl rfl (mbArr_size _) rfl ?_; intro f h
      refine s_callV [.agg (mbArr (l.getD d9 zMb))] (caps := caps) h s hg rfl (hp _ s.ext _ (mb_mem hd9)) rfl rfl ?_; intro f w1 v9 hT hE h s; obtain rfl := hT
      refine s_pure h (ru_val (.bool false) (ru_move (h.ev rfl)) (congrArg Value.bool hq)) rfl ?_; intro f h
      refine s_off (b := true) h rfl rfl rfl rfl ?_; intro f h
      refine s_off (b := true) h rfl rfl rfl rfl ?_; intro f h
      refine s_off (b := true) h rfl rfl rfl rfl ?_; intro f h
      refine s_off (b := true) h rfl rfl rfl rfl ?_; intro f h
      refine s_pure h (ru_pick_f (h.ev rfl) (h.ev rfl)) rfl ?_; intro f h
      refine s_nil ?_
      refine hK3 _ _ ?_
      refine wpIn_cond_false (h.ev rfl) ?_
      refine wpIn_skip ?_
      refine b_norm ?_
      refine ⟨rfl, _, ⟨gg, by rw [cntP_no hd9 hq]; exact hgg, rfl⟩, s.pick _ ?_⟩
      exact List.Sublist.cons_cons _ (List.Sublist.cons _ (List.Sublist.refl _))
    · skip
      refine c_region ?_
      refine s_load_one 4 h s one52 rfl rfl (rfl) rfl ?_; intro f h
      refine s_load_row 1 h s row26 rfl rfl (mbArr_size _) rfl ?_; intro f h
      refine s_callV [.agg (mbArr (l.getD d9 zMb))] (caps := caps) h s hg rfl (hp _ s.ext _ (mb_mem hd9)) rfl rfl ?_; intro f w1 v9 hT hE h s; obtain rfl := hT
      refine s_pure h (ru_val (.bool true) (ru_move (h.ev rfl)) (congrArg Value.bool hq)) rfl ?_; intro f h
      refine s_on h rfl rfl rfl ?_
      refine s_load_one 3 h s one52 rfl rfl (rfl) rfl ?_; intro f h
      refine s_on h rfl rfl rfl ?_
      refine s_load_row 1 h s row26 rfl rfl (mbArr_size _) rfl ?_; intro f h
      refine s_on h rfl rfl rfl ?_
      refine s_yieldG (V := .bool true) (G := GO (cntP p l d9 + 1)) [.agg (mbArr (l.getD d9 zMb))] 6 h rfl rfl (by have h9 := hYo (cntP p l d9) _ _ 6 gg (cntP_at hd9 hq).1 hgg s rfl; rw [(cntP_at hd9 hq).2] at h9; exact h9) rfl ?_; intro f w1 g1 hg1 h s
      refine s_on h rfl rfl rfl ?_
      refine s_pure h (ru_val (.bool false) (ru_not (h.ev rfl)) rfl) rfl ?_; intro f h
      refine s_pure h (ru_pick_t (h.ev rfl) (h.ev rfl)) rfl ?_; intro f h
      refine s_nil ?_
      refine hK3 _ _ ?_
      refine wpIn_cond_false (h.ev rfl) ?_
      refine wpIn_skip ?_
      refine b_norm ?_
      refine ⟨rfl, _, ⟨g1, by rw [cntP_yes hd9 hq]; exact hg1, rfl⟩, s.pick _ ?_⟩
      exact List.Sublist.cons_cons _ (List.Sublist.cons _ (List.Sublist.refl _))
  · intro D9 A9 w2 hJ9 hq9 s
    obtain ⟨gg, hgg, rfl⟩ := hJ9
    replace h : Sl _ { f with defers := { target := .collected D9, args := #[] } :: f.defers } _ [{ target := .collected D9, args := #[] }] := ⟨h.size, by rw [h.defers], h.holds⟩
    refine b_norm ?_
    exact e_noneFM_end 0 rfl h s rfl (fun w9 s9 => ⟨⟨_, rfl⟩, _, gg, hgg, s9.sel [3, 4, 1, 5] rfl (by decide), Nat.le_of_eq (cntP_end p l), fun _ _ => rfl, fun _ => cntP_end p l⟩)
  · intro D9 d9 A9 w2 hd9 hqd9 hq9 hJ9 s
    cases hqd9

theorem closest_any (l : List Mb) (vh : Value) (t9 s9 : Id) (w : World) (hR : RdZ w vh 33 l.length (mbCells l)) (hln : l.length ≤ 1000) : Calls Try.prog 17 [idV t9, idV s9, vh].toArray w (Ret w (is (.tuple #[.agg (mbArr (csM s9 t9 l)), .int .i64 (csE s9 t9 l)]))) := by
  refine c_enterM Try.func17 rfl Try.ntmps17 rfl [(0, idV t9), (1, idV s9), (2, vh)] (by simp) fun f h => ?_
  have s := St.start w
  refine c_seq fun K1 hK1 => ?_
  refine c_region ?_
  refine s_box (idArr t9) h s rfl rfl rfl ?_; intro f w1 b3 h s
  refine s_box (idArr s9) h s rfl rfl rfl ?_; intro f w1 b4 h s
  obtain ⟨wm, hwm, ⟨hb3, hb4⟩, s⟩ := St.fork (X := fun w9 => Tab w9 b3 (idArr t9) ∧ Tab w9 b4 (idArr s9)) s (⟨Tab.of_own s 1 rfl, Tab.of_own s 0 rfl⟩)
  refine s_alloc (mbArr zMb) h s zero26 rfl rfl ?_; intro f w1 b6 h s
  refine s_pure h (ru_assign (h.ev rfl)) rfl ?_; intro f h
  refine s_nil ?_
  refine hK1 _ _ ?_
  refine c_seq fun K2 hK2 => ?_
  refine c_region ?_
  refine s_pure h (ru_makeFunc [.pointer (some ⟨b3, 0, none⟩), .pointer (some ⟨b4, 0, none⟩)] (evsA h rfl)) rfl ?_; intro f h
  refine s_pure h (ru_assign (h.ev rfl)) rfl ?_; intro f h
  refine s_nil ?_
  refine hK2 _ _ ?_
  refine c_seq fun K3 hK3 => ?_
  refine c_region ?_
  refine s_alloc (mbArr zMb) h s zero26 rfl rfl ?_; intro f w1 b9 h s
  refine s_nil ?_
  refine hK3 _ _ ?_
  refine c_seq fun K4 hK4 => ?_
  refine c_region ?_
  refine s_alloc (idArr 0#256) h s zero24 rfl rfl ?_; intro f w1 b10 h s
  refine s_nil ?_
  refine hK4 _ _ ?_
  refine c_seq fun K5 hK5 => ?_
  refine c_seq fun K6 hK6 => ?_
  refine c_region ?_
  refine s_pure h (ru_move (h.ev rfl)) rfl ?_; intro f h
  refine s_callS [vh] h fnc33 (valuesf_any l vh _ _ _ s (hR.keep (hwm.trans s.ext))) rfl rfl ?_; rintro f w1 r ⟨bv, rfl, s⟩ h
  refine s_pure h (ru_move (h.ev rfl)) rfl ?_; intro f h
  refine s_callS [.func (.func 43) #[] #[.pointer (some ⟨bv, 0, none⟩)], .func (.func 31) #[] #[.pointer (some ⟨b3, 0, none⟩), .pointer (some ⟨b4, 0, none⟩)]] h fnc32 (only_any bv 31 [.pointer (some ⟨b3, 0, none⟩), .pointer (some ⟨b4, 0, none⟩)] _ _ _ s) rfl rfl ?_; rintro f w1 r ⟨ba, bf, rfl, s⟩ h
  refine s_nil ?_
  refine hK6 _ _ ?_
  refine wpIn_block ?_
  refine c_rangeE (fun d A9 => A9 = [.blk b10 (.cells (idArr (csK s9 ((onW s9 t9 l).take d)).2) 24), .blk b9 (.cells (mbArr (csK s9 ((onW s9 t9 l).take d)).1) 26), .blk b6 (.cells (mbArr zMb) 26)]) [.blk b10 (.cells (idArr 0#256) 24), .blk b9 (.cells (mbArr zMb) 26), .blk b6 (.cells (mbArr zMb) 26)] [.blk bf (.cells #[.func (.func 31) #[] #[.pointer (some ⟨b3, 0, none⟩), .pointer (some ⟨b4, 0, none⟩)]] 52), .blk ba (.cells #[.func (.func 43) #[] #[.pointer (some ⟨bv, 0, none⟩)]] 56), .blk bv (.cells #[vh] 22)] ((onW s9 t9 l).length) (fun _ => false) (fun d => [Value.agg (mbArr ((onW s9 t9 l).getD d zMb))]) h s rfl fnc42 (List.Perm.refl _) (rfl) (fun _ => rfl) ?_ ?_ ?_ ?_
  · intro lp w2 GG g0 hg0 s2 hY; exact oiter_any l hln vh lp bf ba bv 31 [.pointer (some ⟨b3, 0, none⟩), .pointer (some ⟨b4, 0, none⟩)] (btw s9 t9) GG g0 wm w2 s2 hg0 (hR.keep hwm) fnc31 (fun w9 h9 x _ => clsf_any x t9 s9 b3 b4 w9 (hb3.keep h9) (hb4.keep h9)) (fun d B9 w9 i g hd hg hs hi => hY d B9 w9 i g hd (fun _ _ => rfl) hg hs hi)
  · intro lp D9 d9 rc R9 A9 w2 hd9 hq9 hJ9 s
    obtain rfl := hJ9
    have h := Sl.round1 (p := 18) (V := .agg (mbArr ((onW s9 t9 l).getD d9 zMb))) h rfl
    refine c_region ?_
    refine s_alloc (mbArr zMb) h s zero26 rfl rfl ?_; intro f w1 b11 h s
    refine s_store_row 0 h s row26 rfl rfl rfl (mbArr_size _) (mbArr_size _) (mbArr_ones _) ?_; intro w1 s
    refine s_nil ?_
    refine t_norm ?_
    refine ⟨_, s.perm (List.perm_middle (l₁ := [_])), fun w3 s => ?_⟩
    refine wpIn_block ?_
    refine c_seq fun K7 hK7 => ?_
    refine c_region ?_
    refine s_load_at (Has.subL (Has.of_tab (hb4.keep s.ext)) 0 32 (D := idArr s9) (idArr_ext _)) h row24 rfl (by first | exact idArr_size _ | exact bytesF_size _ _) rfl ?_; intro f h
    refine s_pure h (ru_field fld26_1 (h.ev rfl)) rfl ?_; intro f h
    refine s_load_at (Has.subL (Has.of_own s 1 rfl) 1 32 (D := idArr (_)) (mbArr_id _)) h row24 rfl (by first | exact idArr_size _ | exact bytesF_size _ _) rfl ?_; intro f h
    refine s_call h s fnc22 (far_any _ _ _) rfl rfl ?_; intro f w1 v9 hT hE h s; obtain rfl := hT
    refine s_alloc (idArr 0#256) h s zero24 rfl rfl ?_; intro f w1 b12 h s
    refine s_store_row 0 h s row24 rfl rfl rfl (by first | exact idArr_size _ | exact bytesF_size _ _) (by first | exact idArr_size _ | exact bytesF_size _ _) (by first | exact idArr_ones _ | exact bytesF_ones _ _) ?_; intro w1 s
    refine s_nil ?_
    refine hK7 _ _ ?_
    refine c_seq fun K8 hK8 => ?_
    refine c_region ?_
    refine s_load_row 0 h s row24 rfl rfl (by first | exact idArr_size _ | exact bytesF_size _ _) rfl ?_; intro f h
    refine s_load_row 4 h s row24 rfl rfl (by first | exact idArr_size _ | exact bytesF_size _ _) rfl ?_; intro f h
    refine s_call h s fnc21 (compare_any _ _ _) rfl rfl ?_; intro f w1 v9 hT hE h s; obtain rfl := hT
    refine s_pure h (ru_val (.bool (decide ((csK s9 ((onW s9 t9 l).take d9)).2.toNat < fd s9 ((onW s9 t9 l).getD d9 zMb).2))) (ru_gtr (h.ev rfl) (h.ev rfl)) (congrArg Value.bool (decide_eq_decide.2 (cmpI_pos _ _)))) rfl ?_; intro f h
    refine s_nil ?_
    refine hK8 _ _ ?_
    refine c_cond h rfl (fun hc => ?_) (fun hc => ?_)
    · replace hc := of_decide_eq_true hc
      have hdl9 := hd9
      have hbs := s.ext.le
      refine' c_reg2 0 [1] [] [[], [], [0], [0, 1, 2]] (is undef :: is _ :: is undef :: is undef :: []) (fun w9 => w9.heap[b12]? = some (.cells (idArr (((onW s9 t9 l).getD d9 zMb).2 - s9)) 24)) h s (by kernel_rfl) (by kernel_rfl) (by kernel_rfl) (by kernel_rfl) rfl (fun _ _ h9 hE => heap_keep h9 hE) (s.get 0 rfl) ⟨⟨_, rfl⟩, trivial⟩ ⟨is_mono _, is_mono _, is_mono _, is_mono _, trivial⟩ (And.intro ?_ (And.intro ?_ (And.intro ?_ (And.intro ?_ (trivial))))) ?_
      rotate_left 1
      · exact obT_in (by decide) (by decide)
      · refine obH_in 28 rfl (by decide) ?_
        intro f9 w2 hE hs hl
        have e12 : f9.tmps.getD 12 undef = _ := sx_old hl 12 (by kernel_rfl) (by kernel_rfl) (h.holds 12 _ rfl)
        have h := fin_slot [(12, _)] hs rfl (holds_lk ⟨e12, trivial⟩)
        refine s_load_at (Has.of_blk hE) h row24 rfl (idArr_size _) rfl ?_; intro f h
        refine s_nil ?_
        have e9 := h.holds 28 _ rfl
        refine ⟨?_, rfl⟩
        refine e9.trans ?_
        exact rfl
      · exact obT_in (by decide) (by decide)
      · exact obT_in (by decide) (by decide)
      · intro f9 w2 hE hs hd9 hWp hT hR hFr hDj
        replace h := sl_new (ops := _) [(28, _)] h hs hd9 hR ⟨hT 1 28 (by decide) rfl, trivial⟩ (by kernel_rfl)
        replace s := s.more hE
        clear hT hR hFr hDj
        refine LstW.cons ?_
        refine s_load_row 2 h s row26 rfl rfl (mbArr_size _) rfl ?_; intro f h
        refine s_nil ⟨s.get 0 rfl, ?_⟩
        refine LstW.cons ?_
        refine s_store_row 5 h s row26 rfl rfl rfl (mbArr_size _) (mbArr_size _) (mbArr_ones _) ?_; intro w1 s
        refine s_nil ⟨s.get 0 rfl, ?_⟩
        refine LstW.cons ?_
        refine s_store_row 4 h s row24 rfl rfl rfl (by first | exact idArr_size _ | exact bytesF_size _ _) (by first | exact idArr_size _ | exact bytesF_size _ _) (by first | exact idArr_ones _ | exact bytesF_ones _ _) ?_; intro w1 s
        refine s_nil ⟨s.get 0 rfl, ?_⟩
        refine LstW.nil ?_
        refine b_norm ?_
        replace s := s.recell (D := mbArr (csK s9 ((onW s9 t9 l).take (d9 + 1))).1) 5 rfl (by rw [cs_yes hdl9 hc])
        replace s := s.recell (D := idArr (csK s9 ((onW s9 t9 l).take (d9 + 1))).2) 4 rfl (by rw [cs_yes hdl9 hc])
        refine ⟨rfl, _, rfl, s.pick _ ?_⟩
        exact List.Sublist.cons _ (List.Sublist.cons_cons _ (List.Sublist.cons _ (List.Sublist.refl _)))
    · replace hc := of_decide_eq_false hc
      have hdl9 := hd9
      refine wpIn_skip ?_
      refine b_norm ?_
      replace s := s.recell (D := mbArr (csK s9 ((onW s9 t9 l).take (d9 + 1))).1) 5 rfl (by rw [cs_no hdl9 hc])
      replace s := s.recell (D := idArr (csK s9 ((onW s9 t9 l).take (d9 + 1))).2) 4 rfl (by rw [cs_no hdl9 hc])
      refine ⟨rfl, _, rfl, s.pick _ ?_⟩
      exact List.Sublist.cons _ (List.Sublist.cons_cons _ (List.Sublist.cons _ (List.Sublist.refl _)))
  · intro D9 A9 w2 hJ9 hq9 s
    obtain rfl := hJ9
    replace h : Sl _ { f with defers := { target := .collected D9, args := #[] } :: f.defers } _ [{ target := .collected D9, args := #[] }] := ⟨h.size, by rw [h.defers], h.holds⟩
    rw [List.take_length] at s
    refine b_norm ?_
    refine hK5 _ _ ?_
    refine c_seq fun K9 hK9 => ?_
    refine c_seq fun K10 hK10 => ?_
    cases he : ((onW s9 t9 l).isEmpty : Bool)
    · skip
      refine c_region ?_
      have hne : (onW s9 t9 l) ≠ [] := fun h9 => by rw [h9] at he; cases he
      refine s_load_row 4 h s row24 rfl rfl (by first | exact idArr_size _ | exact bytesF_size _ _) rfl ?_; intro f h
      refine s_pure h (ru_build0 idTy) rfl ?_; intro f h
      refine s_pure h (ru_val (.bool false) (ru_eql_id idTy (h.ev rfl) (h.ev rfl)) (congrArg Value.bool (decide_eq_false (fun h9 => hne (cs_zero.1 h9))))) rfl ?_; intro f h
      refine s_nil ?_
      refine hK10 _ _ ?_
      refine wpIn_cond_false (h.ev rfl) ?_
      refine wpIn_skip ?_
      refine hK9 _ _ ?_
      refine c_seq fun K11 hK11 => ?_
      refine c_region ?_
      refine s_load_row 5 h s row26 rfl rfl (mbArr_size _) rfl ?_; intro f h
      refine s_store_row 6 h s row26 rfl rfl rfl (mbArr_size _) (mbArr_size _) (mbArr_ones _) ?_; intro w1 s
      refine s_pure h (ru_assign (h.ev rfl)) rfl ?_; intro f h
      refine s_nil ?_
      refine hK11 _ _ ?_
      refine wpIn_ret ?_
      replace s := s.rebase hwm
      exact e_row_tmp_M 6 0 rfl h s row26 rfl rfl rfl rfl (mbArr_size _) (fun w9 => by show _ = _; rw [(cs_some hne).1]; rfl)
    · skip
      refine c_region ?_
      refine s_load_row 4 h s row24 rfl rfl (by first | exact idArr_size _ | exact bytesF_size _ _) rfl ?_; intro f h
      refine s_pure h (ru_build0 idTy) rfl ?_; intro f h
      refine s_pure h (ru_val (.bool true) (ru_eql_id idTy (h.ev rfl) (h.ev rfl)) (congrArg Value.bool (decide_eq_true (cs_zero.2 (List.isEmpty_iff.1 he))))) rfl ?_; intro f h
      refine s_nil ?_
      refine hK10 _ _ ?_
      refine wpIn_cond_true (h.ev rfl) ?_
      refine c_seq fun K12 hK12 => ?_
      refine c_region ?_
      refine s_pure h (ru_build_mb0 sttM) rfl ?_; intro f h
      refine s_store_row 6 h s row26 rfl rfl rfl (mbArr_size _) (mbArr_size _) (mbArr_ones _) ?_; intro w1 s
      refine s_pure h (ru_assign (h.ev rfl)) rfl ?_; intro f h
      refine s_nil ?_
      refine hK12 _ _ ?_
      refine wpIn_ret ?_
      refine t_ret ?_
      replace s := s.rebase hwm
      exact e_row_tmp_M 6 0 rfl h s row26 rfl rfl rfl rfl (mbArr_size _) (fun w9 => by show _ = _; rw [(cs_none (List.isEmpty_iff.1 he)).1, (cs_none (List.isEmpty_iff.1 he)).2])
  · intro D9 d9 A9 w2 hd9 hqd9 hq9 hJ9 s
    cases hqd9

theorem few_any (l : List Mb) (vh : Value) (w : World) (hR : RdZ w vh 33 l.length (mbCells l)) : Calls Try.prog 8 [vh].toArray w (Ret w (is (cutV vh (min l.length 18)))) := by
  refine c_enter Try.func8 rfl Try.ntmps8 rfl [(0, vh)] (by simp) fun f h => ?_
  have s := St.start w
  refine c_seq fun K1 hK1 => ?_
  refine c_region ?_
  refine s_pure h (ru_assign (h.ev rfl)) rfl ?_; intro f h
  refine s_nil ?_
  refine hK1 _ _ ?_
  refine c_seq fun K2 hK2 => ?_
  refine c_region ?_
  refine s_pure h (ru_move (h.ev rfl)) rfl ?_; intro f h
  refine s_pure h (ru_move (h.ev rfl)) rfl ?_; intro f h
  refine s_pure h (ru_lenZ (hR.keep s.ext) Try.underlying22 (h.ev rfl)) rfl ?_; intro f h
  refine s_pure h (ru_min (h.ev rfl) (h.ev rfl)) rfl ?_; intro f h
  refine s_pure h (ru_slice_hiZ (hR.keep s.ext) (min l.length 18) Try.underlying22 szo26 (h.ev rfl) (h.ev rfl) (by split <;> omega) (by omega)) rfl ?_; intro f h
  refine s_pure h (ru_assign (h.ev rfl)) rfl ?_; intro f h
  refine s_nil ?_
  refine hK2 _ _ ?_
  refine wpIn_ret ?_
  exact e_tmp rfl h s rfl (rfl)

theorem alive_any  (w : World) : Calls Try.prog 13 [].toArray w (Ret w (is (.bool true))) := by
  refine c_enter Try.func13 rfl Try.ntmps13 rfl [] (by simp) fun f h => ?_
  have s := St.start w
  refine c_seq fun K1 hK1 => ?_
  refine c_region ?_
  refine s_pure h (ru_assign (h.ev rfl)) rfl ?_; intro f h
  refine s_nil ?_
  refine hK1 _ _ ?_
  refine c_seq fun K2 hK2 => ?_
  refine c_region ?_
  refine s_pure h (ru_build1 idTy (v := 12) 31 rfl (by decide) (by decide)) rfl ?_; intro f h
  refine s_pure h (ru_build1 idTy (v := 3) 31 rfl (by decide) (by decide)) rfl ?_; intro f h
  refine s_pure h (ru_build1 idTy (v := 5) 31 rfl (by decide) (by decide)) rfl ?_; intro f h
  refine s_pure h (ru_build_mb2 sttM (h.ev rfl) (h.ev rfl)) rfl ?_; intro f h
  refine s_pure h (ru_build1 idTy (v := 9) 31 rfl (by decide) (by decide)) rfl ?_; intro f h
  refine s_pure h (ru_build_mb2 sttM (h.ev rfl) (h.ev rfl)) rfl ?_; intro f h
  refine s_pure h (ru_build1 idTy (v := 12) 31 rfl (by decide) (by decide)) rfl ?_; intro f h
  refine s_pure h (ru_build_mb2 sttM (h.ev rfl) (h.ev rfl)) rfl ?_; intro f h
  refine s_bslice (vs := [.agg (mbArr (1, setB 0#256 31 5)), .agg (mbArr (2, setB 0#256 31 9)), .agg (mbArr (3, setB 0#256 31 12))]) [.tmp 7, .tmp 9, .tmp 11] h s Try.underlying22 elm26 rfl rfl (by intro v hv9; simp only [List.mem_cons, List.not_mem_nil, or_false] at hv9; rcases hv9 with rfl | rfl | rfl <;> exact mbArr_size _) rfl rfl rfl ?_; intro f w1 v12 h s
  replace s := s.resl (m := zF.length) (ys := mbCells zF) 0 rfl rfl (by simp [zF, mbCells, mbArr, Value.cells])
  refine s_call h s fnc17 (closest_any zF v12 (setB 0#256 31 12) (setB 0#256 31 3) _ (RdZ.of_own (s.getSl 0 rfl)) (by decide)) rfl rfl ?_; intro f w1 v9 hT hE h s; obtain rfl := hT
  refine s_pure h (ru_move (h.ev rfl)) rfl ?_; intro f h
  refine s_pure h (ru_extract (h.ev rfl) rfl) rfl ?_; intro f h
  refine s_pure h (ru_extract (h.ev rfl) rfl) rfl ?_; intro f h
  refine s_alloc (mbArr zMb) h s zero26 rfl rfl ?_; intro f w1 b1 h s
  refine s_store_row 0 h s row26 rfl rfl rfl (mbArr_size _) (mbArr_size _) (mbArr_ones _) ?_; intro w1 s
  refine s_pure h (ru_assign (h.ev rfl)) rfl ?_; intro f h
  refine s_nil ?_
  refine hK2 _ _ ?_
  refine c_seq fun K3 hK3 => ?_
  refine c_region ?_
  refine s_pure h (ru_move (h.ev rfl)) rfl ?_; intro f h
  refine s_pure h (ru_val (.bool true) (ru_eql (h.ev rfl) (h.ev rfl)) (congrArg Value.bool (decide_eq_true (aliveF.1)))) rfl ?_; intro f h
  refine s_pure h (ru_move (h.ev rfl)) rfl ?_; intro f h
  refine s_on h rfl rfl rfl ?_
  refine s_pure h (ru_field fld26_0 (h.ev rfl)) rfl ?_; intro f h
  refine s_on h rfl rfl rfl ?_
  refine s_load_at1 (cell_of_has (Has.of_own s 0 rfl) 0 (mbArr_no _)) h one3 rfl rfl ?_; intro f h
  refine s_on h rfl rfl rfl ?_
  refine s_pure h (ru_val (.bool true) (ru_eql (h.ev rfl) (h.ev rfl)) (congrArg Value.bool (decide_eq_true (aliveF.2)))) rfl ?_; intro f h
  refine s_pure h (ru_pick_t (h.ev rfl) (h.ev rfl)) rfl ?_; intro f h
  refine s_pure h (ru_assign (h.ev rfl)) rfl ?_; intro f h
  refine s_nil ?_
  refine hK3 _ _ ?_
  refine wpIn_ret ?_
  exact e_tmp rfl h s rfl (rfl)
end Go.Proofs.Ytbjgpimabgcipaa
