/- What Walk of package lookup answers: steps, one by one. -/
import Derived.Test.YtndbijifgalpbaaXs
set_option linter.unusedVariables false
set_option linter.unusedSimpArgs false
set_option linter.unusedSectionVars false
namespace Go.Proofs.Ytndbijifgalpbaa
open Go.RowKit
theorem lsteps_ok (M0 : Mb) (g9 : Nat) (caps : List Value) (B9 : List Own) (w0 w : World) (s : St w0 B9 w) : Calls Try.prog 46 [.agg (mbArr M0), .func (.func g9) #[] caps.toArray].toArray w (fun e w9 => ∃ r, e = .returned r ∧ ∃ bf bk, r = .func (.func 79) #[] #[.pointer (some ⟨bf, 0, none⟩), .pointer (some ⟨bk, 0, none⟩)] ∧ St w0 (.blk bk (.cells #[.func (.func g9) #[] caps.toArray] 56) :: .blk bf (.cells (mbArr M0) 30) :: B9) w9) := by
  refine c_enterF Try.func46 rfl Try.ntmps46 rfl [(0, .agg (mbArr M0)), (1, .func (.func g9) #[] caps.toArray)] (by simp) fun f h => ?_
  refine c_seq fun K1 hK1 => ?_
  refine c_region ?_
  refine s_box ((mbArr M0)) h s rfl rfl rfl ?_; intro f w1 b2 h s
  refine s_box (#[.func (.func g9) #[] caps.toArray]) h s rfl rfl rfl ?_; intro f w1 b3 h s
  refine s_pure h (ru_assign (h.ev rfl)) rfl ?_; intro f h
  refine s_nil ?_
  refine hK1 _ _ ?_
  refine c_seq fun K2 hK2 => ?_
  refine c_region ?_
  refine s_pure h (ru_makeFunc [.pointer (some ⟨b2, 0, none⟩), .pointer (some ⟨b3, 0, none⟩)] (evsA h rfl)) rfl ?_; intro f h
  refine s_pure h (ru_assign (h.ev rfl)) rfl ?_; intro f h
  refine s_nil ?_
  refine hK2 _ _ ?_
  refine wpIn_ret ?_
  exact e_tmpF rfl h rfl (⟨_, rfl, b2, b3, rfl, s⟩)

theorem siter_any (m : Nat) (P : Nat → Mb × Bool) (M0 : Mb) (lp bf bk g9 : Nat) (caps : List Value) (q : Nat → Bool) (GG : Nat → Own → Prop) (g0 : Own) (w0 w : World) (s : St w0 [.blk bk (.cells #[.func (.func g9) #[] caps.toArray] 56), .blk bf (.cells (mbArr M0) 30), g0] w) (hg0 : GG 0 g0) (hm : ∀ d, d < m → stB M0 P d = false) (hend : (∀ j, j < m → q j = false) → stB M0 P m = true) (hg : Fnc Try.prog g9) (hp : ∀ w9, Ext w0 w9 → ∀ d, Calls Try.prog g9 (.agg (mbArr (prP M0 P d).1) :: caps).toArray w9 (Ret w9 (is (.agg (nnArr (P d).1 (P d).2))))) (hY : ∀ (d : Nat) (B9 : List Own) (w9 : World) (i : Nat) (g : Own), d < m → (∀ j, j < d → q j = false) → GG d g → St w0 B9 w9 → B9[i]? = some g → Yields Try.prog lp [Value.agg (nnArr (P d).1 (P d).2)].toArray w9 (fun v w2 => v = .bool (!q d) ∧ ∃ g', GG (d + 1) g' ∧ St w0 (B9.set i g') w2)) : Calls Try.prog 79 [.func (.yield lp) #[] #[], .pointer (some ⟨bf, 0, none⟩), .pointer (some ⟨bk, 0, none⟩)].toArray w (fun e w9 => (∃ v, e = .returned v) ∧ ∃ d g, GG d g ∧ St w0 ([.blk bk (.cells #[.func (.func g9) #[] caps.toArray] 56), .blk bf (.cells (mbArr M0) 30)] ++ [g]) w9 ∧ d ≤ m ∧ (∀ j, j + 1 < d → q j = false) ∧ (lq q d = false → d = m)) := by
  refine c_enterF Try.func79 rfl Try.ntmps79 rfl [(0, .func (.yield lp) #[] #[]), (1, .pointer (some ⟨bf, 0, none⟩)), (2, .pointer (some ⟨bk, 0, none⟩))] (by simp) fun f h => ?_
  refine c_seq fun K1 hK1 => ?_
  refine c_region ?_
  refine s_load_row 1 h s row30 rfl rfl (mbArr_size _) rfl ?_; intro f h
  refine s_pure h (ru_build_nn1 sttA (h.ev rfl)) rfl ?_; intro f h
  refine s_alloc (nnArr zMb false) h s zero54 rfl rfl ?_; intro f w1 b4 h s
  refine s_store_row 0 h s row54 rfl rfl rfl (nnArr_size _ _) (nnArr_size _ _) (nnArr_ones _ _) ?_; intro w1 s
  refine s_nil ?_
  refine hK1 _ _ ?_
  refine wpIn_block ?_
  refine wpIn_loop_ghost (fun nn aa ww => ∃ d : Nat, ∃ gg : Own, Sl 22 aa [(0, .func (.yield lp) #[] #[]), (1, .pointer (some ⟨bf, 0, none⟩)), (2, .pointer (some ⟨bk, 0, none⟩)), (4, .pointer (some ⟨b4, 0, none⟩))] ∧ St w0 [.blk b4 (.cells (nnArr (prP M0 P d).1 (prP M0 P d).2) 54), .blk bk (.cells (#[.func (.func g9) #[] caps.toArray]) 56), .blk bf (.cells (mbArr M0) 30), (gg)] ww ∧ nn = m - d ∧ d ≤ m ∧ GG d gg ∧ ∀ j, j < d → q j = false) (m - (0)) ⟨0, g0, h.only ⟨rfl, rfl, rfl, rfl, trivial⟩, s.as ⟨rfl, rfl, rfl, rfl, trivial⟩, rfl, Nat.zero_le _, hg0, fun j hj => absurd hj (Nat.not_lt_zero _)⟩ ?_
  rintro _ f w1 ⟨d, gg, h, s, hnn, hp0, hp1, hp2⟩
  refine wpIn_block ?_
  refine c_seq fun K2 hK2 => ?_
  refine c_region ?_
  refine s_load_one 1 h s one56 rfl rfl (rfl) rfl ?_; intro f h
  refine s_pure h (ru_field fld54_0 (h.ev rfl)) rfl ?_; intro f h
  refine s_load_at (Has.subL (Has.of_own s 0 rfl) 0 33 (D := mbArr (prP M0 P d).1) (nnArr_m _ _)) h row30 rfl (mbArr_size _) rfl ?_; intro f h
  refine s_callV [.agg (mbArr (prP M0 P d).1)] (caps := caps) h s hg rfl (hp _ s.ext d) rfl rfl ?_; intro f w1 v11 hT hE h s; obtain rfl := hT
  refine s_alloc (nnArr zMb false) h s zero54 rfl rfl ?_; intro f w1 b5 h s
  refine s_store_row 0 h s row54 rfl rfl rfl (nnArr_size _ _) (nnArr_size _ _) (nnArr_ones _ _) ?_; intro w1 s
  refine s_nil ?_
  refine hK2 _ _ ?_
  refine c_seq fun K3 hK3 => ?_
  refine c_seq fun K4 hK4 => ?_
  cases h0 : (stB M0 P d : Bool)
  · skip
    cases hq : (q d : Bool)
    · skip
      refine c_region ?_
      refine s_load_row 0 h s row54 rfl rfl (nnArr_size _ _) rfl ?_; intro f h
      refine s_load_row 1 h s row54 rfl rfl (nnArr_size _ _) rfl ?_; intro f h
      refine s_pure h (ru_val (.bool false) (ru_eqlW (eqA _ _ _ _) (by kernel_rfl) (by decide) (h.ev rfl) (h.ev rfl) (stB M0 P d) (nnEq _ _)) (congrArg Value.bool h0)) rfl ?_; intro f h
      refine s_pure h (ru_move (h.ev rfl)) rfl ?_; intro f h
      refine s_on h rfl rfl rfl ?_
      have hdl : d < m := Nat.lt_of_le_of_ne hp0 fun e9 => by subst e9; rw [hend hp2] at h0; cases h0
      refine s_pure h (ru_move (h.ev rfl)) rfl ?_; intro f h
      refine s_on h rfl rfl rfl ?_
      refine s_load_row 0 h s row54 rfl rfl (nnArr_size _ _) rfl ?_; intro f h
      refine s_on h rfl rfl rfl ?_
      refine s_yieldG (V := .bool true) (G := GG (d + 1)) [.agg (nnArr (P d).1 (P d).2)] 4 h rfl rfl (by have h9 := hY d _ _ 4 gg hdl hp2 hp1 s rfl; rw [hq] at h9; exact h9) rfl ?_; intro f w1 g1 hg1 h s
      refine s_on h rfl rfl rfl ?_
      refine s_pure h (ru_val (.bool false) (ru_not (h.ev rfl)) rfl) rfl ?_; intro f h
      refine s_pure h (ru_pick_f (h.ev rfl) (h.ev rfl)) rfl ?_; intro f h
      refine s_nil ?_
      refine hK4 _ _ ?_
      refine wpIn_cond_false (h.ev rfl) ?_
      refine wpIn_skip ?_
      refine hK3 _ _ ?_
      refine c_region ?_
      refine s_load_row 0 h s row54 rfl rfl (nnArr_size _ _) rfl ?_; intro f h
      refine s_store_row 1 h s row54 rfl rfl rfl (nnArr_size _ _) (nnArr_size _ _) (nnArr_ones _ _) ?_; intro w1 s
      refine s_nil ?_
      refine b_norm ?_
      refine t_norm ?_
      exact ⟨_, by omega, ⟨d + 1, g1, h.only ⟨rfl, rfl, rfl, rfl, trivial⟩, St.as (s.pick _ (List.sublist_append_right [_] _)) ⟨rfl, rfl, rfl, rfl, trivial⟩, rfl, hdl, hg1, qs_next hp2 hq⟩⟩
    · skip
      refine c_region ?_
      refine s_load_row 0 h s row54 rfl rfl (nnArr_size _ _) rfl ?_; intro f h
      refine s_load_row 1 h s row54 rfl rfl (nnArr_size _ _) rfl ?_; intro f h
      refine s_pure h (ru_val (.bool false) (ru_eqlW (eqA _ _ _ _) (by kernel_rfl) (by decide) (h.ev rfl) (h.ev rfl) (stB M0 P d) (nnEq _ _)) (congrArg Value.bool h0)) rfl ?_; intro f h
      refine s_pure h (ru_move (h.ev rfl)) rfl ?_; intro f h
      refine s_on h rfl rfl rfl ?_
      have hdl : d < m := Nat.lt_of_le_of_ne hp0 fun e9 => by subst e9; rw [hend hp2] at h0; cases h0
      refine s_pure h (ru_move (h.ev rfl)) rfl ?_; intro f h
      refine s_on h rfl rfl rfl ?_
      refine s_load_row 0 h s row54 rfl rfl (nnArr_size _ _) rfl ?_; intro f h
      refine s_on h rfl rfl rfl ?_
      refine s_yieldG (V := .bool false) (G := GG (d + 1)) [.agg (nnArr (P d).1 (P d).2)] 4 h rfl rfl (by have h9 := hY d _ _ 4 gg hdl hp2 hp1 s rfl; rw [hq] at h9; exact h9) rfl ?_; intro f w1 g1 hg1 h s
      refine s_on h rfl rfl rfl ?_
      refine s_pure h (ru_val (.bool true) (ru_not (h.ev rfl)) rfl) rfl ?_; intro f h
      refine s_pure h (ru_pick_f (h.ev rfl) (h.ev rfl)) rfl ?_; intro f h
      refine s_nil ?_
      refine hK4 _ _ ?_
      refine wpIn_cond_true (h.ev rfl) ?_
      refine wpIn_ret ?_
      refine t_ret ?_
      refine b_ret ?_
      refine t_ret ?_
      refine b_ret ?_
      exact e_noneF rfl h (⟨⟨_, rfl⟩, d + 1, g1, hg1, (s.sel [2, 3, 4] rfl (by decide)), hdl, fun j hj => hp2 j (by omega), fun h9 => absurd (hq.symm.trans h9) (by decide)⟩)
  · skip
    refine c_region ?_
    refine s_load_row 0 h s row54 rfl rfl (nnArr_size _ _) rfl ?_; intro f h
    refine s_load_row 1 h s row54 rfl rfl (nnArr_size _ _) rfl ?_; intro f h
    refine s_pure h (ru_val (.bool true) (ru_eqlW (eqA _ _ _ _) (by kernel_rfl) (by decide) (h.ev rfl) (h.ev rfl) (stB M0 P d) (nnEq _ _)) (congrArg Value.bool h0)) rfl ?_; intro f h
    refine s_pure h (ru_move (h.ev rfl)) rfl ?_; intro f h
    refine s_off (b := false) h rfl rfl rfl rfl ?_; intro f h
    refine s_off (b := false) h rfl rfl rfl rfl ?_; intro f h
    refine s_off (b := false) h rfl rfl rfl rfl ?_; intro f h
    refine s_off (b := false) h rfl rfl rfl rfl ?_; intro f h
    refine s_pure h (ru_pick_t (h.ev rfl) (h.ev rfl)) rfl ?_; intro f h
    refine s_nil ?_
    refine hK4 _ _ ?_
    refine wpIn_cond_true (h.ev rfl) ?_
    refine wpIn_ret ?_
    refine t_ret ?_
    refine b_ret ?_
    refine t_ret ?_
    refine b_ret ?_
    exact e_noneF rfl h (⟨⟨_, rfl⟩, d, gg, hp1, (s.sel [2, 3, 4] rfl (by decide)), hp0, fun j hj => hp2 j (by omega), fun _ => Nat.le_antisymm hp0 (Nat.le_of_not_lt fun h9 => by rw [hm d h9] at h0; cases h0)⟩)

theorem lend_any (l : List Int) (vh : Value) (o : Int) (B9 : List Own) (w0 w : World) (s : St w0 (.sl vh 3 1 (l).length (intC (l)) :: B9) w) (h1 : 1 ≤ l.length) (hl9 : l.length ≤ 20) : Calls Try.prog 47 [vh, .int .i64 o].toArray w (fun e w9 => ∃ v9, e = .returned v9 ∧ St w0 (.sl v9 3 1 ((endW l o)).length (intC ((endW l o))) :: B9) w9) := by
  refine c_enterF Try.func47 rfl Try.ntmps47 rfl [(0, vh), (1, .int .i64 o)] (by simp) fun f h => ?_
  refine c_seq fun K1 hK1 => ?_
  refine c_region ?_
  refine s_pure h (ru_assign (h.ev rfl)) rfl ?_; intro f h
  refine s_nil ?_
  refine hK1 _ _ ?_
  refine c_seq fun K2 hK2 => ?_
  refine c_seq fun K3 hK3 => ?_
  refine c_region ?_
  refine s_pure h (ru_move (h.ev rfl)) rfl ?_; intro f h
  refine s_pure h (ru_move (h.ev rfl)) rfl ?_; intro f h
  refine s_len_sl 0 h s Try.underlying28 rfl rfl rfl ?_; intro f h
  refine s_pure h (ru_sub (h.ev rfl) (h.ev rfl) (by omega)) rfl ?_; intro f h
  refine s_pure h (ru_ixz (RdZ.of_own (s.getSl 0 rfl)) ((l.length - 1)) Try.underlying28 szo3 (h.ev rfl) (h.ev rfl) (by omega) (by omega)) rfl ?_; intro f h
  refine s_load_at1 ((RdZ.of_own (s.getSl 0 rfl)).el1 ((l.length - 1)) (V := .int .i64 (l.getD (l.length - 1) 0)) (ns_el l _ (by omega))) h one3 rfl rfl ?_; intro f h
  refine s_pure h (ru_move (h.ev rfl)) rfl ?_; intro f h
  refine s_pure h (ru_eql (h.ev rfl) (h.ev rfl)) rfl ?_; intro f h
  refine s_nil ?_
  refine hK3 _ _ ?_
  refine c_cond h rfl (fun hc => ?_) (fun hc => ?_)
  · have he : (endW l o) = l := by unfold endW; rw [hc]; rfl
    replace s := s.resl (m := (endW l o).length) (ys := intC (endW l o)) 0 rfl (by rw [he]) (by rw [he])
    refine c_seq fun K4 hK4 => ?_
    refine c_region ?_
    refine s_pure h (ru_move (h.ev rfl)) rfl ?_; intro f h
    refine s_pure h (ru_assign (h.ev rfl)) rfl ?_; intro f h
    refine s_nil ?_
    refine hK4 _ _ ?_
    refine wpIn_ret ?_
    refine t_ret ?_
    exact e_tmpF rfl h rfl (⟨_, rfl, (s.pick _ (List.Sublist.cons_cons _ (List.Sublist.refl _)))⟩)
  · have he : (endW l o) = l ++ [o] := by unfold endW; rw [hc]; rfl
    refine wpIn_skip ?_
    refine hK2 _ _ ?_
    refine c_seq fun K5 hK5 => ?_
    refine c_region ?_
    refine s_pure h (ru_move (h.ev rfl)) rfl ?_; intro f h
    refine s_pure h (ru_move (h.ev rfl)) rfl ?_; intro f h
    refine s_bslice (vs := [.int .i64 o]) [.tmp 15] h s Try.underlying28 elm3 rfl rfl (by simp [Value.cells]) rfl rfl rfl ?_; intro f w1 v16 h s
    refine s_append 1 0 h s Try.underlying28 elm3 rfl rfl rfl rfl (by decide) (by simp [Value.oneCell', Value.cells]) (by unfold maxLen; omega) (by omega) rfl ?_; intro f w1 v17 h s
    replace s := s.pick _ (List.sublist_cons_self _ _)
    replace s := s.resl (m := (endW l o).length) (ys := intC (endW l o)) 0 rfl (by rw [he, List.length_append]; rfl) (by rw [he]; simp [Value.cells])
    refine s_pure h (ru_assign (h.ev rfl)) rfl ?_; intro f h
    refine s_nil ?_
    refine hK5 _ _ ?_
    refine wpIn_ret ?_
    exact e_tmpF rfl h rfl (⟨_, rfl, (s.pick _ (List.Sublist.cons_cons _ (List.Sublist.refl _)))⟩)

set_option maxHeartbeats 1000000 in
theorem lwalk_any (m : Nat) (P : Nat → Mb × Bool) (M0 : Mb) (hops : Nat) (hI : Int) (g9 : Nat) (caps : List Value) (w : World) (hhy : hI = (hops : Int)) (hh : hops ≤ 16) (hml : m ≤ 17) (hm : ∀ d, d < m → stB M0 P d = false) (hend : (∀ j, j < m → qW P hops j = false) → stB M0 P m = true) (hg : Fnc Try.prog g9) (hp : ∀ w9, Ext w w9 → ∀ d, Calls Try.prog g9 (.agg (mbArr (prP M0 P d).1) :: caps).toArray w9 (Ret w9 (is (.agg (nnArr (P d).1 (P d).2))))) : Calls Try.prog 21 [.agg (mbArr M0), .int .i64 hI, .func (.func g9) #[] caps.toArray].toArray w (Ret w (WlkP w 3 m P M0 hops)) := by
  refine c_enterM Try.func21 rfl Try.ntmps21 rfl [(0, .agg (mbArr M0)), (1, .int .i64 hI), (2, .func (.func g9) #[] caps.toArray)] (by simp) fun f h => ?_
  have s := St.start w
  refine c_seq fun K1 hK1 => ?_
  refine c_region ?_
  refine s_box ((mbArr M0)) h s rfl rfl rfl ?_; intro f w1 b3 h s
  refine s_box (#[.int .i64 hI]) h s rfl rfl rfl ?_; intro f w1 b4 h s
  refine s_alloc (#[.slice none 0 0]) h s zero28 rfl rfl ?_; intro f w1 b6 h s
  refine s_alloc (mbArr zMb) h s zero30 rfl rfl ?_; intro f w1 b7 h s
  refine s_alloc (#[.int .i64 0]) h s zero31 rfl rfl ?_; intro f w1 b8 h s
  refine s_nil ?_
  refine hK1 _ _ ?_
  refine c_seq fun K2 hK2 => ?_
  refine c_region ?_
  refine s_pure h (ru_field fld30_0 (h.ev rfl)) rfl ?_; intro f h
  refine s_load_at1 (cell_of_has (Has.of_own s 4 rfl) 0 (mbArr_no _)) h one3 rfl rfl ?_; intro f h
  refine s_bslice (vs := [.int .i64 M0.1]) [.tmp 12] h s Try.underlying28 elm3 rfl rfl (by simp [Value.cells]) rfl rfl rfl ?_; intro f w1 v13 h s
  replace s := s.resl (m := (askK M0 P 1).length) (ys := intC (askK M0 P 1)) 0 rfl (rfl) (by simp [Value.cells, askK, prP])
  refine s_alloc (#[.slice none 0 0]) h s zero28 rfl rfl ?_; intro f w1 b9 h s
  refine s_store_one 0 h s one28 rfl rfl rfl (by simp) (own_one (s.getSl 1 rfl)) ?_; intro w1 s
  refine s_nil ?_
  refine hK2 _ _ ?_
  refine c_seq fun K3 hK3 => ?_
  refine c_seq fun K4 hK4 => ?_
  refine c_region ?_
  refine s_load_row 6 h s row30 rfl rfl (mbArr_size _) rfl ?_; intro f h
  refine s_pure h (ru_move (h.ev rfl)) rfl ?_; intro f h
  refine s_callS [.agg (mbArr M0), .func (.func g9) #[] caps.toArray] h fnc46 (lsteps_ok M0 g9 caps _ _ _ s) rfl rfl ?_; rintro f w1 r ⟨bf, bk, rfl, s⟩ h
  refine s_nil ?_
  refine hK4 _ _ ?_
  refine wpIn_block ?_
  refine c_rangeE (fun d A9 => ∃ va vr : Value, ((∀ j, j < d → qW P hops j = false) → vr = va) ∧ A9 = [.sl vr 3 1 (jW M0 P hops d).length (intC (jW M0 P hops d)), .blk b9 (.cells #[va] 28), .blk b8 (.cells #[.int .i64 (jE P hops d)] 31), .blk b7 (.cells (mbArr (jM P d)) 30), .blk b6 (.cells #[jU P vr d] 28), .blk b4 (.cells #[.int .i64 hI] 3), .blk b3 (.cells (mbArr M0) 30)]) [.sl v13 3 1 (askK M0 P 1).length (intC (askK M0 P 1)), .blk b9 (.cells #[v13] 28), .blk b8 (.cells #[.int .i64 0] 31), .blk b7 (.cells (mbArr zMb) 30), .blk b6 (.cells #[.slice none 0 0] 28), .blk b4 (.cells #[.int .i64 hI] 3), .blk b3 (.cells (mbArr M0) 30)] [.blk bk (.cells #[.func (.func g9) #[] caps.toArray] 56), .blk bf (.cells (mbArr M0) 30)] (m) (qW P hops) (fun d => [Value.agg (nnArr (P d).1 (P d).2)]) h s rfl fnc79 (List.Perm.cons _ (List.Perm.cons _ (List.Perm.swap _ _ _))) (⟨v13, v13, fun _ => rfl, rfl⟩) (fun _ => rfl) ?_ ?_ ?_ ?_
  · intro lp w2 GG g0 hg0 s2 hY; exact siter_any m P M0 lp bf bk g9 caps (qW P hops) GG g0 w w2 s2 hg0 hm hend hg hp hY
  · intro lp D9 d9 rc R9 A9 w2 hd9 hq9 hJ9 s
    obtain ⟨va, vr, hvv, rfl⟩ := hJ9
    have h := Sl.round1 (p := 17) (V := .agg (nnArr (P d9).1 (P d9).2)) h rfl
    have hdm := hd9
    obtain rfl := hvv hq9
    obtain ⟨j1, j2, j3, j4⟩ := j_at (M0 := M0) vr hq9
    rw [j1, j2, j3, j4] at s
    clear j1 j2 j3 j4
    refine c_region ?_
    refine s_alloc (nnArr zMb false) h s zero54 rfl rfl ?_; intro f w1 b10 h s
    refine s_store_row 0 h s row54 rfl rfl rfl (nnArr_size _ _) (nnArr_size _ _) (nnArr_ones _ _) ?_; intro w1 s
    refine s_nil ?_
    refine t_norm ?_
    refine ⟨_, s.perm (List.perm_middle (l₁ := [_])), fun w3 s => ?_⟩
    refine wpIn_block ?_
    refine c_seq fun K5 hK5 => ?_
    refine c_seq fun K6 hK6 => ?_
    refine c_region ?_
    refine s_pure h (ru_field fld54_1 (h.ev rfl)) rfl ?_; intro f h
    refine s_load_at1 (V := .bool (P d9).2) (cell_of_has (Has.of_own s 1 rfl) 33 (nnArr_b _ _)) h one4 rfl rfl ?_; intro f h
    refine s_nil ?_
    refine hK6 _ _ ?_
    refine c_cond h rfl (fun hc => ?_) (fun hc => ?_)
    · have ho := hc
      refine c_seq fun K7 hK7 => ?_
      replace s := s.bring 7 rfl
      replace s := s.bring 4 rfl
      replace s : St w (.sl vr 3 1 (askK M0 P (d9 + 1)).length (intC (askK M0 P (d9 + 1))) :: .blk b6 (.cells (#[nilV]) 28) :: .blk lp (.loop (rc .busy)) :: .blk b10 (.cells (nnArr (P d9).1 (P d9).2) 54) :: .blk D9 (.deferred (some [])) :: .blk b9 (.cells (#[vr]) 28) :: .blk b8 (.cells (#[.int .i64 0]) 31) :: .blk b7 (.cells (mbArr zMb) 30) :: .blk b4 (.cells (#[.int .i64 hI]) 3) :: .blk b3 (.cells (mbArr M0) 30) :: R9) _ := s
      refine c_regT 2 8 [[], [], [1], [1, 2], [0, 1, 2, 3], [], [5], [0, 1, 2, 3, 4], [0, 1, 2, 3, 4, 5, 6, 7], [0, 1, 2, 3, 4, 5, 6, 7, 8]] [[], [], [], [], [10], [], [], [11], [], []] [fun _ => [], fun _ => [], fun _ => [], fun _ => [], fun v => [.sl (v 4) 3 1 (endW (askK M0 P (d9 + 1)) (P d9).1.1).length (intC (endW (askK M0 P (d9 + 1)) (P d9).1.1))], fun _ => [], fun _ => [], fun v => [.blk b6 (.cells (#[(v 4)]) 28)], fun _ => [], fun _ => []] [[.sl vr 3 1 (askK M0 P (d9 + 1)).length (intC (askK M0 P (d9 + 1)))], [.blk b6 (.cells (#[nilV]) 28)]] [fun v => v 0 = vr, fun v => v 1 = .pointer (some ⟨b10, 0, none⟩), fun v => v 2 = .pointer (some ⟨b10, 0, none⟩), fun v => v 3 = .int .i64 (P d9).1.1, fun v => (v 4).oneCell' = true, fun v => v 5 = .pointer (some ⟨b10, 0, none⟩), fun v => v 6 = .agg (mbArr (P d9).1), fun _ => True, fun _ => True, fun _ => True] (.blk lp (.loop (rc .busy)) :: .blk b10 (.cells (nnArr (P d9).1 (P d9).2) 54) :: .blk D9 (.deferred (some [])) :: .blk b9 (.cells (#[vr]) 28) :: .blk b8 (.cells (#[.int .i64 0]) 31) :: .blk b7 (.cells (mbArr zMb) 30) :: .blk b4 (.cells (#[.int .i64 hI]) 3) :: .blk b3 (.cells (mbArr M0) 30) :: R9) h s rfl (by kernel_rfl) (by kernel_rfl) (by kernel_rfl) (And.intro ?_ (And.intro ?_ (And.intro ?_ (And.intro ?_ (And.intro ?_ (And.intro ?_ (And.intro ?_ (And.intro ?_ (trivial))))))))) [0, 1, 2, 3, 4, 5, 6, 7] (by kernel_rfl) ?_
      · intro f9 w2 vl5 E9 hs9 hd9 hl hF s
        have e9 : f9.tmps.getD 9 undef = _ := oc_old hl 9 (by kernel_rfl) (by kernel_rfl) (h.holds 9 _ rfl)
        have h := fin_slot [(9, _)] (hs9.trans h.size) (hd9.trans h.defers) (holds_lk ⟨e9, trivial⟩)
        replace s : St w (.blk lp (.loop (rc .busy)) :: .blk b10 (.cells (nnArr (P d9).1 (P d9).2) 54) :: .blk D9 (.deferred (some [])) :: .blk b9 (.cells (#[vr]) 28) :: .blk b8 (.cells (#[.int .i64 0]) 31) :: .blk b7 (.cells (mbArr zMb) 30) :: .blk b4 (.cells (#[.int .i64 hI]) 3) :: .blk b3 (.cells (mbArr M0) 30) :: (R9 ++ E9)) _ := s
        refine s_load_one 3 h s one28 rfl rfl (rfl) rfl ?_; intro f h
        exact s_nil ⟨_, oc_out 20 rfl (h.holds 20 _ rfl), rfl, s⟩
      · intro f9 w2 vl5 E9 hs9 hd9 hl hF s
        have e10 : f9.tmps.getD 10 undef = _ := oc_old hl 10 (by kernel_rfl) (by kernel_rfl) (h.holds 10 _ rfl)
        have h := fin_slot [(10, _)] (hs9.trans h.size) (hd9.trans h.defers) (holds_lk ⟨e10, trivial⟩)
        replace s : St w (.blk lp (.loop (rc .busy)) :: .blk b10 (.cells (nnArr (P d9).1 (P d9).2) 54) :: .blk D9 (.deferred (some [])) :: .blk b9 (.cells (#[vr]) 28) :: .blk b8 (.cells (#[.int .i64 0]) 31) :: .blk b7 (.cells (mbArr zMb) 30) :: .blk b4 (.cells (#[.int .i64 hI]) 3) :: .blk b3 (.cells (mbArr M0) 30) :: (R9 ++ E9)) _ := s
        refine s_pure h (ru_field fld54_0 (h.ev rfl)) rfl ?_; intro f h
        exact s_nil ⟨_, oc_out 21 rfl (h.holds 21 _ rfl), rfl, s⟩
      · intro f9 w2 vl5 E9 hs9 hd9 hl hF s
        have e21 : f9.tmps.getD 21 undef = .pointer (some ⟨b10, 0, none⟩) := (oc_get hl 21 1 (by kernel_rfl) (by kernel_rfl)).trans (hF 1 (by decide))
        have h := fin_slot [(21, .pointer (some ⟨b10, 0, none⟩))] (hs9.trans h.size) (hd9.trans h.defers) (holds_lk ⟨e21, trivial⟩)
        replace s : St w (.blk lp (.loop (rc .busy)) :: .blk b10 (.cells (nnArr (P d9).1 (P d9).2) 54) :: .blk D9 (.deferred (some [])) :: .blk b9 (.cells (#[vr]) 28) :: .blk b8 (.cells (#[.int .i64 0]) 31) :: .blk b7 (.cells (mbArr zMb) 30) :: .blk b4 (.cells (#[.int .i64 hI]) 3) :: .blk b3 (.cells (mbArr M0) 30) :: (R9 ++ E9)) _ := s
        refine s_pure h (ru_field fld30_0 (h.ev rfl)) rfl ?_; intro f h
        exact s_nil ⟨_, oc_out 22 rfl (h.holds 22 _ rfl), rfl, s⟩
      · intro f9 w2 vl5 E9 hs9 hd9 hl hF s
        have e22 : f9.tmps.getD 22 undef = .pointer (some ⟨b10, 0, none⟩) := (oc_get hl 22 2 (by kernel_rfl) (by kernel_rfl)).trans (hF 2 (by decide))
        have h := fin_slot [(22, .pointer (some ⟨b10, 0, none⟩))] (hs9.trans h.size) (hd9.trans h.defers) (holds_lk ⟨e22, trivial⟩)
        replace s : St w (.blk lp (.loop (rc .busy)) :: .blk b10 (.cells (nnArr (P d9).1 (P d9).2) 54) :: .blk D9 (.deferred (some [])) :: .blk b9 (.cells (#[vr]) 28) :: .blk b8 (.cells (#[.int .i64 0]) 31) :: .blk b7 (.cells (mbArr zMb) 30) :: .blk b4 (.cells (#[.int .i64 hI]) 3) :: .blk b3 (.cells (mbArr M0) 30) :: (R9 ++ E9)) _ := s
        refine s_load_at1 (V := .int .i64 (P d9).1.1) (cell_of_has (Has.of_own s 1 rfl) 0 (nn_no _ _)) h one3 rfl rfl ?_; intro f h
        exact s_nil ⟨_, oc_out 23 rfl (h.holds 23 _ rfl), rfl, s⟩
      · intro f9 w2 vl5 E9 hs9 hd9 hl hF s
        have e20 : f9.tmps.getD 20 undef = vr := (oc_get hl 20 0 (by kernel_rfl) (by kernel_rfl)).trans (hF 0 (by decide))
        have e23 : f9.tmps.getD 23 undef = .int .i64 (P d9).1.1 := (oc_get hl 23 3 (by kernel_rfl) (by kernel_rfl)).trans (hF 3 (by decide))
        have h := fin_slot [(20, vr), (23, .int .i64 (P d9).1.1)] (hs9.trans h.size) (hd9.trans h.defers) (holds_lk ⟨e20, e23, trivial⟩)
        replace s : St w (.sl vr 3 1 (askK M0 P (d9 + 1)).length (intC (askK M0 P (d9 + 1))) :: .blk lp (.loop (rc .busy)) :: .blk b10 (.cells (nnArr (P d9).1 (P d9).2) 54) :: .blk D9 (.deferred (some [])) :: .blk b9 (.cells (#[vr]) 28) :: .blk b8 (.cells (#[.int .i64 0]) 31) :: .blk b7 (.cells (mbArr zMb) 30) :: .blk b4 (.cells (#[.int .i64 hI]) 3) :: .blk b3 (.cells (mbArr M0) 30) :: (R9 ++ E9)) _ := s
        refine s_callS [vr, .int .i64 (P d9).1.1] h fnc47 (lend_any (askK M0 P (d9 + 1)) vr (P d9).1.1 _ _ _ s (by rw [ask_len]; omega) (by rw [ask_len]; omega)) rfl rfl ?_; rintro f w1 v24 s h
        exact s_nil ⟨_, oc_out 24 rfl (h.holds 24 _ rfl), own_one (s.getSl 0 rfl), s⟩
      · intro f9 w2 vl5 E9 hs9 hd9 hl hF s
        have e10 : f9.tmps.getD 10 undef = _ := oc_old hl 10 (by kernel_rfl) (by kernel_rfl) (h.holds 10 _ rfl)
        have h := fin_slot [(10, _)] (hs9.trans h.size) (hd9.trans h.defers) (holds_lk ⟨e10, trivial⟩)
        replace s : St w (.blk lp (.loop (rc .busy)) :: .blk b10 (.cells (nnArr (P d9).1 (P d9).2) 54) :: .blk D9 (.deferred (some [])) :: .blk b9 (.cells (#[vr]) 28) :: .blk b8 (.cells (#[.int .i64 0]) 31) :: .blk b7 (.cells (mbArr zMb) 30) :: .blk b4 (.cells (#[.int .i64 hI]) 3) :: .blk b3 (.cells (mbArr M0) 30) :: (R9 ++ E9)) _ := s
        refine s_pure h (ru_field fld54_0 (h.ev rfl)) rfl ?_; intro f h
        exact s_nil ⟨_, oc_out 25 rfl (h.holds 25 _ rfl), rfl, s⟩
      · intro f9 w2 vl5 E9 hs9 hd9 hl hF s
        have e25 : f9.tmps.getD 25 undef = .pointer (some ⟨b10, 0, none⟩) := (oc_get hl 25 5 (by kernel_rfl) (by kernel_rfl)).trans (hF 5 (by decide))
        have h := fin_slot [(25, .pointer (some ⟨b10, 0, none⟩))] (hs9.trans h.size) (hd9.trans h.defers) (holds_lk ⟨e25, trivial⟩)
        replace s : St w (.blk lp (.loop (rc .busy)) :: .blk b10 (.cells (nnArr (P d9).1 (P d9).2) 54) :: .blk D9 (.deferred (some [])) :: .blk b9 (.cells (#[vr]) 28) :: .blk b8 (.cells (#[.int .i64 0]) 31) :: .blk b7 (.cells (mbArr zMb) 30) :: .blk b4 (.cells (#[.int .i64 hI]) 3) :: .blk b3 (.cells (mbArr M0) 30) :: (R9 ++ E9)) _ := s
        refine s_load_at (Has.subL (Has.of_own s 1 rfl) 0 33 (D := mbArr (P d9).1) (nnArr_m _ _)) h row30 rfl (mbArr_size _) rfl ?_; intro f h
        exact s_nil ⟨_, oc_out 26 rfl (h.holds 26 _ rfl), rfl, s⟩
      · intro f9 w2 vl5 E9 hs9 hd9 hl hF s
        have e6 : f9.tmps.getD 6 undef = _ := oc_old hl 6 (by kernel_rfl) (by kernel_rfl) (h.holds 6 _ rfl)
        have e24 : f9.tmps.getD 24 undef = (vl5 4) := oc_get hl 24 4 (by kernel_rfl) (by kernel_rfl)
        have h := fin_slot [(6, _), (24, (vl5 4))] (hs9.trans h.size) (hd9.trans h.defers) (holds_lk ⟨e6, e24, trivial⟩)
        replace s : St w (.blk b6 (.cells (#[nilV]) 28) :: .blk lp (.loop (rc .busy)) :: .blk b10 (.cells (nnArr (P d9).1 (P d9).2) 54) :: .blk D9 (.deferred (some [])) :: .blk b9 (.cells (#[vr]) 28) :: .blk b8 (.cells (#[.int .i64 0]) 31) :: .blk b7 (.cells (mbArr zMb) 30) :: .blk b4 (.cells (#[.int .i64 hI]) 3) :: .blk b3 (.cells (mbArr M0) 30) :: (R9 ++ E9)) _ := s
        refine s_store_one 0 h s one28 rfl rfl rfl (by simp) ((hF 4 (by decide))) ?_; intro w1 s
        exact s_nil ⟨undef, oc_none rfl, trivial, s⟩
      intro f w1 vl5 hs9 hd9 hv hr hF s
      replace hv := fun i d h9 => hv i d (show Nat.blt i 8 = true from h9)
      replace h := oc_slT 8 (ops := _) [(20, vr), (21, .pointer (some ⟨b10, 0, none⟩)), (22, .pointer (some ⟨b10, 0, none⟩)), (23, .int .i64 (P d9).1.1), (24, (vl5 4)), (25, .pointer (some ⟨b10, 0, none⟩)), (26, .agg (mbArr (P d9).1))] h hs9 hd9 hr ⟨(hv 0 20 rfl rfl).trans (hF 0 (by kernel_rfl)), (hv 1 21 rfl rfl).trans (hF 1 (by kernel_rfl)), (hv 2 22 rfl rfl).trans (hF 2 (by kernel_rfl)), (hv 3 23 rfl rfl).trans (hF 3 (by kernel_rfl)), hv 4 24 rfl rfl, (hv 5 25 rfl rfl).trans (hF 5 (by kernel_rfl)), (hv 6 26 rfl rfl).trans (hF 6 (by kernel_rfl)), trivial⟩ (by kernel_rfl)
      replace s : St w (.sl (vl5 4) 3 1 (endW (askK M0 P (d9 + 1)) (P d9).1.1).length (intC (endW (askK M0 P (d9 + 1)) (P d9).1.1)) :: .blk b6 (.cells (#[(vl5 4)]) 28) :: .blk lp (.loop (rc .busy)) :: .blk b10 (.cells (nnArr (P d9).1 (P d9).2) 54) :: .blk D9 (.deferred (some [])) :: .blk b9 (.cells (#[vr]) 28) :: .blk b8 (.cells (#[.int .i64 0]) 31) :: .blk b7 (.cells (mbArr zMb) 30) :: .blk b4 (.cells (#[.int .i64 hI]) 3) :: .blk b3 (.cells (mbArr M0) 30) :: R9) _ := s
      refine s_store_row 7 h s row30 rfl rfl rfl (mbArr_size _) (mbArr_size _) (mbArr_ones _) ?_; intro w1 s
      refine s_store_one 6 h s one31 rfl rfl rfl (by simp) (rfl) ?_; intro w1 s
      refine s_nil ?_
      refine hK7 _ _ ?_
      refine wpIn_ret ?_
      refine t_ret ?_
      refine b_ret ?_
      obtain ⟨j1, j2, j3, j4⟩ := j_own (M0 := M0) (hops := hops) (vl5 4) ho
      replace s := s.recell (D := #[.int .i64 (jE P hops (d9 + 1))]) 6 rfl (by rw [j3] <;> rfl)
      replace s := s.recell (D := mbArr (jM P (d9 + 1))) 7 rfl (by rw [j2] <;> rfl)
      replace s := s.recell (D := #[jU P (vl5 4) (d9 + 1)]) 1 rfl (by rw [j4] <;> rfl)
      replace s := s.resl (m := (jW M0 P hops (d9 + 1)).length) (ys := intC (jW M0 P hops (d9 + 1))) 0 rfl (by rw [j1]) (by rw [j1])
      replace s := s.bring 1 rfl
      replace s := s.bring 7 rfl
      replace s := s.bring 7 rfl
      replace s := s.bring 7 rfl
      replace s := s.bring 4 rfl
      replace s := s.bring 7 rfl
      replace s := s.bring 7 rfl
      replace s := s.bring 7 rfl
      replace s : St w (.blk lp (.loop (rc .busy)) :: .blk b10 (.cells (nnArr (P d9).1 (P d9).2) 54) :: .blk D9 (.deferred (some [])) :: .sl (vl5 4) 3 1 (jW M0 P hops (d9 + 1)).length (intC (jW M0 P hops (d9 + 1))) :: .blk b9 (.cells (#[vr]) 28) :: .blk b8 (.cells (#[.int .i64 (jE P hops (d9 + 1))]) 31) :: .blk b7 (.cells (mbArr (jM P (d9 + 1))) 30) :: .blk b6 (.cells (#[jU P (vl5 4) (d9 + 1)]) 28) :: .blk b4 (.cells (#[.int .i64 hI]) 3) :: .blk b3 (.cells (mbArr M0) 30) :: R9) _ := s
      refine ⟨by show qW P hops d9 = true; unfold qW; rw [ho]; rfl, _, ⟨vr, (vl5 4), fun h9 => absurd (h9 d9 (Nat.lt_succ_self _)) (by unfold qW; rw [ho]; exact Bool.noConfusion), rfl⟩, s.pick _ ?_⟩
      exact List.Sublist.cons_cons _ (List.Sublist.cons _ (List.Sublist.refl _))
    · have ho := hc
      refine wpIn_skip ?_
      refine hK5 _ _ ?_
      refine c_seq fun K8 hK8 => ?_
      refine c_seq fun K9 hK9 => ?_
      refine c_region ?_
      refine s_load_one 4 h s one28 rfl rfl (rfl) rfl ?_; intro f h
      refine s_len_sl 3 h s Try.underlying28 rfl rfl rfl ?_; intro f h
      refine s_load_one 8 h s one3 rfl rfl (rfl) rfl ?_; intro f h
      refine s_pure h (ru_gtr (h.ev rfl) (h.ev rfl)) rfl ?_; intro f h
      refine s_nil ?_
      refine hK9 _ _ ?_
      refine c_cond h rfl (fun hc => ?_) (fun hc => ?_)
      · have hk : hops ≤ d9 := by have h9 := of_decide_eq_true hc; rw [ask_len] at h9; omega
        refine c_seq fun K10 hK10 => ?_
        refine c_region ?_
        refine s_pure h (ru_build_mb0 sttM) rfl ?_; intro f h
        refine s_store_one 7 h s one28 rfl rfl rfl (by simp) (rfl) ?_; intro w1 s
        refine s_store_row 6 h s row30 rfl rfl rfl (mbArr_size _) (mbArr_size _) (mbArr_ones _) ?_; intro w1 s
        refine s_store_one 5 h s one31 rfl rfl rfl (by simp) (rfl) ?_; intro w1 s
        refine s_nil ?_
        refine hK10 _ _ ?_
        refine wpIn_ret ?_
        refine t_ret ?_
        refine b_ret ?_
        obtain ⟨j1, j2, j3, j4⟩ := j_hops (M0 := M0) vr ho hk
        replace s := s.recell (D := #[.int .i64 (jE P hops (d9 + 1))]) 5 rfl (by rw [j3] <;> rfl)
        replace s := s.recell (D := mbArr (jM P (d9 + 1))) 6 rfl (by rw [j2] <;> rfl)
        replace s := s.recell (D := #[jU P vr (d9 + 1)]) 7 rfl (by rw [j4] <;> rfl)
        replace s := s.resl (m := (jW M0 P hops (d9 + 1)).length) (ys := intC (jW M0 P hops (d9 + 1))) 3 rfl (by rw [j1]) (by rw [j1])
        refine ⟨by show qW P hops d9 = true; unfold qW; rw [ho, decide_eq_true hk]; rfl, _, ⟨vr, vr, fun h9 => absurd (h9 d9 (Nat.lt_succ_self _)) (by unfold qW; rw [ho, decide_eq_true hk]; exact Bool.noConfusion), rfl⟩, s.pick _ ?_⟩
        exact List.Sublist.cons_cons _ (List.Sublist.cons _ (List.Sublist.refl _))
      · have hk : ¬ hops ≤ d9 := by have h9 := of_decide_eq_false hc; rw [ask_len] at h9; omega
        refine wpIn_skip ?_
        refine hK8 _ _ ?_
        refine c_region ?_
        refine s_load_one 4 h s one28 rfl rfl (rfl) rfl ?_; intro f h
        refine s_pure h (ru_field fld54_0 (h.ev rfl)) rfl ?_; intro f h
        refine s_pure h (ru_field fld30_0 (h.ev rfl)) rfl ?_; intro f h
        refine s_load_at1 (V := .int .i64 (P d9).1.1) (cell_of_has (Has.of_own s 1 rfl) 0 (nn_no _ _)) h one3 rfl rfl ?_; intro f h
        refine s_bslice (vs := [.int .i64 (P d9).1.1]) [.tmp 35] h s Try.underlying28 elm3 rfl rfl (by simp [Value.cells]) rfl rfl rfl ?_; intro f w1 v36 h s
        refine s_append 4 0 h s Try.underlying28 elm3 rfl rfl rfl rfl (by decide) (by simp [Value.oneCell', Value.cells]) (by rw [ask_len]; unfold maxLen; omega) (by rw [ask_len]; omega) rfl ?_; intro f w1 v37 h s
        replace s := s.pick _ (List.sublist_cons_self _ _)
        replace s := s.resl (m := (askK M0 P (d9 + 2)).length) (ys := intC (askK M0 P (d9 + 2))) 3 rfl (by rw [ask_two, List.length_append]; rfl) (by rw [ask_two]; simp [Value.cells])
        refine s_store_one 4 h s one28 rfl rfl rfl (by simp) (own_one (s.getSl 3 rfl)) ?_; intro w1 s
        refine s_nil ?_
        refine b_norm ?_
        obtain ⟨j1, j2, j3, j4⟩ := j_on (M0 := M0) v37 ho hk
        replace s := s.recell (D := #[.int .i64 (jE P hops (d9 + 1))]) 5 rfl (by rw [j3] <;> rfl)
        replace s := s.recell (D := mbArr (jM P (d9 + 1))) 6 rfl (by rw [j2] <;> rfl)
        replace s := s.recell (D := #[jU P v37 (d9 + 1)]) 7 rfl (by rw [j4] <;> rfl)
        replace s := s.resl (m := (jW M0 P hops (d9 + 1)).length) (ys := intC (jW M0 P hops (d9 + 1))) 3 rfl (by rw [j1]) (by rw [j1])
        refine ⟨by show qW P hops d9 = false; unfold qW; rw [ho, decide_eq_false hk]; rfl, _, ⟨v37, v37, fun _ => rfl, rfl⟩, s.pick _ ?_⟩
        exact List.Sublist.cons_cons _ (List.Sublist.cons _ (List.Sublist.refl _))
  · intro D9 A9 w2 hJ9 hq9 s
    obtain ⟨va, vr, hvv, rfl⟩ := hJ9
    replace h : Sl _ { f with defers := { target := .collected D9, args := #[] } :: f.defers } _ [{ target := .collected D9, args := #[] }] := ⟨h.size, by rw [h.defers], h.holds⟩
    obtain rfl := hvv hq9
    obtain ⟨j1, j2, j3, j4⟩ := j_at (M0 := M0) vr hq9
    rw [j1, j2, j3, j4] at s
    refine b_norm ?_
    refine hK3 _ _ ?_
    refine c_seq fun K11 hK11 => ?_
    refine c_region ?_
    refine s_pure h (ru_build_mb0 sttM) rfl ?_; intro f h
    refine s_store_one 7 h s one28 rfl rfl rfl (by simp) (rfl) ?_; intro w1 s
    refine s_store_row 6 h s row30 rfl rfl rfl (mbArr_size _) (mbArr_size _) (mbArr_ones _) ?_; intro w1 s
    refine s_store_one 5 h s one31 rfl rfl rfl (by simp) (rfl) ?_; intro w1 s
    refine s_nil ?_
    refine hK11 _ _ ?_
    refine wpIn_ret ?_
    exact e_cell_row_cell_MS 7 6 5 0 rfl h s one28 row30 one31 rfl rfl rfl rfl rfl rfl rfl rfl (mbArr_size _) rfl (fun w9 s9 => ⟨_, _, _, _, rfl, .inl ⟨rfl, rfl, rfl, hq9⟩, (s9.nilSl 3 1).getSl 0 rfl⟩)
  · intro D9 d9 A9 w2 hd9 hqd9 hq9 hJ9 s
    obtain ⟨va, vr, hvv, rfl⟩ := hJ9
    replace h : Sl _ { f with defers := { target := .collected D9, args := #[] } :: f.defers } _ [{ target := .collected D9, args := #[] }] := ⟨h.size, by rw [h.defers], h.holds⟩
    refine b_ret ?_
    refine t_ret ?_
    exact e_cell_row_cell_MS 7 6 5 0 rfl h s one28 row30 one31 rfl rfl rfl rfl rfl rfl rfl rfl (mbArr_size _) rfl (fun w9 s9 => wlk_left hd9 hqd9 hq9 (s9.getSl 3 rfl) ((s9.nilSl 3 1).getSl 0 rfl))

theorem lwalk1_any (L : List N3) (vo : Value) (x : Id) (y : Mb) (bo bi : Nat) (w : World) (hO : RdO w vo L) (hL : L.length ≤ 40) (hrs : RS L) (hlv : livesB (memL L) y.1 = true) (hb : RwB L) (ho9 : Tab w bo #[vo]) (hi9 : Tab w bi (idArr x)) : Calls Try.prog 19 [.agg (mbArr y), .pointer (some ⟨bo, 0, none⟩), .pointer (some ⟨bi, 0, none⟩)].toArray w (Ret w (is (.agg (nnArr (anM (memL L) (getL L y.1).1 x) (anB (memL L) (getL L y.1).1 x))))) := by
  refine c_enter Try.func19 rfl Try.ntmps19 rfl [(0, .agg (mbArr y)), (1, .pointer (some ⟨bo, 0, none⟩)), (2, .pointer (some ⟨bi, 0, none⟩))] (by simp) fun f h => ?_
  have s := St.start w
  refine c_seq fun K1 hK1 => ?_
  refine c_region ?_
  refine s_box ((mbArr y)) h s rfl rfl rfl ?_; intro f w1 b3 h s
  refine s_alloc (nnArr zMb false) h s zero54 rfl rfl ?_; intro f w1 b4 h s
  refine s_nil ?_
  refine hK1 _ _ ?_
  refine c_seq fun K2 hK2 => ?_
  refine c_region ?_
  refine s_load_at (Has.subL (Has.of_tab (ho9.keep s.ext)) 0 1 (D := #[vo]) (rfl)) h row24 rfl (rfl) rfl ?_; intro f h
  refine s_pure h (ru_field fld30_0 (h.ev rfl)) rfl ?_; intro f h
  refine s_load_at1 (cell_of_has (Has.of_own s 1 rfl) 0 (mbArr_no _)) h one3 rfl rfl ?_; intro f h
  refine s_load_at (Has.subL (Has.of_tab (hi9.keep s.ext)) 0 32 (D := idArr x) (idArr_ext _)) h row26 rfl (by first | exact idArr_size _ | exact bytesF_size _ _) rfl ?_; intro f h
  refine s_call h s fnc20 (lans_any L vo y.1 x _ (hO.keep s.ext) hL hrs hlv hb) rfl rfl ?_; intro f w1 v9 hT hE h s; obtain rfl := hT
  refine s_store_row 0 h s row54 rfl rfl rfl (nnArr_size _ _) (nnArr_size _ _) (nnArr_ones _ _) ?_; intro w1 s
  refine s_nil ?_
  refine hK2 _ _ ?_
  refine wpIn_ret ?_
  exact e_row 0 rfl h s row54 rfl rfl (nnArr_size _ _) (rfl)

set_option maxHeartbeats 1000000 in
theorem cwalk_any (L : List N3) (vo : Value) (x : Id) (no hops : Int) (w : World) (hO : RdO w vo L) (hL : L.length ≤ 40) (hb : RwB L) : Calls Try.prog 8 [.agg #[vo], .int .i64 no, idV x, .int .i64 hops].toArray w (Ret w (WkP w L x no hops)) := by
  refine c_enter Try.func8 rfl Try.ntmps8 rfl [(0, .agg #[vo]), (1, .int .i64 no), (2, idV x), (3, .int .i64 hops)] (by simp) fun f h => ?_
  have s := St.start w
  refine c_seq fun K1 hK1 => ?_
  refine c_region ?_
  refine s_box (#[vo]) h s rfl rfl rfl ?_; intro f w1 b4 h s
  refine s_box (idArr x) h s rfl rfl rfl ?_; intro f w1 b6 h s
  refine s_pure h (ru_assign (h.ev rfl)) rfl ?_; intro f h
  refine s_alloc (mbArr zMb) h s zero30 rfl rfl ?_; intro f w1 b9 h s
  refine s_pure h (ru_assign (h.ev rfl)) rfl ?_; intro f h
  refine s_nil ?_
  refine hK1 _ _ ?_
  refine c_seq fun K2 hK2 => ?_
  refine c_seq fun K3 hK3 => ?_
  cases r0 : (ovR L : Bool)
  · skip
    refine c_region ?_
    refine s_load_row 2 h s row24 rfl rfl (rfl) rfl ?_; intro f h
    refine s_call h s fnc17 (ret_val (.bool false) (cright_any L vo _ (hO.keep s.ext) hL hb) (congrArg Value.bool r0)) rfl rfl ?_; intro f w1 v9 hT hE h s; obtain rfl := hT
    refine s_pure h (ru_val (.bool true) (ru_not (h.ev rfl)) rfl) rfl ?_; intro f h
    refine s_pure h (ru_move (h.ev rfl)) rfl ?_; intro f h
    refine s_off (b := false) h rfl rfl rfl rfl ?_; intro f h
    refine s_off (b := false) h rfl rfl rfl rfl ?_; intro f h
    refine s_pure h (ru_pick_t (h.ev rfl) (h.ev rfl)) rfl ?_; intro f h
    refine s_pure h (ru_move (h.ev rfl)) rfl ?_; intro f h
    refine s_off (b := false) h rfl rfl rfl rfl ?_; intro f h
    refine s_off (b := false) h rfl rfl rfl rfl ?_; intro f h
    refine s_pure h (ru_pick_t (h.ev rfl) (h.ev rfl)) rfl ?_; intro f h
    refine s_nil ?_
    refine hK3 _ _ ?_
    refine wpIn_cond_true (h.ev rfl) ?_
    refine c_seq fun K4 hK4 => ?_
    refine c_region ?_
    refine s_pure h (ru_build_mb0 sttM) rfl ?_; intro f h
    refine s_pure h (ru_assign (h.ev rfl)) rfl ?_; intro f h
    refine s_store_row 0 h s row30 rfl rfl rfl (mbArr_size _) (mbArr_size _) (mbArr_ones _) ?_; intro w1 s
    refine s_pure h (ru_assign (h.ev rfl)) rfl ?_; intro f h
    refine s_nil ?_
    refine hK4 _ _ ?_
    refine wpIn_ret ?_
    refine t_ret ?_
    exact e_tmp_row_tmp 0 rfl h s row30 rfl rfl rfl (mbArr_size _) rfl (wkP_own (wk_no (by unfold wkOk; rw [r0]; rfl)) ((s.nilSl 3 1).sel [0] rfl (by decide)))
  · skip
    cases m0 : (decide (hops < 0) : Bool)
    · skip
      cases m1 : (decide (16 < hops) : Bool)
      · skip
        refine c_region ?_
        refine s_load_row 2 h s row24 rfl rfl (rfl) rfl ?_; intro f h
        refine s_call h s fnc17 (ret_val (.bool true) (cright_any L vo _ (hO.keep s.ext) hL hb) (congrArg Value.bool r0)) rfl rfl ?_; intro f w1 v9 hT hE h s; obtain rfl := hT
        refine s_pure h (ru_val (.bool false) (ru_not (h.ev rfl)) rfl) rfl ?_; intro f h
        refine s_pure h (ru_move (h.ev rfl)) rfl ?_; intro f h
        refine s_on h rfl rfl rfl ?_
        refine s_pure h (ru_move (h.ev rfl)) rfl ?_; intro f h
        refine s_on h rfl rfl rfl ?_
        refine s_pure h (ru_val (.bool false) (ru_lss (h.ev rfl) (h.ev rfl)) (congrArg Value.bool (decide_eq_false (by have := of_decide_eq_false m0; omega)))) rfl ?_; intro f h
        refine s_pure h (ru_pick_f (h.ev rfl) (h.ev rfl)) rfl ?_; intro f h
        refine s_pure h (ru_move (h.ev rfl)) rfl ?_; intro f h
        refine s_on h rfl rfl rfl ?_
        refine s_pure h (ru_move (h.ev rfl)) rfl ?_; intro f h
        refine s_on h rfl rfl rfl ?_
        refine s_pure h (ru_val (.bool false) (ru_gtr (h.ev rfl) (h.ev rfl)) (congrArg Value.bool (decide_eq_false (by have := of_decide_eq_false m1; omega)))) rfl ?_; intro f h
        refine s_pure h (ru_pick_f (h.ev rfl) (h.ev rfl)) rfl ?_; intro f h
        refine s_nil ?_
        refine hK3 _ _ ?_
        refine wpIn_cond_false (h.ev rfl) ?_
        refine wpIn_skip ?_
        refine hK2 _ _ ?_
        refine c_seq fun K5 hK5 => ?_
        refine c_region ?_
        have hm0 : 0 ≤ hops := by have := of_decide_eq_false m0; omega
        have hm1 : hops ≤ 16 := by have := of_decide_eq_false m1; omega
        have hrk := rk_of r0
        have hrs := (rl_iff r0).rs
        have hk9 := wk_ok (L := L) (x := x) (no := no) (hops := hops) (by unfold wkOk; rw [r0, decide_eq_true hm0, decide_eq_true hm1]; rfl)
        refine s_load_row 2 h s row24 rfl rfl (rfl) rfl ?_; intro f h
        refine s_pure h (ru_move (h.ev rfl)) rfl ?_; intro f h
        refine s_call h s fnc18 (lfind_any L vo no _ (hO.keep s.ext) hL) rfl rfl ?_; intro f w1 v9 hT hE h s; obtain rfl := hT
        refine s_pure h (ru_assign (h.ev rfl)) rfl ?_; intro f h
        refine s_nil ?_
        refine hK5 _ _ ?_
        refine c_seq fun K6 hK6 => ?_
        refine c_seq fun K7 hK7 => ?_
        cases l0 : (livesB (memL L) no : Bool)
        · skip
          refine c_region ?_
          refine s_pure h (ru_move (h.ev rfl)) rfl ?_; intro f h
          refine s_pure h (ru_val (.bool true) (ru_lss (h.ev rfl) (h.ev rfl)) (congrArg Value.bool ((fn_lives hrs.nos).trans (by rw [l0]; rfl)))) rfl ?_; intro f h
          refine s_nil ?_
          refine hK7 _ _ ?_
          refine wpIn_cond_true (h.ev rfl) ?_
          refine c_seq fun K8 hK8 => ?_
          refine c_region ?_
          refine s_pure h (ru_build_mb0 sttM) rfl ?_; intro f h
          refine s_pure h (ru_assign (h.ev rfl)) rfl ?_; intro f h
          refine s_store_row 0 h s row30 rfl rfl rfl (mbArr_size _) (mbArr_size _) (mbArr_ones _) ?_; intro w1 s
          refine s_pure h (ru_assign (h.ev rfl)) rfl ?_; intro f h
          refine s_nil ?_
          refine hK8 _ _ ?_
          refine wpIn_ret ?_
          refine t_ret ?_
          exact e_tmp_row_tmp 0 rfl h s row30 rfl rfl rfl (mbArr_size _) rfl (wkP_own (by have h9 := wl_down (L := L) (x := x) (hops := hops.toNat) l0; exact ⟨hk9.1.trans h9.1, hk9.2.1.trans h9.2.1, hk9.2.2.trans h9.2.2⟩) ((s.nilSl 3 1).sel [0] rfl (by decide)))
        · skip
          refine c_region ?_
          refine s_pure h (ru_move (h.ev rfl)) rfl ?_; intro f h
          refine s_pure h (ru_val (.bool false) (ru_lss (h.ev rfl) (h.ev rfl)) (congrArg Value.bool ((fn_lives hrs.nos).trans (by rw [l0]; rfl)))) rfl ?_; intro f h
          refine s_nil ?_
          refine hK7 _ _ ?_
          refine wpIn_cond_false (h.ev rfl) ?_
          refine wpIn_skip ?_
          refine hK6 _ _ ?_
          refine c_seq fun K9 hK9 => ?_
          refine c_region ?_
          refine s_pure h (ru_makeFunc [.pointer (some ⟨b4, 0, none⟩), .pointer (some ⟨b6, 0, none⟩)] (evsA h rfl)) rfl ?_; intro f h
          refine s_pure h (ru_assign (h.ev rfl)) rfl ?_; intro f h
          refine s_nil ?_
          refine hK9 _ _ ?_
          refine c_seq fun K10 hK10 => ?_
          refine c_region ?_
          obtain ⟨hgm, hno⟩ := hrs.get l0
          have hil : ixL L no < L.length := of_decide_eq_true ((ix_lives hrs.nos).trans l0)
          have hix := (ix_get hil).1
          refine s_pure h (ru_field fld24_0 (h.ev rfl)) rfl ?_; intro f h
          refine s_load_at1 (V := vo) (cell_of_has (Has.of_own s 2 rfl) 0 rfl) h one22 rfl rfl ?_; intro f h
          refine s_pure h (ru_move (h.ev rfl)) rfl ?_; intro f h
          refine s_pure h (ru_ixz (hO.1.keep s.ext) ((ixL L no)) Try.underlying22 szo46 (h.ev rfl) (h.ev rfl) (fn_y hil) (by omega)) rfl ?_; intro f h
          refine s_pure h (ru_fieldE fld46_0 (h.ev rfl) ((hO.1.keep s.ext).some (by omega))) rfl ?_; intro f h
          refine s_load_at (RdZ.elF (hO.1.keep s.ext) ((ixL L no)) 0 33 (by omega) (by decide) (C := ndArr (getL L no).1.me (getL L no).1.pr (getL L no).2.1 (getL L no).2.2) ((n3_el L (ixL L no) hil).trans (by rw [hix])) (D := mbArr (getL L no).1.me) (ndArr_me _ _ _ _)) h row30 rfl (mbArr_size _) rfl ?_; intro f h
          refine s_pure h (ru_move (h.ev rfl)) rfl ?_; intro f h
          refine s_pure h (ru_move (h.ev rfl)) rfl ?_; intro f h
          refine s_call h s fnc21 (lwalk_any (mW L x no hops.toNat) (PW L x no) (getL L no).1.me hops.toNat hops 19 [.pointer (some ⟨b4, 0, none⟩), .pointer (some ⟨b6, 0, none⟩)] _ (by omega) (by omega) (by have h9 := mW_le L x no hops.toNat; omega) (fun d h9 => mW_lt h9) mW_end fnc19 (fun w9 h9 d => (by have h8 := lwalk1_any L vo x (prP (getL L no).1.me (PW L x no) d).1 b4 b6 w9 (hO.keep (s.ext.trans h9)) hL hrs (by rw [pr_now hno]; exact now_lives hrs x l0 d) hb ((Tab.of_own s 2 rfl).keep h9) ((Tab.of_own s 1 rfl).keep h9); rw [pr_now hno] at h8; exact h8))) rfl rfl ?_; rintro f w1 v40 ⟨vq, WW, MM, EE, rfl, hO9, hOw⟩ hE h sq; replace s := s.sl_new hE hOw; clear hOw
          have hwl := wl_of hrk x l0 hO9
          have hkw : wkE L x no hops = EE ∧ wkM L x no hops = MM ∧ wkP L x no hops = WW := ⟨hk9.1.trans hwl.1, hk9.2.1.trans hwl.2.1, hk9.2.2.trans hwl.2.2⟩
          refine s_pure h (ru_extract (h.ev rfl) rfl) rfl ?_; intro f h
          refine s_pure h (ru_extract (h.ev rfl) rfl) rfl ?_; intro f h
          refine s_pure h (ru_extract (h.ev rfl) rfl) rfl ?_; intro f h
          refine s_pure h (ru_assign (h.ev rfl)) rfl ?_; intro f h
          refine s_store_row 1 h s row30 rfl rfl rfl (mbArr_size _) (mbArr_size _) (mbArr_ones _) ?_; intro w1 s
          refine s_pure h (ru_assign (h.ev rfl)) rfl ?_; intro f h
          refine s_nil ?_
          refine hK10 _ _ ?_
          refine wpIn_ret ?_
          exact e_tmp_row_tmp 1 rfl h s row30 rfl rfl rfl (mbArr_size _) rfl (wkP_own (p := vq) hkw (s.sel [0] rfl (by decide)))
      · skip
        refine c_region ?_
        refine s_load_row 2 h s row24 rfl rfl (rfl) rfl ?_; intro f h
        refine s_call h s fnc17 (ret_val (.bool true) (cright_any L vo _ (hO.keep s.ext) hL hb) (congrArg Value.bool r0)) rfl rfl ?_; intro f w1 v9 hT hE h s; obtain rfl := hT
        refine s_pure h (ru_val (.bool false) (ru_not (h.ev rfl)) rfl) rfl ?_; intro f h
        refine s_pure h (ru_move (h.ev rfl)) rfl ?_; intro f h
        refine s_on h rfl rfl rfl ?_
        refine s_pure h (ru_move (h.ev rfl)) rfl ?_; intro f h
        refine s_on h rfl rfl rfl ?_
        refine s_pure h (ru_val (.bool false) (ru_lss (h.ev rfl) (h.ev rfl)) (congrArg Value.bool (decide_eq_false (by have := of_decide_eq_false m0; omega)))) rfl ?_; intro f h
        refine s_pure h (ru_pick_f (h.ev rfl) (h.ev rfl)) rfl ?_; intro f h
        refine s_pure h (ru_move (h.ev rfl)) rfl ?_; intro f h
        refine s_on h rfl rfl rfl ?_
        refine s_pure h (ru_move (h.ev rfl)) rfl ?_; intro f h
        refine s_on h rfl rfl rfl ?_
        refine s_pure h (ru_val (.bool true) (ru_gtr (h.ev rfl) (h.ev rfl)) (congrArg Value.bool (decide_eq_true (by have := of_decide_eq_true m1; omega)))) rfl ?_; intro f h
        refine s_pure h (ru_pick_f (h.ev rfl) (h.ev rfl)) rfl ?_; intro f h
        refine s_nil ?_
        refine hK3 _ _ ?_
        refine wpIn_cond_true (h.ev rfl) ?_
        refine c_seq fun K11 hK11 => ?_
        refine c_region ?_
        refine s_pure h (ru_build_mb0 sttM) rfl ?_; intro f h
        refine s_pure h (ru_assign (h.ev rfl)) rfl ?_; intro f h
        refine s_store_row 0 h s row30 rfl rfl rfl (mbArr_size _) (mbArr_size _) (mbArr_ones _) ?_; intro w1 s
        refine s_pure h (ru_assign (h.ev rfl)) rfl ?_; intro f h
        refine s_nil ?_
        refine hK11 _ _ ?_
        refine wpIn_ret ?_
        refine t_ret ?_
        exact e_tmp_row_tmp 0 rfl h s row30 rfl rfl rfl (mbArr_size _) rfl (wkP_own (wk_no (by unfold wkOk; rw [decide_eq_false (by have := of_decide_eq_true m1; omega : ¬ hops ≤ 16), Bool.and_false, Bool.and_false])) ((s.nilSl 3 1).sel [0] rfl (by decide)))
    · skip
      refine c_region ?_
      refine s_load_row 2 h s row24 rfl rfl (rfl) rfl ?_; intro f h
      refine s_call h s fnc17 (ret_val (.bool true) (cright_any L vo _ (hO.keep s.ext) hL hb) (congrArg Value.bool r0)) rfl rfl ?_; intro f w1 v9 hT hE h s; obtain rfl := hT
      refine s_pure h (ru_val (.bool false) (ru_not (h.ev rfl)) rfl) rfl ?_; intro f h
      refine s_pure h (ru_move (h.ev rfl)) rfl ?_; intro f h
      refine s_on h rfl rfl rfl ?_
      refine s_pure h (ru_move (h.ev rfl)) rfl ?_; intro f h
      refine s_on h rfl rfl rfl ?_
      refine s_pure h (ru_val (.bool true) (ru_lss (h.ev rfl) (h.ev rfl)) (congrArg Value.bool (decide_eq_true (by have := of_decide_eq_true m0; omega)))) rfl ?_; intro f h
      refine s_pure h (ru_pick_f (h.ev rfl) (h.ev rfl)) rfl ?_; intro f h
      refine s_pure h (ru_move (h.ev rfl)) rfl ?_; intro f h
      refine s_off (b := false) h rfl rfl rfl rfl ?_; intro f h
      refine s_off (b := false) h rfl rfl rfl rfl ?_; intro f h
      refine s_pure h (ru_pick_t (h.ev rfl) (h.ev rfl)) rfl ?_; intro f h
      refine s_nil ?_
      refine hK3 _ _ ?_
      refine wpIn_cond_true (h.ev rfl) ?_
      refine c_seq fun K12 hK12 => ?_
      refine c_region ?_
      refine s_pure h (ru_build_mb0 sttM) rfl ?_; intro f h
      refine s_pure h (ru_assign (h.ev rfl)) rfl ?_; intro f h
      refine s_store_row 0 h s row30 rfl rfl rfl (mbArr_size _) (mbArr_size _) (mbArr_ones _) ?_; intro w1 s
      refine s_pure h (ru_assign (h.ev rfl)) rfl ?_; intro f h
      refine s_nil ?_
      refine hK12 _ _ ?_
      refine wpIn_ret ?_
      refine t_ret ?_
      exact e_tmp_row_tmp 0 rfl h s row30 rfl rfl rfl (mbArr_size _) rfl (wkP_own (wk_no (by unfold wkOk; rw [decide_eq_false (by have := of_decide_eq_true m0; omega : ¬ 0 ≤ hops), Bool.false_and, Bool.and_false])) ((s.nilSl 3 1).sel [0] rfl (by decide)))
end Go.Proofs.Ytndbijifgalpbaa
