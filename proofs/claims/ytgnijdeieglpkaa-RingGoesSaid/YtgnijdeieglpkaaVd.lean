/- What package ring sorts, and who follows whom: for all lists of at most 1000 members that may be. -/
import Derived.Test.YtgnijdeieglpkaaVb
import Derived.Test.YtgnijdeieglpkaaSh
set_option linter.unusedVariables false
set_option linter.unusedSimpArgs false
set_option linter.unusedSectionVars false
namespace Go.Proofs.Ytgnijdeieglpkaa
open Go.RowKit
theorem values_ok (a9 : Option Addr) (n9 c9 : Nat) (w : World) : Calls Try.prog 36 [.slice a9 n9 c9].toArray w (Ret w (fun v w9 => ∃ bx, v = .func (.func 47) #[] #[.pointer (some ⟨bx, 0, none⟩)] ∧ Tab w9 bx #[.slice a9 n9 c9])) := by
  refine c_enter Try.func36 rfl Try.ntmps36 rfl [(0, .slice a9 n9 c9)] (by simp) fun f h => ?_
  have s := St.start w
  refine c_seq fun K1 hK1 => ?_
  refine c_region ?_
  refine s_box (#[.slice a9 n9 c9]) h s rfl rfl rfl ?_; intro f w1 b1 h s
  refine s_pure h (ru_assign (h.ev rfl)) rfl ?_; intro f h
  refine s_nil ?_
  refine hK1 _ _ ?_
  refine c_seq fun K2 hK2 => ?_
  refine c_region ?_
  refine s_pure h (ru_makeFunc [.pointer (some ⟨b1, 0, none⟩)] (evsA h rfl)) rfl ?_; intro f h
  refine s_pure h (ru_assign (h.ev rfl)) rfl ?_; intro f h
  refine s_nil ?_
  refine hK2 _ _ ?_
  refine wpIn_ret ?_
  exact e_tmp rfl h s rfl (⟨b1, rfl, Tab.of_own s 0 rfl⟩)

theorem values_any (l : List Mb) (vh : Value) (w : World) (hR : RdZ w vh 33 l.length (mbCells l)) : Calls Try.prog 36 [vh].toArray w (Ret w (fun v w9 => ∃ bx, v = .func (.func 47) #[] #[.pointer (some ⟨bx, 0, none⟩)] ∧ Tab w9 bx #[vh])) := by
  obtain ⟨a, c, rfl⟩ := hR.len
  exact values_ok a _ c w

theorem viter_any (l : List Mb) (hln : l.length ≤ 1000) (vh : Value) (lp bx : Nat) (q : Nat → Bool) (GG : Nat → Own → Prop) (g0 : Own) (w0 w : World) (s : St w0 [g0] w) (hb : Tab w0 bx #[vh]) (hg0 : GG 0 g0) (hR : RdZ w0 vh 33 l.length (mbCells l)) (hY : ∀ (d : Nat) (B9 : List Own) (w9 : World) (i : Nat) (g : Own), d < l.length → (∀ j, j < d → q j = false) → GG d g → St w0 B9 w9 → B9[i]? = some g → Yields Try.prog lp [Value.agg (mbArr (l.getD d zMb))].toArray w9 (fun v w2 => v = .bool (!q d) ∧ ∃ g', GG (d + 1) g' ∧ St w0 (B9.set i g') w2)) : Calls Try.prog 47 [.func (.yield lp) #[] #[], .pointer (some ⟨bx, 0, none⟩)].toArray w (fun e w9 => (∃ v, e = .returned v) ∧ ∃ d g, GG d g ∧ St w0 ([] ++ [g]) w9 ∧ d ≤ l.length ∧ (∀ j, j + 1 < d → q j = false) ∧ (lq q d = false → d = l.length)) := by
  refine c_enterF Try.func47 rfl Try.ntmps47 rfl [(0, .func (.yield lp) #[] #[]), (1, .pointer (some ⟨bx, 0, none⟩))] (by simp) fun f h => ?_
  refine c_seq fun K1 hK1 => ?_
  refine c_region ?_
  refine s_load_at1 (V := vh) (cell_of_has (Has.of_tab (hb.keep s.ext)) 0 (rfl)) h one22 rfl rfl ?_; intro f h
  refine s_pure h (ru_lenZ (hR.keep s.ext) Try.underlying22 (h.ev rfl)) rfl ?_; intro f h
  refine s_pure h (ru_move (h.ev rfl)) rfl ?_; intro f h
  refine s_nil ?_
  refine hK1 _ _ ?_
  refine wpIn_block ?_
  refine wpIn_loop_ghost (fun nn aa ww => ∃ d : Nat, ∃ gg : Own, Sl 16 aa [(0, .func (.yield lp) #[] #[]), (5, vh), (6, .int .i64 (l.length : Int)), (7, .int .i64 (d : Int))] ∧ St w0 [(gg)] ww ∧ nn = l.length - d ∧ d ≤ l.length ∧ GG d gg ∧ ∀ j, j < d → q j = false) (l.length - (0)) ⟨0, g0, h.only ⟨rfl, rfl, rfl, slot_int rfl (by omega), trivial⟩, s.as ⟨rfl, trivial⟩, rfl, Nat.zero_le _, hg0, fun j hj => absurd hj (Nat.not_lt_zero _)⟩ ?_
  rintro _ f w1 ⟨d, gg, h, s, hnn, hp0, hp1, hp2⟩
  refine c_seq fun K2 hK2 => ?_
  refine c_region ?_
  refine s_pure h (ru_lss (h.ev rfl) (h.ev rfl)) rfl ?_; intro f h
  refine s_nil ?_
  refine hK2 _ _ ?_
  refine c_seq fun K3 hK3 => ?_
  refine c_cond h rfl (fun hc => ?_) (fun hc => ?_)
  · replace hc := of_decide_eq_true hc
    refine wpIn_skip ?_
    refine hK3 _ _ ?_
    refine c_seq fun K4 hK4 => ?_
    refine wpIn_block ?_
    refine c_seq fun K5 hK5 => ?_
    refine c_region ?_
    have hdl : d < l.length := by omega
    refine s_pure h (ru_ixz (hR.keep s.ext) (d) Try.underlying22 szo30 (h.ev rfl) (h.ev rfl) (by omega) (by omega)) rfl ?_; intro f h
    refine s_load_at ((hR.keep s.ext).el (d) (by omega) (by decide) (D := mbArr (l.getD d zMb)) (mb_elD l d hdl)) h row30 rfl (mbArr_size _) rfl ?_; intro f h
    refine s_alloc (mbArr zMb) h s zero30 rfl rfl ?_; intro f w1 b4 h s
    refine s_store_row 0 h s row30 rfl rfl rfl (mbArr_size _) (mbArr_size _) (mbArr_ones _) ?_; intro w1 s
    refine s_nil ?_
    refine hK5 _ _ ?_
    refine c_seq fun K6 hK6 => ?_
    cases hq : (q d : Bool)
    · skip
      refine c_region ?_
      refine s_pure h (ru_move (h.ev rfl)) rfl ?_; intro f h
      refine s_load_row 0 h s row30 rfl rfl (mbArr_size _) rfl ?_; intro f h
      refine s_yieldG (V := .bool true) (G := GG (d + 1)) [.agg (mbArr (l.getD d zMb))] 1 h rfl rfl (by have h9 := hY d _ _ 1 gg hdl hp2 hp1 s rfl; rw [hq] at h9; exact h9) rfl ?_; intro f w1 g1 hg1 h s
      refine s_pure h (ru_val (.bool false) (ru_not (h.ev rfl)) rfl) rfl ?_; intro f h
      refine s_nil ?_
      refine hK6 _ _ ?_
      refine wpIn_cond_false (h.ev rfl) ?_
      refine wpIn_skip ?_
      refine b_norm ?_
      refine hK4 _ _ ?_
      refine c_region ?_
      refine s_pure h (ru_add (h.ev rfl) (h.ev rfl) (by omega)) rfl ?_; intro f h
      refine s_pure h (ru_move (h.ev rfl)) rfl ?_; intro f h
      refine s_nil ?_
      refine t_norm ?_
      exact ⟨_, by omega, ⟨d + 1, g1, h.only ⟨rfl, rfl, rfl, slot_int rfl (by omega), trivial⟩, St.as (s.pick _ (List.sublist_append_right [_] _)) ⟨rfl, trivial⟩, rfl, by omega, hg1, qs_next hp2 hq⟩⟩
    · skip
      refine c_region ?_
      refine s_pure h (ru_move (h.ev rfl)) rfl ?_; intro f h
      refine s_load_row 0 h s row30 rfl rfl (mbArr_size _) rfl ?_; intro f h
      refine s_yieldG (V := .bool false) (G := GG (d + 1)) [.agg (mbArr (l.getD d zMb))] 1 h rfl rfl (by have h9 := hY d _ _ 1 gg hdl hp2 hp1 s rfl; rw [hq] at h9; exact h9) rfl ?_; intro f w1 g1 hg1 h s
      refine s_pure h (ru_val (.bool true) (ru_not (h.ev rfl)) rfl) rfl ?_; intro f h
      refine s_nil ?_
      refine hK6 _ _ ?_
      refine wpIn_cond_true (h.ev rfl) ?_
      refine wpIn_ret ?_
      refine b_ret ?_
      refine t_ret ?_
      refine t_ret ?_
      refine b_ret ?_
      exact e_noneF rfl h (⟨⟨_, rfl⟩, d + 1, g1, hg1, s.pick _ (List.sublist_cons_self _ _), by omega, fun j hj => hp2 j (by omega), fun h9 => absurd (hq.symm.trans h9) (by decide)⟩)
  · replace hc := of_decide_eq_false hc
    refine wpIn_exit ?_
    refine t_exit ?_
    refine t_exit ?_
    refine b_exit ?_
    exact e_noneF_end rfl h (⟨⟨_, rfl⟩, d, gg, hp1, s, hp0, fun j hj => hp2 j (by omega), fun _ => by omega⟩)

theorem appseq_any (l : List Mb) (vh : Value) (bx : Nat) (w : World) (hR : RdZ w vh 33 l.length (mbCells l)) (hln : l.length ≤ 1000) (hb : Tab w bx #[vh]) : Calls Try.prog 49 [(.slice none 0 0), .func (.func 47) #[] #[.pointer (some ⟨bx, 0, none⟩)]].toArray w (Ret w (fun v w' => Owns w' w.heap.size 30 33 v l.length (mbCells l))) := by
  refine c_enterM Try.func49 rfl Try.ntmps49 rfl [(0, (.slice none 0 0)), (1, .func (.func 47) #[] #[.pointer (some ⟨bx, 0, none⟩)])] (by simp) fun f h => ?_
  have s := St.start w
  refine c_seq fun K1 hK1 => ?_
  refine c_region ?_
  refine s_box (#[(.slice none 0 0)]) h s rfl rfl rfl ?_; intro f w1 b2 h s
  replace s := s.nilSl 30 33
  refine s_pure h (ru_assign (h.ev rfl)) rfl ?_; intro f h
  refine s_nil ?_
  refine hK1 _ _ ?_
  refine c_seq fun K2 hK2 => ?_
  refine c_seq fun K3 hK3 => ?_
  refine c_region ?_
  refine s_pure h (ru_move (h.ev rfl)) rfl ?_; intro f h
  refine s_nil ?_
  refine hK3 _ _ ?_
  refine wpIn_block ?_
  refine c_rangeE (fun d A9 => ∃ v8 : Value, A9 = [.sl v8 30 33 (l.take d).length (mbCells (l.take d)), .blk b2 (.cells #[v8] 22)]) [.sl (.slice none 0 0) 30 33 0 [], .blk b2 (.cells #[(.slice none 0 0)] 22)] [] (l.length) (fun _ => false) (fun d => [Value.agg (mbArr (l.getD d zMb))]) h s rfl fnc47 (List.Perm.refl _) (⟨_, rfl⟩) (fun _ => rfl) ?_ ?_ ?_ ?_
  · intro lp w2 GG g0 hg0 s2 hY; exact viter_any l hln vh lp bx (fun _ => false) GG g0 w w2 s2 hb hg0 hR hY
  · intro lp D9 d9 rc R9 A9 w2 hd9 hq9 hJ9 s
    obtain ⟨v8, rfl⟩ := hJ9
    have h := Sl.round1 (p := 7) (V := .agg (mbArr (l.getD d9 zMb))) h rfl
    refine c_region ?_
    refine s_alloc (mbArr zMb) h s zero30 rfl rfl ?_; intro f w1 b5 h s
    refine s_store_row 0 h s row30 rfl rfl rfl (mbArr_size _) (mbArr_size _) (mbArr_ones _) ?_; intro w1 s
    refine s_nil ?_
    refine t_norm ?_
    refine ⟨_, s.perm (List.perm_middle (l₁ := [_])), fun w3 s => ?_⟩
    refine wpIn_block ?_
    refine c_region ?_
    refine s_load_one 4 h s one22 rfl rfl (rfl) rfl ?_; intro f h
    refine s_load_row 1 h s row30 rfl rfl (mbArr_size _) rfl ?_; intro f h
    refine s_bslice (vs := [.agg (mbArr (l.getD d9 zMb))]) [.tmp 9] h s Try.underlying22 elm30 rfl rfl (mb_sz _) rfl rfl rfl ?_; intro f w1 v10 h s
    refine s_append 4 0 h s Try.underlying22 elm30 rfl rfl rfl rfl (by decide) (by rw [one_mb]; exact mbArr_ones _) (by rw [List.length_take]; unfold maxLen; omega) (by rw [List.length_take]; omega) rfl ?_; intro f w1 v11 h s
    replace s := s.pick _ (List.sublist_cons_self _ _)
    refine s_store_one 4 h s one22 rfl rfl rfl (by simp) (own_one (s.getSl 3 rfl)) ?_; intro w1 s
    refine s_nil ?_
    refine b_norm ?_
    replace s := s.resl (m := (l.take (d9 + 1)).length) (ys := mbCells (l.take (d9 + 1))) 3 rfl (by rw [takeD hd9, List.length_append]; rfl) (by rw [takeD hd9, one_mb, mb_snoc])
    refine ⟨rfl, _, ⟨v11, rfl⟩, s.pick _ ?_⟩
    exact List.Sublist.cons_cons _ (List.Sublist.cons _ (List.Sublist.refl _))
  · intro D9 A9 w2 hJ9 hq9 s
    obtain ⟨v8, rfl⟩ := hJ9
    replace h : Sl _ { f with defers := { target := .collected D9, args := #[] } :: f.defers } _ [{ target := .collected D9, args := #[] }] := ⟨h.size, by rw [h.defers], h.holds⟩
    rw [List.take_length] at s
    refine b_norm ?_
    refine hK2 _ _ ?_
    refine c_seq fun K4 hK4 => ?_
    refine c_region ?_
    refine s_load_one 2 h s one22 rfl rfl (rfl) rfl ?_; intro f h
    replace s := s.nilSl 30 33
    refine s_pure h (ru_assign (h.ev rfl)) rfl ?_; intro f h
    refine s_nil ?_
    refine hK4 _ _ ?_
    refine wpIn_ret ?_
    exact e_tmp_MS 1 rfl h s rfl rfl (fun w9 s9 => s9.getSl 2 rfl)
  · intro D9 d9 A9 w2 hd9 hqd9 hq9 hJ9 s
    cases hqd9

theorem collect_any (l : List Mb) (vh : Value) (bx : Nat) (w : World) (hR : RdZ w vh 33 l.length (mbCells l)) (hln : l.length ≤ 1000) (hb : Tab w bx #[vh]) : Calls Try.prog 45 [.func (.func 47) #[] #[.pointer (some ⟨bx, 0, none⟩)]].toArray w (Ret w (fun v w' => Owns w' w.heap.size 30 33 v l.length (mbCells l))) := by
  refine c_enter Try.func45 rfl Try.ntmps45 rfl [(0, .func (.func 47) #[] #[.pointer (some ⟨bx, 0, none⟩)])] (by simp) fun f h => ?_
  have s := St.start w
  refine c_seq fun K1 hK1 => ?_
  refine c_region ?_
  refine s_pure h (ru_assign (h.ev rfl)) rfl ?_; intro f h
  refine s_nil ?_
  refine hK1 _ _ ?_
  refine c_seq fun K2 hK2 => ?_
  refine c_region ?_
  refine s_pure h (ru_move (h.ev rfl)) rfl ?_; intro f h
  refine s_call h s fnc49 (appseq_any l vh bx _ (hR.keep s.ext) hln (hb.keep s.ext)) rfl rfl ?_; intro f w1 v4 hT hE h sq; replace s := s.sl_new hE hT
  refine s_pure h (ru_assign (h.ev rfl)) rfl ?_; intro f h
  refine s_nil ?_
  refine hK2 _ _ ?_
  refine wpIn_ret ?_
  exact e_tmp rfl h s rfl ((s.getSl 0 rfl))

theorem sortf_st (l : List Mb) (hg : Rg l) (x9 : Id) (v : Value) (bx : Nat) (B9 : List Own) (w0 w : World) (s : St w0 (.sl v 30 33 l.length (mbCells l) :: B9) w) (hb : Tab w0 bx (idArr x9)) :
    Calls Try.prog 46 [v, .func (.func 37) #[] #[.pointer (some ⟨bx, 0, none⟩)]].toArray w (fun e w' => ∃ r, e = .returned r ∧ St w0 (.sl v 30 33 l.length (mbCells (rndL x9 l)) :: B9) w') := by
  by_cases h0 : l.length = 0
  · have hl : l = [] := List.eq_nil_of_length_eq_zero h0
    subst hl
    obtain ⟨a, c, rfl⟩ := ownsRow_slice (s.getSl 0 rfl)
    refine (Go.Proofs.AnyF.slices_SortFunc_none (P := Try.prog) (ρ := Try.layG_ren) Try.layG a c (.func (.func 37) #[] #[.pointer (some ⟨bx, 0, none⟩)]) w).mono ?_
    rintro e w' ⟨rfl, rfl⟩
    refine ⟨_, rfl, ?_⟩
    rw [rnd_nil]
    exact s
  · obtain ⟨g, cap, rfl, hlt, hgo, hH, hst⟩ := sort_st s rfl (by omega)
    have hT : ∀ m os d, Tab (Go.Proofs.sortWorldK mbL 33 w g 0 m d os) bx (idArr x9) := fun m os d => by
      obtain ⟨t, fr, h1⟩ := hb
      have h2 := (Array.getElem?_eq_some_iff.1 h1).1
      have h3 := s.ext.le
      refine ⟨t, fr, ?_⟩
      rw [sortW_other w g m d os (by omega) (by omega), s.ext.block bx h2]
      exact h1
    have hcon := Go.Proofs.AnyQ.slices_SortFunc (P := Try.prog) (ρ := Try.layG_ren) Try.layG 33 Try.isAgg30 Try.sizeOf30 mbL mbL_len mbL_ones (fun x y : Mb => cmpI (x.2 - x9) (y.2 - x9)) (ord_swo x9) 37 #[.pointer (some ⟨bx, 0, none⟩)] g 0 cap l.toArray w (enters_of Try.func37 (by kernel_rfl) rfl) (fun m os dk _ x y => by
      have h9 := byway1_any x y x9 bx _ (hT m os dk)
      refine h9.mono ?_
      rintro e w' ⟨v, rfl, hv, hE⟩
      obtain rfl := hv
      exact ⟨rfl, grow_of hE⟩) hH hlt (by have := hg.len; rw [List.size_toArray]; omega)
    refine hcon.mono ?_
    rintro e w' ⟨rfl, d', n, os, hp, hs, rfl⟩
    have s2 := hst n os d' hp.1
    rw [sorted_rnd hg x9 hp hs] at s2
    exact ⟨_, rfl, s2⟩

theorem sortedf_any (l : List Mb) (vh : Value) (bv bx : Nat) (x9 : Id) (w : World) (hR : RdZ w vh 33 l.length (mbCells l)) (hln : l.length ≤ 1000) (hg : Rg l) (hv : Tab w bv #[vh]) (hb : Tab w bx (idArr x9)) : Calls Try.prog 35 [.func (.func 47) #[] #[.pointer (some ⟨bv, 0, none⟩)], .func (.func 37) #[] #[.pointer (some ⟨bx, 0, none⟩)]].toArray w (Ret w (fun v w' => Owns w' w.heap.size 30 33 v l.length (mbCells (rndL x9 l)))) := by
  refine c_enter Try.func35 rfl Try.ntmps35 rfl [(0, .func (.func 47) #[] #[.pointer (some ⟨bv, 0, none⟩)]), (1, .func (.func 37) #[] #[.pointer (some ⟨bx, 0, none⟩)])] (by simp) fun f h => ?_
  have s := St.start w
  refine c_seq fun K1 hK1 => ?_
  refine c_region ?_
  refine s_pure h (ru_assign (h.ev rfl)) rfl ?_; intro f h
  refine s_nil ?_
  refine hK1 _ _ ?_
  refine c_seq fun K2 hK2 => ?_
  refine c_region ?_
  refine s_pure h (ru_move (h.ev rfl)) rfl ?_; intro f h
  refine s_call h s fnc45 (collect_any l vh bv _ (hR.keep s.ext) hln (hv.keep s.ext)) rfl rfl ?_; intro f w1 v7 hT hE h sq; replace s := s.sl_new hE hT
  refine s_pure h (ru_assign (h.ev rfl)) rfl ?_; intro f h
  refine s_nil ?_
  refine hK2 _ _ ?_
  refine c_seq fun K3 hK3 => ?_
  refine c_region ?_
  refine s_pure h (ru_move (h.ev rfl)) rfl ?_; intro f h
  refine s_pure h (ru_move (h.ev rfl)) rfl ?_; intro f h
  refine s_callS [v7, .func (.func 37) #[] #[.pointer (some ⟨bx, 0, none⟩)]] h fnc46 (sortf_st l hg x9 v7 bx [] _ _ s hb) rfl rfl ?_; rintro f w1 v10 s h
  refine s_nil ?_
  refine hK3 _ _ ?_
  refine c_seq fun K4 hK4 => ?_
  refine c_region ?_
  refine s_pure h (ru_move (h.ev rfl)) rfl ?_; intro f h
  refine s_pure h (ru_assign (h.ev rfl)) rfl ?_; intro f h
  refine s_nil ?_
  refine hK4 _ _ ?_
  refine wpIn_ret ?_
  exact e_tmp rfl h s rfl ((s.getSl 0 rfl))

theorem round_any (x9 : Id) (l : List Mb) (vh : Value) (w : World) (hR : RdZ w vh 33 l.length (mbCells l)) (hln : l.length ≤ 1000) (hg : Rg l) : Calls Try.prog 23 [idV x9, vh].toArray w (Ret w (fun v w' => Owns w' w.heap.size 30 33 v l.length (mbCells (rndL x9 l)))) := by
  refine c_enter Try.func23 rfl Try.ntmps23 rfl [(0, idV x9), (1, vh)] (by simp) fun f h => ?_
  have s := St.start w
  refine c_seq fun K1 hK1 => ?_
  refine c_region ?_
  refine s_box (idArr x9) h s rfl rfl rfl ?_; intro f w1 b2 h s
  refine s_pure h (ru_assign (h.ev rfl)) rfl ?_; intro f h
  refine s_nil ?_
  refine hK1 _ _ ?_
  refine c_seq fun K2 hK2 => ?_
  have hbs := s.ext.le
  refine' c_reg2 4 [0] [] [[], [0], [], [0, 1, 2], [0, 1, 2, 3], [0, 1, 2, 3, 4]] (is _ :: (fun v w9 => ∃ bx, v = .func (.func 47) #[] #[.pointer (some ⟨bx, 0, none⟩)] ∧ Tab w9 bx #[vh]) :: is _ :: (fun v w9 => ∃ bx, v = .func (.func 37) #[] #[.pointer (some ⟨bx, 0, none⟩)] ∧ Tab w9 bx (idArr x9)) :: is undef :: is undef :: []) (fun _ => True) h s (by kernel_rfl) (by kernel_rfl) (by kernel_rfl) (by kernel_rfl) rfl (fun _ _ h _ => h) (trivial) ⟨⟨_, rfl⟩, trivial⟩ ⟨is_mono _, fun _ _ _ h9 hE => by obtain ⟨b9, h1, h2⟩ := h9; exact ⟨b9, h1, h2.keep hE⟩, is_mono _, fun _ _ _ h9 hE => by obtain ⟨b9, h1, h2⟩ := h9; exact ⟨b9, h1, h2.keep hE⟩, is_mono _, is_mono _, trivial⟩ (And.intro ?_ (And.intro ?_ (And.intro ?_ (And.intro ?_ (And.intro ?_ (And.intro ?_ (trivial))))))) ?_
  rotate_left 2
  · refine obH_in 5 rfl (by decide) ?_
    intro f9 w2 hE hs hl
    have e1 : f9.tmps.getD 1 undef = _ := sx_old hl 1 (by kernel_rfl) (by kernel_rfl) (h.holds 1 _ rfl)
    have h := fin_slot [(1, _)] hs rfl (holds_lk ⟨e1, trivial⟩)
    refine s_pure h (ru_move (h.ev rfl)) rfl ?_; intro f h
    refine s_nil ?_
    have e9 := h.holds 5 _ rfl
    refine ⟨?_, rfl⟩
    refine e9.trans ?_
    exact rfl
  · refine obF_in 6 rfl (by decide) (by decide) ?_
    intro f9 w2 hE hs hd9 hl
    have e5 : f9.tmps.getD 5 undef = _ := sx_get hl 5 0 (by kernel_rfl) (by kernel_rfl)
    have h := fin_slot [(5, _)] hs hd9 (holds_lk ⟨e5, trivial⟩)
    have s := s.more hE
    have z := St.start w2
    refine s_call h s fnc36 (values_any l vh _ (hR.keep s.ext)) rfl rfl ?_; intro f w3 v3 hT9 hE3 h s
    refine s_nil ?_
    exact ⟨by rw [h.holds 6 _ rfl]; exact hT9, hE3, fun h9 => absurd h9 (by decide)⟩
  · refine obF_in 7 rfl (by decide) (by decide) ?_
    intro f9 w2 hE hs hd9 hl
    have e2 : f9.tmps.getD 2 undef = _ := sx_old hl 2 (by kernel_rfl) (by kernel_rfl) (h.holds 2 _ rfl)
    have h := fin_slot [(2, _)] hs hd9 (holds_lk ⟨e2, trivial⟩)
    have s := s.more hE
    have z := St.start w2
    refine s_load_row 0 h s row24 rfl rfl (by first | exact idArr_size _ | exact bytesF_size _ _) rfl ?_; intro f h
    refine s_nil ?_
    have e9 := h.holds 7 _ rfl
    refine ⟨?_, Ext.refl _, fun h9 => absurd h9 (by decide)⟩
    refine e9.trans ?_
    exact rfl
  · refine obF_in 8 rfl (by decide) (by decide) ?_
    intro f9 w2 hE hs hd9 hl
    have e7 : f9.tmps.getD 7 undef = _ := sx_get hl 7 2 (by kernel_rfl) (by kernel_rfl)
    have h := fin_slot [(7, _)] hs hd9 (holds_lk ⟨e7, trivial⟩)
    have s := s.more hE
    have z := St.start w2
    refine s_call h s fnc25 (byway_any x9 _) rfl rfl ?_; intro f w3 v3 hT9 hE3 h s
    refine s_nil ?_
    exact ⟨by rw [h.holds 8 _ rfl]; exact hT9, hE3, fun h9 => absurd h9 (by decide)⟩
  · exact obT_in (by decide) (by decide)
  · exact obT_in (by decide) (by decide)
  · intro f9 w2 hE hs hd9 hWp hT hR hFr hDj
    obtain ⟨u6, hu6⟩ : ∃ v, f9.tmps.getD 6 undef = v := ⟨_, rfl⟩
    have e6 : (fun v w9 => ∃ bx, v = .func (.func 47) #[] #[.pointer (some ⟨bx, 0, none⟩)] ∧ Tab w9 bx #[vh]) u6 w2 := by rw [← hu6]; exact hT 1 6 (by decide) rfl
    obtain ⟨u8, hu8⟩ : ∃ v, f9.tmps.getD 8 undef = v := ⟨_, rfl⟩
    have e8 : (fun v w9 => ∃ bx, v = .func (.func 37) #[] #[.pointer (some ⟨bx, 0, none⟩)] ∧ Tab w9 bx (idArr x9)) u8 w2 := by rw [← hu8]; exact hT 3 8 (by decide) rfl
    replace h := sl_new (ops := _) [(5, _), (6, u6), (7, _), (8, u8)] h hs hd9 hR ⟨hT 0 5 (by decide) rfl, hu6, hT 2 7 (by decide) rfl, hu8, trivial⟩ (by kernel_rfl)
    replace s := s.more hE
    clear hT hR hFr hDj
    refine LstW.of ?_
    obtain ⟨bv, hbv0, hbv⟩ := e6; subst hbv0; obtain ⟨bx, hbx0, hbx⟩ := e8; subst hbx0
    refine s_call h s fnc35 (sortedf_any l vh bv bx x9 _ (hR.keep s.ext) hln hg hbv hbx) rfl rfl ?_; intro f w1 vr hT hE h sq; replace s := s.sl_new hE hT
    refine s_pure h (ru_assign (h.ev rfl)) rfl ?_; intro f h
    refine s_nil ?_
    refine hK2 _ _ ?_
    refine wpIn_ret ?_
    exact e_tmp rfl h s rfl ((s.getSl 0 rfl))

theorem sorted_any (l : List Mb) (vh : Value) (w : World) (hR : RdZ w vh 33 l.length (mbCells l)) (hln : l.length ≤ 1000) : Calls Try.prog 9 [vh].toArray w (Ret w (fun v w' => ∃ v8, v = .tuple #[v8, .int .i64 (srtE l)] ∧ Owns w' w.heap.size 30 33 v8 (srtM l).length (mbCells (srtM l)))) := by
  refine c_enter Try.func9 rfl Try.ntmps9 rfl [(0, vh)] (by simp) fun f h => ?_
  have s := St.start w
  refine c_seq fun K1 hK1 => ?_
  refine c_region ?_
  refine s_pure h (ru_assign (h.ev rfl)) rfl ?_; intro f h
  refine s_pure h (ru_assign (h.ev rfl)) rfl ?_; intro f h
  refine s_nil ?_
  refine hK1 _ _ ?_
  refine c_seq fun K2 hK2 => ?_
  refine c_seq fun K3 hK3 => ?_
  cases hr : (rightR l : Bool)
  · skip
    refine c_region ?_
    refine s_pure h (ru_move (h.ev rfl)) rfl ?_; intro f h
    refine s_call h s fnc11 (ret_val (.bool false) (right_any l vh _ (hR.keep s.ext) hln) (congrArg Value.bool hr)) rfl rfl ?_; intro f w1 v9 hT hE h s; obtain rfl := hT
    refine s_pure h (ru_val (.bool true) (ru_not (h.ev rfl)) rfl) rfl ?_; intro f h
    refine s_nil ?_
    refine hK3 _ _ ?_
    refine wpIn_cond_true (h.ev rfl) ?_
    refine c_seq fun K4 hK4 => ?_
    refine c_region ?_
    refine s_pure h (ru_assign (h.ev rfl)) rfl ?_; intro f h
    refine s_pure h (ru_assign (h.ev rfl)) rfl ?_; intro f h
    refine s_nil ?_
    refine hK4 _ _ ?_
    refine wpIn_ret ?_
    refine t_ret ?_
    exact e_tmps rfl h s rfl rfl (two_out (srtM_no hr).2 (srtM_no hr).1 (owns_nil _ _ _ _))
  · skip
    refine c_region ?_
    refine s_pure h (ru_move (h.ev rfl)) rfl ?_; intro f h
    refine s_call h s fnc11 (ret_val (.bool true) (right_any l vh _ (hR.keep s.ext) hln) (congrArg Value.bool hr)) rfl rfl ?_; intro f w1 v9 hT hE h s; obtain rfl := hT
    refine s_pure h (ru_val (.bool false) (ru_not (h.ev rfl)) rfl) rfl ?_; intro f h
    refine s_nil ?_
    refine hK3 _ _ ?_
    refine wpIn_cond_false (h.ev rfl) ?_
    refine wpIn_skip ?_
    refine hK2 _ _ ?_
    refine c_seq fun K5 hK5 => ?_
    refine c_region ?_
    have hg := (rg_iff l).1 hr
    refine s_pure h (ru_build0 idTy) rfl ?_; intro f h
    refine s_pure h (ru_move (h.ev rfl)) rfl ?_; intro f h
    refine s_call h s fnc23 (round_any 0#256 l vh _ (hR.keep s.ext) hln hg) rfl rfl ?_; intro f w1 vr hT hE h sq; replace s := s.sl_new hE hT
    refine s_pure h (ru_assign (h.ev rfl)) rfl ?_; intro f h
    refine s_pure h (ru_assign (h.ev rfl)) rfl ?_; intro f h
    refine s_nil ?_
    refine hK5 _ _ ?_
    refine wpIn_ret ?_
    exact e_tmps rfl h s rfl rfl (two_out (srtM_ok hr).2 (srtM_ok hr).1 (((s.getSl 0 rfl)).seq (rnd_len _ _).symm rfl))

theorem after_any (l : List Mb) (vh : Value) (no many : Int) (w : World) (hR : RdZ w vh 33 l.length (mbCells l)) (hln : l.length ≤ 1000) : Calls Try.prog 17 [vh, .int .i64 no, .int .i64 many].toArray w (Ret w (fun v w' => ∃ v8, v = .tuple #[v8, .int .i64 (aftE l no many)] ∧ Owns w' w.heap.size 30 33 v8 (aftL l no many).length (mbCells (aftL l no many)))) := by
  refine c_enter Try.func17 rfl Try.ntmps17 rfl [(0, vh), (1, .int .i64 no), (2, .int .i64 many)] (by simp) fun f h => ?_
  have s := St.start w
  refine c_seq fun K1 hK1 => ?_
  refine c_region ?_
  refine s_pure h (ru_assign (h.ev rfl)) rfl ?_; intro f h
  refine s_pure h (ru_assign (h.ev rfl)) rfl ?_; intro f h
  refine s_nil ?_
  refine hK1 _ _ ?_
  refine c_seq fun K2 hK2 => ?_
  refine c_seq fun K3 hK3 => ?_
  cases m0 : (decide (many < 0) : Bool)
  · skip
    cases m1 : (decide (16 < many) : Bool)
    · skip
      refine c_region ?_
      refine s_pure h (ru_move (h.ev rfl)) rfl ?_; intro f h
      refine s_pure h (ru_val (.bool false) (ru_lss (h.ev rfl) (h.ev rfl)) (congrArg Value.bool m0)) rfl ?_; intro f h
      refine s_pure h (ru_move (h.ev rfl)) rfl ?_; intro f h
      refine s_on h rfl rfl rfl ?_
      refine s_pure h (ru_move (h.ev rfl)) rfl ?_; intro f h
      refine s_on h rfl rfl rfl ?_
      refine s_pure h (ru_val (.bool false) (ru_gtr (h.ev rfl) (h.ev rfl)) (congrArg Value.bool m1)) rfl ?_; intro f h
      refine s_pure h (ru_pick_f (h.ev rfl) (h.ev rfl)) rfl ?_; intro f h
      refine s_nil ?_
      refine hK3 _ _ ?_
      refine wpIn_cond_false (h.ev rfl) ?_
      refine wpIn_skip ?_
      refine hK2 _ _ ?_
      refine c_seq fun K4 hK4 => ?_
      refine c_region ?_
      have hm0 := of_decide_eq_false m0
      have hm1 := of_decide_eq_false m1
      obtain ⟨m9, hm9⟩ : ∃ m9 : Nat, many = (m9 : Int) := ⟨many.toNat, by omega⟩
      have hae := aft_near (l := l) (no := no) (show 0 ≤ many by omega) (show many ≤ 16 by omega)
      refine s_pure h (ru_move (h.ev rfl)) rfl ?_; intro f h
      refine s_pure h (ru_move (h.ev rfl)) rfl ?_; intro f h
      refine s_call h s fnc30 (find_any l vh no _ (hR.keep s.ext) hln) rfl rfl ?_; intro f w1 v9 hT hE h s; obtain rfl := hT
      refine s_pure h (ru_move (h.ev rfl)) rfl ?_; intro f h
      refine s_pure h (ru_extract (h.ev rfl) rfl) rfl ?_; intro f h
      refine s_pure h (ru_extract (h.ev rfl) rfl) rfl ?_; intro f h
      refine s_alloc (mbArr zMb) h s zero30 rfl rfl ?_; intro f w1 b8 h s
      refine s_store_row 0 h s row30 rfl rfl rfl (mbArr_size _) (mbArr_size _) (mbArr_ones _) ?_; intro w1 s
      refine s_pure h (ru_assign (h.ev rfl)) rfl ?_; intro f h
      refine s_nil ?_
      refine hK4 _ _ ?_
      refine c_seq fun K5 hK5 => ?_
      refine c_seq fun K6 hK6 => ?_
      refine c_region ?_
      refine s_pure h (ru_move (h.ev rfl)) rfl ?_; intro f h
      refine s_pure h (ru_neq (h.ev rfl) (h.ev rfl)) rfl ?_; intro f h
      refine s_nil ?_
      refine hK6 _ _ ?_
      refine c_cond h rfl (fun hc => ?_) (fun hc => ?_)
      · have h0 : ¬ finE l no = 0 := by simpa using hc
        refine c_seq fun K7 hK7 => ?_
        refine c_region ?_
        refine s_pure h (ru_move (h.ev rfl)) rfl ?_; intro f h
        refine s_pure h (ru_assign (h.ev rfl)) rfl ?_; intro f h
        refine s_pure h (ru_assign (h.ev rfl)) rfl ?_; intro f h
        refine s_nil ?_
        refine hK7 _ _ ?_
        refine wpIn_ret ?_
        refine t_ret ?_
        exact e_tmps rfl h s rfl rfl (two_out (aft_not (fun h9 => h0 (hae ▸ h9))) hae (owns_nil _ _ _ _))
      · have h0 : finE l no = 0 := by simpa using hc
        obtain ⟨hr, hg, hf, hm, hno⟩ := fin_ok h0
        refine wpIn_skip ?_
        refine hK5 _ _ ?_
        refine c_seq fun K8 hK8 => ?_
        refine c_region ?_
        refine s_pure h (ru_field fld30_1 (h.ev rfl)) rfl ?_; intro f h
        refine s_load_at (Has.subL (Has.of_own s 0 rfl) 1 32 (D := idArr (_)) (mbArr_id _)) h row24 rfl (by first | exact idArr_size _ | exact bytesF_size _ _) rfl ?_; intro f h
        refine s_pure h (ru_move (h.ev rfl)) rfl ?_; intro f h
        refine s_call h s fnc23 (round_any (finM l no).2 l vh _ (hR.keep s.ext) hln hg) rfl rfl ?_; intro f w1 vr hT hE h sq; replace s := s.sl_new hE (hT.seq (rnd_len (finM l no).2 l).symm rfl)
        refine s_pure h (ru_assign (h.ev rfl)) rfl ?_; intro f h
        refine s_nil ?_
        refine hK8 _ _ ?_
        refine c_seq fun K9 hK9 => ?_
        refine c_region ?_
        refine s_pure h (ru_move (h.ev rfl)) rfl ?_; intro f h
        refine s_make_sl (n := m9) (xs := mbCells (setL l (finM l no) m9 0)) h s Try.underlying22 elm30 zero30 rfl rfl (hm9) (by omega) (by unfold maxLen; omega) ((made_mb _).trans (by rw [setL_zero])) (by rw [mbCells_len, setL_len _ _ (Nat.zero_le _)]) rfl ?_; intro f w1 v33 h s
        refine s_pure h (ru_assign (h.ev rfl)) rfl ?_; intro f h
        refine s_nil ?_
        refine hK9 _ _ ?_
        refine c_seq fun K10 hK10 => ?_
        refine c_seq fun K11 hK11 => ?_
        refine c_region ?_
        refine s_pure h (ru_move (h.ev rfl)) rfl ?_; intro f h
        refine s_len_sl 0 h s Try.underlying22 rfl rfl rfl ?_; intro f h
        refine s_pure h (ru_move (h.ev rfl)) rfl ?_; intro f h
        refine s_nil ?_
        refine hK11 _ _ ?_
        refine wpIn_block ?_
        refine wpIn_loop_ghost (fun nn aa ww => ∃ k : Nat, Sl 52 aa [(0, vh), (1, .int .i64 no), (2, .int .i64 many), (8, .pointer (some ⟨b8, 0, none⟩)), (31, vr), (33, v33), (10, vr), (11, v33), (34, v33), (35, .int .i64 (m9 : Int)), (36, .int .i64 (k : Int))] ∧ St w [.sl v33 30 33 m9 (mbCells (setL l (finM l no) m9 k)), .sl vr 30 33 (rndL (finM l no).2 l).length (mbCells (rndL (finM l no).2 l)), .blk b8 (.cells (mbArr (finM l no)) 30)] ww ∧ nn = m9 - k ∧ k ≤ m9) (m9 - (0)) ⟨0, h.only ⟨rfl, rfl, rfl, rfl, rfl, rfl, rfl, rfl, rfl, rfl, rfl, trivial⟩, s.as ⟨rfl, rfl, rfl, trivial⟩, rfl, Nat.zero_le _⟩ ?_
        rintro _ f w1 ⟨k, h, s, hnn, hp0⟩
        refine c_seq fun K12 hK12 => ?_
        refine c_region ?_
        refine s_pure h (ru_lss (h.ev rfl) (h.ev rfl)) rfl ?_; intro f h
        refine s_nil ?_
        refine hK12 _ _ ?_
        refine c_seq fun K13 hK13 => ?_
        refine c_cond h rfl (fun hc => ?_) (fun hc => ?_)
        · replace hc := of_decide_eq_true hc
          refine wpIn_skip ?_
          refine hK13 _ _ ?_
          refine c_seq fun K14 hK14 => ?_
          refine wpIn_block ?_
          refine c_seq fun K15 hK15 => ?_
          refine c_region ?_
          refine s_pure h (ru_move (h.ev rfl)) rfl ?_; intro f h
          refine s_pure h (ru_assign (h.ev rfl)) rfl ?_; intro f h
          refine s_nil ?_
          refine hK15 _ _ ?_
          refine c_region ?_
          refine s_pure h (ru_move (h.ev rfl)) rfl ?_; intro f h
          refine s_pure h (ru_move (h.ev rfl)) rfl ?_; intro f h
          refine s_pure h (ru_move (h.ev rfl)) rfl ?_; intro f h
          refine s_pure h (ru_move (h.ev rfl)) rfl ?_; intro f h
          have hkl : k < m9 := by omega
          have hpos := mem_pos hm
          have hml := Nat.mod_lt (k + 1) hpos
          have hrl := rnd_len (finM l no).2 l
          refine s_pure h (ru_val (.int .i64 ((k + 1 : Nat) : Int)) (ru_add (h.ev rfl) (h.ev rfl) (by omega)) (congrArg (Value.int .i64) (by omega))) rfl ?_; intro f h
          refine s_pure h (ru_move (h.ev rfl)) rfl ?_; intro f h
          refine s_len_sl 1 h s Try.underlying22 rfl rfl rfl ?_; intro f h
          refine s_pure h (ru_val (.int .i64 (((k + 1) % l.length : Nat) : Int)) (ru_rem (h.ev rfl) (h.ev rfl) (by omega)) (congrArg (Value.int .i64) (by rw [rnd_len]; exact (Int.natCast_emod _ _).symm))) rfl ?_; intro f h
          refine s_pure h (ru_ixz (RdZ.of_own (s.getSl 1 rfl)) ((k + 1) % l.length) Try.underlying22 szo30 (h.ev rfl) (h.ev rfl) (rfl) (by omega)) rfl ?_; intro f h
          refine s_load_at ((RdZ.of_own (s.getSl 1 rfl)).el ((k + 1) % l.length) (by omega) (by decide) (D := mbArr (nxtK l (finM l no) (k + 1))) ((mb_elD _ _ (by omega)).trans (by rw [rnd_iter hg hm]))) h row30 rfl (mbArr_size _) rfl ?_; intro f h
          refine s_pure h (ru_ixz (RdZ.of_own (s.getSl 0 rfl)) (k) Try.underlying22 szo30 (h.ev rfl) (h.ev rfl) (rfl) (by omega)) rfl ?_; intro f h
          refine s_store_el 0 (k) h s row30 rfl rfl rfl (mbArr_size _) (by omega) (mbArr_ones _) ((mb_set (l := (setL l (finM l no) m9 k)) _ (by rw [setL_len _ _ (by omega)]; exact hkl)).trans (by rw [setL_next _ _ hkl])) ?_; intro w1 s
          refine s_nil ?_
          refine b_norm ?_
          refine hK14 _ _ ?_
          refine c_region ?_
          refine s_pure h (ru_add (h.ev rfl) (h.ev rfl) (by omega)) rfl ?_; intro f h
          refine s_pure h (ru_move (h.ev rfl)) rfl ?_; intro f h
          refine s_nil ?_
          refine t_norm ?_
          exact ⟨_, by omega, ⟨k + 1, h.only ⟨rfl, rfl, rfl, rfl, rfl, rfl, rfl, rfl, rfl, rfl, slot_int rfl (by omega), trivial⟩, St.as s ⟨rfl, rfl, rfl, trivial⟩, rfl, by omega⟩⟩
        · replace hc := of_decide_eq_false hc
          refine wpIn_exit ?_
          refine t_exit ?_
          refine t_exit ?_
          refine b_exit ?_
          refine hK10 _ _ ?_
          refine c_seq fun K16 hK16 => ?_
          refine c_region ?_
          refine s_pure h (ru_move (h.ev rfl)) rfl ?_; intro f h
          refine s_pure h (ru_assign (h.ev rfl)) rfl ?_; intro f h
          refine s_pure h (ru_assign (h.ev rfl)) rfl ?_; intro f h
          refine s_nil ?_
          refine hK16 _ _ ?_
          refine wpIn_ret ?_
          exact e_tmps rfl h s rfl rfl (two_out (aftL_ok hm9 hae h0) (hae.trans h0) (by obtain rfl : k = m9 := (by omega); rw [← setL_end, setL_len _ _ (Nat.le_refl _)]; exact (s.getSl 0 rfl)))
    · skip
      refine c_region ?_
      refine s_pure h (ru_move (h.ev rfl)) rfl ?_; intro f h
      refine s_pure h (ru_val (.bool false) (ru_lss (h.ev rfl) (h.ev rfl)) (congrArg Value.bool m0)) rfl ?_; intro f h
      refine s_pure h (ru_move (h.ev rfl)) rfl ?_; intro f h
      refine s_on h rfl rfl rfl ?_
      refine s_pure h (ru_move (h.ev rfl)) rfl ?_; intro f h
      refine s_on h rfl rfl rfl ?_
      refine s_pure h (ru_val (.bool true) (ru_gtr (h.ev rfl) (h.ev rfl)) (congrArg Value.bool m1)) rfl ?_; intro f h
      refine s_pure h (ru_pick_f (h.ev rfl) (h.ev rfl)) rfl ?_; intro f h
      refine s_nil ?_
      refine hK3 _ _ ?_
      refine wpIn_cond_true (h.ev rfl) ?_
      refine c_seq fun K17 hK17 => ?_
      refine c_region ?_
      refine s_pure h (ru_assign (h.ev rfl)) rfl ?_; intro f h
      refine s_pure h (ru_assign (h.ev rfl)) rfl ?_; intro f h
      refine s_nil ?_
      refine hK17 _ _ ?_
      refine wpIn_ret ?_
      refine t_ret ?_
      exact e_tmps rfl h s rfl rfl (two_out (aft_far (.inr (of_decide_eq_true m1))).2 (aft_far (.inr (of_decide_eq_true m1))).1 (owns_nil _ _ _ _))
  · skip
    refine c_region ?_
    refine s_pure h (ru_move (h.ev rfl)) rfl ?_; intro f h
    refine s_pure h (ru_val (.bool true) (ru_lss (h.ev rfl) (h.ev rfl)) (congrArg Value.bool m0)) rfl ?_; intro f h
    refine s_pure h (ru_move (h.ev rfl)) rfl ?_; intro f h
    refine s_off (b := false) h rfl rfl rfl rfl ?_; intro f h
    refine s_off (b := false) h rfl rfl rfl rfl ?_; intro f h
    refine s_pure h (ru_pick_t (h.ev rfl) (h.ev rfl)) rfl ?_; intro f h
    refine s_nil ?_
    refine hK3 _ _ ?_
    refine wpIn_cond_true (h.ev rfl) ?_
    refine c_seq fun K18 hK18 => ?_
    refine c_region ?_
    refine s_pure h (ru_assign (h.ev rfl)) rfl ?_; intro f h
    refine s_pure h (ru_assign (h.ev rfl)) rfl ?_; intro f h
    refine s_nil ?_
    refine hK18 _ _ ?_
    refine wpIn_ret ?_
    refine t_ret ?_
    exact e_tmps rfl h s rfl rfl (two_out (aft_far (.inl (of_decide_eq_true m0))).2 (aft_far (.inl (of_decide_eq_true m0))).1 (owns_nil _ _ _ _))
end Go.Proofs.Ytgnijdeieglpkaa
