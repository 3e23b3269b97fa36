/- What each function of package ring that package finger calls answers: for all lists of at most 1000 members, all identifiers and numbers. -/
import Derived.Test.YtbjgpimabgcipaaVa
set_option linter.unusedVariables false
set_option linter.unusedSimpArgs false
set_option linter.unusedSectionVars false
namespace Go.Proofs.Ytbjgpimabgcipaa
open Go.RowKit
theorem clashes_any (m : Mb) (w : World) : Calls Try.prog 37 [.agg (mbArr m)].toArray w (Ret w (fun v w9 => ∃ bx, v = .func (.func 45) #[] #[.pointer (some ⟨bx, 0, none⟩)] ∧ Tab w9 bx (mbArr m))) := by
  refine c_enter Try.func37 rfl Try.ntmps37 rfl [(0, .agg (mbArr m))] (by simp) fun f h => ?_
  have s := St.start w
  refine c_seq fun K1 hK1 => ?_
  refine c_region ?_
  refine s_box ((mbArr m)) h s rfl rfl rfl ?_; intro f w1 b1 h s
  refine s_pure h (ru_assign (h.ev rfl)) rfl ?_; intro f h
  refine s_nil ?_
  refine hK1 _ _ ?_
  refine c_seq fun K2 hK2 => ?_
  refine c_region ?_
  refine s_pure h (ru_makeFunc [.pointer (some ⟨b1, 0, none⟩)] (evsA h rfl)) rfl ?_; intro f h
  refine s_pure h (ru_assign (h.ev rfl)) rfl ?_; intro f h
  refine s_nil ?_
  refine hK2 _ _ ?_
  refine wpIn_ret ?_
  exact e_tmp rfl h s rfl (⟨b1, rfl, Tab.of_own s 0 rfl⟩)

theorem clash1_any (x m : Mb) (bx : Nat) (w : World) (hb : Tab w bx (mbArr m)) : Calls Try.prog 45 [.agg (mbArr x), .pointer (some ⟨bx, 0, none⟩)].toArray w (Ret w (is (.bool (clash m x)))) := by
  refine c_enter Try.func45 rfl Try.ntmps45 rfl [(0, .agg (mbArr x)), (1, .pointer (some ⟨bx, 0, none⟩))] (by simp) fun f h => ?_
  have s := St.start w
  refine c_seq fun K1 hK1 => ?_
  refine c_region ?_
  refine s_box ((mbArr x)) h s rfl rfl rfl ?_; intro f w1 b2 h s
  refine s_pure h (ru_assign (h.ev rfl)) rfl ?_; intro f h
  refine s_nil ?_
  refine hK1 _ _ ?_
  refine c_seq fun K2 hK2 => ?_
  cases h0 : (decide (x.1 = m.1) : Bool)
  · skip
    refine c_region ?_
    refine s_pure h (ru_field fld26_0 (h.ev rfl)) rfl ?_; intro f h
    refine s_load_at1 (cell_of_has (Has.of_own s 0 rfl) 0 (mbArr_no _)) h one3 rfl rfl ?_; intro f h
    refine s_pure h (ru_field fld26_0 (h.ev rfl)) rfl ?_; intro f h
    refine s_load_at1 (V := .int .i64 m.1) (cell_of_has (Has.of_tab (hb.keep s.ext)) 0 (mbArr_no _)) h one3 rfl rfl ?_; intro f h
    refine s_pure h (ru_val (.bool false) (ru_eql (h.ev rfl) (h.ev rfl)) (congrArg Value.bool h0)) rfl ?_; intro f h
    refine s_pure h (ru_move (h.ev rfl)) rfl ?_; intro f h
    refine s_on h rfl rfl rfl ?_
    refine s_pure h (ru_field fld26_1 (h.ev rfl)) rfl ?_; intro f h
    refine s_on h rfl rfl rfl ?_
    refine s_load_at (Has.subL (Has.of_own s 0 rfl) 1 32 (D := idArr (_)) (mbArr_id _)) h row24 rfl (by first | exact idArr_size _ | exact bytesF_size _ _) rfl ?_; intro f h
    refine s_on h rfl rfl rfl ?_
    refine s_pure h (ru_field fld26_1 (h.ev rfl)) rfl ?_; intro f h
    refine s_on h rfl rfl rfl ?_
    refine s_load_at (Has.subL (Has.of_tab (hb.keep s.ext)) 1 32 (D := idArr (_)) (mbArr_id _)) h row24 rfl (by first | exact idArr_size _ | exact bytesF_size _ _) rfl ?_; intro f h
    refine s_on h rfl rfl rfl ?_
    refine s_pure h (ru_eql_id idTy (h.ev rfl) (h.ev rfl)) rfl ?_; intro f h
    refine s_pure h (ru_pick_f (h.ev rfl) (h.ev rfl)) rfl ?_; intro f h
    refine s_pure h (ru_assign (h.ev rfl)) rfl ?_; intro f h
    refine s_nil ?_
    refine hK2 _ _ ?_
    refine wpIn_ret ?_
    exact e_tmp rfl h s rfl (by show _ = _; rw [clash_2 h0] <;> rfl)
  · skip
    refine c_region ?_
    refine s_pure h (ru_field fld26_0 (h.ev rfl)) rfl ?_; intro f h
    refine s_load_at1 (cell_of_has (Has.of_own s 0 rfl) 0 (mbArr_no _)) h one3 rfl rfl ?_; intro f h
    refine s_pure h (ru_field fld26_0 (h.ev rfl)) rfl ?_; intro f h
    refine s_load_at1 (V := .int .i64 m.1) (cell_of_has (Has.of_tab (hb.keep s.ext)) 0 (mbArr_no _)) h one3 rfl rfl ?_; intro f h
    refine s_pure h (ru_val (.bool true) (ru_eql (h.ev rfl) (h.ev rfl)) (congrArg Value.bool h0)) rfl ?_; intro f h
    refine s_pure h (ru_move (h.ev rfl)) rfl ?_; intro f h
    refine s_off (b := false) h rfl rfl rfl rfl ?_; intro f h
    refine s_off (b := false) h rfl rfl rfl rfl ?_; intro f h
    refine s_off (b := false) h rfl rfl rfl rfl ?_; intro f h
    refine s_off (b := false) h rfl rfl rfl rfl ?_; intro f h
    refine s_off (b := false) h rfl rfl rfl rfl ?_; intro f h
    refine s_pure h (ru_pick_t (h.ev rfl) (h.ev rfl)) rfl ?_; intro f h
    refine s_pure h (ru_assign (h.ev rfl)) rfl ?_; intro f h
    refine s_nil ?_
    refine hK2 _ _ ?_
    refine wpIn_ret ?_
    exact e_tmp rfl h s rfl (by show _ = _; rw [clash_1 h0] <;> rfl)

theorem indexf_any (l : List Mb) (vh : Value) (g9 : Nat) (caps : List Value) (p : Mb → Bool) (w : World) (hR : RdZ w vh 33 l.length (mbCells l)) (hln : l.length ≤ 1000) (hg : Fnc Try.prog g9) (hp : ∀ w9, Ext w w9 → ∀ x ∈ l, Calls Try.prog g9 (.agg (mbArr x) :: caps).toArray w9 (Ret w9 (is (.bool (p x))))) : Calls Try.prog 26 [vh, .func (.func g9) #[] caps.toArray].toArray w (Ret w (fun v _ => ∃ r : Int, v = .int .i64 r ∧ ((r = -1 ∧ ∀ x ∈ l, p x = false) ∨ ∃ k : Nat, ∃ hk : k < l.length, r = (k : Int) ∧ p l[k] = true))) := by
  refine c_enter Try.func26 rfl Try.ntmps26 rfl [(0, vh), (1, .func (.func g9) #[] caps.toArray)] (by simp) fun f h => ?_
  have s := St.start w
  refine c_seq fun K1 hK1 => ?_
  refine c_region ?_
  refine s_pure h (ru_assign (h.ev rfl)) rfl ?_; intro f h
  refine s_nil ?_
  refine hK1 _ _ ?_
  refine c_seq fun K2 hK2 => ?_
  refine c_seq fun K3 hK3 => ?_
  refine c_region ?_
  refine s_pure h (ru_move (h.ev rfl)) rfl ?_; intro f h
  refine s_pure h (ru_lenZ (hR.keep s.ext) Try.underlying22 (h.ev rfl)) rfl ?_; intro f h
  refine s_pure h (ru_move (h.ev rfl)) rfl ?_; intro f h
  refine s_nil ?_
  refine hK3 _ _ ?_
  refine wpIn_block ?_
  refine wpIn_loop_ghost (fun nn aa ww => ∃ k : Nat, Sl 19 aa [(0, vh), (1, .func (.func g9) #[] caps.toArray), (6, vh), (7, .int .i64 (l.length : Int)), (8, .int .i64 (k : Int))] ∧ St w [] ww ∧ nn = l.length - k ∧ k ≤ l.length ∧ ∀ i (hi : i < l.length), i < k → p l[i] = false) (l.length - (0)) ⟨0, h.only ⟨rfl, rfl, rfl, rfl, slot_int rfl (by omega), trivial⟩, s.as trivial, rfl, Nat.zero_le _, fun i hi h9 => absurd h9 (Nat.not_lt_zero _)⟩ ?_
  rintro _ f w1 ⟨k, h, s, hnn, hp0, hp1⟩
  refine c_seq fun K4 hK4 => ?_
  refine c_region ?_
  refine s_pure h (ru_lss (h.ev rfl) (h.ev rfl)) rfl ?_; intro f h
  refine s_nil ?_
  refine hK4 _ _ ?_
  refine c_seq fun K5 hK5 => ?_
  refine c_cond h rfl (fun hc => ?_) (fun hc => ?_)
  · replace hc := of_decide_eq_true hc
    refine wpIn_skip ?_
    refine hK5 _ _ ?_
    refine c_seq fun K6 hK6 => ?_
    refine wpIn_block ?_
    refine c_seq fun K7 hK7 => ?_
    refine c_region ?_
    refine s_pure h (ru_move (h.ev rfl)) rfl ?_; intro f h
    refine s_pure h (ru_assign (h.ev rfl)) rfl ?_; intro f h
    refine s_nil ?_
    refine hK7 _ _ ?_
    refine c_seq fun K8 hK8 => ?_
    refine c_region ?_
    have hkl : k < l.length := by omega
    refine s_pure h (ru_move (h.ev rfl)) rfl ?_; intro f h
    refine s_pure h (ru_move (h.ev rfl)) rfl ?_; intro f h
    refine s_pure h (ru_move (h.ev rfl)) rfl ?_; intro f h
    refine s_pure h (ru_ixz (hR.keep s.ext) (k) Try.underlying22 szo26 (h.ev rfl) (h.ev rfl) (by omega) (by omega)) rfl ?_; intro f h
    refine s_load_at ((hR.keep s.ext).el (k) (by omega) (by decide) (D := mbArr l[k]) (mb_el l k hkl)) h row26 rfl (mbArr_size _) rfl ?_; intro f h
    refine s_callV [.agg (mbArr l[k])] (caps := caps) h s hg rfl (hp _ s.ext _ (List.getElem_mem hkl)) rfl rfl ?_; intro f w1 v9 hT hE h s; obtain rfl := hT
    refine s_nil ?_
    refine hK8 _ _ ?_
    refine c_cond h rfl (fun hc => ?_) (fun hc => ?_)
    · refine c_seq fun K9 hK9 => ?_
      refine c_region ?_
      refine s_pure h (ru_move (h.ev rfl)) rfl ?_; intro f h
      refine s_pure h (ru_assign (h.ev rfl)) rfl ?_; intro f h
      refine s_nil ?_
      refine hK9 _ _ ?_
      refine wpIn_ret ?_
      refine b_ret ?_
      refine t_ret ?_
      refine t_ret ?_
      refine b_ret ?_
      refine t_ret ?_
      exact e_tmp rfl h s rfl (⟨_, rfl, .inr ⟨k, hkl, rfl, hc⟩⟩)
    · refine wpIn_skip ?_
      refine b_norm ?_
      refine hK6 _ _ ?_
      refine c_region ?_
      refine s_pure h (ru_add (h.ev rfl) (h.ev rfl) (by omega)) rfl ?_; intro f h
      refine s_pure h (ru_move (h.ev rfl)) rfl ?_; intro f h
      refine s_nil ?_
      refine t_norm ?_
      exact ⟨_, by omega, ⟨k + 1, h.only ⟨rfl, rfl, rfl, rfl, slot_int rfl (by omega), trivial⟩, St.as s trivial, rfl, by omega, all_next (fun y => p y = false) hp1 hkl hc⟩⟩
  · replace hc := of_decide_eq_false hc
    refine wpIn_exit ?_
    refine t_exit ?_
    refine t_exit ?_
    refine b_exit ?_
    refine hK2 _ _ ?_
    refine c_seq fun K10 hK10 => ?_
    refine c_region ?_
    refine s_pure h (ru_assign (h.ev rfl)) rfl ?_; intro f h
    refine s_nil ?_
    refine hK10 _ _ ?_
    refine wpIn_ret ?_
    exact e_tmp rfl h s rfl (⟨_, rfl, .inl ⟨rfl, fun x hx => (by obtain ⟨i, hi, e⟩ := List.getElem_of_mem hx; rw [← e]; exact hp1 i hi (by omega))⟩⟩)

theorem containsf_any (l : List Mb) (vh : Value) (g9 : Nat) (caps : List Value) (p : Mb → Bool) (w : World) (hR : RdZ w vh 33 l.length (mbCells l)) (hln : l.length ≤ 1000) (hg : Fnc Try.prog g9) (hp : ∀ w9, Ext w w9 → ∀ x ∈ l, Calls Try.prog g9 (.agg (mbArr x) :: caps).toArray w9 (Ret w9 (is (.bool (p x))))) : Calls Try.prog 36 [vh, .func (.func g9) #[] caps.toArray].toArray w (Ret w (is (.bool (l.any p)))) := by
  refine c_enter Try.func36 rfl Try.ntmps36 rfl [(0, vh), (1, .func (.func g9) #[] caps.toArray)] (by simp) fun f h => ?_
  have s := St.start w
  refine c_seq fun K1 hK1 => ?_
  refine c_region ?_
  refine s_pure h (ru_assign (h.ev rfl)) rfl ?_; intro f h
  refine s_nil ?_
  refine hK1 _ _ ?_
  refine c_seq fun K2 hK2 => ?_
  refine c_region ?_
  refine s_pure h (ru_move (h.ev rfl)) rfl ?_; intro f h
  refine s_pure h (ru_move (h.ev rfl)) rfl ?_; intro f h
  refine s_call h s fnc26 (indexf_any l vh g9 caps p _ (hR.keep s.ext) hln hg (fun w9 h9 => hp w9 (s.ext.trans h9))) rfl rfl ?_; rintro f w1 v9 ⟨r9, rfl, hr⟩ hE h s
  refine s_pure h (ru_val (.bool (l.any p)) (ru_geq (h.ev rfl) (h.ev rfl)) (congrArg Value.bool (anyM_of hr))) rfl ?_; intro f h
  refine s_pure h (ru_assign (h.ev rfl)) rfl ?_; intro f h
  refine s_nil ?_
  refine hK2 _ _ ?_
  refine wpIn_ret ?_
  exact e_tmp rfl h s rfl (rfl)

theorem right_any (l : List Mb) (vh : Value) (w : World) (hR : RdZ w vh 33 l.length (mbCells l)) (hln : l.length ≤ 1000) : Calls Try.prog 23 [vh].toArray w (Ret w (is (.bool (rightR l)))) := by
  refine c_enter Try.func23 rfl Try.ntmps23 rfl [(0, vh)] (by simp) fun f h => ?_
  have s := St.start w
  refine c_seq fun K1 hK1 => ?_
  refine c_region ?_
  refine s_pure h (ru_assign (h.ev rfl)) rfl ?_; intro f h
  refine s_nil ?_
  refine hK1 _ _ ?_
  refine c_seq fun K2 hK2 => ?_
  refine c_seq fun K3 hK3 => ?_
  refine c_region ?_
  refine s_pure h (ru_move (h.ev rfl)) rfl ?_; intro f h
  refine s_pure h (ru_lenZ (hR.keep s.ext) Try.underlying22 (h.ev rfl)) rfl ?_; intro f h
  refine s_pure h (ru_gtr (h.ev rfl) (h.ev rfl)) rfl ?_; intro f h
  refine s_nil ?_
  refine hK3 _ _ ?_
  refine c_cond h rfl (fun hc => ?_) (fun hc => ?_)
  · replace hc := of_decide_eq_true hc
    refine c_seq fun K4 hK4 => ?_
    refine c_region ?_
    refine s_pure h (ru_assign (h.ev rfl)) rfl ?_; intro f h
    refine s_nil ?_
    refine hK4 _ _ ?_
    refine wpIn_ret ?_
    refine t_ret ?_
    exact e_tmp rfl h s rfl (by show _ = _; rw [right_longR (by omega)] <;> rfl)
  · replace hc := of_decide_eq_false hc
    have hl16 : l.length ≤ 16 := by omega
    refine wpIn_skip ?_
    refine hK2 _ _ ?_
    refine c_seq fun K5 hK5 => ?_
    refine c_seq fun K6 hK6 => ?_
    refine c_region ?_
    refine s_pure h (ru_move (h.ev rfl)) rfl ?_; intro f h
    refine s_pure h (ru_lenZ (hR.keep s.ext) Try.underlying22 (h.ev rfl)) rfl ?_; intro f h
    refine s_pure h (ru_move (h.ev rfl)) rfl ?_; intro f h
    refine s_nil ?_
    refine hK6 _ _ ?_
    refine wpIn_block ?_
    refine wpIn_loop_ghost (fun nn aa ww => ∃ k : Nat, Sl 32 aa [(0, vh), (8, vh), (9, .int .i64 (l.length : Int)), (10, .int .i64 (k : Int))] ∧ St w [] ww ∧ nn = l.length - k ∧ k ≤ l.length ∧ ∀ j, j < k → badR l j = false) (l.length - (0)) ⟨0, h.only ⟨rfl, rfl, rfl, slot_int rfl (by omega), trivial⟩, s.as trivial, rfl, Nat.zero_le _, fun j hj => absurd hj (Nat.not_lt_zero _)⟩ ?_
    rintro _ f w1 ⟨k, h, s, hnn, hp0, hp1⟩
    refine c_seq fun K7 hK7 => ?_
    refine c_region ?_
    refine s_pure h (ru_lss (h.ev rfl) (h.ev rfl)) rfl ?_; intro f h
    refine s_nil ?_
    refine hK7 _ _ ?_
    refine c_seq fun K8 hK8 => ?_
    refine c_cond h rfl (fun hc => ?_) (fun hc => ?_)
    · replace hc := of_decide_eq_true hc
      refine wpIn_skip ?_
      refine hK8 _ _ ?_
      refine c_seq fun K9 hK9 => ?_
      refine wpIn_block ?_
      refine c_seq fun K10 hK10 => ?_
      refine c_region ?_
      refine s_pure h (ru_move (h.ev rfl)) rfl ?_; intro f h
      have hkl : k < l.length := by omega
      refine s_pure h (ru_ixz (hR.keep s.ext) (k) Try.underlying22 szo26 (h.ev rfl) (h.ev rfl) (by omega) (by omega)) rfl ?_; intro f h
      refine s_load_at ((hR.keep s.ext).el (k) (by omega) (by decide) (D := mbArr (l.getD k zMb)) (mb_elD l k hkl)) h row26 rfl (mbArr_size _) rfl ?_; intro f h
      refine s_alloc (mbArr zMb) h s zero26 rfl rfl ?_; intro f w1 b4 h s
      refine s_pure h (ru_assign (h.ev rfl)) rfl ?_; intro f h
      refine s_store_row 0 h s row26 rfl rfl rfl (mbArr_size _) (mbArr_size _) (mbArr_ones _) ?_; intro w1 s
      refine s_nil ?_
      refine hK10 _ _ ?_
      refine c_seq fun K11 hK11 => ?_
      cases k0 : (decide ((l.getD k zMb).1 < 0) : Bool)
      · skip
        cases k1 : (decide (16 ≤ (l.getD k zMb).1) : Bool)
        · skip
          have hbs := s.ext.le
          refine' c_reg2 14 [0] [] [[], [0], [0, 1], [0, 1, 2], [0, 1, 2, 3], [0, 1, 2, 3, 4], [0, 1, 2, 3, 4, 5], [0, 1, 2, 3, 4, 5, 6], [0, 1, 2, 3, 4, 5, 6, 7], [0, 1, 2, 3, 4, 5, 6, 7, 8], [0, 1, 2, 3, 4, 5, 6, 7, 8], [0, 1, 2, 3, 4, 5, 6, 7, 8, 9, 10], [0, 1, 2, 3, 4, 5, 6, 7, 8], [0, 1, 2, 3, 4, 5, 6, 7, 8, 12], [0, 1, 2, 3, 4, 5, 6, 7, 8, 9, 10, 11, 12, 13], [0, 1, 2, 3, 4, 5, 6, 7, 8, 9, 10, 11, 12, 13, 14]] (is _ :: is _ :: is _ :: is _ :: is _ :: is _ :: is _ :: is _ :: is _ :: is _ :: is _ :: is _ :: is _ :: (fun v w9 => ∃ bx, v = .func (.func 45) #[] #[.pointer (some ⟨bx, 0, none⟩)] ∧ Tab w9 bx (mbArr (l.getD k zMb))) :: is undef :: is undef :: []) (fun _ => True) h s (by kernel_rfl) (by kernel_rfl) (by kernel_rfl) (by kernel_rfl) rfl (fun _ _ h _ => h) (trivial) ⟨⟨_, rfl⟩, trivial⟩ ⟨is_mono _, is_mono _, is_mono _, is_mono _, is_mono _, is_mono _, is_mono _, is_mono _, is_mono _, is_mono _, is_mono _, is_mono _, is_mono _, fun _ _ _ h9 hE => by obtain ⟨bx, h1, h2⟩ := h9; exact ⟨bx, h1, h2.keep hE⟩, is_mono _, is_mono _, trivial⟩ (And.intro ?_ (And.intro ?_ (And.intro ?_ (And.intro ?_ (And.intro ?_ (And.intro ?_ (And.intro ?_ (And.intro ?_ (And.intro ?_ (And.intro ?_ (And.intro ?_ (And.intro ?_ (And.intro ?_ (And.intro ?_ (And.intro ?_ (And.intro ?_ (trivial))))))))))))))))) ?_
          rotate_left 13
          · refine obH_in 15 rfl (by decide) ?_
            intro f9 w2 hE hs hl
            have e4 : f9.tmps.getD 4 undef = _ := sx_old hl 4 (by kernel_rfl) (by kernel_rfl) (h.holds 4 _ rfl)
            have h := fin_slot [(4, _)] hs rfl (holds_lk ⟨e4, trivial⟩)
            refine s_pure h (ru_field fld26_0 (h.ev rfl)) rfl ?_; intro f h
            refine s_nil ?_
            have e9 := h.holds 15 _ rfl
            refine ⟨?_, rfl⟩
            refine e9.trans ?_
            exact rfl
          · refine obF_in 16 rfl (by decide) (by decide) ?_
            intro f9 w2 hE hs hd9 hl
            have e15 : f9.tmps.getD 15 undef = _ := sx_get hl 15 0 (by kernel_rfl) (by kernel_rfl)
            have h := fin_slot [(15, _)] hs hd9 (holds_lk ⟨e15, trivial⟩)
            have s := s.more hE
            have z := St.start w2
            refine s_load_at1 (cell_of_has (Has.of_own s 0 rfl) 0 (mbArr_no _)) h one3 rfl rfl ?_; intro f h
            refine s_nil ?_
            have e9 := h.holds 16 _ rfl
            refine ⟨?_, Ext.refl _, fun h9 => absurd h9 (by decide)⟩
            refine e9.trans ?_
            exact rfl
          · refine obF_in 17 rfl (by decide) (by decide) ?_
            intro f9 w2 hE hs hd9 hl
            have e16 : f9.tmps.getD 16 undef = _ := sx_get hl 16 1 (by kernel_rfl) (by kernel_rfl)
            have h := fin_slot [(16, _)] hs hd9 (holds_lk ⟨e16, trivial⟩)
            have s := s.more hE
            have z := St.start w2
            refine s_pure h (ru_val (.bool false) (ru_lss (h.ev rfl) (h.ev rfl)) (congrArg Value.bool k0)) rfl ?_; intro f h
            refine s_nil ?_
            have e9 := h.holds 17 _ rfl
            refine ⟨?_, Ext.refl _, fun h9 => absurd h9 (by decide)⟩
            refine e9.trans ?_
            exact rfl
          · refine obF_in 18 rfl (by decide) (by decide) ?_
            intro f9 w2 hE hs hd9 hl
            have e17 : f9.tmps.getD 17 undef = _ := sx_get hl 17 2 (by kernel_rfl) (by kernel_rfl)
            have h := fin_slot [(17, _)] hs hd9 (holds_lk ⟨e17, trivial⟩)
            have s := s.more hE
            have z := St.start w2
            refine s_pure h (ru_move (h.ev rfl)) rfl ?_; intro f h
            refine s_nil ?_
            have e9 := h.holds 18 _ rfl
            refine ⟨?_, Ext.refl _, fun h9 => absurd h9 (by decide)⟩
            refine e9.trans ?_
            exact rfl
          · refine obF_in 19 rfl (by decide) (by decide) ?_
            intro f9 w2 hE hs hd9 hl
            have e4 : f9.tmps.getD 4 undef = _ := sx_old hl 4 (by kernel_rfl) (by kernel_rfl) (h.holds 4 _ rfl)
            have e18 : f9.tmps.getD 18 undef = _ := sx_get hl 18 3 (by kernel_rfl) (by kernel_rfl)
            have h := fin_slot [(4, _), (18, _)] hs hd9 (holds_lk ⟨e4, e18, trivial⟩)
            have s := s.more hE
            have z := St.start w2
            refine s_on h rfl rfl rfl ?_
            refine s_pure h (ru_field fld26_0 (h.ev rfl)) rfl ?_; intro f h
            refine s_nil ?_
            have e9 := h.holds 19 _ rfl
            refine ⟨?_, Ext.refl _, fun h9 => absurd h9 (by decide)⟩
            refine e9.trans ?_
            exact rfl
          · refine obF_in 20 rfl (by decide) (by decide) ?_
            intro f9 w2 hE hs hd9 hl
            have e19 : f9.tmps.getD 19 undef = _ := sx_get hl 19 4 (by kernel_rfl) (by kernel_rfl)
            have e18 : f9.tmps.getD 18 undef = _ := sx_get hl 18 3 (by kernel_rfl) (by kernel_rfl)
            have h := fin_slot [(19, _), (18, _)] hs hd9 (holds_lk ⟨e19, e18, trivial⟩)
            have s := s.more hE
            have z := St.start w2
            refine s_on h rfl rfl rfl ?_
            refine s_load_at1 (cell_of_has (Has.of_own s 0 rfl) 0 (mbArr_no _)) h one3 rfl rfl ?_; intro f h
            refine s_nil ?_
            have e9 := h.holds 20 _ rfl
            refine ⟨?_, Ext.refl _, fun h9 => absurd h9 (by decide)⟩
            refine e9.trans ?_
            exact rfl
          · refine obF_in 21 rfl (by decide) (by decide) ?_
            intro f9 w2 hE hs hd9 hl
            have e20 : f9.tmps.getD 20 undef = _ := sx_get hl 20 5 (by kernel_rfl) (by kernel_rfl)
            have e18 : f9.tmps.getD 18 undef = _ := sx_get hl 18 3 (by kernel_rfl) (by kernel_rfl)
            have h := fin_slot [(20, _), (18, _)] hs hd9 (holds_lk ⟨e20, e18, trivial⟩)
            have s := s.more hE
            have z := St.start w2
            refine s_on h rfl rfl rfl ?_
            refine s_pure h (ru_val (.bool false) (ru_geq (h.ev rfl) (h.ev rfl)) (congrArg Value.bool k1)) rfl ?_; intro f h
            refine s_nil ?_
            have e9 := h.holds 21 _ rfl
            refine ⟨?_, Ext.refl _, fun h9 => absurd h9 (by decide)⟩
            refine e9.trans ?_
            exact rfl
          · refine obF_in 22 rfl (by decide) (by decide) ?_
            intro f9 w2 hE hs hd9 hl
            have e18 : f9.tmps.getD 18 undef = _ := sx_get hl 18 3 (by kernel_rfl) (by kernel_rfl)
            have e21 : f9.tmps.getD 21 undef = _ := sx_get hl 21 6 (by kernel_rfl) (by kernel_rfl)
            have h := fin_slot [(18, _), (21, _)] hs hd9 (holds_lk ⟨e18, e21, trivial⟩)
            have s := s.more hE
            have z := St.start w2
            refine s_pure h (ru_pick_f (h.ev rfl) (h.ev rfl)) rfl ?_; intro f h
            refine s_nil ?_
            have e9 := h.holds 22 _ rfl
            refine ⟨?_, Ext.refl _, fun h9 => absurd h9 (by decide)⟩
            refine e9.trans ?_
            exact rfl
          · refine obF_in 23 rfl (by decide) (by decide) ?_
            intro f9 w2 hE hs hd9 hl
            have e22 : f9.tmps.getD 22 undef = _ := sx_get hl 22 7 (by kernel_rfl) (by kernel_rfl)
            have h := fin_slot [(22, _)] hs hd9 (holds_lk ⟨e22, trivial⟩)
            have s := s.more hE
            have z := St.start w2
            refine s_pure h (ru_move (h.ev rfl)) rfl ?_; intro f h
            refine s_nil ?_
            have e9 := h.holds 23 _ rfl
            refine ⟨?_, Ext.refl _, fun h9 => absurd h9 (by decide)⟩
            refine e9.trans ?_
            exact rfl
          · refine obF_in 24 rfl (by decide) (by decide) ?_
            intro f9 w2 hE hs hd9 hl
            have e0 : f9.tmps.getD 0 undef = _ := sx_old hl 0 (by kernel_rfl) (by kernel_rfl) (h.holds 0 _ rfl)
            have e23 : f9.tmps.getD 23 undef = _ := sx_get hl 23 8 (by kernel_rfl) (by kernel_rfl)
            have h := fin_slot [(0, _), (23, _)] hs hd9 (holds_lk ⟨e0, e23, trivial⟩)
            have s := s.more hE
            have z := St.start w2
            refine s_on h rfl rfl rfl ?_
            refine s_pure h (ru_move (h.ev rfl)) rfl ?_; intro f h
            refine s_nil ?_
            have e9 := h.holds 24 _ rfl
            refine ⟨?_, Ext.refl _, fun h9 => absurd h9 (by decide)⟩
            refine e9.trans ?_
            exact rfl
          · refine obF_in 25 rfl (by decide) (by decide) ?_
            intro f9 w2 hE hs hd9 hl
            have e3 : f9.tmps.getD 3 undef = _ := sx_old hl 3 (by kernel_rfl) (by kernel_rfl) (h.holds 3 _ rfl)
            have e23 : f9.tmps.getD 23 undef = _ := sx_get hl 23 8 (by kernel_rfl) (by kernel_rfl)
            have h := fin_slot [(3, _), (23, _)] hs hd9 (holds_lk ⟨e3, e23, trivial⟩)
            have s := s.more hE
            have z := St.start w2
            refine s_on h rfl rfl rfl ?_
            refine s_pure h (ru_move (h.ev rfl)) rfl ?_; intro f h
            refine s_nil ?_
            have e9 := h.holds 25 _ rfl
            refine ⟨?_, Ext.refl _, fun h9 => absurd h9 (by decide)⟩
            refine e9.trans ?_
            exact rfl
          · refine obF_in 26 rfl (by decide) (by decide) ?_
            intro f9 w2 hE hs hd9 hl
            have e24 : f9.tmps.getD 24 undef = _ := sx_get hl 24 9 (by kernel_rfl) (by kernel_rfl)
            have e25 : f9.tmps.getD 25 undef = _ := sx_get hl 25 10 (by kernel_rfl) (by kernel_rfl)
            have e23 : f9.tmps.getD 23 undef = _ := sx_get hl 23 8 (by kernel_rfl) (by kernel_rfl)
            have h := fin_slot [(24, _), (25, _), (23, _)] hs hd9 (holds_lk ⟨e24, e25, e23, trivial⟩)
            have s := s.more hE
            have z := St.start w2
            refine s_on h rfl rfl rfl ?_
            refine s_pure h (ru_slice_hiZ (hR.keep s.ext) (k) Try.underlying22 szo26 (h.ev rfl) (h.ev rfl) (rfl) (by omega)) rfl ?_; intro f h
            refine s_nil ?_
            have e9 := h.holds 26 _ rfl
            refine ⟨?_, Ext.refl _, fun h9 => absurd h9 (by decide)⟩
            refine e9.trans ?_
            exact rfl
          · refine obF_in 27 rfl (by decide) (by decide) ?_
            intro f9 w2 hE hs hd9 hl
            have e4 : f9.tmps.getD 4 undef = _ := sx_old hl 4 (by kernel_rfl) (by kernel_rfl) (h.holds 4 _ rfl)
            have e23 : f9.tmps.getD 23 undef = _ := sx_get hl 23 8 (by kernel_rfl) (by kernel_rfl)
            have h := fin_slot [(4, _), (23, _)] hs hd9 (holds_lk ⟨e4, e23, trivial⟩)
            have s := s.more hE
            have z := St.start w2
            refine s_on h rfl rfl rfl ?_
            refine s_load_row 0 h s row26 rfl rfl (mbArr_size _) rfl ?_; intro f h
            refine s_nil ?_
            have e9 := h.holds 27 _ rfl
            refine ⟨?_, Ext.refl _, fun h9 => absurd h9 (by decide)⟩
            refine e9.trans ?_
            exact rfl
          · refine obF_in 28 rfl (by decide) (by decide) ?_
            intro f9 w2 hE hs hd9 hl
            have e27 : f9.tmps.getD 27 undef = _ := sx_get hl 27 12 (by kernel_rfl) (by kernel_rfl)
            have e23 : f9.tmps.getD 23 undef = _ := sx_get hl 23 8 (by kernel_rfl) (by kernel_rfl)
            have h := fin_slot [(27, _), (23, _)] hs hd9 (holds_lk ⟨e27, e23, trivial⟩)
            have s := s.more hE
            have z := St.start w2
            refine s_on h rfl rfl rfl ?_
            refine s_call h s fnc37 (clashes_any _ _) rfl rfl ?_; intro f w3 v3 hT9 hE3 h s
            refine s_nil ?_
            exact ⟨by rw [h.holds 28 _ rfl]; exact hT9, hE3, fun h9 => absurd h9 (by decide)⟩
          · exact obT_in (by decide) (by decide)
          · exact obT_in (by decide) (by decide)
          · intro f9 w2 hE hs hd9 hWp hT hR hFr hDj
            obtain ⟨u28, hu28⟩ : ∃ v, f9.tmps.getD 28 undef = v := ⟨_, rfl⟩
            have e28 : (fun v w9 => ∃ bx, v = .func (.func 45) #[] #[.pointer (some ⟨bx, 0, none⟩)] ∧ Tab w9 bx (mbArr (l.getD k zMb))) u28 w2 := by rw [← hu28]; exact hT 13 28 (by decide) rfl
            replace h := sl_new (ops := _) [(15, _), (16, _), (17, _), (18, _), (19, _), (20, _), (21, _), (22, _), (23, _), (24, _), (25, _), (26, _), (27, _), (28, u28)] h hs hd9 hR ⟨hT 0 15 (by decide) rfl, hT 1 16 (by decide) rfl, hT 2 17 (by decide) rfl, hT 3 18 (by decide) rfl, hT 4 19 (by decide) rfl, hT 5 20 (by decide) rfl, hT 6 21 (by decide) rfl, hT 7 22 (by decide) rfl, hT 8 23 (by decide) rfl, hT 9 24 (by decide) rfl, hT 10 25 (by decide) rfl, hT 11 26 (by decide) rfl, hT 12 27 (by decide) rfl, hu28, trivial⟩ (by kernel_rfl)
            replace s := s.more hE
            clear hT hR hFr hDj
            refine LstW.of ?_
            refine s_on h rfl rfl rfl ?_
            obtain ⟨bx, hbx0, hbx⟩ := e28; subst hbx0
            refine s_call h s fnc36 (containsf_any (l.take k) (cutV vh k) 45 [.pointer (some ⟨bx, 0, none⟩)] (clash (l.getD k zMb)) _ (mb_take (hR.keep s.ext) k (by omega)) (by rw [List.length_take]; omega) fnc45 (fun w9 h9 x hx => clash1_any x _ bx w9 (hbx.keep h9))) rfl rfl ?_; intro f w1 v9 hT hE h s; obtain rfl := hT
            refine s_pure h (ru_pick_f (h.ev rfl) (h.ev rfl)) rfl ?_; intro f h
            refine s_nil ?_
            refine hK11 _ _ ?_
            refine c_cond h rfl (fun hc => ?_) (fun hc => ?_)
            · refine c_seq fun K12 hK12 => ?_
              refine c_region ?_
              refine s_pure h (ru_assign (h.ev rfl)) rfl ?_; intro f h
              refine s_nil ?_
              refine hK12 _ _ ?_
              refine wpIn_ret ?_
              refine b_ret ?_
              refine t_ret ?_
              refine t_ret ?_
              refine b_ret ?_
              refine t_ret ?_
              exact e_tmp rfl h s rfl (by show _ = _; rw [right_leftR hkl ((badR_2 k0 k1).trans hc)] <;> rfl)
            · refine wpIn_skip ?_
              refine b_norm ?_
              refine hK9 _ _ ?_
              refine c_region ?_
              refine s_pure h (ru_add (h.ev rfl) (h.ev rfl) (by omega)) rfl ?_; intro f h
              refine s_pure h (ru_move (h.ev rfl)) rfl ?_; intro f h
              refine s_nil ?_
              refine t_norm ?_
              have hb9 : badR l k = false := (badR_2 k0 k1).trans hc
              exact ⟨_, by omega, ⟨k + 1, h.only ⟨rfl, rfl, rfl, slot_int rfl (by omega), trivial⟩, St.as (s.pick _ (List.sublist_append_right [_] _)) trivial, rfl, by omega, qs_next hp1 hb9⟩⟩
        · skip
          refine c_walkN 16 [[], [0], [0, 1], [0, 1, 2], [0, 1, 2, 3], [0, 1, 2, 3, 4], [0, 1, 2, 3, 4, 5], [0, 1, 2, 3, 4, 5, 6], [0, 1, 2, 3, 4, 5, 6, 7], [0, 1, 2, 3, 4, 5, 6, 7, 8], [0, 1, 2, 3, 4, 5, 6, 7, 8], [0, 1, 2, 3, 4, 5, 6, 7, 8, 9, 10], [0, 1, 2, 3, 4, 5, 6, 7, 8], [0, 1, 2, 3, 4, 5, 6, 7, 8, 12], [0, 1, 2, 3, 4, 5, 6, 7, 8, 9, 10, 11, 12, 13], [0, 1, 2, 3, 4, 5, 6, 7, 8, 9, 10, 11, 12, 13, 14]] h (by kernel_rfl) (by kernel_rfl) (by kernel_rfl) ?_
          refine w_pure h (ru_field fld26_0 (h.ev rfl)) rfl ?_; intro f h
          refine w_load_at1 (cell_of_has (Has.of_own s 0 rfl) 0 (mbArr_no _)) h one3 rfl rfl ?_; intro f h
          refine w_pure h (ru_val (.bool false) (ru_lss (h.ev rfl) (h.ev rfl)) (congrArg Value.bool k0)) rfl ?_; intro f h
          refine w_pure h (ru_move (h.ev rfl)) rfl ?_; intro f h
          refine w_on h rfl rfl rfl ?_
          refine w_pure h (ru_field fld26_0 (h.ev rfl)) rfl ?_; intro f h
          refine w_on h rfl rfl rfl ?_
          refine w_load_at1 (cell_of_has (Has.of_own s 0 rfl) 0 (mbArr_no _)) h one3 rfl rfl ?_; intro f h
          refine w_on h rfl rfl rfl ?_
          refine w_pure h (ru_val (.bool true) (ru_geq (h.ev rfl) (h.ev rfl)) (congrArg Value.bool k1)) rfl ?_; intro f h
          refine w_pure h (ru_pick_f (h.ev rfl) (h.ev rfl)) rfl ?_; intro f h
          refine w_pure h (ru_move (h.ev rfl)) rfl ?_; intro f h
          refine w_off (b := false) h rfl rfl rfl rfl ?_; intro f h
          refine w_off (b := false) h rfl rfl rfl rfl ?_; intro f h
          refine w_off (b := false) h rfl rfl rfl rfl ?_; intro f h
          refine w_off (b := false) h rfl rfl rfl rfl ?_; intro f h
          refine w_off (b := false) h rfl rfl rfl rfl ?_; intro f h
          refine w_off (b := false) h rfl rfl rfl rfl ?_; intro f h
          refine w_pure h (ru_pick_t (h.ev rfl) (h.ev rfl)) rfl ?_; intro f h
          refine w_nil s fun w1 s => ?_
          refine s_nil ?_
          refine hK11 _ _ ?_
          refine wpIn_cond_true (h.ev rfl) ?_
          refine c_seq fun K13 hK13 => ?_
          refine c_region ?_
          refine s_pure h (ru_assign (h.ev rfl)) rfl ?_; intro f h
          refine s_nil ?_
          refine hK13 _ _ ?_
          refine wpIn_ret ?_
          refine b_ret ?_
          refine t_ret ?_
          refine t_ret ?_
          refine b_ret ?_
          refine t_ret ?_
          exact e_tmp rfl h s rfl (by show _ = _; rw [right_leftR hkl (badR_1 k1)] <;> rfl)
      · skip
        refine c_walkN 16 [[], [0], [0, 1], [0, 1, 2], [0, 1, 2, 3], [0, 1, 2, 3, 4], [0, 1, 2, 3, 4, 5], [0, 1, 2, 3, 4, 5, 6], [0, 1, 2, 3, 4, 5, 6, 7], [0, 1, 2, 3, 4, 5, 6, 7, 8], [0, 1, 2, 3, 4, 5, 6, 7, 8], [0, 1, 2, 3, 4, 5, 6, 7, 8, 9, 10], [0, 1, 2, 3, 4, 5, 6, 7, 8], [0, 1, 2, 3, 4, 5, 6, 7, 8, 12], [0, 1, 2, 3, 4, 5, 6, 7, 8, 9, 10, 11, 12, 13], [0, 1, 2, 3, 4, 5, 6, 7, 8, 9, 10, 11, 12, 13, 14]] h (by kernel_rfl) (by kernel_rfl) (by kernel_rfl) ?_
        refine w_pure h (ru_field fld26_0 (h.ev rfl)) rfl ?_; intro f h
        refine w_load_at1 (cell_of_has (Has.of_own s 0 rfl) 0 (mbArr_no _)) h one3 rfl rfl ?_; intro f h
        refine w_pure h (ru_val (.bool true) (ru_lss (h.ev rfl) (h.ev rfl)) (congrArg Value.bool k0)) rfl ?_; intro f h
        refine w_pure h (ru_move (h.ev rfl)) rfl ?_; intro f h
        refine w_off (b := false) h rfl rfl rfl rfl ?_; intro f h
        refine w_off (b := false) h rfl rfl rfl rfl ?_; intro f h
        refine w_off (b := false) h rfl rfl rfl rfl ?_; intro f h
        refine w_pure h (ru_pick_t (h.ev rfl) (h.ev rfl)) rfl ?_; intro f h
        refine w_pure h (ru_move (h.ev rfl)) rfl ?_; intro f h
        refine w_off (b := false) h rfl rfl rfl rfl ?_; intro f h
        refine w_off (b := false) h rfl rfl rfl rfl ?_; intro f h
        refine w_off (b := false) h rfl rfl rfl rfl ?_; intro f h
        refine w_off (b := false) h rfl rfl rfl rfl ?_; intro f h
        refine w_off (b := false) h rfl rfl rfl rfl ?_; intro f h
        refine w_off (b := false) h rfl rfl rfl rfl ?_; intro f h
        refine w_pure h (ru_pick_t (h.ev rfl) (h.ev rfl)) rfl ?_; intro f h
        refine w_nil s fun w1 s => ?_
        refine s_nil ?_
        refine hK11 _ _ ?_
        refine wpIn_cond_true (h.ev rfl) ?_
        refine c_seq fun K14 hK14 => ?_
        refine c_region ?_
        refine s_pure h (ru_assign (h.ev rfl)) rfl ?_; intro f h
        refine s_nil ?_
        refine hK14 _ _ ?_
        refine wpIn_ret ?_
        refine b_ret ?_
        refine t_ret ?_
        refine t_ret ?_
        refine b_ret ?_
        refine t_ret ?_
        exact e_tmp rfl h s rfl (by show _ = _; rw [right_leftR hkl (badR_0 k0)] <;> rfl)
    · replace hc := of_decide_eq_false hc
      refine wpIn_exit ?_
      refine t_exit ?_
      refine t_exit ?_
      refine b_exit ?_
      refine hK5 _ _ ?_
      refine c_seq fun K15 hK15 => ?_
      refine c_region ?_
      refine s_pure h (ru_assign (h.ev rfl)) rfl ?_; intro f h
      refine s_nil ?_
      refine hK15 _ _ ?_
      refine wpIn_ret ?_
      exact e_tmp rfl h s rfl (by show _ = _; rw [right_doneR hl16 (fun j hj => hp1 j (by omega))] <;> rfl)

theorem byway_any (x9 : Id) (w : World) : Calls Try.prog 39 [idV x9].toArray w (Ret w (fun v w9 => ∃ bx, v = .func (.func 46) #[] #[.pointer (some ⟨bx, 0, none⟩)] ∧ Tab w9 bx (idArr x9))) := by
  refine c_enter Try.func39 rfl Try.ntmps39 rfl [(0, idV x9)] (by simp) fun f h => ?_
  have s := St.start w
  refine c_seq fun K1 hK1 => ?_
  refine c_region ?_
  refine s_box (idArr x9) h s rfl rfl rfl ?_; intro f w1 b1 h s
  refine s_pure h (ru_assign (h.ev rfl)) rfl ?_; intro f h
  refine s_nil ?_
  refine hK1 _ _ ?_
  refine c_seq fun K2 hK2 => ?_
  refine c_region ?_
  refine s_pure h (ru_makeFunc [.pointer (some ⟨b1, 0, none⟩)] (evsA h rfl)) rfl ?_; intro f h
  refine s_pure h (ru_assign (h.ev rfl)) rfl ?_; intro f h
  refine s_nil ?_
  refine hK2 _ _ ?_
  refine wpIn_ret ?_
  exact e_tmp rfl h s rfl (⟨b1, rfl, Tab.of_own s 0 rfl⟩)

theorem byway1_any (x y : Mb) (x9 : Id) (bx : Nat) (w : World) (hb : Tab w bx (idArr x9)) : Calls Try.prog 46 [.agg (mbArr x), .agg (mbArr y), .pointer (some ⟨bx, 0, none⟩)].toArray w (Ret w (is (.int .i64 (cmpI (x.2 - x9) (y.2 - x9))))) := by
  refine c_enter Try.func46 rfl Try.ntmps46 rfl [(0, .agg (mbArr x)), (1, .agg (mbArr y)), (2, .pointer (some ⟨bx, 0, none⟩))] (by simp) fun f h => ?_
  have s := St.start w
  refine c_seq fun K1 hK1 => ?_
  refine c_region ?_
  refine s_box ((mbArr x)) h s rfl rfl rfl ?_; intro f w1 b3 h s
  refine s_box ((mbArr y)) h s rfl rfl rfl ?_; intro f w1 b4 h s
  refine s_pure h (ru_assign (h.ev rfl)) rfl ?_; intro f h
  refine s_nil ?_
  refine hK1 _ _ ?_
  refine c_seq fun K2 hK2 => ?_
  refine c_walkN 10 [[], [], [1], [0, 1, 2], [], [], [5], [0, 1, 2, 3, 4, 5, 6], [0, 1, 2, 3, 4, 5, 6, 7], [0, 1, 2, 3, 4, 5, 6, 7, 8]] h (by kernel_rfl) (by kernel_rfl) (by kernel_rfl) ?_
  refine w_load_at (Has.subL (Has.of_tab (hb.keep s.ext)) 0 32 (D := idArr x9) (idArr_ext _)) h row24 rfl (by first | exact idArr_size _ | exact bytesF_size _ _) rfl ?_; intro f h
  refine w_pure h (ru_field fld26_1 (h.ev rfl)) rfl ?_; intro f h
  refine w_load_at (Has.subL (Has.of_own s 1 rfl) 1 32 (D := idArr (_)) (mbArr_id _)) h row24 rfl (by first | exact idArr_size _ | exact bytesF_size _ _) rfl ?_; intro f h
  refine w_call h fnc22 (fun w9 hE9 => far_any _ _ w9) rfl rfl ?_; intro f h
  refine w_load_at (Has.subL (Has.of_tab (hb.keep s.ext)) 0 32 (D := idArr x9) (idArr_ext _)) h row24 rfl (by first | exact idArr_size _ | exact bytesF_size _ _) rfl ?_; intro f h
  refine w_pure h (ru_field fld26_1 (h.ev rfl)) rfl ?_; intro f h
  refine w_load_at (Has.subL (Has.of_own s 0 rfl) 1 32 (D := idArr (_)) (mbArr_id _)) h row24 rfl (by first | exact idArr_size _ | exact bytesF_size _ _) rfl ?_; intro f h
  refine w_call h fnc22 (fun w9 hE9 => far_any _ _ w9) rfl rfl ?_; intro f h
  refine w_call h fnc21 (fun w9 hE9 => compare_any _ _ w9) rfl rfl ?_; intro f h
  refine w_pure h (ru_assign (h.ev rfl)) rfl ?_; intro f h
  refine w_nil s fun w1 s => ?_
  refine s_nil ?_
  refine hK2 _ _ ?_
  refine wpIn_ret ?_
  exact e_tmp rfl h s rfl (rfl)

theorem minf_any (l : List Mb) (vh : Value) (x9 : Id) (bx : Nat) (w : World) (hR : RdZ w vh 33 l.length (mbCells l)) (hln : l.length ≤ 1000) (hb : Tab w bx (idArr x9)) (h0 : 0 < l.length) : Calls Try.prog 38 [vh, .func (.func 46) #[] #[.pointer (some ⟨bx, 0, none⟩)]].toArray w (Ret w (is (.agg (mbArr (nearK (wayF x9) l (l.length - 1)))))) := by
  refine c_enter Try.func38 rfl Try.ntmps38 rfl [(0, vh), (1, .func (.func 46) #[] #[.pointer (some ⟨bx, 0, none⟩)])] (by simp) fun f h => ?_
  have s := St.start w
  refine c_seq fun K1 hK1 => ?_
  refine c_region ?_
  refine s_alloc (mbArr zMb) h s zero26 rfl rfl ?_; intro f w1 b4 h s
  refine s_nil ?_
  refine hK1 _ _ ?_
  refine c_seq fun K2 hK2 => ?_
  refine c_seq fun K3 hK3 => ?_
  refine c_region ?_
  refine s_pure h (ru_move (h.ev rfl)) rfl ?_; intro f h
  refine s_pure h (ru_lenZ (hR.keep s.ext) Try.underlying22 (h.ev rfl)) rfl ?_; intro f h
  refine s_pure h (ru_lss (h.ev rfl) (h.ev rfl)) rfl ?_; intro f h
  refine s_nil ?_
  refine hK3 _ _ ?_
  refine c_cond h rfl (fun hc => ?_) (fun hc => ?_)
  · replace hc := of_decide_eq_true hc
    exfalso; omega
  · refine wpIn_skip ?_
    refine hK2 _ _ ?_
    refine c_seq fun K4 hK4 => ?_
    refine c_region ?_
    refine s_pure h (ru_move (h.ev rfl)) rfl ?_; intro f h
    refine s_pure h (ru_ixz (hR.keep s.ext) (0) Try.underlying22 szo26 (h.ev rfl) (h.ev rfl) (by omega) (by omega)) rfl ?_; intro f h
    refine s_load_at ((hR.keep s.ext).el (0) (by omega) (by decide) (D := mbArr (l.getD 0 zMb)) (mb_elD l 0 h0)) h row26 rfl (mbArr_size _) rfl ?_; intro f h
    refine s_alloc (mbArr zMb) h s zero26 rfl rfl ?_; intro f w1 b5 h s
    refine s_store_row 0 h s row26 rfl rfl rfl (mbArr_size _) (mbArr_size _) (mbArr_ones _) ?_; intro w1 s
    refine s_nil ?_
    refine hK4 _ _ ?_
    refine c_seq fun K5 hK5 => ?_
    refine c_seq fun K6 hK6 => ?_
    refine c_region ?_
    refine s_pure h (ru_assign (h.ev rfl)) rfl ?_; intro f h
    refine s_nil ?_
    refine hK6 _ _ ?_
    refine wpIn_block ?_
    refine wpIn_loop_ghost (fun nn aa ww => ∃ k : Nat, Sl 33 aa [(0, vh), (4, .pointer (some ⟨b4, 0, none⟩)), (5, .pointer (some ⟨b5, 0, none⟩)), (1, .func (.func 46) #[] #[.pointer (some ⟨bx, 0, none⟩)]), (6, .int .i64 ((k : Int) + 1))] ∧ St w [.blk b5 (.cells (mbArr (nearK (wayF x9) l k)) 26), .blk b4 (.cells (mbArr zMb) 26)] ww ∧ nn = l.length - k ∧ k + 1 ≤ l.length) (l.length - (0)) ⟨0, h.only ⟨rfl, rfl, rfl, rfl, rfl, trivial⟩, s.as ⟨rfl, rfl, trivial⟩, rfl, by omega⟩ ?_
    rintro _ f w1 ⟨k, h, s, hnn, hp0⟩
    refine c_seq fun K7 hK7 => ?_
    refine c_seq fun K8 hK8 => ?_
    refine c_region ?_
    refine s_pure h (ru_move (h.ev rfl)) rfl ?_; intro f h
    refine s_pure h (ru_move (h.ev rfl)) rfl ?_; intro f h
    refine s_pure h (ru_lenZ (hR.keep s.ext) Try.underlying22 (h.ev rfl)) rfl ?_; intro f h
    refine s_pure h (ru_lss (h.ev rfl) (h.ev rfl)) rfl ?_; intro f h
    refine s_nil ?_
    refine hK8 _ _ ?_
    refine c_cond h rfl (fun hc => ?_) (fun hc => ?_)
    · replace hc := of_decide_eq_true hc
      refine wpIn_skip ?_
      refine hK7 _ _ ?_
      refine c_seq fun K9 hK9 => ?_
      refine wpIn_block ?_
      refine c_seq fun K10 hK10 => ?_
      refine c_walkN 8 [[], [], [], [1, 2], [1, 2, 3], [], [0, 1, 2, 3, 4, 5], [0, 1, 2, 3, 4, 5, 6]] h (by kernel_rfl) (by kernel_rfl) (by kernel_rfl) ?_
      refine w_pure h (ru_move (h.ev rfl)) rfl ?_; intro f h
      refine w_pure h (ru_move (h.ev rfl)) rfl ?_; intro f h
      have hkl : k + 1 < l.length := by omega
      refine w_pure h (ru_move (h.ev rfl)) rfl ?_; intro f h
      refine w_pure h (ru_ixz (hR.keep s.ext) (k + 1) Try.underlying22 szo26 (h.ev rfl) (h.ev rfl) (by omega) (by omega)) rfl ?_; intro f h
      refine w_load_at ((hR.keep s.ext).el (k + 1) (by omega) (by decide) (D := mbArr (l.getD (k + 1) zMb)) (mb_elD l (k + 1) hkl)) h row26 rfl (mbArr_size _) rfl ?_; intro f h
      refine w_load_row 0 h s row26 rfl rfl (mbArr_size _) rfl ?_; intro f h
      refine w_callV [.agg (mbArr (l.getD (k + 1) zMb)), .agg (mbArr (nearK (wayF x9) l k))] (caps := [.pointer (some ⟨bx, 0, none⟩)]) h fnc46 rfl (fun w9 h9 => byway1_any _ _ x9 bx w9 (hb.keep (s.ext.trans h9))) rfl rfl ?_; intro f h
      refine w_pure h (ru_val (.bool (decide (fd x9 (l.getD (k + 1) zMb).2 < fd x9 (nearK (wayF x9) l k).2))) (ru_lss (h.ev rfl) (h.ev rfl)) (congrArg Value.bool (cmp_neg _ _ _))) rfl ?_; intro f h
      refine w_nil s fun w1 s => ?_
      refine s_nil ?_
      refine hK10 _ _ ?_
      refine c_cond h rfl (fun hc => ?_) (fun hc => ?_)
      · replace hc := of_decide_eq_true hc
        refine c_region ?_
        refine s_pure h (ru_move (h.ev rfl)) rfl ?_; intro f h
        refine s_pure h (ru_move (h.ev rfl)) rfl ?_; intro f h
        refine s_pure h (ru_ixz (hR.keep s.ext) (k + 1) Try.underlying22 szo26 (h.ev rfl) (h.ev rfl) (by omega) (by omega)) rfl ?_; intro f h
        refine s_load_at ((hR.keep s.ext).el (k + 1) (by omega) (by decide) (D := mbArr (l.getD (k + 1) zMb)) (mb_elD l (k + 1) hkl)) h row26 rfl (mbArr_size _) rfl ?_; intro f h
        refine s_store_row 0 h s row26 rfl rfl rfl (mbArr_size _) (mbArr_size _) (mbArr_ones _) ?_; intro w1 s
        refine s_nil ?_
        refine b_norm ?_
        refine hK9 _ _ ?_
        refine c_region ?_
        refine s_pure h (ru_move (h.ev rfl)) rfl ?_; intro f h
        refine s_pure h (ru_add (h.ev rfl) (h.ev rfl) (by omega)) rfl ?_; intro f h
        refine s_pure h (ru_assign (h.ev rfl)) rfl ?_; intro f h
        refine s_nil ?_
        refine t_norm ?_
        exact ⟨_, by omega, ⟨k + 1, h.only ⟨rfl, rfl, rfl, rfl, slot_int rfl (by omega), trivial⟩, St.as s ⟨cells_eq (congrArg mbArr (near_yes (f := wayF x9) hc).symm), rfl, trivial⟩, rfl, by omega⟩⟩
      · replace hc := of_decide_eq_false hc
        refine wpIn_skip ?_
        refine b_norm ?_
        refine hK9 _ _ ?_
        refine c_region ?_
        refine s_pure h (ru_move (h.ev rfl)) rfl ?_; intro f h
        refine s_pure h (ru_add (h.ev rfl) (h.ev rfl) (by omega)) rfl ?_; intro f h
        refine s_pure h (ru_assign (h.ev rfl)) rfl ?_; intro f h
        refine s_nil ?_
        refine t_norm ?_
        exact ⟨_, by omega, ⟨k + 1, h.only ⟨rfl, rfl, rfl, rfl, slot_int rfl (by omega), trivial⟩, St.as s ⟨cells_eq (congrArg mbArr (near_no (f := wayF x9) hc).symm), rfl, trivial⟩, rfl, by omega⟩⟩
    · replace hc := of_decide_eq_false hc
      refine wpIn_exit ?_
      refine t_exit ?_
      refine t_exit ?_
      refine b_exit ?_
      refine hK5 _ _ ?_
      refine c_seq fun K11 hK11 => ?_
      refine c_region ?_
      refine s_load_row 0 h s row26 rfl rfl (mbArr_size _) rfl ?_; intro f h
      refine s_store_row 1 h s row26 rfl rfl rfl (mbArr_size _) (mbArr_size _) (mbArr_ones _) ?_; intro w1 s
      refine s_nil ?_
      refine hK11 _ _ ?_
      refine wpIn_ret ?_
      exact e_row 1 rfl h s row26 rfl rfl (mbArr_size _) ((by obtain rfl : k = l.length - 1 := (by omega); exact rfl))

theorem owner_any (l : List Mb) (vh : Value) (x9 : Id) (w : World) (hR : RdZ w vh 33 l.length (mbCells l)) (hln : l.length ≤ 1000) : Calls Try.prog 25 [vh, idV x9].toArray w (Ret w (is (.tuple #[.agg (mbArr (ownM l x9)), .int .i64 (ownE l)]))) := by
  refine c_enter Try.func25 rfl Try.ntmps25 rfl [(0, vh), (1, idV x9)] (by simp) fun f h => ?_
  have s := St.start w
  refine c_seq fun K1 hK1 => ?_
  refine c_region ?_
  refine s_box (idArr x9) h s rfl rfl rfl ?_; intro f w1 b3 h s
  refine s_alloc (mbArr zMb) h s zero26 rfl rfl ?_; intro f w1 b4 h s
  refine s_pure h (ru_assign (h.ev rfl)) rfl ?_; intro f h
  refine s_nil ?_
  refine hK1 _ _ ?_
  refine c_seq fun K2 hK2 => ?_
  refine c_seq fun K3 hK3 => ?_
  cases hr : (rightR l : Bool)
  · skip
    refine c_region ?_
    refine s_pure h (ru_move (h.ev rfl)) rfl ?_; intro f h
    refine s_call h s fnc23 (ret_val (.bool false) (right_any l vh _ (hR.keep s.ext) hln) (congrArg Value.bool hr)) rfl rfl ?_; intro f w1 v9 hT hE h s; obtain rfl := hT
    refine s_pure h (ru_val (.bool true) (ru_not (h.ev rfl)) rfl) rfl ?_; intro f h
    refine s_nil ?_
    refine hK3 _ _ ?_
    refine wpIn_cond_true (h.ev rfl) ?_
    refine c_seq fun K4 hK4 => ?_
    refine c_region ?_
    refine s_pure h (ru_build_mb0 sttM) rfl ?_; intro f h
    refine s_store_row 0 h s row26 rfl rfl rfl (mbArr_size _) (mbArr_size _) (mbArr_ones _) ?_; intro w1 s
    refine s_pure h (ru_assign (h.ev rfl)) rfl ?_; intro f h
    refine s_nil ?_
    refine hK4 _ _ ?_
    refine wpIn_ret ?_
    refine t_ret ?_
    exact e_row_tmp 0 rfl h s row26 rfl rfl (mbArr_size _) rfl (by show _ = _; rw [(own_bad x9 hr).1, (own_bad x9 hr).2] <;> rfl)
  · skip
    refine c_region ?_
    refine s_pure h (ru_move (h.ev rfl)) rfl ?_; intro f h
    refine s_call h s fnc23 (ret_val (.bool true) (right_any l vh _ (hR.keep s.ext) hln) (congrArg Value.bool hr)) rfl rfl ?_; intro f w1 v9 hT hE h s; obtain rfl := hT
    refine s_pure h (ru_val (.bool false) (ru_not (h.ev rfl)) rfl) rfl ?_; intro f h
    refine s_nil ?_
    refine hK3 _ _ ?_
    refine wpIn_cond_false (h.ev rfl) ?_
    refine wpIn_skip ?_
    refine hK2 _ _ ?_
    refine c_seq fun K5 hK5 => ?_
    refine c_seq fun K6 hK6 => ?_
    refine c_region ?_
    refine s_pure h (ru_move (h.ev rfl)) rfl ?_; intro f h
    refine s_pure h (ru_lenZ (hR.keep s.ext) Try.underlying22 (h.ev rfl)) rfl ?_; intro f h
    refine s_pure h (ru_eql (h.ev rfl) (h.ev rfl)) rfl ?_; intro f h
    refine s_nil ?_
    refine hK6 _ _ ?_
    refine c_cond h rfl (fun hc => ?_) (fun hc => ?_)
    · replace hc := of_decide_eq_true hc
      have h0 : l.length = 0 := by omega
      refine c_seq fun K7 hK7 => ?_
      refine c_region ?_
      refine s_pure h (ru_build_mb0 sttM) rfl ?_; intro f h
      refine s_store_row 0 h s row26 rfl rfl rfl (mbArr_size _) (mbArr_size _) (mbArr_ones _) ?_; intro w1 s
      refine s_pure h (ru_assign (h.ev rfl)) rfl ?_; intro f h
      refine s_nil ?_
      refine hK7 _ _ ?_
      refine wpIn_ret ?_
      refine t_ret ?_
      exact e_row_tmp 0 rfl h s row26 rfl rfl (mbArr_size _) rfl (by show _ = _; rw [(own_none x9 hr h0).1, (own_none x9 hr h0).2] <;> rfl)
    · replace hc := of_decide_eq_false hc
      have h0 : ¬ l.length = 0 := by omega
      refine wpIn_skip ?_
      refine hK5 _ _ ?_
      refine c_seq fun K8 hK8 => ?_
      refine c_region ?_
      refine s_pure h (ru_move (h.ev rfl)) rfl ?_; intro f h
      refine s_load_row 1 h s row24 rfl rfl (by first | exact idArr_size _ | exact bytesF_size _ _) rfl ?_; intro f h
      refine s_call h s fnc39 (byway_any x9 _) rfl rfl ?_; rintro f w1 v16 ⟨bx, rfl, hbx⟩ hE h s
      refine s_call h s fnc38 (minf_any l vh x9 bx _ (hR.keep s.ext) hln hbx (by omega)) rfl rfl ?_; intro f w1 v9 hT hE h s; obtain rfl := hT
      refine s_store_row 0 h s row26 rfl rfl rfl (mbArr_size _) (mbArr_size _) (mbArr_ones _) ?_; intro w1 s
      refine s_pure h (ru_assign (h.ev rfl)) rfl ?_; intro f h
      refine s_nil ?_
      refine hK8 _ _ ?_
      refine wpIn_ret ?_
      exact e_row_tmp 0 rfl h s row26 rfl rfl (mbArr_size _) rfl (by show _ = _; rw [(own_ok x9 hr h0).1, (own_ok x9 hr h0).2] <;> rfl)
end Go.Proofs.Ytbjgpimabgcipaa
