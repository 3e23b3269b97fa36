/- Whether some row of links leads back: the set of package proof, and Acyclic. -/
import Derived.Test.YtdehanjhphfanaaCon
set_option linter.unusedVariables false
set_option linter.unusedSimpArgs false
set_option linter.unusedSectionVars false
namespace Go.Proofs.Ytdehanjhphfanaa
open Go.RowKit
theorem keyOf_any (a : Id) (w : World) : Calls Try.prog 33 [idV a].toArray w (Ret w (is (.agg (kArr (keyOf a))))) := by
  refine c_enter Try.func33 rfl Try.ntmps33 rfl [(0, idV a)] (by simp) fun f h => ?_
  have s := St.start w
  refine c_seq fun K1 hK1 => ?_
  refine c_region ?_
  refine s_box (idArr a) h s rfl rfl rfl ?_; intro f w1 b1 h s
  refine s_alloc (bytesF (fun _ => 0) 16) h s zero86 rfl rfl ?_; intro f w1 b2 h s
  refine s_nil ?_
  refine hK1 _ _ ?_
  refine c_seq fun K2 hK2 => ?_
  refine c_region ?_
  refine s_pure h (ru_slice_arr_hi 16 Try.underlying42 size5 (h.ev rfl) (h.ev rfl) rfl (by decide)) rfl ?_; intro f h
  refine s_pure h (ru_toarr Try.underlying86 (h.ev rfl) (by decide)) rfl ?_; intro f h
  refine s_load_at (Has.subL (Has.of_own s 1 rfl) 0 16 (D := kArr (keyOf a)) (idArr_key a)) h row86 rfl (by first | exact kArr_size _ | exact bytesF_size _ _) rfl ?_; intro f h
  refine s_store_row 0 h s row86 rfl rfl rfl (by first | exact kArr_size _ | exact bytesF_size _ _) (by first | exact kArr_size _ | exact bytesF_size _ _) (by first | exact kArr_ones _ | exact bytesF_ones _ _) ?_; intro w1 s
  refine s_nil ?_
  refine hK2 _ _ ?_
  refine wpIn_ret ?_
  exact e_row 0 rfl h s row86 rfl rfl (by first | exact kArr_size _ | exact bytesF_size _ _) (rfl)

theorem index_any (l : List Stp) (vh : Value) (x : Stp) (w : World) (hv : RdZ w vh 32 l.length (sCells l)) (hln : l.length ≤ 1000000) : Calls Try.prog 77 [vh, .agg (sArr x)].toArray w (Ret w (fun v _ => ∃ r : Int, v = .int .i64 r ∧ (0 ≤ r ↔ x ∈ l))) := by
  refine c_enter Try.func77 rfl Try.ntmps77 rfl [(0, vh), (1, .agg (sArr x))] (by simp) fun f h => ?_
  have s := St.start w
  refine c_seq fun K1 hK1 => ?_
  refine c_region ?_
  refine s_box ((sArr x)) h s rfl rfl rfl ?_; intro f w1 b3 h s
  refine s_pure h (ru_assign (h.ev rfl)) rfl ?_; intro f h
  refine s_nil ?_
  refine hK1 _ _ ?_
  refine c_seq fun K2 hK2 => ?_
  refine c_seq fun K3 hK3 => ?_
  refine c_region ?_
  refine s_pure h (ru_move (h.ev rfl)) rfl ?_; intro f h
  refine s_pure h (ru_lenZ (hv.keep s.ext) Try.underlying81 (h.ev rfl)) rfl ?_; intro f h
  refine s_pure h (ru_move (h.ev rfl)) rfl ?_; intro f h
  refine s_nil ?_
  refine hK3 _ _ ?_
  refine wpIn_block ?_
  refine wpIn_loop_ghost (fun nn aa ww => ∃ k : Nat, Sl 19 aa [(0, vh), (1, .agg (sArr x)), (3, .pointer (some ⟨b3, 0, none⟩)), (6, vh), (7, .int .i64 (l.length : Int)), (8, .int .i64 (k : Int))] ∧ St w [.blk b3 (.cells ((sArr x)) 88)] ww ∧ nn = l.length - k ∧ k ≤ l.length ∧ ∀ i (hi : i < l.length), i < k → l[i] ≠ x) (l.length - (0)) ⟨0, h.only ⟨rfl, rfl, rfl, rfl, rfl, slot_int rfl (by omega), trivial⟩, s.as ⟨rfl, trivial⟩, rfl, Nat.zero_le _, fun i hi h9 => absurd h9 (Nat.not_lt_zero _)⟩ ?_
  rintro _ f w1 ⟨k, h, s, hnn, hp0, hp1⟩
  refine c_seq fun K4 hK4 => ?_
  refine c_region ?_
  refine s_pure h (ru_lss (h.ev rfl) (h.ev rfl)) rfl ?_; intro f h
  refine s_nil ?_
  refine hK4 _ _ ?_
  refine c_seq fun K5 hK5 => ?_
  refine c_cond h rfl (fun hc => ?_) (fun hc => ?_)
  · replace hc := of_decide_eq_true hc
    refine wpIn_skip ?_
    refine hK5 _ _ ?_
    refine c_seq fun K6 hK6 => ?_
    refine wpIn_block ?_
    refine c_seq fun K7 hK7 => ?_
    refine c_region ?_
    refine s_pure h (ru_move (h.ev rfl)) rfl ?_; intro f h
    refine s_pure h (ru_assign (h.ev rfl)) rfl ?_; intro f h
    refine s_nil ?_
    refine hK7 _ _ ?_
    refine c_seq fun K8 hK8 => ?_
    refine c_walkN 6 [[], [], [], [1, 2], [1, 2, 3], [0, 1, 2, 3, 4]] h (by kernel_rfl) (by kernel_rfl) (by kernel_rfl) ?_
    have hkl : k < l.length := by omega
    refine w_load_row 0 h s row88 rfl rfl (by first | exact sArr_size _ | exact bytesF_size _ _) rfl ?_; intro f h
    refine w_pure h (ru_move (h.ev rfl)) rfl ?_; intro f h
    refine w_pure h (ru_move (h.ev rfl)) rfl ?_; intro f h
    refine w_pure h (ru_ixz (hv.keep s.ext) (k) Try.underlying81 szo88 (h.ev rfl) (h.ev rfl) (by omega) (by omega)) rfl ?_; intro f h
    refine w_load_at ((hv.keep s.ext).el (k) (by omega) (by decide) (D := sArr l[k]) (s_el l k hkl)) h row88 rfl (by first | exact sArr_size _ | exact bytesF_size _ _) rfl ?_; intro f h
    refine w_pure h (ru_eqlW (eqS _ _) (by kernel_rfl) (by decide) (h.ev rfl) (h.ev rfl) (decide (x = l[k])) (sEq _ _)) rfl ?_; intro f h
    refine w_nil s fun w1 s => ?_
    refine s_nil ?_
    refine hK8 _ _ ?_
    refine c_cond h rfl (fun hc => ?_) (fun hc => ?_)
    · replace hc := of_decide_eq_true hc
      refine c_seq fun K9 hK9 => ?_
      refine c_region ?_
      refine s_pure h (ru_move (h.ev rfl)) rfl ?_; intro f h
      refine s_pure h (ru_assign (h.ev rfl)) rfl ?_; intro f h
      refine s_nil ?_
      refine hK9 _ _ ?_
      refine wpIn_ret ?_
      refine b_ret ?_
      refine t_ret ?_
      refine t_ret ?_
      refine b_ret ?_
      refine t_ret ?_
      exact e_tmp rfl h s rfl (⟨_, rfl, ⟨fun _ => (by rw [hc]; exact List.getElem_mem hkl), fun _ => by omega⟩⟩)
    · replace hc := of_decide_eq_false hc
      refine wpIn_skip ?_
      refine b_norm ?_
      refine hK6 _ _ ?_
      refine c_region ?_
      refine s_pure h (ru_add (h.ev rfl) (h.ev rfl) (by omega)) rfl ?_; intro f h
      refine s_pure h (ru_move (h.ev rfl)) rfl ?_; intro f h
      refine s_nil ?_
      refine t_norm ?_
      exact ⟨_, by omega, ⟨k + 1, h.only ⟨rfl, rfl, rfl, rfl, rfl, slot_int rfl (by omega), trivial⟩, St.as s ⟨rfl, trivial⟩, rfl, by omega, all_next (fun y => y ≠ x) hp1 hkl (fun e => hc e.symm)⟩⟩
  · replace hc := of_decide_eq_false hc
    refine wpIn_exit ?_
    refine t_exit ?_
    refine t_exit ?_
    refine b_exit ?_
    refine hK2 _ _ ?_
    refine c_seq fun K10 hK10 => ?_
    refine c_region ?_
    refine s_pure h (ru_assign (h.ev rfl)) rfl ?_; intro f h
    refine s_nil ?_
    refine hK10 _ _ ?_
    refine wpIn_ret ?_
    exact e_tmp rfl h s rfl (⟨_, rfl, ⟨fun h9 => absurd h9 (by decide), fun hm => (by obtain ⟨i, hi, e⟩ := List.getElem_of_mem hm; exact absurd e (hp1 i hi (by omega)))⟩⟩)

theorem contains_any (l : List Stp) (vh : Value) (x : Stp) (w : World) (hv : RdZ w vh 32 l.length (sCells l)) (hln : l.length ≤ 1000000) : Calls Try.prog 59 [vh, .agg (sArr x)].toArray w (Ret w (is (.bool (decide (x ∈ l))))) := by
  refine c_enter Try.func59 rfl Try.ntmps59 rfl [(0, vh), (1, .agg (sArr x))] (by simp) fun f h => ?_
  have s := St.start w
  refine c_seq fun K1 hK1 => ?_
  refine c_region ?_
  refine s_box ((sArr x)) h s rfl rfl rfl ?_; intro f w1 b3 h s
  refine s_pure h (ru_assign (h.ev rfl)) rfl ?_; intro f h
  refine s_nil ?_
  refine hK1 _ _ ?_
  refine c_seq fun K2 hK2 => ?_
  refine c_region ?_
  refine s_pure h (ru_move (h.ev rfl)) rfl ?_; intro f h
  refine s_load_row 0 h s row88 rfl rfl (by first | exact sArr_size _ | exact bytesF_size _ _) rfl ?_; intro f h
  refine s_call h s fnc77 (index_any l vh x _ (hv.keep s.ext) hln) rfl rfl ?_; rintro f w1 v9 ⟨r9, rfl, hr⟩ hE h s
  refine s_pure h (ru_val (.bool (decide (x ∈ l))) (ru_geq (h.ev rfl) (h.ev rfl)) (congrArg Value.bool (decide_eq_decide.2 hr))) rfl ?_; intro f h
  refine s_pure h (ru_assign (h.ev rfl)) rfl ?_; intro f h
  refine s_nil ?_
  refine hK2 _ _ ?_
  refine wpIn_ret ?_
  exact e_tmp rfl h s rfl (rfl)

theorem indexf_any (l : List Stp) (vh : Value) (g9 : Nat) (caps : List Value) (p : Stp → Bool) (w : World) (hv : RdZ w vh 32 l.length (sCells l)) (hln : l.length ≤ 1000000) (hg : Fnc Try.prog g9) (hp : ∀ w9, Ext w w9 → ∀ x ∈ l, Calls Try.prog g9 (.agg (sArr x) :: caps).toArray w9 (Ret w9 (is (.bool (p x))))) : Calls Try.prog 61 [vh, .func (.func g9) #[] caps.toArray].toArray w (Ret w (fun v _ => ∃ r : Int, v = .int .i64 r ∧ ((r = -1 ∧ ∀ x ∈ l, p x = false) ∨ ∃ k : Nat, ∃ hk : k < l.length, r = (k : Int) ∧ p l[k] = true))) := by
  refine c_enter Try.func61 rfl Try.ntmps61 rfl [(0, vh), (1, .func (.func g9) #[] caps.toArray)] (by simp) fun f h => ?_
  have s := St.start w
  refine c_seq fun K1 hK1 => ?_
  refine c_region ?_
  refine s_pure h (ru_assign (h.ev rfl)) rfl ?_; intro f h
  refine s_nil ?_
  refine hK1 _ _ ?_
  refine c_seq fun K2 hK2 => ?_
  refine c_seq fun K3 hK3 => ?_
  refine c_region ?_
  refine s_pure h (ru_move (h.ev rfl)) rfl ?_; intro f h
  refine s_pure h (ru_lenZ (hv.keep s.ext) Try.underlying81 (h.ev rfl)) rfl ?_; intro f h
  refine s_pure h (ru_move (h.ev rfl)) rfl ?_; intro f h
  refine s_nil ?_
  refine hK3 _ _ ?_
  refine wpIn_block ?_
  refine wpIn_loop_ghost (fun nn aa ww => ∃ k : Nat, Sl 19 aa [(0, vh), (1, .func (.func g9) #[] caps.toArray), (6, vh), (7, .int .i64 (l.length : Int)), (8, .int .i64 (k : Int))] ∧ St w [] ww ∧ nn = l.length - k ∧ k ≤ l.length ∧ ∀ i (hi : i < l.length), i < k → p l[i] = false) (l.length - (0)) ⟨0, h.only ⟨rfl, rfl, rfl, rfl, slot_int rfl (by omega), trivial⟩, s.as trivial, rfl, Nat.zero_le _, fun i hi h9 => absurd h9 (Nat.not_lt_zero _)⟩ ?_
  rintro _ f w1 ⟨k, h, s, hnn, hp0, hp1⟩
  refine c_seq fun K4 hK4 => ?_
  refine c_region ?_
  refine s_pure h (ru_lss (h.ev rfl) (h.ev rfl)) rfl ?_; intro f h
  refine s_nil ?_
  refine hK4 _ _ ?_
  refine c_seq fun K5 hK5 => ?_
  refine c_cond h rfl (fun hc => ?_) (fun hc => ?_)
  · replace hc := of_decide_eq_true hc
    refine wpIn_skip ?_
    refine hK5 _ _ ?_
    refine c_seq fun K6 hK6 => ?_
    refine wpIn_block ?_
    refine c_seq fun K7 hK7 => ?_
    refine c_region ?_
    refine s_pure h (ru_move (h.ev rfl)) rfl ?_; intro f h
    refine s_pure h (ru_assign (h.ev rfl)) rfl ?_; intro f h
    refine s_nil ?_
    refine hK7 _ _ ?_
    refine c_seq fun K8 hK8 => ?_
    refine c_region ?_
    have hkl : k < l.length := by omega
    refine s_pure h (ru_move (h.ev rfl)) rfl ?_; intro f h
    refine s_pure h (ru_move (h.ev rfl)) rfl ?_; intro f h
    refine s_pure h (ru_move (h.ev rfl)) rfl ?_; intro f h
    refine s_pure h (ru_ixz (hv.keep s.ext) (k) Try.underlying81 szo88 (h.ev rfl) (h.ev rfl) (by omega) (by omega)) rfl ?_; intro f h
    refine s_load_at ((hv.keep s.ext).el (k) (by omega) (by decide) (D := sArr l[k]) (s_el l k hkl)) h row88 rfl (by first | exact sArr_size _ | exact bytesF_size _ _) rfl ?_; intro f h
    refine s_callV [.agg (sArr l[k])] (caps := caps) h s hg rfl (hp _ s.ext _ (List.getElem_mem hkl)) rfl rfl ?_; intro f w1 v9 hT hE h s; obtain rfl := hT
    refine s_nil ?_
    refine hK8 _ _ ?_
    refine c_cond h rfl (fun hc => ?_) (fun hc => ?_)
    · refine c_seq fun K9 hK9 => ?_
      refine c_region ?_
      refine s_pure h (ru_move (h.ev rfl)) rfl ?_; intro f h
      refine s_pure h (ru_assign (h.ev rfl)) rfl ?_; intro f h
      refine s_nil ?_
      refine hK9 _ _ ?_
      refine wpIn_ret ?_
      refine b_ret ?_
      refine t_ret ?_
      refine t_ret ?_
      refine b_ret ?_
      refine t_ret ?_
      exact e_tmp rfl h s rfl (⟨_, rfl, .inr ⟨k, hkl, rfl, hc⟩⟩)
    · refine wpIn_skip ?_
      refine b_norm ?_
      refine hK6 _ _ ?_
      refine c_region ?_
      refine s_pure h (ru_add (h.ev rfl) (h.ev rfl) (by omega)) rfl ?_; intro f h
      refine s_pure h (ru_move (h.ev rfl)) rfl ?_; intro f h
      refine s_nil ?_
      refine t_norm ?_
      exact ⟨_, by omega, ⟨k + 1, h.only ⟨rfl, rfl, rfl, rfl, slot_int rfl (by omega), trivial⟩, St.as s trivial, rfl, by omega, all_next (fun y => p y = false) hp1 hkl hc⟩⟩
  · replace hc := of_decide_eq_false hc
    refine wpIn_exit ?_
    refine t_exit ?_
    refine t_exit ?_
    refine b_exit ?_
    refine hK2 _ _ ?_
    refine c_seq fun K10 hK10 => ?_
    refine c_region ?_
    refine s_pure h (ru_assign (h.ev rfl)) rfl ?_; intro f h
    refine s_nil ?_
    refine hK10 _ _ ?_
    refine wpIn_ret ?_
    exact e_tmp rfl h s rfl (⟨_, rfl, .inl ⟨rfl, fun x hx => (by obtain ⟨i, hi, e⟩ := List.getElem_of_mem hx; rw [← e]; exact hp1 i hi (by omega))⟩⟩)

theorem containsf_any (l : List Stp) (vh : Value) (g9 : Nat) (caps : List Value) (p : Stp → Bool) (w : World) (hv : RdZ w vh 32 l.length (sCells l)) (hln : l.length ≤ 1000000) (hg : Fnc Try.prog g9) (hp : ∀ w9, Ext w w9 → ∀ x ∈ l, Calls Try.prog g9 (.agg (sArr x) :: caps).toArray w9 (Ret w9 (is (.bool (p x))))) : Calls Try.prog 60 [vh, .func (.func g9) #[] caps.toArray].toArray w (Ret w (is (.bool (l.any p)))) := by
  refine c_enter Try.func60 rfl Try.ntmps60 rfl [(0, vh), (1, .func (.func g9) #[] caps.toArray)] (by simp) fun f h => ?_
  have s := St.start w
  refine c_seq fun K1 hK1 => ?_
  refine c_region ?_
  refine s_pure h (ru_assign (h.ev rfl)) rfl ?_; intro f h
  refine s_nil ?_
  refine hK1 _ _ ?_
  refine c_seq fun K2 hK2 => ?_
  refine c_region ?_
  refine s_pure h (ru_move (h.ev rfl)) rfl ?_; intro f h
  refine s_pure h (ru_move (h.ev rfl)) rfl ?_; intro f h
  refine s_call h s fnc61 (indexf_any l vh g9 caps p _ (hv.keep s.ext) hln hg (fun w9 h9 => hp w9 (s.ext.trans h9))) rfl rfl ?_; rintro f w1 v9 ⟨r9, rfl, hr⟩ hE h s
  refine s_pure h (ru_val (.bool (l.any p)) (ru_geq (h.ev rfl) (h.ev rfl)) (congrArg Value.bool (any_of hr))) rfl ?_; intro f h
  refine s_pure h (ru_assign (h.ev rfl)) rfl ?_; intro f h
  refine s_nil ?_
  refine hK2 _ _ ?_
  refine wpIn_ret ?_
  exact e_tmp rfl h s rfl (rfl)

theorem some_any (l : List Stp) (vh : Value) (bs : Nat) (g9 : Nat) (caps : List Value) (p : Stp → Bool) (w : World) (hb : Tab w bs #[vh]) (hv : RdZ w vh 32 l.length (sCells l)) (hln : l.length ≤ 1000000) (hg : Fnc Try.prog g9) (hp : ∀ w9, Ext w w9 → ∀ x ∈ l, Calls Try.prog g9 (.agg (sArr x) :: caps).toArray w9 (Ret w9 (is (.bool (p x))))) : Calls Try.prog 35 [.pointer (some ⟨bs, 0, none⟩), .func (.func g9) #[] caps.toArray].toArray w (Ret w (is (.bool (l.any p)))) := by
  refine c_enter Try.func35 rfl Try.ntmps35 rfl [(0, .pointer (some ⟨bs, 0, none⟩)), (1, .func (.func g9) #[] caps.toArray)] (by simp) fun f h => ?_
  have s := St.start w
  refine c_seq fun K1 hK1 => ?_
  refine c_region ?_
  refine s_pure h (ru_assign (h.ev rfl)) rfl ?_; intro f h
  refine s_nil ?_
  refine hK1 _ _ ?_
  refine c_seq fun K2 hK2 => ?_
  refine c_region ?_
  refine s_pure h (ru_move (h.ev rfl)) rfl ?_; intro f h
  refine s_pure h (ru_nilCheck (h.ev rfl)) rfl ?_; intro f h
  refine s_pure h (ru_field fld83_0 (h.ev rfl)) rfl ?_; intro f h
  refine s_load_at1 (V := vh) (cell_of_has (Has.of_tab (hb.keep s.ext)) 0 (rfl)) h one81 rfl rfl ?_; intro f h
  refine s_pure h (ru_move (h.ev rfl)) rfl ?_; intro f h
  refine s_call h s fnc60 (containsf_any l vh g9 caps p _ (hv.keep s.ext) hln hg (fun w9 h9 => hp w9 (s.ext.trans h9))) rfl rfl ?_; intro f w1 v9 hT hE h s; obtain rfl := hT
  refine s_pure h (ru_assign (h.ev rfl)) rfl ?_; intro f h
  refine s_nil ?_
  refine hK2 _ _ ?_
  refine wpIn_ret ?_
  exact e_tmp rfl h s rfl (rfl)

theorem cl2_any (y x : Stp) (bx : Nat) (w : World) (hb : Tab w bx (sArr x)) : Calls Try.prog 36 [.agg (sArr y), .pointer (some ⟨bx, 0, none⟩)].toArray w (Ret w (is (.bool (decide (y.1 = x.2))))) := by
  refine c_enter Try.func36 rfl Try.ntmps36 rfl [(0, .agg (sArr y)), (1, .pointer (some ⟨bx, 0, none⟩))] (by simp) fun f h => ?_
  have s := St.start w
  refine c_seq fun K1 hK1 => ?_
  refine c_region ?_
  refine s_box ((sArr y)) h s rfl rfl rfl ?_; intro f w1 b2 h s
  refine s_pure h (ru_assign (h.ev rfl)) rfl ?_; intro f h
  refine s_nil ?_
  refine hK1 _ _ ?_
  refine c_seq fun K2 hK2 => ?_
  refine c_region ?_
  refine s_pure h (ru_field fld88_0 (h.ev rfl)) rfl ?_; intro f h
  refine s_load_at (Has.subL (Has.of_own s 0 rfl) 0 16 (D := kArr _) (sArr_from _)) h row86 rfl (by first | exact kArr_size _ | exact bytesF_size _ _) rfl ?_; intro f h
  refine s_pure h (ru_field fld88_1 (h.ev rfl)) rfl ?_; intro f h
  refine s_load_at (Has.subL (Has.of_tab (hb.keep s.ext)) 16 16 (D := kArr _) (sArr_to _)) h row86 rfl (by first | exact kArr_size _ | exact bytesF_size _ _) rfl ?_; intro f h
  refine s_pure h (ru_eqlW (eqK _ _) (by kernel_rfl) (by decide) (h.ev rfl) (h.ev rfl) (decide (y.1 = x.2)) (kEq _ _)) rfl ?_; intro f h
  refine s_pure h (ru_assign (h.ev rfl)) rfl ?_; intro f h
  refine s_nil ?_
  refine hK2 _ _ ?_
  refine wpIn_ret ?_
  exact e_tmp rfl h s rfl (rfl)

theorem cl1_any (l : List Stp) (vh : Value) (x : Stp) (bs : Nat) (w : World) (hb : Tab w bs #[vh]) (hv : RdZ w vh 32 l.length (sCells l)) (hln : l.length ≤ 1000000) : Calls Try.prog 34 [.agg (sArr x), .pointer (some ⟨bs, 0, none⟩)].toArray w (Ret w (is (.bool (endsB l x)))) := by
  refine c_enter Try.func34 rfl Try.ntmps34 rfl [(0, .agg (sArr x)), (1, .pointer (some ⟨bs, 0, none⟩))] (by simp) fun f h => ?_
  have s := St.start w
  refine c_seq fun K1 hK1 => ?_
  refine c_region ?_
  refine s_box ((sArr x)) h s rfl rfl rfl ?_; intro f w1 b2 h s
  refine s_pure h (ru_assign (h.ev rfl)) rfl ?_; intro f h
  refine s_nil ?_
  refine hK1 _ _ ?_
  refine c_seq fun K2 hK2 => ?_
  refine c_region ?_
  refine s_pure h (ru_makeFunc [.pointer (some ⟨b2, 0, none⟩)] (evsA h rfl)) rfl ?_; intro f h
  refine s_call h s fnc35 (some_any l vh bs 36 [.pointer (some ⟨b2, 0, none⟩)] (fun y => decide (y.1 = x.2)) _ (hb.keep s.ext) (hv.keep s.ext) hln fnc36 (fun w9 h9 y hy => cl2_any y x b2 w9 ((Tab.of_own s 0 rfl).keep h9))) rfl rfl ?_; intro f w1 v9 hT hE h s; obtain rfl := hT
  refine s_pure h (ru_not (h.ev rfl)) rfl ?_; intro f h
  refine s_pure h (ru_assign (h.ev rfl)) rfl ?_; intro f h
  refine s_nil ?_
  refine hK2 _ _ ?_
  refine wpIn_ret ?_
  exact e_tmp rfl h s rfl (rfl)

theorem empty_any (l : List Stp) (vh : Value) (bs : Nat) (w : World) (hb : Tab w bs #[vh]) (hv : RdZ w vh 32 l.length (sCells l)) (hln : l.length ≤ 1000000) : Calls Try.prog 38 [.pointer (some ⟨bs, 0, none⟩)].toArray w (Ret w (is (.bool (decide (l = []))))) := by
  refine c_enter Try.func38 rfl Try.ntmps38 rfl [(0, .pointer (some ⟨bs, 0, none⟩))] (by simp) fun f h => ?_
  have s := St.start w
  refine c_seq fun K1 hK1 => ?_
  refine c_region ?_
  refine s_pure h (ru_assign (h.ev rfl)) rfl ?_; intro f h
  refine s_nil ?_
  refine hK1 _ _ ?_
  refine c_seq fun K2 hK2 => ?_
  refine c_region ?_
  refine s_pure h (ru_move (h.ev rfl)) rfl ?_; intro f h
  refine s_pure h (ru_nilCheck (h.ev rfl)) rfl ?_; intro f h
  refine s_pure h (ru_field fld83_0 (h.ev rfl)) rfl ?_; intro f h
  refine s_load_at1 (V := vh) (cell_of_has (Has.of_tab (hb.keep s.ext)) 0 (rfl)) h one81 rfl rfl ?_; intro f h
  refine s_pure h (ru_lenZ (hv.keep s.ext) Try.underlying81 (h.ev rfl)) rfl ?_; intro f h
  refine s_pure h (ru_val (.bool (decide (l = []))) (ru_eql (h.ev rfl) (h.ev rfl)) (congrArg Value.bool (by cases l with | nil => rfl | cons a r => exact (decide_eq_false (by simp; omega)).trans (decide_eq_false (by simp)).symm))) rfl ?_; intro f h
  refine s_pure h (ru_assign (h.ev rfl)) rfl ?_; intro f h
  refine s_nil ?_
  refine hK2 _ _ ?_
  refine wpIn_ret ?_
  exact e_tmp rfl h s rfl (rfl)

theorem delete_any (l : List Stp) (hln : l.length ≤ 1000000) (vh : Value) (k : Nat) (hk : k < l.length) (B9 : List Own) (w0 w : World) (s : St w0 (.sl vh 88 32 l.length (sCells l) :: B9) w) : Calls Try.prog 62 [vh, .int .i64 (k : Int), .int .i64 ((k + 1 : Nat) : Int)].toArray w (fun e w9 => ∃ v9, e = .returned v9 ∧ St w0 (.sl v9 88 32 (l.length - 1) (sCells (l.eraseIdx k)) :: B9) w9) := by
  obtain ⟨g9, cap, cur, fz, rfl, hfz, hnc, hcm, hcs, hct, s⟩ := s.open_sl (by omega)
  obtain ⟨hd1, hd2, hd3⟩ := del_cells cur.toList l k cap hct hk (by rw [Array.length_toList]; exact hcs) hnc _ rfl
  have hz32 : 1 * (Value.agg (bytesF (fun _ => 0) 32)).cells.size = 32 := by show 1 * (bytesF (fun _ => 0) 32).size = 32; rw [bytesF_size]
  refine c_enterF Try.func62 rfl Try.ntmps62 rfl [(0, .slice (some ⟨g9, 0, none⟩) l.length cap), (1, .int .i64 (k : Int)), (2, .int .i64 ((k + 1 : Nat) : Int))] (by simp) fun f h => ?_
  refine c_seq fun K1 hK1 => ?_
  refine c_region ?_
  refine s_pure h (ru_assign (h.ev rfl)) rfl ?_; intro f h
  refine s_nil ?_
  refine hK1 _ _ ?_
  refine c_seq fun K2 hK2 => ?_
  refine c_region ?_
  refine s_pure h (ru_move (h.ev rfl)) rfl ?_; intro f h
  refine s_pure h (ru_move (h.ev rfl)) rfl ?_; intro f h
  refine s_pure h (ru_move (h.ev rfl)) rfl ?_; intro f h
  refine s_pure h (ru_move (h.ev rfl)) rfl ?_; intro f h
  refine s_pure h (ru_len_lit Try.underlying81 (h.ev rfl)) rfl ?_; intro f h
  refine s_pure h (ru_slice3 (i := k) (j := k + 1) (m := l.length) Try.underlying81 szo88 (h.ev rfl) (h.ev rfl) (h.ev rfl) (h.ev rfl) (by omega) (by omega) (by omega)) rfl ?_; intro f h
  refine s_nil ?_
  refine hK2 _ _ ?_
  refine c_seq fun K3 hK3 => ?_
  refine c_seq fun K4 hK4 => ?_
  refine c_region ?_
  refine s_pure h (ru_move (h.ev rfl)) rfl ?_; intro f h
  refine s_pure h (ru_move (h.ev rfl)) rfl ?_; intro f h
  refine s_pure h (ru_val (.bool false) (ru_eql (h.ev rfl) (h.ev rfl)) (congrArg Value.bool (decide_eq_false (by omega)))) rfl ?_; intro f h
  refine s_nil ?_
  refine hK4 _ _ ?_
  refine wpIn_cond_false (h.ev rfl) ?_
  refine wpIn_skip ?_
  refine hK3 _ _ ?_
  refine c_seq fun K5 hK5 => ?_
  refine c_region ?_
  refine s_pure h (ru_move (h.ev rfl)) rfl ?_; intro f h
  refine s_pure h (ru_len_lit Try.underlying81 (h.ev rfl)) rfl ?_; intro f h
  refine s_pure h (ru_assign (h.ev rfl)) rfl ?_; intro f h
  refine s_nil ?_
  refine hK5 _ _ ?_
  refine c_seq fun K6 hK6 => ?_
  refine c_walkN 6 [[], [], [0, 1], [], [], [3, 4]] h (by kernel_rfl) (by kernel_rfl) (by kernel_rfl) ?_
  refine w_pure h (ru_move (h.ev rfl)) rfl ?_; intro f h
  refine w_pure h (ru_move (h.ev rfl)) rfl ?_; intro f h
  refine w_pure h (ru_slice_hi_lit (i := k) Try.underlying81 szo88 (h.ev rfl) (h.ev rfl) rfl (by omega)) rfl ?_; intro f h
  refine w_pure h (ru_move (h.ev rfl)) rfl ?_; intro f h
  refine w_pure h (ru_move (h.ev rfl)) rfl ?_; intro f h
  refine w_pure h (ru_slice_lo_lit (i := k + 1) Try.underlying81 szo88 (h.ev rfl) (h.ev rfl) rfl (by omega)) rfl ?_; intro f h
  refine w_nil s fun w1 s => ?_
  refine s_append_blk (fz := fz) (news := ((cur.toList.drop ((k + 1) * 32)).take ((l.length - (k + 1)) * 32))) 0 h s Try.underlying81 elm88 rfl rfl rfl hfz hd1 (has_lo (s.get 0 rfl) (by omega)) (by have := del_ones cur.toList l k _ hct (by omega); rwa [← Nat.sub_mul] at this) (by omega) (by rw [hd1]; omega) rfl ?_; intro f w1 h s
  refine s_pure h (ru_assign (h.ev rfl)) rfl ?_; intro f h
  refine s_nil ?_
  refine hK6 _ _ ?_
  refine c_seq fun K7 hK7 => ?_
  refine c_region ?_
  refine s_pure h (ru_move (h.ev rfl)) rfl ?_; intro f h
  refine s_pure h (ru_move (h.ev rfl)) rfl ?_; intro f h
  refine s_pure h (ru_len_lit Try.underlying81 (h.ev rfl)) rfl ?_; intro f h
  refine s_pure h (ru_move (h.ev rfl)) rfl ?_; intro f h
  refine s_pure h (ru_val (.slice (some ⟨g9, (l.length - 1) * 32, none⟩) 1 (cap - (l.length - 1))) (ru_slice2_lit (i := l.length - 1) (j := l.length) Try.underlying81 szo88 (h.ev rfl) (h.ev rfl) (h.ev rfl) (by omega) rfl (by omega) (by omega)) (by rw [show l.length - (l.length - 1) = 1 from by omega])) rfl ?_; intro f h
  refine s_clear_blk (fz := fz) (Z := .agg (bytesF (fun _ => 0) 32)) 0 h s Try.underlying81 zero88 rfl (by omega) rfl (by rw [List.size_toArray, hd2, ← hcs]; exact hfz) (by rw [hz32, List.size_toArray, hd2]; omega) (bytesF_ones _ _) ?_; intro w1 s
  refine s_nil ?_
  refine hK7 _ _ ?_
  refine c_seq fun K8 hK8 => ?_
  refine c_region ?_
  refine s_pure h (ru_move (h.ev rfl)) rfl ?_; intro f h
  refine s_pure h (ru_assign (h.ev rfl)) rfl ?_; intro f h
  refine s_nil ?_
  refine hK8 _ _ ?_
  refine wpIn_ret ?_
  exact e_tmpF rfl h rfl (⟨_, rfl, (by rw [show k + (l.length - (k + 1)) = l.length - 1 from by omega]; have hcf := clr_fin _ (Builtin.zeroCells (Value.agg (bytesF (fun _ => 0) 32)).cells 1).toList ((l.length - 1) * 32) (1 * (Value.agg (bytesF (fun _ => 0) 32)).cells.size) (by rw [hd2, hz32]; omega) (by rw [Array.length_toList, size_zeroCells]); exact s.close_sl (by rw [List.size_toArray]; exact hfz.imp id fun h9 => (by rw [hcs] at h9; exact Nat.le_trans (Nat.le_of_eq (hcf.1.trans hd2)) h9)) (by omega) hcm (by rw [List.size_toArray]; exact hcf.1.trans hd2) (hcf.2.trans hd3) (by rw [sCells_len, List.length_eraseIdx]; split <;> omega))⟩)

theorem add_any (l : List Stp) (hln : l.length ≤ 1000000) (vh : Value) (x : Stp) (bs : Nat) (B9 : List Own) (w0 w : World) (s : St w0 (.blk bs (.cells #[vh] 83) :: .sl vh 88 32 l.length (sCells l) :: B9) w) : Calls Try.prog 32 [.pointer (some ⟨bs, 0, none⟩), .agg (sArr x)].toArray w (fun e w9 => ∃ v, e = .returned v ∧ ∃ v9, St w0 (.blk bs (.cells #[v9] 83) :: .sl v9 88 32 (addS l x).length (sCells (addS l x)) :: B9) w9) := by
  refine c_enterF Try.func32 rfl Try.ntmps32 rfl [(0, .pointer (some ⟨bs, 0, none⟩)), (1, .agg (sArr x))] (by simp) fun f h => ?_
  refine c_seq fun K1 hK1 => ?_
  refine c_region ?_
  refine s_box ((sArr x)) h s rfl rfl rfl ?_; intro f w1 b3 h s
  refine s_nil ?_
  refine hK1 _ _ ?_
  refine c_seq fun K2 hK2 => ?_
  refine c_walkN 7 [[], [0], [0, 1], [0, 1, 2], [], [0, 1, 2, 3, 4], [0, 1, 2, 3, 4, 5]] h (by kernel_rfl) (by kernel_rfl) (by kernel_rfl) ?_
  refine w_pure h (ru_move (h.ev rfl)) rfl ?_; intro f h
  refine w_pure h (ru_nilCheck (h.ev rfl)) rfl ?_; intro f h
  refine w_pure h (ru_field fld83_0 (h.ev rfl)) rfl ?_; intro f h
  refine w_load_at1 (V := vh) (cell_of_has (Has.of_own s 1 rfl) 0 (rfl)) h one81 rfl rfl ?_; intro f h
  refine w_load_row 0 h s row88 rfl rfl (by first | exact sArr_size _ | exact bytesF_size _ _) rfl ?_; intro f h
  refine w_call h fnc59 (fun w9 hE9 => contains_any l vh x w9 ((RdZ.of_own (s.getSl 2 rfl)).keep hE9) hln) rfl rfl ?_; intro f h
  refine w_pure h (ru_not (h.ev rfl)) rfl ?_; intro f h
  refine w_nilE s fun w1 hE9 s => ?_
  refine s_nil ?_
  refine hK2 _ _ ?_
  refine c_cond h rfl (fun hc => ?_) (fun hc => ?_)
  · replace hc : x ∉ l := by simpa using hc
    have hbs := s.ext.le
    refine' c_reg2 7 [0, 1, 2, 3, 8, 9] [] [[], [], [1], [1, 2], [1, 2, 3], [], [5], [1, 2, 3, 4, 5, 6], [0, 1, 2, 3, 4, 5, 6, 7], [0, 1, 2, 3, 4, 5, 6, 7, 8], [0, 1, 2, 3, 4, 5, 6, 7, 8, 9]] (is _ :: is _ :: is _ :: is _ :: is _ :: is _ :: (fun v w9 => RdZ w9 v 32 1 ((sArr x).toList)) :: is undef :: is _ :: is _ :: is undef :: []) (fun _ => True) h s (by kernel_rfl) (by kernel_rfl) (by kernel_rfl) (by kernel_rfl) rfl (fun _ _ h _ => h) (trivial) ⟨⟨_, rfl⟩, ⟨_, rfl⟩, ⟨_, rfl⟩, ⟨_, rfl⟩, ⟨_, rfl⟩, ⟨_, rfl⟩, trivial⟩ ⟨is_mono _, is_mono _, is_mono _, is_mono _, is_mono _, is_mono _, RdZ.mono, is_mono _, is_mono _, is_mono _, is_mono _, trivial⟩ (And.intro ?_ (And.intro ?_ (And.intro ?_ (And.intro ?_ (And.intro ?_ (And.intro ?_ (And.intro ?_ (And.intro ?_ (And.intro ?_ (And.intro ?_ (And.intro ?_ (trivial)))))))))))) ?_
    rotate_left 8
    · refine obH_in 11 rfl (by decide) ?_
      intro f9 w2 hE hs hl
      have e0 : f9.tmps.getD 0 undef = _ := sx_old hl 0 (by kernel_rfl) (by kernel_rfl) (h.holds 0 _ rfl)
      have h := fin_slot [(0, _)] hs rfl (holds_lk ⟨e0, trivial⟩)
      refine s_pure h (ru_move (h.ev rfl)) rfl ?_; intro f h
      refine s_nil ?_
      have e9 := h.holds 11 _ rfl
      refine ⟨?_, rfl⟩
      refine e9.trans ?_
      exact rfl
    · refine obH_in 12 rfl (by decide) ?_
      intro f9 w2 hE hs hl
      have e0 : f9.tmps.getD 0 undef = _ := sx_old hl 0 (by kernel_rfl) (by kernel_rfl) (h.holds 0 _ rfl)
      have h := fin_slot [(0, _)] hs rfl (holds_lk ⟨e0, trivial⟩)
      refine s_pure h (ru_move (h.ev rfl)) rfl ?_; intro f h
      refine s_nil ?_
      have e9 := h.holds 12 _ rfl
      refine ⟨?_, rfl⟩
      refine e9.trans ?_
      exact rfl
    · refine obH_in 13 rfl (by decide) ?_
      intro f9 w2 hE hs hl
      have e12 : f9.tmps.getD 12 undef = _ := sx_get hl 12 1 (by kernel_rfl) (by kernel_rfl)
      have h := fin_slot [(12, _)] hs rfl (holds_lk ⟨e12, trivial⟩)
      refine s_pure h (ru_nilCheck (h.ev rfl)) rfl ?_; intro f h
      refine s_nil ?_
      have e9 := h.holds 13 _ rfl
      refine ⟨?_, rfl⟩
      refine e9.trans ?_
      exact rfl
    · refine obH_in 14 rfl (by decide) ?_
      intro f9 w2 hE hs hl
      have e13 : f9.tmps.getD 13 undef = _ := sx_get hl 13 2 (by kernel_rfl) (by kernel_rfl)
      have h := fin_slot [(13, _)] hs rfl (holds_lk ⟨e13, trivial⟩)
      refine s_pure h (ru_field fld83_0 (h.ev rfl)) rfl ?_; intro f h
      refine s_nil ?_
      have e9 := h.holds 14 _ rfl
      refine ⟨?_, rfl⟩
      refine e9.trans ?_
      exact rfl
    · refine obF_in 15 rfl (by decide) (by decide) ?_
      intro f9 w2 hE hs hd9 hl
      have e14 : f9.tmps.getD 14 undef = _ := sx_get hl 14 3 (by kernel_rfl) (by kernel_rfl)
      have h := fin_slot [(14, _)] hs hd9 (holds_lk ⟨e14, trivial⟩)
      have s := s.more hE
      have z := St.start w2
      refine s_load_at1 (V := vh) (cell_of_has (Has.of_own s 1 rfl) 0 (rfl)) h one81 rfl rfl ?_; intro f h
      refine s_nil ?_
      have e9 := h.holds 15 _ rfl
      refine ⟨?_, Ext.refl _, fun h9 => absurd h9 (by decide)⟩
      refine e9.trans ?_
      exact rfl
    · refine obF_in 16 rfl (by decide) (by decide) ?_
      intro f9 w2 hE hs hd9 hl
      have e3 : f9.tmps.getD 3 undef = _ := sx_old hl 3 (by kernel_rfl) (by kernel_rfl) (h.holds 3 _ rfl)
      have h := fin_slot [(3, _)] hs hd9 (holds_lk ⟨e3, trivial⟩)
      have s := s.more hE
      have z := St.start w2
      refine s_load_row 0 h s row88 rfl rfl (by first | exact sArr_size _ | exact bytesF_size _ _) rfl ?_; intro f h
      refine s_nil ?_
      have e9 := h.holds 16 _ rfl
      refine ⟨?_, Ext.refl _, fun h9 => absurd h9 (by decide)⟩
      refine e9.trans ?_
      exact rfl
    · refine obF_in 17 rfl (by decide) (by decide) ?_
      intro f9 w2 hE hs hd9 hl
      have e16 : f9.tmps.getD 16 undef = _ := sx_get hl 16 5 (by kernel_rfl) (by kernel_rfl)
      have h := fin_slot [(16, _)] hs hd9 (holds_lk ⟨e16, trivial⟩)
      have s := s.more hE
      have z := St.start w2
      refine s_bslice (vs := [.agg (sArr x)]) [.tmp 16] h z Try.underlying81 elm88 rfl rfl (by intro v hv; rw [List.mem_singleton] at hv; subst hv; exact sArr_size x) rfl rfl rfl ?_; intro f w1 v9 h z
      refine s_nil ?_
      exact kf_rd (h.holds 17 _ rfl) z _ (by simp [Value.cells])
    · exact obT_in (by decide) (by decide)
    · refine obH_in 19 rfl (by decide) ?_
      intro f9 w2 hE hs hl
      have e11 : f9.tmps.getD 11 undef = _ := sx_get hl 11 0 (by kernel_rfl) (by kernel_rfl)
      have h := fin_slot [(11, _)] hs rfl (holds_lk ⟨e11, trivial⟩)
      refine s_pure h (ru_nilCheck (h.ev rfl)) rfl ?_; intro f h
      refine s_nil ?_
      have e9 := h.holds 19 _ rfl
      refine ⟨?_, rfl⟩
      refine e9.trans ?_
      exact rfl
    · refine obH_in 20 rfl (by decide) ?_
      intro f9 w2 hE hs hl
      have e19 : f9.tmps.getD 19 undef = _ := sx_get hl 19 8 (by kernel_rfl) (by kernel_rfl)
      have h := fin_slot [(19, _)] hs rfl (holds_lk ⟨e19, trivial⟩)
      refine s_pure h (ru_field fld83_0 (h.ev rfl)) rfl ?_; intro f h
      refine s_nil ?_
      have e9 := h.holds 20 _ rfl
      refine ⟨?_, rfl⟩
      refine e9.trans ?_
      exact rfl
    · exact obT_in (by decide) (by decide)
    · intro f9 w2 hE hs hd9 hWp hT hR hFr hDj
      obtain ⟨u17, hu17⟩ : ∃ v, f9.tmps.getD 17 undef = v := ⟨_, rfl⟩
      have e17 : (fun v w9 => RdZ w9 v 32 1 ((sArr x).toList)) u17 w2 := by rw [← hu17]; exact hT 6 17 (by decide) rfl
      replace h := sl_new (ops := _) [(11, _), (12, _), (13, _), (14, _), (15, _), (16, _), (17, u17), (19, _), (20, _)] h hs hd9 hR ⟨hT 0 11 (by decide) rfl, hT 1 12 (by decide) rfl, hT 2 13 (by decide) rfl, hT 3 14 (by decide) rfl, hT 4 15 (by decide) rfl, hT 5 16 (by decide) rfl, hu17, hT 8 19 (by decide) rfl, hT 9 20 (by decide) rfl, trivial⟩ (by kernel_rfl)
      replace s := s.more hE
      clear hT hR hFr hDj
      refine LstW.of ?_
      refine s_append_rd 2 (e17) h s Try.underlying81 elm88 rfl rfl rfl (sArr_ones x) (by unfold maxLen; omega) (by omega) rfl ?_; intro f w1 v18 h s
      refine s_store_one 1 h s one81 rfl rfl rfl (by simp) (own_one (s.getSl 2 rfl)) ?_; intro w1 s
      refine s_nil ?_
      exact e_noneF_end rfl h (⟨_, rfl, v18, by rw [show addS l x = l ++ [x] from by unfold addS; rw [if_neg hc], show sCells (l ++ [x]) = sCells l ++ (sArr x).toList from by simp [sCells], show (l ++ [x]).length = l.length + 1 from by simp]; exact s.pick _ (List.sublist_cons_self _ _)⟩)
  · replace hc : x ∈ l := by simpa using hc
    refine wpIn_skip ?_
    exact e_noneF_end rfl h (⟨_, rfl, vh, by rw [show addS l x = l from by unfold addS; rw [if_pos hc]]; exact s.pick _ (List.sublist_cons_self _ _)⟩)

theorem takeoff_any (l : List Stp) (hln : l.length ≤ 1000000) (vh : Value) (bs : Nat) (B9 : List Own) (g9 : Nat) (caps : List Value) (p : Stp → Bool) (w0 w : World) (s : St w0 (.blk bs (.cells #[vh] 83) :: .sl vh 88 32 l.length (sCells l) :: B9) w) (hg : Fnc Try.prog g9) (hp : ∀ w9, Ext w w9 → ∀ x ∈ l, Calls Try.prog g9 (.agg (sArr x) :: caps).toArray w9 (Ret w9 (is (.bool (p x))))) : Calls Try.prog 37 [.pointer (some ⟨bs, 0, none⟩), .func (.func g9) #[] caps.toArray].toArray w (fun e w9 => ∃ v, e = .returned v ∧ ∃ b9, v = .bool b9 ∧ ((b9 = false ∧ (∀ x ∈ l, p x = false) ∧ St w0 (.blk bs (.cells #[vh] 83) :: .sl vh 88 32 (l).length (sCells (l)) :: B9) w9) ∨ (b9 = true ∧ ∃ k, ∃ hk : k < l.length, p l[k] = true ∧ ∃ v9, St w0 (.blk bs (.cells #[v9] 83) :: .sl v9 88 32 (l.eraseIdx k).length (sCells (l.eraseIdx k)) :: B9) w9))) := by
  refine c_enterF Try.func37 rfl Try.ntmps37 rfl [(0, .pointer (some ⟨bs, 0, none⟩)), (1, .func (.func g9) #[] caps.toArray)] (by simp) fun f h => ?_
  refine c_seq fun K1 hK1 => ?_
  refine c_region ?_
  refine s_pure h (ru_assign (h.ev rfl)) rfl ?_; intro f h
  refine s_nil ?_
  refine hK1 _ _ ?_
  refine c_seq fun K2 hK2 => ?_
  refine c_region ?_
  refine s_pure h (ru_move (h.ev rfl)) rfl ?_; intro f h
  refine s_pure h (ru_nilCheck (h.ev rfl)) rfl ?_; intro f h
  refine s_pure h (ru_field fld83_0 (h.ev rfl)) rfl ?_; intro f h
  refine s_load_at1 (V := vh) (cell_of_has (Has.of_own s 0 rfl) 0 (rfl)) h one81 rfl rfl ?_; intro f h
  refine s_pure h (ru_move (h.ev rfl)) rfl ?_; intro f h
  refine s_call h s fnc61 (indexf_any l vh g9 caps p _ (RdZ.of_own (s.getSl 1 rfl)) hln hg hp) rfl rfl ?_; rintro f w1 v9 ⟨r9, rfl, hr⟩ hE h s
  refine s_pure h (ru_assign (h.ev rfl)) rfl ?_; intro f h
  refine s_nil ?_
  refine hK2 _ _ ?_
  refine c_seq fun K3 hK3 => ?_
  refine c_seq fun K4 hK4 => ?_
  refine c_region ?_
  refine s_pure h (ru_move (h.ev rfl)) rfl ?_; intro f h
  refine s_pure h (ru_lss (h.ev rfl) (h.ev rfl)) rfl ?_; intro f h
  refine s_nil ?_
  refine hK4 _ _ ?_
  refine c_cond h rfl (fun hc => ?_) (fun hc => ?_)
  · replace hc := of_decide_eq_true hc
    refine c_seq fun K5 hK5 => ?_
    refine c_region ?_
    refine s_pure h (ru_assign (h.ev rfl)) rfl ?_; intro f h
    refine s_nil ?_
    refine hK5 _ _ ?_
    refine wpIn_ret ?_
    refine t_ret ?_
    exact e_tmpF rfl h rfl (⟨_, rfl, _, rfl, .inl ⟨rfl, (hr.resolve_right (fun ⟨k9, _, e9, _⟩ => by omega)).2, s⟩⟩)
  · replace hc := of_decide_eq_false hc
    refine wpIn_skip ?_
    refine hK3 _ _ ?_
    refine c_seq fun K6 hK6 => ?_
    refine c_region ?_
    refine s_pure h (ru_move (h.ev rfl)) rfl ?_; intro f h
    refine s_pure h (ru_move (h.ev rfl)) rfl ?_; intro f h
    refine s_pure h (ru_nilCheck (h.ev rfl)) rfl ?_; intro f h
    refine s_pure h (ru_field fld83_0 (h.ev rfl)) rfl ?_; intro f h
    refine s_load_at1 (V := vh) (cell_of_has (Has.of_own s 0 rfl) 0 (rfl)) h one81 rfl rfl ?_; intro f h
    refine s_pure h (ru_move (h.ev rfl)) rfl ?_; intro f h
    refine s_pure h (ru_move (h.ev rfl)) rfl ?_; intro f h
    have hr9 : r9 < 1000001 := by rcases hr with ⟨e9, _⟩ | ⟨k9, hk9, e9, _⟩ <;> omega
    refine s_pure h (ru_add (h.ev rfl) (h.ev rfl) (by omega)) rfl ?_; intro f h
    obtain ⟨k9, hk9, rfl, hpk⟩ := hr.resolve_left (fun h9 => by omega)
    refine s_callS [vh, .int .i64 (k9 : Int), .int .i64 ((k9 + 1 : Nat) : Int)] h fnc62 (delete_any l hln vh k9 hk9 (.blk bs (.cells #[vh] 83) :: B9) _ _ (s.perm (List.Perm.swap _ _ _))) rfl rfl ?_; rintro f w1 v22 s h
    refine s_pure h (ru_nilCheck (h.ev rfl)) rfl ?_; intro f h
    refine s_pure h (ru_field fld83_0 (h.ev rfl)) rfl ?_; intro f h
    refine s_store_one 1 h s one81 rfl rfl rfl (by simp) (own_one (s.getSl 0 rfl)) ?_; intro w1 s
    refine s_nil ?_
    refine hK6 _ _ ?_
    refine c_seq fun K7 hK7 => ?_
    refine c_region ?_
    refine s_pure h (ru_assign (h.ev rfl)) rfl ?_; intro f h
    refine s_nil ?_
    refine hK7 _ _ ?_
    refine wpIn_ret ?_
    exact e_tmpF rfl h rfl (⟨_, rfl, _, rfl, .inr ⟨rfl, k9, hk9, hpk, v22, by rw [List.length_eraseIdx, if_pos hk9]; exact s.perm (List.Perm.swap _ _ _)⟩⟩)

theorem acyclic_ok (ls : List Lnk) (hls : ls.length ≤ 64) (vh : Value) (w : World) (hv : RdZ w vh 64 ls.length (lCells ls)) : Calls Try.prog 17 [vh].toArray w (Ret w (is (.tuple #[.bool (acycB ls), .int .i64 0]))) := by
  refine c_enter Try.func17 rfl Try.ntmps17 rfl [(0, vh)] (by simp) fun f h => ?_
  have s := St.start w
  refine c_seq fun K1 hK1 => ?_
  refine c_region ?_
  refine s_pure h (ru_assign (h.ev rfl)) rfl ?_; intro f h
  refine s_pure h (ru_assign (h.ev rfl)) rfl ?_; intro f h
  refine s_nil ?_
  refine hK1 _ _ ?_
  refine c_seq fun K2 hK2 => ?_
  refine c_seq fun K3 hK3 => ?_
  refine c_region ?_
  refine s_pure h (ru_move (h.ev rfl)) rfl ?_; intro f h
  refine s_pure h (ru_lenZ (hv.keep s.ext) Try.underlying34 (h.ev rfl)) rfl ?_; intro f h
  refine s_pure h (ru_val (.bool false) (ru_gtr (h.ev rfl) (h.ev rfl)) (congrArg Value.bool (decide_eq_false (by omega)))) rfl ?_; intro f h
  refine s_nil ?_
  refine hK3 _ _ ?_
  refine wpIn_cond_false (h.ev rfl) ?_
  refine wpIn_skip ?_
  refine hK2 _ _ ?_
  refine c_seq fun K4 hK4 => ?_
  refine c_region ?_
  refine s_alloc (#[.slice none 0 0]) h s zero83 rfl rfl ?_; intro f w1 b4 h s
  refine s_nil ?_
  refine hK4 _ _ ?_
  refine c_seq fun K5 hK5 => ?_
  refine c_seq fun K6 hK6 => ?_
  refine c_region ?_
  replace s := s.nilSl 88 32
  obtain ⟨v3, hv3⟩ : ∃ v3, v3 = Value.slice none 0 0 := ⟨_, rfl⟩
  rw [← hv3] at s
  refine s_pure h (ru_move (h.ev rfl)) rfl ?_; intro f h
  refine s_pure h (ru_lenZ (hv.keep s.ext) Try.underlying34 (h.ev rfl)) rfl ?_; intro f h
  refine s_pure h (ru_move (h.ev rfl)) rfl ?_; intro f h
  refine s_nil ?_
  refine hK6 _ _ ?_
  refine wpIn_block ?_
  refine wpIn_loop_ghost (fun nn aa ww => ∃ k : Nat, ∃ vb : Value, Sl 30 aa [(0, vh), (4, .pointer (some ⟨b4, 0, none⟩)), (11, vh), (12, .int .i64 (ls.length : Int)), (13, .int .i64 (k : Int))] ∧ St w [.sl vb 88 32 (setOf (ls.map stepOf) k).length (sCells (setOf (ls.map stepOf) k)), .blk b4 (.cells (#[vb]) 83)] ww ∧ nn = ls.length - k ∧ k ≤ ls.length) (ls.length - (0)) ⟨0, v3, h.only ⟨rfl, rfl, rfl, rfl, slot_int rfl (by omega), trivial⟩, s.as ⟨rfl, rfl, trivial⟩, rfl, Nat.zero_le _⟩ ?_
  rintro _ f w1 ⟨k, vb, h, s, hnn, hp0⟩
  refine c_seq fun K7 hK7 => ?_
  refine c_region ?_
  refine s_pure h (ru_lss (h.ev rfl) (h.ev rfl)) rfl ?_; intro f h
  refine s_nil ?_
  refine hK7 _ _ ?_
  refine c_seq fun K8 hK8 => ?_
  refine c_cond h rfl (fun hc => ?_) (fun hc => ?_)
  · replace hc := of_decide_eq_true hc
    refine wpIn_skip ?_
    refine hK8 _ _ ?_
    refine c_seq fun K9 hK9 => ?_
    refine wpIn_block ?_
    refine c_seq fun K10 hK10 => ?_
    refine c_region ?_
    have hkl : k < ls.length := by omega
    refine s_pure h (ru_ixz (hv.keep s.ext) (k) Try.underlying34 szo44 (h.ev rfl) (h.ev rfl) (by omega) (by omega)) rfl ?_; intro f h
    refine s_load_at ((hv.keep s.ext).el (k) (by omega) (by decide) (D := lArr ls[k]) (l_el ls k hkl)) h row44 rfl (lArr_size _) rfl ?_; intro f h
    refine s_alloc (lArr (0#256, 0#256)) h s zero44 rfl rfl ?_; intro f w1 b6 h s
    refine s_store_row 0 h s row44 rfl rfl rfl (lArr_size _) (lArr_size _) (lArr_ones _) ?_; intro w1 s
    refine s_nil ?_
    refine hK10 _ _ ?_
    refine c_walkN 5 [[], [0], [0, 1], [], [3]] h (by kernel_rfl) (by kernel_rfl) (by kernel_rfl) ?_
    refine w_pure h (ru_field fld44_0 (h.ev rfl)) rfl ?_; intro f h
    refine w_load_at (Has.subL (Has.of_own s 0 rfl) 0 32 (D := idArr (_)) (lArr_from _)) h row42 rfl (by first | exact idArr_size _ | exact bytesF_size _ _) rfl ?_; intro f h
    refine w_call h fnc33 (fun w9 hE9 => keyOf_any _ w9) rfl rfl ?_; intro f h
    refine w_pure h (ru_field fld44_1 (h.ev rfl)) rfl ?_; intro f h
    refine w_load_at (Has.subL (Has.of_own s 0 rfl) 32 32 (D := idArr (_)) (lArr_to _)) h row42 rfl (by first | exact idArr_size _ | exact bytesF_size _ _) rfl ?_; intro f h
    refine w_nil s fun w1 s => ?_
    refine s_call h s fnc33 (keyOf_any _ _) rfl rfl ?_; intro f w1 v9 hT hE h s; obtain rfl := hT
    refine s_pure h (ru_build2 stt88 (sArr (stepOf ls[k])) (h.ev rfl) (h.ev rfl) (kArr_size _) (kArr_size _) (sArr_cat _ _)) rfl ?_; intro f h
    have hlk := setOf_len (ls.map stepOf) k
    refine s_callS [.pointer (some ⟨b4, 0, none⟩), .agg (sArr (stepOf ls[k]))] h fnc32 (add_any (setOf (ls.map stepOf) k) (by omega) vb (stepOf ls[k]) b4 [.blk b6 (.cells (lArr ls[k]) 44)] _ _ (s.sel [2, 1, 0] rfl (by decide))) rfl rfl ?_; rintro f w1 v24 ⟨v9, s⟩ h
    refine s_nil ?_
    refine b_norm ?_
    refine hK9 _ _ ?_
    refine c_region ?_
    refine s_pure h (ru_add (h.ev rfl) (h.ev rfl) (by omega)) rfl ?_; intro f h
    refine s_pure h (ru_move (h.ev rfl)) rfl ?_; intro f h
    refine s_nil ?_
    refine t_norm ?_
    have hsn : setOf (ls.map stepOf) (k + 1) = addS (setOf (ls.map stepOf) k) (stepOf ls[k]) := by rw [setOf_next _ k (by simpa using hkl), List.getElem_map]
    exact ⟨_, by omega, ⟨k + 1, v9, h.only ⟨rfl, rfl, rfl, rfl, slot_int rfl (by omega), trivial⟩, St.as (s.sel [1, 0] rfl (by decide)) ⟨sl_eq (by rw [hsn]) (by rw [hsn]), rfl, trivial⟩, rfl, by omega⟩⟩
  · replace hc := of_decide_eq_false hc
    refine wpIn_exit ?_
    refine t_exit ?_
    refine t_exit ?_
    refine b_exit ?_
    refine hK5 _ _ ?_
    refine c_seq fun K11 hK11 => ?_
    refine c_region ?_
    obtain rfl : k = ls.length := by omega
    refine s_pure h (ru_makeFunc [.pointer (some ⟨b4, 0, none⟩)] (evsA h rfl)) rfl ?_; intro f h
    refine s_pure h (ru_assign (h.ev rfl)) rfl ?_; intro f h
    refine s_nil ?_
    refine hK11 _ _ ?_
    refine c_seq fun K12 hK12 => ?_
    refine wpIn_block ?_
    refine wpIn_loop_ghost (fun nn aa ww => ∃ L : List Stp, ∃ vc : Value, Sl 30 aa [(0, vh), (4, .pointer (some ⟨b4, 0, none⟩)), (7, .func (.func 34) #[] #[.pointer (some ⟨b4, 0, none⟩)])] ∧ St w [.sl vc 88 32 L.length (sCells L), .blk b4 (.cells (#[vc]) 83)] ww ∧ nn = L.length ∧ L.length ≤ 64 ∧ (Cyc L ↔ Cyc (ls.map stepOf))) ((setOf (ls.map stepOf) ls.length).length) ⟨setOf (ls.map stepOf) ls.length, vb, h.only ⟨rfl, rfl, rfl, trivial⟩, s.as ⟨rfl, rfl, trivial⟩, rfl, by have := setOf_len (ls.map stepOf) ls.length; omega, by have := cyc_set (ls.map stepOf); rwa [List.length_map] at this⟩ ?_
    rintro _ f w1 ⟨L, vc, h, s, hnn, hp0, hp1⟩
    refine c_seq fun K13 hK13 => ?_
    refine c_seq fun K14 hK14 => ?_
    refine c_region ?_
    refine s_pure h (ru_move (h.ev rfl)) rfl ?_; intro f h
    have q1 := (s.perm (List.Perm.swap _ _ _))
    have q2 : ∀ w9, Ext w1 w9 → ∀ x ∈ L, Calls Try.prog 34 (.agg (sArr x) :: [.pointer (some ⟨b4, 0, none⟩)]).toArray w9 (Ret w9 (is (.bool (endsB L x)))) := fun w9 h9 x hx => cl1_any L vc x b4 w9 ((Tab.of_own s 1 rfl).keep h9) ((RdZ.of_own (s.getSl 0 rfl)).keep h9) (by omega)
    have q3 := takeoff_any L (by omega) vc b4 [] 34 [.pointer (some ⟨b4, 0, none⟩)] (endsB L) _ _ q1 fnc34 q2
    refine s_callS [.pointer (some ⟨b4, 0, none⟩), .func (.func 34) #[] #[.pointer (some ⟨b4, 0, none⟩)]] h fnc37 q3 rfl rfl ?_; rintro f w1 v28 ⟨b9, rfl, hTO⟩ h
    refine s_nil ?_
    refine hK14 _ _ ?_
    refine c_cond h rfl (fun hc => ?_) (fun hc => ?_)
    · obtain ⟨_, k9, hk9, hp9, v28, s⟩ := hTO.resolve_left (fun h8 => by rw [hc] at h8; cases h8.1)
      refine wpIn_skip ?_
      refine hK13 _ _ ?_
      refine wpIn_block ?_
      refine wpIn_skip ?_
      refine b_norm ?_
      refine t_norm ?_
      exact ⟨_, by rw [List.length_eraseIdx, if_pos hk9]; omega, ⟨L.eraseIdx k9, v28, h.only ⟨rfl, rfl, rfl, trivial⟩, St.as (s.sel [1, 0] rfl (by decide)) ⟨rfl, rfl, trivial⟩, rfl, by rw [List.length_eraseIdx]; split <;> omega, (cyc_erase hk9 hp9).trans hp1⟩⟩
    · obtain ⟨_, hall, s⟩ := hTO.resolve_right (fun h8 => by rw [hc] at h8; cases h8.1)
      refine wpIn_exit ?_
      refine t_exit ?_
      refine t_exit ?_
      refine b_exit ?_
      refine hK12 _ _ ?_
      refine c_seq fun K15 hK15 => ?_
      refine c_region ?_
      refine s_call h s fnc38 (empty_any L vc b4 _ (Tab.of_own s 0 rfl) (RdZ.of_own (s.getSl 1 rfl)) (by omega)) rfl rfl ?_; intro f w1 v9 hT hE h s; obtain rfl := hT
      refine s_pure h (ru_assign (h.ev rfl)) rfl ?_; intro f h
      refine s_pure h (ru_assign (h.ev rfl)) rfl ?_; intro f h
      refine s_nil ?_
      refine hK15 _ _ ?_
      refine wpIn_ret ?_
      exact e_tmps rfl h s rfl rfl (by show _ = _; rw [acyc_end hall hp1])
end Go.Proofs.Ytdehanjhphfanaa
