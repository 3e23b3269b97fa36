/- What package table answers: those that fit, the likest, what is put, dropped, over, matched, on a way. -/
import Derived.Test.YtliknbdambmmaaaXa
set_option linter.unusedVariables false
set_option linter.unusedSimpArgs false
set_option linter.unusedSectionVars false
namespace Go.Proofs.Ytliknbdambmmaaa
open Go.RowKit
theorem tonly_any (l : List Tg) (vh : Value) (g9 : Nat) (caps : List Value) (p : Tg → Bool) (w : World) (hR : RdZ w vh 67 l.length (tgCells l)) (hln : l.length ≤ 1000) (hg : Fnc Try.prog g9) (hp : ∀ w9, Ext w w9 → ∀ y ∈ l, Calls Try.prog g9 (.agg (tgArr y) :: caps).toArray w9 (Ret w9 (is (.bool (p y))))) : Calls Try.prog 35 [vh, .func (.func g9) #[] caps.toArray].toArray w (Ret w (fun v w' => Owns w' w.heap.size 28 67 v (l.filter p).length (tgCells (l.filter p)))) := by
  refine c_enter Try.func35 rfl Try.ntmps35 rfl [(0, vh), (1, .func (.func g9) #[] caps.toArray)] (by simp) fun f h => ?_
  have s := St.start w
  refine c_seq fun K1 hK1 => ?_
  refine c_region ?_
  refine s_pure h (ru_assign (h.ev rfl)) rfl ?_; intro f h
  refine s_nil ?_
  refine hK1 _ _ ?_
  refine c_seq fun K2 hK2 => ?_
  refine c_region ?_
  refine s_pure h (ru_assign (h.ev rfl)) rfl ?_; intro f h
  refine s_nil ?_
  refine hK2 _ _ ?_
  refine c_seq fun K3 hK3 => ?_
  refine c_seq fun K4 hK4 => ?_
  refine c_region ?_
  replace s := s.nilSl 28 67
  refine s_pure h (ru_move (h.ev rfl)) rfl ?_; intro f h
  refine s_pure h (ru_lenZ (hR.keep s.ext) Try.underlying22 (h.ev rfl)) rfl ?_; intro f h
  refine s_pure h (ru_move (h.ev rfl)) rfl ?_; intro f h
  refine s_nil ?_
  refine hK4 _ _ ?_
  refine wpIn_block ?_
  refine wpIn_loop_ghost (fun nn aa ww => ∃ k : Nat, ∃ vb : Value, Sl 23 aa [(0, vh), (1, .func (.func g9) #[] caps.toArray), (5, vb), (8, vh), (9, .int .i64 (l.length : Int)), (10, .int .i64 (k : Int))] ∧ St w [.sl vb 28 67 ((l.take k).filter p).length (tgCells ((l.take k).filter p))] ww ∧ nn = l.length - k ∧ k ≤ l.length) (l.length - (0)) ⟨0, nilV, h.only ⟨rfl, rfl, rfl, rfl, rfl, slot_int rfl (by omega), trivial⟩, s.as ⟨rfl, trivial⟩, rfl, Nat.zero_le _⟩ ?_
  rintro _ f w1 ⟨k, vb, h, s, hnn, hp0⟩
  refine c_seq fun K5 hK5 => ?_
  refine c_region ?_
  refine s_pure h (ru_lss (h.ev rfl) (h.ev rfl)) rfl ?_; intro f h
  refine s_nil ?_
  refine hK5 _ _ ?_
  refine c_seq fun K6 hK6 => ?_
  refine c_cond h rfl (fun hc => ?_) (fun hc => ?_)
  · replace hc := of_decide_eq_true hc
    refine wpIn_skip ?_
    refine hK6 _ _ ?_
    refine c_seq fun K7 hK7 => ?_
    refine wpIn_block ?_
    refine c_seq fun K8 hK8 => ?_
    refine c_region ?_
    have hkl : k < l.length := by omega
    refine s_pure h (ru_ixz (hR.keep s.ext) (k) Try.underlying22 szo28 (h.ev rfl) (h.ev rfl) (by omega) (by omega)) rfl ?_; intro f h
    refine s_load_at ((hR.keep s.ext).el (k) (by omega) (by decide) (D := tgArr (l.getD k zTg)) (tgr_el l k hkl)) h row28 rfl (tgArr_size _) rfl ?_; intro f h
    refine s_alloc (tgArr zTg) h s zero28 rfl rfl ?_; intro f w1 b7 h s
    refine s_store_row 0 h s row28 rfl rfl rfl (tgArr_size _) (tgArr_size _) (tgArr_ones _) ?_; intro w1 s
    refine s_nil ?_
    refine hK8 _ _ ?_
    refine c_seq fun K9 hK9 => ?_
    refine c_region ?_
    refine s_pure h (ru_move (h.ev rfl)) rfl ?_; intro f h
    refine s_load_row 0 h s row28 rfl rfl (tgArr_size _) rfl ?_; intro f h
    refine s_callV [.agg (tgArr (l.getD k zTg))] (caps := caps) h s hg rfl (hp _ s.ext _ (tg_mem hkl)) rfl rfl ?_; intro f w1 v16 hT hE h s; obtain rfl := hT
    refine s_nil ?_
    refine hK9 _ _ ?_
    refine c_cond h rfl (fun hc => ?_) (fun hc => ?_)
    · have hq : p (l.getD k zTg) = true := hc
      refine c_region ?_
      refine s_pure h (ru_move (h.ev rfl)) rfl ?_; intro f h
      refine s_load_row 0 h s row28 rfl rfl (tgArr_size _) rfl ?_; intro f h
      refine s_bslice (vs := [.agg (tgArr (l.getD k zTg))]) [.tmp 18] h s Try.underlying22 elm28 rfl rfl (tg_sz _) rfl rfl rfl ?_; intro f w1 v19 h s
      refine s_append 2 0 h s Try.underlying22 elm28 rfl rfl rfl rfl (by decide) (by rw [one_tg]; exact tgArr_ones _) (by have h9 := flt_le l p k; unfold maxLen; omega) (by have h9 := flt_le l p k; omega) rfl ?_; intro f w1 v20 h s
      replace s := s.pick _ (List.sublist_cons_self _ _)
      replace s := s.resl (m := ((l.take (k + 1)).filter p).length) (ys := tgCells ((l.take (k + 1)).filter p)) 1 rfl (by rw [flt_y hkl hq, List.length_append]; rfl) (by rw [flt_y hkl hq, one_tg, tg_snoc])
      refine s_pure h (ru_assign (h.ev rfl)) rfl ?_; intro f h
      refine s_nil ?_
      refine b_norm ?_
      refine hK7 _ _ ?_
      refine c_region ?_
      refine s_pure h (ru_add (h.ev rfl) (h.ev rfl) (by omega)) rfl ?_; intro f h
      refine s_pure h (ru_move (h.ev rfl)) rfl ?_; intro f h
      refine s_nil ?_
      refine t_norm ?_
      exact ⟨_, by omega, ⟨k + 1, v20, h.only ⟨rfl, rfl, rfl, rfl, rfl, slot_int rfl (by omega), trivial⟩, St.as (s.pick _ (List.sublist_append_right [_] _)) ⟨rfl, trivial⟩, rfl, by omega⟩⟩
    · have hq : p (l.getD k zTg) = false := hc
      refine wpIn_skip ?_
      refine b_norm ?_
      refine hK7 _ _ ?_
      refine c_region ?_
      refine s_pure h (ru_add (h.ev rfl) (h.ev rfl) (by omega)) rfl ?_; intro f h
      refine s_pure h (ru_move (h.ev rfl)) rfl ?_; intro f h
      refine s_nil ?_
      refine t_norm ?_
      exact ⟨_, by omega, ⟨k + 1, vb, h.only ⟨rfl, rfl, rfl, rfl, rfl, slot_int rfl (by omega), trivial⟩, St.as (s.pick _ (List.sublist_append_right [_] _)) ⟨sl_eq (by rw [flt_n hkl hq]) (by rw [flt_n hkl hq]), trivial⟩, rfl, by omega⟩⟩
  · replace hc := of_decide_eq_false hc
    refine wpIn_exit ?_
    refine t_exit ?_
    refine t_exit ?_
    refine b_exit ?_
    refine hK3 _ _ ?_
    refine c_seq fun K10 hK10 => ?_
    refine c_region ?_
    refine s_pure h (ru_move (h.ev rfl)) rfl ?_; intro f h
    refine s_pure h (ru_assign (h.ev rfl)) rfl ?_; intro f h
    refine s_nil ?_
    refine hK10 _ _ ?_
    refine wpIn_ret ?_
    exact e_tmp rfl h s rfl ((by have h9 := s.getSl 0 rfl; rw [flt_end (by omega)] at h9; exact h9))

theorem tfirst_any (l : List Tg) (vh : Value) (g9 : Nat) (caps : List Value) (m : Tg → Int) (le : Int) (w : World) (hR : RdZ w vh 67 l.length (tgCells l)) (hln : l.length ≤ 1000) (hg : Fnc Try.prog g9) (hp : ∀ w9, Ext w w9 → ∀ y ∈ l, Calls Try.prog g9 (.agg (tgArr y) :: caps).toArray w9 (Ret w9 (is (.int .i64 (m y))))) : Calls Try.prog 38 [vh, .func (.func g9) #[] caps.toArray, .int .i64 le].toArray w (Ret w (is (.tuple #[.agg (tgArr (fmS m le l l.length).1), .bool (fmS m le l l.length).2.2]))) := by
  refine c_enter Try.func38 rfl Try.ntmps38 rfl [(0, vh), (1, .func (.func g9) #[] caps.toArray), (2, .int .i64 le)] (by simp) fun f h => ?_
  have s := St.start w
  refine c_seq fun K1 hK1 => ?_
  refine c_region ?_
  refine s_alloc (tgArr zTg) h s zero28 rfl rfl ?_; intro f w1 b6 h s
  refine s_pure h (ru_assign (h.ev rfl)) rfl ?_; intro f h
  refine s_nil ?_
  refine hK1 _ _ ?_
  refine c_seq fun K2 hK2 => ?_
  refine c_region ?_
  refine s_alloc (tgArr zTg) h s zero28 rfl rfl ?_; intro f w1 b8 h s
  refine s_nil ?_
  refine hK2 _ _ ?_
  refine c_seq fun K3 hK3 => ?_
  refine c_region ?_
  refine s_pure h (ru_assign (h.ev rfl)) rfl ?_; intro f h
  refine s_pure h (ru_assign (h.ev rfl)) rfl ?_; intro f h
  refine s_nil ?_
  refine hK3 _ _ ?_
  refine c_seq fun K4 hK4 => ?_
  refine c_seq fun K5 hK5 => ?_
  refine c_region ?_
  refine s_pure h (ru_move (h.ev rfl)) rfl ?_; intro f h
  refine s_pure h (ru_lenZ (hR.keep s.ext) Try.underlying22 (h.ev rfl)) rfl ?_; intro f h
  refine s_pure h (ru_move (h.ev rfl)) rfl ?_; intro f h
  refine s_nil ?_
  refine hK5 _ _ ?_
  refine wpIn_block ?_
  refine wpIn_loop_ghost (fun nn aa ww => ∃ k : Nat, ∃ z : Tg, ∃ mo : Int, ∃ bi : Bool, Sl 40 aa [(0, vh), (6, .pointer (some ⟨b6, 0, none⟩)), (8, .pointer (some ⟨b8, 0, none⟩)), (1, .func (.func g9) #[] caps.toArray), (2, .int .i64 le), (9, .int .i64 mo), (10, .bool bi), (14, vh), (15, .int .i64 (l.length : Int)), (16, .int .i64 (k : Int))] ∧ St w [.blk b8 (.cells (tgArr z) 28), .blk b6 (.cells (tgArr zTg) 28)] ww ∧ nn = l.length - k ∧ k ≤ l.length ∧ (z, mo, bi) = fmS m le l k) (l.length - (0)) ⟨0, zTg, 0, false, h.only ⟨rfl, rfl, rfl, rfl, rfl, rfl, rfl, rfl, rfl, slot_int rfl (by omega), trivial⟩, s.as ⟨rfl, rfl, trivial⟩, rfl, Nat.zero_le _, rfl⟩ ?_
  rintro _ f w1 ⟨k, z, mo, bi, h, s, hnn, hp0, hp1⟩
  refine c_seq fun K6 hK6 => ?_
  refine c_region ?_
  refine s_pure h (ru_lss (h.ev rfl) (h.ev rfl)) rfl ?_; intro f h
  refine s_nil ?_
  refine hK6 _ _ ?_
  refine c_seq fun K7 hK7 => ?_
  refine c_cond h rfl (fun hc => ?_) (fun hc => ?_)
  · replace hc := of_decide_eq_true hc
    refine wpIn_skip ?_
    refine hK7 _ _ ?_
    refine c_seq fun K8 hK8 => ?_
    refine wpIn_block ?_
    refine c_seq fun K9 hK9 => ?_
    refine c_region ?_
    have hkl : k < l.length := by omega
    refine s_pure h (ru_ixz (hR.keep s.ext) (k) Try.underlying22 szo28 (h.ev rfl) (h.ev rfl) (by omega) (by omega)) rfl ?_; intro f h
    refine s_load_at ((hR.keep s.ext).el (k) (by omega) (by decide) (D := tgArr (l.getD k zTg)) (tgr_el l k hkl)) h row28 rfl (tgArr_size _) rfl ?_; intro f h
    refine s_alloc (tgArr zTg) h s zero28 rfl rfl ?_; intro f w1 b12 h s
    refine s_store_row 0 h s row28 rfl rfl rfl (tgArr_size _) (tgArr_size _) (tgArr_ones _) ?_; intro w1 s
    refine s_nil ?_
    refine hK9 _ _ ?_
    refine c_seq fun K10 hK10 => ?_
    refine c_region ?_
    refine s_pure h (ru_move (h.ev rfl)) rfl ?_; intro f h
    refine s_load_row 0 h s row28 rfl rfl (tgArr_size _) rfl ?_; intro f h
    refine s_callV [.agg (tgArr (l.getD k zTg))] (caps := caps) h s hg rfl (hp _ s.ext _ (tg_mem hkl)) rfl rfl ?_; intro f w1 v22 hT hE h s; obtain rfl := hT
    refine s_pure h (ru_assign (h.ev rfl)) rfl ?_; intro f h
    refine s_nil ?_
    refine hK10 _ _ ?_
    refine c_seq fun K11 hK11 => ?_
    cases h0 : (decide (le ≤ m (l.getD k zTg)) : Bool)
    · skip
      refine c_region ?_
      refine s_pure h (ru_move (h.ev rfl)) rfl ?_; intro f h
      refine s_pure h (ru_move (h.ev rfl)) rfl ?_; intro f h
      refine s_pure h (ru_val (.bool false) (ru_geq (h.ev rfl) (h.ev rfl)) (congrArg Value.bool h0)) rfl ?_; intro f h
      refine s_pure h (ru_move (h.ev rfl)) rfl ?_; intro f h
      refine s_off (b := true) h rfl rfl rfl rfl ?_; intro f h
      refine s_off (b := true) h rfl rfl rfl rfl ?_; intro f h
      refine s_off (b := true) h rfl rfl rfl rfl ?_; intro f h
      refine s_none h rfl rfl rfl rfl ?_; intro f h
      refine s_none h rfl rfl rfl rfl ?_; intro f h
      refine s_none h rfl rfl rfl rfl ?_; intro f h
      refine s_off (b := true) h rfl rfl rfl rfl ?_; intro f h
      refine s_pure h (ru_pick_f (h.ev rfl) (h.ev rfl)) rfl ?_; intro f h
      refine s_nil ?_
      refine hK11 _ _ ?_
      refine wpIn_cond_false (h.ev rfl) ?_
      refine wpIn_skip ?_
      refine b_norm ?_
      refine hK8 _ _ ?_
      refine c_region ?_
      refine s_pure h (ru_add (h.ev rfl) (h.ev rfl) (by omega)) rfl ?_; intro f h
      refine s_pure h (ru_move (h.ev rfl)) rfl ?_; intro f h
      refine s_nil ?_
      refine t_norm ?_
      exact ⟨_, by omega, ⟨k + 1, z, mo, bi, h.only ⟨rfl, rfl, rfl, rfl, rfl, rfl, rfl, rfl, rfl, slot_int rfl (by omega), trivial⟩, St.as (s.pick _ (List.sublist_append_right [_] _)) ⟨rfl, rfl, trivial⟩, rfl, by omega, fm_n hp1 (by rw [h0]; rfl)⟩⟩
    · skip
      cases h1 : (bi : Bool)
      · skip
        refine c_region ?_
        refine s_pure h (ru_move (h.ev rfl)) rfl ?_; intro f h
        refine s_pure h (ru_move (h.ev rfl)) rfl ?_; intro f h
        refine s_pure h (ru_val (.bool true) (ru_geq (h.ev rfl) (h.ev rfl)) (congrArg Value.bool h0)) rfl ?_; intro f h
        refine s_pure h (ru_move (h.ev rfl)) rfl ?_; intro f h
        refine s_on h rfl rfl rfl ?_
        refine s_pure h (ru_val (.bool false) (ru_move (h.ev rfl)) (congrArg Value.bool h1)) rfl ?_; intro f h
        refine s_on h rfl rfl rfl ?_
        refine s_pure h (ru_val (.bool true) (ru_not (h.ev rfl)) rfl) rfl ?_; intro f h
        refine s_on h rfl rfl rfl ?_
        refine s_pure h (ru_move (h.ev rfl)) rfl ?_; intro f h
        refine s_off (b := false) h rfl rfl rfl rfl ?_; intro f h
        refine s_off (b := false) h rfl rfl rfl rfl ?_; intro f h
        refine s_off (b := false) h rfl rfl rfl rfl ?_; intro f h
        refine s_on h rfl rfl rfl ?_
        refine s_pure h (ru_pick_t (h.ev rfl) (h.ev rfl)) rfl ?_; intro f h
        refine s_pure h (ru_pick_t (h.ev rfl) (h.ev rfl)) rfl ?_; intro f h
        refine s_nil ?_
        refine hK11 _ _ ?_
        refine wpIn_cond_true (h.ev rfl) ?_
        refine c_region ?_
        refine s_load_row 0 h s row28 rfl rfl (tgArr_size _) rfl ?_; intro f h
        refine s_pure h (ru_move (h.ev rfl)) rfl ?_; intro f h
        refine s_store_row 1 h s row28 rfl rfl rfl (tgArr_size _) (tgArr_size _) (tgArr_ones _) ?_; intro w1 s
        refine s_pure h (ru_assign (h.ev rfl)) rfl ?_; intro f h
        refine s_pure h (ru_assign (h.ev rfl)) rfl ?_; intro f h
        refine s_nil ?_
        refine b_norm ?_
        refine hK8 _ _ ?_
        refine c_region ?_
        refine s_pure h (ru_add (h.ev rfl) (h.ev rfl) (by omega)) rfl ?_; intro f h
        refine s_pure h (ru_move (h.ev rfl)) rfl ?_; intro f h
        refine s_nil ?_
        refine t_norm ?_
        exact ⟨_, by omega, ⟨k + 1, (l.getD k zTg), (m (l.getD k zTg)), true, h.only ⟨rfl, rfl, rfl, rfl, rfl, rfl, rfl, rfl, rfl, slot_int rfl (by omega), trivial⟩, St.as (s.pick _ (List.sublist_append_right [_] _)) ⟨rfl, rfl, trivial⟩, rfl, by omega, fm_y hp1 h0 (by rw [h1]; rfl)⟩⟩
      · skip
        cases h2 : (decide (mo < m (l.getD k zTg)) : Bool)
        · skip
          refine c_region ?_
          refine s_pure h (ru_move (h.ev rfl)) rfl ?_; intro f h
          refine s_pure h (ru_move (h.ev rfl)) rfl ?_; intro f h
          refine s_pure h (ru_val (.bool true) (ru_geq (h.ev rfl) (h.ev rfl)) (congrArg Value.bool h0)) rfl ?_; intro f h
          refine s_pure h (ru_move (h.ev rfl)) rfl ?_; intro f h
          refine s_on h rfl rfl rfl ?_
          refine s_pure h (ru_val (.bool true) (ru_move (h.ev rfl)) (congrArg Value.bool h1)) rfl ?_; intro f h
          refine s_on h rfl rfl rfl ?_
          refine s_pure h (ru_val (.bool false) (ru_not (h.ev rfl)) rfl) rfl ?_; intro f h
          refine s_on h rfl rfl rfl ?_
          refine s_pure h (ru_move (h.ev rfl)) rfl ?_; intro f h
          refine s_on h rfl rfl rfl ?_
          refine s_pure h (ru_move (h.ev rfl)) rfl ?_; intro f h
          refine s_on h rfl rfl rfl ?_
          refine s_pure h (ru_move (h.ev rfl)) rfl ?_; intro f h
          refine s_on h rfl rfl rfl ?_
          refine s_pure h (ru_val (.bool false) (ru_gtr (h.ev rfl) (h.ev rfl)) (congrArg Value.bool h2)) rfl ?_; intro f h
          refine s_on h rfl rfl rfl ?_
          refine s_pure h (ru_pick_f (h.ev rfl) (h.ev rfl)) rfl ?_; intro f h
          refine s_pure h (ru_pick_t (h.ev rfl) (h.ev rfl)) rfl ?_; intro f h
          refine s_nil ?_
          refine hK11 _ _ ?_
          refine wpIn_cond_false (h.ev rfl) ?_
          refine wpIn_skip ?_
          refine b_norm ?_
          refine hK8 _ _ ?_
          refine c_region ?_
          refine s_pure h (ru_add (h.ev rfl) (h.ev rfl) (by omega)) rfl ?_; intro f h
          refine s_pure h (ru_move (h.ev rfl)) rfl ?_; intro f h
          refine s_nil ?_
          refine t_norm ?_
          exact ⟨_, by omega, ⟨k + 1, z, mo, bi, h.only ⟨rfl, rfl, rfl, rfl, rfl, rfl, rfl, rfl, rfl, slot_int rfl (by omega), trivial⟩, St.as (s.pick _ (List.sublist_append_right [_] _)) ⟨rfl, rfl, trivial⟩, rfl, by omega, fm_n hp1 (by rw [h0, h1, h2]; rfl)⟩⟩
        · skip
          refine c_region ?_
          refine s_pure h (ru_move (h.ev rfl)) rfl ?_; intro f h
          refine s_pure h (ru_move (h.ev rfl)) rfl ?_; intro f h
          refine s_pure h (ru_val (.bool true) (ru_geq (h.ev rfl) (h.ev rfl)) (congrArg Value.bool h0)) rfl ?_; intro f h
          refine s_pure h (ru_move (h.ev rfl)) rfl ?_; intro f h
          refine s_on h rfl rfl rfl ?_
          refine s_pure h (ru_val (.bool true) (ru_move (h.ev rfl)) (congrArg Value.bool h1)) rfl ?_; intro f h
          refine s_on h rfl rfl rfl ?_
          refine s_pure h (ru_val (.bool false) (ru_not (h.ev rfl)) rfl) rfl ?_; intro f h
          refine s_on h rfl rfl rfl ?_
          refine s_pure h (ru_move (h.ev rfl)) rfl ?_; intro f h
          refine s_on h rfl rfl rfl ?_
          refine s_pure h (ru_move (h.ev rfl)) rfl ?_; intro f h
          refine s_on h rfl rfl rfl ?_
          refine s_pure h (ru_move (h.ev rfl)) rfl ?_; intro f h
          refine s_on h rfl rfl rfl ?_
          refine s_pure h (ru_val (.bool true) (ru_gtr (h.ev rfl) (h.ev rfl)) (congrArg Value.bool h2)) rfl ?_; intro f h
          refine s_on h rfl rfl rfl ?_
          refine s_pure h (ru_pick_f (h.ev rfl) (h.ev rfl)) rfl ?_; intro f h
          refine s_pure h (ru_pick_t (h.ev rfl) (h.ev rfl)) rfl ?_; intro f h
          refine s_nil ?_
          refine hK11 _ _ ?_
          refine wpIn_cond_true (h.ev rfl) ?_
          refine c_region ?_
          refine s_load_row 0 h s row28 rfl rfl (tgArr_size _) rfl ?_; intro f h
          refine s_pure h (ru_move (h.ev rfl)) rfl ?_; intro f h
          refine s_store_row 1 h s row28 rfl rfl rfl (tgArr_size _) (tgArr_size _) (tgArr_ones _) ?_; intro w1 s
          refine s_pure h (ru_assign (h.ev rfl)) rfl ?_; intro f h
          refine s_pure h (ru_assign (h.ev rfl)) rfl ?_; intro f h
          refine s_nil ?_
          refine b_norm ?_
          refine hK8 _ _ ?_
          refine c_region ?_
          refine s_pure h (ru_add (h.ev rfl) (h.ev rfl) (by omega)) rfl ?_; intro f h
          refine s_pure h (ru_move (h.ev rfl)) rfl ?_; intro f h
          refine s_nil ?_
          refine t_norm ?_
          exact ⟨_, by omega, ⟨k + 1, (l.getD k zTg), (m (l.getD k zTg)), true, h.only ⟨rfl, rfl, rfl, rfl, rfl, rfl, rfl, rfl, rfl, slot_int rfl (by omega), trivial⟩, St.as (s.pick _ (List.sublist_append_right [_] _)) ⟨rfl, rfl, trivial⟩, rfl, by omega, fm_y hp1 h0 (by rw [h1, h2]; rfl)⟩⟩
  · replace hc := of_decide_eq_false hc
    refine wpIn_exit ?_
    refine t_exit ?_
    refine t_exit ?_
    refine b_exit ?_
    refine hK4 _ _ ?_
    refine c_seq fun K12 hK12 => ?_
    refine c_region ?_
    refine s_load_row 0 h s row28 rfl rfl (tgArr_size _) rfl ?_; intro f h
    refine s_pure h (ru_move (h.ev rfl)) rfl ?_; intro f h
    refine s_store_row 1 h s row28 rfl rfl rfl (tgArr_size _) (tgArr_size _) (tgArr_ones _) ?_; intro w1 s
    refine s_pure h (ru_assign (h.ev rfl)) rfl ?_; intro f h
    refine s_nil ?_
    refine hK12 _ _ ?_
    refine wpIn_ret ?_
    exact e_row_tmp 1 rfl h s row28 rfl rfl (tgArr_size _) rfl (by obtain rfl : k = l.length := (by omega); show _ = _; rw [← hp1])

theorem tgrow_any (n : Nat) (hn : n ≤ 1000) (w : World) : Calls Try.prog 49 [.slice none 0 0, .int .i64 (n : Int)].toArray w (Ret w (fun v w' => Owns w' w.heap.size 28 67 v 0 [])) := by
  refine c_enter Try.func49 rfl Try.ntmps49 rfl [(0, .slice none 0 0), (1, .int .i64 (n : Int))] (by simp) fun f h => ?_
  have s := St.start w
  refine c_seq fun K1 hK1 => ?_
  refine c_region ?_
  refine s_pure h (ru_assign (h.ev rfl)) rfl ?_; intro f h
  refine s_nil ?_
  refine hK1 _ _ ?_
  refine c_seq fun K2 hK2 => ?_
  refine c_seq fun K3 hK3 => ?_
  refine c_region ?_
  refine s_pure h (ru_move (h.ev rfl)) rfl ?_; intro f h
  refine s_pure h (ru_val (.bool false) (ru_lss (h.ev rfl) (h.ev rfl)) (congrArg Value.bool (decide_eq_false (by omega)))) rfl ?_; intro f h
  refine s_nil ?_
  refine hK3 _ _ ?_
  refine wpIn_cond_false (h.ev rfl) ?_
  refine wpIn_skip ?_
  refine hK2 _ _ ?_
  refine c_seq fun K4 hK4 => ?_
  refine c_seq fun K5 hK5 => ?_
  refine c_region ?_
  refine s_pure h (ru_move (h.ev rfl)) rfl ?_; intro f h
  refine s_pure h (ru_move (h.ev rfl)) rfl ?_; intro f h
  refine s_pure h (ru_cap_nil Try.underlying22 (h.ev rfl)) rfl ?_; intro f h
  refine s_pure h (ru_move (h.ev rfl)) rfl ?_; intro f h
  refine s_pure h (ru_len_lit Try.underlying22 (h.ev rfl)) rfl ?_; intro f h
  refine s_pure h (ru_val (.int .i64 0) (ru_sub (h.ev rfl) (h.ev rfl) (by omega)) (rfl)) rfl ?_; intro f h
  refine s_pure h (ru_val (.int .i64 (n : Int)) (ru_sub (h.ev rfl) (h.ev rfl) (by omega)) (congrArg (Value.int .i64) (by omega))) rfl ?_; intro f h
  refine s_pure h (ru_assign (h.ev rfl)) rfl ?_; intro f h
  refine s_nil ?_
  refine hK5 _ _ ?_
  refine c_seq fun K6 hK6 => ?_
  refine c_region ?_
  refine s_pure h (ru_move (h.ev rfl)) rfl ?_; intro f h
  refine s_pure h (ru_gtr (h.ev rfl) (h.ev rfl)) rfl ?_; intro f h
  refine s_nil ?_
  refine hK6 _ _ ?_
  refine c_cond h rfl (fun hc => ?_) (fun hc => ?_)
  · replace hc := of_decide_eq_true hc
    refine c_region ?_
    refine s_pure h (ru_move (h.ev rfl)) rfl ?_; intro f h
    refine s_pure h (ru_move (h.ev rfl)) rfl ?_; intro f h
    refine s_pure h (ru_cap_nil Try.underlying22 (h.ev rfl)) rfl ?_; intro f h
    refine s_pure h (ru_slice_nil Try.underlying22 szo28 (h.ev rfl) (h.ev rfl)) rfl ?_; intro f h
    refine s_pure h (ru_move (h.ev rfl)) rfl ?_; intro f h
    refine s_append_zeros (n := n) (base := w.heap.size) h Try.underlying22 Try.underlying3 elm28 rfl rfl (by omega) (by omega) (by omega) (Nat.le_refl _) rfl ?_; intro f w1 v22 xs9 h hE9 hO9
    replace s := s.sl_new hE9 hO9
    refine s_pure h (ru_move (h.ev rfl)) rfl ?_; intro f h
    refine s_pure h (ru_len_lit Try.underlying22 (h.ev rfl)) rfl ?_; intro f h
    refine s_pure h (ru_slice_own0 hO9 Try.underlying22 szo28 (h.ev rfl) (h.ev rfl)) rfl ?_; intro f h
    refine s_pure h (ru_assign (h.ev rfl)) rfl ?_; intro f h
    refine s_nil ?_
    refine hK4 _ _ ?_
    refine c_seq fun K7 hK7 => ?_
    refine c_region ?_
    refine s_pure h (ru_move (h.ev rfl)) rfl ?_; intro f h
    refine s_pure h (ru_assign (h.ev rfl)) rfl ?_; intro f h
    refine s_nil ?_
    refine hK7 _ _ ?_
    refine wpIn_ret ?_
    exact e_tmp rfl h s rfl (hO9.cut0)
  · replace hc := of_decide_eq_false hc
    refine wpIn_skip ?_
    refine hK4 _ _ ?_
    refine c_seq fun K8 hK8 => ?_
    refine c_region ?_
    refine s_pure h (ru_move (h.ev rfl)) rfl ?_; intro f h
    refine s_pure h (ru_assign (h.ev rfl)) rfl ?_; intro f h
    refine s_nil ?_
    refine hK8 _ _ ?_
    refine wpIn_ret ?_
    exact e_tmp rfl h s rfl (owns_nil _ _ _ _)

theorem tconcat_any (vh : Value) (us : List Value) (ls : List (List Tg)) (hls : us.length = ls.length) (htot : ls.flatten.length ≤ 1000) (hvn : us.length ≤ 1000) (w : World) (hv : RdZ w vh 1 us.length us) (hr : ∀ k, k < us.length → RdZ w (us.getD k undef) 67 (ls.getD k []).length (tgCells (ls.getD k []))) : Calls Try.prog 30 [vh].toArray w (Ret w (fun v w' => Owns w' w.heap.size 28 67 v ls.flatten.length (tgCells ls.flatten))) := by
  refine c_enter Try.func30 rfl Try.ntmps30 rfl [(0, vh)] (by simp) fun f h => ?_
  have s := St.start w
  refine c_seq fun K1 hK1 => ?_
  refine c_region ?_
  refine s_pure h (ru_assign (h.ev rfl)) rfl ?_; intro f h
  refine s_nil ?_
  refine hK1 _ _ ?_
  refine c_seq fun K2 hK2 => ?_
  refine c_region ?_
  refine s_pure h (ru_assign (h.ev rfl)) rfl ?_; intro f h
  refine s_nil ?_
  refine hK2 _ _ ?_
  refine c_seq fun K3 hK3 => ?_
  refine c_seq fun K4 hK4 => ?_
  refine c_region ?_
  refine s_pure h (ru_move (h.ev rfl)) rfl ?_; intro f h
  refine s_pure h (ru_lenZ (hv.keep s.ext) Try.underlying70 (h.ev rfl)) rfl ?_; intro f h
  refine s_pure h (ru_move (h.ev rfl)) rfl ?_; intro f h
  refine s_nil ?_
  refine hK4 _ _ ?_
  refine wpIn_block ?_
  refine wpIn_loop_ghost (fun nn aa ww => ∃ k : Nat, Sl 36 aa [(0, vh), (3, .int .i64 (((ls.take k).flatten.length : Nat) : Int)), (9, vh), (10, .int .i64 (us.length : Int)), (11, .int .i64 (k : Int))] ∧ St w [] ww ∧ nn = us.length - k ∧ k ≤ us.length) (us.length - (0)) ⟨0, h.only ⟨rfl, slot_int rfl rfl, rfl, rfl, slot_int rfl (by omega), trivial⟩, s.as trivial, rfl, Nat.zero_le _⟩ ?_
  rintro _ f w1 ⟨k, h, s, hnn, hp0⟩
  refine c_seq fun K5 hK5 => ?_
  refine c_region ?_
  refine s_pure h (ru_lss (h.ev rfl) (h.ev rfl)) rfl ?_; intro f h
  refine s_nil ?_
  refine hK5 _ _ ?_
  refine c_seq fun K6 hK6 => ?_
  refine c_cond h rfl (fun hc => ?_) (fun hc => ?_)
  · replace hc := of_decide_eq_true hc
    refine wpIn_skip ?_
    refine hK6 _ _ ?_
    refine c_seq fun K7 hK7 => ?_
    refine wpIn_block ?_
    refine c_seq fun K8 hK8 => ?_
    refine c_region ?_
    have hkl : k < us.length := by omega
    refine s_pure h (ru_ixz (hv.keep s.ext) (k) Try.underlying70 szo22 (h.ev rfl) (h.ev rfl) (by omega) (by omega)) rfl ?_; intro f h
    refine s_load_at1 ((hv.keep s.ext).el1 (k) (V := us.getD k undef) (getD_el hkl)) h one22 rfl rfl ?_; intro f h
    refine s_pure h (ru_assign (h.ev rfl)) rfl ?_; intro f h
    refine s_nil ?_
    refine hK8 _ _ ?_
    refine c_seq fun K9 hK9 => ?_
    refine c_region ?_
    refine s_pure h (ru_move (h.ev rfl)) rfl ?_; intro f h
    refine s_pure h (ru_move (h.ev rfl)) rfl ?_; intro f h
    refine s_pure h (ru_lenZ ((hr k hkl).keep s.ext) Try.underlying22 (h.ev rfl)) rfl ?_; intro f h
    have hk1 := catT_len ls k (by omega)
    have hk2 := catT_le ls (k + 1)
    refine s_pure h (ru_add (h.ev rfl) (h.ev rfl) (by omega)) rfl ?_; intro f h
    refine s_pure h (ru_assign (h.ev rfl)) rfl ?_; intro f h
    refine s_nil ?_
    refine hK9 _ _ ?_
    refine c_seq fun K10 hK10 => ?_
    refine c_region ?_
    refine s_pure h (ru_move (h.ev rfl)) rfl ?_; intro f h
    refine s_pure h (ru_val (.bool false) (ru_lss (h.ev rfl) (h.ev rfl)) (congrArg Value.bool (decide_eq_false (by omega)))) rfl ?_; intro f h
    refine s_nil ?_
    refine hK10 _ _ ?_
    refine wpIn_cond_false (h.ev rfl) ?_
    refine wpIn_skip ?_
    refine b_norm ?_
    refine hK7 _ _ ?_
    refine c_region ?_
    refine s_pure h (ru_add (h.ev rfl) (h.ev rfl) (by omega)) rfl ?_; intro f h
    refine s_pure h (ru_move (h.ev rfl)) rfl ?_; intro f h
    refine s_nil ?_
    refine t_norm ?_
    exact ⟨_, by omega, ⟨k + 1, h.only ⟨rfl, slot_int rfl (by omega), rfl, rfl, slot_int rfl (by omega), trivial⟩, St.as s trivial, rfl, by omega⟩⟩
  · replace hc := of_decide_eq_false hc
    refine wpIn_exit ?_
    refine t_exit ?_
    refine t_exit ?_
    refine b_exit ?_
    refine hK3 _ _ ?_
    refine c_seq fun K11 hK11 => ?_
    refine c_region ?_
    obtain rfl : k = us.length := by omega
    refine s_pure h (ru_val (.int .i64 ((ls.flatten.length : Nat) : Int)) (ru_move (h.ev rfl)) (by rw [hls, List.take_length])) rfl ?_; intro f h
    refine s_call h s fnc49 (tgrow_any ls.flatten.length (by omega) _) rfl rfl ?_; intro f w1 v24 hT hE h sq; replace s := s.sl_new hE hT
    refine s_pure h (ru_assign (h.ev rfl)) rfl ?_; intro f h
    refine s_nil ?_
    refine hK11 _ _ ?_
    refine c_seq fun K12 hK12 => ?_
    refine c_seq fun K13 hK13 => ?_
    refine c_region ?_
    refine s_pure h (ru_move (h.ev rfl)) rfl ?_; intro f h
    refine s_pure h (ru_lenZ (hv.keep s.ext) Try.underlying70 (h.ev rfl)) rfl ?_; intro f h
    refine s_pure h (ru_move (h.ev rfl)) rfl ?_; intro f h
    refine s_nil ?_
    refine hK13 _ _ ?_
    refine wpIn_block ?_
    refine wpIn_loop_ghost (fun nn aa ww => ∃ i : Nat, ∃ vb : Value, Sl 36 aa [(0, vh), (6, vb), (25, vh), (26, .int .i64 (us.length : Int)), (27, .int .i64 (i : Int))] ∧ St w [.sl vb 28 67 (ls.take i).flatten.length (tgCells (ls.take i).flatten)] ww ∧ nn = us.length - i ∧ i ≤ us.length) (us.length - (0)) ⟨0, v24, h.only ⟨rfl, rfl, rfl, rfl, slot_int rfl (by omega), trivial⟩, s.as ⟨sl_eq rfl rfl, trivial⟩, rfl, Nat.zero_le _⟩ ?_
    rintro _ f w1 ⟨i, vb, h, s, hnn, hp0⟩
    refine c_seq fun K14 hK14 => ?_
    refine c_region ?_
    refine s_pure h (ru_lss (h.ev rfl) (h.ev rfl)) rfl ?_; intro f h
    refine s_nil ?_
    refine hK14 _ _ ?_
    refine c_seq fun K15 hK15 => ?_
    refine c_cond h rfl (fun hc => ?_) (fun hc => ?_)
    · replace hc := of_decide_eq_true hc
      refine wpIn_skip ?_
      refine hK15 _ _ ?_
      refine c_seq fun K16 hK16 => ?_
      refine wpIn_block ?_
      refine c_seq fun K17 hK17 => ?_
      refine c_region ?_
      have hkl : i < us.length := by omega
      have hk1 := catT_len ls i (by omega)
      have hk2 := catT_le ls (i + 1)
      refine s_pure h (ru_ixz (hv.keep s.ext) (i) Try.underlying70 szo22 (h.ev rfl) (h.ev rfl) (by omega) (by omega)) rfl ?_; intro f h
      refine s_load_at1 ((hv.keep s.ext).el1 (i) (V := us.getD i undef) (getD_el hkl)) h one22 rfl rfl ?_; intro f h
      refine s_pure h (ru_assign (h.ev rfl)) rfl ?_; intro f h
      refine s_nil ?_
      refine hK17 _ _ ?_
      refine c_region ?_
      refine s_pure h (ru_move (h.ev rfl)) rfl ?_; intro f h
      refine s_pure h (ru_move (h.ev rfl)) rfl ?_; intro f h
      refine s_append_rd 0 ((hr i hkl).keep s.ext) h s Try.underlying22 elm28 rfl rfl rfl (tgCells_ones _) (by unfold maxLen; omega) (by omega) rfl ?_; intro f w1 v33 h s
      refine s_pure h (ru_assign (h.ev rfl)) rfl ?_; intro f h
      refine s_nil ?_
      refine b_norm ?_
      refine hK16 _ _ ?_
      refine c_region ?_
      refine s_pure h (ru_add (h.ev rfl) (h.ev rfl) (by omega)) rfl ?_; intro f h
      refine s_pure h (ru_move (h.ev rfl)) rfl ?_; intro f h
      refine s_nil ?_
      refine t_norm ?_
      exact ⟨_, by omega, ⟨i + 1, v33, h.only ⟨rfl, rfl, rfl, rfl, slot_int rfl (by omega), trivial⟩, St.as s ⟨sl_eq (catT_len ls i (by omega)) (catT_cells ls i (by omega)), trivial⟩, rfl, by omega⟩⟩
    · replace hc := of_decide_eq_false hc
      refine wpIn_exit ?_
      refine t_exit ?_
      refine t_exit ?_
      refine b_exit ?_
      refine hK12 _ _ ?_
      refine c_seq fun K18 hK18 => ?_
      refine c_region ?_
      refine s_pure h (ru_move (h.ev rfl)) rfl ?_; intro f h
      refine s_pure h (ru_assign (h.ev rfl)) rfl ?_; intro f h
      refine s_nil ?_
      refine hK18 _ _ ?_
      refine wpIn_ret ?_
      exact e_tmp rfl h s rfl (concatT_fin (by omega) (s.getSl 0 rfl))

theorem tclone_ok (l : List Tg) (hln : l.length ≤ 1000) (a9 : Option Addr) (n9 c9 : Nat) (w : World) (hR : RdZ w (.slice a9 n9 c9) 67 l.length (tgCells l)) : Calls Try.prog 29 [.slice a9 n9 c9].toArray w (Ret w (fun v w' => Owns w' w.heap.size 28 67 v l.length (tgCells l))) := by
  refine c_enter Try.func29 rfl Try.ntmps29 rfl [(0, .slice a9 n9 c9)] (by simp) fun f h => ?_
  have s := St.start w
  refine c_seq fun K1 hK1 => ?_
  refine c_region ?_
  refine s_pure h (ru_assign (h.ev rfl)) rfl ?_; intro f h
  refine s_nil ?_
  refine hK1 _ _ ?_
  refine c_seq fun K2 hK2 => ?_
  refine c_seq fun K3 hK3 => ?_
  cases hn : (a9.isNone : Bool)
  · skip
    refine c_region ?_
    refine s_pure h (ru_move (h.ev rfl)) rfl ?_; intro f h
    refine s_pure h (ru_val (.bool false) (ru_eql_nilS Try.underlying22 (h.ev rfl) (h.ev rfl)) (congrArg Value.bool hn)) rfl ?_; intro f h
    refine s_nil ?_
    refine hK3 _ _ ?_
    refine wpIn_cond_false (h.ev rfl) ?_
    refine wpIn_skip ?_
    refine hK2 _ _ ?_
    refine c_seq fun K4 hK4 => ?_
    refine c_region ?_
    refine s_bslice0 (base := w.heap.size) h Try.underlying22 elm28 (Nat.le_refl _) rfl ?_; intro f w2 v5 h hE3 e5
    refine s_pure h (ru_move (h.ev rfl)) rfl ?_; intro f h
    refine s_append_emp (base := w.heap.size) e5 (hR.keep hE3) h Try.underlying22 elm28 rfl rfl hE3.le (tgCells_ones _) (by unfold maxLen; omega) (by omega) rfl ?_; intro f w3 v7 h hE4 e7
    replace s := s.sl_new (hE3.trans hE4) e7
    refine s_pure h (ru_assign (h.ev rfl)) rfl ?_; intro f h
    refine s_nil ?_
    refine hK4 _ _ ?_
    refine wpIn_ret ?_
    exact e_tmp rfl h s rfl (s.getSl 0 rfl)
  · skip
    refine c_region ?_
    refine s_pure h (ru_move (h.ev rfl)) rfl ?_; intro f h
    refine s_pure h (ru_val (.bool true) (ru_eql_nilS Try.underlying22 (h.ev rfl) (h.ev rfl)) (congrArg Value.bool hn)) rfl ?_; intro f h
    refine s_nil ?_
    refine hK3 _ _ ?_
    refine wpIn_cond_true (h.ev rfl) ?_
    refine c_seq fun K5 hK5 => ?_
    refine c_region ?_
    refine s_pure h (ru_assign (h.ev rfl)) rfl ?_; intro f h
    refine s_nil ?_
    refine hK5 _ _ ?_
    refine wpIn_ret ?_
    refine t_ret ?_
    exact e_tmp rfl h s rfl (by obtain rfl := clone_nilT hn hR; exact owns_nil _ _ _ _)

theorem tclone_any (l : List Tg) (hln : l.length ≤ 1000) (v9 : Value) (w : World) (hR : RdZ w v9 67 l.length (tgCells l)) : Calls Try.prog 29 [v9].toArray w (Ret w (fun v w' => Owns w' w.heap.size 28 67 v l.length (tgCells l))) := by
  obtain ⟨a, c, rfl⟩ := hR.len
  exact tclone_ok l hln a _ c w hR

set_option maxHeartbeats 1000000 in
theorem tput_any (l : List Tg) (vh : Value) (x : Tg) (w : World) (hR : RdZ w vh 67 l.length (tgCells l)) (hln : l.length ≤ 1000) : Calls Try.prog 9 [vh, .agg (tgArr x)].toArray w (Ret w (TbP w vh l (putR l x) (putE l x))) := by
  refine c_enter Try.func9 rfl Try.ntmps9 rfl [(0, vh), (1, .agg (tgArr x))] (by simp) fun f h => ?_
  have s := St.start w
  refine c_seq fun K1 hK1 => ?_
  refine c_region ?_
  refine s_box (tgArr x) h s rfl rfl rfl ?_; intro f w1 b3 h s
  refine s_pure h (ru_assign (h.ev rfl)) rfl ?_; intro f h
  refine s_pure h (ru_assign (h.ev rfl)) rfl ?_; intro f h
  refine s_nil ?_
  refine hK1 _ _ ?_
  refine c_seq fun K2 hK2 => ?_
  refine c_seq fun K3 hK3 => ?_
  cases r0 : (rightT l : Bool)
  · skip
    refine c_region ?_
    refine s_pure h (ru_move (h.ev rfl)) rfl ?_; intro f h
    refine s_call h s fnc11 (ret_val (.bool false) (tright_any l vh _ (hR.keep s.ext) hln) (congrArg Value.bool r0)) rfl rfl ?_; intro f w1 v9 hT hE h s; obtain rfl := hT
    refine s_pure h (ru_val (.bool true) (ru_not (h.ev rfl)) rfl) rfl ?_; intro f h
    refine s_pure h (ru_move (h.ev rfl)) rfl ?_; intro f h
    refine s_off (b := false) h rfl rfl rfl rfl ?_; intro f h
    refine s_off (b := false) h rfl rfl rfl rfl ?_; intro f h
    refine s_off (b := false) h rfl rfl rfl rfl ?_; intro f h
    refine s_pure h (ru_pick_t (h.ev rfl) (h.ev rfl)) rfl ?_; intro f h
    refine s_nil ?_
    refine hK3 _ _ ?_
    refine wpIn_cond_true (h.ev rfl) ?_
    refine c_seq fun K4 hK4 => ?_
    refine c_region ?_
    refine s_pure h (ru_assign (h.ev rfl)) rfl ?_; intro f h
    refine s_pure h (ru_assign (h.ev rfl)) rfl ?_; intro f h
    refine s_nil ?_
    refine hK4 _ _ ?_
    refine wpIn_ret ?_
    refine t_ret ?_
    exact e_tmps rfl h s rfl rfl (tbP_nil (tb_bad r0 x).1 (tb_bad r0 x).2 (s.sel [] rfl (by decide)))
  · skip
    cases m0 : (mayT x : Bool)
    · skip
      refine c_region ?_
      refine s_pure h (ru_move (h.ev rfl)) rfl ?_; intro f h
      refine s_call h s fnc11 (ret_val (.bool true) (tright_any l vh _ (hR.keep s.ext) hln) (congrArg Value.bool r0)) rfl rfl ?_; intro f w1 v9 hT hE h s; obtain rfl := hT
      refine s_pure h (ru_val (.bool false) (ru_not (h.ev rfl)) rfl) rfl ?_; intro f h
      refine s_pure h (ru_move (h.ev rfl)) rfl ?_; intro f h
      refine s_on h rfl rfl rfl ?_
      refine s_load_row 0 h s row28 rfl rfl (tgArr_size _) rfl ?_; intro f h
      refine s_on h rfl rfl rfl ?_
      refine s_call h s fnc27 (ret_val (.bool false) (isright_any x _) (congrArg Value.bool m0)) rfl rfl ?_; intro f w1 v9 hT hE h s; obtain rfl := hT
      refine s_on h rfl rfl rfl ?_
      refine s_pure h (ru_val (.bool true) (ru_not (h.ev rfl)) rfl) rfl ?_; intro f h
      refine s_pure h (ru_pick_f (h.ev rfl) (h.ev rfl)) rfl ?_; intro f h
      refine s_nil ?_
      refine hK3 _ _ ?_
      refine wpIn_cond_true (h.ev rfl) ?_
      refine c_seq fun K5 hK5 => ?_
      refine c_region ?_
      refine s_pure h (ru_assign (h.ev rfl)) rfl ?_; intro f h
      refine s_pure h (ru_assign (h.ev rfl)) rfl ?_; intro f h
      refine s_nil ?_
      refine hK5 _ _ ?_
      refine wpIn_ret ?_
      refine t_ret ?_
      exact e_tmps rfl h s rfl rfl (tbP_nil (tb_may l m0).1 (tb_may l m0).2 (s.sel [] rfl (by decide)))
    · skip
      refine c_region ?_
      refine s_pure h (ru_move (h.ev rfl)) rfl ?_; intro f h
      refine s_call h s fnc11 (ret_val (.bool true) (tright_any l vh _ (hR.keep s.ext) hln) (congrArg Value.bool r0)) rfl rfl ?_; intro f w1 v9 hT hE h s; obtain rfl := hT
      refine s_pure h (ru_val (.bool false) (ru_not (h.ev rfl)) rfl) rfl ?_; intro f h
      refine s_pure h (ru_move (h.ev rfl)) rfl ?_; intro f h
      refine s_on h rfl rfl rfl ?_
      refine s_load_row 0 h s row28 rfl rfl (tgArr_size _) rfl ?_; intro f h
      refine s_on h rfl rfl rfl ?_
      refine s_call h s fnc27 (ret_val (.bool true) (isright_any x _) (congrArg Value.bool m0)) rfl rfl ?_; intro f w1 v9 hT hE h s; obtain rfl := hT
      refine s_on h rfl rfl rfl ?_
      refine s_pure h (ru_val (.bool false) (ru_not (h.ev rfl)) rfl) rfl ?_; intro f h
      refine s_pure h (ru_pick_f (h.ev rfl) (h.ev rfl)) rfl ?_; intro f h
      refine s_nil ?_
      refine hK3 _ _ ?_
      refine wpIn_cond_false (h.ev rfl) ?_
      refine wpIn_skip ?_
      refine hK2 _ _ ?_
      refine c_seq fun K6 hK6 => ?_
      refine c_region ?_
      have hrt := rt_iff.1 r0
      have hl32 := hrt.len
      refine s_pure h (ru_move (h.ev rfl)) rfl ?_; intro f h
      refine s_load_row 0 h s row28 rfl rfl (tgArr_size _) rfl ?_; intro f h
      refine s_call h s fnc28 (tfind_any l vh x _ (hR.keep s.ext) hln hrt.srt) rfl rfl ?_; rintro f w1 v19 ⟨n, b, rfl, hf9⟩ hE h s
      refine s_pure h (ru_move (h.ev rfl)) rfl ?_; intro f h
      refine s_pure h (ru_extract (h.ev rfl) rfl) rfl ?_; intro f h
      refine s_pure h (ru_extract (h.ev rfl) rfl) rfl ?_; intro f h
      refine s_pure h (ru_assign (h.ev rfl)) rfl ?_; intro f h
      refine s_pure h (ru_assign (h.ev rfl)) rfl ?_; intro f h
      refine s_nil ?_
      refine hK6 _ _ ?_
      refine c_seq fun K7 hK7 => ?_
      refine c_seq fun K8 hK8 => ?_
      cases b9 : (b : Bool)
      · skip
        refine c_region ?_
        refine s_pure h (ru_val (.bool false) (ru_move (h.ev rfl)) (congrArg Value.bool b9)) rfl ?_; intro f h
        refine s_nil ?_
        refine hK8 _ _ ?_
        refine wpIn_cond_false (h.ev rfl) ?_
        refine wpIn_skip ?_
        refine hK7 _ _ ?_
        refine c_seq fun K9 hK9 => ?_
        refine c_seq fun K10 hK10 => ?_
        refine c_region ?_
        rw [b9] at hf9
        have hnl := hf9.le
        refine s_pure h (ru_move (h.ev rfl)) rfl ?_; intro f h
        refine s_pure h (ru_lenZ (hR.keep s.ext) Try.underlying22 (h.ev rfl)) rfl ?_; intro f h
        refine s_pure h (ru_eql (h.ev rfl) (h.ev rfl)) rfl ?_; intro f h
        refine s_nil ?_
        refine hK10 _ _ ?_
        refine c_cond h rfl (fun hc => ?_) (fun hc => ?_)
        · have h32 : l.length = 32 := by have := of_decide_eq_true hc; omega
          refine c_seq fun K11 hK11 => ?_
          refine c_region ?_
          refine s_pure h (ru_assign (h.ev rfl)) rfl ?_; intro f h
          refine s_pure h (ru_assign (h.ev rfl)) rfl ?_; intro f h
          refine s_nil ?_
          refine hK11 _ _ ?_
          refine wpIn_ret ?_
          refine t_ret ?_
          exact e_tmps rfl h s rfl rfl (tbP_nil (pt_no hrt m0 hf9 h32).1 (pt_no hrt m0 hf9 h32).2 (s.sel [] rfl (by decide)))
        · have h32 : ¬ l.length = 32 := by have := of_decide_eq_false hc; omega
          refine wpIn_skip ?_
          refine hK9 _ _ ?_
          refine c_seq fun K12 hK12 => ?_
          refine c_regT 0 10 [[], [], [0, 1], [], [3], [], [], [5, 6], [0, 1, 2, 3, 4, 5, 6, 7], [0, 1, 2, 3, 4, 5, 6, 7, 8], [0, 1, 2, 3, 4, 5, 6, 7, 8, 9], [0, 1, 2, 3, 4, 5, 6, 7, 8, 9, 10]] [[], [], [], [], [], [], [], [], [], [8, 4], [], []] [fun _ => [], fun _ => [], fun _ => [], fun _ => [], fun v => [.sl (v 4) 28 67 [x].length (tgCells [x])], fun _ => [], fun _ => [], fun _ => [], fun v => [.sl (v 8) 22 1 3 [cutV vh n, (v 4), dropV vh 67 n]], fun v => [.sl (v 9) 28 67 (l.take n ++ ([x] ++ l.drop n)).length (tgCells (l.take n ++ ([x] ++ l.drop n)))], fun _ => [], fun _ => []] [] [fun v => v 0 = vh, fun v => v 1 = .int .i64 (n : Int), fun v => v 2 = cutV vh n, fun v => v 3 = .agg (tgArr x), fun v => (v 4).oneCell' = true, fun v => v 5 = vh, fun v => v 6 = .int .i64 (n : Int), fun v => v 7 = (dropV vh 67 n), fun _ => True, fun _ => True, fun _ => True, fun _ => True] [.blk b3 (.cells (tgArr x) 28)] h s rfl (by kernel_rfl) (by kernel_rfl) (by kernel_rfl) (And.intro ?_ (And.intro ?_ (And.intro ?_ (And.intro ?_ (And.intro ?_ (And.intro ?_ (And.intro ?_ (And.intro ?_ (And.intro ?_ (And.intro ?_ (trivial))))))))))) [0, 1, 2, 3, 5, 6, 7, 9] (by kernel_rfl) ?_
          · intro f9 w2 vl10 E9 hs9 hd9 hl hF s
            have e0 : f9.tmps.getD 0 undef = _ := oc_old hl 0 (by kernel_rfl) (by kernel_rfl) (h.holds 0 _ rfl)
            have h := fin_slot [(0, _)] (hs9.trans h.size) (hd9.trans h.defers) (holds_lk ⟨e0, trivial⟩)
            replace s : St w (.blk b3 (.cells (tgArr x) 28) :: E9) _ := s
            refine s_pure h (ru_move (h.ev rfl)) rfl ?_; intro f h
            exact s_nil ⟨_, oc_out 41 rfl (h.holds 41 _ rfl), rfl, s⟩
          · intro f9 w2 vl10 E9 hs9 hd9 hl hF s
            have e6 : f9.tmps.getD 6 undef = _ := oc_old hl 6 (by kernel_rfl) (by kernel_rfl) (h.holds 6 _ rfl)
            have h := fin_slot [(6, _)] (hs9.trans h.size) (hd9.trans h.defers) (holds_lk ⟨e6, trivial⟩)
            replace s : St w (.blk b3 (.cells (tgArr x) 28) :: E9) _ := s
            refine s_pure h (ru_move (h.ev rfl)) rfl ?_; intro f h
            exact s_nil ⟨_, oc_out 42 rfl (h.holds 42 _ rfl), rfl, s⟩
          · intro f9 w2 vl10 E9 hs9 hd9 hl hF s
            have e41 : f9.tmps.getD 41 undef = vh := (oc_get hl 41 0 (by kernel_rfl) (by kernel_rfl)).trans (hF 0 (by decide))
            have e42 : f9.tmps.getD 42 undef = .int .i64 (n : Int) := (oc_get hl 42 1 (by kernel_rfl) (by kernel_rfl)).trans (hF 1 (by decide))
            have h := fin_slot [(41, vh), (42, .int .i64 (n : Int))] (hs9.trans h.size) (hd9.trans h.defers) (holds_lk ⟨e41, e42, trivial⟩)
            replace s : St w (.blk b3 (.cells (tgArr x) 28) :: E9) _ := s
            refine s_pure h (ru_slice_hiZ (hR.keep s.ext) (n) Try.underlying22 szo28 (h.ev rfl) (h.ev rfl) (rfl) (by omega)) rfl ?_; intro f h
            exact s_nil ⟨_, oc_out 43 rfl (h.holds 43 _ rfl), rfl, s⟩
          · intro f9 w2 vl10 E9 hs9 hd9 hl hF s
            have e3 : f9.tmps.getD 3 undef = _ := oc_old hl 3 (by kernel_rfl) (by kernel_rfl) (h.holds 3 _ rfl)
            have h := fin_slot [(3, _)] (hs9.trans h.size) (hd9.trans h.defers) (holds_lk ⟨e3, trivial⟩)
            replace s : St w (.blk b3 (.cells (tgArr x) 28) :: E9) _ := s
            refine s_load_row 0 h s row28 rfl rfl (tgArr_size _) rfl ?_; intro f h
            exact s_nil ⟨_, oc_out 44 rfl (h.holds 44 _ rfl), rfl, s⟩
          · intro f9 w2 vl10 E9 hs9 hd9 hl hF s
            have e44 : f9.tmps.getD 44 undef = .agg (tgArr x) := (oc_get hl 44 3 (by kernel_rfl) (by kernel_rfl)).trans (hF 3 (by decide))
            have h := fin_slot [(44, .agg (tgArr x))] (hs9.trans h.size) (hd9.trans h.defers) (holds_lk ⟨e44, trivial⟩)
            replace s : St w (.blk b3 (.cells (tgArr x) 28) :: E9) _ := s
            refine s_bslice (vs := [.agg (tgArr x)]) [.tmp 44] h s Try.underlying22 elm28 rfl rfl (tg_sz _) rfl rfl rfl ?_; intro f w1 v45 h s
            replace s := s.resl (m := [x].length) (ys := tgCells [x]) 0 rfl rfl (by rw [one_tg, tgCells_one])
            exact s_nil ⟨_, oc_out 45 rfl (h.holds 45 _ rfl), own_one (s.getSl 0 rfl), s⟩
          · intro f9 w2 vl10 E9 hs9 hd9 hl hF s
            have e0 : f9.tmps.getD 0 undef = _ := oc_old hl 0 (by kernel_rfl) (by kernel_rfl) (h.holds 0 _ rfl)
            have h := fin_slot [(0, _)] (hs9.trans h.size) (hd9.trans h.defers) (holds_lk ⟨e0, trivial⟩)
            replace s : St w (.blk b3 (.cells (tgArr x) 28) :: E9) _ := s
            refine s_pure h (ru_move (h.ev rfl)) rfl ?_; intro f h
            exact s_nil ⟨_, oc_out 46 rfl (h.holds 46 _ rfl), rfl, s⟩
          · intro f9 w2 vl10 E9 hs9 hd9 hl hF s
            have e6 : f9.tmps.getD 6 undef = _ := oc_old hl 6 (by kernel_rfl) (by kernel_rfl) (h.holds 6 _ rfl)
            have h := fin_slot [(6, _)] (hs9.trans h.size) (hd9.trans h.defers) (holds_lk ⟨e6, trivial⟩)
            replace s : St w (.blk b3 (.cells (tgArr x) 28) :: E9) _ := s
            refine s_pure h (ru_move (h.ev rfl)) rfl ?_; intro f h
            exact s_nil ⟨_, oc_out 47 rfl (h.holds 47 _ rfl), rfl, s⟩
          · intro f9 w2 vl10 E9 hs9 hd9 hl hF s
            have e46 : f9.tmps.getD 46 undef = vh := (oc_get hl 46 5 (by kernel_rfl) (by kernel_rfl)).trans (hF 5 (by decide))
            have e47 : f9.tmps.getD 47 undef = .int .i64 (n : Int) := (oc_get hl 47 6 (by kernel_rfl) (by kernel_rfl)).trans (hF 6 (by decide))
            have h := fin_slot [(46, vh), (47, .int .i64 (n : Int))] (hs9.trans h.size) (hd9.trans h.defers) (holds_lk ⟨e46, e47, trivial⟩)
            replace s : St w (.blk b3 (.cells (tgArr x) 28) :: E9) _ := s
            refine s_pure h (ru_slice_loZ (hR.keep s.ext) (n) Try.underlying22 szo28 (h.ev rfl) (h.ev rfl) (rfl) (by omega)) rfl ?_; intro f h
            exact s_nil ⟨_, oc_out 48 rfl (h.holds 48 _ rfl), rfl, s⟩
          · intro f9 w2 vl10 E9 hs9 hd9 hl hF s
            have e43 : f9.tmps.getD 43 undef = cutV vh n := (oc_get hl 43 2 (by kernel_rfl) (by kernel_rfl)).trans (hF 2 (by decide))
            have e45 : f9.tmps.getD 45 undef = (vl10 4) := oc_get hl 45 4 (by kernel_rfl) (by kernel_rfl)
            have e48 : f9.tmps.getD 48 undef = (dropV vh 67 n) := (oc_get hl 48 7 (by kernel_rfl) (by kernel_rfl)).trans (hF 7 (by decide))
            have h := fin_slot [(43, cutV vh n), (45, (vl10 4)), (48, (dropV vh 67 n))] (hs9.trans h.size) (hd9.trans h.defers) (holds_lk ⟨e43, e45, e48, trivial⟩)
            replace s : St w (.blk b3 (.cells (tgArr x) 28) :: E9) _ := s
            refine s_bslice (vs := [cutV vh n, (vl10 4), dropV vh 67 n]) [.tmp 43, .tmp 45, .tmp 48] h s Try.underlying70 elm22 rfl rfl (by intro v hv; simp only [List.mem_cons, List.not_mem_nil, or_false] at hv; rcases hv with rfl | rfl | rfl; exact rd_size (tg_take (hR.keep s.ext) n (by omega)); exact (cell1 (hF 4 (by decide))).1; exact rd_size (tg_drop (hR.keep s.ext) n (by omega))) rfl rfl rfl ?_; intro f w1 v49 h s
            replace s := s.resl (m := 3) (ys := [cutV vh n, (vl10 4), dropV vh 67 n]) 0 rfl rfl (by simp [rd_cells (tg_take (hR.keep s.ext) n (by omega)), show (vl10 4).cells.toList = [vl10 4] from (cell1 (hF 4 (by decide))).2, rd_cells (tg_drop (hR.keep s.ext) n (by omega))])
            exact s_nil ⟨_, oc_out 49 rfl (h.holds 49 _ rfl), trivial, s⟩
          · intro f9 w2 vl10 E9 hs9 hd9 hl hF s
            have e49 : f9.tmps.getD 49 undef = (vl10 8) := oc_get hl 49 8 (by kernel_rfl) (by kernel_rfl)
            have h := fin_slot [(49, (vl10 8))] (hs9.trans h.size) (hd9.trans h.defers) (holds_lk ⟨e49, trivial⟩)
            replace s : St w (.sl (vl10 8) 22 1 3 [cutV vh n, (vl10 4), dropV vh 67 n] :: .sl (vl10 4) 28 67 [x].length (tgCells [x]) :: .blk b3 (.cells (tgArr x) 28) :: E9) _ := s
            refine s_call h s fnc30 (tconcat_any (vl10 8) [cutV vh n, (vl10 4), dropV vh 67 n] [l.take n, [x], l.drop n] rfl (by rw [threeT_flat]; simp only [List.length_append, List.length_take, List.length_drop, List.length_cons, List.length_nil]; omega) (by simp) _ (RdZ.of_own (s.getSl 0 rfl)) (threeT_rd (tg_take (hR.keep s.ext) n (by omega)) (RdZ.of_own (s.getSl 1 rfl)) (tg_drop (hR.keep s.ext) n (by omega)))) rfl rfl ?_; intro f w1 v9_ hT hE h sq
            replace s := s.sl_new hE (hT.seq (m := (l.take n ++ ([x] ++ l.drop n)).length) (ys := tgCells (l.take n ++ ([x] ++ l.drop n))) (by rw [threeT_flat]) (by rw [threeT_flat]))
            exact s_nil ⟨_, oc_out 50 rfl (h.holds 50 _ rfl), trivial, (s.pick _ (List.Sublist.cons_cons _ (List.Sublist.cons _ (List.Sublist.cons _ (List.Sublist.cons_cons _ (List.Sublist.refl _))))))⟩
          intro f w1 vl10 hs9 hd9 hv hr hF s
          replace hv := fun i d h9 => hv i d (show Nat.blt i 10 = true from h9)
          replace h := oc_slT 10 (ops := _) [(41, vh), (42, .int .i64 (n : Int)), (43, cutV vh n), (44, .agg (tgArr x)), (45, (vl10 4)), (46, vh), (47, .int .i64 (n : Int)), (48, (dropV vh 67 n)), (49, (vl10 8)), (50, (vl10 9))] h hs9 hd9 hr ⟨(hv 0 41 rfl rfl).trans (hF 0 (by kernel_rfl)), (hv 1 42 rfl rfl).trans (hF 1 (by kernel_rfl)), (hv 2 43 rfl rfl).trans (hF 2 (by kernel_rfl)), (hv 3 44 rfl rfl).trans (hF 3 (by kernel_rfl)), hv 4 45 rfl rfl, (hv 5 46 rfl rfl).trans (hF 5 (by kernel_rfl)), (hv 6 47 rfl rfl).trans (hF 6 (by kernel_rfl)), (hv 7 48 rfl rfl).trans (hF 7 (by kernel_rfl)), hv 8 49 rfl rfl, hv 9 50 rfl rfl, trivial⟩ (by kernel_rfl)
          replace s : St w [.sl (vl10 9) 28 67 (l.take n ++ ([x] ++ l.drop n)).length (tgCells (l.take n ++ ([x] ++ l.drop n))), .blk b3 (.cells (tgArr x) 28)] _ := s
          refine s_pure h (ru_assign (h.ev rfl)) rfl ?_; intro f h
          refine s_pure h (ru_assign (h.ev rfl)) rfl ?_; intro f h
          refine s_nil ?_
          refine hK12 _ _ ?_
          refine wpIn_ret ?_
          exact e_tmps rfl h s rfl rfl (tbP_own (pt_in hrt m0 hf9 h32).1 (pt_in hrt m0 hf9 h32).2 (s.sel [0] rfl (by decide)))
      · skip
        refine c_region ?_
        refine s_pure h (ru_val (.bool true) (ru_move (h.ev rfl)) (congrArg Value.bool b9)) rfl ?_; intro f h
        refine s_nil ?_
        refine hK8 _ _ ?_
        refine wpIn_cond_true (h.ev rfl) ?_
        refine c_seq fun K13 hK13 => ?_
        refine c_region ?_
        rw [b9] at hf9
        have hnl := (fdT_y hrt.srt hf9).1
        refine s_pure h (ru_move (h.ev rfl)) rfl ?_; intro f h
        refine s_call h s fnc29 (tclone_any l hln vh _ (hR.keep s.ext)) rfl rfl ?_; intro f w1 v24 hT hE h sq; replace s := s.sl_new hE hT
        refine s_pure h (ru_assign (h.ev rfl)) rfl ?_; intro f h
        refine s_nil ?_
        refine hK13 _ _ ?_
        refine c_seq fun K14 hK14 => ?_
        refine c_walkN 12 [[], [], [], [], [2, 3], [2, 3, 4], [2, 3, 4, 5], [], [7], [2, 3, 4, 5, 6, 7, 8], [0, 1, 2, 3, 4, 5, 6, 7, 8, 9], [0, 1, 2, 3, 4, 5, 6, 7, 8, 9, 10]] h (by kernel_rfl) (by kernel_rfl) (by kernel_rfl) ?_
        refine w_pure h (ru_move (h.ev rfl)) rfl ?_; intro f h
        refine w_pure h (ru_move (h.ev rfl)) rfl ?_; intro f h
        refine w_pure h (ru_move (h.ev rfl)) rfl ?_; intro f h
        refine w_pure h (ru_move (h.ev rfl)) rfl ?_; intro f h
        refine w_pure h (ru_ixz (RdZ.of_own (s.getSl 0 rfl)) (n) Try.underlying22 szo28 (h.ev rfl) (h.ev rfl) (rfl) (by omega)) rfl ?_; intro f h
        refine w_pure h (ru_fieldE fld28_2 (h.ev rfl) ((RdZ.of_own (s.getSl 0 rfl)).some (by omega))) rfl ?_; intro f h
        refine w_load_at1 (V := .int .i64 (l.getD n zTg).2.2) (rdz_at (RdZ.of_own (s.getSl 0 rfl)) (n * 67 + 66) (tgr_u l n hnl)) h one3 rfl rfl ?_; intro f h
        refine w_pure h (ru_field fld28_2 (h.ev rfl)) rfl ?_; intro f h
        refine w_load_at1 (cell_of_has (Has.of_own s 1 rfl) 66 (tgArr_until _)) h one3 rfl rfl ?_; intro f h
        refine w_pure h (ru_val (.int .i64 (max (l.getD n zTg).2.2 x.2.2)) (ru_max (h.ev rfl) (h.ev rfl)) (congrArg (Value.int .i64) (by split <;> omega))) rfl ?_; intro f h
        refine w_pure h (ru_ixz (RdZ.of_own (s.getSl 0 rfl)) (n) Try.underlying22 szo28 (h.ev rfl) (h.ev rfl) (rfl) (by omega)) rfl ?_; intro f h
        refine w_pure h (ru_fieldE fld28_2 (h.ev rfl) ((RdZ.of_own (s.getSl 0 rfl)).some (by omega))) rfl ?_; intro f h
        refine w_nil s fun w1 s => ?_
        refine s_store_el1 0 h s one3 rfl rfl rfl (by omega) (rfl) (tg_set hnl (upT l x n) 66 _ (by decide) (tg_setU _ _)) ?_; intro w1 s
        replace s := s.resl (m := (l.set n (upT l x n)).length) (ys := tgCells (l.set n (upT l x n))) 0 rfl (by rw [List.length_set]) (rfl)
        refine s_nil ?_
        refine hK14 _ _ ?_
        refine c_seq fun K15 hK15 => ?_
        refine c_region ?_
        refine s_pure h (ru_move (h.ev rfl)) rfl ?_; intro f h
        refine s_pure h (ru_assign (h.ev rfl)) rfl ?_; intro f h
        refine s_pure h (ru_assign (h.ev rfl)) rfl ?_; intro f h
        refine s_nil ?_
        refine hK15 _ _ ?_
        refine wpIn_ret ?_
        refine t_ret ?_
        exact e_tmps rfl h s rfl rfl (tbP_own (pt_y hrt m0 hf9).1 (pt_y hrt m0 hf9).2 (s.sel [0] rfl (by decide)))

set_option maxHeartbeats 1000000 in
theorem tdrop_any (l : List Tg) (vh : Value) (i : Id) (e : Ent) (w : World) (hR : RdZ w vh 67 l.length (tgCells l)) (hln : l.length ≤ 1000) : Calls Try.prog 10 [vh, idV i, .agg (eArr e)].toArray w (Ret w (TbP w vh l (drpL l i e) (drpE l i e))) := by
  refine c_enter Try.func10 rfl Try.ntmps10 rfl [(0, vh), (1, idV i), (2, .agg (eArr e))] (by simp) fun f h => ?_
  have s := St.start w
  refine c_seq fun K1 hK1 => ?_
  refine c_region ?_
  refine s_box (idArr i) h s rfl rfl rfl ?_; intro f w1 b4 h s
  refine s_box (eArr e) h s rfl rfl rfl ?_; intro f w1 b5 h s
  refine s_pure h (ru_assign (h.ev rfl)) rfl ?_; intro f h
  refine s_pure h (ru_assign (h.ev rfl)) rfl ?_; intro f h
  refine s_nil ?_
  refine hK1 _ _ ?_
  refine c_seq fun K2 hK2 => ?_
  refine c_seq fun K3 hK3 => ?_
  cases r0 : (rightT l : Bool)
  · skip
    refine c_region ?_
    refine s_pure h (ru_move (h.ev rfl)) rfl ?_; intro f h
    refine s_call h s fnc11 (ret_val (.bool false) (tright_any l vh _ (hR.keep s.ext) hln) (congrArg Value.bool r0)) rfl rfl ?_; intro f w1 v9 hT hE h s; obtain rfl := hT
    refine s_pure h (ru_val (.bool true) (ru_not (h.ev rfl)) rfl) rfl ?_; intro f h
    refine s_nil ?_
    refine hK3 _ _ ?_
    refine wpIn_cond_true (h.ev rfl) ?_
    refine c_seq fun K4 hK4 => ?_
    refine c_region ?_
    refine s_pure h (ru_assign (h.ev rfl)) rfl ?_; intro f h
    refine s_pure h (ru_assign (h.ev rfl)) rfl ?_; intro f h
    refine s_nil ?_
    refine hK4 _ _ ?_
    refine wpIn_ret ?_
    refine t_ret ?_
    exact e_tmps rfl h s rfl rfl (tbP_nil (td_bad r0 i e).1 (td_bad r0 i e).2 (s.sel [] rfl (by decide)))
  · skip
    refine c_region ?_
    refine s_pure h (ru_move (h.ev rfl)) rfl ?_; intro f h
    refine s_call h s fnc11 (ret_val (.bool true) (tright_any l vh _ (hR.keep s.ext) hln) (congrArg Value.bool r0)) rfl rfl ?_; intro f w1 v9 hT hE h s; obtain rfl := hT
    refine s_pure h (ru_val (.bool false) (ru_not (h.ev rfl)) rfl) rfl ?_; intro f h
    refine s_nil ?_
    refine hK3 _ _ ?_
    refine wpIn_cond_false (h.ev rfl) ?_
    refine wpIn_skip ?_
    refine hK2 _ _ ?_
    refine c_seq fun K5 hK5 => ?_
    refine c_region ?_
    have hrt := rt_iff.1 r0
    have hl32 := hrt.len
    refine s_pure h (ru_move (h.ev rfl)) rfl ?_; intro f h
    refine s_load_row 1 h s row24 rfl rfl (by first | exact idArr_size _ | exact bytesF_size _ _) rfl ?_; intro f h
    refine s_load_row 0 h s row26 rfl rfl (eArr_size _) rfl ?_; intro f h
    refine s_pure h (ru_build_tg01 sttG (h.ev rfl) (h.ev rfl)) rfl ?_; intro f h
    refine s_call h s fnc28 (tfind_any l vh (i, e, (0 : Int)) _ (hR.keep s.ext) hln hrt.srt) rfl rfl ?_; rintro f w1 v18 ⟨n, b, rfl, hf9⟩ hE h s
    refine s_pure h (ru_move (h.ev rfl)) rfl ?_; intro f h
    refine s_pure h (ru_extract (h.ev rfl) rfl) rfl ?_; intro f h
    refine s_pure h (ru_extract (h.ev rfl) rfl) rfl ?_; intro f h
    refine s_pure h (ru_assign (h.ev rfl)) rfl ?_; intro f h
    refine s_pure h (ru_assign (h.ev rfl)) rfl ?_; intro f h
    refine s_nil ?_
    refine hK5 _ _ ?_
    refine c_seq fun K6 hK6 => ?_
    refine c_seq fun K7 hK7 => ?_
    cases b9 : (b : Bool)
    · skip
      refine c_region ?_
      refine s_pure h (ru_val (.bool false) (ru_move (h.ev rfl)) (congrArg Value.bool b9)) rfl ?_; intro f h
      refine s_pure h (ru_val (.bool true) (ru_not (h.ev rfl)) rfl) rfl ?_; intro f h
      refine s_nil ?_
      refine hK7 _ _ ?_
      refine wpIn_cond_true (h.ev rfl) ?_
      refine c_seq fun K8 hK8 => ?_
      refine c_region ?_
      refine s_pure h (ru_assign (h.ev rfl)) rfl ?_; intro f h
      refine s_pure h (ru_assign (h.ev rfl)) rfl ?_; intro f h
      refine s_nil ?_
      refine hK8 _ _ ?_
      refine wpIn_ret ?_
      refine t_ret ?_
      exact e_tmps rfl h s rfl rfl (tbP_nil (dp_n hrt (by rw [b9] at hf9; exact hf9)).1 (dp_n hrt (by rw [b9] at hf9; exact hf9)).2 (s.sel [] rfl (by decide)))
    · skip
      refine c_region ?_
      refine s_pure h (ru_val (.bool true) (ru_move (h.ev rfl)) (congrArg Value.bool b9)) rfl ?_; intro f h
      refine s_pure h (ru_val (.bool false) (ru_not (h.ev rfl)) rfl) rfl ?_; intro f h
      refine s_nil ?_
      refine hK7 _ _ ?_
      refine wpIn_cond_false (h.ev rfl) ?_
      refine wpIn_skip ?_
      refine hK6 _ _ ?_
      refine c_seq fun K9 hK9 => ?_
      rw [b9] at hf9
      have hnl := (fdT_y hrt.srt hf9).1
      refine c_regT 0 9 [[], [], [0, 1], [], [], [4], [3, 4, 5], [0, 1, 2, 3, 4, 5, 6], [0, 1, 2, 3, 4, 5, 6, 7], [0, 1, 2, 3, 4, 5, 6, 7, 8], [0, 1, 2, 3, 4, 5, 6, 7, 8, 9]] [[], [], [], [], [], [], [], [], [7], [], []] [fun _ => [], fun _ => [], fun _ => [], fun _ => [], fun _ => [], fun _ => [], fun _ => [], fun v => [.sl (v 7) 22 1 2 [cutV vh n, dropV vh 67 (n + 1)]], fun v => [.sl (v 8) 28 67 (l.take n ++ l.drop (n + 1)).length (tgCells (l.take n ++ l.drop (n + 1)))], fun _ => [], fun _ => []] [] [fun v => v 0 = vh, fun v => v 1 = .int .i64 (n : Int), fun v => v 2 = cutV vh n, fun v => v 3 = vh, fun v => v 4 = .int .i64 (n : Int), fun v => v 5 = .int .i64 ((n : Int) + 1), fun v => v 6 = (dropV vh 67 (n + 1)), fun _ => True, fun _ => True, fun _ => True, fun _ => True] [.blk b5 (.cells (eArr e) 26), .blk b4 (.cells (idArr i) 24)] h s rfl (by kernel_rfl) (by kernel_rfl) (by kernel_rfl) (And.intro ?_ (And.intro ?_ (And.intro ?_ (And.intro ?_ (And.intro ?_ (And.intro ?_ (And.intro ?_ (And.intro ?_ (And.intro ?_ (trivial)))))))))) [0, 1, 2, 3, 4, 5, 6, 8] (by kernel_rfl) ?_
      · intro f9 w2 vl6 E9 hs9 hd9 hl hF s
        have e0 : f9.tmps.getD 0 undef = _ := oc_old hl 0 (by kernel_rfl) (by kernel_rfl) (h.holds 0 _ rfl)
        have h := fin_slot [(0, _)] (hs9.trans h.size) (hd9.trans h.defers) (holds_lk ⟨e0, trivial⟩)
        replace s : St w (.blk b5 (.cells (eArr e) 26) :: .blk b4 (.cells (idArr i) 24) :: E9) _ := s
        refine s_pure h (ru_move (h.ev rfl)) rfl ?_; intro f h
        exact s_nil ⟨_, oc_out 23 rfl (h.holds 23 _ rfl), rfl, s⟩
      · intro f9 w2 vl6 E9 hs9 hd9 hl hF s
        have e8 : f9.tmps.getD 8 undef = _ := oc_old hl 8 (by kernel_rfl) (by kernel_rfl) (h.holds 8 _ rfl)
        have h := fin_slot [(8, _)] (hs9.trans h.size) (hd9.trans h.defers) (holds_lk ⟨e8, trivial⟩)
        replace s : St w (.blk b5 (.cells (eArr e) 26) :: .blk b4 (.cells (idArr i) 24) :: E9) _ := s
        refine s_pure h (ru_move (h.ev rfl)) rfl ?_; intro f h
        exact s_nil ⟨_, oc_out 24 rfl (h.holds 24 _ rfl), rfl, s⟩
      · intro f9 w2 vl6 E9 hs9 hd9 hl hF s
        have e23 : f9.tmps.getD 23 undef = vh := (oc_get hl 23 0 (by kernel_rfl) (by kernel_rfl)).trans (hF 0 (by decide))
        have e24 : f9.tmps.getD 24 undef = .int .i64 (n : Int) := (oc_get hl 24 1 (by kernel_rfl) (by kernel_rfl)).trans (hF 1 (by decide))
        have h := fin_slot [(23, vh), (24, .int .i64 (n : Int))] (hs9.trans h.size) (hd9.trans h.defers) (holds_lk ⟨e23, e24, trivial⟩)
        replace s : St w (.blk b5 (.cells (eArr e) 26) :: .blk b4 (.cells (idArr i) 24) :: E9) _ := s
        refine s_pure h (ru_slice_hiZ (hR.keep s.ext) (n) Try.underlying22 szo28 (h.ev rfl) (h.ev rfl) (rfl) (by omega)) rfl ?_; intro f h
        exact s_nil ⟨_, oc_out 25 rfl (h.holds 25 _ rfl), rfl, s⟩
      · intro f9 w2 vl6 E9 hs9 hd9 hl hF s
        have e0 : f9.tmps.getD 0 undef = _ := oc_old hl 0 (by kernel_rfl) (by kernel_rfl) (h.holds 0 _ rfl)
        have h := fin_slot [(0, _)] (hs9.trans h.size) (hd9.trans h.defers) (holds_lk ⟨e0, trivial⟩)
        replace s : St w (.blk b5 (.cells (eArr e) 26) :: .blk b4 (.cells (idArr i) 24) :: E9) _ := s
        refine s_pure h (ru_move (h.ev rfl)) rfl ?_; intro f h
        exact s_nil ⟨_, oc_out 26 rfl (h.holds 26 _ rfl), rfl, s⟩
      · intro f9 w2 vl6 E9 hs9 hd9 hl hF s
        have e8 : f9.tmps.getD 8 undef = _ := oc_old hl 8 (by kernel_rfl) (by kernel_rfl) (h.holds 8 _ rfl)
        have h := fin_slot [(8, _)] (hs9.trans h.size) (hd9.trans h.defers) (holds_lk ⟨e8, trivial⟩)
        replace s : St w (.blk b5 (.cells (eArr e) 26) :: .blk b4 (.cells (idArr i) 24) :: E9) _ := s
        refine s_pure h (ru_move (h.ev rfl)) rfl ?_; intro f h
        exact s_nil ⟨_, oc_out 27 rfl (h.holds 27 _ rfl), rfl, s⟩
      · intro f9 w2 vl6 E9 hs9 hd9 hl hF s
        have e27 : f9.tmps.getD 27 undef = .int .i64 (n : Int) := (oc_get hl 27 4 (by kernel_rfl) (by kernel_rfl)).trans (hF 4 (by decide))
        have h := fin_slot [(27, .int .i64 (n : Int))] (hs9.trans h.size) (hd9.trans h.defers) (holds_lk ⟨e27, trivial⟩)
        replace s : St w (.blk b5 (.cells (eArr e) 26) :: .blk b4 (.cells (idArr i) 24) :: E9) _ := s
        refine s_pure h (ru_add (h.ev rfl) (h.ev rfl) (by omega)) rfl ?_; intro f h
        exact s_nil ⟨_, oc_out 28 rfl (h.holds 28 _ rfl), rfl, s⟩
      · intro f9 w2 vl6 E9 hs9 hd9 hl hF s
        have e26 : f9.tmps.getD 26 undef = vh := (oc_get hl 26 3 (by kernel_rfl) (by kernel_rfl)).trans (hF 3 (by decide))
        have e28 : f9.tmps.getD 28 undef = .int .i64 ((n : Int) + 1) := (oc_get hl 28 5 (by kernel_rfl) (by kernel_rfl)).trans (hF 5 (by decide))
        have h := fin_slot [(26, vh), (28, .int .i64 ((n : Int) + 1))] (hs9.trans h.size) (hd9.trans h.defers) (holds_lk ⟨e26, e28, trivial⟩)
        replace s : St w (.blk b5 (.cells (eArr e) 26) :: .blk b4 (.cells (idArr i) 24) :: E9) _ := s
        refine s_pure h (ru_slice_loZ (hR.keep s.ext) ((n + 1)) Try.underlying22 szo28 (h.ev rfl) (h.ev rfl) (by omega) (by omega)) rfl ?_; intro f h
        exact s_nil ⟨_, oc_out 29 rfl (h.holds 29 _ rfl), rfl, s⟩
      · intro f9 w2 vl6 E9 hs9 hd9 hl hF s
        have e25 : f9.tmps.getD 25 undef = cutV vh n := (oc_get hl 25 2 (by kernel_rfl) (by kernel_rfl)).trans (hF 2 (by decide))
        have e29 : f9.tmps.getD 29 undef = (dropV vh 67 (n + 1)) := (oc_get hl 29 6 (by kernel_rfl) (by kernel_rfl)).trans (hF 6 (by decide))
        have h := fin_slot [(25, cutV vh n), (29, (dropV vh 67 (n + 1)))] (hs9.trans h.size) (hd9.trans h.defers) (holds_lk ⟨e25, e29, trivial⟩)
        replace s : St w (.blk b5 (.cells (eArr e) 26) :: .blk b4 (.cells (idArr i) 24) :: E9) _ := s
        refine s_bslice (vs := [cutV vh n, dropV vh 67 (n + 1)]) [.tmp 25, .tmp 29] h s Try.underlying70 elm22 rfl rfl (by intro v hv; simp only [List.mem_cons, List.not_mem_nil, or_false] at hv; rcases hv with rfl | rfl; exact rd_size (tg_take (hR.keep s.ext) n (by omega)); exact rd_size (tg_drop (hR.keep s.ext) (n + 1) (by omega))) rfl rfl rfl ?_; intro f w1 v30 h s
        replace s := s.resl (m := 2) (ys := [cutV vh n, dropV vh 67 (n + 1)]) 0 rfl rfl (by simp [rd_cells (tg_take (hR.keep s.ext) n (by omega)), rd_cells (tg_drop (hR.keep s.ext) (n + 1) (by omega))])
        exact s_nil ⟨_, oc_out 30 rfl (h.holds 30 _ rfl), trivial, s⟩
      · intro f9 w2 vl6 E9 hs9 hd9 hl hF s
        have e30 : f9.tmps.getD 30 undef = (vl6 7) := oc_get hl 30 7 (by kernel_rfl) (by kernel_rfl)
        have h := fin_slot [(30, (vl6 7))] (hs9.trans h.size) (hd9.trans h.defers) (holds_lk ⟨e30, trivial⟩)
        replace s : St w (.sl (vl6 7) 22 1 2 [cutV vh n, dropV vh 67 (n + 1)] :: .blk b5 (.cells (eArr e) 26) :: .blk b4 (.cells (idArr i) 24) :: E9) _ := s
        refine s_call h s fnc30 (tconcat_any (vl6 7) [cutV vh n, dropV vh 67 (n + 1)] [l.take n, l.drop (n + 1)] rfl (by rw [twoT_flat]; simp only [List.length_append, List.length_take, List.length_drop, List.length_cons, List.length_nil]; omega) (by simp) _ (RdZ.of_own (s.getSl 0 rfl)) (twoT_rd (tg_take (hR.keep s.ext) n (by omega)) (tg_drop (hR.keep s.ext) (n + 1) (by omega)))) rfl rfl ?_; intro f w1 v9_ hT hE h sq
        replace s := s.sl_new hE (hT.seq (m := (l.take n ++ l.drop (n + 1)).length) (ys := tgCells (l.take n ++ l.drop (n + 1))) (by rw [twoT_flat]) (by rw [twoT_flat]))
        exact s_nil ⟨_, oc_out 31 rfl (h.holds 31 _ rfl), trivial, (s.pick _ (List.Sublist.cons_cons _ (List.Sublist.cons _ (List.Sublist.cons_cons _ (List.Sublist.cons_cons _ (List.Sublist.refl _))))))⟩
      intro f w1 vl6 hs9 hd9 hv hr hF s
      replace hv := fun i d h9 => hv i d (show Nat.blt i 9 = true from h9)
      replace h := oc_slT 9 (ops := _) [(23, vh), (24, .int .i64 (n : Int)), (25, cutV vh n), (26, vh), (27, .int .i64 (n : Int)), (28, .int .i64 ((n : Int) + 1)), (29, (dropV vh 67 (n + 1))), (30, (vl6 7)), (31, (vl6 8))] h hs9 hd9 hr ⟨(hv 0 23 rfl rfl).trans (hF 0 (by kernel_rfl)), (hv 1 24 rfl rfl).trans (hF 1 (by kernel_rfl)), (hv 2 25 rfl rfl).trans (hF 2 (by kernel_rfl)), (hv 3 26 rfl rfl).trans (hF 3 (by kernel_rfl)), (hv 4 27 rfl rfl).trans (hF 4 (by kernel_rfl)), (hv 5 28 rfl rfl).trans (hF 5 (by kernel_rfl)), (hv 6 29 rfl rfl).trans (hF 6 (by kernel_rfl)), hv 7 30 rfl rfl, hv 8 31 rfl rfl, trivial⟩ (by kernel_rfl)
      replace s : St w [.sl (vl6 8) 28 67 (l.take n ++ l.drop (n + 1)).length (tgCells (l.take n ++ l.drop (n + 1))), .blk b5 (.cells (eArr e) 26), .blk b4 (.cells (idArr i) 24)] _ := s
      refine s_pure h (ru_assign (h.ev rfl)) rfl ?_; intro f h
      refine s_pure h (ru_assign (h.ev rfl)) rfl ?_; intro f h
      refine s_nil ?_
      refine hK9 _ _ ?_
      refine wpIn_ret ?_
      exact e_tmps rfl h s rfl rfl (tbP_own (dp_y hrt hf9).2.1 (dp_y hrt hf9).2.2 (s.sel [0] rfl (by decide)))

theorem texp1_any (x : Tg) (now : Int) (bx : Nat) (w : World) (hb : Tab w bx #[.int .i64 now]) : Calls Try.prog 36 [.agg (tgArr x), .pointer (some ⟨bx, 0, none⟩)].toArray w (Ret w (is (.bool (decide (now < x.2.2))))) := by
  refine c_enter Try.func36 rfl Try.ntmps36 rfl [(0, .agg (tgArr x)), (1, .pointer (some ⟨bx, 0, none⟩))] (by simp) fun f h => ?_
  have s := St.start w
  refine c_seq fun K1 hK1 => ?_
  refine c_region ?_
  refine s_box (tgArr x) h s rfl rfl rfl ?_; intro f w1 b2 h s
  refine s_pure h (ru_assign (h.ev rfl)) rfl ?_; intro f h
  refine s_nil ?_
  refine hK1 _ _ ?_
  refine c_seq fun K2 hK2 => ?_
  refine c_region ?_
  refine s_pure h (ru_field fld28_2 (h.ev rfl)) rfl ?_; intro f h
  refine s_load_at1 (cell_of_has (Has.of_own s 0 rfl) 66 (tgArr_until _)) h one3 rfl rfl ?_; intro f h
  refine s_load_at1 (V := .int .i64 now) (cell_of_has (Has.of_tab (hb.keep s.ext)) 0 (rfl)) h one3 rfl rfl ?_; intro f h
  refine s_pure h (ru_gtr (h.ev rfl) (h.ev rfl)) rfl ?_; intro f h
  refine s_pure h (ru_assign (h.ev rfl)) rfl ?_; intro f h
  refine s_nil ?_
  refine hK2 _ _ ?_
  refine wpIn_ret ?_
  exact e_tmp rfl h s rfl (rfl)

theorem texp_any (l : List Tg) (vh : Value) (now : Int) (w : World) (hR : RdZ w vh 67 l.length (tgCells l)) (hln : l.length ≤ 1000) : Calls Try.prog 19 [vh, .int .i64 now].toArray w (Ret w (TbP w vh l (expL l now) (expE l))) := by
  refine c_enter Try.func19 rfl Try.ntmps19 rfl [(0, vh), (1, .int .i64 now)] (by simp) fun f h => ?_
  have s := St.start w
  refine c_seq fun K1 hK1 => ?_
  refine c_region ?_
  refine s_box (#[.int .i64 now]) h s rfl rfl rfl ?_; intro f w1 b3 h s
  refine s_pure h (ru_assign (h.ev rfl)) rfl ?_; intro f h
  refine s_pure h (ru_assign (h.ev rfl)) rfl ?_; intro f h
  refine s_nil ?_
  refine hK1 _ _ ?_
  refine c_seq fun K2 hK2 => ?_
  refine c_seq fun K3 hK3 => ?_
  cases r0 : (rightT l : Bool)
  · skip
    refine c_region ?_
    refine s_pure h (ru_move (h.ev rfl)) rfl ?_; intro f h
    refine s_call h s fnc11 (ret_val (.bool false) (tright_any l vh _ (hR.keep s.ext) hln) (congrArg Value.bool r0)) rfl rfl ?_; intro f w1 v9 hT hE h s; obtain rfl := hT
    refine s_pure h (ru_val (.bool true) (ru_not (h.ev rfl)) rfl) rfl ?_; intro f h
    refine s_nil ?_
    refine hK3 _ _ ?_
    refine wpIn_cond_true (h.ev rfl) ?_
    refine c_seq fun K4 hK4 => ?_
    refine c_region ?_
    refine s_pure h (ru_assign (h.ev rfl)) rfl ?_; intro f h
    refine s_pure h (ru_assign (h.ev rfl)) rfl ?_; intro f h
    refine s_nil ?_
    refine hK4 _ _ ?_
    refine wpIn_ret ?_
    refine t_ret ?_
    exact e_tmps rfl h s rfl rfl (tbP_nil (te_n r0 now).1 (te_n r0 now).2 (s.sel [] rfl (by decide)))
  · skip
    refine c_region ?_
    refine s_pure h (ru_move (h.ev rfl)) rfl ?_; intro f h
    refine s_call h s fnc11 (ret_val (.bool true) (tright_any l vh _ (hR.keep s.ext) hln) (congrArg Value.bool r0)) rfl rfl ?_; intro f w1 v9 hT hE h s; obtain rfl := hT
    refine s_pure h (ru_val (.bool false) (ru_not (h.ev rfl)) rfl) rfl ?_; intro f h
    refine s_nil ?_
    refine hK3 _ _ ?_
    refine wpIn_cond_false (h.ev rfl) ?_
    refine wpIn_skip ?_
    refine hK2 _ _ ?_
    refine c_seq fun K5 hK5 => ?_
    refine c_region ?_
    refine s_pure h (ru_move (h.ev rfl)) rfl ?_; intro f h
    refine s_pure h (ru_makeFunc [.pointer (some ⟨b3, 0, none⟩)] (evsA h rfl)) rfl ?_; intro f h
    refine s_call h s fnc35 (tonly_any l vh 36 [.pointer (some ⟨b3, 0, none⟩)] ((fun y => decide (now < y.2.2))) _ (hR.keep s.ext) hln fnc36 (fun w9 h9 y _ => texp1_any y now b3 w9 ((Tab.of_own s 0 rfl).keep h9))) rfl rfl ?_; intro f w1 v11 hT hE h sq; replace s := s.sl_new hE hT
    refine s_pure h (ru_assign (h.ev rfl)) rfl ?_; intro f h
    refine s_pure h (ru_assign (h.ev rfl)) rfl ?_; intro f h
    refine s_nil ?_
    refine hK5 _ _ ?_
    refine wpIn_ret ?_
    exact e_tmps rfl h s rfl rfl (tbP_own (te_y r0 now).1 (te_y r0 now).2 (s.sel [0] rfl (by decide)))

theorem tmat1_any (y : Tg) (x : Id) (bx : Nat) (w : World) (hb : Tab w bx (idArr x)) : Calls Try.prog 37 [.agg (tgArr y), .pointer (some ⟨bx, 0, none⟩)].toArray w (Ret w (is (.int .i64 (lkM x y)))) := by
  refine c_enter Try.func37 rfl Try.ntmps37 rfl [(0, .agg (tgArr y)), (1, .pointer (some ⟨bx, 0, none⟩))] (by simp) fun f h => ?_
  have s := St.start w
  refine c_seq fun K1 hK1 => ?_
  refine c_region ?_
  refine s_box (tgArr y) h s rfl rfl rfl ?_; intro f w1 b2 h s
  refine s_pure h (ru_assign (h.ev rfl)) rfl ?_; intro f h
  refine s_nil ?_
  refine hK1 _ _ ?_
  refine c_seq fun K2 hK2 => ?_
  refine c_region ?_
  refine s_pure h (ru_field fld28_0 (h.ev rfl)) rfl ?_; intro f h
  refine s_load_at (Has.subL (Has.of_own s 0 rfl) 0 32 (D := idArr (_)) (tgArr_id _)) h row24 rfl (by first | exact idArr_size _ | exact bytesF_size _ _) rfl ?_; intro f h
  refine s_load_at (Has.subL (Has.of_tab (hb.keep s.ext)) 0 32 (D := idArr x) (idArr_ext _)) h row24 rfl (by first | exact idArr_size _ | exact bytesF_size _ _) rfl ?_; intro f h
  refine s_call h s fnc25 (common_any y.1 x _) rfl rfl ?_; intro f w1 v9 hT hE h s; obtain rfl := hT
  refine s_pure h (ru_assign (h.ev rfl)) rfl ?_; intro f h
  refine s_nil ?_
  refine hK2 _ _ ?_
  refine wpIn_ret ?_
  exact e_tmp rfl h s rfl (rfl)

theorem tmat2_any (y z : Tg) (bx : Nat) (w : World) (hb : Tab w bx (tgArr z)) : Calls Try.prog 39 [.agg (tgArr y), .pointer (some ⟨bx, 0, none⟩)].toArray w (Ret w (is (.bool (decide (y.1 = z.1))))) := by
  refine c_enter Try.func39 rfl Try.ntmps39 rfl [(0, .agg (tgArr y)), (1, .pointer (some ⟨bx, 0, none⟩))] (by simp) fun f h => ?_
  have s := St.start w
  refine c_seq fun K1 hK1 => ?_
  refine c_region ?_
  refine s_box (tgArr y) h s rfl rfl rfl ?_; intro f w1 b2 h s
  refine s_pure h (ru_assign (h.ev rfl)) rfl ?_; intro f h
  refine s_nil ?_
  refine hK1 _ _ ?_
  refine c_seq fun K2 hK2 => ?_
  refine c_region ?_
  refine s_pure h (ru_field fld28_0 (h.ev rfl)) rfl ?_; intro f h
  refine s_load_at (Has.subL (Has.of_own s 0 rfl) 0 32 (D := idArr (_)) (tgArr_id _)) h row24 rfl (by first | exact idArr_size _ | exact bytesF_size _ _) rfl ?_; intro f h
  refine s_pure h (ru_field fld28_0 (h.ev rfl)) rfl ?_; intro f h
  refine s_load_at (Has.subL (Has.of_tab (hb.keep s.ext)) 0 32 (D := idArr z.1) (tgArr_id _)) h row24 rfl (by first | exact idArr_size _ | exact bytesF_size _ _) rfl ?_; intro f h
  refine s_pure h (ru_eql_id idTy (h.ev rfl) (h.ev rfl)) rfl ?_; intro f h
  refine s_pure h (ru_assign (h.ev rfl)) rfl ?_; intro f h
  refine s_nil ?_
  refine hK2 _ _ ?_
  refine wpIn_ret ?_
  exact e_tmp rfl h s rfl (rfl)

theorem tmatch_any (l : List Tg) (vh : Value) (x : Id) (w : World) (hR : RdZ w vh 67 l.length (tgCells l)) (hln : l.length ≤ 1000) : Calls Try.prog 20 [vh, idV x].toArray w (Ret w (TbP w vh l (mtL l x) (mtE l x))) := by
  refine c_enter Try.func20 rfl Try.ntmps20 rfl [(0, vh), (1, idV x)] (by simp) fun f h => ?_
  have s := St.start w
  refine c_seq fun K1 hK1 => ?_
  refine c_region ?_
  refine s_box (idArr x) h s rfl rfl rfl ?_; intro f w1 b3 h s
  refine s_pure h (ru_assign (h.ev rfl)) rfl ?_; intro f h
  refine s_pure h (ru_assign (h.ev rfl)) rfl ?_; intro f h
  refine s_nil ?_
  refine hK1 _ _ ?_
  refine c_seq fun K2 hK2 => ?_
  refine c_seq fun K3 hK3 => ?_
  cases r0 : (rightT l : Bool)
  · skip
    refine c_region ?_
    refine s_pure h (ru_move (h.ev rfl)) rfl ?_; intro f h
    refine s_call h s fnc11 (ret_val (.bool false) (tright_any l vh _ (hR.keep s.ext) hln) (congrArg Value.bool r0)) rfl rfl ?_; intro f w1 v9 hT hE h s; obtain rfl := hT
    refine s_pure h (ru_val (.bool true) (ru_not (h.ev rfl)) rfl) rfl ?_; intro f h
    refine s_nil ?_
    refine hK3 _ _ ?_
    refine wpIn_cond_true (h.ev rfl) ?_
    refine c_seq fun K4 hK4 => ?_
    refine c_region ?_
    refine s_pure h (ru_assign (h.ev rfl)) rfl ?_; intro f h
    refine s_pure h (ru_assign (h.ev rfl)) rfl ?_; intro f h
    refine s_nil ?_
    refine hK4 _ _ ?_
    refine wpIn_ret ?_
    refine t_ret ?_
    exact e_tmps rfl h s rfl rfl (tbP_nil (tm_n r0 x).1 (tm_n r0 x).2 (s.sel [] rfl (by decide)))
  · skip
    refine c_region ?_
    refine s_pure h (ru_move (h.ev rfl)) rfl ?_; intro f h
    refine s_call h s fnc11 (ret_val (.bool true) (tright_any l vh _ (hR.keep s.ext) hln) (congrArg Value.bool r0)) rfl rfl ?_; intro f w1 v9 hT hE h s; obtain rfl := hT
    refine s_pure h (ru_val (.bool false) (ru_not (h.ev rfl)) rfl) rfl ?_; intro f h
    refine s_nil ?_
    refine hK3 _ _ ?_
    refine wpIn_cond_false (h.ev rfl) ?_
    refine wpIn_skip ?_
    refine hK2 _ _ ?_
    refine c_seq fun K5 hK5 => ?_
    refine c_region ?_
    refine s_pure h (ru_makeFunc [.pointer (some ⟨b3, 0, none⟩)] (evsA h rfl)) rfl ?_; intro f h
    refine s_pure h (ru_assign (h.ev rfl)) rfl ?_; intro f h
    refine s_nil ?_
    refine hK5 _ _ ?_
    refine c_seq fun K6 hK6 => ?_
    cases hi : ((lkS l x).2.2 : Bool)
    · skip
      refine c_region ?_
      refine s_pure h (ru_move (h.ev rfl)) rfl ?_; intro f h
      refine s_pure h (ru_move (h.ev rfl)) rfl ?_; intro f h
      refine s_call h s fnc38 (tfirst_any l vh 37 [.pointer (some ⟨b3, 0, none⟩)] (lkM x) 128 _ (hR.keep s.ext) hln fnc37 (fun w9 h9 y _ => tmat1_any y x b3 w9 ((Tab.of_own s 0 rfl).keep h9))) rfl rfl ?_; intro f w1 v16 hT hE h s; obtain rfl := hT
      refine s_pure h (ru_move (h.ev rfl)) rfl ?_; intro f h
      refine s_pure h (ru_extract (h.ev rfl) rfl) rfl ?_; intro f h
      refine s_pure h (ru_val (.bool false) (ru_extract (h.ev rfl) rfl) (congrArg Value.bool hi)) rfl ?_; intro f h
      refine s_alloc (tgArr zTg) h s zero28 rfl rfl ?_; intro f w1 b7 h s
      refine s_store_row 0 h s row28 rfl rfl rfl (tgArr_size _) (tgArr_size _) (tgArr_ones _) ?_; intro w1 s
      refine s_pure h (ru_assign (h.ev rfl)) rfl ?_; intro f h
      refine s_nil ?_
      refine hK6 _ _ ?_
      refine c_seq fun K7 hK7 => ?_
      refine c_seq fun K8 hK8 => ?_
      refine c_region ?_
      refine s_pure h (ru_move (h.ev rfl)) rfl ?_; intro f h
      refine s_pure h (ru_val (.bool true) (ru_not (h.ev rfl)) rfl) rfl ?_; intro f h
      refine s_nil ?_
      refine hK8 _ _ ?_
      refine wpIn_cond_true (h.ev rfl) ?_
      refine c_seq fun K9 hK9 => ?_
      refine c_region ?_
      refine s_pure h (ru_assign (h.ev rfl)) rfl ?_; intro f h
      refine s_pure h (ru_assign (h.ev rfl)) rfl ?_; intro f h
      refine s_nil ?_
      refine hK9 _ _ ?_
      refine wpIn_ret ?_
      refine t_ret ?_
      exact e_tmps rfl h s rfl rfl (tbP_nil ((mt_like r0 x).1 hi).1 ((mt_like r0 x).1 hi).2 (s.sel [] rfl (by decide)))
    · skip
      refine c_region ?_
      refine s_pure h (ru_move (h.ev rfl)) rfl ?_; intro f h
      refine s_pure h (ru_move (h.ev rfl)) rfl ?_; intro f h
      refine s_call h s fnc38 (tfirst_any l vh 37 [.pointer (some ⟨b3, 0, none⟩)] (lkM x) 128 _ (hR.keep s.ext) hln fnc37 (fun w9 h9 y _ => tmat1_any y x b3 w9 ((Tab.of_own s 0 rfl).keep h9))) rfl rfl ?_; intro f w1 v16 hT hE h s; obtain rfl := hT
      refine s_pure h (ru_move (h.ev rfl)) rfl ?_; intro f h
      refine s_pure h (ru_extract (h.ev rfl) rfl) rfl ?_; intro f h
      refine s_pure h (ru_val (.bool true) (ru_extract (h.ev rfl) rfl) (congrArg Value.bool hi)) rfl ?_; intro f h
      refine s_alloc (tgArr zTg) h s zero28 rfl rfl ?_; intro f w1 b7 h s
      refine s_store_row 0 h s row28 rfl rfl rfl (tgArr_size _) (tgArr_size _) (tgArr_ones _) ?_; intro w1 s
      refine s_pure h (ru_assign (h.ev rfl)) rfl ?_; intro f h
      refine s_nil ?_
      refine hK6 _ _ ?_
      refine c_seq fun K10 hK10 => ?_
      refine c_seq fun K11 hK11 => ?_
      refine c_region ?_
      refine s_pure h (ru_move (h.ev rfl)) rfl ?_; intro f h
      refine s_pure h (ru_val (.bool false) (ru_not (h.ev rfl)) rfl) rfl ?_; intro f h
      refine s_nil ?_
      refine hK11 _ _ ?_
      refine wpIn_cond_false (h.ev rfl) ?_
      refine wpIn_skip ?_
      refine hK10 _ _ ?_
      refine c_seq fun K12 hK12 => ?_
      refine c_region ?_
      refine s_pure h (ru_move (h.ev rfl)) rfl ?_; intro f h
      refine s_pure h (ru_makeFunc [.pointer (some ⟨b7, 0, none⟩)] (evsA h rfl)) rfl ?_; intro f h
      refine s_call h s fnc35 (tonly_any l vh 39 [.pointer (some ⟨b7, 0, none⟩)] ((fun y => decide (y.1 = (lkS l x).1.1))) _ (hR.keep s.ext) hln fnc39 (fun w9 h9 y _ => tmat2_any y (lkS l x).1 b7 w9 ((Tab.of_own s 0 rfl).keep h9))) rfl rfl ?_; intro f w1 v23 hT hE h sq; replace s := s.sl_new hE hT
      refine s_pure h (ru_assign (h.ev rfl)) rfl ?_; intro f h
      refine s_pure h (ru_assign (h.ev rfl)) rfl ?_; intro f h
      refine s_nil ?_
      refine hK12 _ _ ?_
      refine wpIn_ret ?_
      exact e_tmps rfl h s rfl rfl (tbP_own ((mt_like r0 x).2 hi).1 ((mt_like r0 x).2 hi).2 (s.sel [0] rfl (by decide)))

theorem tcut1_any (x : Tg) (a b : Id) (ba bb : Nat) (w : World) (ha : Tab w ba (idArr a)) (hb : Tab w bb (idArr b)) : Calls Try.prog 40 [.agg (tgArr x), .pointer (some ⟨ba, 0, none⟩), .pointer (some ⟨bb, 0, none⟩)].toArray w (Ret w (is (.bool (inB x.1 a b)))) := by
  refine c_enter Try.func40 rfl Try.ntmps40 rfl [(0, .agg (tgArr x)), (1, .pointer (some ⟨ba, 0, none⟩)), (2, .pointer (some ⟨bb, 0, none⟩))] (by simp) fun f h => ?_
  have s := St.start w
  refine c_seq fun K1 hK1 => ?_
  refine c_region ?_
  refine s_box (tgArr x) h s rfl rfl rfl ?_; intro f w1 b3 h s
  refine s_pure h (ru_assign (h.ev rfl)) rfl ?_; intro f h
  refine s_nil ?_
  refine hK1 _ _ ?_
  refine c_seq fun K2 hK2 => ?_
  refine c_region ?_
  refine s_pure h (ru_field fld28_0 (h.ev rfl)) rfl ?_; intro f h
  refine s_load_at (Has.subL (Has.of_own s 0 rfl) 0 32 (D := idArr (_)) (tgArr_id _)) h row24 rfl (by first | exact idArr_size _ | exact bytesF_size _ _) rfl ?_; intro f h
  refine s_load_at (Has.subL (Has.of_tab (ha.keep s.ext)) 0 32 (D := idArr a) (idArr_ext _)) h row24 rfl (by first | exact idArr_size _ | exact bytesF_size _ _) rfl ?_; intro f h
  refine s_load_at (Has.subL (Has.of_tab (hb.keep s.ext)) 0 32 (D := idArr b) (idArr_ext _)) h row24 rfl (by first | exact idArr_size _ | exact bytesF_size _ _) rfl ?_; intro f h
  refine s_call h s fnc26 (in_any x.1 a b _) rfl rfl ?_; intro f w1 v9 hT hE h s; obtain rfl := hT
  refine s_pure h (ru_assign (h.ev rfl)) rfl ?_; intro f h
  refine s_nil ?_
  refine hK2 _ _ ?_
  refine wpIn_ret ?_
  exact e_tmp rfl h s rfl (rfl)

theorem tcut2_any (x : Tg) (a b : Id) (ba bb bf : Nat) (w : World) (ha : Tab w ba (idArr a)) (hb : Tab w bb (idArr b)) (hf : Tab w bf #[.func (.func 40) #[] #[.pointer (some ⟨ba, 0, none⟩), .pointer (some ⟨bb, 0, none⟩)]]) : Calls Try.prog 41 [.agg (tgArr x), .pointer (some ⟨bf, 0, none⟩)].toArray w (Ret w (is (.bool (!inB x.1 a b)))) := by
  refine c_enter Try.func41 rfl Try.ntmps41 rfl [(0, .agg (tgArr x)), (1, .pointer (some ⟨bf, 0, none⟩))] (by simp) fun f h => ?_
  have s := St.start w
  refine c_seq fun K1 hK1 => ?_
  refine c_region ?_
  refine s_box (tgArr x) h s rfl rfl rfl ?_; intro f w1 b2 h s
  refine s_pure h (ru_assign (h.ev rfl)) rfl ?_; intro f h
  refine s_nil ?_
  refine hK1 _ _ ?_
  refine c_seq fun K2 hK2 => ?_
  refine c_region ?_
  refine s_load_at1 (V := .func (.func 40) #[] #[.pointer (some ⟨ba, 0, none⟩), .pointer (some ⟨bb, 0, none⟩)]) (cell_of_has (Has.of_tab (hf.keep s.ext)) 0 (rfl)) h one36 rfl rfl ?_; intro f h
  refine s_load_row 0 h s row28 rfl rfl (tgArr_size _) rfl ?_; intro f h
  refine s_callV [.agg (tgArr x)] (caps := [.pointer (some ⟨ba, 0, none⟩), .pointer (some ⟨bb, 0, none⟩)]) h s fnc40 rfl (tcut1_any x a b ba bb _ (ha.keep s.ext) (hb.keep s.ext)) rfl rfl ?_; intro f w1 v6 hT hE h s; obtain rfl := hT
  refine s_pure h (ru_not (h.ev rfl)) rfl ?_; intro f h
  refine s_pure h (ru_assign (h.ev rfl)) rfl ?_; intro f h
  refine s_nil ?_
  refine hK2 _ _ ?_
  refine wpIn_ret ?_
  exact e_tmp rfl h s rfl (rfl)

theorem tcut_any (l : List Tg) (vh : Value) (a b : Id) (w : World) (hR : RdZ w vh 67 l.length (tgCells l)) (hln : l.length ≤ 1000) : Calls Try.prog 21 [vh, idV a, idV b].toArray w (Ret w (TbC w vh l (onL l a b true) (onL l a b false) (expE l))) := by
  refine c_enter Try.func21 rfl Try.ntmps21 rfl [(0, vh), (1, idV a), (2, idV b)] (by simp) fun f h => ?_
  have s := St.start w
  refine c_seq fun K1 hK1 => ?_
  refine c_region ?_
  refine s_box (idArr a) h s rfl rfl rfl ?_; intro f w1 b4 h s
  refine s_box (idArr b) h s rfl rfl rfl ?_; intro f w1 b5 h s
  refine s_pure h (ru_assign (h.ev rfl)) rfl ?_; intro f h
  refine s_pure h (ru_assign (h.ev rfl)) rfl ?_; intro f h
  refine s_pure h (ru_assign (h.ev rfl)) rfl ?_; intro f h
  refine s_nil ?_
  refine hK1 _ _ ?_
  refine c_seq fun K2 hK2 => ?_
  refine c_seq fun K3 hK3 => ?_
  cases r0 : (rightT l : Bool)
  · skip
    refine c_region ?_
    refine s_pure h (ru_move (h.ev rfl)) rfl ?_; intro f h
    refine s_call h s fnc11 (ret_val (.bool false) (tright_any l vh _ (hR.keep s.ext) hln) (congrArg Value.bool r0)) rfl rfl ?_; intro f w1 v9 hT hE h s; obtain rfl := hT
    refine s_pure h (ru_val (.bool true) (ru_not (h.ev rfl)) rfl) rfl ?_; intro f h
    refine s_nil ?_
    refine hK3 _ _ ?_
    refine wpIn_cond_true (h.ev rfl) ?_
    refine c_seq fun K4 hK4 => ?_
    refine c_region ?_
    refine s_pure h (ru_assign (h.ev rfl)) rfl ?_; intro f h
    refine s_pure h (ru_assign (h.ev rfl)) rfl ?_; intro f h
    refine s_pure h (ru_assign (h.ev rfl)) rfl ?_; intro f h
    refine s_nil ?_
    refine hK4 _ _ ?_
    refine wpIn_ret ?_
    refine t_ret ?_
    exact e_tmps3 rfl h s rfl rfl rfl (tbC_nil (te_n r0 0).1 (to_n r0 a b true) (to_n r0 a b false) (s.sel [] rfl (by decide)))
  · skip
    refine c_region ?_
    refine s_pure h (ru_move (h.ev rfl)) rfl ?_; intro f h
    refine s_call h s fnc11 (ret_val (.bool true) (tright_any l vh _ (hR.keep s.ext) hln) (congrArg Value.bool r0)) rfl rfl ?_; intro f w1 v9 hT hE h s; obtain rfl := hT
    refine s_pure h (ru_val (.bool false) (ru_not (h.ev rfl)) rfl) rfl ?_; intro f h
    refine s_nil ?_
    refine hK3 _ _ ?_
    refine wpIn_cond_false (h.ev rfl) ?_
    refine wpIn_skip ?_
    refine hK2 _ _ ?_
    refine c_seq fun K5 hK5 => ?_
    refine c_region ?_
    refine s_pure h (ru_makeFunc [.pointer (some ⟨b4, 0, none⟩), .pointer (some ⟨b5, 0, none⟩)] (evsA h rfl)) rfl ?_; intro f h
    refine s_alloc (#[.nilFunc]) h s zero36 rfl rfl ?_; intro f w1 b9 h s
    refine s_store_one 0 h s one36 rfl rfl rfl (by simp) (rfl) ?_; intro w1 s
    refine s_nil ?_
    refine hK5 _ _ ?_
    refine c_seq fun K6 hK6 => ?_
    refine c_region ?_
    refine s_pure h (ru_makeFunc [.pointer (some ⟨b9, 0, none⟩)] (evsA h rfl)) rfl ?_; intro f h
    refine s_pure h (ru_assign (h.ev rfl)) rfl ?_; intro f h
    refine s_nil ?_
    refine hK6 _ _ ?_
    refine c_seq fun K7 hK7 => ?_
    refine c_region ?_
    refine s_pure h (ru_move (h.ev rfl)) rfl ?_; intro f h
    refine s_load_one 0 h s one36 rfl rfl (rfl) rfl ?_; intro f h
    refine s_call h s fnc35 (tonly_any l vh 40 [.pointer (some ⟨b4, 0, none⟩), .pointer (some ⟨b5, 0, none⟩)] ((fun y => inB y.1 a b == true)) _ (hR.keep s.ext) hln fnc40 (fun w9 h9 y _ => ret_val (.bool (inB y.1 a b == true)) (tcut1_any y a b b4 b5 w9 ((Tab.of_own s 2 rfl).keep h9) ((Tab.of_own s 1 rfl).keep h9)) (by simp))) rfl rfl ?_; intro f w1 v18 hT hE h sq; replace s := s.sl_new hE hT
    refine s_pure h (ru_move (h.ev rfl)) rfl ?_; intro f h
    refine s_pure h (ru_move (h.ev rfl)) rfl ?_; intro f h
    refine s_call h s fnc35 (tonly_any l vh 41 [.pointer (some ⟨b9, 0, none⟩)] ((fun y => inB y.1 a b == false)) _ (hR.keep s.ext) hln fnc41 (fun w9 h9 y _ => ret_val (.bool (inB y.1 a b == false)) (tcut2_any y a b b4 b5 b9 w9 ((Tab.of_own s 3 rfl).keep h9) ((Tab.of_own s 2 rfl).keep h9) ((Tab.of_own s 1 rfl).keep h9)) (by cases inB y.1 a b <;> rfl))) rfl rfl ?_; intro f w1 v21 hT hE h sq; replace s := s.sl_new hE hT
    refine s_pure h (ru_assign (h.ev rfl)) rfl ?_; intro f h
    refine s_pure h (ru_assign (h.ev rfl)) rfl ?_; intro f h
    refine s_pure h (ru_assign (h.ev rfl)) rfl ?_; intro f h
    refine s_nil ?_
    refine hK7 _ _ ?_
    refine wpIn_ret ?_
    exact e_tmps3 rfl h s rfl rfl rfl (tbC_own (te_y r0 0).1 (to_y r0 a b true) (to_y r0 a b false) (s.sel [1, 0] rfl (by decide)))
end Go.Proofs.Ytliknbdambmmaaa
