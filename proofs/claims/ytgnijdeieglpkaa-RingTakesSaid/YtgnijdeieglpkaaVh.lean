/- What RingTakes answers: for all lists of members and identifiers. -/
import Derived.Test.YtgnijdeieglpkaaVd
import Derived.Test.YtgnijdeieglpkaaVe
set_option linter.unusedVariables false
set_option linter.unusedSimpArgs false
set_option linter.unusedSectionVars false
namespace Go.Proofs.Ytgnijdeieglpkaa
open Go.RowKit
theorem rtakes_any (l : List Mb) (vh : Value) (x9 : Id) (w : World) (hR : RdZ w vh 33 l.length (mbCells l)) : Calls Try.prog 5 [vh, idV x9].toArray w (Ret w (is (.bool true))) := by
  have hlv := mb_take hR (min l.length 18) (by omega)
  obtain ⟨r, hr9⟩ : ∃ x9, x9 = l.take (min l.length 18) := ⟨_, rfl⟩
  rw [← hr9] at hlv
  have hln8 : r.length ≤ 18 := by rw [hr9, List.length_take]; omega
  have hln : r.length ≤ 1000 := by omega
  refine c_enter Try.func5 rfl Try.ntmps5 rfl [(0, vh), (1, idV x9)] (by simp) fun f h => ?_
  have s := St.start w
  refine c_seq fun K1 hK1 => ?_
  refine c_region ?_
  refine s_box (idArr x9) h s rfl rfl rfl ?_; intro f w1 b3 h s
  refine s_pure h (ru_assign (h.ev rfl)) rfl ?_; intro f h
  refine s_nil ?_
  refine hK1 _ _ ?_
  refine c_seq fun K2 hK2 => ?_
  refine c_region ?_
  refine s_pure h (ru_move (h.ev rfl)) rfl ?_; intro f h
  refine s_call h s fnc8 (few_any l vh _ (hR.keep s.ext)) rfl rfl ?_; intro f w1 v9 hT hE h s; obtain rfl := hT
  refine s_pure h (ru_assign (h.ev rfl)) rfl ?_; intro f h
  refine s_nil ?_
  refine hK2 _ _ ?_
  refine c_seq fun K3 hK3 => ?_
  refine c_seq fun K4 hK4 => ?_
  cases hr : (rightR r : Bool)
  · skip
    refine c_region ?_
    refine s_pure h (ru_move (h.ev rfl)) rfl ?_; intro f h
    refine s_call h s fnc11 (ret_val (.bool false) (right_any r (cutV vh (min l.length 18)) _ (hlv.keep s.ext) hln) (congrArg Value.bool hr)) rfl rfl ?_; intro f w1 v9 hT hE h s; obtain rfl := hT
    refine s_pure h (ru_val (.bool true) (ru_not (h.ev rfl)) rfl) rfl ?_; intro f h
    refine s_pure h (ru_move (h.ev rfl)) rfl ?_; intro f h
    refine s_off (b := false) h rfl rfl rfl rfl ?_; intro f h
    refine s_off (b := false) h rfl rfl rfl rfl ?_; intro f h
    refine s_off (b := false) h rfl rfl rfl rfl ?_; intro f h
    refine s_pure h (ru_pick_t (h.ev rfl) (h.ev rfl)) rfl ?_; intro f h
    refine s_nil ?_
    refine hK4 _ _ ?_
    refine wpIn_cond_true (h.ev rfl) ?_
    refine c_seq fun K5 hK5 => ?_
    refine c_region ?_
    refine s_call h s fnc13 (alive_any _) rfl rfl ?_; intro f w1 v9 hT hE h s; obtain rfl := hT
    refine s_pure h (ru_assign (h.ev rfl)) rfl ?_; intro f h
    refine s_nil ?_
    refine hK5 _ _ ?_
    refine wpIn_ret ?_
    refine t_ret ?_
    exact e_tmp rfl h s rfl (rfl)
  · skip
    cases hz : (decide (r.length = 0) : Bool)
    · skip
      refine c_region ?_
      refine s_pure h (ru_move (h.ev rfl)) rfl ?_; intro f h
      refine s_call h s fnc11 (ret_val (.bool true) (right_any r (cutV vh (min l.length 18)) _ (hlv.keep s.ext) hln) (congrArg Value.bool hr)) rfl rfl ?_; intro f w1 v9 hT hE h s; obtain rfl := hT
      refine s_pure h (ru_val (.bool false) (ru_not (h.ev rfl)) rfl) rfl ?_; intro f h
      refine s_pure h (ru_move (h.ev rfl)) rfl ?_; intro f h
      refine s_on h rfl rfl rfl ?_
      refine s_pure h (ru_move (h.ev rfl)) rfl ?_; intro f h
      refine s_on h rfl rfl rfl ?_
      refine s_pure h (ru_lenZ (hlv.keep s.ext) Try.underlying22 (h.ev rfl)) rfl ?_; intro f h
      refine s_on h rfl rfl rfl ?_
      refine s_pure h (ru_val (.bool false) (ru_eql (h.ev rfl) (h.ev rfl)) (congrArg Value.bool (decide_eq_false (by have := of_decide_eq_false hz; omega)))) rfl ?_; intro f h
      refine s_pure h (ru_pick_f (h.ev rfl) (h.ev rfl)) rfl ?_; intro f h
      refine s_nil ?_
      refine hK4 _ _ ?_
      refine wpIn_cond_false (h.ev rfl) ?_
      refine wpIn_skip ?_
      refine hK3 _ _ ?_
      refine c_seq fun K6 hK6 => ?_
      refine c_region ?_
      have hg := (rg_iff r).1 hr
      have h0 := of_decide_eq_false hz
      have ho := own_mem x9 (show 0 < r.length by omega)
      refine s_pure h (ru_move (h.ev rfl)) rfl ?_; intro f h
      refine s_load_row 0 h s row24 rfl rfl (by first | exact idArr_size _ | exact bytesF_size _ _) rfl ?_; intro f h
      refine s_call h s fnc10 (owner_any r (cutV vh (min l.length 18)) x9 _ (hlv.keep s.ext) hln) rfl rfl ?_; intro f w1 v9 hT hE h s; obtain rfl := hT
      refine s_pure h (ru_move (h.ev rfl)) rfl ?_; intro f h
      refine s_pure h (ru_extract (h.ev rfl) rfl) rfl ?_; intro f h
      refine s_pure h (ru_extract (h.ev rfl) rfl) rfl ?_; intro f h
      refine s_alloc (mbArr zMb) h s zero30 rfl rfl ?_; intro f w1 b5 h s
      refine s_store_row 0 h s row30 rfl rfl rfl (mbArr_size _) (mbArr_size _) (mbArr_ones _) ?_; intro w1 s
      refine s_pure h (ru_assign (h.ev rfl)) rfl ?_; intro f h
      refine s_nil ?_
      refine hK6 _ _ ?_
      refine c_seq fun K7 hK7 => ?_
      refine c_region ?_
      refine s_pure h (ru_assign (h.ev rfl)) rfl ?_; intro f h
      refine s_nil ?_
      refine hK7 _ _ ?_
      refine c_seq fun K8 hK8 => ?_
      refine c_seq fun K9 hK9 => ?_
      refine c_region ?_
      refine s_pure h (ru_move (h.ev rfl)) rfl ?_; intro f h
      refine s_pure h (ru_lenZ (hlv.keep s.ext) Try.underlying22 (h.ev rfl)) rfl ?_; intro f h
      refine s_pure h (ru_move (h.ev rfl)) rfl ?_; intro f h
      refine s_nil ?_
      refine hK9 _ _ ?_
      refine wpIn_block ?_
      refine wpIn_loop_ghost (fun nn aa ww => ∃ k : Nat, Sl 101 aa [(1, idV x9), (3, .pointer (some ⟨b3, 0, none⟩)), (5, .pointer (some ⟨b5, 0, none⟩)), (0, (cutV vh (min l.length 18))), (6, .int .i64 (ownE r)), (7, .int .i64 ((cntO r (ownL r x9) k : Nat) : Int)), (33, (cutV vh (min l.length 18))), (34, .int .i64 (r.length : Int)), (35, .int .i64 (k : Int))] ∧ St w [.blk b5 (.cells (mbArr (ownM r x9)) 30), .blk b3 (.cells (idArr x9) 24)] ww ∧ nn = r.length - k ∧ k ≤ r.length) (r.length - (0)) ⟨0, h.only ⟨rfl, rfl, rfl, rfl, rfl, rfl, rfl, rfl, slot_int rfl (by omega), trivial⟩, s.as ⟨rfl, rfl, trivial⟩, rfl, Nat.zero_le _⟩ ?_
      rintro _ f w1 ⟨k, h, s, hnn, hp0⟩
      refine c_seq fun K10 hK10 => ?_
      refine c_region ?_
      refine s_pure h (ru_lss (h.ev rfl) (h.ev rfl)) rfl ?_; intro f h
      refine s_nil ?_
      refine hK10 _ _ ?_
      refine c_seq fun K11 hK11 => ?_
      refine c_cond h rfl (fun hc => ?_) (fun hc => ?_)
      · replace hc := of_decide_eq_true hc
        refine wpIn_skip ?_
        refine hK11 _ _ ?_
        refine c_seq fun K12 hK12 => ?_
        refine wpIn_block ?_
        refine c_seq fun K13 hK13 => ?_
        refine c_region ?_
        have hkl : k < r.length := by omega
        have hmk := mb_mem hkl
        have hmn := nxt_mem hmk
        obtain ⟨ha1, ha2⟩ := aft_in hg hmk (n := 1) (by decide)
        have hal : aftL r (r.getD k zMb).1 1 = [nxtL r (r.getD k zMb)] := ha2.trans (fol_one _ _)
        have hal1 : (aftL r (r.getD k zMb).1 1).length = 1 := by rw [hal]; rfl
        refine s_pure h (ru_ixz (hlv.keep s.ext) (k) Try.underlying22 szo30 (h.ev rfl) (h.ev rfl) (by omega) (by omega)) rfl ?_; intro f h
        refine s_load_at ((hlv.keep s.ext).el (k) (by omega) (by decide) (D := mbArr (r.getD k zMb)) (mb_elD r k hkl)) h row30 rfl (mbArr_size _) rfl ?_; intro f h
        refine s_alloc (mbArr zMb) h s zero30 rfl rfl ?_; intro f w1 b9 h s
        refine s_store_row 0 h s row30 rfl rfl rfl (mbArr_size _) (mbArr_size _) (mbArr_ones _) ?_; intro w1 s
        refine s_nil ?_
        refine hK13 _ _ ?_
        refine c_seq fun K14 hK14 => ?_
        refine c_region ?_
        refine s_pure h (ru_move (h.ev rfl)) rfl ?_; intro f h
        refine s_pure h (ru_field fld30_0 (h.ev rfl)) rfl ?_; intro f h
        refine s_load_at1 (cell_of_has (Has.of_own s 0 rfl) 0 (mbArr_no _)) h one3 rfl rfl ?_; intro f h
        refine s_call h s fnc18 (before_any r (cutV vh (min l.length 18)) (r.getD k zMb).1 _ (hlv.keep s.ext) hln) rfl rfl ?_; intro f w1 v9 hT hE h s; obtain rfl := hT
        refine s_pure h (ru_move (h.ev rfl)) rfl ?_; intro f h
        refine s_pure h (ru_extract (h.ev rfl) rfl) rfl ?_; intro f h
        refine s_pure h (ru_extract (h.ev rfl) rfl) rfl ?_; intro f h
        refine s_alloc (mbArr zMb) h s zero30 rfl rfl ?_; intro f w1 b10 h s
        refine s_store_row 0 h s row30 rfl rfl rfl (mbArr_size _) (mbArr_size _) (mbArr_ones _) ?_; intro w1 s
        refine s_pure h (ru_assign (h.ev rfl)) rfl ?_; intro f h
        refine s_nil ?_
        refine hK14 _ _ ?_
        refine c_seq fun K15 hK15 => ?_
        refine c_region ?_
        refine s_pure h (ru_move (h.ev rfl)) rfl ?_; intro f h
        refine s_pure h (ru_field fld30_0 (h.ev rfl)) rfl ?_; intro f h
        refine s_load_at1 (cell_of_has (Has.of_own s 1 rfl) 0 (mbArr_no _)) h one3 rfl rfl ?_; intro f h
        refine s_call h s fnc17 (after_any r (cutV vh (min l.length 18)) (r.getD k zMb).1 1 _ (hlv.keep s.ext) hln) rfl rfl ?_; rintro f w1 v9 ⟨va, rfl, hT⟩ hE h sq; replace s := s.sl_new hE hT
        refine s_pure h (ru_move (h.ev rfl)) rfl ?_; intro f h
        refine s_pure h (ru_extract (h.ev rfl) rfl) rfl ?_; intro f h
        refine s_pure h (ru_extract (h.ev rfl) rfl) rfl ?_; intro f h
        refine s_pure h (ru_assign (h.ev rfl)) rfl ?_; intro f h
        refine s_pure h (ru_assign (h.ev rfl)) rfl ?_; intro f h
        refine s_nil ?_
        refine hK15 _ _ ?_
        refine c_seq fun K16 hK16 => ?_
        refine c_seq fun K17 hK17 => ?_
        refine c_region ?_
        refine s_pure h (ru_move (h.ev rfl)) rfl ?_; intro f h
        refine s_pure h (ru_val (.bool false) (ru_neq (h.ev rfl) (h.ev rfl)) (congrArg Value.bool (decide_eq_false (not_not_intro (fin_in hg hmk).1)))) rfl ?_; intro f h
        refine s_pure h (ru_move (h.ev rfl)) rfl ?_; intro f h
        refine s_on h rfl rfl rfl ?_
        refine s_pure h (ru_move (h.ev rfl)) rfl ?_; intro f h
        refine s_on h rfl rfl rfl ?_
        refine s_pure h (ru_val (.bool false) (ru_neq (h.ev rfl) (h.ev rfl)) (congrArg Value.bool (decide_eq_false (not_not_intro ha1)))) rfl ?_; intro f h
        refine s_pure h (ru_pick_f (h.ev rfl) (h.ev rfl)) rfl ?_; intro f h
        refine s_pure h (ru_move (h.ev rfl)) rfl ?_; intro f h
        refine s_on h rfl rfl rfl ?_
        refine s_pure h (ru_move (h.ev rfl)) rfl ?_; intro f h
        refine s_on h rfl rfl rfl ?_
        refine s_len_sl 0 h s Try.underlying22 rfl rfl rfl ?_; intro f h
        refine s_on h rfl rfl rfl ?_
        refine s_pure h (ru_val (.bool false) (ru_neq (h.ev rfl) (h.ev rfl)) (congrArg Value.bool (decide_eq_false (by omega)))) rfl ?_; intro f h
        refine s_pure h (ru_pick_f (h.ev rfl) (h.ev rfl)) rfl ?_; intro f h
        refine s_nil ?_
        refine hK17 _ _ ?_
        refine wpIn_cond_false (h.ev rfl) ?_
        refine wpIn_skip ?_
        refine hK16 _ _ ?_
        refine c_seq fun K18 hK18 => ?_
        refine c_region ?_
        refine s_pure h (ru_move (h.ev rfl)) rfl ?_; intro f h
        refine s_pure h (ru_move (h.ev rfl)) rfl ?_; intro f h
        refine s_pure h (ru_ixz (RdZ.of_own (s.getSl 0 rfl)) (0) Try.underlying22 szo30 (h.ev rfl) (h.ev rfl) (by omega) (by omega)) rfl ?_; intro f h
        refine s_pure h (ru_fieldE fld30_0 (h.ev rfl) ((RdZ.of_own (s.getSl 0 rfl)).some (by omega))) rfl ?_; intro f h
        refine s_load_at1 (V := .int .i64 (nxtL r (r.getD k zMb)).1) (rdz_at (RdZ.of_own (s.getSl 0 rfl)) (0 * 33 + 0) (by rw [hal]; rfl)) h one3 rfl rfl ?_; intro f h
        refine s_call h s fnc18 (before_any r (cutV vh (min l.length 18)) (nxtL r (r.getD k zMb)).1 _ (hlv.keep s.ext) hln) rfl rfl ?_; intro f w1 v9 hT hE h s; obtain rfl := hT
        refine s_pure h (ru_move (h.ev rfl)) rfl ?_; intro f h
        refine s_pure h (ru_extract (h.ev rfl) rfl) rfl ?_; intro f h
        refine s_pure h (ru_extract (h.ev rfl) rfl) rfl ?_; intro f h
        refine s_alloc (mbArr zMb) h s zero30 rfl rfl ?_; intro f w1 b14 h s
        refine s_store_row 0 h s row30 rfl rfl rfl (mbArr_size _) (mbArr_size _) (mbArr_ones _) ?_; intro w1 s
        refine s_pure h (ru_assign (h.ev rfl)) rfl ?_; intro f h
        refine s_nil ?_
        refine hK18 _ _ ?_
        refine c_seq fun K19 hK19 => ?_
        refine c_seq fun K20 hK20 => ?_
        refine c_region ?_
        refine s_pure h (ru_move (h.ev rfl)) rfl ?_; intro f h
        refine s_pure h (ru_val (.bool false) (ru_neq (h.ev rfl) (h.ev rfl)) (congrArg Value.bool (decide_eq_false (not_not_intro (fin_in hg hmn).1)))) rfl ?_; intro f h
        refine s_pure h (ru_move (h.ev rfl)) rfl ?_; intro f h
        refine s_on h rfl rfl rfl ?_
        refine s_load_row 0 h s row30 rfl rfl (mbArr_size _) rfl ?_; intro f h
        refine s_on h rfl rfl rfl ?_
        refine s_load_row 3 h s row30 rfl rfl (mbArr_size _) rfl ?_; intro f h
        refine s_on h rfl rfl rfl ?_
        refine s_pure h (ru_val (.bool false) (ru_neqW (eqM _ _) (by kernel_rfl) (by decide) (h.ev rfl) (h.ev rfl) (decide (befM r (nxtL r (r.getD k zMb)).1 = (r.getD k zMb))) (mbEq _ _)) (congrArg Value.bool (by rw [decide_eq_true (by rw [bef_in hg hmn, bef_nxt hg hmk])]; rfl))) rfl ?_; intro f h
        refine s_pure h (ru_pick_f (h.ev rfl) (h.ev rfl)) rfl ?_; intro f h
        refine s_nil ?_
        refine hK20 _ _ ?_
        refine wpIn_cond_false (h.ev rfl) ?_
        refine wpIn_skip ?_
        refine hK19 _ _ ?_
        refine c_seq fun K21 hK21 => ?_
        refine c_region ?_
        refine s_load_row 5 h s row24 rfl rfl (by first | exact idArr_size _ | exact bytesF_size _ _) rfl ?_; intro f h
        refine s_pure h (ru_field fld30_1 (h.ev rfl)) rfl ?_; intro f h
        refine s_load_at (Has.subL (Has.of_own s 2 rfl) 1 32 (D := idArr (_)) (mbArr_id _)) h row24 rfl (by first | exact idArr_size _ | exact bytesF_size _ _) rfl ?_; intro f h
        refine s_pure h (ru_field fld30_1 (h.ev rfl)) rfl ?_; intro f h
        refine s_load_at (Has.subL (Has.of_own s 3 rfl) 1 32 (D := idArr (_)) (mbArr_id _)) h row24 rfl (by first | exact idArr_size _ | exact bytesF_size _ _) rfl ?_; intro f h
        refine s_call h s fnc22 (in_any _ _ _ _) rfl rfl ?_; intro f w1 v9 hT hE h s; obtain rfl := hT
        refine s_nil ?_
        refine hK21 _ _ ?_
        refine c_cond h rfl (fun hc => ?_) (fun hc => ?_)
        · refine c_seq fun K22 hK22 => ?_
          refine c_region ?_
          refine s_pure h (ru_move (h.ev rfl)) rfl ?_; intro f h
          have hcl := cntO_le r (ownL r x9) k
          refine s_pure h (ru_add (h.ev rfl) (h.ev rfl) (by omega)) rfl ?_; intro f h
          refine s_pure h (ru_assign (h.ev rfl)) rfl ?_; intro f h
          refine s_nil ?_
          refine hK22 _ _ ?_
          refine c_seq fun K23 hK23 => ?_
          refine c_region ?_
          refine s_load_row 3 h s row30 rfl rfl (mbArr_size _) rfl ?_; intro f h
          refine s_load_row 4 h s row30 rfl rfl (mbArr_size _) rfl ?_; intro f h
          refine s_pure h (ru_val (.bool false) (ru_neqW (eqM _ _) (by kernel_rfl) (by decide) (h.ev rfl) (h.ev rfl) (decide ((r.getD k zMb) = ownM r x9)) (mbEq _ _)) (congrArg Value.bool (by rw [decide_eq_true (by rw [(own_ok x9 hr h0).2]; exact (own_in hg x9 hmk).1 (by rw [← bef_in hg hmk]; exact hc))]; rfl))) rfl ?_; intro f h
          refine s_nil ?_
          refine hK23 _ _ ?_
          refine wpIn_cond_false (h.ev rfl) ?_
          refine wpIn_skip ?_
          refine b_norm ?_
          refine hK12 _ _ ?_
          refine c_region ?_
          refine s_pure h (ru_add (h.ev rfl) (h.ev rfl) (by omega)) rfl ?_; intro f h
          refine s_pure h (ru_move (h.ev rfl)) rfl ?_; intro f h
          refine s_nil ?_
          refine t_norm ?_
          have hqo := (own_in hg x9 hmk).1 (by rw [← bef_in hg hmk]; exact hc)
          exact ⟨_, by omega, ⟨k + 1, h.only ⟨rfl, rfl, rfl, rfl, rfl, slot_int rfl (by rw [cntO_yes hkl hqo]; rfl), rfl, rfl, slot_int rfl (by omega), trivial⟩, St.as (s.pick _ (List.sublist_append_right [_, _, _, _] _)) ⟨rfl, rfl, trivial⟩, rfl, by omega⟩⟩
        · refine wpIn_skip ?_
          refine b_norm ?_
          refine hK12 _ _ ?_
          refine c_region ?_
          refine s_pure h (ru_add (h.ev rfl) (h.ev rfl) (by omega)) rfl ?_; intro f h
          refine s_pure h (ru_move (h.ev rfl)) rfl ?_; intro f h
          refine s_nil ?_
          refine t_norm ?_
          have hqo : (r.getD k zMb) ≠ (ownL r x9) := fun e9 => by rw [bef_in hg hmk, (own_in hg x9 hmk).2 e9] at hc; cases hc
          exact ⟨_, by omega, ⟨k + 1, h.only ⟨rfl, rfl, rfl, rfl, rfl, slot_int rfl (by rw [cntO_no hkl hqo]), rfl, rfl, slot_int rfl (by omega), trivial⟩, St.as (s.pick _ (List.sublist_append_right [_, _, _, _] _)) ⟨rfl, rfl, trivial⟩, rfl, by omega⟩⟩
      · replace hc := of_decide_eq_false hc
        refine wpIn_exit ?_
        refine t_exit ?_
        refine t_exit ?_
        refine b_exit ?_
        refine hK8 _ _ ?_
        refine c_seq fun K24 hK24 => ?_
        refine c_region ?_
        refine s_call h s fnc13 (alive_any _) rfl rfl ?_; intro f w1 v9 hT hE h s; obtain rfl := hT
        refine s_pure h (ru_move (h.ev rfl)) rfl ?_; intro f h
        refine s_on h rfl rfl rfl ?_
        refine s_pure h (ru_move (h.ev rfl)) rfl ?_; intro f h
        refine s_on h rfl rfl rfl ?_
        refine s_pure h (ru_val (.bool true) (ru_eql (h.ev rfl) (h.ev rfl)) (congrArg Value.bool (decide_eq_true ((own_ok x9 hr h0).1)))) rfl ?_; intro f h
        refine s_pure h (ru_pick_t (h.ev rfl) (h.ev rfl)) rfl ?_; intro f h
        refine s_pure h (ru_move (h.ev rfl)) rfl ?_; intro f h
        refine s_on h rfl rfl rfl ?_
        refine s_pure h (ru_move (h.ev rfl)) rfl ?_; intro f h
        refine s_on h rfl rfl rfl ?_
        refine s_pure h (ru_val (.bool true) (ru_eql (h.ev rfl) (h.ev rfl)) (congrArg Value.bool (decide_eq_true (by obtain rfl : k = r.length := (by omega); rw [cntO_end hg ho]; rfl)))) rfl ?_; intro f h
        refine s_pure h (ru_pick_t (h.ev rfl) (h.ev rfl)) rfl ?_; intro f h
        refine s_pure h (ru_assign (h.ev rfl)) rfl ?_; intro f h
        refine s_nil ?_
        refine hK24 _ _ ?_
        refine wpIn_ret ?_
        exact e_tmp rfl h s rfl (rfl)
    · skip
      refine c_region ?_
      refine s_pure h (ru_move (h.ev rfl)) rfl ?_; intro f h
      refine s_call h s fnc11 (ret_val (.bool true) (right_any r (cutV vh (min l.length 18)) _ (hlv.keep s.ext) hln) (congrArg Value.bool hr)) rfl rfl ?_; intro f w1 v9 hT hE h s; obtain rfl := hT
      refine s_pure h (ru_val (.bool false) (ru_not (h.ev rfl)) rfl) rfl ?_; intro f h
      refine s_pure h (ru_move (h.ev rfl)) rfl ?_; intro f h
      refine s_on h rfl rfl rfl ?_
      refine s_pure h (ru_move (h.ev rfl)) rfl ?_; intro f h
      refine s_on h rfl rfl rfl ?_
      refine s_pure h (ru_lenZ (hlv.keep s.ext) Try.underlying22 (h.ev rfl)) rfl ?_; intro f h
      refine s_on h rfl rfl rfl ?_
      refine s_pure h (ru_val (.bool true) (ru_eql (h.ev rfl) (h.ev rfl)) (congrArg Value.bool (decide_eq_true (by have := of_decide_eq_true hz; omega)))) rfl ?_; intro f h
      refine s_pure h (ru_pick_f (h.ev rfl) (h.ev rfl)) rfl ?_; intro f h
      refine s_nil ?_
      refine hK4 _ _ ?_
      refine wpIn_cond_true (h.ev rfl) ?_
      refine c_seq fun K25 hK25 => ?_
      refine c_region ?_
      refine s_call h s fnc13 (alive_any _) rfl rfl ?_; intro f w1 v9 hT hE h s; obtain rfl := hT
      refine s_pure h (ru_assign (h.ev rfl)) rfl ?_; intro f h
      refine s_nil ?_
      refine hK25 _ _ ?_
      refine wpIn_ret ?_
      refine t_ret ?_
      exact e_tmp rfl h s rfl (rfl)
end Go.Proofs.Ytgnijdeieglpkaa
