/- What TableOrders answers: for all arguments. -/
import Derived.Test.YtliknbdambmmaaaVb
import Derived.Test.YtliknbdambmmaaaXl
set_option linter.unusedVariables false
set_option linter.unusedSimpArgs false
set_option linter.unusedSectionVars false
namespace Go.Proofs.Ytliknbdambmmaaa
open Go.RowKit
set_option maxHeartbeats 4000000 in
theorem ltorders_any (l : List Tg) (vh : Value) (by9 : Int) (x : Id) (w : World) (hR : RdZ w vh 67 l.length (tgCells l)) : Calls Try.prog 7 [vh, .int .i64 by9, idV x].toArray w (Ret w (is (.bool true))) := by
  have hT := tg_take hR (min l.length 20) (by omega)
  obtain ⟨t, ht⟩ : ∃ x9, x9 = l.take (min l.length 20) := ⟨_, rfl⟩
  rw [← ht] at hT
  have htl : t.length ≤ 20 := by rw [ht, List.length_take]; omega
  refine c_enter Try.func7 rfl Try.ntmps7 rfl [(0, vh), (1, .int .i64 by9), (2, idV x)] (by simp) fun f h => ?_
  have s := St.start w
  refine c_seq fun K1 hK1 => ?_
  refine c_region ?_
  refine s_box (idArr x) h s rfl rfl rfl ?_; intro f w1 b5 h s
  refine s_pure h (ru_assign (h.ev rfl)) rfl ?_; intro f h
  refine s_nil ?_
  refine hK1 _ _ ?_
  refine c_seq fun K2 hK2 => ?_
  refine c_region ?_
  refine s_pure h (ru_move (h.ev rfl)) rfl ?_; intro f h
  refine s_pure h (ru_move (h.ev rfl)) rfl ?_; intro f h
  refine s_pure h (ru_lenZ (hR.keep s.ext) Try.underlying22 (h.ev rfl)) rfl ?_; intro f h
  refine s_pure h (ru_min (h.ev rfl) (h.ev rfl)) rfl ?_; intro f h
  refine s_pure h (ru_slice_hiZ (hR.keep s.ext) (min l.length 20) Try.underlying22 szo28 (h.ev rfl) (h.ev rfl) (by split <;> omega) (by omega)) rfl ?_; intro f h
  refine s_pure h (ru_assign (h.ev rfl)) rfl ?_; intro f h
  refine s_nil ?_
  refine hK2 _ _ ?_
  refine c_seq fun K3 hK3 => ?_
  refine c_region ?_
  refine s_pure h (ru_assign (h.ev rfl)) rfl ?_; intro f h
  refine s_pure h (ru_assign (h.ev rfl)) rfl ?_; intro f h
  refine s_pure h (ru_assign (h.ev rfl)) rfl ?_; intro f h
  refine s_nil ?_
  refine hK3 _ _ ?_
  refine c_seq fun K4 hK4 => ?_
  refine c_seq fun K5 hK5 => ?_
  refine c_region ?_
  replace s := s.grp0 (S := fun w9 => RdT w9 nilV []) (fun w9 => rt_nilT w9)
  replace s := s.grp0 (S := fun w9 => RdT w9 nilV []) (fun w9 => rt_nilT w9)
  refine s_pure h (ru_move (h.ev rfl)) rfl ?_; intro f h
  refine s_pure h (ru_lenZ (hT.keep s.ext) Try.underlying22 (h.ev rfl)) rfl ?_; intro f h
  refine s_pure h (ru_move (h.ev rfl)) rfl ?_; intro f h
  refine s_nil ?_
  refine hK5 _ _ ?_
  refine wpIn_block ?_
  refine wpIn_loop_ghost (fun nn aa ww => ∃ k : Nat, ∃ va : Value, ∃ vb : Value, ∃ ka : List Nat, ∃ kb : List Nat, Sl 128 aa [(2, idV x), (5, .pointer (some ⟨b5, 0, none⟩)), (0, (cutV vh (min l.length 20))), (1, .int .i64 by9), (7, va), (8, vb), (9, .slice none 0 0), (28, .int .i64 (t.length : Int)), (29, .int .i64 (k : Int))] ∧ St w [(.grp kb (fun w9 => RdT w9 vb (folT (rotT t (rotR by9 t.length) k)))), (.grp ka (fun w9 => RdT w9 va (folT (t.take k)))), .blk b5 (.cells (idArr x) 24)] ww ∧ nn = t.length - k ∧ k ≤ t.length) (t.length - (0)) ⟨0, nilV, nilV, [], [], h.only ⟨rfl, rfl, rfl, rfl, rfl, rfl, rfl, rfl, slot_int rfl (by omega), trivial⟩, s.as ⟨rfl, rfl, rfl, trivial⟩, rfl, Nat.zero_le _⟩ ?_
  rintro _ f w1 ⟨k, va, vb, ka, kb, h, s, hnn, hp0⟩
  refine c_seq fun K6 hK6 => ?_
  refine c_region ?_
  refine s_pure h (ru_lss (h.ev rfl) (h.ev rfl)) rfl ?_; intro f h
  refine s_nil ?_
  refine hK6 _ _ ?_
  refine c_seq fun K7 hK7 => ?_
  refine c_cond h rfl (fun hc => ?_) (fun hc => ?_)
  · replace hc := of_decide_eq_true hc
    refine wpIn_skip ?_
    refine hK7 _ _ ?_
    refine c_seq fun K8 hK8 => ?_
    refine wpIn_block ?_
    refine c_seq fun K9 hK9 => ?_
    refine c_region ?_
    refine s_pure h (ru_move (h.ev rfl)) rfl ?_; intro f h
    refine s_pure h (ru_assign (h.ev rfl)) rfl ?_; intro f h
    refine s_nil ?_
    refine hK9 _ _ ?_
    refine c_seq fun K10 hK10 => ?_
    refine c_seq fun K11 hK11 => ?_
    refine c_region ?_
    refine s_pure h (ru_move (h.ev rfl)) rfl ?_; intro f h
    refine s_pure h (ru_move (h.ev rfl)) rfl ?_; intro f h
    refine s_pure h (ru_move (h.ev rfl)) rfl ?_; intro f h
    have hkt : k < t.length := by omega
    obtain ⟨hr1, hr2⟩ := rotR_is by9 (show 1 ≤ t.length by omega)
    have htm := tm_N by9 (show (1 : Int) ≤ t.length by omega)
    have hix9 : ((k + rotR by9 t.length) % t.length) < t.length := Nat.mod_lt _ (by omega)
    refine s_pure h (ru_ixz (hT.keep s.ext) (k) Try.underlying22 szo28 (h.ev rfl) (h.ev rfl) (rfl) (by omega)) rfl ?_; intro f h
    refine s_load_at ((hT.keep s.ext).el (k) (by omega) (by decide) (D := tgArr (t.getD k zTg)) (tgr_el t k hkt)) h row28 rfl (tgArr_size _) rfl ?_; intro f h
    have hlo : (folT (t.take k)).length ≤ 32 := ord_le (by first | (rw [List.length_take]; omega) | (rw [rotT_len]; omega))
    refine s_call h s fnc9 (tput_any (folT (t.take k)) va (t.getD k zTg) _ (s.getG 1 rfl) (by omega)) rfl rfl ?_; rintro f w1 v38 ⟨vn, kn, rfl, hG⟩ hE h sq; replace s := s.add hG; clear hG
    refine s_pure h (ru_move (h.ev rfl)) rfl ?_; intro f h
    refine s_pure h (ru_extract (h.ev rfl) rfl) rfl ?_; intro f h
    refine s_pure h (ru_extract (h.ev rfl) rfl) rfl ?_; intro f h
    refine s_pure h (ru_assign (h.ev rfl)) rfl ?_; intro f h
    refine s_pure h (ru_assign (h.ev rfl)) rfl ?_; intro f h
    refine s_nil ?_
    refine hK11 _ _ ?_
    refine c_seq fun K12 hK12 => ?_
    cases pa : (decide (putE (folT (t.take k)) (t.getD k zTg) = 0) : Bool)
    · skip
      refine c_region ?_
      refine s_pure h (ru_move (h.ev rfl)) rfl ?_; intro f h
      refine s_pure h (ru_val (.bool false) (ru_eql (h.ev rfl) (h.ev rfl)) (congrArg Value.bool pa)) rfl ?_; intro f h
      refine s_nil ?_
      refine hK12 _ _ ?_
      refine wpIn_cond_false (h.ev rfl) ?_
      refine wpIn_skip ?_
      refine hK10 _ _ ?_
      refine c_seq fun K13 hK13 => ?_
      refine c_region ?_
      have ea : (folT (t.take (k + 1))) = (folT (t.take k)) := (ord_a hkt).trans (stpT_n pa)
      rw [← ea] at s
      refine s_pure h (ru_move (h.ev rfl)) rfl ?_; intro f h
      refine s_pure h (ru_assign (h.ev rfl)) rfl ?_; intro f h
      refine s_nil ?_
      refine hK13 _ _ ?_
      refine c_seq fun K14 hK14 => ?_
      refine c_seq fun K15 hK15 => ?_
      refine c_region ?_
      refine s_pure h (ru_move (h.ev rfl)) rfl ?_; intro f h
      refine s_pure h (ru_lenZ (hT.keep s.ext) Try.underlying22 (h.ev rfl)) rfl ?_; intro f h
      refine s_pure h (ru_val (.bool true) (ru_gtr (h.ev rfl) (h.ev rfl)) (congrArg Value.bool (decide_eq_true (by omega)))) rfl ?_; intro f h
      refine s_nil ?_
      refine hK15 _ _ ?_
      refine wpIn_cond_true (h.ev rfl) ?_
      refine c_region ?_
      refine s_pure h (ru_move (h.ev rfl)) rfl ?_; intro f h
      refine s_pure h (ru_move (h.ev rfl)) rfl ?_; intro f h
      refine s_pure h (ru_move (h.ev rfl)) rfl ?_; intro f h
      refine s_pure h (ru_lenZ (hT.keep s.ext) Try.underlying22 (h.ev rfl)) rfl ?_; intro f h
      refine s_pure h (ru_remt (h.ev rfl) (h.ev rfl) (by omega)) rfl ?_; intro f h
      refine s_pure h (ru_move (h.ev rfl)) rfl ?_; intro f h
      refine s_pure h (ru_lenZ (hT.keep s.ext) Try.underlying22 (h.ev rfl)) rfl ?_; intro f h
      refine s_pure h (ru_add (h.ev rfl) (h.ev rfl) (by omega)) rfl ?_; intro f h
      refine s_pure h (ru_move (h.ev rfl)) rfl ?_; intro f h
      refine s_pure h (ru_lenZ (hT.keep s.ext) Try.underlying22 (h.ev rfl)) rfl ?_; intro f h
      refine s_pure h (ru_val (.int .i64 (rotR by9 t.length : Int)) (ru_rem (h.ev rfl) (h.ev rfl) (by omega)) (congrArg (Value.int .i64) hr1)) rfl ?_; intro f h
      refine s_pure h (ru_add (h.ev rfl) (h.ev rfl) (by omega)) rfl ?_; intro f h
      refine s_pure h (ru_move (h.ev rfl)) rfl ?_; intro f h
      refine s_pure h (ru_lenZ (hT.keep s.ext) Try.underlying22 (h.ev rfl)) rfl ?_; intro f h
      refine s_pure h (ru_val (.int .i64 ((((k + rotR by9 t.length) % t.length) : Nat) : Int)) (ru_rem (h.ev rfl) (h.ev rfl) (by omega)) (congrArg (Value.int .i64) (rotR_at _ _ _))) rfl ?_; intro f h
      refine s_pure h (ru_assign (h.ev rfl)) rfl ?_; intro f h
      refine s_nil ?_
      refine hK14 _ _ ?_
      refine c_seq fun K16 hK16 => ?_
      refine c_region ?_
      refine s_pure h (ru_move (h.ev rfl)) rfl ?_; intro f h
      refine s_pure h (ru_move (h.ev rfl)) rfl ?_; intro f h
      refine s_pure h (ru_move (h.ev rfl)) rfl ?_; intro f h
      refine s_pure h (ru_ixz (hT.keep s.ext) (((k + rotR by9 t.length) % t.length)) Try.underlying22 szo28 (h.ev rfl) (h.ev rfl) (rfl) (Nat.mod_lt _ (by omega))) rfl ?_; intro f h
      refine s_load_at ((hT.keep s.ext).el (((k + rotR by9 t.length) % t.length)) (by omega) (by decide) (D := tgArr (t.getD ((k + rotR by9 t.length) % t.length) zTg)) (tgr_el t _ (Nat.mod_lt _ (by omega)))) h row28 rfl (tgArr_size _) rfl ?_; intro f h
      have hlo : (folT (rotT t (rotR by9 t.length) k)).length ≤ 32 := ord_le (by first | (rw [List.length_take]; omega) | (rw [rotT_len]; omega))
      refine s_call h s fnc9 (tput_any (folT (rotT t (rotR by9 t.length) k)) vb (t.getD ((k + rotR by9 t.length) % t.length) zTg) _ (s.getG 1 rfl) (by omega)) rfl rfl ?_; rintro f w1 v69 ⟨vm, km, rfl, hG⟩ hE h sq; replace s := s.add hG; clear hG
      refine s_pure h (ru_move (h.ev rfl)) rfl ?_; intro f h
      refine s_pure h (ru_extract (h.ev rfl) rfl) rfl ?_; intro f h
      refine s_pure h (ru_extract (h.ev rfl) rfl) rfl ?_; intro f h
      refine s_pure h (ru_assign (h.ev rfl)) rfl ?_; intro f h
      refine s_pure h (ru_assign (h.ev rfl)) rfl ?_; intro f h
      refine s_nil ?_
      refine hK16 _ _ ?_
      refine c_seq fun K17 hK17 => ?_
      cases pb : (decide (putE (folT (rotT t (rotR by9 t.length) k)) (t.getD ((k + rotR by9 t.length) % t.length) zTg) = 0) : Bool)
      · skip
        refine c_region ?_
        refine s_pure h (ru_move (h.ev rfl)) rfl ?_; intro f h
        refine s_pure h (ru_val (.bool false) (ru_eql (h.ev rfl) (h.ev rfl)) (congrArg Value.bool pb)) rfl ?_; intro f h
        refine s_nil ?_
        refine hK17 _ _ ?_
        refine wpIn_cond_false (h.ev rfl) ?_
        refine wpIn_skip ?_
        refine b_norm ?_
        refine hK8 _ _ ?_
        refine c_region ?_
        refine s_pure h (ru_add (h.ev rfl) (h.ev rfl) (by omega)) rfl ?_; intro f h
        refine s_pure h (ru_move (h.ev rfl)) rfl ?_; intro f h
        refine s_nil ?_
        refine t_norm ?_
        have eb : (folT (rotT t (rotR by9 t.length) (k + 1))) = (folT (rotT t (rotR by9 t.length) k)) := (ord_b t (rotR by9 t.length) k).trans (stpT_n pb)
        rw [← eb] at s
        exact ⟨_, by omega, ⟨k + 1, va, vb, ka, kb, h.only ⟨rfl, rfl, rfl, rfl, rfl, rfl, rfl, rfl, slot_int rfl (by omega), trivial⟩, St.as (s.pick _ (List.Sublist.cons _ (List.Sublist.cons _ (List.Sublist.cons_cons _ (List.Sublist.cons_cons _ (List.Sublist.cons_cons _ (List.nil_sublist _))))))) ⟨rfl, rfl, rfl, trivial⟩, rfl, by omega⟩⟩
      · skip
        refine c_region ?_
        refine s_pure h (ru_move (h.ev rfl)) rfl ?_; intro f h
        refine s_pure h (ru_val (.bool true) (ru_eql (h.ev rfl) (h.ev rfl)) (congrArg Value.bool pb)) rfl ?_; intro f h
        refine s_nil ?_
        refine hK17 _ _ ?_
        refine wpIn_cond_true (h.ev rfl) ?_
        refine c_region ?_
        replace s := s.sel [0, 2, 1, 3, 4] rfl (by decide)
        replace s := s.merge (S := fun w9 => RdT w9 vm (folT (rotT t (rotR by9 t.length) (k + 1)))) (fun w9 h1 h2 => by rw [ord_b, stpT_y pb]; exact h1 h2)
        refine s_pure h (ru_move (h.ev rfl)) rfl ?_; intro f h
        refine s_pure h (ru_assign (h.ev rfl)) rfl ?_; intro f h
        refine s_nil ?_
        refine b_norm ?_
        refine hK8 _ _ ?_
        refine c_region ?_
        refine s_pure h (ru_add (h.ev rfl) (h.ev rfl) (by omega)) rfl ?_; intro f h
        refine s_pure h (ru_move (h.ev rfl)) rfl ?_; intro f h
        refine s_nil ?_
        refine t_norm ?_
        exact ⟨_, by omega, ⟨k + 1, va, vm, ka, (km ++ kb), h.only ⟨rfl, rfl, rfl, rfl, rfl, rfl, rfl, rfl, slot_int rfl (by omega), trivial⟩, St.as (s.pick _ (List.Sublist.cons_cons _ (List.Sublist.cons _ (List.Sublist.cons_cons _ (List.Sublist.cons_cons _ (List.nil_sublist _)))))) ⟨rfl, rfl, rfl, trivial⟩, rfl, by omega⟩⟩
    · skip
      refine c_region ?_
      refine s_pure h (ru_move (h.ev rfl)) rfl ?_; intro f h
      refine s_pure h (ru_val (.bool true) (ru_eql (h.ev rfl) (h.ev rfl)) (congrArg Value.bool pa)) rfl ?_; intro f h
      refine s_nil ?_
      refine hK12 _ _ ?_
      refine wpIn_cond_true (h.ev rfl) ?_
      refine c_region ?_
      replace s := s.sel [0, 2, 1, 3] rfl (by decide)
      replace s := s.merge (S := fun w9 => RdT w9 vn (folT (t.take (k + 1)))) (fun w9 h1 h2 => by rw [ord_a hkt, stpT_y pa]; exact h1 h2)
      refine s_pure h (ru_move (h.ev rfl)) rfl ?_; intro f h
      refine s_pure h (ru_assign (h.ev rfl)) rfl ?_; intro f h
      refine s_nil ?_
      refine hK10 _ _ ?_
      refine c_seq fun K18 hK18 => ?_
      refine c_region ?_
      refine s_pure h (ru_move (h.ev rfl)) rfl ?_; intro f h
      refine s_pure h (ru_assign (h.ev rfl)) rfl ?_; intro f h
      refine s_nil ?_
      refine hK18 _ _ ?_
      refine c_seq fun K19 hK19 => ?_
      refine c_seq fun K20 hK20 => ?_
      refine c_region ?_
      refine s_pure h (ru_move (h.ev rfl)) rfl ?_; intro f h
      refine s_pure h (ru_lenZ (hT.keep s.ext) Try.underlying22 (h.ev rfl)) rfl ?_; intro f h
      refine s_pure h (ru_val (.bool true) (ru_gtr (h.ev rfl) (h.ev rfl)) (congrArg Value.bool (decide_eq_true (by omega)))) rfl ?_; intro f h
      refine s_nil ?_
      refine hK20 _ _ ?_
      refine wpIn_cond_true (h.ev rfl) ?_
      refine c_region ?_
      refine s_pure h (ru_move (h.ev rfl)) rfl ?_; intro f h
      refine s_pure h (ru_move (h.ev rfl)) rfl ?_; intro f h
      refine s_pure h (ru_move (h.ev rfl)) rfl ?_; intro f h
      refine s_pure h (ru_lenZ (hT.keep s.ext) Try.underlying22 (h.ev rfl)) rfl ?_; intro f h
      refine s_pure h (ru_remt (h.ev rfl) (h.ev rfl) (by omega)) rfl ?_; intro f h
      refine s_pure h (ru_move (h.ev rfl)) rfl ?_; intro f h
      refine s_pure h (ru_lenZ (hT.keep s.ext) Try.underlying22 (h.ev rfl)) rfl ?_; intro f h
      refine s_pure h (ru_add (h.ev rfl) (h.ev rfl) (by omega)) rfl ?_; intro f h
      refine s_pure h (ru_move (h.ev rfl)) rfl ?_; intro f h
      refine s_pure h (ru_lenZ (hT.keep s.ext) Try.underlying22 (h.ev rfl)) rfl ?_; intro f h
      refine s_pure h (ru_val (.int .i64 (rotR by9 t.length : Int)) (ru_rem (h.ev rfl) (h.ev rfl) (by omega)) (congrArg (Value.int .i64) hr1)) rfl ?_; intro f h
      refine s_pure h (ru_add (h.ev rfl) (h.ev rfl) (by omega)) rfl ?_; intro f h
      refine s_pure h (ru_move (h.ev rfl)) rfl ?_; intro f h
      refine s_pure h (ru_lenZ (hT.keep s.ext) Try.underlying22 (h.ev rfl)) rfl ?_; intro f h
      refine s_pure h (ru_val (.int .i64 ((((k + rotR by9 t.length) % t.length) : Nat) : Int)) (ru_rem (h.ev rfl) (h.ev rfl) (by omega)) (congrArg (Value.int .i64) (rotR_at _ _ _))) rfl ?_; intro f h
      refine s_pure h (ru_assign (h.ev rfl)) rfl ?_; intro f h
      refine s_nil ?_
      refine hK19 _ _ ?_
      refine c_seq fun K21 hK21 => ?_
      refine c_region ?_
      refine s_pure h (ru_move (h.ev rfl)) rfl ?_; intro f h
      refine s_pure h (ru_move (h.ev rfl)) rfl ?_; intro f h
      refine s_pure h (ru_move (h.ev rfl)) rfl ?_; intro f h
      refine s_pure h (ru_ixz (hT.keep s.ext) (((k + rotR by9 t.length) % t.length)) Try.underlying22 szo28 (h.ev rfl) (h.ev rfl) (rfl) (Nat.mod_lt _ (by omega))) rfl ?_; intro f h
      refine s_load_at ((hT.keep s.ext).el (((k + rotR by9 t.length) % t.length)) (by omega) (by decide) (D := tgArr (t.getD ((k + rotR by9 t.length) % t.length) zTg)) (tgr_el t _ (Nat.mod_lt _ (by omega)))) h row28 rfl (tgArr_size _) rfl ?_; intro f h
      have hlo : (folT (rotT t (rotR by9 t.length) k)).length ≤ 32 := ord_le (by first | (rw [List.length_take]; omega) | (rw [rotT_len]; omega))
      refine s_call h s fnc9 (tput_any (folT (rotT t (rotR by9 t.length) k)) vb (t.getD ((k + rotR by9 t.length) % t.length) zTg) _ (s.getG 1 rfl) (by omega)) rfl rfl ?_; rintro f w1 v69 ⟨vm, km, rfl, hG⟩ hE h sq; replace s := s.add hG; clear hG
      refine s_pure h (ru_move (h.ev rfl)) rfl ?_; intro f h
      refine s_pure h (ru_extract (h.ev rfl) rfl) rfl ?_; intro f h
      refine s_pure h (ru_extract (h.ev rfl) rfl) rfl ?_; intro f h
      refine s_pure h (ru_assign (h.ev rfl)) rfl ?_; intro f h
      refine s_pure h (ru_assign (h.ev rfl)) rfl ?_; intro f h
      refine s_nil ?_
      refine hK21 _ _ ?_
      refine c_seq fun K22 hK22 => ?_
      cases pb : (decide (putE (folT (rotT t (rotR by9 t.length) k)) (t.getD ((k + rotR by9 t.length) % t.length) zTg) = 0) : Bool)
      · skip
        refine c_region ?_
        refine s_pure h (ru_move (h.ev rfl)) rfl ?_; intro f h
        refine s_pure h (ru_val (.bool false) (ru_eql (h.ev rfl) (h.ev rfl)) (congrArg Value.bool pb)) rfl ?_; intro f h
        refine s_nil ?_
        refine hK22 _ _ ?_
        refine wpIn_cond_false (h.ev rfl) ?_
        refine wpIn_skip ?_
        refine b_norm ?_
        refine hK8 _ _ ?_
        refine c_region ?_
        refine s_pure h (ru_add (h.ev rfl) (h.ev rfl) (by omega)) rfl ?_; intro f h
        refine s_pure h (ru_move (h.ev rfl)) rfl ?_; intro f h
        refine s_nil ?_
        refine t_norm ?_
        have eb : (folT (rotT t (rotR by9 t.length) (k + 1))) = (folT (rotT t (rotR by9 t.length) k)) := (ord_b t (rotR by9 t.length) k).trans (stpT_n pb)
        rw [← eb] at s
        exact ⟨_, by omega, ⟨k + 1, vn, vb, (kn ++ ka), kb, h.only ⟨rfl, rfl, rfl, rfl, rfl, rfl, rfl, rfl, slot_int rfl (by omega), trivial⟩, St.as (s.sel [2, 1, 3] rfl (by decide)) ⟨rfl, rfl, rfl, trivial⟩, rfl, by omega⟩⟩
      · skip
        refine c_region ?_
        refine s_pure h (ru_move (h.ev rfl)) rfl ?_; intro f h
        refine s_pure h (ru_val (.bool true) (ru_eql (h.ev rfl) (h.ev rfl)) (congrArg Value.bool pb)) rfl ?_; intro f h
        refine s_nil ?_
        refine hK22 _ _ ?_
        refine wpIn_cond_true (h.ev rfl) ?_
        refine c_region ?_
        replace s := s.sel [0, 2, 1, 3] rfl (by decide)
        replace s := s.merge (S := fun w9 => RdT w9 vm (folT (rotT t (rotR by9 t.length) (k + 1)))) (fun w9 h1 h2 => by rw [ord_b, stpT_y pb]; exact h1 h2)
        refine s_pure h (ru_move (h.ev rfl)) rfl ?_; intro f h
        refine s_pure h (ru_assign (h.ev rfl)) rfl ?_; intro f h
        refine s_nil ?_
        refine b_norm ?_
        refine hK8 _ _ ?_
        refine c_region ?_
        refine s_pure h (ru_add (h.ev rfl) (h.ev rfl) (by omega)) rfl ?_; intro f h
        refine s_pure h (ru_move (h.ev rfl)) rfl ?_; intro f h
        refine s_nil ?_
        refine t_norm ?_
        exact ⟨_, by omega, ⟨k + 1, vn, vm, (kn ++ ka), (km ++ kb), h.only ⟨rfl, rfl, rfl, rfl, rfl, rfl, rfl, rfl, slot_int rfl (by omega), trivial⟩, St.as (s.pick _ (List.Sublist.cons_cons _ (List.Sublist.cons_cons _ (List.Sublist.cons_cons _ (List.nil_sublist _))))) ⟨rfl, rfl, rfl, trivial⟩, rfl, by omega⟩⟩
  · replace hc := of_decide_eq_false hc
    refine wpIn_exit ?_
    refine t_exit ?_
    refine t_exit ?_
    refine b_exit ?_
    refine hK4 _ _ ?_
    refine c_seq fun K23 hK23 => ?_
    refine c_seq fun K24 hK24 => ?_
    refine c_region ?_
    obtain rfl : k = t.length := by omega
    have hpm := fol_perm (rotT_perm (l := t) (r := rotR by9 t.length) (by rcases Nat.eq_zero_or_pos t.length with h9 | h9; exact .inr h9; exact .inl (rotR_is by9 h9).2)) (by rw [rotT_len]; omega)
    rw [List.take_length, hpm.1] at s
    have hfl := fol_le t (by omega)
    have hFR := hfl.2
    replace s := s.nilSl 28 67
    refine s_pure h (ru_move (h.ev rfl)) rfl ?_; intro f h
    refine s_pure h (ru_lenZ ((s.getG 2 rfl)) Try.underlying22 (h.ev rfl)) rfl ?_; intro f h
    refine s_pure h (ru_move (h.ev rfl)) rfl ?_; intro f h
    refine s_nil ?_
    refine hK24 _ _ ?_
    refine wpIn_block ?_
    refine wpIn_loop_ghost (fun nn aa ww => ∃ k : Nat, ∃ vz : Value, Sl 128 aa [(0, (cutV vh (min l.length 20))), (1, .int .i64 by9), (2, idV x), (5, .pointer (some ⟨b5, 0, none⟩)), (7, va), (8, vb), (9, vz), (76, va), (77, .int .i64 ((folT t).length : Int)), (78, .int .i64 (k : Int))] ∧ St w [.sl vz 28 67 (((folT t).take k).filter (fun y => decide (128 ≤ com y.1 x))).length (tgCells (((folT t).take k).filter (fun y => decide (128 ≤ com y.1 x)))), (.grp kb (fun w9 => RdT w9 vb (folT t))), (.grp ka (fun w9 => RdT w9 va (folT t))), .blk b5 (.cells (idArr x) 24)] ww ∧ nn = (folT t).length - k ∧ k ≤ (folT t).length) ((folT t).length - (0)) ⟨0, nilV, h.only ⟨rfl, rfl, rfl, rfl, rfl, rfl, rfl, rfl, rfl, slot_int rfl (by omega), trivial⟩, s.as ⟨rfl, rfl, rfl, rfl, trivial⟩, rfl, Nat.zero_le _⟩ ?_
    rintro _ f w1 ⟨k, vz, h, s, hnn, hp0⟩
    refine c_seq fun K25 hK25 => ?_
    refine c_region ?_
    refine s_pure h (ru_lss (h.ev rfl) (h.ev rfl)) rfl ?_; intro f h
    refine s_nil ?_
    refine hK25 _ _ ?_
    refine c_seq fun K26 hK26 => ?_
    refine c_cond h rfl (fun hc => ?_) (fun hc => ?_)
    · replace hc := of_decide_eq_true hc
      refine wpIn_skip ?_
      refine hK26 _ _ ?_
      refine c_seq fun K27 hK27 => ?_
      refine wpIn_block ?_
      refine c_seq fun K28 hK28 => ?_
      refine c_region ?_
      have hkf : k < (folT t).length := by omega
      refine s_pure h (ru_ixz ((s.getG 2 rfl)) (k) Try.underlying22 szo28 (h.ev rfl) (h.ev rfl) (by omega) (by omega)) rfl ?_; intro f h
      refine s_load_at (((s.getG 2 rfl)).el (k) (by omega) (by decide) (D := tgArr ((folT t).getD k zTg)) (tgr_el _ k hkf)) h row28 rfl (tgArr_size _) rfl ?_; intro f h
      refine s_alloc (tgArr zTg) h s zero28 rfl rfl ?_; intro f w1 b17 h s
      refine s_store_row 0 h s row28 rfl rfl rfl (tgArr_size _) (tgArr_size _) (tgArr_ones _) ?_; intro w1 s
      refine s_nil ?_
      refine hK28 _ _ ?_
      refine c_seq fun K29 hK29 => ?_
      cases hq : (decide (128 ≤ com ((folT t).getD k zTg).1 x) : Bool)
      · skip
        refine c_region ?_
        refine s_pure h (ru_field fld28_0 (h.ev rfl)) rfl ?_; intro f h
        refine s_load_at (Has.subL (Has.of_own s 0 rfl) 0 32 (D := idArr (_)) (tgArr_id _)) h row24 rfl (by first | exact idArr_size _ | exact bytesF_size _ _) rfl ?_; intro f h
        refine s_load_row 4 h s row24 rfl rfl (by first | exact idArr_size _ | exact bytesF_size _ _) rfl ?_; intro f h
        refine s_call h s fnc25 (common_any ((folT t).getD k zTg).1 x _) rfl rfl ?_; intro f w1 v9 hT hE h s; obtain rfl := hT
        refine s_pure h (ru_val (.bool false) (ru_geq (h.ev rfl) (h.ev rfl)) (congrArg Value.bool ((decide_eq_decide.2 (by omega)).trans hq))) rfl ?_; intro f h
        refine s_nil ?_
        refine hK29 _ _ ?_
        refine wpIn_cond_false (h.ev rfl) ?_
        refine wpIn_skip ?_
        refine b_norm ?_
        refine hK27 _ _ ?_
        refine c_region ?_
        refine s_pure h (ru_add (h.ev rfl) (h.ev rfl) (by omega)) rfl ?_; intro f h
        refine s_pure h (ru_move (h.ev rfl)) rfl ?_; intro f h
        refine s_nil ?_
        refine t_norm ?_
        exact ⟨_, by omega, ⟨k + 1, vz, h.only ⟨rfl, rfl, rfl, rfl, rfl, rfl, rfl, rfl, rfl, slot_int rfl (by omega), trivial⟩, St.as (s.pick _ (List.sublist_append_right [_] _)) ⟨sl_eq (by rw [flt_n hkf hq]) (by rw [flt_n hkf hq]), rfl, rfl, rfl, trivial⟩, rfl, by omega⟩⟩
      · skip
        refine c_region ?_
        refine s_pure h (ru_field fld28_0 (h.ev rfl)) rfl ?_; intro f h
        refine s_load_at (Has.subL (Has.of_own s 0 rfl) 0 32 (D := idArr (_)) (tgArr_id _)) h row24 rfl (by first | exact idArr_size _ | exact bytesF_size _ _) rfl ?_; intro f h
        refine s_load_row 4 h s row24 rfl rfl (by first | exact idArr_size _ | exact bytesF_size _ _) rfl ?_; intro f h
        refine s_call h s fnc25 (common_any ((folT t).getD k zTg).1 x _) rfl rfl ?_; intro f w1 v9 hT hE h s; obtain rfl := hT
        refine s_pure h (ru_val (.bool true) (ru_geq (h.ev rfl) (h.ev rfl)) (congrArg Value.bool ((decide_eq_decide.2 (by omega)).trans hq))) rfl ?_; intro f h
        refine s_nil ?_
        refine hK29 _ _ ?_
        refine wpIn_cond_true (h.ev rfl) ?_
        refine c_region ?_
        refine s_pure h (ru_move (h.ev rfl)) rfl ?_; intro f h
        refine s_load_row 0 h s row28 rfl rfl (tgArr_size _) rfl ?_; intro f h
        refine s_bslice (vs := [.agg (tgArr ((folT t).getD k zTg))]) [.tmp 88] h s Try.underlying22 elm28 rfl rfl (tg_sz _) rfl rfl rfl ?_; intro f w1 v89 h s
        refine s_append 2 0 h s Try.underlying22 elm28 rfl rfl rfl rfl (by decide) (by rw [one_tg]; exact tgArr_ones _) (by have h9 := flt_le (folT t) (fun y => decide (128 ≤ com y.1 x)) k; unfold maxLen; omega) (by have h9 := flt_le (folT t) (fun y => decide (128 ≤ com y.1 x)) k; omega) rfl ?_; intro f w1 v90 h s
        replace s := s.pick _ (List.sublist_cons_self _ _)
        replace s := s.resl (m := (((folT t).take (k + 1)).filter (fun y => decide (128 ≤ com y.1 x))).length) (ys := tgCells (((folT t).take (k + 1)).filter (fun y => decide (128 ≤ com y.1 x)))) 1 rfl (by rw [flt_y hkf hq, List.length_append]; rfl) (by rw [flt_y hkf hq, one_tg, tg_snoc])
        refine s_pure h (ru_assign (h.ev rfl)) rfl ?_; intro f h
        refine s_nil ?_
        refine b_norm ?_
        refine hK27 _ _ ?_
        refine c_region ?_
        refine s_pure h (ru_add (h.ev rfl) (h.ev rfl) (by omega)) rfl ?_; intro f h
        refine s_pure h (ru_move (h.ev rfl)) rfl ?_; intro f h
        refine s_nil ?_
        refine t_norm ?_
        exact ⟨_, by omega, ⟨k + 1, v90, h.only ⟨rfl, rfl, rfl, rfl, rfl, rfl, rfl, rfl, rfl, slot_int rfl (by omega), trivial⟩, St.as (s.pick _ (List.sublist_append_right [_] _)) ⟨rfl, rfl, rfl, rfl, trivial⟩, rfl, by omega⟩⟩
    · replace hc := of_decide_eq_false hc
      refine wpIn_exit ?_
      refine t_exit ?_
      refine t_exit ?_
      refine b_exit ?_
      refine hK23 _ _ ?_
      refine c_seq fun K30 hK30 => ?_
      refine c_region ?_
      obtain rfl : k = (folT t).length := by omega
      replace s := s.resl (m := (nearF (folT t) x).length) (ys := tgCells (nearF (folT t) x)) 0 rfl (by rw [flt_end (Nat.le_refl _)]; rfl) (by rw [flt_end (Nat.le_refl _)]; rfl)
      have hnl : (nearF (folT t) x).length ≤ (folT t).length := List.length_filter_le _ _
      obtain ⟨o1, o2, o3⟩ := ord_match hFR x
      refine s_pure h (ru_move (h.ev rfl)) rfl ?_; intro f h
      refine s_load_row 3 h s row24 rfl rfl (by first | exact idArr_size _ | exact bytesF_size _ _) rfl ?_; intro f h
      refine s_call h s fnc20 (tmatch_any (folT t) va x _ (s.getG 2 rfl) (by omega)) rfl rfl ?_; rintro f w1 v95 ⟨vc, kvc, rfl, hG⟩ hE h sq; replace s := s.add hG; clear hG
      refine s_pure h (ru_move (h.ev rfl)) rfl ?_; intro f h
      refine s_pure h (ru_extract (h.ev rfl) rfl) rfl ?_; intro f h
      refine s_pure h (ru_extract (h.ev rfl) rfl) rfl ?_; intro f h
      refine s_pure h (ru_assign (h.ev rfl)) rfl ?_; intro f h
      refine s_pure h (ru_assign (h.ev rfl)) rfl ?_; intro f h
      refine s_nil ?_
      refine hK30 _ _ ?_
      refine c_seq fun K31 hK31 => ?_
      refine c_region ?_
      refine s_pure h (ru_move (h.ev rfl)) rfl ?_; intro f h
      refine s_load_row 4 h s row24 rfl rfl (by first | exact idArr_size _ | exact bytesF_size _ _) rfl ?_; intro f h
      refine s_call h s fnc20 (tmatch_any (nearF (folT t) x) vz x _ (RdZ.of_own (s.getSl 1 rfl)) (by omega)) rfl rfl ?_; rintro f w1 v101 ⟨vd, kvd, rfl, hG⟩ hE h sq; replace s := s.add hG; clear hG
      refine s_pure h (ru_move (h.ev rfl)) rfl ?_; intro f h
      refine s_pure h (ru_extract (h.ev rfl) rfl) rfl ?_; intro f h
      refine s_pure h (ru_extract (h.ev rfl) rfl) rfl ?_; intro f h
      refine s_pure h (ru_assign (h.ev rfl)) rfl ?_; intro f h
      refine s_pure h (ru_assign (h.ev rfl)) rfl ?_; intro f h
      refine s_nil ?_
      refine hK31 _ _ ?_
      refine c_seq fun K32 hK32 => ?_
      refine c_region ?_
      refine s_call h s fnc13 (ret_val (.bool true) (talive_any _) (congrArg Value.bool (rfl))) rfl rfl ?_; intro f w1 v9 hT hE h s; obtain rfl := hT
      refine s_pure h (ru_move (h.ev rfl)) rfl ?_; intro f h
      refine s_on h rfl rfl rfl ?_
      refine s_pure h (ru_move (h.ev rfl)) rfl ?_; intro f h
      refine s_on h rfl rfl rfl ?_
      refine s_pure h (ru_move (h.ev rfl)) rfl ?_; intro f h
      refine s_on h rfl rfl rfl ?_
      refine s_call h s fnc16 (ret_val (.bool true) (rsamet_any (folT t) (folT t) va vb _ (s.getG 4 rfl) (s.getG 3 rfl) (by omega) (by omega)) (congrArg Value.bool (by simp))) rfl rfl ?_; intro f w1 v9 hT hE h s; obtain rfl := hT
      refine s_pure h (ru_pick_t (h.ev rfl) (h.ev rfl)) rfl ?_; intro f h
      refine s_pure h (ru_move (h.ev rfl)) rfl ?_; intro f h
      refine s_on h rfl rfl rfl ?_
      refine s_pure h (ru_move (h.ev rfl)) rfl ?_; intro f h
      refine s_on h rfl rfl rfl ?_
      refine s_pure h (ru_move (h.ev rfl)) rfl ?_; intro f h
      refine s_on h rfl rfl rfl ?_
      refine s_pure h (ru_val (.bool true) (ru_eql (h.ev rfl) (h.ev rfl)) (congrArg Value.bool (by rw [o1]; simp))) rfl ?_; intro f h
      refine s_pure h (ru_pick_t (h.ev rfl) (h.ev rfl)) rfl ?_; intro f h
      refine s_pure h (ru_move (h.ev rfl)) rfl ?_; intro f h
      refine s_on h rfl rfl rfl ?_
      refine s_pure h (ru_move (h.ev rfl)) rfl ?_; intro f h
      refine s_on h rfl rfl rfl ?_
      refine s_pure h (ru_move (h.ev rfl)) rfl ?_; intro f h
      refine s_on h rfl rfl rfl ?_
      refine s_call h s fnc16 (ret_val (.bool true) (rsamet_any (mtL (folT t) x) (mtL (nearF (folT t) x) x) vc vd _ ((s.getG 1 rfl) (s.getG 4 rfl)) ((s.getG 0 rfl) (RdZ.of_own (s.getSl 2 rfl))) (by have := mt_le (folT t) x; omega) (by have := mt_le (nearF (folT t) x) x; omega)) (congrArg Value.bool (by rw [o2]; simp))) rfl rfl ?_; intro f w1 v9 hT hE h s; obtain rfl := hT
      refine s_pure h (ru_pick_t (h.ev rfl) (h.ev rfl)) rfl ?_; intro f h
      refine s_pure h (ru_move (h.ev rfl)) rfl ?_; intro f h
      refine s_on h rfl rfl rfl ?_
      refine s_pure h (ru_move (h.ev rfl)) rfl ?_; intro f h
      refine s_on h rfl rfl rfl ?_
      refine s_pure h (ru_eql (h.ev rfl) (h.ev rfl)) rfl ?_; intro f h
      refine s_on h rfl rfl rfl ?_
      refine s_pure h (ru_move (h.ev rfl)) rfl ?_; intro f h
      refine s_on h rfl rfl rfl ?_
      refine s_len_sl 2 h s Try.underlying22 rfl rfl rfl ?_; intro f h
      refine s_on h rfl rfl rfl ?_
      refine s_pure h (ru_val (.bool (decide (0 < (nearF (folT t) x).length))) (ru_gtr (h.ev rfl) (h.ev rfl)) (congrArg Value.bool (decide_eq_decide.2 (by omega)))) rfl ?_; intro f h
      refine s_on h rfl rfl rfl ?_
      refine s_pure h (ru_val (.bool true) (ru_eql_bool Try.underlying4 (h.ev rfl) (h.ev rfl)) (congrArg Value.bool (o3))) rfl ?_; intro f h
      refine s_pure h (ru_pick_t (h.ev rfl) (h.ev rfl)) rfl ?_; intro f h
      refine s_pure h (ru_assign (h.ev rfl)) rfl ?_; intro f h
      refine s_nil ?_
      refine hK32 _ _ ?_
      refine wpIn_ret ?_
      exact e_tmp rfl h s rfl (rfl)
end Go.Proofs.Ytliknbdambmmaaa
