/- What WireSizes answers: for all arguments. -/
import Derived.Test.YtaehgcdcfbhohaaVk
set_option linter.unusedVariables false
set_option linter.unusedSimpArgs false
set_option linter.unusedSectionVars false
namespace Go.Proofs.Ytaehgcdcfbhohaa
open Go.RowKit
set_option maxHeartbeats 4000000 in
theorem wsizes_any (v1 : Value) (a : Mg) (w : World) (hv1 : RdZ w v1 34 a.l.length (eCells a.l)) : Calls Try.prog 6 [.agg (mArr a v1)].toArray w (Ret w (is (.bool true))) := by
  obtain ⟨m, qm⟩ : ∃ x9, x9 = cutM a := ⟨_, rfl⟩
  obtain ⟨vm, qvm⟩ : ∃ x9, x9 = cutV v1 (min a.l.length 6) := ⟨_, rfl⟩
  have hvm : RdZ w vm 34 m.l.length (eCells m.l) := by rw [qvm, qm]; exact re_take hv1 _ (by omega)
  have lm : m.l.length ≤ 6 := by rw [qm]; exact cutM_l _
  have om : m.o.size ≤ 20 := by rw [qm]; exact cutM_o _
  have dm : m.d.size ≤ 70 := by rw [qm]; exact cutM_d _
  have hel := ents_len lm
  have hsB := szB_le om dm
  have hsD : szD m ≤ szB m + 33 * (ents m).length + 1 := by have := szK_le (m := m) (ents m).length; unfold szD; cases decide (0 < (ents m).length) <;> simp only [cond_true, cond_false] <;> omega
  refine c_enter Try.func6 rfl Try.ntmps6 rfl [(0, .agg (mArr a v1))] (by simp) fun f h => ?_
  have s := St.start w
  refine c_seq fun K1 hK1 => ?_
  refine c_region ?_
  refine s_box ((mArr a v1)) h s rfl rfl rfl ?_; intro f w1 b1 h s
  refine s_pure h (ru_assign (h.ev rfl)) rfl ?_; intro f h
  refine s_nil ?_
  refine hK1 _ _ ?_
  refine c_seq fun K2 hK2 => ?_
  refine c_region ?_
  refine s_load_row 0 h s row28 rfl rfl (mArr_size _ _) rfl ?_; intro f h
  refine s_call h s fnc7 (ret_val (.agg (mArr m vm)) (cut5_any a v1 _ (hv1.keep s.ext)) (by rw [qm, qvm])) rfl rfl ?_; intro f w1 v9 hT hE h s; obtain rfl := hT
  refine s_store_row 0 h s row28 rfl rfl rfl (mArr_size _ _) (mArr_size _ _) (mArr_ones _ _ (rdz_one hvm)) ?_; intro w1 s
  refine s_nil ?_
  refine hK2 _ _ ?_
  refine c_seq fun K3 hK3 => ?_
  refine c_region ?_
  refine s_load_row 0 h s row28 rfl rfl (mArr_size _ _) rfl ?_; intro f h
  refine s_call h s fnc8 (wtext_any m vm _ (hvm.keep s.ext) (by omega)) rfl rfl ?_; intro f w1 v9 hT hE h s; obtain rfl := hT
  refine s_pure h (ru_move (h.ev rfl)) rfl ?_; intro f h
  refine s_pure h (ru_extract (h.ev rfl) rfl) rfl ?_; intro f h
  refine s_pure h (ru_extract (h.ev rfl) rfl) rfl ?_; intro f h
  refine s_pure h (ru_assign (h.ev rfl)) rfl ?_; intro f h
  refine s_pure h (ru_assign (h.ev rfl)) rfl ?_; intro f h
  refine s_nil ?_
  refine hK3 _ _ ?_
  refine c_seq fun K4 hK4 => ?_
  refine c_seq fun K5 hK5 => ?_
  cases hr : (rightM m : Bool)
  · skip
    refine c_region ?_
    refine s_pure h (ru_move (h.ev rfl)) rfl ?_; intro f h
    refine s_pure h (ru_val (.bool true) (ru_neq (h.ev rfl) (h.ev rfl)) (congrArg Value.bool (decide_eq_true (by rw [mtR_f hr]; decide)))) rfl ?_; intro f h
    refine s_nil ?_
    refine hK5 _ _ ?_
    refine wpIn_cond_true (h.ev rfl) ?_
    refine c_seq fun K6 hK6 => ?_
    refine c_region ?_
    refine s_call h s fnc13 (alive5_any _) rfl rfl ?_; intro f w1 v9 hT hE h s; obtain rfl := hT
    refine s_pure h (ru_move (h.ev rfl)) rfl ?_; intro f h
    refine s_on h rfl rfl rfl ?_
    refine s_pure h (ru_move (h.ev rfl)) rfl ?_; intro f h
    refine s_on h rfl rfl rfl ?_
    refine s_pure h (ru_val (.bool true) (ru_eql_str (h.ev rfl) (h.ev rfl)) (congrArg Value.bool (decide_eq_true (mtW_f hr)))) rfl ?_; intro f h
    refine s_pure h (ru_pick_t (h.ev rfl) (h.ev rfl)) rfl ?_; intro f h
    refine s_pure h (ru_assign (h.ev rfl)) rfl ?_; intro f h
    refine s_nil ?_
    refine hK6 _ _ ?_
    refine wpIn_ret ?_
    refine t_ret ?_
    exact e_tmp rfl h s rfl (rfl)
  · skip
    refine c_region ?_
    refine s_pure h (ru_move (h.ev rfl)) rfl ?_; intro f h
    refine s_pure h (ru_val (.bool false) (ru_neq (h.ev rfl) (h.ev rfl)) (congrArg Value.bool (decide_eq_false (fun h9 => h9 (mtR_t hr))))) rfl ?_; intro f h
    refine s_nil ?_
    refine hK5 _ _ ?_
    refine wpIn_cond_false (h.ev rfl) ?_
    refine wpIn_skip ?_
    refine hK4 _ _ ?_
    refine c_seq fun K7 hK7 => ?_
    refine c_region ?_
    refine s_pure h (ru_field fld28_5 (h.ev rfl)) rfl ?_; intro f h
    refine s_load_at1 (cell_of_has (Has.of_own s 0 rfl) 69 (mArr_o _ _)) h one9 rfl rfl ?_; intro f h
    refine s_pure h (ru_len_str Try.underlying9 (h.ev rfl)) rfl ?_; intro f h
    refine s_pure h (ru_add (h.ev rfl) (h.ev rfl) (by omega)) rfl ?_; intro f h
    refine s_pure h (ru_field fld28_6 (h.ev rfl)) rfl ?_; intro f h
    refine s_load_at1 (cell_of_has (Has.of_own s 0 rfl) 70 (mArr_d _ _)) h one9 rfl rfl ?_; intro f h
    refine s_pure h (ru_len_str Try.underlying9 (h.ev rfl)) rfl ?_; intro f h
    refine s_pure h (ru_add (h.ev rfl) (h.ev rfl) (by omega)) rfl ?_; intro f h
    refine s_pure h (ru_assign (h.ev rfl)) rfl ?_; intro f h
    refine s_nil ?_
    refine hK7 _ _ ?_
    refine c_seq fun K8 hK8 => ?_
    refine c_seq fun K9 hK9 => ?_
    refine c_region ?_
    refine s_pure h (ru_field fld28_0 (h.ev rfl)) rfl ?_; intro f h
    refine s_load_at1 (cell_of_has (Has.of_own s 0 rfl) 0 (mArr_k _ _)) h one3 rfl rfl ?_; intro f h
    refine s_pure h (ru_neq (h.ev rfl) (h.ev rfl)) rfl ?_; intro f h
    refine s_nil ?_
    refine hK9 _ _ ?_
    refine c_join (fun aa ww => Sl 132 aa [(0, .agg (mArr a v1)), (1, .pointer (some ⟨b1, 0, none⟩)), (3, .string (mtW m)), (5, .int .i64 ((szB m : Nat) : Int))] ∧ St w [.blk b1 (.cells (mArr m vm) 28)] ww) ?_ ?_
    · skip
      refine c_cond h rfl (fun hc => ?_) (fun hc => ?_)
      · replace hc := of_decide_eq_true hc
        refine c_region ?_
        refine s_pure h (ru_move (h.ev rfl)) rfl ?_; intro f h
        refine s_pure h (ru_add (h.ev rfl) (h.ev rfl) (by omega)) rfl ?_; intro f h
        refine s_pure h (ru_assign (h.ev rfl)) rfl ?_; intro f h
        refine s_nil ?_
        refine t_norm ?_
        exact ⟨h.only ⟨rfl, rfl, rfl, slot_int rfl (by unfold szB szA; rw [decide_eq_true hc]; simp only [cond_true]; omega), trivial⟩, St.as s ⟨rfl, trivial⟩⟩
      · replace hc := of_decide_eq_false hc
        refine wpIn_skip ?_
        refine t_norm ?_
        exact ⟨h.only ⟨rfl, rfl, rfl, slot_int rfl (by unfold szB szA; rw [decide_eq_false hc]; simp only [cond_false]; omega), trivial⟩, St.as s ⟨rfl, trivial⟩⟩
    rintro f w1 ⟨h, s⟩
    refine hK8 _ _ ?_
    refine c_seq fun K11 hK11 => ?_
    refine c_region ?_
    refine s_bslice0 (base := w1.heap.size) h Try.underlying26 elm25 (Nat.le_refl _) rfl ?_; intro f w2 v39 h hE3 e39
    have s0 := s
    replace s := s.more hE3
    refine s_pure h (ru_field fld28_3 (h.ev rfl)) rfl ?_; intro f h
    refine s_load_at1 (cell_of_has (Has.of_own s 0 rfl) 67 (mArr_v _ _)) h one26 rfl rfl ?_; intro f h
    refine s_append_emp (base := w1.heap.size) e39 (hvm.keep s.ext) h Try.underlying26 elm25 rfl rfl hE3.le (eCells_ones _) (by unfold maxLen; omega) (by omega) rfl ?_; intro f w3 v42 h hE4 e42
    replace s := s0.sl_new (hE3.trans hE4) e42
    refine s_pure h (ru_assign (h.ev rfl)) rfl ?_; intro f h
    refine s_nil ?_
    refine hK11 _ _ ?_
    refine c_seq fun K12 hK12 => ?_
    refine c_seq fun K13 hK13 => ?_
    refine c_region ?_
    refine s_pure h (ru_field fld28_2 (h.ev rfl)) rfl ?_; intro f h
    refine s_pure h (ru_field fld25_0 (h.ev rfl)) rfl ?_; intro f h
    refine s_load_at1 (cell_of_has (Has.of_own s 1 rfl) 33 (mArr_tk _ _)) h one3 rfl rfl ?_; intro f h
    refine s_pure h (ru_neq (h.ev rfl) (h.ev rfl)) rfl ?_; intro f h
    refine s_nil ?_
    refine hK13 _ _ ?_
    refine c_join (fun aa ww => ∃ ve : Value, Sl 132 aa [(0, .agg (mArr a v1)), (1, .pointer (some ⟨b1, 0, none⟩)), (3, .string (mtW m)), (5, .int .i64 ((szB m : Nat) : Int)), (6, ve)] ∧ St w [.sl ve 25 34 (ents m).length (eCells (ents m)), .blk b1 (.cells (mArr m vm) 28)] ww) ?_ ?_
    · skip
      refine c_cond h rfl (fun hc => ?_) (fun hc => ?_)
      · replace hc := of_decide_eq_true hc
        refine c_region ?_
        refine s_pure h (ru_move (h.ev rfl)) rfl ?_; intro f h
        refine s_pure h (ru_field fld28_2 (h.ev rfl)) rfl ?_; intro f h
        refine s_load_at (Has.subL (Has.of_own s 1 rfl) 33 34 (D := eArr (_)) (mArr_t _ _)) h row25 rfl (eArr_size _) rfl ?_; intro f h
        refine s_bslice (vs := [.agg (eArr m.t)]) [.tmp 49] h s Try.underlying26 elm25 rfl rfl (by intro v hv; rw [List.mem_singleton] at hv; subst hv; exact eArr_size _) rfl rfl rfl ?_; intro f w1 v50 h s
        refine s_append 1 0 h s Try.underlying26 elm25 rfl rfl rfl rfl (by decide) (by simp only [List.flatMap_cons, List.flatMap_nil, List.append_nil]; exact eArr_ones _) (by unfold maxLen; omega) (by omega) rfl ?_; intro f w1 v51 h s
        replace s := s.pick _ (List.sublist_cons_self _ _)
        refine s_pure h (ru_assign (h.ev rfl)) rfl ?_; intro f h
        refine s_nil ?_
        refine t_norm ?_
        exact ⟨v51, h.only ⟨rfl, rfl, rfl, rfl, rfl, trivial⟩, St.as (s.pick _ (List.Sublist.cons_cons _ (List.Sublist.cons_cons _ (List.nil_sublist _)))) ⟨sl_eq (ents_t hc).2 (ents_t hc).1, rfl, trivial⟩⟩
      · replace hc := of_decide_eq_false hc
        refine wpIn_skip ?_
        refine t_norm ?_
        exact ⟨v42, h.only ⟨rfl, rfl, rfl, rfl, rfl, trivial⟩, St.as (s.pick _ (List.Sublist.cons_cons _ (List.Sublist.cons_cons _ (List.nil_sublist _)))) ⟨sl_eq (congrArg List.length (ents_f hc)) (congrArg eCells (ents_f hc)), rfl, trivial⟩⟩
    rintro f w1 ⟨ve, h, s⟩
    refine hK12 _ _ ?_
    refine c_seq fun K15 hK15 => ?_
    refine c_seq fun K16 hK16 => ?_
    refine c_region ?_
    refine s_pure h (ru_move (h.ev rfl)) rfl ?_; intro f h
    refine s_len_sl 0 h s Try.underlying26 rfl rfl rfl ?_; intro f h
    refine s_pure h (ru_move (h.ev rfl)) rfl ?_; intro f h
    refine s_nil ?_
    refine hK16 _ _ ?_
    refine wpIn_block ?_
    refine wpIn_loop_ghost (fun nn aa ww => ∃ k : Nat, Sl 132 aa [(0, .agg (mArr a v1)), (1, .pointer (some ⟨b1, 0, none⟩)), (3, .string (mtW m)), (5, .int .i64 ((szK m k : Nat) : Int)), (6, ve), (52, ve), (53, .int .i64 (((ents m).length : Nat) : Int)), (54, .int .i64 (k : Int))] ∧ St w [.sl ve 25 34 (ents m).length (eCells (ents m)), .blk b1 (.cells (mArr m vm) 28)] ww ∧ nn = (ents m).length - k ∧ k ≤ (ents m).length) ((ents m).length - (0)) ⟨0, h.only ⟨rfl, rfl, rfl, slot_int rfl rfl, rfl, rfl, rfl, slot_int rfl (by omega), trivial⟩, s.as ⟨rfl, rfl, trivial⟩, rfl, Nat.zero_le _⟩ ?_
    rintro _ f w1 ⟨k, h, s, hnn, hp0⟩
    refine c_seq fun K17 hK17 => ?_
    refine c_region ?_
    refine s_pure h (ru_lss (h.ev rfl) (h.ev rfl)) rfl ?_; intro f h
    refine s_nil ?_
    refine hK17 _ _ ?_
    refine c_seq fun K18 hK18 => ?_
    refine c_cond h rfl (fun hc => ?_) (fun hc => ?_)
    · replace hc := of_decide_eq_true hc
      refine wpIn_skip ?_
      refine hK18 _ _ ?_
      refine c_seq fun K19 hK19 => ?_
      refine wpIn_block ?_
      refine c_seq fun K20 hK20 => ?_
      refine c_region ?_
      have hkl : k < (ents m).length := by omega
      have hsK := szK_le (m := m) k
      refine s_pure h (ru_ixz (RdZ.of_own (s.getSl 0 rfl)) (k) Try.underlying26 szo25 (h.ev rfl) (h.ev rfl) (by omega) (by omega)) rfl ?_; intro f h
      refine s_load_at ((RdZ.of_own (s.getSl 0 rfl)).el (k) (by omega) (by decide) (D := eArr (ents m)[k]) (e_el _ k hkl)) h row25 rfl (eArr_size _) rfl ?_; intro f h
      refine s_alloc (eArr (0, 0#256, 0)) h s zero25 rfl rfl ?_; intro f w1 b8 h s
      refine s_store_row 0 h s row25 rfl rfl rfl (eArr_size _) (eArr_size _) (eArr_ones _) ?_; intro w1 s
      refine s_nil ?_
      refine hK20 _ _ ?_
      refine c_seq fun K21 hK21 => ?_
      refine c_region ?_
      refine s_pure h (ru_move (h.ev rfl)) rfl ?_; intro f h
      refine s_pure h (ru_add (h.ev rfl) (h.ev rfl) (by omega)) rfl ?_; intro f h
      refine s_pure h (ru_assign (h.ev rfl)) rfl ?_; intro f h
      refine s_nil ?_
      refine hK21 _ _ ?_
      refine c_seq fun K22 hK22 => ?_
      refine c_region ?_
      refine s_pure h (ru_field fld25_0 (h.ev rfl)) rfl ?_; intro f h
      refine s_load_at1 (cell_of_has (Has.of_own s 0 rfl) 0 (eArr_kind _)) h one3 rfl rfl ?_; intro f h
      refine s_pure h (ru_eql (h.ev rfl) (h.ev rfl)) rfl ?_; intro f h
      refine s_nil ?_
      refine hK22 _ _ ?_
      refine c_cond h rfl (fun hc => ?_) (fun hc => ?_)
      · have hk1 := of_decide_eq_true hc
        refine c_region ?_
        refine s_pure h (ru_move (h.ev rfl)) rfl ?_; intro f h
        refine s_pure h (ru_add (h.ev rfl) (h.ev rfl) (by omega)) rfl ?_; intro f h
        refine s_pure h (ru_assign (h.ev rfl)) rfl ?_; intro f h
        refine s_nil ?_
        refine b_norm ?_
        refine hK19 _ _ ?_
        refine c_region ?_
        refine s_pure h (ru_add (h.ev rfl) (h.ev rfl) (by omega)) rfl ?_; intro f h
        refine s_pure h (ru_move (h.ev rfl)) rfl ?_; intro f h
        refine s_nil ?_
        refine t_norm ?_
        exact ⟨_, by omega, ⟨k + 1, h.only ⟨rfl, rfl, rfl, slot_int rfl (szK_1 m k hkl hk1), rfl, rfl, rfl, slot_int rfl (by omega), trivial⟩, St.as (s.pick _ (List.sublist_append_right [_] _)) ⟨rfl, rfl, trivial⟩, rfl, by omega⟩⟩
      · have hk1 := of_decide_eq_false hc
        refine wpIn_skip ?_
        refine b_norm ?_
        refine hK19 _ _ ?_
        refine c_region ?_
        refine s_pure h (ru_add (h.ev rfl) (h.ev rfl) (by omega)) rfl ?_; intro f h
        refine s_pure h (ru_move (h.ev rfl)) rfl ?_; intro f h
        refine s_nil ?_
        refine t_norm ?_
        exact ⟨_, by omega, ⟨k + 1, h.only ⟨rfl, rfl, rfl, slot_int rfl (szK_2 m k hkl hk1), rfl, rfl, rfl, slot_int rfl (by omega), trivial⟩, St.as (s.pick _ (List.sublist_append_right [_] _)) ⟨rfl, rfl, trivial⟩, rfl, by omega⟩⟩
    · replace hc := of_decide_eq_false hc
      refine wpIn_exit ?_
      refine t_exit ?_
      refine t_exit ?_
      refine b_exit ?_
      refine hK15 _ _ ?_
      refine c_seq fun K23 hK23 => ?_
      refine c_seq fun K24 hK24 => ?_
      refine c_region ?_
      obtain rfl : k = (ents m).length := by omega
      have hsK := szK_le (m := m) (ents m).length
      refine s_pure h (ru_move (h.ev rfl)) rfl ?_; intro f h
      refine s_len_sl 0 h s Try.underlying26 rfl rfl rfl ?_; intro f h
      refine s_pure h (ru_gtr (h.ev rfl) (h.ev rfl)) rfl ?_; intro f h
      refine s_nil ?_
      refine hK24 _ _ ?_
      refine c_join (fun aa ww => Sl 132 aa [(0, .agg (mArr a v1)), (1, .pointer (some ⟨b1, 0, none⟩)), (6, ve), (52, ve), (66, ve), (3, .string (mtW m)), (5, .int .i64 ((szD m : Nat) : Int))] ∧ St w [.sl ve 25 34 (ents m).length (eCells (ents m)), .blk b1 (.cells (mArr m vm) 28)] ww) ?_ ?_
      · skip
        refine c_cond h rfl (fun hc => ?_) (fun hc => ?_)
        · replace hc := of_decide_eq_true hc
          refine c_region ?_
          refine s_pure h (ru_move (h.ev rfl)) rfl ?_; intro f h
          refine s_pure h (ru_add (h.ev rfl) (h.ev rfl) (by omega)) rfl ?_; intro f h
          refine s_pure h (ru_assign (h.ev rfl)) rfl ?_; intro f h
          refine s_nil ?_
          refine t_norm ?_
          exact ⟨h.only ⟨rfl, rfl, rfl, rfl, rfl, rfl, slot_int rfl (by unfold szD; rw [decide_eq_true (show 0 < (ents m).length by omega)]; simp only [cond_true]; omega), trivial⟩, St.as s ⟨rfl, rfl, trivial⟩⟩
        · replace hc := of_decide_eq_false hc
          refine wpIn_skip ?_
          refine t_norm ?_
          exact ⟨h.only ⟨rfl, rfl, rfl, rfl, rfl, rfl, slot_int rfl (by unfold szD; rw [decide_eq_false (show ¬ 0 < (ents m).length by omega)]; simp only [cond_false]; omega), trivial⟩, St.as s ⟨rfl, rfl, trivial⟩⟩
      rintro f w1 ⟨h, s⟩
      refine hK23 _ _ ?_
      refine c_seq fun K26 hK26 => ?_
      refine c_seq fun K27 hK27 => ?_
      refine c_join (fun aa ww => Sl 132 aa [(0, .agg (mArr a v1)), (1, .pointer (some ⟨b1, 0, none⟩)), (6, ve), (52, ve), (66, ve), (88, .bool (hasN m.k)), (3, .string (mtW m)), (5, .int .i64 ((szD m : Nat) : Int))] ∧ St w [.sl ve 25 34 (ents m).length (eCells (ents m)), .blk b1 (.cells (mArr m vm) 28)] ww) ?_ ?_
      · skip
        cases k1 : (decide (m.k = 1) : Bool)
        · skip
          cases k2 : (decide (m.k = 2) : Bool)
          · skip
            cases k4 : (decide (m.k = 4) : Bool)
            · skip
              cases k8 : (decide (8 ≤ m.k) : Bool)
              · skip
                refine c_region ?_
                refine s_pure h (ru_field fld28_0 (h.ev rfl)) rfl ?_; intro f h
                have hk10 := ((isK_iff _).1 (right_parts hr).1).2
                refine s_load_at1 (cell_of_has (Has.of_own s 1 rfl) 0 (mArr_k _ _)) h one3 rfl rfl ?_; intro f h
                refine s_pure h (ru_val (.bool false) (ru_eql (h.ev rfl) (h.ev rfl)) (congrArg Value.bool k1)) rfl ?_; intro f h
                refine s_pure h (ru_move (h.ev rfl)) rfl ?_; intro f h
                refine s_on h rfl rfl rfl ?_
                refine s_pure h (ru_field fld28_0 (h.ev rfl)) rfl ?_; intro f h
                refine s_on h rfl rfl rfl ?_
                refine s_load_at1 (cell_of_has (Has.of_own s 1 rfl) 0 (mArr_k _ _)) h one3 rfl rfl ?_; intro f h
                refine s_on h rfl rfl rfl ?_
                refine s_pure h (ru_val (.bool false) (ru_eql (h.ev rfl) (h.ev rfl)) (congrArg Value.bool k2)) rfl ?_; intro f h
                refine s_pure h (ru_pick_f (h.ev rfl) (h.ev rfl)) rfl ?_; intro f h
                refine s_pure h (ru_move (h.ev rfl)) rfl ?_; intro f h
                refine s_on h rfl rfl rfl ?_
                refine s_pure h (ru_field fld28_0 (h.ev rfl)) rfl ?_; intro f h
                refine s_on h rfl rfl rfl ?_
                refine s_load_at1 (cell_of_has (Has.of_own s 1 rfl) 0 (mArr_k _ _)) h one3 rfl rfl ?_; intro f h
                refine s_on h rfl rfl rfl ?_
                refine s_pure h (ru_val (.bool false) (ru_eql (h.ev rfl) (h.ev rfl)) (congrArg Value.bool k4)) rfl ?_; intro f h
                refine s_pure h (ru_pick_f (h.ev rfl) (h.ev rfl)) rfl ?_; intro f h
                refine s_pure h (ru_move (h.ev rfl)) rfl ?_; intro f h
                refine s_on h rfl rfl rfl ?_
                refine s_pure h (ru_field fld28_0 (h.ev rfl)) rfl ?_; intro f h
                refine s_on h rfl rfl rfl ?_
                refine s_load_at1 (cell_of_has (Has.of_own s 1 rfl) 0 (mArr_k _ _)) h one3 rfl rfl ?_; intro f h
                refine s_on h rfl rfl rfl ?_
                refine s_pure h (ru_val (.bool false) (ru_geq (h.ev rfl) (h.ev rfl)) (congrArg Value.bool k8)) rfl ?_; intro f h
                refine s_pure h (ru_pick_f (h.ev rfl) (h.ev rfl)) rfl ?_; intro f h
                refine s_nil ?_
                refine t_norm ?_
                exact ⟨h.only ⟨rfl, rfl, rfl, rfl, rfl, slot_as rfl (congrArg Value.bool (by rw [hasN_or hk10, k1, k2, k4, k8]; rfl)), rfl, rfl, trivial⟩, St.as s ⟨rfl, rfl, trivial⟩⟩
              · skip
                refine c_region ?_
                refine s_pure h (ru_field fld28_0 (h.ev rfl)) rfl ?_; intro f h
                have hk10 := ((isK_iff _).1 (right_parts hr).1).2
                refine s_load_at1 (cell_of_has (Has.of_own s 1 rfl) 0 (mArr_k _ _)) h one3 rfl rfl ?_; intro f h
                refine s_pure h (ru_val (.bool false) (ru_eql (h.ev rfl) (h.ev rfl)) (congrArg Value.bool k1)) rfl ?_; intro f h
                refine s_pure h (ru_move (h.ev rfl)) rfl ?_; intro f h
                refine s_on h rfl rfl rfl ?_
                refine s_pure h (ru_field fld28_0 (h.ev rfl)) rfl ?_; intro f h
                refine s_on h rfl rfl rfl ?_
                refine s_load_at1 (cell_of_has (Has.of_own s 1 rfl) 0 (mArr_k _ _)) h one3 rfl rfl ?_; intro f h
                refine s_on h rfl rfl rfl ?_
                refine s_pure h (ru_val (.bool false) (ru_eql (h.ev rfl) (h.ev rfl)) (congrArg Value.bool k2)) rfl ?_; intro f h
                refine s_pure h (ru_pick_f (h.ev rfl) (h.ev rfl)) rfl ?_; intro f h
                refine s_pure h (ru_move (h.ev rfl)) rfl ?_; intro f h
                refine s_on h rfl rfl rfl ?_
                refine s_pure h (ru_field fld28_0 (h.ev rfl)) rfl ?_; intro f h
                refine s_on h rfl rfl rfl ?_
                refine s_load_at1 (cell_of_has (Has.of_own s 1 rfl) 0 (mArr_k _ _)) h one3 rfl rfl ?_; intro f h
                refine s_on h rfl rfl rfl ?_
                refine s_pure h (ru_val (.bool false) (ru_eql (h.ev rfl) (h.ev rfl)) (congrArg Value.bool k4)) rfl ?_; intro f h
                refine s_pure h (ru_pick_f (h.ev rfl) (h.ev rfl)) rfl ?_; intro f h
                refine s_pure h (ru_move (h.ev rfl)) rfl ?_; intro f h
                refine s_on h rfl rfl rfl ?_
                refine s_pure h (ru_field fld28_0 (h.ev rfl)) rfl ?_; intro f h
                refine s_on h rfl rfl rfl ?_
                refine s_load_at1 (cell_of_has (Has.of_own s 1 rfl) 0 (mArr_k _ _)) h one3 rfl rfl ?_; intro f h
                refine s_on h rfl rfl rfl ?_
                refine s_pure h (ru_val (.bool true) (ru_geq (h.ev rfl) (h.ev rfl)) (congrArg Value.bool k8)) rfl ?_; intro f h
                refine s_pure h (ru_pick_f (h.ev rfl) (h.ev rfl)) rfl ?_; intro f h
                refine s_nil ?_
                refine t_norm ?_
                exact ⟨h.only ⟨rfl, rfl, rfl, rfl, rfl, slot_as rfl (congrArg Value.bool (by rw [hasN_or hk10, k1, k2, k4, k8]; rfl)), rfl, rfl, trivial⟩, St.as s ⟨rfl, rfl, trivial⟩⟩
            · skip
              refine c_region ?_
              refine s_pure h (ru_field fld28_0 (h.ev rfl)) rfl ?_; intro f h
              have hk10 := ((isK_iff _).1 (right_parts hr).1).2
              refine s_load_at1 (cell_of_has (Has.of_own s 1 rfl) 0 (mArr_k _ _)) h one3 rfl rfl ?_; intro f h
              refine s_pure h (ru_val (.bool false) (ru_eql (h.ev rfl) (h.ev rfl)) (congrArg Value.bool k1)) rfl ?_; intro f h
              refine s_pure h (ru_move (h.ev rfl)) rfl ?_; intro f h
              refine s_on h rfl rfl rfl ?_
              refine s_pure h (ru_field fld28_0 (h.ev rfl)) rfl ?_; intro f h
              refine s_on h rfl rfl rfl ?_
              refine s_load_at1 (cell_of_has (Has.of_own s 1 rfl) 0 (mArr_k _ _)) h one3 rfl rfl ?_; intro f h
              refine s_on h rfl rfl rfl ?_
              refine s_pure h (ru_val (.bool false) (ru_eql (h.ev rfl) (h.ev rfl)) (congrArg Value.bool k2)) rfl ?_; intro f h
              refine s_pure h (ru_pick_f (h.ev rfl) (h.ev rfl)) rfl ?_; intro f h
              refine s_pure h (ru_move (h.ev rfl)) rfl ?_; intro f h
              refine s_on h rfl rfl rfl ?_
              refine s_pure h (ru_field fld28_0 (h.ev rfl)) rfl ?_; intro f h
              refine s_on h rfl rfl rfl ?_
              refine s_load_at1 (cell_of_has (Has.of_own s 1 rfl) 0 (mArr_k _ _)) h one3 rfl rfl ?_; intro f h
              refine s_on h rfl rfl rfl ?_
              refine s_pure h (ru_val (.bool true) (ru_eql (h.ev rfl) (h.ev rfl)) (congrArg Value.bool k4)) rfl ?_; intro f h
              refine s_pure h (ru_pick_f (h.ev rfl) (h.ev rfl)) rfl ?_; intro f h
              refine s_pure h (ru_move (h.ev rfl)) rfl ?_; intro f h
              refine s_off (b := false) h rfl rfl rfl rfl ?_; intro f h
              refine s_off (b := false) h rfl rfl rfl rfl ?_; intro f h
              refine s_off (b := false) h rfl rfl rfl rfl ?_; intro f h
              refine s_pure h (ru_pick_t (h.ev rfl) (h.ev rfl)) rfl ?_; intro f h
              refine s_nil ?_
              refine t_norm ?_
              exact ⟨h.only ⟨rfl, rfl, rfl, rfl, rfl, slot_as rfl (congrArg Value.bool (by rw [hasN_or hk10, k1, k2, k4]; rfl)), rfl, rfl, trivial⟩, St.as s ⟨rfl, rfl, trivial⟩⟩
          · skip
            refine c_region ?_
            refine s_pure h (ru_field fld28_0 (h.ev rfl)) rfl ?_; intro f h
            have hk10 := ((isK_iff _).1 (right_parts hr).1).2
            refine s_load_at1 (cell_of_has (Has.of_own s 1 rfl) 0 (mArr_k _ _)) h one3 rfl rfl ?_; intro f h
            refine s_pure h (ru_val (.bool false) (ru_eql (h.ev rfl) (h.ev rfl)) (congrArg Value.bool k1)) rfl ?_; intro f h
            refine s_pure h (ru_move (h.ev rfl)) rfl ?_; intro f h
            refine s_on h rfl rfl rfl ?_
            refine s_pure h (ru_field fld28_0 (h.ev rfl)) rfl ?_; intro f h
            refine s_on h rfl rfl rfl ?_
            refine s_load_at1 (cell_of_has (Has.of_own s 1 rfl) 0 (mArr_k _ _)) h one3 rfl rfl ?_; intro f h
            refine s_on h rfl rfl rfl ?_
            refine s_pure h (ru_val (.bool true) (ru_eql (h.ev rfl) (h.ev rfl)) (congrArg Value.bool k2)) rfl ?_; intro f h
            refine s_pure h (ru_pick_f (h.ev rfl) (h.ev rfl)) rfl ?_; intro f h
            refine s_pure h (ru_move (h.ev rfl)) rfl ?_; intro f h
            refine s_off (b := false) h rfl rfl rfl rfl ?_; intro f h
            refine s_off (b := false) h rfl rfl rfl rfl ?_; intro f h
            refine s_off (b := false) h rfl rfl rfl rfl ?_; intro f h
            refine s_pure h (ru_pick_t (h.ev rfl) (h.ev rfl)) rfl ?_; intro f h
            refine s_pure h (ru_move (h.ev rfl)) rfl ?_; intro f h
            refine s_off (b := false) h rfl rfl rfl rfl ?_; intro f h
            refine s_off (b := false) h rfl rfl rfl rfl ?_; intro f h
            refine s_off (b := false) h rfl rfl rfl rfl ?_; intro f h
            refine s_pure h (ru_pick_t (h.ev rfl) (h.ev rfl)) rfl ?_; intro f h
            refine s_nil ?_
            refine t_norm ?_
            exact ⟨h.only ⟨rfl, rfl, rfl, rfl, rfl, slot_as rfl (congrArg Value.bool (by rw [hasN_or hk10, k1, k2]; rfl)), rfl, rfl, trivial⟩, St.as s ⟨rfl, rfl, trivial⟩⟩
        · skip
          refine c_region ?_
          refine s_pure h (ru_field fld28_0 (h.ev rfl)) rfl ?_; intro f h
          have hk10 := ((isK_iff _).1 (right_parts hr).1).2
          refine s_load_at1 (cell_of_has (Has.of_own s 1 rfl) 0 (mArr_k _ _)) h one3 rfl rfl ?_; intro f h
          refine s_pure h (ru_val (.bool true) (ru_eql (h.ev rfl) (h.ev rfl)) (congrArg Value.bool k1)) rfl ?_; intro f h
          refine s_pure h (ru_move (h.ev rfl)) rfl ?_; intro f h
          refine s_off (b := false) h rfl rfl rfl rfl ?_; intro f h
          refine s_off (b := false) h rfl rfl rfl rfl ?_; intro f h
          refine s_off (b := false) h rfl rfl rfl rfl ?_; intro f h
          refine s_pure h (ru_pick_t (h.ev rfl) (h.ev rfl)) rfl ?_; intro f h
          refine s_pure h (ru_move (h.ev rfl)) rfl ?_; intro f h
          refine s_off (b := false) h rfl rfl rfl rfl ?_; intro f h
          refine s_off (b := false) h rfl rfl rfl rfl ?_; intro f h
          refine s_off (b := false) h rfl rfl rfl rfl ?_; intro f h
          refine s_pure h (ru_pick_t (h.ev rfl) (h.ev rfl)) rfl ?_; intro f h
          refine s_pure h (ru_move (h.ev rfl)) rfl ?_; intro f h
          refine s_off (b := false) h rfl rfl rfl rfl ?_; intro f h
          refine s_off (b := false) h rfl rfl rfl rfl ?_; intro f h
          refine s_off (b := false) h rfl rfl rfl rfl ?_; intro f h
          refine s_pure h (ru_pick_t (h.ev rfl) (h.ev rfl)) rfl ?_; intro f h
          refine s_nil ?_
          refine t_norm ?_
          exact ⟨h.only ⟨rfl, rfl, rfl, rfl, rfl, slot_as rfl (congrArg Value.bool (by rw [hasN_or hk10, k1]; rfl)), rfl, rfl, trivial⟩, St.as s ⟨rfl, rfl, trivial⟩⟩
      rintro f w1 ⟨h, s⟩
      refine hK27 _ _ ?_
      refine c_join (fun aa ww => Sl 132 aa [(0, .agg (mArr a v1)), (1, .pointer (some ⟨b1, 0, none⟩)), (6, ve), (52, ve), (66, ve), (3, .string (mtW m)), (5, .int .i64 ((szE m : Nat) : Int))] ∧ St w [.sl ve 25 34 (ents m).length (eCells (ents m)), .blk b1 (.cells (mArr m vm) 28)] ww) ?_ ?_
      · skip
        refine c_cond h rfl (fun hc => ?_) (fun hc => ?_)
        · refine c_region ?_
          refine s_pure h (ru_move (h.ev rfl)) rfl ?_; intro f h
          refine s_pure h (ru_add (h.ev rfl) (h.ev rfl) (by omega)) rfl ?_; intro f h
          refine s_pure h (ru_assign (h.ev rfl)) rfl ?_; intro f h
          refine s_nil ?_
          refine t_norm ?_
          exact ⟨h.only ⟨rfl, rfl, rfl, rfl, rfl, rfl, slot_int rfl (by unfold szE; rw [hc]; simp only [cond_true]; omega), trivial⟩, St.as s ⟨rfl, rfl, trivial⟩⟩
        · refine wpIn_skip ?_
          refine t_norm ?_
          exact ⟨h.only ⟨rfl, rfl, rfl, rfl, rfl, rfl, slot_int rfl (by unfold szE; rw [hc]; simp only [cond_false]; omega), trivial⟩, St.as s ⟨rfl, rfl, trivial⟩⟩
      rintro f w1 ⟨h, s⟩
      refine hK26 _ _ ?_
      refine c_seq fun K30 hK30 => ?_
      refine c_region ?_
      refine s_load_row 1 h s row28 rfl rfl (mArr_size _ _) rfl ?_; intro f h
      refine s_alloc (mArr mZ (.slice none 0 0)) h s zero28 rfl rfl ?_; intro f w1 b9 h s
      refine s_store_row 0 h s row28 rfl rfl rfl (mArr_size _ _) (mArr_size _ _) (mArr_ones _ _ (rdz_one hvm)) ?_; intro w1 s
      refine s_nil ?_
      refine hK30 _ _ ?_
      refine c_seq fun K31 hK31 => ?_
      refine c_region ?_
      refine s_pure h (ru_field fld28_6 (h.ev rfl)) rfl ?_; intro f h
      refine s_load_at1 (cell_of_has (Has.of_own s 0 rfl) 70 (mArr_d _ _)) h one9 rfl rfl ?_; intro f h
      refine s_pure h (ru_cat_str (h.ev rfl) (h.ev rfl) (by show _ + 1 ≤ _; omega)) rfl ?_; intro f h
      refine s_pure h (ru_field fld28_6 (h.ev rfl)) rfl ?_; intro f h
      refine s_store_one 0 h s one9 rfl rfl rfl (by rw [mArr_size]; omega) (rfl) ?_; intro w1 s
      replace s := s.recell 0 rfl (mArr_setD _ _ _)
      refine s_nil ?_
      refine hK31 _ _ ?_
      refine c_seq fun K32 hK32 => ?_
      refine c_region ?_
      refine s_load_row 0 h s row28 rfl rfl (mArr_size _ _) rfl ?_; intro f h
      refine s_call h s fnc8 (wtext_any { m with d := m.d ++ ⟨#[120]⟩ } vm _ (hvm.keep s.ext) (by show m.l.length ≤ _; omega)) rfl rfl ?_; intro f w1 v9 hT hE h s; obtain rfl := hT
      refine s_pure h (ru_move (h.ev rfl)) rfl ?_; intro f h
      refine s_pure h (ru_extract (h.ev rfl) rfl) rfl ?_; intro f h
      refine s_pure h (ru_extract (h.ev rfl) rfl) rfl ?_; intro f h
      refine s_pure h (ru_assign (h.ev rfl)) rfl ?_; intro f h
      refine s_pure h (ru_assign (h.ev rfl)) rfl ?_; intro f h
      refine s_nil ?_
      refine hK32 _ _ ?_
      refine c_seq fun K33 hK33 => ?_
      cases k1 : (decide (m.k = 1) : Bool)
      · skip
        refine c_region ?_
        refine s_call h s fnc13 (alive5_any _) rfl rfl ?_; intro f w1 v9 hT hE h s; obtain rfl := hT
        refine s_pure h (ru_move (h.ev rfl)) rfl ?_; intro f h
        refine s_on h rfl rfl rfl ?_
        refine s_pure h (ru_move (h.ev rfl)) rfl ?_; intro f h
        refine s_on h rfl rfl rfl ?_
        refine s_pure h (ru_len_str Try.underlying9 (h.ev rfl)) rfl ?_; intro f h
        refine s_on h rfl rfl rfl ?_
        refine s_pure h (ru_move (h.ev rfl)) rfl ?_; intro f h
        refine s_on h rfl rfl rfl ?_
        refine s_pure h (ru_val (.bool true) (ru_eql (h.ev rfl) (h.ev rfl)) (congrArg Value.bool (decide_eq_true (by rw [mtW_t hr, size_E hr])))) rfl ?_; intro f h
        refine s_pure h (ru_pick_t (h.ev rfl) (h.ev rfl)) rfl ?_; intro f h
        refine s_pure h (ru_move (h.ev rfl)) rfl ?_; intro f h
        refine s_on h rfl rfl rfl ?_
        refine s_pure h (ru_move (h.ev rfl)) rfl ?_; intro f h
        refine s_on h rfl rfl rfl ?_
        refine s_pure h (ru_val (.bool false) (ru_eql (h.ev rfl) (h.ev rfl)) (congrArg Value.bool (decide_eq_false (by rw [mtR_f ((more_right hr _ rfl).trans (by rw [k1]; rfl))]; decide)))) rfl ?_; intro f h
        refine s_on h rfl rfl rfl ?_
        refine s_pure h (ru_field fld28_0 (h.ev rfl)) rfl ?_; intro f h
        refine s_on h rfl rfl rfl ?_
        refine s_load_at1 (cell_of_has (Has.of_own s 2 rfl) 0 (mArr_k _ _)) h one3 rfl rfl ?_; intro f h
        refine s_on h rfl rfl rfl ?_
        refine s_pure h (ru_val (.bool false) (ru_eql (h.ev rfl) (h.ev rfl)) (congrArg Value.bool k1)) rfl ?_; intro f h
        refine s_on h rfl rfl rfl ?_
        refine s_pure h (ru_move (h.ev rfl)) rfl ?_; intro f h
        refine s_off (b := true) h rfl rfl rfl rfl ?_; intro f h
        refine s_off (b := true) h rfl rfl rfl rfl ?_; intro f h
        refine s_off (b := true) h rfl rfl rfl rfl ?_; intro f h
        refine s_off (b := true) h rfl rfl rfl rfl ?_; intro f h
        refine s_on h rfl rfl rfl ?_
        refine s_pure h (ru_pick_f (h.ev rfl) (h.ev rfl)) rfl ?_; intro f h
        refine s_on h rfl rfl rfl ?_
        refine s_pure h (ru_val (.bool true) (ru_eql_bool Try.underlying4 (h.ev rfl) (h.ev rfl)) (rfl)) rfl ?_; intro f h
        refine s_pure h (ru_pick_t (h.ev rfl) (h.ev rfl)) rfl ?_; intro f h
        refine s_pure h (ru_move (h.ev rfl)) rfl ?_; intro f h
        refine s_on h rfl rfl rfl ?_
        refine s_pure h (ru_move (h.ev rfl)) rfl ?_; intro f h
        refine s_on h rfl rfl rfl ?_
        refine s_pure h (ru_val (.bool true) (ru_neq (h.ev rfl) (h.ev rfl)) (congrArg Value.bool (decide_eq_true (by rw [mtR_f ((more_right hr _ rfl).trans (by rw [k1]; rfl))]; decide)))) rfl ?_; intro f h
        refine s_on h rfl rfl rfl ?_
        refine s_pure h (ru_move (h.ev rfl)) rfl ?_; intro f h
        refine s_off (b := false) h rfl rfl rfl rfl ?_; intro f h
        refine s_off (b := false) h rfl rfl rfl rfl ?_; intro f h
        refine s_off (b := false) h rfl rfl rfl rfl ?_; intro f h
        refine s_off (b := false) h rfl rfl rfl rfl ?_; intro f h
        refine s_on h rfl rfl rfl ?_
        refine s_pure h (ru_pick_t (h.ev rfl) (h.ev rfl)) rfl ?_; intro f h
        refine s_pure h (ru_pick_t (h.ev rfl) (h.ev rfl)) rfl ?_; intro f h
        refine s_pure h (ru_assign (h.ev rfl)) rfl ?_; intro f h
        refine s_nil ?_
        refine hK33 _ _ ?_
        refine wpIn_ret ?_
        exact e_tmp rfl h s rfl (rfl)
      · skip
        cases h64 : (decide (m.d.size < 64) : Bool)
        · skip
          refine c_region ?_
          refine s_call h s fnc13 (alive5_any _) rfl rfl ?_; intro f w1 v9 hT hE h s; obtain rfl := hT
          refine s_pure h (ru_move (h.ev rfl)) rfl ?_; intro f h
          refine s_on h rfl rfl rfl ?_
          refine s_pure h (ru_move (h.ev rfl)) rfl ?_; intro f h
          refine s_on h rfl rfl rfl ?_
          refine s_pure h (ru_len_str Try.underlying9 (h.ev rfl)) rfl ?_; intro f h
          refine s_on h rfl rfl rfl ?_
          refine s_pure h (ru_move (h.ev rfl)) rfl ?_; intro f h
          refine s_on h rfl rfl rfl ?_
          refine s_pure h (ru_val (.bool true) (ru_eql (h.ev rfl) (h.ev rfl)) (congrArg Value.bool (decide_eq_true (by rw [mtW_t hr, size_E hr])))) rfl ?_; intro f h
          refine s_pure h (ru_pick_t (h.ev rfl) (h.ev rfl)) rfl ?_; intro f h
          refine s_pure h (ru_move (h.ev rfl)) rfl ?_; intro f h
          refine s_on h rfl rfl rfl ?_
          refine s_pure h (ru_move (h.ev rfl)) rfl ?_; intro f h
          refine s_on h rfl rfl rfl ?_
          refine s_pure h (ru_val (.bool false) (ru_eql (h.ev rfl) (h.ev rfl)) (congrArg Value.bool (decide_eq_false (by rw [mtR_f ((more_right hr _ rfl).trans (by rw [k1, h64]; rfl))]; decide)))) rfl ?_; intro f h
          refine s_on h rfl rfl rfl ?_
          refine s_pure h (ru_field fld28_0 (h.ev rfl)) rfl ?_; intro f h
          refine s_on h rfl rfl rfl ?_
          refine s_load_at1 (cell_of_has (Has.of_own s 2 rfl) 0 (mArr_k _ _)) h one3 rfl rfl ?_; intro f h
          refine s_on h rfl rfl rfl ?_
          refine s_pure h (ru_val (.bool true) (ru_eql (h.ev rfl) (h.ev rfl)) (congrArg Value.bool k1)) rfl ?_; intro f h
          refine s_on h rfl rfl rfl ?_
          refine s_pure h (ru_move (h.ev rfl)) rfl ?_; intro f h
          refine s_on h rfl rfl rfl ?_
          refine s_pure h (ru_field fld28_6 (h.ev rfl)) rfl ?_; intro f h
          refine s_on h rfl rfl rfl ?_
          refine s_load_at1 (cell_of_has (Has.of_own s 2 rfl) 70 (mArr_d _ _)) h one9 rfl rfl ?_; intro f h
          refine s_on h rfl rfl rfl ?_
          refine s_pure h (ru_len_str Try.underlying9 (h.ev rfl)) rfl ?_; intro f h
          refine s_on h rfl rfl rfl ?_
          refine s_pure h (ru_val (.bool false) (ru_lss (h.ev rfl) (h.ev rfl)) (congrArg Value.bool (Eq.trans (decide_eq_decide.2 (by omega)) h64))) rfl ?_; intro f h
          refine s_on h rfl rfl rfl ?_
          refine s_pure h (ru_pick_t (h.ev rfl) (h.ev rfl)) rfl ?_; intro f h
          refine s_on h rfl rfl rfl ?_
          refine s_pure h (ru_val (.bool true) (ru_eql_bool Try.underlying4 (h.ev rfl) (h.ev rfl)) (rfl)) rfl ?_; intro f h
          refine s_pure h (ru_pick_t (h.ev rfl) (h.ev rfl)) rfl ?_; intro f h
          refine s_pure h (ru_move (h.ev rfl)) rfl ?_; intro f h
          refine s_on h rfl rfl rfl ?_
          refine s_pure h (ru_move (h.ev rfl)) rfl ?_; intro f h
          refine s_on h rfl rfl rfl ?_
          refine s_pure h (ru_val (.bool true) (ru_neq (h.ev rfl) (h.ev rfl)) (congrArg Value.bool (decide_eq_true (by rw [mtR_f ((more_right hr _ rfl).trans (by rw [k1, h64]; rfl))]; decide)))) rfl ?_; intro f h
          refine s_on h rfl rfl rfl ?_
          refine s_pure h (ru_move (h.ev rfl)) rfl ?_; intro f h
          refine s_off (b := false) h rfl rfl rfl rfl ?_; intro f h
          refine s_off (b := false) h rfl rfl rfl rfl ?_; intro f h
          refine s_off (b := false) h rfl rfl rfl rfl ?_; intro f h
          refine s_off (b := false) h rfl rfl rfl rfl ?_; intro f h
          refine s_on h rfl rfl rfl ?_
          refine s_pure h (ru_pick_t (h.ev rfl) (h.ev rfl)) rfl ?_; intro f h
          refine s_pure h (ru_pick_t (h.ev rfl) (h.ev rfl)) rfl ?_; intro f h
          refine s_pure h (ru_assign (h.ev rfl)) rfl ?_; intro f h
          refine s_nil ?_
          refine hK33 _ _ ?_
          refine wpIn_ret ?_
          exact e_tmp rfl h s rfl (rfl)
        · skip
          refine c_region ?_
          refine s_call h s fnc13 (alive5_any _) rfl rfl ?_; intro f w1 v9 hT hE h s; obtain rfl := hT
          refine s_pure h (ru_move (h.ev rfl)) rfl ?_; intro f h
          refine s_on h rfl rfl rfl ?_
          refine s_pure h (ru_move (h.ev rfl)) rfl ?_; intro f h
          refine s_on h rfl rfl rfl ?_
          refine s_pure h (ru_len_str Try.underlying9 (h.ev rfl)) rfl ?_; intro f h
          refine s_on h rfl rfl rfl ?_
          refine s_pure h (ru_move (h.ev rfl)) rfl ?_; intro f h
          refine s_on h rfl rfl rfl ?_
          refine s_pure h (ru_val (.bool true) (ru_eql (h.ev rfl) (h.ev rfl)) (congrArg Value.bool (decide_eq_true (by rw [mtW_t hr, size_E hr])))) rfl ?_; intro f h
          refine s_pure h (ru_pick_t (h.ev rfl) (h.ev rfl)) rfl ?_; intro f h
          refine s_pure h (ru_move (h.ev rfl)) rfl ?_; intro f h
          refine s_on h rfl rfl rfl ?_
          refine s_pure h (ru_move (h.ev rfl)) rfl ?_; intro f h
          refine s_on h rfl rfl rfl ?_
          refine s_pure h (ru_val (.bool true) (ru_eql (h.ev rfl) (h.ev rfl)) (congrArg Value.bool (decide_eq_true (mtR_t ((more_right hr _ rfl).trans (by rw [k1, h64]; rfl)))))) rfl ?_; intro f h
          refine s_on h rfl rfl rfl ?_
          refine s_pure h (ru_field fld28_0 (h.ev rfl)) rfl ?_; intro f h
          refine s_on h rfl rfl rfl ?_
          refine s_load_at1 (cell_of_has (Has.of_own s 2 rfl) 0 (mArr_k _ _)) h one3 rfl rfl ?_; intro f h
          refine s_on h rfl rfl rfl ?_
          refine s_pure h (ru_val (.bool true) (ru_eql (h.ev rfl) (h.ev rfl)) (congrArg Value.bool k1)) rfl ?_; intro f h
          refine s_on h rfl rfl rfl ?_
          refine s_pure h (ru_move (h.ev rfl)) rfl ?_; intro f h
          refine s_on h rfl rfl rfl ?_
          refine s_pure h (ru_field fld28_6 (h.ev rfl)) rfl ?_; intro f h
          refine s_on h rfl rfl rfl ?_
          refine s_load_at1 (cell_of_has (Has.of_own s 2 rfl) 70 (mArr_d _ _)) h one9 rfl rfl ?_; intro f h
          refine s_on h rfl rfl rfl ?_
          refine s_pure h (ru_len_str Try.underlying9 (h.ev rfl)) rfl ?_; intro f h
          refine s_on h rfl rfl rfl ?_
          refine s_pure h (ru_val (.bool true) (ru_lss (h.ev rfl) (h.ev rfl)) (congrArg Value.bool (Eq.trans (decide_eq_decide.2 (by omega)) h64))) rfl ?_; intro f h
          refine s_on h rfl rfl rfl ?_
          refine s_pure h (ru_pick_t (h.ev rfl) (h.ev rfl)) rfl ?_; intro f h
          refine s_on h rfl rfl rfl ?_
          refine s_pure h (ru_val (.bool true) (ru_eql_bool Try.underlying4 (h.ev rfl) (h.ev rfl)) (rfl)) rfl ?_; intro f h
          refine s_pure h (ru_pick_t (h.ev rfl) (h.ev rfl)) rfl ?_; intro f h
          refine s_pure h (ru_move (h.ev rfl)) rfl ?_; intro f h
          refine s_on h rfl rfl rfl ?_
          refine s_pure h (ru_move (h.ev rfl)) rfl ?_; intro f h
          refine s_on h rfl rfl rfl ?_
          refine s_pure h (ru_val (.bool false) (ru_neq (h.ev rfl) (h.ev rfl)) (congrArg Value.bool (decide_eq_false (fun h9 => h9 (mtR_t ((more_right hr _ rfl).trans (by rw [k1, h64]; rfl))))))) rfl ?_; intro f h
          refine s_on h rfl rfl rfl ?_
          refine s_pure h (ru_move (h.ev rfl)) rfl ?_; intro f h
          refine s_on h rfl rfl rfl ?_
          refine s_pure h (ru_move (h.ev rfl)) rfl ?_; intro f h
          refine s_on h rfl rfl rfl ?_
          refine s_pure h (ru_move (h.ev rfl)) rfl ?_; intro f h
          refine s_on h rfl rfl rfl ?_
          refine s_pure h (ru_cat_str (h.ev rfl) (h.ev rfl) (by have := mtW_size m; show _ + 1 ≤ _; omega)) rfl ?_; intro f h
          refine s_on h rfl rfl rfl ?_
          refine s_pure h (ru_val (.bool true) (ru_eql_str (h.ev rfl) (h.ev rfl)) (congrArg Value.bool (decide_eq_true (by rw [mtW_t hr, mtW_t ((more_right hr _ rfl).trans (by rw [k1, h64]; rfl)), more_text])))) rfl ?_; intro f h
          refine s_on h rfl rfl rfl ?_
          refine s_pure h (ru_pick_f (h.ev rfl) (h.ev rfl)) rfl ?_; intro f h
          refine s_pure h (ru_pick_t (h.ev rfl) (h.ev rfl)) rfl ?_; intro f h
          refine s_pure h (ru_assign (h.ev rfl)) rfl ?_; intro f h
          refine s_nil ?_
          refine hK33 _ _ ?_
          refine wpIn_ret ?_
          exact e_tmp rfl h s rfl (rfl)
end Go.Proofs.Ytaehgcdcfbhohaa
