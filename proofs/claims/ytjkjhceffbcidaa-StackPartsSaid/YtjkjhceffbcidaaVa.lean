/- Which entries and stacks may be, and which are the same: package stack and its reference, for all arguments of their types. -/
import Derived.Test.YtjkjhceffbcidaaCon
set_option linter.unusedVariables false
set_option linter.unusedSimpArgs false
set_option linter.unusedSectionVars false
namespace Go.Proofs.Ytjkjhceffbcidaa
open Go.RowKit
theorem few_any (v9 : Value) (l : List Ent) (w : World) (hv : RdZ w v9 34 l.length (eCells l)) : Calls Try.prog 8 [v9].toArray w (Ret w (is (cutV v9 (min l.length 7)))) := by
  refine c_enter Try.func8 rfl Try.ntmps8 rfl [(0, v9)] (by simp) fun f h => ?_
  have s := St.start w
  refine c_seq fun K1 hK1 => ?_
  refine c_region ?_
  refine s_pure h (ru_assign (h.ev rfl)) rfl ?_; intro f h
  refine s_nil ?_
  refine hK1 _ _ ?_
  refine c_seq fun K2 hK2 => ?_
  refine c_region ?_
  refine s_pure h (ru_move (h.ev rfl)) rfl ?_; intro f h
  refine s_pure h (ru_move (h.ev rfl)) rfl ?_; intro f h
  refine s_pure h (ru_lenZ (hv.keep s.ext) Try.underlying22 (h.ev rfl)) rfl ?_; intro f h
  refine s_pure h (ru_min (h.ev rfl) (h.ev rfl)) rfl ?_; intro f h
  refine s_pure h (ru_slice_hiZ (hv.keep s.ext) (min l.length 7) Try.underlying22 szo26 (h.ev rfl) (h.ev rfl) (by split <;> omega) (by omega)) rfl ?_; intro f h
  refine s_pure h (ru_assign (h.ev rfl)) rfl ?_; intro f h
  refine s_nil ?_
  refine hK2 _ _ ?_
  refine wpIn_ret ?_
  exact e_tmp rfl h s rfl (rfl)

theorem is_any (e : Ent) (w : World) : Calls Try.prog 10 [.agg (eArr e)].toArray w (Ret w (is (.bool (isE e)))) := by
  refine c_enter Try.func10 rfl Try.ntmps10 rfl [(0, .agg (eArr e))] (by simp) fun f h => ?_
  have s := St.start w
  refine c_seq fun K1 hK1 => ?_
  refine c_region ?_
  refine s_box ((eArr e)) h s rfl rfl rfl ?_; intro f w1 b1 h s
  refine s_pure h (ru_assign (h.ev rfl)) rfl ?_; intro f h
  refine s_nil ?_
  refine hK1 _ _ ?_
  refine c_seq fun K2 hK2 => ?_
  refine c_seq fun K3 hK3 => ?_
  refine c_region ?_
  refine s_pure h (ru_field fld26_0 (h.ev rfl)) rfl ?_; intro f h
  refine s_load_at1 (cell_of_has (Has.of_own s 0 rfl) 0 (eArr_kind _)) h one3 rfl rfl ?_; intro f h
  refine s_nil ?_
  refine hK3 _ _ ?_
  refine wpIn_block ?_
  refine c_seq fun K4 hK4 => ?_
  refine c_region ?_
  refine s_pure h (ru_eql (h.ev rfl) (h.ev rfl)) rfl ?_; intro f h
  refine s_pure h (ru_assign (h.ev rfl)) rfl ?_; intro f h
  refine s_nil ?_
  refine hK4 _ _ ?_
  refine c_cond h rfl (fun hc => ?_) (fun hc => ?_)
  · replace hc := of_decide_eq_true hc
    refine c_seq fun K5 hK5 => ?_
    refine c_region ?_
    refine s_pure h (ru_field fld26_2 (h.ev rfl)) rfl ?_; intro f h
    refine s_load_at1 (cell_of_has (Has.of_own s 0 rfl) 33 (eArr_host _)) h one3 rfl rfl ?_; intro f h
    refine s_pure h (ru_eql (h.ev rfl) (h.ev rfl)) rfl ?_; intro f h
    refine s_pure h (ru_assign (h.ev rfl)) rfl ?_; intro f h
    refine s_nil ?_
    refine hK5 _ _ ?_
    refine wpIn_ret ?_
    refine b_ret ?_
    refine t_ret ?_
    exact e_tmp rfl h s rfl (by show _ = _; rw [isE_one _ hc])
  · replace hc := of_decide_eq_false hc
    have hk := hc
    refine c_seq fun K6 hK6 => ?_
    refine c_region ?_
    refine s_pure h (ru_eql (h.ev rfl) (h.ev rfl)) rfl ?_; intro f h
    refine s_pure h (ru_assign (h.ev rfl)) rfl ?_; intro f h
    refine s_nil ?_
    refine hK6 _ _ ?_
    refine c_cond h rfl (fun hc => ?_) (fun hc => ?_)
    · replace hc := of_decide_eq_true hc
      refine c_seq fun K7 hK7 => ?_
      cases hz : (decide (e.2.1 = 0#256) : Bool)
      · skip
        refine c_region ?_
        refine s_pure h (ru_field fld26_1 (h.ev rfl)) rfl ?_; intro f h
        refine s_load_at (Has.subL (Has.of_own s 0 rfl) 1 32 (D := idArr (_)) (eArr_id _)) h row24 rfl (by first | exact idArr_size _ | exact bytesF_size _ _) rfl ?_; intro f h
        refine s_pure h (ru_build0 idTy) rfl ?_; intro f h
        refine s_pure h (ru_val (.bool false) (ru_eql_id idTy (h.ev rfl) (h.ev rfl)) (congrArg Value.bool hz)) rfl ?_; intro f h
        refine s_pure h (ru_move (h.ev rfl)) rfl ?_; intro f h
        refine s_off (b := true) h rfl rfl rfl rfl ?_; intro f h
        refine s_off (b := true) h rfl rfl rfl rfl ?_; intro f h
        refine s_off (b := true) h rfl rfl rfl rfl ?_; intro f h
        refine s_pure h (ru_pick_f (h.ev rfl) (h.ev rfl)) rfl ?_; intro f h
        refine s_pure h (ru_move (h.ev rfl)) rfl ?_; intro f h
        refine s_off (b := true) h rfl rfl rfl rfl ?_; intro f h
        refine s_off (b := true) h rfl rfl rfl rfl ?_; intro f h
        refine s_off (b := true) h rfl rfl rfl rfl ?_; intro f h
        refine s_pure h (ru_pick_f (h.ev rfl) (h.ev rfl)) rfl ?_; intro f h
        refine s_pure h (ru_assign (h.ev rfl)) rfl ?_; intro f h
        refine s_nil ?_
        refine hK7 _ _ ?_
        refine wpIn_ret ?_
        refine b_ret ?_
        refine t_ret ?_
        exact e_tmp rfl h s rfl (by show _ = _; rw [isE_two _ hc, hz]; rfl)
      · skip
        cases hg : (decide (0 ≤ e.2.2) : Bool)
        · skip
          refine c_region ?_
          refine s_pure h (ru_field fld26_1 (h.ev rfl)) rfl ?_; intro f h
          refine s_load_at (Has.subL (Has.of_own s 0 rfl) 1 32 (D := idArr (_)) (eArr_id _)) h row24 rfl (by first | exact idArr_size _ | exact bytesF_size _ _) rfl ?_; intro f h
          refine s_pure h (ru_build0 idTy) rfl ?_; intro f h
          refine s_pure h (ru_val (.bool true) (ru_eql_id idTy (h.ev rfl) (h.ev rfl)) (congrArg Value.bool hz)) rfl ?_; intro f h
          refine s_pure h (ru_move (h.ev rfl)) rfl ?_; intro f h
          refine s_on h rfl rfl rfl ?_
          refine s_pure h (ru_field fld26_2 (h.ev rfl)) rfl ?_; intro f h
          refine s_on h rfl rfl rfl ?_
          refine s_load_at1 (cell_of_has (Has.of_own s 0 rfl) 33 (eArr_host _)) h one3 rfl rfl ?_; intro f h
          refine s_on h rfl rfl rfl ?_
          refine s_pure h (ru_val (.bool false) (ru_geq (h.ev rfl) (h.ev rfl)) (congrArg Value.bool hg)) rfl ?_; intro f h
          refine s_pure h (ru_pick_t (h.ev rfl) (h.ev rfl)) rfl ?_; intro f h
          refine s_pure h (ru_move (h.ev rfl)) rfl ?_; intro f h
          refine s_off (b := true) h rfl rfl rfl rfl ?_; intro f h
          refine s_off (b := true) h rfl rfl rfl rfl ?_; intro f h
          refine s_off (b := true) h rfl rfl rfl rfl ?_; intro f h
          refine s_pure h (ru_pick_f (h.ev rfl) (h.ev rfl)) rfl ?_; intro f h
          refine s_pure h (ru_assign (h.ev rfl)) rfl ?_; intro f h
          refine s_nil ?_
          refine hK7 _ _ ?_
          refine wpIn_ret ?_
          refine b_ret ?_
          refine t_ret ?_
          exact e_tmp rfl h s rfl (by show _ = _; rw [isE_two _ hc, hz, hg]; rfl)
        · skip
          refine c_region ?_
          refine s_pure h (ru_field fld26_1 (h.ev rfl)) rfl ?_; intro f h
          refine s_load_at (Has.subL (Has.of_own s 0 rfl) 1 32 (D := idArr (_)) (eArr_id _)) h row24 rfl (by first | exact idArr_size _ | exact bytesF_size _ _) rfl ?_; intro f h
          refine s_pure h (ru_build0 idTy) rfl ?_; intro f h
          refine s_pure h (ru_val (.bool true) (ru_eql_id idTy (h.ev rfl) (h.ev rfl)) (congrArg Value.bool hz)) rfl ?_; intro f h
          refine s_pure h (ru_move (h.ev rfl)) rfl ?_; intro f h
          refine s_on h rfl rfl rfl ?_
          refine s_pure h (ru_field fld26_2 (h.ev rfl)) rfl ?_; intro f h
          refine s_on h rfl rfl rfl ?_
          refine s_load_at1 (cell_of_has (Has.of_own s 0 rfl) 33 (eArr_host _)) h one3 rfl rfl ?_; intro f h
          refine s_on h rfl rfl rfl ?_
          refine s_pure h (ru_val (.bool true) (ru_geq (h.ev rfl) (h.ev rfl)) (congrArg Value.bool hg)) rfl ?_; intro f h
          refine s_pure h (ru_pick_t (h.ev rfl) (h.ev rfl)) rfl ?_; intro f h
          refine s_pure h (ru_move (h.ev rfl)) rfl ?_; intro f h
          refine s_on h rfl rfl rfl ?_
          refine s_pure h (ru_field fld26_2 (h.ev rfl)) rfl ?_; intro f h
          refine s_on h rfl rfl rfl ?_
          refine s_load_at1 (cell_of_has (Has.of_own s 0 rfl) 33 (eArr_host _)) h one3 rfl rfl ?_; intro f h
          refine s_on h rfl rfl rfl ?_
          refine s_pure h (ru_lss (h.ev rfl) (h.ev rfl)) rfl ?_; intro f h
          refine s_pure h (ru_pick_t (h.ev rfl) (h.ev rfl)) rfl ?_; intro f h
          refine s_pure h (ru_assign (h.ev rfl)) rfl ?_; intro f h
          refine s_nil ?_
          refine hK7 _ _ ?_
          refine wpIn_ret ?_
          refine b_ret ?_
          refine t_ret ?_
          exact e_tmp rfl h s rfl (by show _ = _; rw [isE_two _ hc, hz, hg]; rfl)
    · replace hc := of_decide_eq_false hc
      refine wpIn_skip ?_
      refine b_norm ?_
      refine hK2 _ _ ?_
      refine c_seq fun K8 hK8 => ?_
      refine c_region ?_
      refine s_pure h (ru_assign (h.ev rfl)) rfl ?_; intro f h
      refine s_nil ?_
      refine hK8 _ _ ?_
      refine wpIn_ret ?_
      exact e_tmp rfl h s rfl (by show _ = _; rw [isE_none _ hk hc])

theorem ris_one (e : Ent) (hk : e.1 = 1) (w : World) : Calls Try.prog 11 [.agg (eArr e)].toArray w (Ret w (is (.bool (isE e)))) := by
  refine c_enter Try.func11 rfl Try.ntmps11 rfl [(0, .agg (eArr e))] (by simp) fun f h => ?_
  have s := St.start w
  refine c_seq fun K1 hK1 => ?_
  refine c_region ?_
  refine s_box ((eArr e)) h s rfl rfl rfl ?_; intro f w1 b1 h s
  refine s_pure h (ru_assign (h.ev rfl)) rfl ?_; intro f h
  refine s_nil ?_
  refine hK1 _ _ ?_
  refine c_seq fun K2 hK2 => ?_
  refine c_region ?_
  refine s_pure h (ru_assign (h.ev rfl)) rfl ?_; intro f h
  refine s_nil ?_
  refine hK2 _ _ ?_
  refine c_seq fun K3 hK3 => ?_
  refine c_seq fun K4 hK4 => ?_
  refine c_region ?_
  refine s_pure h (ru_field fld26_1 (h.ev rfl)) rfl ?_; intro f h
  refine s_load_at (Has.subL (Has.of_own s 0 rfl) 1 32 (D := idArr (_)) (eArr_id _)) h row24 rfl (by first | exact idArr_size _ | exact bytesF_size _ _) rfl ?_; intro f h
  refine s_pure h (ru_move (h.ev rfl)) rfl ?_; intro f h
  refine s_nil ?_
  refine hK4 _ _ ?_
  refine wpIn_block ?_
  refine wpIn_loop_ghost (fun nn aa ww => ∃ k : Nat, Sl 43 aa [(0, .agg (eArr e)), (1, .pointer (some ⟨b1, 0, none⟩)), (3, .bool (zB e.2.1 k)), (7, .agg (idArr e.2.1)), (8, .int .i64 (k : Int))] ∧ St w [.blk b1 (.cells (eArr e) 26)] ww ∧ nn = 32 - k ∧ k ≤ 32) (32 - (0)) ⟨0, h.only ⟨rfl, rfl, rfl, rfl, slot_int rfl (by omega), trivial⟩, s.as ⟨rfl, trivial⟩, rfl, Nat.zero_le _⟩ ?_
  rintro _ f w1 ⟨k, h, s, hnn, hp0⟩
  refine c_seq fun K5 hK5 => ?_
  refine c_region ?_
  refine s_pure h (ru_lss (h.ev rfl) (h.ev rfl)) rfl ?_; intro f h
  refine s_nil ?_
  refine hK5 _ _ ?_
  refine c_seq fun K6 hK6 => ?_
  refine c_cond h rfl (fun hc => ?_) (fun hc => ?_)
  · replace hc := of_decide_eq_true hc
    refine wpIn_skip ?_
    refine hK6 _ _ ?_
    refine c_seq fun K7 hK7 => ?_
    refine wpIn_block ?_
    refine c_seq fun K8 hK8 => ?_
    refine c_region ?_
    refine s_pure h (ru_index_id idTy (k) (h.ev rfl) (h.ev rfl) (by omega) (by omega)) rfl ?_; intro f h
    refine s_pure h (ru_assign (h.ev rfl)) rfl ?_; intro f h
    refine s_nil ?_
    refine hK8 _ _ ?_
    cases hz : (zB e.2.1 k : Bool)
    · skip
      refine c_region ?_
      refine s_pure h (ru_move (h.ev rfl)) rfl ?_; intro f h
      refine s_pure h (ru_val (.bool false) (ru_move (h.ev rfl)) (congrArg Value.bool hz)) rfl ?_; intro f h
      refine s_off (b := true) h rfl rfl rfl rfl ?_; intro f h
      refine s_off (b := true) h rfl rfl rfl rfl ?_; intro f h
      refine s_pure h (ru_pick_f (h.ev rfl) (h.ev rfl)) rfl ?_; intro f h
      refine s_pure h (ru_assign (h.ev rfl)) rfl ?_; intro f h
      refine s_nil ?_
      refine b_norm ?_
      refine hK7 _ _ ?_
      refine c_region ?_
      refine s_pure h (ru_add (h.ev rfl) (h.ev rfl) (by omega)) rfl ?_; intro f h
      refine s_pure h (ru_move (h.ev rfl)) rfl ?_; intro f h
      refine s_nil ?_
      refine t_norm ?_
      exact ⟨_, by omega, ⟨k + 1, h.only ⟨rfl, rfl, slot_bool rfl (by rw [zB_succ, hz]; rfl), rfl, slot_int rfl (by omega), trivial⟩, St.as s ⟨rfl, trivial⟩, rfl, by omega⟩⟩
    · skip
      refine c_region ?_
      refine s_pure h (ru_move (h.ev rfl)) rfl ?_; intro f h
      refine s_pure h (ru_val (.bool true) (ru_move (h.ev rfl)) (congrArg Value.bool hz)) rfl ?_; intro f h
      refine s_on h rfl rfl rfl ?_
      refine s_pure h (ru_move (h.ev rfl)) rfl ?_; intro f h
      refine s_on h rfl rfl rfl ?_
      refine s_pure h (ru_eql (h.ev rfl) (h.ev rfl)) rfl ?_; intro f h
      refine s_pure h (ru_pick_t (h.ev rfl) (h.ev rfl)) rfl ?_; intro f h
      refine s_pure h (ru_assign (h.ev rfl)) rfl ?_; intro f h
      refine s_nil ?_
      refine b_norm ?_
      refine hK7 _ _ ?_
      refine c_region ?_
      refine s_pure h (ru_add (h.ev rfl) (h.ev rfl) (by omega)) rfl ?_; intro f h
      refine s_pure h (ru_move (h.ev rfl)) rfl ?_; intro f h
      refine s_nil ?_
      refine t_norm ?_
      exact ⟨_, by omega, ⟨k + 1, h.only ⟨rfl, rfl, slot_bool rfl (by rw [zB_succ, hz]; simp), rfl, slot_int rfl (by omega), trivial⟩, St.as s ⟨rfl, trivial⟩, rfl, by omega⟩⟩
  · replace hc := of_decide_eq_false hc
    refine wpIn_exit ?_
    refine t_exit ?_
    refine t_exit ?_
    refine b_exit ?_
    refine hK3 _ _ ?_
    refine c_seq fun K9 hK9 => ?_
    cases hh : (decide (e.2.2 = 0) : Bool)
    · skip
      refine c_region ?_
      refine s_pure h (ru_field fld26_0 (h.ev rfl)) rfl ?_; intro f h
      refine s_load_at1 (cell_of_has (Has.of_own s 0 rfl) 0 (eArr_kind _)) h one3 rfl rfl ?_; intro f h
      refine s_pure h (ru_val (.bool true) (ru_eql (h.ev rfl) (h.ev rfl)) (congrArg Value.bool (decide_eq_true (hk)))) rfl ?_; intro f h
      refine s_pure h (ru_move (h.ev rfl)) rfl ?_; intro f h
      refine s_on h rfl rfl rfl ?_
      refine s_pure h (ru_field fld26_2 (h.ev rfl)) rfl ?_; intro f h
      refine s_on h rfl rfl rfl ?_
      refine s_load_at1 (cell_of_has (Has.of_own s 0 rfl) 33 (eArr_host _)) h one3 rfl rfl ?_; intro f h
      refine s_on h rfl rfl rfl ?_
      refine s_pure h (ru_val (.bool false) (ru_eql (h.ev rfl) (h.ev rfl)) (congrArg Value.bool hh)) rfl ?_; intro f h
      refine s_pure h (ru_pick_t (h.ev rfl) (h.ev rfl)) rfl ?_; intro f h
      refine s_pure h (ru_move (h.ev rfl)) rfl ?_; intro f h
      refine s_on h rfl rfl rfl ?_
      refine s_pure h (ru_field fld26_0 (h.ev rfl)) rfl ?_; intro f h
      refine s_on h rfl rfl rfl ?_
      refine s_load_at1 (cell_of_has (Has.of_own s 0 rfl) 0 (eArr_kind _)) h one3 rfl rfl ?_; intro f h
      refine s_on h rfl rfl rfl ?_
      refine s_pure h (ru_val (.bool false) (ru_eql (h.ev rfl) (h.ev rfl)) (congrArg Value.bool (decide_eq_false (by omega)))) rfl ?_; intro f h
      refine s_on h rfl rfl rfl ?_
      refine s_pure h (ru_move (h.ev rfl)) rfl ?_; intro f h
      refine s_off (b := true) h rfl rfl rfl rfl ?_; intro f h
      refine s_on h rfl rfl rfl ?_
      refine s_pure h (ru_pick_f (h.ev rfl) (h.ev rfl)) rfl ?_; intro f h
      refine s_on h rfl rfl rfl ?_
      refine s_pure h (ru_move (h.ev rfl)) rfl ?_; intro f h
      refine s_off (b := true) h rfl rfl rfl rfl ?_; intro f h
      refine s_off (b := true) h rfl rfl rfl rfl ?_; intro f h
      refine s_off (b := true) h rfl rfl rfl rfl ?_; intro f h
      refine s_on h rfl rfl rfl ?_
      refine s_pure h (ru_pick_f (h.ev rfl) (h.ev rfl)) rfl ?_; intro f h
      refine s_on h rfl rfl rfl ?_
      refine s_pure h (ru_move (h.ev rfl)) rfl ?_; intro f h
      refine s_off (b := true) h rfl rfl rfl rfl ?_; intro f h
      refine s_off (b := true) h rfl rfl rfl rfl ?_; intro f h
      refine s_off (b := true) h rfl rfl rfl rfl ?_; intro f h
      refine s_on h rfl rfl rfl ?_
      refine s_pure h (ru_pick_f (h.ev rfl) (h.ev rfl)) rfl ?_; intro f h
      refine s_pure h (ru_pick_f (h.ev rfl) (h.ev rfl)) rfl ?_; intro f h
      refine s_pure h (ru_assign (h.ev rfl)) rfl ?_; intro f h
      refine s_nil ?_
      refine hK9 _ _ ?_
      refine wpIn_ret ?_
      exact e_tmp rfl h s rfl (by show _ = _; rw [isE_one _ hk, hh])
    · skip
      refine c_region ?_
      refine s_pure h (ru_field fld26_0 (h.ev rfl)) rfl ?_; intro f h
      refine s_load_at1 (cell_of_has (Has.of_own s 0 rfl) 0 (eArr_kind _)) h one3 rfl rfl ?_; intro f h
      refine s_pure h (ru_val (.bool true) (ru_eql (h.ev rfl) (h.ev rfl)) (congrArg Value.bool (decide_eq_true (hk)))) rfl ?_; intro f h
      refine s_pure h (ru_move (h.ev rfl)) rfl ?_; intro f h
      refine s_on h rfl rfl rfl ?_
      refine s_pure h (ru_field fld26_2 (h.ev rfl)) rfl ?_; intro f h
      refine s_on h rfl rfl rfl ?_
      refine s_load_at1 (cell_of_has (Has.of_own s 0 rfl) 33 (eArr_host _)) h one3 rfl rfl ?_; intro f h
      refine s_on h rfl rfl rfl ?_
      refine s_pure h (ru_val (.bool true) (ru_eql (h.ev rfl) (h.ev rfl)) (congrArg Value.bool hh)) rfl ?_; intro f h
      refine s_pure h (ru_pick_t (h.ev rfl) (h.ev rfl)) rfl ?_; intro f h
      refine s_pure h (ru_move (h.ev rfl)) rfl ?_; intro f h
      refine s_off (b := false) h rfl rfl rfl rfl ?_; intro f h
      refine s_off (b := false) h rfl rfl rfl rfl ?_; intro f h
      refine s_off (b := false) h rfl rfl rfl rfl ?_; intro f h
      refine s_off (b := false) h rfl rfl rfl rfl ?_; intro f h
      refine s_none h rfl rfl rfl rfl ?_; intro f h
      refine s_off (b := false) h rfl rfl rfl rfl ?_; intro f h
      refine s_off (b := false) h rfl rfl rfl rfl ?_; intro f h
      refine s_none h rfl rfl rfl rfl ?_; intro f h
      refine s_none h rfl rfl rfl rfl ?_; intro f h
      refine s_none h rfl rfl rfl rfl ?_; intro f h
      refine s_off (b := false) h rfl rfl rfl rfl ?_; intro f h
      refine s_off (b := false) h rfl rfl rfl rfl ?_; intro f h
      refine s_none h rfl rfl rfl rfl ?_; intro f h
      refine s_none h rfl rfl rfl rfl ?_; intro f h
      refine s_none h rfl rfl rfl rfl ?_; intro f h
      refine s_off (b := false) h rfl rfl rfl rfl ?_; intro f h
      refine s_pure h (ru_pick_t (h.ev rfl) (h.ev rfl)) rfl ?_; intro f h
      refine s_pure h (ru_assign (h.ev rfl)) rfl ?_; intro f h
      refine s_nil ?_
      refine hK9 _ _ ?_
      refine wpIn_ret ?_
      exact e_tmp rfl h s rfl (by show _ = _; rw [isE_one _ hk, hh])

theorem ris_two (e : Ent) (hk : e.1 ≠ 1) (w : World) : Calls Try.prog 11 [.agg (eArr e)].toArray w (Ret w (is (.bool (isE e)))) := by
  refine c_enter Try.func11 rfl Try.ntmps11 rfl [(0, .agg (eArr e))] (by simp) fun f h => ?_
  have s := St.start w
  refine c_seq fun K1 hK1 => ?_
  refine c_region ?_
  refine s_box ((eArr e)) h s rfl rfl rfl ?_; intro f w1 b1 h s
  refine s_pure h (ru_assign (h.ev rfl)) rfl ?_; intro f h
  refine s_nil ?_
  refine hK1 _ _ ?_
  refine c_seq fun K2 hK2 => ?_
  refine c_region ?_
  refine s_pure h (ru_assign (h.ev rfl)) rfl ?_; intro f h
  refine s_nil ?_
  refine hK2 _ _ ?_
  refine c_seq fun K3 hK3 => ?_
  refine c_seq fun K4 hK4 => ?_
  refine c_region ?_
  refine s_pure h (ru_field fld26_1 (h.ev rfl)) rfl ?_; intro f h
  refine s_load_at (Has.subL (Has.of_own s 0 rfl) 1 32 (D := idArr (_)) (eArr_id _)) h row24 rfl (by first | exact idArr_size _ | exact bytesF_size _ _) rfl ?_; intro f h
  refine s_pure h (ru_move (h.ev rfl)) rfl ?_; intro f h
  refine s_nil ?_
  refine hK4 _ _ ?_
  refine wpIn_block ?_
  refine wpIn_loop_ghost (fun nn aa ww => ∃ k : Nat, Sl 43 aa [(0, .agg (eArr e)), (1, .pointer (some ⟨b1, 0, none⟩)), (3, .bool (zB e.2.1 k)), (7, .agg (idArr e.2.1)), (8, .int .i64 (k : Int))] ∧ St w [.blk b1 (.cells (eArr e) 26)] ww ∧ nn = 32 - k ∧ k ≤ 32) (32 - (0)) ⟨0, h.only ⟨rfl, rfl, rfl, rfl, slot_int rfl (by omega), trivial⟩, s.as ⟨rfl, trivial⟩, rfl, Nat.zero_le _⟩ ?_
  rintro _ f w1 ⟨k, h, s, hnn, hp0⟩
  refine c_seq fun K5 hK5 => ?_
  refine c_region ?_
  refine s_pure h (ru_lss (h.ev rfl) (h.ev rfl)) rfl ?_; intro f h
  refine s_nil ?_
  refine hK5 _ _ ?_
  refine c_seq fun K6 hK6 => ?_
  refine c_cond h rfl (fun hc => ?_) (fun hc => ?_)
  · replace hc := of_decide_eq_true hc
    refine wpIn_skip ?_
    refine hK6 _ _ ?_
    refine c_seq fun K7 hK7 => ?_
    refine wpIn_block ?_
    refine c_seq fun K8 hK8 => ?_
    refine c_region ?_
    refine s_pure h (ru_index_id idTy (k) (h.ev rfl) (h.ev rfl) (by omega) (by omega)) rfl ?_; intro f h
    refine s_pure h (ru_assign (h.ev rfl)) rfl ?_; intro f h
    refine s_nil ?_
    refine hK8 _ _ ?_
    cases hz : (zB e.2.1 k : Bool)
    · skip
      refine c_region ?_
      refine s_pure h (ru_move (h.ev rfl)) rfl ?_; intro f h
      refine s_pure h (ru_val (.bool false) (ru_move (h.ev rfl)) (congrArg Value.bool hz)) rfl ?_; intro f h
      refine s_off (b := true) h rfl rfl rfl rfl ?_; intro f h
      refine s_off (b := true) h rfl rfl rfl rfl ?_; intro f h
      refine s_pure h (ru_pick_f (h.ev rfl) (h.ev rfl)) rfl ?_; intro f h
      refine s_pure h (ru_assign (h.ev rfl)) rfl ?_; intro f h
      refine s_nil ?_
      refine b_norm ?_
      refine hK7 _ _ ?_
      refine c_region ?_
      refine s_pure h (ru_add (h.ev rfl) (h.ev rfl) (by omega)) rfl ?_; intro f h
      refine s_pure h (ru_move (h.ev rfl)) rfl ?_; intro f h
      refine s_nil ?_
      refine t_norm ?_
      exact ⟨_, by omega, ⟨k + 1, h.only ⟨rfl, rfl, slot_bool rfl (by rw [zB_succ, hz]; rfl), rfl, slot_int rfl (by omega), trivial⟩, St.as s ⟨rfl, trivial⟩, rfl, by omega⟩⟩
    · skip
      refine c_region ?_
      refine s_pure h (ru_move (h.ev rfl)) rfl ?_; intro f h
      refine s_pure h (ru_val (.bool true) (ru_move (h.ev rfl)) (congrArg Value.bool hz)) rfl ?_; intro f h
      refine s_on h rfl rfl rfl ?_
      refine s_pure h (ru_move (h.ev rfl)) rfl ?_; intro f h
      refine s_on h rfl rfl rfl ?_
      refine s_pure h (ru_eql (h.ev rfl) (h.ev rfl)) rfl ?_; intro f h
      refine s_pure h (ru_pick_t (h.ev rfl) (h.ev rfl)) rfl ?_; intro f h
      refine s_pure h (ru_assign (h.ev rfl)) rfl ?_; intro f h
      refine s_nil ?_
      refine b_norm ?_
      refine hK7 _ _ ?_
      refine c_region ?_
      refine s_pure h (ru_add (h.ev rfl) (h.ev rfl) (by omega)) rfl ?_; intro f h
      refine s_pure h (ru_move (h.ev rfl)) rfl ?_; intro f h
      refine s_nil ?_
      refine t_norm ?_
      exact ⟨_, by omega, ⟨k + 1, h.only ⟨rfl, rfl, slot_bool rfl (by rw [zB_succ, hz]; simp), rfl, slot_int rfl (by omega), trivial⟩, St.as s ⟨rfl, trivial⟩, rfl, by omega⟩⟩
  · replace hc := of_decide_eq_false hc
    refine wpIn_exit ?_
    refine t_exit ?_
    refine t_exit ?_
    refine b_exit ?_
    refine hK3 _ _ ?_
    refine c_seq fun K9 hK9 => ?_
    cases h2 : (decide (e.1 = 2) : Bool)
    · skip
      refine c_region ?_
      refine s_pure h (ru_field fld26_0 (h.ev rfl)) rfl ?_; intro f h
      refine s_load_at1 (cell_of_has (Has.of_own s 0 rfl) 0 (eArr_kind _)) h one3 rfl rfl ?_; intro f h
      refine s_pure h (ru_val (.bool false) (ru_eql (h.ev rfl) (h.ev rfl)) (congrArg Value.bool (decide_eq_false (hk)))) rfl ?_; intro f h
      refine s_pure h (ru_move (h.ev rfl)) rfl ?_; intro f h
      refine s_off (b := true) h rfl rfl rfl rfl ?_; intro f h
      refine s_off (b := true) h rfl rfl rfl rfl ?_; intro f h
      refine s_off (b := true) h rfl rfl rfl rfl ?_; intro f h
      refine s_pure h (ru_pick_f (h.ev rfl) (h.ev rfl)) rfl ?_; intro f h
      refine s_pure h (ru_move (h.ev rfl)) rfl ?_; intro f h
      refine s_on h rfl rfl rfl ?_
      refine s_pure h (ru_field fld26_0 (h.ev rfl)) rfl ?_; intro f h
      refine s_on h rfl rfl rfl ?_
      refine s_load_at1 (cell_of_has (Has.of_own s 0 rfl) 0 (eArr_kind _)) h one3 rfl rfl ?_; intro f h
      refine s_on h rfl rfl rfl ?_
      refine s_pure h (ru_val (.bool false) (ru_eql (h.ev rfl) (h.ev rfl)) (congrArg Value.bool h2)) rfl ?_; intro f h
      refine s_on h rfl rfl rfl ?_
      refine s_pure h (ru_move (h.ev rfl)) rfl ?_; intro f h
      refine s_off (b := true) h rfl rfl rfl rfl ?_; intro f h
      refine s_on h rfl rfl rfl ?_
      refine s_pure h (ru_pick_f (h.ev rfl) (h.ev rfl)) rfl ?_; intro f h
      refine s_on h rfl rfl rfl ?_
      refine s_pure h (ru_move (h.ev rfl)) rfl ?_; intro f h
      refine s_off (b := true) h rfl rfl rfl rfl ?_; intro f h
      refine s_off (b := true) h rfl rfl rfl rfl ?_; intro f h
      refine s_off (b := true) h rfl rfl rfl rfl ?_; intro f h
      refine s_on h rfl rfl rfl ?_
      refine s_pure h (ru_pick_f (h.ev rfl) (h.ev rfl)) rfl ?_; intro f h
      refine s_on h rfl rfl rfl ?_
      refine s_pure h (ru_move (h.ev rfl)) rfl ?_; intro f h
      refine s_off (b := true) h rfl rfl rfl rfl ?_; intro f h
      refine s_off (b := true) h rfl rfl rfl rfl ?_; intro f h
      refine s_off (b := true) h rfl rfl rfl rfl ?_; intro f h
      refine s_on h rfl rfl rfl ?_
      refine s_pure h (ru_pick_f (h.ev rfl) (h.ev rfl)) rfl ?_; intro f h
      refine s_pure h (ru_pick_f (h.ev rfl) (h.ev rfl)) rfl ?_; intro f h
      refine s_pure h (ru_assign (h.ev rfl)) rfl ?_; intro f h
      refine s_nil ?_
      refine hK9 _ _ ?_
      refine wpIn_ret ?_
      obtain rfl : k = 32 := by omega
      exact e_tmp rfl h s rfl (by show _ = _; rw [isE_none _ hk (of_decide_eq_false h2)])
    · skip
      cases hz : (zB e.2.1 k : Bool)
      · skip
        refine c_region ?_
        refine s_pure h (ru_field fld26_0 (h.ev rfl)) rfl ?_; intro f h
        refine s_load_at1 (cell_of_has (Has.of_own s 0 rfl) 0 (eArr_kind _)) h one3 rfl rfl ?_; intro f h
        refine s_pure h (ru_val (.bool false) (ru_eql (h.ev rfl) (h.ev rfl)) (congrArg Value.bool (decide_eq_false (hk)))) rfl ?_; intro f h
        refine s_pure h (ru_move (h.ev rfl)) rfl ?_; intro f h
        refine s_off (b := true) h rfl rfl rfl rfl ?_; intro f h
        refine s_off (b := true) h rfl rfl rfl rfl ?_; intro f h
        refine s_off (b := true) h rfl rfl rfl rfl ?_; intro f h
        refine s_pure h (ru_pick_f (h.ev rfl) (h.ev rfl)) rfl ?_; intro f h
        refine s_pure h (ru_move (h.ev rfl)) rfl ?_; intro f h
        refine s_on h rfl rfl rfl ?_
        refine s_pure h (ru_field fld26_0 (h.ev rfl)) rfl ?_; intro f h
        refine s_on h rfl rfl rfl ?_
        refine s_load_at1 (cell_of_has (Has.of_own s 0 rfl) 0 (eArr_kind _)) h one3 rfl rfl ?_; intro f h
        refine s_on h rfl rfl rfl ?_
        refine s_pure h (ru_val (.bool true) (ru_eql (h.ev rfl) (h.ev rfl)) (congrArg Value.bool h2)) rfl ?_; intro f h
        refine s_on h rfl rfl rfl ?_
        refine s_pure h (ru_move (h.ev rfl)) rfl ?_; intro f h
        refine s_on h rfl rfl rfl ?_
        refine s_pure h (ru_val (.bool false) (ru_move (h.ev rfl)) (congrArg Value.bool hz)) rfl ?_; intro f h
        refine s_on h rfl rfl rfl ?_
        refine s_pure h (ru_pick_t (h.ev rfl) (h.ev rfl)) rfl ?_; intro f h
        refine s_on h rfl rfl rfl ?_
        refine s_pure h (ru_move (h.ev rfl)) rfl ?_; intro f h
        refine s_off (b := true) h rfl rfl rfl rfl ?_; intro f h
        refine s_off (b := true) h rfl rfl rfl rfl ?_; intro f h
        refine s_off (b := true) h rfl rfl rfl rfl ?_; intro f h
        refine s_on h rfl rfl rfl ?_
        refine s_pure h (ru_pick_f (h.ev rfl) (h.ev rfl)) rfl ?_; intro f h
        refine s_on h rfl rfl rfl ?_
        refine s_pure h (ru_move (h.ev rfl)) rfl ?_; intro f h
        refine s_off (b := true) h rfl rfl rfl rfl ?_; intro f h
        refine s_off (b := true) h rfl rfl rfl rfl ?_; intro f h
        refine s_off (b := true) h rfl rfl rfl rfl ?_; intro f h
        refine s_on h rfl rfl rfl ?_
        refine s_pure h (ru_pick_f (h.ev rfl) (h.ev rfl)) rfl ?_; intro f h
        refine s_pure h (ru_pick_f (h.ev rfl) (h.ev rfl)) rfl ?_; intro f h
        refine s_pure h (ru_assign (h.ev rfl)) rfl ?_; intro f h
        refine s_nil ?_
        refine hK9 _ _ ?_
        refine wpIn_ret ?_
        obtain rfl : k = 32 := by omega
        exact e_tmp rfl h s rfl (by show _ = _; rw [isE_two _ (of_decide_eq_true h2), ← zB_end, hz]; rfl)
      · skip
        cases hg : (decide (0 ≤ e.2.2) : Bool)
        · skip
          refine c_region ?_
          refine s_pure h (ru_field fld26_0 (h.ev rfl)) rfl ?_; intro f h
          refine s_load_at1 (cell_of_has (Has.of_own s 0 rfl) 0 (eArr_kind _)) h one3 rfl rfl ?_; intro f h
          refine s_pure h (ru_val (.bool false) (ru_eql (h.ev rfl) (h.ev rfl)) (congrArg Value.bool (decide_eq_false (hk)))) rfl ?_; intro f h
          refine s_pure h (ru_move (h.ev rfl)) rfl ?_; intro f h
          refine s_off (b := true) h rfl rfl rfl rfl ?_; intro f h
          refine s_off (b := true) h rfl rfl rfl rfl ?_; intro f h
          refine s_off (b := true) h rfl rfl rfl rfl ?_; intro f h
          refine s_pure h (ru_pick_f (h.ev rfl) (h.ev rfl)) rfl ?_; intro f h
          refine s_pure h (ru_move (h.ev rfl)) rfl ?_; intro f h
          refine s_on h rfl rfl rfl ?_
          refine s_pure h (ru_field fld26_0 (h.ev rfl)) rfl ?_; intro f h
          refine s_on h rfl rfl rfl ?_
          refine s_load_at1 (cell_of_has (Has.of_own s 0 rfl) 0 (eArr_kind _)) h one3 rfl rfl ?_; intro f h
          refine s_on h rfl rfl rfl ?_
          refine s_pure h (ru_val (.bool true) (ru_eql (h.ev rfl) (h.ev rfl)) (congrArg Value.bool h2)) rfl ?_; intro f h
          refine s_on h rfl rfl rfl ?_
          refine s_pure h (ru_move (h.ev rfl)) rfl ?_; intro f h
          refine s_on h rfl rfl rfl ?_
          refine s_pure h (ru_val (.bool true) (ru_move (h.ev rfl)) (congrArg Value.bool hz)) rfl ?_; intro f h
          refine s_on h rfl rfl rfl ?_
          refine s_pure h (ru_pick_t (h.ev rfl) (h.ev rfl)) rfl ?_; intro f h
          refine s_on h rfl rfl rfl ?_
          refine s_pure h (ru_move (h.ev rfl)) rfl ?_; intro f h
          refine s_on h rfl rfl rfl ?_
          refine s_pure h (ru_field fld26_2 (h.ev rfl)) rfl ?_; intro f h
          refine s_on h rfl rfl rfl ?_
          refine s_load_at1 (cell_of_has (Has.of_own s 0 rfl) 33 (eArr_host _)) h one3 rfl rfl ?_; intro f h
          refine s_on h rfl rfl rfl ?_
          refine s_pure h (ru_val (.bool false) (ru_geq (h.ev rfl) (h.ev rfl)) (congrArg Value.bool hg)) rfl ?_; intro f h
          refine s_on h rfl rfl rfl ?_
          refine s_pure h (ru_pick_t (h.ev rfl) (h.ev rfl)) rfl ?_; intro f h
          refine s_on h rfl rfl rfl ?_
          refine s_pure h (ru_move (h.ev rfl)) rfl ?_; intro f h
          refine s_off (b := true) h rfl rfl rfl rfl ?_; intro f h
          refine s_off (b := true) h rfl rfl rfl rfl ?_; intro f h
          refine s_off (b := true) h rfl rfl rfl rfl ?_; intro f h
          refine s_on h rfl rfl rfl ?_
          refine s_pure h (ru_pick_f (h.ev rfl) (h.ev rfl)) rfl ?_; intro f h
          refine s_pure h (ru_pick_f (h.ev rfl) (h.ev rfl)) rfl ?_; intro f h
          refine s_pure h (ru_assign (h.ev rfl)) rfl ?_; intro f h
          refine s_nil ?_
          refine hK9 _ _ ?_
          refine wpIn_ret ?_
          obtain rfl : k = 32 := by omega
          exact e_tmp rfl h s rfl (by show _ = _; rw [isE_two _ (of_decide_eq_true h2), ← zB_end, hz, hg]; rfl)
        · skip
          refine c_region ?_
          refine s_pure h (ru_field fld26_0 (h.ev rfl)) rfl ?_; intro f h
          refine s_load_at1 (cell_of_has (Has.of_own s 0 rfl) 0 (eArr_kind _)) h one3 rfl rfl ?_; intro f h
          refine s_pure h (ru_val (.bool false) (ru_eql (h.ev rfl) (h.ev rfl)) (congrArg Value.bool (decide_eq_false (hk)))) rfl ?_; intro f h
          refine s_pure h (ru_move (h.ev rfl)) rfl ?_; intro f h
          refine s_off (b := true) h rfl rfl rfl rfl ?_; intro f h
          refine s_off (b := true) h rfl rfl rfl rfl ?_; intro f h
          refine s_off (b := true) h rfl rfl rfl rfl ?_; intro f h
          refine s_pure h (ru_pick_f (h.ev rfl) (h.ev rfl)) rfl ?_; intro f h
          refine s_pure h (ru_move (h.ev rfl)) rfl ?_; intro f h
          refine s_on h rfl rfl rfl ?_
          refine s_pure h (ru_field fld26_0 (h.ev rfl)) rfl ?_; intro f h
          refine s_on h rfl rfl rfl ?_
          refine s_load_at1 (cell_of_has (Has.of_own s 0 rfl) 0 (eArr_kind _)) h one3 rfl rfl ?_; intro f h
          refine s_on h rfl rfl rfl ?_
          refine s_pure h (ru_val (.bool true) (ru_eql (h.ev rfl) (h.ev rfl)) (congrArg Value.bool h2)) rfl ?_; intro f h
          refine s_on h rfl rfl rfl ?_
          refine s_pure h (ru_move (h.ev rfl)) rfl ?_; intro f h
          refine s_on h rfl rfl rfl ?_
          refine s_pure h (ru_val (.bool true) (ru_move (h.ev rfl)) (congrArg Value.bool hz)) rfl ?_; intro f h
          refine s_on h rfl rfl rfl ?_
          refine s_pure h (ru_pick_t (h.ev rfl) (h.ev rfl)) rfl ?_; intro f h
          refine s_on h rfl rfl rfl ?_
          refine s_pure h (ru_move (h.ev rfl)) rfl ?_; intro f h
          refine s_on h rfl rfl rfl ?_
          refine s_pure h (ru_field fld26_2 (h.ev rfl)) rfl ?_; intro f h
          refine s_on h rfl rfl rfl ?_
          refine s_load_at1 (cell_of_has (Has.of_own s 0 rfl) 33 (eArr_host _)) h one3 rfl rfl ?_; intro f h
          refine s_on h rfl rfl rfl ?_
          refine s_pure h (ru_val (.bool true) (ru_geq (h.ev rfl) (h.ev rfl)) (congrArg Value.bool hg)) rfl ?_; intro f h
          refine s_on h rfl rfl rfl ?_
          refine s_pure h (ru_pick_t (h.ev rfl) (h.ev rfl)) rfl ?_; intro f h
          refine s_on h rfl rfl rfl ?_
          refine s_pure h (ru_move (h.ev rfl)) rfl ?_; intro f h
          refine s_on h rfl rfl rfl ?_
          refine s_pure h (ru_field fld26_2 (h.ev rfl)) rfl ?_; intro f h
          refine s_on h rfl rfl rfl ?_
          refine s_load_at1 (cell_of_has (Has.of_own s 0 rfl) 33 (eArr_host _)) h one3 rfl rfl ?_; intro f h
          refine s_on h rfl rfl rfl ?_
          refine s_pure h (ru_leq (h.ev rfl) (h.ev rfl)) rfl ?_; intro f h
          refine s_on h rfl rfl rfl ?_
          refine s_pure h (ru_pick_t (h.ev rfl) (h.ev rfl)) rfl ?_; intro f h
          refine s_pure h (ru_pick_f (h.ev rfl) (h.ev rfl)) rfl ?_; intro f h
          refine s_pure h (ru_assign (h.ev rfl)) rfl ?_; intro f h
          refine s_nil ?_
          refine hK9 _ _ ?_
          refine wpIn_ret ?_
          obtain rfl : k = 32 := by omega
          exact e_tmp rfl h s rfl (by show _ = _; rw [isE_two _ (of_decide_eq_true h2), ← zB_end, hz, hg]; simp; omega)

theorem ris_any (e : Ent) (w : World) : Calls Try.prog 11 [.agg (eArr e)].toArray w (Ret w (is (.bool (isE e)))) := by
  by_cases h : e.1 = 1
  · exact ris_one e h w
  · exact ris_two e h w

theorem all_any (l : List Ent) (vh : Value) (w : World) (hv : RdZ w vh 34 l.length (eCells l)) (hln : l.length ≤ 1000000) : Calls Try.prog 22 [vh].toArray w (Ret w (is (.bool (l.all isE)))) := by
  refine c_enter Try.func22 rfl Try.ntmps22 rfl [(0, vh)] (by simp) fun f h => ?_
  have s := St.start w
  refine c_seq fun K1 hK1 => ?_
  refine c_region ?_
  refine s_pure h (ru_assign (h.ev rfl)) rfl ?_; intro f h
  refine s_nil ?_
  refine hK1 _ _ ?_
  refine c_seq fun K2 hK2 => ?_
  refine c_seq fun K3 hK3 => ?_
  refine c_region ?_
  refine s_pure h (ru_move (h.ev rfl)) rfl ?_; intro f h
  refine s_pure h (ru_lenZ (hv.keep s.ext) Try.underlying22 (h.ev rfl)) rfl ?_; intro f h
  refine s_pure h (ru_move (h.ev rfl)) rfl ?_; intro f h
  refine s_nil ?_
  refine hK3 _ _ ?_
  refine wpIn_block ?_
  refine wpIn_loop_ghost (fun nn aa ww => ∃ k : Nat, Sl 15 aa [(0, vh), (5, vh), (6, .int .i64 (l.length : Int)), (7, .int .i64 (k : Int))] ∧ St w [] ww ∧ nn = l.length - k ∧ k ≤ l.length ∧ ∀ i (hi : i < l.length), i < k → isE l[i] = true) (l.length - (0)) ⟨0, h.only ⟨rfl, rfl, rfl, slot_int rfl (by omega), trivial⟩, s.as trivial, rfl, Nat.zero_le _, fun i hi h9 => absurd h9 (Nat.not_lt_zero _)⟩ ?_
  rintro _ f w1 ⟨k, h, s, hnn, hp0, hp1⟩
  refine c_seq fun K4 hK4 => ?_
  refine c_region ?_
  refine s_pure h (ru_lss (h.ev rfl) (h.ev rfl)) rfl ?_; intro f h
  refine s_nil ?_
  refine hK4 _ _ ?_
  refine c_seq fun K5 hK5 => ?_
  refine c_cond h rfl (fun hc => ?_) (fun hc => ?_)
  · replace hc := of_decide_eq_true hc
    refine wpIn_skip ?_
    refine hK5 _ _ ?_
    refine c_seq fun K6 hK6 => ?_
    refine wpIn_block ?_
    refine c_seq fun K7 hK7 => ?_
    refine c_region ?_
    have hkl : k < l.length := by omega
    refine s_pure h (ru_ixz (hv.keep s.ext) (k) Try.underlying22 szo26 (h.ev rfl) (h.ev rfl) (by omega) (by omega)) rfl ?_; intro f h
    refine s_load_at ((hv.keep s.ext).el (k) (by omega) (by decide) (D := eArr l[k]) (e_el l k hkl)) h row26 rfl (eArr_size _) rfl ?_; intro f h
    refine s_alloc (eArr (0, 0#256, 0)) h s zero26 rfl rfl ?_; intro f w1 b4 h s
    refine s_store_row 0 h s row26 rfl rfl rfl (eArr_size _) (eArr_size _) (eArr_ones _) ?_; intro w1 s
    refine s_nil ?_
    refine hK7 _ _ ?_
    refine c_seq fun K8 hK8 => ?_
    refine c_region ?_
    refine s_load_row 0 h s row26 rfl rfl (eArr_size _) rfl ?_; intro f h
    refine s_call h s fnc10 (is_any _ _) rfl rfl ?_; intro f w1 v9 hT hE h s; obtain rfl := hT
    refine s_pure h (ru_not (h.ev rfl)) rfl ?_; intro f h
    refine s_nil ?_
    refine hK8 _ _ ?_
    refine c_cond h rfl (fun hc => ?_) (fun hc => ?_)
    · refine c_seq fun K9 hK9 => ?_
      refine c_region ?_
      refine s_pure h (ru_assign (h.ev rfl)) rfl ?_; intro f h
      refine s_nil ?_
      refine hK9 _ _ ?_
      refine wpIn_ret ?_
      refine b_ret ?_
      refine t_ret ?_
      refine t_ret ?_
      refine b_ret ?_
      refine t_ret ?_
      exact e_tmp rfl h s rfl (congrArg Value.bool (all_no hkl hc))
    · refine wpIn_skip ?_
      refine b_norm ?_
      refine hK6 _ _ ?_
      refine c_region ?_
      refine s_pure h (ru_add (h.ev rfl) (h.ev rfl) (by omega)) rfl ?_; intro f h
      refine s_pure h (ru_move (h.ev rfl)) rfl ?_; intro f h
      refine s_nil ?_
      refine t_norm ?_
      exact ⟨_, by omega, ⟨k + 1, h.only ⟨rfl, rfl, rfl, slot_int rfl (by omega), trivial⟩, St.as (s.pick _ (List.sublist_append_right [_] _)) trivial, rfl, by omega, all_next (fun y => isE y = true) hp1 hkl (by simpa using hc)⟩⟩
  · replace hc := of_decide_eq_false hc
    refine wpIn_exit ?_
    refine t_exit ?_
    refine t_exit ?_
    refine b_exit ?_
    refine hK2 _ _ ?_
    refine c_seq fun K10 hK10 => ?_
    refine c_region ?_
    refine s_pure h (ru_assign (h.ev rfl)) rfl ?_; intro f h
    refine s_nil ?_
    refine hK10 _ _ ?_
    refine wpIn_ret ?_
    exact e_tmp rfl h s rfl (congrArg Value.bool (all_yes (by omega) hp1))

theorem rall_any (l : List Ent) (vh : Value) (w : World) (hv : RdZ w vh 34 l.length (eCells l)) (hln : l.length ≤ 1000000) : Calls Try.prog 21 [vh].toArray w (Ret w (is (.bool (l.all isE)))) := by
  refine c_enter Try.func21 rfl Try.ntmps21 rfl [(0, vh)] (by simp) fun f h => ?_
  have s := St.start w
  refine c_seq fun K1 hK1 => ?_
  refine c_region ?_
  refine s_pure h (ru_assign (h.ev rfl)) rfl ?_; intro f h
  refine s_nil ?_
  refine hK1 _ _ ?_
  refine c_seq fun K2 hK2 => ?_
  refine c_seq fun K3 hK3 => ?_
  refine c_region ?_
  refine s_pure h (ru_move (h.ev rfl)) rfl ?_; intro f h
  refine s_pure h (ru_lenZ (hv.keep s.ext) Try.underlying22 (h.ev rfl)) rfl ?_; intro f h
  refine s_pure h (ru_move (h.ev rfl)) rfl ?_; intro f h
  refine s_nil ?_
  refine hK3 _ _ ?_
  refine wpIn_block ?_
  refine wpIn_loop_ghost (fun nn aa ww => ∃ k : Nat, Sl 15 aa [(0, vh), (5, vh), (6, .int .i64 (l.length : Int)), (7, .int .i64 (k : Int))] ∧ St w [] ww ∧ nn = l.length - k ∧ k ≤ l.length ∧ ∀ i (hi : i < l.length), i < k → isE l[i] = true) (l.length - (0)) ⟨0, h.only ⟨rfl, rfl, rfl, slot_int rfl (by omega), trivial⟩, s.as trivial, rfl, Nat.zero_le _, fun i hi h9 => absurd h9 (Nat.not_lt_zero _)⟩ ?_
  rintro _ f w1 ⟨k, h, s, hnn, hp0, hp1⟩
  refine c_seq fun K4 hK4 => ?_
  refine c_region ?_
  refine s_pure h (ru_lss (h.ev rfl) (h.ev rfl)) rfl ?_; intro f h
  refine s_nil ?_
  refine hK4 _ _ ?_
  refine c_seq fun K5 hK5 => ?_
  refine c_cond h rfl (fun hc => ?_) (fun hc => ?_)
  · replace hc := of_decide_eq_true hc
    refine wpIn_skip ?_
    refine hK5 _ _ ?_
    refine c_seq fun K6 hK6 => ?_
    refine wpIn_block ?_
    refine c_seq fun K7 hK7 => ?_
    refine c_region ?_
    have hkl : k < l.length := by omega
    refine s_pure h (ru_ixz (hv.keep s.ext) (k) Try.underlying22 szo26 (h.ev rfl) (h.ev rfl) (by omega) (by omega)) rfl ?_; intro f h
    refine s_load_at ((hv.keep s.ext).el (k) (by omega) (by decide) (D := eArr l[k]) (e_el l k hkl)) h row26 rfl (eArr_size _) rfl ?_; intro f h
    refine s_alloc (eArr (0, 0#256, 0)) h s zero26 rfl rfl ?_; intro f w1 b4 h s
    refine s_store_row 0 h s row26 rfl rfl rfl (eArr_size _) (eArr_size _) (eArr_ones _) ?_; intro w1 s
    refine s_nil ?_
    refine hK7 _ _ ?_
    refine c_seq fun K8 hK8 => ?_
    refine c_region ?_
    refine s_load_row 0 h s row26 rfl rfl (eArr_size _) rfl ?_; intro f h
    refine s_call h s fnc11 (ris_any _ _) rfl rfl ?_; intro f w1 v9 hT hE h s; obtain rfl := hT
    refine s_pure h (ru_not (h.ev rfl)) rfl ?_; intro f h
    refine s_nil ?_
    refine hK8 _ _ ?_
    refine c_cond h rfl (fun hc => ?_) (fun hc => ?_)
    · refine c_seq fun K9 hK9 => ?_
      refine c_region ?_
      refine s_pure h (ru_assign (h.ev rfl)) rfl ?_; intro f h
      refine s_nil ?_
      refine hK9 _ _ ?_
      refine wpIn_ret ?_
      refine b_ret ?_
      refine t_ret ?_
      refine t_ret ?_
      refine b_ret ?_
      refine t_ret ?_
      exact e_tmp rfl h s rfl (congrArg Value.bool (all_no hkl hc))
    · refine wpIn_skip ?_
      refine b_norm ?_
      refine hK6 _ _ ?_
      refine c_region ?_
      refine s_pure h (ru_add (h.ev rfl) (h.ev rfl) (by omega)) rfl ?_; intro f h
      refine s_pure h (ru_move (h.ev rfl)) rfl ?_; intro f h
      refine s_nil ?_
      refine t_norm ?_
      exact ⟨_, by omega, ⟨k + 1, h.only ⟨rfl, rfl, rfl, slot_int rfl (by omega), trivial⟩, St.as (s.pick _ (List.sublist_append_right [_] _)) trivial, rfl, by omega, all_next (fun y => isE y = true) hp1 hkl (by simpa using hc)⟩⟩
  · replace hc := of_decide_eq_false hc
    refine wpIn_exit ?_
    refine t_exit ?_
    refine t_exit ?_
    refine b_exit ?_
    refine hK2 _ _ ?_
    refine c_seq fun K10 hK10 => ?_
    refine c_region ?_
    refine s_pure h (ru_assign (h.ev rfl)) rfl ?_; intro f h
    refine s_nil ?_
    refine hK10 _ _ ?_
    refine wpIn_ret ?_
    exact e_tmp rfl h s rfl (congrArg Value.bool (all_yes (by omega) hp1))

theorem right_any (l : List Ent) (vh : Value) (w : World) (hv : RdZ w vh 34 l.length (eCells l)) (hln : l.length ≤ 1000000) : Calls Try.prog 12 [vh].toArray w (Ret w (is (.bool (rightE l)))) := by
  refine c_enter Try.func12 rfl Try.ntmps12 rfl [(0, vh)] (by simp) fun f h => ?_
  have s := St.start w
  refine c_seq fun K1 hK1 => ?_
  refine c_region ?_
  refine s_pure h (ru_assign (h.ev rfl)) rfl ?_; intro f h
  refine s_nil ?_
  refine hK1 _ _ ?_
  refine c_seq fun K2 hK2 => ?_
  cases h1 : (decide (0 < l.length) : Bool)
  · skip
    refine c_region ?_
    refine s_pure h (ru_move (h.ev rfl)) rfl ?_; intro f h
    refine s_pure h (ru_lenZ (hv.keep s.ext) Try.underlying22 (h.ev rfl)) rfl ?_; intro f h
    refine s_pure h (ru_val (.bool false) (ru_gtr (h.ev rfl) (h.ev rfl)) (congrArg Value.bool ((decide_eq_decide.2 (by omega)).trans h1))) rfl ?_; intro f h
    refine s_pure h (ru_move (h.ev rfl)) rfl ?_; intro f h
    refine s_off (b := true) h rfl rfl rfl rfl ?_; intro f h
    refine s_off (b := true) h rfl rfl rfl rfl ?_; intro f h
    refine s_off (b := true) h rfl rfl rfl rfl ?_; intro f h
    refine s_pure h (ru_pick_f (h.ev rfl) (h.ev rfl)) rfl ?_; intro f h
    refine s_pure h (ru_move (h.ev rfl)) rfl ?_; intro f h
    refine s_off (b := true) h rfl rfl rfl rfl ?_; intro f h
    refine s_off (b := true) h rfl rfl rfl rfl ?_; intro f h
    refine s_pure h (ru_pick_f (h.ev rfl) (h.ev rfl)) rfl ?_; intro f h
    refine s_pure h (ru_assign (h.ev rfl)) rfl ?_; intro f h
    refine s_nil ?_
    refine hK2 _ _ ?_
    refine wpIn_ret ?_
    exact e_tmp rfl h s rfl (by show _ = _; unfold rightE; rw [h1]; rfl)
  · skip
    cases h2 : (decide (l.length ≤ 4) : Bool)
    · skip
      refine c_region ?_
      refine s_pure h (ru_move (h.ev rfl)) rfl ?_; intro f h
      refine s_pure h (ru_lenZ (hv.keep s.ext) Try.underlying22 (h.ev rfl)) rfl ?_; intro f h
      refine s_pure h (ru_val (.bool true) (ru_gtr (h.ev rfl) (h.ev rfl)) (congrArg Value.bool ((decide_eq_decide.2 (by omega)).trans h1))) rfl ?_; intro f h
      refine s_pure h (ru_move (h.ev rfl)) rfl ?_; intro f h
      refine s_on h rfl rfl rfl ?_
      refine s_pure h (ru_move (h.ev rfl)) rfl ?_; intro f h
      refine s_on h rfl rfl rfl ?_
      refine s_pure h (ru_lenZ (hv.keep s.ext) Try.underlying22 (h.ev rfl)) rfl ?_; intro f h
      refine s_on h rfl rfl rfl ?_
      refine s_pure h (ru_val (.bool false) (ru_leq (h.ev rfl) (h.ev rfl)) (congrArg Value.bool ((decide_eq_decide.2 (by omega)).trans h2))) rfl ?_; intro f h
      refine s_pure h (ru_pick_t (h.ev rfl) (h.ev rfl)) rfl ?_; intro f h
      refine s_pure h (ru_move (h.ev rfl)) rfl ?_; intro f h
      refine s_off (b := true) h rfl rfl rfl rfl ?_; intro f h
      refine s_off (b := true) h rfl rfl rfl rfl ?_; intro f h
      refine s_pure h (ru_pick_f (h.ev rfl) (h.ev rfl)) rfl ?_; intro f h
      refine s_pure h (ru_assign (h.ev rfl)) rfl ?_; intro f h
      refine s_nil ?_
      refine hK2 _ _ ?_
      refine wpIn_ret ?_
      exact e_tmp rfl h s rfl (by show _ = _; unfold rightE; rw [h1, h2]; rfl)
    · skip
      refine c_region ?_
      refine s_pure h (ru_move (h.ev rfl)) rfl ?_; intro f h
      refine s_pure h (ru_lenZ (hv.keep s.ext) Try.underlying22 (h.ev rfl)) rfl ?_; intro f h
      refine s_pure h (ru_val (.bool true) (ru_gtr (h.ev rfl) (h.ev rfl)) (congrArg Value.bool ((decide_eq_decide.2 (by omega)).trans h1))) rfl ?_; intro f h
      refine s_pure h (ru_move (h.ev rfl)) rfl ?_; intro f h
      refine s_on h rfl rfl rfl ?_
      refine s_pure h (ru_move (h.ev rfl)) rfl ?_; intro f h
      refine s_on h rfl rfl rfl ?_
      refine s_pure h (ru_lenZ (hv.keep s.ext) Try.underlying22 (h.ev rfl)) rfl ?_; intro f h
      refine s_on h rfl rfl rfl ?_
      refine s_pure h (ru_val (.bool true) (ru_leq (h.ev rfl) (h.ev rfl)) (congrArg Value.bool ((decide_eq_decide.2 (by omega)).trans h2))) rfl ?_; intro f h
      refine s_pure h (ru_pick_t (h.ev rfl) (h.ev rfl)) rfl ?_; intro f h
      refine s_pure h (ru_move (h.ev rfl)) rfl ?_; intro f h
      refine s_on h rfl rfl rfl ?_
      refine s_pure h (ru_move (h.ev rfl)) rfl ?_; intro f h
      refine s_on h rfl rfl rfl ?_
      refine s_call h s fnc22 (all_any l vh _ (hv.keep s.ext) hln) rfl rfl ?_; intro f w1 v9 hT hE h s; obtain rfl := hT
      refine s_pure h (ru_pick_t (h.ev rfl) (h.ev rfl)) rfl ?_; intro f h
      refine s_pure h (ru_assign (h.ev rfl)) rfl ?_; intro f h
      refine s_nil ?_
      refine hK2 _ _ ?_
      refine wpIn_ret ?_
      exact e_tmp rfl h s rfl (by show _ = _; unfold rightE; rw [h1, h2]; rfl)

theorem rright_any (l : List Ent) (vh : Value) (w : World) (hv : RdZ w vh 34 l.length (eCells l)) (hln : l.length ≤ 1000000) : Calls Try.prog 13 [vh].toArray w (Ret w (is (.bool (rightE l)))) := by
  refine c_enter Try.func13 rfl Try.ntmps13 rfl [(0, vh)] (by simp) fun f h => ?_
  have s := St.start w
  refine c_seq fun K1 hK1 => ?_
  refine c_region ?_
  refine s_pure h (ru_assign (h.ev rfl)) rfl ?_; intro f h
  refine s_nil ?_
  refine hK1 _ _ ?_
  refine c_seq fun K2 hK2 => ?_
  cases h1 : (decide (0 < l.length) : Bool)
  · skip
    refine c_region ?_
    refine s_pure h (ru_move (h.ev rfl)) rfl ?_; intro f h
    refine s_pure h (ru_lenZ (hv.keep s.ext) Try.underlying22 (h.ev rfl)) rfl ?_; intro f h
    refine s_pure h (ru_val (.bool false) (ru_gtr (h.ev rfl) (h.ev rfl)) (congrArg Value.bool ((decide_eq_decide.2 (by omega)).trans h1))) rfl ?_; intro f h
    refine s_pure h (ru_move (h.ev rfl)) rfl ?_; intro f h
    refine s_off (b := true) h rfl rfl rfl rfl ?_; intro f h
    refine s_off (b := true) h rfl rfl rfl rfl ?_; intro f h
    refine s_off (b := true) h rfl rfl rfl rfl ?_; intro f h
    refine s_pure h (ru_pick_f (h.ev rfl) (h.ev rfl)) rfl ?_; intro f h
    refine s_pure h (ru_move (h.ev rfl)) rfl ?_; intro f h
    refine s_off (b := true) h rfl rfl rfl rfl ?_; intro f h
    refine s_off (b := true) h rfl rfl rfl rfl ?_; intro f h
    refine s_pure h (ru_pick_f (h.ev rfl) (h.ev rfl)) rfl ?_; intro f h
    refine s_pure h (ru_assign (h.ev rfl)) rfl ?_; intro f h
    refine s_nil ?_
    refine hK2 _ _ ?_
    refine wpIn_ret ?_
    exact e_tmp rfl h s rfl (by show _ = _; unfold rightE; rw [h1]; rfl)
  · skip
    cases h2 : (decide (l.length ≤ 4) : Bool)
    · skip
      refine c_region ?_
      refine s_pure h (ru_move (h.ev rfl)) rfl ?_; intro f h
      refine s_pure h (ru_lenZ (hv.keep s.ext) Try.underlying22 (h.ev rfl)) rfl ?_; intro f h
      refine s_pure h (ru_val (.bool true) (ru_gtr (h.ev rfl) (h.ev rfl)) (congrArg Value.bool ((decide_eq_decide.2 (by omega)).trans h1))) rfl ?_; intro f h
      refine s_pure h (ru_move (h.ev rfl)) rfl ?_; intro f h
      refine s_on h rfl rfl rfl ?_
      refine s_pure h (ru_move (h.ev rfl)) rfl ?_; intro f h
      refine s_on h rfl rfl rfl ?_
      refine s_pure h (ru_lenZ (hv.keep s.ext) Try.underlying22 (h.ev rfl)) rfl ?_; intro f h
      refine s_on h rfl rfl rfl ?_
      refine s_pure h (ru_val (.bool false) (ru_lss (h.ev rfl) (h.ev rfl)) (congrArg Value.bool ((decide_eq_decide.2 (by omega)).trans h2))) rfl ?_; intro f h
      refine s_pure h (ru_pick_t (h.ev rfl) (h.ev rfl)) rfl ?_; intro f h
      refine s_pure h (ru_move (h.ev rfl)) rfl ?_; intro f h
      refine s_off (b := true) h rfl rfl rfl rfl ?_; intro f h
      refine s_off (b := true) h rfl rfl rfl rfl ?_; intro f h
      refine s_pure h (ru_pick_f (h.ev rfl) (h.ev rfl)) rfl ?_; intro f h
      refine s_pure h (ru_assign (h.ev rfl)) rfl ?_; intro f h
      refine s_nil ?_
      refine hK2 _ _ ?_
      refine wpIn_ret ?_
      exact e_tmp rfl h s rfl (by show _ = _; unfold rightE; rw [h1, h2]; rfl)
    · skip
      refine c_region ?_
      refine s_pure h (ru_move (h.ev rfl)) rfl ?_; intro f h
      refine s_pure h (ru_lenZ (hv.keep s.ext) Try.underlying22 (h.ev rfl)) rfl ?_; intro f h
      refine s_pure h (ru_val (.bool true) (ru_gtr (h.ev rfl) (h.ev rfl)) (congrArg Value.bool ((decide_eq_decide.2 (by omega)).trans h1))) rfl ?_; intro f h
      refine s_pure h (ru_move (h.ev rfl)) rfl ?_; intro f h
      refine s_on h rfl rfl rfl ?_
      refine s_pure h (ru_move (h.ev rfl)) rfl ?_; intro f h
      refine s_on h rfl rfl rfl ?_
      refine s_pure h (ru_lenZ (hv.keep s.ext) Try.underlying22 (h.ev rfl)) rfl ?_; intro f h
      refine s_on h rfl rfl rfl ?_
      refine s_pure h (ru_val (.bool true) (ru_lss (h.ev rfl) (h.ev rfl)) (congrArg Value.bool ((decide_eq_decide.2 (by omega)).trans h2))) rfl ?_; intro f h
      refine s_pure h (ru_pick_t (h.ev rfl) (h.ev rfl)) rfl ?_; intro f h
      refine s_pure h (ru_move (h.ev rfl)) rfl ?_; intro f h
      refine s_on h rfl rfl rfl ?_
      refine s_pure h (ru_move (h.ev rfl)) rfl ?_; intro f h
      refine s_on h rfl rfl rfl ?_
      refine s_call h s fnc21 (rall_any l vh _ (hv.keep s.ext) hln) rfl rfl ?_; intro f w1 v9 hT hE h s; obtain rfl := hT
      refine s_pure h (ru_pick_t (h.ev rfl) (h.ev rfl)) rfl ?_; intro f h
      refine s_pure h (ru_assign (h.ev rfl)) rfl ?_; intro f h
      refine s_nil ?_
      refine hK2 _ _ ?_
      refine wpIn_ret ?_
      exact e_tmp rfl h s rfl (by show _ = _; unfold rightE; rw [h1, h2]; rfl)

theorem equal_any (l m : List Ent) (vh vu : Value) (w : World) (hv : RdZ w vh 34 l.length (eCells l)) (hu : RdZ w vu 34 m.length (eCells m)) (hln : l.length ≤ 1000000) (hmn : m.length ≤ 1000000) : Calls Try.prog 23 [vh, vu].toArray w (Ret w (is (.bool (decide (l = m))))) := by
  refine c_enter Try.func23 rfl Try.ntmps23 rfl [(0, vh), (1, vu)] (by simp) fun f h => ?_
  have s := St.start w
  refine c_seq fun K1 hK1 => ?_
  refine c_region ?_
  refine s_pure h (ru_assign (h.ev rfl)) rfl ?_; intro f h
  refine s_nil ?_
  refine hK1 _ _ ?_
  refine c_seq fun K2 hK2 => ?_
  refine c_seq fun K3 hK3 => ?_
  refine c_region ?_
  refine s_pure h (ru_move (h.ev rfl)) rfl ?_; intro f h
  refine s_pure h (ru_lenZ (hv.keep s.ext) Try.underlying22 (h.ev rfl)) rfl ?_; intro f h
  refine s_pure h (ru_move (h.ev rfl)) rfl ?_; intro f h
  refine s_pure h (ru_lenZ (hu.keep s.ext) Try.underlying22 (h.ev rfl)) rfl ?_; intro f h
  refine s_pure h (ru_neq (h.ev rfl) (h.ev rfl)) rfl ?_; intro f h
  refine s_nil ?_
  refine hK3 _ _ ?_
  refine c_cond h rfl (fun hc => ?_) (fun hc => ?_)
  · replace hc := of_decide_eq_true hc
    refine c_seq fun K4 hK4 => ?_
    refine c_region ?_
    refine s_pure h (ru_assign (h.ev rfl)) rfl ?_; intro f h
    refine s_nil ?_
    refine hK4 _ _ ?_
    refine wpIn_ret ?_
    refine t_ret ?_
    exact e_tmp rfl h s rfl (congrArg Value.bool (decide_eq_false (fun h9 => by rw [h9] at hc; omega)).symm)
  · replace hc := of_decide_eq_false hc
    have hlm : l.length = m.length := by omega
    refine wpIn_skip ?_
    refine hK2 _ _ ?_
    refine c_seq fun K5 hK5 => ?_
    refine c_seq fun K6 hK6 => ?_
    refine c_region ?_
    refine s_pure h (ru_move (h.ev rfl)) rfl ?_; intro f h
    refine s_pure h (ru_lenZ (hv.keep s.ext) Try.underlying22 (h.ev rfl)) rfl ?_; intro f h
    refine s_pure h (ru_move (h.ev rfl)) rfl ?_; intro f h
    refine s_nil ?_
    refine hK6 _ _ ?_
    refine wpIn_block ?_
    refine wpIn_loop_ghost (fun nn aa ww => ∃ k : Nat, Sl 26 aa [(0, vh), (1, vu), (11, vh), (12, .int .i64 (l.length : Int)), (13, .int .i64 (k : Int))] ∧ St w [] ww ∧ nn = l.length - k ∧ k ≤ l.length ∧ ∀ i (hi : i < l.length), i < k → l[i]? = m[i]?) (l.length - (0)) ⟨0, h.only ⟨rfl, rfl, rfl, rfl, slot_int rfl (by omega), trivial⟩, s.as trivial, rfl, Nat.zero_le _, fun i hi h9 => absurd h9 (Nat.not_lt_zero _)⟩ ?_
    rintro _ f w1 ⟨k, h, s, hnn, hp0, hp1⟩
    refine c_seq fun K7 hK7 => ?_
    refine c_region ?_
    skip
    refine s_pure h (ru_lss (h.ev rfl) (h.ev rfl)) rfl ?_; intro f h
    refine s_nil ?_
    refine hK7 _ _ ?_
    refine c_seq fun K8 hK8 => ?_
    refine c_cond h rfl (fun hc => ?_) (fun hc => ?_)
    · replace hc := of_decide_eq_true hc
      refine wpIn_skip ?_
      refine hK8 _ _ ?_
      refine c_seq fun K9 hK9 => ?_
      refine wpIn_block ?_
      refine c_seq fun K10 hK10 => ?_
      refine c_region ?_
      refine s_pure h (ru_move (h.ev rfl)) rfl ?_; intro f h
      refine s_pure h (ru_assign (h.ev rfl)) rfl ?_; intro f h
      refine s_nil ?_
      refine hK10 _ _ ?_
      refine c_seq fun K11 hK11 => ?_
      refine c_walkN 9 [[], [], [0, 1], [0, 1, 2], [], [], [4, 5], [4, 5, 6], [0, 1, 2, 3, 4, 5, 6, 7]] h (by kernel_rfl) (by kernel_rfl) (by kernel_rfl) ?_
      refine w_pure h (ru_move (h.ev rfl)) rfl ?_; intro f h
      refine w_pure h (ru_move (h.ev rfl)) rfl ?_; intro f h
      have hkl : k < l.length := by omega
      have hkm : k < m.length := by omega
      refine w_pure h (ru_ixz (hv.keep s.ext) (k) Try.underlying22 szo26 (h.ev rfl) (h.ev rfl) (by omega) (by omega)) rfl ?_; intro f h
      refine w_load_at ((hv.keep s.ext).el (k) (by omega) (by decide) (D := eArr l[k]) (e_el l k hkl)) h row26 rfl (eArr_size _) rfl ?_; intro f h
      refine w_pure h (ru_move (h.ev rfl)) rfl ?_; intro f h
      refine w_pure h (ru_move (h.ev rfl)) rfl ?_; intro f h
      refine w_pure h (ru_ixz (hu.keep s.ext) (k) Try.underlying22 szo26 (h.ev rfl) (h.ev rfl) (by omega) (by omega)) rfl ?_; intro f h
      refine w_load_at ((hu.keep s.ext).el (k) (by omega) (by decide) (D := eArr m[k]) (e_el m k hkm)) h row26 rfl (eArr_size _) rfl ?_; intro f h
      refine w_pure h (ru_neqW (eqE _ _) (by kernel_rfl) (by decide) (h.ev rfl) (h.ev rfl) (decide (l[k] = m[k])) (eEq _ _)) rfl ?_; intro f h
      refine w_nil s fun w1 s => ?_
      refine s_nil ?_
      refine hK11 _ _ ?_
      refine c_cond h rfl (fun hc => ?_) (fun hc => ?_)
      · refine c_seq fun K12 hK12 => ?_
        refine c_region ?_
        refine s_pure h (ru_assign (h.ev rfl)) rfl ?_; intro f h
        refine s_nil ?_
        refine hK12 _ _ ?_
        refine wpIn_ret ?_
        refine b_ret ?_
        refine t_ret ?_
        refine t_ret ?_
        refine b_ret ?_
        refine t_ret ?_
        exact e_tmp rfl h s rfl (congrArg Value.bool (same_no hkl hkm hc))
      · refine wpIn_skip ?_
        refine b_norm ?_
        refine hK9 _ _ ?_
        refine c_region ?_
        refine s_pure h (ru_add (h.ev rfl) (h.ev rfl) (by omega)) rfl ?_; intro f h
        refine s_pure h (ru_move (h.ev rfl)) rfl ?_; intro f h
        refine s_nil ?_
        refine t_norm ?_
        exact ⟨_, by omega, ⟨k + 1, h.only ⟨rfl, rfl, rfl, rfl, slot_int rfl (by omega), trivial⟩, St.as s trivial, rfl, by omega, same_next hp1 hkl hkm hc⟩⟩
    · replace hc := of_decide_eq_false hc
      refine wpIn_exit ?_
      refine t_exit ?_
      refine t_exit ?_
      refine b_exit ?_
      refine hK5 _ _ ?_
      refine c_seq fun K13 hK13 => ?_
      refine c_region ?_
      refine s_pure h (ru_assign (h.ev rfl)) rfl ?_; intro f h
      refine s_nil ?_
      refine hK13 _ _ ?_
      refine wpIn_ret ?_
      exact e_tmp rfl h s rfl (congrArg Value.bool (same_yes hlm (by omega) hp1))

theorem rsame_any (l m : List Ent) (vh vu : Value) (w : World) (hv : RdZ w vh 34 l.length (eCells l)) (hu : RdZ w vu 34 m.length (eCells m)) (hln : l.length ≤ 1000000) (hmn : m.length ≤ 1000000) : Calls Try.prog 15 [vh, vu].toArray w (Ret w (is (.bool (decide (l = m))))) := by
  refine c_enter Try.func15 rfl Try.ntmps15 rfl [(0, vh), (1, vu)] (by simp) fun f h => ?_
  have s := St.start w
  refine c_seq fun K1 hK1 => ?_
  refine c_region ?_
  refine s_pure h (ru_assign (h.ev rfl)) rfl ?_; intro f h
  refine s_nil ?_
  refine hK1 _ _ ?_
  refine c_seq fun K2 hK2 => ?_
  refine c_seq fun K3 hK3 => ?_
  refine c_region ?_
  refine s_pure h (ru_move (h.ev rfl)) rfl ?_; intro f h
  refine s_pure h (ru_lenZ (hv.keep s.ext) Try.underlying22 (h.ev rfl)) rfl ?_; intro f h
  refine s_pure h (ru_move (h.ev rfl)) rfl ?_; intro f h
  refine s_pure h (ru_lenZ (hu.keep s.ext) Try.underlying22 (h.ev rfl)) rfl ?_; intro f h
  refine s_pure h (ru_neq (h.ev rfl) (h.ev rfl)) rfl ?_; intro f h
  refine s_nil ?_
  refine hK3 _ _ ?_
  refine c_cond h rfl (fun hc => ?_) (fun hc => ?_)
  · replace hc := of_decide_eq_true hc
    refine c_seq fun K4 hK4 => ?_
    refine c_region ?_
    refine s_pure h (ru_assign (h.ev rfl)) rfl ?_; intro f h
    refine s_nil ?_
    refine hK4 _ _ ?_
    refine wpIn_ret ?_
    refine t_ret ?_
    exact e_tmp rfl h s rfl (congrArg Value.bool (decide_eq_false (fun h9 => by rw [h9] at hc; omega)).symm)
  · replace hc := of_decide_eq_false hc
    have hlm : l.length = m.length := by omega
    refine wpIn_skip ?_
    refine hK2 _ _ ?_
    refine c_seq fun K5 hK5 => ?_
    refine c_seq fun K6 hK6 => ?_
    refine c_region ?_
    refine s_pure h (ru_move (h.ev rfl)) rfl ?_; intro f h
    refine s_pure h (ru_lenZ (hv.keep s.ext) Try.underlying22 (h.ev rfl)) rfl ?_; intro f h
    refine s_pure h (ru_move (h.ev rfl)) rfl ?_; intro f h
    refine s_nil ?_
    refine hK6 _ _ ?_
    refine wpIn_block ?_
    refine wpIn_loop_ghost (fun nn aa ww => ∃ k : Nat, Sl 26 aa [(0, vh), (1, vu), (11, vh), (12, .int .i64 (l.length : Int)), (13, .int .i64 (k : Int))] ∧ St w [] ww ∧ nn = l.length - k ∧ k ≤ l.length ∧ ∀ i (hi : i < l.length), i < k → l[i]? = m[i]?) (l.length - (0)) ⟨0, h.only ⟨rfl, rfl, rfl, rfl, slot_int rfl (by omega), trivial⟩, s.as trivial, rfl, Nat.zero_le _, fun i hi h9 => absurd h9 (Nat.not_lt_zero _)⟩ ?_
    rintro _ f w1 ⟨k, h, s, hnn, hp0, hp1⟩
    refine c_seq fun K7 hK7 => ?_
    refine c_region ?_
    skip
    refine s_pure h (ru_lss (h.ev rfl) (h.ev rfl)) rfl ?_; intro f h
    refine s_nil ?_
    refine hK7 _ _ ?_
    refine c_seq fun K8 hK8 => ?_
    refine c_cond h rfl (fun hc => ?_) (fun hc => ?_)
    · replace hc := of_decide_eq_true hc
      refine wpIn_skip ?_
      refine hK8 _ _ ?_
      refine c_seq fun K9 hK9 => ?_
      refine wpIn_block ?_
      refine c_seq fun K10 hK10 => ?_
      refine c_region ?_
      refine s_pure h (ru_move (h.ev rfl)) rfl ?_; intro f h
      refine s_pure h (ru_assign (h.ev rfl)) rfl ?_; intro f h
      refine s_nil ?_
      refine hK10 _ _ ?_
      refine c_seq fun K11 hK11 => ?_
      refine c_walkN 9 [[], [], [0, 1], [0, 1, 2], [], [], [4, 5], [4, 5, 6], [0, 1, 2, 3, 4, 5, 6, 7]] h (by kernel_rfl) (by kernel_rfl) (by kernel_rfl) ?_
      refine w_pure h (ru_move (h.ev rfl)) rfl ?_; intro f h
      refine w_pure h (ru_move (h.ev rfl)) rfl ?_; intro f h
      have hkl : k < l.length := by omega
      have hkm : k < m.length := by omega
      refine w_pure h (ru_ixz (hv.keep s.ext) (k) Try.underlying22 szo26 (h.ev rfl) (h.ev rfl) (by omega) (by omega)) rfl ?_; intro f h
      refine w_load_at ((hv.keep s.ext).el (k) (by omega) (by decide) (D := eArr l[k]) (e_el l k hkl)) h row26 rfl (eArr_size _) rfl ?_; intro f h
      refine w_pure h (ru_move (h.ev rfl)) rfl ?_; intro f h
      refine w_pure h (ru_move (h.ev rfl)) rfl ?_; intro f h
      refine w_pure h (ru_ixz (hu.keep s.ext) (k) Try.underlying22 szo26 (h.ev rfl) (h.ev rfl) (by omega) (by omega)) rfl ?_; intro f h
      refine w_load_at ((hu.keep s.ext).el (k) (by omega) (by decide) (D := eArr m[k]) (e_el m k hkm)) h row26 rfl (eArr_size _) rfl ?_; intro f h
      refine w_pure h (ru_neqW (eqE _ _) (by kernel_rfl) (by decide) (h.ev rfl) (h.ev rfl) (decide (l[k] = m[k])) (eEq _ _)) rfl ?_; intro f h
      refine w_nil s fun w1 s => ?_
      refine s_nil ?_
      refine hK11 _ _ ?_
      refine c_cond h rfl (fun hc => ?_) (fun hc => ?_)
      · refine c_seq fun K12 hK12 => ?_
        refine c_region ?_
        refine s_pure h (ru_assign (h.ev rfl)) rfl ?_; intro f h
        refine s_nil ?_
        refine hK12 _ _ ?_
        refine wpIn_ret ?_
        refine b_ret ?_
        refine t_ret ?_
        refine t_ret ?_
        refine b_ret ?_
        refine t_ret ?_
        exact e_tmp rfl h s rfl (congrArg Value.bool (same_no hkl hkm hc))
      · refine wpIn_skip ?_
        refine b_norm ?_
        refine hK9 _ _ ?_
        refine c_region ?_
        refine s_pure h (ru_add (h.ev rfl) (h.ev rfl) (by omega)) rfl ?_; intro f h
        refine s_pure h (ru_move (h.ev rfl)) rfl ?_; intro f h
        refine s_nil ?_
        refine t_norm ?_
        exact ⟨_, by omega, ⟨k + 1, h.only ⟨rfl, rfl, rfl, rfl, slot_int rfl (by omega), trivial⟩, St.as s trivial, rfl, by omega, same_next hp1 hkl hkm hc⟩⟩
    · replace hc := of_decide_eq_false hc
      refine wpIn_exit ?_
      refine t_exit ?_
      refine t_exit ?_
      refine b_exit ?_
      refine hK5 _ _ ?_
      refine c_seq fun K13 hK13 => ?_
      refine c_region ?_
      refine s_pure h (ru_assign (h.ev rfl)) rfl ?_; intro f h
      refine s_nil ?_
      refine hK13 _ _ ?_
      refine wpIn_ret ?_
      exact e_tmp rfl h s rfl (congrArg Value.bool (same_yes hlm (by omega) hp1))

theorem same_any (l m : List Ent) (vh vu : Value) (w : World) (hv : RdZ w vh 34 l.length (eCells l)) (hu : RdZ w vu 34 m.length (eCells m)) (hln : l.length ≤ 1000000) (hmn : m.length ≤ 1000000) : Calls Try.prog 14 [vh, vu].toArray w (Ret w (is (.bool (decide (l = m))))) := by
  refine c_enter Try.func14 rfl Try.ntmps14 rfl [(0, vh), (1, vu)] (by simp) fun f h => ?_
  have s := St.start w
  refine c_seq fun K1 hK1 => ?_
  refine c_region ?_
  refine s_pure h (ru_assign (h.ev rfl)) rfl ?_; intro f h
  refine s_nil ?_
  refine hK1 _ _ ?_
  refine c_seq fun K2 hK2 => ?_
  refine c_region ?_
  refine s_pure h (ru_move (h.ev rfl)) rfl ?_; intro f h
  refine s_pure h (ru_move (h.ev rfl)) rfl ?_; intro f h
  refine s_call h s fnc23 (equal_any l m vh vu _ (hv.keep s.ext) (hu.keep s.ext) hln hmn) rfl rfl ?_; intro f w1 v9 hT hE h s; obtain rfl := hT
  refine s_pure h (ru_assign (h.ev rfl)) rfl ?_; intro f h
  refine s_nil ?_
  refine hK2 _ _ ?_
  refine wpIn_ret ?_
  exact e_tmp rfl h s rfl (rfl)
end Go.Proofs.Ytjkjhceffbcidaa
