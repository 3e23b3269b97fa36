/- Which messages may be: the reference. -/
import Derived.Test.YtaehgcdcfbhohaaVa
set_option linter.unusedVariables false
set_option linter.unusedSimpArgs false
set_option linter.unusedSectionVars false
namespace Go.Proofs.Ytaehgcdcfbhohaa
open Go.RowKit
theorem has_any (k : Int) (f9 : Int) (w : World) : Calls Try.prog 23 [.int .i64 k, .int .u8 f9].toArray w (Ret w (is (.bool (hasF k f9)))) := by
  have hsz4 := fS_size k
  refine c_enter Try.func23 rfl Try.ntmps23 rfl [(0, .int .i64 k), (1, .int .u8 f9)] (by simp) fun f h => ?_
  have s := St.start w
  refine c_seq fun K1 hK1 => ?_
  refine c_region ?_
  refine s_pure h (ru_assign (h.ev rfl)) rfl ?_; intro f h
  refine s_nil ?_
  refine hK1 _ _ ?_
  refine c_seq fun K2 hK2 => ?_
  refine c_seq fun K3 hK3 => ?_
  cases ha : (decide (k < 1) : Bool)
  · skip
    cases hb : (decide (10 < k) : Bool)
    · skip
      refine c_region ?_
      refine s_pure h (ru_move (h.ev rfl)) rfl ?_; intro f h
      refine s_pure h (ru_val (.bool false) (ru_lss (h.ev rfl) (h.ev rfl)) (congrArg Value.bool ha)) rfl ?_; intro f h
      refine s_pure h (ru_move (h.ev rfl)) rfl ?_; intro f h
      refine s_on h rfl rfl rfl ?_
      refine s_pure h (ru_move (h.ev rfl)) rfl ?_; intro f h
      refine s_on h rfl rfl rfl ?_
      refine s_pure h (ru_val (.bool false) (ru_gtr (h.ev rfl) (h.ev rfl)) (congrArg Value.bool hb)) rfl ?_; intro f h
      refine s_pure h (ru_pick_f (h.ev rfl) (h.ev rfl)) rfl ?_; intro f h
      refine s_nil ?_
      refine hK3 _ _ ?_
      refine wpIn_cond_false (h.ev rfl) ?_
      refine wpIn_skip ?_
      refine hK2 _ _ ?_
      refine c_seq fun K4 hK4 => ?_
      refine c_region ?_
      have hka := of_decide_eq_false ha
      have hkb := of_decide_eq_false hb
      refine s_bslice (vs := [.string ⟨#[]⟩, .string ⟨#[115, 110, 100]⟩, .string ⟨#[105, 116, 110]⟩, .string ⟨#[105, 116, 111]⟩, .string ⟨#[105, 116, 110, 111]⟩, .string ⟨#[105, 116]⟩, .string ⟨#[105, 116, 111]⟩, .string ⟨#[105]⟩, .string ⟨#[105, 110]⟩, .string ⟨#[105, 110]⟩, .string ⟨#[105, 110]⟩]) [.const (.string ⟨#[]⟩), .const (.string ⟨#[115, 110, 100]⟩), .const (.string ⟨#[105, 116, 110]⟩), .const (.string ⟨#[105, 116, 111]⟩), .const (.string ⟨#[105, 116, 110, 111]⟩), .const (.string ⟨#[105, 116]⟩), .const (.string ⟨#[105, 116, 111]⟩), .const (.string ⟨#[105]⟩), .const (.string ⟨#[105, 110]⟩), .const (.string ⟨#[105, 110]⟩), .const (.string ⟨#[105, 110]⟩)] h s Try.underlying70 elm9 rfl rfl (by simp [Value.cells]) rfl rfl rfl ?_; intro f w1 v13 h s
      have s := s.as (B' := [.sl v13 9 1 11 (fstrs.map Value.string)]) ⟨sl_eq rfl rfl, trivial⟩
      refine s_pure h (ru_move (h.ev rfl)) rfl ?_; intro f h
      refine s_pure h (ru_ixz (RdZ.of_own (s.getSl 0 rfl)) (k.toNat) Try.underlying70 szo9 (h.ev rfl) (h.ev rfl) (by omega) (by omega)) rfl ?_; intro f h
      refine s_load_at1 ((RdZ.of_own (s.getSl 0 rfl)).el1 (k.toNat) (V := .string (fS k)) (fS_get (by omega) (by omega))) h one9 rfl rfl ?_; intro f h
      refine s_pure h (ru_assign (h.ev rfl)) rfl ?_; intro f h
      refine s_nil ?_
      refine hK4 _ _ ?_
      refine c_seq fun K5 hK5 => ?_
      refine c_seq fun K6 hK6 => ?_
      refine c_region ?_
      refine s_pure h (ru_assign (h.ev rfl)) rfl ?_; intro f h
      refine s_nil ?_
      refine hK6 _ _ ?_
      refine wpIn_block ?_
      refine wpIn_loop_ghost (fun nn aa ww => ∃ j : Nat, Sl 28 aa [(0, .int .i64 k), (1, .int .u8 f9), (13, v13), (5, .string (fS k)), (6, .int .i64 (j : Int))] ∧ St w [.sl v13 9 1 11 (fstrs.map Value.string)] ww ∧ nn = (fS k).size - j ∧ j ≤ (fS k).size ∧ ∀ i, i < j → ¬ ((sb (fS k) i : Nat) : Int) = f9) ((fS k).size - (0)) ⟨0, h.only ⟨rfl, rfl, rfl, rfl, slot_int rfl rfl, trivial⟩, s.as ⟨rfl, trivial⟩, rfl, Nat.zero_le _, fun i h9 => absurd h9 (Nat.not_lt_zero _)⟩ ?_
      rintro _ f w1 ⟨j, h, s, hnn, hp0, hp1⟩
      refine c_seq fun K7 hK7 => ?_
      refine c_seq fun K8 hK8 => ?_
      refine c_region ?_
      refine s_pure h (ru_move (h.ev rfl)) rfl ?_; intro f h
      refine s_pure h (ru_move (h.ev rfl)) rfl ?_; intro f h
      refine s_pure h (ru_len_str Try.underlying9 (h.ev rfl)) rfl ?_; intro f h
      refine s_pure h (ru_lss (h.ev rfl) (h.ev rfl)) rfl ?_; intro f h
      refine s_nil ?_
      refine hK8 _ _ ?_
      refine c_cond h rfl (fun hc => ?_) (fun hc => ?_)
      · replace hc := of_decide_eq_true hc
        refine wpIn_skip ?_
        refine hK7 _ _ ?_
        refine c_seq fun K9 hK9 => ?_
        refine wpIn_block ?_
        refine c_seq fun K10 hK10 => ?_
        refine c_region ?_
        refine s_pure h (ru_move (h.ev rfl)) rfl ?_; intro f h
        refine s_pure h (ru_move (h.ev rfl)) rfl ?_; intro f h
        have hjl : j < (fS k).size := by omega
        refine s_pure h (ru_ix_sb Try.underlying9 (j) (h.ev rfl) (h.ev rfl) (by omega) (by omega)) rfl ?_; intro f h
        refine s_pure h (ru_move (h.ev rfl)) rfl ?_; intro f h
        refine s_pure h (ru_eql (h.ev rfl) (h.ev rfl)) rfl ?_; intro f h
        refine s_nil ?_
        refine hK10 _ _ ?_
        refine c_cond h rfl (fun hc => ?_) (fun hc => ?_)
        · replace hc := of_decide_eq_true hc
          refine c_seq fun K11 hK11 => ?_
          refine c_region ?_
          refine s_pure h (ru_assign (h.ev rfl)) rfl ?_; intro f h
          refine s_nil ?_
          refine hK11 _ _ ?_
          refine wpIn_ret ?_
          refine b_ret ?_
          refine t_ret ?_
          refine t_ret ?_
          refine b_ret ?_
          refine t_ret ?_
          exact e_tmp rfl h s rfl (by show _ = _; exact congrArg Value.bool (hasF_yes (by omega) (by omega) hjl hc))
        · replace hc := of_decide_eq_false hc
          refine wpIn_skip ?_
          refine b_norm ?_
          refine hK9 _ _ ?_
          refine c_region ?_
          refine s_pure h (ru_move (h.ev rfl)) rfl ?_; intro f h
          refine s_pure h (ru_add (h.ev rfl) (h.ev rfl) (by omega)) rfl ?_; intro f h
          refine s_pure h (ru_assign (h.ev rfl)) rfl ?_; intro f h
          refine s_nil ?_
          refine t_norm ?_
          exact ⟨_, by omega, ⟨j + 1, h.only ⟨rfl, rfl, rfl, rfl, slot_int rfl (by omega), trivial⟩, St.as s ⟨rfl, trivial⟩, rfl, by omega, fun i h9 => (Nat.lt_succ_iff_lt_or_eq.1 h9).elim (hp1 i) (fun e => by subst e; exact hc)⟩⟩
      · replace hc := of_decide_eq_false hc
        refine wpIn_exit ?_
        refine t_exit ?_
        refine t_exit ?_
        refine b_exit ?_
        refine hK5 _ _ ?_
        refine c_seq fun K12 hK12 => ?_
        refine c_region ?_
        refine s_pure h (ru_assign (h.ev rfl)) rfl ?_; intro f h
        refine s_nil ?_
        refine hK12 _ _ ?_
        refine wpIn_ret ?_
        exact e_tmp rfl h s rfl (by show _ = _; exact congrArg Value.bool (hasF_no (fun i h9 => hp1 i (by omega))))
    · skip
      refine c_region ?_
      refine s_pure h (ru_move (h.ev rfl)) rfl ?_; intro f h
      refine s_pure h (ru_val (.bool false) (ru_lss (h.ev rfl) (h.ev rfl)) (congrArg Value.bool ha)) rfl ?_; intro f h
      refine s_pure h (ru_move (h.ev rfl)) rfl ?_; intro f h
      refine s_on h rfl rfl rfl ?_
      refine s_pure h (ru_move (h.ev rfl)) rfl ?_; intro f h
      refine s_on h rfl rfl rfl ?_
      refine s_pure h (ru_val (.bool true) (ru_gtr (h.ev rfl) (h.ev rfl)) (congrArg Value.bool hb)) rfl ?_; intro f h
      refine s_pure h (ru_pick_f (h.ev rfl) (h.ev rfl)) rfl ?_; intro f h
      refine s_nil ?_
      refine hK3 _ _ ?_
      refine wpIn_cond_true (h.ev rfl) ?_
      refine c_seq fun K13 hK13 => ?_
      refine c_region ?_
      refine s_pure h (ru_assign (h.ev rfl)) rfl ?_; intro f h
      refine s_nil ?_
      refine hK13 _ _ ?_
      refine wpIn_ret ?_
      refine t_ret ?_
      exact e_tmp rfl h s rfl (by show _ = _; exact congrArg Value.bool (hasF_hi (of_decide_eq_true hb)))
  · skip
    refine c_region ?_
    refine s_pure h (ru_move (h.ev rfl)) rfl ?_; intro f h
    refine s_pure h (ru_val (.bool true) (ru_lss (h.ev rfl) (h.ev rfl)) (congrArg Value.bool ha)) rfl ?_; intro f h
    refine s_pure h (ru_move (h.ev rfl)) rfl ?_; intro f h
    refine s_off (b := false) h rfl rfl rfl rfl ?_; intro f h
    refine s_off (b := false) h rfl rfl rfl rfl ?_; intro f h
    refine s_pure h (ru_pick_t (h.ev rfl) (h.ev rfl)) rfl ?_; intro f h
    refine s_nil ?_
    refine hK3 _ _ ?_
    refine wpIn_cond_true (h.ev rfl) ?_
    refine c_seq fun K14 hK14 => ?_
    refine c_region ?_
    refine s_pure h (ru_assign (h.ev rfl)) rfl ?_; intro f h
    refine s_nil ?_
    refine hK14 _ _ ?_
    refine wpIn_ret ?_
    refine t_ret ?_
    exact e_tmp rfl h s rfl (by show _ = _; exact congrArg Value.bool (hasF_lo (of_decide_eq_true ha)))

set_option maxHeartbeats 4000000 in
theorem rright5_any (m : Mg) (vs : Value) (w : World) (hv : RdZ w vs 34 m.l.length (eCells m.l)) (hln : m.l.length ≤ 1000000) : Calls Try.prog 10 [.agg (mArr m vs)].toArray w (Ret w (is (.bool (rightM m)))) := by
  refine c_enter Try.func10 rfl Try.ntmps10 rfl [(0, .agg (mArr m vs))] (by simp) fun f h => ?_
  have s := St.start w
  refine c_seq fun K1 hK1 => ?_
  refine c_region ?_
  refine s_box ((mArr m vs)) h s rfl rfl rfl ?_; intro f w1 b1 h s
  refine s_pure h (ru_assign (h.ev rfl)) rfl ?_; intro f h
  refine s_nil ?_
  refine hK1 _ _ ?_
  refine c_seq fun K2 hK2 => ?_
  refine c_seq fun K3 hK3 => ?_
  cases g1 : (decide (m.k < 1) : Bool)
  · skip
    cases g2 : (decide (10 < m.k) : Bool)
    · skip
      cases g3 : (decide (m.n < 0) : Bool)
      · skip
        cases g4 : (decide (1099511627776 < m.n) : Bool)
        · skip
          cases g5 : (decide ((64 : Int) < ((m.d.size : Nat) : Int)) : Bool)
          · skip
            refine c_region ?_
            refine s_pure h (ru_field fld28_0 (h.ev rfl)) rfl ?_; intro f h
            refine s_load_at1 (cell_of_has (Has.of_own s 0 rfl) 0 (mArr_k _ _)) h one3 rfl rfl ?_; intro f h
            refine s_pure h (ru_val (.bool false) (ru_lss (h.ev rfl) (h.ev rfl)) (congrArg Value.bool g1)) rfl ?_; intro f h
            refine s_pure h (ru_move (h.ev rfl)) rfl ?_; intro f h
            refine s_on h rfl rfl rfl ?_
            refine s_pure h (ru_field fld28_0 (h.ev rfl)) rfl ?_; intro f h
            refine s_on h rfl rfl rfl ?_
            refine s_load_at1 (cell_of_has (Has.of_own s 0 rfl) 0 (mArr_k _ _)) h one3 rfl rfl ?_; intro f h
            refine s_on h rfl rfl rfl ?_
            refine s_pure h (ru_val (.bool false) (ru_gtr (h.ev rfl) (h.ev rfl)) (congrArg Value.bool g2)) rfl ?_; intro f h
            refine s_pure h (ru_pick_f (h.ev rfl) (h.ev rfl)) rfl ?_; intro f h
            refine s_pure h (ru_move (h.ev rfl)) rfl ?_; intro f h
            refine s_on h rfl rfl rfl ?_
            refine s_pure h (ru_field fld28_4 (h.ev rfl)) rfl ?_; intro f h
            refine s_on h rfl rfl rfl ?_
            refine s_load_at1 (cell_of_has (Has.of_own s 0 rfl) 68 (mArr_n _ _)) h one3 rfl rfl ?_; intro f h
            refine s_on h rfl rfl rfl ?_
            refine s_pure h (ru_val (.bool false) (ru_lss (h.ev rfl) (h.ev rfl)) (congrArg Value.bool g3)) rfl ?_; intro f h
            refine s_pure h (ru_pick_f (h.ev rfl) (h.ev rfl)) rfl ?_; intro f h
            refine s_pure h (ru_move (h.ev rfl)) rfl ?_; intro f h
            refine s_on h rfl rfl rfl ?_
            refine s_pure h (ru_field fld28_4 (h.ev rfl)) rfl ?_; intro f h
            refine s_on h rfl rfl rfl ?_
            refine s_load_at1 (cell_of_has (Has.of_own s 0 rfl) 68 (mArr_n _ _)) h one3 rfl rfl ?_; intro f h
            refine s_on h rfl rfl rfl ?_
            refine s_pure h (ru_val (.bool false) (ru_gtr (h.ev rfl) (h.ev rfl)) (congrArg Value.bool g4)) rfl ?_; intro f h
            refine s_pure h (ru_pick_f (h.ev rfl) (h.ev rfl)) rfl ?_; intro f h
            refine s_pure h (ru_move (h.ev rfl)) rfl ?_; intro f h
            refine s_on h rfl rfl rfl ?_
            refine s_pure h (ru_field fld28_6 (h.ev rfl)) rfl ?_; intro f h
            refine s_on h rfl rfl rfl ?_
            refine s_load_at1 (cell_of_has (Has.of_own s 0 rfl) 70 (mArr_d _ _)) h one9 rfl rfl ?_; intro f h
            refine s_on h rfl rfl rfl ?_
            refine s_pure h (ru_len_str Try.underlying9 (h.ev rfl)) rfl ?_; intro f h
            refine s_on h rfl rfl rfl ?_
            refine s_pure h (ru_val (.bool false) (ru_gtr (h.ev rfl) (h.ev rfl)) (congrArg Value.bool g5)) rfl ?_; intro f h
            refine s_pure h (ru_pick_f (h.ev rfl) (h.ev rfl)) rfl ?_; intro f h
            refine s_nil ?_
            refine hK3 _ _ ?_
            refine wpIn_cond_false (h.ev rfl) ?_
            refine wpIn_skip ?_
            refine hK2 _ _ ?_
            refine c_seq fun K4 hK4 => ?_
            refine c_region ?_
            refine s_pure h (ru_build_m0 sttM) rfl ?_; intro f h
            refine s_alloc (mArr mZ (.slice none 0 0)) h s zero28 rfl rfl ?_; intro f w1 b3 h s
            refine s_store_row 0 h s row28 rfl rfl rfl (mArr_size _ _) (mArr_size _ _) (mArr_ones _ _ rfl) ?_; intro w1 s
            refine s_nil ?_
            refine hK4 _ _ ?_
            refine c_seq fun K5 hK5 => ?_
            refine c_seq fun K6 hK6 => ?_
            refine c_join (fun aa ww => Sl 115 aa [(0, .agg (mArr m vs)), (1, .pointer (some ⟨b1, 0, none⟩)), (3, .pointer (some ⟨b3, 0, none⟩)), (64, .bool (bd4 m))] ∧ St w [.blk b3 (.cells ((mArr mZ (.slice none 0 0))) 28), .blk b1 (.cells ((mArr m vs)) 28)] ww) ?_ ?_
            · skip
              cases hI : (hasI m.k : Bool)
              · skip
                cases xi : (decide (m.i ≠ 0#256) : Bool)
                · skip
                  cases hT : (hasT m.k : Bool)
                  · skip
                    cases xt : (decide (m.t = (0, 0#256, 0)) : Bool)
                    · skip
                      refine c_region ?_
                      refine s_pure h (ru_field fld28_0 (h.ev rfl)) rfl ?_; intro f h
                      refine s_load_at1 (cell_of_has (Has.of_own s 1 rfl) 0 (mArr_k _ _)) h one3 rfl rfl ?_; intro f h
                      refine s_call h s fnc23 (ret_val (.bool false) (has_any m.k 105 _) (congrArg Value.bool ((hasF_i m.k).trans hI))) rfl rfl ?_; intro f w1 v9 hT hE h s; obtain rfl := hT
                      refine s_pure h (ru_val (.bool true) (ru_not (h.ev rfl)) rfl) rfl ?_; intro f h
                      refine s_pure h (ru_move (h.ev rfl)) rfl ?_; intro f h
                      refine s_on h rfl rfl rfl ?_
                      refine s_pure h (ru_field fld28_1 (h.ev rfl)) rfl ?_; intro f h
                      refine s_on h rfl rfl rfl ?_
                      refine s_load_at (Has.subL (Has.of_own s 1 rfl) 1 32 (D := idArr (_)) (mArr_i _ _)) h row23 rfl (by first | exact idArr_size _ | exact bytesF_size _ _) rfl ?_; intro f h
                      refine s_on h rfl rfl rfl ?_
                      refine s_pure h (ru_field fld28_1 (h.ev rfl)) rfl ?_; intro f h
                      refine s_on h rfl rfl rfl ?_
                      refine s_load_at (Has.subL (Has.of_own s 0 rfl) 1 32 (D := idArr (_)) (mArr_i _ _)) h row23 rfl (by first | exact idArr_size _ | exact bytesF_size _ _) rfl ?_; intro f h
                      refine s_on h rfl rfl rfl ?_
                      refine s_pure h (ru_val (.bool false) (ru_neq_id idTy (h.ev rfl) (h.ev rfl)) (congrArg Value.bool xi)) rfl ?_; intro f h
                      refine s_pure h (ru_pick_t (h.ev rfl) (h.ev rfl)) rfl ?_; intro f h
                      refine s_pure h (ru_move (h.ev rfl)) rfl ?_; intro f h
                      refine s_on h rfl rfl rfl ?_
                      refine s_pure h (ru_field fld28_0 (h.ev rfl)) rfl ?_; intro f h
                      refine s_on h rfl rfl rfl ?_
                      refine s_load_at1 (cell_of_has (Has.of_own s 1 rfl) 0 (mArr_k _ _)) h one3 rfl rfl ?_; intro f h
                      refine s_on h rfl rfl rfl ?_
                      refine s_call h s fnc23 (ret_val (.bool false) (has_any m.k 116 _) (congrArg Value.bool ((hasF_t m.k).trans hT))) rfl rfl ?_; intro f w1 v9 hT hE h s; obtain rfl := hT
                      refine s_on h rfl rfl rfl ?_
                      refine s_pure h (ru_val (.bool true) (ru_not (h.ev rfl)) rfl) rfl ?_; intro f h
                      refine s_on h rfl rfl rfl ?_
                      refine s_pure h (ru_move (h.ev rfl)) rfl ?_; intro f h
                      refine s_on h rfl rfl rfl ?_
                      refine s_pure h (ru_field fld28_2 (h.ev rfl)) rfl ?_; intro f h
                      refine s_on h rfl rfl rfl ?_
                      refine s_load_at (Has.subL (Has.of_own s 1 rfl) 33 34 (D := eArr (_)) (mArr_t _ _)) h row25 rfl (eArr_size _) rfl ?_; intro f h
                      refine s_on h rfl rfl rfl ?_
                      refine s_pure h (ru_field fld28_2 (h.ev rfl)) rfl ?_; intro f h
                      refine s_on h rfl rfl rfl ?_
                      refine s_load_at (Has.subL (Has.of_own s 0 rfl) 33 34 (D := eArr (_)) (mArr_t _ _)) h row25 rfl (eArr_size _) rfl ?_; intro f h
                      refine s_on h rfl rfl rfl ?_
                      refine s_pure h (ru_val (.bool true) (ru_neqW (eqE _ _) (by kernel_rfl) (by decide) (h.ev rfl) (h.ev rfl) (decide (m.t = (0, 0#256, 0))) (eNe _ _)) (congrArg Value.bool (by rw [xt]; rfl))) rfl ?_; intro f h
                      refine s_on h rfl rfl rfl ?_
                      refine s_pure h (ru_pick_t (h.ev rfl) (h.ev rfl)) rfl ?_; intro f h
                      refine s_pure h (ru_pick_f (h.ev rfl) (h.ev rfl)) rfl ?_; intro f h
                      refine s_pure h (ru_move (h.ev rfl)) rfl ?_; intro f h
                      refine s_off (b := false) h rfl rfl rfl rfl ?_; intro f h
                      refine s_off (b := false) h rfl rfl rfl rfl ?_; intro f h
                      refine s_off (b := false) h rfl rfl rfl rfl ?_; intro f h
                      refine s_off (b := false) h rfl rfl rfl rfl ?_; intro f h
                      refine s_off (b := false) h rfl rfl rfl rfl ?_; intro f h
                      refine s_none h rfl rfl rfl rfl ?_; intro f h
                      refine s_none h rfl rfl rfl rfl ?_; intro f h
                      refine s_none h rfl rfl rfl rfl ?_; intro f h
                      refine s_none h rfl rfl rfl rfl ?_; intro f h
                      refine s_off (b := false) h rfl rfl rfl rfl ?_; intro f h
                      refine s_pure h (ru_pick_t (h.ev rfl) (h.ev rfl)) rfl ?_; intro f h
                      refine s_nil ?_
                      refine t_norm ?_
                      exact ⟨h.only ⟨rfl, rfl, rfl, slot_as rfl (congrArg Value.bool (by unfold bd4; rw [hI, xi, hT, xt]; rfl)), trivial⟩, St.as s ⟨rfl, rfl, trivial⟩⟩
                    · skip
                      cases hS : (hasS m.k : Bool)
                      · skip
                        cases xs : (decide (0 < m.l.length) : Bool)
                        · skip
                          refine c_region ?_
                          refine s_pure h (ru_field fld28_0 (h.ev rfl)) rfl ?_; intro f h
                          refine s_load_at1 (cell_of_has (Has.of_own s 1 rfl) 0 (mArr_k _ _)) h one3 rfl rfl ?_; intro f h
                          refine s_call h s fnc23 (ret_val (.bool false) (has_any m.k 105 _) (congrArg Value.bool ((hasF_i m.k).trans hI))) rfl rfl ?_; intro f w1 v9 hT hE h s; obtain rfl := hT
                          refine s_pure h (ru_val (.bool true) (ru_not (h.ev rfl)) rfl) rfl ?_; intro f h
                          refine s_pure h (ru_move (h.ev rfl)) rfl ?_; intro f h
                          refine s_on h rfl rfl rfl ?_
                          refine s_pure h (ru_field fld28_1 (h.ev rfl)) rfl ?_; intro f h
                          refine s_on h rfl rfl rfl ?_
                          refine s_load_at (Has.subL (Has.of_own s 1 rfl) 1 32 (D := idArr (_)) (mArr_i _ _)) h row23 rfl (by first | exact idArr_size _ | exact bytesF_size _ _) rfl ?_; intro f h
                          refine s_on h rfl rfl rfl ?_
                          refine s_pure h (ru_field fld28_1 (h.ev rfl)) rfl ?_; intro f h
                          refine s_on h rfl rfl rfl ?_
                          refine s_load_at (Has.subL (Has.of_own s 0 rfl) 1 32 (D := idArr (_)) (mArr_i _ _)) h row23 rfl (by first | exact idArr_size _ | exact bytesF_size _ _) rfl ?_; intro f h
                          refine s_on h rfl rfl rfl ?_
                          refine s_pure h (ru_val (.bool false) (ru_neq_id idTy (h.ev rfl) (h.ev rfl)) (congrArg Value.bool xi)) rfl ?_; intro f h
                          refine s_pure h (ru_pick_t (h.ev rfl) (h.ev rfl)) rfl ?_; intro f h
                          refine s_pure h (ru_move (h.ev rfl)) rfl ?_; intro f h
                          refine s_on h rfl rfl rfl ?_
                          refine s_pure h (ru_field fld28_0 (h.ev rfl)) rfl ?_; intro f h
                          refine s_on h rfl rfl rfl ?_
                          refine s_load_at1 (cell_of_has (Has.of_own s 1 rfl) 0 (mArr_k _ _)) h one3 rfl rfl ?_; intro f h
                          refine s_on h rfl rfl rfl ?_
                          refine s_call h s fnc23 (ret_val (.bool false) (has_any m.k 116 _) (congrArg Value.bool ((hasF_t m.k).trans hT))) rfl rfl ?_; intro f w1 v9 hT hE h s; obtain rfl := hT
                          refine s_on h rfl rfl rfl ?_
                          refine s_pure h (ru_val (.bool true) (ru_not (h.ev rfl)) rfl) rfl ?_; intro f h
                          refine s_on h rfl rfl rfl ?_
                          refine s_pure h (ru_move (h.ev rfl)) rfl ?_; intro f h
                          refine s_on h rfl rfl rfl ?_
                          refine s_pure h (ru_field fld28_2 (h.ev rfl)) rfl ?_; intro f h
                          refine s_on h rfl rfl rfl ?_
                          refine s_load_at (Has.subL (Has.of_own s 1 rfl) 33 34 (D := eArr (_)) (mArr_t _ _)) h row25 rfl (eArr_size _) rfl ?_; intro f h
                          refine s_on h rfl rfl rfl ?_
                          refine s_pure h (ru_field fld28_2 (h.ev rfl)) rfl ?_; intro f h
                          refine s_on h rfl rfl rfl ?_
                          refine s_load_at (Has.subL (Has.of_own s 0 rfl) 33 34 (D := eArr (_)) (mArr_t _ _)) h row25 rfl (eArr_size _) rfl ?_; intro f h
                          refine s_on h rfl rfl rfl ?_
                          refine s_pure h (ru_val (.bool false) (ru_neqW (eqE _ _) (by kernel_rfl) (by decide) (h.ev rfl) (h.ev rfl) (decide (m.t = (0, 0#256, 0))) (eNe _ _)) (congrArg Value.bool (by rw [xt]; rfl))) rfl ?_; intro f h
                          refine s_on h rfl rfl rfl ?_
                          refine s_pure h (ru_pick_t (h.ev rfl) (h.ev rfl)) rfl ?_; intro f h
                          refine s_pure h (ru_pick_f (h.ev rfl) (h.ev rfl)) rfl ?_; intro f h
                          refine s_pure h (ru_move (h.ev rfl)) rfl ?_; intro f h
                          refine s_on h rfl rfl rfl ?_
                          refine s_pure h (ru_field fld28_0 (h.ev rfl)) rfl ?_; intro f h
                          refine s_on h rfl rfl rfl ?_
                          refine s_load_at1 (cell_of_has (Has.of_own s 1 rfl) 0 (mArr_k _ _)) h one3 rfl rfl ?_; intro f h
                          refine s_on h rfl rfl rfl ?_
                          refine s_call h s fnc23 (ret_val (.bool false) (has_any m.k 115 _) (congrArg Value.bool ((hasF_s m.k).trans hS))) rfl rfl ?_; intro f w1 v9 hT hE h s; obtain rfl := hT
                          refine s_on h rfl rfl rfl ?_
                          refine s_pure h (ru_val (.bool true) (ru_not (h.ev rfl)) rfl) rfl ?_; intro f h
                          refine s_on h rfl rfl rfl ?_
                          refine s_pure h (ru_move (h.ev rfl)) rfl ?_; intro f h
                          refine s_on h rfl rfl rfl ?_
                          refine s_pure h (ru_field fld28_3 (h.ev rfl)) rfl ?_; intro f h
                          refine s_on h rfl rfl rfl ?_
                          refine s_load_at1 (cell_of_has (Has.of_own s 1 rfl) 67 (mArr_v _ _)) h one26 rfl rfl ?_; intro f h
                          refine s_on h rfl rfl rfl ?_
                          refine s_pure h (ru_lenZ (hv.keep s.ext) Try.underlying26 (h.ev rfl)) rfl ?_; intro f h
                          refine s_on h rfl rfl rfl ?_
                          refine s_pure h (ru_val (.bool false) (ru_gtr (h.ev rfl) (h.ev rfl)) (congrArg Value.bool (Eq.trans (decide_eq_decide.2 (by omega)) xs))) rfl ?_; intro f h
                          refine s_on h rfl rfl rfl ?_
                          refine s_pure h (ru_pick_t (h.ev rfl) (h.ev rfl)) rfl ?_; intro f h
                          refine s_pure h (ru_pick_f (h.ev rfl) (h.ev rfl)) rfl ?_; intro f h
                          refine s_nil ?_
                          refine t_norm ?_
                          exact ⟨h.only ⟨rfl, rfl, rfl, slot_as rfl (congrArg Value.bool (by unfold bd4; rw [hI, xi, hT, xt, hS, xs]; rfl)), trivial⟩, St.as s ⟨rfl, rfl, trivial⟩⟩
                        · skip
                          refine c_region ?_
                          refine s_pure h (ru_field fld28_0 (h.ev rfl)) rfl ?_; intro f h
                          refine s_load_at1 (cell_of_has (Has.of_own s 1 rfl) 0 (mArr_k _ _)) h one3 rfl rfl ?_; intro f h
                          refine s_call h s fnc23 (ret_val (.bool false) (has_any m.k 105 _) (congrArg Value.bool ((hasF_i m.k).trans hI))) rfl rfl ?_; intro f w1 v9 hT hE h s; obtain rfl := hT
                          refine s_pure h (ru_val (.bool true) (ru_not (h.ev rfl)) rfl) rfl ?_; intro f h
                          refine s_pure h (ru_move (h.ev rfl)) rfl ?_; intro f h
                          refine s_on h rfl rfl rfl ?_
                          refine s_pure h (ru_field fld28_1 (h.ev rfl)) rfl ?_; intro f h
                          refine s_on h rfl rfl rfl ?_
                          refine s_load_at (Has.subL (Has.of_own s 1 rfl) 1 32 (D := idArr (_)) (mArr_i _ _)) h row23 rfl (by first | exact idArr_size _ | exact bytesF_size _ _) rfl ?_; intro f h
                          refine s_on h rfl rfl rfl ?_
                          refine s_pure h (ru_field fld28_1 (h.ev rfl)) rfl ?_; intro f h
                          refine s_on h rfl rfl rfl ?_
                          refine s_load_at (Has.subL (Has.of_own s 0 rfl) 1 32 (D := idArr (_)) (mArr_i _ _)) h row23 rfl (by first | exact idArr_size _ | exact bytesF_size _ _) rfl ?_; intro f h
                          refine s_on h rfl rfl rfl ?_
                          refine s_pure h (ru_val (.bool false) (ru_neq_id idTy (h.ev rfl) (h.ev rfl)) (congrArg Value.bool xi)) rfl ?_; intro f h
                          refine s_pure h (ru_pick_t (h.ev rfl) (h.ev rfl)) rfl ?_; intro f h
                          refine s_pure h (ru_move (h.ev rfl)) rfl ?_; intro f h
                          refine s_on h rfl rfl rfl ?_
                          refine s_pure h (ru_field fld28_0 (h.ev rfl)) rfl ?_; intro f h
                          refine s_on h rfl rfl rfl ?_
                          refine s_load_at1 (cell_of_has (Has.of_own s 1 rfl) 0 (mArr_k _ _)) h one3 rfl rfl ?_; intro f h
                          refine s_on h rfl rfl rfl ?_
                          refine s_call h s fnc23 (ret_val (.bool false) (has_any m.k 116 _) (congrArg Value.bool ((hasF_t m.k).trans hT))) rfl rfl ?_; intro f w1 v9 hT hE h s; obtain rfl := hT
                          refine s_on h rfl rfl rfl ?_
                          refine s_pure h (ru_val (.bool true) (ru_not (h.ev rfl)) rfl) rfl ?_; intro f h
                          refine s_on h rfl rfl rfl ?_
                          refine s_pure h (ru_move (h.ev rfl)) rfl ?_; intro f h
                          refine s_on h rfl rfl rfl ?_
                          refine s_pure h (ru_field fld28_2 (h.ev rfl)) rfl ?_; intro f h
                          refine s_on h rfl rfl rfl ?_
                          refine s_load_at (Has.subL (Has.of_own s 1 rfl) 33 34 (D := eArr (_)) (mArr_t _ _)) h row25 rfl (eArr_size _) rfl ?_; intro f h
                          refine s_on h rfl rfl rfl ?_
                          refine s_pure h (ru_field fld28_2 (h.ev rfl)) rfl ?_; intro f h
                          refine s_on h rfl rfl rfl ?_
                          refine s_load_at (Has.subL (Has.of_own s 0 rfl) 33 34 (D := eArr (_)) (mArr_t _ _)) h row25 rfl (eArr_size _) rfl ?_; intro f h
                          refine s_on h rfl rfl rfl ?_
                          refine s_pure h (ru_val (.bool false) (ru_neqW (eqE _ _) (by kernel_rfl) (by decide) (h.ev rfl) (h.ev rfl) (decide (m.t = (0, 0#256, 0))) (eNe _ _)) (congrArg Value.bool (by rw [xt]; rfl))) rfl ?_; intro f h
                          refine s_on h rfl rfl rfl ?_
                          refine s_pure h (ru_pick_t (h.ev rfl) (h.ev rfl)) rfl ?_; intro f h
                          refine s_pure h (ru_pick_f (h.ev rfl) (h.ev rfl)) rfl ?_; intro f h
                          refine s_pure h (ru_move (h.ev rfl)) rfl ?_; intro f h
                          refine s_on h rfl rfl rfl ?_
                          refine s_pure h (ru_field fld28_0 (h.ev rfl)) rfl ?_; intro f h
                          refine s_on h rfl rfl rfl ?_
                          refine s_load_at1 (cell_of_has (Has.of_own s 1 rfl) 0 (mArr_k _ _)) h one3 rfl rfl ?_; intro f h
                          refine s_on h rfl rfl rfl ?_
                          refine s_call h s fnc23 (ret_val (.bool false) (has_any m.k 115 _) (congrArg Value.bool ((hasF_s m.k).trans hS))) rfl rfl ?_; intro f w1 v9 hT hE h s; obtain rfl := hT
                          refine s_on h rfl rfl rfl ?_
                          refine s_pure h (ru_val (.bool true) (ru_not (h.ev rfl)) rfl) rfl ?_; intro f h
                          refine s_on h rfl rfl rfl ?_
                          refine s_pure h (ru_move (h.ev rfl)) rfl ?_; intro f h
                          refine s_on h rfl rfl rfl ?_
                          refine s_pure h (ru_field fld28_3 (h.ev rfl)) rfl ?_; intro f h
                          refine s_on h rfl rfl rfl ?_
                          refine s_load_at1 (cell_of_has (Has.of_own s 1 rfl) 67 (mArr_v _ _)) h one26 rfl rfl ?_; intro f h
                          refine s_on h rfl rfl rfl ?_
                          refine s_pure h (ru_lenZ (hv.keep s.ext) Try.underlying26 (h.ev rfl)) rfl ?_; intro f h
                          refine s_on h rfl rfl rfl ?_
                          refine s_pure h (ru_val (.bool true) (ru_gtr (h.ev rfl) (h.ev rfl)) (congrArg Value.bool (Eq.trans (decide_eq_decide.2 (by omega)) xs))) rfl ?_; intro f h
                          refine s_on h rfl rfl rfl ?_
                          refine s_pure h (ru_pick_t (h.ev rfl) (h.ev rfl)) rfl ?_; intro f h
                          refine s_pure h (ru_pick_f (h.ev rfl) (h.ev rfl)) rfl ?_; intro f h
                          refine s_nil ?_
                          refine t_norm ?_
                          exact ⟨h.only ⟨rfl, rfl, rfl, slot_as rfl (congrArg Value.bool (by unfold bd4; rw [hI, xi, hT, xt, hS, xs]; rfl)), trivial⟩, St.as s ⟨rfl, rfl, trivial⟩⟩
                      · skip
                        refine c_region ?_
                        refine s_pure h (ru_field fld28_0 (h.ev rfl)) rfl ?_; intro f h
                        refine s_load_at1 (cell_of_has (Has.of_own s 1 rfl) 0 (mArr_k _ _)) h one3 rfl rfl ?_; intro f h
                        refine s_call h s fnc23 (ret_val (.bool false) (has_any m.k 105 _) (congrArg Value.bool ((hasF_i m.k).trans hI))) rfl rfl ?_; intro f w1 v9 hT hE h s; obtain rfl := hT
                        refine s_pure h (ru_val (.bool true) (ru_not (h.ev rfl)) rfl) rfl ?_; intro f h
                        refine s_pure h (ru_move (h.ev rfl)) rfl ?_; intro f h
                        refine s_on h rfl rfl rfl ?_
                        refine s_pure h (ru_field fld28_1 (h.ev rfl)) rfl ?_; intro f h
                        refine s_on h rfl rfl rfl ?_
                        refine s_load_at (Has.subL (Has.of_own s 1 rfl) 1 32 (D := idArr (_)) (mArr_i _ _)) h row23 rfl (by first | exact idArr_size _ | exact bytesF_size _ _) rfl ?_; intro f h
                        refine s_on h rfl rfl rfl ?_
                        refine s_pure h (ru_field fld28_1 (h.ev rfl)) rfl ?_; intro f h
                        refine s_on h rfl rfl rfl ?_
                        refine s_load_at (Has.subL (Has.of_own s 0 rfl) 1 32 (D := idArr (_)) (mArr_i _ _)) h row23 rfl (by first | exact idArr_size _ | exact bytesF_size _ _) rfl ?_; intro f h
                        refine s_on h rfl rfl rfl ?_
                        refine s_pure h (ru_val (.bool false) (ru_neq_id idTy (h.ev rfl) (h.ev rfl)) (congrArg Value.bool xi)) rfl ?_; intro f h
                        refine s_pure h (ru_pick_t (h.ev rfl) (h.ev rfl)) rfl ?_; intro f h
                        refine s_pure h (ru_move (h.ev rfl)) rfl ?_; intro f h
                        refine s_on h rfl rfl rfl ?_
                        refine s_pure h (ru_field fld28_0 (h.ev rfl)) rfl ?_; intro f h
                        refine s_on h rfl rfl rfl ?_
                        refine s_load_at1 (cell_of_has (Has.of_own s 1 rfl) 0 (mArr_k _ _)) h one3 rfl rfl ?_; intro f h
                        refine s_on h rfl rfl rfl ?_
                        refine s_call h s fnc23 (ret_val (.bool false) (has_any m.k 116 _) (congrArg Value.bool ((hasF_t m.k).trans hT))) rfl rfl ?_; intro f w1 v9 hT hE h s; obtain rfl := hT
                        refine s_on h rfl rfl rfl ?_
                        refine s_pure h (ru_val (.bool true) (ru_not (h.ev rfl)) rfl) rfl ?_; intro f h
                        refine s_on h rfl rfl rfl ?_
                        refine s_pure h (ru_move (h.ev rfl)) rfl ?_; intro f h
                        refine s_on h rfl rfl rfl ?_
                        refine s_pure h (ru_field fld28_2 (h.ev rfl)) rfl ?_; intro f h
                        refine s_on h rfl rfl rfl ?_
                        refine s_load_at (Has.subL (Has.of_own s 1 rfl) 33 34 (D := eArr (_)) (mArr_t _ _)) h row25 rfl (eArr_size _) rfl ?_; intro f h
                        refine s_on h rfl rfl rfl ?_
                        refine s_pure h (ru_field fld28_2 (h.ev rfl)) rfl ?_; intro f h
                        refine s_on h rfl rfl rfl ?_
                        refine s_load_at (Has.subL (Has.of_own s 0 rfl) 33 34 (D := eArr (_)) (mArr_t _ _)) h row25 rfl (eArr_size _) rfl ?_; intro f h
                        refine s_on h rfl rfl rfl ?_
                        refine s_pure h (ru_val (.bool false) (ru_neqW (eqE _ _) (by kernel_rfl) (by decide) (h.ev rfl) (h.ev rfl) (decide (m.t = (0, 0#256, 0))) (eNe _ _)) (congrArg Value.bool (by rw [xt]; rfl))) rfl ?_; intro f h
                        refine s_on h rfl rfl rfl ?_
                        refine s_pure h (ru_pick_t (h.ev rfl) (h.ev rfl)) rfl ?_; intro f h
                        refine s_pure h (ru_pick_f (h.ev rfl) (h.ev rfl)) rfl ?_; intro f h
                        refine s_pure h (ru_move (h.ev rfl)) rfl ?_; intro f h
                        refine s_on h rfl rfl rfl ?_
                        refine s_pure h (ru_field fld28_0 (h.ev rfl)) rfl ?_; intro f h
                        refine s_on h rfl rfl rfl ?_
                        refine s_load_at1 (cell_of_has (Has.of_own s 1 rfl) 0 (mArr_k _ _)) h one3 rfl rfl ?_; intro f h
                        refine s_on h rfl rfl rfl ?_
                        refine s_call h s fnc23 (ret_val (.bool true) (has_any m.k 115 _) (congrArg Value.bool ((hasF_s m.k).trans hS))) rfl rfl ?_; intro f w1 v9 hT hE h s; obtain rfl := hT
                        refine s_on h rfl rfl rfl ?_
                        refine s_pure h (ru_val (.bool false) (ru_not (h.ev rfl)) rfl) rfl ?_; intro f h
                        refine s_on h rfl rfl rfl ?_
                        refine s_pure h (ru_move (h.ev rfl)) rfl ?_; intro f h
                        refine s_off (b := true) h rfl rfl rfl rfl ?_; intro f h
                        refine s_off (b := true) h rfl rfl rfl rfl ?_; intro f h
                        refine s_off (b := true) h rfl rfl rfl rfl ?_; intro f h
                        refine s_off (b := true) h rfl rfl rfl rfl ?_; intro f h
                        refine s_on h rfl rfl rfl ?_
                        refine s_pure h (ru_pick_f (h.ev rfl) (h.ev rfl)) rfl ?_; intro f h
                        refine s_pure h (ru_pick_f (h.ev rfl) (h.ev rfl)) rfl ?_; intro f h
                        refine s_nil ?_
                        refine t_norm ?_
                        exact ⟨h.only ⟨rfl, rfl, rfl, slot_as rfl (congrArg Value.bool (by unfold bd4; rw [hI, xi, hT, xt, hS]; rfl)), trivial⟩, St.as s ⟨rfl, rfl, trivial⟩⟩
                  · skip
                    cases hS : (hasS m.k : Bool)
                    · skip
                      cases xs : (decide (0 < m.l.length) : Bool)
                      · skip
                        refine c_region ?_
                        refine s_pure h (ru_field fld28_0 (h.ev rfl)) rfl ?_; intro f h
                        refine s_load_at1 (cell_of_has (Has.of_own s 1 rfl) 0 (mArr_k _ _)) h one3 rfl rfl ?_; intro f h
                        refine s_call h s fnc23 (ret_val (.bool false) (has_any m.k 105 _) (congrArg Value.bool ((hasF_i m.k).trans hI))) rfl rfl ?_; intro f w1 v9 hT hE h s; obtain rfl := hT
                        refine s_pure h (ru_val (.bool true) (ru_not (h.ev rfl)) rfl) rfl ?_; intro f h
                        refine s_pure h (ru_move (h.ev rfl)) rfl ?_; intro f h
                        refine s_on h rfl rfl rfl ?_
                        refine s_pure h (ru_field fld28_1 (h.ev rfl)) rfl ?_; intro f h
                        refine s_on h rfl rfl rfl ?_
                        refine s_load_at (Has.subL (Has.of_own s 1 rfl) 1 32 (D := idArr (_)) (mArr_i _ _)) h row23 rfl (by first | exact idArr_size _ | exact bytesF_size _ _) rfl ?_; intro f h
                        refine s_on h rfl rfl rfl ?_
                        refine s_pure h (ru_field fld28_1 (h.ev rfl)) rfl ?_; intro f h
                        refine s_on h rfl rfl rfl ?_
                        refine s_load_at (Has.subL (Has.of_own s 0 rfl) 1 32 (D := idArr (_)) (mArr_i _ _)) h row23 rfl (by first | exact idArr_size _ | exact bytesF_size _ _) rfl ?_; intro f h
                        refine s_on h rfl rfl rfl ?_
                        refine s_pure h (ru_val (.bool false) (ru_neq_id idTy (h.ev rfl) (h.ev rfl)) (congrArg Value.bool xi)) rfl ?_; intro f h
                        refine s_pure h (ru_pick_t (h.ev rfl) (h.ev rfl)) rfl ?_; intro f h
                        refine s_pure h (ru_move (h.ev rfl)) rfl ?_; intro f h
                        refine s_on h rfl rfl rfl ?_
                        refine s_pure h (ru_field fld28_0 (h.ev rfl)) rfl ?_; intro f h
                        refine s_on h rfl rfl rfl ?_
                        refine s_load_at1 (cell_of_has (Has.of_own s 1 rfl) 0 (mArr_k _ _)) h one3 rfl rfl ?_; intro f h
                        refine s_on h rfl rfl rfl ?_
                        refine s_call h s fnc23 (ret_val (.bool true) (has_any m.k 116 _) (congrArg Value.bool ((hasF_t m.k).trans hT))) rfl rfl ?_; intro f w1 v9 hT hE h s; obtain rfl := hT
                        refine s_on h rfl rfl rfl ?_
                        refine s_pure h (ru_val (.bool false) (ru_not (h.ev rfl)) rfl) rfl ?_; intro f h
                        refine s_on h rfl rfl rfl ?_
                        refine s_pure h (ru_move (h.ev rfl)) rfl ?_; intro f h
                        refine s_off (b := true) h rfl rfl rfl rfl ?_; intro f h
                        refine s_off (b := true) h rfl rfl rfl rfl ?_; intro f h
                        refine s_off (b := true) h rfl rfl rfl rfl ?_; intro f h
                        refine s_off (b := true) h rfl rfl rfl rfl ?_; intro f h
                        refine s_off (b := true) h rfl rfl rfl rfl ?_; intro f h
                        refine s_on h rfl rfl rfl ?_
                        refine s_pure h (ru_pick_f (h.ev rfl) (h.ev rfl)) rfl ?_; intro f h
                        refine s_pure h (ru_pick_f (h.ev rfl) (h.ev rfl)) rfl ?_; intro f h
                        refine s_pure h (ru_move (h.ev rfl)) rfl ?_; intro f h
                        refine s_on h rfl rfl rfl ?_
                        refine s_pure h (ru_field fld28_0 (h.ev rfl)) rfl ?_; intro f h
                        refine s_on h rfl rfl rfl ?_
                        refine s_load_at1 (cell_of_has (Has.of_own s 1 rfl) 0 (mArr_k _ _)) h one3 rfl rfl ?_; intro f h
                        refine s_on h rfl rfl rfl ?_
                        refine s_call h s fnc23 (ret_val (.bool false) (has_any m.k 115 _) (congrArg Value.bool ((hasF_s m.k).trans hS))) rfl rfl ?_; intro f w1 v9 hT hE h s; obtain rfl := hT
                        refine s_on h rfl rfl rfl ?_
                        refine s_pure h (ru_val (.bool true) (ru_not (h.ev rfl)) rfl) rfl ?_; intro f h
                        refine s_on h rfl rfl rfl ?_
                        refine s_pure h (ru_move (h.ev rfl)) rfl ?_; intro f h
                        refine s_on h rfl rfl rfl ?_
                        refine s_pure h (ru_field fld28_3 (h.ev rfl)) rfl ?_; intro f h
                        refine s_on h rfl rfl rfl ?_
                        refine s_load_at1 (cell_of_has (Has.of_own s 1 rfl) 67 (mArr_v _ _)) h one26 rfl rfl ?_; intro f h
                        refine s_on h rfl rfl rfl ?_
                        refine s_pure h (ru_lenZ (hv.keep s.ext) Try.underlying26 (h.ev rfl)) rfl ?_; intro f h
                        refine s_on h rfl rfl rfl ?_
                        refine s_pure h (ru_val (.bool false) (ru_gtr (h.ev rfl) (h.ev rfl)) (congrArg Value.bool (Eq.trans (decide_eq_decide.2 (by omega)) xs))) rfl ?_; intro f h
                        refine s_on h rfl rfl rfl ?_
                        refine s_pure h (ru_pick_t (h.ev rfl) (h.ev rfl)) rfl ?_; intro f h
                        refine s_pure h (ru_pick_f (h.ev rfl) (h.ev rfl)) rfl ?_; intro f h
                        refine s_nil ?_
                        refine t_norm ?_
                        exact ⟨h.only ⟨rfl, rfl, rfl, slot_as rfl (congrArg Value.bool (by unfold bd4; rw [hI, xi, hT, hS, xs]; rfl)), trivial⟩, St.as s ⟨rfl, rfl, trivial⟩⟩
                      · skip
                        refine c_region ?_
                        refine s_pure h (ru_field fld28_0 (h.ev rfl)) rfl ?_; intro f h
                        refine s_load_at1 (cell_of_has (Has.of_own s 1 rfl) 0 (mArr_k _ _)) h one3 rfl rfl ?_; intro f h
                        refine s_call h s fnc23 (ret_val (.bool false) (has_any m.k 105 _) (congrArg Value.bool ((hasF_i m.k).trans hI))) rfl rfl ?_; intro f w1 v9 hT hE h s; obtain rfl := hT
                        refine s_pure h (ru_val (.bool true) (ru_not (h.ev rfl)) rfl) rfl ?_; intro f h
                        refine s_pure h (ru_move (h.ev rfl)) rfl ?_; intro f h
                        refine s_on h rfl rfl rfl ?_
                        refine s_pure h (ru_field fld28_1 (h.ev rfl)) rfl ?_; intro f h
                        refine s_on h rfl rfl rfl ?_
                        refine s_load_at (Has.subL (Has.of_own s 1 rfl) 1 32 (D := idArr (_)) (mArr_i _ _)) h row23 rfl (by first | exact idArr_size _ | exact bytesF_size _ _) rfl ?_; intro f h
                        refine s_on h rfl rfl rfl ?_
                        refine s_pure h (ru_field fld28_1 (h.ev rfl)) rfl ?_; intro f h
                        refine s_on h rfl rfl rfl ?_
                        refine s_load_at (Has.subL (Has.of_own s 0 rfl) 1 32 (D := idArr (_)) (mArr_i _ _)) h row23 rfl (by first | exact idArr_size _ | exact bytesF_size _ _) rfl ?_; intro f h
                        refine s_on h rfl rfl rfl ?_
                        refine s_pure h (ru_val (.bool false) (ru_neq_id idTy (h.ev rfl) (h.ev rfl)) (congrArg Value.bool xi)) rfl ?_; intro f h
                        refine s_pure h (ru_pick_t (h.ev rfl) (h.ev rfl)) rfl ?_; intro f h
                        refine s_pure h (ru_move (h.ev rfl)) rfl ?_; intro f h
                        refine s_on h rfl rfl rfl ?_
                        refine s_pure h (ru_field fld28_0 (h.ev rfl)) rfl ?_; intro f h
                        refine s_on h rfl rfl rfl ?_
                        refine s_load_at1 (cell_of_has (Has.of_own s 1 rfl) 0 (mArr_k _ _)) h one3 rfl rfl ?_; intro f h
                        refine s_on h rfl rfl rfl ?_
                        refine s_call h s fnc23 (ret_val (.bool true) (has_any m.k 116 _) (congrArg Value.bool ((hasF_t m.k).trans hT))) rfl rfl ?_; intro f w1 v9 hT hE h s; obtain rfl := hT
                        refine s_on h rfl rfl rfl ?_
                        refine s_pure h (ru_val (.bool false) (ru_not (h.ev rfl)) rfl) rfl ?_; intro f h
                        refine s_on h rfl rfl rfl ?_
                        refine s_pure h (ru_move (h.ev rfl)) rfl ?_; intro f h
                        refine s_off (b := true) h rfl rfl rfl rfl ?_; intro f h
                        refine s_off (b := true) h rfl rfl rfl rfl ?_; intro f h
                        refine s_off (b := true) h rfl rfl rfl rfl ?_; intro f h
                        refine s_off (b := true) h rfl rfl rfl rfl ?_; intro f h
                        refine s_off (b := true) h rfl rfl rfl rfl ?_; intro f h
                        refine s_on h rfl rfl rfl ?_
                        refine s_pure h (ru_pick_f (h.ev rfl) (h.ev rfl)) rfl ?_; intro f h
                        refine s_pure h (ru_pick_f (h.ev rfl) (h.ev rfl)) rfl ?_; intro f h
                        refine s_pure h (ru_move (h.ev rfl)) rfl ?_; intro f h
                        refine s_on h rfl rfl rfl ?_
                        refine s_pure h (ru_field fld28_0 (h.ev rfl)) rfl ?_; intro f h
                        refine s_on h rfl rfl rfl ?_
                        refine s_load_at1 (cell_of_has (Has.of_own s 1 rfl) 0 (mArr_k _ _)) h one3 rfl rfl ?_; intro f h
                        refine s_on h rfl rfl rfl ?_
                        refine s_call h s fnc23 (ret_val (.bool false) (has_any m.k 115 _) (congrArg Value.bool ((hasF_s m.k).trans hS))) rfl rfl ?_; intro f w1 v9 hT hE h s; obtain rfl := hT
                        refine s_on h rfl rfl rfl ?_
                        refine s_pure h (ru_val (.bool true) (ru_not (h.ev rfl)) rfl) rfl ?_; intro f h
                        refine s_on h rfl rfl rfl ?_
                        refine s_pure h (ru_move (h.ev rfl)) rfl ?_; intro f h
                        refine s_on h rfl rfl rfl ?_
                        refine s_pure h (ru_field fld28_3 (h.ev rfl)) rfl ?_; intro f h
                        refine s_on h rfl rfl rfl ?_
                        refine s_load_at1 (cell_of_has (Has.of_own s 1 rfl) 67 (mArr_v _ _)) h one26 rfl rfl ?_; intro f h
                        refine s_on h rfl rfl rfl ?_
                        refine s_pure h (ru_lenZ (hv.keep s.ext) Try.underlying26 (h.ev rfl)) rfl ?_; intro f h
                        refine s_on h rfl rfl rfl ?_
                        refine s_pure h (ru_val (.bool true) (ru_gtr (h.ev rfl) (h.ev rfl)) (congrArg Value.bool (Eq.trans (decide_eq_decide.2 (by omega)) xs))) rfl ?_; intro f h
                        refine s_on h rfl rfl rfl ?_
                        refine s_pure h (ru_pick_t (h.ev rfl) (h.ev rfl)) rfl ?_; intro f h
                        refine s_pure h (ru_pick_f (h.ev rfl) (h.ev rfl)) rfl ?_; intro f h
                        refine s_nil ?_
                        refine t_norm ?_
                        exact ⟨h.only ⟨rfl, rfl, rfl, slot_as rfl (congrArg Value.bool (by unfold bd4; rw [hI, xi, hT, hS, xs]; rfl)), trivial⟩, St.as s ⟨rfl, rfl, trivial⟩⟩
                    · skip
                      refine c_region ?_
                      refine s_pure h (ru_field fld28_0 (h.ev rfl)) rfl ?_; intro f h
                      refine s_load_at1 (cell_of_has (Has.of_own s 1 rfl) 0 (mArr_k _ _)) h one3 rfl rfl ?_; intro f h
                      refine s_call h s fnc23 (ret_val (.bool false) (has_any m.k 105 _) (congrArg Value.bool ((hasF_i m.k).trans hI))) rfl rfl ?_; intro f w1 v9 hT hE h s; obtain rfl := hT
                      refine s_pure h (ru_val (.bool true) (ru_not (h.ev rfl)) rfl) rfl ?_; intro f h
                      refine s_pure h (ru_move (h.ev rfl)) rfl ?_; intro f h
                      refine s_on h rfl rfl rfl ?_
                      refine s_pure h (ru_field fld28_1 (h.ev rfl)) rfl ?_; intro f h
                      refine s_on h rfl rfl rfl ?_
                      refine s_load_at (Has.subL (Has.of_own s 1 rfl) 1 32 (D := idArr (_)) (mArr_i _ _)) h row23 rfl (by first | exact idArr_size _ | exact bytesF_size _ _) rfl ?_; intro f h
                      refine s_on h rfl rfl rfl ?_
                      refine s_pure h (ru_field fld28_1 (h.ev rfl)) rfl ?_; intro f h
                      refine s_on h rfl rfl rfl ?_
                      refine s_load_at (Has.subL (Has.of_own s 0 rfl) 1 32 (D := idArr (_)) (mArr_i _ _)) h row23 rfl (by first | exact idArr_size _ | exact bytesF_size _ _) rfl ?_; intro f h
                      refine s_on h rfl rfl rfl ?_
                      refine s_pure h (ru_val (.bool false) (ru_neq_id idTy (h.ev rfl) (h.ev rfl)) (congrArg Value.bool xi)) rfl ?_; intro f h
                      refine s_pure h (ru_pick_t (h.ev rfl) (h.ev rfl)) rfl ?_; intro f h
                      refine s_pure h (ru_move (h.ev rfl)) rfl ?_; intro f h
                      refine s_on h rfl rfl rfl ?_
                      refine s_pure h (ru_field fld28_0 (h.ev rfl)) rfl ?_; intro f h
                      refine s_on h rfl rfl rfl ?_
                      refine s_load_at1 (cell_of_has (Has.of_own s 1 rfl) 0 (mArr_k _ _)) h one3 rfl rfl ?_; intro f h
                      refine s_on h rfl rfl rfl ?_
                      refine s_call h s fnc23 (ret_val (.bool true) (has_any m.k 116 _) (congrArg Value.bool ((hasF_t m.k).trans hT))) rfl rfl ?_; intro f w1 v9 hT hE h s; obtain rfl := hT
                      refine s_on h rfl rfl rfl ?_
                      refine s_pure h (ru_val (.bool false) (ru_not (h.ev rfl)) rfl) rfl ?_; intro f h
                      refine s_on h rfl rfl rfl ?_
                      refine s_pure h (ru_move (h.ev rfl)) rfl ?_; intro f h
                      refine s_off (b := true) h rfl rfl rfl rfl ?_; intro f h
                      refine s_off (b := true) h rfl rfl rfl rfl ?_; intro f h
                      refine s_off (b := true) h rfl rfl rfl rfl ?_; intro f h
                      refine s_off (b := true) h rfl rfl rfl rfl ?_; intro f h
                      refine s_off (b := true) h rfl rfl rfl rfl ?_; intro f h
                      refine s_on h rfl rfl rfl ?_
                      refine s_pure h (ru_pick_f (h.ev rfl) (h.ev rfl)) rfl ?_; intro f h
                      refine s_pure h (ru_pick_f (h.ev rfl) (h.ev rfl)) rfl ?_; intro f h
                      refine s_pure h (ru_move (h.ev rfl)) rfl ?_; intro f h
                      refine s_on h rfl rfl rfl ?_
                      refine s_pure h (ru_field fld28_0 (h.ev rfl)) rfl ?_; intro f h
                      refine s_on h rfl rfl rfl ?_
                      refine s_load_at1 (cell_of_has (Has.of_own s 1 rfl) 0 (mArr_k _ _)) h one3 rfl rfl ?_; intro f h
                      refine s_on h rfl rfl rfl ?_
                      refine s_call h s fnc23 (ret_val (.bool true) (has_any m.k 115 _) (congrArg Value.bool ((hasF_s m.k).trans hS))) rfl rfl ?_; intro f w1 v9 hT hE h s; obtain rfl := hT
                      refine s_on h rfl rfl rfl ?_
                      refine s_pure h (ru_val (.bool false) (ru_not (h.ev rfl)) rfl) rfl ?_; intro f h
                      refine s_on h rfl rfl rfl ?_
                      refine s_pure h (ru_move (h.ev rfl)) rfl ?_; intro f h
                      refine s_off (b := true) h rfl rfl rfl rfl ?_; intro f h
                      refine s_off (b := true) h rfl rfl rfl rfl ?_; intro f h
                      refine s_off (b := true) h rfl rfl rfl rfl ?_; intro f h
                      refine s_off (b := true) h rfl rfl rfl rfl ?_; intro f h
                      refine s_on h rfl rfl rfl ?_
                      refine s_pure h (ru_pick_f (h.ev rfl) (h.ev rfl)) rfl ?_; intro f h
                      refine s_pure h (ru_pick_f (h.ev rfl) (h.ev rfl)) rfl ?_; intro f h
                      refine s_nil ?_
                      refine t_norm ?_
                      exact ⟨h.only ⟨rfl, rfl, rfl, slot_as rfl (congrArg Value.bool (by unfold bd4; rw [hI, xi, hT, hS]; rfl)), trivial⟩, St.as s ⟨rfl, rfl, trivial⟩⟩
                · skip
                  refine c_region ?_
                  refine s_pure h (ru_field fld28_0 (h.ev rfl)) rfl ?_; intro f h
                  refine s_load_at1 (cell_of_has (Has.of_own s 1 rfl) 0 (mArr_k _ _)) h one3 rfl rfl ?_; intro f h
                  refine s_call h s fnc23 (ret_val (.bool false) (has_any m.k 105 _) (congrArg Value.bool ((hasF_i m.k).trans hI))) rfl rfl ?_; intro f w1 v9 hT hE h s; obtain rfl := hT
                  refine s_pure h (ru_val (.bool true) (ru_not (h.ev rfl)) rfl) rfl ?_; intro f h
                  refine s_pure h (ru_move (h.ev rfl)) rfl ?_; intro f h
                  refine s_on h rfl rfl rfl ?_
                  refine s_pure h (ru_field fld28_1 (h.ev rfl)) rfl ?_; intro f h
                  refine s_on h rfl rfl rfl ?_
                  refine s_load_at (Has.subL (Has.of_own s 1 rfl) 1 32 (D := idArr (_)) (mArr_i _ _)) h row23 rfl (by first | exact idArr_size _ | exact bytesF_size _ _) rfl ?_; intro f h
                  refine s_on h rfl rfl rfl ?_
                  refine s_pure h (ru_field fld28_1 (h.ev rfl)) rfl ?_; intro f h
                  refine s_on h rfl rfl rfl ?_
                  refine s_load_at (Has.subL (Has.of_own s 0 rfl) 1 32 (D := idArr (_)) (mArr_i _ _)) h row23 rfl (by first | exact idArr_size _ | exact bytesF_size _ _) rfl ?_; intro f h
                  refine s_on h rfl rfl rfl ?_
                  refine s_pure h (ru_val (.bool true) (ru_neq_id idTy (h.ev rfl) (h.ev rfl)) (congrArg Value.bool xi)) rfl ?_; intro f h
                  refine s_pure h (ru_pick_t (h.ev rfl) (h.ev rfl)) rfl ?_; intro f h
                  refine s_pure h (ru_move (h.ev rfl)) rfl ?_; intro f h
                  refine s_off (b := false) h rfl rfl rfl rfl ?_; intro f h
                  refine s_off (b := false) h rfl rfl rfl rfl ?_; intro f h
                  refine s_off (b := false) h rfl rfl rfl rfl ?_; intro f h
                  refine s_off (b := false) h rfl rfl rfl rfl ?_; intro f h
                  refine s_off (b := false) h rfl rfl rfl rfl ?_; intro f h
                  refine s_none h rfl rfl rfl rfl ?_; intro f h
                  refine s_none h rfl rfl rfl rfl ?_; intro f h
                  refine s_none h rfl rfl rfl rfl ?_; intro f h
                  refine s_none h rfl rfl rfl rfl ?_; intro f h
                  refine s_none h rfl rfl rfl rfl ?_; intro f h
                  refine s_off (b := false) h rfl rfl rfl rfl ?_; intro f h
                  refine s_pure h (ru_pick_t (h.ev rfl) (h.ev rfl)) rfl ?_; intro f h
                  refine s_pure h (ru_move (h.ev rfl)) rfl ?_; intro f h
                  refine s_off (b := false) h rfl rfl rfl rfl ?_; intro f h
                  refine s_off (b := false) h rfl rfl rfl rfl ?_; intro f h
                  refine s_off (b := false) h rfl rfl rfl rfl ?_; intro f h
                  refine s_off (b := false) h rfl rfl rfl rfl ?_; intro f h
                  refine s_off (b := false) h rfl rfl rfl rfl ?_; intro f h
                  refine s_none h rfl rfl rfl rfl ?_; intro f h
                  refine s_none h rfl rfl rfl rfl ?_; intro f h
                  refine s_none h rfl rfl rfl rfl ?_; intro f h
                  refine s_none h rfl rfl rfl rfl ?_; intro f h
                  refine s_off (b := false) h rfl rfl rfl rfl ?_; intro f h
                  refine s_pure h (ru_pick_t (h.ev rfl) (h.ev rfl)) rfl ?_; intro f h
                  refine s_nil ?_
                  refine t_norm ?_
                  exact ⟨h.only ⟨rfl, rfl, rfl, slot_as rfl (congrArg Value.bool (by unfold bd4; rw [hI, xi]; rfl)), trivial⟩, St.as s ⟨rfl, rfl, trivial⟩⟩
              · skip
                cases hT : (hasT m.k : Bool)
                · skip
                  cases xt : (decide (m.t = (0, 0#256, 0)) : Bool)
                  · skip
                    refine c_region ?_
                    refine s_pure h (ru_field fld28_0 (h.ev rfl)) rfl ?_; intro f h
                    refine s_load_at1 (cell_of_has (Has.of_own s 1 rfl) 0 (mArr_k _ _)) h one3 rfl rfl ?_; intro f h
                    refine s_call h s fnc23 (ret_val (.bool true) (has_any m.k 105 _) (congrArg Value.bool ((hasF_i m.k).trans hI))) rfl rfl ?_; intro f w1 v9 hT hE h s; obtain rfl := hT
                    refine s_pure h (ru_val (.bool false) (ru_not (h.ev rfl)) rfl) rfl ?_; intro f h
                    refine s_pure h (ru_move (h.ev rfl)) rfl ?_; intro f h
                    refine s_off (b := true) h rfl rfl rfl rfl ?_; intro f h
                    refine s_off (b := true) h rfl rfl rfl rfl ?_; intro f h
                    refine s_off (b := true) h rfl rfl rfl rfl ?_; intro f h
                    refine s_off (b := true) h rfl rfl rfl rfl ?_; intro f h
                    refine s_off (b := true) h rfl rfl rfl rfl ?_; intro f h
                    refine s_pure h (ru_pick_f (h.ev rfl) (h.ev rfl)) rfl ?_; intro f h
                    refine s_pure h (ru_move (h.ev rfl)) rfl ?_; intro f h
                    refine s_on h rfl rfl rfl ?_
                    refine s_pure h (ru_field fld28_0 (h.ev rfl)) rfl ?_; intro f h
                    refine s_on h rfl rfl rfl ?_
                    refine s_load_at1 (cell_of_has (Has.of_own s 1 rfl) 0 (mArr_k _ _)) h one3 rfl rfl ?_; intro f h
                    refine s_on h rfl rfl rfl ?_
                    refine s_call h s fnc23 (ret_val (.bool false) (has_any m.k 116 _) (congrArg Value.bool ((hasF_t m.k).trans hT))) rfl rfl ?_; intro f w1 v9 hT hE h s; obtain rfl := hT
                    refine s_on h rfl rfl rfl ?_
                    refine s_pure h (ru_val (.bool true) (ru_not (h.ev rfl)) rfl) rfl ?_; intro f h
                    refine s_on h rfl rfl rfl ?_
                    refine s_pure h (ru_move (h.ev rfl)) rfl ?_; intro f h
                    refine s_on h rfl rfl rfl ?_
                    refine s_pure h (ru_field fld28_2 (h.ev rfl)) rfl ?_; intro f h
                    refine s_on h rfl rfl rfl ?_
                    refine s_load_at (Has.subL (Has.of_own s 1 rfl) 33 34 (D := eArr (_)) (mArr_t _ _)) h row25 rfl (eArr_size _) rfl ?_; intro f h
                    refine s_on h rfl rfl rfl ?_
                    refine s_pure h (ru_field fld28_2 (h.ev rfl)) rfl ?_; intro f h
                    refine s_on h rfl rfl rfl ?_
                    refine s_load_at (Has.subL (Has.of_own s 0 rfl) 33 34 (D := eArr (_)) (mArr_t _ _)) h row25 rfl (eArr_size _) rfl ?_; intro f h
                    refine s_on h rfl rfl rfl ?_
                    refine s_pure h (ru_val (.bool true) (ru_neqW (eqE _ _) (by kernel_rfl) (by decide) (h.ev rfl) (h.ev rfl) (decide (m.t = (0, 0#256, 0))) (eNe _ _)) (congrArg Value.bool (by rw [xt]; rfl))) rfl ?_; intro f h
                    refine s_on h rfl rfl rfl ?_
                    refine s_pure h (ru_pick_t (h.ev rfl) (h.ev rfl)) rfl ?_; intro f h
                    refine s_pure h (ru_pick_f (h.ev rfl) (h.ev rfl)) rfl ?_; intro f h
                    refine s_pure h (ru_move (h.ev rfl)) rfl ?_; intro f h
                    refine s_off (b := false) h rfl rfl rfl rfl ?_; intro f h
                    refine s_off (b := false) h rfl rfl rfl rfl ?_; intro f h
                    refine s_off (b := false) h rfl rfl rfl rfl ?_; intro f h
                    refine s_off (b := false) h rfl rfl rfl rfl ?_; intro f h
                    refine s_off (b := false) h rfl rfl rfl rfl ?_; intro f h
                    refine s_none h rfl rfl rfl rfl ?_; intro f h
                    refine s_none h rfl rfl rfl rfl ?_; intro f h
                    refine s_none h rfl rfl rfl rfl ?_; intro f h
                    refine s_none h rfl rfl rfl rfl ?_; intro f h
                    refine s_off (b := false) h rfl rfl rfl rfl ?_; intro f h
                    refine s_pure h (ru_pick_t (h.ev rfl) (h.ev rfl)) rfl ?_; intro f h
                    refine s_nil ?_
                    refine t_norm ?_
                    exact ⟨h.only ⟨rfl, rfl, rfl, slot_as rfl (congrArg Value.bool (by unfold bd4; rw [hI, hT, xt]; rfl)), trivial⟩, St.as s ⟨rfl, rfl, trivial⟩⟩
                  · skip
                    cases hS : (hasS m.k : Bool)
                    · skip
                      cases xs : (decide (0 < m.l.length) : Bool)
                      · skip
                        refine c_region ?_
                        refine s_pure h (ru_field fld28_0 (h.ev rfl)) rfl ?_; intro f h
                        refine s_load_at1 (cell_of_has (Has.of_own s 1 rfl) 0 (mArr_k _ _)) h one3 rfl rfl ?_; intro f h
                        refine s_call h s fnc23 (ret_val (.bool true) (has_any m.k 105 _) (congrArg Value.bool ((hasF_i m.k).trans hI))) rfl rfl ?_; intro f w1 v9 hT hE h s; obtain rfl := hT
                        refine s_pure h (ru_val (.bool false) (ru_not (h.ev rfl)) rfl) rfl ?_; intro f h
                        refine s_pure h (ru_move (h.ev rfl)) rfl ?_; intro f h
                        refine s_off (b := true) h rfl rfl rfl rfl ?_; intro f h
                        refine s_off (b := true) h rfl rfl rfl rfl ?_; intro f h
                        refine s_off (b := true) h rfl rfl rfl rfl ?_; intro f h
                        refine s_off (b := true) h rfl rfl rfl rfl ?_; intro f h
                        refine s_off (b := true) h rfl rfl rfl rfl ?_; intro f h
                        refine s_pure h (ru_pick_f (h.ev rfl) (h.ev rfl)) rfl ?_; intro f h
                        refine s_pure h (ru_move (h.ev rfl)) rfl ?_; intro f h
                        refine s_on h rfl rfl rfl ?_
                        refine s_pure h (ru_field fld28_0 (h.ev rfl)) rfl ?_; intro f h
                        refine s_on h rfl rfl rfl ?_
                        refine s_load_at1 (cell_of_has (Has.of_own s 1 rfl) 0 (mArr_k _ _)) h one3 rfl rfl ?_; intro f h
                        refine s_on h rfl rfl rfl ?_
                        refine s_call h s fnc23 (ret_val (.bool false) (has_any m.k 116 _) (congrArg Value.bool ((hasF_t m.k).trans hT))) rfl rfl ?_; intro f w1 v9 hT hE h s; obtain rfl := hT
                        refine s_on h rfl rfl rfl ?_
                        refine s_pure h (ru_val (.bool true) (ru_not (h.ev rfl)) rfl) rfl ?_; intro f h
                        refine s_on h rfl rfl rfl ?_
                        refine s_pure h (ru_move (h.ev rfl)) rfl ?_; intro f h
                        refine s_on h rfl rfl rfl ?_
                        refine s_pure h (ru_field fld28_2 (h.ev rfl)) rfl ?_; intro f h
                        refine s_on h rfl rfl rfl ?_
                        refine s_load_at (Has.subL (Has.of_own s 1 rfl) 33 34 (D := eArr (_)) (mArr_t _ _)) h row25 rfl (eArr_size _) rfl ?_; intro f h
                        refine s_on h rfl rfl rfl ?_
                        refine s_pure h (ru_field fld28_2 (h.ev rfl)) rfl ?_; intro f h
                        refine s_on h rfl rfl rfl ?_
                        refine s_load_at (Has.subL (Has.of_own s 0 rfl) 33 34 (D := eArr (_)) (mArr_t _ _)) h row25 rfl (eArr_size _) rfl ?_; intro f h
                        refine s_on h rfl rfl rfl ?_
                        refine s_pure h (ru_val (.bool false) (ru_neqW (eqE _ _) (by kernel_rfl) (by decide) (h.ev rfl) (h.ev rfl) (decide (m.t = (0, 0#256, 0))) (eNe _ _)) (congrArg Value.bool (by rw [xt]; rfl))) rfl ?_; intro f h
                        refine s_on h rfl rfl rfl ?_
                        refine s_pure h (ru_pick_t (h.ev rfl) (h.ev rfl)) rfl ?_; intro f h
                        refine s_pure h (ru_pick_f (h.ev rfl) (h.ev rfl)) rfl ?_; intro f h
                        refine s_pure h (ru_move (h.ev rfl)) rfl ?_; intro f h
                        refine s_on h rfl rfl rfl ?_
                        refine s_pure h (ru_field fld28_0 (h.ev rfl)) rfl ?_; intro f h
                        refine s_on h rfl rfl rfl ?_
                        refine s_load_at1 (cell_of_has (Has.of_own s 1 rfl) 0 (mArr_k _ _)) h one3 rfl rfl ?_; intro f h
                        refine s_on h rfl rfl rfl ?_
                        refine s_call h s fnc23 (ret_val (.bool false) (has_any m.k 115 _) (congrArg Value.bool ((hasF_s m.k).trans hS))) rfl rfl ?_; intro f w1 v9 hT hE h s; obtain rfl := hT
                        refine s_on h rfl rfl rfl ?_
                        refine s_pure h (ru_val (.bool true) (ru_not (h.ev rfl)) rfl) rfl ?_; intro f h
                        refine s_on h rfl rfl rfl ?_
                        refine s_pure h (ru_move (h.ev rfl)) rfl ?_; intro f h
                        refine s_on h rfl rfl rfl ?_
                        refine s_pure h (ru_field fld28_3 (h.ev rfl)) rfl ?_; intro f h
                        refine s_on h rfl rfl rfl ?_
                        refine s_load_at1 (cell_of_has (Has.of_own s 1 rfl) 67 (mArr_v _ _)) h one26 rfl rfl ?_; intro f h
                        refine s_on h rfl rfl rfl ?_
                        refine s_pure h (ru_lenZ (hv.keep s.ext) Try.underlying26 (h.ev rfl)) rfl ?_; intro f h
                        refine s_on h rfl rfl rfl ?_
                        refine s_pure h (ru_val (.bool false) (ru_gtr (h.ev rfl) (h.ev rfl)) (congrArg Value.bool (Eq.trans (decide_eq_decide.2 (by omega)) xs))) rfl ?_; intro f h
                        refine s_on h rfl rfl rfl ?_
                        refine s_pure h (ru_pick_t (h.ev rfl) (h.ev rfl)) rfl ?_; intro f h
                        refine s_pure h (ru_pick_f (h.ev rfl) (h.ev rfl)) rfl ?_; intro f h
                        refine s_nil ?_
                        refine t_norm ?_
                        exact ⟨h.only ⟨rfl, rfl, rfl, slot_as rfl (congrArg Value.bool (by unfold bd4; rw [hI, hT, xt, hS, xs]; rfl)), trivial⟩, St.as s ⟨rfl, rfl, trivial⟩⟩
                      · skip
                        refine c_region ?_
                        refine s_pure h (ru_field fld28_0 (h.ev rfl)) rfl ?_; intro f h
                        refine s_load_at1 (cell_of_has (Has.of_own s 1 rfl) 0 (mArr_k _ _)) h one3 rfl rfl ?_; intro f h
                        refine s_call h s fnc23 (ret_val (.bool true) (has_any m.k 105 _) (congrArg Value.bool ((hasF_i m.k).trans hI))) rfl rfl ?_; intro f w1 v9 hT hE h s; obtain rfl := hT
                        refine s_pure h (ru_val (.bool false) (ru_not (h.ev rfl)) rfl) rfl ?_; intro f h
                        refine s_pure h (ru_move (h.ev rfl)) rfl ?_; intro f h
                        refine s_off (b := true) h rfl rfl rfl rfl ?_; intro f h
                        refine s_off (b := true) h rfl rfl rfl rfl ?_; intro f h
                        refine s_off (b := true) h rfl rfl rfl rfl ?_; intro f h
                        refine s_off (b := true) h rfl rfl rfl rfl ?_; intro f h
                        refine s_off (b := true) h rfl rfl rfl rfl ?_; intro f h
                        refine s_pure h (ru_pick_f (h.ev rfl) (h.ev rfl)) rfl ?_; intro f h
                        refine s_pure h (ru_move (h.ev rfl)) rfl ?_; intro f h
                        refine s_on h rfl rfl rfl ?_
                        refine s_pure h (ru_field fld28_0 (h.ev rfl)) rfl ?_; intro f h
                        refine s_on h rfl rfl rfl ?_
                        refine s_load_at1 (cell_of_has (Has.of_own s 1 rfl) 0 (mArr_k _ _)) h one3 rfl rfl ?_; intro f h
                        refine s_on h rfl rfl rfl ?_
                        refine s_call h s fnc23 (ret_val (.bool false) (has_any m.k 116 _) (congrArg Value.bool ((hasF_t m.k).trans hT))) rfl rfl ?_; intro f w1 v9 hT hE h s; obtain rfl := hT
                        refine s_on h rfl rfl rfl ?_
                        refine s_pure h (ru_val (.bool true) (ru_not (h.ev rfl)) rfl) rfl ?_; intro f h
                        refine s_on h rfl rfl rfl ?_
                        refine s_pure h (ru_move (h.ev rfl)) rfl ?_; intro f h
                        refine s_on h rfl rfl rfl ?_
                        refine s_pure h (ru_field fld28_2 (h.ev rfl)) rfl ?_; intro f h
                        refine s_on h rfl rfl rfl ?_
                        refine s_load_at (Has.subL (Has.of_own s 1 rfl) 33 34 (D := eArr (_)) (mArr_t _ _)) h row25 rfl (eArr_size _) rfl ?_; intro f h
                        refine s_on h rfl rfl rfl ?_
                        refine s_pure h (ru_field fld28_2 (h.ev rfl)) rfl ?_; intro f h
                        refine s_on h rfl rfl rfl ?_
                        refine s_load_at (Has.subL (Has.of_own s 0 rfl) 33 34 (D := eArr (_)) (mArr_t _ _)) h row25 rfl (eArr_size _) rfl ?_; intro f h
                        refine s_on h rfl rfl rfl ?_
                        refine s_pure h (ru_val (.bool false) (ru_neqW (eqE _ _) (by kernel_rfl) (by decide) (h.ev rfl) (h.ev rfl) (decide (m.t = (0, 0#256, 0))) (eNe _ _)) (congrArg Value.bool (by rw [xt]; rfl))) rfl ?_; intro f h
                        refine s_on h rfl rfl rfl ?_
                        refine s_pure h (ru_pick_t (h.ev rfl) (h.ev rfl)) rfl ?_; intro f h
                        refine s_pure h (ru_pick_f (h.ev rfl) (h.ev rfl)) rfl ?_; intro f h
                        refine s_pure h (ru_move (h.ev rfl)) rfl ?_; intro f h
                        refine s_on h rfl rfl rfl ?_
                        refine s_pure h (ru_field fld28_0 (h.ev rfl)) rfl ?_; intro f h
                        refine s_on h rfl rfl rfl ?_
                        refine s_load_at1 (cell_of_has (Has.of_own s 1 rfl) 0 (mArr_k _ _)) h one3 rfl rfl ?_; intro f h
                        refine s_on h rfl rfl rfl ?_
                        refine s_call h s fnc23 (ret_val (.bool false) (has_any m.k 115 _) (congrArg Value.bool ((hasF_s m.k).trans hS))) rfl rfl ?_; intro f w1 v9 hT hE h s; obtain rfl := hT
                        refine s_on h rfl rfl rfl ?_
                        refine s_pure h (ru_val (.bool true) (ru_not (h.ev rfl)) rfl) rfl ?_; intro f h
                        refine s_on h rfl rfl rfl ?_
                        refine s_pure h (ru_move (h.ev rfl)) rfl ?_; intro f h
                        refine s_on h rfl rfl rfl ?_
                        refine s_pure h (ru_field fld28_3 (h.ev rfl)) rfl ?_; intro f h
                        refine s_on h rfl rfl rfl ?_
                        refine s_load_at1 (cell_of_has (Has.of_own s 1 rfl) 67 (mArr_v _ _)) h one26 rfl rfl ?_; intro f h
                        refine s_on h rfl rfl rfl ?_
                        refine s_pure h (ru_lenZ (hv.keep s.ext) Try.underlying26 (h.ev rfl)) rfl ?_; intro f h
                        refine s_on h rfl rfl rfl ?_
                        refine s_pure h (ru_val (.bool true) (ru_gtr (h.ev rfl) (h.ev rfl)) (congrArg Value.bool (Eq.trans (decide_eq_decide.2 (by omega)) xs))) rfl ?_; intro f h
                        refine s_on h rfl rfl rfl ?_
                        refine s_pure h (ru_pick_t (h.ev rfl) (h.ev rfl)) rfl ?_; intro f h
                        refine s_pure h (ru_pick_f (h.ev rfl) (h.ev rfl)) rfl ?_; intro f h
                        refine s_nil ?_
                        refine t_norm ?_
                        exact ⟨h.only ⟨rfl, rfl, rfl, slot_as rfl (congrArg Value.bool (by unfold bd4; rw [hI, hT, xt, hS, xs]; rfl)), trivial⟩, St.as s ⟨rfl, rfl, trivial⟩⟩
                    · skip
                      refine c_region ?_
                      refine s_pure h (ru_field fld28_0 (h.ev rfl)) rfl ?_; intro f h
                      refine s_load_at1 (cell_of_has (Has.of_own s 1 rfl) 0 (mArr_k _ _)) h one3 rfl rfl ?_; intro f h
                      refine s_call h s fnc23 (ret_val (.bool true) (has_any m.k 105 _) (congrArg Value.bool ((hasF_i m.k).trans hI))) rfl rfl ?_; intro f w1 v9 hT hE h s; obtain rfl := hT
                      refine s_pure h (ru_val (.bool false) (ru_not (h.ev rfl)) rfl) rfl ?_; intro f h
                      refine s_pure h (ru_move (h.ev rfl)) rfl ?_; intro f h
                      refine s_off (b := true) h rfl rfl rfl rfl ?_; intro f h
                      refine s_off (b := true) h rfl rfl rfl rfl ?_; intro f h
                      refine s_off (b := true) h rfl rfl rfl rfl ?_; intro f h
                      refine s_off (b := true) h rfl rfl rfl rfl ?_; intro f h
                      refine s_off (b := true) h rfl rfl rfl rfl ?_; intro f h
                      refine s_pure h (ru_pick_f (h.ev rfl) (h.ev rfl)) rfl ?_; intro f h
                      refine s_pure h (ru_move (h.ev rfl)) rfl ?_; intro f h
                      refine s_on h rfl rfl rfl ?_
                      refine s_pure h (ru_field fld28_0 (h.ev rfl)) rfl ?_; intro f h
                      refine s_on h rfl rfl rfl ?_
                      refine s_load_at1 (cell_of_has (Has.of_own s 1 rfl) 0 (mArr_k _ _)) h one3 rfl rfl ?_; intro f h
                      refine s_on h rfl rfl rfl ?_
                      refine s_call h s fnc23 (ret_val (.bool false) (has_any m.k 116 _) (congrArg Value.bool ((hasF_t m.k).trans hT))) rfl rfl ?_; intro f w1 v9 hT hE h s; obtain rfl := hT
                      refine s_on h rfl rfl rfl ?_
                      refine s_pure h (ru_val (.bool true) (ru_not (h.ev rfl)) rfl) rfl ?_; intro f h
                      refine s_on h rfl rfl rfl ?_
                      refine s_pure h (ru_move (h.ev rfl)) rfl ?_; intro f h
                      refine s_on h rfl rfl rfl ?_
                      refine s_pure h (ru_field fld28_2 (h.ev rfl)) rfl ?_; intro f h
                      refine s_on h rfl rfl rfl ?_
                      refine s_load_at (Has.subL (Has.of_own s 1 rfl) 33 34 (D := eArr (_)) (mArr_t _ _)) h row25 rfl (eArr_size _) rfl ?_; intro f h
                      refine s_on h rfl rfl rfl ?_
                      refine s_pure h (ru_field fld28_2 (h.ev rfl)) rfl ?_; intro f h
                      refine s_on h rfl rfl rfl ?_
                      refine s_load_at (Has.subL (Has.of_own s 0 rfl) 33 34 (D := eArr (_)) (mArr_t _ _)) h row25 rfl (eArr_size _) rfl ?_; intro f h
                      refine s_on h rfl rfl rfl ?_
                      refine s_pure h (ru_val (.bool false) (ru_neqW (eqE _ _) (by kernel_rfl) (by decide) (h.ev rfl) (h.ev rfl) (decide (m.t = (0, 0#256, 0))) (eNe _ _)) (congrArg Value.bool (by rw [xt]; rfl))) rfl ?_; intro f h
                      refine s_on h rfl rfl rfl ?_
                      refine s_pure h (ru_pick_t (h.ev rfl) (h.ev rfl)) rfl ?_; intro f h
                      refine s_pure h (ru_pick_f (h.ev rfl) (h.ev rfl)) rfl ?_; intro f h
                      refine s_pure h (ru_move (h.ev rfl)) rfl ?_; intro f h
                      refine s_on h rfl rfl rfl ?_
                      refine s_pure h (ru_field fld28_0 (h.ev rfl)) rfl ?_; intro f h
                      refine s_on h rfl rfl rfl ?_
                      refine s_load_at1 (cell_of_has (Has.of_own s 1 rfl) 0 (mArr_k _ _)) h one3 rfl rfl ?_; intro f h
                      refine s_on h rfl rfl rfl ?_
                      refine s_call h s fnc23 (ret_val (.bool true) (has_any m.k 115 _) (congrArg Value.bool ((hasF_s m.k).trans hS))) rfl rfl ?_; intro f w1 v9 hT hE h s; obtain rfl := hT
                      refine s_on h rfl rfl rfl ?_
                      refine s_pure h (ru_val (.bool false) (ru_not (h.ev rfl)) rfl) rfl ?_; intro f h
                      refine s_on h rfl rfl rfl ?_
                      refine s_pure h (ru_move (h.ev rfl)) rfl ?_; intro f h
                      refine s_off (b := true) h rfl rfl rfl rfl ?_; intro f h
                      refine s_off (b := true) h rfl rfl rfl rfl ?_; intro f h
                      refine s_off (b := true) h rfl rfl rfl rfl ?_; intro f h
                      refine s_off (b := true) h rfl rfl rfl rfl ?_; intro f h
                      refine s_on h rfl rfl rfl ?_
                      refine s_pure h (ru_pick_f (h.ev rfl) (h.ev rfl)) rfl ?_; intro f h
                      refine s_pure h (ru_pick_f (h.ev rfl) (h.ev rfl)) rfl ?_; intro f h
                      refine s_nil ?_
                      refine t_norm ?_
                      exact ⟨h.only ⟨rfl, rfl, rfl, slot_as rfl (congrArg Value.bool (by unfold bd4; rw [hI, hT, xt, hS]; rfl)), trivial⟩, St.as s ⟨rfl, rfl, trivial⟩⟩
                · skip
                  cases hS : (hasS m.k : Bool)
                  · skip
                    cases xs : (decide (0 < m.l.length) : Bool)
                    · skip
                      refine c_region ?_
                      refine s_pure h (ru_field fld28_0 (h.ev rfl)) rfl ?_; intro f h
                      refine s_load_at1 (cell_of_has (Has.of_own s 1 rfl) 0 (mArr_k _ _)) h one3 rfl rfl ?_; intro f h
                      refine s_call h s fnc23 (ret_val (.bool true) (has_any m.k 105 _) (congrArg Value.bool ((hasF_i m.k).trans hI))) rfl rfl ?_; intro f w1 v9 hT hE h s; obtain rfl := hT
                      refine s_pure h (ru_val (.bool false) (ru_not (h.ev rfl)) rfl) rfl ?_; intro f h
                      refine s_pure h (ru_move (h.ev rfl)) rfl ?_; intro f h
                      refine s_off (b := true) h rfl rfl rfl rfl ?_; intro f h
                      refine s_off (b := true) h rfl rfl rfl rfl ?_; intro f h
                      refine s_off (b := true) h rfl rfl rfl rfl ?_; intro f h
                      refine s_off (b := true) h rfl rfl rfl rfl ?_; intro f h
                      refine s_off (b := true) h rfl rfl rfl rfl ?_; intro f h
                      refine s_pure h (ru_pick_f (h.ev rfl) (h.ev rfl)) rfl ?_; intro f h
                      refine s_pure h (ru_move (h.ev rfl)) rfl ?_; intro f h
                      refine s_on h rfl rfl rfl ?_
                      refine s_pure h (ru_field fld28_0 (h.ev rfl)) rfl ?_; intro f h
                      refine s_on h rfl rfl rfl ?_
                      refine s_load_at1 (cell_of_has (Has.of_own s 1 rfl) 0 (mArr_k _ _)) h one3 rfl rfl ?_; intro f h
                      refine s_on h rfl rfl rfl ?_
                      refine s_call h s fnc23 (ret_val (.bool true) (has_any m.k 116 _) (congrArg Value.bool ((hasF_t m.k).trans hT))) rfl rfl ?_; intro f w1 v9 hT hE h s; obtain rfl := hT
                      refine s_on h rfl rfl rfl ?_
                      refine s_pure h (ru_val (.bool false) (ru_not (h.ev rfl)) rfl) rfl ?_; intro f h
                      refine s_on h rfl rfl rfl ?_
                      refine s_pure h (ru_move (h.ev rfl)) rfl ?_; intro f h
                      refine s_off (b := true) h rfl rfl rfl rfl ?_; intro f h
                      refine s_off (b := true) h rfl rfl rfl rfl ?_; intro f h
                      refine s_off (b := true) h rfl rfl rfl rfl ?_; intro f h
                      refine s_off (b := true) h rfl rfl rfl rfl ?_; intro f h
                      refine s_off (b := true) h rfl rfl rfl rfl ?_; intro f h
                      refine s_on h rfl rfl rfl ?_
                      refine s_pure h (ru_pick_f (h.ev rfl) (h.ev rfl)) rfl ?_; intro f h
                      refine s_pure h (ru_pick_f (h.ev rfl) (h.ev rfl)) rfl ?_; intro f h
                      refine s_pure h (ru_move (h.ev rfl)) rfl ?_; intro f h
                      refine s_on h rfl rfl rfl ?_
                      refine s_pure h (ru_field fld28_0 (h.ev rfl)) rfl ?_; intro f h
                      refine s_on h rfl rfl rfl ?_
                      refine s_load_at1 (cell_of_has (Has.of_own s 1 rfl) 0 (mArr_k _ _)) h one3 rfl rfl ?_; intro f h
                      refine s_on h rfl rfl rfl ?_
                      refine s_call h s fnc23 (ret_val (.bool false) (has_any m.k 115 _) (congrArg Value.bool ((hasF_s m.k).trans hS))) rfl rfl ?_; intro f w1 v9 hT hE h s; obtain rfl := hT
                      refine s_on h rfl rfl rfl ?_
                      refine s_pure h (ru_val (.bool true) (ru_not (h.ev rfl)) rfl) rfl ?_; intro f h
                      refine s_on h rfl rfl rfl ?_
                      refine s_pure h (ru_move (h.ev rfl)) rfl ?_; intro f h
                      refine s_on h rfl rfl rfl ?_
                      refine s_pure h (ru_field fld28_3 (h.ev rfl)) rfl ?_; intro f h
                      refine s_on h rfl rfl rfl ?_
                      refine s_load_at1 (cell_of_has (Has.of_own s 1 rfl) 67 (mArr_v _ _)) h one26 rfl rfl ?_; intro f h
                      refine s_on h rfl rfl rfl ?_
                      refine s_pure h (ru_lenZ (hv.keep s.ext) Try.underlying26 (h.ev rfl)) rfl ?_; intro f h
                      refine s_on h rfl rfl rfl ?_
                      refine s_pure h (ru_val (.bool false) (ru_gtr (h.ev rfl) (h.ev rfl)) (congrArg Value.bool (Eq.trans (decide_eq_decide.2 (by omega)) xs))) rfl ?_; intro f h
                      refine s_on h rfl rfl rfl ?_
                      refine s_pure h (ru_pick_t (h.ev rfl) (h.ev rfl)) rfl ?_; intro f h
                      refine s_pure h (ru_pick_f (h.ev rfl) (h.ev rfl)) rfl ?_; intro f h
                      refine s_nil ?_
                      refine t_norm ?_
                      exact ⟨h.only ⟨rfl, rfl, rfl, slot_as rfl (congrArg Value.bool (by unfold bd4; rw [hI, hT, hS, xs]; rfl)), trivial⟩, St.as s ⟨rfl, rfl, trivial⟩⟩
                    · skip
                      refine c_region ?_
                      refine s_pure h (ru_field fld28_0 (h.ev rfl)) rfl ?_; intro f h
                      refine s_load_at1 (cell_of_has (Has.of_own s 1 rfl) 0 (mArr_k _ _)) h one3 rfl rfl ?_; intro f h
                      refine s_call h s fnc23 (ret_val (.bool true) (has_any m.k 105 _) (congrArg Value.bool ((hasF_i m.k).trans hI))) rfl rfl ?_; intro f w1 v9 hT hE h s; obtain rfl := hT
                      refine s_pure h (ru_val (.bool false) (ru_not (h.ev rfl)) rfl) rfl ?_; intro f h
                      refine s_pure h (ru_move (h.ev rfl)) rfl ?_; intro f h
                      refine s_off (b := true) h rfl rfl rfl rfl ?_; intro f h
                      refine s_off (b := true) h rfl rfl rfl rfl ?_; intro f h
                      refine s_off (b := true) h rfl rfl rfl rfl ?_; intro f h
                      refine s_off (b := true) h rfl rfl rfl rfl ?_; intro f h
                      refine s_off (b := true) h rfl rfl rfl rfl ?_; intro f h
                      refine s_pure h (ru_pick_f (h.ev rfl) (h.ev rfl)) rfl ?_; intro f h
                      refine s_pure h (ru_move (h.ev rfl)) rfl ?_; intro f h
                      refine s_on h rfl rfl rfl ?_
                      refine s_pure h (ru_field fld28_0 (h.ev rfl)) rfl ?_; intro f h
                      refine s_on h rfl rfl rfl ?_
                      refine s_load_at1 (cell_of_has (Has.of_own s 1 rfl) 0 (mArr_k _ _)) h one3 rfl rfl ?_; intro f h
                      refine s_on h rfl rfl rfl ?_
                      refine s_call h s fnc23 (ret_val (.bool true) (has_any m.k 116 _) (congrArg Value.bool ((hasF_t m.k).trans hT))) rfl rfl ?_; intro f w1 v9 hT hE h s; obtain rfl := hT
                      refine s_on h rfl rfl rfl ?_
                      refine s_pure h (ru_val (.bool false) (ru_not (h.ev rfl)) rfl) rfl ?_; intro f h
                      refine s_on h rfl rfl rfl ?_
                      refine s_pure h (ru_move (h.ev rfl)) rfl ?_; intro f h
                      refine s_off (b := true) h rfl rfl rfl rfl ?_; intro f h
                      refine s_off (b := true) h rfl rfl rfl rfl ?_; intro f h
                      refine s_off (b := true) h rfl rfl rfl rfl ?_; intro f h
                      refine s_off (b := true) h rfl rfl rfl rfl ?_; intro f h
                      refine s_off (b := true) h rfl rfl rfl rfl ?_; intro f h
                      refine s_on h rfl rfl rfl ?_
                      refine s_pure h (ru_pick_f (h.ev rfl) (h.ev rfl)) rfl ?_; intro f h
                      refine s_pure h (ru_pick_f (h.ev rfl) (h.ev rfl)) rfl ?_; intro f h
                      refine s_pure h (ru_move (h.ev rfl)) rfl ?_; intro f h
                      refine s_on h rfl rfl rfl ?_
                      refine s_pure h (ru_field fld28_0 (h.ev rfl)) rfl ?_; intro f h
                      refine s_on h rfl rfl rfl ?_
                      refine s_load_at1 (cell_of_has (Has.of_own s 1 rfl) 0 (mArr_k _ _)) h one3 rfl rfl ?_; intro f h
                      refine s_on h rfl rfl rfl ?_
                      refine s_call h s fnc23 (ret_val (.bool false) (has_any m.k 115 _) (congrArg Value.bool ((hasF_s m.k).trans hS))) rfl rfl ?_; intro f w1 v9 hT hE h s; obtain rfl := hT
                      refine s_on h rfl rfl rfl ?_
                      refine s_pure h (ru_val (.bool true) (ru_not (h.ev rfl)) rfl) rfl ?_; intro f h
                      refine s_on h rfl rfl rfl ?_
                      refine s_pure h (ru_move (h.ev rfl)) rfl ?_; intro f h
                      refine s_on h rfl rfl rfl ?_
                      refine s_pure h (ru_field fld28_3 (h.ev rfl)) rfl ?_; intro f h
                      refine s_on h rfl rfl rfl ?_
                      refine s_load_at1 (cell_of_has (Has.of_own s 1 rfl) 67 (mArr_v _ _)) h one26 rfl rfl ?_; intro f h
                      refine s_on h rfl rfl rfl ?_
                      refine s_pure h (ru_lenZ (hv.keep s.ext) Try.underlying26 (h.ev rfl)) rfl ?_; intro f h
                      refine s_on h rfl rfl rfl ?_
                      refine s_pure h (ru_val (.bool true) (ru_gtr (h.ev rfl) (h.ev rfl)) (congrArg Value.bool (Eq.trans (decide_eq_decide.2 (by omega)) xs))) rfl ?_; intro f h
                      refine s_on h rfl rfl rfl ?_
                      refine s_pure h (ru_pick_t (h.ev rfl) (h.ev rfl)) rfl ?_; intro f h
                      refine s_pure h (ru_pick_f (h.ev rfl) (h.ev rfl)) rfl ?_; intro f h
                      refine s_nil ?_
                      refine t_norm ?_
                      exact ⟨h.only ⟨rfl, rfl, rfl, slot_as rfl (congrArg Value.bool (by unfold bd4; rw [hI, hT, hS, xs]; rfl)), trivial⟩, St.as s ⟨rfl, rfl, trivial⟩⟩
                  · skip
                    refine c_region ?_
                    refine s_pure h (ru_field fld28_0 (h.ev rfl)) rfl ?_; intro f h
                    refine s_load_at1 (cell_of_has (Has.of_own s 1 rfl) 0 (mArr_k _ _)) h one3 rfl rfl ?_; intro f h
                    refine s_call h s fnc23 (ret_val (.bool true) (has_any m.k 105 _) (congrArg Value.bool ((hasF_i m.k).trans hI))) rfl rfl ?_; intro f w1 v9 hT hE h s; obtain rfl := hT
                    refine s_pure h (ru_val (.bool false) (ru_not (h.ev rfl)) rfl) rfl ?_; intro f h
                    refine s_pure h (ru_move (h.ev rfl)) rfl ?_; intro f h
                    refine s_off (b := true) h rfl rfl rfl rfl ?_; intro f h
                    refine s_off (b := true) h rfl rfl rfl rfl ?_; intro f h
                    refine s_off (b := true) h rfl rfl rfl rfl ?_; intro f h
                    refine s_off (b := true) h rfl rfl rfl rfl ?_; intro f h
                    refine s_off (b := true) h rfl rfl rfl rfl ?_; intro f h
                    refine s_pure h (ru_pick_f (h.ev rfl) (h.ev rfl)) rfl ?_; intro f h
                    refine s_pure h (ru_move (h.ev rfl)) rfl ?_; intro f h
                    refine s_on h rfl rfl rfl ?_
                    refine s_pure h (ru_field fld28_0 (h.ev rfl)) rfl ?_; intro f h
                    refine s_on h rfl rfl rfl ?_
                    refine s_load_at1 (cell_of_has (Has.of_own s 1 rfl) 0 (mArr_k _ _)) h one3 rfl rfl ?_; intro f h
                    refine s_on h rfl rfl rfl ?_
                    refine s_call h s fnc23 (ret_val (.bool true) (has_any m.k 116 _) (congrArg Value.bool ((hasF_t m.k).trans hT))) rfl rfl ?_; intro f w1 v9 hT hE h s; obtain rfl := hT
                    refine s_on h rfl rfl rfl ?_
                    refine s_pure h (ru_val (.bool false) (ru_not (h.ev rfl)) rfl) rfl ?_; intro f h
                    refine s_on h rfl rfl rfl ?_
                    refine s_pure h (ru_move (h.ev rfl)) rfl ?_; intro f h
                    refine s_off (b := true) h rfl rfl rfl rfl ?_; intro f h
                    refine s_off (b := true) h rfl rfl rfl rfl ?_; intro f h
                    refine s_off (b := true) h rfl rfl rfl rfl ?_; intro f h
                    refine s_off (b := true) h rfl rfl rfl rfl ?_; intro f h
                    refine s_off (b := true) h rfl rfl rfl rfl ?_; intro f h
                    refine s_on h rfl rfl rfl ?_
                    refine s_pure h (ru_pick_f (h.ev rfl) (h.ev rfl)) rfl ?_; intro f h
                    refine s_pure h (ru_pick_f (h.ev rfl) (h.ev rfl)) rfl ?_; intro f h
                    refine s_pure h (ru_move (h.ev rfl)) rfl ?_; intro f h
                    refine s_on h rfl rfl rfl ?_
                    refine s_pure h (ru_field fld28_0 (h.ev rfl)) rfl ?_; intro f h
                    refine s_on h rfl rfl rfl ?_
                    refine s_load_at1 (cell_of_has (Has.of_own s 1 rfl) 0 (mArr_k _ _)) h one3 rfl rfl ?_; intro f h
                    refine s_on h rfl rfl rfl ?_
                    refine s_call h s fnc23 (ret_val (.bool true) (has_any m.k 115 _) (congrArg Value.bool ((hasF_s m.k).trans hS))) rfl rfl ?_; intro f w1 v9 hT hE h s; obtain rfl := hT
                    refine s_on h rfl rfl rfl ?_
                    refine s_pure h (ru_val (.bool false) (ru_not (h.ev rfl)) rfl) rfl ?_; intro f h
                    refine s_on h rfl rfl rfl ?_
                    refine s_pure h (ru_move (h.ev rfl)) rfl ?_; intro f h
                    refine s_off (b := true) h rfl rfl rfl rfl ?_; intro f h
                    refine s_off (b := true) h rfl rfl rfl rfl ?_; intro f h
                    refine s_off (b := true) h rfl rfl rfl rfl ?_; intro f h
                    refine s_off (b := true) h rfl rfl rfl rfl ?_; intro f h
                    refine s_on h rfl rfl rfl ?_
                    refine s_pure h (ru_pick_f (h.ev rfl) (h.ev rfl)) rfl ?_; intro f h
                    refine s_pure h (ru_pick_f (h.ev rfl) (h.ev rfl)) rfl ?_; intro f h
                    refine s_nil ?_
                    refine t_norm ?_
                    exact ⟨h.only ⟨rfl, rfl, rfl, slot_as rfl (congrArg Value.bool (by unfold bd4; rw [hI, hT, hS]; rfl)), trivial⟩, St.as s ⟨rfl, rfl, trivial⟩⟩
            rintro f w1 ⟨h, s⟩
            refine hK6 _ _ ?_
            refine c_cond h rfl (fun hc => ?_) (fun hc => ?_)
            · refine c_seq fun K8 hK8 => ?_
              refine c_region ?_
              refine s_pure h (ru_assign (h.ev rfl)) rfl ?_; intro f h
              refine s_nil ?_
              refine hK8 _ _ ?_
              refine wpIn_ret ?_
              refine t_ret ?_
              exact e_tmp rfl h s rfl (by show _ = _; rw [right_ref' (of_decide_eq_false g1) (of_decide_eq_false g2) (of_decide_eq_false g3) (of_decide_eq_false g4) (of_decide_eq_false g5), hc]; rfl)
            · have hb4 := hc
              refine wpIn_skip ?_
              refine hK5 _ _ ?_
              refine c_seq fun K9 hK9 => ?_
              refine c_seq fun K10 hK10 => ?_
              refine c_join (fun aa ww => Sl 115 aa [(0, .agg (mArr m vs)), (1, .pointer (some ⟨b1, 0, none⟩)), (3, .pointer (some ⟨b3, 0, none⟩)), (84, .bool (bd6 m))] ∧ St w [.blk b3 (.cells ((mArr mZ (.slice none 0 0))) 28), .blk b1 (.cells ((mArr m vs)) 28)] ww) ?_ ?_
              · skip
                cases hN : (hasN m.k : Bool)
                · skip
                  cases xn : (decide (m.n ≠ 0) : Bool)
                  · skip
                    cases hD : (hasD m.k : Bool)
                    · skip
                      cases xd : (decide (m.d ≠ ⟨#[]⟩) : Bool)
                      · skip
                        refine c_region ?_
                        refine s_pure h (ru_field fld28_0 (h.ev rfl)) rfl ?_; intro f h
                        refine s_load_at1 (cell_of_has (Has.of_own s 1 rfl) 0 (mArr_k _ _)) h one3 rfl rfl ?_; intro f h
                        refine s_call h s fnc23 (ret_val (.bool false) (has_any m.k 110 _) (congrArg Value.bool ((hasF_n m.k).trans hN))) rfl rfl ?_; intro f w1 v9 hT hE h s; obtain rfl := hT
                        refine s_pure h (ru_val (.bool true) (ru_not (h.ev rfl)) rfl) rfl ?_; intro f h
                        refine s_pure h (ru_move (h.ev rfl)) rfl ?_; intro f h
                        refine s_on h rfl rfl rfl ?_
                        refine s_pure h (ru_field fld28_4 (h.ev rfl)) rfl ?_; intro f h
                        refine s_on h rfl rfl rfl ?_
                        refine s_load_at1 (cell_of_has (Has.of_own s 1 rfl) 68 (mArr_n _ _)) h one3 rfl rfl ?_; intro f h
                        refine s_on h rfl rfl rfl ?_
                        refine s_pure h (ru_val (.bool false) (ru_neq (h.ev rfl) (h.ev rfl)) (congrArg Value.bool xn)) rfl ?_; intro f h
                        refine s_pure h (ru_pick_t (h.ev rfl) (h.ev rfl)) rfl ?_; intro f h
                        refine s_pure h (ru_move (h.ev rfl)) rfl ?_; intro f h
                        refine s_on h rfl rfl rfl ?_
                        refine s_pure h (ru_field fld28_0 (h.ev rfl)) rfl ?_; intro f h
                        refine s_on h rfl rfl rfl ?_
                        refine s_load_at1 (cell_of_has (Has.of_own s 1 rfl) 0 (mArr_k _ _)) h one3 rfl rfl ?_; intro f h
                        refine s_on h rfl rfl rfl ?_
                        refine s_call h s fnc23 (ret_val (.bool false) (has_any m.k 100 _) (congrArg Value.bool ((hasF_d m.k).trans hD))) rfl rfl ?_; intro f w1 v9 hT hE h s; obtain rfl := hT
                        refine s_on h rfl rfl rfl ?_
                        refine s_pure h (ru_val (.bool true) (ru_not (h.ev rfl)) rfl) rfl ?_; intro f h
                        refine s_on h rfl rfl rfl ?_
                        refine s_pure h (ru_move (h.ev rfl)) rfl ?_; intro f h
                        refine s_on h rfl rfl rfl ?_
                        refine s_pure h (ru_field fld28_6 (h.ev rfl)) rfl ?_; intro f h
                        refine s_on h rfl rfl rfl ?_
                        refine s_load_at1 (cell_of_has (Has.of_own s 1 rfl) 70 (mArr_d _ _)) h one9 rfl rfl ?_; intro f h
                        refine s_on h rfl rfl rfl ?_
                        refine s_pure h (ru_val (.bool false) (ru_neq_str (h.ev rfl) (h.ev rfl)) (congrArg Value.bool xd)) rfl ?_; intro f h
                        refine s_on h rfl rfl rfl ?_
                        refine s_pure h (ru_pick_t (h.ev rfl) (h.ev rfl)) rfl ?_; intro f h
                        refine s_pure h (ru_pick_f (h.ev rfl) (h.ev rfl)) rfl ?_; intro f h
                        refine s_nil ?_
                        refine t_norm ?_
                        exact ⟨h.only ⟨rfl, rfl, rfl, slot_as rfl (congrArg Value.bool (by unfold bd6; rw [hN, xn, hD, xd]; rfl)), trivial⟩, St.as s ⟨rfl, rfl, trivial⟩⟩
                      · skip
                        refine c_region ?_
                        refine s_pure h (ru_field fld28_0 (h.ev rfl)) rfl ?_; intro f h
                        refine s_load_at1 (cell_of_has (Has.of_own s 1 rfl) 0 (mArr_k _ _)) h one3 rfl rfl ?_; intro f h
                        refine s_call h s fnc23 (ret_val (.bool false) (has_any m.k 110 _) (congrArg Value.bool ((hasF_n m.k).trans hN))) rfl rfl ?_; intro f w1 v9 hT hE h s; obtain rfl := hT
                        refine s_pure h (ru_val (.bool true) (ru_not (h.ev rfl)) rfl) rfl ?_; intro f h
                        refine s_pure h (ru_move (h.ev rfl)) rfl ?_; intro f h
                        refine s_on h rfl rfl rfl ?_
                        refine s_pure h (ru_field fld28_4 (h.ev rfl)) rfl ?_; intro f h
                        refine s_on h rfl rfl rfl ?_
                        refine s_load_at1 (cell_of_has (Has.of_own s 1 rfl) 68 (mArr_n _ _)) h one3 rfl rfl ?_; intro f h
                        refine s_on h rfl rfl rfl ?_
                        refine s_pure h (ru_val (.bool false) (ru_neq (h.ev rfl) (h.ev rfl)) (congrArg Value.bool xn)) rfl ?_; intro f h
                        refine s_pure h (ru_pick_t (h.ev rfl) (h.ev rfl)) rfl ?_; intro f h
                        refine s_pure h (ru_move (h.ev rfl)) rfl ?_; intro f h
                        refine s_on h rfl rfl rfl ?_
                        refine s_pure h (ru_field fld28_0 (h.ev rfl)) rfl ?_; intro f h
                        refine s_on h rfl rfl rfl ?_
                        refine s_load_at1 (cell_of_has (Has.of_own s 1 rfl) 0 (mArr_k _ _)) h one3 rfl rfl ?_; intro f h
                        refine s_on h rfl rfl rfl ?_
                        refine s_call h s fnc23 (ret_val (.bool false) (has_any m.k 100 _) (congrArg Value.bool ((hasF_d m.k).trans hD))) rfl rfl ?_; intro f w1 v9 hT hE h s; obtain rfl := hT
                        refine s_on h rfl rfl rfl ?_
                        refine s_pure h (ru_val (.bool true) (ru_not (h.ev rfl)) rfl) rfl ?_; intro f h
                        refine s_on h rfl rfl rfl ?_
                        refine s_pure h (ru_move (h.ev rfl)) rfl ?_; intro f h
                        refine s_on h rfl rfl rfl ?_
                        refine s_pure h (ru_field fld28_6 (h.ev rfl)) rfl ?_; intro f h
                        refine s_on h rfl rfl rfl ?_
                        refine s_load_at1 (cell_of_has (Has.of_own s 1 rfl) 70 (mArr_d _ _)) h one9 rfl rfl ?_; intro f h
                        refine s_on h rfl rfl rfl ?_
                        refine s_pure h (ru_val (.bool true) (ru_neq_str (h.ev rfl) (h.ev rfl)) (congrArg Value.bool xd)) rfl ?_; intro f h
                        refine s_on h rfl rfl rfl ?_
                        refine s_pure h (ru_pick_t (h.ev rfl) (h.ev rfl)) rfl ?_; intro f h
                        refine s_pure h (ru_pick_f (h.ev rfl) (h.ev rfl)) rfl ?_; intro f h
                        refine s_nil ?_
                        refine t_norm ?_
                        exact ⟨h.only ⟨rfl, rfl, rfl, slot_as rfl (congrArg Value.bool (by unfold bd6; rw [hN, xn, hD, xd]; rfl)), trivial⟩, St.as s ⟨rfl, rfl, trivial⟩⟩
                    · skip
                      refine c_region ?_
                      refine s_pure h (ru_field fld28_0 (h.ev rfl)) rfl ?_; intro f h
                      refine s_load_at1 (cell_of_has (Has.of_own s 1 rfl) 0 (mArr_k _ _)) h one3 rfl rfl ?_; intro f h
                      refine s_call h s fnc23 (ret_val (.bool false) (has_any m.k 110 _) (congrArg Value.bool ((hasF_n m.k).trans hN))) rfl rfl ?_; intro f w1 v9 hT hE h s; obtain rfl := hT
                      refine s_pure h (ru_val (.bool true) (ru_not (h.ev rfl)) rfl) rfl ?_; intro f h
                      refine s_pure h (ru_move (h.ev rfl)) rfl ?_; intro f h
                      refine s_on h rfl rfl rfl ?_
                      refine s_pure h (ru_field fld28_4 (h.ev rfl)) rfl ?_; intro f h
                      refine s_on h rfl rfl rfl ?_
                      refine s_load_at1 (cell_of_has (Has.of_own s 1 rfl) 68 (mArr_n _ _)) h one3 rfl rfl ?_; intro f h
                      refine s_on h rfl rfl rfl ?_
                      refine s_pure h (ru_val (.bool false) (ru_neq (h.ev rfl) (h.ev rfl)) (congrArg Value.bool xn)) rfl ?_; intro f h
                      refine s_pure h (ru_pick_t (h.ev rfl) (h.ev rfl)) rfl ?_; intro f h
                      refine s_pure h (ru_move (h.ev rfl)) rfl ?_; intro f h
                      refine s_on h rfl rfl rfl ?_
                      refine s_pure h (ru_field fld28_0 (h.ev rfl)) rfl ?_; intro f h
                      refine s_on h rfl rfl rfl ?_
                      refine s_load_at1 (cell_of_has (Has.of_own s 1 rfl) 0 (mArr_k _ _)) h one3 rfl rfl ?_; intro f h
                      refine s_on h rfl rfl rfl ?_
                      refine s_call h s fnc23 (ret_val (.bool true) (has_any m.k 100 _) (congrArg Value.bool ((hasF_d m.k).trans hD))) rfl rfl ?_; intro f w1 v9 hT hE h s; obtain rfl := hT
                      refine s_on h rfl rfl rfl ?_
                      refine s_pure h (ru_val (.bool false) (ru_not (h.ev rfl)) rfl) rfl ?_; intro f h
                      refine s_on h rfl rfl rfl ?_
                      refine s_pure h (ru_move (h.ev rfl)) rfl ?_; intro f h
                      refine s_off (b := true) h rfl rfl rfl rfl ?_; intro f h
                      refine s_off (b := true) h rfl rfl rfl rfl ?_; intro f h
                      refine s_off (b := true) h rfl rfl rfl rfl ?_; intro f h
                      refine s_on h rfl rfl rfl ?_
                      refine s_pure h (ru_pick_f (h.ev rfl) (h.ev rfl)) rfl ?_; intro f h
                      refine s_pure h (ru_pick_f (h.ev rfl) (h.ev rfl)) rfl ?_; intro f h
                      refine s_nil ?_
                      refine t_norm ?_
                      exact ⟨h.only ⟨rfl, rfl, rfl, slot_as rfl (congrArg Value.bool (by unfold bd6; rw [hN, xn, hD]; rfl)), trivial⟩, St.as s ⟨rfl, rfl, trivial⟩⟩
                  · skip
                    refine c_region ?_
                    refine s_pure h (ru_field fld28_0 (h.ev rfl)) rfl ?_; intro f h
                    refine s_load_at1 (cell_of_has (Has.of_own s 1 rfl) 0 (mArr_k _ _)) h one3 rfl rfl ?_; intro f h
                    refine s_call h s fnc23 (ret_val (.bool false) (has_any m.k 110 _) (congrArg Value.bool ((hasF_n m.k).trans hN))) rfl rfl ?_; intro f w1 v9 hT hE h s; obtain rfl := hT
                    refine s_pure h (ru_val (.bool true) (ru_not (h.ev rfl)) rfl) rfl ?_; intro f h
                    refine s_pure h (ru_move (h.ev rfl)) rfl ?_; intro f h
                    refine s_on h rfl rfl rfl ?_
                    refine s_pure h (ru_field fld28_4 (h.ev rfl)) rfl ?_; intro f h
                    refine s_on h rfl rfl rfl ?_
                    refine s_load_at1 (cell_of_has (Has.of_own s 1 rfl) 68 (mArr_n _ _)) h one3 rfl rfl ?_; intro f h
                    refine s_on h rfl rfl rfl ?_
                    refine s_pure h (ru_val (.bool true) (ru_neq (h.ev rfl) (h.ev rfl)) (congrArg Value.bool xn)) rfl ?_; intro f h
                    refine s_pure h (ru_pick_t (h.ev rfl) (h.ev rfl)) rfl ?_; intro f h
                    refine s_pure h (ru_move (h.ev rfl)) rfl ?_; intro f h
                    refine s_off (b := false) h rfl rfl rfl rfl ?_; intro f h
                    refine s_off (b := false) h rfl rfl rfl rfl ?_; intro f h
                    refine s_off (b := false) h rfl rfl rfl rfl ?_; intro f h
                    refine s_off (b := false) h rfl rfl rfl rfl ?_; intro f h
                    refine s_off (b := false) h rfl rfl rfl rfl ?_; intro f h
                    refine s_none h rfl rfl rfl rfl ?_; intro f h
                    refine s_none h rfl rfl rfl rfl ?_; intro f h
                    refine s_none h rfl rfl rfl rfl ?_; intro f h
                    refine s_off (b := false) h rfl rfl rfl rfl ?_; intro f h
                    refine s_pure h (ru_pick_t (h.ev rfl) (h.ev rfl)) rfl ?_; intro f h
                    refine s_nil ?_
                    refine t_norm ?_
                    exact ⟨h.only ⟨rfl, rfl, rfl, slot_as rfl (congrArg Value.bool (by unfold bd6; rw [hN, xn]; rfl)), trivial⟩, St.as s ⟨rfl, rfl, trivial⟩⟩
                · skip
                  cases hD : (hasD m.k : Bool)
                  · skip
                    cases xd : (decide (m.d ≠ ⟨#[]⟩) : Bool)
                    · skip
                      refine c_region ?_
                      refine s_pure h (ru_field fld28_0 (h.ev rfl)) rfl ?_; intro f h
                      refine s_load_at1 (cell_of_has (Has.of_own s 1 rfl) 0 (mArr_k _ _)) h one3 rfl rfl ?_; intro f h
                      refine s_call h s fnc23 (ret_val (.bool true) (has_any m.k 110 _) (congrArg Value.bool ((hasF_n m.k).trans hN))) rfl rfl ?_; intro f w1 v9 hT hE h s; obtain rfl := hT
                      refine s_pure h (ru_val (.bool false) (ru_not (h.ev rfl)) rfl) rfl ?_; intro f h
                      refine s_pure h (ru_move (h.ev rfl)) rfl ?_; intro f h
                      refine s_off (b := true) h rfl rfl rfl rfl ?_; intro f h
                      refine s_off (b := true) h rfl rfl rfl rfl ?_; intro f h
                      refine s_off (b := true) h rfl rfl rfl rfl ?_; intro f h
                      refine s_pure h (ru_pick_f (h.ev rfl) (h.ev rfl)) rfl ?_; intro f h
                      refine s_pure h (ru_move (h.ev rfl)) rfl ?_; intro f h
                      refine s_on h rfl rfl rfl ?_
                      refine s_pure h (ru_field fld28_0 (h.ev rfl)) rfl ?_; intro f h
                      refine s_on h rfl rfl rfl ?_
                      refine s_load_at1 (cell_of_has (Has.of_own s 1 rfl) 0 (mArr_k _ _)) h one3 rfl rfl ?_; intro f h
                      refine s_on h rfl rfl rfl ?_
                      refine s_call h s fnc23 (ret_val (.bool false) (has_any m.k 100 _) (congrArg Value.bool ((hasF_d m.k).trans hD))) rfl rfl ?_; intro f w1 v9 hT hE h s; obtain rfl := hT
                      refine s_on h rfl rfl rfl ?_
                      refine s_pure h (ru_val (.bool true) (ru_not (h.ev rfl)) rfl) rfl ?_; intro f h
                      refine s_on h rfl rfl rfl ?_
                      refine s_pure h (ru_move (h.ev rfl)) rfl ?_; intro f h
                      refine s_on h rfl rfl rfl ?_
                      refine s_pure h (ru_field fld28_6 (h.ev rfl)) rfl ?_; intro f h
                      refine s_on h rfl rfl rfl ?_
                      refine s_load_at1 (cell_of_has (Has.of_own s 1 rfl) 70 (mArr_d _ _)) h one9 rfl rfl ?_; intro f h
                      refine s_on h rfl rfl rfl ?_
                      refine s_pure h (ru_val (.bool false) (ru_neq_str (h.ev rfl) (h.ev rfl)) (congrArg Value.bool xd)) rfl ?_; intro f h
                      refine s_on h rfl rfl rfl ?_
                      refine s_pure h (ru_pick_t (h.ev rfl) (h.ev rfl)) rfl ?_; intro f h
                      refine s_pure h (ru_pick_f (h.ev rfl) (h.ev rfl)) rfl ?_; intro f h
                      refine s_nil ?_
                      refine t_norm ?_
                      exact ⟨h.only ⟨rfl, rfl, rfl, slot_as rfl (congrArg Value.bool (by unfold bd6; rw [hN, hD, xd]; rfl)), trivial⟩, St.as s ⟨rfl, rfl, trivial⟩⟩
                    · skip
                      refine c_region ?_
                      refine s_pure h (ru_field fld28_0 (h.ev rfl)) rfl ?_; intro f h
                      refine s_load_at1 (cell_of_has (Has.of_own s 1 rfl) 0 (mArr_k _ _)) h one3 rfl rfl ?_; intro f h
                      refine s_call h s fnc23 (ret_val (.bool true) (has_any m.k 110 _) (congrArg Value.bool ((hasF_n m.k).trans hN))) rfl rfl ?_; intro f w1 v9 hT hE h s; obtain rfl := hT
                      refine s_pure h (ru_val (.bool false) (ru_not (h.ev rfl)) rfl) rfl ?_; intro f h
                      refine s_pure h (ru_move (h.ev rfl)) rfl ?_; intro f h
                      refine s_off (b := true) h rfl rfl rfl rfl ?_; intro f h
                      refine s_off (b := true) h rfl rfl rfl rfl ?_; intro f h
                      refine s_off (b := true) h rfl rfl rfl rfl ?_; intro f h
                      refine s_pure h (ru_pick_f (h.ev rfl) (h.ev rfl)) rfl ?_; intro f h
                      refine s_pure h (ru_move (h.ev rfl)) rfl ?_; intro f h
                      refine s_on h rfl rfl rfl ?_
                      refine s_pure h (ru_field fld28_0 (h.ev rfl)) rfl ?_; intro f h
                      refine s_on h rfl rfl rfl ?_
                      refine s_load_at1 (cell_of_has (Has.of_own s 1 rfl) 0 (mArr_k _ _)) h one3 rfl rfl ?_; intro f h
                      refine s_on h rfl rfl rfl ?_
                      refine s_call h s fnc23 (ret_val (.bool false) (has_any m.k 100 _) (congrArg Value.bool ((hasF_d m.k).trans hD))) rfl rfl ?_; intro f w1 v9 hT hE h s; obtain rfl := hT
                      refine s_on h rfl rfl rfl ?_
                      refine s_pure h (ru_val (.bool true) (ru_not (h.ev rfl)) rfl) rfl ?_; intro f h
                      refine s_on h rfl rfl rfl ?_
                      refine s_pure h (ru_move (h.ev rfl)) rfl ?_; intro f h
                      refine s_on h rfl rfl rfl ?_
                      refine s_pure h (ru_field fld28_6 (h.ev rfl)) rfl ?_; intro f h
                      refine s_on h rfl rfl rfl ?_
                      refine s_load_at1 (cell_of_has (Has.of_own s 1 rfl) 70 (mArr_d _ _)) h one9 rfl rfl ?_; intro f h
                      refine s_on h rfl rfl rfl ?_
                      refine s_pure h (ru_val (.bool true) (ru_neq_str (h.ev rfl) (h.ev rfl)) (congrArg Value.bool xd)) rfl ?_; intro f h
                      refine s_on h rfl rfl rfl ?_
                      refine s_pure h (ru_pick_t (h.ev rfl) (h.ev rfl)) rfl ?_; intro f h
                      refine s_pure h (ru_pick_f (h.ev rfl) (h.ev rfl)) rfl ?_; intro f h
                      refine s_nil ?_
                      refine t_norm ?_
                      exact ⟨h.only ⟨rfl, rfl, rfl, slot_as rfl (congrArg Value.bool (by unfold bd6; rw [hN, hD, xd]; rfl)), trivial⟩, St.as s ⟨rfl, rfl, trivial⟩⟩
                  · skip
                    refine c_region ?_
                    refine s_pure h (ru_field fld28_0 (h.ev rfl)) rfl ?_; intro f h
                    refine s_load_at1 (cell_of_has (Has.of_own s 1 rfl) 0 (mArr_k _ _)) h one3 rfl rfl ?_; intro f h
                    refine s_call h s fnc23 (ret_val (.bool true) (has_any m.k 110 _) (congrArg Value.bool ((hasF_n m.k).trans hN))) rfl rfl ?_; intro f w1 v9 hT hE h s; obtain rfl := hT
                    refine s_pure h (ru_val (.bool false) (ru_not (h.ev rfl)) rfl) rfl ?_; intro f h
                    refine s_pure h (ru_move (h.ev rfl)) rfl ?_; intro f h
                    refine s_off (b := true) h rfl rfl rfl rfl ?_; intro f h
                    refine s_off (b := true) h rfl rfl rfl rfl ?_; intro f h
                    refine s_off (b := true) h rfl rfl rfl rfl ?_; intro f h
                    refine s_pure h (ru_pick_f (h.ev rfl) (h.ev rfl)) rfl ?_; intro f h
                    refine s_pure h (ru_move (h.ev rfl)) rfl ?_; intro f h
                    refine s_on h rfl rfl rfl ?_
                    refine s_pure h (ru_field fld28_0 (h.ev rfl)) rfl ?_; intro f h
                    refine s_on h rfl rfl rfl ?_
                    refine s_load_at1 (cell_of_has (Has.of_own s 1 rfl) 0 (mArr_k _ _)) h one3 rfl rfl ?_; intro f h
                    refine s_on h rfl rfl rfl ?_
                    refine s_call h s fnc23 (ret_val (.bool true) (has_any m.k 100 _) (congrArg Value.bool ((hasF_d m.k).trans hD))) rfl rfl ?_; intro f w1 v9 hT hE h s; obtain rfl := hT
                    refine s_on h rfl rfl rfl ?_
                    refine s_pure h (ru_val (.bool false) (ru_not (h.ev rfl)) rfl) rfl ?_; intro f h
                    refine s_on h rfl rfl rfl ?_
                    refine s_pure h (ru_move (h.ev rfl)) rfl ?_; intro f h
                    refine s_off (b := true) h rfl rfl rfl rfl ?_; intro f h
                    refine s_off (b := true) h rfl rfl rfl rfl ?_; intro f h
                    refine s_off (b := true) h rfl rfl rfl rfl ?_; intro f h
                    refine s_on h rfl rfl rfl ?_
                    refine s_pure h (ru_pick_f (h.ev rfl) (h.ev rfl)) rfl ?_; intro f h
                    refine s_pure h (ru_pick_f (h.ev rfl) (h.ev rfl)) rfl ?_; intro f h
                    refine s_nil ?_
                    refine t_norm ?_
                    exact ⟨h.only ⟨rfl, rfl, rfl, slot_as rfl (congrArg Value.bool (by unfold bd6; rw [hN, hD]; rfl)), trivial⟩, St.as s ⟨rfl, rfl, trivial⟩⟩
              rintro f w1 ⟨h, s⟩
              refine hK10 _ _ ?_
              refine c_cond h rfl (fun hc => ?_) (fun hc => ?_)
              · refine c_seq fun K12 hK12 => ?_
                refine c_region ?_
                refine s_pure h (ru_assign (h.ev rfl)) rfl ?_; intro f h
                refine s_nil ?_
                refine hK12 _ _ ?_
                refine wpIn_ret ?_
                refine t_ret ?_
                exact e_tmp rfl h s rfl (by show _ = _; rw [right_ref' (of_decide_eq_false g1) (of_decide_eq_false g2) (of_decide_eq_false g3) (of_decide_eq_false g4) (of_decide_eq_false g5), hb4, hc]; rfl)
              · have hb6 := hc
                refine wpIn_skip ?_
                refine hK9 _ _ ?_
                refine c_seq fun K13 hK13 => ?_
                refine c_seq fun K14 hK14 => ?_
                refine c_join (fun aa ww => Sl 115 aa [(0, .agg (mArr m vs)), (1, .pointer (some ⟨b1, 0, none⟩)), (3, .pointer (some ⟨b3, 0, none⟩)), (104, .bool (bd8 m))] ∧ St w [.blk b3 (.cells ((mArr mZ (.slice none 0 0))) 28), .blk b1 (.cells ((mArr m vs)) 28)] ww) ?_ ?_
                · skip
                  cases hT : (hasT m.k : Bool)
                  · skip
                    cases hS : (hasS m.k : Bool)
                    · skip
                      refine c_region ?_
                      refine s_pure h (ru_field fld28_0 (h.ev rfl)) rfl ?_; intro f h
                      refine s_load_at1 (cell_of_has (Has.of_own s 1 rfl) 0 (mArr_k _ _)) h one3 rfl rfl ?_; intro f h
                      refine s_call h s fnc23 (ret_val (.bool false) (has_any m.k 116 _) (congrArg Value.bool ((hasF_t m.k).trans hT))) rfl rfl ?_; intro f w1 v9 hT hE h s; obtain rfl := hT
                      refine s_pure h (ru_move (h.ev rfl)) rfl ?_; intro f h
                      refine s_off (b := true) h rfl rfl rfl rfl ?_; intro f h
                      refine s_off (b := true) h rfl rfl rfl rfl ?_; intro f h
                      refine s_off (b := true) h rfl rfl rfl rfl ?_; intro f h
                      refine s_off (b := true) h rfl rfl rfl rfl ?_; intro f h
                      refine s_pure h (ru_pick_f (h.ev rfl) (h.ev rfl)) rfl ?_; intro f h
                      refine s_pure h (ru_move (h.ev rfl)) rfl ?_; intro f h
                      refine s_on h rfl rfl rfl ?_
                      refine s_pure h (ru_field fld28_0 (h.ev rfl)) rfl ?_; intro f h
                      refine s_on h rfl rfl rfl ?_
                      refine s_load_at1 (cell_of_has (Has.of_own s 1 rfl) 0 (mArr_k _ _)) h one3 rfl rfl ?_; intro f h
                      refine s_on h rfl rfl rfl ?_
                      refine s_call h s fnc23 (ret_val (.bool false) (has_any m.k 115 _) (congrArg Value.bool ((hasF_s m.k).trans hS))) rfl rfl ?_; intro f w1 v9 hT hE h s; obtain rfl := hT
                      refine s_on h rfl rfl rfl ?_
                      refine s_pure h (ru_move (h.ev rfl)) rfl ?_; intro f h
                      refine s_off (b := true) h rfl rfl rfl rfl ?_; intro f h
                      refine s_off (b := true) h rfl rfl rfl rfl ?_; intro f h
                      refine s_off (b := true) h rfl rfl rfl rfl ?_; intro f h
                      refine s_off (b := true) h rfl rfl rfl rfl ?_; intro f h
                      refine s_on h rfl rfl rfl ?_
                      refine s_pure h (ru_pick_f (h.ev rfl) (h.ev rfl)) rfl ?_; intro f h
                      refine s_pure h (ru_pick_f (h.ev rfl) (h.ev rfl)) rfl ?_; intro f h
                      refine s_nil ?_
                      refine t_norm ?_
                      exact ⟨h.only ⟨rfl, rfl, rfl, slot_as rfl (congrArg Value.bool (by unfold bd8; rw [hT, hS]; rfl)), trivial⟩, St.as s ⟨rfl, rfl, trivial⟩⟩
                    · skip
                      cases xs : (rightE m.l : Bool)
                      · skip
                        refine c_region ?_
                        refine s_pure h (ru_field fld28_0 (h.ev rfl)) rfl ?_; intro f h
                        refine s_load_at1 (cell_of_has (Has.of_own s 1 rfl) 0 (mArr_k _ _)) h one3 rfl rfl ?_; intro f h
                        refine s_call h s fnc23 (ret_val (.bool false) (has_any m.k 116 _) (congrArg Value.bool ((hasF_t m.k).trans hT))) rfl rfl ?_; intro f w1 v9 hT hE h s; obtain rfl := hT
                        refine s_pure h (ru_move (h.ev rfl)) rfl ?_; intro f h
                        refine s_off (b := true) h rfl rfl rfl rfl ?_; intro f h
                        refine s_off (b := true) h rfl rfl rfl rfl ?_; intro f h
                        refine s_off (b := true) h rfl rfl rfl rfl ?_; intro f h
                        refine s_off (b := true) h rfl rfl rfl rfl ?_; intro f h
                        refine s_pure h (ru_pick_f (h.ev rfl) (h.ev rfl)) rfl ?_; intro f h
                        refine s_pure h (ru_move (h.ev rfl)) rfl ?_; intro f h
                        refine s_on h rfl rfl rfl ?_
                        refine s_pure h (ru_field fld28_0 (h.ev rfl)) rfl ?_; intro f h
                        refine s_on h rfl rfl rfl ?_
                        refine s_load_at1 (cell_of_has (Has.of_own s 1 rfl) 0 (mArr_k _ _)) h one3 rfl rfl ?_; intro f h
                        refine s_on h rfl rfl rfl ?_
                        refine s_call h s fnc23 (ret_val (.bool true) (has_any m.k 115 _) (congrArg Value.bool ((hasF_s m.k).trans hS))) rfl rfl ?_; intro f w1 v9 hT hE h s; obtain rfl := hT
                        refine s_on h rfl rfl rfl ?_
                        refine s_pure h (ru_move (h.ev rfl)) rfl ?_; intro f h
                        refine s_on h rfl rfl rfl ?_
                        refine s_pure h (ru_field fld28_3 (h.ev rfl)) rfl ?_; intro f h
                        refine s_on h rfl rfl rfl ?_
                        refine s_load_at1 (cell_of_has (Has.of_own s 1 rfl) 67 (mArr_v _ _)) h one26 rfl rfl ?_; intro f h
                        refine s_on h rfl rfl rfl ?_
                        refine s_call h s fnc25 (ret_val (.bool false) (rright_any m.l _ _ (hv.keep s.ext) hln) (congrArg Value.bool xs)) rfl rfl ?_; intro f w1 v9 hT hE h s; obtain rfl := hT
                        refine s_on h rfl rfl rfl ?_
                        refine s_pure h (ru_val (.bool true) (ru_not (h.ev rfl)) rfl) rfl ?_; intro f h
                        refine s_on h rfl rfl rfl ?_
                        refine s_pure h (ru_pick_t (h.ev rfl) (h.ev rfl)) rfl ?_; intro f h
                        refine s_pure h (ru_pick_f (h.ev rfl) (h.ev rfl)) rfl ?_; intro f h
                        refine s_nil ?_
                        refine t_norm ?_
                        exact ⟨h.only ⟨rfl, rfl, rfl, slot_as rfl (congrArg Value.bool (by unfold bd8; rw [hT, hS, xs]; rfl)), trivial⟩, St.as s ⟨rfl, rfl, trivial⟩⟩
                      · skip
                        refine c_region ?_
                        refine s_pure h (ru_field fld28_0 (h.ev rfl)) rfl ?_; intro f h
                        refine s_load_at1 (cell_of_has (Has.of_own s 1 rfl) 0 (mArr_k _ _)) h one3 rfl rfl ?_; intro f h
                        refine s_call h s fnc23 (ret_val (.bool false) (has_any m.k 116 _) (congrArg Value.bool ((hasF_t m.k).trans hT))) rfl rfl ?_; intro f w1 v9 hT hE h s; obtain rfl := hT
                        refine s_pure h (ru_move (h.ev rfl)) rfl ?_; intro f h
                        refine s_off (b := true) h rfl rfl rfl rfl ?_; intro f h
                        refine s_off (b := true) h rfl rfl rfl rfl ?_; intro f h
                        refine s_off (b := true) h rfl rfl rfl rfl ?_; intro f h
                        refine s_off (b := true) h rfl rfl rfl rfl ?_; intro f h
                        refine s_pure h (ru_pick_f (h.ev rfl) (h.ev rfl)) rfl ?_; intro f h
                        refine s_pure h (ru_move (h.ev rfl)) rfl ?_; intro f h
                        refine s_on h rfl rfl rfl ?_
                        refine s_pure h (ru_field fld28_0 (h.ev rfl)) rfl ?_; intro f h
                        refine s_on h rfl rfl rfl ?_
                        refine s_load_at1 (cell_of_has (Has.of_own s 1 rfl) 0 (mArr_k _ _)) h one3 rfl rfl ?_; intro f h
                        refine s_on h rfl rfl rfl ?_
                        refine s_call h s fnc23 (ret_val (.bool true) (has_any m.k 115 _) (congrArg Value.bool ((hasF_s m.k).trans hS))) rfl rfl ?_; intro f w1 v9 hT hE h s; obtain rfl := hT
                        refine s_on h rfl rfl rfl ?_
                        refine s_pure h (ru_move (h.ev rfl)) rfl ?_; intro f h
                        refine s_on h rfl rfl rfl ?_
                        refine s_pure h (ru_field fld28_3 (h.ev rfl)) rfl ?_; intro f h
                        refine s_on h rfl rfl rfl ?_
                        refine s_load_at1 (cell_of_has (Has.of_own s 1 rfl) 67 (mArr_v _ _)) h one26 rfl rfl ?_; intro f h
                        refine s_on h rfl rfl rfl ?_
                        refine s_call h s fnc25 (ret_val (.bool true) (rright_any m.l _ _ (hv.keep s.ext) hln) (congrArg Value.bool xs)) rfl rfl ?_; intro f w1 v9 hT hE h s; obtain rfl := hT
                        refine s_on h rfl rfl rfl ?_
                        refine s_pure h (ru_val (.bool false) (ru_not (h.ev rfl)) rfl) rfl ?_; intro f h
                        refine s_on h rfl rfl rfl ?_
                        refine s_pure h (ru_pick_t (h.ev rfl) (h.ev rfl)) rfl ?_; intro f h
                        refine s_pure h (ru_pick_f (h.ev rfl) (h.ev rfl)) rfl ?_; intro f h
                        refine s_nil ?_
                        refine t_norm ?_
                        exact ⟨h.only ⟨rfl, rfl, rfl, slot_as rfl (congrArg Value.bool (by unfold bd8; rw [hT, hS, xs]; rfl)), trivial⟩, St.as s ⟨rfl, rfl, trivial⟩⟩
                  · skip
                    cases xt : (isE m.t : Bool)
                    · skip
                      refine c_region ?_
                      refine s_pure h (ru_field fld28_0 (h.ev rfl)) rfl ?_; intro f h
                      refine s_load_at1 (cell_of_has (Has.of_own s 1 rfl) 0 (mArr_k _ _)) h one3 rfl rfl ?_; intro f h
                      refine s_call h s fnc23 (ret_val (.bool true) (has_any m.k 116 _) (congrArg Value.bool ((hasF_t m.k).trans hT))) rfl rfl ?_; intro f w1 v9 hT hE h s; obtain rfl := hT
                      refine s_pure h (ru_move (h.ev rfl)) rfl ?_; intro f h
                      refine s_on h rfl rfl rfl ?_
                      refine s_pure h (ru_field fld28_2 (h.ev rfl)) rfl ?_; intro f h
                      refine s_on h rfl rfl rfl ?_
                      refine s_load_at (Has.subL (Has.of_own s 1 rfl) 33 34 (D := eArr (_)) (mArr_t _ _)) h row25 rfl (eArr_size _) rfl ?_; intro f h
                      refine s_on h rfl rfl rfl ?_
                      refine s_call h s fnc24 (ret_val (.bool false) (ris_any _ _) (congrArg Value.bool xt)) rfl rfl ?_; intro f w1 v9 hT hE h s; obtain rfl := hT
                      refine s_on h rfl rfl rfl ?_
                      refine s_pure h (ru_val (.bool true) (ru_not (h.ev rfl)) rfl) rfl ?_; intro f h
                      refine s_pure h (ru_pick_t (h.ev rfl) (h.ev rfl)) rfl ?_; intro f h
                      refine s_pure h (ru_move (h.ev rfl)) rfl ?_; intro f h
                      refine s_off (b := false) h rfl rfl rfl rfl ?_; intro f h
                      refine s_off (b := false) h rfl rfl rfl rfl ?_; intro f h
                      refine s_off (b := false) h rfl rfl rfl rfl ?_; intro f h
                      refine s_off (b := false) h rfl rfl rfl rfl ?_; intro f h
                      refine s_none h rfl rfl rfl rfl ?_; intro f h
                      refine s_none h rfl rfl rfl rfl ?_; intro f h
                      refine s_none h rfl rfl rfl rfl ?_; intro f h
                      refine s_none h rfl rfl rfl rfl ?_; intro f h
                      refine s_off (b := false) h rfl rfl rfl rfl ?_; intro f h
                      refine s_pure h (ru_pick_t (h.ev rfl) (h.ev rfl)) rfl ?_; intro f h
                      refine s_nil ?_
                      refine t_norm ?_
                      exact ⟨h.only ⟨rfl, rfl, rfl, slot_as rfl (congrArg Value.bool (by unfold bd8; rw [hT, xt]; rfl)), trivial⟩, St.as s ⟨rfl, rfl, trivial⟩⟩
                    · skip
                      cases hS : (hasS m.k : Bool)
                      · skip
                        refine c_region ?_
                        refine s_pure h (ru_field fld28_0 (h.ev rfl)) rfl ?_; intro f h
                        refine s_load_at1 (cell_of_has (Has.of_own s 1 rfl) 0 (mArr_k _ _)) h one3 rfl rfl ?_; intro f h
                        refine s_call h s fnc23 (ret_val (.bool true) (has_any m.k 116 _) (congrArg Value.bool ((hasF_t m.k).trans hT))) rfl rfl ?_; intro f w1 v9 hT hE h s; obtain rfl := hT
                        refine s_pure h (ru_move (h.ev rfl)) rfl ?_; intro f h
                        refine s_on h rfl rfl rfl ?_
                        refine s_pure h (ru_field fld28_2 (h.ev rfl)) rfl ?_; intro f h
                        refine s_on h rfl rfl rfl ?_
                        refine s_load_at (Has.subL (Has.of_own s 1 rfl) 33 34 (D := eArr (_)) (mArr_t _ _)) h row25 rfl (eArr_size _) rfl ?_; intro f h
                        refine s_on h rfl rfl rfl ?_
                        refine s_call h s fnc24 (ret_val (.bool true) (ris_any _ _) (congrArg Value.bool xt)) rfl rfl ?_; intro f w1 v9 hT hE h s; obtain rfl := hT
                        refine s_on h rfl rfl rfl ?_
                        refine s_pure h (ru_val (.bool false) (ru_not (h.ev rfl)) rfl) rfl ?_; intro f h
                        refine s_pure h (ru_pick_t (h.ev rfl) (h.ev rfl)) rfl ?_; intro f h
                        refine s_pure h (ru_move (h.ev rfl)) rfl ?_; intro f h
                        refine s_on h rfl rfl rfl ?_
                        refine s_pure h (ru_field fld28_0 (h.ev rfl)) rfl ?_; intro f h
                        refine s_on h rfl rfl rfl ?_
                        refine s_load_at1 (cell_of_has (Has.of_own s 1 rfl) 0 (mArr_k _ _)) h one3 rfl rfl ?_; intro f h
                        refine s_on h rfl rfl rfl ?_
                        refine s_call h s fnc23 (ret_val (.bool false) (has_any m.k 115 _) (congrArg Value.bool ((hasF_s m.k).trans hS))) rfl rfl ?_; intro f w1 v9 hT hE h s; obtain rfl := hT
                        refine s_on h rfl rfl rfl ?_
                        refine s_pure h (ru_move (h.ev rfl)) rfl ?_; intro f h
                        refine s_off (b := true) h rfl rfl rfl rfl ?_; intro f h
                        refine s_off (b := true) h rfl rfl rfl rfl ?_; intro f h
                        refine s_off (b := true) h rfl rfl rfl rfl ?_; intro f h
                        refine s_off (b := true) h rfl rfl rfl rfl ?_; intro f h
                        refine s_on h rfl rfl rfl ?_
                        refine s_pure h (ru_pick_f (h.ev rfl) (h.ev rfl)) rfl ?_; intro f h
                        refine s_pure h (ru_pick_f (h.ev rfl) (h.ev rfl)) rfl ?_; intro f h
                        refine s_nil ?_
                        refine t_norm ?_
                        exact ⟨h.only ⟨rfl, rfl, rfl, slot_as rfl (congrArg Value.bool (by unfold bd8; rw [hT, xt, hS]; rfl)), trivial⟩, St.as s ⟨rfl, rfl, trivial⟩⟩
                      · skip
                        cases xs : (rightE m.l : Bool)
                        · skip
                          refine c_region ?_
                          refine s_pure h (ru_field fld28_0 (h.ev rfl)) rfl ?_; intro f h
                          refine s_load_at1 (cell_of_has (Has.of_own s 1 rfl) 0 (mArr_k _ _)) h one3 rfl rfl ?_; intro f h
                          refine s_call h s fnc23 (ret_val (.bool true) (has_any m.k 116 _) (congrArg Value.bool ((hasF_t m.k).trans hT))) rfl rfl ?_; intro f w1 v9 hT hE h s; obtain rfl := hT
                          refine s_pure h (ru_move (h.ev rfl)) rfl ?_; intro f h
                          refine s_on h rfl rfl rfl ?_
                          refine s_pure h (ru_field fld28_2 (h.ev rfl)) rfl ?_; intro f h
                          refine s_on h rfl rfl rfl ?_
                          refine s_load_at (Has.subL (Has.of_own s 1 rfl) 33 34 (D := eArr (_)) (mArr_t _ _)) h row25 rfl (eArr_size _) rfl ?_; intro f h
                          refine s_on h rfl rfl rfl ?_
                          refine s_call h s fnc24 (ret_val (.bool true) (ris_any _ _) (congrArg Value.bool xt)) rfl rfl ?_; intro f w1 v9 hT hE h s; obtain rfl := hT
                          refine s_on h rfl rfl rfl ?_
                          refine s_pure h (ru_val (.bool false) (ru_not (h.ev rfl)) rfl) rfl ?_; intro f h
                          refine s_pure h (ru_pick_t (h.ev rfl) (h.ev rfl)) rfl ?_; intro f h
                          refine s_pure h (ru_move (h.ev rfl)) rfl ?_; intro f h
                          refine s_on h rfl rfl rfl ?_
                          refine s_pure h (ru_field fld28_0 (h.ev rfl)) rfl ?_; intro f h
                          refine s_on h rfl rfl rfl ?_
                          refine s_load_at1 (cell_of_has (Has.of_own s 1 rfl) 0 (mArr_k _ _)) h one3 rfl rfl ?_; intro f h
                          refine s_on h rfl rfl rfl ?_
                          refine s_call h s fnc23 (ret_val (.bool true) (has_any m.k 115 _) (congrArg Value.bool ((hasF_s m.k).trans hS))) rfl rfl ?_; intro f w1 v9 hT hE h s; obtain rfl := hT
                          refine s_on h rfl rfl rfl ?_
                          refine s_pure h (ru_move (h.ev rfl)) rfl ?_; intro f h
                          refine s_on h rfl rfl rfl ?_
                          refine s_pure h (ru_field fld28_3 (h.ev rfl)) rfl ?_; intro f h
                          refine s_on h rfl rfl rfl ?_
                          refine s_load_at1 (cell_of_has (Has.of_own s 1 rfl) 67 (mArr_v _ _)) h one26 rfl rfl ?_; intro f h
                          refine s_on h rfl rfl rfl ?_
                          refine s_call h s fnc25 (ret_val (.bool false) (rright_any m.l _ _ (hv.keep s.ext) hln) (congrArg Value.bool xs)) rfl rfl ?_; intro f w1 v9 hT hE h s; obtain rfl := hT
                          refine s_on h rfl rfl rfl ?_
                          refine s_pure h (ru_val (.bool true) (ru_not (h.ev rfl)) rfl) rfl ?_; intro f h
                          refine s_on h rfl rfl rfl ?_
                          refine s_pure h (ru_pick_t (h.ev rfl) (h.ev rfl)) rfl ?_; intro f h
                          refine s_pure h (ru_pick_f (h.ev rfl) (h.ev rfl)) rfl ?_; intro f h
                          refine s_nil ?_
                          refine t_norm ?_
                          exact ⟨h.only ⟨rfl, rfl, rfl, slot_as rfl (congrArg Value.bool (by unfold bd8; rw [hT, xt, hS, xs]; rfl)), trivial⟩, St.as s ⟨rfl, rfl, trivial⟩⟩
                        · skip
                          refine c_region ?_
                          refine s_pure h (ru_field fld28_0 (h.ev rfl)) rfl ?_; intro f h
                          refine s_load_at1 (cell_of_has (Has.of_own s 1 rfl) 0 (mArr_k _ _)) h one3 rfl rfl ?_; intro f h
                          refine s_call h s fnc23 (ret_val (.bool true) (has_any m.k 116 _) (congrArg Value.bool ((hasF_t m.k).trans hT))) rfl rfl ?_; intro f w1 v9 hT hE h s; obtain rfl := hT
                          refine s_pure h (ru_move (h.ev rfl)) rfl ?_; intro f h
                          refine s_on h rfl rfl rfl ?_
                          refine s_pure h (ru_field fld28_2 (h.ev rfl)) rfl ?_; intro f h
                          refine s_on h rfl rfl rfl ?_
                          refine s_load_at (Has.subL (Has.of_own s 1 rfl) 33 34 (D := eArr (_)) (mArr_t _ _)) h row25 rfl (eArr_size _) rfl ?_; intro f h
                          refine s_on h rfl rfl rfl ?_
                          refine s_call h s fnc24 (ret_val (.bool true) (ris_any _ _) (congrArg Value.bool xt)) rfl rfl ?_; intro f w1 v9 hT hE h s; obtain rfl := hT
                          refine s_on h rfl rfl rfl ?_
                          refine s_pure h (ru_val (.bool false) (ru_not (h.ev rfl)) rfl) rfl ?_; intro f h
                          refine s_pure h (ru_pick_t (h.ev rfl) (h.ev rfl)) rfl ?_; intro f h
                          refine s_pure h (ru_move (h.ev rfl)) rfl ?_; intro f h
                          refine s_on h rfl rfl rfl ?_
                          refine s_pure h (ru_field fld28_0 (h.ev rfl)) rfl ?_; intro f h
                          refine s_on h rfl rfl rfl ?_
                          refine s_load_at1 (cell_of_has (Has.of_own s 1 rfl) 0 (mArr_k _ _)) h one3 rfl rfl ?_; intro f h
                          refine s_on h rfl rfl rfl ?_
                          refine s_call h s fnc23 (ret_val (.bool true) (has_any m.k 115 _) (congrArg Value.bool ((hasF_s m.k).trans hS))) rfl rfl ?_; intro f w1 v9 hT hE h s; obtain rfl := hT
                          refine s_on h rfl rfl rfl ?_
                          refine s_pure h (ru_move (h.ev rfl)) rfl ?_; intro f h
                          refine s_on h rfl rfl rfl ?_
                          refine s_pure h (ru_field fld28_3 (h.ev rfl)) rfl ?_; intro f h
                          refine s_on h rfl rfl rfl ?_
                          refine s_load_at1 (cell_of_has (Has.of_own s 1 rfl) 67 (mArr_v _ _)) h one26 rfl rfl ?_; intro f h
                          refine s_on h rfl rfl rfl ?_
                          refine s_call h s fnc25 (ret_val (.bool true) (rright_any m.l _ _ (hv.keep s.ext) hln) (congrArg Value.bool xs)) rfl rfl ?_; intro f w1 v9 hT hE h s; obtain rfl := hT
                          refine s_on h rfl rfl rfl ?_
                          refine s_pure h (ru_val (.bool false) (ru_not (h.ev rfl)) rfl) rfl ?_; intro f h
                          refine s_on h rfl rfl rfl ?_
                          refine s_pure h (ru_pick_t (h.ev rfl) (h.ev rfl)) rfl ?_; intro f h
                          refine s_pure h (ru_pick_f (h.ev rfl) (h.ev rfl)) rfl ?_; intro f h
                          refine s_nil ?_
                          refine t_norm ?_
                          exact ⟨h.only ⟨rfl, rfl, rfl, slot_as rfl (congrArg Value.bool (by unfold bd8; rw [hT, xt, hS, xs]; rfl)), trivial⟩, St.as s ⟨rfl, rfl, trivial⟩⟩
                rintro f w1 ⟨h, s⟩
                refine hK14 _ _ ?_
                refine c_cond h rfl (fun hc => ?_) (fun hc => ?_)
                · refine c_seq fun K16 hK16 => ?_
                  refine c_region ?_
                  refine s_pure h (ru_assign (h.ev rfl)) rfl ?_; intro f h
                  refine s_nil ?_
                  refine hK16 _ _ ?_
                  refine wpIn_ret ?_
                  refine t_ret ?_
                  exact e_tmp rfl h s rfl (by show _ = _; rw [right_ref' (of_decide_eq_false g1) (of_decide_eq_false g2) (of_decide_eq_false g3) (of_decide_eq_false g4) (of_decide_eq_false g5), hb4, hb6, hc]; rfl)
                · have hb8 := hc
                  refine wpIn_skip ?_
                  refine hK13 _ _ ?_
                  refine c_seq fun K17 hK17 => ?_
                  refine c_seq fun K18 hK18 => ?_
                  refine c_region ?_
                  refine s_pure h (ru_field fld28_0 (h.ev rfl)) rfl ?_; intro f h
                  refine s_load_at1 (cell_of_has (Has.of_own s 1 rfl) 0 (mArr_k _ _)) h one3 rfl rfl ?_; intro f h
                  refine s_call h s fnc23 (ret_val (.bool (hasO m.k)) (has_any m.k 111 _) (congrArg Value.bool (hasF_o m.k))) rfl rfl ?_; intro f w1 v9 hT hE h s; obtain rfl := hT
                  refine s_nil ?_
                  refine hK18 _ _ ?_
                  refine c_cond h rfl (fun hc => ?_) (fun hc => ?_)
                  · refine c_seq fun K19 hK19 => ?_
                    refine c_region ?_
                    refine s_pure h (ru_field fld28_5 (h.ev rfl)) rfl ?_; intro f h
                    refine s_load_at1 (cell_of_has (Has.of_own s 1 rfl) 69 (mArr_o _ _)) h one9 rfl rfl ?_; intro f h
                    refine s_pure h (ru_len_str Try.underlying9 (h.ev rfl)) rfl ?_; intro f h
                    refine s_pure h (ru_val (.bool (decide (m.o.size = 16))) (ru_eql (h.ev rfl) (h.ev rfl)) (congrArg Value.bool (decide_eq_decide.2 (by omega)))) rfl ?_; intro f h
                    refine s_pure h (ru_assign (h.ev rfl)) rfl ?_; intro f h
                    refine s_nil ?_
                    refine hK19 _ _ ?_
                    refine wpIn_ret ?_
                    refine t_ret ?_
                    exact e_tmp rfl h s rfl (by show _ = _; rw [right_ref' (of_decide_eq_false g1) (of_decide_eq_false g2) (of_decide_eq_false g3) (of_decide_eq_false g4) (of_decide_eq_false g5), hb4, hb6, hb8]; show _ = Value.bool (c5 m); unfold c5; rw [hc]; rfl)
                  · refine wpIn_skip ?_
                    refine hK17 _ _ ?_
                    refine c_seq fun K20 hK20 => ?_
                    refine c_region ?_
                    refine s_pure h (ru_field fld28_5 (h.ev rfl)) rfl ?_; intro f h
                    refine s_load_at1 (cell_of_has (Has.of_own s 1 rfl) 69 (mArr_o _ _)) h one9 rfl rfl ?_; intro f h
                    refine s_pure h (ru_eql_str (h.ev rfl) (h.ev rfl)) rfl ?_; intro f h
                    refine s_pure h (ru_assign (h.ev rfl)) rfl ?_; intro f h
                    refine s_nil ?_
                    refine hK20 _ _ ?_
                    refine wpIn_ret ?_
                    exact e_tmp rfl h s rfl (by show _ = _; rw [right_ref' (of_decide_eq_false g1) (of_decide_eq_false g2) (of_decide_eq_false g3) (of_decide_eq_false g4) (of_decide_eq_false g5), hb4, hb6, hb8]; show _ = Value.bool (c5 m); unfold c5; rw [hc]; rfl)
          · skip
            refine c_region ?_
            refine s_pure h (ru_field fld28_0 (h.ev rfl)) rfl ?_; intro f h
            refine s_load_at1 (cell_of_has (Has.of_own s 0 rfl) 0 (mArr_k _ _)) h one3 rfl rfl ?_; intro f h
            refine s_pure h (ru_val (.bool false) (ru_lss (h.ev rfl) (h.ev rfl)) (congrArg Value.bool g1)) rfl ?_; intro f h
            refine s_pure h (ru_move (h.ev rfl)) rfl ?_; intro f h
            refine s_on h rfl rfl rfl ?_
            refine s_pure h (ru_field fld28_0 (h.ev rfl)) rfl ?_; intro f h
            refine s_on h rfl rfl rfl ?_
            refine s_load_at1 (cell_of_has (Has.of_own s 0 rfl) 0 (mArr_k _ _)) h one3 rfl rfl ?_; intro f h
            refine s_on h rfl rfl rfl ?_
            refine s_pure h (ru_val (.bool false) (ru_gtr (h.ev rfl) (h.ev rfl)) (congrArg Value.bool g2)) rfl ?_; intro f h
            refine s_pure h (ru_pick_f (h.ev rfl) (h.ev rfl)) rfl ?_; intro f h
            refine s_pure h (ru_move (h.ev rfl)) rfl ?_; intro f h
            refine s_on h rfl rfl rfl ?_
            refine s_pure h (ru_field fld28_4 (h.ev rfl)) rfl ?_; intro f h
            refine s_on h rfl rfl rfl ?_
            refine s_load_at1 (cell_of_has (Has.of_own s 0 rfl) 68 (mArr_n _ _)) h one3 rfl rfl ?_; intro f h
            refine s_on h rfl rfl rfl ?_
            refine s_pure h (ru_val (.bool false) (ru_lss (h.ev rfl) (h.ev rfl)) (congrArg Value.bool g3)) rfl ?_; intro f h
            refine s_pure h (ru_pick_f (h.ev rfl) (h.ev rfl)) rfl ?_; intro f h
            refine s_pure h (ru_move (h.ev rfl)) rfl ?_; intro f h
            refine s_on h rfl rfl rfl ?_
            refine s_pure h (ru_field fld28_4 (h.ev rfl)) rfl ?_; intro f h
            refine s_on h rfl rfl rfl ?_
            refine s_load_at1 (cell_of_has (Has.of_own s 0 rfl) 68 (mArr_n _ _)) h one3 rfl rfl ?_; intro f h
            refine s_on h rfl rfl rfl ?_
            refine s_pure h (ru_val (.bool false) (ru_gtr (h.ev rfl) (h.ev rfl)) (congrArg Value.bool g4)) rfl ?_; intro f h
            refine s_pure h (ru_pick_f (h.ev rfl) (h.ev rfl)) rfl ?_; intro f h
            refine s_pure h (ru_move (h.ev rfl)) rfl ?_; intro f h
            refine s_on h rfl rfl rfl ?_
            refine s_pure h (ru_field fld28_6 (h.ev rfl)) rfl ?_; intro f h
            refine s_on h rfl rfl rfl ?_
            refine s_load_at1 (cell_of_has (Has.of_own s 0 rfl) 70 (mArr_d _ _)) h one9 rfl rfl ?_; intro f h
            refine s_on h rfl rfl rfl ?_
            refine s_pure h (ru_len_str Try.underlying9 (h.ev rfl)) rfl ?_; intro f h
            refine s_on h rfl rfl rfl ?_
            refine s_pure h (ru_val (.bool true) (ru_gtr (h.ev rfl) (h.ev rfl)) (congrArg Value.bool g5)) rfl ?_; intro f h
            refine s_pure h (ru_pick_f (h.ev rfl) (h.ev rfl)) rfl ?_; intro f h
            refine s_nil ?_
            refine hK3 _ _ ?_
            refine wpIn_cond_true (h.ev rfl) ?_
            refine c_seq fun K21 hK21 => ?_
            refine c_region ?_
            refine s_pure h (ru_assign (h.ev rfl)) rfl ?_; intro f h
            refine s_nil ?_
            refine hK21 _ _ ?_
            refine wpIn_ret ?_
            refine t_ret ?_
            exact e_tmp rfl h s rfl (by show _ = _; exact congrArg Value.bool (right_d (of_decide_eq_true g5)))
        · skip
          refine c_region ?_
          refine s_pure h (ru_field fld28_0 (h.ev rfl)) rfl ?_; intro f h
          refine s_load_at1 (cell_of_has (Has.of_own s 0 rfl) 0 (mArr_k _ _)) h one3 rfl rfl ?_; intro f h
          refine s_pure h (ru_val (.bool false) (ru_lss (h.ev rfl) (h.ev rfl)) (congrArg Value.bool g1)) rfl ?_; intro f h
          refine s_pure h (ru_move (h.ev rfl)) rfl ?_; intro f h
          refine s_on h rfl rfl rfl ?_
          refine s_pure h (ru_field fld28_0 (h.ev rfl)) rfl ?_; intro f h
          refine s_on h rfl rfl rfl ?_
          refine s_load_at1 (cell_of_has (Has.of_own s 0 rfl) 0 (mArr_k _ _)) h one3 rfl rfl ?_; intro f h
          refine s_on h rfl rfl rfl ?_
          refine s_pure h (ru_val (.bool false) (ru_gtr (h.ev rfl) (h.ev rfl)) (congrArg Value.bool g2)) rfl ?_; intro f h
          refine s_pure h (ru_pick_f (h.ev rfl) (h.ev rfl)) rfl ?_; intro f h
          refine s_pure h (ru_move (h.ev rfl)) rfl ?_; intro f h
          refine s_on h rfl rfl rfl ?_
          refine s_pure h (ru_field fld28_4 (h.ev rfl)) rfl ?_; intro f h
          refine s_on h rfl rfl rfl ?_
          refine s_load_at1 (cell_of_has (Has.of_own s 0 rfl) 68 (mArr_n _ _)) h one3 rfl rfl ?_; intro f h
          refine s_on h rfl rfl rfl ?_
          refine s_pure h (ru_val (.bool false) (ru_lss (h.ev rfl) (h.ev rfl)) (congrArg Value.bool g3)) rfl ?_; intro f h
          refine s_pure h (ru_pick_f (h.ev rfl) (h.ev rfl)) rfl ?_; intro f h
          refine s_pure h (ru_move (h.ev rfl)) rfl ?_; intro f h
          refine s_on h rfl rfl rfl ?_
          refine s_pure h (ru_field fld28_4 (h.ev rfl)) rfl ?_; intro f h
          refine s_on h rfl rfl rfl ?_
          refine s_load_at1 (cell_of_has (Has.of_own s 0 rfl) 68 (mArr_n _ _)) h one3 rfl rfl ?_; intro f h
          refine s_on h rfl rfl rfl ?_
          refine s_pure h (ru_val (.bool true) (ru_gtr (h.ev rfl) (h.ev rfl)) (congrArg Value.bool g4)) rfl ?_; intro f h
          refine s_pure h (ru_pick_f (h.ev rfl) (h.ev rfl)) rfl ?_; intro f h
          refine s_pure h (ru_move (h.ev rfl)) rfl ?_; intro f h
          refine s_off (b := false) h rfl rfl rfl rfl ?_; intro f h
          refine s_off (b := false) h rfl rfl rfl rfl ?_; intro f h
          refine s_off (b := false) h rfl rfl rfl rfl ?_; intro f h
          refine s_off (b := false) h rfl rfl rfl rfl ?_; intro f h
          refine s_pure h (ru_pick_t (h.ev rfl) (h.ev rfl)) rfl ?_; intro f h
          refine s_nil ?_
          refine hK3 _ _ ?_
          refine wpIn_cond_true (h.ev rfl) ?_
          refine c_seq fun K22 hK22 => ?_
          refine c_region ?_
          refine s_pure h (ru_assign (h.ev rfl)) rfl ?_; intro f h
          refine s_nil ?_
          refine hK22 _ _ ?_
          refine wpIn_ret ?_
          refine t_ret ?_
          exact e_tmp rfl h s rfl (by show _ = _; exact congrArg Value.bool (right_n2 (of_decide_eq_true g4)))
      · skip
        refine c_region ?_
        refine s_pure h (ru_field fld28_0 (h.ev rfl)) rfl ?_; intro f h
        refine s_load_at1 (cell_of_has (Has.of_own s 0 rfl) 0 (mArr_k _ _)) h one3 rfl rfl ?_; intro f h
        refine s_pure h (ru_val (.bool false) (ru_lss (h.ev rfl) (h.ev rfl)) (congrArg Value.bool g1)) rfl ?_; intro f h
        refine s_pure h (ru_move (h.ev rfl)) rfl ?_; intro f h
        refine s_on h rfl rfl rfl ?_
        refine s_pure h (ru_field fld28_0 (h.ev rfl)) rfl ?_; intro f h
        refine s_on h rfl rfl rfl ?_
        refine s_load_at1 (cell_of_has (Has.of_own s 0 rfl) 0 (mArr_k _ _)) h one3 rfl rfl ?_; intro f h
        refine s_on h rfl rfl rfl ?_
        refine s_pure h (ru_val (.bool false) (ru_gtr (h.ev rfl) (h.ev rfl)) (congrArg Value.bool g2)) rfl ?_; intro f h
        refine s_pure h (ru_pick_f (h.ev rfl) (h.ev rfl)) rfl ?_; intro f h
        refine s_pure h (ru_move (h.ev rfl)) rfl ?_; intro f h
        refine s_on h rfl rfl rfl ?_
        refine s_pure h (ru_field fld28_4 (h.ev rfl)) rfl ?_; intro f h
        refine s_on h rfl rfl rfl ?_
        refine s_load_at1 (cell_of_has (Has.of_own s 0 rfl) 68 (mArr_n _ _)) h one3 rfl rfl ?_; intro f h
        refine s_on h rfl rfl rfl ?_
        refine s_pure h (ru_val (.bool true) (ru_lss (h.ev rfl) (h.ev rfl)) (congrArg Value.bool g3)) rfl ?_; intro f h
        refine s_pure h (ru_pick_f (h.ev rfl) (h.ev rfl)) rfl ?_; intro f h
        refine s_pure h (ru_move (h.ev rfl)) rfl ?_; intro f h
        refine s_off (b := false) h rfl rfl rfl rfl ?_; intro f h
        refine s_off (b := false) h rfl rfl rfl rfl ?_; intro f h
        refine s_off (b := false) h rfl rfl rfl rfl ?_; intro f h
        refine s_pure h (ru_pick_t (h.ev rfl) (h.ev rfl)) rfl ?_; intro f h
        refine s_pure h (ru_move (h.ev rfl)) rfl ?_; intro f h
        refine s_off (b := false) h rfl rfl rfl rfl ?_; intro f h
        refine s_off (b := false) h rfl rfl rfl rfl ?_; intro f h
        refine s_off (b := false) h rfl rfl rfl rfl ?_; intro f h
        refine s_off (b := false) h rfl rfl rfl rfl ?_; intro f h
        refine s_pure h (ru_pick_t (h.ev rfl) (h.ev rfl)) rfl ?_; intro f h
        refine s_nil ?_
        refine hK3 _ _ ?_
        refine wpIn_cond_true (h.ev rfl) ?_
        refine c_seq fun K23 hK23 => ?_
        refine c_region ?_
        refine s_pure h (ru_assign (h.ev rfl)) rfl ?_; intro f h
        refine s_nil ?_
        refine hK23 _ _ ?_
        refine wpIn_ret ?_
        refine t_ret ?_
        exact e_tmp rfl h s rfl (by show _ = _; exact congrArg Value.bool (right_n1 (of_decide_eq_true g3)))
    · skip
      refine c_region ?_
      refine s_pure h (ru_field fld28_0 (h.ev rfl)) rfl ?_; intro f h
      refine s_load_at1 (cell_of_has (Has.of_own s 0 rfl) 0 (mArr_k _ _)) h one3 rfl rfl ?_; intro f h
      refine s_pure h (ru_val (.bool false) (ru_lss (h.ev rfl) (h.ev rfl)) (congrArg Value.bool g1)) rfl ?_; intro f h
      refine s_pure h (ru_move (h.ev rfl)) rfl ?_; intro f h
      refine s_on h rfl rfl rfl ?_
      refine s_pure h (ru_field fld28_0 (h.ev rfl)) rfl ?_; intro f h
      refine s_on h rfl rfl rfl ?_
      refine s_load_at1 (cell_of_has (Has.of_own s 0 rfl) 0 (mArr_k _ _)) h one3 rfl rfl ?_; intro f h
      refine s_on h rfl rfl rfl ?_
      refine s_pure h (ru_val (.bool true) (ru_gtr (h.ev rfl) (h.ev rfl)) (congrArg Value.bool g2)) rfl ?_; intro f h
      refine s_pure h (ru_pick_f (h.ev rfl) (h.ev rfl)) rfl ?_; intro f h
      refine s_pure h (ru_move (h.ev rfl)) rfl ?_; intro f h
      refine s_off (b := false) h rfl rfl rfl rfl ?_; intro f h
      refine s_off (b := false) h rfl rfl rfl rfl ?_; intro f h
      refine s_off (b := false) h rfl rfl rfl rfl ?_; intro f h
      refine s_pure h (ru_pick_t (h.ev rfl) (h.ev rfl)) rfl ?_; intro f h
      refine s_pure h (ru_move (h.ev rfl)) rfl ?_; intro f h
      refine s_off (b := false) h rfl rfl rfl rfl ?_; intro f h
      refine s_off (b := false) h rfl rfl rfl rfl ?_; intro f h
      refine s_off (b := false) h rfl rfl rfl rfl ?_; intro f h
      refine s_pure h (ru_pick_t (h.ev rfl) (h.ev rfl)) rfl ?_; intro f h
      refine s_pure h (ru_move (h.ev rfl)) rfl ?_; intro f h
      refine s_off (b := false) h rfl rfl rfl rfl ?_; intro f h
      refine s_off (b := false) h rfl rfl rfl rfl ?_; intro f h
      refine s_off (b := false) h rfl rfl rfl rfl ?_; intro f h
      refine s_off (b := false) h rfl rfl rfl rfl ?_; intro f h
      refine s_pure h (ru_pick_t (h.ev rfl) (h.ev rfl)) rfl ?_; intro f h
      refine s_nil ?_
      refine hK3 _ _ ?_
      refine wpIn_cond_true (h.ev rfl) ?_
      refine c_seq fun K24 hK24 => ?_
      refine c_region ?_
      refine s_pure h (ru_assign (h.ev rfl)) rfl ?_; intro f h
      refine s_nil ?_
      refine hK24 _ _ ?_
      refine wpIn_ret ?_
      refine t_ret ?_
      exact e_tmp rfl h s rfl (by show _ = _; exact congrArg Value.bool (right_k2 (of_decide_eq_true g2)))
  · skip
    refine c_region ?_
    refine s_pure h (ru_field fld28_0 (h.ev rfl)) rfl ?_; intro f h
    refine s_load_at1 (cell_of_has (Has.of_own s 0 rfl) 0 (mArr_k _ _)) h one3 rfl rfl ?_; intro f h
    refine s_pure h (ru_val (.bool true) (ru_lss (h.ev rfl) (h.ev rfl)) (congrArg Value.bool g1)) rfl ?_; intro f h
    refine s_pure h (ru_move (h.ev rfl)) rfl ?_; intro f h
    refine s_off (b := false) h rfl rfl rfl rfl ?_; intro f h
    refine s_off (b := false) h rfl rfl rfl rfl ?_; intro f h
    refine s_off (b := false) h rfl rfl rfl rfl ?_; intro f h
    refine s_pure h (ru_pick_t (h.ev rfl) (h.ev rfl)) rfl ?_; intro f h
    refine s_pure h (ru_move (h.ev rfl)) rfl ?_; intro f h
    refine s_off (b := false) h rfl rfl rfl rfl ?_; intro f h
    refine s_off (b := false) h rfl rfl rfl rfl ?_; intro f h
    refine s_off (b := false) h rfl rfl rfl rfl ?_; intro f h
    refine s_pure h (ru_pick_t (h.ev rfl) (h.ev rfl)) rfl ?_; intro f h
    refine s_pure h (ru_move (h.ev rfl)) rfl ?_; intro f h
    refine s_off (b := false) h rfl rfl rfl rfl ?_; intro f h
    refine s_off (b := false) h rfl rfl rfl rfl ?_; intro f h
    refine s_off (b := false) h rfl rfl rfl rfl ?_; intro f h
    refine s_pure h (ru_pick_t (h.ev rfl) (h.ev rfl)) rfl ?_; intro f h
    refine s_pure h (ru_move (h.ev rfl)) rfl ?_; intro f h
    refine s_off (b := false) h rfl rfl rfl rfl ?_; intro f h
    refine s_off (b := false) h rfl rfl rfl rfl ?_; intro f h
    refine s_off (b := false) h rfl rfl rfl rfl ?_; intro f h
    refine s_off (b := false) h rfl rfl rfl rfl ?_; intro f h
    refine s_pure h (ru_pick_t (h.ev rfl) (h.ev rfl)) rfl ?_; intro f h
    refine s_nil ?_
    refine hK3 _ _ ?_
    refine wpIn_cond_true (h.ev rfl) ?_
    refine c_seq fun K25 hK25 => ?_
    refine c_region ?_
    refine s_pure h (ru_assign (h.ev rfl)) rfl ?_; intro f h
    refine s_nil ?_
    refine hK25 _ _ ?_
    refine wpIn_ret ?_
    refine t_ret ?_
    exact e_tmp rfl h s rfl (by show _ = _; exact congrArg Value.bool (right_k1 (of_decide_eq_true g1)))
end Go.Proofs.Ytaehgcdcfbhohaa
