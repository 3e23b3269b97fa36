/- What is read of the bytes of a stack: the reference (texts of at most 100000 bytes). -/
import Derived.Test.YtaehgcdcfbhohaaVa
set_option linter.unusedVariables false
set_option linter.unusedSimpArgs false
set_option linter.unusedSectionVars false
namespace Go.Proofs.Ytaehgcdcfbhohaa
open Go.RowKit
set_option maxHeartbeats 4000000 in
theorem rread_any (sx : ByteArray) (hsx : sx.size ≤ 100000) (w : World) : Calls Try.prog 47 [.string sx].toArray w (Ret w (fun v w' => ∃ vs, v = .agg #[vs, .int .i64 (((readM sx).2.2 : Nat) : Int), .int .i64 (readM sx).1] ∧ Owns w' w.heap.size 25 34 vs (readM sx).2.1.length (eCells (readM sx).2.1))) := by
  have hb0 := sb_lt sx 0
  refine c_enter Try.func47 rfl Try.ntmps47 rfl [(0, .string sx)] (by simp) fun f h => ?_
  have s := St.start w
  refine c_seq fun K1 hK1 => ?_
  refine c_region ?_
  refine s_alloc (#[.slice none 0 0, .int .i64 0, .int .i64 0]) h s zero77 rfl rfl ?_; intro f w1 b2 h s
  refine s_nil ?_
  refine hK1 _ _ ?_
  refine c_seq fun K2 hK2 => ?_
  refine c_seq fun K3 hK3 => ?_
  refine c_region ?_
  refine s_pure h (ru_move (h.ev rfl)) rfl ?_; intro f h
  refine s_pure h (ru_len_str Try.underlying9 (h.ev rfl)) rfl ?_; intro f h
  refine s_pure h (ru_eql (h.ev rfl) (h.ev rfl)) rfl ?_; intro f h
  refine s_nil ?_
  refine hK3 _ _ ?_
  refine c_cond h rfl (fun hc => ?_) (fun hc => ?_)
  · replace hc := of_decide_eq_true hc
    refine c_seq fun K4 hK4 => ?_
    refine c_region ?_
    refine s_pure h (ru_build_t3 sttT (h.ev rfl)) rfl ?_; intro f h
    refine s_store_row 0 h s row77 rfl rfl rfl (rfl) (rfl) (t_ones _ _ _ rfl) ?_; intro w1 s
    refine s_nil ?_
    refine hK4 _ _ ?_
    refine wpIn_ret ?_
    refine t_ret ?_
    exact e_row 0 rfl h s row77 rfl rfl (rfl) (rd_outT (readM_0 (ba_nil hc)) rfl (owns_nil _ _ _ _))
  · replace hc := of_decide_eq_false hc
    have h0 : 0 < sx.size := by omega
    refine wpIn_skip ?_
    refine hK2 _ _ ?_
    refine c_seq fun K5 hK5 => ?_
    refine c_region ?_
    refine s_pure h (ru_move (h.ev rfl)) rfl ?_; intro f h
    refine s_pure h (ru_ix_sb Try.underlying9 (0) (h.ev rfl) (h.ev rfl) (by omega) (by omega)) rfl ?_; intro f h
    refine s_pure h (ru_conv_in Try.underlying5 Try.underlying3 (h.ev rfl) (IntWalk.i64_in _ (by omega))) rfl ?_; intro f h
    refine s_pure h (ru_assign (h.ev rfl)) rfl ?_; intro f h
    refine s_nil ?_
    refine hK5 _ _ ?_
    refine c_seq fun K6 hK6 => ?_
    refine c_seq fun K7 hK7 => ?_
    cases hq : (decide (((sb sx 0 : Nat) : Int) < 1) : Bool)
    · skip
      refine c_region ?_
      refine s_pure h (ru_move (h.ev rfl)) rfl ?_; intro f h
      refine s_pure h (ru_val (.bool false) (ru_lss (h.ev rfl) (h.ev rfl)) (congrArg Value.bool hq)) rfl ?_; intro f h
      refine s_pure h (ru_move (h.ev rfl)) rfl ?_; intro f h
      refine s_on h rfl rfl rfl ?_
      refine s_pure h (ru_move (h.ev rfl)) rfl ?_; intro f h
      refine s_on h rfl rfl rfl ?_
      refine s_pure h (ru_gtr (h.ev rfl) (h.ev rfl)) rfl ?_; intro f h
      refine s_pure h (ru_pick_f (h.ev rfl) (h.ev rfl)) rfl ?_; intro f h
      refine s_nil ?_
      refine hK7 _ _ ?_
      refine c_cond h rfl (fun hc => ?_) (fun hc => ?_)
      · replace hc := of_decide_eq_true hc
        have h4 := hc
        refine c_seq fun K8 hK8 => ?_
        refine c_region ?_
        refine s_pure h (ru_build_t3 sttT (h.ev rfl)) rfl ?_; intro f h
        refine s_store_row 0 h s row77 rfl rfl rfl (rfl) (rfl) (t_ones _ _ _ rfl) ?_; intro w1 s
        refine s_nil ?_
        refine hK8 _ _ ?_
        refine wpIn_ret ?_
        refine t_ret ?_
        exact e_row 0 rfl h s row77 rfl rfl (rfl) (rd_outT (readM_5 h0 (.inr h4)) rfl (owns_nil _ _ _ _))
      · replace hc := of_decide_eq_false hc
        have h4 := hc
        replace hq := of_decide_eq_false hq
        refine wpIn_skip ?_
        refine hK6 _ _ ?_
        refine c_seq fun K9 hK9 => ?_
        refine c_region ?_
        refine s_pure h (ru_build_t2 sttT (h.ev rfl)) rfl ?_; intro f h
        refine s_alloc (#[.slice none 0 0, .int .i64 0, .int .i64 0]) h s zero77 rfl rfl ?_; intro f w1 b4 h s
        refine s_store_row 0 h s row77 rfl rfl rfl (rfl) (rfl) (t_ones _ _ _ rfl) ?_; intro w1 s
        refine s_nil ?_
        refine hK9 _ _ ?_
        refine c_seq fun K10 hK10 => ?_
        refine c_seq fun K11 hK11 => ?_
        refine c_region ?_
        refine s_pure h (ru_assign (h.ev rfl)) rfl ?_; intro f h
        replace s := s.nilSl 25 34
        refine s_nil ?_
        refine hK11 _ _ ?_
        refine wpIn_block ?_
        refine wpIn_loop_ghost (fun nn aa ww => ∃ k : Nat, ∃ vl : Value, Sl 92 aa [(0, .string sx), (2, .pointer (some ⟨b2, 0, none⟩)), (4, .pointer (some ⟨b4, 0, none⟩)), (3, .int .i64 ((sb sx 0 : Nat) : Int)), (5, .int .i64 (k : Int))] ∧ St w [.sl vl 25 34 k (eCells (rdS sx k).2.1), .blk b4 (.cells (#[vl, .int .i64 (((rdS sx k).2.2 : Nat) : Int), .int .i64 0]) 77), .blk b2 (.cells (#[.slice none 0 0, .int .i64 0, .int .i64 0]) 77)] ww ∧ nn = sb sx 0 - k ∧ k ≤ sb sx 0 ∧ (rdS sx k).1 = 0) (sb sx 0 - (0)) ⟨0, (Value.slice none 0 0), h.only ⟨rfl, rfl, rfl, rfl, slot_int rfl rfl, trivial⟩, s.as ⟨sl_eq rfl rfl, cells_eq rfl, rfl, trivial⟩, rfl, Nat.zero_le _, rfl⟩ ?_
        rintro _ f w1 ⟨k, vl, h, s, hnn, hp0, hp1⟩
        refine c_seq fun K12 hK12 => ?_
        refine c_seq fun K13 hK13 => ?_
        refine c_region ?_
        refine s_pure h (ru_move (h.ev rfl)) rfl ?_; intro f h
        refine s_pure h (ru_move (h.ev rfl)) rfl ?_; intro f h
        refine s_pure h (ru_lss (h.ev rfl) (h.ev rfl)) rfl ?_; intro f h
        refine s_nil ?_
        refine hK13 _ _ ?_
        refine c_cond h rfl (fun hc => ?_) (fun hc => ?_)
        · replace hc := of_decide_eq_true hc
          refine wpIn_skip ?_
          refine hK12 _ _ ?_
          refine c_seq fun K14 hK14 => ?_
          refine wpIn_block ?_
          refine c_seq fun K15 hK15 => ?_
          refine c_region ?_
          refine s_pure h (ru_move (h.ev rfl)) rfl ?_; intro f h
          refine s_pure h (ru_field fld77_1 (h.ev rfl)) rfl ?_; intro f h
          refine s_load_at1 (cell_of_has (Has.of_own s 1 rfl) 1 (rfl)) h one3 rfl rfl ?_; intro f h
          have hkl : k < sb sx 0 := by omega
          obtain ⟨hro1, hro2, hro3, hro4, hro5⟩ := rd_ok sx (by omega) k hp1
          have hsu := suf_size sx (rdS sx k).2.2
          have hb1 := sb_lt (sufS sx (rdS sx k).2.2) 0
          have hb2 := sb_lt (sufS sx (rdS sx k).2.2) 1
          refine s_pure h (ru_val (.string (sufS sx (rdS sx k).2.2)) (ru_slice_str_lo ((rdS sx k).2.2) Try.underlying9 (h.ev rfl) (h.ev rfl) (rfl) (by omega)) (rfl)) rfl ?_; intro f h
          refine s_pure h (ru_assign (h.ev rfl)) rfl ?_; intro f h
          refine s_nil ?_
          refine hK15 _ _ ?_
          refine c_seq fun K16 hK16 => ?_
          refine c_seq fun K17 hK17 => ?_
          refine c_region ?_
          refine s_pure h (ru_move (h.ev rfl)) rfl ?_; intro f h
          refine s_pure h (ru_len_str Try.underlying9 (h.ev rfl)) rfl ?_; intro f h
          refine s_pure h (ru_eql (h.ev rfl) (h.ev rfl)) rfl ?_; intro f h
          refine s_nil ?_
          refine hK17 _ _ ?_
          refine c_cond h rfl (fun hc => ?_) (fun hc => ?_)
          · replace hc := of_decide_eq_true hc
            have hz0 := hc
            refine c_seq fun K18 hK18 => ?_
            refine c_region ?_
            refine s_pure h (ru_build_t3 sttT (h.ev rfl)) rfl ?_; intro f h
            refine s_store_row 2 h s row77 rfl rfl rfl (rfl) (rfl) (t_ones _ _ _ rfl) ?_; intro w1 s
            refine s_nil ?_
            refine hK18 _ _ ?_
            refine wpIn_ret ?_
            refine t_ret ?_
            refine b_ret ?_
            refine t_ret ?_
            refine t_ret ?_
            refine b_ret ?_
            refine t_ret ?_
            exact e_row 2 rfl h s row77 rfl rfl (rfl) (rd_outT (rd_bad h0 hq h4 hp1 hkl (entR_0 hz0) (by decide)) rfl (owns_nil _ _ _ _))
          · replace hc := of_decide_eq_false hc
            have hz0 := hc
            refine wpIn_skip ?_
            refine hK16 _ _ ?_
            refine c_seq fun K19 hK19 => ?_
            refine c_region ?_
            refine s_pure h (ru_assign (h.ev rfl)) rfl ?_; intro f h
            refine s_nil ?_
            refine hK19 _ _ ?_
            refine c_seq fun K20 hK20 => ?_
            refine c_seq fun K21 hK21 => ?_
            refine c_region ?_
            refine s_pure h (ru_move (h.ev rfl)) rfl ?_; intro f h
            refine s_pure h (ru_ix_sb Try.underlying9 (0) (h.ev rfl) (h.ev rfl) (by omega) (by omega)) rfl ?_; intro f h
            refine s_pure h (ru_eql (h.ev rfl) (h.ev rfl)) rfl ?_; intro f h
            refine s_nil ?_
            refine hK21 _ _ ?_
            refine c_cond h rfl (fun hc => ?_) (fun hc => ?_)
            · replace hc := of_decide_eq_true hc
              have hk1 := hc
              refine c_region ?_
              refine s_pure h (ru_assign (h.ev rfl)) rfl ?_; intro f h
              refine s_nil ?_
              refine hK20 _ _ ?_
              refine c_seq fun K22 hK22 => ?_
              refine c_seq fun K23 hK23 => ?_
              refine c_region ?_
              refine s_pure h (ru_move (h.ev rfl)) rfl ?_; intro f h
              refine s_pure h (ru_ix_sb Try.underlying9 (0) (h.ev rfl) (h.ev rfl) (by omega) (by omega)) rfl ?_; intro f h
              refine s_pure h (ru_val (.bool false) (ru_lss (h.ev rfl) (h.ev rfl)) (congrArg Value.bool (decide_eq_false (by omega)))) rfl ?_; intro f h
              refine s_pure h (ru_move (h.ev rfl)) rfl ?_; intro f h
              refine s_on h rfl rfl rfl ?_
              refine s_pure h (ru_move (h.ev rfl)) rfl ?_; intro f h
              refine s_on h rfl rfl rfl ?_
              refine s_pure h (ru_ix_sb Try.underlying9 (0) (h.ev rfl) (h.ev rfl) (by omega) (by omega)) rfl ?_; intro f h
              refine s_on h rfl rfl rfl ?_
              refine s_pure h (ru_val (.bool false) (ru_gtr (h.ev rfl) (h.ev rfl)) (congrArg Value.bool (decide_eq_false (by omega)))) rfl ?_; intro f h
              refine s_pure h (ru_pick_f (h.ev rfl) (h.ev rfl)) rfl ?_; intro f h
              refine s_nil ?_
              refine hK23 _ _ ?_
              refine wpIn_cond_false (h.ev rfl) ?_
              refine wpIn_skip ?_
              refine hK22 _ _ ?_
              refine c_seq fun K24 hK24 => ?_
              refine c_seq fun K25 hK25 => ?_
              refine c_region ?_
              refine s_pure h (ru_move (h.ev rfl)) rfl ?_; intro f h
              refine s_pure h (ru_len_str Try.underlying9 (h.ev rfl)) rfl ?_; intro f h
              refine s_pure h (ru_move (h.ev rfl)) rfl ?_; intro f h
              refine s_pure h (ru_lss (h.ev rfl) (h.ev rfl)) rfl ?_; intro f h
              refine s_nil ?_
              refine hK25 _ _ ?_
              refine c_cond h rfl (fun hc => ?_) (fun hc => ?_)
              · replace hc := of_decide_eq_true hc
                have hsz := hc
                refine c_seq fun K26 hK26 => ?_
                refine c_region ?_
                refine s_pure h (ru_build_t3 sttT (h.ev rfl)) rfl ?_; intro f h
                refine s_store_row 2 h s row77 rfl rfl rfl (rfl) (rfl) (t_ones _ _ _ rfl) ?_; intro w1 s
                refine s_nil ?_
                refine hK26 _ _ ?_
                refine wpIn_ret ?_
                refine t_ret ?_
                refine b_ret ?_
                refine t_ret ?_
                refine t_ret ?_
                refine b_ret ?_
                refine t_ret ?_
                exact e_row 2 rfl h s row77 rfl rfl (rfl) (rd_outT (rd_bad h0 hq h4 hp1 hkl (entR_1s hz0 hk1 hsz) (by decide)) rfl (owns_nil _ _ _ _))
              · replace hc := of_decide_eq_false hc
                have hsz := hc
                refine wpIn_skip ?_
                refine hK24 _ _ ?_
                refine c_seq fun K27 hK27 => ?_
                refine c_region ?_
                refine s_pure h (ru_move (h.ev rfl)) rfl ?_; intro f h
                refine s_pure h (ru_ix_sb Try.underlying9 (0) (h.ev rfl) (h.ev rfl) (by omega) (by omega)) rfl ?_; intro f h
                refine s_pure h (ru_conv_in Try.underlying5 Try.underlying3 (h.ev rfl) (IntWalk.i64_in _ (by omega))) rfl ?_; intro f h
                refine s_pure h (ru_build_e1 sttE (h.ev rfl)) rfl ?_; intro f h
                refine s_alloc (eArr (0, 0#256, 0)) h s zero25 rfl rfl ?_; intro f w1 b8 h s
                refine s_store_row 0 h s row25 rfl rfl rfl (eArr_size _) (eArr_size _) (eArr_ones _) ?_; intro w1 s
                refine s_nil ?_
                refine hK27 _ _ ?_
                refine c_seq fun K28 hK28 => ?_
                refine c_seq fun K29 hK29 => ?_
                refine c_region ?_
                refine s_pure h (ru_move (h.ev rfl)) rfl ?_; intro f h
                refine s_pure h (ru_val (.bool false) (ru_eql (h.ev rfl) (h.ev rfl)) (congrArg Value.bool (rfl))) rfl ?_; intro f h
                refine s_nil ?_
                refine hK29 _ _ ?_
                refine wpIn_cond_false (h.ev rfl) ?_
                refine c_seq fun K30 hK30 => ?_
                refine c_region ?_
                refine s_pure h (ru_assign (h.ev rfl)) rfl ?_; intro f h
                refine s_nil ?_
                refine hK30 _ _ ?_
                refine wpIn_block ?_
                refine wpIn_loop_ghost (fun nn aa ww => ∃ j : Nat, Sl 92 aa [(0, .string sx), (2, .pointer (some ⟨b2, 0, none⟩)), (4, .pointer (some ⟨b4, 0, none⟩)), (8, .pointer (some ⟨b8, 0, none⟩)), (3, .int .i64 ((sb sx 0 : Nat) : Int)), (5, .int .i64 (k : Int)), (6, .string (sufS sx (rdS sx k).2.2)), (7, .int .i64 33), (9, .int .i64 (j : Int))] ∧ St w [.blk b8 (.cells (eArr (((sb (sufS sx (rdS sx k).2.2) 0 : Nat) : Int), ptd (sufS sx (rdS sx k).2.2) j, 0)) 25), .sl vl 25 34 k (eCells (rdS sx k).2.1), .blk b4 (.cells (#[vl, .int .i64 (((rdS sx k).2.2 : Nat) : Int), .int .i64 0]) 77), .blk b2 (.cells (#[.slice none 0 0, .int .i64 0, .int .i64 0]) 77)] ww ∧ nn = 32 - j ∧ j ≤ 32) (32 - (0)) ⟨0, h.only ⟨rfl, rfl, rfl, rfl, rfl, rfl, rfl, rfl, slot_int rfl rfl, trivial⟩, s.as ⟨cells_eq (by rw [ptd_zero]), rfl, rfl, rfl, trivial⟩, rfl, Nat.zero_le _⟩ ?_
                rintro _ f w1 ⟨j, h, s, hnn, hp0⟩
                refine c_seq fun K31 hK31 => ?_
                refine c_seq fun K32 hK32 => ?_
                refine c_region ?_
                refine s_pure h (ru_move (h.ev rfl)) rfl ?_; intro f h
                refine s_pure h (ru_lss (h.ev rfl) (h.ev rfl)) rfl ?_; intro f h
                refine s_nil ?_
                refine hK32 _ _ ?_
                refine c_cond h rfl (fun hc => ?_) (fun hc => ?_)
                · replace hc := of_decide_eq_true hc
                  refine wpIn_skip ?_
                  refine hK31 _ _ ?_
                  refine c_seq fun K33 hK33 => ?_
                  refine wpIn_block ?_
                  refine c_region ?_
                  refine s_pure h (ru_move (h.ev rfl)) rfl ?_; intro f h
                  refine s_pure h (ru_move (h.ev rfl)) rfl ?_; intro f h
                  refine s_pure h (ru_move (h.ev rfl)) rfl ?_; intro f h
                  refine s_pure h (ru_add (h.ev rfl) (h.ev rfl) (by omega)) rfl ?_; intro f h
                  refine s_pure h (ru_ix_sb Try.underlying9 (1 + j) (h.ev rfl) (h.ev rfl) (by omega) (by omega)) rfl ?_; intro f h
                  refine s_pure h (ru_field fld25_1 (h.ev rfl)) rfl ?_; intro f h
                  refine s_pure h (ru_ix_at (j) Try.underlying23 size5 (h.ev rfl) (h.ev rfl) (by omega) (by omega)) rfl ?_; intro f h
                  refine s_store_one 0 h s one5 rfl rfl rfl (by rw [eArr_size]; omega) (rfl) ?_; intro w1 s
                  refine s_nil ?_
                  refine b_norm ?_
                  refine hK33 _ _ ?_
                  refine c_region ?_
                  refine s_pure h (ru_move (h.ev rfl)) rfl ?_; intro f h
                  refine s_pure h (ru_add (h.ev rfl) (h.ev rfl) (by omega)) rfl ?_; intro f h
                  refine s_pure h (ru_assign (h.ev rfl)) rfl ?_; intro f h
                  refine s_nil ?_
                  refine t_norm ?_
                  exact ⟨_, by omega, ⟨j + 1, h.only ⟨rfl, rfl, rfl, rfl, rfl, rfl, rfl, rfl, slot_int rfl (by omega), trivial⟩, St.as s ⟨cells_eq (eArr_setB _ _ _ _ _ _ (by omega) (ptd_next (by omega))), rfl, rfl, rfl, trivial⟩, rfl, by omega⟩⟩
                · replace hc := of_decide_eq_false hc
                  refine wpIn_exit ?_
                  refine t_exit ?_
                  refine t_exit ?_
                  refine b_exit ?_
                  refine hK28 _ _ ?_
                  refine c_seq fun K34 hK34 => ?_
                  refine c_seq fun K35 hK35 => ?_
                  refine c_region ?_
                  obtain rfl : j = 32 := by omega
                  have he0 := entR_1 hz0 hk1 hsz
                  have s := s.recell (D := eArr (1, idOf fun i => sb (sufS sx (rdS sx k).2.2) (1 + i), 0)) 0 rfl (by rw [hk1, ptd_end])
                  refine s_pure h (ru_field fld25_2 (h.ev rfl)) rfl ?_; intro f h
                  refine s_load_at1 (cell_of_has (Has.of_own s 0 rfl) 33 (eArr_host _)) h one3 rfl rfl ?_; intro f h
                  refine s_pure h (ru_val (.bool false) (ru_gtr (h.ev rfl) (h.ev rfl)) (congrArg Value.bool (decide_eq_false (show ¬ (15 : Int) < 0 by decide)))) rfl ?_; intro f h
                  refine s_nil ?_
                  refine hK35 _ _ ?_
                  refine wpIn_cond_false (h.ev rfl) ?_
                  refine wpIn_skip ?_
                  refine hK34 _ _ ?_
                  refine c_seq fun K36 hK36 => ?_
                  refine c_region ?_
                  refine s_pure h (ru_field fld77_0 (h.ev rfl)) rfl ?_; intro f h
                  refine s_load_at1 (cell_of_has (Has.of_own s 2 rfl) 0 (rfl)) h one26 rfl rfl ?_; intro f h
                  refine s_load_row 0 h s row25 rfl rfl (eArr_size _) rfl ?_; intro f h
                  refine s_bslice (vs := [.agg (eArr (1, idOf fun i => sb (sufS sx (rdS sx k).2.2) (1 + i), 0))]) [.tmp 82] h s Try.underlying26 elm25 rfl rfl (by intro v hv; rw [List.mem_singleton] at hv; subst hv; exact eArr_size _) rfl rfl rfl ?_; intro f w1 v83 h s
                  refine s_append 2 0 h s Try.underlying26 elm25 rfl rfl rfl rfl (by decide) (by simp only [List.flatMap_cons, List.flatMap_nil, List.append_nil]; exact eArr_ones _) (by unfold maxLen; omega) (by omega) rfl ?_; intro f w1 v84 h s
                  replace s := s.pick _ (List.sublist_cons_self _ _)
                  refine s_pure h (ru_field fld77_0 (h.ev rfl)) rfl ?_; intro f h
                  refine s_store_one 2 h s one26 rfl rfl rfl (by simp) (own_one (s.getSl 1 rfl)) ?_; intro w1 s
                  refine s_nil ?_
                  refine hK36 _ _ ?_
                  refine c_region ?_
                  refine s_pure h (ru_field fld77_1 (h.ev rfl)) rfl ?_; intro f h
                  refine s_load_at1 (cell_of_has (Has.of_own s 2 rfl) 1 (rfl)) h one3 rfl rfl ?_; intro f h
                  refine s_pure h (ru_move (h.ev rfl)) rfl ?_; intro f h
                  refine s_pure h (ru_add (h.ev rfl) (h.ev rfl) (by omega)) rfl ?_; intro f h
                  refine s_pure h (ru_field fld77_1 (h.ev rfl)) rfl ?_; intro f h
                  refine s_store_one 2 h s one3 rfl rfl rfl (by simp) (rfl) ?_; intro w1 s
                  refine s_nil ?_
                  refine b_norm ?_
                  refine hK14 _ _ ?_
                  refine c_region ?_
                  refine s_pure h (ru_move (h.ev rfl)) rfl ?_; intro f h
                  refine s_pure h (ru_add (h.ev rfl) (h.ev rfl) (by omega)) rfl ?_; intro f h
                  refine s_pure h (ru_assign (h.ev rfl)) rfl ?_; intro f h
                  refine s_nil ?_
                  refine t_norm ?_
                  exact ⟨_, by omega, ⟨k + 1, v84, h.only ⟨rfl, rfl, rfl, rfl, slot_int rfl (by omega), trivial⟩, St.as (s.pick _ (List.sublist_append_right [_] _)) ⟨sl_eq rfl (eCells_to hp1 he0), cells_eq (rec_to hp1 he0), rfl, trivial⟩, rfl, by omega, by rw [rdS_to hp1 he0]⟩⟩
            · replace hc := of_decide_eq_false hc
              have hk1 := hc
              refine wpIn_skip ?_
              refine hK20 _ _ ?_
              refine c_seq fun K37 hK37 => ?_
              refine c_seq fun K38 hK38 => ?_
              cases hw : (decide (((sb (sufS sx (rdS sx k).2.2) 0 : Nat) : Int) < 1) : Bool)
              · skip
                refine c_region ?_
                refine s_pure h (ru_move (h.ev rfl)) rfl ?_; intro f h
                refine s_pure h (ru_ix_sb Try.underlying9 (0) (h.ev rfl) (h.ev rfl) (by omega) (by omega)) rfl ?_; intro f h
                refine s_pure h (ru_val (.bool false) (ru_lss (h.ev rfl) (h.ev rfl)) (congrArg Value.bool hw)) rfl ?_; intro f h
                refine s_pure h (ru_move (h.ev rfl)) rfl ?_; intro f h
                refine s_on h rfl rfl rfl ?_
                refine s_pure h (ru_move (h.ev rfl)) rfl ?_; intro f h
                refine s_on h rfl rfl rfl ?_
                refine s_pure h (ru_ix_sb Try.underlying9 (0) (h.ev rfl) (h.ev rfl) (by omega) (by omega)) rfl ?_; intro f h
                refine s_on h rfl rfl rfl ?_
                refine s_pure h (ru_gtr (h.ev rfl) (h.ev rfl)) rfl ?_; intro f h
                refine s_pure h (ru_pick_f (h.ev rfl) (h.ev rfl)) rfl ?_; intro f h
                refine s_nil ?_
                refine hK38 _ _ ?_
                refine c_cond h rfl (fun hc => ?_) (fun hc => ?_)
                · replace hc := of_decide_eq_true hc
                  have hk2 := hc
                  refine c_seq fun K39 hK39 => ?_
                  refine c_region ?_
                  refine s_pure h (ru_build_t3 sttT (h.ev rfl)) rfl ?_; intro f h
                  refine s_store_row 2 h s row77 rfl rfl rfl (rfl) (rfl) (t_ones _ _ _ rfl) ?_; intro w1 s
                  refine s_nil ?_
                  refine hK39 _ _ ?_
                  refine wpIn_ret ?_
                  refine t_ret ?_
                  refine b_ret ?_
                  refine t_ret ?_
                  refine t_ret ?_
                  refine b_ret ?_
                  refine t_ret ?_
                  exact e_row 2 rfl h s row77 rfl rfl (rfl) (rd_outT (rd_bad h0 hq h4 hp1 hkl (entR_n hz0 hk1 (.inr hk2)) (by decide)) rfl (owns_nil _ _ _ _))
                · replace hc := of_decide_eq_false hc
                  have hk2 := hc
                  have hk3 : ((sb (sufS sx (rdS sx k).2.2) 0 : Nat) : Int) = 2 := by have := of_decide_eq_false hw; omega
                  refine wpIn_skip ?_
                  refine hK37 _ _ ?_
                  refine c_seq fun K40 hK40 => ?_
                  refine c_seq fun K41 hK41 => ?_
                  refine c_region ?_
                  refine s_pure h (ru_move (h.ev rfl)) rfl ?_; intro f h
                  refine s_pure h (ru_len_str Try.underlying9 (h.ev rfl)) rfl ?_; intro f h
                  refine s_pure h (ru_move (h.ev rfl)) rfl ?_; intro f h
                  refine s_pure h (ru_lss (h.ev rfl) (h.ev rfl)) rfl ?_; intro f h
                  refine s_nil ?_
                  refine hK41 _ _ ?_
                  refine c_cond h rfl (fun hc => ?_) (fun hc => ?_)
                  · replace hc := of_decide_eq_true hc
                    have hsz := hc
                    refine c_seq fun K42 hK42 => ?_
                    refine c_region ?_
                    refine s_pure h (ru_build_t3 sttT (h.ev rfl)) rfl ?_; intro f h
                    refine s_store_row 2 h s row77 rfl rfl rfl (rfl) (rfl) (t_ones _ _ _ rfl) ?_; intro w1 s
                    refine s_nil ?_
                    refine hK42 _ _ ?_
                    refine wpIn_ret ?_
                    refine t_ret ?_
                    refine b_ret ?_
                    refine t_ret ?_
                    refine t_ret ?_
                    refine b_ret ?_
                    refine t_ret ?_
                    exact e_row 2 rfl h s row77 rfl rfl (rfl) (rd_outT (rd_bad h0 hq h4 hp1 hkl (entR_2s hz0 hk3 hsz) (by decide)) rfl (owns_nil _ _ _ _))
                  · replace hc := of_decide_eq_false hc
                    have hsz := hc
                    refine wpIn_skip ?_
                    refine hK40 _ _ ?_
                    refine c_seq fun K43 hK43 => ?_
                    refine c_region ?_
                    refine s_pure h (ru_move (h.ev rfl)) rfl ?_; intro f h
                    refine s_pure h (ru_ix_sb Try.underlying9 (0) (h.ev rfl) (h.ev rfl) (by omega) (by omega)) rfl ?_; intro f h
                    refine s_pure h (ru_conv_in Try.underlying5 Try.underlying3 (h.ev rfl) (IntWalk.i64_in _ (by omega))) rfl ?_; intro f h
                    refine s_pure h (ru_build_e1 sttE (h.ev rfl)) rfl ?_; intro f h
                    refine s_alloc (eArr (0, 0#256, 0)) h s zero25 rfl rfl ?_; intro f w1 b8 h s
                    refine s_store_row 0 h s row25 rfl rfl rfl (eArr_size _) (eArr_size _) (eArr_ones _) ?_; intro w1 s
                    refine s_nil ?_
                    refine hK43 _ _ ?_
                    refine c_seq fun K44 hK44 => ?_
                    refine c_seq fun K45 hK45 => ?_
                    refine c_region ?_
                    refine s_pure h (ru_move (h.ev rfl)) rfl ?_; intro f h
                    refine s_pure h (ru_val (.bool true) (ru_eql (h.ev rfl) (h.ev rfl)) (congrArg Value.bool (rfl))) rfl ?_; intro f h
                    refine s_nil ?_
                    refine hK45 _ _ ?_
                    refine wpIn_cond_true (h.ev rfl) ?_
                    refine c_region ?_
                    refine s_pure h (ru_move (h.ev rfl)) rfl ?_; intro f h
                    refine s_pure h (ru_ix_sb Try.underlying9 (1) (h.ev rfl) (h.ev rfl) (by omega) (by omega)) rfl ?_; intro f h
                    refine s_pure h (ru_conv_in Try.underlying5 Try.underlying3 (h.ev rfl) (IntWalk.i64_in _ (by omega))) rfl ?_; intro f h
                    refine s_pure h (ru_field fld25_2 (h.ev rfl)) rfl ?_; intro f h
                    refine s_store_one 0 h s one3 rfl rfl rfl (by rw [eArr_size]; omega) (rfl) ?_; intro w1 s
                    have s := s.recell (D := eArr (2, 0#256, ((sb (sufS sx (rdS sx k).2.2) 1 : Nat) : Int))) 0 rfl (by rw [hk3]; exact eArr_setH _ _ _ _)
                    refine s_nil ?_
                    refine hK44 _ _ ?_
                    refine c_seq fun K46 hK46 => ?_
                    refine c_seq fun K47 hK47 => ?_
                    refine c_region ?_
                    refine s_pure h (ru_field fld25_2 (h.ev rfl)) rfl ?_; intro f h
                    refine s_load_at1 (cell_of_has (Has.of_own s 0 rfl) 33 (eArr_host _)) h one3 rfl rfl ?_; intro f h
                    refine s_pure h (ru_gtr (h.ev rfl) (h.ev rfl)) rfl ?_; intro f h
                    refine s_nil ?_
                    refine hK47 _ _ ?_
                    refine c_cond h rfl (fun hc => ?_) (fun hc => ?_)
                    · replace hc := of_decide_eq_true hc
                      have hh := hc
                      refine c_seq fun K48 hK48 => ?_
                      refine c_region ?_
                      refine s_pure h (ru_build_t3 sttT (h.ev rfl)) rfl ?_; intro f h
                      refine s_store_row 3 h s row77 rfl rfl rfl (rfl) (rfl) (t_ones _ _ _ rfl) ?_; intro w1 s
                      refine s_nil ?_
                      refine hK48 _ _ ?_
                      refine wpIn_ret ?_
                      refine t_ret ?_
                      refine b_ret ?_
                      refine t_ret ?_
                      refine t_ret ?_
                      refine b_ret ?_
                      refine t_ret ?_
                      exact e_row 3 rfl h s row77 rfl rfl (rfl) (rd_outT (rd_bad h0 hq h4 hp1 hkl (entR_2h hz0 hk3 hsz hh) (by decide)) rfl (owns_nil _ _ _ _))
                    · replace hc := of_decide_eq_false hc
                      have hh := hc
                      have he0 := entR_2 hz0 hk3 hsz hh
                      refine wpIn_skip ?_
                      refine hK46 _ _ ?_
                      refine c_seq fun K49 hK49 => ?_
                      refine c_region ?_
                      refine s_pure h (ru_field fld77_0 (h.ev rfl)) rfl ?_; intro f h
                      refine s_load_at1 (cell_of_has (Has.of_own s 2 rfl) 0 (rfl)) h one26 rfl rfl ?_; intro f h
                      refine s_load_row 0 h s row25 rfl rfl (eArr_size _) rfl ?_; intro f h
                      refine s_bslice (vs := [.agg (eArr (2, 0#256, ((sb (sufS sx (rdS sx k).2.2) 1 : Nat) : Int)))]) [.tmp 82] h s Try.underlying26 elm25 rfl rfl (by intro v hv; rw [List.mem_singleton] at hv; subst hv; exact eArr_size _) rfl rfl rfl ?_; intro f w1 v83 h s
                      refine s_append 2 0 h s Try.underlying26 elm25 rfl rfl rfl rfl (by decide) (by simp only [List.flatMap_cons, List.flatMap_nil, List.append_nil]; exact eArr_ones _) (by unfold maxLen; omega) (by omega) rfl ?_; intro f w1 v84 h s
                      replace s := s.pick _ (List.sublist_cons_self _ _)
                      refine s_pure h (ru_field fld77_0 (h.ev rfl)) rfl ?_; intro f h
                      refine s_store_one 2 h s one26 rfl rfl rfl (by simp) (own_one (s.getSl 1 rfl)) ?_; intro w1 s
                      refine s_nil ?_
                      refine hK49 _ _ ?_
                      refine c_region ?_
                      refine s_pure h (ru_field fld77_1 (h.ev rfl)) rfl ?_; intro f h
                      refine s_load_at1 (cell_of_has (Has.of_own s 2 rfl) 1 (rfl)) h one3 rfl rfl ?_; intro f h
                      refine s_pure h (ru_move (h.ev rfl)) rfl ?_; intro f h
                      refine s_pure h (ru_add (h.ev rfl) (h.ev rfl) (by omega)) rfl ?_; intro f h
                      refine s_pure h (ru_field fld77_1 (h.ev rfl)) rfl ?_; intro f h
                      refine s_store_one 2 h s one3 rfl rfl rfl (by simp) (rfl) ?_; intro w1 s
                      refine s_nil ?_
                      refine b_norm ?_
                      refine hK14 _ _ ?_
                      refine c_region ?_
                      refine s_pure h (ru_move (h.ev rfl)) rfl ?_; intro f h
                      refine s_pure h (ru_add (h.ev rfl) (h.ev rfl) (by omega)) rfl ?_; intro f h
                      refine s_pure h (ru_assign (h.ev rfl)) rfl ?_; intro f h
                      refine s_nil ?_
                      refine t_norm ?_
                      exact ⟨_, by omega, ⟨k + 1, v84, h.only ⟨rfl, rfl, rfl, rfl, slot_int rfl (by omega), trivial⟩, St.as (s.pick _ (List.sublist_append_right [_] _)) ⟨sl_eq rfl (eCells_to hp1 he0), cells_eq (rec_to hp1 he0), rfl, trivial⟩, rfl, by omega, by rw [rdS_to hp1 he0]⟩⟩
              · skip
                refine c_region ?_
                refine s_pure h (ru_move (h.ev rfl)) rfl ?_; intro f h
                refine s_pure h (ru_ix_sb Try.underlying9 (0) (h.ev rfl) (h.ev rfl) (by omega) (by omega)) rfl ?_; intro f h
                refine s_pure h (ru_val (.bool true) (ru_lss (h.ev rfl) (h.ev rfl)) (congrArg Value.bool hw)) rfl ?_; intro f h
                refine s_pure h (ru_move (h.ev rfl)) rfl ?_; intro f h
                refine s_off (b := false) h rfl rfl rfl rfl ?_; intro f h
                refine s_off (b := false) h rfl rfl rfl rfl ?_; intro f h
                refine s_off (b := false) h rfl rfl rfl rfl ?_; intro f h
                refine s_pure h (ru_pick_t (h.ev rfl) (h.ev rfl)) rfl ?_; intro f h
                refine s_nil ?_
                refine hK38 _ _ ?_
                refine wpIn_cond_true (h.ev rfl) ?_
                refine c_seq fun K50 hK50 => ?_
                refine c_region ?_
                refine s_pure h (ru_build_t3 sttT (h.ev rfl)) rfl ?_; intro f h
                refine s_store_row 2 h s row77 rfl rfl rfl (rfl) (rfl) (t_ones _ _ _ rfl) ?_; intro w1 s
                refine s_nil ?_
                refine hK50 _ _ ?_
                refine wpIn_ret ?_
                refine t_ret ?_
                refine b_ret ?_
                refine t_ret ?_
                refine t_ret ?_
                refine b_ret ?_
                refine t_ret ?_
                exact e_row 2 rfl h s row77 rfl rfl (rfl) (rd_outT (rd_bad h0 hq h4 hp1 hkl (entR_n hz0 hk1 (.inl (of_decide_eq_true hw))) (by decide)) rfl (owns_nil _ _ _ _))
        · replace hc := of_decide_eq_false hc
          refine wpIn_exit ?_
          refine t_exit ?_
          refine t_exit ?_
          refine b_exit ?_
          refine hK10 _ _ ?_
          refine c_seq fun K51 hK51 => ?_
          refine c_region ?_
          obtain ⟨hlen, _⟩ := rd_ok sx (by omega) k hp1
          refine s_load_row 1 h s row77 rfl rfl (rfl) rfl ?_; intro f h
          refine s_store_row 2 h s row77 rfl rfl rfl (rfl) (rfl) (t_ones _ _ _ (own_one (s.getSl 0 rfl))) ?_; intro w1 s
          refine s_nil ?_
          refine hK51 _ _ ?_
          refine wpIn_ret ?_
          exact e_row 2 rfl h s row77 rfl rfl (rfl) (rd_outT (rd_end h0 hq h4 hp1 (by omega)) rfl (by rw [hlen]; exact s.getSl 0 rfl))
    · skip
      refine c_region ?_
      refine s_pure h (ru_move (h.ev rfl)) rfl ?_; intro f h
      refine s_pure h (ru_val (.bool true) (ru_lss (h.ev rfl) (h.ev rfl)) (congrArg Value.bool hq)) rfl ?_; intro f h
      refine s_pure h (ru_move (h.ev rfl)) rfl ?_; intro f h
      refine s_off (b := false) h rfl rfl rfl rfl ?_; intro f h
      refine s_off (b := false) h rfl rfl rfl rfl ?_; intro f h
      refine s_pure h (ru_pick_t (h.ev rfl) (h.ev rfl)) rfl ?_; intro f h
      refine s_nil ?_
      refine hK7 _ _ ?_
      refine wpIn_cond_true (h.ev rfl) ?_
      refine c_seq fun K52 hK52 => ?_
      refine c_region ?_
      refine s_pure h (ru_build_t3 sttT (h.ev rfl)) rfl ?_; intro f h
      refine s_store_row 0 h s row77 rfl rfl rfl (rfl) (rfl) (t_ones _ _ _ rfl) ?_; intro w1 s
      refine s_nil ?_
      refine hK52 _ _ ?_
      refine wpIn_ret ?_
      refine t_ret ?_
      exact e_row 0 rfl h s row77 rfl rfl (rfl) (rd_outT (readM_5 h0 (.inl (of_decide_eq_true hq))) rfl (owns_nil _ _ _ _))
end Go.Proofs.Ytaehgcdcfbhohaa
