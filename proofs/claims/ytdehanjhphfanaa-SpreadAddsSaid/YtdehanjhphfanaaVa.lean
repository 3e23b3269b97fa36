/- What the reference of ident answers: comparisons, what is in common: for all identifiers. -/
import Derived.Test.YtdehanjhphfanaaCon
set_option linter.unusedVariables false
set_option linter.unusedSimpArgs false
set_option linter.unusedSectionVars false
namespace Go.Proofs.Ytdehanjhphfanaa
open Go.RowKit
theorem bit_any (a : Id) (n : Nat) (hn : n < 256) (w : World) : Calls Try.prog 74 [idV a, .int .i64 (n : Int)].toArray w (Ret w (is (.int .i64 (bitN a.toNat n : Int)))) := by
  have ha := byteAt_lt a (n / 8)
  refine c_enter Try.func74 rfl Try.ntmps74 rfl [(0, idV a), (1, .int .i64 (n : Int))] (by simp) fun f h => ?_
  have s := St.start w
  refine c_seq fun K1 hK1 => ?_
  refine c_region ?_
  refine s_box (idArr a) h s rfl rfl rfl ?_; intro f w1 b2 h s
  refine s_pure h (ru_assign (h.ev rfl)) rfl ?_; intro f h
  refine s_nil ?_
  refine hK1 _ _ ?_
  refine c_seq fun K2 hK2 => ?_
  refine c_region ?_
  refine s_pure h (ru_move (h.ev rfl)) rfl ?_; intro f h
  refine s_pure h (ru_quo (h.ev rfl) (h.ev rfl) (by omega)) rfl ?_; intro f h
  refine s_pure h (ru_ix (n / 8) Try.underlying42 size5 (h.ev rfl) (h.ev rfl) (by omega) (by omega)) rfl ?_; intro f h
  refine s_load_one 0 h s one5 rfl rfl (idArr_get _ _ (by omega)) rfl ?_; intro f h
  refine s_pure h (ru_conv_in Try.underlying5 Try.underlying3 (h.ev rfl) (IntWalk.i64_in _ (by omega))) rfl ?_; intro f h
  refine s_pure h (ru_assign (h.ev rfl)) rfl ?_; intro f h
  refine s_nil ?_
  refine hK2 _ _ ?_
  refine c_seq fun K3 hK3 => ?_
  refine c_seq fun K4 hK4 => ?_
  refine c_region ?_
  refine s_pure h (ru_assign (h.ev rfl)) rfl ?_; intro f h
  refine s_nil ?_
  refine hK4 _ _ ?_
  refine wpIn_block ?_
  refine wpIn_loop_ghost (fun nn aa ww => ∃ k : Nat, Sl 23 aa [(0, idV a), (1, .int .i64 (n : Int)), (2, .pointer (some ⟨b2, 0, none⟩)), (5, .int .i64 ((byteAt a (n / 8) / 2 ^ k : Nat) : Int)), (6, .int .i64 (k : Int))] ∧ St w [.blk b2 (.cells (idArr a) 42)] ww ∧ nn = 8 - k ∧ k ≤ 7 - n % 8) (8 - (0)) ⟨0, h.only ⟨rfl, rfl, rfl, slot_int rfl (by simp), slot_int rfl (by omega), trivial⟩, s.as ⟨rfl, trivial⟩, rfl, by omega⟩ ?_
  rintro _ f w1 ⟨k, h, s, hnn, hp0⟩
  have hd : byteAt a (n / 8) / 2 ^ k ≤ byteAt a (n / 8) := Nat.div_le_self _ _
  have hd0 : (0 : Int) ≤ ((byteAt a (n / 8) / 2 ^ k : Nat) : Int) := Int.natCast_nonneg _
  refine c_seq fun K5 hK5 => ?_
  refine c_seq fun K6 hK6 => ?_
  refine c_region ?_
  refine s_pure h (ru_move (h.ev rfl)) rfl ?_; intro f h
  refine s_pure h (ru_move (h.ev rfl)) rfl ?_; intro f h
  refine s_pure h (ru_rem (h.ev rfl) (h.ev rfl) (by omega)) rfl ?_; intro f h
  refine s_pure h (ru_sub (h.ev rfl) (h.ev rfl) (by omega)) rfl ?_; intro f h
  refine s_pure h (ru_lss (h.ev rfl) (h.ev rfl)) rfl ?_; intro f h
  refine s_nil ?_
  refine hK6 _ _ ?_
  refine c_cond h rfl (fun hc => ?_) (fun hc => ?_)
  · replace hc := of_decide_eq_true hc
    refine wpIn_skip ?_
    refine hK5 _ _ ?_
    refine c_seq fun K7 hK7 => ?_
    refine wpIn_block ?_
    refine c_region ?_
    refine s_pure h (ru_move (h.ev rfl)) rfl ?_; intro f h
    refine s_pure h (ru_quo (h.ev rfl) (h.ev rfl) (by omega)) rfl ?_; intro f h
    refine s_pure h (ru_assign (h.ev rfl)) rfl ?_; intro f h
    refine s_nil ?_
    refine b_norm ?_
    refine hK7 _ _ ?_
    refine c_region ?_
    refine s_pure h (ru_move (h.ev rfl)) rfl ?_; intro f h
    refine s_pure h (ru_add (h.ev rfl) (h.ev rfl) (by omega)) rfl ?_; intro f h
    refine s_pure h (ru_assign (h.ev rfl)) rfl ?_; intro f h
    refine s_nil ?_
    refine t_norm ?_
    exact ⟨_, by omega, ⟨k + 1, h.only ⟨rfl, rfl, rfl, slot_int rfl (half_step _ _), slot_int rfl (by omega), trivial⟩, St.as s ⟨rfl, trivial⟩, rfl, by omega⟩⟩
  · replace hc := of_decide_eq_false hc
    refine wpIn_exit ?_
    refine t_exit ?_
    refine t_exit ?_
    refine b_exit ?_
    refine hK3 _ _ ?_
    refine c_seq fun K8 hK8 => ?_
    refine c_region ?_
    refine s_pure h (ru_move (h.ev rfl)) rfl ?_; intro f h
    refine s_pure h (ru_rem (h.ev rfl) (h.ev rfl) (by omega)) rfl ?_; intro f h
    refine s_pure h (ru_assign (h.ev rfl)) rfl ?_; intro f h
    refine s_nil ?_
    refine hK8 _ _ ?_
    refine wpIn_ret ?_
    have hk8 : k = 7 - n % 8 := by omega
    subst hk8
    exact e_tmp rfl h s rfl (by show _ = _; rw [← bit_end a n hn]; rfl)

theorem rcompare_any (a b : Id) (w : World) : Calls Try.prog 56 [idV a, idV b].toArray w (Ret w (is (.int .i64 (cmpI a b)))) := by
  refine c_enter Try.func56 rfl Try.ntmps56 rfl [(0, idV a), (1, idV b)] (by simp) fun f h => ?_
  have s := St.start w
  refine c_seq fun K1 hK1 => ?_
  refine c_region ?_
  refine s_box (idArr a) h s rfl rfl rfl ?_; intro f w1 b2 h s
  refine s_box (idArr b) h s rfl rfl rfl ?_; intro f w1 b3 h s
  refine s_pure h (ru_assign (h.ev rfl)) rfl ?_; intro f h
  refine s_nil ?_
  refine hK1 _ _ ?_
  refine c_seq fun K2 hK2 => ?_
  refine c_seq fun K3 hK3 => ?_
  refine c_region ?_
  refine s_pure h (ru_assign (h.ev rfl)) rfl ?_; intro f h
  refine s_nil ?_
  refine hK3 _ _ ?_
  refine wpIn_block ?_
  refine wpIn_loop_ghost (fun nn aa ww => ∃ k : Nat, Sl 24 aa [(0, idV a), (1, idV b), (2, .pointer (some ⟨b2, 0, none⟩)), (3, .pointer (some ⟨b3, 0, none⟩)), (5, .int .i64 (k : Int))] ∧ St w [.blk b3 (.cells (idArr b) 42), .blk b2 (.cells (idArr a) 42)] ww ∧ nn = 256 - k ∧ k ≤ 256 ∧ a.toNat / 2 ^ (256 - k) = b.toNat / 2 ^ (256 - k)) (256 - (0)) ⟨0, h.only ⟨rfl, rfl, rfl, rfl, slot_int rfl (by omega), trivial⟩, s.as ⟨rfl, rfl, trivial⟩, rfl, by omega, bpre_zero a b⟩ ?_
  rintro _ f w1 ⟨k, h, s, hnn, hp0, hp1⟩
  refine c_seq fun K4 hK4 => ?_
  refine c_seq fun K5 hK5 => ?_
  refine c_region ?_
  refine s_pure h (ru_move (h.ev rfl)) rfl ?_; intro f h
  refine s_pure h (ru_lss (h.ev rfl) (h.ev rfl)) rfl ?_; intro f h
  refine s_nil ?_
  refine hK5 _ _ ?_
  refine c_cond h rfl (fun hc => ?_) (fun hc => ?_)
  · replace hc := of_decide_eq_true hc
    refine wpIn_skip ?_
    refine hK4 _ _ ?_
    refine c_seq fun K6 hK6 => ?_
    refine wpIn_block ?_
    refine c_seq fun K7 hK7 => ?_
    refine c_seq fun K8 hK8 => ?_
    refine c_walkN 7 [[], [], [0, 1], [], [], [0, 1, 2, 3, 4], [0, 1, 2, 3, 4, 5]] h (by kernel_rfl) (by kernel_rfl) (by kernel_rfl) ?_
    refine w_load_row 1 h s row42 rfl rfl (by first | exact idArr_size _ | exact bytesF_size _ _) rfl ?_; intro f h
    refine w_pure h (ru_move (h.ev rfl)) rfl ?_; intro f h
    refine w_call h fnc74 (fun w9 hE9 => bit_any _ _ (by omega) w9) rfl rfl ?_; intro f h
    refine w_load_row 0 h s row42 rfl rfl (by first | exact idArr_size _ | exact bytesF_size _ _) rfl ?_; intro f h
    refine w_pure h (ru_move (h.ev rfl)) rfl ?_; intro f h
    refine w_call h fnc74 (fun w9 hE9 => bit_any _ _ (by omega) w9) rfl rfl ?_; intro f h
    refine w_pure h (ru_lss (h.ev rfl) (h.ev rfl)) rfl ?_; intro f h
    refine w_nil s fun w1 s => ?_
    refine s_nil ?_
    refine hK8 _ _ ?_
    refine c_cond h rfl (fun hc => ?_) (fun hc => ?_)
    · replace hc := of_decide_eq_true hc
      refine c_seq fun K9 hK9 => ?_
      refine c_region ?_
      refine s_pure h (ru_assign (h.ev rfl)) rfl ?_; intro f h
      refine s_nil ?_
      refine hK9 _ _ ?_
      refine wpIn_ret ?_
      refine t_ret ?_
      refine b_ret ?_
      refine t_ret ?_
      refine t_ret ?_
      refine b_ret ?_
      refine t_ret ?_
      exact e_tmp rfl h s rfl (by show _ = _; rw [bcmp_lt a b k (by omega) hp1 hc])
    · replace hc := of_decide_eq_false hc
      refine wpIn_skip ?_
      refine hK7 _ _ ?_
      refine c_seq fun K10 hK10 => ?_
      refine c_walkN 7 [[], [], [0, 1], [], [], [0, 1, 2, 3, 4], [0, 1, 2, 3, 4, 5]] h (by kernel_rfl) (by kernel_rfl) (by kernel_rfl) ?_
      refine w_load_row 1 h s row42 rfl rfl (by first | exact idArr_size _ | exact bytesF_size _ _) rfl ?_; intro f h
      refine w_pure h (ru_move (h.ev rfl)) rfl ?_; intro f h
      refine w_call h fnc74 (fun w9 hE9 => bit_any _ _ (by omega) w9) rfl rfl ?_; intro f h
      refine w_load_row 0 h s row42 rfl rfl (by first | exact idArr_size _ | exact bytesF_size _ _) rfl ?_; intro f h
      refine w_pure h (ru_move (h.ev rfl)) rfl ?_; intro f h
      refine w_call h fnc74 (fun w9 hE9 => bit_any _ _ (by omega) w9) rfl rfl ?_; intro f h
      refine w_pure h (ru_gtr (h.ev rfl) (h.ev rfl)) rfl ?_; intro f h
      refine w_nil s fun w1 s => ?_
      refine s_nil ?_
      refine hK10 _ _ ?_
      refine c_cond h rfl (fun hc => ?_) (fun hc => ?_)
      · replace hc := of_decide_eq_true hc
        refine c_seq fun K11 hK11 => ?_
        refine c_region ?_
        refine s_pure h (ru_assign (h.ev rfl)) rfl ?_; intro f h
        refine s_nil ?_
        refine hK11 _ _ ?_
        refine wpIn_ret ?_
        refine b_ret ?_
        refine t_ret ?_
        refine t_ret ?_
        refine b_ret ?_
        refine t_ret ?_
        exact e_tmp rfl h s rfl (by show _ = _; rw [bcmp_gt a b k (by omega) hp1 hc])
      · replace hc := of_decide_eq_false hc
        refine wpIn_skip ?_
        refine b_norm ?_
        refine hK6 _ _ ?_
        refine c_region ?_
        refine s_pure h (ru_move (h.ev rfl)) rfl ?_; intro f h
        refine s_pure h (ru_add (h.ev rfl) (h.ev rfl) (by omega)) rfl ?_; intro f h
        refine s_pure h (ru_assign (h.ev rfl)) rfl ?_; intro f h
        refine s_nil ?_
        refine t_norm ?_
        exact ⟨_, by omega, ⟨k + 1, h.only ⟨rfl, rfl, rfl, rfl, slot_int rfl (by omega), trivial⟩, St.as s ⟨rfl, rfl, trivial⟩, rfl, by omega, bpre_next a b k (by omega) hp1 (by omega)⟩⟩
  · replace hc := of_decide_eq_false hc
    refine wpIn_exit ?_
    refine t_exit ?_
    refine t_exit ?_
    refine b_exit ?_
    refine hK2 _ _ ?_
    refine c_seq fun K12 hK12 => ?_
    refine c_region ?_
    refine s_pure h (ru_assign (h.ev rfl)) rfl ?_; intro f h
    refine s_nil ?_
    refine hK12 _ _ ?_
    refine wpIn_ret ?_
    exact e_tmp rfl h s rfl (by show _ = _; rw [bpre_end a b k (by omega) hp1, cmpI_self])

theorem rcommon_any (a b : Id) (w : World) : Calls Try.prog 84 [idV a, idV b].toArray w (Ret w (is (.int .i64 (com a b : Int)))) := by
  refine c_enter Try.func84 rfl Try.ntmps84 rfl [(0, idV a), (1, idV b)] (by simp) fun f h => ?_
  have s := St.start w
  refine c_seq fun K1 hK1 => ?_
  refine c_region ?_
  refine s_box (idArr a) h s rfl rfl rfl ?_; intro f w1 b2 h s
  refine s_box (idArr b) h s rfl rfl rfl ?_; intro f w1 b3 h s
  refine s_pure h (ru_assign (h.ev rfl)) rfl ?_; intro f h
  refine s_nil ?_
  refine hK1 _ _ ?_
  refine c_seq fun K2 hK2 => ?_
  refine c_region ?_
  refine s_pure h (ru_assign (h.ev rfl)) rfl ?_; intro f h
  refine s_nil ?_
  refine hK2 _ _ ?_
  refine c_seq fun K3 hK3 => ?_
  refine wpIn_block ?_
  refine wpIn_loop_ghost (fun nn aa ww => ∃ k : Nat, Sl 20 aa [(0, idV a), (1, idV b), (2, .pointer (some ⟨b2, 0, none⟩)), (3, .pointer (some ⟨b3, 0, none⟩)), (5, .int .i64 (k : Int))] ∧ St w [.blk b3 (.cells (idArr b) 42), .blk b2 (.cells (idArr a) 42)] ww ∧ nn = 256 - k ∧ k ≤ 256 ∧ a.toNat / 2 ^ (256 - k) = b.toNat / 2 ^ (256 - k)) (256 - (0)) ⟨0, h.only ⟨rfl, rfl, rfl, rfl, slot_int rfl (by omega), trivial⟩, s.as ⟨rfl, rfl, trivial⟩, rfl, by omega, bpre_zero a b⟩ ?_
  rintro _ f w1 ⟨k, h, s, hnn, hp0, hp1⟩
  refine c_seq fun K4 hK4 => ?_
  refine c_seq fun K5 hK5 => ?_
  cases hx : (decide ((k : Int) < 256) : Bool)
  · skip
    refine c_walkN 11 [[], [0], [0, 1], [0, 1, 2], [0, 1, 2], [0, 1, 2, 3, 4], [0, 1, 2], [0, 1, 2], [0, 1, 2, 3, 4, 5, 6, 7], [0, 1, 2, 3, 4, 5, 6, 7, 8], [0, 1, 2, 3, 4, 5, 6, 7, 8, 9]] h (by kernel_rfl) (by kernel_rfl) (by kernel_rfl) ?_
    refine w_pure h (ru_move (h.ev rfl)) rfl ?_; intro f h
    refine w_pure h (ru_val (.bool false) (ru_lss (h.ev rfl) (h.ev rfl)) (congrArg Value.bool hx)) rfl ?_; intro f h
    refine w_pure h (ru_move (h.ev rfl)) rfl ?_; intro f h
    refine w_off (b := true) h rfl rfl rfl rfl ?_; intro f h
    refine w_off (b := true) h rfl rfl rfl rfl ?_; intro f h
    refine w_off (b := true) h rfl rfl rfl rfl ?_; intro f h
    refine w_off (b := true) h rfl rfl rfl rfl ?_; intro f h
    refine w_off (b := true) h rfl rfl rfl rfl ?_; intro f h
    refine w_off (b := true) h rfl rfl rfl rfl ?_; intro f h
    refine w_off (b := true) h rfl rfl rfl rfl ?_; intro f h
    refine w_pure h (ru_pick_f (h.ev rfl) (h.ev rfl)) rfl ?_; intro f h
    refine w_nil s fun w1 s => ?_
    refine s_nil ?_
    refine hK5 _ _ ?_
    refine wpIn_cond_false (h.ev rfl) ?_
    refine wpIn_exit ?_
    refine t_exit ?_
    refine t_exit ?_
    refine b_exit ?_
    refine hK3 _ _ ?_
    refine c_seq fun K6 hK6 => ?_
    refine c_region ?_
    refine s_pure h (ru_move (h.ev rfl)) rfl ?_; intro f h
    refine s_pure h (ru_assign (h.ev rfl)) rfl ?_; intro f h
    refine s_nil ?_
    refine hK6 _ _ ?_
    refine wpIn_ret ?_
    exact e_tmp rfl h s rfl (by show _ = _; rw [com_full a b k (by have := of_decide_eq_false hx; omega) hp1])
  · skip
    refine c_walkN 11 [[], [0], [0, 1], [0, 1, 2], [0, 1, 2], [0, 1, 2, 3, 4], [0, 1, 2], [0, 1, 2], [0, 1, 2, 3, 4, 5, 6, 7], [0, 1, 2, 3, 4, 5, 6, 7, 8], [0, 1, 2, 3, 4, 5, 6, 7, 8, 9]] h (by kernel_rfl) (by kernel_rfl) (by kernel_rfl) ?_
    refine w_pure h (ru_move (h.ev rfl)) rfl ?_; intro f h
    refine w_pure h (ru_val (.bool true) (ru_lss (h.ev rfl) (h.ev rfl)) (congrArg Value.bool hx)) rfl ?_; intro f h
    refine w_pure h (ru_move (h.ev rfl)) rfl ?_; intro f h
    refine w_on h rfl rfl rfl ?_
    refine w_load_row 1 h s row42 rfl rfl (by first | exact idArr_size _ | exact bytesF_size _ _) rfl ?_; intro f h
    refine w_on h rfl rfl rfl ?_
    refine w_pure h (ru_move (h.ev rfl)) rfl ?_; intro f h
    refine w_on h rfl rfl rfl ?_
    have hx1 := of_decide_eq_true hx
    refine w_call h fnc74 (fun w9 hE9 => bit_any _ _ (by omega) w9) rfl rfl ?_; intro f h
    refine w_on h rfl rfl rfl ?_
    refine w_load_row 0 h s row42 rfl rfl (by first | exact idArr_size _ | exact bytesF_size _ _) rfl ?_; intro f h
    refine w_on h rfl rfl rfl ?_
    refine w_pure h (ru_move (h.ev rfl)) rfl ?_; intro f h
    refine w_on h rfl rfl rfl ?_
    refine w_call h fnc74 (fun w9 hE9 => bit_any _ _ (by omega) w9) rfl rfl ?_; intro f h
    refine w_on h rfl rfl rfl ?_
    refine w_pure h (ru_eql (h.ev rfl) (h.ev rfl)) rfl ?_; intro f h
    refine w_pure h (ru_pick_t (h.ev rfl) (h.ev rfl)) rfl ?_; intro f h
    refine w_nil s fun w1 s => ?_
    refine s_nil ?_
    refine hK5 _ _ ?_
    refine c_cond h rfl (fun hc => ?_) (fun hc => ?_)
    · replace hc := of_decide_eq_true hc
      refine wpIn_skip ?_
      refine hK4 _ _ ?_
      refine wpIn_block ?_
      refine c_region ?_
      refine s_pure h (ru_move (h.ev rfl)) rfl ?_; intro f h
      refine s_pure h (ru_add (h.ev rfl) (h.ev rfl) (by omega)) rfl ?_; intro f h
      refine s_pure h (ru_assign (h.ev rfl)) rfl ?_; intro f h
      refine s_nil ?_
      refine b_norm ?_
      refine t_norm ?_
      exact ⟨_, by omega, ⟨k + 1, h.only ⟨rfl, rfl, rfl, rfl, slot_int rfl (by omega), trivial⟩, St.as s ⟨rfl, rfl, trivial⟩, rfl, by omega, bpre_next a b k (by omega) hp1 (by omega)⟩⟩
    · replace hc := of_decide_eq_false hc
      refine wpIn_exit ?_
      refine t_exit ?_
      refine t_exit ?_
      refine b_exit ?_
      refine hK3 _ _ ?_
      refine c_seq fun K7 hK7 => ?_
      refine c_region ?_
      refine s_pure h (ru_move (h.ev rfl)) rfl ?_; intro f h
      refine s_pure h (ru_assign (h.ev rfl)) rfl ?_; intro f h
      refine s_nil ?_
      refine hK7 _ _ ?_
      refine wpIn_ret ?_
      exact e_tmp rfl h s rfl (by show _ = _; rw [com_stop a b k (by omega) hp1 hc])
end Go.Proofs.Ytdehanjhphfanaa
