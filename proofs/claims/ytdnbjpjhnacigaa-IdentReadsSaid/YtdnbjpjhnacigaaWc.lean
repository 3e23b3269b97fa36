/- Bits in common, and the laws that speak of them: for all arguments. -/
import Derived.Test.YtdnbjpjhnacigaaWb
set_option linter.unusedVariables false
set_option linter.unusedSimpArgs false
namespace Go.Proofs.Ytdnbjpjhnacigaa
open Go.RowKit
theorem common_any (a b : Id) (w : World) : Calls Try.prog 20 [idV a, idV b].toArray w (Ret w (is (.int .i64 (com a b : Int)))) := by
  refine c_enter Try.func20 rfl Try.ntmps20 rfl [(0, idV a), (1, idV b)] (by simp) fun f h => ?_
  have s := St.start w
  refine c_seq fun K1 hK1 => ?_
  refine c_region ?_
  refine s_box (idArr a) h s rfl rfl rfl ?_; intro f w1 b2 h s
  refine s_box (idArr b) h s rfl rfl rfl ?_; intro f w1 b3 h s
  refine s_pure h (ru_assign (h.ev rfl)) rfl ?_; intro f h
  refine s_nil ?_
  refine hK1 _ _ ?_
  refine c_seq fun K2 hK2 => ?_
  refine c_seq fun K3 hK3 => ?_
  refine c_region ?_
  refine s_pure h (ru_move (h.ev rfl)) rfl ?_; intro f h
  refine s_nil ?_
  refine hK3 _ _ ?_
  refine wp_block ?_
  refine wp_loop_ghost (fun nn aa ww => ∃ k : Nat, Sl 28 aa [(0, idV a), (1, idV b), (2, .pointer (some ⟨b2, 0, none⟩)), (3, .pointer (some ⟨b3, 0, none⟩)), (6, .int .i64 (k : Int))] ∧ St w [.blk b3 (.cells (idArr b) 23), .blk b2 (.cells (idArr a) 23)] ww ∧ nn = 32 - k ∧ k ≤ 32 ∧ a.toNat / 256 ^ (32 - k) = b.toNat / 256 ^ (32 - k)) (32 - (0)) ⟨0, h.only ⟨rfl, rfl, rfl, rfl, slot_int rfl (by omega), trivial⟩, s.as ⟨rfl, rfl, trivial⟩, rfl, by omega, pre_zero a b⟩ ?_
  rintro _ f w1 ⟨k, h, s, hnn, hp0, hp1⟩
  have ha := byteAt_lt a k
  have hb := byteAt_lt b k
  have hl := len8_le (byteAt a k ^^^ byteAt b k) (Nat.xor_lt_two_pow (n := 8) ha hb)
  refine c_seq fun K4 hK4 => ?_
  refine c_region ?_
  refine s_pure h (ru_lss (h.ev rfl) (h.ev rfl)) rfl ?_; intro f h
  refine s_nil ?_
  refine hK4 _ _ ?_
  refine c_seq fun K5 hK5 => ?_
  refine c_cond h rfl (fun hc => ?_) (fun hc => ?_)
  · replace hc := of_decide_eq_true hc
    refine wp_skip ?_
    refine hK5 _ _ ?_
    refine c_seq fun K6 hK6 => ?_
    refine wp_block ?_
    refine c_seq fun K7 hK7 => ?_
    refine c_region ?_
    refine s_pure h (ru_move (h.ev rfl)) rfl ?_; intro f h
    refine s_pure h (ru_assign (h.ev rfl)) rfl ?_; intro f h
    refine s_nil ?_
    refine hK7 _ _ ?_
    refine c_seq fun K8 hK8 => ?_
    refine c_walkN 7 [[], [0], [0, 1], [], [3], [3, 4], [0, 1, 2, 3, 4, 5]] h (by kernel_rfl) (by kernel_rfl) (by kernel_rfl) ?_
    refine w_pure h (ru_move (h.ev rfl)) rfl ?_; intro f h
    refine w_pure h (ru_ix (k) Try.underlying23 size5 (h.ev rfl) (h.ev rfl) (by omega) (by omega)) rfl ?_; intro f h
    refine w_load_one 1 h s one5 rfl rfl (idArr_get _ _ (by omega)) rfl ?_; intro f h
    refine w_pure h (ru_move (h.ev rfl)) rfl ?_; intro f h
    refine w_pure h (ru_ix (k) Try.underlying23 size5 (h.ev rfl) (h.ev rfl) (by omega) (by omega)) rfl ?_; intro f h
    refine w_load_one 0 h s one5 rfl rfl (idArr_get _ _ (by omega)) rfl ?_; intro f h
    refine w_pure h (ru_neq (h.ev rfl) (h.ev rfl)) rfl ?_; intro f h
    refine w_nil s fun w1 s => ?_
    refine s_nil ?_
    refine hK8 _ _ ?_
    refine c_cond h rfl (fun hc => ?_) (fun hc => ?_)
    · replace hc := of_decide_eq_true hc
      refine c_seq fun K9 hK9 => ?_
      refine c_walkN 12 [[], [0], [], [2], [2, 3], [], [5], [5, 6], [2, 3, 4, 5, 6, 7], [2, 3, 4, 5, 6, 7, 8], [0, 1, 2, 3, 4, 5, 6, 7, 8, 9], [0, 1, 2, 3, 4, 5, 6, 7, 8, 9, 10]] h (by kernel_rfl) (by kernel_rfl) (by kernel_rfl) ?_
      refine w_pure h (ru_move (h.ev rfl)) rfl ?_; intro f h
      refine w_pure h (ru_mul (h.ev rfl) (h.ev rfl) (by omega)) rfl ?_; intro f h
      refine w_pure h (ru_move (h.ev rfl)) rfl ?_; intro f h
      refine w_pure h (ru_ix (k) Try.underlying23 size5 (h.ev rfl) (h.ev rfl) (by omega) (by omega)) rfl ?_; intro f h
      refine w_load_one 1 h s one5 rfl rfl (idArr_get _ _ (by omega)) rfl ?_; intro f h
      refine w_pure h (ru_move (h.ev rfl)) rfl ?_; intro f h
      refine w_pure h (ru_ix (k) Try.underlying23 size5 (h.ev rfl) (h.ev rfl) (by omega) (by omega)) rfl ?_; intro f h
      refine w_load_one 0 h s one5 rfl rfl (idArr_get _ _ (by omega)) rfl ?_; intro f h
      refine w_pure h (ru_xor_u8 (h.ev rfl) (h.ev rfl) (by omega) (by omega)) rfl ?_; intro f h
      refine w_call h fnc29 (lz8_any _ (Nat.xor_lt_two_pow (n := 8) (byteAt_lt _ _) (byteAt_lt _ _))) rfl rfl ?_; intro f h
      refine w_pure h (ru_add (h.ev rfl) (h.ev rfl) (by omega)) rfl ?_; intro f h
      refine w_pure h (ru_assign (h.ev rfl)) rfl ?_; intro f h
      refine w_nil s fun w1 s => ?_
      refine s_nil ?_
      refine hK9 _ _ ?_
      refine wp_ret ?_
      refine b_ret ?_
      refine t_ret ?_
      refine t_ret ?_
      refine b_ret ?_
      refine t_ret ?_
      exact e_tmp rfl h s rfl (by show _ = _; rw [com_byte a b k (by omega) hp1 (by omega)])
    · replace hc := of_decide_eq_false hc
      refine wp_skip ?_
      refine b_norm ?_
      refine hK6 _ _ ?_
      refine c_region ?_
      refine s_pure h (ru_add (h.ev rfl) (h.ev rfl) (by omega)) rfl ?_; intro f h
      refine s_pure h (ru_move (h.ev rfl)) rfl ?_; intro f h
      refine s_nil ?_
      refine t_norm ?_
      exact ⟨_, by omega, ⟨k + 1, h.only ⟨rfl, rfl, rfl, rfl, slot_int rfl (by omega), trivial⟩, St.as s ⟨rfl, rfl, trivial⟩, rfl, by omega, pre_next a b k (by omega) hp1 (by omega)⟩⟩
  · replace hc := of_decide_eq_false hc
    refine wp_exit ?_
    refine t_exit ?_
    refine t_exit ?_
    refine b_exit ?_
    refine hK2 _ _ ?_
    refine c_seq fun K10 hK10 => ?_
    refine c_region ?_
    refine s_pure h (ru_assign (h.ev rfl)) rfl ?_; intro f h
    refine s_nil ?_
    refine hK10 _ _ ?_
    refine wp_ret ?_
    exact e_tmp rfl h s rfl (by show _ = _; rw [(com_all a b).2 (pre_end a b k (by omega) hp1)]; rfl)

theorem rcommon_any (a b : Id) (w : World) : Calls Try.prog 21 [idV a, idV b].toArray w (Ret w (is (.int .i64 (com a b : Int)))) := by
  refine c_enter Try.func21 rfl Try.ntmps21 rfl [(0, idV a), (1, idV b)] (by simp) fun f h => ?_
  have s := St.start w
  refine c_seq fun K1 hK1 => ?_
  refine c_region ?_
  refine s_box (idArr a) h s rfl rfl rfl ?_; intro f w1 b2 h s
  refine s_box (idArr b) h s rfl rfl rfl ?_; intro f w1 b3 h s
  refine s_pure h (ru_assign (h.ev rfl)) rfl ?_; intro f h
  refine s_nil ?_
  refine hK1 _ _ ?_
  refine c_seq fun K2 hK2 => ?_
  refine c_region ?_
  refine s_pure h (ru_assign (h.ev rfl)) rfl ?_; intro f h
  refine s_nil ?_
  refine hK2 _ _ ?_
  refine c_seq fun K3 hK3 => ?_
  refine wp_block ?_
  refine wp_loop_ghost (fun nn aa ww => ∃ k : Nat, Sl 20 aa [(0, idV a), (1, idV b), (2, .pointer (some ⟨b2, 0, none⟩)), (3, .pointer (some ⟨b3, 0, none⟩)), (5, .int .i64 (k : Int))] ∧ St w [.blk b3 (.cells (idArr b) 23), .blk b2 (.cells (idArr a) 23)] ww ∧ nn = 256 - k ∧ k ≤ 256 ∧ a.toNat / 2 ^ (256 - k) = b.toNat / 2 ^ (256 - k)) (256 - (0)) ⟨0, h.only ⟨rfl, rfl, rfl, rfl, slot_int rfl (by omega), trivial⟩, s.as ⟨rfl, rfl, trivial⟩, rfl, by omega, bpre_zero a b⟩ ?_
  rintro _ f w1 ⟨k, h, s, hnn, hp0, hp1⟩
  refine c_seq fun K4 hK4 => ?_
  refine c_seq fun K5 hK5 => ?_
  cases hx : (decide ((k : Int) < 256) : Bool)
  · skip
    refine c_walkN 11 [[], [0], [0, 1], [0, 1, 2], [0, 1, 2], [0, 1, 2, 3, 4], [0, 1, 2], [0, 1, 2], [0, 1, 2, 3, 4, 5, 6, 7], [0, 1, 2, 3, 4, 5, 6, 7, 8], [0, 1, 2, 3, 4, 5, 6, 7, 8, 9]] h (by kernel_rfl) (by kernel_rfl) (by kernel_rfl) ?_
    refine w_pure h (ru_move (h.ev rfl)) rfl ?_; intro f h
    refine w_pure h (ru_val (.bool false) (ru_lss (h.ev rfl) (h.ev rfl)) (congrArg Value.bool hx)) rfl ?_; intro f h
    refine w_pure h (ru_move (h.ev rfl)) rfl ?_; intro f h
    refine w_off (b := true) h rfl rfl rfl rfl ?_; intro f h
    refine w_off (b := true) h rfl rfl rfl rfl ?_; intro f h
    refine w_off (b := true) h rfl rfl rfl rfl ?_; intro f h
    refine w_off (b := true) h rfl rfl rfl rfl ?_; intro f h
    refine w_off (b := true) h rfl rfl rfl rfl ?_; intro f h
    refine w_off (b := true) h rfl rfl rfl rfl ?_; intro f h
    refine w_off (b := true) h rfl rfl rfl rfl ?_; intro f h
    refine w_pure h (ru_pick_f (h.ev rfl) (h.ev rfl)) rfl ?_; intro f h
    refine w_nil s fun w1 s => ?_
    refine s_nil ?_
    refine hK5 _ _ ?_
    refine wp_cond_false (h.ev rfl) ?_
    refine wp_exit ?_
    refine t_exit ?_
    refine t_exit ?_
    refine b_exit ?_
    refine hK3 _ _ ?_
    refine c_seq fun K6 hK6 => ?_
    refine c_region ?_
    refine s_pure h (ru_move (h.ev rfl)) rfl ?_; intro f h
    refine s_pure h (ru_assign (h.ev rfl)) rfl ?_; intro f h
    refine s_nil ?_
    refine hK6 _ _ ?_
    refine wp_ret ?_
    exact e_tmp rfl h s rfl (by show _ = _; rw [com_full a b k (by have := of_decide_eq_false hx; omega) hp1])
  · skip
    refine c_walkN 11 [[], [0], [0, 1], [0, 1, 2], [0, 1, 2], [0, 1, 2, 3, 4], [0, 1, 2], [0, 1, 2], [0, 1, 2, 3, 4, 5, 6, 7], [0, 1, 2, 3, 4, 5, 6, 7, 8], [0, 1, 2, 3, 4, 5, 6, 7, 8, 9]] h (by kernel_rfl) (by kernel_rfl) (by kernel_rfl) ?_
    refine w_pure h (ru_move (h.ev rfl)) rfl ?_; intro f h
    refine w_pure h (ru_val (.bool true) (ru_lss (h.ev rfl) (h.ev rfl)) (congrArg Value.bool hx)) rfl ?_; intro f h
    refine w_pure h (ru_move (h.ev rfl)) rfl ?_; intro f h
    refine w_on h rfl rfl rfl ?_
    refine w_load_row 1 h s row23 rfl rfl (idArr_size _) rfl ?_; intro f h
    refine w_on h rfl rfl rfl ?_
    refine w_pure h (ru_move (h.ev rfl)) rfl ?_; intro f h
    refine w_on h rfl rfl rfl ?_
    have hx1 := of_decide_eq_true hx
    refine w_call h fnc26 (bit_any _ _ (by omega)) rfl rfl ?_; intro f h
    refine w_on h rfl rfl rfl ?_
    refine w_load_row 0 h s row23 rfl rfl (idArr_size _) rfl ?_; intro f h
    refine w_on h rfl rfl rfl ?_
    refine w_pure h (ru_move (h.ev rfl)) rfl ?_; intro f h
    refine w_on h rfl rfl rfl ?_
    refine w_call h fnc26 (bit_any _ _ (by omega)) rfl rfl ?_; intro f h
    refine w_on h rfl rfl rfl ?_
    refine w_pure h (ru_eql (h.ev rfl) (h.ev rfl)) rfl ?_; intro f h
    refine w_pure h (ru_pick_t (h.ev rfl) (h.ev rfl)) rfl ?_; intro f h
    refine w_nil s fun w1 s => ?_
    refine s_nil ?_
    refine hK5 _ _ ?_
    refine c_cond h rfl (fun hc => ?_) (fun hc => ?_)
    · replace hc := of_decide_eq_true hc
      refine wp_skip ?_
      refine hK4 _ _ ?_
      refine wp_block ?_
      refine c_region ?_
      refine s_pure h (ru_move (h.ev rfl)) rfl ?_; intro f h
      refine s_pure h (ru_add (h.ev rfl) (h.ev rfl) (by omega)) rfl ?_; intro f h
      refine s_pure h (ru_assign (h.ev rfl)) rfl ?_; intro f h
      refine s_nil ?_
      refine b_norm ?_
      refine t_norm ?_
      exact ⟨_, by omega, ⟨k + 1, h.only ⟨rfl, rfl, rfl, rfl, slot_int rfl (by omega), trivial⟩, St.as s ⟨rfl, rfl, trivial⟩, rfl, by omega, bpre_next a b k (by omega) hp1 (by omega)⟩⟩
    · replace hc := of_decide_eq_false hc
      refine wp_exit ?_
      refine t_exit ?_
      refine t_exit ?_
      refine b_exit ?_
      refine hK3 _ _ ?_
      refine c_seq fun K7 hK7 => ?_
      refine c_region ?_
      refine s_pure h (ru_move (h.ev rfl)) rfl ?_; intro f h
      refine s_pure h (ru_assign (h.ev rfl)) rfl ?_; intro f h
      refine s_nil ?_
      refine hK7 _ _ ?_
      refine wp_ret ?_
      exact e_tmp rfl h s rfl (by show _ = _; rw [com_stop a b k (by omega) hp1 hc])

theorem between_any (x a b : Id) (w : World) : Calls Try.prog 4 [idV x, idV a, idV b].toArray w (Ret w (is (.bool true))) := by
  refine c_enter Try.func4 rfl Try.ntmps4 rfl [(0, idV x), (1, idV a), (2, idV b)] (by simp) fun f h => ?_
  have s := St.start w
  refine c_seq fun K1 hK1 => ?_
  refine c_region ?_
  refine s_box (idArr x) h s rfl rfl rfl ?_; intro f w1 b3 h s
  refine s_box (idArr a) h s rfl rfl rfl ?_; intro f w1 b4 h s
  refine s_box (idArr b) h s rfl rfl rfl ?_; intro f w1 b5 h s
  refine s_pure h (ru_assign (h.ev rfl)) rfl ?_; intro f h
  refine s_nil ?_
  refine hK1 _ _ ?_
  refine c_seq fun K2 hK2 => ?_
  cases hx : (decide (a = b) : Bool)
  · skip
    refine c_walkN 40 [[], [0], [0, 1], [0, 1], [0, 1], [0, 1, 2, 3, 4], [0, 1], [0, 1], [0, 1], [0, 1, 2, 3, 4, 5, 6, 7, 8], [0, 1, 2, 3, 4, 5, 6, 7, 8, 9], [0, 1, 2, 3, 4, 5, 6, 7, 8, 9, 10], [0, 1, 2, 3, 4, 5, 6, 7, 8, 9, 10, 11], [0, 1, 2, 3, 4, 5, 6, 7, 8, 9, 10, 11, 12], [0, 1, 2, 3, 4, 5, 6, 7, 8, 9, 10, 11, 12], [0, 1, 2, 3, 4, 5, 6, 7, 8, 9, 10, 11, 12, 13, 14], [0, 1, 2, 3, 4, 5, 6, 7, 8, 9, 10, 11, 12], [0, 1, 2, 3, 4, 5, 6, 7, 8, 9, 10, 11, 12], [0, 1, 2, 3, 4, 5, 6, 7, 8, 9, 10, 11, 12, 13, 14, 15, 16, 17], [0, 1, 2, 3, 4, 5, 6, 7, 8, 9, 10, 11, 12, 13, 14, 15, 16, 17, 18], [0, 1, 2, 3, 4, 5, 6, 7, 8, 9, 10, 11, 12, 13, 14, 15, 16, 17, 18, 19], [0, 1, 2, 3, 4, 5, 6, 7, 8, 9, 10, 11, 12, 13, 14, 15, 16, 17, 18, 19, 20], [0, 1, 2, 3, 4, 5, 6, 7, 8, 9, 10, 11, 12, 13, 14, 15, 16, 17, 18, 19, 20, 21], [0, 1, 2, 3, 4, 5, 6, 7, 8, 9, 10, 11, 12, 13, 14, 15, 16, 17, 18, 19, 20, 21], [0, 1, 2, 3, 4, 5, 6, 7, 8, 9, 10, 11, 12, 13, 14, 15, 16, 17, 18, 19, 20, 21], [0, 1, 2, 3, 4, 5, 6, 7, 8, 9, 10, 11, 12, 13, 14, 15, 16, 17, 18, 19, 20, 21, 22, 23, 24], [0, 1, 2, 3, 4, 5, 6, 7, 8, 9, 10, 11, 12, 13, 14, 15, 16, 17, 18, 19, 20, 21, 22, 23, 24, 25], [0, 1, 2, 3, 4, 5, 6, 7, 8, 9, 10, 11, 12, 13, 14, 15, 16, 17, 18, 19, 20, 21, 22, 23, 24, 25, 26], [0, 1, 2, 3, 4, 5, 6, 7, 8, 9, 10, 11, 12, 13, 14, 15, 16, 17, 18, 19, 20, 21, 22, 23, 24, 25, 26, 27], [0, 1, 2, 3, 4, 5, 6, 7, 8, 9, 10, 11, 12, 13, 14, 15, 16, 17, 18, 19, 20, 21, 22, 23, 24, 25, 26, 27], [0, 1, 2, 3, 4, 5, 6, 7, 8, 9, 10, 11, 12, 13, 14, 15, 16, 17, 18, 19, 20, 21, 22, 23, 24, 25, 26, 27, 28, 29], [0, 1, 2, 3, 4, 5, 6, 7, 8, 9, 10, 11, 12, 13, 14, 15, 16, 17, 18, 19, 20, 21, 22, 23, 24, 25, 26, 27, 28, 29, 30], [0, 1, 2, 3, 4, 5, 6, 7, 8, 9, 10, 11, 12, 13, 14, 15, 16, 17, 18, 19, 20, 21, 22, 23, 24, 25, 26, 27, 28, 29, 30, 31], [0, 1, 2, 3, 4, 5, 6, 7, 8, 9, 10, 11, 12, 13, 14, 15, 16, 17, 18, 19, 20, 21, 22, 23, 24, 25, 26, 27, 28, 29, 30, 31], [0, 1, 2, 3, 4, 5, 6, 7, 8, 9, 10, 11, 12, 13, 14, 15, 16, 17, 18, 19, 20, 21, 22, 23, 24, 25, 26, 27, 28, 29, 30, 31], [0, 1, 2, 3, 4, 5, 6, 7, 8, 9, 10, 11, 12, 13, 14, 15, 16, 17, 18, 19, 20, 21, 22, 23, 24, 25, 26, 27, 28, 29, 30, 31, 32, 33, 34], [0, 1, 2, 3, 4, 5, 6, 7, 8, 9, 10, 11, 12, 13, 14, 15, 16, 17, 18, 19, 20, 21, 22, 23, 24, 25, 26, 27, 28, 29, 30, 31, 32, 33, 34, 35], [0, 1, 2, 3, 4, 5, 6, 7, 8, 9, 10, 11, 12, 13, 14, 15, 16, 17, 18, 19, 20, 21, 22, 23, 24, 25, 26, 27, 28, 29, 30, 31, 32, 33, 34, 35, 36], [0, 1, 2, 3, 4, 5, 6, 7, 8, 9, 10, 11, 12, 13, 14, 15, 16, 17, 18, 19, 20, 21, 22, 23, 24, 25, 26, 27, 28, 29, 30, 31, 32, 33, 34, 35, 36, 37], [0, 1, 2, 3, 4, 5, 6, 7, 8, 9, 10, 11, 12, 13, 14, 15, 16, 17, 18, 19, 20, 21, 22, 23, 24, 25, 26, 27, 28, 29, 30, 31, 32, 33, 34, 35, 36, 37, 38]] h (by kernel_rfl) (by kernel_rfl) (by kernel_rfl) ?_
    refine w_call h fnc15 (alive_any) rfl rfl ?_; intro f h
    refine w_pure h (ru_move (h.ev rfl)) rfl ?_; intro f h
    refine w_on h rfl rfl rfl ?_
    refine w_load_row 2 h s row23 rfl rfl (idArr_size _) rfl ?_; intro f h
    refine w_on h rfl rfl rfl ?_
    refine w_load_row 1 h s row23 rfl rfl (idArr_size _) rfl ?_; intro f h
    refine w_on h rfl rfl rfl ?_
    refine w_load_row 0 h s row23 rfl rfl (idArr_size _) rfl ?_; intro f h
    refine w_on h rfl rfl rfl ?_
    refine w_call h fnc18 (in_any _ _ _) rfl rfl ?_; intro f h
    refine w_on h rfl rfl rfl ?_
    refine w_load_row 2 h s row23 rfl rfl (idArr_size _) rfl ?_; intro f h
    refine w_on h rfl rfl rfl ?_
    refine w_load_row 1 h s row23 rfl rfl (idArr_size _) rfl ?_; intro f h
    refine w_on h rfl rfl rfl ?_
    refine w_load_row 0 h s row23 rfl rfl (idArr_size _) rfl ?_; intro f h
    refine w_on h rfl rfl rfl ?_
    refine w_call h fnc19 (rin_any _ _ _) rfl rfl ?_; intro f h
    refine w_on h rfl rfl rfl ?_
    refine w_pure h (ru_val (.bool true) (ru_eql_bool Try.underlying4 (h.ev rfl) (h.ev rfl)) (congrArg Value.bool (beq_self_eq_true _))) rfl ?_; intro f h
    refine w_pure h (ru_pick_t (h.ev rfl) (h.ev rfl)) rfl ?_; intro f h
    refine w_pure h (ru_move (h.ev rfl)) rfl ?_; intro f h
    refine w_on h rfl rfl rfl ?_
    refine w_load_row 1 h s row23 rfl rfl (idArr_size _) rfl ?_; intro f h
    refine w_on h rfl rfl rfl ?_
    refine w_load_row 0 h s row23 rfl rfl (idArr_size _) rfl ?_; intro f h
    refine w_on h rfl rfl rfl ?_
    refine w_call h fnc20 (common_any _ _) rfl rfl ?_; intro f h
    refine w_on h rfl rfl rfl ?_
    refine w_load_row 1 h s row23 rfl rfl (idArr_size _) rfl ?_; intro f h
    refine w_on h rfl rfl rfl ?_
    refine w_load_row 0 h s row23 rfl rfl (idArr_size _) rfl ?_; intro f h
    refine w_on h rfl rfl rfl ?_
    refine w_call h fnc21 (rcommon_any _ _) rfl rfl ?_; intro f h
    refine w_on h rfl rfl rfl ?_
    refine w_pure h (ru_val (.bool true) (ru_eql (h.ev rfl) (h.ev rfl)) (congrArg Value.bool (decide_eq_true (rfl)))) rfl ?_; intro f h
    refine w_pure h (ru_pick_t (h.ev rfl) (h.ev rfl)) rfl ?_; intro f h
    refine w_pure h (ru_move (h.ev rfl)) rfl ?_; intro f h
    refine w_on h rfl rfl rfl ?_
    refine w_load_row 0 h s row23 rfl rfl (idArr_size _) rfl ?_; intro f h
    refine w_on h rfl rfl rfl ?_
    refine w_load_row 1 h s row23 rfl rfl (idArr_size _) rfl ?_; intro f h
    refine w_on h rfl rfl rfl ?_
    refine w_load_row 0 h s row23 rfl rfl (idArr_size _) rfl ?_; intro f h
    refine w_on h rfl rfl rfl ?_
    refine w_call h fnc18 (ret_valw (.bool true) (in_any _ _ _) (congrArg Value.bool (inB_end _ _))) rfl rfl ?_; intro f h
    refine w_pure h (ru_pick_t (h.ev rfl) (h.ev rfl)) rfl ?_; intro f h
    refine w_pure h (ru_move (h.ev rfl)) rfl ?_; intro f h
    refine w_on h rfl rfl rfl ?_
    refine w_load_row 1 h s row23 rfl rfl (idArr_size _) rfl ?_; intro f h
    refine w_on h rfl rfl rfl ?_
    refine w_load_row 0 h s row23 rfl rfl (idArr_size _) rfl ?_; intro f h
    refine w_on h rfl rfl rfl ?_
    refine w_pure h (ru_val (.bool false) (ru_eql_id idTy (h.ev rfl) (h.ev rfl)) (congrArg Value.bool hx)) rfl ?_; intro f h
    refine w_on h rfl rfl rfl ?_
    refine w_pure h (ru_move (h.ev rfl)) rfl ?_; intro f h
    refine w_on h rfl rfl rfl ?_
    refine w_load_row 1 h s row23 rfl rfl (idArr_size _) rfl ?_; intro f h
    refine w_on h rfl rfl rfl ?_
    refine w_load_row 1 h s row23 rfl rfl (idArr_size _) rfl ?_; intro f h
    refine w_on h rfl rfl rfl ?_
    refine w_load_row 0 h s row23 rfl rfl (idArr_size _) rfl ?_; intro f h
    refine w_on h rfl rfl rfl ?_
    refine w_call h fnc18 (ret_valw (.bool false) (in_any _ _ _) (congrArg Value.bool (inB_begin _ _ (of_decide_eq_false hx)))) rfl rfl ?_; intro f h
    refine w_on h rfl rfl rfl ?_
    refine w_pure h (ru_val (.bool true) (ru_not (h.ev rfl)) rfl) rfl ?_; intro f h
    refine w_on h rfl rfl rfl ?_
    refine w_pure h (ru_pick_f (h.ev rfl) (h.ev rfl)) rfl ?_; intro f h
    refine w_pure h (ru_pick_t (h.ev rfl) (h.ev rfl)) rfl ?_; intro f h
    refine w_pure h (ru_assign (h.ev rfl)) rfl ?_; intro f h
    refine w_nil s fun w1 s => ?_
    refine s_nil ?_
    refine hK2 _ _ ?_
    refine wp_ret ?_
    exact e_tmp rfl h s rfl (rfl)
  · skip
    refine c_walkN 40 [[], [0], [0, 1], [0, 1], [0, 1], [0, 1, 2, 3, 4], [0, 1], [0, 1], [0, 1], [0, 1, 2, 3, 4, 5, 6, 7, 8], [0, 1, 2, 3, 4, 5, 6, 7, 8, 9], [0, 1, 2, 3, 4, 5, 6, 7, 8, 9, 10], [0, 1, 2, 3, 4, 5, 6, 7, 8, 9, 10, 11], [0, 1, 2, 3, 4, 5, 6, 7, 8, 9, 10, 11, 12], [0, 1, 2, 3, 4, 5, 6, 7, 8, 9, 10, 11, 12], [0, 1, 2, 3, 4, 5, 6, 7, 8, 9, 10, 11, 12, 13, 14], [0, 1, 2, 3, 4, 5, 6, 7, 8, 9, 10, 11, 12], [0, 1, 2, 3, 4, 5, 6, 7, 8, 9, 10, 11, 12], [0, 1, 2, 3, 4, 5, 6, 7, 8, 9, 10, 11, 12, 13, 14, 15, 16, 17], [0, 1, 2, 3, 4, 5, 6, 7, 8, 9, 10, 11, 12, 13, 14, 15, 16, 17, 18], [0, 1, 2, 3, 4, 5, 6, 7, 8, 9, 10, 11, 12, 13, 14, 15, 16, 17, 18, 19], [0, 1, 2, 3, 4, 5, 6, 7, 8, 9, 10, 11, 12, 13, 14, 15, 16, 17, 18, 19, 20], [0, 1, 2, 3, 4, 5, 6, 7, 8, 9, 10, 11, 12, 13, 14, 15, 16, 17, 18, 19, 20, 21], [0, 1, 2, 3, 4, 5, 6, 7, 8, 9, 10, 11, 12, 13, 14, 15, 16, 17, 18, 19, 20, 21], [0, 1, 2, 3, 4, 5, 6, 7, 8, 9, 10, 11, 12, 13, 14, 15, 16, 17, 18, 19, 20, 21], [0, 1, 2, 3, 4, 5, 6, 7, 8, 9, 10, 11, 12, 13, 14, 15, 16, 17, 18, 19, 20, 21, 22, 23, 24], [0, 1, 2, 3, 4, 5, 6, 7, 8, 9, 10, 11, 12, 13, 14, 15, 16, 17, 18, 19, 20, 21, 22, 23, 24, 25], [0, 1, 2, 3, 4, 5, 6, 7, 8, 9, 10, 11, 12, 13, 14, 15, 16, 17, 18, 19, 20, 21, 22, 23, 24, 25, 26], [0, 1, 2, 3, 4, 5, 6, 7, 8, 9, 10, 11, 12, 13, 14, 15, 16, 17, 18, 19, 20, 21, 22, 23, 24, 25, 26, 27], [0, 1, 2, 3, 4, 5, 6, 7, 8, 9, 10, 11, 12, 13, 14, 15, 16, 17, 18, 19, 20, 21, 22, 23, 24, 25, 26, 27], [0, 1, 2, 3, 4, 5, 6, 7, 8, 9, 10, 11, 12, 13, 14, 15, 16, 17, 18, 19, 20, 21, 22, 23, 24, 25, 26, 27, 28, 29], [0, 1, 2, 3, 4, 5, 6, 7, 8, 9, 10, 11, 12, 13, 14, 15, 16, 17, 18, 19, 20, 21, 22, 23, 24, 25, 26, 27, 28, 29, 30], [0, 1, 2, 3, 4, 5, 6, 7, 8, 9, 10, 11, 12, 13, 14, 15, 16, 17, 18, 19, 20, 21, 22, 23, 24, 25, 26, 27, 28, 29, 30, 31], [0, 1, 2, 3, 4, 5, 6, 7, 8, 9, 10, 11, 12, 13, 14, 15, 16, 17, 18, 19, 20, 21, 22, 23, 24, 25, 26, 27, 28, 29, 30, 31], [0, 1, 2, 3, 4, 5, 6, 7, 8, 9, 10, 11, 12, 13, 14, 15, 16, 17, 18, 19, 20, 21, 22, 23, 24, 25, 26, 27, 28, 29, 30, 31], [0, 1, 2, 3, 4, 5, 6, 7, 8, 9, 10, 11, 12, 13, 14, 15, 16, 17, 18, 19, 20, 21, 22, 23, 24, 25, 26, 27, 28, 29, 30, 31, 32, 33, 34], [0, 1, 2, 3, 4, 5, 6, 7, 8, 9, 10, 11, 12, 13, 14, 15, 16, 17, 18, 19, 20, 21, 22, 23, 24, 25, 26, 27, 28, 29, 30, 31, 32, 33, 34, 35], [0, 1, 2, 3, 4, 5, 6, 7, 8, 9, 10, 11, 12, 13, 14, 15, 16, 17, 18, 19, 20, 21, 22, 23, 24, 25, 26, 27, 28, 29, 30, 31, 32, 33, 34, 35, 36], [0, 1, 2, 3, 4, 5, 6, 7, 8, 9, 10, 11, 12, 13, 14, 15, 16, 17, 18, 19, 20, 21, 22, 23, 24, 25, 26, 27, 28, 29, 30, 31, 32, 33, 34, 35, 36, 37], [0, 1, 2, 3, 4, 5, 6, 7, 8, 9, 10, 11, 12, 13, 14, 15, 16, 17, 18, 19, 20, 21, 22, 23, 24, 25, 26, 27, 28, 29, 30, 31, 32, 33, 34, 35, 36, 37, 38]] h (by kernel_rfl) (by kernel_rfl) (by kernel_rfl) ?_
    refine w_call h fnc15 (alive_any) rfl rfl ?_; intro f h
    refine w_pure h (ru_move (h.ev rfl)) rfl ?_; intro f h
    refine w_on h rfl rfl rfl ?_
    refine w_load_row 2 h s row23 rfl rfl (idArr_size _) rfl ?_; intro f h
    refine w_on h rfl rfl rfl ?_
    refine w_load_row 1 h s row23 rfl rfl (idArr_size _) rfl ?_; intro f h
    refine w_on h rfl rfl rfl ?_
    refine w_load_row 0 h s row23 rfl rfl (idArr_size _) rfl ?_; intro f h
    refine w_on h rfl rfl rfl ?_
    refine w_call h fnc18 (in_any _ _ _) rfl rfl ?_; intro f h
    refine w_on h rfl rfl rfl ?_
    refine w_load_row 2 h s row23 rfl rfl (idArr_size _) rfl ?_; intro f h
    refine w_on h rfl rfl rfl ?_
    refine w_load_row 1 h s row23 rfl rfl (idArr_size _) rfl ?_; intro f h
    refine w_on h rfl rfl rfl ?_
    refine w_load_row 0 h s row23 rfl rfl (idArr_size _) rfl ?_; intro f h
    refine w_on h rfl rfl rfl ?_
    refine w_call h fnc19 (rin_any _ _ _) rfl rfl ?_; intro f h
    refine w_on h rfl rfl rfl ?_
    refine w_pure h (ru_val (.bool true) (ru_eql_bool Try.underlying4 (h.ev rfl) (h.ev rfl)) (congrArg Value.bool (beq_self_eq_true _))) rfl ?_; intro f h
    refine w_pure h (ru_pick_t (h.ev rfl) (h.ev rfl)) rfl ?_; intro f h
    refine w_pure h (ru_move (h.ev rfl)) rfl ?_; intro f h
    refine w_on h rfl rfl rfl ?_
    refine w_load_row 1 h s row23 rfl rfl (idArr_size _) rfl ?_; intro f h
    refine w_on h rfl rfl rfl ?_
    refine w_load_row 0 h s row23 rfl rfl (idArr_size _) rfl ?_; intro f h
    refine w_on h rfl rfl rfl ?_
    refine w_call h fnc20 (common_any _ _) rfl rfl ?_; intro f h
    refine w_on h rfl rfl rfl ?_
    refine w_load_row 1 h s row23 rfl rfl (idArr_size _) rfl ?_; intro f h
    refine w_on h rfl rfl rfl ?_
    refine w_load_row 0 h s row23 rfl rfl (idArr_size _) rfl ?_; intro f h
    refine w_on h rfl rfl rfl ?_
    refine w_call h fnc21 (rcommon_any _ _) rfl rfl ?_; intro f h
    refine w_on h rfl rfl rfl ?_
    refine w_pure h (ru_val (.bool true) (ru_eql (h.ev rfl) (h.ev rfl)) (congrArg Value.bool (decide_eq_true (rfl)))) rfl ?_; intro f h
    refine w_pure h (ru_pick_t (h.ev rfl) (h.ev rfl)) rfl ?_; intro f h
    refine w_pure h (ru_move (h.ev rfl)) rfl ?_; intro f h
    refine w_on h rfl rfl rfl ?_
    refine w_load_row 0 h s row23 rfl rfl (idArr_size _) rfl ?_; intro f h
    refine w_on h rfl rfl rfl ?_
    refine w_load_row 1 h s row23 rfl rfl (idArr_size _) rfl ?_; intro f h
    refine w_on h rfl rfl rfl ?_
    refine w_load_row 0 h s row23 rfl rfl (idArr_size _) rfl ?_; intro f h
    refine w_on h rfl rfl rfl ?_
    refine w_call h fnc18 (ret_valw (.bool true) (in_any _ _ _) (congrArg Value.bool (inB_end _ _))) rfl rfl ?_; intro f h
    refine w_pure h (ru_pick_t (h.ev rfl) (h.ev rfl)) rfl ?_; intro f h
    refine w_pure h (ru_move (h.ev rfl)) rfl ?_; intro f h
    refine w_on h rfl rfl rfl ?_
    refine w_load_row 1 h s row23 rfl rfl (idArr_size _) rfl ?_; intro f h
    refine w_on h rfl rfl rfl ?_
    refine w_load_row 0 h s row23 rfl rfl (idArr_size _) rfl ?_; intro f h
    refine w_on h rfl rfl rfl ?_
    refine w_pure h (ru_val (.bool true) (ru_eql_id idTy (h.ev rfl) (h.ev rfl)) (congrArg Value.bool hx)) rfl ?_; intro f h
    refine w_on h rfl rfl rfl ?_
    refine w_pure h (ru_move (h.ev rfl)) rfl ?_; intro f h
    refine w_off (b := false) h rfl rfl rfl rfl ?_; intro f h
    refine w_off (b := false) h rfl rfl rfl rfl ?_; intro f h
    refine w_off (b := false) h rfl rfl rfl rfl ?_; intro f h
    refine w_off (b := false) h rfl rfl rfl rfl ?_; intro f h
    refine w_off (b := false) h rfl rfl rfl rfl ?_; intro f h
    refine w_on h rfl rfl rfl ?_
    refine w_pure h (ru_pick_t (h.ev rfl) (h.ev rfl)) rfl ?_; intro f h
    refine w_pure h (ru_pick_t (h.ev rfl) (h.ev rfl)) rfl ?_; intro f h
    refine w_pure h (ru_assign (h.ev rfl)) rfl ?_; intro f h
    refine w_nil s fun w1 s => ?_
    refine s_nil ?_
    refine hK2 _ _ ?_
    refine wp_ret ?_
    exact e_tmp rfl h s rfl (rfl)

theorem bits_any (a b c : Id) (w : World) : Calls Try.prog 8 [idV a, idV b, idV c].toArray w (Ret w (is (.bool true))) := by
  have hn := com_le a b
  have hm := com_le a c
  refine c_enter Try.func8 rfl Try.ntmps8 rfl [(0, idV a), (1, idV b), (2, idV c)] (by simp) fun f h => ?_
  have s := St.start w
  refine c_seq fun K1 hK1 => ?_
  refine c_region ?_
  refine s_box (idArr a) h s rfl rfl rfl ?_; intro f w1 b3 h s
  refine s_box (idArr b) h s rfl rfl rfl ?_; intro f w1 b4 h s
  refine s_box (idArr c) h s rfl rfl rfl ?_; intro f w1 b5 h s
  refine s_pure h (ru_assign (h.ev rfl)) rfl ?_; intro f h
  refine s_nil ?_
  refine hK1 _ _ ?_
  refine c_seq fun K2 hK2 => ?_
  refine c_region ?_
  refine s_load_row 2 h s row23 rfl rfl (idArr_size _) rfl ?_; intro f h
  refine s_load_row 1 h s row23 rfl rfl (idArr_size _) rfl ?_; intro f h
  refine s_call h s fnc20 (common_any _ _ _) rfl rfl ?_; intro f w1 v9 hT hE h s; obtain rfl := hT
  refine s_pure h (ru_assign (h.ev rfl)) rfl ?_; intro f h
  refine s_nil ?_
  refine hK2 _ _ ?_
  refine c_seq fun K3 hK3 => ?_
  refine c_seq fun K4 hK4 => ?_
  cases hx : (decide ((com a b : Int) < 256) : Bool)
  · skip
    refine c_walkN 38 [[], [0], [0, 1], [0, 1, 2], [0, 1, 2, 3], [0, 1, 2, 3, 4], [0, 1, 2, 3, 4, 5], [0, 1, 2, 3, 4, 5, 6], [0, 1, 2, 3, 4, 5, 6], [0, 1, 2, 3, 4, 5, 6], [0, 1, 2, 3, 4, 5, 6, 8, 9], [0, 1, 2, 3, 4, 5, 6, 7, 8, 9, 10], [0, 1, 2, 3, 4, 5, 6, 7, 8, 9, 10, 11], [0, 1, 2, 3, 4, 5, 6, 7, 8, 9, 10, 11, 12], [0, 1, 2, 3, 4, 5, 6, 7, 8, 9, 10, 11, 12, 13], [0, 1, 2, 3, 4, 5, 6, 7, 8, 9, 10, 11, 12, 13, 14], [0, 1, 2, 3, 4, 5, 6, 7, 8, 9, 10, 11, 12, 13], [0, 1, 2, 3, 4, 5, 6, 7, 8, 9, 10, 11, 12, 13], [0, 1, 2, 3, 4, 5, 6, 7, 8, 9, 10, 11, 12, 13, 16, 17], [0, 1, 2, 3, 4, 5, 6, 7, 8, 9, 10, 11, 12, 13, 14, 15, 16, 17, 18], [0, 1, 2, 3, 4, 5, 6, 7, 8, 9, 10, 11, 12, 13, 14, 15, 16, 17, 18, 19], [0, 1, 2, 3, 4, 5, 6, 7, 8, 9, 10, 11, 12, 13, 14, 15, 16, 17, 18, 19, 20], [0, 1, 2, 3, 4, 5, 6, 7, 8, 9, 10, 11, 12, 13, 14, 15, 16, 17, 18, 19, 20, 21], [0, 1, 2, 3, 4, 5, 6, 7, 8, 9, 10, 11, 12, 13, 14, 15, 16, 17, 18, 19, 20, 21, 22], [0, 1, 2, 3, 4, 5, 6, 7, 8, 9, 10, 11, 12, 13, 14, 15, 16, 17, 18, 19, 20, 21, 22, 23], [0, 1, 2, 3, 4, 5, 6, 7, 8, 9, 10, 11, 12, 13, 14, 15, 16, 17, 18, 19, 20, 21, 22, 23, 24], [0, 1, 2, 3, 4, 5, 6, 7, 8, 9, 10, 11, 12, 13, 14, 15, 16, 17, 18, 19, 20, 21, 22, 23, 24], [0, 1, 2, 3, 4, 5, 6, 7, 8, 9, 10, 11, 12, 13, 14, 15, 16, 17, 18, 19, 20, 21, 22, 23, 24, 25, 26], [0, 1, 2, 3, 4, 5, 6, 7, 8, 9, 10, 11, 12, 13, 14, 15, 16, 17, 18, 19, 20, 21, 22, 23, 24], [0, 1, 2, 3, 4, 5, 6, 7, 8, 9, 10, 11, 12, 13, 14, 15, 16, 17, 18, 19, 20, 21, 22, 23, 24], [0, 1, 2, 3, 4, 5, 6, 7, 8, 9, 10, 11, 12, 13, 14, 15, 16, 17, 18, 19, 20, 21, 22, 23, 24, 25, 26, 27, 28, 29], [0, 1, 2, 3, 4, 5, 6, 7, 8, 9, 10, 11, 12, 13, 14, 15, 16, 17, 18, 19, 20, 21, 22, 23, 24, 25, 26, 27, 28, 29, 30], [0, 1, 2, 3, 4, 5, 6, 7, 8, 9, 10, 11, 12, 13, 14, 15, 16, 17, 18, 19, 20, 21, 22, 23, 24, 25, 26, 27, 28, 29, 30, 31], [0, 1, 2, 3, 4, 5, 6, 7, 8, 9, 10, 11, 12, 13, 14, 15, 16, 17, 18, 19, 20, 21, 22, 23, 24, 25, 26, 27, 28, 29, 30, 31, 32], [0, 1, 2, 3, 4, 5, 6, 7, 8, 9, 10, 11, 12, 13, 14, 15, 16, 17, 18, 19, 20, 21, 22, 23, 24, 25, 26, 27, 28, 29, 30, 31, 32, 33], [0, 1, 2, 3, 4, 5, 6, 7, 8, 9, 10, 11, 12, 13, 14, 15, 16, 17, 18, 19, 20, 21, 22, 23, 24, 25, 26, 27, 28, 29, 30, 31, 32, 33, 34], [0, 1, 2, 3, 4, 5, 6, 7, 8, 9, 10, 11, 12, 13, 14, 15, 16, 17, 18, 19, 20, 21, 22, 23, 24, 25, 26, 27, 28, 29, 30, 31, 32, 33, 34, 35], [0, 1, 2, 3, 4, 5, 6, 7, 8, 9, 10, 11, 12, 13, 14, 15, 16, 17, 18, 19, 20, 21, 22, 23, 24, 25, 26, 27, 28, 29, 30, 31, 32, 33, 34, 35, 36]] h (by kernel_rfl) (by kernel_rfl) (by kernel_rfl) ?_
    refine w_pure h (ru_move (h.ev rfl)) rfl ?_; intro f h
    refine w_pure h (ru_val (.bool false) (ru_lss (h.ev rfl) (h.ev rfl)) (congrArg Value.bool (decide_eq_false (by omega)))) rfl ?_; intro f h
    refine w_pure h (ru_move (h.ev rfl)) rfl ?_; intro f h
    refine w_on h rfl rfl rfl ?_
    refine w_pure h (ru_move (h.ev rfl)) rfl ?_; intro f h
    refine w_on h rfl rfl rfl ?_
    refine w_pure h (ru_val (.bool false) (ru_gtr (h.ev rfl) (h.ev rfl)) (congrArg Value.bool (decide_eq_false (by omega)))) rfl ?_; intro f h
    refine w_pure h (ru_pick_f (h.ev rfl) (h.ev rfl)) rfl ?_; intro f h
    refine w_pure h (ru_move (h.ev rfl)) rfl ?_; intro f h
    refine w_on h rfl rfl rfl ?_
    refine w_pure h (ru_move (h.ev rfl)) rfl ?_; intro f h
    refine w_on h rfl rfl rfl ?_
    refine w_load_row 1 h s row23 rfl rfl (idArr_size _) rfl ?_; intro f h
    refine w_on h rfl rfl rfl ?_
    refine w_load_row 2 h s row23 rfl rfl (idArr_size _) rfl ?_; intro f h
    refine w_on h rfl rfl rfl ?_
    refine w_call h fnc20 (common_any _ _) rfl rfl ?_; intro f h
    refine w_on h rfl rfl rfl ?_
    refine w_pure h (ru_val (.bool false) (ru_neq (h.ev rfl) (h.ev rfl)) (congrArg Value.bool (decide_eq_false (by rw [com_comm]; simp)))) rfl ?_; intro f h
    refine w_pure h (ru_pick_f (h.ev rfl) (h.ev rfl)) rfl ?_; intro f h
    refine w_pure h (ru_move (h.ev rfl)) rfl ?_; intro f h
    refine w_on h rfl rfl rfl ?_
    refine w_pure h (ru_move (h.ev rfl)) rfl ?_; intro f h
    refine w_on h rfl rfl rfl ?_
    refine w_pure h (ru_eql (h.ev rfl) (h.ev rfl)) rfl ?_; intro f h
    refine w_on h rfl rfl rfl ?_
    refine w_load_row 2 h s row23 rfl rfl (idArr_size _) rfl ?_; intro f h
    refine w_on h rfl rfl rfl ?_
    refine w_load_row 1 h s row23 rfl rfl (idArr_size _) rfl ?_; intro f h
    refine w_on h rfl rfl rfl ?_
    refine w_pure h (ru_eql_id idTy (h.ev rfl) (h.ev rfl)) rfl ?_; intro f h
    refine w_on h rfl rfl rfl ?_
    refine w_pure h (ru_val (.bool false) (ru_neq_bool Try.underlying4 (h.ev rfl) (h.ev rfl)) (congrArg Value.bool (com_flag a b))) rfl ?_; intro f h
    refine w_pure h (ru_pick_f (h.ev rfl) (h.ev rfl)) rfl ?_; intro f h
    refine w_pure h (ru_move (h.ev rfl)) rfl ?_; intro f h
    refine w_on h rfl rfl rfl ?_
    refine w_pure h (ru_move (h.ev rfl)) rfl ?_; intro f h
    refine w_on h rfl rfl rfl ?_
    refine w_pure h (ru_val (.bool false) (ru_lss (h.ev rfl) (h.ev rfl)) (congrArg Value.bool hx)) rfl ?_; intro f h
    refine w_on h rfl rfl rfl ?_
    refine w_pure h (ru_move (h.ev rfl)) rfl ?_; intro f h
    refine w_off (b := true) h rfl rfl rfl rfl ?_; intro f h
    refine w_off (b := true) h rfl rfl rfl rfl ?_; intro f h
    refine w_off (b := true) h rfl rfl rfl rfl ?_; intro f h
    refine w_off (b := true) h rfl rfl rfl rfl ?_; intro f h
    refine w_off (b := true) h rfl rfl rfl rfl ?_; intro f h
    refine w_off (b := true) h rfl rfl rfl rfl ?_; intro f h
    refine w_off (b := true) h rfl rfl rfl rfl ?_; intro f h
    refine w_on h rfl rfl rfl ?_
    refine w_pure h (ru_pick_f (h.ev rfl) (h.ev rfl)) rfl ?_; intro f h
    refine w_pure h (ru_pick_f (h.ev rfl) (h.ev rfl)) rfl ?_; intro f h
    refine w_pure h (ru_move (h.ev rfl)) rfl ?_; intro f h
    refine w_on h rfl rfl rfl ?_
    refine w_call h fnc15 (alive_any) rfl rfl ?_; intro f h
    refine w_on h rfl rfl rfl ?_
    refine w_pure h (ru_val (.bool false) (ru_not (h.ev rfl)) rfl) rfl ?_; intro f h
    refine w_pure h (ru_pick_f (h.ev rfl) (h.ev rfl)) rfl ?_; intro f h
    refine w_nil s fun w1 s => ?_
    refine s_nil ?_
    refine hK4 _ _ ?_
    refine wp_cond_false (h.ev rfl) ?_
    refine wp_skip ?_
    refine hK3 _ _ ?_
    refine c_seq fun K5 hK5 => ?_
    refine c_region ?_
    refine s_load_row 2 h s row23 rfl rfl (idArr_size _) rfl ?_; intro f h
    refine s_load_row 0 h s row23 rfl rfl (idArr_size _) rfl ?_; intro f h
    refine s_call h s fnc20 (common_any _ _ _) rfl rfl ?_; intro f w1 v9 hT hE h s; obtain rfl := hT
    refine s_pure h (ru_assign (h.ev rfl)) rfl ?_; intro f h
    refine s_nil ?_
    refine hK5 _ _ ?_
    refine c_seq fun K6 hK6 => ?_
    cases hy : (decide ((com a b : Int) ≤ com a c) : Bool)
    · skip
      refine c_walkN 20 [[], [], [0, 1], [0, 1, 2], [0, 1, 2, 3], [0, 1, 2, 3], [0, 1, 2, 3, 4, 5], [0, 1, 2, 3], [0, 1, 2, 3], [0, 1, 2, 3, 4, 5, 6, 7, 8], [0, 1, 2, 3, 4, 5, 6, 7, 8, 9], [0, 1, 2, 3, 4, 5, 6, 7, 8, 9, 10], [0, 1, 2, 3, 4, 5, 6, 7, 8, 9, 10, 11], [0, 1, 2, 3, 4, 5, 6, 7, 8, 9, 10, 11], [0, 1, 2, 3, 4, 5, 6, 7, 8, 9, 10, 11, 12, 13], [0, 1, 2, 3, 4, 5, 6, 7, 8, 9, 10, 11], [0, 1, 2, 3, 4, 5, 6, 7, 8, 9, 10, 11, 12, 13, 14, 15], [0, 1, 2, 3, 4, 5, 6, 7, 8, 9, 10, 11, 12, 13, 14, 15, 16], [0, 1, 2, 3, 4, 5, 6, 7, 8, 9, 10, 11, 12, 13, 14, 15, 16, 17], [0, 1, 2, 3, 4, 5, 6, 7, 8, 9, 10, 11, 12, 13, 14, 15, 16, 17, 18]] h (by kernel_rfl) (by kernel_rfl) (by kernel_rfl) ?_
      refine w_pure h (ru_move (h.ev rfl)) rfl ?_; intro f h
      refine w_pure h (ru_move (h.ev rfl)) rfl ?_; intro f h
      refine w_pure h (ru_val (.bool false) (ru_geq (h.ev rfl) (h.ev rfl)) (congrArg Value.bool hy)) rfl ?_; intro f h
      refine w_pure h (ru_move (h.ev rfl)) rfl ?_; intro f h
      refine w_on h rfl rfl rfl ?_
      refine w_load_row 1 h s row23 rfl rfl (idArr_size _) rfl ?_; intro f h
      refine w_on h rfl rfl rfl ?_
      refine w_load_row 0 h s row23 rfl rfl (idArr_size _) rfl ?_; intro f h
      refine w_on h rfl rfl rfl ?_
      have hy1 := of_decide_eq_false hy
      have hnear := com_nearer a b c (by omega)
      refine w_call h fnc11 (compare_any _ _) rfl rfl ?_; intro f h
      refine w_on h rfl rfl rfl ?_
      refine w_load_row 2 h s row23 rfl rfl (idArr_size _) rfl ?_; intro f h
      refine w_on h rfl rfl rfl ?_
      refine w_load_row 0 h s row23 rfl rfl (idArr_size _) rfl ?_; intro f h
      refine w_on h rfl rfl rfl ?_
      refine w_call h fnc11 (compare_any _ _) rfl rfl ?_; intro f h
      refine w_on h rfl rfl rfl ?_
      refine w_pure h (ru_val (.bool true) (ru_eql (h.ev rfl) (h.ev rfl)) (congrArg Value.bool (decide_eq_true (hnear.1)))) rfl ?_; intro f h
      refine w_on h rfl rfl rfl ?_
      refine w_pure h (ru_move (h.ev rfl)) rfl ?_; intro f h
      refine w_on h rfl rfl rfl ?_
      refine w_load_row 1 h s row23 rfl rfl (idArr_size _) rfl ?_; intro f h
      refine w_on h rfl rfl rfl ?_
      refine w_load_row 0 h s row23 rfl rfl (idArr_size _) rfl ?_; intro f h
      refine w_on h rfl rfl rfl ?_
      refine w_call h fnc20 (common_any _ _) rfl rfl ?_; intro f h
      refine w_on h rfl rfl rfl ?_
      refine w_pure h (ru_move (h.ev rfl)) rfl ?_; intro f h
      refine w_on h rfl rfl rfl ?_
      refine w_pure h (ru_val (.bool true) (ru_eql (h.ev rfl) (h.ev rfl)) (congrArg Value.bool (decide_eq_true (by rw [hnear.2])))) rfl ?_; intro f h
      refine w_on h rfl rfl rfl ?_
      refine w_pure h (ru_pick_t (h.ev rfl) (h.ev rfl)) rfl ?_; intro f h
      refine w_pure h (ru_pick_f (h.ev rfl) (h.ev rfl)) rfl ?_; intro f h
      refine w_pure h (ru_assign (h.ev rfl)) rfl ?_; intro f h
      refine w_nil s fun w1 s => ?_
      refine s_nil ?_
      refine hK6 _ _ ?_
      refine wp_ret ?_
      exact e_tmp rfl h s rfl (rfl)
    · skip
      refine c_walkN 20 [[], [], [0, 1], [0, 1, 2], [0, 1, 2, 3], [0, 1, 2, 3], [0, 1, 2, 3, 4, 5], [0, 1, 2, 3], [0, 1, 2, 3], [0, 1, 2, 3, 4, 5, 6, 7, 8], [0, 1, 2, 3, 4, 5, 6, 7, 8, 9], [0, 1, 2, 3, 4, 5, 6, 7, 8, 9, 10], [0, 1, 2, 3, 4, 5, 6, 7, 8, 9, 10, 11], [0, 1, 2, 3, 4, 5, 6, 7, 8, 9, 10, 11], [0, 1, 2, 3, 4, 5, 6, 7, 8, 9, 10, 11, 12, 13], [0, 1, 2, 3, 4, 5, 6, 7, 8, 9, 10, 11], [0, 1, 2, 3, 4, 5, 6, 7, 8, 9, 10, 11, 12, 13, 14, 15], [0, 1, 2, 3, 4, 5, 6, 7, 8, 9, 10, 11, 12, 13, 14, 15, 16], [0, 1, 2, 3, 4, 5, 6, 7, 8, 9, 10, 11, 12, 13, 14, 15, 16, 17], [0, 1, 2, 3, 4, 5, 6, 7, 8, 9, 10, 11, 12, 13, 14, 15, 16, 17, 18]] h (by kernel_rfl) (by kernel_rfl) (by kernel_rfl) ?_
      refine w_pure h (ru_move (h.ev rfl)) rfl ?_; intro f h
      refine w_pure h (ru_move (h.ev rfl)) rfl ?_; intro f h
      refine w_pure h (ru_val (.bool true) (ru_geq (h.ev rfl) (h.ev rfl)) (congrArg Value.bool hy)) rfl ?_; intro f h
      refine w_pure h (ru_move (h.ev rfl)) rfl ?_; intro f h
      refine w_off (b := false) h rfl rfl rfl rfl ?_; intro f h
      refine w_off (b := false) h rfl rfl rfl rfl ?_; intro f h
      refine w_off (b := false) h rfl rfl rfl rfl ?_; intro f h
      refine w_off (b := false) h rfl rfl rfl rfl ?_; intro f h
      refine w_off (b := false) h rfl rfl rfl rfl ?_; intro f h
      refine w_off (b := false) h rfl rfl rfl rfl ?_; intro f h
      refine w_off (b := false) h rfl rfl rfl rfl ?_; intro f h
      refine w_off (b := false) h rfl rfl rfl rfl ?_; intro f h
      refine w_none h rfl rfl rfl rfl ?_; intro f h
      refine w_none h rfl rfl rfl rfl ?_; intro f h
      refine w_none h rfl rfl rfl rfl ?_; intro f h
      refine w_none h rfl rfl rfl rfl ?_; intro f h
      refine w_none h rfl rfl rfl rfl ?_; intro f h
      refine w_off (b := false) h rfl rfl rfl rfl ?_; intro f h
      refine w_pure h (ru_pick_t (h.ev rfl) (h.ev rfl)) rfl ?_; intro f h
      refine w_pure h (ru_assign (h.ev rfl)) rfl ?_; intro f h
      refine w_nil s fun w1 s => ?_
      refine s_nil ?_
      refine hK6 _ _ ?_
      refine wp_ret ?_
      exact e_tmp rfl h s rfl (rfl)
  · skip
    refine c_walkN 38 [[], [0], [0, 1], [0, 1, 2], [0, 1, 2, 3], [0, 1, 2, 3, 4], [0, 1, 2, 3, 4, 5], [0, 1, 2, 3, 4, 5, 6], [0, 1, 2, 3, 4, 5, 6], [0, 1, 2, 3, 4, 5, 6], [0, 1, 2, 3, 4, 5, 6, 8, 9], [0, 1, 2, 3, 4, 5, 6, 7, 8, 9, 10], [0, 1, 2, 3, 4, 5, 6, 7, 8, 9, 10, 11], [0, 1, 2, 3, 4, 5, 6, 7, 8, 9, 10, 11, 12], [0, 1, 2, 3, 4, 5, 6, 7, 8, 9, 10, 11, 12, 13], [0, 1, 2, 3, 4, 5, 6, 7, 8, 9, 10, 11, 12, 13, 14], [0, 1, 2, 3, 4, 5, 6, 7, 8, 9, 10, 11, 12, 13], [0, 1, 2, 3, 4, 5, 6, 7, 8, 9, 10, 11, 12, 13], [0, 1, 2, 3, 4, 5, 6, 7, 8, 9, 10, 11, 12, 13, 16, 17], [0, 1, 2, 3, 4, 5, 6, 7, 8, 9, 10, 11, 12, 13, 14, 15, 16, 17, 18], [0, 1, 2, 3, 4, 5, 6, 7, 8, 9, 10, 11, 12, 13, 14, 15, 16, 17, 18, 19], [0, 1, 2, 3, 4, 5, 6, 7, 8, 9, 10, 11, 12, 13, 14, 15, 16, 17, 18, 19, 20], [0, 1, 2, 3, 4, 5, 6, 7, 8, 9, 10, 11, 12, 13, 14, 15, 16, 17, 18, 19, 20, 21], [0, 1, 2, 3, 4, 5, 6, 7, 8, 9, 10, 11, 12, 13, 14, 15, 16, 17, 18, 19, 20, 21, 22], [0, 1, 2, 3, 4, 5, 6, 7, 8, 9, 10, 11, 12, 13, 14, 15, 16, 17, 18, 19, 20, 21, 22, 23], [0, 1, 2, 3, 4, 5, 6, 7, 8, 9, 10, 11, 12, 13, 14, 15, 16, 17, 18, 19, 20, 21, 22, 23, 24], [0, 1, 2, 3, 4, 5, 6, 7, 8, 9, 10, 11, 12, 13, 14, 15, 16, 17, 18, 19, 20, 21, 22, 23, 24], [0, 1, 2, 3, 4, 5, 6, 7, 8, 9, 10, 11, 12, 13, 14, 15, 16, 17, 18, 19, 20, 21, 22, 23, 24, 25, 26], [0, 1, 2, 3, 4, 5, 6, 7, 8, 9, 10, 11, 12, 13, 14, 15, 16, 17, 18, 19, 20, 21, 22, 23, 24], [0, 1, 2, 3, 4, 5, 6, 7, 8, 9, 10, 11, 12, 13, 14, 15, 16, 17, 18, 19, 20, 21, 22, 23, 24], [0, 1, 2, 3, 4, 5, 6, 7, 8, 9, 10, 11, 12, 13, 14, 15, 16, 17, 18, 19, 20, 21, 22, 23, 24, 25, 26, 27, 28, 29], [0, 1, 2, 3, 4, 5, 6, 7, 8, 9, 10, 11, 12, 13, 14, 15, 16, 17, 18, 19, 20, 21, 22, 23, 24, 25, 26, 27, 28, 29, 30], [0, 1, 2, 3, 4, 5, 6, 7, 8, 9, 10, 11, 12, 13, 14, 15, 16, 17, 18, 19, 20, 21, 22, 23, 24, 25, 26, 27, 28, 29, 30, 31], [0, 1, 2, 3, 4, 5, 6, 7, 8, 9, 10, 11, 12, 13, 14, 15, 16, 17, 18, 19, 20, 21, 22, 23, 24, 25, 26, 27, 28, 29, 30, 31, 32], [0, 1, 2, 3, 4, 5, 6, 7, 8, 9, 10, 11, 12, 13, 14, 15, 16, 17, 18, 19, 20, 21, 22, 23, 24, 25, 26, 27, 28, 29, 30, 31, 32, 33], [0, 1, 2, 3, 4, 5, 6, 7, 8, 9, 10, 11, 12, 13, 14, 15, 16, 17, 18, 19, 20, 21, 22, 23, 24, 25, 26, 27, 28, 29, 30, 31, 32, 33, 34], [0, 1, 2, 3, 4, 5, 6, 7, 8, 9, 10, 11, 12, 13, 14, 15, 16, 17, 18, 19, 20, 21, 22, 23, 24, 25, 26, 27, 28, 29, 30, 31, 32, 33, 34, 35], [0, 1, 2, 3, 4, 5, 6, 7, 8, 9, 10, 11, 12, 13, 14, 15, 16, 17, 18, 19, 20, 21, 22, 23, 24, 25, 26, 27, 28, 29, 30, 31, 32, 33, 34, 35, 36]] h (by kernel_rfl) (by kernel_rfl) (by kernel_rfl) ?_
    refine w_pure h (ru_move (h.ev rfl)) rfl ?_; intro f h
    refine w_pure h (ru_val (.bool false) (ru_lss (h.ev rfl) (h.ev rfl)) (congrArg Value.bool (decide_eq_false (by omega)))) rfl ?_; intro f h
    refine w_pure h (ru_move (h.ev rfl)) rfl ?_; intro f h
    refine w_on h rfl rfl rfl ?_
    refine w_pure h (ru_move (h.ev rfl)) rfl ?_; intro f h
    refine w_on h rfl rfl rfl ?_
    refine w_pure h (ru_val (.bool false) (ru_gtr (h.ev rfl) (h.ev rfl)) (congrArg Value.bool (decide_eq_false (by omega)))) rfl ?_; intro f h
    refine w_pure h (ru_pick_f (h.ev rfl) (h.ev rfl)) rfl ?_; intro f h
    refine w_pure h (ru_move (h.ev rfl)) rfl ?_; intro f h
    refine w_on h rfl rfl rfl ?_
    refine w_pure h (ru_move (h.ev rfl)) rfl ?_; intro f h
    refine w_on h rfl rfl rfl ?_
    refine w_load_row 1 h s row23 rfl rfl (idArr_size _) rfl ?_; intro f h
    refine w_on h rfl rfl rfl ?_
    refine w_load_row 2 h s row23 rfl rfl (idArr_size _) rfl ?_; intro f h
    refine w_on h rfl rfl rfl ?_
    refine w_call h fnc20 (common_any _ _) rfl rfl ?_; intro f h
    refine w_on h rfl rfl rfl ?_
    refine w_pure h (ru_val (.bool false) (ru_neq (h.ev rfl) (h.ev rfl)) (congrArg Value.bool (decide_eq_false (by rw [com_comm]; simp)))) rfl ?_; intro f h
    refine w_pure h (ru_pick_f (h.ev rfl) (h.ev rfl)) rfl ?_; intro f h
    refine w_pure h (ru_move (h.ev rfl)) rfl ?_; intro f h
    refine w_on h rfl rfl rfl ?_
    refine w_pure h (ru_move (h.ev rfl)) rfl ?_; intro f h
    refine w_on h rfl rfl rfl ?_
    refine w_pure h (ru_eql (h.ev rfl) (h.ev rfl)) rfl ?_; intro f h
    refine w_on h rfl rfl rfl ?_
    refine w_load_row 2 h s row23 rfl rfl (idArr_size _) rfl ?_; intro f h
    refine w_on h rfl rfl rfl ?_
    refine w_load_row 1 h s row23 rfl rfl (idArr_size _) rfl ?_; intro f h
    refine w_on h rfl rfl rfl ?_
    refine w_pure h (ru_eql_id idTy (h.ev rfl) (h.ev rfl)) rfl ?_; intro f h
    refine w_on h rfl rfl rfl ?_
    refine w_pure h (ru_val (.bool false) (ru_neq_bool Try.underlying4 (h.ev rfl) (h.ev rfl)) (congrArg Value.bool (com_flag a b))) rfl ?_; intro f h
    refine w_pure h (ru_pick_f (h.ev rfl) (h.ev rfl)) rfl ?_; intro f h
    refine w_pure h (ru_move (h.ev rfl)) rfl ?_; intro f h
    refine w_on h rfl rfl rfl ?_
    refine w_pure h (ru_move (h.ev rfl)) rfl ?_; intro f h
    refine w_on h rfl rfl rfl ?_
    refine w_pure h (ru_val (.bool true) (ru_lss (h.ev rfl) (h.ev rfl)) (congrArg Value.bool hx)) rfl ?_; intro f h
    refine w_on h rfl rfl rfl ?_
    refine w_pure h (ru_move (h.ev rfl)) rfl ?_; intro f h
    refine w_on h rfl rfl rfl ?_
    refine w_load_row 2 h s row23 rfl rfl (idArr_size _) rfl ?_; intro f h
    refine w_on h rfl rfl rfl ?_
    refine w_pure h (ru_move (h.ev rfl)) rfl ?_; intro f h
    refine w_on h rfl rfl rfl ?_
    have hx1 := of_decide_eq_true hx
    refine w_call h fnc26 (bit_any _ _ (by omega)) rfl rfl ?_; intro f h
    refine w_on h rfl rfl rfl ?_
    refine w_load_row 1 h s row23 rfl rfl (idArr_size _) rfl ?_; intro f h
    refine w_on h rfl rfl rfl ?_
    refine w_pure h (ru_move (h.ev rfl)) rfl ?_; intro f h
    refine w_on h rfl rfl rfl ?_
    refine w_call h fnc26 (bit_any _ _ (by omega)) rfl rfl ?_; intro f h
    refine w_on h rfl rfl rfl ?_
    refine w_pure h (ru_val (.bool false) (ru_eql (h.ev rfl) (h.ev rfl)) (congrArg Value.bool (decide_eq_false (by have := (com_is a b).2.2 (by omega); omega)))) rfl ?_; intro f h
    refine w_on h rfl rfl rfl ?_
    refine w_pure h (ru_pick_t (h.ev rfl) (h.ev rfl)) rfl ?_; intro f h
    refine w_pure h (ru_pick_f (h.ev rfl) (h.ev rfl)) rfl ?_; intro f h
    refine w_pure h (ru_move (h.ev rfl)) rfl ?_; intro f h
    refine w_on h rfl rfl rfl ?_
    refine w_call h fnc15 (alive_any) rfl rfl ?_; intro f h
    refine w_on h rfl rfl rfl ?_
    refine w_pure h (ru_val (.bool false) (ru_not (h.ev rfl)) rfl) rfl ?_; intro f h
    refine w_pure h (ru_pick_f (h.ev rfl) (h.ev rfl)) rfl ?_; intro f h
    refine w_nil s fun w1 s => ?_
    refine s_nil ?_
    refine hK4 _ _ ?_
    refine wp_cond_false (h.ev rfl) ?_
    refine wp_skip ?_
    refine hK3 _ _ ?_
    refine c_seq fun K7 hK7 => ?_
    refine c_region ?_
    refine s_load_row 2 h s row23 rfl rfl (idArr_size _) rfl ?_; intro f h
    refine s_load_row 0 h s row23 rfl rfl (idArr_size _) rfl ?_; intro f h
    refine s_call h s fnc20 (common_any _ _ _) rfl rfl ?_; intro f w1 v9 hT hE h s; obtain rfl := hT
    refine s_pure h (ru_assign (h.ev rfl)) rfl ?_; intro f h
    refine s_nil ?_
    refine hK7 _ _ ?_
    refine c_seq fun K8 hK8 => ?_
    cases hy : (decide ((com a b : Int) ≤ com a c) : Bool)
    · skip
      refine c_walkN 20 [[], [], [0, 1], [0, 1, 2], [0, 1, 2, 3], [0, 1, 2, 3], [0, 1, 2, 3, 4, 5], [0, 1, 2, 3], [0, 1, 2, 3], [0, 1, 2, 3, 4, 5, 6, 7, 8], [0, 1, 2, 3, 4, 5, 6, 7, 8, 9], [0, 1, 2, 3, 4, 5, 6, 7, 8, 9, 10], [0, 1, 2, 3, 4, 5, 6, 7, 8, 9, 10, 11], [0, 1, 2, 3, 4, 5, 6, 7, 8, 9, 10, 11], [0, 1, 2, 3, 4, 5, 6, 7, 8, 9, 10, 11, 12, 13], [0, 1, 2, 3, 4, 5, 6, 7, 8, 9, 10, 11], [0, 1, 2, 3, 4, 5, 6, 7, 8, 9, 10, 11, 12, 13, 14, 15], [0, 1, 2, 3, 4, 5, 6, 7, 8, 9, 10, 11, 12, 13, 14, 15, 16], [0, 1, 2, 3, 4, 5, 6, 7, 8, 9, 10, 11, 12, 13, 14, 15, 16, 17], [0, 1, 2, 3, 4, 5, 6, 7, 8, 9, 10, 11, 12, 13, 14, 15, 16, 17, 18]] h (by kernel_rfl) (by kernel_rfl) (by kernel_rfl) ?_
      refine w_pure h (ru_move (h.ev rfl)) rfl ?_; intro f h
      refine w_pure h (ru_move (h.ev rfl)) rfl ?_; intro f h
      refine w_pure h (ru_val (.bool false) (ru_geq (h.ev rfl) (h.ev rfl)) (congrArg Value.bool hy)) rfl ?_; intro f h
      refine w_pure h (ru_move (h.ev rfl)) rfl ?_; intro f h
      refine w_on h rfl rfl rfl ?_
      refine w_load_row 1 h s row23 rfl rfl (idArr_size _) rfl ?_; intro f h
      refine w_on h rfl rfl rfl ?_
      refine w_load_row 0 h s row23 rfl rfl (idArr_size _) rfl ?_; intro f h
      refine w_on h rfl rfl rfl ?_
      have hy1 := of_decide_eq_false hy
      have hnear := com_nearer a b c (by omega)
      refine w_call h fnc11 (compare_any _ _) rfl rfl ?_; intro f h
      refine w_on h rfl rfl rfl ?_
      refine w_load_row 2 h s row23 rfl rfl (idArr_size _) rfl ?_; intro f h
      refine w_on h rfl rfl rfl ?_
      refine w_load_row 0 h s row23 rfl rfl (idArr_size _) rfl ?_; intro f h
      refine w_on h rfl rfl rfl ?_
      refine w_call h fnc11 (compare_any _ _) rfl rfl ?_; intro f h
      refine w_on h rfl rfl rfl ?_
      refine w_pure h (ru_val (.bool true) (ru_eql (h.ev rfl) (h.ev rfl)) (congrArg Value.bool (decide_eq_true (hnear.1)))) rfl ?_; intro f h
      refine w_on h rfl rfl rfl ?_
      refine w_pure h (ru_move (h.ev rfl)) rfl ?_; intro f h
      refine w_on h rfl rfl rfl ?_
      refine w_load_row 1 h s row23 rfl rfl (idArr_size _) rfl ?_; intro f h
      refine w_on h rfl rfl rfl ?_
      refine w_load_row 0 h s row23 rfl rfl (idArr_size _) rfl ?_; intro f h
      refine w_on h rfl rfl rfl ?_
      refine w_call h fnc20 (common_any _ _) rfl rfl ?_; intro f h
      refine w_on h rfl rfl rfl ?_
      refine w_pure h (ru_move (h.ev rfl)) rfl ?_; intro f h
      refine w_on h rfl rfl rfl ?_
      refine w_pure h (ru_val (.bool true) (ru_eql (h.ev rfl) (h.ev rfl)) (congrArg Value.bool (decide_eq_true (by rw [hnear.2])))) rfl ?_; intro f h
      refine w_on h rfl rfl rfl ?_
      refine w_pure h (ru_pick_t (h.ev rfl) (h.ev rfl)) rfl ?_; intro f h
      refine w_pure h (ru_pick_f (h.ev rfl) (h.ev rfl)) rfl ?_; intro f h
      refine w_pure h (ru_assign (h.ev rfl)) rfl ?_; intro f h
      refine w_nil s fun w1 s => ?_
      refine s_nil ?_
      refine hK8 _ _ ?_
      refine wp_ret ?_
      exact e_tmp rfl h s rfl (rfl)
    · skip
      refine c_walkN 20 [[], [], [0, 1], [0, 1, 2], [0, 1, 2, 3], [0, 1, 2, 3], [0, 1, 2, 3, 4, 5], [0, 1, 2, 3], [0, 1, 2, 3], [0, 1, 2, 3, 4, 5, 6, 7, 8], [0, 1, 2, 3, 4, 5, 6, 7, 8, 9], [0, 1, 2, 3, 4, 5, 6, 7, 8, 9, 10], [0, 1, 2, 3, 4, 5, 6, 7, 8, 9, 10, 11], [0, 1, 2, 3, 4, 5, 6, 7, 8, 9, 10, 11], [0, 1, 2, 3, 4, 5, 6, 7, 8, 9, 10, 11, 12, 13], [0, 1, 2, 3, 4, 5, 6, 7, 8, 9, 10, 11], [0, 1, 2, 3, 4, 5, 6, 7, 8, 9, 10, 11, 12, 13, 14, 15], [0, 1, 2, 3, 4, 5, 6, 7, 8, 9, 10, 11, 12, 13, 14, 15, 16], [0, 1, 2, 3, 4, 5, 6, 7, 8, 9, 10, 11, 12, 13, 14, 15, 16, 17], [0, 1, 2, 3, 4, 5, 6, 7, 8, 9, 10, 11, 12, 13, 14, 15, 16, 17, 18]] h (by kernel_rfl) (by kernel_rfl) (by kernel_rfl) ?_
      refine w_pure h (ru_move (h.ev rfl)) rfl ?_; intro f h
      refine w_pure h (ru_move (h.ev rfl)) rfl ?_; intro f h
      refine w_pure h (ru_val (.bool true) (ru_geq (h.ev rfl) (h.ev rfl)) (congrArg Value.bool hy)) rfl ?_; intro f h
      refine w_pure h (ru_move (h.ev rfl)) rfl ?_; intro f h
      refine w_off (b := false) h rfl rfl rfl rfl ?_; intro f h
      refine w_off (b := false) h rfl rfl rfl rfl ?_; intro f h
      refine w_off (b := false) h rfl rfl rfl rfl ?_; intro f h
      refine w_off (b := false) h rfl rfl rfl rfl ?_; intro f h
      refine w_off (b := false) h rfl rfl rfl rfl ?_; intro f h
      refine w_off (b := false) h rfl rfl rfl rfl ?_; intro f h
      refine w_off (b := false) h rfl rfl rfl rfl ?_; intro f h
      refine w_off (b := false) h rfl rfl rfl rfl ?_; intro f h
      refine w_none h rfl rfl rfl rfl ?_; intro f h
      refine w_none h rfl rfl rfl rfl ?_; intro f h
      refine w_none h rfl rfl rfl rfl ?_; intro f h
      refine w_none h rfl rfl rfl rfl ?_; intro f h
      refine w_none h rfl rfl rfl rfl ?_; intro f h
      refine w_off (b := false) h rfl rfl rfl rfl ?_; intro f h
      refine w_pure h (ru_pick_t (h.ev rfl) (h.ev rfl)) rfl ?_; intro f h
      refine w_pure h (ru_assign (h.ev rfl)) rfl ?_; intro f h
      refine w_nil s fun w1 s => ?_
      refine s_nil ?_
      refine hK8 _ _ ?_
      refine wp_ret ?_
      exact e_tmp rfl h s rfl (rfl)
end Go.Proofs.Ytdnbjpjhnacigaa
