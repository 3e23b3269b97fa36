/- What package ident answers. -/
import Derived.Test.YtdehanjhphfanaaCon
set_option linter.unusedVariables false
set_option linter.unusedSimpArgs false
set_option linter.unusedSectionVars false
namespace Go.Proofs.Ytdehanjhphfanaa
open Go.RowKit
theorem isNaN_any (x : Int) (w : World) : Calls Try.prog 88 [.int .u8 x].toArray w (Ret w (is (.bool false))) := by
  refine c_enter Try.func88 rfl Try.ntmps88 rfl [(0, .int .u8 x)] (by simp) fun f h => ?_
  have s := St.start w
  refine c_seq fun K1 hK1 => ?_
  refine c_region ?_
  refine s_pure h (ru_assign (h.ev rfl)) rfl ?_; intro f h
  refine s_nil ?_
  refine hK1 _ _ ?_
  refine c_seq fun K2 hK2 => ?_
  refine c_region ?_
  refine s_pure h (ru_move (h.ev rfl)) rfl ?_; intro f h
  refine s_pure h (ru_move (h.ev rfl)) rfl ?_; intro f h
  refine s_pure h (ru_val (.bool false) (ru_neq (h.ev rfl) (h.ev rfl)) (by simp)) rfl ?_; intro f h
  refine s_pure h (ru_assign (h.ev rfl)) rfl ?_; intro f h
  refine s_nil ?_
  refine hK2 _ _ ?_
  refine wpIn_ret ?_
  exact e_tmp rfl h s rfl (rfl)

theorem bcmp_any (x y : Int) (w : World) : Calls Try.prog 85 [.int .u8 x, .int .u8 y].toArray w (Ret w (is (.int .i64 (cmpInt x y)))) := by
  refine c_enter Try.func85 rfl Try.ntmps85 rfl [(0, .int .u8 x), (1, .int .u8 y)] (by simp) fun f h => ?_
  have s := St.start w
  refine c_seq fun K1 hK1 => ?_
  refine c_region ?_
  refine s_pure h (ru_assign (h.ev rfl)) rfl ?_; intro f h
  refine s_nil ?_
  refine hK1 _ _ ?_
  refine c_seq fun K2 hK2 => ?_
  refine c_region ?_
  refine s_pure h (ru_move (h.ev rfl)) rfl ?_; intro f h
  refine s_call h s fnc88 (isNaN_any _ _) rfl rfl ?_; intro f w1 v9 hT hE h s; obtain rfl := hT
  refine s_pure h (ru_assign (h.ev rfl)) rfl ?_; intro f h
  refine s_nil ?_
  refine hK2 _ _ ?_
  refine c_seq fun K3 hK3 => ?_
  refine c_region ?_
  refine s_pure h (ru_move (h.ev rfl)) rfl ?_; intro f h
  refine s_call h s fnc88 (isNaN_any _ _) rfl rfl ?_; intro f w1 v9 hT hE h s; obtain rfl := hT
  refine s_pure h (ru_assign (h.ev rfl)) rfl ?_; intro f h
  refine s_nil ?_
  refine hK3 _ _ ?_
  refine c_seq fun K4 hK4 => ?_
  refine c_seq fun K5 hK5 => ?_
  refine c_region ?_
  refine s_pure h (ru_move (h.ev rfl)) rfl ?_; intro f h
  refine s_nil ?_
  refine hK5 _ _ ?_
  refine wpIn_cond_false (h.ev rfl) ?_
  refine wpIn_skip ?_
  refine hK4 _ _ ?_
  refine c_seq fun K6 hK6 => ?_
  refine c_seq fun K7 hK7 => ?_
  refine c_region ?_
  refine s_pure h (ru_move (h.ev rfl)) rfl ?_; intro f h
  refine s_nil ?_
  refine hK7 _ _ ?_
  refine wpIn_cond_false (h.ev rfl) ?_
  refine wpIn_skip ?_
  refine hK6 _ _ ?_
  refine c_seq fun K8 hK8 => ?_
  refine c_seq fun K9 hK9 => ?_
  refine c_region ?_
  refine s_pure h (ru_move (h.ev rfl)) rfl ?_; intro f h
  refine s_pure h (ru_move (h.ev rfl)) rfl ?_; intro f h
  refine s_pure h (ru_lss (h.ev rfl) (h.ev rfl)) rfl ?_; intro f h
  refine s_nil ?_
  refine hK9 _ _ ?_
  refine c_cond h rfl (fun hc => ?_) (fun hc => ?_)
  · have hc := of_decide_eq_true hc
    refine c_seq fun K10 hK10 => ?_
    refine c_region ?_
    refine s_pure h (ru_assign (h.ev rfl)) rfl ?_; intro f h
    refine s_nil ?_
    refine hK10 _ _ ?_
    refine wpIn_ret ?_
    refine t_ret ?_
    exact e_tmp rfl h s rfl (by show _ = _; unfold cmpInt; rw [if_pos hc])
  · have hc1 := of_decide_eq_false hc
    refine wpIn_skip ?_
    refine hK8 _ _ ?_
    refine c_seq fun K11 hK11 => ?_
    refine c_seq fun K12 hK12 => ?_
    refine c_region ?_
    refine s_pure h (ru_move (h.ev rfl)) rfl ?_; intro f h
    refine s_pure h (ru_move (h.ev rfl)) rfl ?_; intro f h
    refine s_pure h (ru_gtr (h.ev rfl) (h.ev rfl)) rfl ?_; intro f h
    refine s_nil ?_
    refine hK12 _ _ ?_
    refine c_cond h rfl (fun hc => ?_) (fun hc => ?_)
    · replace hc := of_decide_eq_true hc
      refine c_seq fun K13 hK13 => ?_
      refine c_region ?_
      refine s_pure h (ru_assign (h.ev rfl)) rfl ?_; intro f h
      refine s_nil ?_
      refine hK13 _ _ ?_
      refine wpIn_ret ?_
      refine t_ret ?_
      exact e_tmp rfl h s rfl (by show _ = _; unfold cmpInt; rw [if_neg (by omega), if_pos hc])
    · replace hc := of_decide_eq_false hc
      refine wpIn_skip ?_
      refine hK11 _ _ ?_
      refine c_seq fun K14 hK14 => ?_
      refine c_region ?_
      refine s_pure h (ru_assign (h.ev rfl)) rfl ?_; intro f h
      refine s_nil ?_
      refine hK14 _ _ ?_
      refine wpIn_ret ?_
      exact e_tmp rfl h s rfl (by show _ = _; unfold cmpInt; rw [if_neg (by omega), if_neg (by omega)])

theorem compare_any (a b : Id) (w : World) : Calls Try.prog 79 [idV a, idV b].toArray w (Ret w (is (.int .i64 (cmpI a b)))) := by
  refine c_enter Try.func79 rfl Try.ntmps79 rfl [(0, idV a), (1, idV b)] (by simp) fun f h => ?_
  have s := St.start w
  refine c_seq fun K1 hK1 => ?_
  refine c_region ?_
  refine s_box (idArr a) h s rfl rfl rfl ?_; intro f w1 b2 h s
  refine s_box (idArr b) h s rfl rfl rfl ?_; intro f w1 b3 h s
  refine s_pure h (ru_assign (h.ev rfl)) rfl ?_; intro f h
  refine s_nil ?_
  refine hK1 _ _ ?_
  refine c_seq fun K2 hK2 => ?_
  refine c_seq fun K3 hK3 => ?_
  refine c_region ?_
  refine s_pure h (ru_move (h.ev rfl)) rfl ?_; intro f h
  refine s_nil ?_
  refine hK3 _ _ ?_
  refine wpIn_block ?_
  refine wpIn_loop_ghost (fun nn aa ww => ∃ k : Nat, Sl 24 aa [(0, idV a), (1, idV b), (2, .pointer (some ⟨b2, 0, none⟩)), (3, .pointer (some ⟨b3, 0, none⟩)), (6, .int .i64 (k : Int))] ∧ St w [.blk b3 (.cells (idArr b) 42), .blk b2 (.cells (idArr a) 42)] ww ∧ nn = 32 - k ∧ k ≤ 32 ∧ a.toNat / 256 ^ (32 - k) = b.toNat / 256 ^ (32 - k)) (32 - (0)) ⟨0, h.only ⟨rfl, rfl, rfl, rfl, slot_int rfl (by omega), trivial⟩, s.as ⟨rfl, rfl, trivial⟩, rfl, by omega, pre_zero a b⟩ ?_
  rintro _ f w1 ⟨k, h, s, hnn, hp0, hp1⟩
  refine c_seq fun K4 hK4 => ?_
  refine c_region ?_
  refine s_pure h (ru_lss (h.ev rfl) (h.ev rfl)) rfl ?_; intro f h
  refine s_nil ?_
  refine hK4 _ _ ?_
  refine c_seq fun K5 hK5 => ?_
  refine c_cond h rfl (fun hc => ?_) (fun hc => ?_)
  · replace hc := of_decide_eq_true hc
    refine wpIn_skip ?_
    refine hK5 _ _ ?_
    refine c_seq fun K6 hK6 => ?_
    refine wpIn_block ?_
    refine c_seq fun K7 hK7 => ?_
    refine c_region ?_
    refine s_pure h (ru_move (h.ev rfl)) rfl ?_; intro f h
    refine s_pure h (ru_assign (h.ev rfl)) rfl ?_; intro f h
    refine s_nil ?_
    refine hK7 _ _ ?_
    refine c_seq fun K8 hK8 => ?_
    refine c_walkN 7 [[], [0], [0, 1], [], [3], [3, 4], [0, 1, 2, 3, 4, 5]] h (by kernel_rfl) (by kernel_rfl) (by kernel_rfl) ?_
    refine w_pure h (ru_move (h.ev rfl)) rfl ?_; intro f h
    refine w_pure h (ru_ix (k) Try.underlying42 size5 (h.ev rfl) (h.ev rfl) (by omega) (by omega)) rfl ?_; intro f h
    refine w_load_one 1 h s one5 rfl rfl (idArr_get _ _ (by omega)) rfl ?_; intro f h
    refine w_pure h (ru_move (h.ev rfl)) rfl ?_; intro f h
    refine w_pure h (ru_ix (k) Try.underlying42 size5 (h.ev rfl) (h.ev rfl) (by omega) (by omega)) rfl ?_; intro f h
    refine w_load_one 0 h s one5 rfl rfl (idArr_get _ _ (by omega)) rfl ?_; intro f h
    refine w_pure h (ru_neq (h.ev rfl) (h.ev rfl)) rfl ?_; intro f h
    refine w_nil s fun w1 s => ?_
    refine s_nil ?_
    refine hK8 _ _ ?_
    refine c_cond h rfl (fun hc => ?_) (fun hc => ?_)
    · replace hc := of_decide_eq_true hc
      refine c_seq fun K9 hK9 => ?_
      refine c_walkN 8 [[], [0], [0, 1], [], [3], [3, 4], [0, 1, 2, 3, 4, 5], [0, 1, 2, 3, 4, 5, 6]] h (by kernel_rfl) (by kernel_rfl) (by kernel_rfl) ?_
      refine w_pure h (ru_move (h.ev rfl)) rfl ?_; intro f h
      refine w_pure h (ru_ix (k) Try.underlying42 size5 (h.ev rfl) (h.ev rfl) (by omega) (by omega)) rfl ?_; intro f h
      refine w_load_one 1 h s one5 rfl rfl (idArr_get _ _ (by omega)) rfl ?_; intro f h
      refine w_pure h (ru_move (h.ev rfl)) rfl ?_; intro f h
      refine w_pure h (ru_ix (k) Try.underlying42 size5 (h.ev rfl) (h.ev rfl) (by omega) (by omega)) rfl ?_; intro f h
      refine w_load_one 0 h s one5 rfl rfl (idArr_get _ _ (by omega)) rfl ?_; intro f h
      refine w_call h fnc85 (fun w9 hE9 => bcmp_any _ _ w9) rfl rfl ?_; intro f h
      refine w_pure h (ru_assign (h.ev rfl)) rfl ?_; intro f h
      refine w_nil s fun w1 s => ?_
      refine s_nil ?_
      refine hK9 _ _ ?_
      refine wpIn_ret ?_
      refine b_ret ?_
      refine t_ret ?_
      refine t_ret ?_
      refine b_ret ?_
      refine t_ret ?_
      exact e_tmp rfl h s rfl (by show _ = _; rw [cmp_at a b k (by omega) hp1 hc])
    · replace hc := of_decide_eq_false hc
      refine wpIn_skip ?_
      refine b_norm ?_
      refine hK6 _ _ ?_
      refine c_region ?_
      refine s_pure h (ru_add (h.ev rfl) (h.ev rfl) (by omega)) rfl ?_; intro f h
      refine s_pure h (ru_move (h.ev rfl)) rfl ?_; intro f h
      refine s_nil ?_
      refine t_norm ?_
      exact ⟨_, by omega, ⟨k + 1, h.only ⟨rfl, rfl, rfl, rfl, slot_int rfl (by omega), trivial⟩, St.as s ⟨rfl, rfl, trivial⟩, rfl, by omega, pre_next a b k (by omega) hp1 (by omega)⟩⟩
  · replace hc := of_decide_eq_false hc
    refine wpIn_exit ?_
    refine t_exit ?_
    refine t_exit ?_
    refine b_exit ?_
    refine hK2 _ _ ?_
    refine c_seq fun K10 hK10 => ?_
    refine c_region ?_
    refine s_pure h (ru_assign (h.ev rfl)) rfl ?_; intro f h
    refine s_nil ?_
    refine hK10 _ _ ?_
    refine wpIn_ret ?_
    exact e_tmp rfl h s rfl (by show _ = _; rw [pre_end a b k (by omega) hp1, cmpI_self])

theorem len8_any (x : Nat) (hx : x < 256) (w : World) : Calls Try.prog 78 [.int .u8 (x : Int)].toArray w (Ret w (is (.int .i64 (len8 x : Int)))) := by
  have hl := len8_le x hx
  refine c_enter Try.func78 rfl Try.ntmps78 rfl [(0, .int .u8 (x : Int))] (by simp) fun f h => ?_
  have s := St.start w
  refine c_seq fun K1 hK1 => ?_
  refine c_region ?_
  refine s_pure h (ru_assign (h.ev rfl)) rfl ?_; intro f h
  refine s_nil ?_
  refine hK1 _ _ ?_
  refine c_seq fun K2 hK2 => ?_
  refine c_region ?_
  refine s_pure h (ru_move (h.ev rfl)) rfl ?_; intro f h
  refine s_pure h (ru_index_str Try.underlying9 (x) (h.ev rfl) (h.ev rfl) (rfl) (tab8 (by kernel_rfl) x hx)) rfl ?_; intro f h
  refine s_pure h (ru_conv_in Try.underlying5 Try.underlying3 (h.ev rfl) (IntWalk.i64_in _ (by rw [len8_u8 x hx]; omega))) rfl ?_; intro f h
  refine s_pure h (ru_assign (h.ev rfl)) rfl ?_; intro f h
  refine s_nil ?_
  refine hK2 _ _ ?_
  refine wpIn_ret ?_
  exact e_tmp rfl h s rfl (by show _ = _; rw [len8_u8 x hx])

theorem lz8_any (x : Nat) (hx : x < 256) (w : World) : Calls Try.prog 63 [.int .u8 (x : Int)].toArray w (Ret w (is (.int .i64 (8 - (len8 x : Int))))) := by
  have hl := len8_le x hx
  refine c_enter Try.func63 rfl Try.ntmps63 rfl [(0, .int .u8 (x : Int))] (by simp) fun f h => ?_
  have s := St.start w
  refine c_seq fun K1 hK1 => ?_
  refine c_region ?_
  refine s_pure h (ru_assign (h.ev rfl)) rfl ?_; intro f h
  refine s_nil ?_
  refine hK1 _ _ ?_
  refine c_seq fun K2 hK2 => ?_
  refine c_region ?_
  refine s_pure h (ru_move (h.ev rfl)) rfl ?_; intro f h
  refine s_call h s fnc78 (len8_any _ hx _) rfl rfl ?_; intro f w1 v9 hT hE h s; obtain rfl := hT
  refine s_pure h (ru_sub (h.ev rfl) (h.ev rfl) (by omega)) rfl ?_; intro f h
  refine s_pure h (ru_assign (h.ev rfl)) rfl ?_; intro f h
  refine s_nil ?_
  refine hK2 _ _ ?_
  refine wpIn_ret ?_
  exact e_tmp rfl h s rfl (rfl)

theorem common_any (a b : Id) (w : World) : Calls Try.prog 40 [idV a, idV b].toArray w (Ret w (is (.int .i64 (com a b : Int)))) := by
  refine c_enter Try.func40 rfl Try.ntmps40 rfl [(0, idV a), (1, idV b)] (by simp) fun f h => ?_
  have s := St.start w
  refine c_seq fun K1 hK1 => ?_
  refine c_region ?_
  refine s_box (idArr a) h s rfl rfl rfl ?_; intro f w1 b2 h s
  refine s_box (idArr b) h s rfl rfl rfl ?_; intro f w1 b3 h s
  refine s_pure h (ru_assign (h.ev rfl)) rfl ?_; intro f h
  refine s_nil ?_
  refine hK1 _ _ ?_
  refine c_seq fun K2 hK2 => ?_
  refine c_seq fun K3 hK3 => ?_
  refine c_region ?_
  refine s_pure h (ru_move (h.ev rfl)) rfl ?_; intro f h
  refine s_nil ?_
  refine hK3 _ _ ?_
  refine wpIn_block ?_
  refine wpIn_loop_ghost (fun nn aa ww => ∃ k : Nat, Sl 28 aa [(0, idV a), (1, idV b), (2, .pointer (some ⟨b2, 0, none⟩)), (3, .pointer (some ⟨b3, 0, none⟩)), (6, .int .i64 (k : Int))] ∧ St w [.blk b3 (.cells (idArr b) 42), .blk b2 (.cells (idArr a) 42)] ww ∧ nn = 32 - k ∧ k ≤ 32 ∧ a.toNat / 256 ^ (32 - k) = b.toNat / 256 ^ (32 - k)) (32 - (0)) ⟨0, h.only ⟨rfl, rfl, rfl, rfl, slot_int rfl (by omega), trivial⟩, s.as ⟨rfl, rfl, trivial⟩, rfl, by omega, pre_zero a b⟩ ?_
  rintro _ f w1 ⟨k, h, s, hnn, hp0, hp1⟩
  have ha := byteAt_lt a k
  have hb := byteAt_lt b k
  have hl := len8_le (byteAt a k ^^^ byteAt b k) (Nat.xor_lt_two_pow (n := 8) ha hb)
  refine c_seq fun K4 hK4 => ?_
  refine c_region ?_
  refine s_pure h (ru_lss (h.ev rfl) (h.ev rfl)) rfl ?_; intro f h
  refine s_nil ?_
  refine hK4 _ _ ?_
  refine c_seq fun K5 hK5 => ?_
  refine c_cond h rfl (fun hc => ?_) (fun hc => ?_)
  · replace hc := of_decide_eq_true hc
    refine wpIn_skip ?_
    refine hK5 _ _ ?_
    refine c_seq fun K6 hK6 => ?_
    refine wpIn_block ?_
    refine c_seq fun K7 hK7 => ?_
    refine c_region ?_
    refine s_pure h (ru_move (h.ev rfl)) rfl ?_; intro f h
    refine s_pure h (ru_assign (h.ev rfl)) rfl ?_; intro f h
    refine s_nil ?_
    refine hK7 _ _ ?_
    refine c_seq fun K8 hK8 => ?_
    refine c_walkN 7 [[], [0], [0, 1], [], [3], [3, 4], [0, 1, 2, 3, 4, 5]] h (by kernel_rfl) (by kernel_rfl) (by kernel_rfl) ?_
    refine w_pure h (ru_move (h.ev rfl)) rfl ?_; intro f h
    refine w_pure h (ru_ix (k) Try.underlying42 size5 (h.ev rfl) (h.ev rfl) (by omega) (by omega)) rfl ?_; intro f h
    refine w_load_one 1 h s one5 rfl rfl (idArr_get _ _ (by omega)) rfl ?_; intro f h
    refine w_pure h (ru_move (h.ev rfl)) rfl ?_; intro f h
    refine w_pure h (ru_ix (k) Try.underlying42 size5 (h.ev rfl) (h.ev rfl) (by omega) (by omega)) rfl ?_; intro f h
    refine w_load_one 0 h s one5 rfl rfl (idArr_get _ _ (by omega)) rfl ?_; intro f h
    refine w_pure h (ru_neq (h.ev rfl) (h.ev rfl)) rfl ?_; intro f h
    refine w_nil s fun w1 s => ?_
    refine s_nil ?_
    refine hK8 _ _ ?_
    refine c_cond h rfl (fun hc => ?_) (fun hc => ?_)
    · replace hc := of_decide_eq_true hc
      refine c_seq fun K9 hK9 => ?_
      refine c_walkN 12 [[], [0], [], [2], [2, 3], [], [5], [5, 6], [2, 3, 4, 5, 6, 7], [2, 3, 4, 5, 6, 7, 8], [0, 1, 2, 3, 4, 5, 6, 7, 8, 9], [0, 1, 2, 3, 4, 5, 6, 7, 8, 9, 10]] h (by kernel_rfl) (by kernel_rfl) (by kernel_rfl) ?_
      refine w_pure h (ru_move (h.ev rfl)) rfl ?_; intro f h
      refine w_pure h (ru_mul (h.ev rfl) (h.ev rfl) (by omega)) rfl ?_; intro f h
      refine w_pure h (ru_move (h.ev rfl)) rfl ?_; intro f h
      refine w_pure h (ru_ix (k) Try.underlying42 size5 (h.ev rfl) (h.ev rfl) (by omega) (by omega)) rfl ?_; intro f h
      refine w_load_one 1 h s one5 rfl rfl (idArr_get _ _ (by omega)) rfl ?_; intro f h
      refine w_pure h (ru_move (h.ev rfl)) rfl ?_; intro f h
      refine w_pure h (ru_ix (k) Try.underlying42 size5 (h.ev rfl) (h.ev rfl) (by omega) (by omega)) rfl ?_; intro f h
      refine w_load_one 0 h s one5 rfl rfl (idArr_get _ _ (by omega)) rfl ?_; intro f h
      refine w_pure h (ru_xor_u8 (h.ev rfl) (h.ev rfl) (by omega) (by omega)) rfl ?_; intro f h
      refine w_call h fnc63 (fun w9 hE9 => lz8_any _ (Nat.xor_lt_two_pow (n := 8) (byteAt_lt _ _) (byteAt_lt _ _)) w9) rfl rfl ?_; intro f h
      refine w_pure h (ru_add (h.ev rfl) (h.ev rfl) (by omega)) rfl ?_; intro f h
      refine w_pure h (ru_assign (h.ev rfl)) rfl ?_; intro f h
      refine w_nil s fun w1 s => ?_
      refine s_nil ?_
      refine hK9 _ _ ?_
      refine wpIn_ret ?_
      refine b_ret ?_
      refine t_ret ?_
      refine t_ret ?_
      refine b_ret ?_
      refine t_ret ?_
      exact e_tmp rfl h s rfl (by show _ = _; rw [com_byte a b k (by omega) hp1 (by omega)])
    · replace hc := of_decide_eq_false hc
      refine wpIn_skip ?_
      refine b_norm ?_
      refine hK6 _ _ ?_
      refine c_region ?_
      refine s_pure h (ru_add (h.ev rfl) (h.ev rfl) (by omega)) rfl ?_; intro f h
      refine s_pure h (ru_move (h.ev rfl)) rfl ?_; intro f h
      refine s_nil ?_
      refine t_norm ?_
      exact ⟨_, by omega, ⟨k + 1, h.only ⟨rfl, rfl, rfl, rfl, slot_int rfl (by omega), trivial⟩, St.as s ⟨rfl, rfl, trivial⟩, rfl, by omega, pre_next a b k (by omega) hp1 (by omega)⟩⟩
  · replace hc := of_decide_eq_false hc
    refine wpIn_exit ?_
    refine t_exit ?_
    refine t_exit ?_
    refine b_exit ?_
    refine hK2 _ _ ?_
    refine c_seq fun K10 hK10 => ?_
    refine c_region ?_
    refine s_pure h (ru_assign (h.ev rfl)) rfl ?_; intro f h
    refine s_nil ?_
    refine hK10 _ _ ?_
    refine wpIn_ret ?_
    exact e_tmp rfl h s rfl (by show _ = _; rw [(com_all a b).2 (pre_end a b k (by omega) hp1)]; rfl)
end Go.Proofs.Ytdehanjhphfanaa
