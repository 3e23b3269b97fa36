/- What the references of ident, ring and finger answer for identifiers: ways, comparisons, what is on the way: for all identifiers. -/
import Derived.Test.YtndbijifgalpbaaGreatCon
set_option linter.unusedVariables false
set_option linter.unusedSimpArgs false
set_option linter.unusedSectionVars false
namespace Go.Proofs.YtndbijifgalpbaaGreat
open Go.RowKit
theorem bit_any (a : Id) (n : Nat) (hn : n < 256) (w : World) : Calls Tryz.prog 77 [idV a, .int .i64 (n : Int)].toArray w (Ret w (is (.int .i64 (bitN a.toNat n : Int)))) := by
  have ha := byteAt_lt a (n / 8)
  refine c_enter Tryz.func77 rfl Tryz.ntmps77 rfl [(0, idV a), (1, .int .i64 (n : Int))] (by simp) fun f h => ?_
  have s := St.start w
  refine c_seq fun K1 hK1 => ?_
  refine c_region ?_
  refine s_box (idArr a) h s rfl rfl rfl ?_; intro f w1 b2 h s
  refine s_pure h (ru_assign (h.ev rfl)) rfl ?_; intro f h
  refine s_nil ?_
  refine hK1 _ _ ?_
  refine c_seq fun K2 hK2 => ?_
  refine c_region ?_
  refine s_pure h (ru_move (h.ev rfl)) rfl ?_; intro f h
  refine s_pure h (ru_quo (h.ev rfl) (h.ev rfl) (by omega)) rfl ?_; intro f h
  refine s_pure h (ru_ix (n / 8) Tryz.underlying26 size5 (h.ev rfl) (h.ev rfl) (by omega) (by omega)) rfl ?_; intro f h
  refine s_load_one 0 h s one5 rfl rfl (idArr_get _ _ (by omega)) rfl ?_; intro f h
  refine s_pure h (ru_conv_in Tryz.underlying5 Tryz.underlying3 (h.ev rfl) (IntWalk.i64_in _ (by omega))) rfl ?_; intro f h
  refine s_pure h (ru_assign (h.ev rfl)) rfl ?_; intro f h
  refine s_nil ?_
  refine hK2 _ _ ?_
  refine c_seq fun K3 hK3 => ?_
  refine c_seq fun K4 hK4 => ?_
  refine c_region ?_
  refine s_pure h (ru_assign (h.ev rfl)) rfl ?_; intro f h
  refine s_nil ?_
  refine hK4 _ _ ?_
  refine wpIn_block ?_
  refine wpIn_loop_ghost (fun nn aa ww => ∃ k : Nat, Sl 23 aa [(0, idV a), (1, .int .i64 (n : Int)), (2, .pointer (some ⟨b2, 0, none⟩)), (5, .int .i64 ((byteAt a (n / 8) / 2 ^ k : Nat) : Int)), (6, .int .i64 (k : Int))] ∧ St w [.blk b2 (.cells (idArr a) 26)] ww ∧ nn = 8 - k ∧ k ≤ 7 - n % 8) (8 - (0)) ⟨0, h.only ⟨rfl, rfl, rfl, slot_int rfl (by simp), slot_int rfl (by omega), trivial⟩, s.as ⟨rfl, trivial⟩, rfl, by omega⟩ ?_
  rintro _ f w1 ⟨k, h, s, hnn, hp0⟩
  have hd : byteAt a (n / 8) / 2 ^ k ≤ byteAt a (n / 8) := Nat.div_le_self _ _
  have hd0 : (0 : Int) ≤ ((byteAt a (n / 8) / 2 ^ k : Nat) : Int) := Int.natCast_nonneg _
  refine c_seq fun K5 hK5 => ?_
  refine c_seq fun K6 hK6 => ?_
  refine c_region ?_
  refine s_pure h (ru_move (h.ev rfl)) rfl ?_; intro f h
  refine s_pure h (ru_move (h.ev rfl)) rfl ?_; intro f h
  refine s_pure h (ru_rem (h.ev rfl) (h.ev rfl) (by omega)) rfl ?_; intro f h
  refine s_pure h (ru_sub (h.ev rfl) (h.ev rfl) (by omega)) rfl ?_; intro f h
  refine s_pure h (ru_lss (h.ev rfl) (h.ev rfl)) rfl ?_; intro f h
  refine s_nil ?_
  refine hK6 _ _ ?_
  refine c_cond h rfl (fun hc => ?_) (fun hc => ?_)
  · replace hc := of_decide_eq_true hc
    refine wpIn_skip ?_
    refine hK5 _ _ ?_
    refine c_seq fun K7 hK7 => ?_
    refine wpIn_block ?_
    refine c_region ?_
    refine s_pure h (ru_move (h.ev rfl)) rfl ?_; intro f h
    refine s_pure h (ru_quo (h.ev rfl) (h.ev rfl) (by omega)) rfl ?_; intro f h
    refine s_pure h (ru_assign (h.ev rfl)) rfl ?_; intro f h
    refine s_nil ?_
    refine b_norm ?_
    refine hK7 _ _ ?_
    refine c_region ?_
    refine s_pure h (ru_move (h.ev rfl)) rfl ?_; intro f h
    refine s_pure h (ru_add (h.ev rfl) (h.ev rfl) (by omega)) rfl ?_; intro f h
    refine s_pure h (ru_assign (h.ev rfl)) rfl ?_; intro f h
    refine s_nil ?_
    refine t_norm ?_
    exact ⟨_, by omega, ⟨k + 1, h.only ⟨rfl, rfl, rfl, slot_int rfl (half_step _ _), slot_int rfl (by omega), trivial⟩, St.as s ⟨rfl, trivial⟩, rfl, by omega⟩⟩
  · replace hc := of_decide_eq_false hc
    refine wpIn_exit ?_
    refine t_exit ?_
    refine t_exit ?_
    refine b_exit ?_
    refine hK3 _ _ ?_
    refine c_seq fun K8 hK8 => ?_
    refine c_region ?_
    refine s_pure h (ru_move (h.ev rfl)) rfl ?_; intro f h
    refine s_pure h (ru_rem (h.ev rfl) (h.ev rfl) (by omega)) rfl ?_; intro f h
    refine s_pure h (ru_assign (h.ev rfl)) rfl ?_; intro f h
    refine s_nil ?_
    refine hK8 _ _ ?_
    refine wpIn_ret ?_
    have hk8 : k = 7 - n % 8 := by omega
    subst hk8
    exact e_tmp rfl h s rfl (by show _ = _; rw [← bit_end a n hn]; rfl)

theorem rcompare_any (a b : Id) (w : World) : Calls Tryz.prog 47 [idV a, idV b].toArray w (Ret w (is (.int .i64 (cmpI a b)))) := by
  refine c_enter Tryz.func47 rfl Tryz.ntmps47 rfl [(0, idV a), (1, idV b)] (by simp) fun f h => ?_
  have s := St.start w
  refine c_seq fun K1 hK1 => ?_
  refine c_region ?_
  refine s_box (idArr a) h s rfl rfl rfl ?_; intro f w1 b2 h s
  refine s_box (idArr b) h s rfl rfl rfl ?_; intro f w1 b3 h s
  refine s_pure h (ru_assign (h.ev rfl)) rfl ?_; intro f h
  refine s_nil ?_
  refine hK1 _ _ ?_
  refine c_seq fun K2 hK2 => ?_
  refine c_seq fun K3 hK3 => ?_
  refine c_region ?_
  refine s_pure h (ru_assign (h.ev rfl)) rfl ?_; intro f h
  refine s_nil ?_
  refine hK3 _ _ ?_
  refine wpIn_block ?_
  refine wpIn_loop_ghost (fun nn aa ww => ∃ k : Nat, Sl 24 aa [(0, idV a), (1, idV b), (2, .pointer (some ⟨b2, 0, none⟩)), (3, .pointer (some ⟨b3, 0, none⟩)), (5, .int .i64 (k : Int))] ∧ St w [.blk b3 (.cells (idArr b) 26), .blk b2 (.cells (idArr a) 26)] ww ∧ nn = 256 - k ∧ k ≤ 256 ∧ a.toNat / 2 ^ (256 - k) = b.toNat / 2 ^ (256 - k)) (256 - (0)) ⟨0, h.only ⟨rfl, rfl, rfl, rfl, slot_int rfl (by omega), trivial⟩, s.as ⟨rfl, rfl, trivial⟩, rfl, by omega, bpre_zero a b⟩ ?_
  rintro _ f w1 ⟨k, h, s, hnn, hp0, hp1⟩
  refine c_seq fun K4 hK4 => ?_
  refine c_seq fun K5 hK5 => ?_
  refine c_region ?_
  refine s_pure h (ru_move (h.ev rfl)) rfl ?_; intro f h
  refine s_pure h (ru_lss (h.ev rfl) (h.ev rfl)) rfl ?_; intro f h
  refine s_nil ?_
  refine hK5 _ _ ?_
  refine c_cond h rfl (fun hc => ?_) (fun hc => ?_)
  · replace hc := of_decide_eq_true hc
    refine wpIn_skip ?_
    refine hK4 _ _ ?_
    refine c_seq fun K6 hK6 => ?_
    refine wpIn_block ?_
    refine c_seq fun K7 hK7 => ?_
    refine c_seq fun K8 hK8 => ?_
    refine c_walkN 7 [[], [], [0, 1], [], [], [0, 1, 2, 3, 4], [0, 1, 2, 3, 4, 5]] h (by kernel_rfl) (by kernel_rfl) (by kernel_rfl) ?_
    refine w_load_row 1 h s row26 rfl rfl (by first | exact idArr_size _ | exact bytesF_size _ _) rfl ?_; intro f h
    refine w_pure h (ru_move (h.ev rfl)) rfl ?_; intro f h
    refine w_call h fnc77 (fun w9 hE9 => bit_any _ _ (by omega) w9) rfl rfl ?_; intro f h
    refine w_load_row 0 h s row26 rfl rfl (by first | exact idArr_size _ | exact bytesF_size _ _) rfl ?_; intro f h
    refine w_pure h (ru_move (h.ev rfl)) rfl ?_; intro f h
    refine w_call h fnc77 (fun w9 hE9 => bit_any _ _ (by omega) w9) rfl rfl ?_; intro f h
    refine w_pure h (ru_lss (h.ev rfl) (h.ev rfl)) rfl ?_; intro f h
    refine w_nil s fun w1 s => ?_
    refine s_nil ?_
    refine hK8 _ _ ?_
    refine c_cond h rfl (fun hc => ?_) (fun hc => ?_)
    · replace hc := of_decide_eq_true hc
      refine c_seq fun K9 hK9 => ?_
      refine c_region ?_
      refine s_pure h (ru_assign (h.ev rfl)) rfl ?_; intro f h
      refine s_nil ?_
      refine hK9 _ _ ?_
      refine wpIn_ret ?_
      refine t_ret ?_
      refine b_ret ?_
      refine t_ret ?_
      refine t_ret ?_
      refine b_ret ?_
      refine t_ret ?_
      exact e_tmp rfl h s rfl (by show _ = _; rw [bcmp_lt a b k (by omega) hp1 hc])
    · replace hc := of_decide_eq_false hc
      refine wpIn_skip ?_
      refine hK7 _ _ ?_
      refine c_seq fun K10 hK10 => ?_
      refine c_walkN 7 [[], [], [0, 1], [], [], [0, 1, 2, 3, 4], [0, 1, 2, 3, 4, 5]] h (by kernel_rfl) (by kernel_rfl) (by kernel_rfl) ?_
      refine w_load_row 1 h s row26 rfl rfl (by first | exact idArr_size _ | exact bytesF_size _ _) rfl ?_; intro f h
      refine w_pure h (ru_move (h.ev rfl)) rfl ?_; intro f h
      refine w_call h fnc77 (fun w9 hE9 => bit_any _ _ (by omega) w9) rfl rfl ?_; intro f h
      refine w_load_row 0 h s row26 rfl rfl (by first | exact idArr_size _ | exact bytesF_size _ _) rfl ?_; intro f h
      refine w_pure h (ru_move (h.ev rfl)) rfl ?_; intro f h
      refine w_call h fnc77 (fun w9 hE9 => bit_any _ _ (by omega) w9) rfl rfl ?_; intro f h
      refine w_pure h (ru_gtr (h.ev rfl) (h.ev rfl)) rfl ?_; intro f h
      refine w_nil s fun w1 s => ?_
      refine s_nil ?_
      refine hK10 _ _ ?_
      refine c_cond h rfl (fun hc => ?_) (fun hc => ?_)
      · replace hc := of_decide_eq_true hc
        refine c_seq fun K11 hK11 => ?_
        refine c_region ?_
        refine s_pure h (ru_assign (h.ev rfl)) rfl ?_; intro f h
        refine s_nil ?_
        refine hK11 _ _ ?_
        refine wpIn_ret ?_
        refine b_ret ?_
        refine t_ret ?_
        refine t_ret ?_
        refine b_ret ?_
        refine t_ret ?_
        exact e_tmp rfl h s rfl (by show _ = _; rw [bcmp_gt a b k (by omega) hp1 hc])
      · replace hc := of_decide_eq_false hc
        refine wpIn_skip ?_
        refine b_norm ?_
        refine hK6 _ _ ?_
        refine c_region ?_
        refine s_pure h (ru_move (h.ev rfl)) rfl ?_; intro f h
        refine s_pure h (ru_add (h.ev rfl) (h.ev rfl) (by omega)) rfl ?_; intro f h
        refine s_pure h (ru_assign (h.ev rfl)) rfl ?_; intro f h
        refine s_nil ?_
        refine t_norm ?_
        exact ⟨_, by omega, ⟨k + 1, h.only ⟨rfl, rfl, rfl, rfl, slot_int rfl (by omega), trivial⟩, St.as s ⟨rfl, rfl, trivial⟩, rfl, by omega, bpre_next a b k (by omega) hp1 (by omega)⟩⟩
  · replace hc := of_decide_eq_false hc
    refine wpIn_exit ?_
    refine t_exit ?_
    refine t_exit ?_
    refine b_exit ?_
    refine hK2 _ _ ?_
    refine c_seq fun K12 hK12 => ?_
    refine c_region ?_
    refine s_pure h (ru_assign (h.ev rfl)) rfl ?_; intro f h
    refine s_nil ?_
    refine hK12 _ _ ?_
    refine wpIn_ret ?_
    exact e_tmp rfl h s rfl (by show _ = _; rw [bpre_end a b k (by omega) hp1, cmpI_self])

theorem add_any (a b : Id) (w : World) : Calls Tryz.prog 78 [idV a, idV b].toArray w (Ret w (is (idV (a + b)))) := by
  refine c_enter Tryz.func78 rfl Tryz.ntmps78 rfl [(0, idV a), (1, idV b)] (by simp) fun f h => ?_
  have s := St.start w
  refine c_seq fun K1 hK1 => ?_
  refine c_region ?_
  refine s_box (idArr a) h s rfl rfl rfl ?_; intro f w1 b2 h s
  refine s_box (idArr b) h s rfl rfl rfl ?_; intro f w1 b3 h s
  refine s_alloc (idArr 0#256) h s zero26 rfl rfl ?_; intro f w1 b4 h s
  refine s_nil ?_
  refine hK1 _ _ ?_
  refine c_seq fun K2 hK2 => ?_
  refine c_region ?_
  refine s_pure h (ru_build0 idTy) rfl ?_; intro f h
  refine s_alloc (idArr 0#256) h s zero26 rfl rfl ?_; intro f w1 b5 h s
  refine s_store_row 0 h s row26 rfl rfl rfl (by first | exact idArr_size _ | exact bytesF_size _ _) (by first | exact idArr_size _ | exact bytesF_size _ _) (by first | exact idArr_ones _ | exact bytesF_ones _ _) ?_; intro w1 s
  refine s_nil ?_
  refine hK2 _ _ ?_
  refine c_seq fun K3 hK3 => ?_
  refine c_region ?_
  refine s_pure h (ru_assign (h.ev rfl)) rfl ?_; intro f h
  refine s_nil ?_
  refine hK3 _ _ ?_
  refine c_seq fun K4 hK4 => ?_
  refine c_seq fun K5 hK5 => ?_
  refine c_region ?_
  refine s_pure h (ru_assign (h.ev rfl)) rfl ?_; intro f h
  refine s_nil ?_
  refine hK5 _ _ ?_
  refine wpIn_block ?_
  refine wpIn_loop_ghost (fun nn aa ww => ∃ k : Nat, Sl 33 aa [(0, idV a), (1, idV b), (2, .pointer (some ⟨b2, 0, none⟩)), (3, .pointer (some ⟨b3, 0, none⟩)), (4, .pointer (some ⟨b4, 0, none⟩)), (5, .pointer (some ⟨b5, 0, none⟩)), (6, .int .i64 (carN a.toNat b.toNat (32 - k) : Int)), (7, .int .i64 ((k : Int) - 1))] ∧ St w [.blk b5 (.cells (idArr (sumI a b (32 - k))) 26), .blk b4 (.cells (idArr 0#256) 26), .blk b3 (.cells (idArr b) 26), .blk b2 (.cells (idArr a) 26)] ww ∧ nn = k ∧ k ≤ 32) ((32)) ⟨32, h.only ⟨rfl, rfl, rfl, rfl, rfl, rfl, slot_int rfl (by rw [Nat.sub_self, carN_zero]; rfl), slot_int rfl (by omega), trivial⟩, s.as ⟨cells_eq (by rw [Nat.sub_self, sumI_zero]), rfl, rfl, rfl, trivial⟩, rfl, by omega⟩ ?_
  rintro _ f w1 ⟨k, h, s, hnn, hp0⟩
  have ha := byteAt_lt a (k - 1)
  have hb := byteAt_lt b (k - 1)
  have hc9 := carN_le a.toNat b.toNat (32 - k)
  refine c_seq fun K6 hK6 => ?_
  refine c_seq fun K7 hK7 => ?_
  refine c_region ?_
  refine s_pure h (ru_move (h.ev rfl)) rfl ?_; intro f h
  refine s_pure h (ru_geq (h.ev rfl) (h.ev rfl)) rfl ?_; intro f h
  refine s_nil ?_
  refine hK7 _ _ ?_
  refine c_cond h rfl (fun hc => ?_) (fun hc => ?_)
  · replace hc := of_decide_eq_true hc
    refine wpIn_skip ?_
    refine hK6 _ _ ?_
    refine c_seq fun K8 hK8 => ?_
    refine wpIn_block ?_
    refine c_seq fun K9 hK9 => ?_
    refine c_walkN 12 [[], [0], [0, 1], [0, 1, 2], [], [4], [4, 5], [4, 5, 6], [0, 1, 2, 3, 4, 5, 6, 7], [], [0, 1, 2, 3, 4, 5, 6, 7, 8, 9], [0, 1, 2, 3, 4, 5, 6, 7, 8, 9, 10]] h (by kernel_rfl) (by kernel_rfl) (by kernel_rfl) ?_
    refine w_pure h (ru_move (h.ev rfl)) rfl ?_; intro f h
    refine w_pure h (ru_ix (k - 1) Tryz.underlying26 size5 (h.ev rfl) (h.ev rfl) (by omega) (by omega)) rfl ?_; intro f h
    refine w_load_one 3 h s one5 rfl rfl (idArr_get _ _ (by omega)) rfl ?_; intro f h
    refine w_pure h (ru_conv_in Tryz.underlying5 Tryz.underlying3 (h.ev rfl) (IntWalk.i64_in _ (by omega))) rfl ?_; intro f h
    refine w_pure h (ru_move (h.ev rfl)) rfl ?_; intro f h
    refine w_pure h (ru_ix (k - 1) Tryz.underlying26 size5 (h.ev rfl) (h.ev rfl) (by omega) (by omega)) rfl ?_; intro f h
    refine w_load_one 2 h s one5 rfl rfl (idArr_get _ _ (by omega)) rfl ?_; intro f h
    refine w_pure h (ru_conv_in Tryz.underlying5 Tryz.underlying3 (h.ev rfl) (IntWalk.i64_in _ (by omega))) rfl ?_; intro f h
    refine w_pure h (ru_add (h.ev rfl) (h.ev rfl) (by omega)) rfl ?_; intro f h
    refine w_pure h (ru_move (h.ev rfl)) rfl ?_; intro f h
    refine w_pure h (ru_add (h.ev rfl) (h.ev rfl) (by omega)) rfl ?_; intro f h
    refine w_pure h (ru_assign (h.ev rfl)) rfl ?_; intro f h
    refine w_nil s fun w1 s => ?_
    refine s_nil ?_
    refine hK9 _ _ ?_
    refine c_seq fun K10 hK10 => ?_
    refine c_region ?_
    refine s_pure h (ru_move (h.ev rfl)) rfl ?_; intro f h
    refine s_pure h (ru_move (h.ev rfl)) rfl ?_; intro f h
    refine s_pure h (ru_rem (h.ev rfl) (h.ev rfl) (by omega)) rfl ?_; intro f h
    refine s_pure h (ru_conv_u8 Tryz.underlying3 Tryz.underlying5 (h.ev rfl)) rfl ?_; intro f h
    refine s_pure h (ru_ix (k - 1) Tryz.underlying26 size5 (h.ev rfl) (h.ev rfl) (by omega) (by omega)) rfl ?_; intro f h
    refine s_store_one 0 h s one5 rfl rfl rfl (by simp; omega) (rfl) ?_; intro w1 s
    refine s_nil ?_
    refine hK10 _ _ ?_
    refine c_region ?_
    refine s_pure h (ru_move (h.ev rfl)) rfl ?_; intro f h
    refine s_pure h (ru_quo (h.ev rfl) (h.ev rfl) (by omega)) rfl ?_; intro f h
    refine s_pure h (ru_assign (h.ev rfl)) rfl ?_; intro f h
    refine s_nil ?_
    refine b_norm ?_
    refine hK8 _ _ ?_
    refine c_region ?_
    refine s_pure h (ru_move (h.ev rfl)) rfl ?_; intro f h
    refine s_pure h (ru_sub (h.ev rfl) (h.ev rfl) (by omega)) rfl ?_; intro f h
    refine s_pure h (ru_assign (h.ev rfl)) rfl ?_; intro f h
    refine s_nil ?_
    refine t_norm ?_
    exact ⟨_, by omega, ⟨k - 1, h.only ⟨rfl, rfl, rfl, rfl, rfl, rfl, slot_int rfl (add_car a b k (by omega) (by omega)), slot_int rfl (by omega), trivial⟩, St.as s ⟨cells_eq (add_box a b k (by omega) (by omega)), rfl, rfl, rfl, trivial⟩, rfl, by omega⟩⟩
  · replace hc := of_decide_eq_false hc
    refine wpIn_exit ?_
    refine t_exit ?_
    refine t_exit ?_
    refine b_exit ?_
    refine hK4 _ _ ?_
    refine c_seq fun K11 hK11 => ?_
    refine c_region ?_
    refine s_load_row 0 h s row26 rfl rfl (by first | exact idArr_size _ | exact bytesF_size _ _) rfl ?_; intro f h
    refine s_store_row 1 h s row26 rfl rfl rfl (by first | exact idArr_size _ | exact bytesF_size _ _) (by first | exact idArr_size _ | exact bytesF_size _ _) (by first | exact idArr_ones _ | exact bytesF_ones _ _) ?_; intro w1 s
    refine s_nil ?_
    refine hK11 _ _ ?_
    refine wpIn_ret ?_
    exact e_row 1 rfl h s row26 rfl rfl (by first | exact idArr_size _ | exact bytesF_size _ _) (by show _ = _; rw [add_end a b k (by omega)])

theorem power_any (n : Nat) (hn : n < 256) (w : World) : Calls Tryz.prog 80 [.int .i64 (n : Int)].toArray w (Ret w (is (idV (powI n)))) := by
  refine c_enter Tryz.func80 rfl Tryz.ntmps80 rfl [(0, .int .i64 (n : Int))] (by simp) fun f h => ?_
  have s := St.start w
  refine c_seq fun K1 hK1 => ?_
  refine c_region ?_
  refine s_alloc (idArr 0#256) h s zero26 rfl rfl ?_; intro f w1 b2 h s
  refine s_nil ?_
  refine hK1 _ _ ?_
  refine c_seq fun K2 hK2 => ?_
  refine c_region ?_
  refine s_pure h (ru_build0 idTy) rfl ?_; intro f h
  refine s_alloc (idArr 0#256) h s zero26 rfl rfl ?_; intro f w1 b3 h s
  refine s_store_row 0 h s row26 rfl rfl rfl (by first | exact idArr_size _ | exact bytesF_size _ _) (by first | exact idArr_size _ | exact bytesF_size _ _) (by first | exact idArr_ones _ | exact bytesF_ones _ _) ?_; intro w1 s
  refine s_nil ?_
  refine hK2 _ _ ?_
  refine c_seq fun K3 hK3 => ?_
  refine c_region ?_
  refine s_pure h (ru_assign (h.ev rfl)) rfl ?_; intro f h
  refine s_nil ?_
  refine hK3 _ _ ?_
  refine c_seq fun K4 hK4 => ?_
  refine c_seq fun K5 hK5 => ?_
  refine c_region ?_
  refine s_pure h (ru_assign (h.ev rfl)) rfl ?_; intro f h
  refine s_nil ?_
  refine hK5 _ _ ?_
  refine wpIn_block ?_
  refine wpIn_loop_ghost (fun nn aa ww => ∃ k : Nat, Sl 21 aa [(0, .int .i64 (n : Int)), (2, .pointer (some ⟨b2, 0, none⟩)), (3, .pointer (some ⟨b3, 0, none⟩)), (4, .int .u8 ((2 ^ k : Nat) : Int)), (5, .int .i64 (k : Int))] ∧ St w [.blk b3 (.cells (idArr 0#256) 26), .blk b2 (.cells (idArr 0#256) 26)] ww ∧ nn = n % 8 - k ∧ k ≤ n % 8) (n % 8 - (0)) ⟨0, h.only ⟨rfl, rfl, rfl, slot_int rfl (by omega), slot_int rfl (by omega), trivial⟩, s.as ⟨rfl, rfl, trivial⟩, rfl, by omega⟩ ?_
  rintro _ f w1 ⟨k, h, s, hnn, hp0⟩
  refine c_seq fun K6 hK6 => ?_
  refine c_seq fun K7 hK7 => ?_
  refine c_region ?_
  refine s_pure h (ru_move (h.ev rfl)) rfl ?_; intro f h
  refine s_pure h (ru_move (h.ev rfl)) rfl ?_; intro f h
  refine s_pure h (ru_rem (h.ev rfl) (h.ev rfl) (by omega)) rfl ?_; intro f h
  refine s_pure h (ru_lss (h.ev rfl) (h.ev rfl)) rfl ?_; intro f h
  refine s_nil ?_
  refine hK7 _ _ ?_
  refine c_cond h rfl (fun hc => ?_) (fun hc => ?_)
  · replace hc := of_decide_eq_true hc
    refine wpIn_skip ?_
    refine hK6 _ _ ?_
    refine c_seq fun K8 hK8 => ?_
    refine wpIn_block ?_
    refine c_region ?_
    refine s_pure h (ru_move (h.ev rfl)) rfl ?_; intro f h
    refine s_pure h (ru_val (.int .u8 ((2 ^ (k + 1) : Nat) : Int)) (ru_mulw (h.ev rfl) (h.ev rfl)) (congrArg (Value.int .u8) (two_pow_u8 k (by omega)))) rfl ?_; intro f h
    refine s_pure h (ru_assign (h.ev rfl)) rfl ?_; intro f h
    refine s_nil ?_
    refine b_norm ?_
    refine hK8 _ _ ?_
    refine c_region ?_
    refine s_pure h (ru_move (h.ev rfl)) rfl ?_; intro f h
    refine s_pure h (ru_add (h.ev rfl) (h.ev rfl) (by omega)) rfl ?_; intro f h
    refine s_pure h (ru_assign (h.ev rfl)) rfl ?_; intro f h
    refine s_nil ?_
    refine t_norm ?_
    exact ⟨_, by omega, ⟨k + 1, h.only ⟨rfl, rfl, rfl, slot_int rfl (by omega), slot_int rfl (by omega), trivial⟩, St.as s ⟨rfl, rfl, trivial⟩, rfl, by omega⟩⟩
  · replace hc := of_decide_eq_false hc
    refine wpIn_exit ?_
    refine t_exit ?_
    refine t_exit ?_
    refine b_exit ?_
    refine hK4 _ _ ?_
    refine c_seq fun K9 hK9 => ?_
    refine c_region ?_
    refine s_pure h (ru_move (h.ev rfl)) rfl ?_; intro f h
    refine s_pure h (ru_quo (h.ev rfl) (h.ev rfl) (by omega)) rfl ?_; intro f h
    refine s_pure h (ru_sub (h.ev rfl) (h.ev rfl) (by omega)) rfl ?_; intro f h
    refine s_pure h (ru_move (h.ev rfl)) rfl ?_; intro f h
    refine s_pure h (ru_ix (31 - n / 8) Tryz.underlying26 size5 (h.ev rfl) (h.ev rfl) (by omega) (by omega)) rfl ?_; intro f h
    refine s_store_one 0 h s one5 rfl rfl rfl (by simp; omega) (rfl) ?_; intro w1 s
    have hk8 : k = n % 8 := by omega
    subst hk8
    have s := s.as (B' := [.blk b3 (.cells (idArr (powI n)) 26), .blk b2 (.cells (idArr 0#256) 26)]) ⟨cells_eq (pow_box n hn), rfl, trivial⟩
    refine s_nil ?_
    refine hK9 _ _ ?_
    refine c_seq fun K10 hK10 => ?_
    refine c_region ?_
    refine s_load_row 0 h s row26 rfl rfl (by first | exact idArr_size _ | exact bytesF_size _ _) rfl ?_; intro f h
    refine s_store_row 1 h s row26 rfl rfl rfl (by first | exact idArr_size _ | exact bytesF_size _ _) (by first | exact idArr_size _ | exact bytesF_size _ _) (by first | exact idArr_ones _ | exact bytesF_ones _ _) ?_; intro w1 s
    refine s_nil ?_
    refine hK10 _ _ ?_
    refine wpIn_ret ?_
    exact e_row 1 rfl h s row26 rfl rfl (by first | exact idArr_size _ | exact bytesF_size _ _) (rfl)

theorem not_any (a : Id) (w : World) : Calls Tryz.prog 79 [idV a].toArray w (Ret w (is (idV (~~~a)))) := by
  refine c_enter Tryz.func79 rfl Tryz.ntmps79 rfl [(0, idV a)] (by simp) fun f h => ?_
  have s := St.start w
  refine c_seq fun K1 hK1 => ?_
  refine c_region ?_
  refine s_box (idArr a) h s rfl rfl rfl ?_; intro f w1 b1 h s
  refine s_alloc (idArr 0#256) h s zero26 rfl rfl ?_; intro f w1 b2 h s
  refine s_nil ?_
  refine hK1 _ _ ?_
  refine c_seq fun K2 hK2 => ?_
  refine c_region ?_
  refine s_pure h (ru_build0 idTy) rfl ?_; intro f h
  refine s_alloc (idArr 0#256) h s zero26 rfl rfl ?_; intro f w1 b3 h s
  refine s_store_row 0 h s row26 rfl rfl rfl (by first | exact idArr_size _ | exact bytesF_size _ _) (by first | exact idArr_size _ | exact bytesF_size _ _) (by first | exact idArr_ones _ | exact bytesF_ones _ _) ?_; intro w1 s
  refine s_nil ?_
  refine hK2 _ _ ?_
  refine c_seq fun K3 hK3 => ?_
  refine c_seq fun K4 hK4 => ?_
  refine c_region ?_
  refine s_pure h (ru_assign (h.ev rfl)) rfl ?_; intro f h
  refine s_nil ?_
  refine hK4 _ _ ?_
  refine wpIn_block ?_
  refine wpIn_loop_ghost (fun nn aa ww => ∃ k : Nat, Sl 17 aa [(0, idV a), (1, .pointer (some ⟨b1, 0, none⟩)), (2, .pointer (some ⟨b2, 0, none⟩)), (3, .pointer (some ⟨b3, 0, none⟩)), (4, .int .i64 (k : Int))] ∧ St w [.blk b3 (.cells (idArr (notI a k)) 26), .blk b2 (.cells (idArr 0#256) 26), .blk b1 (.cells (idArr a) 26)] ww ∧ nn = 32 - k ∧ k ≤ 32) (32 - (0)) ⟨0, h.only ⟨rfl, rfl, rfl, rfl, slot_int rfl (by omega), trivial⟩, s.as ⟨cells_eq (congrArg idArr (notI_zero a).symm), rfl, rfl, trivial⟩, rfl, by omega⟩ ?_
  rintro _ f w1 ⟨k, h, s, hnn, hp0⟩
  have ha := byteAt_lt a k
  refine c_seq fun K5 hK5 => ?_
  refine c_seq fun K6 hK6 => ?_
  refine c_region ?_
  refine s_pure h (ru_move (h.ev rfl)) rfl ?_; intro f h
  refine s_pure h (ru_lss (h.ev rfl) (h.ev rfl)) rfl ?_; intro f h
  refine s_nil ?_
  refine hK6 _ _ ?_
  refine c_cond h rfl (fun hc => ?_) (fun hc => ?_)
  · replace hc := of_decide_eq_true hc
    refine wpIn_skip ?_
    refine hK5 _ _ ?_
    refine c_seq fun K7 hK7 => ?_
    refine wpIn_block ?_
    refine c_region ?_
    refine s_pure h (ru_move (h.ev rfl)) rfl ?_; intro f h
    refine s_pure h (ru_move (h.ev rfl)) rfl ?_; intro f h
    refine s_pure h (ru_ix (k) Tryz.underlying26 size5 (h.ev rfl) (h.ev rfl) (by omega) (by omega)) rfl ?_; intro f h
    refine s_load_one 2 h s one5 rfl rfl (idArr_get _ _ (by omega)) rfl ?_; intro f h
    refine s_pure h (ru_val (.int .u8 (255 - (byteAt a k : Int))) (ru_subw (h.ev rfl) (h.ev rfl)) (congrArg (Value.int .u8) (IntWalk.u8_in _ (by omega)))) rfl ?_; intro f h
    refine s_pure h (ru_ix (k) Tryz.underlying26 size5 (h.ev rfl) (h.ev rfl) (by omega) (by omega)) rfl ?_; intro f h
    refine s_store_one 0 h s one5 rfl rfl rfl (by simp; omega) (rfl) ?_; intro w1 s
    refine s_nil ?_
    refine b_norm ?_
    refine hK7 _ _ ?_
    refine c_region ?_
    refine s_pure h (ru_move (h.ev rfl)) rfl ?_; intro f h
    refine s_pure h (ru_add (h.ev rfl) (h.ev rfl) (by omega)) rfl ?_; intro f h
    refine s_pure h (ru_assign (h.ev rfl)) rfl ?_; intro f h
    refine s_nil ?_
    refine t_norm ?_
    exact ⟨_, by omega, ⟨k + 1, h.only ⟨rfl, rfl, rfl, rfl, slot_int rfl (by omega), trivial⟩, St.as s ⟨cells_eq (not_box a k (by omega)), rfl, rfl, trivial⟩, rfl, by omega⟩⟩
  · replace hc := of_decide_eq_false hc
    refine wpIn_exit ?_
    refine t_exit ?_
    refine t_exit ?_
    refine b_exit ?_
    refine hK3 _ _ ?_
    refine c_seq fun K8 hK8 => ?_
    refine c_region ?_
    refine s_load_row 0 h s row26 rfl rfl (by first | exact idArr_size _ | exact bytesF_size _ _) rfl ?_; intro f h
    refine s_store_row 1 h s row26 rfl rfl rfl (by first | exact idArr_size _ | exact bytesF_size _ _) (by first | exact idArr_size _ | exact bytesF_size _ _) (by first | exact idArr_ones _ | exact bytesF_ones _ _) ?_; intro w1 s
    refine s_nil ?_
    refine hK8 _ _ ?_
    refine wpIn_ret ?_
    exact e_row 1 rfl h s row26 rfl rfl (by first | exact idArr_size _ | exact bytesF_size _ _) (by show _ = _; rw [not_end a k (by omega)])

theorem rfar_any (a b : Id) (w : World) : Calls Tryz.prog 48 [idV a, idV b].toArray w (Ret w (is (idV (b - a)))) := by
  refine c_enter Tryz.func48 rfl Tryz.ntmps48 rfl [(0, idV a), (1, idV b)] (by simp) fun f h => ?_
  have s := St.start w
  refine c_seq fun K1 hK1 => ?_
  refine c_region ?_
  refine s_box (idArr a) h s rfl rfl rfl ?_; intro f w1 b2 h s
  refine s_box (idArr b) h s rfl rfl rfl ?_; intro f w1 b3 h s
  refine s_alloc (idArr 0#256) h s zero26 rfl rfl ?_; intro f w1 b4 h s
  refine s_nil ?_
  refine hK1 _ _ ?_
  refine c_seq fun K2 hK2 => ?_
  refine c_walkN 6 [[], [], [1], [0, 1, 2], [0, 1, 2, 3], [0, 1, 2, 3, 4]] h (by kernel_rfl) (by kernel_rfl) (by kernel_rfl) ?_
  refine w_load_row 1 h s row26 rfl rfl (by first | exact idArr_size _ | exact bytesF_size _ _) rfl ?_; intro f h
  refine w_load_row 2 h s row26 rfl rfl (by first | exact idArr_size _ | exact bytesF_size _ _) rfl ?_; intro f h
  refine w_call h fnc79 (fun w9 hE9 => not_any _ w9) rfl rfl ?_; intro f h
  refine w_call h fnc78 (fun w9 hE9 => add_any _ _ w9) rfl rfl ?_; intro f h
  refine w_call h fnc80 (fun w9 hE9 => power_any 0 (by omega) w9) rfl rfl ?_; intro f h
  refine w_call h fnc78 (fun w9 hE9 => add_any _ _ w9) rfl rfl ?_; intro f h
  refine w_nil s fun w1 s => ?_
  refine s_store_row 0 h s row26 rfl rfl rfl (by first | exact idArr_size _ | exact bytesF_size _ _) (by first | exact idArr_size _ | exact bytesF_size _ _) (by first | exact idArr_ones _ | exact bytesF_ones _ _) ?_; intro w1 s
  refine s_nil ?_
  refine hK2 _ _ ?_
  refine wpIn_ret ?_
  exact e_row 0 rfl h s row26 rfl rfl (by first | exact idArr_size _ | exact bytesF_size _ _) (by show _ = _; exact congrArg (fun x => idV x) (far_by_not a b))
end Go.Proofs.YtndbijifgalpbaaGreat
