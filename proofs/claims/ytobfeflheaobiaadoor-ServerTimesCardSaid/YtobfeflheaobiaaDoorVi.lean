/- What package ident answers. -/
import Derived.Test.YtobfeflheaobiaaDoorCon
set_option linter.unusedVariables false
set_option linter.unusedSimpArgs false
set_option linter.unusedSectionVars false
namespace Go.Proofs.YtobfeflheaobiaaDoor
open Go.RowKit
theorem isNaN_any (x : Int) (w : World) : Calls Tryd.prog 92 [.int .u8 x].toArray w (Ret w (is (.bool false))) := by
  refine c_en Tryd.func92 rfl Tryd.ntmps92 rfl fun f h s => qre hFT9 1 h rfl fun f h => qrs hFT9 2 h rfl fun f h => s_as hFT9 (.bool false) h rfl (by simp) rfl fun f h => e9 hFT9 1 h rfl fun f h => wpIn_ret (e_tmp rfl h s rfl (rfl))

theorem bcmp_any (x y : Int) (w : World) : Calls Tryd.prog 87 [.int .u8 x, .int .u8 y].toArray w (Ret w (is (.int .i64 (cmpInt x y)))) := by
  refine c_en Tryd.func87 rfl Tryd.ntmps87 rfl fun f h s => qre hFT9 1 h rfl fun f h => qrs hFT9 1 h rfl fun f h => s_cv h s fnc92 (isNaN_any _ _) rfl rfl fun f w1 h s => e9 hFT9 1 h rfl fun f h => qrs hFT9 1 h rfl fun f h => s_cv h s fnc92 (isNaN_any _ _) rfl rfl fun f w1 h s => e9 hFT9 1 h rfl fun f h => c_seqN (qre hFT9 1 h rfl fun f h => cfk h rfl (c_seqN (qre hFT9 1 h rfl fun f h => cfk h rfl (c_seqN (qre hFT9 3 h rfl fun f h => c_cond h rfl (fun hc => ?_) (fun hc => ?_))))))
  · have hc := of_decide_eq_true hc
    refine qre hFT9 1 h rfl fun f h => rt (e_tmp rfl h s rfl (by show _ = _; unfold cmpInt; rw [if_pos hc]))
  · have hc1 := of_decide_eq_false hc
    refine kt (c_seqN (qre hFT9 3 h rfl fun f h => c_cd h rfl (fun hc => ?_) (fun hc => ?_)))
    · refine qre hFT9 1 h rfl fun f h => rt (e_tmp rfl h s rfl (by show _ = _; unfold cmpInt; rw [if_neg (by omega), if_pos hc]))
    · refine kt (qre hFT9 1 h rfl fun f h => wpIn_ret (e_tmp rfl h s rfl (by show _ = _; unfold cmpInt; rw [if_neg (by omega), if_neg (by omega)])))

theorem compare_any (a b : Id) (w : World) : Calls Tryd.prog 74 [idV a, idV b].toArray w (Ret w (is (.int .i64 (cmpI a b)))) := by
  refine c_en Tryd.func74 rfl Tryd.ntmps74 rfl fun f h s => qr (s_box (idArr a) h s rfl rfl rfl fun f w1 b2 h s => s_box (idArr b) h s rfl rfl rfl fun f w1 b3 h s => e9 hFT9 1 h rfl fun f h => c_seqN (qre hFT9 1 h rfl fun f h => wpIn_block (wpIn_loop_ghost (fun nn aa ww => ∃ k : Nat, Sl 24 aa [(0, idV a), (1, idV b), (2, .pointer (some ⟨b2, 0, none⟩)), (3, .pointer (some ⟨b3, 0, none⟩)), (6, .int .i64 (k : Int))] ∧ St w [.blk b3 (.cells (idArr b) 26), .blk b2 (.cells (idArr a) 26)] ww ∧ nn = 32 - k ∧ k ≤ 32 ∧ a.toNat / 256 ^ (32 - k) = b.toNat / 256 ^ (32 - k)) (32 - (0)) ⟨0, h.only ⟨rfl, rfl, rfl, rfl, slot_int rfl (by omega), trivial⟩, s.as ⟨rfl, rfl, trivial⟩, rfl, by omega, pre_zero a b⟩ ?_)))
  rintro _ f w1 ⟨k, h, s, hnn, hp0, hp1⟩
  refine qre hFT9 1 h rfl fun f h => c_seqN (c_cd h rfl (fun hc => ?_) (fun hc => ?_))
  · refine kt (c_seqN (wpIn_block (qre hFT9 2 h rfl fun f h => c_seqN (c_wA 7 h (by kernel_rfl) (w_run hFT9 1 h rfl fun f h => w_pure h (ru_ix (k) Tryd.underlying26 size5 (h.ev rfl) (h.ev rfl) (by omega) (by omega)) rfl fun f h => w_load_one 1 h s one5 rfl rfl (idArr_get _ _ (by omega)) rfl fun f h => w_run hFT9 1 h rfl fun f h => w_pure h (ru_ix (k) Tryd.underlying26 size5 (h.ev rfl) (h.ev rfl) (by omega) (by omega)) rfl fun f h => w_load_one 0 h s one5 rfl rfl (idArr_get _ _ (by omega)) rfl fun f h => w_run hFT9 1 h rfl fun f h => w_nil s fun w1 s => nt (c_cd h rfl (fun hc => ?_) (fun hc => ?_)))))))
    · refine c_seqN (c_wA 8 h (by kernel_rfl) (w_run hFT9 1 h rfl fun f h => w_pure h (ru_ix (k) Tryd.underlying26 size5 (h.ev rfl) (h.ev rfl) (by omega) (by omega)) rfl fun f h => w_load_one 1 h s one5 rfl rfl (idArr_get _ _ (by omega)) rfl fun f h => w_run hFT9 1 h rfl fun f h => w_pure h (ru_ix (k) Tryd.underlying26 size5 (h.ev rfl) (h.ev rfl) (by omega) (by omega)) rfl fun f h => w_load_one 0 h s one5 rfl rfl (idArr_get _ _ (by omega)) rfl fun f h => w_call h fnc87 (fun w9 hE9 => bcmp_any _ _ w9) rfl rfl fun f h => w_run hFT9 1 h rfl fun f h => w_nil s fun w1 s => nt (wpIn_ret (b_ret (t_ret (t_ret (b_ret (t_ret (e_tmp rfl h s rfl (by show _ = _; rw [cmp_at a b k (by omega) hp1 hc]))))))))))
    · refine wpIn_skip (b_norm (t_norm (c_region (s_pure h (ru_add (h.ev rfl) (h.ev rfl) (by omega)) rfl fun f h => e9 hFT9 1 h rfl fun f h => ?_))))
      exact ⟨_, by omega, ⟨k + 1, h.only ⟨rfl, rfl, rfl, rfl, slot_int rfl (by omega), trivial⟩, St.as s ⟨rfl, rfl, trivial⟩, rfl, by omega, pre_next a b k (by omega) hp1 (by omega)⟩⟩
  · refine wpIn_exit (t_exit (t_exit (b_exit (t_norm (qre hFT9 1 h rfl fun f h => wpIn_ret (e_tmp rfl h s rfl (by show _ = _; rw [pre_end a b k (by omega) hp1, cmpI_self])))))))

theorem len8_any (x : Nat) (hx : x < 256) (w : World) : Calls Tryd.prog 94 [.int .u8 (x : Int)].toArray w (Ret w (is (.int .i64 (len8 x : Int)))) := by
  have hl := len8_le x hx
  refine c_en Tryd.func94 rfl Tryd.ntmps94 rfl fun f h s => qre hFT9 1 h rfl fun f h => qrs hFT9 1 h rfl fun f h => s_pure h (ru_index_str Tryd.underlying9 (x) (h.ev rfl) (h.ev rfl) (rfl) (tab8 (by kernel_rfl) x hx)) rfl fun f h => s_pure h (ru_conv_in Tryd.underlying5 Tryd.underlying3 (h.ev rfl) (IntWalk.i64_in _ (by rw [len8_u8 x hx]; omega))) rfl fun f h => e9 hFT9 1 h rfl fun f h => wpIn_ret (e_tmp rfl h s rfl (by show _ = _; rw [len8_u8 x hx]))

theorem lz8_any (x : Nat) (hx : x < 256) (w : World) : Calls Tryd.prog 91 [.int .u8 (x : Int)].toArray w (Ret w (is (.int .i64 (8 - (len8 x : Int))))) := by
  have hl := len8_le x hx
  refine c_en Tryd.func91 rfl Tryd.ntmps91 rfl fun f h s => qre hFT9 1 h rfl fun f h => qrs hFT9 1 h rfl fun f h => s_cv h s fnc94 (len8_any _ hx _) rfl rfl fun f w1 h s => s_pure h (ru_sub (h.ev rfl) (h.ev rfl) (by omega)) rfl fun f h => e9 hFT9 1 h rfl fun f h => wpIn_ret (e_tmp rfl h s rfl (rfl))

theorem common_any (a b : Id) (w : World) : Calls Tryd.prog 84 [idV a, idV b].toArray w (Ret w (is (.int .i64 (com a b : Int)))) := by
  refine c_en Tryd.func84 rfl Tryd.ntmps84 rfl fun f h s => qr (s_box (idArr a) h s rfl rfl rfl fun f w1 b2 h s => s_box (idArr b) h s rfl rfl rfl fun f w1 b3 h s => e9 hFT9 1 h rfl fun f h => c_seqN (qre hFT9 1 h rfl fun f h => wpIn_block (wpIn_loop_ghost (fun nn aa ww => ∃ k : Nat, Sl 28 aa [(0, idV a), (1, idV b), (2, .pointer (some ⟨b2, 0, none⟩)), (3, .pointer (some ⟨b3, 0, none⟩)), (6, .int .i64 (k : Int))] ∧ St w [.blk b3 (.cells (idArr b) 26), .blk b2 (.cells (idArr a) 26)] ww ∧ nn = 32 - k ∧ k ≤ 32 ∧ a.toNat / 256 ^ (32 - k) = b.toNat / 256 ^ (32 - k)) (32 - (0)) ⟨0, h.only ⟨rfl, rfl, rfl, rfl, slot_int rfl (by omega), trivial⟩, s.as ⟨rfl, rfl, trivial⟩, rfl, by omega, pre_zero a b⟩ ?_)))
  rintro _ f w1 ⟨k, h, s, hnn, hp0, hp1⟩
  have ha := byteAt_lt a k
  have hb := byteAt_lt b k
  have hl := len8_le (byteAt a k ^^^ byteAt b k) (Nat.xor_lt_two_pow (n := 8) ha hb)
  refine qre hFT9 1 h rfl fun f h => c_seqN (c_cd h rfl (fun hc => ?_) (fun hc => ?_))
  · refine kt (c_seqN (wpIn_block (qre hFT9 2 h rfl fun f h => c_seqN (c_wA 7 h (by kernel_rfl) (w_run hFT9 1 h rfl fun f h => w_pure h (ru_ix (k) Tryd.underlying26 size5 (h.ev rfl) (h.ev rfl) (by omega) (by omega)) rfl fun f h => w_load_one 1 h s one5 rfl rfl (idArr_get _ _ (by omega)) rfl fun f h => w_run hFT9 1 h rfl fun f h => w_pure h (ru_ix (k) Tryd.underlying26 size5 (h.ev rfl) (h.ev rfl) (by omega) (by omega)) rfl fun f h => w_load_one 0 h s one5 rfl rfl (idArr_get _ _ (by omega)) rfl fun f h => w_run hFT9 1 h rfl fun f h => w_nil s fun w1 s => nt (c_cd h rfl (fun hc => ?_) (fun hc => ?_)))))))
    · refine c_seqN (c_wA 12 h (by kernel_rfl) (w_run hFT9 1 h rfl fun f h => w_pure h (ru_mul (h.ev rfl) (h.ev rfl) (by omega)) rfl fun f h => w_run hFT9 1 h rfl fun f h => w_pure h (ru_ix (k) Tryd.underlying26 size5 (h.ev rfl) (h.ev rfl) (by omega) (by omega)) rfl fun f h => w_load_one 1 h s one5 rfl rfl (idArr_get _ _ (by omega)) rfl fun f h => w_run hFT9 1 h rfl fun f h => w_pure h (ru_ix (k) Tryd.underlying26 size5 (h.ev rfl) (h.ev rfl) (by omega) (by omega)) rfl fun f h => w_load_one 0 h s one5 rfl rfl (idArr_get _ _ (by omega)) rfl fun f h => w_pure h (ru_xor_u8 (h.ev rfl) (h.ev rfl) (by omega) (by omega)) rfl fun f h => w_call h fnc91 (fun w9 hE9 => lz8_any _ (Nat.xor_lt_two_pow (n := 8) (byteAt_lt _ _) (byteAt_lt _ _)) w9) rfl rfl fun f h => w_pure h (ru_add (h.ev rfl) (h.ev rfl) (by omega)) rfl fun f h => w_run hFT9 1 h rfl fun f h => w_nil s fun w1 s => nt (wpIn_ret (b_ret (t_ret (t_ret (b_ret (t_ret (e_tmp rfl h s rfl (by show _ = _; rw [com_byte a b k (by omega) hp1 (by omega)]))))))))))
    · refine wpIn_skip (b_norm (t_norm (c_region (s_pure h (ru_add (h.ev rfl) (h.ev rfl) (by omega)) rfl fun f h => e9 hFT9 1 h rfl fun f h => ?_))))
      exact ⟨_, by omega, ⟨k + 1, h.only ⟨rfl, rfl, rfl, rfl, slot_int rfl (by omega), trivial⟩, St.as s ⟨rfl, rfl, trivial⟩, rfl, by omega, pre_next a b k (by omega) hp1 (by omega)⟩⟩
  · refine wpIn_exit (t_exit (t_exit (b_exit (t_norm (qre hFT9 1 h rfl fun f h => wpIn_ret (e_tmp rfl h s rfl (by show _ = _; rw [(com_all a b).2 (pre_end a b k (by omega) hp1)]; rfl)))))))
end Go.Proofs.YtobfeflheaobiaaDoor
