/- What each function of package digest answers that package proof leans on: for all arguments of its types (texts shorter than 2^31 bytes together). -/
import Derived.Test.YtcnnlakcpcofkaaDoorCon
set_option linter.unusedVariables false
set_option linter.unusedSimpArgs false
set_option linter.unusedSectionVars false
namespace Go.Proofs.YtcnnlakcpcofkaaDoor
open Go.RowKit
theorem rotl_any (x : W32) (n : Nat) (hn : 1 ≤ n ∧ n ≤ 31) (w : World) : Calls Tryd.prog 58 [wv x, .int .i64 (-(n : Int))].toArray w (Ret w (is (wv (rot x n)))) := by
  refine c_enter Tryd.func58 rfl Tryd.ntmps58 rfl [(0, wv x), (1, .int .i64 (-(n : Int)))] (by simp) fun f h => ?_
  have s := St.start w
  refine c_seq fun K1 hK1 => ?_
  refine c_region ?_
  refine s_pure h (ru_assign (h.ev rfl)) rfl ?_; intro f h
  refine s_nil ?_
  refine hK1 _ _ ?_
  refine c_seq fun K2 hK2 => ?_
  refine c_region ?_
  refine s_pure h (ru_move (h.ev rfl)) rfl ?_; intro f h
  refine s_pure h (ru_conv Tryd.underlying3 Tryd.underlying101 (h.ev rfl)) rfl ?_; intro f h
  refine s_pure h (ru_val (.int .u64 ((32 - n : Nat) : Int)) (ru_andw (h.ev rfl) (h.ev rfl)) (congrArg (Value.int .u64) (rot_and n hn))) rfl ?_; intro f h
  refine s_pure h (ru_assign (h.ev rfl)) rfl ?_; intro f h
  refine s_nil ?_
  refine hK2 _ _ ?_
  refine c_seq fun K3 hK3 => ?_
  refine c_region ?_
  refine s_pure h (ru_move (h.ev rfl)) rfl ?_; intro f h
  refine s_pure h (ru_move (h.ev rfl)) rfl ?_; intro f h
  refine s_pure h (ru_shl32 (32 - n) (h.ev rfl) (h.ev rfl) (rfl) (by omega)) rfl ?_; intro f h
  refine s_pure h (ru_move (h.ev rfl)) rfl ?_; intro f h
  refine s_pure h (ru_move (h.ev rfl)) rfl ?_; intro f h
  refine s_pure h (ru_val (.int .u64 ((n : Nat) : Int)) (ru_subw (h.ev rfl) (h.ev rfl)) (congrArg (Value.int .u64) (rot_sub n hn))) rfl ?_; intro f h
  refine s_pure h (ru_shr32 (n) (h.ev rfl) (h.ev rfl) (rfl) (by omega)) rfl ?_; intro f h
  refine s_pure h (ru_or32 (h.ev rfl) (h.ev rfl)) rfl ?_; intro f h
  refine s_pure h (ru_assign (h.ev rfl)) rfl ?_; intro f h
  refine s_nil ?_
  refine hK3 _ _ ?_
  refine wpIn_ret ?_
  exact e_tmp rfl h s rfl (rfl)

theorem turned_any (x : W32) (n : Nat) (hn : 1 ≤ n ∧ n ≤ 31) (w : World) : Calls Tryd.prog 54 [wv x, .int .i64 (n : Int)].toArray w (Ret w (is (wv (rot x n)))) := by
  refine c_enter Tryd.func54 rfl Tryd.ntmps54 rfl [(0, wv x), (1, .int .i64 (n : Int))] (by simp) fun f h => ?_
  have s := St.start w
  refine c_seq fun K1 hK1 => ?_
  refine c_region ?_
  refine s_pure h (ru_assign (h.ev rfl)) rfl ?_; intro f h
  refine s_nil ?_
  refine hK1 _ _ ?_
  refine c_seq fun K2 hK2 => ?_
  refine c_region ?_
  refine s_pure h (ru_move (h.ev rfl)) rfl ?_; intro f h
  refine s_pure h (ru_move (h.ev rfl)) rfl ?_; intro f h
  refine s_pure h (ru_neg (h.ev rfl) (by omega)) rfl ?_; intro f h
  refine s_call h s fnc58 (rotl_any _ _ (by omega) _) rfl rfl ?_; intro f w1 v9 hT hE h s; obtain rfl := hT
  refine s_pure h (ru_assign (h.ev rfl)) rfl ?_; intro f h
  refine s_nil ?_
  refine hK2 _ _ ?_
  refine wpIn_ret ?_
  exact e_tmp rfl h s rfl (rfl)

theorem stir_any (s9 ws : Nat → W32) (w : World) (hK : Tab w 1 (wF kTab 64)) : Calls Tryd.prog 43 [.agg (wF s9 8), .agg (wF ws 64)].toArray w (Ret w (is (.agg (wF (stirF s9 ws) 8)))) := by
  refine c_enter Tryd.func43 rfl Tryd.ntmps43 rfl [(0, .agg (wF s9 8)), (1, .agg (wF ws 64))] (by simp) fun f h => ?_
  have s := St.start w
  refine c_seq fun K1 hK1 => ?_
  refine c_region ?_
  refine s_box ((wF s9 8)) h s rfl rfl rfl ?_; intro f w1 b2 h s
  refine s_box ((wF ws 64)) h s rfl rfl rfl ?_; intro f w1 b3 h s
  refine s_alloc (wF (fun _ => 0#32) 8) h s zero82 rfl rfl ?_; intro f w1 b4 h s
  refine s_nil ?_
  refine hK1 _ _ ?_
  refine c_seq fun K2 hK2 => ?_
  refine c_walkN 24 [[], [0], [], [2], [], [4], [], [6], [], [8], [], [10], [], [12], [], [14], [0, 1], [0, 1, 2, 3, 16], [0, 1, 2, 3, 4, 5, 16, 17], [0, 1, 2, 3, 4, 5, 6, 7, 16, 17, 18], [0, 1, 2, 3, 4, 5, 6, 7, 8, 9, 16, 17, 18, 19], [0, 1, 2, 3, 4, 5, 6, 7, 8, 9, 10, 11, 16, 17, 18, 19, 20], [0, 1, 2, 3, 4, 5, 6, 7, 8, 9, 10, 11, 12, 13, 16, 17, 18, 19, 20, 21], [0, 1, 2, 3, 4, 5, 6, 7, 8, 9, 10, 11, 12, 13, 14, 15, 16, 17, 18, 19, 20, 21, 22]] h (by kernel_rfl) (by kernel_rfl) (by kernel_rfl) ?_
  refine w_pure h (ru_ix (0) Tryd.underlying82 size81 (h.ev rfl) (h.ev rfl) (by omega) (by omega)) rfl ?_; intro f h
  refine w_load_one 2 h s one81 rfl rfl (wF_get _ _ _ (by omega)) rfl ?_; intro f h
  refine w_pure h (ru_ix (1) Tryd.underlying82 size81 (h.ev rfl) (h.ev rfl) (by omega) (by omega)) rfl ?_; intro f h
  refine w_load_one 2 h s one81 rfl rfl (wF_get _ _ _ (by omega)) rfl ?_; intro f h
  refine w_pure h (ru_ix (2) Tryd.underlying82 size81 (h.ev rfl) (h.ev rfl) (by omega) (by omega)) rfl ?_; intro f h
  refine w_load_one 2 h s one81 rfl rfl (wF_get _ _ _ (by omega)) rfl ?_; intro f h
  refine w_pure h (ru_ix (3) Tryd.underlying82 size81 (h.ev rfl) (h.ev rfl) (by omega) (by omega)) rfl ?_; intro f h
  refine w_load_one 2 h s one81 rfl rfl (wF_get _ _ _ (by omega)) rfl ?_; intro f h
  refine w_pure h (ru_ix (4) Tryd.underlying82 size81 (h.ev rfl) (h.ev rfl) (by omega) (by omega)) rfl ?_; intro f h
  refine w_load_one 2 h s one81 rfl rfl (wF_get _ _ _ (by omega)) rfl ?_; intro f h
  refine w_pure h (ru_ix (5) Tryd.underlying82 size81 (h.ev rfl) (h.ev rfl) (by omega) (by omega)) rfl ?_; intro f h
  refine w_load_one 2 h s one81 rfl rfl (wF_get _ _ _ (by omega)) rfl ?_; intro f h
  refine w_pure h (ru_ix (6) Tryd.underlying82 size81 (h.ev rfl) (h.ev rfl) (by omega) (by omega)) rfl ?_; intro f h
  refine w_load_one 2 h s one81 rfl rfl (wF_get _ _ _ (by omega)) rfl ?_; intro f h
  refine w_pure h (ru_ix (7) Tryd.underlying82 size81 (h.ev rfl) (h.ev rfl) (by omega) (by omega)) rfl ?_; intro f h
  refine w_load_one 2 h s one81 rfl rfl (wF_get _ _ _ (by omega)) rfl ?_; intro f h
  refine w_pure h (ru_assign (h.ev rfl)) rfl ?_; intro f h
  refine w_pure h (ru_assign (h.ev rfl)) rfl ?_; intro f h
  refine w_pure h (ru_assign (h.ev rfl)) rfl ?_; intro f h
  refine w_pure h (ru_assign (h.ev rfl)) rfl ?_; intro f h
  refine w_pure h (ru_assign (h.ev rfl)) rfl ?_; intro f h
  refine w_pure h (ru_assign (h.ev rfl)) rfl ?_; intro f h
  refine w_pure h (ru_assign (h.ev rfl)) rfl ?_; intro f h
  refine w_pure h (ru_assign (h.ev rfl)) rfl ?_; intro f h
  refine w_nil s fun w1 s => ?_
  refine s_nil ?_
  refine hK2 _ _ ?_
  refine c_seq fun K3 hK3 => ?_
  refine c_seq fun K4 hK4 => ?_
  refine c_region ?_
  refine s_load_row 1 h s row89 rfl rfl (wF_size _ _) rfl ?_; intro f h
  refine s_pure h (ru_move (h.ev rfl)) rfl ?_; intro f h
  refine s_nil ?_
  refine hK4 _ _ ?_
  refine wpIn_block ?_
  refine wpIn_loop_ghost (fun nn aa ww => ∃ k : Nat, Sl 119 aa [(0, .agg (wF s9 8)), (1, .agg (wF ws 64)), (2, .pointer (some ⟨b2, 0, none⟩)), (3, .pointer (some ⟨b3, 0, none⟩)), (4, .pointer (some ⟨b4, 0, none⟩)), (35, .agg (wF ws 64)), (36, .int .i64 (k : Int)), (5, wv (rnds s9 ws k).a), (6, wv (rnds s9 ws k).b), (7, wv (rnds s9 ws k).c), (8, wv (rnds s9 ws k).d), (9, wv (rnds s9 ws k).e), (10, wv (rnds s9 ws k).f), (11, wv (rnds s9 ws k).g), (12, wv (rnds s9 ws k).h)] ∧ St w [.blk b4 (.cells (wF (fun _ => 0#32) 8) 82), .blk b3 (.cells ((wF ws 64)) 89), .blk b2 (.cells ((wF s9 8)) 82)] ww ∧ nn = 64 - k ∧ k ≤ 64) (64 - (0)) ⟨0, h.only ⟨rfl, rfl, rfl, rfl, rfl, rfl, slot_int rfl (by omega), rfl, rfl, rfl, rfl, rfl, rfl, rfl, rfl, trivial⟩, s.as ⟨rfl, rfl, rfl, trivial⟩, rfl, by omega⟩ ?_
  rintro _ f w1 ⟨k, h, s, hnn, hp0⟩
  refine c_seq fun K5 hK5 => ?_
  refine c_region ?_
  refine s_pure h (ru_lss (h.ev rfl) (h.ev rfl)) rfl ?_; intro f h
  refine s_nil ?_
  refine hK5 _ _ ?_
  refine c_seq fun K6 hK6 => ?_
  refine c_cond h rfl (fun hc => ?_) (fun hc => ?_)
  · replace hc := of_decide_eq_true hc
    refine wpIn_skip ?_
    refine hK6 _ _ ?_
    refine c_seq fun K7 hK7 => ?_
    refine wpIn_block ?_
    refine c_seq fun K8 hK8 => ?_
    refine c_region ?_
    refine s_pure h (ru_move (h.ev rfl)) rfl ?_; intro f h
    refine s_pure h (ru_index_arr (k) Tryd.underlying89 size81 Tryd.underlying81 (h.ev rfl) (h.ev rfl) (by omega) (by omega) (wF_get _ _ _ (by omega))) rfl ?_; intro f h
    refine s_pure h (ru_assign (h.ev rfl)) rfl ?_; intro f h
    refine s_pure h (ru_assign (h.ev rfl)) rfl ?_; intro f h
    refine s_nil ?_
    refine hK8 _ _ ?_
    refine c_seq fun K9 hK9 => ?_
    refine c_walkN 26 [[], [], [1], [], [1, 2, 3], [1, 2, 3, 4], [], [1, 2, 3, 4, 6], [1, 2, 3, 4, 5, 6, 7], [0, 1, 2, 3, 4, 5, 6, 7, 8], [], [], [10, 11], [], [13], [], [13, 14, 15], [10, 11, 12, 13, 14, 15, 16], [0, 1, 2, 3, 4, 5, 6, 7, 8, 9, 10, 11, 12, 13, 14, 15, 16, 17], [], [19], [19, 20], [0, 1, 2, 3, 4, 5, 6, 7, 8, 9, 10, 11, 12, 13, 14, 15, 16, 17, 18, 19, 20, 21], [], [0, 1, 2, 3, 4, 5, 6, 7, 8, 9, 10, 11, 12, 13, 14, 15, 16, 17, 18, 19, 20, 21, 22, 23], [0, 1, 2, 3, 4, 5, 6, 7, 8, 9, 10, 11, 12, 13, 14, 15, 16, 17, 18, 19, 20, 21, 22, 23, 24]] h (by kernel_rfl) (by kernel_rfl) (by kernel_rfl) ?_
    refine w_pure h (ru_move (h.ev rfl)) rfl ?_; intro f h
    refine w_pure h (ru_move (h.ev rfl)) rfl ?_; intro f h
    refine w_call h fnc54 (fun w9 hE9 => turned_any _ 6 (by decide) w9) rfl rfl ?_; intro f h
    refine w_pure h (ru_move (h.ev rfl)) rfl ?_; intro f h
    refine w_call h fnc54 (fun w9 hE9 => turned_any _ 11 (by decide) w9) rfl rfl ?_; intro f h
    refine w_pure h (ru_xor32 (h.ev rfl) (h.ev rfl)) rfl ?_; intro f h
    refine w_pure h (ru_move (h.ev rfl)) rfl ?_; intro f h
    refine w_call h fnc54 (fun w9 hE9 => turned_any _ 25 (by decide) w9) rfl rfl ?_; intro f h
    refine w_pure h (ru_xor32 (h.ev rfl) (h.ev rfl)) rfl ?_; intro f h
    refine w_pure h (ru_add32 (h.ev rfl) (h.ev rfl)) rfl ?_; intro f h
    refine w_pure h (ru_move (h.ev rfl)) rfl ?_; intro f h
    refine w_pure h (ru_move (h.ev rfl)) rfl ?_; intro f h
    refine w_pure h (ru_and32 (h.ev rfl) (h.ev rfl)) rfl ?_; intro f h
    refine w_pure h (ru_move (h.ev rfl)) rfl ?_; intro f h
    refine w_pure h (ru_not32 (h.ev rfl)) rfl ?_; intro f h
    refine w_pure h (ru_move (h.ev rfl)) rfl ?_; intro f h
    refine w_pure h (ru_and32 (h.ev rfl) (h.ev rfl)) rfl ?_; intro f h
    refine w_pure h (ru_xor32 (h.ev rfl) (h.ev rfl)) rfl ?_; intro f h
    refine w_pure h (ru_add32 (h.ev rfl) (h.ev rfl)) rfl ?_; intro f h
    refine w_pure h (ru_move (h.ev rfl)) rfl ?_; intro f h
    refine w_pure h (ru_ix (k) Tryd.underlying89 size81 (h.ev rfl) (h.ev rfl) (by omega) (by omega)) rfl ?_; intro f h
    refine w_load_g1 hK h s one81 rfl (wF_get _ _ _ (by omega)) rfl ?_; intro f h
    refine w_pure h (ru_add32 (h.ev rfl) (h.ev rfl)) rfl ?_; intro f h
    refine w_pure h (ru_move (h.ev rfl)) rfl ?_; intro f h
    refine w_pure h (ru_add32 (h.ev rfl) (h.ev rfl)) rfl ?_; intro f h
    refine w_pure h (ru_assign (h.ev rfl)) rfl ?_; intro f h
    refine w_nil s fun w1 s => ?_
    refine s_nil ?_
    refine hK9 _ _ ?_
    refine c_seq fun K10 hK10 => ?_
    refine c_region ?_
    refine s_pure h (ru_move (h.ev rfl)) rfl ?_; intro f h
    refine s_call h s fnc54 (turned_any _ 2 (by decide) _) rfl rfl ?_; intro f w1 v9 hT hE h s; obtain rfl := hT
    refine s_pure h (ru_move (h.ev rfl)) rfl ?_; intro f h
    refine s_call h s fnc54 (turned_any _ 13 (by decide) _) rfl rfl ?_; intro f w1 v9 hT hE h s; obtain rfl := hT
    refine s_pure h (ru_xor32 (h.ev rfl) (h.ev rfl)) rfl ?_; intro f h
    refine s_pure h (ru_move (h.ev rfl)) rfl ?_; intro f h
    refine s_call h s fnc54 (turned_any _ 22 (by decide) _) rfl rfl ?_; intro f w1 v9 hT hE h s; obtain rfl := hT
    refine s_pure h (ru_xor32 (h.ev rfl) (h.ev rfl)) rfl ?_; intro f h
    refine s_pure h (ru_move (h.ev rfl)) rfl ?_; intro f h
    refine s_pure h (ru_move (h.ev rfl)) rfl ?_; intro f h
    refine s_pure h (ru_and32 (h.ev rfl) (h.ev rfl)) rfl ?_; intro f h
    refine s_pure h (ru_move (h.ev rfl)) rfl ?_; intro f h
    refine s_pure h (ru_move (h.ev rfl)) rfl ?_; intro f h
    refine s_pure h (ru_and32 (h.ev rfl) (h.ev rfl)) rfl ?_; intro f h
    refine s_pure h (ru_xor32 (h.ev rfl) (h.ev rfl)) rfl ?_; intro f h
    refine s_pure h (ru_move (h.ev rfl)) rfl ?_; intro f h
    refine s_pure h (ru_move (h.ev rfl)) rfl ?_; intro f h
    refine s_pure h (ru_and32 (h.ev rfl) (h.ev rfl)) rfl ?_; intro f h
    refine s_pure h (ru_xor32 (h.ev rfl) (h.ev rfl)) rfl ?_; intro f h
    refine s_pure h (ru_add32 (h.ev rfl) (h.ev rfl)) rfl ?_; intro f h
    refine s_pure h (ru_assign (h.ev rfl)) rfl ?_; intro f h
    refine s_nil ?_
    refine hK10 _ _ ?_
    refine c_seq fun K11 hK11 => ?_
    refine c_region ?_
    refine s_pure h (ru_move (h.ev rfl)) rfl ?_; intro f h
    refine s_pure h (ru_move (h.ev rfl)) rfl ?_; intro f h
    refine s_pure h (ru_move (h.ev rfl)) rfl ?_; intro f h
    refine s_pure h (ru_move (h.ev rfl)) rfl ?_; intro f h
    refine s_pure h (ru_move (h.ev rfl)) rfl ?_; intro f h
    refine s_pure h (ru_add32 (h.ev rfl) (h.ev rfl)) rfl ?_; intro f h
    refine s_pure h (ru_assign (h.ev rfl)) rfl ?_; intro f h
    refine s_pure h (ru_assign (h.ev rfl)) rfl ?_; intro f h
    refine s_pure h (ru_assign (h.ev rfl)) rfl ?_; intro f h
    refine s_pure h (ru_assign (h.ev rfl)) rfl ?_; intro f h
    refine s_nil ?_
    refine hK11 _ _ ?_
    refine c_region ?_
    refine s_pure h (ru_move (h.ev rfl)) rfl ?_; intro f h
    refine s_pure h (ru_move (h.ev rfl)) rfl ?_; intro f h
    refine s_pure h (ru_move (h.ev rfl)) rfl ?_; intro f h
    refine s_pure h (ru_move (h.ev rfl)) rfl ?_; intro f h
    refine s_pure h (ru_move (h.ev rfl)) rfl ?_; intro f h
    refine s_pure h (ru_add32 (h.ev rfl) (h.ev rfl)) rfl ?_; intro f h
    refine s_pure h (ru_assign (h.ev rfl)) rfl ?_; intro f h
    refine s_pure h (ru_assign (h.ev rfl)) rfl ?_; intro f h
    refine s_pure h (ru_assign (h.ev rfl)) rfl ?_; intro f h
    refine s_pure h (ru_assign (h.ev rfl)) rfl ?_; intro f h
    refine s_nil ?_
    refine b_norm ?_
    refine hK7 _ _ ?_
    refine c_region ?_
    refine s_pure h (ru_add (h.ev rfl) (h.ev rfl) (by omega)) rfl ?_; intro f h
    refine s_pure h (ru_move (h.ev rfl)) rfl ?_; intro f h
    refine s_nil ?_
    refine t_norm ?_
    exact ⟨_, by omega, ⟨k + 1, h.only ⟨rfl, rfl, rfl, rfl, rfl, rfl, slot_int rfl (by omega), rfl, rfl, rfl, rfl, rfl, rfl, rfl, rfl, trivial⟩, St.as s ⟨rfl, rfl, rfl, trivial⟩, rfl, by omega⟩⟩
  · replace hc := of_decide_eq_false hc
    refine wpIn_exit ?_
    refine t_exit ?_
    refine t_exit ?_
    refine b_exit ?_
    refine hK3 _ _ ?_
    refine c_seq fun K12 hK12 => ?_
    refine c_seq fun K13 hK13 => ?_
    refine c_region ?_
    obtain rfl : k = 64 := by omega
    refine s_pure h (ru_move (h.ev rfl)) rfl ?_; intro f h
    refine s_pure h (ru_move (h.ev rfl)) rfl ?_; intro f h
    refine s_pure h (ru_move (h.ev rfl)) rfl ?_; intro f h
    refine s_pure h (ru_move (h.ev rfl)) rfl ?_; intro f h
    refine s_pure h (ru_move (h.ev rfl)) rfl ?_; intro f h
    refine s_pure h (ru_move (h.ev rfl)) rfl ?_; intro f h
    refine s_pure h (ru_move (h.ev rfl)) rfl ?_; intro f h
    refine s_pure h (ru_move (h.ev rfl)) rfl ?_; intro f h
    refine s_pure h (ru_val (.agg (wF (rnds s9 ws 64).at 8)) (ru_build_arr [.tmp 98, .tmp 99, .tmp 100, .tmp 101, .tmp 102, .tmp 103, .tmp 104, .tmp 105] [wv (rnds s9 ws 64).a, wv (rnds s9 ws 64).b, wv (rnds s9 ws 64).c, wv (rnds s9 ws 64).d, wv (rnds s9 ws 64).e, wv (rnds s9 ws 64).f, wv (rnds s9 ws 64).g, wv (rnds s9 ws 64).h] Tryd.underlying82 size81 ⟨_, zero82, rfl⟩ rfl (evs h rfl) (by simp [Value.cells, wv]) rfl) (rfl)) rfl ?_; intro f h
    refine s_pure h (ru_move (h.ev rfl)) rfl ?_; intro f h
    refine s_nil ?_
    refine hK13 _ _ ?_
    refine wpIn_block ?_
    refine wpIn_loop_ghost (fun nn aa ww => ∃ j : Nat, Sl 119 aa [(0, .agg (wF s9 8)), (1, .agg (wF ws 64)), (2, .pointer (some ⟨b2, 0, none⟩)), (3, .pointer (some ⟨b3, 0, none⟩)), (4, .pointer (some ⟨b4, 0, none⟩)), (106, .agg (wF (rnds s9 ws 64).at 8)), (107, .int .i64 (j : Int))] ∧ St w [.blk b4 (.cells (wF (fun _ => 0#32) 8) 82), .blk b3 (.cells ((wF ws 64)) 89), .blk b2 (.cells (wF (addF s9 (rnds s9 ws 64) j) 8) 82)] ww ∧ nn = 8 - j ∧ j ≤ 8) (8 - (0)) ⟨0, h.only ⟨rfl, rfl, rfl, rfl, rfl, rfl, slot_int rfl (by omega), trivial⟩, s.as ⟨rfl, rfl, cells_eq (addF_zero _ _), trivial⟩, rfl, by omega⟩ ?_
    rintro _ f w1 ⟨j, h, s, hnn, hp0⟩
    refine c_seq fun K14 hK14 => ?_
    refine c_region ?_
    refine s_pure h (ru_lss (h.ev rfl) (h.ev rfl)) rfl ?_; intro f h
    refine s_nil ?_
    refine hK14 _ _ ?_
    refine c_seq fun K15 hK15 => ?_
    refine c_cond h rfl (fun hc => ?_) (fun hc => ?_)
    · replace hc := of_decide_eq_true hc
      refine wpIn_skip ?_
      refine hK15 _ _ ?_
      refine c_seq fun K16 hK16 => ?_
      refine wpIn_block ?_
      refine c_seq fun K17 hK17 => ?_
      refine c_region ?_
      refine s_pure h (ru_move (h.ev rfl)) rfl ?_; intro f h
      refine s_pure h (ru_index_arr (j) Tryd.underlying82 size81 Tryd.underlying81 (h.ev rfl) (h.ev rfl) (by omega) (by omega) (wF_get _ _ _ (by omega))) rfl ?_; intro f h
      refine s_pure h (ru_assign (h.ev rfl)) rfl ?_; intro f h
      refine s_pure h (ru_assign (h.ev rfl)) rfl ?_; intro f h
      refine s_nil ?_
      refine hK17 _ _ ?_
      refine c_region ?_
      refine s_pure h (ru_move (h.ev rfl)) rfl ?_; intro f h
      refine s_pure h (ru_ix (j) Tryd.underlying82 size81 (h.ev rfl) (h.ev rfl) (by omega) (by omega)) rfl ?_; intro f h
      refine s_load_one 2 h s one81 rfl rfl (wF_get _ _ _ (by omega)) rfl ?_; intro f h
      refine s_pure h (ru_move (h.ev rfl)) rfl ?_; intro f h
      refine s_pure h (ru_add32 (h.ev rfl) (h.ev rfl)) rfl ?_; intro f h
      refine s_pure h (ru_ix (j) Tryd.underlying82 size81 (h.ev rfl) (h.ev rfl) (by omega) (by omega)) rfl ?_; intro f h
      refine s_store_one 2 h s one81 rfl rfl rfl (by simp; omega) (rfl) ?_; intro w1 s
      refine s_nil ?_
      refine b_norm ?_
      refine hK16 _ _ ?_
      refine c_region ?_
      refine s_pure h (ru_add (h.ev rfl) (h.ev rfl) (by omega)) rfl ?_; intro f h
      refine s_pure h (ru_move (h.ev rfl)) rfl ?_; intro f h
      refine s_nil ?_
      refine t_norm ?_
      exact ⟨_, by omega, ⟨j + 1, h.only ⟨rfl, rfl, rfl, rfl, rfl, rfl, slot_int rfl (by omega), trivial⟩, St.as s ⟨rfl, rfl, cells_eq (addF_next _ _ _), trivial⟩, rfl, by omega⟩⟩
    · replace hc := of_decide_eq_false hc
      refine wpIn_exit ?_
      refine t_exit ?_
      refine t_exit ?_
      refine b_exit ?_
      refine hK12 _ _ ?_
      refine c_seq fun K18 hK18 => ?_
      refine c_region ?_
      refine s_load_row 2 h s row82 rfl rfl (wF_size _ _) rfl ?_; intro f h
      refine s_store_row 0 h s row82 rfl rfl rfl (wF_size _ _) (wF_size _ _) (wF_ones _ _) ?_; intro w1 s
      refine s_nil ?_
      refine hK18 _ _ ?_
      refine wpIn_ret ?_
      exact e_row 0 rfl h s row82 rfl rfl (wF_size _ _) (by show _ = _; rw [addF_end s9 ws j (by omega)])

theorem spread_any (f9 : Nat → Nat) (w : World) : Calls Tryd.prog 44 [.agg (bytesF f9 64)].toArray w (Ret w (is (.agg (wF (spreadF f9) 64)))) := by
  refine c_enter Tryd.func44 rfl Tryd.ntmps44 rfl [(0, .agg (bytesF f9 64))] (by simp) fun f h => ?_
  have s := St.start w
  refine c_seq fun K1 hK1 => ?_
  refine c_region ?_
  refine s_box ((bytesF f9 64)) h s rfl rfl rfl ?_; intro f w1 b1 h s
  refine s_alloc (wF (fun _ => 0#32) 64) h s zero89 rfl rfl ?_; intro f w1 b2 h s
  refine s_nil ?_
  refine hK1 _ _ ?_
  refine c_seq fun K2 hK2 => ?_
  refine c_region ?_
  refine s_alloc (wF (fun _ => 0#32) 64) h s zero89 rfl rfl ?_; intro f w1 b3 h s
  refine s_nil ?_
  refine hK2 _ _ ?_
  refine c_seq fun K3 hK3 => ?_
  refine c_seq fun K4 hK4 => ?_
  refine c_region ?_
  refine s_load_row 2 h s row87 rfl rfl (bytesF_size _ _) rfl ?_; intro f h
  refine s_pure h (ru_move (h.ev rfl)) rfl ?_; intro f h
  refine s_nil ?_
  refine hK4 _ _ ?_
  refine wpIn_block ?_
  refine wpIn_loop_ghost (fun nn aa ww => ∃ k : Nat, Sl 72 aa [(0, .agg (bytesF f9 64)), (1, .pointer (some ⟨b1, 0, none⟩)), (2, .pointer (some ⟨b2, 0, none⟩)), (3, .pointer (some ⟨b3, 0, none⟩)), (11, .agg (bytesF f9 64)), (12, .int .i64 (k : Int))] ∧ St w [.blk b3 (.cells (wF (sprK f9 k) 64) 89), .blk b2 (.cells (wF (fun _ => 0#32) 64) 89), .blk b1 (.cells ((bytesF f9 64)) 87)] ww ∧ nn = 64 - k ∧ k ≤ 64) (64 - (0)) ⟨0, h.only ⟨rfl, rfl, rfl, rfl, rfl, slot_int rfl (by omega), trivial⟩, s.as ⟨cells_eq rfl, rfl, rfl, trivial⟩, rfl, by omega⟩ ?_
  rintro _ f w1 ⟨k, h, s, hnn, hp0⟩
  refine c_seq fun K5 hK5 => ?_
  refine c_region ?_
  refine s_pure h (ru_lss (h.ev rfl) (h.ev rfl)) rfl ?_; intro f h
  refine s_nil ?_
  refine hK5 _ _ ?_
  refine c_seq fun K6 hK6 => ?_
  refine c_cond h rfl (fun hc => ?_) (fun hc => ?_)
  · replace hc := of_decide_eq_true hc
    refine wpIn_skip ?_
    refine hK6 _ _ ?_
    refine c_seq fun K7 hK7 => ?_
    refine wpIn_block ?_
    refine c_seq fun K8 hK8 => ?_
    refine c_region ?_
    refine s_pure h (ru_move (h.ev rfl)) rfl ?_; intro f h
    refine s_pure h (ru_index_arr (k) Tryd.underlying87 size5 Tryd.underlying5 (h.ev rfl) (h.ev rfl) (by omega) (by omega) (bytesF_get _ _ _ (by omega))) rfl ?_; intro f h
    refine s_pure h (ru_assign (h.ev rfl)) rfl ?_; intro f h
    refine s_pure h (ru_assign (h.ev rfl)) rfl ?_; intro f h
    refine s_nil ?_
    refine hK8 _ _ ?_
    refine c_region ?_
    refine s_pure h (ru_move (h.ev rfl)) rfl ?_; intro f h
    refine s_pure h (ru_quo (h.ev rfl) (h.ev rfl) (by omega)) rfl ?_; intro f h
    refine s_pure h (ru_move (h.ev rfl)) rfl ?_; intro f h
    refine s_pure h (ru_quo (h.ev rfl) (h.ev rfl) (by omega)) rfl ?_; intro f h
    refine s_pure h (ru_ix (k / 4) Tryd.underlying89 size81 (h.ev rfl) (h.ev rfl) (by omega) (by omega)) rfl ?_; intro f h
    refine s_load_one 0 h s one81 rfl rfl (wF_get _ _ _ (by omega)) rfl ?_; intro f h
    refine s_pure h (ru_shl32 (8) (h.ev rfl) (h.ev rfl) (rfl) (by decide)) rfl ?_; intro f h
    refine s_pure h (ru_move (h.ev rfl)) rfl ?_; intro f h
    refine s_pure h (ru_conv_u32 _ Tryd.underlying5 Tryd.underlying81 (h.ev rfl)) rfl ?_; intro f h
    refine s_pure h (ru_or32 (h.ev rfl) (h.ev rfl)) rfl ?_; intro f h
    refine s_pure h (ru_ix (k / 4) Tryd.underlying89 size81 (h.ev rfl) (h.ev rfl) (by omega) (by omega)) rfl ?_; intro f h
    refine s_store_one 0 h s one81 rfl rfl rfl (by simp; omega) (rfl) ?_; intro w1 s
    refine s_nil ?_
    refine b_norm ?_
    refine hK7 _ _ ?_
    refine c_region ?_
    refine s_pure h (ru_add (h.ev rfl) (h.ev rfl) (by omega)) rfl ?_; intro f h
    refine s_pure h (ru_move (h.ev rfl)) rfl ?_; intro f h
    refine s_nil ?_
    refine t_norm ?_
    exact ⟨_, by omega, ⟨k + 1, h.only ⟨rfl, rfl, rfl, rfl, rfl, slot_int rfl (by omega), trivial⟩, St.as s ⟨cells_eq (sprK_next f9 k), rfl, rfl, trivial⟩, rfl, by omega⟩⟩
  · replace hc := of_decide_eq_false hc
    refine wpIn_exit ?_
    refine t_exit ?_
    refine t_exit ?_
    refine b_exit ?_
    refine hK3 _ _ ?_
    refine c_seq fun K9 hK9 => ?_
    refine c_seq fun K10 hK10 => ?_
    refine c_region ?_
    refine s_pure h (ru_assign (h.ev rfl)) rfl ?_; intro f h
    refine s_nil ?_
    refine hK10 _ _ ?_
    refine wpIn_block ?_
    refine wpIn_loop_ghost (fun nn aa ww => ∃ j : Nat, Sl 72 aa [(0, .agg (bytesF f9 64)), (1, .pointer (some ⟨b1, 0, none⟩)), (2, .pointer (some ⟨b2, 0, none⟩)), (3, .pointer (some ⟨b3, 0, none⟩)), (6, .int .i64 ((j + 16 : Nat) : Int))] ∧ St w [.blk b3 (.cells (wF (sprT f9 j) 64) 89), .blk b2 (.cells (wF (fun _ => 0#32) 64) 89), .blk b1 (.cells ((bytesF f9 64)) 87)] ww ∧ nn = 48 - j ∧ j ≤ 48) (48 - (0)) ⟨0, h.only ⟨rfl, rfl, rfl, rfl, slot_int rfl (by omega), trivial⟩, s.as ⟨cells_eq (by rw [show k = 64 from by omega]; rfl), rfl, rfl, trivial⟩, rfl, by omega⟩ ?_
    rintro _ f w1 ⟨j, h, s, hnn, hp0⟩
    refine c_seq fun K11 hK11 => ?_
    refine c_seq fun K12 hK12 => ?_
    refine c_region ?_
    refine s_pure h (ru_move (h.ev rfl)) rfl ?_; intro f h
    refine s_pure h (ru_lss (h.ev rfl) (h.ev rfl)) rfl ?_; intro f h
    refine s_nil ?_
    refine hK12 _ _ ?_
    refine c_cond h rfl (fun hc => ?_) (fun hc => ?_)
    · replace hc := of_decide_eq_true hc
      refine wpIn_skip ?_
      refine hK11 _ _ ?_
      refine c_seq fun K13 hK13 => ?_
      refine wpIn_block ?_
      refine c_seq fun K14 hK14 => ?_
      refine c_walkN 10 [[], [0], [0, 1], [0, 1, 2], [], [4], [4, 5], [4, 5, 6], [0, 1, 2, 3], [0, 1, 2, 3, 4, 5, 6, 7, 8]] h (by kernel_rfl) (by kernel_rfl) (by kernel_rfl) ?_
      refine w_pure h (ru_move (h.ev rfl)) rfl ?_; intro f h
      refine w_pure h (ru_sub (h.ev rfl) (h.ev rfl) (by omega)) rfl ?_; intro f h
      refine w_pure h (ru_ix (j + 1) Tryd.underlying89 size81 (h.ev rfl) (h.ev rfl) (by omega) (by omega)) rfl ?_; intro f h
      refine w_load_one 0 h s one81 rfl rfl (wF_get _ _ _ (by omega)) rfl ?_; intro f h
      refine w_pure h (ru_move (h.ev rfl)) rfl ?_; intro f h
      refine w_pure h (ru_sub (h.ev rfl) (h.ev rfl) (by omega)) rfl ?_; intro f h
      refine w_pure h (ru_ix (j + 14) Tryd.underlying89 size81 (h.ev rfl) (h.ev rfl) (by omega) (by omega)) rfl ?_; intro f h
      refine w_load_one 0 h s one81 rfl rfl (wF_get _ _ _ (by omega)) rfl ?_; intro f h
      refine w_pure h (ru_assign (h.ev rfl)) rfl ?_; intro f h
      refine w_pure h (ru_assign (h.ev rfl)) rfl ?_; intro f h
      refine w_nil s fun w1 s => ?_
      refine s_nil ?_
      refine hK14 _ _ ?_
      refine c_seq fun K15 hK15 => ?_
      refine c_region ?_
      refine s_pure h (ru_move (h.ev rfl)) rfl ?_; intro f h
      refine s_call h s fnc54 (turned_any _ 7 (by decide) _) rfl rfl ?_; intro f w1 v9 hT hE h s; obtain rfl := hT
      refine s_pure h (ru_move (h.ev rfl)) rfl ?_; intro f h
      refine s_call h s fnc54 (turned_any _ 18 (by decide) _) rfl rfl ?_; intro f w1 v9 hT hE h s; obtain rfl := hT
      refine s_pure h (ru_xor32 (h.ev rfl) (h.ev rfl)) rfl ?_; intro f h
      refine s_pure h (ru_move (h.ev rfl)) rfl ?_; intro f h
      refine s_pure h (ru_shr32 (3) (h.ev rfl) (h.ev rfl) (rfl) (by decide)) rfl ?_; intro f h
      refine s_pure h (ru_xor32 (h.ev rfl) (h.ev rfl)) rfl ?_; intro f h
      refine s_pure h (ru_assign (h.ev rfl)) rfl ?_; intro f h
      refine s_nil ?_
      refine hK15 _ _ ?_
      refine c_seq fun K16 hK16 => ?_
      refine c_region ?_
      refine s_pure h (ru_move (h.ev rfl)) rfl ?_; intro f h
      refine s_call h s fnc54 (turned_any _ 17 (by decide) _) rfl rfl ?_; intro f w1 v9 hT hE h s; obtain rfl := hT
      refine s_pure h (ru_move (h.ev rfl)) rfl ?_; intro f h
      refine s_call h s fnc54 (turned_any _ 19 (by decide) _) rfl rfl ?_; intro f w1 v9 hT hE h s; obtain rfl := hT
      refine s_pure h (ru_xor32 (h.ev rfl) (h.ev rfl)) rfl ?_; intro f h
      refine s_pure h (ru_move (h.ev rfl)) rfl ?_; intro f h
      refine s_pure h (ru_shr32 (10) (h.ev rfl) (h.ev rfl) (rfl) (by decide)) rfl ?_; intro f h
      refine s_pure h (ru_xor32 (h.ev rfl) (h.ev rfl)) rfl ?_; intro f h
      refine s_pure h (ru_assign (h.ev rfl)) rfl ?_; intro f h
      refine s_nil ?_
      refine hK16 _ _ ?_
      refine c_walkN 15 [[], [], [], [2], [2, 3], [2, 3, 4], [1, 2, 3, 4, 5], [], [1, 2, 3, 4, 5, 6, 7], [], [9], [9, 10], [9, 10, 11], [1, 2, 3, 4, 5, 6, 7, 8, 9, 10, 11, 12], [0, 1, 2, 3, 4, 5, 6, 7, 8, 9, 10, 11, 12, 13]] h (by kernel_rfl) (by kernel_rfl) (by kernel_rfl) ?_
      refine w_pure h (ru_move (h.ev rfl)) rfl ?_; intro f h
      refine w_pure h (ru_move (h.ev rfl)) rfl ?_; intro f h
      refine w_pure h (ru_move (h.ev rfl)) rfl ?_; intro f h
      refine w_pure h (ru_sub (h.ev rfl) (h.ev rfl) (by omega)) rfl ?_; intro f h
      refine w_pure h (ru_ix (j + 9) Tryd.underlying89 size81 (h.ev rfl) (h.ev rfl) (by omega) (by omega)) rfl ?_; intro f h
      refine w_load_one 0 h s one81 rfl rfl (wF_get _ _ _ (by omega)) rfl ?_; intro f h
      refine w_pure h (ru_add32 (h.ev rfl) (h.ev rfl)) rfl ?_; intro f h
      refine w_pure h (ru_move (h.ev rfl)) rfl ?_; intro f h
      refine w_pure h (ru_add32 (h.ev rfl) (h.ev rfl)) rfl ?_; intro f h
      refine w_pure h (ru_move (h.ev rfl)) rfl ?_; intro f h
      refine w_pure h (ru_sub (h.ev rfl) (h.ev rfl) (by omega)) rfl ?_; intro f h
      refine w_pure h (ru_ix (j) Tryd.underlying89 size81 (h.ev rfl) (h.ev rfl) (by omega) (by omega)) rfl ?_; intro f h
      refine w_load_one 0 h s one81 rfl rfl (wF_get _ _ _ (by omega)) rfl ?_; intro f h
      refine w_pure h (ru_add32 (h.ev rfl) (h.ev rfl)) rfl ?_; intro f h
      refine w_pure h (ru_ix (j + 16) Tryd.underlying89 size81 (h.ev rfl) (h.ev rfl) (by omega) (by omega)) rfl ?_; intro f h
      refine w_nil s fun w1 s => ?_
      refine s_store_one 0 h s one81 rfl rfl rfl (by simp; omega) (rfl) ?_; intro w1 s
      refine s_nil ?_
      refine b_norm ?_
      refine hK13 _ _ ?_
      refine c_region ?_
      refine s_pure h (ru_move (h.ev rfl)) rfl ?_; intro f h
      refine s_pure h (ru_add (h.ev rfl) (h.ev rfl) (by omega)) rfl ?_; intro f h
      refine s_pure h (ru_assign (h.ev rfl)) rfl ?_; intro f h
      refine s_nil ?_
      refine t_norm ?_
      exact ⟨_, by omega, ⟨j + 1, h.only ⟨rfl, rfl, rfl, rfl, slot_int rfl (by omega), trivial⟩, St.as s ⟨cells_eq (sprT_next f9 j), rfl, rfl, trivial⟩, rfl, by omega⟩⟩
    · replace hc := of_decide_eq_false hc
      refine wpIn_exit ?_
      refine t_exit ?_
      refine t_exit ?_
      refine b_exit ?_
      refine hK9 _ _ ?_
      refine c_seq fun K17 hK17 => ?_
      refine c_region ?_
      refine s_load_row 0 h s row89 rfl rfl (wF_size _ _) rfl ?_; intro f h
      refine s_store_row 1 h s row89 rfl rfl rfl (wF_size _ _) (wF_size _ _) (wF_ones _ _) ?_; intro w1 s
      refine s_nil ?_
      refine hK17 _ _ ?_
      refine wpIn_ret ?_
      exact e_row 1 rfl h s row89 rfl rfl (wF_size _ _) (by show _ = _; rw [show j = 48 from by omega]; rfl)

theorem written_any (s9 : Nat → W32) (w : World) : Calls Tryd.prog 45 [.agg (wF s9 8)].toArray w (Ret w (is (idV (widS s9)))) := by
  refine c_enter Tryd.func45 rfl Tryd.ntmps45 rfl [(0, .agg (wF s9 8))] (by simp) fun f h => ?_
  have s := St.start w
  refine c_seq fun K1 hK1 => ?_
  refine c_region ?_
  refine s_box ((wF s9 8)) h s rfl rfl rfl ?_; intro f w1 b1 h s
  refine s_alloc (idArr 0#256) h s zero23 rfl rfl ?_; intro f w1 b2 h s
  refine s_nil ?_
  refine hK1 _ _ ?_
  refine c_seq fun K2 hK2 => ?_
  refine c_region ?_
  refine s_alloc (idArr 0#256) h s zero23 rfl rfl ?_; intro f w1 b3 h s
  refine s_nil ?_
  refine hK2 _ _ ?_
  refine c_seq fun K3 hK3 => ?_
  refine c_seq fun K4 hK4 => ?_
  refine c_region ?_
  refine s_pure h (ru_move (h.ev rfl)) rfl ?_; intro f h
  refine s_nil ?_
  refine hK4 _ _ ?_
  refine wpIn_block ?_
  refine wpIn_loop_ghost (fun nn aa ww => ∃ k : Nat, Sl 24 aa [(0, .agg (wF s9 8)), (1, .pointer (some ⟨b1, 0, none⟩)), (2, .pointer (some ⟨b2, 0, none⟩)), (3, .pointer (some ⟨b3, 0, none⟩)), (6, .int .i64 (k : Int))] ∧ St w [.blk b3 (.cells (bytesF (wrF s9 k) 32) 23), .blk b2 (.cells (idArr 0#256) 23), .blk b1 (.cells ((wF s9 8)) 82)] ww ∧ nn = 32 - k ∧ k ≤ 32) (32 - (0)) ⟨0, h.only ⟨rfl, rfl, rfl, rfl, slot_int rfl (by omega), trivial⟩, s.as ⟨cells_eq (wrF_zero s9), rfl, rfl, trivial⟩, rfl, by omega⟩ ?_
  rintro _ f w1 ⟨k, h, s, hnn, hp0⟩
  refine c_seq fun K5 hK5 => ?_
  refine c_region ?_
  refine s_pure h (ru_lss (h.ev rfl) (h.ev rfl)) rfl ?_; intro f h
  refine s_nil ?_
  refine hK5 _ _ ?_
  refine c_seq fun K6 hK6 => ?_
  refine c_cond h rfl (fun hc => ?_) (fun hc => ?_)
  · replace hc := of_decide_eq_true hc
    refine wpIn_skip ?_
    refine hK6 _ _ ?_
    refine c_seq fun K7 hK7 => ?_
    refine wpIn_block ?_
    refine c_seq fun K8 hK8 => ?_
    refine c_region ?_
    refine s_pure h (ru_move (h.ev rfl)) rfl ?_; intro f h
    refine s_pure h (ru_assign (h.ev rfl)) rfl ?_; intro f h
    refine s_nil ?_
    refine hK8 _ _ ?_
    refine c_seq fun K9 hK9 => ?_
    refine c_region ?_
    refine s_pure h (ru_move (h.ev rfl)) rfl ?_; intro f h
    refine s_pure h (ru_rem (h.ev rfl) (h.ev rfl) (by omega)) rfl ?_; intro f h
    refine s_pure h (ru_sub (h.ev rfl) (h.ev rfl) (by omega)) rfl ?_; intro f h
    refine s_pure h (ru_assign (h.ev rfl)) rfl ?_; intro f h
    refine s_nil ?_
    refine hK9 _ _ ?_
    refine c_region ?_
    refine s_pure h (ru_move (h.ev rfl)) rfl ?_; intro f h
    refine s_pure h (ru_move (h.ev rfl)) rfl ?_; intro f h
    refine s_pure h (ru_quo (h.ev rfl) (h.ev rfl) (by omega)) rfl ?_; intro f h
    refine s_pure h (ru_ix (k / 4) Tryd.underlying82 size81 (h.ev rfl) (h.ev rfl) (by omega) (by omega)) rfl ?_; intro f h
    refine s_load_one 2 h s one81 rfl rfl (wF_get _ _ _ (by omega)) rfl ?_; intro f h
    refine s_pure h (ru_move (h.ev rfl)) rfl ?_; intro f h
    refine s_pure h (ru_mul (h.ev rfl) (h.ev rfl) (by omega)) rfl ?_; intro f h
    refine s_pure h (ru_shr32 (8 * (3 - k % 4)) (h.ev rfl) (h.ev rfl) (by omega) (by omega)) rfl ?_; intro f h
    refine s_pure h (ru_conv_w8 Tryd.underlying81 Tryd.underlying5 (h.ev rfl)) rfl ?_; intro f h
    refine s_pure h (ru_ix (k) Tryd.underlying23 size5 (h.ev rfl) (h.ev rfl) (by omega) (by omega)) rfl ?_; intro f h
    refine s_store_one 0 h s one5 rfl rfl rfl (by simp; omega) (rfl) ?_; intro w1 s
    refine s_nil ?_
    refine b_norm ?_
    refine hK7 _ _ ?_
    refine c_region ?_
    refine s_pure h (ru_add (h.ev rfl) (h.ev rfl) (by omega)) rfl ?_; intro f h
    refine s_pure h (ru_move (h.ev rfl)) rfl ?_; intro f h
    refine s_nil ?_
    refine t_norm ?_
    exact ⟨_, by omega, ⟨k + 1, h.only ⟨rfl, rfl, rfl, rfl, slot_int rfl (by omega), trivial⟩, St.as s ⟨cells_eq (wrF_next s9 k), rfl, rfl, trivial⟩, rfl, by omega⟩⟩
  · replace hc := of_decide_eq_false hc
    refine wpIn_exit ?_
    refine t_exit ?_
    refine t_exit ?_
    refine b_exit ?_
    refine hK3 _ _ ?_
    refine c_seq fun K10 hK10 => ?_
    refine c_region ?_
    refine s_load_row 0 h s row23 rfl rfl (by first | exact idArr_size _ | exact bytesF_size _ _) rfl ?_; intro f h
    refine s_store_row 1 h s row23 rfl rfl rfl (by first | exact idArr_size _ | exact bytesF_size _ _) (by first | exact idArr_size _ | exact bytesF_size _ _) (by first | exact idArr_ones _ | exact bytesF_ones _ _) ?_; intro w1 s
    refine s_nil ?_
    refine hK10 _ _ ?_
    refine wpIn_ret ?_
    exact e_row 1 rfl h s row23 rfl rfl (by first | exact idArr_size _ | exact bytesF_size _ _) (by show _ = _; rw [wrF_end s9 k (by omega)]; first | done | rfl)

theorem sized_any (c9 : Nat → Nat) (z : Nat) (hz : z < 2147483648) (w : World) : Calls Tryd.prog 53 [.agg (bytesF c9 64), .int .u64 (z : Int)].toArray w (Ret w (is (.agg (bytesF (szd c9 z) 64)))) := by
  refine c_enter Tryd.func53 rfl Tryd.ntmps53 rfl [(0, .agg (bytesF c9 64)), (1, .int .u64 (z : Int))] (by simp) fun f h => ?_
  have s := St.start w
  refine c_seq fun K1 hK1 => ?_
  refine c_region ?_
  refine s_box ((bytesF c9 64)) h s rfl rfl rfl ?_; intro f w1 b2 h s
  refine s_alloc (bytesF (fun _ => 0) 64) h s zero87 rfl rfl ?_; intro f w1 b4 h s
  refine s_nil ?_
  refine hK1 _ _ ?_
  refine c_seq fun K2 hK2 => ?_
  refine c_region ?_
  refine s_pure h (ru_move (h.ev rfl)) rfl ?_; intro f h
  refine s_pure h (ru_val (.int .u64 ((8 * z : Nat) : Int)) (ru_mulw (h.ev rfl) (h.ev rfl)) (congrArg (Value.int .u64) ((IntWalk.u64_in _ (by omega)).trans (by omega)))) rfl ?_; intro f h
  refine s_pure h (ru_assign (h.ev rfl)) rfl ?_; intro f h
  refine s_nil ?_
  refine hK2 _ _ ?_
  refine c_seq fun K3 hK3 => ?_
  refine c_seq fun K4 hK4 => ?_
  refine c_region ?_
  refine s_pure h (ru_assign (h.ev rfl)) rfl ?_; intro f h
  refine s_nil ?_
  refine hK4 _ _ ?_
  refine wpIn_block ?_
  refine wpIn_loop_ghost (fun nn aa ww => ∃ k : Nat, Sl 20 aa [(0, .agg (bytesF c9 64)), (1, .int .u64 (z : Int)), (2, .pointer (some ⟨b2, 0, none⟩)), (4, .pointer (some ⟨b4, 0, none⟩)), (6, .int .i64 (63 - (k : Int))), (5, .int .u64 ((8 * z / 256 ^ k : Nat) : Int))] ∧ St w [.blk b4 (.cells (bytesF (fun _ => 0) 64) 87), .blk b2 (.cells (bytesF (szF c9 z k) 64) 87)] ww ∧ nn = 8 - k ∧ k ≤ 8) (8 - (0)) ⟨0, h.only ⟨rfl, rfl, rfl, rfl, slot_int rfl (by omega), slot_int rfl (by simp), trivial⟩, s.as ⟨rfl, cells_eq (szF_zero c9 z), trivial⟩, rfl, by omega⟩ ?_
  rintro _ f w1 ⟨k, h, s, hnn, hp0⟩
  refine c_seq fun K5 hK5 => ?_
  refine c_seq fun K6 hK6 => ?_
  refine c_region ?_
  refine s_pure h (ru_move (h.ev rfl)) rfl ?_; intro f h
  refine s_pure h (ru_geq (h.ev rfl) (h.ev rfl)) rfl ?_; intro f h
  refine s_nil ?_
  refine hK6 _ _ ?_
  refine c_cond h rfl (fun hc => ?_) (fun hc => ?_)
  · replace hc := of_decide_eq_true hc
    refine wpIn_skip ?_
    refine hK5 _ _ ?_
    refine c_seq fun K7 hK7 => ?_
    refine wpIn_block ?_
    refine c_seq fun K8 hK8 => ?_
    refine c_region ?_
    refine s_pure h (ru_move (h.ev rfl)) rfl ?_; intro f h
    refine s_pure h (ru_move (h.ev rfl)) rfl ?_; intro f h
    refine s_pure h (ru_val (.int .u8 ((8 * z / 256 ^ k % 256 : Nat) : Int)) (ru_conv_u8 Tryd.underlying98 Tryd.underlying5 (h.ev rfl)) (congrArg (Value.int .u8) (by simp))) rfl ?_; intro f h
    refine s_pure h (ru_ix (63 - k) Tryd.underlying87 size5 (h.ev rfl) (h.ev rfl) (by omega) (by omega)) rfl ?_; intro f h
    refine s_store_one 1 h s one5 rfl rfl rfl (by simp; omega) (rfl) ?_; intro w1 s
    refine s_nil ?_
    refine hK8 _ _ ?_
    refine c_region ?_
    refine s_pure h (ru_move (h.ev rfl)) rfl ?_; intro f h
    refine s_pure h (ru_val (.int .u64 ((8 * z / 256 ^ (k + 1) : Nat) : Int)) (ru_shr (h.ev rfl) (h.ev rfl) (by omega)) (congrArg (Value.int .u64) (sz_shr z k))) rfl ?_; intro f h
    refine s_pure h (ru_assign (h.ev rfl)) rfl ?_; intro f h
    refine s_nil ?_
    refine b_norm ?_
    refine hK7 _ _ ?_
    refine c_region ?_
    refine s_pure h (ru_move (h.ev rfl)) rfl ?_; intro f h
    refine s_pure h (ru_sub (h.ev rfl) (h.ev rfl) (by omega)) rfl ?_; intro f h
    refine s_pure h (ru_assign (h.ev rfl)) rfl ?_; intro f h
    refine s_nil ?_
    refine t_norm ?_
    exact ⟨_, by omega, ⟨k + 1, h.only ⟨rfl, rfl, rfl, rfl, slot_int rfl (by omega), rfl, trivial⟩, St.as s ⟨rfl, cells_eq (szF_next c9 z k (by omega)), trivial⟩, rfl, by omega⟩⟩
  · replace hc := of_decide_eq_false hc
    refine wpIn_exit ?_
    refine t_exit ?_
    refine t_exit ?_
    refine b_exit ?_
    refine hK3 _ _ ?_
    refine c_seq fun K9 hK9 => ?_
    refine c_region ?_
    refine s_load_row 1 h s row87 rfl rfl (bytesF_size _ _) rfl ?_; intro f h
    refine s_store_row 0 h s row87 rfl rfl rfl (bytesF_size _ _) (bytesF_size _ _) (bytesF_ones _ _) ?_; intro w1 s
    refine s_nil ?_
    refine hK9 _ _ ?_
    refine wpIn_ret ?_
    exact e_row 0 rfl h s row87 rfl rfl (bytesF_size _ _) (by show _ = _; rw [szF_end c9 z k (by omega)])

theorem iter_any (sx : ByteArray) (ps : List ByteArray) (hcat : catB ps = sx) (hsz : sx.size < 2147483648) (hln : ps.length < 2147483648) (v9 : Value) (lp bx : Nat) (G : Nat → Own) (w0 w : World) (s : St w0 [.blk bx (.cells #[v9] 80), G 0] w) (hR : Rd w0 v9 ps.length (ps.map Value.string)) (hY : ∀ (d : Nat) (B9 : List Own) (w9 : World) (i : Nat), d < nbk sx → St w0 B9 w9 → B9[i]? = some (G d) → Yields Tryd.prog lp [Value.agg (bytesF (blkF sx d) 64)].toArray w9 (fun v w2 => v = .bool true ∧ St w0 (B9.set i (G (d + 1))) w2)) : Calls Tryd.prog 52 [.func (.yield lp) #[] #[], .pointer (some ⟨bx, 0, none⟩)].toArray w (fun e w9 => (∃ v, e = .returned v) ∧ St w0 [.blk bx (.cells #[v9] 80), G (nbk sx)] w9) := by
  have htot := pre_all ps
  rw [hcat] at htot
  refine c_enterF Tryd.func52 rfl Tryd.ntmps52 rfl [(0, .func (.yield lp) #[] #[]), (1, .pointer (some ⟨bx, 0, none⟩))] (by simp) fun f h => ?_
  refine c_seq fun K1 hK1 => ?_
  refine c_region ?_
  refine s_alloc (bytesF (fun _ => 0) 64) h s zero87 rfl rfl ?_; intro f w1 b3 h s
  refine s_nil ?_
  refine hK1 _ _ ?_
  refine c_seq fun K2 hK2 => ?_
  refine c_region ?_
  refine s_pure h (ru_assign (h.ev rfl)) rfl ?_; intro f h
  refine s_pure h (ru_assign (h.ev rfl)) rfl ?_; intro f h
  refine s_nil ?_
  refine hK2 _ _ ?_
  refine c_seq fun K3 hK3 => ?_
  refine c_seq fun K4 hK4 => ?_
  refine c_region ?_
  refine s_load_one 1 h s one80 rfl rfl (rfl) rfl ?_; intro f h
  refine s_pure h (ru_lenR hR Tryd.underlying80 (h.ev rfl)) rfl ?_; intro f h
  refine s_pure h (ru_move (h.ev rfl)) rfl ?_; intro f h
  refine s_nil ?_
  refine hK4 _ _ ?_
  refine wpIn_block ?_
  refine wpIn_loop_ghost (fun nn aa ww => ∃ p : Nat, ∃ d : Nat, ∃ fl : Nat, ∃ c : Nat → Nat, Sl 57 aa [(0, .func (.yield lp) #[] #[]), (1, .pointer (some ⟨bx, 0, none⟩)), (3, .pointer (some ⟨b3, 0, none⟩)), (4, .int .i64 (fl : Int)), (5, .int .u64 (pre ps p : Int)), (9, v9), (10, .int .i64 (ps.length : Int)), (11, .int .i64 (p : Int))] ∧ St w0 [.blk b3 (.cells (bytesF c 64) 87), .blk bx (.cells (#[v9]) 80), (G d)] ww ∧ nn = ps.length - p ∧ p ≤ ps.length ∧ fl < 64 ∧ 64 * d + fl = pre ps p ∧ ∀ i, i < fl → c i = sb sx (64 * d + i)) (ps.length - (0)) ⟨0, 0, 0, fun _ => 0, h.only ⟨rfl, rfl, rfl, slot_int rfl (by omega), slot_int rfl (by rw [pre_zero']; rfl), rfl, rfl, slot_int rfl (by omega), trivial⟩, s.as ⟨rfl, rfl, rfl, trivial⟩, rfl, Nat.zero_le _, by omega, by rw [pre_zero'], fun i hi => absurd hi (Nat.not_lt_zero _)⟩ ?_
  rintro _ f w1 ⟨p, d, fl, c, h, s, hnn, hp0, hp1, hp2, hp3⟩
  refine c_seq fun K5 hK5 => ?_
  refine c_region ?_
  refine s_pure h (ru_lss (h.ev rfl) (h.ev rfl)) rfl ?_; intro f h
  refine s_nil ?_
  refine hK5 _ _ ?_
  refine c_seq fun K6 hK6 => ?_
  refine c_cond h rfl (fun hc => ?_) (fun hc => ?_)
  · replace hc := of_decide_eq_true hc
    refine wpIn_skip ?_
    refine hK6 _ _ ?_
    refine c_seq fun K7 hK7 => ?_
    refine wpIn_block ?_
    refine c_seq fun K8 hK8 => ?_
    refine c_region ?_
    have hpn := pre_next' ps p (by omega)
    have hpl := pre_le ps p (by omega)
    rw [hcat] at hpl
    refine s_pure h (ru_ixs hR (p) Tryd.underlying80 size9 (h.ev rfl) (h.ev rfl) (by omega) (by omega)) rfl ?_; intro f h
    refine s_load_ext (V := .string (pt ps p)) hR h s one9 rfl (rd_map ps p (by omega)) rfl ?_; intro f h
    refine s_pure h (ru_assign (h.ev rfl)) rfl ?_; intro f h
    refine s_nil ?_
    refine hK8 _ _ ?_
    refine c_seq fun K9 hK9 => ?_
    refine c_region ?_
    refine s_pure h (ru_move (h.ev rfl)) rfl ?_; intro f h
    refine s_pure h (ru_move (h.ev rfl)) rfl ?_; intro f h
    refine s_pure h (ru_len_str Tryd.underlying9 (h.ev rfl)) rfl ?_; intro f h
    refine s_pure h (ru_conv_in Tryd.underlying3 Tryd.underlying98 (h.ev rfl) (IntWalk.u64_in _ (by omega))) rfl ?_; intro f h
    refine s_pure h (ru_val (.int .u64 (pre ps (p + 1) : Int)) (ru_addw (h.ev rfl) (h.ev rfl)) (congrArg (Value.int .u64) ((IntWalk.u64_in _ (by omega)).trans (by omega)))) rfl ?_; intro f h
    refine s_pure h (ru_assign (h.ev rfl)) rfl ?_; intro f h
    refine s_nil ?_
    refine hK9 _ _ ?_
    refine wpIn_block ?_
    refine wpIn_loop_ghost (fun nn aa ww => ∃ q : Nat, ∃ d1 : Nat, ∃ f1 : Nat, ∃ c1 : Nat → Nat, Sl 57 aa [(0, .func (.yield lp) #[] #[]), (1, .pointer (some ⟨bx, 0, none⟩)), (3, .pointer (some ⟨b3, 0, none⟩)), (4, .int .i64 (f1 : Int)), (5, .int .u64 (pre ps (p + 1) : Int)), (7, .string ((pt ps p).extract q (pt ps p).size)), (9, v9), (10, .int .i64 (ps.length : Int)), (11, .int .i64 (p : Int))] ∧ St w0 [.blk b3 (.cells (bytesF c1 64) 87), .blk bx (.cells (#[v9]) 80), (G d1)] ww ∧ nn = (pt ps p).size - q ∧ q ≤ (pt ps p).size ∧ f1 < 64 ∧ 64 * d1 + f1 = pre ps p + q ∧ ∀ i, i < f1 → c1 i = sb sx (64 * d1 + i)) ((pt ps p).size - (0)) ⟨0, d, fl, c, h.only ⟨rfl, rfl, rfl, slot_int rfl (by omega), rfl, slot_as rfl (congrArg Value.string (ext_all _)), rfl, rfl, rfl, trivial⟩, s.as ⟨rfl, rfl, rfl, trivial⟩, rfl, Nat.zero_le _, by omega, by omega, hp3⟩ ?_
    rintro _ f w1 ⟨q, d1, f1, c1, h, s, hnn, hp0, hp1, hp2, hp3⟩
    obtain ⟨n1, hn1⟩ : ∃ n1, n1 = min ((pt ps p).size - q) (64 - f1) := ⟨_, rfl⟩
    refine c_seq fun K10 hK10 => ?_
    refine c_seq fun K11 hK11 => ?_
    refine c_region ?_
    refine s_pure h (ru_move (h.ev rfl)) rfl ?_; intro f h
    refine s_pure h (ru_val (.int .i64 (((pt ps p).size - q : Nat) : Int)) (ru_len_str Tryd.underlying9 (h.ev rfl)) (by rw [ext_size _ _ (by omega)])) rfl ?_; intro f h
    refine s_pure h (ru_gtr (h.ev rfl) (h.ev rfl)) rfl ?_; intro f h
    refine s_nil ?_
    refine hK11 _ _ ?_
    refine c_cond h rfl (fun hc => ?_) (fun hc => ?_)
    · replace hc := of_decide_eq_true hc
      refine wpIn_skip ?_
      refine hK10 _ _ ?_
      refine wpIn_block ?_
      refine c_seq fun K12 hK12 => ?_
      refine c_region ?_
      refine s_pure h (ru_move (h.ev rfl)) rfl ?_; intro f h
      refine s_pure h (ru_val (.slice (some ⟨b3, f1, none⟩) (64 - f1) (64 - f1)) (ru_slice_arr_lo (f1) Tryd.underlying87 size5 (h.ev rfl) (h.ev rfl) (by omega) (by omega)) (by rw [if_neg (by omega)])) rfl ?_; intro f h
      refine s_pure h (ru_move (h.ev rfl)) rfl ?_; intro f h
      refine s_copy_str 0 (n1) h s Tryd.underlying61 size5 rfl rfl rfl (by rw [ext_size _ _ (by omega)]; exact hn1) (by omega) rfl ?_; intro f w1 h s
      refine s_pure h (ru_assign (h.ev rfl)) rfl ?_; intro f h
      refine s_nil ?_
      refine hK12 _ _ ?_
      refine c_seq fun K13 hK13 => ?_
      refine c_region ?_
      refine s_pure h (ru_move (h.ev rfl)) rfl ?_; intro f h
      refine s_pure h (ru_move (h.ev rfl)) rfl ?_; intro f h
      refine s_pure h (ru_slice_str_lo (n1) Tryd.underlying9 (h.ev rfl) (h.ev rfl) (by omega) (by rw [ext_size _ _ (by omega)]; omega)) rfl ?_; intro f h
      refine s_pure h (ru_move (h.ev rfl)) rfl ?_; intro f h
      refine s_pure h (ru_move (h.ev rfl)) rfl ?_; intro f h
      refine s_pure h (ru_add (h.ev rfl) (h.ev rfl) (by omega)) rfl ?_; intro f h
      refine s_pure h (ru_assign (h.ev rfl)) rfl ?_; intro f h
      refine s_pure h (ru_assign (h.ev rfl)) rfl ?_; intro f h
      refine s_nil ?_
      refine hK13 _ _ ?_
      refine c_seq fun K14 hK14 => ?_
      refine c_seq fun K15 hK15 => ?_
      refine c_region ?_
      refine s_pure h (ru_move (h.ev rfl)) rfl ?_; intro f h
      refine s_pure h (ru_lss (h.ev rfl) (h.ev rfl)) rfl ?_; intro f h
      refine s_nil ?_
      refine hK15 _ _ ?_
      refine c_cond h rfl (fun hc => ?_) (fun hc => ?_)
      · replace hc := of_decide_eq_true hc
        refine wpIn_exit ?_
        refine t_exit ?_
        refine b_exit ?_
        refine t_norm ?_
        exact ⟨_, by omega, ⟨q + n1, d1, f1 + n1, _, h.only ⟨rfl, rfl, rfl, slot_int rfl (by omega), rfl, slot_as rfl (congrArg Value.string (ext_ext _ _ _ (by omega))), rfl, rfl, rfl, trivial⟩, St.as s ⟨rfl, rfl, rfl, trivial⟩, rfl, by omega, by omega, by omega, it_copy sx ps hcat p q d1 f1 n1 c1 (by omega) (by omega) hp2 hp3⟩⟩
      · replace hc := of_decide_eq_false hc
        refine wpIn_skip ?_
        refine hK14 _ _ ?_
        refine c_seq fun K16 hK16 => ?_
        refine c_seq fun K17 hK17 => ?_
        refine c_region ?_
        refine s_pure h (ru_move (h.ev rfl)) rfl ?_; intro f h
        refine s_load_row 0 h s row87 rfl rfl (bytesF_size _ _) rfl ?_; intro f h
        refine s_yield [.agg (bytesF (cpF c1 f1 ((pt ps p).extract q (pt ps p).size) n1) 64)] h rfl rfl (yield_eq (hY (d1) _ _ 2 (by have hb9 := nbk_le sx; omega) s rfl) (congrArg (fun x => [Value.agg x]) (it_full sx d1 _ (by omega) (fun i hi => it_copy sx ps hcat p q d1 f1 n1 c1 (by omega) (by omega) hp2 hp3 i (by omega))))) rfl ?_; intro f w1 h s
        refine s_pure h (ru_val (.bool false) (ru_not (h.ev rfl)) rfl) rfl ?_; intro f h
        refine s_nil ?_
        refine hK17 _ _ ?_
        refine wpIn_cond_false (h.ev rfl) ?_
        refine wpIn_skip ?_
        refine hK16 _ _ ?_
        refine c_region ?_
        refine s_pure h (ru_assign (h.ev rfl)) rfl ?_; intro f h
        refine s_nil ?_
        refine b_norm ?_
        refine t_norm ?_
        exact ⟨_, by omega, ⟨q + n1, d1 + 1, 0, _, h.only ⟨rfl, rfl, rfl, slot_int rfl (by omega), rfl, slot_as rfl (congrArg Value.string (ext_ext _ _ _ (by omega))), rfl, rfl, rfl, trivial⟩, St.as s ⟨rfl, rfl, rfl, trivial⟩, rfl, by omega, by omega, by omega, fun i hi => absurd hi (Nat.not_lt_zero _)⟩⟩
    · replace hc := of_decide_eq_false hc
      refine wpIn_exit ?_
      refine t_exit ?_
      refine t_exit ?_
      refine b_exit ?_
      refine b_norm ?_
      refine hK7 _ _ ?_
      refine c_region ?_
      refine s_pure h (ru_add (h.ev rfl) (h.ev rfl) (by omega)) rfl ?_; intro f h
      refine s_pure h (ru_move (h.ev rfl)) rfl ?_; intro f h
      refine s_nil ?_
      refine t_norm ?_
      exact ⟨_, by omega, ⟨p + 1, d1, f1, c1, h.only ⟨rfl, rfl, rfl, slot_int rfl (by omega), slot_int rfl rfl, rfl, rfl, slot_int rfl (by omega), trivial⟩, St.as s ⟨rfl, rfl, rfl, trivial⟩, rfl, by omega, by omega, by omega, hp3⟩⟩
  · replace hc := of_decide_eq_false hc
    refine wpIn_exit ?_
    refine t_exit ?_
    refine t_exit ?_
    refine b_exit ?_
    refine hK3 _ _ ?_
    refine c_seq fun K18 hK18 => ?_
    refine c_region ?_
    obtain rfl : p = ps.length := by omega
    have hsx : sx.size = 64 * d + fl := by omega
    refine s_pure h (ru_move (h.ev rfl)) rfl ?_; intro f h
    refine s_pure h (ru_ix (fl) Tryd.underlying87 size5 (h.ev rfl) (h.ev rfl) (by omega) (by omega)) rfl ?_; intro f h
    refine s_store_one 0 h s one5 rfl rfl rfl (by simp; omega) (rfl) ?_; intro w1 s
    have s := s.as (B' := [.blk b3 (.cells (bytesF (fun i => if i = fl then 128 else c i) 64) 87), .blk bx (.cells #[v9] 80), G d]) ⟨cells_eq (bytesF_set _ _ _ 128), rfl, rfl, trivial⟩
    refine s_nil ?_
    refine hK18 _ _ ?_
    refine c_seq fun K19 hK19 => ?_
    refine c_region ?_
    refine s_pure h (ru_move (h.ev rfl)) rfl ?_; intro f h
    refine s_pure h (ru_add (h.ev rfl) (h.ev rfl) (by omega)) rfl ?_; intro f h
    refine s_pure h (ru_slice_arr_lo (fl + 1) Tryd.underlying87 size5 (h.ev rfl) (h.ev rfl) (by omega) (by omega)) rfl ?_; intro f h
    refine s_clear 0 h s Tryd.underlying61 zcell5 rfl rfl (by split <;> omega) ?_; intro w1 s
    have s := s.as (B' := [.blk b3 (.cells (bytesF (enF c fl) 64) 87), .blk bx (.cells #[v9] 80), G d]) ⟨cells_eq (it_end c fl (by omega)), rfl, rfl, trivial⟩
    refine s_nil ?_
    refine hK19 _ _ ?_
    refine c_seq fun K20 hK20 => ?_
    refine c_seq fun K21 hK21 => ?_
    refine c_region ?_
    refine s_pure h (ru_move (h.ev rfl)) rfl ?_; intro f h
    refine s_pure h (ru_geq (h.ev rfl) (h.ev rfl)) rfl ?_; intro f h
    refine s_nil ?_
    refine hK21 _ _ ?_
    refine c_cond h rfl (fun hc => ?_) (fun hc => ?_)
    · replace hc := of_decide_eq_true hc
      refine c_seq fun K22 hK22 => ?_
      refine c_seq fun K23 hK23 => ?_
      refine c_region ?_
      refine s_pure h (ru_move (h.ev rfl)) rfl ?_; intro f h
      refine s_load_row 0 h s row87 rfl rfl (bytesF_size _ _) rfl ?_; intro f h
      refine s_yield [.agg (bytesF (enF c fl) 64)] h rfl rfl (yield_eq (hY (d) _ _ 2 (by have hb9 := nbk_le sx; omega) s rfl) (congrArg (fun x => [Value.agg x]) (it_last1 sx d fl c (by omega) (by omega) (by omega) hp3))) rfl ?_; intro f w1 h s
      refine s_pure h (ru_val (.bool false) (ru_not (h.ev rfl)) rfl) rfl ?_; intro f h
      refine s_nil ?_
      refine hK23 _ _ ?_
      refine wpIn_cond_false (h.ev rfl) ?_
      refine wpIn_skip ?_
      refine hK22 _ _ ?_
      refine c_region ?_
      refine s_pure h (ru_build_none Tryd.underlying87 size5 zero87) rfl ?_; intro f h
      refine s_store_row 0 h s row87 rfl rfl rfl (bytesF_size _ _) (bytesF_size _ _) (bytesF_ones _ _) ?_; intro w1 s
      refine s_nil ?_
      refine hK20 _ _ ?_
      refine c_region ?_
      refine s_pure h (ru_move (h.ev rfl)) rfl ?_; intro f h
      refine s_load_row 0 h s row87 rfl rfl (bytesF_size _ _) rfl ?_; intro f h
      refine s_pure h (ru_val (.int .u64 (sx.size : Int)) (ru_move (h.ev rfl)) (congrArg (fun (x : Nat) => Value.int .u64 (x : Int)) htot)) rfl ?_; intro f h
      refine s_call h s fnc53 (sized_any _ _ (by omega) _) rfl rfl ?_; intro f w1 v9 hT hE h s; obtain rfl := hT
      refine s_yield [.agg (bytesF (szd (fun _ => 0) sx.size) 64)] h rfl rfl (yield_eq (hY (d + 1) _ _ 2 (by have hb9 := nbk_le sx; omega) s rfl) (congrArg (fun x => [Value.agg x]) (it_last2 sx d fl (by omega) (by omega) (by omega)))) rfl ?_; intro f w1 h s
      refine s_nil ?_
      exact e_noneF_end rfl h (⟨⟨_, rfl⟩, by rw [nbk_two sx d fl (by omega) (by omega) (by omega)]; exact s.pick _ (List.sublist_append_right [_] _)⟩)
    · replace hc := of_decide_eq_false hc
      refine wpIn_skip ?_
      refine hK20 _ _ ?_
      refine c_region ?_
      refine s_pure h (ru_move (h.ev rfl)) rfl ?_; intro f h
      refine s_load_row 0 h s row87 rfl rfl (bytesF_size _ _) rfl ?_; intro f h
      refine s_pure h (ru_val (.int .u64 (sx.size : Int)) (ru_move (h.ev rfl)) (congrArg (fun (x : Nat) => Value.int .u64 (x : Int)) htot)) rfl ?_; intro f h
      refine s_call h s fnc53 (sized_any _ _ (by omega) _) rfl rfl ?_; intro f w1 v9 hT hE h s; obtain rfl := hT
      refine s_yield [.agg (bytesF (szd (enF c fl) sx.size) 64)] h rfl rfl (yield_eq (hY (d) _ _ 2 (by have hb9 := nbk_le sx; omega) s rfl) (congrArg (fun x => [Value.agg x]) (it_last sx d fl c (by omega) (by omega) hp3))) rfl ?_; intro f w1 h s
      refine s_nil ?_
      exact e_noneF_end rfl h (⟨⟨_, rfl⟩, by rw [nbk_one sx d fl (by omega) (by omega)]; exact s.pick _ (List.sublist_append_right [_] _)⟩)

theorem blocksf_any (a9 : Option Addr) (n9 c9 : Nat) (B9 : List Own) (w0 w : World) (s : St w0 B9 w) : Calls Tryd.prog 42 [.slice a9 n9 c9].toArray w (fun e w9 => ∃ r, e = .returned r ∧ ∃ bx, r = .func (.func 52) #[] #[.pointer (some ⟨bx, 0, none⟩)] ∧ St w0 (.blk bx (.cells #[.slice a9 n9 c9] 80) :: B9) w9) := by
  refine c_enterF Tryd.func42 rfl Tryd.ntmps42 rfl [(0, .slice a9 n9 c9)] (by simp) fun f h => ?_
  refine c_seq fun K1 hK1 => ?_
  refine c_region ?_
  refine s_box (#[.slice a9 n9 c9]) h s rfl rfl rfl ?_; intro f w1 b1 h s
  refine s_pure h (ru_assign (h.ev rfl)) rfl ?_; intro f h
  refine s_nil ?_
  refine hK1 _ _ ?_
  refine c_seq fun K2 hK2 => ?_
  refine c_region ?_
  refine s_pure h (ru_makeFunc [.pointer (some ⟨b1, 0, none⟩)] (evsA h rfl)) rfl ?_; intro f h
  refine s_pure h (ru_assign (h.ev rfl)) rfl ?_; intro f h
  refine s_nil ?_
  refine hK2 _ _ ?_
  refine wpIn_ret ?_
  exact e_tmpF rfl h rfl (⟨_, rfl, b1, rfl, s⟩)

theorem sum_any (sx : ByteArray) (ps : List ByteArray) (hcat : catB ps = sx) (hsz : sx.size < 2147483648) (hln : ps.length < 2147483648) (a9 : Option Addr) (n9 c9 : Nat) (w : World) (hR : Rd w (.slice a9 n9 c9) ps.length (ps.map Value.string)) (hH : Tab w 0 (wF hTab 8)) (hK : Tab w 1 (wF kTab 64)) : Calls Tryd.prog 24 [.slice a9 n9 c9].toArray w (Ret w (is (idV (sumB sx)))) := by
  refine c_enterM Tryd.func24 rfl Tryd.ntmps24 rfl [(0, .slice a9 n9 c9)] (by simp) fun f h => ?_
  have s := St.start w
  refine c_seq fun K1 hK1 => ?_
  refine c_region ?_
  refine s_alloc (idArr 0#256) h s zero23 rfl rfl ?_; intro f w1 b2 h s
  refine s_nil ?_
  refine hK1 _ _ ?_
  refine c_seq fun K2 hK2 => ?_
  refine c_region ?_
  refine s_load_g hH h s row82 rfl (wF_size _ _) rfl ?_; intro f h
  refine s_alloc (wF (fun _ => 0#32) 8) h s zero82 rfl rfl ?_; intro f w1 b3 h s
  refine s_store_row 0 h s row82 rfl rfl rfl (wF_size _ _) (wF_size _ _) (wF_ones _ _) ?_; intro w1 s
  refine s_nil ?_
  refine hK2 _ _ ?_
  refine c_seq fun K3 hK3 => ?_
  refine c_seq fun K4 hK4 => ?_
  refine c_region ?_
  refine s_pure h (ru_move (h.ev rfl)) rfl ?_; intro f h
  refine s_callS [.slice a9 n9 c9] h fnc42 (blocksf_any a9 n9 c9 _ _ _ s) rfl rfl ?_; rintro f w1 r ⟨bx, rfl, s⟩ h
  refine s_nil ?_
  refine hK4 _ _ ?_
  refine wpIn_block ?_
  refine c_rangeJ (fun d => [.blk b3 (.cells (wF (Hs sx d) 8) 82), .blk b2 (.cells (idArr 0#256) 23)]) ([.blk bx (.cells #[.slice a9 n9 c9] 80)]) (nbk sx) (fun d => [Value.agg (bytesF (blkF sx d) 64)]) h s rfl fnc52 (List.Perm.refl _) (fun _ => rfl) (fun _ => rfl) ?_ ?_ ?_
  · intro lp w2 G s2 hY; exact iter_any sx ps hcat hsz hln _ lp bx G w w2 s2 hR hY
  · intro lp D9 d9 rc R9 w2 hd9 s
    have h := Sl.round1 (p := 8) (V := .agg (bytesF (blkF sx d9) 64)) h rfl
    refine c_region ?_
    refine s_alloc (bytesF (fun _ => 0) 64) h s zero87 rfl rfl ?_; intro f w1 b4 h s
    refine s_store_row 0 h s row87 rfl rfl rfl (bytesF_size _ _) (bytesF_size _ _) (bytesF_ones _ _) ?_; intro w1 s
    refine s_nil ?_
    refine t_norm ?_
    refine ⟨_, s.perm (List.perm_middle (l₁ := [_])), fun w3 s => ?_⟩
    refine wpIn_block ?_
    refine c_walkN 4 [[], [], [1], [0, 1, 2]] h (by kernel_rfl) (by kernel_rfl) (by kernel_rfl) ?_
    refine w_load_row 3 h s row82 rfl rfl (wF_size _ _) rfl ?_; intro f h
    refine w_load_row 1 h s row87 rfl rfl (bytesF_size _ _) rfl ?_; intro f h
    refine w_call h fnc44 (fun w9 hE9 => spread_any _ w9) rfl rfl ?_; intro f h
    refine w_call h fnc43 (fun w9 hE9 => stir_any _ _ w9 (hK.keep (s.ext.trans hE9))) rfl rfl ?_; intro f h
    refine w_nil s fun w1 s => ?_
    refine s_store_row 3 h s row82 rfl rfl rfl (wF_size _ _) (wF_size _ _) (wF_ones _ _) ?_; intro w1 s
    refine s_nil ?_
    refine b_norm ?_
    refine ⟨rfl, s.pick _ ?_⟩
    exact List.Sublist.cons_cons _ (List.Sublist.cons _ (List.Sublist.refl _))
  · intro D9 w2 s
    replace h : Sl _ { f with defers := { target := .collected D9, args := #[] } :: f.defers } _ [{ target := .collected D9, args := #[] }] := ⟨h.size, by rw [h.defers], h.holds⟩
    refine b_norm ?_
    refine hK3 _ _ ?_
    refine c_seq fun K5 hK5 => ?_
    refine c_region ?_
    refine s_load_row 2 h s row82 rfl rfl (wF_size _ _) rfl ?_; intro f h
    refine s_call h s fnc45 (written_any _ _) rfl rfl ?_; intro f w1 v9 hT hE h s; obtain rfl := hT
    refine s_store_row 3 h s row23 rfl rfl rfl (by first | exact idArr_size _ | exact bytesF_size _ _) (by first | exact idArr_size _ | exact bytesF_size _ _) (by first | exact idArr_ones _ | exact bytesF_ones _ _) ?_; intro w1 s
    refine s_nil ?_
    refine hK5 _ _ ?_
    refine wpIn_ret ?_
    exact e_row_M 3 0 rfl h s row23 rfl rfl rfl rfl (by first | exact idArr_size _ | exact bytesF_size _ _) (fun w9 => rfl)

theorem sum_rd (sx : ByteArray) (ps : List ByteArray) (hcat : catB ps = sx) (hsz : sx.size < 2147483648) (hln : ps.length < 2147483648) (v9 : Value) (w : World) (hR : Rd w v9 ps.length (ps.map Value.string)) (hH : Tab w 0 (wF hTab 8)) (hK : Tab w 1 (wF kTab 64)) :
    Calls Tryd.prog 24 [v9].toArray w (Ret w (is (idV (sumB sx)))) := by
  obtain ⟨a, c, rfl⟩ := hR.len
  exact sum_any sx ps hcat hsz hln a _ c w hR hH hK
end Go.Proofs.YtcnnlakcpcofkaaDoor
