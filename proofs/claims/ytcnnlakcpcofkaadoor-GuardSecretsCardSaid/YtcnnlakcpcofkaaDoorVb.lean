/- The reference of layer 2: its sum is the same sum. -/
import Derived.Test.YtcnnlakcpcofkaaDoorVa
set_option linter.unusedVariables false
set_option linter.unusedSimpArgs false
set_option linter.unusedSectionVars false
namespace Go.Proofs.YtcnnlakcpcofkaaDoor
open Go.RowKit
theorem turn_any (x : W32) (n : Nat) (hn : n ≤ 31) (w : World) : Calls Tryd.prog 55 [wv x, .int .i64 (n : Int)].toArray w (Ret w (is (wv (trn x n)))) := by
  refine c_enter Tryd.func55 rfl Tryd.ntmps55 rfl [(0, wv x), (1, .int .i64 (n : Int))] (by simp) fun f h => ?_
  have s := St.start w
  refine c_seq fun K1 hK1 => ?_
  refine c_region ?_
  refine s_pure h (ru_assign (h.ev rfl)) rfl ?_; intro f h
  refine s_nil ?_
  refine hK1 _ _ ?_
  refine c_seq fun K2 hK2 => ?_
  refine c_seq fun K3 hK3 => ?_
  refine c_region ?_
  refine s_pure h (ru_assign (h.ev rfl)) rfl ?_; intro f h
  refine s_nil ?_
  refine hK3 _ _ ?_
  refine wpIn_block ?_
  refine wpIn_loop_ghost (fun nn aa ww => ∃ k : Nat, Sl 18 aa [(1, .int .i64 (n : Int)), (0, wv (trn x k)), (5, .int .i64 (k : Int))] ∧ St w [] ww ∧ nn = n - k ∧ k ≤ n) (n - (0)) ⟨0, h.only ⟨rfl, rfl, slot_int rfl (by omega), trivial⟩, s.as trivial, rfl, Nat.zero_le _⟩ ?_
  rintro _ f w1 ⟨k, h, s, hnn, hp0⟩
  refine c_seq fun K4 hK4 => ?_
  refine c_seq fun K5 hK5 => ?_
  refine c_region ?_
  refine s_pure h (ru_move (h.ev rfl)) rfl ?_; intro f h
  refine s_pure h (ru_move (h.ev rfl)) rfl ?_; intro f h
  refine s_pure h (ru_lss (h.ev rfl) (h.ev rfl)) rfl ?_; intro f h
  refine s_nil ?_
  refine hK5 _ _ ?_
  refine c_cond h rfl (fun hc => ?_) (fun hc => ?_)
  · replace hc := of_decide_eq_true hc
    refine wpIn_skip ?_
    refine hK4 _ _ ?_
    refine c_seq fun K6 hK6 => ?_
    refine wpIn_block ?_
    refine c_region ?_
    refine s_pure h (ru_move (h.ev rfl)) rfl ?_; intro f h
    refine s_pure h (ru_quo_u32 (h.ev rfl) (h.ev rfl) (by have := (trn x k).isLt; omega)) rfl ?_; intro f h
    refine s_pure h (ru_move (h.ev rfl)) rfl ?_; intro f h
    refine s_pure h (ru_rem (h.ev rfl) (h.ev rfl) (by omega)) rfl ?_; intro f h
    refine s_pure h (ru_mulw (h.ev rfl) (h.ev rfl)) rfl ?_; intro f h
    refine s_pure h (ru_val (wv (r1 (trn x k))) (ru_addw (h.ev rfl) (h.ev rfl)) (r1_wv _)) rfl ?_; intro f h
    refine s_pure h (ru_assign (h.ev rfl)) rfl ?_; intro f h
    refine s_nil ?_
    refine b_norm ?_
    refine hK6 _ _ ?_
    refine c_region ?_
    refine s_pure h (ru_move (h.ev rfl)) rfl ?_; intro f h
    refine s_pure h (ru_add (h.ev rfl) (h.ev rfl) (by omega)) rfl ?_; intro f h
    refine s_pure h (ru_assign (h.ev rfl)) rfl ?_; intro f h
    refine s_nil ?_
    refine t_norm ?_
    exact ⟨_, by omega, ⟨k + 1, h.only ⟨rfl, rfl, slot_int rfl (by omega), trivial⟩, St.as s trivial, rfl, by omega⟩⟩
  · replace hc := of_decide_eq_false hc
    refine wpIn_exit ?_
    refine t_exit ?_
    refine t_exit ?_
    refine b_exit ?_
    refine hK2 _ _ ?_
    refine c_seq fun K7 hK7 => ?_
    refine c_region ?_
    obtain rfl : k = n := by omega
    refine s_pure h (ru_move (h.ev rfl)) rfl ?_; intro f h
    refine s_pure h (ru_assign (h.ev rfl)) rfl ?_; intro f h
    refine s_nil ?_
    refine hK7 _ _ ?_
    refine wpIn_ret ?_
    exact e_tmp rfl h s rfl (rfl)

theorem first_any  (w : World) : Calls Tryd.prog 49 [].toArray w (Ret w (fun v w' => Owns w' w.heap.size 81 1 v 8 (wL hTab 8))) := by
  refine c_enter Tryd.func49 rfl Tryd.ntmps49 rfl [] (by simp) fun f h => ?_
  have s := St.start w
  refine c_seq fun K1 hK1 => ?_
  refine c_region ?_
  refine s_pure h (ru_assign (h.ev rfl)) rfl ?_; intro f h
  refine s_nil ?_
  refine hK1 _ _ ?_
  refine c_seq fun K2 hK2 => ?_
  refine c_region ?_
  refine s_bslice (vs := [.int .u32 1779033703, .int .u32 3144134277, .int .u32 1013904242, .int .u32 2773480762, .int .u32 1359893119, .int .u32 2600822924, .int .u32 528734635, .int .u32 1541459225]) [.const (.int .u32 (1779033703)), .const (.int .u32 (3144134277)), .const (.int .u32 (1013904242)), .const (.int .u32 (2773480762)), .const (.int .u32 (1359893119)), .const (.int .u32 (2600822924)), .const (.int .u32 (528734635)), .const (.int .u32 (1541459225))] h s Tryd.underlying93 elm81 rfl rfl (by simp [Value.cells]) rfl rfl rfl ?_; intro f w1 v1 h s
  refine s_pure h (ru_assign (h.ev rfl)) rfl ?_; intro f h
  refine s_nil ?_
  refine hK2 _ _ ?_
  refine wpIn_ret ?_
  exact e_tmp rfl h s rfl (s.getSl 0 rfl)

theorem keys_any  (w : World) : Calls Tryd.prog 56 [].toArray w (Ret w (fun v w' => Owns w' w.heap.size 81 1 v 64 (wL kTab 64))) := by
  refine c_enter Tryd.func56 rfl Tryd.ntmps56 rfl [] (by simp) fun f h => ?_
  have s := St.start w
  refine c_seq fun K1 hK1 => ?_
  refine c_region ?_
  refine s_pure h (ru_assign (h.ev rfl)) rfl ?_; intro f h
  refine s_nil ?_
  refine hK1 _ _ ?_
  refine c_seq fun K2 hK2 => ?_
  refine c_region ?_
  refine s_bslice (vs := [.int .u32 1116352408, .int .u32 1899447441, .int .u32 3049323471, .int .u32 3921009573, .int .u32 961987163, .int .u32 1508970993, .int .u32 2453635748, .int .u32 2870763221, .int .u32 3624381080, .int .u32 310598401, .int .u32 607225278, .int .u32 1426881987, .int .u32 1925078388, .int .u32 2162078206, .int .u32 2614888103, .int .u32 3248222580, .int .u32 3835390401, .int .u32 4022224774, .int .u32 264347078, .int .u32 604807628, .int .u32 770255983, .int .u32 1249150122, .int .u32 1555081692, .int .u32 1996064986, .int .u32 2554220882, .int .u32 2821834349, .int .u32 2952996808, .int .u32 3210313671, .int .u32 3336571891, .int .u32 3584528711, .int .u32 113926993, .int .u32 338241895, .int .u32 666307205, .int .u32 773529912, .int .u32 1294757372, .int .u32 1396182291, .int .u32 1695183700, .int .u32 1986661051, .int .u32 2177026350, .int .u32 2456956037, .int .u32 2730485921, .int .u32 2820302411, .int .u32 3259730800, .int .u32 3345764771, .int .u32 3516065817, .int .u32 3600352804, .int .u32 4094571909, .int .u32 275423344, .int .u32 430227734, .int .u32 506948616, .int .u32 659060556, .int .u32 883997877, .int .u32 958139571, .int .u32 1322822218, .int .u32 1537002063, .int .u32 1747873779, .int .u32 1955562222, .int .u32 2024104815, .int .u32 2227730452, .int .u32 2361852424, .int .u32 2428436474, .int .u32 2756734187, .int .u32 3204031479, .int .u32 3329325298]) [.const (.int .u32 (1116352408)), .const (.int .u32 (1899447441)), .const (.int .u32 (3049323471)), .const (.int .u32 (3921009573)), .const (.int .u32 (961987163)), .const (.int .u32 (1508970993)), .const (.int .u32 (2453635748)), .const (.int .u32 (2870763221)), .const (.int .u32 (3624381080)), .const (.int .u32 (310598401)), .const (.int .u32 (607225278)), .const (.int .u32 (1426881987)), .const (.int .u32 (1925078388)), .const (.int .u32 (2162078206)), .const (.int .u32 (2614888103)), .const (.int .u32 (3248222580)), .const (.int .u32 (3835390401)), .const (.int .u32 (4022224774)), .const (.int .u32 (264347078)), .const (.int .u32 (604807628)), .const (.int .u32 (770255983)), .const (.int .u32 (1249150122)), .const (.int .u32 (1555081692)), .const (.int .u32 (1996064986)), .const (.int .u32 (2554220882)), .const (.int .u32 (2821834349)), .const (.int .u32 (2952996808)), .const (.int .u32 (3210313671)), .const (.int .u32 (3336571891)), .const (.int .u32 (3584528711)), .const (.int .u32 (113926993)), .const (.int .u32 (338241895)), .const (.int .u32 (666307205)), .const (.int .u32 (773529912)), .const (.int .u32 (1294757372)), .const (.int .u32 (1396182291)), .const (.int .u32 (1695183700)), .const (.int .u32 (1986661051)), .const (.int .u32 (2177026350)), .const (.int .u32 (2456956037)), .const (.int .u32 (2730485921)), .const (.int .u32 (2820302411)), .const (.int .u32 (3259730800)), .const (.int .u32 (3345764771)), .const (.int .u32 (3516065817)), .const (.int .u32 (3600352804)), .const (.int .u32 (4094571909)), .const (.int .u32 (275423344)), .const (.int .u32 (430227734)), .const (.int .u32 (506948616)), .const (.int .u32 (659060556)), .const (.int .u32 (883997877)), .const (.int .u32 (958139571)), .const (.int .u32 (1322822218)), .const (.int .u32 (1537002063)), .const (.int .u32 (1747873779)), .const (.int .u32 (1955562222)), .const (.int .u32 (2024104815)), .const (.int .u32 (2227730452)), .const (.int .u32 (2361852424)), .const (.int .u32 (2428436474)), .const (.int .u32 (2756734187)), .const (.int .u32 (3204031479)), .const (.int .u32 (3329325298))] h s Tryd.underlying93 elm81 rfl rfl (by simp [Value.cells]) rfl rfl rfl ?_; intro f w1 v1 h s
  refine s_pure h (ru_assign (h.ev rfl)) rfl ?_; intro f h
  refine s_nil ?_
  refine hK2 _ _ ?_
  refine wpIn_ret ?_
  exact e_tmp rfl h s rfl (s.getSl 0 rfl)

theorem turn_rot (x : W32) (n : Nat) (hn : 1 ≤ n ∧ n ≤ 31) (w : World) : Calls Tryd.prog 55 [wv x, .int .i64 (n : Int)].toArray w (Ret w (is (wv (rot x n)))) := by
  rw [← trn_rot x n hn]
  exact turn_any x n (by omega) w

theorem round_any (v9 : V8) (kk xx : W32) (vh : Value) (w : World) (hh : RdZ w vh 1 8 (wL v9.at 8)) : Calls Tryd.prog 57 [vh, wv kk, wv xx].toArray w (Ret w (fun v w' => Owns w' w.heap.size 81 1 v 8 (wL (rnd v9 kk xx).at 8))) := by
  refine c_enter Tryd.func57 rfl Tryd.ntmps57 rfl [(0, vh), (1, wv kk), (2, wv xx)] (by simp) fun f h => ?_
  have s := St.start w
  refine c_seq fun K1 hK1 => ?_
  refine c_region ?_
  refine s_pure h (ru_assign (h.ev rfl)) rfl ?_; intro f h
  refine s_nil ?_
  refine hK1 _ _ ?_
  refine c_seq fun K2 hK2 => ?_
  refine c_region ?_
  refine s_pure h (ru_move (h.ev rfl)) rfl ?_; intro f h
  refine s_pure h (ru_ixz (hh.keep s.ext) (0) Tryd.underlying93 szo81 (h.ev rfl) (h.ev rfl) (by omega) (by omega)) rfl ?_; intro f h
  refine s_load_at1 ((hh.keep s.ext).el1 (0) (V := wv v9.a) (wL_get v9.at 8 0 (by decide))) h one81 rfl rfl ?_; intro f h
  refine s_pure h (ru_assign (h.ev rfl)) rfl ?_; intro f h
  refine s_nil ?_
  refine hK2 _ _ ?_
  refine c_seq fun K3 hK3 => ?_
  refine c_region ?_
  refine s_pure h (ru_move (h.ev rfl)) rfl ?_; intro f h
  refine s_pure h (ru_ixz (hh.keep s.ext) (4) Tryd.underlying93 szo81 (h.ev rfl) (h.ev rfl) (by omega) (by omega)) rfl ?_; intro f h
  refine s_load_at1 ((hh.keep s.ext).el1 (4) (V := wv v9.e) (wL_get v9.at 8 4 (by decide))) h one81 rfl rfl ?_; intro f h
  refine s_pure h (ru_assign (h.ev rfl)) rfl ?_; intro f h
  refine s_nil ?_
  refine hK3 _ _ ?_
  refine c_seq fun K4 hK4 => ?_
  refine c_walkN 30 [[], [0], [0, 1], [], [3], [], [3, 4, 5], [3, 4, 5, 6], [], [3, 4, 5, 6, 8], [3, 4, 5, 6, 7, 8, 9], [0, 1, 2, 3, 4, 5, 6, 7, 8, 9, 10], [], [], [13], [13, 14], [12, 13, 14, 15], [], [17], [], [19], [19, 20], [17, 18, 19, 20, 21], [12, 13, 14, 15, 16, 17, 18, 19, 20, 21, 22], [0, 1, 2, 3, 4, 5, 6, 7, 8, 9, 10, 11, 12, 13, 14, 15, 16, 17, 18, 19, 20, 21, 22, 23], [], [0, 1, 2, 3, 4, 5, 6, 7, 8, 9, 10, 11, 12, 13, 14, 15, 16, 17, 18, 19, 20, 21, 22, 23, 24, 25], [], [0, 1, 2, 3, 4, 5, 6, 7, 8, 9, 10, 11, 12, 13, 14, 15, 16, 17, 18, 19, 20, 21, 22, 23, 24, 25, 26, 27], [0, 1, 2, 3, 4, 5, 6, 7, 8, 9, 10, 11, 12, 13, 14, 15, 16, 17, 18, 19, 20, 21, 22, 23, 24, 25, 26, 27, 28]] h (by kernel_rfl) (by kernel_rfl) (by kernel_rfl) ?_
  refine w_pure h (ru_move (h.ev rfl)) rfl ?_; intro f h
  refine w_pure h (ru_ixz (hh.keep s.ext) (7) Tryd.underlying93 szo81 (h.ev rfl) (h.ev rfl) (by omega) (by omega)) rfl ?_; intro f h
  refine w_load_at1 ((hh.keep s.ext).el1 (7) (V := wv v9.h) (wL_get v9.at 8 7 (by decide))) h one81 rfl rfl ?_; intro f h
  refine w_pure h (ru_move (h.ev rfl)) rfl ?_; intro f h
  refine w_call h fnc55 (fun w9 hE9 => turn_rot _ 6 (by decide) w9) rfl rfl ?_; intro f h
  refine w_pure h (ru_move (h.ev rfl)) rfl ?_; intro f h
  refine w_call h fnc55 (fun w9 hE9 => turn_rot _ 11 (by decide) w9) rfl rfl ?_; intro f h
  refine w_pure h (ru_xor32 (h.ev rfl) (h.ev rfl)) rfl ?_; intro f h
  refine w_pure h (ru_move (h.ev rfl)) rfl ?_; intro f h
  refine w_call h fnc55 (fun w9 hE9 => turn_rot _ 25 (by decide) w9) rfl rfl ?_; intro f h
  refine w_pure h (ru_xor32 (h.ev rfl) (h.ev rfl)) rfl ?_; intro f h
  refine w_pure h (ru_add32 (h.ev rfl) (h.ev rfl)) rfl ?_; intro f h
  refine w_pure h (ru_move (h.ev rfl)) rfl ?_; intro f h
  refine w_pure h (ru_move (h.ev rfl)) rfl ?_; intro f h
  refine w_pure h (ru_ixz (hh.keep s.ext) (5) Tryd.underlying93 szo81 (h.ev rfl) (h.ev rfl) (by omega) (by omega)) rfl ?_; intro f h
  refine w_load_at1 ((hh.keep s.ext).el1 (5) (V := wv v9.f) (wL_get v9.at 8 5 (by decide))) h one81 rfl rfl ?_; intro f h
  refine w_pure h (ru_and32 (h.ev rfl) (h.ev rfl)) rfl ?_; intro f h
  refine w_pure h (ru_move (h.ev rfl)) rfl ?_; intro f h
  refine w_pure h (ru_subw32 (h.ev rfl) (h.ev rfl)) rfl ?_; intro f h
  refine w_pure h (ru_move (h.ev rfl)) rfl ?_; intro f h
  refine w_pure h (ru_ixz (hh.keep s.ext) (6) Tryd.underlying93 szo81 (h.ev rfl) (h.ev rfl) (by omega) (by omega)) rfl ?_; intro f h
  refine w_load_at1 ((hh.keep s.ext).el1 (6) (V := wv v9.g) (wL_get v9.at 8 6 (by decide))) h one81 rfl rfl ?_; intro f h
  refine w_pure h (ru_and32 (h.ev rfl) (h.ev rfl)) rfl ?_; intro f h
  refine w_pure h (ru_xor32 (h.ev rfl) (h.ev rfl)) rfl ?_; intro f h
  refine w_pure h (ru_add32 (h.ev rfl) (h.ev rfl)) rfl ?_; intro f h
  refine w_pure h (ru_move (h.ev rfl)) rfl ?_; intro f h
  refine w_pure h (ru_add32 (h.ev rfl) (h.ev rfl)) rfl ?_; intro f h
  refine w_pure h (ru_move (h.ev rfl)) rfl ?_; intro f h
  refine w_pure h (ru_add32 (h.ev rfl) (h.ev rfl)) rfl ?_; intro f h
  refine w_pure h (ru_assign (h.ev rfl)) rfl ?_; intro f h
  refine w_nil s fun w1 s => ?_
  refine s_nil ?_
  refine hK4 _ _ ?_
  refine c_seq fun K5 hK5 => ?_
  refine c_walkN 29 [[], [0], [], [0, 1, 2], [0, 1, 2, 3], [], [0, 1, 2, 3, 5], [0, 1, 2, 3, 4, 5, 6], [], [], [9], [9, 10], [8, 9, 10, 11], [], [], [14], [14, 15], [13, 14, 15, 16], [8, 9, 10, 11, 12, 13, 14, 15, 16, 17], [], [19], [19, 20], [], [22], [22, 23], [19, 20, 21, 22, 23, 24], [8, 9, 10, 11, 12, 13, 14, 15, 16, 17, 18, 19, 20, 21, 22, 23, 24, 25], [0, 1, 2, 3, 4, 5, 6, 7, 8, 9, 10, 11, 12, 13, 14, 15, 16, 17, 18, 19, 20, 21, 22, 23, 24, 25, 26], [0, 1, 2, 3, 4, 5, 6, 7, 8, 9, 10, 11, 12, 13, 14, 15, 16, 17, 18, 19, 20, 21, 22, 23, 24, 25, 26, 27]] h (by kernel_rfl) (by kernel_rfl) (by kernel_rfl) ?_
  refine w_pure h (ru_move (h.ev rfl)) rfl ?_; intro f h
  refine w_call h fnc55 (fun w9 hE9 => turn_rot _ 2 (by decide) w9) rfl rfl ?_; intro f h
  refine w_pure h (ru_move (h.ev rfl)) rfl ?_; intro f h
  refine w_call h fnc55 (fun w9 hE9 => turn_rot _ 13 (by decide) w9) rfl rfl ?_; intro f h
  refine w_pure h (ru_xor32 (h.ev rfl) (h.ev rfl)) rfl ?_; intro f h
  refine w_pure h (ru_move (h.ev rfl)) rfl ?_; intro f h
  refine w_call h fnc55 (fun w9 hE9 => turn_rot _ 22 (by decide) w9) rfl rfl ?_; intro f h
  refine w_pure h (ru_xor32 (h.ev rfl) (h.ev rfl)) rfl ?_; intro f h
  refine w_pure h (ru_move (h.ev rfl)) rfl ?_; intro f h
  refine w_pure h (ru_move (h.ev rfl)) rfl ?_; intro f h
  refine w_pure h (ru_ixz (hh.keep s.ext) (1) Tryd.underlying93 szo81 (h.ev rfl) (h.ev rfl) (by omega) (by omega)) rfl ?_; intro f h
  refine w_load_at1 ((hh.keep s.ext).el1 (1) (V := wv v9.b) (wL_get v9.at 8 1 (by decide))) h one81 rfl rfl ?_; intro f h
  refine w_pure h (ru_and32 (h.ev rfl) (h.ev rfl)) rfl ?_; intro f h
  refine w_pure h (ru_move (h.ev rfl)) rfl ?_; intro f h
  refine w_pure h (ru_move (h.ev rfl)) rfl ?_; intro f h
  refine w_pure h (ru_ixz (hh.keep s.ext) (2) Tryd.underlying93 szo81 (h.ev rfl) (h.ev rfl) (by omega) (by omega)) rfl ?_; intro f h
  refine w_load_at1 ((hh.keep s.ext).el1 (2) (V := wv v9.c) (wL_get v9.at 8 2 (by decide))) h one81 rfl rfl ?_; intro f h
  refine w_pure h (ru_and32 (h.ev rfl) (h.ev rfl)) rfl ?_; intro f h
  refine w_pure h (ru_xor32 (h.ev rfl) (h.ev rfl)) rfl ?_; intro f h
  refine w_pure h (ru_move (h.ev rfl)) rfl ?_; intro f h
  refine w_pure h (ru_ixz (hh.keep s.ext) (1) Tryd.underlying93 szo81 (h.ev rfl) (h.ev rfl) (by omega) (by omega)) rfl ?_; intro f h
  refine w_load_at1 ((hh.keep s.ext).el1 (1) (V := wv v9.b) (wL_get v9.at 8 1 (by decide))) h one81 rfl rfl ?_; intro f h
  refine w_pure h (ru_move (h.ev rfl)) rfl ?_; intro f h
  refine w_pure h (ru_ixz (hh.keep s.ext) (2) Tryd.underlying93 szo81 (h.ev rfl) (h.ev rfl) (by omega) (by omega)) rfl ?_; intro f h
  refine w_load_at1 ((hh.keep s.ext).el1 (2) (V := wv v9.c) (wL_get v9.at 8 2 (by decide))) h one81 rfl rfl ?_; intro f h
  refine w_pure h (ru_and32 (h.ev rfl) (h.ev rfl)) rfl ?_; intro f h
  refine w_pure h (ru_xor32 (h.ev rfl) (h.ev rfl)) rfl ?_; intro f h
  refine w_pure h (ru_add32 (h.ev rfl) (h.ev rfl)) rfl ?_; intro f h
  refine w_pure h (ru_assign (h.ev rfl)) rfl ?_; intro f h
  refine w_nil s fun w1 s => ?_
  refine s_nil ?_
  refine hK5 _ _ ?_
  refine c_seq fun K6 hK6 => ?_
  refine c_walkN 22 [[], [], [0, 1], [], [], [4], [4, 5], [], [7], [7, 8], [], [10], [10, 11], [], [10, 11, 12, 13], [], [], [16], [16, 17], [], [19], [19, 20]] h (by kernel_rfl) (by kernel_rfl) (by kernel_rfl) ?_
  refine w_pure h (ru_move (h.ev rfl)) rfl ?_; intro f h
  refine w_pure h (ru_move (h.ev rfl)) rfl ?_; intro f h
  refine w_pure h (ru_add32 (h.ev rfl) (h.ev rfl)) rfl ?_; intro f h
  refine w_pure h (ru_move (h.ev rfl)) rfl ?_; intro f h
  refine w_pure h (ru_move (h.ev rfl)) rfl ?_; intro f h
  refine w_pure h (ru_ixz (hh.keep s.ext) (1) Tryd.underlying93 szo81 (h.ev rfl) (h.ev rfl) (by omega) (by omega)) rfl ?_; intro f h
  refine w_load_at1 ((hh.keep s.ext).el1 (1) (V := wv v9.b) (wL_get v9.at 8 1 (by decide))) h one81 rfl rfl ?_; intro f h
  refine w_pure h (ru_move (h.ev rfl)) rfl ?_; intro f h
  refine w_pure h (ru_ixz (hh.keep s.ext) (2) Tryd.underlying93 szo81 (h.ev rfl) (h.ev rfl) (by omega) (by omega)) rfl ?_; intro f h
  refine w_load_at1 ((hh.keep s.ext).el1 (2) (V := wv v9.c) (wL_get v9.at 8 2 (by decide))) h one81 rfl rfl ?_; intro f h
  refine w_pure h (ru_move (h.ev rfl)) rfl ?_; intro f h
  refine w_pure h (ru_ixz (hh.keep s.ext) (3) Tryd.underlying93 szo81 (h.ev rfl) (h.ev rfl) (by omega) (by omega)) rfl ?_; intro f h
  refine w_load_at1 ((hh.keep s.ext).el1 (3) (V := wv v9.d) (wL_get v9.at 8 3 (by decide))) h one81 rfl rfl ?_; intro f h
  refine w_pure h (ru_move (h.ev rfl)) rfl ?_; intro f h
  refine w_pure h (ru_add32 (h.ev rfl) (h.ev rfl)) rfl ?_; intro f h
  refine w_pure h (ru_move (h.ev rfl)) rfl ?_; intro f h
  refine w_pure h (ru_move (h.ev rfl)) rfl ?_; intro f h
  refine w_pure h (ru_ixz (hh.keep s.ext) (5) Tryd.underlying93 szo81 (h.ev rfl) (h.ev rfl) (by omega) (by omega)) rfl ?_; intro f h
  refine w_load_at1 ((hh.keep s.ext).el1 (5) (V := wv v9.f) (wL_get v9.at 8 5 (by decide))) h one81 rfl rfl ?_; intro f h
  refine w_pure h (ru_move (h.ev rfl)) rfl ?_; intro f h
  refine w_pure h (ru_ixz (hh.keep s.ext) (6) Tryd.underlying93 szo81 (h.ev rfl) (h.ev rfl) (by omega) (by omega)) rfl ?_; intro f h
  refine w_load_at1 ((hh.keep s.ext).el1 (6) (V := wv v9.g) (wL_get v9.at 8 6 (by decide))) h one81 rfl rfl ?_; intro f h
  refine w_nil s fun w1 s => ?_
  refine s_bslice (vs := [wv (rnd v9 kk xx).a, wv (rnd v9 kk xx).b, wv (rnd v9 kk xx).c, wv (rnd v9 kk xx).d, wv (rnd v9 kk xx).e, wv (rnd v9 kk xx).f, wv (rnd v9 kk xx).g, wv (rnd v9 kk xx).h]) [.tmp 76, .tmp 77, .tmp 80, .tmp 83, .tmp 88, .tmp 89, .tmp 92, .tmp 95] h s Tryd.underlying93 elm81 rfl rfl (by simp [Value.cells, wv]) rfl rfl rfl ?_; intro f w1 v96 h s
  replace s := s.as (B' := [.sl v96 81 1 8 (wL (rnd v9 kk xx).at 8)]) ⟨sl_eq rfl rfl, trivial⟩
  refine s_pure h (ru_assign (h.ev rfl)) rfl ?_; intro f h
  refine s_nil ?_
  refine hK6 _ _ ?_
  refine wpIn_ret ?_
  exact e_tmp rfl h s rfl (s.getSl 0 rfl)

set_option maxHeartbeats 4000000 in
theorem block_any (s9 : Nat → W32) (vh : Value) (cx : ByteArray) (hcx : cx.size = 64) (w : World) (hh : RdZ w vh 1 8 (wL s9 8)) : Calls Tryd.prog 51 [vh, .string cx].toArray w (Ret w (fun v w' => Owns w' w.heap.size 81 1 v 8 (wL (stirF s9 (spreadF (sb cx))) 8))) := by
  refine c_enter Tryd.func51 rfl Tryd.ntmps51 rfl [(0, vh), (1, .string cx)] (by simp) fun f h => ?_
  have s := St.start w
  refine c_seq fun K1 hK1 => ?_
  refine c_region ?_
  refine s_pure h (ru_assign (h.ev rfl)) rfl ?_; intro f h
  refine s_nil ?_
  refine hK1 _ _ ?_
  refine c_seq fun K2 hK2 => ?_
  refine c_region ?_
  refine s_bslice (vs := []) [] h s Tryd.underlying93 elm81 rfl rfl (by simp) rfl rfl rfl ?_; intro f w1 v17 h s
  refine s_pure h (ru_assign (h.ev rfl)) rfl ?_; intro f h
  refine s_nil ?_
  refine hK2 _ _ ?_
  refine c_seq fun K3 hK3 => ?_
  refine c_seq fun K4 hK4 => ?_
  refine c_region ?_
  refine s_pure h (ru_assign (h.ev rfl)) rfl ?_; intro f h
  refine s_nil ?_
  refine hK4 _ _ ?_
  refine wpIn_block ?_
  refine wpIn_loop_ghost (fun nn aa ww => ∃ t : Nat, ∃ vb : Value, Sl 122 aa [(0, vh), (1, .string cx), (5, vb), (6, .int .i64 (t : Int))] ∧ St w [.sl vb 81 1 t (wL (fun i => wpt (sb cx) i 4) t)] ww ∧ nn = 16 - t ∧ t ≤ 16) (16 - (0)) ⟨0, v17, h.only ⟨rfl, rfl, rfl, slot_int rfl (by omega), trivial⟩, s.as ⟨sl_eq rfl rfl, trivial⟩, rfl, Nat.zero_le _⟩ ?_
  rintro _ f w1 ⟨t, vb, h, s, hnn, hp0⟩
  refine c_seq fun K5 hK5 => ?_
  refine c_seq fun K6 hK6 => ?_
  refine c_region ?_
  refine s_pure h (ru_move (h.ev rfl)) rfl ?_; intro f h
  refine s_pure h (ru_lss (h.ev rfl) (h.ev rfl)) rfl ?_; intro f h
  refine s_nil ?_
  refine hK6 _ _ ?_
  refine c_cond h rfl (fun hc => ?_) (fun hc => ?_)
  · replace hc := of_decide_eq_true hc
    refine wpIn_skip ?_
    refine hK5 _ _ ?_
    refine c_seq fun K7 hK7 => ?_
    refine wpIn_block ?_
    refine c_seq fun K8 hK8 => ?_
    refine c_region ?_
    refine s_pure h (ru_assign (h.ev rfl)) rfl ?_; intro f h
    refine s_nil ?_
    refine hK8 _ _ ?_
    refine c_seq fun K9 hK9 => ?_
    refine c_seq fun K10 hK10 => ?_
    refine c_region ?_
    refine s_pure h (ru_assign (h.ev rfl)) rfl ?_; intro f h
    refine s_nil ?_
    refine hK10 _ _ ?_
    refine wpIn_block ?_
    refine wpIn_loop_ghost (fun nn aa ww => ∃ j : Nat, Sl 122 aa [(0, vh), (1, .string cx), (5, vb), (6, .int .i64 (t : Int)), (7, wv (wpt (sb cx) t j)), (8, .int .i64 (j : Int))] ∧ St w [.sl vb 81 1 t (wL (fun i => wpt (sb cx) i 4) t)] ww ∧ nn = 4 - j ∧ j ≤ 4) (4 - (0)) ⟨0, h.only ⟨rfl, rfl, rfl, slot_int rfl (by omega), rfl, slot_int rfl (by omega), trivial⟩, s.as ⟨rfl, trivial⟩, rfl, Nat.zero_le _⟩ ?_
    rintro _ f w1 ⟨j, h, s, hnn, hp0⟩
    refine c_seq fun K11 hK11 => ?_
    refine c_seq fun K12 hK12 => ?_
    refine c_region ?_
    refine s_pure h (ru_move (h.ev rfl)) rfl ?_; intro f h
    refine s_pure h (ru_lss (h.ev rfl) (h.ev rfl)) rfl ?_; intro f h
    refine s_nil ?_
    refine hK12 _ _ ?_
    refine c_cond h rfl (fun hc => ?_) (fun hc => ?_)
    · replace hc := of_decide_eq_true hc
      refine wpIn_skip ?_
      refine hK11 _ _ ?_
      refine c_seq fun K13 hK13 => ?_
      refine wpIn_block ?_
      refine c_region ?_
      refine s_pure h (ru_move (h.ev rfl)) rfl ?_; intro f h
      refine s_pure h (ru_mulw (h.ev rfl) (h.ev rfl)) rfl ?_; intro f h
      refine s_pure h (ru_move (h.ev rfl)) rfl ?_; intro f h
      refine s_pure h (ru_move (h.ev rfl)) rfl ?_; intro f h
      refine s_pure h (ru_mul (h.ev rfl) (h.ev rfl) (by omega)) rfl ?_; intro f h
      refine s_pure h (ru_move (h.ev rfl)) rfl ?_; intro f h
      refine s_pure h (ru_add (h.ev rfl) (h.ev rfl) (by omega)) rfl ?_; intro f h
      refine s_pure h (ru_ix_sb Tryd.underlying9 (4 * t + j) (h.ev rfl) (h.ev rfl) (by omega) (by omega)) rfl ?_; intro f h
      refine s_pure h (ru_conv_u32 _ Tryd.underlying5 Tryd.underlying81 (h.ev rfl)) rfl ?_; intro f h
      refine s_pure h (ru_val (wv (wpt (sb cx) t (j + 1))) (ru_addw (h.ev rfl) (h.ev rfl)) (wpt_wv2 _ _ _ (sb_lt _ _))) rfl ?_; intro f h
      refine s_pure h (ru_assign (h.ev rfl)) rfl ?_; intro f h
      refine s_nil ?_
      refine b_norm ?_
      refine hK13 _ _ ?_
      refine c_region ?_
      refine s_pure h (ru_move (h.ev rfl)) rfl ?_; intro f h
      refine s_pure h (ru_add (h.ev rfl) (h.ev rfl) (by omega)) rfl ?_; intro f h
      refine s_pure h (ru_assign (h.ev rfl)) rfl ?_; intro f h
      refine s_nil ?_
      refine t_norm ?_
      exact ⟨_, by omega, ⟨j + 1, h.only ⟨rfl, rfl, rfl, slot_int rfl (by omega), rfl, slot_int rfl (by omega), trivial⟩, St.as s ⟨rfl, trivial⟩, rfl, by omega⟩⟩
    · replace hc := of_decide_eq_false hc
      refine wpIn_exit ?_
      refine t_exit ?_
      refine t_exit ?_
      refine b_exit ?_
      refine hK9 _ _ ?_
      refine c_region ?_
      obtain rfl : j = 4 := by omega
      refine s_pure h (ru_move (h.ev rfl)) rfl ?_; intro f h
      refine s_pure h (ru_move (h.ev rfl)) rfl ?_; intro f h
      refine s_bslice (vs := [wv (wpt (sb cx) t 4)]) [.tmp 37] h s Tryd.underlying93 elm81 rfl rfl (by simp [Value.cells, wv]) rfl rfl rfl ?_; intro f w1 v38 h s
      refine s_append 1 0 h s Tryd.underlying93 elm81 rfl rfl rfl rfl (by decide) (by simp [Value.oneCell', Value.cells, wv]) (by unfold maxLen; omega) (by omega) rfl ?_; intro f w1 v39 h s
      replace s := s.pick _ (List.sublist_cons_self _ _)
      refine s_pure h (ru_assign (h.ev rfl)) rfl ?_; intro f h
      refine s_nil ?_
      refine b_norm ?_
      refine hK7 _ _ ?_
      refine c_region ?_
      refine s_pure h (ru_move (h.ev rfl)) rfl ?_; intro f h
      refine s_pure h (ru_add (h.ev rfl) (h.ev rfl) (by omega)) rfl ?_; intro f h
      refine s_pure h (ru_assign (h.ev rfl)) rfl ?_; intro f h
      refine s_nil ?_
      refine t_norm ?_
      exact ⟨_, by omega, ⟨t + 1, v39, h.only ⟨rfl, rfl, rfl, slot_int rfl (by omega), trivial⟩, St.as s ⟨sl_eq (by omega) (wL_succ _ t).symm, trivial⟩, rfl, by omega⟩⟩
  · replace hc := of_decide_eq_false hc
    refine wpIn_exit ?_
    refine t_exit ?_
    refine t_exit ?_
    refine b_exit ?_
    refine hK3 _ _ ?_
    refine c_seq fun K14 hK14 => ?_
    refine c_seq fun K15 hK15 => ?_
    refine c_region ?_
    refine s_pure h (ru_assign (h.ev rfl)) rfl ?_; intro f h
    refine s_nil ?_
    refine hK15 _ _ ?_
    refine wpIn_block ?_
    refine wpIn_loop_ghost (fun nn aa ww => ∃ t2 : Nat, ∃ vc : Value, Sl 122 aa [(0, vh), (1, .string cx), (5, vc), (9, .int .i64 (t2 : Int))] ∧ St w [.sl vc 81 1 t2 (wL (spreadF (sb cx)) t2)] ww ∧ nn = 64 - t2 ∧ 16 ≤ t2 ∧ t2 ≤ 64) (64 - (16)) ⟨16, vb, h.only ⟨rfl, rfl, rfl, slot_int rfl (by omega), trivial⟩, s.as ⟨sl_eq (by omega) (by rw [show t = 16 from by omega]; exact wL_congr fun i hi => (spread_lo _ (sb_lt _) i hi).symm), trivial⟩, rfl, by omega, by omega⟩ ?_
    rintro _ f w1 ⟨t2, vc, h, s, hnn, hp0, hp1⟩
    refine c_seq fun K16 hK16 => ?_
    refine c_seq fun K17 hK17 => ?_
    refine c_region ?_
    refine s_pure h (ru_move (h.ev rfl)) rfl ?_; intro f h
    refine s_pure h (ru_lss (h.ev rfl) (h.ev rfl)) rfl ?_; intro f h
    refine s_nil ?_
    refine hK17 _ _ ?_
    refine c_cond h rfl (fun hc => ?_) (fun hc => ?_)
    · replace hc := of_decide_eq_true hc
      refine wpIn_skip ?_
      refine hK16 _ _ ?_
      refine c_seq fun K18 hK18 => ?_
      refine wpIn_block ?_
      refine c_seq fun K19 hK19 => ?_
      refine c_region ?_
      refine s_pure h (ru_move (h.ev rfl)) rfl ?_; intro f h
      refine s_pure h (ru_move (h.ev rfl)) rfl ?_; intro f h
      refine s_pure h (ru_sub (h.ev rfl) (h.ev rfl) (by omega)) rfl ?_; intro f h
      refine s_pure h (ru_ixz (RdZ.of_own (s.getSl 0 rfl)) (t2 - 15) Tryd.underlying93 szo81 (h.ev rfl) (h.ev rfl) (by omega) (by omega)) rfl ?_; intro f h
      refine s_load_at1 ((RdZ.of_own (s.getSl 0 rfl)).el1 (t2 - 15) (V := wv (spreadF (sb cx) (t2 - 15))) (wL_get _ _ _ (by omega))) h one81 rfl rfl ?_; intro f h
      refine s_pure h (ru_assign (h.ev rfl)) rfl ?_; intro f h
      refine s_nil ?_
      refine hK19 _ _ ?_
      refine c_seq fun K20 hK20 => ?_
      refine c_region ?_
      refine s_pure h (ru_move (h.ev rfl)) rfl ?_; intro f h
      refine s_pure h (ru_move (h.ev rfl)) rfl ?_; intro f h
      refine s_pure h (ru_sub (h.ev rfl) (h.ev rfl) (by omega)) rfl ?_; intro f h
      refine s_pure h (ru_ixz (RdZ.of_own (s.getSl 0 rfl)) (t2 - 2) Tryd.underlying93 szo81 (h.ev rfl) (h.ev rfl) (by omega) (by omega)) rfl ?_; intro f h
      refine s_load_at1 ((RdZ.of_own (s.getSl 0 rfl)).el1 (t2 - 2) (V := wv (spreadF (sb cx) (t2 - 2))) (wL_get _ _ _ (by omega))) h one81 rfl rfl ?_; intro f h
      refine s_pure h (ru_assign (h.ev rfl)) rfl ?_; intro f h
      refine s_nil ?_
      refine hK20 _ _ ?_
      have hbs := s.ext.le
      refine' c_reg2 29 [0, 1, 3, 6, 7, 9, 10, 11, 12, 15, 17, 20, 21, 24, 25, 26, 27] [] [[], [], [1], [], [1, 2, 3], [1, 2, 3, 4], [], [6], [1, 2, 3, 4, 5, 6, 7], [], [], [10], [9, 10, 11], [9, 10, 11, 12], [1, 2, 3, 4, 5, 6, 7, 8, 9, 10, 11, 12, 13], [], [1, 2, 3, 4, 15], [], [1, 2, 3, 4, 15, 16, 17], [1, 2, 3, 4, 15, 16, 17, 18], [], [20], [1, 2, 3, 4, 15, 16, 17, 18, 19, 20, 21], [1, 2, 3, 4, 5, 6, 7, 8, 9, 10, 11, 12, 13, 14, 15, 16, 17, 18, 19, 20, 21, 22], [], [], [25], [24, 25, 26], [24, 25, 26, 27], [1, 2, 3, 4, 5, 6, 7, 8, 9, 10, 11, 12, 13, 14, 15, 16, 17, 18, 19, 20, 21, 22, 23, 24, 25, 26, 27, 28], [1, 2, 3, 4, 5, 6, 7, 8, 9, 10, 11, 12, 13, 14, 15, 16, 17, 18, 19, 20, 21, 22, 23, 24, 25, 26, 27, 28, 29], [0, 1, 2, 3, 4, 5, 6, 7, 8, 9, 10, 11, 12, 13, 14, 15, 16, 17, 18, 19, 20, 21, 22, 23, 24, 25, 26, 27, 28, 29, 30], [0, 1, 2, 3, 4, 5, 6, 7, 8, 9, 10, 11, 12, 13, 14, 15, 16, 17, 18, 19, 20, 21, 22, 23, 24, 25, 26, 27, 28, 29, 30, 31]] (is _ :: is _ :: is _ :: is _ :: is _ :: is _ :: is _ :: is _ :: is _ :: is _ :: is _ :: is _ :: is _ :: is _ :: is _ :: is _ :: is _ :: is _ :: is _ :: is _ :: is _ :: is _ :: is _ :: is _ :: is _ :: is _ :: is _ :: is _ :: is _ :: is undef :: is undef :: is undef :: is undef :: []) (fun _ => True) h s (by kernel_rfl) (by kernel_rfl) (by kernel_rfl) (by kernel_rfl) rfl (fun _ _ h _ => h) (trivial) ⟨⟨_, rfl⟩, ⟨_, rfl⟩, ⟨_, rfl⟩, ⟨_, rfl⟩, ⟨_, rfl⟩, ⟨_, rfl⟩, ⟨_, rfl⟩, ⟨_, rfl⟩, ⟨_, rfl⟩, ⟨_, rfl⟩, ⟨_, rfl⟩, ⟨_, rfl⟩, ⟨_, rfl⟩, ⟨_, rfl⟩, ⟨_, rfl⟩, ⟨_, rfl⟩, ⟨_, rfl⟩, trivial⟩ ⟨is_mono _, is_mono _, is_mono _, is_mono _, is_mono _, is_mono _, is_mono _, is_mono _, is_mono _, is_mono _, is_mono _, is_mono _, is_mono _, is_mono _, is_mono _, is_mono _, is_mono _, is_mono _, is_mono _, is_mono _, is_mono _, is_mono _, is_mono _, is_mono _, is_mono _, is_mono _, is_mono _, is_mono _, is_mono _, is_mono _, is_mono _, is_mono _, is_mono _, trivial⟩ (And.intro ?_ (And.intro ?_ (And.intro ?_ (And.intro ?_ (And.intro ?_ (And.intro ?_ (And.intro ?_ (And.intro ?_ (And.intro ?_ (And.intro ?_ (And.intro ?_ (And.intro ?_ (And.intro ?_ (And.intro ?_ (And.intro ?_ (And.intro ?_ (And.intro ?_ (And.intro ?_ (And.intro ?_ (And.intro ?_ (And.intro ?_ (And.intro ?_ (And.intro ?_ (And.intro ?_ (And.intro ?_ (And.intro ?_ (And.intro ?_ (And.intro ?_ (And.intro ?_ (And.intro ?_ (And.intro ?_ (And.intro ?_ (And.intro ?_ (trivial)))))))))))))))))))))))))))))))))) ?_
      rotate_left 29
      · refine obH_in 54 rfl (by decide) ?_
        intro f9 w2 hE hs hl
        have e5 : f9.tmps.getD 5 undef = _ := sx_old hl 5 (by kernel_rfl) (by kernel_rfl) (h.holds 5 _ rfl)
        have h := fin_slot [(5, _)] hs rfl (holds_lk ⟨e5, trivial⟩)
        refine s_pure h (ru_move (h.ev rfl)) rfl ?_; intro f h
        refine s_nil ?_
        have e9 := h.holds 54 _ rfl
        refine ⟨?_, rfl⟩
        refine e9.trans ?_
        exact rfl
      · refine obH_in 55 rfl (by decide) ?_
        intro f9 w2 hE hs hl
        have e11 : f9.tmps.getD 11 undef = _ := sx_old hl 11 (by kernel_rfl) (by kernel_rfl) (h.holds 11 _ rfl)
        have h := fin_slot [(11, _)] hs rfl (holds_lk ⟨e11, trivial⟩)
        refine s_pure h (ru_move (h.ev rfl)) rfl ?_; intro f h
        refine s_nil ?_
        have e9 := h.holds 55 _ rfl
        refine ⟨?_, rfl⟩
        refine e9.trans ?_
        exact rfl
      · refine obF_in 56 rfl (by decide) (by decide) ?_
        intro f9 w2 hE hs hd9 hl
        have e55 : f9.tmps.getD 55 undef = _ := sx_get hl 55 1 (by kernel_rfl) (by kernel_rfl)
        have h := fin_slot [(55, _)] hs hd9 (holds_lk ⟨e55, trivial⟩)
        have s := s.more hE
        have z := St.start w2
        refine s_call h s fnc55 (turn_rot _ 17 (by decide) _) rfl rfl ?_; intro f w1 v9 hT hE h s; obtain rfl := hT
        refine s_nil ?_
        have e9 := h.holds 56 _ rfl
        refine ⟨?_, hE, fun h9 => absurd h9 (by decide)⟩
        refine e9.trans ?_
        exact rfl
      · refine obH_in 57 rfl (by decide) ?_
        intro f9 w2 hE hs hl
        have e11 : f9.tmps.getD 11 undef = _ := sx_old hl 11 (by kernel_rfl) (by kernel_rfl) (h.holds 11 _ rfl)
        have h := fin_slot [(11, _)] hs rfl (holds_lk ⟨e11, trivial⟩)
        refine s_pure h (ru_move (h.ev rfl)) rfl ?_; intro f h
        refine s_nil ?_
        have e9 := h.holds 57 _ rfl
        refine ⟨?_, rfl⟩
        refine e9.trans ?_
        exact rfl
      · refine obF_in 58 rfl (by decide) (by decide) ?_
        intro f9 w2 hE hs hd9 hl
        have e57 : f9.tmps.getD 57 undef = _ := sx_get hl 57 3 (by kernel_rfl) (by kernel_rfl)
        have h := fin_slot [(57, _)] hs hd9 (holds_lk ⟨e57, trivial⟩)
        have s := s.more hE
        have z := St.start w2
        refine s_call h s fnc55 (turn_rot _ 19 (by decide) _) rfl rfl ?_; intro f w1 v9 hT hE h s; obtain rfl := hT
        refine s_nil ?_
        have e9 := h.holds 58 _ rfl
        refine ⟨?_, hE, fun h9 => absurd h9 (by decide)⟩
        refine e9.trans ?_
        exact rfl
      · refine obF_in 59 rfl (by decide) (by decide) ?_
        intro f9 w2 hE hs hd9 hl
        have e56 : f9.tmps.getD 56 undef = _ := sx_get hl 56 2 (by kernel_rfl) (by kernel_rfl)
        have e58 : f9.tmps.getD 58 undef = _ := sx_get hl 58 4 (by kernel_rfl) (by kernel_rfl)
        have h := fin_slot [(56, _), (58, _)] hs hd9 (holds_lk ⟨e56, e58, trivial⟩)
        have s := s.more hE
        have z := St.start w2
        refine s_pure h (ru_xor32 (h.ev rfl) (h.ev rfl)) rfl ?_; intro f h
        refine s_nil ?_
        have e9 := h.holds 59 _ rfl
        refine ⟨?_, Ext.refl _, fun h9 => absurd h9 (by decide)⟩
        refine e9.trans ?_
        exact rfl
      · refine obH_in 60 rfl (by decide) ?_
        intro f9 w2 hE hs hl
        have e11 : f9.tmps.getD 11 undef = _ := sx_old hl 11 (by kernel_rfl) (by kernel_rfl) (h.holds 11 _ rfl)
        have h := fin_slot [(11, _)] hs rfl (holds_lk ⟨e11, trivial⟩)
        refine s_pure h (ru_move (h.ev rfl)) rfl ?_; intro f h
        refine s_nil ?_
        have e9 := h.holds 60 _ rfl
        refine ⟨?_, rfl⟩
        refine e9.trans ?_
        exact rfl
      · refine obH_in 61 rfl (by decide) ?_
        intro f9 w2 hE hs hl
        have e60 : f9.tmps.getD 60 undef = _ := sx_get hl 60 6 (by kernel_rfl) (by kernel_rfl)
        have h := fin_slot [(60, _)] hs rfl (holds_lk ⟨e60, trivial⟩)
        refine s_pure h (ru_quo32 10 1024 (h.ev rfl) (h.ev rfl) (by decide)) rfl ?_; intro f h
        refine s_nil ?_
        have e9 := h.holds 61 _ rfl
        refine ⟨?_, rfl⟩
        refine e9.trans ?_
        exact rfl
      · refine obF_in 62 rfl (by decide) (by decide) ?_
        intro f9 w2 hE hs hd9 hl
        have e59 : f9.tmps.getD 59 undef = _ := sx_get hl 59 5 (by kernel_rfl) (by kernel_rfl)
        have e61 : f9.tmps.getD 61 undef = _ := sx_get hl 61 7 (by kernel_rfl) (by kernel_rfl)
        have h := fin_slot [(59, _), (61, _)] hs hd9 (holds_lk ⟨e59, e61, trivial⟩)
        have s := s.more hE
        have z := St.start w2
        refine s_pure h (ru_xor32 (h.ev rfl) (h.ev rfl)) rfl ?_; intro f h
        refine s_nil ?_
        have e9 := h.holds 62 _ rfl
        refine ⟨?_, Ext.refl _, fun h9 => absurd h9 (by decide)⟩
        refine e9.trans ?_
        exact rfl
      · refine obH_in 63 rfl (by decide) ?_
        intro f9 w2 hE hs hl
        have e5 : f9.tmps.getD 5 undef = _ := sx_old hl 5 (by kernel_rfl) (by kernel_rfl) (h.holds 5 _ rfl)
        have h := fin_slot [(5, _)] hs rfl (holds_lk ⟨e5, trivial⟩)
        refine s_pure h (ru_move (h.ev rfl)) rfl ?_; intro f h
        refine s_nil ?_
        have e9 := h.holds 63 _ rfl
        refine ⟨?_, rfl⟩
        refine e9.trans ?_
        exact rfl
      · refine obH_in 64 rfl (by decide) ?_
        intro f9 w2 hE hs hl
        have e9 : f9.tmps.getD 9 undef = _ := sx_old hl 9 (by kernel_rfl) (by kernel_rfl) (h.holds 9 _ rfl)
        have h := fin_slot [(9, _)] hs rfl (holds_lk ⟨e9, trivial⟩)
        refine s_pure h (ru_move (h.ev rfl)) rfl ?_; intro f h
        refine s_nil ?_
        have e9 := h.holds 64 _ rfl
        refine ⟨?_, rfl⟩
        refine e9.trans ?_
        exact rfl
      · refine obH_in 65 rfl (by decide) ?_
        intro f9 w2 hE hs hl
        have e64 : f9.tmps.getD 64 undef = _ := sx_get hl 64 10 (by kernel_rfl) (by kernel_rfl)
        have h := fin_slot [(64, _)] hs rfl (holds_lk ⟨e64, trivial⟩)
        refine s_pure h (ru_sub (h.ev rfl) (h.ev rfl) (by omega)) rfl ?_; intro f h
        refine s_nil ?_
        have e9 := h.holds 65 _ rfl
        refine ⟨?_, rfl⟩
        refine e9.trans ?_
        exact rfl
      · refine obH_in 66 rfl (by decide) ?_
        intro f9 w2 hE hs hl
        have e63 : f9.tmps.getD 63 undef = _ := sx_get hl 63 9 (by kernel_rfl) (by kernel_rfl)
        have e65 : f9.tmps.getD 65 undef = _ := sx_get hl 65 11 (by kernel_rfl) (by kernel_rfl)
        have h := fin_slot [(63, _), (65, _)] hs rfl (holds_lk ⟨e63, e65, trivial⟩)
        refine s_pure h (ru_ixz (RdZ.of_own (s.getSl 0 rfl)) (t2 - 7) Tryd.underlying93 szo81 (h.ev rfl) (h.ev rfl) (by omega) (by omega)) rfl ?_; intro f h
        refine s_nil ?_
        have e9 := h.holds 66 _ rfl
        refine ⟨?_, rfl⟩
        refine e9.trans ?_
        exact rfl
      · refine obF_in 67 rfl (by decide) (by decide) ?_
        intro f9 w2 hE hs hd9 hl
        have e66 : f9.tmps.getD 66 undef = _ := sx_get hl 66 12 (by kernel_rfl) (by kernel_rfl)
        have h := fin_slot [(66, _)] hs hd9 (holds_lk ⟨e66, trivial⟩)
        have s := s.more hE
        have z := St.start w2
        refine s_load_at1 ((RdZ.of_own (s.getSl 0 rfl)).el1 (t2 - 7) (V := wv (spreadF (sb cx) (t2 - 7))) (wL_get _ _ _ (by omega))) h one81 rfl rfl ?_; intro f h
        refine s_nil ?_
        have e9 := h.holds 67 _ rfl
        refine ⟨?_, Ext.refl _, fun h9 => absurd h9 (by decide)⟩
        refine e9.trans ?_
        exact rfl
      · refine obF_in 68 rfl (by decide) (by decide) ?_
        intro f9 w2 hE hs hd9 hl
        have e62 : f9.tmps.getD 62 undef = _ := sx_get hl 62 8 (by kernel_rfl) (by kernel_rfl)
        have e67 : f9.tmps.getD 67 undef = _ := sx_get hl 67 13 (by kernel_rfl) (by kernel_rfl)
        have h := fin_slot [(62, _), (67, _)] hs hd9 (holds_lk ⟨e62, e67, trivial⟩)
        have s := s.more hE
        have z := St.start w2
        refine s_pure h (ru_add32 (h.ev rfl) (h.ev rfl)) rfl ?_; intro f h
        refine s_nil ?_
        have e9 := h.holds 68 _ rfl
        refine ⟨?_, Ext.refl _, fun h9 => absurd h9 (by decide)⟩
        refine e9.trans ?_
        exact rfl
      · refine obH_in 69 rfl (by decide) ?_
        intro f9 w2 hE hs hl
        have e10 : f9.tmps.getD 10 undef = _ := sx_old hl 10 (by kernel_rfl) (by kernel_rfl) (h.holds 10 _ rfl)
        have h := fin_slot [(10, _)] hs rfl (holds_lk ⟨e10, trivial⟩)
        refine s_pure h (ru_move (h.ev rfl)) rfl ?_; intro f h
        refine s_nil ?_
        have e9 := h.holds 69 _ rfl
        refine ⟨?_, rfl⟩
        refine e9.trans ?_
        exact rfl
      · refine obF_in 70 rfl (by decide) (by decide) ?_
        intro f9 w2 hE hs hd9 hl
        have e69 : f9.tmps.getD 69 undef = _ := sx_get hl 69 15 (by kernel_rfl) (by kernel_rfl)
        have h := fin_slot [(69, _)] hs hd9 (holds_lk ⟨e69, trivial⟩)
        have s := s.more hE
        have z := St.start w2
        refine s_call h s fnc55 (turn_rot _ 7 (by decide) _) rfl rfl ?_; intro f w1 v9 hT hE h s; obtain rfl := hT
        refine s_nil ?_
        have e9 := h.holds 70 _ rfl
        refine ⟨?_, hE, fun h9 => absurd h9 (by decide)⟩
        refine e9.trans ?_
        exact rfl
      · refine obH_in 71 rfl (by decide) ?_
        intro f9 w2 hE hs hl
        have e10 : f9.tmps.getD 10 undef = _ := sx_old hl 10 (by kernel_rfl) (by kernel_rfl) (h.holds 10 _ rfl)
        have h := fin_slot [(10, _)] hs rfl (holds_lk ⟨e10, trivial⟩)
        refine s_pure h (ru_move (h.ev rfl)) rfl ?_; intro f h
        refine s_nil ?_
        have e9 := h.holds 71 _ rfl
        refine ⟨?_, rfl⟩
        refine e9.trans ?_
        exact rfl
      · refine obF_in 72 rfl (by decide) (by decide) ?_
        intro f9 w2 hE hs hd9 hl
        have e71 : f9.tmps.getD 71 undef = _ := sx_get hl 71 17 (by kernel_rfl) (by kernel_rfl)
        have h := fin_slot [(71, _)] hs hd9 (holds_lk ⟨e71, trivial⟩)
        have s := s.more hE
        have z := St.start w2
        refine s_call h s fnc55 (turn_rot _ 18 (by decide) _) rfl rfl ?_; intro f w1 v9 hT hE h s; obtain rfl := hT
        refine s_nil ?_
        have e9 := h.holds 72 _ rfl
        refine ⟨?_, hE, fun h9 => absurd h9 (by decide)⟩
        refine e9.trans ?_
        exact rfl
      · refine obF_in 73 rfl (by decide) (by decide) ?_
        intro f9 w2 hE hs hd9 hl
        have e70 : f9.tmps.getD 70 undef = _ := sx_get hl 70 16 (by kernel_rfl) (by kernel_rfl)
        have e72 : f9.tmps.getD 72 undef = _ := sx_get hl 72 18 (by kernel_rfl) (by kernel_rfl)
        have h := fin_slot [(70, _), (72, _)] hs hd9 (holds_lk ⟨e70, e72, trivial⟩)
        have s := s.more hE
        have z := St.start w2
        refine s_pure h (ru_xor32 (h.ev rfl) (h.ev rfl)) rfl ?_; intro f h
        refine s_nil ?_
        have e9 := h.holds 73 _ rfl
        refine ⟨?_, Ext.refl _, fun h9 => absurd h9 (by decide)⟩
        refine e9.trans ?_
        exact rfl
      · refine obH_in 74 rfl (by decide) ?_
        intro f9 w2 hE hs hl
        have e10 : f9.tmps.getD 10 undef = _ := sx_old hl 10 (by kernel_rfl) (by kernel_rfl) (h.holds 10 _ rfl)
        have h := fin_slot [(10, _)] hs rfl (holds_lk ⟨e10, trivial⟩)
        refine s_pure h (ru_move (h.ev rfl)) rfl ?_; intro f h
        refine s_nil ?_
        have e9 := h.holds 74 _ rfl
        refine ⟨?_, rfl⟩
        refine e9.trans ?_
        exact rfl
      · refine obH_in 75 rfl (by decide) ?_
        intro f9 w2 hE hs hl
        have e74 : f9.tmps.getD 74 undef = _ := sx_get hl 74 20 (by kernel_rfl) (by kernel_rfl)
        have h := fin_slot [(74, _)] hs rfl (holds_lk ⟨e74, trivial⟩)
        refine s_pure h (ru_quo32 3 8 (h.ev rfl) (h.ev rfl) (by decide)) rfl ?_; intro f h
        refine s_nil ?_
        have e9 := h.holds 75 _ rfl
        refine ⟨?_, rfl⟩
        refine e9.trans ?_
        exact rfl
      · refine obF_in 76 rfl (by decide) (by decide) ?_
        intro f9 w2 hE hs hd9 hl
        have e73 : f9.tmps.getD 73 undef = _ := sx_get hl 73 19 (by kernel_rfl) (by kernel_rfl)
        have e75 : f9.tmps.getD 75 undef = _ := sx_get hl 75 21 (by kernel_rfl) (by kernel_rfl)
        have h := fin_slot [(73, _), (75, _)] hs hd9 (holds_lk ⟨e73, e75, trivial⟩)
        have s := s.more hE
        have z := St.start w2
        refine s_pure h (ru_xor32 (h.ev rfl) (h.ev rfl)) rfl ?_; intro f h
        refine s_nil ?_
        have e9 := h.holds 76 _ rfl
        refine ⟨?_, Ext.refl _, fun h9 => absurd h9 (by decide)⟩
        refine e9.trans ?_
        exact rfl
      · refine obF_in 77 rfl (by decide) (by decide) ?_
        intro f9 w2 hE hs hd9 hl
        have e68 : f9.tmps.getD 68 undef = _ := sx_get hl 68 14 (by kernel_rfl) (by kernel_rfl)
        have e76 : f9.tmps.getD 76 undef = _ := sx_get hl 76 22 (by kernel_rfl) (by kernel_rfl)
        have h := fin_slot [(68, _), (76, _)] hs hd9 (holds_lk ⟨e68, e76, trivial⟩)
        have s := s.more hE
        have z := St.start w2
        refine s_pure h (ru_add32 (h.ev rfl) (h.ev rfl)) rfl ?_; intro f h
        refine s_nil ?_
        have e9 := h.holds 77 _ rfl
        refine ⟨?_, Ext.refl _, fun h9 => absurd h9 (by decide)⟩
        refine e9.trans ?_
        exact rfl
      · refine obH_in 78 rfl (by decide) ?_
        intro f9 w2 hE hs hl
        have e5 : f9.tmps.getD 5 undef = _ := sx_old hl 5 (by kernel_rfl) (by kernel_rfl) (h.holds 5 _ rfl)
        have h := fin_slot [(5, _)] hs rfl (holds_lk ⟨e5, trivial⟩)
        refine s_pure h (ru_move (h.ev rfl)) rfl ?_; intro f h
        refine s_nil ?_
        have e9 := h.holds 78 _ rfl
        refine ⟨?_, rfl⟩
        refine e9.trans ?_
        exact rfl
      · refine obH_in 79 rfl (by decide) ?_
        intro f9 w2 hE hs hl
        have e9 : f9.tmps.getD 9 undef = _ := sx_old hl 9 (by kernel_rfl) (by kernel_rfl) (h.holds 9 _ rfl)
        have h := fin_slot [(9, _)] hs rfl (holds_lk ⟨e9, trivial⟩)
        refine s_pure h (ru_move (h.ev rfl)) rfl ?_; intro f h
        refine s_nil ?_
        have e9 := h.holds 79 _ rfl
        refine ⟨?_, rfl⟩
        refine e9.trans ?_
        exact rfl
      · refine obH_in 80 rfl (by decide) ?_
        intro f9 w2 hE hs hl
        have e79 : f9.tmps.getD 79 undef = _ := sx_get hl 79 25 (by kernel_rfl) (by kernel_rfl)
        have h := fin_slot [(79, _)] hs rfl (holds_lk ⟨e79, trivial⟩)
        refine s_pure h (ru_sub (h.ev rfl) (h.ev rfl) (by omega)) rfl ?_; intro f h
        refine s_nil ?_
        have e9 := h.holds 80 _ rfl
        refine ⟨?_, rfl⟩
        refine e9.trans ?_
        exact rfl
      · refine obH_in 81 rfl (by decide) ?_
        intro f9 w2 hE hs hl
        have e78 : f9.tmps.getD 78 undef = _ := sx_get hl 78 24 (by kernel_rfl) (by kernel_rfl)
        have e80 : f9.tmps.getD 80 undef = _ := sx_get hl 80 26 (by kernel_rfl) (by kernel_rfl)
        have h := fin_slot [(78, _), (80, _)] hs rfl (holds_lk ⟨e78, e80, trivial⟩)
        refine s_pure h (ru_ixz (RdZ.of_own (s.getSl 0 rfl)) (t2 - 16) Tryd.underlying93 szo81 (h.ev rfl) (h.ev rfl) (by omega) (by omega)) rfl ?_; intro f h
        refine s_nil ?_
        have e9 := h.holds 81 _ rfl
        refine ⟨?_, rfl⟩
        refine e9.trans ?_
        exact rfl
      · refine obF_in 82 rfl (by decide) (by decide) ?_
        intro f9 w2 hE hs hd9 hl
        have e81 : f9.tmps.getD 81 undef = _ := sx_get hl 81 27 (by kernel_rfl) (by kernel_rfl)
        have h := fin_slot [(81, _)] hs hd9 (holds_lk ⟨e81, trivial⟩)
        have s := s.more hE
        have z := St.start w2
        refine s_load_at1 ((RdZ.of_own (s.getSl 0 rfl)).el1 (t2 - 16) (V := wv (spreadF (sb cx) (t2 - 16))) (wL_get _ _ _ (by omega))) h one81 rfl rfl ?_; intro f h
        refine s_nil ?_
        have e9 := h.holds 82 _ rfl
        refine ⟨?_, Ext.refl _, fun h9 => absurd h9 (by decide)⟩
        refine e9.trans ?_
        exact rfl
      · exact obT_in (by decide) (by decide)
      · exact obT_in (by decide) (by decide)
      · exact obT_in (by decide) (by decide)
      · exact obT_in (by decide) (by decide)
      · intro f9 w2 hE hs hd9 hWp hT hR hFr hDj
        replace h := sl_new (ops := _) [(54, _), (55, _), (56, _), (57, _), (58, _), (59, _), (60, _), (61, _), (62, _), (63, _), (64, _), (65, _), (66, _), (67, _), (68, _), (69, _), (70, _), (71, _), (72, _), (73, _), (74, _), (75, _), (76, _), (77, _), (78, _), (79, _), (80, _), (81, _), (82, _)] h hs hd9 hR ⟨hT 0 54 (by decide) rfl, hT 1 55 (by decide) rfl, hT 2 56 (by decide) rfl, hT 3 57 (by decide) rfl, hT 4 58 (by decide) rfl, hT 5 59 (by decide) rfl, hT 6 60 (by decide) rfl, hT 7 61 (by decide) rfl, hT 8 62 (by decide) rfl, hT 9 63 (by decide) rfl, hT 10 64 (by decide) rfl, hT 11 65 (by decide) rfl, hT 12 66 (by decide) rfl, hT 13 67 (by decide) rfl, hT 14 68 (by decide) rfl, hT 15 69 (by decide) rfl, hT 16 70 (by decide) rfl, hT 17 71 (by decide) rfl, hT 18 72 (by decide) rfl, hT 19 73 (by decide) rfl, hT 20 74 (by decide) rfl, hT 21 75 (by decide) rfl, hT 22 76 (by decide) rfl, hT 23 77 (by decide) rfl, hT 24 78 (by decide) rfl, hT 25 79 (by decide) rfl, hT 26 80 (by decide) rfl, hT 27 81 (by decide) rfl, hT 28 82 (by decide) rfl, trivial⟩ (by kernel_rfl)
        replace s := s.more hE
        clear hT hR hFr hDj
        refine LstW.of ?_
        refine s_pure h (ru_val (wv (spreadF (sb cx) t2)) (ru_add32 (h.ev rfl) (h.ev rfl)) (congrArg wv (spread_hi _ t2 (by omega) (by omega)).symm)) rfl ?_; intro f h
        refine s_bslice (vs := [wv (spreadF (sb cx) t2)]) [.tmp 83] h s Tryd.underlying93 elm81 rfl rfl (by simp [Value.cells, wv]) rfl rfl rfl ?_; intro f w1 v84 h s
        refine s_append 1 0 h s Tryd.underlying93 elm81 rfl rfl rfl rfl (by decide) (by simp [Value.oneCell', Value.cells, wv]) (by unfold maxLen; omega) (by omega) rfl ?_; intro f w1 v85 h s
        replace s := s.pick _ (List.sublist_cons_self _ _)
        refine s_pure h (ru_assign (h.ev rfl)) rfl ?_; intro f h
        refine s_nil ?_
        refine b_norm ?_
        refine hK18 _ _ ?_
        refine c_region ?_
        refine s_pure h (ru_move (h.ev rfl)) rfl ?_; intro f h
        refine s_pure h (ru_add (h.ev rfl) (h.ev rfl) (by omega)) rfl ?_; intro f h
        refine s_pure h (ru_assign (h.ev rfl)) rfl ?_; intro f h
        refine s_nil ?_
        refine t_norm ?_
        exact ⟨_, by omega, ⟨t2 + 1, v85, h.only ⟨rfl, rfl, rfl, slot_int rfl (by omega), trivial⟩, St.as s ⟨sl_eq (by omega) (wL_succ _ t2).symm, trivial⟩, rfl, by omega, by omega⟩⟩
    · replace hc := of_decide_eq_false hc
      refine wpIn_exit ?_
      refine t_exit ?_
      refine t_exit ?_
      refine b_exit ?_
      refine hK14 _ _ ?_
      refine c_seq fun K21 hK21 => ?_
      refine c_region ?_
      refine s_pure h (ru_move (h.ev rfl)) rfl ?_; intro f h
      refine s_pure h (ru_assign (h.ev rfl)) rfl ?_; intro f h
      refine s_nil ?_
      refine hK21 _ _ ?_
      refine c_seq fun K22 hK22 => ?_
      refine c_region ?_
      refine s_call h s fnc56 (keys_any _) rfl rfl ?_; intro f w1 vk hT hE h sq; replace s := s.sl_new hE hT
      refine s_pure h (ru_assign (h.ev rfl)) rfl ?_; intro f h
      refine s_nil ?_
      refine hK22 _ _ ?_
      refine c_seq fun K23 hK23 => ?_
      refine c_seq fun K24 hK24 => ?_
      refine c_region ?_
      refine s_pure h (ru_assign (h.ev rfl)) rfl ?_; intro f h
      refine s_nil ?_
      refine hK24 _ _ ?_
      refine wpIn_block ?_
      refine wpIn_loop_ghost (fun nn aa ww => ∃ k : Nat, ∃ vv : Value, Sl 122 aa [(0, vh), (1, .string cx), (87, vk), (5, vc), (12, vv), (13, vk), (14, .int .i64 (k : Int))] ∧ St w [.sl vk 81 1 64 (wL kTab 64), .sl vc 81 1 64 (wL (spreadF (sb cx)) 64)] ww ∧ nn = 64 - k ∧ k ≤ 64 ∧ RdZ ww vv 1 8 (wL (rnds s9 (spreadF (sb cx)) k).at 8)) (64 - (0)) ⟨0, vh, h.only ⟨rfl, rfl, rfl, rfl, rfl, rfl, slot_int rfl (by omega), trivial⟩, s.as ⟨rfl, sl_eq (by omega) (by rw [show t2 = 64 from by omega]), trivial⟩, rfl, Nat.zero_le _, hh.keep s.ext⟩ ?_
      rintro _ f w1 ⟨k, vv, h, s, hnn, hp0, hp1⟩
      refine c_seq fun K25 hK25 => ?_
      refine c_seq fun K26 hK26 => ?_
      refine c_region ?_
      refine s_pure h (ru_move (h.ev rfl)) rfl ?_; intro f h
      refine s_pure h (ru_lss (h.ev rfl) (h.ev rfl)) rfl ?_; intro f h
      refine s_nil ?_
      refine hK26 _ _ ?_
      refine c_cond h rfl (fun hc => ?_) (fun hc => ?_)
      · replace hc := of_decide_eq_true hc
        refine wpIn_skip ?_
        refine hK25 _ _ ?_
        refine c_seq fun K27 hK27 => ?_
        refine wpIn_block ?_
        refine c_walkN 9 [[], [], [], [1, 2], [1, 2, 3], [], [], [5, 6], [5, 6, 7]] h (by kernel_rfl) (by kernel_rfl) (by kernel_rfl) ?_
        refine w_pure h (ru_move (h.ev rfl)) rfl ?_; intro f h
        refine w_pure h (ru_move (h.ev rfl)) rfl ?_; intro f h
        refine w_pure h (ru_move (h.ev rfl)) rfl ?_; intro f h
        refine w_pure h (ru_ixz (RdZ.of_own (s.getSl 0 rfl)) (k) Tryd.underlying93 szo81 (h.ev rfl) (h.ev rfl) (by omega) (by omega)) rfl ?_; intro f h
        refine w_load_at1 ((RdZ.of_own (s.getSl 0 rfl)).el1 (k) (V := wv (kTab k)) (wL_get _ _ _ (by omega))) h one81 rfl rfl ?_; intro f h
        refine w_pure h (ru_move (h.ev rfl)) rfl ?_; intro f h
        refine w_pure h (ru_move (h.ev rfl)) rfl ?_; intro f h
        refine w_pure h (ru_ixz (RdZ.of_own (s.getSl 1 rfl)) (k) Tryd.underlying93 szo81 (h.ev rfl) (h.ev rfl) (by omega) (by omega)) rfl ?_; intro f h
        refine w_load_at1 ((RdZ.of_own (s.getSl 1 rfl)).el1 (k) (V := wv (spreadF (sb cx) k)) (wL_get _ _ _ (by omega))) h one81 rfl rfl ?_; intro f h
        refine w_nilE s fun w1 hE9 s => ?_
        replace hp1 := hp1.keep hE9
        refine s_call h s fnc57 (round_any _ _ _ _ _ hp1) rfl rfl ?_; intro f w1 v101 hT hE h s
        refine s_pure h (ru_assign (h.ev rfl)) rfl ?_; intro f h
        refine s_nil ?_
        refine b_norm ?_
        refine hK27 _ _ ?_
        refine c_region ?_
        refine s_pure h (ru_move (h.ev rfl)) rfl ?_; intro f h
        refine s_pure h (ru_add (h.ev rfl) (h.ev rfl) (by omega)) rfl ?_; intro f h
        refine s_pure h (ru_assign (h.ev rfl)) rfl ?_; intro f h
        refine s_nil ?_
        refine t_norm ?_
        exact ⟨_, by omega, ⟨k + 1, v101, h.only ⟨rfl, rfl, rfl, rfl, rfl, rfl, slot_int rfl (by omega), trivial⟩, St.as s ⟨rfl, rfl, trivial⟩, rfl, by omega, RdZ.of_own hT⟩⟩
      · replace hc := of_decide_eq_false hc
        refine wpIn_exit ?_
        refine t_exit ?_
        refine t_exit ?_
        refine b_exit ?_
        refine hK23 _ _ ?_
        refine c_seq fun K28 hK28 => ?_
        refine c_region ?_
        obtain ⟨wm, hwm, hvm, s⟩ := St.fork (X := fun w9 => RdZ w9 vv 1 8 (wL (rnds s9 (spreadF (sb cx)) 64).at 8)) s (by rw [show k = 64 from by omega] at hp1; exact hp1)
        refine s_bslice (vs := []) [] h s Tryd.underlying93 elm81 rfl rfl (by simp) rfl rfl rfl ?_; intro f w1 v102 h s
        refine s_pure h (ru_assign (h.ev rfl)) rfl ?_; intro f h
        refine s_nil ?_
        refine hK28 _ _ ?_
        refine c_seq fun K29 hK29 => ?_
        refine c_seq fun K30 hK30 => ?_
        refine c_region ?_
        refine s_pure h (ru_move (h.ev rfl)) rfl ?_; intro f h
        refine s_pure h (ru_lenZ (hh.keep (hwm.trans s.ext)) Tryd.underlying93 (h.ev rfl)) rfl ?_; intro f h
        refine s_pure h (ru_move (h.ev rfl)) rfl ?_; intro f h
        refine s_nil ?_
        refine hK30 _ _ ?_
        refine wpIn_block ?_
        refine wpIn_loop_ghost (fun nn aa ww => ∃ i : Nat, ∃ vo : Value, Sl 122 aa [(0, vh), (1, .string cx), (12, vv), (15, vo), (104, .int .i64 8), (105, .int .i64 (i : Int))] ∧ St wm [.sl vo 81 1 i (wL (stirF s9 (spreadF (sb cx))) i)] ww ∧ nn = 8 - i ∧ i ≤ 8) (8 - (0)) ⟨0, v102, h.only ⟨rfl, rfl, rfl, rfl, slot_int rfl (by omega), slot_int rfl (by omega), trivial⟩, s.as ⟨sl_eq rfl rfl, trivial⟩, rfl, Nat.zero_le _⟩ ?_
        rintro _ f w1 ⟨i, vo, h, s, hnn, hp0⟩
        refine c_seq fun K31 hK31 => ?_
        refine c_region ?_
        refine s_pure h (ru_lss (h.ev rfl) (h.ev rfl)) rfl ?_; intro f h
        refine s_nil ?_
        refine hK31 _ _ ?_
        refine c_seq fun K32 hK32 => ?_
        refine c_cond h rfl (fun hc => ?_) (fun hc => ?_)
        · replace hc := of_decide_eq_true hc
          refine wpIn_skip ?_
          refine hK32 _ _ ?_
          refine c_seq fun K33 hK33 => ?_
          refine wpIn_block ?_
          refine c_seq fun K34 hK34 => ?_
          refine c_region ?_
          refine s_pure h (ru_move (h.ev rfl)) rfl ?_; intro f h
          refine s_pure h (ru_assign (h.ev rfl)) rfl ?_; intro f h
          refine s_nil ?_
          refine hK34 _ _ ?_
          have hbs := s.ext.le
          refine' c_reg2 9 [0, 1, 2, 3, 5, 6, 7] [] [[], [], [], [1, 2], [1, 2, 3], [], [], [5, 6], [5, 6, 7], [1, 2, 3, 4, 5, 6, 7, 8], [1, 2, 3, 4, 5, 6, 7, 8, 9], [0, 1, 2, 3, 4, 5, 6, 7, 8, 9, 10], [0, 1, 2, 3, 4, 5, 6, 7, 8, 9, 10, 11]] (is _ :: is _ :: is _ :: is _ :: is _ :: is _ :: is _ :: is _ :: is _ :: is undef :: is undef :: is undef :: is undef :: []) (fun _ => True) h s (by kernel_rfl) (by kernel_rfl) (by kernel_rfl) (by kernel_rfl) rfl (fun _ _ h _ => h) (trivial) ⟨⟨_, rfl⟩, ⟨_, rfl⟩, ⟨_, rfl⟩, ⟨_, rfl⟩, ⟨_, rfl⟩, ⟨_, rfl⟩, ⟨_, rfl⟩, trivial⟩ ⟨is_mono _, is_mono _, is_mono _, is_mono _, is_mono _, is_mono _, is_mono _, is_mono _, is_mono _, is_mono _, is_mono _, is_mono _, is_mono _, trivial⟩ (And.intro ?_ (And.intro ?_ (And.intro ?_ (And.intro ?_ (And.intro ?_ (And.intro ?_ (And.intro ?_ (And.intro ?_ (And.intro ?_ (And.intro ?_ (And.intro ?_ (And.intro ?_ (And.intro ?_ (trivial)))))))))))))) ?_
          rotate_left 9
          · refine obH_in 108 rfl (by decide) ?_
            intro f9 w2 hE hs hl
            have e15 : f9.tmps.getD 15 undef = _ := sx_old hl 15 (by kernel_rfl) (by kernel_rfl) (h.holds 15 _ rfl)
            have h := fin_slot [(15, _)] hs rfl (holds_lk ⟨e15, trivial⟩)
            refine s_pure h (ru_move (h.ev rfl)) rfl ?_; intro f h
            refine s_nil ?_
            have e9 := h.holds 108 _ rfl
            refine ⟨?_, rfl⟩
            refine e9.trans ?_
            exact rfl
          · refine obH_in 109 rfl (by decide) ?_
            intro f9 w2 hE hs hl
            have e0 : f9.tmps.getD 0 undef = _ := sx_old hl 0 (by kernel_rfl) (by kernel_rfl) (h.holds 0 _ rfl)
            have h := fin_slot [(0, _)] hs rfl (holds_lk ⟨e0, trivial⟩)
            refine s_pure h (ru_move (h.ev rfl)) rfl ?_; intro f h
            refine s_nil ?_
            have e9 := h.holds 109 _ rfl
            refine ⟨?_, rfl⟩
            refine e9.trans ?_
            exact rfl
          · refine obH_in 110 rfl (by decide) ?_
            intro f9 w2 hE hs hl
            have e16 : f9.tmps.getD 16 undef = _ := sx_old hl 16 (by kernel_rfl) (by kernel_rfl) (h.holds 16 _ rfl)
            have h := fin_slot [(16, _)] hs rfl (holds_lk ⟨e16, trivial⟩)
            refine s_pure h (ru_move (h.ev rfl)) rfl ?_; intro f h
            refine s_nil ?_
            have e9 := h.holds 110 _ rfl
            refine ⟨?_, rfl⟩
            refine e9.trans ?_
            exact rfl
          · refine obH_in 111 rfl (by decide) ?_
            intro f9 w2 hE hs hl
            have e109 : f9.tmps.getD 109 undef = _ := sx_get hl 109 1 (by kernel_rfl) (by kernel_rfl)
            have e110 : f9.tmps.getD 110 undef = _ := sx_get hl 110 2 (by kernel_rfl) (by kernel_rfl)
            have h := fin_slot [(109, _), (110, _)] hs rfl (holds_lk ⟨e109, e110, trivial⟩)
            refine s_pure h (ru_ixz (hh.keep (hwm.trans s.ext)) (i) Tryd.underlying93 szo81 (h.ev rfl) (h.ev rfl) (by omega) (by omega)) rfl ?_; intro f h
            refine s_nil ?_
            have e9 := h.holds 111 _ rfl
            refine ⟨?_, rfl⟩
            refine e9.trans ?_
            exact rfl
          · refine obF_in 112 rfl (by decide) (by decide) ?_
            intro f9 w2 hE hs hd9 hl
            have e111 : f9.tmps.getD 111 undef = _ := sx_get hl 111 3 (by kernel_rfl) (by kernel_rfl)
            have h := fin_slot [(111, _)] hs hd9 (holds_lk ⟨e111, trivial⟩)
            have s := s.more hE
            have z := St.start w2
            refine s_load_at1 ((hh.keep (hwm.trans s.ext)).el1 (i) (V := wv (s9 i)) (wL_get _ _ _ (by omega))) h one81 rfl rfl ?_; intro f h
            refine s_nil ?_
            have e9 := h.holds 112 _ rfl
            refine ⟨?_, Ext.refl _, fun h9 => absurd h9 (by decide)⟩
            refine e9.trans ?_
            exact rfl
          · refine obH_in 113 rfl (by decide) ?_
            intro f9 w2 hE hs hl
            have e12 : f9.tmps.getD 12 undef = _ := sx_old hl 12 (by kernel_rfl) (by kernel_rfl) (h.holds 12 _ rfl)
            have h := fin_slot [(12, _)] hs rfl (holds_lk ⟨e12, trivial⟩)
            refine s_pure h (ru_move (h.ev rfl)) rfl ?_; intro f h
            refine s_nil ?_
            have e9 := h.holds 113 _ rfl
            refine ⟨?_, rfl⟩
            refine e9.trans ?_
            exact rfl
          · refine obH_in 114 rfl (by decide) ?_
            intro f9 w2 hE hs hl
            have e16 : f9.tmps.getD 16 undef = _ := sx_old hl 16 (by kernel_rfl) (by kernel_rfl) (h.holds 16 _ rfl)
            have h := fin_slot [(16, _)] hs rfl (holds_lk ⟨e16, trivial⟩)
            refine s_pure h (ru_move (h.ev rfl)) rfl ?_; intro f h
            refine s_nil ?_
            have e9 := h.holds 114 _ rfl
            refine ⟨?_, rfl⟩
            refine e9.trans ?_
            exact rfl
          · refine obH_in 115 rfl (by decide) ?_
            intro f9 w2 hE hs hl
            have e113 : f9.tmps.getD 113 undef = _ := sx_get hl 113 5 (by kernel_rfl) (by kernel_rfl)
            have e114 : f9.tmps.getD 114 undef = _ := sx_get hl 114 6 (by kernel_rfl) (by kernel_rfl)
            have h := fin_slot [(113, _), (114, _)] hs rfl (holds_lk ⟨e113, e114, trivial⟩)
            refine s_pure h (ru_ixz (hvm.keep s.ext) (i) Tryd.underlying93 szo81 (h.ev rfl) (h.ev rfl) (by omega) (by omega)) rfl ?_; intro f h
            refine s_nil ?_
            have e9 := h.holds 115 _ rfl
            refine ⟨?_, rfl⟩
            refine e9.trans ?_
            exact rfl
          · refine obF_in 116 rfl (by decide) (by decide) ?_
            intro f9 w2 hE hs hd9 hl
            have e115 : f9.tmps.getD 115 undef = _ := sx_get hl 115 7 (by kernel_rfl) (by kernel_rfl)
            have h := fin_slot [(115, _)] hs hd9 (holds_lk ⟨e115, trivial⟩)
            have s := s.more hE
            have z := St.start w2
            refine s_load_at1 ((hvm.keep s.ext).el1 (i) (V := wv ((rnds s9 (spreadF (sb cx)) 64).at i)) (wL_get _ _ _ (by omega))) h one81 rfl rfl ?_; intro f h
            refine s_nil ?_
            have e9 := h.holds 116 _ rfl
            refine ⟨?_, Ext.refl _, fun h9 => absurd h9 (by decide)⟩
            refine e9.trans ?_
            exact rfl
          · exact obT_in (by decide) (by decide)
          · exact obT_in (by decide) (by decide)
          · exact obT_in (by decide) (by decide)
          · exact obT_in (by decide) (by decide)
          · intro f9 w2 hE hs hd9 hWp hT hR hFr hDj
            replace h := sl_new (ops := _) [(108, _), (109, _), (110, _), (111, _), (112, _), (113, _), (114, _), (115, _), (116, _)] h hs hd9 hR ⟨hT 0 108 (by decide) rfl, hT 1 109 (by decide) rfl, hT 2 110 (by decide) rfl, hT 3 111 (by decide) rfl, hT 4 112 (by decide) rfl, hT 5 113 (by decide) rfl, hT 6 114 (by decide) rfl, hT 7 115 (by decide) rfl, hT 8 116 (by decide) rfl, trivial⟩ (by kernel_rfl)
            replace s := s.more hE
            clear hT hR hFr hDj
            refine LstW.of ?_
            refine s_pure h (ru_add32 (h.ev rfl) (h.ev rfl)) rfl ?_; intro f h
            refine s_bslice (vs := [wv (stirF s9 (spreadF (sb cx)) i)]) [.tmp 117] h s Tryd.underlying93 elm81 rfl rfl (by simp [Value.cells, wv]) rfl rfl rfl ?_; intro f w1 v118 h s
            refine s_append 1 0 h s Tryd.underlying93 elm81 rfl rfl rfl rfl (by decide) (by simp [Value.oneCell', Value.cells, wv]) (by unfold maxLen; omega) (by omega) rfl ?_; intro f w1 v119 h s
            replace s := s.pick _ (List.sublist_cons_self _ _)
            refine s_pure h (ru_assign (h.ev rfl)) rfl ?_; intro f h
            refine s_nil ?_
            refine b_norm ?_
            refine hK33 _ _ ?_
            refine c_region ?_
            refine s_pure h (ru_add (h.ev rfl) (h.ev rfl) (by omega)) rfl ?_; intro f h
            refine s_pure h (ru_move (h.ev rfl)) rfl ?_; intro f h
            refine s_nil ?_
            refine t_norm ?_
            exact ⟨_, by omega, ⟨i + 1, v119, h.only ⟨rfl, rfl, rfl, rfl, slot_int rfl (by omega), slot_int rfl (by omega), trivial⟩, St.as s ⟨sl_eq (by omega) (wL_succ _ i).symm, trivial⟩, rfl, by omega⟩⟩
        · replace hc := of_decide_eq_false hc
          refine wpIn_exit ?_
          refine t_exit ?_
          refine t_exit ?_
          refine b_exit ?_
          refine hK29 _ _ ?_
          refine c_seq fun K35 hK35 => ?_
          refine c_region ?_
          refine s_pure h (ru_move (h.ev rfl)) rfl ?_; intro f h
          refine s_pure h (ru_assign (h.ev rfl)) rfl ?_; intro f h
          refine s_nil ?_
          refine hK35 _ _ ?_
          refine wpIn_ret ?_
          replace s := s.rebase hwm
          obtain rfl : i = 8 := by omega
          exact e_tmp rfl h s rfl (s.getSl 0 rfl)

theorem filled_any (sx : ByteArray) (hsz : sx.size < 2147483648) (w : World) : Calls Tryd.prog 50 [.string sx].toArray w (Ret w (is (.string (fillB sx)))) := by
  refine c_enter Tryd.func50 rfl Tryd.ntmps50 rfl [(0, .string sx)] (by simp) fun f h => ?_
  have s := St.start w
  refine c_seq fun K1 hK1 => ?_
  refine c_region ?_
  refine s_pure h (ru_assign (h.ev rfl)) rfl ?_; intro f h
  refine s_nil ?_
  refine hK1 _ _ ?_
  refine c_seq fun K2 hK2 => ?_
  refine c_region ?_
  refine s_pure h (ru_move (h.ev rfl)) rfl ?_; intro f h
  refine s_bytes h s Tryd.underlying9 Tryd.underlying61 Tryd.underlying5 rfl (by omega) rfl ?_; intro f w1 v8 h s
  refine s_pure h (ru_assign (h.ev rfl)) rfl ?_; intro f h
  refine s_nil ?_
  refine hK2 _ _ ?_
  refine c_seq fun K3 hK3 => ?_
  refine c_region ?_
  refine s_pure h (ru_move (h.ev rfl)) rfl ?_; intro f h
  refine s_bslice (vs := [.int .u8 128]) [.const (.int .u8 (128))] h s Tryd.underlying61 elm5 rfl rfl (by simp [Value.cells]) rfl rfl rfl ?_; intro f w1 v10 h s
  refine s_append 1 0 h s Tryd.underlying61 elm5 rfl rfl rfl rfl (by decide) (by simp [Value.oneCell', Value.cells]) (by unfold maxLen; omega) (by omega) rfl ?_; intro f w1 v11 h s
  replace s := s.pick _ (List.sublist_cons_self _ _)
  refine s_pure h (ru_assign (h.ev rfl)) rfl ?_; intro f h
  refine s_nil ?_
  refine hK3 _ _ ?_
  refine c_seq fun K4 hK4 => ?_
  refine wpIn_block ?_
  refine wpIn_loop_ghost (fun nn aa ww => ∃ vb : Value, ∃ k : Nat, Sl 39 aa [(0, .string sx), (8, v8), (9, v8), (10, v10), (3, vb)] ∧ St w [.sl vb 5 1 (sx.size + 1 + k) (byL (fillL sx k 0))] ww ∧ nn = (120 - (sx.size + 1 + k) % 64) % 64 ∧ k ≤ (120 - (sx.size + 1) % 64) % 64) ((120 - (sx.size + 1 + (0)) % 64) % 64) ⟨v11, 0, h.only ⟨rfl, rfl, rfl, rfl, rfl, trivial⟩, s.as ⟨sl_eq rfl (by simp [byL, fillL, Value.cells]), trivial⟩, rfl, Nat.zero_le _⟩ ?_
  rintro _ f w1 ⟨vb, k, h, s, hnn, hp0⟩
  refine c_seq fun K5 hK5 => ?_
  refine c_seq fun K6 hK6 => ?_
  refine c_region ?_
  refine s_pure h (ru_move (h.ev rfl)) rfl ?_; intro f h
  refine s_len_sl 0 h s Tryd.underlying61 rfl rfl rfl ?_; intro f h
  refine s_pure h (ru_rem (h.ev rfl) (h.ev rfl) (by omega)) rfl ?_; intro f h
  refine s_pure h (ru_neq (h.ev rfl) (h.ev rfl)) rfl ?_; intro f h
  refine s_nil ?_
  refine hK6 _ _ ?_
  refine c_cond h rfl (fun hc => ?_) (fun hc => ?_)
  · replace hc := of_decide_eq_true hc
    refine wpIn_skip ?_
    refine hK5 _ _ ?_
    refine wpIn_block ?_
    refine c_region ?_
    refine s_pure h (ru_move (h.ev rfl)) rfl ?_; intro f h
    refine s_bslice (vs := [.int .u8 0]) [.const (.int .u8 (0))] h s Tryd.underlying61 elm5 rfl rfl (by simp [Value.cells]) rfl rfl rfl ?_; intro f w1 v17 h s
    refine s_append 1 0 h s Tryd.underlying61 elm5 rfl rfl rfl rfl (by decide) (by simp [Value.oneCell', Value.cells]) (by unfold maxLen; omega) (by omega) rfl ?_; intro f w1 v18 h s
    replace s := s.pick _ (List.sublist_cons_self _ _)
    refine s_pure h (ru_assign (h.ev rfl)) rfl ?_; intro f h
    refine s_nil ?_
    refine b_norm ?_
    refine t_norm ?_
    exact ⟨_, by omega, ⟨v18, k + 1, h.only ⟨rfl, rfl, rfl, rfl, rfl, trivial⟩, St.as s ⟨sl_eq (by omega) (by rw [fillL_k, ← byL_append]; rfl), trivial⟩, rfl, by omega⟩⟩
  · replace hc := of_decide_eq_false hc
    refine wpIn_exit ?_
    refine t_exit ?_
    refine t_exit ?_
    refine b_exit ?_
    refine hK4 _ _ ?_
    refine c_seq fun K7 hK7 => ?_
    refine c_region ?_
    refine s_pure h (ru_move (h.ev rfl)) rfl ?_; intro f h
    refine s_pure h (ru_len_str Tryd.underlying9 (h.ev rfl)) rfl ?_; intro f h
    refine s_pure h (ru_conv_in Tryd.underlying3 Tryd.underlying98 (h.ev rfl) (IntWalk.u64_in _ (by omega))) rfl ?_; intro f h
    refine s_pure h (ru_val (.int .u64 ((8 * sx.size : Nat) : Int)) (ru_mulw (h.ev rfl) (h.ev rfl)) (congrArg (Value.int .u64) ((IntWalk.u64_in _ (by omega)).trans (by omega)))) rfl ?_; intro f h
    refine s_pure h (ru_assign (h.ev rfl)) rfl ?_; intro f h
    refine s_nil ?_
    refine hK7 _ _ ?_
    refine c_seq fun K8 hK8 => ?_
    refine c_region ?_
    refine s_pure h (ru_assign (h.ev rfl)) rfl ?_; intro f h
    refine s_nil ?_
    refine hK8 _ _ ?_
    refine c_seq fun K9 hK9 => ?_
    refine c_seq fun K10 hK10 => ?_
    refine c_region ?_
    refine s_pure h (ru_assign (h.ev rfl)) rfl ?_; intro f h
    refine s_nil ?_
    refine hK10 _ _ ?_
    refine wpIn_block ?_
    refine wpIn_loop_ghost (fun nn aa ww => ∃ vc : Value, ∃ j : Nat, Sl 39 aa [(0, .string sx), (8, v8), (9, v8), (10, v10), (3, vc), (4, .int .u64 ((8 * sx.size : Nat) : Int)), (5, .int .u64 ((72057594037927936 / 256 ^ j : Nat) : Int)), (6, .int .i64 (j : Int))] ∧ St w [.sl vc 5 1 (sx.size + 1 + k + j) (byL (fillL sx k j))] ww ∧ nn = 8 - j ∧ j ≤ 8) (8 - (0)) ⟨vb, 0, h.only ⟨rfl, rfl, rfl, rfl, rfl, rfl, slot_int rfl (by decide), slot_int rfl (by omega), trivial⟩, s.as ⟨sl_eq rfl rfl, trivial⟩, rfl, Nat.zero_le _⟩ ?_
    rintro _ f w1 ⟨vc, j, h, s, hnn, hp0⟩
    have hq := p256le j
    refine c_seq fun K11 hK11 => ?_
    refine c_seq fun K12 hK12 => ?_
    refine c_region ?_
    refine s_pure h (ru_move (h.ev rfl)) rfl ?_; intro f h
    refine s_pure h (ru_lss (h.ev rfl) (h.ev rfl)) rfl ?_; intro f h
    refine s_nil ?_
    refine hK12 _ _ ?_
    refine c_cond h rfl (fun hc => ?_) (fun hc => ?_)
    · replace hc := of_decide_eq_true hc
      refine wpIn_skip ?_
      refine hK11 _ _ ?_
      refine c_seq fun K13 hK13 => ?_
      refine wpIn_block ?_
      refine c_seq fun K14 hK14 => ?_
      refine c_region ?_
      refine s_pure h (ru_move (h.ev rfl)) rfl ?_; intro f h
      have hq8 := p256 j (by omega)
      refine s_pure h (ru_move (h.ev rfl)) rfl ?_; intro f h
      refine s_pure h (ru_move (h.ev rfl)) rfl ?_; intro f h
      refine s_pure h (ru_val (.int .u64 (dgt sx.size j : Int)) (ru_quo_u64 (h.ev rfl) (h.ev rfl) (⟨by omega, by omega, hq8⟩)) (congrArg (Value.int .u64) (Int.natCast_ediv _ _).symm)) rfl ?_; intro f h
      refine s_pure h (ru_val (.int .u64 ((dgt sx.size j % 256 : Nat) : Int)) (ru_rem (h.ev rfl) (h.ev rfl) (by omega)) (congrArg (Value.int .u64) (by omega))) rfl ?_; intro f h
      refine s_pure h (ru_val (.int .u8 ((dgt sx.size j % 256 : Nat) : Int)) (ru_conv_u8 Tryd.underlying98 Tryd.underlying5 (h.ev rfl)) (congrArg (Value.int .u8) (by omega))) rfl ?_; intro f h
      refine s_bslice (vs := [.int .u8 ((dgt sx.size j % 256 : Nat) : Int)]) [.tmp 32] h s Tryd.underlying61 elm5 rfl rfl (by simp [Value.cells]) rfl rfl rfl ?_; intro f w1 v33 h s
      refine s_append 1 0 h s Tryd.underlying61 elm5 rfl rfl rfl rfl (by decide) (by simp [Value.oneCell', Value.cells]) (by unfold maxLen; omega) (by omega) rfl ?_; intro f w1 v34 h s
      replace s := s.pick _ (List.sublist_cons_self _ _)
      refine s_pure h (ru_assign (h.ev rfl)) rfl ?_; intro f h
      refine s_nil ?_
      refine hK14 _ _ ?_
      refine c_region ?_
      refine s_pure h (ru_move (h.ev rfl)) rfl ?_; intro f h
      refine s_pure h (ru_quo_u64 (h.ev rfl) (h.ev rfl) (⟨by omega, by omega, by decide⟩)) rfl ?_; intro f h
      refine s_pure h (ru_assign (h.ev rfl)) rfl ?_; intro f h
      refine s_nil ?_
      refine b_norm ?_
      refine hK13 _ _ ?_
      refine c_region ?_
      refine s_pure h (ru_move (h.ev rfl)) rfl ?_; intro f h
      refine s_pure h (ru_add (h.ev rfl) (h.ev rfl) (by omega)) rfl ?_; intro f h
      refine s_pure h (ru_assign (h.ev rfl)) rfl ?_; intro f h
      refine s_nil ?_
      refine t_norm ?_
      exact ⟨_, by omega, ⟨v34, j + 1, h.only ⟨rfl, rfl, rfl, rfl, rfl, rfl, slot_int rfl (p256s j), slot_int rfl (by omega), trivial⟩, St.as s ⟨sl_eq (by omega) (by rw [fillL_j, ← byL_append]; rfl), trivial⟩, rfl, by omega⟩⟩
    · replace hc := of_decide_eq_false hc
      refine wpIn_exit ?_
      refine t_exit ?_
      refine t_exit ?_
      refine b_exit ?_
      refine hK9 _ _ ?_
      refine c_seq fun K15 hK15 => ?_
      refine c_region ?_
      refine s_pure h (ru_move (h.ev rfl)) rfl ?_; intro f h
      refine s_str_sl 0 h s Tryd.underlying61 Tryd.underlying5 Tryd.underlying9 rfl rfl rfl ?_; intro f h
      refine s_pure h (ru_assign (h.ev rfl)) rfl ?_; intro f h
      refine s_nil ?_
      refine hK15 _ _ ?_
      refine wpIn_ret ?_
      exact e_tmp rfl h s rfl (by show _ = _; rw [show k = (120 - (sx.size + 1) % 64) % 64 from by omega, show j = 8 from by omega]; rfl)

theorem rsum_any (sx : ByteArray) (hsz : sx.size < 2147483648) (w : World) : Calls Tryd.prog 41 [.string sx].toArray w (Ret w (is (idV (sumB sx)))) := by
  have hnb := nbk_le sx
  have hfs := fillB_size sx
  refine c_enter Tryd.func41 rfl Tryd.ntmps41 rfl [(0, .string sx)] (by simp) fun f h => ?_
  have s := St.start w
  refine c_seq fun K1 hK1 => ?_
  refine c_region ?_
  refine s_alloc (idArr 0#256) h s zero23 rfl rfl ?_; intro f w1 b2 h s
  refine s_nil ?_
  refine hK1 _ _ ?_
  refine c_seq fun K2 hK2 => ?_
  refine c_region ?_
  refine s_call h s fnc49 (first_any _) rfl rfl ?_; intro f w1 vk hT hE h sq; replace s := s.sl_new hE hT
  refine s_pure h (ru_assign (h.ev rfl)) rfl ?_; intro f h
  refine s_nil ?_
  refine hK2 _ _ ?_
  refine c_seq fun K3 hK3 => ?_
  refine c_region ?_
  refine s_pure h (ru_move (h.ev rfl)) rfl ?_; intro f h
  refine s_call h s fnc50 (filled_any _ (by omega) _) rfl rfl ?_; intro f w1 v9 hT hE h s; obtain rfl := hT
  refine s_pure h (ru_assign (h.ev rfl)) rfl ?_; intro f h
  refine s_nil ?_
  refine hK3 _ _ ?_
  refine c_seq fun K4 hK4 => ?_
  refine c_seq fun K5 hK5 => ?_
  refine c_region ?_
  refine s_pure h (ru_assign (h.ev rfl)) rfl ?_; intro f h
  refine s_nil ?_
  refine hK5 _ _ ?_
  refine wpIn_block ?_
  refine wpIn_loop_ghost (fun nn aa ww => ∃ d : Nat, ∃ vv : Value, Sl 64 aa [(0, .string sx), (2, .pointer (some ⟨b2, 0, none⟩)), (3, vv), (4, .string (fillB sx)), (5, .int .i64 ((64 * d : Nat) : Int))] ∧ St w [.sl vv 81 1 8 (wL (Hs sx d) 8), .blk b2 (.cells (idArr 0#256) 23)] ww ∧ nn = nbk sx - d ∧ d ≤ nbk sx) (nbk sx - (0)) ⟨0, vk, h.only ⟨rfl, rfl, rfl, rfl, slot_int rfl rfl, trivial⟩, s.as ⟨sl_eq rfl rfl, rfl, trivial⟩, rfl, Nat.zero_le _⟩ ?_
  rintro _ f w1 ⟨d, vv, h, s, hnn, hp0⟩
  refine c_seq fun K6 hK6 => ?_
  refine c_seq fun K7 hK7 => ?_
  refine c_region ?_
  refine s_pure h (ru_move (h.ev rfl)) rfl ?_; intro f h
  refine s_pure h (ru_move (h.ev rfl)) rfl ?_; intro f h
  refine s_pure h (ru_val (.int .i64 ((64 * nbk sx : Nat) : Int)) (ru_len_str Tryd.underlying9 (h.ev rfl)) (by rw [hfs])) rfl ?_; intro f h
  refine s_pure h (ru_lss (h.ev rfl) (h.ev rfl)) rfl ?_; intro f h
  refine s_nil ?_
  refine hK7 _ _ ?_
  refine c_cond h rfl (fun hc => ?_) (fun hc => ?_)
  · replace hc := of_decide_eq_true hc
    refine wpIn_skip ?_
    refine hK6 _ _ ?_
    refine c_seq fun K8 hK8 => ?_
    refine wpIn_block ?_
    refine c_region ?_
    refine s_pure h (ru_move (h.ev rfl)) rfl ?_; intro f h
    refine s_pure h (ru_move (h.ev rfl)) rfl ?_; intro f h
    refine s_pure h (ru_move (h.ev rfl)) rfl ?_; intro f h
    refine s_pure h (ru_move (h.ev rfl)) rfl ?_; intro f h
    refine s_pure h (ru_add (h.ev rfl) (h.ev rfl) (by omega)) rfl ?_; intro f h
    refine s_pure h (ru_slice_str_both (64 * d) (64 * d + 64) Tryd.underlying9 (h.ev rfl) (h.ev rfl) (h.ev rfl) (by omega) (by omega) (by omega) (by omega)) rfl ?_; intro f h
    refine s_call h s fnc51 (block_any _ _ _ (cut64 sx d (by omega)) _ (RdZ.of_own (s.getSl 0 rfl))) rfl rfl ?_; intro f w1 v24 hT hE h sq; replace s := s.sl_new hE hT
    refine s_pure h (ru_assign (h.ev rfl)) rfl ?_; intro f h
    refine s_nil ?_
    refine b_norm ?_
    refine hK8 _ _ ?_
    refine c_region ?_
    refine s_pure h (ru_move (h.ev rfl)) rfl ?_; intro f h
    refine s_pure h (ru_add (h.ev rfl) (h.ev rfl) (by omega)) rfl ?_; intro f h
    refine s_pure h (ru_assign (h.ev rfl)) rfl ?_; intro f h
    refine s_nil ?_
    refine t_norm ?_
    exact ⟨_, by omega, ⟨d + 1, v24, h.only ⟨rfl, rfl, rfl, rfl, slot_int rfl (by omega), trivial⟩, St.as (s.pick _ (List.Sublist.cons_cons _ (List.Sublist.cons _ (List.Sublist.cons_cons _ (List.nil_sublist _))))) ⟨sl_eq rfl (hs_next sx d (by omega)), rfl, trivial⟩, rfl, by omega⟩⟩
  · replace hc := of_decide_eq_false hc
    refine wpIn_exit ?_
    refine t_exit ?_
    refine t_exit ?_
    refine b_exit ?_
    refine hK4 _ _ ?_
    refine c_seq fun K9 hK9 => ?_
    refine c_region ?_
    refine s_pure h (ru_build0 idTy) rfl ?_; intro f h
    refine s_alloc (idArr 0#256) h s zero23 rfl rfl ?_; intro f w1 b6 h s
    refine s_store_row 0 h s row23 rfl rfl rfl (by first | exact idArr_size _ | exact bytesF_size _ _) (by first | exact idArr_size _ | exact bytesF_size _ _) (by first | exact idArr_ones _ | exact bytesF_ones _ _) ?_; intro w1 s
    refine s_nil ?_
    refine hK9 _ _ ?_
    refine c_seq fun K10 hK10 => ?_
    refine c_seq fun K11 hK11 => ?_
    refine c_region ?_
    refine s_pure h (ru_move (h.ev rfl)) rfl ?_; intro f h
    refine s_len_sl 1 h s Tryd.underlying93 rfl rfl rfl ?_; intro f h
    refine s_pure h (ru_move (h.ev rfl)) rfl ?_; intro f h
    refine s_nil ?_
    refine hK11 _ _ ?_
    refine wpIn_block ?_
    refine wpIn_loop_ghost (fun nn aa ww => ∃ i : Nat, Sl 64 aa [(0, .string sx), (2, .pointer (some ⟨b2, 0, none⟩)), (3, vv), (6, .pointer (some ⟨b6, 0, none⟩)), (26, vv), (27, .int .i64 8), (28, .int .i64 (i : Int))] ∧ St w [.blk b6 (.cells (bytesF (wrF (Hs sx (nbk sx)) (4 * i)) 32) 23), .sl vv 81 1 8 (wL (Hs sx (nbk sx)) 8), .blk b2 (.cells (idArr 0#256) 23)] ww ∧ nn = 8 - i ∧ i ≤ 8) (8 - (0)) ⟨0, h.only ⟨rfl, rfl, rfl, rfl, rfl, slot_int rfl (by omega), slot_int rfl (by omega), trivial⟩, s.as ⟨cells_eq (wrF_zero _), sl_eq rfl (by rw [show d = nbk sx from by omega]), rfl, trivial⟩, rfl, Nat.zero_le _⟩ ?_
    rintro _ f w1 ⟨i, h, s, hnn, hp0⟩
    refine c_seq fun K12 hK12 => ?_
    refine c_region ?_
    refine s_pure h (ru_lss (h.ev rfl) (h.ev rfl)) rfl ?_; intro f h
    refine s_nil ?_
    refine hK12 _ _ ?_
    refine c_seq fun K13 hK13 => ?_
    refine c_cond h rfl (fun hc => ?_) (fun hc => ?_)
    · replace hc := of_decide_eq_true hc
      refine wpIn_skip ?_
      refine hK13 _ _ ?_
      refine c_seq fun K14 hK14 => ?_
      refine wpIn_block ?_
      refine c_seq fun K15 hK15 => ?_
      refine c_region ?_
      refine s_pure h (ru_move (h.ev rfl)) rfl ?_; intro f h
      refine s_pure h (ru_ixz (RdZ.of_own (s.getSl 1 rfl)) (i) Tryd.underlying93 szo81 (h.ev rfl) (h.ev rfl) (by omega) (by omega)) rfl ?_; intro f h
      refine s_load_at1 ((RdZ.of_own (s.getSl 1 rfl)).el1 (i) (V := wv ((Hs sx (nbk sx)) i)) (wL_get _ _ _ (by omega))) h one81 rfl rfl ?_; intro f h
      refine s_pure h (ru_assign (h.ev rfl)) rfl ?_; intro f h
      refine s_pure h (ru_assign (h.ev rfl)) rfl ?_; intro f h
      refine s_nil ?_
      refine hK15 _ _ ?_
      refine c_seq fun K16 hK16 => ?_
      refine c_region ?_
      refine s_pure h (ru_move (h.ev rfl)) rfl ?_; intro f h
      refine s_pure h (ru_mul (h.ev rfl) (h.ev rfl) (by omega)) rfl ?_; intro f h
      refine s_pure h (ru_move (h.ev rfl)) rfl ?_; intro f h
      refine s_pure h (ru_quo32 24 16777216 (h.ev rfl) (h.ev rfl) (by decide)) rfl ?_; intro f h
      refine s_pure h (ru_val (.int .u8 ((wbyte (Hs sx (nbk sx)) (4 * i) : Nat) : Int)) (ru_conv_w8 Tryd.underlying81 Tryd.underlying5 (h.ev rfl)) (congrArg (Value.int .u8) (by rw [← wb0]))) rfl ?_; intro f h
      refine s_pure h (ru_ix (4 * i) Tryd.underlying23 size5 (h.ev rfl) (h.ev rfl) (by omega) (by omega)) rfl ?_; intro f h
      refine s_store_one 0 h s one5 rfl rfl rfl (by simp; omega) (rfl) ?_; intro w1 s
      have s := s.as (B' := [.blk b6 (.cells (bytesF (wrF (Hs sx (nbk sx)) (4 * i + 1)) 32) 23), .sl vv 81 1 8 (wL (Hs sx (nbk sx)) 8), .blk b2 (.cells (idArr 0#256) 23)]) ⟨cells_eq (wrF_next (Hs sx (nbk sx)) _), rfl, rfl, trivial⟩
      refine s_nil ?_
      refine hK16 _ _ ?_
      refine c_seq fun K17 hK17 => ?_
      refine c_region ?_
      refine s_pure h (ru_move (h.ev rfl)) rfl ?_; intro f h
      refine s_pure h (ru_mul (h.ev rfl) (h.ev rfl) (by omega)) rfl ?_; intro f h
      refine s_pure h (ru_add (h.ev rfl) (h.ev rfl) (by omega)) rfl ?_; intro f h
      refine s_pure h (ru_move (h.ev rfl)) rfl ?_; intro f h
      refine s_pure h (ru_quo32 16 65536 (h.ev rfl) (h.ev rfl) (by decide)) rfl ?_; intro f h
      refine s_pure h (ru_rem (h.ev rfl) (h.ev rfl) (by omega)) rfl ?_; intro f h
      refine s_pure h (ru_val (.int .u8 ((wbyte (Hs sx (nbk sx)) (4 * i + 1) : Nat) : Int)) (ru_conv_u8 Tryd.underlying81 Tryd.underlying5 (h.ev rfl)) (congrArg (Value.int .u8) (by rw [← wb1]; omega))) rfl ?_; intro f h
      refine s_pure h (ru_ix (4 * i + 1) Tryd.underlying23 size5 (h.ev rfl) (h.ev rfl) (by omega) (by omega)) rfl ?_; intro f h
      refine s_store_one 0 h s one5 rfl rfl rfl (by simp; omega) (rfl) ?_; intro w1 s
      have s := s.as (B' := [.blk b6 (.cells (bytesF (wrF (Hs sx (nbk sx)) (4 * i + 2)) 32) 23), .sl vv 81 1 8 (wL (Hs sx (nbk sx)) 8), .blk b2 (.cells (idArr 0#256) 23)]) ⟨cells_eq (wrF_next (Hs sx (nbk sx)) _), rfl, rfl, trivial⟩
      refine s_nil ?_
      refine hK17 _ _ ?_
      refine c_seq fun K18 hK18 => ?_
      refine c_region ?_
      refine s_pure h (ru_move (h.ev rfl)) rfl ?_; intro f h
      refine s_pure h (ru_mul (h.ev rfl) (h.ev rfl) (by omega)) rfl ?_; intro f h
      refine s_pure h (ru_add (h.ev rfl) (h.ev rfl) (by omega)) rfl ?_; intro f h
      refine s_pure h (ru_move (h.ev rfl)) rfl ?_; intro f h
      refine s_pure h (ru_quo32 8 256 (h.ev rfl) (h.ev rfl) (by decide)) rfl ?_; intro f h
      refine s_pure h (ru_rem (h.ev rfl) (h.ev rfl) (by omega)) rfl ?_; intro f h
      refine s_pure h (ru_val (.int .u8 ((wbyte (Hs sx (nbk sx)) (4 * i + 2) : Nat) : Int)) (ru_conv_u8 Tryd.underlying81 Tryd.underlying5 (h.ev rfl)) (congrArg (Value.int .u8) (by rw [← wb2]; omega))) rfl ?_; intro f h
      refine s_pure h (ru_ix (4 * i + 2) Tryd.underlying23 size5 (h.ev rfl) (h.ev rfl) (by omega) (by omega)) rfl ?_; intro f h
      refine s_store_one 0 h s one5 rfl rfl rfl (by simp; omega) (rfl) ?_; intro w1 s
      have s := s.as (B' := [.blk b6 (.cells (bytesF (wrF (Hs sx (nbk sx)) (4 * i + 3)) 32) 23), .sl vv 81 1 8 (wL (Hs sx (nbk sx)) 8), .blk b2 (.cells (idArr 0#256) 23)]) ⟨cells_eq (wrF_next (Hs sx (nbk sx)) _), rfl, rfl, trivial⟩
      refine s_nil ?_
      refine hK18 _ _ ?_
      refine c_region ?_
      refine s_pure h (ru_move (h.ev rfl)) rfl ?_; intro f h
      refine s_pure h (ru_mul (h.ev rfl) (h.ev rfl) (by omega)) rfl ?_; intro f h
      refine s_pure h (ru_add (h.ev rfl) (h.ev rfl) (by omega)) rfl ?_; intro f h
      refine s_pure h (ru_move (h.ev rfl)) rfl ?_; intro f h
      refine s_pure h (ru_rem (h.ev rfl) (h.ev rfl) (by omega)) rfl ?_; intro f h
      refine s_pure h (ru_val (.int .u8 ((wbyte (Hs sx (nbk sx)) (4 * i + 3) : Nat) : Int)) (ru_conv_u8 Tryd.underlying81 Tryd.underlying5 (h.ev rfl)) (congrArg (Value.int .u8) (by rw [← wb3]; omega))) rfl ?_; intro f h
      refine s_pure h (ru_ix (4 * i + 3) Tryd.underlying23 size5 (h.ev rfl) (h.ev rfl) (by omega) (by omega)) rfl ?_; intro f h
      refine s_store_one 0 h s one5 rfl rfl rfl (by simp; omega) (rfl) ?_; intro w1 s
      have s := s.as (B' := [.blk b6 (.cells (bytesF (wrF (Hs sx (nbk sx)) (4 * i + 4)) 32) 23), .sl vv 81 1 8 (wL (Hs sx (nbk sx)) 8), .blk b2 (.cells (idArr 0#256) 23)]) ⟨cells_eq (wrF_next (Hs sx (nbk sx)) _), rfl, rfl, trivial⟩
      refine s_nil ?_
      refine b_norm ?_
      refine hK14 _ _ ?_
      refine c_region ?_
      refine s_pure h (ru_add (h.ev rfl) (h.ev rfl) (by omega)) rfl ?_; intro f h
      refine s_pure h (ru_move (h.ev rfl)) rfl ?_; intro f h
      refine s_nil ?_
      refine t_norm ?_
      exact ⟨_, by omega, ⟨i + 1, h.only ⟨rfl, rfl, rfl, rfl, rfl, slot_int rfl (by omega), slot_int rfl (by omega), trivial⟩, St.as s ⟨cells_eq (by rw [show 4 * (i + 1) = 4 * i + 4 from by omega]), rfl, rfl, trivial⟩, rfl, by omega⟩⟩
    · replace hc := of_decide_eq_false hc
      refine wpIn_exit ?_
      refine t_exit ?_
      refine t_exit ?_
      refine b_exit ?_
      refine hK10 _ _ ?_
      refine c_seq fun K19 hK19 => ?_
      refine c_region ?_
      refine s_load_row 0 h s row23 rfl rfl (by first | exact idArr_size _ | exact bytesF_size _ _) rfl ?_; intro f h
      refine s_store_row 2 h s row23 rfl rfl rfl (by first | exact idArr_size _ | exact bytesF_size _ _) (by first | exact idArr_size _ | exact bytesF_size _ _) (by first | exact idArr_ones _ | exact bytesF_ones _ _) ?_; intro w1 s
      refine s_nil ?_
      refine hK19 _ _ ?_
      refine wpIn_ret ?_
      exact e_row 2 rfl h s row23 rfl rfl (by first | exact idArr_size _ | exact bytesF_size _ _) (by show _ = _; rw [wrF_end _ (4 * i) (by omega)]; rfl)
end Go.Proofs.YtcnnlakcpcofkaaDoor
