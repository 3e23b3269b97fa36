/- What package spread answers: the queue, the ends, Links, Deliver. -/
import Derived.Test.YtdehanjhphfanaaXa
set_option linter.unusedVariables false
set_option linter.unusedSimpArgs false
set_option linter.unusedSectionVars false
namespace Go.Proofs.Ytdehanjhphfanaa
open Go.RowKit
theorem bmul64_any (y : Nat) (hy : y ≤ 1000000) (w : World) : Calls Try.prog 83 [.int .u64 1, .int .u64 (y : Int)].toArray w (Ret w (is (.tuple #[.int .u64 0, .int .u64 (y : Int)]))) := by
  refine c_enter Try.func83 rfl Try.ntmps83 rfl [(0, .int .u64 1), (1, .int .u64 (y : Int))] (by simp) fun f h => ?_
  have s := St.start w
  refine c_seq fun K1 hK1 => ?_
  refine c_region ?_
  refine s_pure h (ru_assign (h.ev rfl)) rfl ?_; intro f h
  refine s_pure h (ru_assign (h.ev rfl)) rfl ?_; intro f h
  refine s_nil ?_
  refine hK1 _ _ ?_
  refine c_seq fun K2 hK2 => ?_
  refine c_region ?_
  refine s_pure h (ru_move (h.ev rfl)) rfl ?_; intro f h
  refine s_pure h (ru_val (.int .u64 1) (ru_andw (h.ev rfl) (h.ev rfl)) (congrArg (Value.int .u64) (by decide))) rfl ?_; intro f h
  refine s_pure h (ru_assign (h.ev rfl)) rfl ?_; intro f h
  refine s_nil ?_
  refine hK2 _ _ ?_
  refine c_seq fun K3 hK3 => ?_
  refine c_region ?_
  refine s_pure h (ru_move (h.ev rfl)) rfl ?_; intro f h
  refine s_pure h (ru_val (.int .u64 0) (ru_shr (h.ev rfl) (h.ev rfl) (by omega)) (congrArg (Value.int .u64) (by decide))) rfl ?_; intro f h
  refine s_pure h (ru_assign (h.ev rfl)) rfl ?_; intro f h
  refine s_nil ?_
  refine hK3 _ _ ?_
  refine c_seq fun K4 hK4 => ?_
  refine c_region ?_
  refine s_pure h (ru_move (h.ev rfl)) rfl ?_; intro f h
  refine s_pure h (ru_val (.int .u64 (y : Int)) (ru_andw (h.ev rfl) (h.ev rfl)) (congrArg (Value.int .u64) (and_low y (by omega)))) rfl ?_; intro f h
  refine s_pure h (ru_assign (h.ev rfl)) rfl ?_; intro f h
  refine s_nil ?_
  refine hK4 _ _ ?_
  refine c_seq fun K5 hK5 => ?_
  refine c_region ?_
  refine s_pure h (ru_move (h.ev rfl)) rfl ?_; intro f h
  refine s_pure h (ru_val (.int .u64 0) (ru_shr (h.ev rfl) (h.ev rfl) (by omega)) (congrArg (Value.int .u64) (shr_low y (by omega)))) rfl ?_; intro f h
  refine s_pure h (ru_assign (h.ev rfl)) rfl ?_; intro f h
  refine s_nil ?_
  refine hK5 _ _ ?_
  refine c_seq fun K6 hK6 => ?_
  refine c_region ?_
  refine s_pure h (ru_move (h.ev rfl)) rfl ?_; intro f h
  refine s_pure h (ru_move (h.ev rfl)) rfl ?_; intro f h
  refine s_pure h (ru_val (.int .u64 (y : Int)) (ru_mulw (h.ev rfl) (h.ev rfl)) (congrArg (Value.int .u64) (mul_low y (by omega)))) rfl ?_; intro f h
  refine s_pure h (ru_assign (h.ev rfl)) rfl ?_; intro f h
  refine s_nil ?_
  refine hK6 _ _ ?_
  refine c_seq fun K7 hK7 => ?_
  refine c_region ?_
  refine s_pure h (ru_move (h.ev rfl)) rfl ?_; intro f h
  refine s_pure h (ru_move (h.ev rfl)) rfl ?_; intro f h
  refine s_pure h (ru_val (.int .u64 0) (ru_mulw (h.ev rfl) (h.ev rfl)) (congrArg (Value.int .u64) (mul_0 _))) rfl ?_; intro f h
  refine s_pure h (ru_move (h.ev rfl)) rfl ?_; intro f h
  refine s_pure h (ru_val (.int .u64 0) (ru_shr (h.ev rfl) (h.ev rfl) (by omega)) (congrArg (Value.int .u64) (shr_low y (by omega)))) rfl ?_; intro f h
  refine s_pure h (ru_val (.int .u64 0) (ru_addw (h.ev rfl) (h.ev rfl)) (congrArg (Value.int .u64) (by decide))) rfl ?_; intro f h
  refine s_pure h (ru_assign (h.ev rfl)) rfl ?_; intro f h
  refine s_nil ?_
  refine hK7 _ _ ?_
  refine c_seq fun K8 hK8 => ?_
  refine c_region ?_
  refine s_pure h (ru_move (h.ev rfl)) rfl ?_; intro f h
  refine s_pure h (ru_val (.int .u64 0) (ru_andw (h.ev rfl) (h.ev rfl)) (congrArg (Value.int .u64) (by decide))) rfl ?_; intro f h
  refine s_pure h (ru_assign (h.ev rfl)) rfl ?_; intro f h
  refine s_nil ?_
  refine hK8 _ _ ?_
  refine c_seq fun K9 hK9 => ?_
  refine c_region ?_
  refine s_pure h (ru_move (h.ev rfl)) rfl ?_; intro f h
  refine s_pure h (ru_val (.int .u64 0) (ru_shr (h.ev rfl) (h.ev rfl) (by omega)) (congrArg (Value.int .u64) (by decide))) rfl ?_; intro f h
  refine s_pure h (ru_assign (h.ev rfl)) rfl ?_; intro f h
  refine s_nil ?_
  refine hK9 _ _ ?_
  refine c_seq fun K10 hK10 => ?_
  refine c_region ?_
  refine s_pure h (ru_move (h.ev rfl)) rfl ?_; intro f h
  refine s_pure h (ru_move (h.ev rfl)) rfl ?_; intro f h
  refine s_pure h (ru_move (h.ev rfl)) rfl ?_; intro f h
  refine s_pure h (ru_val (.int .u64 0) (ru_mulw (h.ev rfl) (h.ev rfl)) (congrArg (Value.int .u64) (by decide))) rfl ?_; intro f h
  refine s_pure h (ru_val (.int .u64 0) (ru_addw (h.ev rfl) (h.ev rfl)) (congrArg (Value.int .u64) (by decide))) rfl ?_; intro f h
  refine s_pure h (ru_assign (h.ev rfl)) rfl ?_; intro f h
  refine s_nil ?_
  refine hK10 _ _ ?_
  refine c_seq fun K11 hK11 => ?_
  refine c_region ?_
  refine s_pure h (ru_move (h.ev rfl)) rfl ?_; intro f h
  refine s_pure h (ru_move (h.ev rfl)) rfl ?_; intro f h
  refine s_pure h (ru_val (.int .u64 0) (ru_mulw (h.ev rfl) (h.ev rfl)) (congrArg (Value.int .u64) (by decide))) rfl ?_; intro f h
  refine s_pure h (ru_move (h.ev rfl)) rfl ?_; intro f h
  refine s_pure h (ru_val (.int .u64 0) (ru_addw (h.ev rfl) (h.ev rfl)) (congrArg (Value.int .u64) (by decide))) rfl ?_; intro f h
  refine s_pure h (ru_move (h.ev rfl)) rfl ?_; intro f h
  refine s_pure h (ru_val (.int .u64 0) (ru_shr (h.ev rfl) (h.ev rfl) (by omega)) (congrArg (Value.int .u64) (by decide))) rfl ?_; intro f h
  refine s_pure h (ru_val (.int .u64 0) (ru_addw (h.ev rfl) (h.ev rfl)) (congrArg (Value.int .u64) (by decide))) rfl ?_; intro f h
  refine s_pure h (ru_assign (h.ev rfl)) rfl ?_; intro f h
  refine s_nil ?_
  refine hK11 _ _ ?_
  refine c_seq fun K12 hK12 => ?_
  refine c_region ?_
  refine s_pure h (ru_move (h.ev rfl)) rfl ?_; intro f h
  refine s_pure h (ru_move (h.ev rfl)) rfl ?_; intro f h
  refine s_pure h (ru_val (.int .u64 (y : Int)) (ru_mulw (h.ev rfl) (h.ev rfl)) (congrArg (Value.int .u64) (mul_low y (by omega)))) rfl ?_; intro f h
  refine s_pure h (ru_assign (h.ev rfl)) rfl ?_; intro f h
  refine s_nil ?_
  refine hK12 _ _ ?_
  refine wpIn_ret ?_
  exact e_tmps rfl h s rfl rfl (rfl)

theorem bmul_any (y : Nat) (hy : y ≤ 1000000) (w : World) : Calls Try.prog 73 [.int .u64 1, .int .u64 (y : Int)].toArray w (Ret w (is (.tuple #[.int .u64 0, .int .u64 (y : Int)]))) := by
  refine c_enter Try.func73 rfl Try.ntmps73 rfl [(0, .int .u64 1), (1, .int .u64 (y : Int))] (by simp) fun f h => ?_
  have s := St.start w
  refine c_seq fun K1 hK1 => ?_
  refine c_region ?_
  refine s_pure h (ru_assign (h.ev rfl)) rfl ?_; intro f h
  refine s_pure h (ru_assign (h.ev rfl)) rfl ?_; intro f h
  refine s_nil ?_
  refine hK1 _ _ ?_
  refine c_seq fun K2 hK2 => ?_
  refine wpIn_cond_false (h.ev rfl) ?_
  refine wpIn_skip ?_
  refine hK2 _ _ ?_
  refine c_seq fun K3 hK3 => ?_
  refine c_region ?_
  refine s_pure h (ru_move (h.ev rfl)) rfl ?_; intro f h
  refine s_pure h (ru_move (h.ev rfl)) rfl ?_; intro f h
  refine s_call h s fnc83 (bmul64_any y hy _) rfl rfl ?_; intro f w1 v9 hT hE h s; obtain rfl := hT
  refine s_pure h (ru_move (h.ev rfl)) rfl ?_; intro f h
  refine s_pure h (ru_extract (h.ev rfl) rfl) rfl ?_; intro f h
  refine s_pure h (ru_extract (h.ev rfl) rfl) rfl ?_; intro f h
  refine s_pure h (ru_assign (h.ev rfl)) rfl ?_; intro f h
  refine s_pure h (ru_assign (h.ev rfl)) rfl ?_; intro f h
  refine s_nil ?_
  refine hK3 _ _ ?_
  refine c_seq fun K4 hK4 => ?_
  refine c_region ?_
  refine s_pure h (ru_move (h.ev rfl)) rfl ?_; intro f h
  refine s_pure h (ru_move (h.ev rfl)) rfl ?_; intro f h
  refine s_pure h (ru_assign (h.ev rfl)) rfl ?_; intro f h
  refine s_pure h (ru_assign (h.ev rfl)) rfl ?_; intro f h
  refine s_nil ?_
  refine hK4 _ _ ?_
  refine wpIn_ret ?_
  exact e_tmps rfl h s rfl rfl (rfl)

theorem repeat_any (x : Int) (n : Nat) (hn : n ≤ 1000000) (vx : Value) (w : World) (hx : RdZ w vx 1 1 [.int .i64 x]) : Calls Try.prog 54 [vx, .int .i64 (n : Int)].toArray w (Ret w (fun v w' => Owns w' w.heap.size 3 1 v n (intC (List.replicate n x)))) := by
  refine c_enter Try.func54 rfl Try.ntmps54 rfl [(0, vx), (1, .int .i64 (n : Int))] (by simp) fun f h => ?_
  have s := St.start w
  refine c_seq fun K1 hK1 => ?_
  refine c_region ?_
  refine s_pure h (ru_assign (h.ev rfl)) rfl ?_; intro f h
  refine s_nil ?_
  refine hK1 _ _ ?_
  refine c_seq fun K2 hK2 => ?_
  refine c_seq fun K3 hK3 => ?_
  refine c_region ?_
  refine s_pure h (ru_move (h.ev rfl)) rfl ?_; intro f h
  refine s_pure h (ru_val (.bool false) (ru_lss (h.ev rfl) (h.ev rfl)) (congrArg Value.bool (decide_eq_false (by omega)))) rfl ?_; intro f h
  refine s_nil ?_
  refine hK3 _ _ ?_
  refine wpIn_cond_false (h.ev rfl) ?_
  refine wpIn_skip ?_
  refine hK2 _ _ ?_
  refine c_seq fun K4 hK4 => ?_
  refine c_region ?_
  refine s_pure h (ru_move (h.ev rfl)) rfl ?_; intro f h
  refine s_pure h (ru_lenZ (hx.keep s.ext) Try.underlying28 (h.ev rfl)) rfl ?_; intro f h
  refine s_pure h (ru_val (.int .u64 1) (ru_conv_in Try.underlying3 Try.underlying125 (h.ev rfl) (IntWalk.u64_in _ (by omega))) (rfl)) rfl ?_; intro f h
  refine s_pure h (ru_move (h.ev rfl)) rfl ?_; intro f h
  refine s_pure h (ru_conv_in Try.underlying3 Try.underlying125 (h.ev rfl) (IntWalk.u64_in _ (by omega))) rfl ?_; intro f h
  refine s_call h s fnc73 (bmul_any n (by omega) _) rfl rfl ?_; intro f w1 v9 hT hE h s; obtain rfl := hT
  refine s_pure h (ru_move (h.ev rfl)) rfl ?_; intro f h
  refine s_pure h (ru_extract (h.ev rfl) rfl) rfl ?_; intro f h
  refine s_pure h (ru_extract (h.ev rfl) rfl) rfl ?_; intro f h
  refine s_pure h (ru_assign (h.ev rfl)) rfl ?_; intro f h
  refine s_pure h (ru_assign (h.ev rfl)) rfl ?_; intro f h
  refine s_nil ?_
  refine hK4 _ _ ?_
  refine c_seq fun K5 hK5 => ?_
  refine c_seq fun K6 hK6 => ?_
  refine c_region ?_
  refine s_pure h (ru_move (h.ev rfl)) rfl ?_; intro f h
  refine s_pure h (ru_val (.bool false) (ru_gtr (h.ev rfl) (h.ev rfl)) (congrArg Value.bool (decide_eq_false (by decide)))) rfl ?_; intro f h
  refine s_pure h (ru_move (h.ev rfl)) rfl ?_; intro f h
  refine s_on h rfl rfl rfl ?_
  refine s_pure h (ru_move (h.ev rfl)) rfl ?_; intro f h
  refine s_on h rfl rfl rfl ?_
  refine s_pure h (ru_val (.bool false) (ru_gtr (h.ev rfl) (h.ev rfl)) (congrArg Value.bool (decide_eq_false (by omega)))) rfl ?_; intro f h
  refine s_pure h (ru_pick_f (h.ev rfl) (h.ev rfl)) rfl ?_; intro f h
  refine s_nil ?_
  refine hK6 _ _ ?_
  refine wpIn_cond_false (h.ev rfl) ?_
  refine wpIn_skip ?_
  refine hK5 _ _ ?_
  refine c_seq fun K7 hK7 => ?_
  refine c_region ?_
  refine s_pure h (ru_move (h.ev rfl)) rfl ?_; intro f h
  refine s_pure h (ru_conv_in Try.underlying125 Try.underlying3 (h.ev rfl) (IntWalk.i64_in _ (by omega))) rfl ?_; intro f h
  refine s_make_sl (n := n) (xs := repL n 0 x) h s Try.underlying28 elm3 zero3 rfl rfl (rfl) (by omega) (by unfold maxLen; omega) ((made_int n).trans (repL_00 n x)) (by rw [repL_len _ (Nat.zero_le _), Nat.mul_one]) rfl ?_; intro f w1 v30 h s
  refine s_pure h (ru_assign (h.ev rfl)) rfl ?_; intro f h
  refine s_nil ?_
  refine hK7 _ _ ?_
  refine c_seq fun K8 hK8 => ?_
  refine c_region ?_
  refine s_pure h (ru_move (h.ev rfl)) rfl ?_; intro f h
  refine s_pure h (ru_move (h.ev rfl)) rfl ?_; intro f h
  obtain ⟨q0, hq0⟩ : ∃ q9, q9 = min 1 (n - 0) := ⟨_, rfl⟩
  refine s_copy_own (k := 0) 0 q0 (hx.keep s.ext) h s Try.underlying28 size3 ((rfl : _ = some v30).trans (congrArg some (drop0 (s.getSl 0 rfl)).symm)) rfl rfl (Nat.zero_le _) hq0 (by simp [Value.oneCell']) rfl ?_; intro f w3 h s
  replace s := s.resl (m := n) (ys := repL n q0 x) 0 rfl rfl (repL_first x hq0)
  refine s_pure h (ru_assign (h.ev rfl)) rfl ?_; intro f h
  refine s_nil ?_
  refine hK8 _ _ ?_
  refine c_seq fun K9 hK9 => ?_
  refine wpIn_block ?_
  refine wpIn_loop_ghost (fun nn aa ww => ∃ j : Nat, Sl 48 aa [(0, vx), (1, .int .i64 (n : Int)), (30, v30), (31, v30), (7, v30), (8, .int .i64 (j : Int))] ∧ St w [.sl v30 3 1 n (repL n j x)] ww ∧ nn = n - j ∧ j ≤ n ∧ (0 < n → 0 < j)) (n - (q0)) ⟨q0, h.only ⟨rfl, rfl, rfl, rfl, rfl, slot_int rfl (by omega), trivial⟩, s.as ⟨rfl, trivial⟩, rfl, by omega, by omega⟩ ?_
  rintro _ f w1 ⟨j, h, s, hnn, hp0, hp1⟩
  refine c_seq fun K10 hK10 => ?_
  refine c_seq fun K11 hK11 => ?_
  refine c_region ?_
  refine s_pure h (ru_move (h.ev rfl)) rfl ?_; intro f h
  refine s_pure h (ru_move (h.ev rfl)) rfl ?_; intro f h
  refine s_len_sl 0 h s Try.underlying28 rfl rfl rfl ?_; intro f h
  refine s_pure h (ru_lss (h.ev rfl) (h.ev rfl)) rfl ?_; intro f h
  refine s_nil ?_
  refine hK11 _ _ ?_
  refine c_cond h rfl (fun hc => ?_) (fun hc => ?_)
  · have hj9 : j < n := by have := of_decide_eq_true hc; omega
    refine wpIn_skip ?_
    refine hK10 _ _ ?_
    refine wpIn_block ?_
    obtain ⟨q9, hq9⟩ : ∃ q9, q9 = min j (n - j) := ⟨_, rfl⟩
    have hV9 : RdZ _ v30 1 n (repL n j x) := RdZ.of_own (s.getSl 0 rfl)
    refine c_regT 1 9 [[], [], [], [1, 2], [], [], [4, 5], [1, 2, 3, 4, 5, 6], [0, 1, 2, 3, 4, 5, 6, 7], [0, 1, 2, 3, 4, 5, 6, 7, 8]] [[], [], [], [], [], [], [], [10], [], []] [fun _ => [], fun _ => [], fun _ => [], fun _ => [], fun _ => [], fun _ => [], fun _ => [], fun v => [.sl v30 3 1 n (repL n (j + q9) x)], fun _ => [], fun _ => []] [[.sl v30 3 1 n (repL n j x)]] [fun v => v 0 = .int .i64 (j : Int), fun v => v 1 = v30, fun v => v 2 = .int .i64 (j : Int), fun v => v 3 = (dropV v30 1 j), fun v => v 4 = v30, fun v => v 5 = .int .i64 (j : Int), fun v => v 6 = (cutV v30 j), fun v => v 7 = .int .i64 (q9 : Int), fun v => v 8 = .int .i64 ((j : Int) + (q9 : Int)), fun _ => True] [] h s rfl (by kernel_rfl) (by kernel_rfl) (by kernel_rfl) (And.intro ?_ (And.intro ?_ (And.intro ?_ (And.intro ?_ (And.intro ?_ (And.intro ?_ (And.intro ?_ (And.intro ?_ (And.intro ?_ (trivial)))))))))) [0, 1, 2, 3, 4, 5, 6, 7, 8] (by kernel_rfl) ?_
    · intro f9 w2 vl9 E9 hs9 hd9 hl hF s
      have e8 : f9.tmps.getD 8 undef = _ := oc_old hl 8 (by kernel_rfl) (by kernel_rfl) (h.holds 8 _ rfl)
      have h := fin_slot [(8, _)] (hs9.trans h.size) (hd9.trans h.defers) (holds_lk ⟨e8, trivial⟩)
      replace s : St w (E9) _ := s
      refine s_pure h (ru_move (h.ev rfl)) rfl ?_; intro f h
      exact s_nil ⟨_, oc_out 38 rfl (h.holds 38 _ rfl), rfl, s⟩
    · intro f9 w2 vl9 E9 hs9 hd9 hl hF s
      have e7 : f9.tmps.getD 7 undef = _ := oc_old hl 7 (by kernel_rfl) (by kernel_rfl) (h.holds 7 _ rfl)
      have h := fin_slot [(7, _)] (hs9.trans h.size) (hd9.trans h.defers) (holds_lk ⟨e7, trivial⟩)
      replace s : St w (E9) _ := s
      refine s_pure h (ru_move (h.ev rfl)) rfl ?_; intro f h
      exact s_nil ⟨_, oc_out 39 rfl (h.holds 39 _ rfl), rfl, s⟩
    · intro f9 w2 vl9 E9 hs9 hd9 hl hF s
      have e8 : f9.tmps.getD 8 undef = _ := oc_old hl 8 (by kernel_rfl) (by kernel_rfl) (h.holds 8 _ rfl)
      have h := fin_slot [(8, _)] (hs9.trans h.size) (hd9.trans h.defers) (holds_lk ⟨e8, trivial⟩)
      replace s : St w (E9) _ := s
      refine s_pure h (ru_move (h.ev rfl)) rfl ?_; intro f h
      exact s_nil ⟨_, oc_out 40 rfl (h.holds 40 _ rfl), rfl, s⟩
    · intro f9 w2 vl9 E9 hs9 hd9 hl hF s
      have e39 : f9.tmps.getD 39 undef = v30 := (oc_get hl 39 1 (by kernel_rfl) (by kernel_rfl)).trans (hF 1 (by decide))
      have e40 : f9.tmps.getD 40 undef = .int .i64 (j : Int) := (oc_get hl 40 2 (by kernel_rfl) (by kernel_rfl)).trans (hF 2 (by decide))
      have h := fin_slot [(39, v30), (40, .int .i64 (j : Int))] (hs9.trans h.size) (hd9.trans h.defers) (holds_lk ⟨e39, e40, trivial⟩)
      replace s : St w (E9) _ := s
      refine s_pure h (ru_slice_loZ (hV9) (j) Try.underlying28 szo3 (h.ev rfl) (h.ev rfl) (rfl) (by omega)) rfl ?_; intro f h
      exact s_nil ⟨_, oc_out 41 rfl (h.holds 41 _ rfl), rfl, s⟩
    · intro f9 w2 vl9 E9 hs9 hd9 hl hF s
      have e7 : f9.tmps.getD 7 undef = _ := oc_old hl 7 (by kernel_rfl) (by kernel_rfl) (h.holds 7 _ rfl)
      have h := fin_slot [(7, _)] (hs9.trans h.size) (hd9.trans h.defers) (holds_lk ⟨e7, trivial⟩)
      replace s : St w (E9) _ := s
      refine s_pure h (ru_move (h.ev rfl)) rfl ?_; intro f h
      exact s_nil ⟨_, oc_out 42 rfl (h.holds 42 _ rfl), rfl, s⟩
    · intro f9 w2 vl9 E9 hs9 hd9 hl hF s
      have e8 : f9.tmps.getD 8 undef = _ := oc_old hl 8 (by kernel_rfl) (by kernel_rfl) (h.holds 8 _ rfl)
      have h := fin_slot [(8, _)] (hs9.trans h.size) (hd9.trans h.defers) (holds_lk ⟨e8, trivial⟩)
      replace s : St w (E9) _ := s
      refine s_pure h (ru_move (h.ev rfl)) rfl ?_; intro f h
      exact s_nil ⟨_, oc_out 43 rfl (h.holds 43 _ rfl), rfl, s⟩
    · intro f9 w2 vl9 E9 hs9 hd9 hl hF s
      have e42 : f9.tmps.getD 42 undef = v30 := (oc_get hl 42 4 (by kernel_rfl) (by kernel_rfl)).trans (hF 4 (by decide))
      have e43 : f9.tmps.getD 43 undef = .int .i64 (j : Int) := (oc_get hl 43 5 (by kernel_rfl) (by kernel_rfl)).trans (hF 5 (by decide))
      have h := fin_slot [(42, v30), (43, .int .i64 (j : Int))] (hs9.trans h.size) (hd9.trans h.defers) (holds_lk ⟨e42, e43, trivial⟩)
      replace s : St w (E9) _ := s
      refine s_pure h (ru_slice_hiZ (hV9) (j) Try.underlying28 szo3 (h.ev rfl) (h.ev rfl) (rfl) (by omega)) rfl ?_; intro f h
      exact s_nil ⟨_, oc_out 44 rfl (h.holds 44 _ rfl), rfl, s⟩
    · intro f9 w2 vl9 E9 hs9 hd9 hl hF s
      have e41 : f9.tmps.getD 41 undef = (dropV v30 1 j) := (oc_get hl 41 3 (by kernel_rfl) (by kernel_rfl)).trans (hF 3 (by decide))
      have e44 : f9.tmps.getD 44 undef = (cutV v30 j) := (oc_get hl 44 6 (by kernel_rfl) (by kernel_rfl)).trans (hF 6 (by decide))
      have h := fin_slot [(41, (dropV v30 1 j)), (44, (cutV v30 j))] (hs9.trans h.size) (hd9.trans h.defers) (holds_lk ⟨e41, e44, trivial⟩)
      replace s : St w (.sl v30 3 1 n (repL n j x) :: E9) _ := s
      refine s_copy_own (k := j) 0 q9 ((RdZ.of_own (s.getSl 0 rfl)).cut j (by omega)) h s Try.underlying28 size3 rfl rfl rfl (by omega) hq9 (fun u hu => repL_ones _ _ _ u (List.mem_of_mem_take hu)) rfl ?_; intro f w3 h s
      replace s := s.resl (m := n) (ys := repL n (j + q9) x) 0 rfl rfl (by rw [Nat.mul_one]; exact repL_copy x (by omega) (by omega))
      exact s_nil ⟨_, oc_out 45 rfl (h.holds 45 _ rfl), rfl, s⟩
    · intro f9 w2 vl9 E9 hs9 hd9 hl hF s
      have e38 : f9.tmps.getD 38 undef = .int .i64 (j : Int) := (oc_get hl 38 0 (by kernel_rfl) (by kernel_rfl)).trans (hF 0 (by decide))
      have e45 : f9.tmps.getD 45 undef = .int .i64 (q9 : Int) := (oc_get hl 45 7 (by kernel_rfl) (by kernel_rfl)).trans (hF 7 (by decide))
      have h := fin_slot [(38, .int .i64 (j : Int)), (45, .int .i64 (q9 : Int))] (hs9.trans h.size) (hd9.trans h.defers) (holds_lk ⟨e38, e45, trivial⟩)
      replace s : St w (E9) _ := s
      refine s_pure h (ru_add (h.ev rfl) (h.ev rfl) (by omega)) rfl ?_; intro f h
      exact s_nil ⟨_, oc_out 46 rfl (h.holds 46 _ rfl), rfl, s⟩
    intro f w1 vl9 hs9 hd9 hv hr hF s
    replace hv := fun i d h9 => hv i d (show Nat.blt i 9 = true from h9)
    replace h := oc_slT 9 (ops := _) [(38, .int .i64 (j : Int)), (39, v30), (40, .int .i64 (j : Int)), (41, (dropV v30 1 j)), (42, v30), (43, .int .i64 (j : Int)), (44, (cutV v30 j)), (45, .int .i64 (q9 : Int)), (46, .int .i64 ((j : Int) + (q9 : Int)))] h hs9 hd9 hr ⟨(hv 0 38 rfl rfl).trans (hF 0 (by kernel_rfl)), (hv 1 39 rfl rfl).trans (hF 1 (by kernel_rfl)), (hv 2 40 rfl rfl).trans (hF 2 (by kernel_rfl)), (hv 3 41 rfl rfl).trans (hF 3 (by kernel_rfl)), (hv 4 42 rfl rfl).trans (hF 4 (by kernel_rfl)), (hv 5 43 rfl rfl).trans (hF 5 (by kernel_rfl)), (hv 6 44 rfl rfl).trans (hF 6 (by kernel_rfl)), (hv 7 45 rfl rfl).trans (hF 7 (by kernel_rfl)), (hv 8 46 rfl rfl).trans (hF 8 (by kernel_rfl)), trivial⟩ (by kernel_rfl)
    replace s : St w [.sl v30 3 1 n (repL n (j + q9) x)] _ := s
    refine s_pure h (ru_assign (h.ev rfl)) rfl ?_; intro f h
    refine s_nil ?_
    refine b_norm ?_
    refine t_norm ?_
    exact ⟨_, by omega, ⟨j + q9, h.only ⟨rfl, rfl, rfl, rfl, rfl, slot_int rfl (by omega), trivial⟩, St.as s ⟨rfl, trivial⟩, rfl, by omega, by omega⟩⟩
  · have hj9 : ¬ j < n := by have := of_decide_eq_false hc; omega
    refine wpIn_exit ?_
    refine t_exit ?_
    refine t_exit ?_
    refine b_exit ?_
    refine hK9 _ _ ?_
    refine c_seq fun K12 hK12 => ?_
    refine c_region ?_
    refine s_pure h (ru_move (h.ev rfl)) rfl ?_; intro f h
    refine s_pure h (ru_assign (h.ev rfl)) rfl ?_; intro f h
    refine s_nil ?_
    refine hK12 _ _ ?_
    refine wpIn_ret ?_
    exact e_tmp rfl h s rfl ((by obtain rfl : j = n := (by omega); have h9 := s.getSl 0 rfl; rw [repL_all] at h9; exact h9))

theorem ennote_any (x : Ot) (u : Value) (hu1 : u.oneCell' = true) (c : Cn) (be : Nat) (B9 : List Own) (hk2 : decide (x.k = 2) = false) (hh : x.k = 1 → 0 ≤ x.h ∧ x.h < 16) (hcb : CB c 10000000) (w0 w : World) (s : St w0 (.blk be (.cells (enA c) 64) :: B9) w) : Calls Try.prog 26 [.pointer (some ⟨be, 0, none⟩), .agg (otArr x.k x.h u x.p.2.1 x.p.2.2 x.t x.y)].toArray w (fun e w9 => ∃ v, e = .returned v ∧ St w0 (.blk be (.cells (enA (c.add (oneC (fun _ => .zero) x))) 64) :: B9) w9) := by
  have hb1 := hcb.hs x.h.toNat
  have hb2 := hcb.lost
  have hb3 := hcb.hops
  refine c_enterF Try.func26 rfl Try.ntmps26 rfl [(0, .pointer (some ⟨be, 0, none⟩)), (1, .agg (otArr x.k x.h u x.p.2.1 x.p.2.2 x.t x.y))] (by simp) fun f h => ?_
  refine c_seq fun K1 hK1 => ?_
  refine c_region ?_
  refine s_box (otArr x.k x.h u x.p.2.1 x.p.2.2 x.t x.y) h s rfl rfl rfl ?_; intro f w1 b3 h s
  refine s_nil ?_
  refine hK1 _ _ ?_
  refine wpIn_block ?_
  refine c_seq fun K2 hK2 => ?_
  refine c_region ?_
  refine s_pure h (ru_field fld72_0 (h.ev rfl)) rfl ?_; intro f h
  refine s_load_at1 (V := .int .i64 x.k) (cell_of_has (Has.of_own s 0 rfl) 0 (ot_k _ _ _ _ _ _ _)) h one3 rfl rfl ?_; intro f h
  refine s_pure h (ru_eql (h.ev rfl) (h.ev rfl)) rfl ?_; intro f h
  refine s_pure h (ru_assign (h.ev rfl)) rfl ?_; intro f h
  refine s_nil ?_
  refine hK2 _ _ ?_
  refine c_cond h rfl (fun hc => ?_) (fun hc => ?_)
  · have k1 := hc
    obtain ⟨j1, j2⟩ := hh (of_decide_eq_true hc)
    refine c_regT 0 9 [[], [], [1], [0], [0, 1, 2, 3], [0, 1, 2, 3, 4], [0, 1, 2, 3, 4, 5], [0], [0, 1, 2, 3, 4, 5, 6, 7], [0, 1, 2, 3, 4, 5, 6, 7, 8]] [[], [], [], [], [], [], [], [], [], []] [fun _ => [], fun _ => [], fun _ => [], fun _ => [], fun _ => [], fun _ => [], fun _ => [], fun _ => [], fun _ => [], fun _ => []] [] [fun v => v 0 = .pointer (some ⟨be, 0, none⟩), fun v => v 1 = .pointer (some ⟨b3, 1, none⟩), fun v => v 2 = .int .i64 x.h, fun v => v 3 = .pointer (some ⟨be, 0, none⟩), fun v => v 4 = .pointer (some ⟨be, x.h.toNat, none⟩), fun v => v 5 = .int .i64 (c.hs x.h.toNat : Int), fun v => v 6 = .int .i64 ((c.hs x.h.toNat : Int) + 1), fun v => v 7 = .pointer (some ⟨be, 0, none⟩), fun v => v 8 = .pointer (some ⟨be, x.h.toNat, none⟩), fun _ => True] (.blk b3 (.cells (otArr x.k x.h u x.p.2.1 x.p.2.2 x.t x.y) 72) :: .blk be (.cells (enA c) 64) :: B9) h s rfl (by kernel_rfl) (by kernel_rfl) (by kernel_rfl) (And.intro ?_ (And.intro ?_ (And.intro ?_ (And.intro ?_ (And.intro ?_ (And.intro ?_ (And.intro ?_ (And.intro ?_ (And.intro ?_ (trivial)))))))))) [0, 1, 2, 3, 4, 5, 6, 7, 8] (by kernel_rfl) ?_
    · intro f9 w2 vl3 E9 hs9 hd9 hl hF s
      have e0 : f9.tmps.getD 0 undef = _ := oc_old hl 0 (by kernel_rfl) (by kernel_rfl) (h.holds 0 _ rfl)
      have h := fin_slot [(0, _)] (hs9.trans h.size) (hd9.trans h.defers) (holds_lk ⟨e0, trivial⟩)
      replace s : St w0 (.blk b3 (.cells (otArr x.k x.h u x.p.2.1 x.p.2.2 x.t x.y) 72) :: .blk be (.cells (enA c) 64) :: (B9 ++ E9)) _ := s
      refine s_pure h (ru_move (h.ev rfl)) rfl ?_; intro f h
      exact s_nil ⟨_, oc_out 15 rfl (h.holds 15 _ rfl), rfl, s⟩
    · intro f9 w2 vl3 E9 hs9 hd9 hl hF s
      have e3 : f9.tmps.getD 3 undef = _ := oc_old hl 3 (by kernel_rfl) (by kernel_rfl) (h.holds 3 _ rfl)
      have h := fin_slot [(3, _)] (hs9.trans h.size) (hd9.trans h.defers) (holds_lk ⟨e3, trivial⟩)
      replace s : St w0 (.blk b3 (.cells (otArr x.k x.h u x.p.2.1 x.p.2.2 x.t x.y) 72) :: .blk be (.cells (enA c) 64) :: (B9 ++ E9)) _ := s
      refine s_pure h (ru_field fld72_1 (h.ev rfl)) rfl ?_; intro f h
      exact s_nil ⟨_, oc_out 16 rfl (h.holds 16 _ rfl), rfl, s⟩
    · intro f9 w2 vl3 E9 hs9 hd9 hl hF s
      have e16 : f9.tmps.getD 16 undef = .pointer (some ⟨b3, 1, none⟩) := (oc_get hl 16 1 (by kernel_rfl) (by kernel_rfl)).trans (hF 1 (by decide))
      have h := fin_slot [(16, .pointer (some ⟨b3, 1, none⟩))] (hs9.trans h.size) (hd9.trans h.defers) (holds_lk ⟨e16, trivial⟩)
      replace s : St w0 (.blk b3 (.cells (otArr x.k x.h u x.p.2.1 x.p.2.2 x.t x.y) 72) :: .blk be (.cells (enA c) 64) :: (B9 ++ E9)) _ := s
      refine s_load_at1 (V := .int .i64 x.h) (cell_of_has (Has.of_own s 0 rfl) 1 (ot_h _ _ _ _ _ _ _)) h one3 rfl rfl ?_; intro f h
      exact s_nil ⟨_, oc_out 17 rfl (h.holds 17 _ rfl), rfl, s⟩
    · intro f9 w2 vl3 E9 hs9 hd9 hl hF s
      have e15 : f9.tmps.getD 15 undef = .pointer (some ⟨be, 0, none⟩) := (oc_get hl 15 0 (by kernel_rfl) (by kernel_rfl)).trans (hF 0 (by decide))
      have h := fin_slot [(15, .pointer (some ⟨be, 0, none⟩))] (hs9.trans h.size) (hd9.trans h.defers) (holds_lk ⟨e15, trivial⟩)
      replace s : St w0 (.blk b3 (.cells (otArr x.k x.h u x.p.2.1 x.p.2.2 x.t x.y) 72) :: .blk be (.cells (enA c) 64) :: (B9 ++ E9)) _ := s
      refine s_pure h (ru_nilCheck (h.ev rfl)) rfl ?_; intro f h
      exact s_nil ⟨_, oc_out 18 rfl (h.holds 18 _ rfl), rfl, s⟩
    · intro f9 w2 vl3 E9 hs9 hd9 hl hF s
      have e18 : f9.tmps.getD 18 undef = .pointer (some ⟨be, 0, none⟩) := (oc_get hl 18 3 (by kernel_rfl) (by kernel_rfl)).trans (hF 3 (by decide))
      have e17 : f9.tmps.getD 17 undef = .int .i64 x.h := (oc_get hl 17 2 (by kernel_rfl) (by kernel_rfl)).trans (hF 2 (by decide))
      have h := fin_slot [(18, .pointer (some ⟨be, 0, none⟩)), (17, .int .i64 x.h)] (hs9.trans h.size) (hd9.trans h.defers) (holds_lk ⟨e18, e17, trivial⟩)
      replace s : St w0 (.blk b3 (.cells (otArr x.k x.h u x.p.2.1 x.p.2.2 x.t x.y) 72) :: .blk be (.cells (enA c) 64) :: (B9 ++ E9)) _ := s
      refine s_pure h (ru_ix (x.h.toNat) Try.underlying64 size3 (h.ev rfl) (h.ev rfl) (by omega) (by omega)) rfl ?_; intro f h
      exact s_nil ⟨_, oc_out 19 rfl (h.holds 19 _ rfl), rfl, s⟩
    · intro f9 w2 vl3 E9 hs9 hd9 hl hF s
      have e19 : f9.tmps.getD 19 undef = .pointer (some ⟨be, x.h.toNat, none⟩) := (oc_get hl 19 4 (by kernel_rfl) (by kernel_rfl)).trans (hF 4 (by decide))
      have h := fin_slot [(19, .pointer (some ⟨be, x.h.toNat, none⟩))] (hs9.trans h.size) (hd9.trans h.defers) (holds_lk ⟨e19, trivial⟩)
      replace s : St w0 (.blk b3 (.cells (otArr x.k x.h u x.p.2.1 x.p.2.2 x.t x.y) 72) :: .blk be (.cells (enA c) 64) :: (B9 ++ E9)) _ := s
      refine s_load_one 1 h s one3 rfl rfl (en_hs (by omega)) rfl ?_; intro f h
      exact s_nil ⟨_, oc_out 20 rfl (h.holds 20 _ rfl), rfl, s⟩
    · intro f9 w2 vl3 E9 hs9 hd9 hl hF s
      have e20 : f9.tmps.getD 20 undef = .int .i64 (c.hs x.h.toNat : Int) := (oc_get hl 20 5 (by kernel_rfl) (by kernel_rfl)).trans (hF 5 (by decide))
      have h := fin_slot [(20, .int .i64 (c.hs x.h.toNat : Int))] (hs9.trans h.size) (hd9.trans h.defers) (holds_lk ⟨e20, trivial⟩)
      replace s : St w0 (.blk b3 (.cells (otArr x.k x.h u x.p.2.1 x.p.2.2 x.t x.y) 72) :: .blk be (.cells (enA c) 64) :: (B9 ++ E9)) _ := s
      refine s_pure h (ru_add (h.ev rfl) (h.ev rfl) (by omega)) rfl ?_; intro f h
      exact s_nil ⟨_, oc_out 21 rfl (h.holds 21 _ rfl), rfl, s⟩
    · intro f9 w2 vl3 E9 hs9 hd9 hl hF s
      have e15 : f9.tmps.getD 15 undef = .pointer (some ⟨be, 0, none⟩) := (oc_get hl 15 0 (by kernel_rfl) (by kernel_rfl)).trans (hF 0 (by decide))
      have h := fin_slot [(15, .pointer (some ⟨be, 0, none⟩))] (hs9.trans h.size) (hd9.trans h.defers) (holds_lk ⟨e15, trivial⟩)
      replace s : St w0 (.blk b3 (.cells (otArr x.k x.h u x.p.2.1 x.p.2.2 x.t x.y) 72) :: .blk be (.cells (enA c) 64) :: (B9 ++ E9)) _ := s
      refine s_pure h (ru_nilCheck (h.ev rfl)) rfl ?_; intro f h
      exact s_nil ⟨_, oc_out 22 rfl (h.holds 22 _ rfl), rfl, s⟩
    · intro f9 w2 vl3 E9 hs9 hd9 hl hF s
      have e22 : f9.tmps.getD 22 undef = .pointer (some ⟨be, 0, none⟩) := (oc_get hl 22 7 (by kernel_rfl) (by kernel_rfl)).trans (hF 7 (by decide))
      have e17 : f9.tmps.getD 17 undef = .int .i64 x.h := (oc_get hl 17 2 (by kernel_rfl) (by kernel_rfl)).trans (hF 2 (by decide))
      have h := fin_slot [(22, .pointer (some ⟨be, 0, none⟩)), (17, .int .i64 x.h)] (hs9.trans h.size) (hd9.trans h.defers) (holds_lk ⟨e22, e17, trivial⟩)
      replace s : St w0 (.blk b3 (.cells (otArr x.k x.h u x.p.2.1 x.p.2.2 x.t x.y) 72) :: .blk be (.cells (enA c) 64) :: (B9 ++ E9)) _ := s
      refine s_pure h (ru_ix (x.h.toNat) Try.underlying64 size3 (h.ev rfl) (h.ev rfl) (by omega) (by omega)) rfl ?_; intro f h
      exact s_nil ⟨_, oc_out 23 rfl (h.holds 23 _ rfl), rfl, s⟩
    intro f w1 vl3 hs9 hd9 hv hr hF s
    replace hv := fun i d h9 => hv i d (show Nat.blt i 9 = true from h9)
    replace h := oc_slT 9 (ops := _) [(15, .pointer (some ⟨be, 0, none⟩)), (16, .pointer (some ⟨b3, 1, none⟩)), (17, .int .i64 x.h), (18, .pointer (some ⟨be, 0, none⟩)), (19, .pointer (some ⟨be, x.h.toNat, none⟩)), (20, .int .i64 (c.hs x.h.toNat : Int)), (21, .int .i64 ((c.hs x.h.toNat : Int) + 1)), (22, .pointer (some ⟨be, 0, none⟩)), (23, .pointer (some ⟨be, x.h.toNat, none⟩))] h hs9 hd9 hr ⟨(hv 0 15 rfl rfl).trans (hF 0 (by kernel_rfl)), (hv 1 16 rfl rfl).trans (hF 1 (by kernel_rfl)), (hv 2 17 rfl rfl).trans (hF 2 (by kernel_rfl)), (hv 3 18 rfl rfl).trans (hF 3 (by kernel_rfl)), (hv 4 19 rfl rfl).trans (hF 4 (by kernel_rfl)), (hv 5 20 rfl rfl).trans (hF 5 (by kernel_rfl)), (hv 6 21 rfl rfl).trans (hF 6 (by kernel_rfl)), (hv 7 22 rfl rfl).trans (hF 7 (by kernel_rfl)), (hv 8 23 rfl rfl).trans (hF 8 (by kernel_rfl)), trivial⟩ (by kernel_rfl)
    replace s : St w0 (.blk b3 (.cells (otArr x.k x.h u x.p.2.1 x.p.2.2 x.t x.y) 72) :: .blk be (.cells (enA c) 64) :: B9) _ := s
    refine s_store_one 1 h s one3 rfl rfl rfl (by rw [enA_size]; omega) (rfl) ?_; intro w1 s
    replace s := s.recell (D := enA (c.add (oneC (fun _ => .zero) x))) 1 rfl (en_set1 k1 (by omega))
    refine s_nil ?_
    refine b_norm ?_
    exact e_noneF_end rfl h (⟨_, rfl, s.pick _ (List.sublist_cons_self _ _)⟩)
  · have k1 := hc
    refine c_seq fun K3 hK3 => ?_
    refine c_region ?_
    refine s_pure h (ru_field fld72_4 (h.ev rfl)) rfl ?_; intro f h
    refine s_load_at1 (V := .int .i64 x.y) (cell_of_has (Has.of_own s 0 rfl) 72 (ot_y _ _ _ _ _ _ _)) h one31 rfl rfl ?_; intro f h
    refine s_pure h (ru_eql (h.ev rfl) (h.ev rfl)) rfl ?_; intro f h
    refine s_pure h (ru_assign (h.ev rfl)) rfl ?_; intro f h
    refine s_nil ?_
    refine hK3 _ _ ?_
    refine c_cond h rfl (fun hc => ?_) (fun hc => ?_)
    · have k3 := hc
      refine c_regT 0 7 [[], [0], [0, 1], [0, 1, 2], [0, 1, 2, 3], [0], [0, 1, 2, 3, 4, 5], [0, 1, 2, 3, 4, 5, 6]] [[], [], [], [], [], [], [], []] [fun _ => [], fun _ => [], fun _ => [], fun _ => [], fun _ => [], fun _ => [], fun _ => [], fun _ => []] [] [fun v => v 0 = .pointer (some ⟨be, 0, none⟩), fun v => v 1 = .pointer (some ⟨be, 0, none⟩), fun v => v 2 = .pointer (some ⟨be, 17, none⟩), fun v => v 3 = .int .i64 (c.hops : Int), fun v => v 4 = .int .i64 ((c.hops : Int) + 1), fun v => v 5 = .pointer (some ⟨be, 0, none⟩), fun v => v 6 = .pointer (some ⟨be, 17, none⟩), fun _ => True] (.blk b3 (.cells (otArr x.k x.h u x.p.2.1 x.p.2.2 x.t x.y) 72) :: .blk be (.cells (enA c) 64) :: B9) h s rfl (by kernel_rfl) (by kernel_rfl) (by kernel_rfl) (And.intro ?_ (And.intro ?_ (And.intro ?_ (And.intro ?_ (And.intro ?_ (And.intro ?_ (And.intro ?_ (trivial)))))))) [0, 1, 2, 3, 4, 5, 6] (by kernel_rfl) ?_
      · intro f9 w2 vl5 E9 hs9 hd9 hl hF s
        have e0 : f9.tmps.getD 0 undef = _ := oc_old hl 0 (by kernel_rfl) (by kernel_rfl) (h.holds 0 _ rfl)
        have h := fin_slot [(0, _)] (hs9.trans h.size) (hd9.trans h.defers) (holds_lk ⟨e0, trivial⟩)
        replace s : St w0 (.blk b3 (.cells (otArr x.k x.h u x.p.2.1 x.p.2.2 x.t x.y) 72) :: .blk be (.cells (enA c) 64) :: (B9 ++ E9)) _ := s
        refine s_pure h (ru_move (h.ev rfl)) rfl ?_; intro f h
        exact s_nil ⟨_, oc_out 28 rfl (h.holds 28 _ rfl), rfl, s⟩
      · intro f9 w2 vl5 E9 hs9 hd9 hl hF s
        have e28 : f9.tmps.getD 28 undef = .pointer (some ⟨be, 0, none⟩) := (oc_get hl 28 0 (by kernel_rfl) (by kernel_rfl)).trans (hF 0 (by decide))
        have h := fin_slot [(28, .pointer (some ⟨be, 0, none⟩))] (hs9.trans h.size) (hd9.trans h.defers) (holds_lk ⟨e28, trivial⟩)
        replace s : St w0 (.blk b3 (.cells (otArr x.k x.h u x.p.2.1 x.p.2.2 x.t x.y) 72) :: .blk be (.cells (enA c) 64) :: (B9 ++ E9)) _ := s
        refine s_pure h (ru_nilCheck (h.ev rfl)) rfl ?_; intro f h
        exact s_nil ⟨_, oc_out 29 rfl (h.holds 29 _ rfl), rfl, s⟩
      · intro f9 w2 vl5 E9 hs9 hd9 hl hF s
        have e29 : f9.tmps.getD 29 undef = .pointer (some ⟨be, 0, none⟩) := (oc_get hl 29 1 (by kernel_rfl) (by kernel_rfl)).trans (hF 1 (by decide))
        have h := fin_slot [(29, .pointer (some ⟨be, 0, none⟩))] (hs9.trans h.size) (hd9.trans h.defers) (holds_lk ⟨e29, trivial⟩)
        replace s : St w0 (.blk b3 (.cells (otArr x.k x.h u x.p.2.1 x.p.2.2 x.t x.y) 72) :: .blk be (.cells (enA c) 64) :: (B9 ++ E9)) _ := s
        refine s_pure h (ru_ix (17) Try.underlying64 size3 (h.ev rfl) (h.ev rfl) (by omega) (by omega)) rfl ?_; intro f h
        exact s_nil ⟨_, oc_out 30 rfl (h.holds 30 _ rfl), rfl, s⟩
      · intro f9 w2 vl5 E9 hs9 hd9 hl hF s
        have e30 : f9.tmps.getD 30 undef = .pointer (some ⟨be, 17, none⟩) := (oc_get hl 30 2 (by kernel_rfl) (by kernel_rfl)).trans (hF 2 (by decide))
        have h := fin_slot [(30, .pointer (some ⟨be, 17, none⟩))] (hs9.trans h.size) (hd9.trans h.defers) (holds_lk ⟨e30, trivial⟩)
        replace s : St w0 (.blk b3 (.cells (otArr x.k x.h u x.p.2.1 x.p.2.2 x.t x.y) 72) :: .blk be (.cells (enA c) 64) :: (B9 ++ E9)) _ := s
        refine s_load_one 1 h s one3 rfl rfl (en_hops _) rfl ?_; intro f h
        exact s_nil ⟨_, oc_out 31 rfl (h.holds 31 _ rfl), rfl, s⟩
      · intro f9 w2 vl5 E9 hs9 hd9 hl hF s
        have e31 : f9.tmps.getD 31 undef = .int .i64 (c.hops : Int) := (oc_get hl 31 3 (by kernel_rfl) (by kernel_rfl)).trans (hF 3 (by decide))
        have h := fin_slot [(31, .int .i64 (c.hops : Int))] (hs9.trans h.size) (hd9.trans h.defers) (holds_lk ⟨e31, trivial⟩)
        replace s : St w0 (.blk b3 (.cells (otArr x.k x.h u x.p.2.1 x.p.2.2 x.t x.y) 72) :: .blk be (.cells (enA c) 64) :: (B9 ++ E9)) _ := s
        refine s_pure h (ru_add (h.ev rfl) (h.ev rfl) (by omega)) rfl ?_; intro f h
        exact s_nil ⟨_, oc_out 32 rfl (h.holds 32 _ rfl), rfl, s⟩
      · intro f9 w2 vl5 E9 hs9 hd9 hl hF s
        have e28 : f9.tmps.getD 28 undef = .pointer (some ⟨be, 0, none⟩) := (oc_get hl 28 0 (by kernel_rfl) (by kernel_rfl)).trans (hF 0 (by decide))
        have h := fin_slot [(28, .pointer (some ⟨be, 0, none⟩))] (hs9.trans h.size) (hd9.trans h.defers) (holds_lk ⟨e28, trivial⟩)
        replace s : St w0 (.blk b3 (.cells (otArr x.k x.h u x.p.2.1 x.p.2.2 x.t x.y) 72) :: .blk be (.cells (enA c) 64) :: (B9 ++ E9)) _ := s
        refine s_pure h (ru_nilCheck (h.ev rfl)) rfl ?_; intro f h
        exact s_nil ⟨_, oc_out 33 rfl (h.holds 33 _ rfl), rfl, s⟩
      · intro f9 w2 vl5 E9 hs9 hd9 hl hF s
        have e33 : f9.tmps.getD 33 undef = .pointer (some ⟨be, 0, none⟩) := (oc_get hl 33 5 (by kernel_rfl) (by kernel_rfl)).trans (hF 5 (by decide))
        have h := fin_slot [(33, .pointer (some ⟨be, 0, none⟩))] (hs9.trans h.size) (hd9.trans h.defers) (holds_lk ⟨e33, trivial⟩)
        replace s : St w0 (.blk b3 (.cells (otArr x.k x.h u x.p.2.1 x.p.2.2 x.t x.y) 72) :: .blk be (.cells (enA c) 64) :: (B9 ++ E9)) _ := s
        refine s_pure h (ru_ix (17) Try.underlying64 size3 (h.ev rfl) (h.ev rfl) (by omega) (by omega)) rfl ?_; intro f h
        exact s_nil ⟨_, oc_out 34 rfl (h.holds 34 _ rfl), rfl, s⟩
      intro f w1 vl5 hs9 hd9 hv hr hF s
      replace hv := fun i d h9 => hv i d (show Nat.blt i 7 = true from h9)
      replace h := oc_slT 7 (ops := _) [(28, .pointer (some ⟨be, 0, none⟩)), (29, .pointer (some ⟨be, 0, none⟩)), (30, .pointer (some ⟨be, 17, none⟩)), (31, .int .i64 (c.hops : Int)), (32, .int .i64 ((c.hops : Int) + 1)), (33, .pointer (some ⟨be, 0, none⟩)), (34, .pointer (some ⟨be, 17, none⟩))] h hs9 hd9 hr ⟨(hv 0 28 rfl rfl).trans (hF 0 (by kernel_rfl)), (hv 1 29 rfl rfl).trans (hF 1 (by kernel_rfl)), (hv 2 30 rfl rfl).trans (hF 2 (by kernel_rfl)), (hv 3 31 rfl rfl).trans (hF 3 (by kernel_rfl)), (hv 4 32 rfl rfl).trans (hF 4 (by kernel_rfl)), (hv 5 33 rfl rfl).trans (hF 5 (by kernel_rfl)), (hv 6 34 rfl rfl).trans (hF 6 (by kernel_rfl)), trivial⟩ (by kernel_rfl)
      replace s : St w0 (.blk b3 (.cells (otArr x.k x.h u x.p.2.1 x.p.2.2 x.t x.y) 72) :: .blk be (.cells (enA c) 64) :: B9) _ := s
      refine s_store_one 1 h s one3 rfl rfl rfl (by rw [enA_size]; omega) (rfl) ?_; intro w1 s
      replace s := s.recell (D := enA (c.add (oneC (fun _ => .zero) x))) 1 rfl (en_set9 k1 hk2 k3)
      refine s_nil ?_
      refine b_norm ?_
      exact e_noneF_end rfl h (⟨_, rfl, s.pick _ (List.sublist_cons_self _ _)⟩)
    · have k3 := hc
      refine c_regT 0 7 [[], [0], [0, 1], [0, 1, 2], [0, 1, 2, 3], [0], [0, 1, 2, 3, 4, 5], [0, 1, 2, 3, 4, 5, 6]] [[], [], [], [], [], [], [], []] [fun _ => [], fun _ => [], fun _ => [], fun _ => [], fun _ => [], fun _ => [], fun _ => [], fun _ => []] [] [fun v => v 0 = .pointer (some ⟨be, 0, none⟩), fun v => v 1 = .pointer (some ⟨be, 0, none⟩), fun v => v 2 = .pointer (some ⟨be, 16, none⟩), fun v => v 3 = .int .i64 (c.lost : Int), fun v => v 4 = .int .i64 ((c.lost : Int) + 1), fun v => v 5 = .pointer (some ⟨be, 0, none⟩), fun v => v 6 = .pointer (some ⟨be, 16, none⟩), fun _ => True] (.blk b3 (.cells (otArr x.k x.h u x.p.2.1 x.p.2.2 x.t x.y) 72) :: .blk be (.cells (enA c) 64) :: B9) h s rfl (by kernel_rfl) (by kernel_rfl) (by kernel_rfl) (And.intro ?_ (And.intro ?_ (And.intro ?_ (And.intro ?_ (And.intro ?_ (And.intro ?_ (And.intro ?_ (trivial)))))))) [0, 1, 2, 3, 4, 5, 6] (by kernel_rfl) ?_
      · intro f9 w2 vl1 E9 hs9 hd9 hl hF s
        have e0 : f9.tmps.getD 0 undef = _ := oc_old hl 0 (by kernel_rfl) (by kernel_rfl) (h.holds 0 _ rfl)
        have h := fin_slot [(0, _)] (hs9.trans h.size) (hd9.trans h.defers) (holds_lk ⟨e0, trivial⟩)
        replace s : St w0 (.blk b3 (.cells (otArr x.k x.h u x.p.2.1 x.p.2.2 x.t x.y) 72) :: .blk be (.cells (enA c) 64) :: (B9 ++ E9)) _ := s
        refine s_pure h (ru_move (h.ev rfl)) rfl ?_; intro f h
        exact s_nil ⟨_, oc_out 4 rfl (h.holds 4 _ rfl), rfl, s⟩
      · intro f9 w2 vl1 E9 hs9 hd9 hl hF s
        have e4 : f9.tmps.getD 4 undef = .pointer (some ⟨be, 0, none⟩) := (oc_get hl 4 0 (by kernel_rfl) (by kernel_rfl)).trans (hF 0 (by decide))
        have h := fin_slot [(4, .pointer (some ⟨be, 0, none⟩))] (hs9.trans h.size) (hd9.trans h.defers) (holds_lk ⟨e4, trivial⟩)
        replace s : St w0 (.blk b3 (.cells (otArr x.k x.h u x.p.2.1 x.p.2.2 x.t x.y) 72) :: .blk be (.cells (enA c) 64) :: (B9 ++ E9)) _ := s
        refine s_pure h (ru_nilCheck (h.ev rfl)) rfl ?_; intro f h
        exact s_nil ⟨_, oc_out 5 rfl (h.holds 5 _ rfl), rfl, s⟩
      · intro f9 w2 vl1 E9 hs9 hd9 hl hF s
        have e5 : f9.tmps.getD 5 undef = .pointer (some ⟨be, 0, none⟩) := (oc_get hl 5 1 (by kernel_rfl) (by kernel_rfl)).trans (hF 1 (by decide))
        have h := fin_slot [(5, .pointer (some ⟨be, 0, none⟩))] (hs9.trans h.size) (hd9.trans h.defers) (holds_lk ⟨e5, trivial⟩)
        replace s : St w0 (.blk b3 (.cells (otArr x.k x.h u x.p.2.1 x.p.2.2 x.t x.y) 72) :: .blk be (.cells (enA c) 64) :: (B9 ++ E9)) _ := s
        refine s_pure h (ru_ix (16) Try.underlying64 size3 (h.ev rfl) (h.ev rfl) (by omega) (by omega)) rfl ?_; intro f h
        exact s_nil ⟨_, oc_out 6 rfl (h.holds 6 _ rfl), rfl, s⟩
      · intro f9 w2 vl1 E9 hs9 hd9 hl hF s
        have e6 : f9.tmps.getD 6 undef = .pointer (some ⟨be, 16, none⟩) := (oc_get hl 6 2 (by kernel_rfl) (by kernel_rfl)).trans (hF 2 (by decide))
        have h := fin_slot [(6, .pointer (some ⟨be, 16, none⟩))] (hs9.trans h.size) (hd9.trans h.defers) (holds_lk ⟨e6, trivial⟩)
        replace s : St w0 (.blk b3 (.cells (otArr x.k x.h u x.p.2.1 x.p.2.2 x.t x.y) 72) :: .blk be (.cells (enA c) 64) :: (B9 ++ E9)) _ := s
        refine s_load_one 1 h s one3 rfl rfl (en_lost _) rfl ?_; intro f h
        exact s_nil ⟨_, oc_out 7 rfl (h.holds 7 _ rfl), rfl, s⟩
      · intro f9 w2 vl1 E9 hs9 hd9 hl hF s
        have e7 : f9.tmps.getD 7 undef = .int .i64 (c.lost : Int) := (oc_get hl 7 3 (by kernel_rfl) (by kernel_rfl)).trans (hF 3 (by decide))
        have h := fin_slot [(7, .int .i64 (c.lost : Int))] (hs9.trans h.size) (hd9.trans h.defers) (holds_lk ⟨e7, trivial⟩)
        replace s : St w0 (.blk b3 (.cells (otArr x.k x.h u x.p.2.1 x.p.2.2 x.t x.y) 72) :: .blk be (.cells (enA c) 64) :: (B9 ++ E9)) _ := s
        refine s_pure h (ru_add (h.ev rfl) (h.ev rfl) (by omega)) rfl ?_; intro f h
        exact s_nil ⟨_, oc_out 8 rfl (h.holds 8 _ rfl), rfl, s⟩
      · intro f9 w2 vl1 E9 hs9 hd9 hl hF s
        have e4 : f9.tmps.getD 4 undef = .pointer (some ⟨be, 0, none⟩) := (oc_get hl 4 0 (by kernel_rfl) (by kernel_rfl)).trans (hF 0 (by decide))
        have h := fin_slot [(4, .pointer (some ⟨be, 0, none⟩))] (hs9.trans h.size) (hd9.trans h.defers) (holds_lk ⟨e4, trivial⟩)
        replace s : St w0 (.blk b3 (.cells (otArr x.k x.h u x.p.2.1 x.p.2.2 x.t x.y) 72) :: .blk be (.cells (enA c) 64) :: (B9 ++ E9)) _ := s
        refine s_pure h (ru_nilCheck (h.ev rfl)) rfl ?_; intro f h
        exact s_nil ⟨_, oc_out 9 rfl (h.holds 9 _ rfl), rfl, s⟩
      · intro f9 w2 vl1 E9 hs9 hd9 hl hF s
        have e9 : f9.tmps.getD 9 undef = .pointer (some ⟨be, 0, none⟩) := (oc_get hl 9 5 (by kernel_rfl) (by kernel_rfl)).trans (hF 5 (by decide))
        have h := fin_slot [(9, .pointer (some ⟨be, 0, none⟩))] (hs9.trans h.size) (hd9.trans h.defers) (holds_lk ⟨e9, trivial⟩)
        replace s : St w0 (.blk b3 (.cells (otArr x.k x.h u x.p.2.1 x.p.2.2 x.t x.y) 72) :: .blk be (.cells (enA c) 64) :: (B9 ++ E9)) _ := s
        refine s_pure h (ru_ix (16) Try.underlying64 size3 (h.ev rfl) (h.ev rfl) (by omega) (by omega)) rfl ?_; intro f h
        exact s_nil ⟨_, oc_out 10 rfl (h.holds 10 _ rfl), rfl, s⟩
      intro f w1 vl1 hs9 hd9 hv hr hF s
      replace hv := fun i d h9 => hv i d (show Nat.blt i 7 = true from h9)
      replace h := oc_slT 7 (ops := _) [(4, .pointer (some ⟨be, 0, none⟩)), (5, .pointer (some ⟨be, 0, none⟩)), (6, .pointer (some ⟨be, 16, none⟩)), (7, .int .i64 (c.lost : Int)), (8, .int .i64 ((c.lost : Int) + 1)), (9, .pointer (some ⟨be, 0, none⟩)), (10, .pointer (some ⟨be, 16, none⟩))] h hs9 hd9 hr ⟨(hv 0 4 rfl rfl).trans (hF 0 (by kernel_rfl)), (hv 1 5 rfl rfl).trans (hF 1 (by kernel_rfl)), (hv 2 6 rfl rfl).trans (hF 2 (by kernel_rfl)), (hv 3 7 rfl rfl).trans (hF 3 (by kernel_rfl)), (hv 4 8 rfl rfl).trans (hF 4 (by kernel_rfl)), (hv 5 9 rfl rfl).trans (hF 5 (by kernel_rfl)), (hv 6 10 rfl rfl).trans (hF 6 (by kernel_rfl)), trivial⟩ (by kernel_rfl)
      replace s : St w0 (.blk b3 (.cells (otArr x.k x.h u x.p.2.1 x.p.2.2 x.t x.y) 72) :: .blk be (.cells (enA c) 64) :: B9) _ := s
      refine s_store_one 1 h s one3 rfl rfl rfl (by rw [enA_size]; omega) (rfl) ?_; intro w1 s
      replace s := s.recell (D := enA (c.add (oneC (fun _ => .zero) x))) 1 rfl (en_set6 k1 hk2 k3)
      refine s_nil ?_
      refine b_norm ?_
      exact e_noneF_end rfl h (⟨_, rfl, s.pick _ (List.sublist_cons_self _ _)⟩)

theorem enhosts_any (c : Cn) (be : Nat) (w : World) (hb : Tab w be (enA c)) (hcok : COk c) : Calls Try.prog 27 [.pointer (some ⟨be, 0, none⟩)].toArray w (Ret w (fun v w' => Owns w' w.heap.size 3 1 v (hostK c 16).length (intC (hostK c 16)))) := by
  have hs8 : RdZ w (.slice (some ⟨be, 0, none⟩) 16 18) 1 16 (hsC c) := by have h9 := RdZ.of_has (Has.subL (o := 0) (Has.of_tab hb) 0 16 (en_sl c)) (hsC_len c) (show 16 ≤ 18 by decide); exact h9
  refine c_enter Try.func27 rfl Try.ntmps27 rfl [(0, .pointer (some ⟨be, 0, none⟩))] (by simp) fun f h => ?_
  have s := St.start w
  refine c_seq fun K1 hK1 => ?_
  refine c_region ?_
  refine s_pure h (ru_assign (h.ev rfl)) rfl ?_; intro f h
  refine s_nil ?_
  refine hK1 _ _ ?_
  refine c_seq fun K2 hK2 => ?_
  refine c_region ?_
  refine s_pure h (ru_assign (h.ev rfl)) rfl ?_; intro f h
  refine s_nil ?_
  refine hK2 _ _ ?_
  refine c_seq fun K3 hK3 => ?_
  refine c_seq fun K4 hK4 => ?_
  refine c_region ?_
  replace s := s.nilSl 3 1
  refine s_pure h (ru_move (h.ev rfl)) rfl ?_; intro f h
  refine s_pure h (ru_nilCheck (h.ev rfl)) rfl ?_; intro f h
  refine s_pure h (ru_slice_arr_hi 16 Try.underlying64 size3 (h.ev rfl) (h.ev rfl) rfl (by decide)) rfl ?_; intro f h
  refine s_pure h (ru_lenZ (hs8.keep s.ext) Try.underlying28 (h.ev rfl)) rfl ?_; intro f h
  refine s_pure h (ru_move (h.ev rfl)) rfl ?_; intro f h
  refine s_nil ?_
  refine hK4 _ _ ?_
  refine wpIn_block ?_
  refine wpIn_loop_ghost (fun nn aa ww => ∃ k : Nat, ∃ vb : Value, Sl 23 aa [(3, vb), (8, .slice (some ⟨be, 0, none⟩) 16 18), (9, .int .i64 16), (10, .int .i64 (k : Int))] ∧ St w [.sl vb 3 1 (hostK c k).length (intC (hostK c k))] ww ∧ nn = 16 - k ∧ k ≤ 16) (16 - (0)) ⟨0, nilV, h.only ⟨rfl, rfl, rfl, slot_int rfl (by omega), trivial⟩, s.as ⟨rfl, trivial⟩, rfl, Nat.zero_le _⟩ ?_
  rintro _ f w1 ⟨k, vb, h, s, hnn, hp0⟩
  refine c_seq fun K5 hK5 => ?_
  refine c_region ?_
  refine s_pure h (ru_lss (h.ev rfl) (h.ev rfl)) rfl ?_; intro f h
  refine s_nil ?_
  refine hK5 _ _ ?_
  refine c_seq fun K6 hK6 => ?_
  refine c_cond h rfl (fun hc => ?_) (fun hc => ?_)
  · replace hc := of_decide_eq_true hc
    refine wpIn_skip ?_
    refine hK6 _ _ ?_
    refine c_seq fun K7 hK7 => ?_
    refine wpIn_block ?_
    refine c_seq fun K8 hK8 => ?_
    refine c_region ?_
    refine s_pure h (ru_move (h.ev rfl)) rfl ?_; intro f h
    have hk16 : k < 16 := by omega
    have hck := hcok.hs k
    have hcw := hcok.work
    have hkl := hostK_le hcok k
    refine s_pure h (ru_ixz (hs8.keep s.ext) (k) Try.underlying28 szo3 (h.ev rfl) (h.ev rfl) (by omega) (by omega)) rfl ?_; intro f h
    refine s_load_at1 ((hs8.keep s.ext).el1 (k) (V := .int .i64 (c.hs k : Int)) (hs_at hk16)) h one3 rfl rfl ?_; intro f h
    refine s_pure h (ru_assign (h.ev rfl)) rfl ?_; intro f h
    refine s_pure h (ru_assign (h.ev rfl)) rfl ?_; intro f h
    refine s_nil ?_
    refine hK8 _ _ ?_
    refine c_region ?_
    refine s_pure h (ru_move (h.ev rfl)) rfl ?_; intro f h
    refine s_pure h (ru_move (h.ev rfl)) rfl ?_; intro f h
    refine s_bslice (vs := [.int .i64 (k : Int)]) [.tmp 16] h s Try.underlying28 elm3 rfl rfl (by simp [Value.cells]) rfl rfl rfl ?_; intro f w1 v17 h s
    refine s_pure h (ru_move (h.ev rfl)) rfl ?_; intro f h
    refine s_call h s fnc54 (repeat_any (k : Int) (c.hs k) (by omega) v17 _ (RdZ.of_own (s.getSl 0 rfl))) rfl rfl ?_; intro f w1 v19 hT hE h sq; replace s := s.sl_new hE hT
    refine s_append_rd 2 (RdZ.of_own (s.getSl 0 rfl)) h s Try.underlying28 elm3 rfl rfl rfl (int_ones _) (by unfold maxLen; omega) (by omega) rfl ?_; intro f w1 v20 h s
    replace s := s.resl (m := (hostK c (k + 1)).length) (ys := intC (hostK c (k + 1))) 2 rfl (by rw [hostK_s, List.length_append, List.length_replicate]) (by rw [hostK_s]; exact List.map_append.symm)
    refine s_pure h (ru_assign (h.ev rfl)) rfl ?_; intro f h
    refine s_nil ?_
    refine b_norm ?_
    refine hK7 _ _ ?_
    refine c_region ?_
    refine s_pure h (ru_add (h.ev rfl) (h.ev rfl) (by omega)) rfl ?_; intro f h
    refine s_pure h (ru_move (h.ev rfl)) rfl ?_; intro f h
    refine s_nil ?_
    refine t_norm ?_
    exact ⟨_, by omega, ⟨k + 1, v20, h.only ⟨rfl, rfl, rfl, slot_int rfl (by omega), trivial⟩, St.as (s.pick _ (List.sublist_append_right [_, _] _)) ⟨rfl, trivial⟩, rfl, by omega⟩⟩
  · replace hc := of_decide_eq_false hc
    refine wpIn_exit ?_
    refine t_exit ?_
    refine t_exit ?_
    refine b_exit ?_
    refine hK3 _ _ ?_
    refine c_seq fun K9 hK9 => ?_
    refine c_region ?_
    refine s_pure h (ru_move (h.ev rfl)) rfl ?_; intro f h
    refine s_pure h (ru_assign (h.ev rfl)) rfl ?_; intro f h
    refine s_nil ?_
    refine hK9 _ _ ?_
    refine wpIn_ret ?_
    exact e_tmp rfl h s rfl ((by obtain rfl : k = 16 := (by omega); exact s.getSl 0 rfl))

theorem qput_any (Q : List P2) (hQ : Q.length ≤ 1000000) (vq : Value) (x : P2) (hx1 : x.2.oneCell' = true) (bq : Nat) (B9 : List Own) (w0 w : World) (s : St w0 (.blk bq (.cells #[vq] 62) :: tlO w0.heap.size vq 25 3 Q.length (pqCells Q) :: B9) w) : Calls Try.prog 22 [.pointer (some ⟨bq, 0, none⟩), .agg (pkArr x.2 x.1.2.1 x.1.2.2)].toArray w (fun e w9 => ∃ v, e = .returned v ∧ ∃ v9, St w0 (.blk bq (.cells #[v9] 62) :: tlO w0.heap.size v9 25 3 (Q ++ [x]).length (pqCells (Q ++ [x])) :: B9) w9) := by
  refine c_enterF Try.func22 rfl Try.ntmps22 rfl [(0, .pointer (some ⟨bq, 0, none⟩)), (1, .agg (pkArr x.2 x.1.2.1 x.1.2.2))] (by simp) fun f h => ?_
  refine c_seq fun K1 hK1 => ?_
  refine c_region ?_
  refine s_box (pkArr x.2 x.1.2.1 x.1.2.2) h s rfl rfl rfl ?_; intro f w1 b3 h s
  replace s := s.rot3
  refine s_nil ?_
  refine hK1 _ _ ?_
  refine c_regT 1 8 [[], [], [1], [1, 2], [1, 2, 3], [], [5], [1, 2, 3, 4, 5, 6], [0, 1, 2, 3, 4, 5, 6, 7], [0, 1, 2, 3, 4, 5, 6, 7, 8], [0, 1, 2, 3, 4, 5, 6, 7, 8, 9]] [[], [], [], [], [], [], [], [6, 11], [], [], []] [fun _ => [], fun _ => [], fun _ => [], fun _ => [], fun _ => [], fun _ => [], fun v => [.sl (v 6) 25 3 1 (pkArr x.2 x.1.2.1 x.1.2.2).toList], fun v => [tlO w0.heap.size (v 7) 25 3 (Q.length + 1) (pqCells Q ++ (pkArr x.2 x.1.2.1 x.1.2.2).toList)], fun _ => [], fun _ => [], fun _ => []] [[(tlO w0.heap.size vq 25 3 Q.length (pqCells Q))]] [fun v => v 0 = .pointer (some ⟨bq, 0, none⟩), fun v => v 1 = .pointer (some ⟨bq, 0, none⟩), fun v => v 2 = .pointer (some ⟨bq, 0, none⟩), fun v => v 3 = .pointer (some ⟨bq, 0, none⟩), fun v => v 4 = vq, fun v => v 5 = .agg (pkArr x.2 x.1.2.1 x.1.2.2), fun _ => True, fun v => (v 7).oneCell' = true, fun _ => True, fun _ => True, fun _ => True] (.blk b3 (.cells (pkArr x.2 x.1.2.1 x.1.2.2) 25) :: .blk bq (.cells (#[vq]) 62) :: B9) h s rfl (by kernel_rfl) (by kernel_rfl) (by kernel_rfl) (And.intro ?_ (And.intro ?_ (And.intro ?_ (And.intro ?_ (And.intro ?_ (And.intro ?_ (And.intro ?_ (And.intro ?_ (trivial))))))))) [0, 1, 2, 3, 4, 5, 7] (by kernel_rfl) ?_
  · intro f9 w2 vl1 E9 hs9 hd9 hl hF s
    have e0 : f9.tmps.getD 0 undef = _ := oc_old hl 0 (by kernel_rfl) (by kernel_rfl) (h.holds 0 _ rfl)
    have h := fin_slot [(0, _)] (hs9.trans h.size) (hd9.trans h.defers) (holds_lk ⟨e0, trivial⟩)
    replace s : St w0 (.blk b3 (.cells (pkArr x.2 x.1.2.1 x.1.2.2) 25) :: .blk bq (.cells (#[vq]) 62) :: (B9 ++ E9)) _ := s
    refine s_pure h (ru_move (h.ev rfl)) rfl ?_; intro f h
    exact s_nil ⟨_, oc_out 4 rfl (h.holds 4 _ rfl), rfl, s⟩
  · intro f9 w2 vl1 E9 hs9 hd9 hl hF s
    have e0 : f9.tmps.getD 0 undef = _ := oc_old hl 0 (by kernel_rfl) (by kernel_rfl) (h.holds 0 _ rfl)
    have h := fin_slot [(0, _)] (hs9.trans h.size) (hd9.trans h.defers) (holds_lk ⟨e0, trivial⟩)
    replace s : St w0 (.blk b3 (.cells (pkArr x.2 x.1.2.1 x.1.2.2) 25) :: .blk bq (.cells (#[vq]) 62) :: (B9 ++ E9)) _ := s
    refine s_pure h (ru_move (h.ev rfl)) rfl ?_; intro f h
    exact s_nil ⟨_, oc_out 5 rfl (h.holds 5 _ rfl), rfl, s⟩
  · intro f9 w2 vl1 E9 hs9 hd9 hl hF s
    have e5 : f9.tmps.getD 5 undef = .pointer (some ⟨bq, 0, none⟩) := (oc_get hl 5 1 (by kernel_rfl) (by kernel_rfl)).trans (hF 1 (by decide))
    have h := fin_slot [(5, .pointer (some ⟨bq, 0, none⟩))] (hs9.trans h.size) (hd9.trans h.defers) (holds_lk ⟨e5, trivial⟩)
    replace s : St w0 (.blk b3 (.cells (pkArr x.2 x.1.2.1 x.1.2.2) 25) :: .blk bq (.cells (#[vq]) 62) :: (B9 ++ E9)) _ := s
    refine s_pure h (ru_nilCheck (h.ev rfl)) rfl ?_; intro f h
    exact s_nil ⟨_, oc_out 6 rfl (h.holds 6 _ rfl), rfl, s⟩
  · intro f9 w2 vl1 E9 hs9 hd9 hl hF s
    have e6 : f9.tmps.getD 6 undef = .pointer (some ⟨bq, 0, none⟩) := (oc_get hl 6 2 (by kernel_rfl) (by kernel_rfl)).trans (hF 2 (by decide))
    have h := fin_slot [(6, .pointer (some ⟨bq, 0, none⟩))] (hs9.trans h.size) (hd9.trans h.defers) (holds_lk ⟨e6, trivial⟩)
    replace s : St w0 (.blk b3 (.cells (pkArr x.2 x.1.2.1 x.1.2.2) 25) :: .blk bq (.cells (#[vq]) 62) :: (B9 ++ E9)) _ := s
    refine s_pure h (ru_field fld62_0 (h.ev rfl)) rfl ?_; intro f h
    exact s_nil ⟨_, oc_out 7 rfl (h.holds 7 _ rfl), rfl, s⟩
  · intro f9 w2 vl1 E9 hs9 hd9 hl hF s
    have e7 : f9.tmps.getD 7 undef = .pointer (some ⟨bq, 0, none⟩) := (oc_get hl 7 3 (by kernel_rfl) (by kernel_rfl)).trans (hF 3 (by decide))
    have h := fin_slot [(7, .pointer (some ⟨bq, 0, none⟩))] (hs9.trans h.size) (hd9.trans h.defers) (holds_lk ⟨e7, trivial⟩)
    replace s : St w0 (.blk b3 (.cells (pkArr x.2 x.1.2.1 x.1.2.2) 25) :: .blk bq (.cells (#[vq]) 62) :: (B9 ++ E9)) _ := s
    refine s_load_at1 (V := vq) (cell_of_has (Has.of_own s 1 rfl) 0 (rfl)) h one60 rfl rfl ?_; intro f h
    exact s_nil ⟨_, oc_out 8 rfl (h.holds 8 _ rfl), rfl, s⟩
  · intro f9 w2 vl1 E9 hs9 hd9 hl hF s
    have e3 : f9.tmps.getD 3 undef = _ := oc_old hl 3 (by kernel_rfl) (by kernel_rfl) (h.holds 3 _ rfl)
    have h := fin_slot [(3, _)] (hs9.trans h.size) (hd9.trans h.defers) (holds_lk ⟨e3, trivial⟩)
    replace s : St w0 (.blk b3 (.cells (pkArr x.2 x.1.2.1 x.1.2.2) 25) :: .blk bq (.cells (#[vq]) 62) :: (B9 ++ E9)) _ := s
    refine s_load_row 0 h s row25 rfl rfl (pkArr_size _ _ _) rfl ?_; intro f h
    exact s_nil ⟨_, oc_out 9 rfl (h.holds 9 _ rfl), rfl, s⟩
  · intro f9 w2 vl1 E9 hs9 hd9 hl hF s
    have e9 : f9.tmps.getD 9 undef = .agg (pkArr x.2 x.1.2.1 x.1.2.2) := (oc_get hl 9 5 (by kernel_rfl) (by kernel_rfl)).trans (hF 5 (by decide))
    have h := fin_slot [(9, .agg (pkArr x.2 x.1.2.1 x.1.2.2))] (hs9.trans h.size) (hd9.trans h.defers) (holds_lk ⟨e9, trivial⟩)
    replace s : St w0 (.blk b3 (.cells (pkArr x.2 x.1.2.1 x.1.2.2) 25) :: .blk bq (.cells (#[vq]) 62) :: (B9 ++ E9)) _ := s
    refine s_bslice (vs := [.agg (pkArr x.2 x.1.2.1 x.1.2.2)]) [.tmp 9] h s Try.underlying60 elm25 rfl rfl (pq_sz x) rfl rfl rfl ?_; intro f w1 v10 h s
    replace s := s.resl (m := 1) (ys := (pkArr x.2 x.1.2.1 x.1.2.2).toList) 0 rfl rfl (pq_one x)
    exact s_nil ⟨_, oc_out 10 rfl (h.holds 10 _ rfl), trivial, s⟩
  · intro f9 w2 vl1 E9 hs9 hd9 hl hF s
    have e8 : f9.tmps.getD 8 undef = vq := (oc_get hl 8 4 (by kernel_rfl) (by kernel_rfl)).trans (hF 4 (by decide))
    have e10 : f9.tmps.getD 10 undef = (vl1 6) := oc_get hl 10 6 (by kernel_rfl) (by kernel_rfl)
    have h := fin_slot [(8, vq), (10, (vl1 6))] (hs9.trans h.size) (hd9.trans h.defers) (holds_lk ⟨e8, e10, trivial⟩)
    replace s : St w0 (.sl (vl1 6) 25 3 1 (pkArr x.2 x.1.2.1 x.1.2.2).toList :: (tlO w0.heap.size vq 25 3 Q.length (pqCells Q)) :: .blk b3 (.cells (pkArr x.2 x.1.2.1 x.1.2.2) 25) :: .blk bq (.cells (#[vq]) 62) :: (B9 ++ E9)) _ := s
    refine s_append_tl 1 0 h s Try.underlying60 elm25 rfl rfl rfl rfl (by decide) (pkArr_ones _ _ hx1) (by unfold maxLen; omega) (by omega) s.ext.le rfl ?_; intro f w3 v11 h s
    exact s_nil ⟨_, oc_out 11 rfl (h.holds 11 _ rfl), (s.tails 1 rfl).one, (s.pick _ (List.Sublist.cons _ (List.Sublist.cons_cons _ (List.Sublist.cons_cons _ (List.Sublist.cons_cons _ (List.Sublist.refl _))))))⟩
  intro f w1 vl1 hs9 hd9 hv hr hF s
  replace hv := fun i d h9 => hv i d (show Nat.blt i 8 = true from h9)
  replace h := oc_slT 8 (ops := _) [(4, .pointer (some ⟨bq, 0, none⟩)), (5, .pointer (some ⟨bq, 0, none⟩)), (6, .pointer (some ⟨bq, 0, none⟩)), (7, .pointer (some ⟨bq, 0, none⟩)), (8, vq), (9, .agg (pkArr x.2 x.1.2.1 x.1.2.2)), (10, (vl1 6)), (11, (vl1 7))] h hs9 hd9 hr ⟨(hv 0 4 rfl rfl).trans (hF 0 (by kernel_rfl)), (hv 1 5 rfl rfl).trans (hF 1 (by kernel_rfl)), (hv 2 6 rfl rfl).trans (hF 2 (by kernel_rfl)), (hv 3 7 rfl rfl).trans (hF 3 (by kernel_rfl)), (hv 4 8 rfl rfl).trans (hF 4 (by kernel_rfl)), (hv 5 9 rfl rfl).trans (hF 5 (by kernel_rfl)), hv 6 10 rfl rfl, hv 7 11 rfl rfl, trivial⟩ (by kernel_rfl)
  replace s : St w0 (tlO w0.heap.size (vl1 7) 25 3 (Q.length + 1) (pqCells Q ++ (pkArr x.2 x.1.2.1 x.1.2.2).toList) :: .blk b3 (.cells (pkArr x.2 x.1.2.1 x.1.2.2) 25) :: .blk bq (.cells (#[vq]) 62) :: B9) _ := s
  refine s_pure h (ru_nilCheck (h.ev rfl)) rfl ?_; intro f h
  refine s_pure h (ru_field fld62_0 (h.ev rfl)) rfl ?_; intro f h
  refine s_store_one 2 h s one60 rfl rfl rfl (by simp) (hF 7 (by kernel_rfl)) ?_; intro w1 s
  replace s := s.recell (D := #[(vl1 7)]) 2 rfl rfl
  refine s_nil ?_
  exact e_noneF_end rfl h (⟨_, rfl, (vl1 7), (s.retl 0 rfl (by rw [List.length_append]; rfl) (pq_snoc Q x)).o3⟩)

theorem qsize_any (Q : List P2) (vq : Value) (bq : Nat) (w : World) (hb : Tab w bq #[vq]) (hq : RdZ w vq 3 Q.length (pqCells Q)) : Calls Try.prog 23 [.pointer (some ⟨bq, 0, none⟩)].toArray w (Ret w (is (.int .i64 (Q.length : Int)))) := by
  refine c_enter Try.func23 rfl Try.ntmps23 rfl [(0, .pointer (some ⟨bq, 0, none⟩))] (by simp) fun f h => ?_
  have s := St.start w
  refine c_seq fun K1 hK1 => ?_
  refine c_region ?_
  refine s_pure h (ru_assign (h.ev rfl)) rfl ?_; intro f h
  refine s_nil ?_
  refine hK1 _ _ ?_
  refine c_seq fun K2 hK2 => ?_
  refine c_region ?_
  refine s_pure h (ru_move (h.ev rfl)) rfl ?_; intro f h
  refine s_pure h (ru_nilCheck (h.ev rfl)) rfl ?_; intro f h
  refine s_pure h (ru_field fld62_0 (h.ev rfl)) rfl ?_; intro f h
  refine s_load_at1 (V := vq) (cell_of_has (Has.of_tab (hb.keep s.ext)) 0 (rfl)) h one60 rfl rfl ?_; intro f h
  refine s_pure h (ru_lenZ (hq.keep s.ext) Try.underlying60 (h.ev rfl)) rfl ?_; intro f h
  refine s_pure h (ru_assign (h.ev rfl)) rfl ?_; intro f h
  refine s_nil ?_
  refine hK2 _ _ ?_
  refine wpIn_ret ?_
  exact e_tmp rfl h s rfl (rfl)

theorem qtake_any (x : P2) (Q : List P2) (vq : Value) (hx1 : x.2.oneCell' = true) (bq : Nat) (B9 : List Own) (w0 w : World) (s : St w0 (.blk bq (.cells #[vq] 62) :: tlO w0.heap.size vq 25 3 (x :: Q).length (pqCells (x :: Q)) :: B9) w) : Calls Try.prog 25 [.pointer (some ⟨bq, 0, none⟩)].toArray w (fun e w9 => ∃ v, e = .returned v ∧ v = .agg (pkArr x.2 x.1.2.1 x.1.2.2) ∧ St w0 (.blk bq (.cells #[(dropV vq 3 1)] 62) :: tlO w0.heap.size (dropV vq 3 1) 25 3 Q.length (pqCells Q) :: B9) w9) := by
  have hq0 : 1 ≤ (x :: Q).length := Nat.succ_le_succ (Nat.zero_le _)
  refine c_enterF Try.func25 rfl Try.ntmps25 rfl [(0, .pointer (some ⟨bq, 0, none⟩))] (by simp) fun f h => ?_
  refine c_seq fun K1 hK1 => ?_
  refine c_region ?_
  refine s_alloc (pkArr nilV 0 ByteArray.empty) h s zero25 rfl rfl ?_; intro f w1 b2 h s
  refine s_nil ?_
  refine hK1 _ _ ?_
  refine c_seq fun K2 hK2 => ?_
  refine c_region ?_
  refine s_pure h (ru_move (h.ev rfl)) rfl ?_; intro f h
  refine s_pure h (ru_nilCheck (h.ev rfl)) rfl ?_; intro f h
  refine s_pure h (ru_field fld62_0 (h.ev rfl)) rfl ?_; intro f h
  refine s_load_at1 (V := vq) (cell_of_has (Has.of_own s 1 rfl) 0 (rfl)) h one60 rfl rfl ?_; intro f h
  refine s_pure h (ru_ixz (((s.tails 2 rfl).rd)) (0) Try.underlying60 szo25 (h.ev rfl) (h.ev rfl) (rfl) (hq0)) rfl ?_; intro f h
  refine s_load_at ((((s.tails 2 rfl).rd)).el (0) (by omega) (by decide) (D := pkArr x.2 x.1.2.1 x.1.2.2) (pq_el x Q)) h row25 rfl (pkArr_size _ _ _) rfl ?_; intro f h
  refine s_alloc (pkArr nilV 0 ByteArray.empty) h s zero25 rfl rfl ?_; intro f w1 b3 h s
  refine s_store_row 0 h s row25 rfl rfl rfl (pkArr_size _ _ _) (pkArr_size _ _ _) (pkArr_ones _ _ (hx1)) ?_; intro w1 s
  refine s_nil ?_
  refine hK2 _ _ ?_
  refine c_seq fun K3 hK3 => ?_
  refine c_region ?_
  refine s_pure h (ru_move (h.ev rfl)) rfl ?_; intro f h
  refine s_pure h (ru_move (h.ev rfl)) rfl ?_; intro f h
  refine s_pure h (ru_nilCheck (h.ev rfl)) rfl ?_; intro f h
  refine s_pure h (ru_field fld62_0 (h.ev rfl)) rfl ?_; intro f h
  refine s_load_at1 (V := vq) (cell_of_has (Has.of_own s 2 rfl) 0 (rfl)) h one60 rfl rfl ?_; intro f h
  refine s_pure h (ru_slice_loZ (((s.tails 3 rfl).rd)) (1) Try.underlying60 szo25 (h.ev rfl) (h.ev rfl) (rfl) (hq0)) rfl ?_; intro f h
  refine s_pure h (ru_nilCheck (h.ev rfl)) rfl ?_; intro f h
  refine s_pure h (ru_field fld62_0 (h.ev rfl)) rfl ?_; intro f h
  refine s_store_one 2 h s one60 rfl rfl rfl (by simp) (((s.tails 3 rfl).drop 1 hq0).one) ?_; intro w1 s
  replace s := s.recell (D := #[dropV vq 3 1]) 2 rfl rfl
  replace s := s.tdrop 3 rfl 1 hq0
  refine s_nil ?_
  refine hK3 _ _ ?_
  refine c_seq fun K4 hK4 => ?_
  refine c_region ?_
  refine s_load_row 0 h s row25 rfl rfl (pkArr_size _ _ _) rfl ?_; intro f h
  refine s_store_row 1 h s row25 rfl rfl rfl (pkArr_size _ _ _) (pkArr_size _ _ _) (pkArr_ones _ _ (hx1)) ?_; intro w1 s
  refine s_nil ?_
  refine hK4 _ _ ?_
  refine wpIn_ret ?_
  exact e_rowF 1 rfl h s row25 rfl rfl (pkArr_size _ _ _) (⟨_, rfl, rfl, s.pick _ (List.sublist_append_right [_, _] _)⟩)

theorem splnk_any (t : List Tg) (vh : Value) (w : World) (hR : RdZ w vh 67 t.length (tgCells t)) (hln : t.length ≤ 1000) : Calls Try.prog 10 [vh].toArray w (Ret w (SlP w (slL t) (slE t))) := by
  refine c_enter Try.func10 rfl Try.ntmps10 rfl [(0, vh)] (by simp) fun f h => ?_
  have s := St.start w
  refine c_seq fun K1 hK1 => ?_
  refine c_region ?_
  refine s_pure h (ru_assign (h.ev rfl)) rfl ?_; intro f h
  refine s_pure h (ru_assign (h.ev rfl)) rfl ?_; intro f h
  refine s_nil ?_
  refine hK1 _ _ ?_
  refine c_seq fun K2 hK2 => ?_
  refine c_seq fun K3 hK3 => ?_
  cases t0 : (rightT t : Bool)
  · skip
    refine c_region ?_
    refine s_pure h (ru_move (h.ev rfl)) rfl ?_; intro f h
    refine s_call h s fnc20 (ret_val (.bool false) (tright_any t vh _ (hR.keep s.ext) hln) (congrArg Value.bool t0)) rfl rfl ?_; intro f w1 v9 hT hE h s; obtain rfl := hT
    refine s_pure h (ru_val (.bool true) (ru_not (h.ev rfl)) rfl) rfl ?_; intro f h
    refine s_nil ?_
    refine hK3 _ _ ?_
    refine wpIn_cond_true (h.ev rfl) ?_
    refine c_seq fun K4 hK4 => ?_
    refine c_region ?_
    refine s_pure h (ru_assign (h.ev rfl)) rfl ?_; intro f h
    refine s_pure h (ru_assign (h.ev rfl)) rfl ?_; intro f h
    refine s_nil ?_
    refine hK4 _ _ ?_
    refine wpIn_ret ?_
    refine t_ret ?_
    exact e_tmps rfl h s rfl rfl ((by rw [(sl_n t0).1]; exact slP_nil (s.sel [] rfl (by decide)) (sl_n t0).2))
  · skip
    refine c_region ?_
    refine s_pure h (ru_move (h.ev rfl)) rfl ?_; intro f h
    refine s_call h s fnc20 (ret_val (.bool true) (tright_any t vh _ (hR.keep s.ext) hln) (congrArg Value.bool t0)) rfl rfl ?_; intro f w1 v9 hT hE h s; obtain rfl := hT
    refine s_pure h (ru_val (.bool false) (ru_not (h.ev rfl)) rfl) rfl ?_; intro f h
    refine s_nil ?_
    refine hK3 _ _ ?_
    refine wpIn_cond_false (h.ev rfl) ?_
    refine wpIn_skip ?_
    refine hK2 _ _ ?_
    refine c_seq fun K5 hK5 => ?_
    refine c_region ?_
    refine s_pure h (ru_assign (h.ev rfl)) rfl ?_; intro f h
    refine s_nil ?_
    refine hK5 _ _ ?_
    refine c_seq fun K6 hK6 => ?_
    refine c_seq fun K7 hK7 => ?_
    refine c_region ?_
    replace s := s.nilSl 44 64
    refine s_pure h (ru_move (h.ev rfl)) rfl ?_; intro f h
    refine s_pure h (ru_lenZ (hR.keep s.ext) Try.underlying22 (h.ev rfl)) rfl ?_; intro f h
    refine s_pure h (ru_move (h.ev rfl)) rfl ?_; intro f h
    refine s_nil ?_
    refine hK7 _ _ ?_
    refine wpIn_block ?_
    refine wpIn_loop_ghost (fun nn aa ww => ∃ k : Nat, ∃ vb : Value, Sl 31 aa [(0, vh), (4, vb), (10, vh), (11, .int .i64 (t.length : Int)), (12, .int .i64 (k : Int))] ∧ St w [.sl vb 44 64 (lnkK t k).length (lCells (lnkK t k))] ww ∧ nn = t.length - k ∧ k ≤ t.length) (t.length - (0)) ⟨0, nilV, h.only ⟨rfl, rfl, rfl, rfl, slot_int rfl (by omega), trivial⟩, s.as ⟨rfl, trivial⟩, rfl, Nat.zero_le _⟩ ?_
    rintro _ f w1 ⟨k, vb, h, s, hnn, hp0⟩
    refine c_seq fun K8 hK8 => ?_
    refine c_region ?_
    refine s_pure h (ru_lss (h.ev rfl) (h.ev rfl)) rfl ?_; intro f h
    refine s_nil ?_
    refine hK8 _ _ ?_
    refine c_seq fun K9 hK9 => ?_
    refine c_cond h rfl (fun hc => ?_) (fun hc => ?_)
    · replace hc := of_decide_eq_true hc
      refine wpIn_skip ?_
      refine hK9 _ _ ?_
      refine c_seq fun K10 hK10 => ?_
      refine wpIn_block ?_
      refine c_seq fun K11 hK11 => ?_
      refine c_region ?_
      have hkt : k < t.length := by omega
      refine s_pure h (ru_ixz (hR.keep s.ext) (k) Try.underlying22 szo58 (h.ev rfl) (h.ev rfl) (by omega) (by omega)) rfl ?_; intro f h
      refine s_load_at ((hR.keep s.ext).el (k) (by omega) (by decide) (D := tgArr (t.getD k zTg)) (tgr_el t k hkt)) h row58 rfl (tgArr_size _) rfl ?_; intro f h
      refine s_alloc (tgArr zTg) h s zero58 rfl rfl ?_; intro f w1 b6 h s
      refine s_store_row 0 h s row58 rfl rfl rfl (tgArr_size _) (tgArr_size _) (tgArr_ones _) ?_; intro w1 s
      refine s_nil ?_
      refine hK11 _ _ ?_
      refine c_seq fun K12 hK12 => ?_
      refine c_region ?_
      refine s_pure h (ru_field fld58_1 (h.ev rfl)) rfl ?_; intro f h
      refine s_pure h (ru_field fld53_0 (h.ev rfl)) rfl ?_; intro f h
      refine s_load_at1 (cell_of_has (Has.of_own s 0 rfl) 32 (tgArr_kind _)) h one3 rfl rfl ?_; intro f h
      refine s_pure h (ru_eql (h.ev rfl) (h.ev rfl)) rfl ?_; intro f h
      refine s_nil ?_
      refine hK12 _ _ ?_
      refine c_cond h rfl (fun hc => ?_) (fun hc => ?_)
      · have c0 := hc
        refine c_region ?_
        refine s_pure h (ru_move (h.ev rfl)) rfl ?_; intro f h
        refine s_pure h (ru_field fld58_0 (h.ev rfl)) rfl ?_; intro f h
        refine s_load_at (Has.subL (Has.of_own s 0 rfl) 0 32 (D := idArr (_)) (tgArr_id _)) h row42 rfl (by first | exact idArr_size _ | exact bytesF_size _ _) rfl ?_; intro f h
        refine s_pure h (ru_field fld58_1 (h.ev rfl)) rfl ?_; intro f h
        refine s_pure h (ru_field fld53_1 (h.ev rfl)) rfl ?_; intro f h
        refine s_load_at (Has.subL (Has.of_own s 0 rfl) 33 32 (D := idArr (_)) (tgArr_tid _)) h row42 rfl (by first | exact idArr_size _ | exact bytesF_size _ _) rfl ?_; intro f h
        refine s_pure h (ru_build_lk sttLk (h.ev rfl) (h.ev rfl)) rfl ?_; intro f h
        refine s_bslice (vs := [.agg (lArr ((t.getD k zTg).1, (t.getD k zTg).2.1.2.1))]) [.tmp 26] h s Try.underlying34 elm44 rfl rfl (lk_sz _) rfl rfl rfl ?_; intro f w1 v27 h s
        refine s_append 2 0 h s Try.underlying34 elm44 rfl rfl rfl rfl (by decide) (by rw [one_lk]; exact lArr_ones _) (by have h9 := lnkK_le t k; unfold maxLen; omega) (by have h9 := lnkK_le t k; omega) rfl ?_; intro f w1 v28 h s
        replace s := s.pick _ (List.sublist_cons_self _ _)
        replace s := s.resl (m := (lnkK t (k + 1)).length) (ys := lCells (lnkK t (k + 1))) 1 rfl (by rw [lnkK_y hkt c0, List.length_append]; rfl) (by rw [lnkK_y hkt c0, one_lk, lk_snoc])
        refine s_pure h (ru_assign (h.ev rfl)) rfl ?_; intro f h
        refine s_nil ?_
        refine b_norm ?_
        refine hK10 _ _ ?_
        refine c_region ?_
        refine s_pure h (ru_add (h.ev rfl) (h.ev rfl) (by omega)) rfl ?_; intro f h
        refine s_pure h (ru_move (h.ev rfl)) rfl ?_; intro f h
        refine s_nil ?_
        refine t_norm ?_
        exact ⟨_, by omega, ⟨k + 1, v28, h.only ⟨rfl, rfl, rfl, rfl, slot_int rfl (by omega), trivial⟩, St.as (s.pick _ (List.sublist_append_right [_] _)) ⟨rfl, trivial⟩, rfl, by omega⟩⟩
      · have c0 := hc
        refine wpIn_skip ?_
        refine b_norm ?_
        refine hK10 _ _ ?_
        refine c_region ?_
        refine s_pure h (ru_add (h.ev rfl) (h.ev rfl) (by omega)) rfl ?_; intro f h
        refine s_pure h (ru_move (h.ev rfl)) rfl ?_; intro f h
        refine s_nil ?_
        refine t_norm ?_
        exact ⟨_, by omega, ⟨k + 1, vb, h.only ⟨rfl, rfl, rfl, rfl, slot_int rfl (by omega), trivial⟩, St.as (s.pick _ (List.sublist_append_right [_] _)) ⟨sl_eq (by rw [lnkK_n hkt c0]) (by rw [lnkK_n hkt c0]), trivial⟩, rfl, by omega⟩⟩
    · replace hc := of_decide_eq_false hc
      refine wpIn_exit ?_
      refine t_exit ?_
      refine t_exit ?_
      refine b_exit ?_
      refine hK6 _ _ ?_
      refine c_seq fun K13 hK13 => ?_
      refine c_region ?_
      refine s_pure h (ru_move (h.ev rfl)) rfl ?_; intro f h
      refine s_pure h (ru_assign (h.ev rfl)) rfl ?_; intro f h
      refine s_pure h (ru_assign (h.ev rfl)) rfl ?_; intro f h
      refine s_nil ?_
      refine hK13 _ _ ?_
      refine wpIn_ret ?_
      exact e_tmps rfl h s rfl rfl ((by have e9 : lnkK t k = lnkT t := (by unfold lnkK; rw [List.take_of_length_le (by omega)]); rw [(sl_y t0).1, (sl_y t0).2, ← e9]; exact slP_own (s.sel [0] rfl (by decide))))

set_option maxHeartbeats 4000000 in
theorem spdel_any (t : List Tg) (vh : Value) (p : Pk) (vs : Value) (w : World) (hR : RdZ w vh 67 t.length (tgCells t)) (hln : t.length ≤ 1000) (hP : RdZ w vs 34 p.1.length (eCells p.1)) (hpl : p.1.length ≤ 1000) : Calls Try.prog 9 [vh, .agg (pkArr vs p.2.1 p.2.2)].toArray w (Ret w (SpP w (spD t p) (spE t p))) := by
  refine c_enter Try.func9 rfl Try.ntmps9 rfl [(0, vh), (1, .agg (pkArr vs p.2.1 p.2.2))] (by simp) fun f h => ?_
  have s := St.start w
  refine c_seq fun K1 hK1 => ?_
  refine c_region ?_
  refine s_box (pkArr vs p.2.1 p.2.2) h s rfl rfl rfl ?_; intro f w1 b3 h s
  refine s_alloc (ssArr nilV 0 0 0) h s zero30 rfl rfl ?_; intro f w1 b4 h s
  refine s_pure h (ru_assign (h.ev rfl)) rfl ?_; intro f h
  refine s_nil ?_
  refine hK1 _ _ ?_
  refine c_seq fun K2 hK2 => ?_
  refine c_seq fun K3 hK3 => ?_
  cases t0 : (rightT t : Bool)
  · skip
    refine c_region ?_
    refine s_pure h (ru_move (h.ev rfl)) rfl ?_; intro f h
    refine s_call h s fnc20 (ret_val (.bool false) (tright_any t vh _ (hR.keep s.ext) hln) (congrArg Value.bool t0)) rfl rfl ?_; intro f w1 v9 hT hE h s; obtain rfl := hT
    refine s_pure h (ru_val (.bool true) (ru_not (h.ev rfl)) rfl) rfl ?_; intro f h
    refine s_pure h (ru_move (h.ev rfl)) rfl ?_; intro f h
    refine s_off (b := false) h rfl rfl rfl rfl ?_; intro f h
    refine s_off (b := false) h rfl rfl rfl rfl ?_; intro f h
    refine s_off (b := false) h rfl rfl rfl rfl ?_; intro f h
    refine s_pure h (ru_pick_t (h.ev rfl) (h.ev rfl)) rfl ?_; intro f h
    refine s_nil ?_
    refine hK3 _ _ ?_
    refine wpIn_cond_true (h.ev rfl) ?_
    refine c_seq fun K4 hK4 => ?_
    refine c_region ?_
    refine s_pure h (ru_build_ss0 sttSd) rfl ?_; intro f h
    refine s_store_row 0 h s row30 rfl rfl rfl (ssArr_size _ _ _ _) (ssArr_size _ _ _ _) (ssArr_ones _ _ _ (rfl)) ?_; intro w1 s
    refine s_pure h (ru_assign (h.ev rfl)) rfl ?_; intro f h
    refine s_nil ?_
    refine hK4 _ _ ?_
    refine wpIn_ret ?_
    refine t_ret ?_
    exact e_row_tmp 0 rfl h s row30 rfl rfl (ssArr_size _ _ _ _) rfl ((by obtain ⟨e1, e2⟩ := sp_n0 p t0; rw [e1, e2]; exact spP_nil (s.sel [] rfl (by decide)) rfl))
  · skip
    cases r0 : (rightP p : Bool)
    · skip
      refine c_region ?_
      refine s_pure h (ru_move (h.ev rfl)) rfl ?_; intro f h
      refine s_call h s fnc20 (ret_val (.bool true) (tright_any t vh _ (hR.keep s.ext) hln) (congrArg Value.bool t0)) rfl rfl ?_; intro f w1 v9 hT hE h s; obtain rfl := hT
      refine s_pure h (ru_val (.bool false) (ru_not (h.ev rfl)) rfl) rfl ?_; intro f h
      refine s_pure h (ru_move (h.ev rfl)) rfl ?_; intro f h
      refine s_on h rfl rfl rfl ?_
      refine s_load_row 1 h s row25 rfl rfl (pkArr_size _ _ _) rfl ?_; intro f h
      refine s_on h rfl rfl rfl ?_
      refine s_call h s fnc21 (ret_val (.bool false) (pright_any p vs _ (hP.keep s.ext) hpl) (congrArg Value.bool r0)) rfl rfl ?_; intro f w1 v9 hT hE h s; obtain rfl := hT
      refine s_on h rfl rfl rfl ?_
      refine s_pure h (ru_val (.bool true) (ru_not (h.ev rfl)) rfl) rfl ?_; intro f h
      refine s_pure h (ru_pick_f (h.ev rfl) (h.ev rfl)) rfl ?_; intro f h
      refine s_nil ?_
      refine hK3 _ _ ?_
      refine wpIn_cond_true (h.ev rfl) ?_
      refine c_seq fun K5 hK5 => ?_
      refine c_region ?_
      refine s_pure h (ru_build_ss0 sttSd) rfl ?_; intro f h
      refine s_store_row 0 h s row30 rfl rfl rfl (ssArr_size _ _ _ _) (ssArr_size _ _ _ _) (ssArr_ones _ _ _ (rfl)) ?_; intro w1 s
      refine s_pure h (ru_assign (h.ev rfl)) rfl ?_; intro f h
      refine s_nil ?_
      refine hK5 _ _ ?_
      refine wpIn_ret ?_
      refine t_ret ?_
      exact e_row_tmp 0 rfl h s row30 rfl rfl (ssArr_size _ _ _ _) rfl ((by obtain ⟨e1, e2⟩ := sp_n1 t r0; rw [e1, e2]; exact spP_nil (s.sel [] rfl (by decide)) rfl))
    · skip
      refine c_region ?_
      refine s_pure h (ru_move (h.ev rfl)) rfl ?_; intro f h
      refine s_call h s fnc20 (ret_val (.bool true) (tright_any t vh _ (hR.keep s.ext) hln) (congrArg Value.bool t0)) rfl rfl ?_; intro f w1 v9 hT hE h s; obtain rfl := hT
      refine s_pure h (ru_val (.bool false) (ru_not (h.ev rfl)) rfl) rfl ?_; intro f h
      refine s_pure h (ru_move (h.ev rfl)) rfl ?_; intro f h
      refine s_on h rfl rfl rfl ?_
      refine s_load_row 1 h s row25 rfl rfl (pkArr_size _ _ _) rfl ?_; intro f h
      refine s_on h rfl rfl rfl ?_
      refine s_call h s fnc21 (ret_val (.bool true) (pright_any p vs _ (hP.keep s.ext) hpl) (congrArg Value.bool r0)) rfl rfl ?_; intro f w1 v9 hT hE h s; obtain rfl := hT
      refine s_on h rfl rfl rfl ?_
      refine s_pure h (ru_val (.bool false) (ru_not (h.ev rfl)) rfl) rfl ?_; intro f h
      refine s_pure h (ru_pick_f (h.ev rfl) (h.ev rfl)) rfl ?_; intro f h
      refine s_nil ?_
      refine hK3 _ _ ?_
      refine wpIn_cond_false (h.ev rfl) ?_
      refine wpIn_skip ?_
      refine hK2 _ _ ?_
      refine c_seq fun K6 hK6 => ?_
      refine c_region ?_
      refine s_alloc (#[nilV]) h s zero62 rfl rfl ?_; intro f w1 b6 h s
      refine s_nil ?_
      refine hK6 _ _ ?_
      refine c_seq fun K7 hK7 => ?_
      refine c_region ?_
      refine s_alloc (enA .zero) h s zero64 rfl rfl ?_; intro f w1 b7 h s
      refine s_nil ?_
      refine hK7 _ _ ?_
      refine c_seq fun K8 hK8 => ?_
      refine c_region ?_
      refine s_pure h (ru_assign (h.ev rfl)) rfl ?_; intro f h
      refine s_nil ?_
      refine hK8 _ _ ?_
      refine c_seq fun K9 hK9 => ?_
      refine c_region ?_
      refine s_load_row 3 h s row25 rfl rfl (pkArr_size _ _ _) rfl ?_; intro f h
      replace s := s.nilSl 25 3
      replace s := s.tail 0 rfl
      replace s := s.grp0 (S := fun w9 => RdE w9 vs p.1 → RdQ [(p, vs)] w9) (fun w9 hp9 x hx => by rw [List.mem_singleton.1 hx]; exact hp9)
      replace s := s.sel [3, 1, 0, 2, 4, 5] rfl (by decide)
      refine s_callS [.pointer (some ⟨b6, 0, none⟩), .agg (pkArr vs p.2.1 p.2.2)] h fnc22 (qput_any [] (Nat.zero_le _) nilV (p, vs) (rd_one hP) b6 [_, _, _, _] w _ s) rfl rfl ?_; rintro f w1 v23 ⟨vq0, s⟩ h
      refine s_nil ?_
      refine hK9 _ _ ?_
      refine c_seq fun K10 hK10 => ?_
      refine wpIn_block ?_
      refine wpIn_loop_ghost (fun nn aa ww => ∃ Q : List P2, ∃ vq : Value, ∃ c : Cn, ∃ kg : List Nat, Sl 61 aa [(1, .agg (pkArr vs p.2.1 p.2.2)), (3, .pointer (some ⟨b3, 0, none⟩)), (4, .pointer (some ⟨b4, 0, none⟩)), (6, .pointer (some ⟨b6, 0, none⟩)), (7, .pointer (some ⟨b7, 0, none⟩)), (0, vh), (8, .int .i64 (c.work : Int))] ∧ St w [.blk b6 (.cells (#[vq]) 62), (tlO w.heap.size vq 25 3 Q.length (pqCells Q)), (.grp kg (fun w9 => RdE w9 vs p.1 → RdQ Q w9)), .blk b7 (.cells (enA c) 64), .blk b4 (.cells (ssArr nilV 0 0 0) 30), .blk b3 (.cells (pkArr vs p.2.1 p.2.2) 25)] ww ∧ nn = 1001 - c.work ∧ Q.length ≤ 2001 ∧ c.work ≤ 1000 ∧ (∀ x ∈ Q, rightP x.1 = true) ∧ c.add (sumP (full t) (pks Q)) = full t p ∧ CB c (1001 * c.work)) (1001 - (Cn.zero).work) ⟨[(p, vs)], vq0, Cn.zero, [], h.only ⟨rfl, rfl, rfl, rfl, rfl, rfl, rfl, trivial⟩, s.as ⟨rfl, rfl, rfl, rfl, rfl, rfl, trivial⟩, rfl, show 1 ≤ 2001 by decide, show 0 ≤ 1000 by decide, fun x hx => by rw [List.mem_singleton.1 hx]; exact r0, (Cn.zero_add _).trans (Cn.add_zero _), CB.zero⟩ ?_
      rintro _ f w1 ⟨Q, vq, c, kg, h, s, hnn, hp0, hp1, hp2, hp3, hp4⟩
      refine c_seq fun K11 hK11 => ?_
      refine c_seq fun K12 hK12 => ?_
      refine c_region ?_
      refine s_call h s fnc23 (qsize_any Q vq b6 _ (Tab.of_own s 0 rfl) (s.tails 1 rfl).rd) rfl rfl ?_; intro f w1 v9 hT hE h s; obtain rfl := hT
      refine s_pure h (ru_gtr (h.ev rfl) (h.ev rfl)) rfl ?_; intro f h
      refine s_nil ?_
      refine hK12 _ _ ?_
      refine c_cond h rfl (fun hc => ?_) (fun hc => ?_)
      · have hQ0 : 0 < Q.length := by have := of_decide_eq_true hc; omega
        refine wpIn_skip ?_
        refine hK11 _ _ ?_
        refine wpIn_block ?_
        refine c_seq fun K13 hK13 => ?_
        refine c_seq fun K14 hK14 => ?_
        refine c_region ?_
        refine s_pure h (ru_move (h.ev rfl)) rfl ?_; intro f h
        refine s_call h s fnc23 (qsize_any Q vq b6 _ (Tab.of_own s 0 rfl) (s.tails 1 rfl).rd) rfl rfl ?_; intro f w1 v9 hT hE h s; obtain rfl := hT
        refine s_pure h (ru_add (h.ev rfl) (h.ev rfl) (by omega)) rfl ?_; intro f h
        refine s_pure h (ru_gtr (h.ev rfl) (h.ev rfl)) rfl ?_; intro f h
        refine s_nil ?_
        refine hK14 _ _ ?_
        refine c_cond h rfl (fun hc => ?_) (fun hc => ?_)
        · have hbig : 1000 < c.work + Q.length := by have := of_decide_eq_true hc; omega
          refine c_seq fun K15 hK15 => ?_
          refine c_region ?_
          refine s_pure h (ru_build_ss0 sttSd) rfl ?_; intro f h
          refine s_store_row 4 h s row30 rfl rfl rfl (ssArr_size _ _ _ _) (ssArr_size _ _ _ _) (ssArr_ones _ _ _ (rfl)) ?_; intro w1 s
          refine s_pure h (ru_assign (h.ev rfl)) rfl ?_; intro f h
          refine s_nil ?_
          refine hK15 _ _ ?_
          refine wpIn_ret ?_
          refine t_ret ?_
          refine b_ret ?_
          refine t_ret ?_
          refine b_ret ?_
          refine t_ret ?_
          exact e_row_tmp 4 rfl h s row30 rfl rfl (ssArr_size _ _ _ _) rfl ((by obtain ⟨e1, e2⟩ := sp_ok t0 r0; rw [bf_big hp2 hp3 hbig] at e1; rw [del_no (bf_big hp2 hp3 hbig)] at e2; rw [e1, e2]; exact spP_nil (s.sel [] rfl (by decide)) rfl))
        · have hbig : ¬ 1000 < c.work + Q.length := by have := of_decide_eq_false hc; omega
          refine wpIn_skip ?_
          refine hK13 _ _ ?_
          refine c_seq fun K16 hK16 => ?_
          refine c_region ?_
          refine s_pure h (ru_move (h.ev rfl)) rfl ?_; intro f h
          have hwn : c.work + 1 ≤ 1000 := by omega
          refine s_pure h (ru_add (h.ev rfl) (h.ev rfl) (by omega)) rfl ?_; intro f h
          refine s_pure h (ru_assign (h.ev rfl)) rfl ?_; intro f h
          refine s_nil ?_
          refine hK16 _ _ ?_
          refine c_seq fun K17 hK17 => ?_
          refine c_region ?_
          refine s_pure h (ru_move (h.ev rfl)) rfl ?_; intro f h
          obtain ⟨q, Qt, rfl⟩ := List.exists_cons_of_length_pos hQ0
          have hqr := hp2 q List.mem_cons_self
          obtain ⟨⟨hq1, hq4, hqe⟩, hq2, hq3, hqd⟩ := rightP_iff.1 hqr
          have hqs : RdE _ q.2 q.1.1 := ((s.getG 2 rfl) (hP.keep s.ext)) q List.mem_cons_self
          have hQt : Qt.length + 1 ≤ 1000 := by have := hbig; simp only [List.length_cons] at this; omega
          refine s_callS [.pointer (some ⟨b6, 0, none⟩)] h fnc25 (qtake_any q Qt vq (rd_one hqs) b6 [_, _, _, _] w _ s) rfl rfl ?_; rintro f w1 v35 ⟨rfl, s⟩ h
          refine s_call h s fnc24 (pstep_any t vh q.1 q.2 _ (hR.keep s.ext) hln (((s.getG 2 rfl) (hP.keep s.ext)) q List.mem_cons_self) (by omega)) rfl rfl ?_; rintro f w1 v36 ⟨vK, K, ks, rfl, hK, hG⟩ hE h sq; replace s := s.add hG; clear hG
          rw [rwLy hqr t0] at hK
          have hKb : K.length ≤ 1001 := by rw [← outs_len, hK]; have := (step_len (t := t) (p := q.1)).2; omega
          replace s := s.sel [0, 3, 1, 2, 4, 5, 6] rfl (by decide)
          obtain ⟨kk, hkk⟩ : ∃ z, z = ks ++ kg := ⟨_, rfl⟩
          replace s := s.merge (S := fun w9 => RdE w9 vs p.1 → RdQ Qt w9 ∧ RdU w9 vK K) (fun w9 a b hp9 => ⟨fun y hy => b hp9 y (List.mem_cons_of_mem _ hy), a (b hp9 q List.mem_cons_self)⟩)
          rw [← hkk] at s
          replace s := s.sel [1, 2, 0, 3, 4, 5] rfl (by decide)
          refine s_pure h (ru_move (h.ev rfl)) rfl ?_; intro f h
          refine s_pure h (ru_extract (h.ev rfl) rfl) rfl ?_; intro f h
          refine s_pure h (ru_extract (h.ev rfl) rfl) rfl ?_; intro f h
          refine s_pure h (ru_assign (h.ev rfl)) rfl ?_; intro f h
          refine s_pure h (ru_assign (h.ev rfl)) rfl ?_; intro f h
          refine s_nil ?_
          refine hK17 _ _ ?_
          refine c_seq fun K18 hK18 => ?_
          refine c_region ?_
          refine s_pure h (ru_move (h.ev rfl)) rfl ?_; intro f h
          refine s_pure h (ru_lenZ (((((s.getG 2 rfl) (hP.keep s.ext)).2).1)) Try.underlying67 (h.ev rfl)) rfl ?_; intro f h
          refine s_pure h (ru_move (h.ev rfl)) rfl ?_; intro f h
          refine s_nil ?_
          refine hK18 _ _ ?_
          refine wpIn_block ?_
          refine wpIn_loop_ghost (fun nn aa ww => ∃ k : Nat, ∃ vr : Value, Sl 61 aa [(1, .agg (pkArr vs p.2.1 p.2.2)), (3, .pointer (some ⟨b3, 0, none⟩)), (4, .pointer (some ⟨b4, 0, none⟩)), (6, .pointer (some ⟨b6, 0, none⟩)), (7, .pointer (some ⟨b7, 0, none⟩)), (0, vh), (8, .int .i64 ((c.work : Int) + 1)), (39, vK), (40, .int .i64 (K.length : Int)), (41, .int .i64 (k : Int))] ∧ St w [.blk b6 (.cells (#[vr]) 62), (tlO w.heap.size vr 25 3 (Qt ++ onQ (K.take k)).length (pqCells (Qt ++ onQ (K.take k)))), (.grp kk (fun w9 => RdE w9 vs p.1 → RdQ Qt w9 ∧ RdU w9 vK K)), .blk b7 (.cells (enA (cK c K k)) 64), .blk b4 (.cells (ssArr nilV 0 0 0) 30), .blk b3 (.cells (pkArr vs p.2.1 p.2.2) 25)] ww ∧ nn = K.length - k ∧ k ≤ K.length) (K.length - (0)) ⟨0, (dropV vq 3 1), h.only ⟨rfl, rfl, rfl, rfl, rfl, rfl, rfl, rfl, rfl, slot_int rfl (by omega), trivial⟩, s.as ⟨rfl, (by rw [show Qt ++ onQ (K.take 0) = Qt from List.append_nil _]), rfl, rfl, rfl, rfl, trivial⟩, rfl, Nat.zero_le _⟩ ?_
          rintro _ f w1 ⟨k, vr, h, s, hnn, hp0⟩
          refine c_seq fun K19 hK19 => ?_
          refine c_region ?_
          refine s_pure h (ru_lss (h.ev rfl) (h.ev rfl)) rfl ?_; intro f h
          refine s_nil ?_
          refine hK19 _ _ ?_
          refine c_seq fun K20 hK20 => ?_
          refine c_cond h rfl (fun hc => ?_) (fun hc => ?_)
          · replace hc := of_decide_eq_true hc
            refine wpIn_skip ?_
            refine hK20 _ _ ?_
            refine c_seq fun K21 hK21 => ?_
            refine wpIn_block ?_
            refine c_seq fun K22 hK22 => ?_
            refine c_region ?_
            have hkl : k < K.length := by omega
            refine s_pure h (ru_ixz (((((s.getG 2 rfl) (hP.keep s.ext)).2).1)) (k) Try.underlying67 szo72 (h.ev rfl) (h.ev rfl) (by omega) (by omega)) rfl ?_; intro f h
            refine s_load_at ((((((s.getG 2 rfl) (hP.keep s.ext)).2).1)).el (k) (by omega) (by decide) (D := otArr (K.getD k zO2).1.k (K.getD k zO2).1.h (K.getD k zO2).2 (K.getD k zO2).1.p.2.1 (K.getD k zO2).1.p.2.2 (K.getD k zO2).1.t (K.getD k zO2).1.y) (ou_el K k hkl)) h row72 rfl (otArr_size _ _ _ _ _ _ _) rfl ?_; intro f h
            refine s_alloc (otArr 0 0 nilV 0 ByteArray.empty zTg 0) h s zero72 rfl rfl ?_; intro f w1 b12 h s
            refine s_store_row 0 h s row72 rfl rfl rfl (otArr_size _ _ _ _ _ _ _) (otArr_size _ _ _ _ _ _ _) (otArr_ones _ _ _ _ _ _ (rd_one ((((((s.getG 3 rfl) (hP.keep s.ext)).2)).2 _ (ou_mem hkl))))) ?_; intro w1 s
            refine s_nil ?_
            refine hK22 _ _ ?_
            refine c_seq fun K23 hK23 => ?_
            refine c_region ?_
            refine s_pure h (ru_field fld72_0 (h.ev rfl)) rfl ?_; intro f h
            refine s_load_at1 (V := .int .i64 (K.getD k zO2).1.k) (cell_of_has (Has.of_own s 0 rfl) 0 (ot_k _ _ _ _ _ _ _)) h one3 rfl rfl ?_; intro f h
            refine s_pure h (ru_eql (h.ev rfl) (h.ev rfl)) rfl ?_; intro f h
            refine s_nil ?_
            refine hK23 _ _ ?_
            refine c_cond h rfl (fun hc => ?_) (fun hc => ?_)
            · have k2 := hc
              refine c_region ?_
              refine s_pure h (ru_field fld72_2 (h.ev rfl)) rfl ?_; intro f h
              refine s_load_at (Has.subL (Has.of_own s 0 rfl) 2 3 (D := pkArr (K.getD k zO2).2 (K.getD k zO2).1.p.2.1 (K.getD k zO2).1.p.2.2) (ot_p _ _ _ _ _ _ _)) h row25 rfl (pkArr_size _ _ _) rfl ?_; intro f h
              replace s := s.sel [1, 2, 3, 4, 5, 6] rfl (by decide)
              have hone : (K.getD k zO2).2.oneCell' = true := rd_one ((((s.getG 2 rfl) (hP.keep s.ext)).2).2 _ (ou_mem hkl))
              refine s_callS [.pointer (some ⟨b6, 0, none⟩), .agg (pkArr (K.getD k zO2).2 (K.getD k zO2).1.p.2.1 (K.getD k zO2).1.p.2.2)] h fnc22 (qput_any (Qt ++ onQ (K.take k)) (by rw [List.length_append]; have := onQ_len K k; omega) vr ((K.getD k zO2).1.p, (K.getD k zO2).2) hone b6 [_, _, _, _] w _ s) rfl rfl ?_; rintro f w1 v50 ⟨vn, s⟩ h
              rw [List.append_assoc, ← onQ_y hkl k2] at s
              refine s_nil ?_
              refine b_norm ?_
              refine hK21 _ _ ?_
              refine c_region ?_
              refine s_pure h (ru_add (h.ev rfl) (h.ev rfl) (by omega)) rfl ?_; intro f h
              refine s_pure h (ru_move (h.ev rfl)) rfl ?_; intro f h
              refine s_nil ?_
              refine t_norm ?_
              exact ⟨_, by omega, ⟨k + 1, vn, h.only ⟨rfl, rfl, rfl, rfl, rfl, rfl, rfl, rfl, rfl, slot_int rfl (by omega), trivial⟩, St.as s ⟨rfl, rfl, rfl, (by rw [cK_y hkl k2]), rfl, rfl, trivial⟩, rfl, by omega⟩⟩
            · have k2 := hc
              refine c_region ?_
              refine s_load_row 0 h s row72 rfl rfl (otArr_size _ _ _ _ _ _ _) rfl ?_; intro f h
              replace s := s.sel [4, 1, 2, 3, 5, 6] rfl (by decide)
              have hone : (K.getD k zO2).2.oneCell' = true := rd_one ((((s.getG 3 rfl) (hP.keep s.ext)).2).2 _ (ou_mem hkl))
              refine s_callS [.pointer (some ⟨b7, 0, none⟩), .agg (otArr (K.getD k zO2).1.k (K.getD k zO2).1.h (K.getD k zO2).2 (K.getD k zO2).1.p.2.1 (K.getD k zO2).1.p.2.2 (K.getD k zO2).1.t (K.getD k zO2).1.y)] h fnc26 (ennote_any (K.getD k zO2).1 (K.getD k zO2).2 hone (cK c K k) b7 [_, _, _, _, _] k2 (fun h9 => step_hostB hqr (outs_mem hK hkl) h9) ((cK_cb hp4 k (by omega)).mono (by omega)) w _ s) rfl rfl ?_; rintro f w1 v52 s h
              rw [← cK_s hkl] at s
              replace s := s.sel [1, 2, 3, 0, 4, 5] rfl (by decide)
              refine s_nil ?_
              refine b_norm ?_
              refine hK21 _ _ ?_
              refine c_region ?_
              refine s_pure h (ru_add (h.ev rfl) (h.ev rfl) (by omega)) rfl ?_; intro f h
              refine s_pure h (ru_move (h.ev rfl)) rfl ?_; intro f h
              refine s_nil ?_
              refine t_norm ?_
              exact ⟨_, by omega, ⟨k + 1, vr, h.only ⟨rfl, rfl, rfl, rfl, rfl, rfl, rfl, rfl, rfl, slot_int rfl (by omega), trivial⟩, St.as s ⟨rfl, (by rw [onQ_n hkl k2]), rfl, rfl, rfl, rfl, trivial⟩, rfl, by omega⟩⟩
          · replace hc := of_decide_eq_false hc
            refine wpIn_exit ?_
            refine t_exit ?_
            refine t_exit ?_
            refine b_exit ?_
            refine b_norm ?_
            refine t_norm ?_
            replace s := s.sel [0, 1, 2, 3, 4, 5] rfl (by decide)
            obtain rfl : k = K.length := by omega
            replace s := s.sel [2, 0, 1, 3, 4, 5] rfl (by decide)
            replace s := s.weak (S' := fun w9 => RdE w9 vs p.1 → RdQ (Qt ++ onQ (K.take K.length)) w9) (fun w9 a hp9 => (a hp9).1.app (onQ_rd ((a hp9).2.2.take _)))
            replace s := s.sel [1, 2, 0, 3, 4, 5] rfl (by decide)
            have hwk := cK_work c K K.length
            have hbf := bf_next hq2 hK hp3
            exact ⟨_, by omega, ⟨(Qt ++ onQ (K.take K.length)), vr, (cK c K K.length), kk, h.only ⟨rfl, rfl, rfl, rfl, rfl, rfl, slot_int rfl (by omega), trivial⟩, St.as s ⟨rfl, rfl, rfl, rfl, rfl, rfl, trivial⟩, rfl, by rw [List.length_append]; have := onQ_len K K.length; omega, by omega, fun y hy => (List.mem_append.1 hy).elim (fun h8 => hp2 y (List.mem_cons_of_mem _ h8)) (fun h8 => onQ_right hqr t0 hK _ (by rw [List.take_length] at h8; exact h8)), by rw [List.take_length]; exact hbf, (cK_cb hp4 K.length (Nat.le_refl _)).mono (by omega)⟩⟩
      · have hQ0 : Q = [] := List.eq_nil_of_length_eq_zero (by have := of_decide_eq_false hc; omega)
        refine wpIn_exit ?_
        refine t_exit ?_
        refine t_exit ?_
        refine b_exit ?_
        refine hK10 _ _ ?_
        refine c_seq fun K24 hK24 => ?_
        have hcf := bf_end hQ0 hp3
        obtain ⟨hdb, hdd, hcok⟩ := bf_ok hcf hp1 (rightP_iff.1 r0).2.1
        refine c_regT 0 7 [[], [], [1], [], [3], [], [0, 1, 2, 3, 4, 5], [0, 1, 2, 3, 4, 5, 6], [0, 1, 2, 3, 4, 5, 6, 7]] [[], [], [], [], [], [], [], [], []] [fun v => [.sl (v 0) 3 1 (hostK c 16).length (intC (hostK c 16))], fun _ => [], fun _ => [], fun _ => [], fun _ => [], fun _ => [], fun _ => [], fun _ => [], fun _ => []] [] [fun v => (v 0).oneCell' = true, fun v => v 1 = .pointer (some ⟨b7, 16, none⟩), fun v => v 2 = .int .i64 (c.lost : Int), fun v => v 3 = .pointer (some ⟨b7, 17, none⟩), fun v => v 4 = .int .i64 (c.hops : Int), fun v => v 5 = .int .i64 (c.work : Int), fun v => v 6 = .agg (ssArr (v 0) (c.lost : Int) (c.hops : Int) (c.work : Int)), fun _ => True, fun _ => True] [.blk b6 (.cells (#[vq]) 62), (tlO w.heap.size vq 25 3 Q.length (pqCells Q)), (.grp kg (fun w9 => RdE w9 vs p.1 → RdQ Q w9)), .blk b7 (.cells (enA c) 64), .blk b4 (.cells (ssArr nilV 0 0 0) 30), .blk b3 (.cells (pkArr vs p.2.1 p.2.2) 25)] h s rfl (by kernel_rfl) (by kernel_rfl) (by kernel_rfl) (And.intro ?_ (And.intro ?_ (And.intro ?_ (And.intro ?_ (And.intro ?_ (And.intro ?_ (And.intro ?_ (trivial)))))))) [0, 1, 2, 3, 4, 5, 6] (by kernel_rfl) ?_
        · intro f9 w2 vl19 E9 hs9 hd9 hl hF s
          have e7 : f9.tmps.getD 7 undef = _ := oc_old hl 7 (by kernel_rfl) (by kernel_rfl) (h.holds 7 _ rfl)
          have h := fin_slot [(7, _)] (hs9.trans h.size) (hd9.trans h.defers) (holds_lk ⟨e7, trivial⟩)
          replace s : St w (.blk b6 (.cells (#[vq]) 62) :: (tlO w.heap.size vq 25 3 Q.length (pqCells Q)) :: (.grp kg (fun w9 => RdE w9 vs p.1 → RdQ Q w9)) :: .blk b7 (.cells (enA c) 64) :: .blk b4 (.cells (ssArr nilV 0 0 0) 30) :: .blk b3 (.cells (pkArr vs p.2.1 p.2.2) 25) :: E9) _ := s
          refine s_call h s fnc27 (enhosts_any c b7 _ (Tab.of_own s 3 rfl) hcok) rfl rfl ?_; intro f w3 v54 hT hE h sq; replace s := s.sl_new hE hT
          exact s_nil ⟨_, oc_out 54 rfl (h.holds 54 _ rfl), own_one (s.getSl 0 rfl), s⟩
        · intro f9 w2 vl19 E9 hs9 hd9 hl hF s
          have e7 : f9.tmps.getD 7 undef = _ := oc_old hl 7 (by kernel_rfl) (by kernel_rfl) (h.holds 7 _ rfl)
          have h := fin_slot [(7, _)] (hs9.trans h.size) (hd9.trans h.defers) (holds_lk ⟨e7, trivial⟩)
          replace s : St w (.blk b6 (.cells (#[vq]) 62) :: (tlO w.heap.size vq 25 3 Q.length (pqCells Q)) :: (.grp kg (fun w9 => RdE w9 vs p.1 → RdQ Q w9)) :: .blk b7 (.cells (enA c) 64) :: .blk b4 (.cells (ssArr nilV 0 0 0) 30) :: .blk b3 (.cells (pkArr vs p.2.1 p.2.2) 25) :: E9) _ := s
          refine s_pure h (ru_ix (16) Try.underlying64 size3 (h.ev rfl) (h.ev rfl) (rfl) (by omega)) rfl ?_; intro f h
          exact s_nil ⟨_, oc_out 55 rfl (h.holds 55 _ rfl), rfl, s⟩
        · intro f9 w2 vl19 E9 hs9 hd9 hl hF s
          have e55 : f9.tmps.getD 55 undef = .pointer (some ⟨b7, 16, none⟩) := (oc_get hl 55 1 (by kernel_rfl) (by kernel_rfl)).trans (hF 1 (by decide))
          have h := fin_slot [(55, .pointer (some ⟨b7, 16, none⟩))] (hs9.trans h.size) (hd9.trans h.defers) (holds_lk ⟨e55, trivial⟩)
          replace s : St w (.blk b6 (.cells (#[vq]) 62) :: (tlO w.heap.size vq 25 3 Q.length (pqCells Q)) :: (.grp kg (fun w9 => RdE w9 vs p.1 → RdQ Q w9)) :: .blk b7 (.cells (enA c) 64) :: .blk b4 (.cells (ssArr nilV 0 0 0) 30) :: .blk b3 (.cells (pkArr vs p.2.1 p.2.2) 25) :: E9) _ := s
          refine s_load_one 3 h s one3 rfl rfl (en_lost _) rfl ?_; intro f h
          exact s_nil ⟨_, oc_out 56 rfl (h.holds 56 _ rfl), rfl, s⟩
        · intro f9 w2 vl19 E9 hs9 hd9 hl hF s
          have e7 : f9.tmps.getD 7 undef = _ := oc_old hl 7 (by kernel_rfl) (by kernel_rfl) (h.holds 7 _ rfl)
          have h := fin_slot [(7, _)] (hs9.trans h.size) (hd9.trans h.defers) (holds_lk ⟨e7, trivial⟩)
          replace s : St w (.blk b6 (.cells (#[vq]) 62) :: (tlO w.heap.size vq 25 3 Q.length (pqCells Q)) :: (.grp kg (fun w9 => RdE w9 vs p.1 → RdQ Q w9)) :: .blk b7 (.cells (enA c) 64) :: .blk b4 (.cells (ssArr nilV 0 0 0) 30) :: .blk b3 (.cells (pkArr vs p.2.1 p.2.2) 25) :: E9) _ := s
          refine s_pure h (ru_ix (17) Try.underlying64 size3 (h.ev rfl) (h.ev rfl) (rfl) (by omega)) rfl ?_; intro f h
          exact s_nil ⟨_, oc_out 57 rfl (h.holds 57 _ rfl), rfl, s⟩
        · intro f9 w2 vl19 E9 hs9 hd9 hl hF s
          have e57 : f9.tmps.getD 57 undef = .pointer (some ⟨b7, 17, none⟩) := (oc_get hl 57 3 (by kernel_rfl) (by kernel_rfl)).trans (hF 3 (by decide))
          have h := fin_slot [(57, .pointer (some ⟨b7, 17, none⟩))] (hs9.trans h.size) (hd9.trans h.defers) (holds_lk ⟨e57, trivial⟩)
          replace s : St w (.blk b6 (.cells (#[vq]) 62) :: (tlO w.heap.size vq 25 3 Q.length (pqCells Q)) :: (.grp kg (fun w9 => RdE w9 vs p.1 → RdQ Q w9)) :: .blk b7 (.cells (enA c) 64) :: .blk b4 (.cells (ssArr nilV 0 0 0) 30) :: .blk b3 (.cells (pkArr vs p.2.1 p.2.2) 25) :: E9) _ := s
          refine s_load_one 3 h s one3 rfl rfl (en_hops _) rfl ?_; intro f h
          exact s_nil ⟨_, oc_out 58 rfl (h.holds 58 _ rfl), rfl, s⟩
        · intro f9 w2 vl19 E9 hs9 hd9 hl hF s
          have e8 : f9.tmps.getD 8 undef = _ := oc_old hl 8 (by kernel_rfl) (by kernel_rfl) (h.holds 8 _ rfl)
          have h := fin_slot [(8, _)] (hs9.trans h.size) (hd9.trans h.defers) (holds_lk ⟨e8, trivial⟩)
          replace s : St w (.blk b6 (.cells (#[vq]) 62) :: (tlO w.heap.size vq 25 3 Q.length (pqCells Q)) :: (.grp kg (fun w9 => RdE w9 vs p.1 → RdQ Q w9)) :: .blk b7 (.cells (enA c) 64) :: .blk b4 (.cells (ssArr nilV 0 0 0) 30) :: .blk b3 (.cells (pkArr vs p.2.1 p.2.2) 25) :: E9) _ := s
          refine s_pure h (ru_move (h.ev rfl)) rfl ?_; intro f h
          exact s_nil ⟨_, oc_out 59 rfl (h.holds 59 _ rfl), rfl, s⟩
        · intro f9 w2 vl19 E9 hs9 hd9 hl hF s
          have e54 : f9.tmps.getD 54 undef = (vl19 0) := oc_get hl 54 0 (by kernel_rfl) (by kernel_rfl)
          have e56 : f9.tmps.getD 56 undef = .int .i64 (c.lost : Int) := (oc_get hl 56 2 (by kernel_rfl) (by kernel_rfl)).trans (hF 2 (by decide))
          have e58 : f9.tmps.getD 58 undef = .int .i64 (c.hops : Int) := (oc_get hl 58 4 (by kernel_rfl) (by kernel_rfl)).trans (hF 4 (by decide))
          have e59 : f9.tmps.getD 59 undef = .int .i64 (c.work : Int) := (oc_get hl 59 5 (by kernel_rfl) (by kernel_rfl)).trans (hF 5 (by decide))
          have h := fin_slot [(54, (vl19 0)), (56, .int .i64 (c.lost : Int)), (58, .int .i64 (c.hops : Int)), (59, .int .i64 (c.work : Int))] (hs9.trans h.size) (hd9.trans h.defers) (holds_lk ⟨e54, e56, e58, e59, trivial⟩)
          replace s : St w (.blk b6 (.cells (#[vq]) 62) :: (tlO w.heap.size vq 25 3 Q.length (pqCells Q)) :: (.grp kg (fun w9 => RdE w9 vs p.1 → RdQ Q w9)) :: .blk b7 (.cells (enA c) 64) :: .blk b4 (.cells (ssArr nilV 0 0 0) 30) :: .blk b3 (.cells (pkArr vs p.2.1 p.2.2) 25) :: E9) _ := s
          refine s_pure h (ru_build_ss4 sttSd (one_cell (hF 0 (by decide))).1 (one_cell (hF 0 (by decide))).2 (h.ev rfl) (h.ev rfl) (h.ev rfl) (h.ev rfl)) rfl ?_; intro f h
          exact s_nil ⟨_, oc_out 60 rfl (h.holds 60 _ rfl), rfl, s⟩
        intro f w1 vl19 hs9 hd9 hv hr hF s
        replace hv := fun i d h9 => hv i d (show Nat.blt i 7 = true from h9)
        replace h := oc_slT 7 (ops := _) [(54, (vl19 0)), (55, .pointer (some ⟨b7, 16, none⟩)), (56, .int .i64 (c.lost : Int)), (57, .pointer (some ⟨b7, 17, none⟩)), (58, .int .i64 (c.hops : Int)), (59, .int .i64 (c.work : Int)), (60, .agg (ssArr (vl19 0) (c.lost : Int) (c.hops : Int) (c.work : Int)))] h hs9 hd9 hr ⟨hv 0 54 rfl rfl, (hv 1 55 rfl rfl).trans (hF 1 (by kernel_rfl)), (hv 2 56 rfl rfl).trans (hF 2 (by kernel_rfl)), (hv 3 57 rfl rfl).trans (hF 3 (by kernel_rfl)), (hv 4 58 rfl rfl).trans (hF 4 (by kernel_rfl)), (hv 5 59 rfl rfl).trans (hF 5 (by kernel_rfl)), (hv 6 60 rfl rfl).trans (hF 6 (by kernel_rfl)), trivial⟩ (by kernel_rfl)
        replace s : St w [.sl (vl19 0) 3 1 (hostK c 16).length (intC (hostK c 16)), .blk b6 (.cells (#[vq]) 62), (tlO w.heap.size vq 25 3 Q.length (pqCells Q)), (.grp kg (fun w9 => RdE w9 vs p.1 → RdQ Q w9)), .blk b7 (.cells (enA c) 64), .blk b4 (.cells (ssArr nilV 0 0 0) 30), .blk b3 (.cells (pkArr vs p.2.1 p.2.2) 25)] _ := s
        refine s_store_row 5 h s row30 rfl rfl rfl (ssArr_size _ _ _ _) (ssArr_size _ _ _ _) (ssArr_ones _ _ _ (hF 0 (by kernel_rfl))) ?_; intro w1 s
        refine s_pure h (ru_assign (h.ev rfl)) rfl ?_; intro f h
        refine s_nil ?_
        refine hK24 _ _ ?_
        refine wpIn_ret ?_
        exact e_row_tmp 5 rfl h s row30 rfl rfl (ssArr_size _ _ _ _) rfl ((by obtain ⟨e1, e2⟩ := sp_ok t0 r0; rw [hdb] at e1; rw [hdd] at e2; rw [e1, e2]; exact spP_own (s.sel [0] rfl (by decide)) rfl))
end Go.Proofs.Ytdehanjhphfanaa
