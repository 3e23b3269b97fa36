/- What packages stack and rewrite answer: which stacks and packets may be, which are the same, what is pushed, what becomes of a packet. -/
import Derived.Test.YtdehanjhphfanaaXt
set_option linter.unusedVariables false
set_option linter.unusedSimpArgs false
set_option linter.unusedSectionVars false
namespace Go.Proofs.Ytdehanjhphfanaa
open Go.RowKit
theorem all_any (l : List Ent) (vh : Value) (w : World) (hv : RdZ w vh 34 l.length (eCells l)) (hln : l.length ≤ 1000000) : Calls Try.prog 71 [vh].toArray w (Ret w (is (.bool (l.all isE)))) := by
  refine c_enter Try.func71 rfl Try.ntmps71 rfl [(0, vh)] (by simp) fun f h => ?_
  have s := St.start w
  refine c_seq fun K1 hK1 => ?_
  refine c_region ?_
  refine s_pure h (ru_assign (h.ev rfl)) rfl ?_; intro f h
  refine s_nil ?_
  refine hK1 _ _ ?_
  refine c_seq fun K2 hK2 => ?_
  refine c_seq fun K3 hK3 => ?_
  refine c_region ?_
  refine s_pure h (ru_move (h.ev rfl)) rfl ?_; intro f h
  refine s_pure h (ru_lenZ (hv.keep s.ext) Try.underlying23 (h.ev rfl)) rfl ?_; intro f h
  refine s_pure h (ru_move (h.ev rfl)) rfl ?_; intro f h
  refine s_nil ?_
  refine hK3 _ _ ?_
  refine wpIn_block ?_
  refine wpIn_loop_ghost (fun nn aa ww => ∃ k : Nat, Sl 15 aa [(0, vh), (5, vh), (6, .int .i64 (l.length : Int)), (7, .int .i64 (k : Int))] ∧ St w [] ww ∧ nn = l.length - k ∧ k ≤ l.length ∧ ∀ i (hi : i < l.length), i < k → isE l[i] = true) (l.length - (0)) ⟨0, h.only ⟨rfl, rfl, rfl, slot_int rfl (by omega), trivial⟩, s.as trivial, rfl, Nat.zero_le _, fun i hi h9 => absurd h9 (Nat.not_lt_zero _)⟩ ?_
  rintro _ f w1 ⟨k, h, s, hnn, hp0, hp1⟩
  refine c_seq fun K4 hK4 => ?_
  refine c_region ?_
  refine s_pure h (ru_lss (h.ev rfl) (h.ev rfl)) rfl ?_; intro f h
  refine s_nil ?_
  refine hK4 _ _ ?_
  refine c_seq fun K5 hK5 => ?_
  refine c_cond h rfl (fun hc => ?_) (fun hc => ?_)
  · replace hc := of_decide_eq_true hc
    refine wpIn_skip ?_
    refine hK5 _ _ ?_
    refine c_seq fun K6 hK6 => ?_
    refine wpIn_block ?_
    refine c_seq fun K7 hK7 => ?_
    refine c_region ?_
    have hkl : k < l.length := by omega
    refine s_pure h (ru_ixz (hv.keep s.ext) (k) Try.underlying23 szo53 (h.ev rfl) (h.ev rfl) (by omega) (by omega)) rfl ?_; intro f h
    refine s_load_at ((hv.keep s.ext).el (k) (by omega) (by decide) (D := eArr l[k]) (e_el l k hkl)) h row53 rfl (eArr_size _) rfl ?_; intro f h
    refine s_alloc (eArr (0, 0#256, 0)) h s zero53 rfl rfl ?_; intro f w1 b4 h s
    refine s_store_row 0 h s row53 rfl rfl rfl (eArr_size _) (eArr_size _) (eArr_ones _) ?_; intro w1 s
    refine s_nil ?_
    refine hK7 _ _ ?_
    refine c_seq fun K8 hK8 => ?_
    refine c_region ?_
    refine s_load_row 0 h s row53 rfl rfl (eArr_size _) rfl ?_; intro f h
    refine s_call h s fnc64 (is_any _ _) rfl rfl ?_; intro f w1 v9 hT hE h s; obtain rfl := hT
    refine s_pure h (ru_not (h.ev rfl)) rfl ?_; intro f h
    refine s_nil ?_
    refine hK8 _ _ ?_
    refine c_cond h rfl (fun hc => ?_) (fun hc => ?_)
    · refine c_seq fun K9 hK9 => ?_
      refine c_region ?_
      refine s_pure h (ru_assign (h.ev rfl)) rfl ?_; intro f h
      refine s_nil ?_
      refine hK9 _ _ ?_
      refine wpIn_ret ?_
      refine b_ret ?_
      refine t_ret ?_
      refine t_ret ?_
      refine b_ret ?_
      refine t_ret ?_
      exact e_tmp rfl h s rfl (congrArg Value.bool (all_no hkl hc))
    · refine wpIn_skip ?_
      refine b_norm ?_
      refine hK6 _ _ ?_
      refine c_region ?_
      refine s_pure h (ru_add (h.ev rfl) (h.ev rfl) (by omega)) rfl ?_; intro f h
      refine s_pure h (ru_move (h.ev rfl)) rfl ?_; intro f h
      refine s_nil ?_
      refine t_norm ?_
      exact ⟨_, by omega, ⟨k + 1, h.only ⟨rfl, rfl, rfl, slot_int rfl (by omega), trivial⟩, St.as (s.pick _ (List.sublist_append_right [_] _)) trivial, rfl, by omega, all_next (fun y => isE y = true) hp1 hkl (by simpa using hc)⟩⟩
  · replace hc := of_decide_eq_false hc
    refine wpIn_exit ?_
    refine t_exit ?_
    refine t_exit ?_
    refine b_exit ?_
    refine hK2 _ _ ?_
    refine c_seq fun K10 hK10 => ?_
    refine c_region ?_
    refine s_pure h (ru_assign (h.ev rfl)) rfl ?_; intro f h
    refine s_nil ?_
    refine hK10 _ _ ?_
    refine wpIn_ret ?_
    exact e_tmp rfl h s rfl (congrArg Value.bool (all_yes (by omega) hp1))

theorem right_any (l : List Ent) (vh : Value) (w : World) (hv : RdZ w vh 34 l.length (eCells l)) (hln : l.length ≤ 1000000) : Calls Try.prog 49 [vh].toArray w (Ret w (is (.bool (rightE l)))) := by
  refine c_enter Try.func49 rfl Try.ntmps49 rfl [(0, vh)] (by simp) fun f h => ?_
  have s := St.start w
  refine c_seq fun K1 hK1 => ?_
  refine c_region ?_
  refine s_pure h (ru_assign (h.ev rfl)) rfl ?_; intro f h
  refine s_nil ?_
  refine hK1 _ _ ?_
  refine c_seq fun K2 hK2 => ?_
  cases h1 : (decide (0 < l.length) : Bool)
  · skip
    refine c_region ?_
    refine s_pure h (ru_move (h.ev rfl)) rfl ?_; intro f h
    refine s_pure h (ru_lenZ (hv.keep s.ext) Try.underlying23 (h.ev rfl)) rfl ?_; intro f h
    refine s_pure h (ru_val (.bool false) (ru_gtr (h.ev rfl) (h.ev rfl)) (congrArg Value.bool ((decide_eq_decide.2 (by omega)).trans h1))) rfl ?_; intro f h
    refine s_pure h (ru_move (h.ev rfl)) rfl ?_; intro f h
    refine s_off (b := true) h rfl rfl rfl rfl ?_; intro f h
    refine s_off (b := true) h rfl rfl rfl rfl ?_; intro f h
    refine s_off (b := true) h rfl rfl rfl rfl ?_; intro f h
    refine s_pure h (ru_pick_f (h.ev rfl) (h.ev rfl)) rfl ?_; intro f h
    refine s_pure h (ru_move (h.ev rfl)) rfl ?_; intro f h
    refine s_off (b := true) h rfl rfl rfl rfl ?_; intro f h
    refine s_off (b := true) h rfl rfl rfl rfl ?_; intro f h
    refine s_pure h (ru_pick_f (h.ev rfl) (h.ev rfl)) rfl ?_; intro f h
    refine s_pure h (ru_assign (h.ev rfl)) rfl ?_; intro f h
    refine s_nil ?_
    refine hK2 _ _ ?_
    refine wpIn_ret ?_
    exact e_tmp rfl h s rfl (by show _ = _; unfold rightE; rw [h1]; rfl)
  · skip
    cases h2 : (decide (l.length ≤ 4) : Bool)
    · skip
      refine c_region ?_
      refine s_pure h (ru_move (h.ev rfl)) rfl ?_; intro f h
      refine s_pure h (ru_lenZ (hv.keep s.ext) Try.underlying23 (h.ev rfl)) rfl ?_; intro f h
      refine s_pure h (ru_val (.bool true) (ru_gtr (h.ev rfl) (h.ev rfl)) (congrArg Value.bool ((decide_eq_decide.2 (by omega)).trans h1))) rfl ?_; intro f h
      refine s_pure h (ru_move (h.ev rfl)) rfl ?_; intro f h
      refine s_on h rfl rfl rfl ?_
      refine s_pure h (ru_move (h.ev rfl)) rfl ?_; intro f h
      refine s_on h rfl rfl rfl ?_
      refine s_pure h (ru_lenZ (hv.keep s.ext) Try.underlying23 (h.ev rfl)) rfl ?_; intro f h
      refine s_on h rfl rfl rfl ?_
      refine s_pure h (ru_val (.bool false) (ru_leq (h.ev rfl) (h.ev rfl)) (congrArg Value.bool ((decide_eq_decide.2 (by omega)).trans h2))) rfl ?_; intro f h
      refine s_pure h (ru_pick_t (h.ev rfl) (h.ev rfl)) rfl ?_; intro f h
      refine s_pure h (ru_move (h.ev rfl)) rfl ?_; intro f h
      refine s_off (b := true) h rfl rfl rfl rfl ?_; intro f h
      refine s_off (b := true) h rfl rfl rfl rfl ?_; intro f h
      refine s_pure h (ru_pick_f (h.ev rfl) (h.ev rfl)) rfl ?_; intro f h
      refine s_pure h (ru_assign (h.ev rfl)) rfl ?_; intro f h
      refine s_nil ?_
      refine hK2 _ _ ?_
      refine wpIn_ret ?_
      exact e_tmp rfl h s rfl (by show _ = _; unfold rightE; rw [h1, h2]; rfl)
    · skip
      refine c_region ?_
      refine s_pure h (ru_move (h.ev rfl)) rfl ?_; intro f h
      refine s_pure h (ru_lenZ (hv.keep s.ext) Try.underlying23 (h.ev rfl)) rfl ?_; intro f h
      refine s_pure h (ru_val (.bool true) (ru_gtr (h.ev rfl) (h.ev rfl)) (congrArg Value.bool ((decide_eq_decide.2 (by omega)).trans h1))) rfl ?_; intro f h
      refine s_pure h (ru_move (h.ev rfl)) rfl ?_; intro f h
      refine s_on h rfl rfl rfl ?_
      refine s_pure h (ru_move (h.ev rfl)) rfl ?_; intro f h
      refine s_on h rfl rfl rfl ?_
      refine s_pure h (ru_lenZ (hv.keep s.ext) Try.underlying23 (h.ev rfl)) rfl ?_; intro f h
      refine s_on h rfl rfl rfl ?_
      refine s_pure h (ru_val (.bool true) (ru_leq (h.ev rfl) (h.ev rfl)) (congrArg Value.bool ((decide_eq_decide.2 (by omega)).trans h2))) rfl ?_; intro f h
      refine s_pure h (ru_pick_t (h.ev rfl) (h.ev rfl)) rfl ?_; intro f h
      refine s_pure h (ru_move (h.ev rfl)) rfl ?_; intro f h
      refine s_on h rfl rfl rfl ?_
      refine s_pure h (ru_move (h.ev rfl)) rfl ?_; intro f h
      refine s_on h rfl rfl rfl ?_
      refine s_call h s fnc71 (all_any l vh _ (hv.keep s.ext) hln) rfl rfl ?_; intro f w1 v9 hT hE h s; obtain rfl := hT
      refine s_pure h (ru_pick_t (h.ev rfl) (h.ev rfl)) rfl ?_; intro f h
      refine s_pure h (ru_assign (h.ev rfl)) rfl ?_; intro f h
      refine s_nil ?_
      refine hK2 _ _ ?_
      refine wpIn_ret ?_
      exact e_tmp rfl h s rfl (by show _ = _; unfold rightE; rw [h1, h2]; rfl)

theorem grow_any (n : Nat) (hn : n ≤ 1000) (w : World) : Calls Try.prog 87 [.slice none 0 0, .int .i64 (n : Int)].toArray w (Ret w (fun v w' => Owns w' w.heap.size 53 34 v 0 [])) := by
  refine c_enter Try.func87 rfl Try.ntmps87 rfl [(0, .slice none 0 0), (1, .int .i64 (n : Int))] (by simp) fun f h => ?_
  have s := St.start w
  refine c_seq fun K1 hK1 => ?_
  refine c_region ?_
  refine s_pure h (ru_assign (h.ev rfl)) rfl ?_; intro f h
  refine s_nil ?_
  refine hK1 _ _ ?_
  refine c_seq fun K2 hK2 => ?_
  refine c_seq fun K3 hK3 => ?_
  refine c_region ?_
  refine s_pure h (ru_move (h.ev rfl)) rfl ?_; intro f h
  refine s_pure h (ru_val (.bool false) (ru_lss (h.ev rfl) (h.ev rfl)) (congrArg Value.bool (decide_eq_false (by omega)))) rfl ?_; intro f h
  refine s_nil ?_
  refine hK3 _ _ ?_
  refine wpIn_cond_false (h.ev rfl) ?_
  refine wpIn_skip ?_
  refine hK2 _ _ ?_
  refine c_seq fun K4 hK4 => ?_
  refine c_seq fun K5 hK5 => ?_
  refine c_region ?_
  refine s_pure h (ru_move (h.ev rfl)) rfl ?_; intro f h
  refine s_pure h (ru_move (h.ev rfl)) rfl ?_; intro f h
  refine s_pure h (ru_cap_nil Try.underlying23 (h.ev rfl)) rfl ?_; intro f h
  refine s_pure h (ru_move (h.ev rfl)) rfl ?_; intro f h
  refine s_pure h (ru_len_lit Try.underlying23 (h.ev rfl)) rfl ?_; intro f h
  refine s_pure h (ru_val (.int .i64 0) (ru_sub (h.ev rfl) (h.ev rfl) (by omega)) (rfl)) rfl ?_; intro f h
  refine s_pure h (ru_val (.int .i64 (n : Int)) (ru_sub (h.ev rfl) (h.ev rfl) (by omega)) (congrArg (Value.int .i64) (by omega))) rfl ?_; intro f h
  refine s_pure h (ru_assign (h.ev rfl)) rfl ?_; intro f h
  refine s_nil ?_
  refine hK5 _ _ ?_
  refine c_seq fun K6 hK6 => ?_
  refine c_region ?_
  refine s_pure h (ru_move (h.ev rfl)) rfl ?_; intro f h
  refine s_pure h (ru_gtr (h.ev rfl) (h.ev rfl)) rfl ?_; intro f h
  refine s_nil ?_
  refine hK6 _ _ ?_
  refine c_cond h rfl (fun hc => ?_) (fun hc => ?_)
  · replace hc := of_decide_eq_true hc
    refine c_region ?_
    refine s_pure h (ru_move (h.ev rfl)) rfl ?_; intro f h
    refine s_pure h (ru_move (h.ev rfl)) rfl ?_; intro f h
    refine s_pure h (ru_cap_nil Try.underlying23 (h.ev rfl)) rfl ?_; intro f h
    refine s_pure h (ru_slice_nil Try.underlying23 szo53 (h.ev rfl) (h.ev rfl)) rfl ?_; intro f h
    refine s_pure h (ru_move (h.ev rfl)) rfl ?_; intro f h
    refine s_append_zeros (n := n) (base := w.heap.size) h Try.underlying23 Try.underlying3 elm53 rfl rfl (by omega) (by omega) (by omega) (Nat.le_refl _) rfl ?_; intro f w1 v22 xs9 h hE9 hO9
    replace s := s.sl_new hE9 hO9
    refine s_pure h (ru_move (h.ev rfl)) rfl ?_; intro f h
    refine s_pure h (ru_len_lit Try.underlying23 (h.ev rfl)) rfl ?_; intro f h
    refine s_pure h (ru_slice_own0 hO9 Try.underlying23 szo53 (h.ev rfl) (h.ev rfl)) rfl ?_; intro f h
    refine s_pure h (ru_assign (h.ev rfl)) rfl ?_; intro f h
    refine s_nil ?_
    refine hK4 _ _ ?_
    refine c_seq fun K7 hK7 => ?_
    refine c_region ?_
    refine s_pure h (ru_move (h.ev rfl)) rfl ?_; intro f h
    refine s_pure h (ru_assign (h.ev rfl)) rfl ?_; intro f h
    refine s_nil ?_
    refine hK7 _ _ ?_
    refine wpIn_ret ?_
    exact e_tmp rfl h s rfl (hO9.cut0)
  · replace hc := of_decide_eq_false hc
    refine wpIn_skip ?_
    refine hK4 _ _ ?_
    refine c_seq fun K8 hK8 => ?_
    refine c_region ?_
    refine s_pure h (ru_move (h.ev rfl)) rfl ?_; intro f h
    refine s_pure h (ru_assign (h.ev rfl)) rfl ?_; intro f h
    refine s_nil ?_
    refine hK8 _ _ ?_
    refine wpIn_ret ?_
    exact e_tmp rfl h s rfl (owns_nil _ _ _ _)

theorem concat_any (vh : Value) (vs : List Value) (ls : List (List Ent)) (hls : vs.length = ls.length) (htot : ls.flatten.length ≤ 1000) (hvn : vs.length ≤ 1000) (w : World) (hv : RdZ w vh 1 vs.length vs) (hr : ∀ k, k < vs.length → RdZ w (vs.getD k undef) 34 (ls.getD k []).length (eCells (ls.getD k []))) : Calls Try.prog 81 [vh].toArray w (Ret w (fun v w' => Owns w' w.heap.size 53 34 v ls.flatten.length (eCells ls.flatten))) := by
  refine c_enter Try.func81 rfl Try.ntmps81 rfl [(0, vh)] (by simp) fun f h => ?_
  have s := St.start w
  refine c_seq fun K1 hK1 => ?_
  refine c_region ?_
  refine s_pure h (ru_assign (h.ev rfl)) rfl ?_; intro f h
  refine s_nil ?_
  refine hK1 _ _ ?_
  refine c_seq fun K2 hK2 => ?_
  refine c_region ?_
  refine s_pure h (ru_assign (h.ev rfl)) rfl ?_; intro f h
  refine s_nil ?_
  refine hK2 _ _ ?_
  refine c_seq fun K3 hK3 => ?_
  refine c_seq fun K4 hK4 => ?_
  refine c_region ?_
  refine s_pure h (ru_move (h.ev rfl)) rfl ?_; intro f h
  refine s_pure h (ru_lenZ (hv.keep s.ext) Try.underlying142 (h.ev rfl)) rfl ?_; intro f h
  refine s_pure h (ru_move (h.ev rfl)) rfl ?_; intro f h
  refine s_nil ?_
  refine hK4 _ _ ?_
  refine wpIn_block ?_
  refine wpIn_loop_ghost (fun nn aa ww => ∃ k : Nat, Sl 36 aa [(0, vh), (3, .int .i64 (((ls.take k).flatten.length : Nat) : Int)), (9, vh), (10, .int .i64 (vs.length : Int)), (11, .int .i64 (k : Int))] ∧ St w [] ww ∧ nn = vs.length - k ∧ k ≤ vs.length) (vs.length - (0)) ⟨0, h.only ⟨rfl, slot_int rfl rfl, rfl, rfl, slot_int rfl (by omega), trivial⟩, s.as trivial, rfl, Nat.zero_le _⟩ ?_
  rintro _ f w1 ⟨k, h, s, hnn, hp0⟩
  refine c_seq fun K5 hK5 => ?_
  refine c_region ?_
  refine s_pure h (ru_lss (h.ev rfl) (h.ev rfl)) rfl ?_; intro f h
  refine s_nil ?_
  refine hK5 _ _ ?_
  refine c_seq fun K6 hK6 => ?_
  refine c_cond h rfl (fun hc => ?_) (fun hc => ?_)
  · replace hc := of_decide_eq_true hc
    refine wpIn_skip ?_
    refine hK6 _ _ ?_
    refine c_seq fun K7 hK7 => ?_
    refine wpIn_block ?_
    refine c_seq fun K8 hK8 => ?_
    refine c_region ?_
    have hkl : k < vs.length := by omega
    refine s_pure h (ru_ixz (hv.keep s.ext) (k) Try.underlying142 szo23 (h.ev rfl) (h.ev rfl) (by omega) (by omega)) rfl ?_; intro f h
    refine s_load_at1 ((hv.keep s.ext).el1 (k) (V := vs.getD k undef) (getD_el hkl)) h one23 rfl rfl ?_; intro f h
    refine s_pure h (ru_assign (h.ev rfl)) rfl ?_; intro f h
    refine s_nil ?_
    refine hK8 _ _ ?_
    refine c_seq fun K9 hK9 => ?_
    refine c_region ?_
    refine s_pure h (ru_move (h.ev rfl)) rfl ?_; intro f h
    refine s_pure h (ru_move (h.ev rfl)) rfl ?_; intro f h
    refine s_pure h (ru_lenZ ((hr k hkl).keep s.ext) Try.underlying23 (h.ev rfl)) rfl ?_; intro f h
    have hk1 := catE_len ls k (by omega)
    have hk2 := catE_le ls (k + 1)
    refine s_pure h (ru_add (h.ev rfl) (h.ev rfl) (by omega)) rfl ?_; intro f h
    refine s_pure h (ru_assign (h.ev rfl)) rfl ?_; intro f h
    refine s_nil ?_
    refine hK9 _ _ ?_
    refine c_seq fun K10 hK10 => ?_
    refine c_region ?_
    refine s_pure h (ru_move (h.ev rfl)) rfl ?_; intro f h
    refine s_pure h (ru_val (.bool false) (ru_lss (h.ev rfl) (h.ev rfl)) (congrArg Value.bool (decide_eq_false (by omega)))) rfl ?_; intro f h
    refine s_nil ?_
    refine hK10 _ _ ?_
    refine wpIn_cond_false (h.ev rfl) ?_
    refine wpIn_skip ?_
    refine b_norm ?_
    refine hK7 _ _ ?_
    refine c_region ?_
    refine s_pure h (ru_add (h.ev rfl) (h.ev rfl) (by omega)) rfl ?_; intro f h
    refine s_pure h (ru_move (h.ev rfl)) rfl ?_; intro f h
    refine s_nil ?_
    refine t_norm ?_
    exact ⟨_, by omega, ⟨k + 1, h.only ⟨rfl, slot_int rfl (by omega), rfl, rfl, slot_int rfl (by omega), trivial⟩, St.as s trivial, rfl, by omega⟩⟩
  · replace hc := of_decide_eq_false hc
    refine wpIn_exit ?_
    refine t_exit ?_
    refine t_exit ?_
    refine b_exit ?_
    refine hK3 _ _ ?_
    refine c_seq fun K11 hK11 => ?_
    refine c_region ?_
    obtain rfl : k = vs.length := by omega
    refine s_pure h (ru_val (.int .i64 ((ls.flatten.length : Nat) : Int)) (ru_move (h.ev rfl)) (by rw [hls, List.take_length])) rfl ?_; intro f h
    refine s_call h s fnc87 (grow_any ls.flatten.length (by omega) _) rfl rfl ?_; intro f w1 v24 hT hE h sq; replace s := s.sl_new hE hT
    refine s_pure h (ru_assign (h.ev rfl)) rfl ?_; intro f h
    refine s_nil ?_
    refine hK11 _ _ ?_
    refine c_seq fun K12 hK12 => ?_
    refine c_seq fun K13 hK13 => ?_
    refine c_region ?_
    refine s_pure h (ru_move (h.ev rfl)) rfl ?_; intro f h
    refine s_pure h (ru_lenZ (hv.keep s.ext) Try.underlying142 (h.ev rfl)) rfl ?_; intro f h
    refine s_pure h (ru_move (h.ev rfl)) rfl ?_; intro f h
    refine s_nil ?_
    refine hK13 _ _ ?_
    refine wpIn_block ?_
    refine wpIn_loop_ghost (fun nn aa ww => ∃ i : Nat, ∃ vb : Value, Sl 36 aa [(0, vh), (6, vb), (25, vh), (26, .int .i64 (vs.length : Int)), (27, .int .i64 (i : Int))] ∧ St w [.sl vb 53 34 (ls.take i).flatten.length (eCells (ls.take i).flatten)] ww ∧ nn = vs.length - i ∧ i ≤ vs.length) (vs.length - (0)) ⟨0, v24, h.only ⟨rfl, rfl, rfl, rfl, slot_int rfl (by omega), trivial⟩, s.as ⟨sl_eq rfl rfl, trivial⟩, rfl, Nat.zero_le _⟩ ?_
    rintro _ f w1 ⟨i, vb, h, s, hnn, hp0⟩
    refine c_seq fun K14 hK14 => ?_
    refine c_region ?_
    refine s_pure h (ru_lss (h.ev rfl) (h.ev rfl)) rfl ?_; intro f h
    refine s_nil ?_
    refine hK14 _ _ ?_
    refine c_seq fun K15 hK15 => ?_
    refine c_cond h rfl (fun hc => ?_) (fun hc => ?_)
    · replace hc := of_decide_eq_true hc
      refine wpIn_skip ?_
      refine hK15 _ _ ?_
      refine c_seq fun K16 hK16 => ?_
      refine wpIn_block ?_
      refine c_seq fun K17 hK17 => ?_
      refine c_region ?_
      have hkl : i < vs.length := by omega
      have hk1 := catE_len ls i (by omega)
      have hk2 := catE_le ls (i + 1)
      refine s_pure h (ru_ixz (hv.keep s.ext) (i) Try.underlying142 szo23 (h.ev rfl) (h.ev rfl) (by omega) (by omega)) rfl ?_; intro f h
      refine s_load_at1 ((hv.keep s.ext).el1 (i) (V := vs.getD i undef) (getD_el hkl)) h one23 rfl rfl ?_; intro f h
      refine s_pure h (ru_assign (h.ev rfl)) rfl ?_; intro f h
      refine s_nil ?_
      refine hK17 _ _ ?_
      refine c_region ?_
      refine s_pure h (ru_move (h.ev rfl)) rfl ?_; intro f h
      refine s_pure h (ru_move (h.ev rfl)) rfl ?_; intro f h
      refine s_append_rd 0 ((hr i hkl).keep s.ext) h s Try.underlying23 elm53 rfl rfl rfl (eCells_ones _) (by unfold maxLen; omega) (by omega) rfl ?_; intro f w1 v33 h s
      refine s_pure h (ru_assign (h.ev rfl)) rfl ?_; intro f h
      refine s_nil ?_
      refine b_norm ?_
      refine hK16 _ _ ?_
      refine c_region ?_
      refine s_pure h (ru_add (h.ev rfl) (h.ev rfl) (by omega)) rfl ?_; intro f h
      refine s_pure h (ru_move (h.ev rfl)) rfl ?_; intro f h
      refine s_nil ?_
      refine t_norm ?_
      exact ⟨_, by omega, ⟨i + 1, v33, h.only ⟨rfl, rfl, rfl, rfl, slot_int rfl (by omega), trivial⟩, St.as s ⟨sl_eq (catE_len ls i (by omega)) (catE_cells ls i (by omega)), trivial⟩, rfl, by omega⟩⟩
    · replace hc := of_decide_eq_false hc
      refine wpIn_exit ?_
      refine t_exit ?_
      refine t_exit ?_
      refine b_exit ?_
      refine hK12 _ _ ?_
      refine c_seq fun K18 hK18 => ?_
      refine c_region ?_
      refine s_pure h (ru_move (h.ev rfl)) rfl ?_; intro f h
      refine s_pure h (ru_assign (h.ev rfl)) rfl ?_; intro f h
      refine s_nil ?_
      refine hK18 _ _ ?_
      refine wpIn_ret ?_
      exact e_tmp rfl h s rfl (concat_fin (by omega) (s.getSl 0 rfl))

theorem push_any (l m : List Ent) (vh vu : Value) (w : World) (hv : RdZ w vh 34 l.length (eCells l)) (hu : RdZ w vu 34 m.length (eCells m)) (hln : l.length ≤ 1000000) (hmn : m.length ≤ 1000000) : Calls Try.prog 72 [vh, vu].toArray w (Ret w (fun v w' => ∃ vs, v = .tuple #[vs, .int .i64 (pushE l m)] ∧ Owns w' w.heap.size 53 34 vs (pushM l m).length (eCells (pushM l m)))) := by
  refine c_enter Try.func72 rfl Try.ntmps72 rfl [(0, vh), (1, vu)] (by simp) fun f h => ?_
  have s := St.start w
  refine c_seq fun K1 hK1 => ?_
  refine c_region ?_
  refine s_pure h (ru_assign (h.ev rfl)) rfl ?_; intro f h
  refine s_pure h (ru_assign (h.ev rfl)) rfl ?_; intro f h
  refine s_nil ?_
  refine hK1 _ _ ?_
  refine c_seq fun K2 hK2 => ?_
  refine c_seq fun K3 hK3 => ?_
  cases hf : (m.all isE : Bool)
  · skip
    refine c_region ?_
    refine s_pure h (ru_move (h.ev rfl)) rfl ?_; intro f h
    refine s_call h s fnc71 (ret_val (.bool false) (all_any m vu _ (hu.keep s.ext) hmn) (congrArg Value.bool hf)) rfl rfl ?_; intro f w1 v9 hT hE h s; obtain rfl := hT
    refine s_pure h (ru_val (.bool true) (ru_not (h.ev rfl)) rfl) rfl ?_; intro f h
    refine s_pure h (ru_move (h.ev rfl)) rfl ?_; intro f h
    refine s_off (b := false) h rfl rfl rfl rfl ?_; intro f h
    refine s_off (b := false) h rfl rfl rfl rfl ?_; intro f h
    refine s_off (b := false) h rfl rfl rfl rfl ?_; intro f h
    refine s_pure h (ru_pick_t (h.ev rfl) (h.ev rfl)) rfl ?_; intro f h
    refine s_nil ?_
    refine hK3 _ _ ?_
    refine wpIn_cond_true (h.ev rfl) ?_
    refine c_seq fun K4 hK4 => ?_
    refine c_region ?_
    refine s_pure h (ru_assign (h.ev rfl)) rfl ?_; intro f h
    refine s_pure h (ru_assign (h.ev rfl)) rfl ?_; intro f h
    refine s_nil ?_
    refine hK4 _ _ ?_
    refine wpIn_ret ?_
    refine t_ret ?_
    exact e_tmps rfl h s rfl rfl (push_nil (pushE_f hf) (by decide))
  · skip
    cases hl : (l.all isE : Bool)
    · skip
      refine c_region ?_
      refine s_pure h (ru_move (h.ev rfl)) rfl ?_; intro f h
      refine s_call h s fnc71 (ret_val (.bool true) (all_any m vu _ (hu.keep s.ext) hmn) (congrArg Value.bool hf)) rfl rfl ?_; intro f w1 v9 hT hE h s; obtain rfl := hT
      refine s_pure h (ru_val (.bool false) (ru_not (h.ev rfl)) rfl) rfl ?_; intro f h
      refine s_pure h (ru_move (h.ev rfl)) rfl ?_; intro f h
      refine s_on h rfl rfl rfl ?_
      refine s_pure h (ru_move (h.ev rfl)) rfl ?_; intro f h
      refine s_on h rfl rfl rfl ?_
      refine s_call h s fnc71 (ret_val (.bool false) (all_any l vh _ (hv.keep s.ext) hln) (congrArg Value.bool hl)) rfl rfl ?_; intro f w1 v9 hT hE h s; obtain rfl := hT
      refine s_on h rfl rfl rfl ?_
      refine s_pure h (ru_val (.bool true) (ru_not (h.ev rfl)) rfl) rfl ?_; intro f h
      refine s_pure h (ru_pick_f (h.ev rfl) (h.ev rfl)) rfl ?_; intro f h
      refine s_nil ?_
      refine hK3 _ _ ?_
      refine wpIn_cond_true (h.ev rfl) ?_
      refine c_seq fun K5 hK5 => ?_
      refine c_region ?_
      refine s_pure h (ru_assign (h.ev rfl)) rfl ?_; intro f h
      refine s_pure h (ru_assign (h.ev rfl)) rfl ?_; intro f h
      refine s_nil ?_
      refine hK5 _ _ ?_
      refine wpIn_ret ?_
      refine t_ret ?_
      exact e_tmps rfl h s rfl rfl (push_nil (pushE_l hl) (by decide))
    · skip
      refine c_region ?_
      refine s_pure h (ru_move (h.ev rfl)) rfl ?_; intro f h
      refine s_call h s fnc71 (ret_val (.bool true) (all_any m vu _ (hu.keep s.ext) hmn) (congrArg Value.bool hf)) rfl rfl ?_; intro f w1 v9 hT hE h s; obtain rfl := hT
      refine s_pure h (ru_val (.bool false) (ru_not (h.ev rfl)) rfl) rfl ?_; intro f h
      refine s_pure h (ru_move (h.ev rfl)) rfl ?_; intro f h
      refine s_on h rfl rfl rfl ?_
      refine s_pure h (ru_move (h.ev rfl)) rfl ?_; intro f h
      refine s_on h rfl rfl rfl ?_
      refine s_call h s fnc71 (ret_val (.bool true) (all_any l vh _ (hv.keep s.ext) hln) (congrArg Value.bool hl)) rfl rfl ?_; intro f w1 v9 hT hE h s; obtain rfl := hT
      refine s_on h rfl rfl rfl ?_
      refine s_pure h (ru_val (.bool false) (ru_not (h.ev rfl)) rfl) rfl ?_; intro f h
      refine s_pure h (ru_pick_f (h.ev rfl) (h.ev rfl)) rfl ?_; intro f h
      refine s_nil ?_
      refine hK3 _ _ ?_
      refine wpIn_cond_false (h.ev rfl) ?_
      refine wpIn_skip ?_
      refine hK2 _ _ ?_
      refine c_seq fun K6 hK6 => ?_
      refine c_seq fun K7 hK7 => ?_
      refine c_region ?_
      refine s_pure h (ru_move (h.ev rfl)) rfl ?_; intro f h
      refine s_pure h (ru_lenZ (hu.keep s.ext) Try.underlying23 (h.ev rfl)) rfl ?_; intro f h
      refine s_pure h (ru_move (h.ev rfl)) rfl ?_; intro f h
      refine s_pure h (ru_lenZ (hv.keep s.ext) Try.underlying23 (h.ev rfl)) rfl ?_; intro f h
      refine s_pure h (ru_add (h.ev rfl) (h.ev rfl) (by omega)) rfl ?_; intro f h
      refine s_pure h (ru_gtr (h.ev rfl) (h.ev rfl)) rfl ?_; intro f h
      refine s_nil ?_
      refine hK7 _ _ ?_
      refine c_cond h rfl (fun hc => ?_) (fun hc => ?_)
      · replace hc := of_decide_eq_true hc
        have h4 := hc
        refine c_seq fun K8 hK8 => ?_
        refine c_region ?_
        refine s_pure h (ru_assign (h.ev rfl)) rfl ?_; intro f h
        refine s_pure h (ru_assign (h.ev rfl)) rfl ?_; intro f h
        refine s_nil ?_
        refine hK8 _ _ ?_
        refine wpIn_ret ?_
        refine t_ret ?_
        exact e_tmps rfl h s rfl rfl (push_nil (pushE_12 hf hl h4) (by decide))
      · replace hc := of_decide_eq_false hc
        have h4 := hc
        refine wpIn_skip ?_
        refine hK6 _ _ ?_
        refine c_seq fun K9 hK9 => ?_
        refine c_region ?_
        refine s_pure h (ru_move (h.ev rfl)) rfl ?_; intro f h
        refine s_pure h (ru_move (h.ev rfl)) rfl ?_; intro f h
        refine s_bslice (vs := [vu, vh]) [.tmp 20, .tmp 21] h s Try.underlying142 elm23 rfl rfl (by intro v hv9; simp only [List.mem_cons, List.not_mem_nil, or_false] at hv9; rcases hv9 with rfl | rfl; exact congrArg Array.size (rz_cells hu); exact congrArg Array.size (rz_cells hv)) rfl rfl rfl ?_; intro f w1 v22 h s
        have s := s.as (B' := [.sl v22 23 1 2 [vu, vh]]) ⟨sl_eq rfl (flat_two (rz_cells hu) (rz_cells hv)), trivial⟩
        refine s_call h s fnc81 (concat_any v22 [vu, vh] [m, l] rfl (by simp; omega) (by simp) _ (RdZ.of_own (s.getSl 0 rfl)) (two_rd (hu.keep s.ext) (hv.keep s.ext))) rfl rfl ?_; intro f w1 v23 hT hE h sq; replace s := s.sl_new hE hT
        refine s_pure h (ru_assign (h.ev rfl)) rfl ?_; intro f h
        refine s_pure h (ru_assign (h.ev rfl)) rfl ?_; intro f h
        refine s_nil ?_
        refine hK9 _ _ ?_
        refine wpIn_ret ?_
        exact e_tmps rfl h s rfl rfl (push_out (pushE_0 hf hl h4) (by rw [pushM_0 (pushE_0 hf hl h4)]; have h9 := s.getSl 0 rfl; rw [show [m, l].flatten = m ++ l from by simp] at h9; exact h9))

theorem pright_any (p : Pk) (vs : Value) (w : World) (hP : RdZ w vs 34 p.1.length (eCells p.1)) (hpl : p.1.length ≤ 1000) : Calls Try.prog 21 [.agg (pkArr vs p.2.1 p.2.2)].toArray w (Ret w (is (.bool (rightP p)))) := by
  refine c_enter Try.func21 rfl Try.ntmps21 rfl [(0, .agg (pkArr vs p.2.1 p.2.2))] (by simp) fun f h => ?_
  have s := St.start w
  refine c_seq fun K1 hK1 => ?_
  refine c_region ?_
  refine s_box (pkArr vs p.2.1 p.2.2) h s rfl rfl rfl ?_; intro f w1 b1 h s
  refine s_pure h (ru_assign (h.ev rfl)) rfl ?_; intro f h
  refine s_nil ?_
  refine hK1 _ _ ?_
  refine c_seq fun K2 hK2 => ?_
  cases h0 : (rightE p.1 : Bool)
  · skip
    refine c_region ?_
    refine s_pure h (ru_field fld25_0 (h.ev rfl)) rfl ?_; intro f h
    refine s_load_at1 (V := vs) (cell_of_has (Has.of_own s 0 rfl) 0 (pk_v _ _ _)) h one23 rfl rfl ?_; intro f h
    refine s_call h s fnc49 (ret_val (.bool false) (right_any p.1 vs _ (hP.keep s.ext) (by omega)) (congrArg Value.bool h0)) rfl rfl ?_; intro f w1 v9 hT hE h s; obtain rfl := hT
    refine s_pure h (ru_move (h.ev rfl)) rfl ?_; intro f h
    refine s_off (b := true) h rfl rfl rfl rfl ?_; intro f h
    refine s_off (b := true) h rfl rfl rfl rfl ?_; intro f h
    refine s_off (b := true) h rfl rfl rfl rfl ?_; intro f h
    refine s_pure h (ru_pick_f (h.ev rfl) (h.ev rfl)) rfl ?_; intro f h
    refine s_pure h (ru_move (h.ev rfl)) rfl ?_; intro f h
    refine s_off (b := true) h rfl rfl rfl rfl ?_; intro f h
    refine s_off (b := true) h rfl rfl rfl rfl ?_; intro f h
    refine s_off (b := true) h rfl rfl rfl rfl ?_; intro f h
    refine s_pure h (ru_pick_f (h.ev rfl) (h.ev rfl)) rfl ?_; intro f h
    refine s_pure h (ru_move (h.ev rfl)) rfl ?_; intro f h
    refine s_off (b := true) h rfl rfl rfl rfl ?_; intro f h
    refine s_off (b := true) h rfl rfl rfl rfl ?_; intro f h
    refine s_off (b := true) h rfl rfl rfl rfl ?_; intro f h
    refine s_off (b := true) h rfl rfl rfl rfl ?_; intro f h
    refine s_pure h (ru_pick_f (h.ev rfl) (h.ev rfl)) rfl ?_; intro f h
    refine s_pure h (ru_assign (h.ev rfl)) rfl ?_; intro f h
    refine s_nil ?_
    refine hK2 _ _ ?_
    refine wpIn_ret ?_
    exact e_tmp rfl h s rfl (by show _ = _; unfold rightP; rw [h0] <;> rfl)
  · skip
    cases h1 : (decide (0 ≤ p.2.1) : Bool)
    · skip
      refine c_region ?_
      refine s_pure h (ru_field fld25_0 (h.ev rfl)) rfl ?_; intro f h
      refine s_load_at1 (V := vs) (cell_of_has (Has.of_own s 0 rfl) 0 (pk_v _ _ _)) h one23 rfl rfl ?_; intro f h
      refine s_call h s fnc49 (ret_val (.bool true) (right_any p.1 vs _ (hP.keep s.ext) (by omega)) (congrArg Value.bool h0)) rfl rfl ?_; intro f w1 v9 hT hE h s; obtain rfl := hT
      refine s_pure h (ru_move (h.ev rfl)) rfl ?_; intro f h
      refine s_on h rfl rfl rfl ?_
      refine s_pure h (ru_field fld25_1 (h.ev rfl)) rfl ?_; intro f h
      refine s_on h rfl rfl rfl ?_
      refine s_load_at1 (V := .int .i64 p.2.1) (cell_of_has (Has.of_own s 0 rfl) 1 (pk_n _ _ _)) h one3 rfl rfl ?_; intro f h
      refine s_on h rfl rfl rfl ?_
      refine s_pure h (ru_val (.bool false) (ru_geq (h.ev rfl) (h.ev rfl)) (congrArg Value.bool h1)) rfl ?_; intro f h
      refine s_pure h (ru_pick_t (h.ev rfl) (h.ev rfl)) rfl ?_; intro f h
      refine s_pure h (ru_move (h.ev rfl)) rfl ?_; intro f h
      refine s_off (b := true) h rfl rfl rfl rfl ?_; intro f h
      refine s_off (b := true) h rfl rfl rfl rfl ?_; intro f h
      refine s_off (b := true) h rfl rfl rfl rfl ?_; intro f h
      refine s_pure h (ru_pick_f (h.ev rfl) (h.ev rfl)) rfl ?_; intro f h
      refine s_pure h (ru_move (h.ev rfl)) rfl ?_; intro f h
      refine s_off (b := true) h rfl rfl rfl rfl ?_; intro f h
      refine s_off (b := true) h rfl rfl rfl rfl ?_; intro f h
      refine s_off (b := true) h rfl rfl rfl rfl ?_; intro f h
      refine s_off (b := true) h rfl rfl rfl rfl ?_; intro f h
      refine s_pure h (ru_pick_f (h.ev rfl) (h.ev rfl)) rfl ?_; intro f h
      refine s_pure h (ru_assign (h.ev rfl)) rfl ?_; intro f h
      refine s_nil ?_
      refine hK2 _ _ ?_
      refine wpIn_ret ?_
      exact e_tmp rfl h s rfl (by show _ = _; unfold rightP; rw [h0, h1] <;> rfl)
    · skip
      cases h2 : (decide (p.2.1 ≤ 64) : Bool)
      · skip
        refine c_region ?_
        refine s_pure h (ru_field fld25_0 (h.ev rfl)) rfl ?_; intro f h
        refine s_load_at1 (V := vs) (cell_of_has (Has.of_own s 0 rfl) 0 (pk_v _ _ _)) h one23 rfl rfl ?_; intro f h
        refine s_call h s fnc49 (ret_val (.bool true) (right_any p.1 vs _ (hP.keep s.ext) (by omega)) (congrArg Value.bool h0)) rfl rfl ?_; intro f w1 v9 hT hE h s; obtain rfl := hT
        refine s_pure h (ru_move (h.ev rfl)) rfl ?_; intro f h
        refine s_on h rfl rfl rfl ?_
        refine s_pure h (ru_field fld25_1 (h.ev rfl)) rfl ?_; intro f h
        refine s_on h rfl rfl rfl ?_
        refine s_load_at1 (V := .int .i64 p.2.1) (cell_of_has (Has.of_own s 0 rfl) 1 (pk_n _ _ _)) h one3 rfl rfl ?_; intro f h
        refine s_on h rfl rfl rfl ?_
        refine s_pure h (ru_val (.bool true) (ru_geq (h.ev rfl) (h.ev rfl)) (congrArg Value.bool h1)) rfl ?_; intro f h
        refine s_pure h (ru_pick_t (h.ev rfl) (h.ev rfl)) rfl ?_; intro f h
        refine s_pure h (ru_move (h.ev rfl)) rfl ?_; intro f h
        refine s_on h rfl rfl rfl ?_
        refine s_pure h (ru_field fld25_1 (h.ev rfl)) rfl ?_; intro f h
        refine s_on h rfl rfl rfl ?_
        refine s_load_at1 (V := .int .i64 p.2.1) (cell_of_has (Has.of_own s 0 rfl) 1 (pk_n _ _ _)) h one3 rfl rfl ?_; intro f h
        refine s_on h rfl rfl rfl ?_
        refine s_pure h (ru_val (.bool false) (ru_leq (h.ev rfl) (h.ev rfl)) (congrArg Value.bool h2)) rfl ?_; intro f h
        refine s_pure h (ru_pick_t (h.ev rfl) (h.ev rfl)) rfl ?_; intro f h
        refine s_pure h (ru_move (h.ev rfl)) rfl ?_; intro f h
        refine s_off (b := true) h rfl rfl rfl rfl ?_; intro f h
        refine s_off (b := true) h rfl rfl rfl rfl ?_; intro f h
        refine s_off (b := true) h rfl rfl rfl rfl ?_; intro f h
        refine s_off (b := true) h rfl rfl rfl rfl ?_; intro f h
        refine s_pure h (ru_pick_f (h.ev rfl) (h.ev rfl)) rfl ?_; intro f h
        refine s_pure h (ru_assign (h.ev rfl)) rfl ?_; intro f h
        refine s_nil ?_
        refine hK2 _ _ ?_
        refine wpIn_ret ?_
        exact e_tmp rfl h s rfl (by show _ = _; unfold rightP; rw [h0, h1, h2] <;> rfl)
      · skip
        refine c_region ?_
        refine s_pure h (ru_field fld25_0 (h.ev rfl)) rfl ?_; intro f h
        refine s_load_at1 (V := vs) (cell_of_has (Has.of_own s 0 rfl) 0 (pk_v _ _ _)) h one23 rfl rfl ?_; intro f h
        refine s_call h s fnc49 (ret_val (.bool true) (right_any p.1 vs _ (hP.keep s.ext) (by omega)) (congrArg Value.bool h0)) rfl rfl ?_; intro f w1 v9 hT hE h s; obtain rfl := hT
        refine s_pure h (ru_move (h.ev rfl)) rfl ?_; intro f h
        refine s_on h rfl rfl rfl ?_
        refine s_pure h (ru_field fld25_1 (h.ev rfl)) rfl ?_; intro f h
        refine s_on h rfl rfl rfl ?_
        refine s_load_at1 (V := .int .i64 p.2.1) (cell_of_has (Has.of_own s 0 rfl) 1 (pk_n _ _ _)) h one3 rfl rfl ?_; intro f h
        refine s_on h rfl rfl rfl ?_
        refine s_pure h (ru_val (.bool true) (ru_geq (h.ev rfl) (h.ev rfl)) (congrArg Value.bool h1)) rfl ?_; intro f h
        refine s_pure h (ru_pick_t (h.ev rfl) (h.ev rfl)) rfl ?_; intro f h
        refine s_pure h (ru_move (h.ev rfl)) rfl ?_; intro f h
        refine s_on h rfl rfl rfl ?_
        refine s_pure h (ru_field fld25_1 (h.ev rfl)) rfl ?_; intro f h
        refine s_on h rfl rfl rfl ?_
        refine s_load_at1 (V := .int .i64 p.2.1) (cell_of_has (Has.of_own s 0 rfl) 1 (pk_n _ _ _)) h one3 rfl rfl ?_; intro f h
        refine s_on h rfl rfl rfl ?_
        refine s_pure h (ru_val (.bool true) (ru_leq (h.ev rfl) (h.ev rfl)) (congrArg Value.bool h2)) rfl ?_; intro f h
        refine s_pure h (ru_pick_t (h.ev rfl) (h.ev rfl)) rfl ?_; intro f h
        refine s_pure h (ru_move (h.ev rfl)) rfl ?_; intro f h
        refine s_on h rfl rfl rfl ?_
        refine s_pure h (ru_field fld25_2 (h.ev rfl)) rfl ?_; intro f h
        refine s_on h rfl rfl rfl ?_
        refine s_load_at1 (V := .string p.2.2) (cell_of_has (Has.of_own s 0 rfl) 2 (pk_d _ _ _)) h one9 rfl rfl ?_; intro f h
        refine s_on h rfl rfl rfl ?_
        refine s_pure h (ru_len_str Try.underlying9 (h.ev rfl)) rfl ?_; intro f h
        refine s_on h rfl rfl rfl ?_
        refine s_pure h (ru_val (.bool (decide (p.2.2.size ≤ 64))) (ru_leq (h.ev rfl) (h.ev rfl)) (congrArg Value.bool (decide_eq_decide.2 (by omega)))) rfl ?_; intro f h
        refine s_pure h (ru_pick_t (h.ev rfl) (h.ev rfl)) rfl ?_; intro f h
        refine s_pure h (ru_assign (h.ev rfl)) rfl ?_; intro f h
        refine s_nil ?_
        refine hK2 _ _ ?_
        refine wpIn_ret ?_
        exact e_tmp rfl h s rfl (by show _ = _; unfold rightP; rw [h0, h1, h2] <;> rfl)

theorem ppacket_any (n : Int) (d : ByteArray) (rs fr : List Ent) (vr vf : Value) (w : World) (hR : RdZ w vr 34 rs.length (eCells rs)) (hF : RdZ w vf 34 fr.length (eCells fr)) (hre : rs.all isE = true) (hfe : fr.all isE = true) (h4 : fr.length + rs.length ≤ 4) : Calls Try.prog 50 [.int .i64 n, .string d, vr, vf].toArray w (Ret w (fun v w' => ∃ u, v = .agg (pkArr u n d) ∧ Owns w' w.heap.size 53 34 u (fr ++ rs).length (eCells (fr ++ rs)))) := by
  refine c_enter Try.func50 rfl Try.ntmps50 rfl [(0, .int .i64 n), (1, .string d), (2, vr), (3, vf)] (by simp) fun f h => ?_
  have s := St.start w
  refine c_seq fun K1 hK1 => ?_
  refine c_region ?_
  refine s_alloc (pkArr nilV 0 ByteArray.empty) h s zero25 rfl rfl ?_; intro f w1 b8 h s
  refine s_nil ?_
  refine hK1 _ _ ?_
  refine c_seq fun K2 hK2 => ?_
  refine c_region ?_
  refine s_pure h (ru_move (h.ev rfl)) rfl ?_; intro f h
  refine s_pure h (ru_move (h.ev rfl)) rfl ?_; intro f h
  refine s_call h s fnc72 (push_any rs fr vr vf _ (hR.keep s.ext) (hF.keep s.ext) (by omega) (by omega)) rfl rfl ?_; rintro f w1 v14 ⟨vx, rfl, hvx⟩ hE h sq
  rw [pushM_0 (pushE_0 hfe hre (by omega))] at hvx
  replace s := s.sl_new hE hvx
  refine s_pure h (ru_move (h.ev rfl)) rfl ?_; intro f h
  refine s_pure h (ru_extract (h.ev rfl) rfl) rfl ?_; intro f h
  refine s_pure h (ru_extract (h.ev rfl) rfl) rfl ?_; intro f h
  refine s_pure h (ru_assign (h.ev rfl)) rfl ?_; intro f h
  refine s_pure h (ru_assign (h.ev rfl)) rfl ?_; intro f h
  refine s_nil ?_
  refine hK2 _ _ ?_
  refine c_seq fun K3 hK3 => ?_
  refine c_region ?_
  refine s_pure h (ru_move (h.ev rfl)) rfl ?_; intro f h
  refine s_pure h (ru_move (h.ev rfl)) rfl ?_; intro f h
  refine s_pure h (ru_move (h.ev rfl)) rfl ?_; intro f h
  refine s_pure h (ru_build_pk3 sttP (rd_size (RdZ.of_own (s.getSl 0 rfl))) (rd_cells (RdZ.of_own (s.getSl 0 rfl))) (h.ev rfl) (h.ev rfl) (h.ev rfl)) rfl ?_; intro f h
  refine s_store_row 1 h s row25 rfl rfl rfl (pkArr_size _ _ _) (pkArr_size _ _ _) (pkArr_ones _ _ (own_one (s.getSl 0 rfl))) ?_; intro w1 s
  refine s_nil ?_
  refine hK3 _ _ ?_
  refine wpIn_ret ?_
  exact e_row 1 rfl h s row25 rfl rfl (pkArr_size _ _ _) (⟨_, rfl, s.getSl 0 rfl⟩)

theorem pdead_any (y : Int) (w : World) : Calls Try.prog 51 [.int .i64 y].toArray w (Ret w (fun v w' => Owns w' w.heap.size 72 73 v 1 (ouCells [(deadO y, nilV)]))) := by
  refine c_enter Try.func51 rfl Try.ntmps51 rfl [(0, .int .i64 y)] (by simp) fun f h => ?_
  have s := St.start w
  refine c_seq fun K1 hK1 => ?_
  refine c_region ?_
  refine s_pure h (ru_assign (h.ev rfl)) rfl ?_; intro f h
  refine s_nil ?_
  refine hK1 _ _ ?_
  refine c_seq fun K2 hK2 => ?_
  refine c_region ?_
  refine s_pure h (ru_move (h.ev rfl)) rfl ?_; intro f h
  refine s_pure h (ru_build_ot_dead sttO rfl (h.ev rfl)) rfl ?_; intro f h
  refine s_bslice (vs := [.agg (otArr 3 0 nilV 0 ByteArray.empty zTg y)]) [.tmp 4] h s Try.underlying67 elm72 rfl rfl (ou_sz (deadO y, nilV)) rfl rfl rfl ?_; intro f w1 v5 h s
  replace s := s.resl (m := [(deadO y, nilV)].length) (ys := ouCells [(deadO y, nilV)]) 0 rfl rfl (by exact ou_put [] (deadO y, nilV))
  refine s_pure h (ru_assign (h.ev rfl)) rfl ?_; intro f h
  refine s_nil ?_
  refine hK2 _ _ ?_
  refine wpIn_ret ?_
  exact e_tmp rfl h s rfl (s.getSl 0 rfl)

theorem ponward_any (p : Pk) (vs : Value) (b : Tg) (fr : List Ent) (vf : Value) (w : World) (hP : RdZ w vs 34 p.1.length (eCells p.1)) (hpl : p.1.length ≤ 1000) (hea : p.1.all isE = true) (h1 : 1 ≤ p.1.length) (h41 : p.1.length ≤ 4) (hh : 0 ≤ p.2.1 ∧ p.2.1 ≤ 64) (hFr : RdZ w vf 34 fr.length (eCells fr)) (hfe : fr.all isE = true) (hfl : fr.length ≤ 1) : Calls Try.prog 53 [.agg (pkArr vs p.2.1 p.2.2), .agg (tgArr b), vf].toArray w (Ret w (fun v w' => ∃ u, v = .agg (otArr 2 0 u (p.2.1 - 1) p.2.2 b 0) ∧ Owns w' w.heap.size 53 34 u (fr ++ p.1.drop 1).length (eCells (fr ++ p.1.drop 1)))) := by
  have hD : RdE w (dropV vs 34 1) (p.1.drop 1) := ents_drop hP 1 (by omega)
  refine c_enter Try.func53 rfl Try.ntmps53 rfl [(0, .agg (pkArr vs p.2.1 p.2.2)), (1, .agg (tgArr b)), (2, vf)] (by simp) fun f h => ?_
  have s := St.start w
  refine c_seq fun K1 hK1 => ?_
  refine c_region ?_
  refine s_box (pkArr vs p.2.1 p.2.2) h s rfl rfl rfl ?_; intro f w1 b3 h s
  refine s_box (tgArr b) h s rfl rfl rfl ?_; intro f w1 b4 h s
  refine s_alloc (otArr 0 0 nilV 0 ByteArray.empty zTg 0) h s zero72 rfl rfl ?_; intro f w1 b6 h s
  refine s_nil ?_
  refine hK1 _ _ ?_
  refine c_seq fun K2 hK2 => ?_
  refine c_regT 0 12 [[], [0], [0, 1], [], [3], [], [5], [5, 6], [], [0, 1, 2, 3, 4, 5, 6, 7, 8], [], [0, 1, 2, 3, 4, 5, 6, 7, 8, 9, 10], [0, 1, 2, 3, 4, 5, 6, 7, 8, 9, 10, 11]] [[], [], [], [], [], [], [], [], [], [], [], [], []] [fun _ => [], fun _ => [], fun _ => [], fun _ => [], fun _ => [], fun _ => [], fun _ => [], fun _ => [], fun _ => [], fun v => [.sl (pkS (v 9)) 53 34 (fr ++ p.1.drop 1).length (eCells (fr ++ p.1.drop 1))], fun _ => [], fun _ => [], fun _ => []] [] [fun v => v 0 = .pointer (some ⟨b3, 1, none⟩), fun v => v 1 = .int .i64 p.2.1, fun v => v 2 = .int .i64 (p.2.1 - 1), fun v => v 3 = .pointer (some ⟨b3, 2, none⟩), fun v => v 4 = .string p.2.2, fun v => v 5 = .pointer (some ⟨b3, 0, none⟩), fun v => v 6 = vs, fun v => v 7 = (dropV vs 34 1), fun v => v 8 = vf, fun v => v 9 = .agg (pkArr (pkS (v 9)) (p.2.1 - 1) p.2.2), fun v => v 10 = .agg (tgArr b), fun v => v 11 = .agg (otArr 2 0 (pkS (v 9)) (p.2.1 - 1) p.2.2 b 0), fun _ => True] [.blk b6 (.cells (otArr 0 0 nilV 0 ByteArray.empty zTg 0) 72), .blk b4 (.cells (tgArr b) 58), .blk b3 (.cells (pkArr vs p.2.1 p.2.2) 25)] h s rfl (by kernel_rfl) (by kernel_rfl) (by kernel_rfl) (And.intro ?_ (And.intro ?_ (And.intro ?_ (And.intro ?_ (And.intro ?_ (And.intro ?_ (And.intro ?_ (And.intro ?_ (And.intro ?_ (And.intro ?_ (And.intro ?_ (And.intro ?_ (trivial))))))))))))) [0, 1, 2, 3, 4, 5, 6, 7, 8, 9, 10, 11] (by kernel_rfl) ?_
  · intro f9 w2 vl1 E9 hs9 hd9 hl hF s
    have e3 : f9.tmps.getD 3 undef = _ := oc_old hl 3 (by kernel_rfl) (by kernel_rfl) (h.holds 3 _ rfl)
    have h := fin_slot [(3, _)] (hs9.trans h.size) (hd9.trans h.defers) (holds_lk ⟨e3, trivial⟩)
    replace s : St w (.blk b6 (.cells (otArr 0 0 nilV 0 ByteArray.empty zTg 0) 72) :: .blk b4 (.cells (tgArr b) 58) :: .blk b3 (.cells (pkArr vs p.2.1 p.2.2) 25) :: E9) _ := s
    refine s_pure h (ru_field fld25_1 (h.ev rfl)) rfl ?_; intro f h
    exact s_nil ⟨_, oc_out 7 rfl (h.holds 7 _ rfl), rfl, s⟩
  · intro f9 w2 vl1 E9 hs9 hd9 hl hF s
    have e7 : f9.tmps.getD 7 undef = .pointer (some ⟨b3, 1, none⟩) := (oc_get hl 7 0 (by kernel_rfl) (by kernel_rfl)).trans (hF 0 (by decide))
    have h := fin_slot [(7, .pointer (some ⟨b3, 1, none⟩))] (hs9.trans h.size) (hd9.trans h.defers) (holds_lk ⟨e7, trivial⟩)
    replace s : St w (.blk b6 (.cells (otArr 0 0 nilV 0 ByteArray.empty zTg 0) 72) :: .blk b4 (.cells (tgArr b) 58) :: .blk b3 (.cells (pkArr vs p.2.1 p.2.2) 25) :: E9) _ := s
    refine s_load_at1 (V := .int .i64 p.2.1) (cell_of_has (Has.of_own s 2 rfl) 1 (pk_n _ _ _)) h one3 rfl rfl ?_; intro f h
    exact s_nil ⟨_, oc_out 8 rfl (h.holds 8 _ rfl), rfl, s⟩
  · intro f9 w2 vl1 E9 hs9 hd9 hl hF s
    have e8 : f9.tmps.getD 8 undef = .int .i64 p.2.1 := (oc_get hl 8 1 (by kernel_rfl) (by kernel_rfl)).trans (hF 1 (by decide))
    have h := fin_slot [(8, .int .i64 p.2.1)] (hs9.trans h.size) (hd9.trans h.defers) (holds_lk ⟨e8, trivial⟩)
    replace s : St w (.blk b6 (.cells (otArr 0 0 nilV 0 ByteArray.empty zTg 0) 72) :: .blk b4 (.cells (tgArr b) 58) :: .blk b3 (.cells (pkArr vs p.2.1 p.2.2) 25) :: E9) _ := s
    refine s_pure h (ru_sub (h.ev rfl) (h.ev rfl) (by omega)) rfl ?_; intro f h
    exact s_nil ⟨_, oc_out 9 rfl (h.holds 9 _ rfl), rfl, s⟩
  · intro f9 w2 vl1 E9 hs9 hd9 hl hF s
    have e3 : f9.tmps.getD 3 undef = _ := oc_old hl 3 (by kernel_rfl) (by kernel_rfl) (h.holds 3 _ rfl)
    have h := fin_slot [(3, _)] (hs9.trans h.size) (hd9.trans h.defers) (holds_lk ⟨e3, trivial⟩)
    replace s : St w (.blk b6 (.cells (otArr 0 0 nilV 0 ByteArray.empty zTg 0) 72) :: .blk b4 (.cells (tgArr b) 58) :: .blk b3 (.cells (pkArr vs p.2.1 p.2.2) 25) :: E9) _ := s
    refine s_pure h (ru_field fld25_2 (h.ev rfl)) rfl ?_; intro f h
    exact s_nil ⟨_, oc_out 10 rfl (h.holds 10 _ rfl), rfl, s⟩
  · intro f9 w2 vl1 E9 hs9 hd9 hl hF s
    have e10 : f9.tmps.getD 10 undef = .pointer (some ⟨b3, 2, none⟩) := (oc_get hl 10 3 (by kernel_rfl) (by kernel_rfl)).trans (hF 3 (by decide))
    have h := fin_slot [(10, .pointer (some ⟨b3, 2, none⟩))] (hs9.trans h.size) (hd9.trans h.defers) (holds_lk ⟨e10, trivial⟩)
    replace s : St w (.blk b6 (.cells (otArr 0 0 nilV 0 ByteArray.empty zTg 0) 72) :: .blk b4 (.cells (tgArr b) 58) :: .blk b3 (.cells (pkArr vs p.2.1 p.2.2) 25) :: E9) _ := s
    refine s_load_at1 (V := .string p.2.2) (cell_of_has (Has.of_own s 2 rfl) 2 (pk_d _ _ _)) h one9 rfl rfl ?_; intro f h
    exact s_nil ⟨_, oc_out 11 rfl (h.holds 11 _ rfl), rfl, s⟩
  · intro f9 w2 vl1 E9 hs9 hd9 hl hF s
    have e3 : f9.tmps.getD 3 undef = _ := oc_old hl 3 (by kernel_rfl) (by kernel_rfl) (h.holds 3 _ rfl)
    have h := fin_slot [(3, _)] (hs9.trans h.size) (hd9.trans h.defers) (holds_lk ⟨e3, trivial⟩)
    replace s : St w (.blk b6 (.cells (otArr 0 0 nilV 0 ByteArray.empty zTg 0) 72) :: .blk b4 (.cells (tgArr b) 58) :: .blk b3 (.cells (pkArr vs p.2.1 p.2.2) 25) :: E9) _ := s
    refine s_pure h (ru_field fld25_0 (h.ev rfl)) rfl ?_; intro f h
    exact s_nil ⟨_, oc_out 12 rfl (h.holds 12 _ rfl), rfl, s⟩
  · intro f9 w2 vl1 E9 hs9 hd9 hl hF s
    have e12 : f9.tmps.getD 12 undef = .pointer (some ⟨b3, 0, none⟩) := (oc_get hl 12 5 (by kernel_rfl) (by kernel_rfl)).trans (hF 5 (by decide))
    have h := fin_slot [(12, .pointer (some ⟨b3, 0, none⟩))] (hs9.trans h.size) (hd9.trans h.defers) (holds_lk ⟨e12, trivial⟩)
    replace s : St w (.blk b6 (.cells (otArr 0 0 nilV 0 ByteArray.empty zTg 0) 72) :: .blk b4 (.cells (tgArr b) 58) :: .blk b3 (.cells (pkArr vs p.2.1 p.2.2) 25) :: E9) _ := s
    refine s_load_at1 (V := vs) (cell_of_has (Has.of_own s 2 rfl) 0 (pk_v _ _ _)) h one23 rfl rfl ?_; intro f h
    exact s_nil ⟨_, oc_out 13 rfl (h.holds 13 _ rfl), rfl, s⟩
  · intro f9 w2 vl1 E9 hs9 hd9 hl hF s
    have e13 : f9.tmps.getD 13 undef = vs := (oc_get hl 13 6 (by kernel_rfl) (by kernel_rfl)).trans (hF 6 (by decide))
    have h := fin_slot [(13, vs)] (hs9.trans h.size) (hd9.trans h.defers) (holds_lk ⟨e13, trivial⟩)
    replace s : St w (.blk b6 (.cells (otArr 0 0 nilV 0 ByteArray.empty zTg 0) 72) :: .blk b4 (.cells (tgArr b) 58) :: .blk b3 (.cells (pkArr vs p.2.1 p.2.2) 25) :: E9) _ := s
    refine s_pure h (ru_slice_loZ (hP.keep s.ext) (1) Try.underlying23 szo53 (h.ev rfl) (h.ev rfl) (rfl) (by omega)) rfl ?_; intro f h
    exact s_nil ⟨_, oc_out 14 rfl (h.holds 14 _ rfl), rfl, s⟩
  · intro f9 w2 vl1 E9 hs9 hd9 hl hF s
    have e2 : f9.tmps.getD 2 undef = _ := oc_old hl 2 (by kernel_rfl) (by kernel_rfl) (h.holds 2 _ rfl)
    have h := fin_slot [(2, _)] (hs9.trans h.size) (hd9.trans h.defers) (holds_lk ⟨e2, trivial⟩)
    replace s : St w (.blk b6 (.cells (otArr 0 0 nilV 0 ByteArray.empty zTg 0) 72) :: .blk b4 (.cells (tgArr b) 58) :: .blk b3 (.cells (pkArr vs p.2.1 p.2.2) 25) :: E9) _ := s
    refine s_pure h (ru_move (h.ev rfl)) rfl ?_; intro f h
    exact s_nil ⟨_, oc_out 15 rfl (h.holds 15 _ rfl), rfl, s⟩
  · intro f9 w2 vl1 E9 hs9 hd9 hl hF s
    have e9 : f9.tmps.getD 9 undef = .int .i64 (p.2.1 - 1) := (oc_get hl 9 2 (by kernel_rfl) (by kernel_rfl)).trans (hF 2 (by decide))
    have e11 : f9.tmps.getD 11 undef = .string p.2.2 := (oc_get hl 11 4 (by kernel_rfl) (by kernel_rfl)).trans (hF 4 (by decide))
    have e14 : f9.tmps.getD 14 undef = (dropV vs 34 1) := (oc_get hl 14 7 (by kernel_rfl) (by kernel_rfl)).trans (hF 7 (by decide))
    have e15 : f9.tmps.getD 15 undef = vf := (oc_get hl 15 8 (by kernel_rfl) (by kernel_rfl)).trans (hF 8 (by decide))
    have h := fin_slot [(9, .int .i64 (p.2.1 - 1)), (11, .string p.2.2), (14, (dropV vs 34 1)), (15, vf)] (hs9.trans h.size) (hd9.trans h.defers) (holds_lk ⟨e9, e11, e14, e15, trivial⟩)
    replace s : St w (.blk b6 (.cells (otArr 0 0 nilV 0 ByteArray.empty zTg 0) 72) :: .blk b4 (.cells (tgArr b) 58) :: .blk b3 (.cells (pkArr vs p.2.1 p.2.2) 25) :: E9) _ := s
    refine s_call h s fnc50 (ppacket_any (p.2.1 - 1) p.2.2 (p.1.drop 1) fr (dropV vs 34 1) vf _ (hD.keep s.ext) (hFr.keep s.ext) (all_drop hea 1) (hfe) (by rw [List.length_drop]; omega)) rfl rfl ?_; rintro f w1 v16 ⟨u9, hv9, hOw⟩ hE h sq
    have h66 : u9 = (pkS v16) := by rw [hv9]; exact (pkS_of (RdZ.of_own hOw) _ _).symm
    subst h66
    replace s := s.sl_new hE hOw
    clear hOw
    exact s_nil ⟨_, oc_out 16 rfl (h.holds 16 _ rfl), hv9, s⟩
  · intro f9 w2 vl1 E9 hs9 hd9 hl hF s
    have e4 : f9.tmps.getD 4 undef = _ := oc_old hl 4 (by kernel_rfl) (by kernel_rfl) (h.holds 4 _ rfl)
    have h := fin_slot [(4, _)] (hs9.trans h.size) (hd9.trans h.defers) (holds_lk ⟨e4, trivial⟩)
    replace s : St w (.blk b6 (.cells (otArr 0 0 nilV 0 ByteArray.empty zTg 0) 72) :: .blk b4 (.cells (tgArr b) 58) :: .blk b3 (.cells (pkArr vs p.2.1 p.2.2) 25) :: E9) _ := s
    refine s_load_row 1 h s row58 rfl rfl (tgArr_size _) rfl ?_; intro f h
    exact s_nil ⟨_, oc_out 17 rfl (h.holds 17 _ rfl), rfl, s⟩
  · intro f9 w2 vl1 E9 hs9 hd9 hl hF s
    have e16 : f9.tmps.getD 16 undef = .agg (pkArr (pkS (vl1 9)) (p.2.1 - 1) p.2.2) := (oc_get hl 16 9 (by kernel_rfl) (by kernel_rfl)).trans (hF 9 (by decide))
    have e17 : f9.tmps.getD 17 undef = .agg (tgArr b) := (oc_get hl 17 10 (by kernel_rfl) (by kernel_rfl)).trans (hF 10 (by decide))
    have h := fin_slot [(16, .agg (pkArr (pkS (vl1 9)) (p.2.1 - 1) p.2.2)), (17, .agg (tgArr b))] (hs9.trans h.size) (hd9.trans h.defers) (holds_lk ⟨e16, e17, trivial⟩)
    replace s : St w (.blk b6 (.cells (otArr 0 0 nilV 0 ByteArray.empty zTg 0) 72) :: .blk b4 (.cells (tgArr b) 58) :: .blk b3 (.cells (pkArr vs p.2.1 p.2.2) 25) :: E9) _ := s
    refine s_pure h (ru_build_ot_on sttO (pkS_cells _) rfl (h.ev rfl) (h.ev rfl)) rfl ?_; intro f h
    exact s_nil ⟨_, oc_out 18 rfl (h.holds 18 _ rfl), rfl, s⟩
  intro f w1 vl1 hs9 hd9 hv hr hF s
  replace hv := fun i d h9 => hv i d (show Nat.blt i 12 = true from h9)
  replace h := oc_slT 12 (ops := _) [(7, .pointer (some ⟨b3, 1, none⟩)), (8, .int .i64 p.2.1), (9, .int .i64 (p.2.1 - 1)), (10, .pointer (some ⟨b3, 2, none⟩)), (11, .string p.2.2), (12, .pointer (some ⟨b3, 0, none⟩)), (13, vs), (14, (dropV vs 34 1)), (15, vf), (16, .agg (pkArr (pkS (vl1 9)) (p.2.1 - 1) p.2.2)), (17, .agg (tgArr b)), (18, .agg (otArr 2 0 (pkS (vl1 9)) (p.2.1 - 1) p.2.2 b 0))] h hs9 hd9 hr ⟨(hv 0 7 rfl rfl).trans (hF 0 (by kernel_rfl)), (hv 1 8 rfl rfl).trans (hF 1 (by kernel_rfl)), (hv 2 9 rfl rfl).trans (hF 2 (by kernel_rfl)), (hv 3 10 rfl rfl).trans (hF 3 (by kernel_rfl)), (hv 4 11 rfl rfl).trans (hF 4 (by kernel_rfl)), (hv 5 12 rfl rfl).trans (hF 5 (by kernel_rfl)), (hv 6 13 rfl rfl).trans (hF 6 (by kernel_rfl)), (hv 7 14 rfl rfl).trans (hF 7 (by kernel_rfl)), (hv 8 15 rfl rfl).trans (hF 8 (by kernel_rfl)), (hv 9 16 rfl rfl).trans (hF 9 (by kernel_rfl)), (hv 10 17 rfl rfl).trans (hF 10 (by kernel_rfl)), (hv 11 18 rfl rfl).trans (hF 11 (by kernel_rfl)), trivial⟩ (by kernel_rfl)
  replace s : St w [.sl (pkS (vl1 9)) 53 34 (fr ++ p.1.drop 1).length (eCells (fr ++ p.1.drop 1)), .blk b6 (.cells (otArr 0 0 nilV 0 ByteArray.empty zTg 0) 72), .blk b4 (.cells (tgArr b) 58), .blk b3 (.cells (pkArr vs p.2.1 p.2.2) 25)] _ := s
  refine s_store_row 1 h s row72 rfl rfl rfl (otArr_size _ _ _ _ _ _ _) (otArr_size _ _ _ _ _ _ _) (otArr_ones _ _ _ _ _ _ (own_one (s.getSl 0 rfl))) ?_; intro w1 s
  refine s_nil ?_
  refine hK2 _ _ ?_
  refine wpIn_ret ?_
  exact e_row 1 rfl h s row72 rfl rfl (otArr_size _ _ _ _ _ _ _) (⟨_, rfl, s.getSl 0 rfl⟩)

set_option maxHeartbeats 2000000 in
theorem pbyeach_any (M : List Tg) (vm : Value) (p : Pk) (vs : Value) (w : World) (hM : RdZ w vm 67 M.length (tgCells M)) (hMl : M.length ≤ 1000) (hP : RdZ w vs 34 p.1.length (eCells p.1)) (hpl : p.1.length ≤ 1000) (hea : p.1.all isE = true) (h1 : 1 ≤ p.1.length) (h41 : p.1.length ≤ 4) (hh : 0 ≤ p.2.1 ∧ p.2.1 ≤ 64) (hme : ∀ y ∈ M, isE y.2.1 = true) : Calls Try.prog 52 [vm, .agg (pkArr vs p.2.1 p.2.2)].toArray w (Ret w (StP w 72 vs p (M.map (viaO p)))) := by
  refine c_enter Try.func52 rfl Try.ntmps52 rfl [(0, vm), (1, .agg (pkArr vs p.2.1 p.2.2))] (by simp) fun f h => ?_
  have s := St.start w
  refine c_seq fun K1 hK1 => ?_
  refine c_region ?_
  refine s_box (pkArr vs p.2.1 p.2.2) h s rfl rfl rfl ?_; intro f w1 b3 h s
  refine s_pure h (ru_assign (h.ev rfl)) rfl ?_; intro f h
  refine s_nil ?_
  refine hK1 _ _ ?_
  refine c_seq fun K2 hK2 => ?_
  refine c_region ?_
  refine s_pure h (ru_assign (h.ev rfl)) rfl ?_; intro f h
  refine s_nil ?_
  refine hK2 _ _ ?_
  refine c_seq fun K3 hK3 => ?_
  refine c_seq fun K4 hK4 => ?_
  refine c_region ?_
  replace s := s.nilSl 72 73
  replace s := s.grp0 (S := fun w9 => RdE w9 vs p.1 → RwU [] w9) (fun w9 _ => rwU_nil w9)
  refine s_pure h (ru_move (h.ev rfl)) rfl ?_; intro f h
  refine s_pure h (ru_lenZ (hM.keep s.ext) Try.underlying22 (h.ev rfl)) rfl ?_; intro f h
  refine s_pure h (ru_move (h.ev rfl)) rfl ?_; intro f h
  refine s_nil ?_
  refine hK4 _ _ ?_
  refine wpIn_block ?_
  refine wpIn_loop_ghost (fun nn aa ww => ∃ k : Nat, ∃ vb : Value, ∃ K : List O2, ∃ kg : List Nat, Sl 25 aa [(0, vm), (1, .agg (pkArr vs p.2.1 p.2.2)), (3, .pointer (some ⟨b3, 0, none⟩)), (5, vb), (8, vm), (9, .int .i64 (M.length : Int)), (10, .int .i64 (k : Int))] ∧ St w [(.grp kg (fun w9 => RdE w9 vs p.1 → RwU K w9)), .sl vb 72 73 K.length (ouCells K), .blk b3 (.cells (pkArr vs p.2.1 p.2.2) 25)] ww ∧ nn = M.length - k ∧ k ≤ M.length ∧ outs K = (M.take k).map (viaO p)) (M.length - (0)) ⟨0, nilV, [], [], h.only ⟨rfl, rfl, rfl, rfl, rfl, rfl, slot_int rfl (by omega), trivial⟩, s.as ⟨rfl, rfl, rfl, trivial⟩, rfl, Nat.zero_le _, rfl⟩ ?_
  rintro _ f w1 ⟨k, vb, K, kg, h, s, hnn, hp0, hp1⟩
  refine c_seq fun K5 hK5 => ?_
  refine c_region ?_
  refine s_pure h (ru_lss (h.ev rfl) (h.ev rfl)) rfl ?_; intro f h
  refine s_nil ?_
  refine hK5 _ _ ?_
  refine c_seq fun K6 hK6 => ?_
  refine c_cond h rfl (fun hc => ?_) (fun hc => ?_)
  · replace hc := of_decide_eq_true hc
    refine wpIn_skip ?_
    refine hK6 _ _ ?_
    refine c_seq fun K7 hK7 => ?_
    refine wpIn_block ?_
    refine c_seq fun K8 hK8 => ?_
    refine c_region ?_
    have hkm : k < M.length := by omega
    have hKk : K.length = k := by rw [← outs_len, hp1, List.length_map, List.length_take]; omega
    refine s_pure h (ru_ixz (hM.keep s.ext) (k) Try.underlying22 szo58 (h.ev rfl) (h.ev rfl) (by omega) (by omega)) rfl ?_; intro f h
    refine s_load_at ((hM.keep s.ext).el (k) (by omega) (by decide) (D := tgArr (M.getD k zTg)) (tgr_el M k hkm)) h row58 rfl (tgArr_size _) rfl ?_; intro f h
    refine s_alloc (tgArr zTg) h s zero58 rfl rfl ?_; intro f w1 b7 h s
    refine s_store_row 0 h s row58 rfl rfl rfl (tgArr_size _) (tgArr_size _) (tgArr_ones _) ?_; intro w1 s
    refine s_nil ?_
    refine hK8 _ _ ?_
    refine c_region ?_
    refine s_pure h (ru_move (h.ev rfl)) rfl ?_; intro f h
    refine s_load_row 3 h s row25 rfl rfl (pkArr_size _ _ _) rfl ?_; intro f h
    refine s_load_row 0 h s row58 rfl rfl (tgArr_size _) rfl ?_; intro f h
    refine s_pure h (ru_field fld58_1 (h.ev rfl)) rfl ?_; intro f h
    refine s_load_at (Has.subL (Has.of_own s 0 rfl) 32 34 (D := eArr (_)) (tgArr_tg _)) h row53 rfl (eArr_size _) rfl ?_; intro f h
    refine s_bslice (vs := [.agg (eArr (M.getD k zTg).2.1)]) [.tmp 18] h s Try.underlying23 elm53 rfl rfl (e_szE _) rfl rfl rfl ?_; intro f w1 v19 h s
    replace s := s.resl (m := [(M.getD k zTg).2.1].length) (ys := eCells [(M.getD k zTg).2.1]) 0 rfl rfl ((e_one _).trans (eCells_one _).symm)
    refine s_call h s fnc53 (ponward_any p vs (M.getD k zTg) [(M.getD k zTg).2.1] v19 _ (hP.keep s.ext) hpl hea h1 h41 hh (RdZ.of_own (s.getSl 0 rfl)) (all_one (tgt_at hme hkm)) (Nat.le_refl _)) rfl rfl ?_; rintro f w1 v20 ⟨vu, rfl, hOw⟩ hE h sq; have hu1 := rd_one (RdZ.of_own hOw); replace s := s.sl_new hE hOw; clear hOw
    refine s_bslice (vs := [.agg (otArr 2 0 vu (p.2.1 - 1) p.2.2 (M.getD k zTg) 0)]) [.tmp 20] h s Try.underlying67 elm72 rfl rfl (ou_sz (viaO p (M.getD k zTg), vu)) rfl rfl rfl ?_; intro f w1 v21 h s
    refine s_append 5 0 h s Try.underlying67 elm72 rfl rfl rfl rfl (by decide) (by exact otArr_ones _ _ _ _ _ _ (hu1)) (by unfold maxLen; omega) (by omega) rfl ?_; intro f w1 v22 h s
    replace s := s.pick _ (List.sublist_cons_self _ _)
    replace s := s.resl (m := (K ++ [(viaO p (M.getD k zTg), vu)]).length) (ys := ouCells (K ++ [(viaO p (M.getD k zTg), vu)])) 4 rfl (ou_len K (viaO p (M.getD k zTg), vu)) (by exact ou_put K (viaO p (M.getD k zTg), vu))
    refine s_pure h (ru_assign (h.ev rfl)) rfl ?_; intro f h
    refine s_nil ?_
    refine b_norm ?_
    refine hK7 _ _ ?_
    refine c_region ?_
    replace s := s.sel [0, 3, 1, 2, 4, 5] rfl (by decide)
    obtain ⟨kn, s⟩ := s.grp1 (S' := fun w9 => RdE w9 vs p.1 → RwU (K ++ [(viaO p (M.getD k zTg), vu)]) w9) (fun w9 h1 h2 h3 => rwU_snoc (h2 h3) h1)
    refine s_pure h (ru_add (h.ev rfl) (h.ev rfl) (by omega)) rfl ?_; intro f h
    refine s_pure h (ru_move (h.ev rfl)) rfl ?_; intro f h
    refine s_nil ?_
    refine t_norm ?_
    exact ⟨_, by omega, ⟨k + 1, v22, K ++ [(viaO p (M.getD k zTg), vu)], kn, h.only ⟨rfl, rfl, rfl, rfl, rfl, rfl, slot_int rfl (by omega), trivial⟩, St.as (s.pick _ (List.Sublist.cons_cons _ (List.Sublist.cons _ (List.Sublist.cons _ (List.Sublist.cons_cons _ (List.Sublist.cons_cons _ (List.nil_sublist _))))))) ⟨rfl, rfl, rfl, trivial⟩, rfl, by omega, via_next hkm hp1⟩⟩
  · replace hc := of_decide_eq_false hc
    refine wpIn_exit ?_
    refine t_exit ?_
    refine t_exit ?_
    refine b_exit ?_
    refine hK3 _ _ ?_
    refine c_seq fun K9 hK9 => ?_
    refine c_region ?_
    obtain rfl : k = M.length := by omega
    rw [List.take_length] at hp1
    refine s_pure h (ru_move (h.ev rfl)) rfl ?_; intro f h
    refine s_pure h (ru_assign (h.ev rfl)) rfl ?_; intro f h
    refine s_nil ?_
    refine hK9 _ _ ?_
    refine wpIn_ret ?_
    exact e_tmp rfl h s rfl (⟨K, kg, hp1, s.sel [1, 0] rfl (by decide)⟩)

set_option maxHeartbeats 2000000 in
theorem pstep_any (t : List Tg) (vh : Value) (p : Pk) (vs : Value) (w : World) (hR : RdZ w vh 67 t.length (tgCells t)) (hln : t.length ≤ 1000) (hP : RdZ w vs 34 p.1.length (eCells p.1)) (hpl : p.1.length ≤ 1000) : Calls Try.prog 24 [vh, .agg (pkArr vs p.2.1 p.2.2)].toArray w (Ret w (RwP w vs p (rwE t p) (rwL t p))) := by
  refine c_enter Try.func24 rfl Try.ntmps24 rfl [(0, vh), (1, .agg (pkArr vs p.2.1 p.2.2))] (by simp) fun f h => ?_
  have s := St.start w
  refine c_seq fun K1 hK1 => ?_
  refine c_region ?_
  refine s_box (pkArr vs p.2.1 p.2.2) h s rfl rfl rfl ?_; intro f w1 b3 h s
  refine s_pure h (ru_assign (h.ev rfl)) rfl ?_; intro f h
  refine s_pure h (ru_assign (h.ev rfl)) rfl ?_; intro f h
  refine s_nil ?_
  refine hK1 _ _ ?_
  refine c_seq fun K2 hK2 => ?_
  refine c_seq fun K3 hK3 => ?_
  cases t0 : (rightT t : Bool)
  · skip
    refine c_region ?_
    refine s_pure h (ru_move (h.ev rfl)) rfl ?_; intro f h
    refine s_call h s fnc20 (ret_val (.bool false) (tright_any t vh _ (hR.keep s.ext) hln) (congrArg Value.bool t0)) rfl rfl ?_; intro f w1 v9 hT hE h s; obtain rfl := hT
    refine s_pure h (ru_val (.bool true) (ru_not (h.ev rfl)) rfl) rfl ?_; intro f h
    refine s_pure h (ru_move (h.ev rfl)) rfl ?_; intro f h
    refine s_off (b := false) h rfl rfl rfl rfl ?_; intro f h
    refine s_off (b := false) h rfl rfl rfl rfl ?_; intro f h
    refine s_off (b := false) h rfl rfl rfl rfl ?_; intro f h
    refine s_pure h (ru_pick_t (h.ev rfl) (h.ev rfl)) rfl ?_; intro f h
    refine s_nil ?_
    refine hK3 _ _ ?_
    refine wpIn_cond_true (h.ev rfl) ?_
    refine c_seq fun K4 hK4 => ?_
    refine c_region ?_
    refine s_pure h (ru_assign (h.ev rfl)) rfl ?_; intro f h
    refine s_pure h (ru_assign (h.ev rfl)) rfl ?_; intro f h
    refine s_nil ?_
    refine hK4 _ _ ?_
    refine wpIn_ret ?_
    refine t_ret ?_
    exact e_tmps rfl h s rfl rfl (rwP_nil (rwE_no1 p t0).1 (rwE_no1 p t0).2 (s.sel [] rfl (by decide)))
  · skip
    cases r0 : (rightP p : Bool)
    · skip
      refine c_region ?_
      refine s_pure h (ru_move (h.ev rfl)) rfl ?_; intro f h
      refine s_call h s fnc20 (ret_val (.bool true) (tright_any t vh _ (hR.keep s.ext) hln) (congrArg Value.bool t0)) rfl rfl ?_; intro f w1 v9 hT hE h s; obtain rfl := hT
      refine s_pure h (ru_val (.bool false) (ru_not (h.ev rfl)) rfl) rfl ?_; intro f h
      refine s_pure h (ru_move (h.ev rfl)) rfl ?_; intro f h
      refine s_on h rfl rfl rfl ?_
      refine s_load_row 0 h s row25 rfl rfl (pkArr_size _ _ _) rfl ?_; intro f h
      refine s_on h rfl rfl rfl ?_
      refine s_call h s fnc21 (ret_val (.bool false) (pright_any p vs _ (hP.keep s.ext) hpl) (congrArg Value.bool r0)) rfl rfl ?_; intro f w1 v9 hT hE h s; obtain rfl := hT
      refine s_on h rfl rfl rfl ?_
      refine s_pure h (ru_val (.bool true) (ru_not (h.ev rfl)) rfl) rfl ?_; intro f h
      refine s_pure h (ru_pick_f (h.ev rfl) (h.ev rfl)) rfl ?_; intro f h
      refine s_nil ?_
      refine hK3 _ _ ?_
      refine wpIn_cond_true (h.ev rfl) ?_
      refine c_seq fun K5 hK5 => ?_
      refine c_region ?_
      refine s_pure h (ru_assign (h.ev rfl)) rfl ?_; intro f h
      refine s_pure h (ru_assign (h.ev rfl)) rfl ?_; intro f h
      refine s_nil ?_
      refine hK5 _ _ ?_
      refine wpIn_ret ?_
      refine t_ret ?_
      exact e_tmps rfl h s rfl rfl (rwP_nil (rwE_no0 t r0).1 (rwE_no0 t r0).2 (s.sel [] rfl (by decide)))
    · skip
      refine c_region ?_
      refine s_pure h (ru_move (h.ev rfl)) rfl ?_; intro f h
      refine s_call h s fnc20 (ret_val (.bool true) (tright_any t vh _ (hR.keep s.ext) hln) (congrArg Value.bool t0)) rfl rfl ?_; intro f w1 v9 hT hE h s; obtain rfl := hT
      refine s_pure h (ru_val (.bool false) (ru_not (h.ev rfl)) rfl) rfl ?_; intro f h
      refine s_pure h (ru_move (h.ev rfl)) rfl ?_; intro f h
      refine s_on h rfl rfl rfl ?_
      refine s_load_row 0 h s row25 rfl rfl (pkArr_size _ _ _) rfl ?_; intro f h
      refine s_on h rfl rfl rfl ?_
      refine s_call h s fnc21 (ret_val (.bool true) (pright_any p vs _ (hP.keep s.ext) hpl) (congrArg Value.bool r0)) rfl rfl ?_; intro f w1 v9 hT hE h s; obtain rfl := hT
      refine s_on h rfl rfl rfl ?_
      refine s_pure h (ru_val (.bool false) (ru_not (h.ev rfl)) rfl) rfl ?_; intro f h
      refine s_pure h (ru_pick_f (h.ev rfl) (h.ev rfl)) rfl ?_; intro f h
      refine s_nil ?_
      refine hK3 _ _ ?_
      refine wpIn_cond_false (h.ev rfl) ?_
      refine wpIn_skip ?_
      refine hK2 _ _ ?_
      refine c_seq fun K6 hK6 => ?_
      obtain ⟨⟨h1, h41, hea9⟩, hh1, hh2, hd9⟩ := rightP_iff.1 r0
      have hea := all_of hea9
      have hh := And.intro hh1 hh2
      have hD : RdE w (dropV vs 34 1) (p.1.drop 1) := ents_drop hP 1 (by omega)
      obtain ⟨e0, l0⟩ := rwE_ok (t := t) r0 t0
      refine c_regT 0 9 [[], [0], [0, 1], [0, 1, 2], [], [4], [4, 5], [], [0, 1, 2, 3, 7], [0, 1, 2, 3, 4, 5, 6, 7, 8]] [[], [], [], [], [], [], [], [], [7], []] [fun _ => [], fun _ => [], fun _ => [], fun _ => [], fun _ => [], fun _ => [], fun _ => [], fun v => [.blk (pbk (v 7)) (.cells (eArr (0, 0#256, 0)) 53)], fun v => [.blk (pbk (v 7)) (.cells (eArr (fstE p)) 53)], fun _ => []] [] [fun v => v 0 = .pointer (some ⟨b3, 0, none⟩), fun v => v 1 = vs, fun v => v 2 = .pointer (some (elAddr vs (0 * 34))), fun v => v 3 = .agg (eArr (fstE p)), fun v => v 4 = .pointer (some ⟨b3, 0, none⟩), fun v => v 5 = vs, fun v => v 6 = (dropV vs 34 1), fun v => ∃ b, v 7 = .pointer (some ⟨b, 0, none⟩), fun _ => True, fun _ => True] [.blk b3 (.cells (pkArr vs p.2.1 p.2.2) 25)] h s rfl (by kernel_rfl) (by kernel_rfl) (by kernel_rfl) (And.intro ?_ (And.intro ?_ (And.intro ?_ (And.intro ?_ (And.intro ?_ (And.intro ?_ (And.intro ?_ (And.intro ?_ (And.intro ?_ (trivial)))))))))) [0, 1, 2, 3, 4, 5, 6, 8] (by kernel_rfl) ?_
      · intro f9 w2 vl3 E9 hs9 hd9 hl hF s
        have e3 : f9.tmps.getD 3 undef = _ := oc_old hl 3 (by kernel_rfl) (by kernel_rfl) (h.holds 3 _ rfl)
        have h := fin_slot [(3, _)] (hs9.trans h.size) (hd9.trans h.defers) (holds_lk ⟨e3, trivial⟩)
        replace s : St w (.blk b3 (.cells (pkArr vs p.2.1 p.2.2) 25) :: E9) _ := s
        refine s_pure h (ru_field fld25_0 (h.ev rfl)) rfl ?_; intro f h
        exact s_nil ⟨_, oc_out 18 rfl (h.holds 18 _ rfl), rfl, s⟩
      · intro f9 w2 vl3 E9 hs9 hd9 hl hF s
        have e18 : f9.tmps.getD 18 undef = .pointer (some ⟨b3, 0, none⟩) := (oc_get hl 18 0 (by kernel_rfl) (by kernel_rfl)).trans (hF 0 (by decide))
        have h := fin_slot [(18, .pointer (some ⟨b3, 0, none⟩))] (hs9.trans h.size) (hd9.trans h.defers) (holds_lk ⟨e18, trivial⟩)
        replace s : St w (.blk b3 (.cells (pkArr vs p.2.1 p.2.2) 25) :: E9) _ := s
        refine s_load_at1 (V := vs) (cell_of_has (Has.of_own s 0 rfl) 0 (pk_v _ _ _)) h one23 rfl rfl ?_; intro f h
        exact s_nil ⟨_, oc_out 19 rfl (h.holds 19 _ rfl), rfl, s⟩
      · intro f9 w2 vl3 E9 hs9 hd9 hl hF s
        have e19 : f9.tmps.getD 19 undef = vs := (oc_get hl 19 1 (by kernel_rfl) (by kernel_rfl)).trans (hF 1 (by decide))
        have h := fin_slot [(19, vs)] (hs9.trans h.size) (hd9.trans h.defers) (holds_lk ⟨e19, trivial⟩)
        replace s : St w (.blk b3 (.cells (pkArr vs p.2.1 p.2.2) 25) :: E9) _ := s
        refine s_pure h (ru_ixz (hP.keep s.ext) (0) Try.underlying23 szo53 (h.ev rfl) (h.ev rfl) (rfl) (by omega)) rfl ?_; intro f h
        exact s_nil ⟨_, oc_out 20 rfl (h.holds 20 _ rfl), rfl, s⟩
      · intro f9 w2 vl3 E9 hs9 hd9 hl hF s
        have e20 : f9.tmps.getD 20 undef = .pointer (some (elAddr vs (0 * 34))) := (oc_get hl 20 2 (by kernel_rfl) (by kernel_rfl)).trans (hF 2 (by decide))
        have h := fin_slot [(20, .pointer (some (elAddr vs (0 * 34))))] (hs9.trans h.size) (hd9.trans h.defers) (holds_lk ⟨e20, trivial⟩)
        replace s : St w (.blk b3 (.cells (pkArr vs p.2.1 p.2.2) 25) :: E9) _ := s
        refine s_load_at ((hP.keep s.ext).el (0) (by omega) (by decide) (D := eArr (fstE p)) (e_elD p.1 0 (by omega))) h row53 rfl (eArr_size _) rfl ?_; intro f h
        exact s_nil ⟨_, oc_out 21 rfl (h.holds 21 _ rfl), rfl, s⟩
      · intro f9 w2 vl3 E9 hs9 hd9 hl hF s
        have e3 : f9.tmps.getD 3 undef = _ := oc_old hl 3 (by kernel_rfl) (by kernel_rfl) (h.holds 3 _ rfl)
        have h := fin_slot [(3, _)] (hs9.trans h.size) (hd9.trans h.defers) (holds_lk ⟨e3, trivial⟩)
        replace s : St w (.blk b3 (.cells (pkArr vs p.2.1 p.2.2) 25) :: E9) _ := s
        refine s_pure h (ru_field fld25_0 (h.ev rfl)) rfl ?_; intro f h
        exact s_nil ⟨_, oc_out 22 rfl (h.holds 22 _ rfl), rfl, s⟩
      · intro f9 w2 vl3 E9 hs9 hd9 hl hF s
        have e22 : f9.tmps.getD 22 undef = .pointer (some ⟨b3, 0, none⟩) := (oc_get hl 22 4 (by kernel_rfl) (by kernel_rfl)).trans (hF 4 (by decide))
        have h := fin_slot [(22, .pointer (some ⟨b3, 0, none⟩))] (hs9.trans h.size) (hd9.trans h.defers) (holds_lk ⟨e22, trivial⟩)
        replace s : St w (.blk b3 (.cells (pkArr vs p.2.1 p.2.2) 25) :: E9) _ := s
        refine s_load_at1 (V := vs) (cell_of_has (Has.of_own s 0 rfl) 0 (pk_v _ _ _)) h one23 rfl rfl ?_; intro f h
        exact s_nil ⟨_, oc_out 23 rfl (h.holds 23 _ rfl), rfl, s⟩
      · intro f9 w2 vl3 E9 hs9 hd9 hl hF s
        have e23 : f9.tmps.getD 23 undef = vs := (oc_get hl 23 5 (by kernel_rfl) (by kernel_rfl)).trans (hF 5 (by decide))
        have h := fin_slot [(23, vs)] (hs9.trans h.size) (hd9.trans h.defers) (holds_lk ⟨e23, trivial⟩)
        replace s : St w (.blk b3 (.cells (pkArr vs p.2.1 p.2.2) 25) :: E9) _ := s
        refine s_pure h (ru_slice_loZ (hP.keep s.ext) (1) Try.underlying23 szo53 (h.ev rfl) (h.ev rfl) (rfl) (by omega)) rfl ?_; intro f h
        exact s_nil ⟨_, oc_out 24 rfl (h.holds 24 _ rfl), rfl, s⟩
      · intro f9 w2 vl3 E9 hs9 hd9 hl hF s
        have h := fin_slot [] (hs9.trans h.size) (hd9.trans h.defers) (holds_lk trivial)
        replace s : St w (.blk b3 (.cells (pkArr vs p.2.1 p.2.2) 25) :: E9) _ := s
        refine s_alloc (eArr (0, 0#256, 0)) h s zero53 rfl rfl ?_; intro f w1 b6 h s
        exact s_nil ⟨_, oc_out 6 rfl (h.holds 6 _ rfl), ⟨_, rfl⟩, s⟩
      · intro f9 w2 vl3 E9 hs9 hd9 hl hF s
        obtain ⟨b6, hb6⟩ : ∃ b, vl3 7 = .pointer (some ⟨b, 0, none⟩) := hF 7 (by decide)
        have e6 : f9.tmps.getD 6 undef = .pointer (some ⟨b6, 0, none⟩) := (oc_get hl 6 7 (by kernel_rfl) (by kernel_rfl)).trans hb6
        have e21 : f9.tmps.getD 21 undef = .agg (eArr (fstE p)) := (oc_get hl 21 3 (by kernel_rfl) (by kernel_rfl)).trans (hF 3 (by decide))
        have h := fin_slot [(6, .pointer (some ⟨b6, 0, none⟩)), (21, .agg (eArr (fstE p)))] (hs9.trans h.size) (hd9.trans h.defers) (holds_lk ⟨e6, e21, trivial⟩)
        replace s : St w (.blk (pbk (vl3 7)) (.cells (eArr (0, 0#256, 0)) 53) :: .blk b3 (.cells (pkArr vs p.2.1 p.2.2) 25) :: E9) _ := s
        rw [hb6] at s
        replace s : St w (.blk b6 (.cells (eArr (0, 0#256, 0)) 53) :: .blk b3 (.cells (pkArr vs p.2.1 p.2.2) 25) :: E9) _ := s
        refine s_store_row 0 h s row53 rfl rfl rfl (eArr_size _) (eArr_size _) (eArr_ones _) ?_; intro w1 s
        refine s_nil ⟨undef, oc_none rfl, trivial, ?_⟩
        have z := s
        rw [← show pbk (vl3 7) = b6 from by rw [hb6]; rfl] at z
        exact z
      intro f w1 vl3 hs9 hd9 hv hr hF s
      replace hv := fun i d h9 => hv i d (show Nat.blt i 9 = true from h9)
      obtain ⟨b6, hb6⟩ : ∃ b, vl3 7 = .pointer (some ⟨b, 0, none⟩) := hF 7 (by kernel_rfl)
      replace h := oc_slT 9 (ops := _) [(18, .pointer (some ⟨b3, 0, none⟩)), (19, vs), (20, .pointer (some (elAddr vs (0 * 34)))), (21, .agg (eArr (fstE p))), (22, .pointer (some ⟨b3, 0, none⟩)), (23, vs), (24, (dropV vs 34 1)), (6, .pointer (some ⟨b6, 0, none⟩))] h hs9 hd9 hr ⟨(hv 0 18 rfl rfl).trans (hF 0 (by kernel_rfl)), (hv 1 19 rfl rfl).trans (hF 1 (by kernel_rfl)), (hv 2 20 rfl rfl).trans (hF 2 (by kernel_rfl)), (hv 3 21 rfl rfl).trans (hF 3 (by kernel_rfl)), (hv 4 22 rfl rfl).trans (hF 4 (by kernel_rfl)), (hv 5 23 rfl rfl).trans (hF 5 (by kernel_rfl)), (hv 6 24 rfl rfl).trans (hF 6 (by kernel_rfl)), (hv 7 6 rfl rfl).trans hb6, trivial⟩ (by kernel_rfl)
      replace s : St w [.blk (pbk (vl3 7)) (.cells (eArr (fstE p)) 53), .blk b3 (.cells (pkArr vs p.2.1 p.2.2) 25)] _ := s
      rw [hb6] at s
      replace s : St w [.blk b6 (.cells (eArr (fstE p)) 53), .blk b3 (.cells (pkArr vs p.2.1 p.2.2) 25)] _ := s
      refine s_pure h (ru_assign (h.ev rfl)) rfl ?_; intro f h
      refine s_nil ?_
      refine hK6 _ _ ?_
      refine c_seq fun K7 hK7 => ?_
      refine c_seq fun K8 hK8 => ?_
      refine c_region ?_
      refine s_pure h (ru_field fld53_0 (h.ev rfl)) rfl ?_; intro f h
      refine s_load_at1 (cell_of_has (Has.of_own s 0 rfl) 0 (eArr_kind _)) h one3 rfl rfl ?_; intro f h
      refine s_pure h (ru_eql (h.ev rfl) (h.ev rfl)) rfl ?_; intro f h
      refine s_nil ?_
      refine hK8 _ _ ?_
      refine c_cond h rfl (fun hc => ?_) (fun hc => ?_)
      · have k0 := hc
        refine c_seq fun K9 hK9 => ?_
        refine c_regT 0 12 [[], [0], [], [2], [], [4], [], [], [7], [2, 3, 4, 5, 6, 7, 8], [0, 1, 2, 3, 4, 5, 6, 7, 8, 9], [0, 1, 2, 3, 4, 5, 6, 7, 8, 9, 10], [0, 1, 2, 3, 4, 5, 6, 7, 8, 9, 10, 11], [0, 1, 2, 3, 4, 5, 6, 7, 8, 9, 10, 11, 12]] [[], [], [], [], [], [], [], [], [], [8], [], [], [], []] [fun _ => [], fun _ => [], fun _ => [], fun _ => [], fun _ => [], fun _ => [], fun _ => [], fun _ => [], fun v => [.sl (v 8) 53 34 [fstE p].length (eCells [fstE p])], fun v => [.sl (pkS (v 9)) 53 34 p.1.length (eCells p.1)], fun _ => [], fun v => [.sl (v 11) 72 73 1 (ouCells [(hostO p, pkS (v 9))])], fun _ => [], fun _ => []] [] [fun v => v 0 = .pointer (some ⟨b6, 33, none⟩), fun v => v 1 = .int .i64 (fstE p).2.2, fun v => v 2 = .pointer (some ⟨b3, 1, none⟩), fun v => v 3 = .int .i64 p.2.1, fun v => v 4 = .pointer (some ⟨b3, 2, none⟩), fun v => v 5 = .string p.2.2, fun v => v 6 = (dropV vs 34 1), fun v => v 7 = .agg (eArr (fstE p)), fun _ => True, fun v => v 9 = .agg (pkArr (pkS (v 9)) p.2.1 p.2.2), fun v => v 10 = .agg (otArr 1 (fstE p).2.2 (pkS (v 9)) p.2.1 p.2.2 zTg 0), fun _ => True, fun _ => True, fun _ => True] [.blk b6 (.cells (eArr (fstE p)) 53), .blk b3 (.cells (pkArr vs p.2.1 p.2.2) 25)] h s rfl (by kernel_rfl) (by kernel_rfl) (by kernel_rfl) (And.intro ?_ (And.intro ?_ (And.intro ?_ (And.intro ?_ (And.intro ?_ (And.intro ?_ (And.intro ?_ (And.intro ?_ (And.intro ?_ (And.intro ?_ (And.intro ?_ (And.intro ?_ (trivial))))))))))))) [0, 1, 2, 3, 4, 5, 6, 7, 9, 10, 11] (by kernel_rfl) ?_
        · intro f9 w2 vl5 E9 hs9 hd9 hl hF s
          have e6 : f9.tmps.getD 6 undef = _ := oc_old hl 6 (by kernel_rfl) (by kernel_rfl) (h.holds 6 _ rfl)
          have h := fin_slot [(6, _)] (hs9.trans h.size) (hd9.trans h.defers) (holds_lk ⟨e6, trivial⟩)
          replace s : St w (.blk b6 (.cells (eArr (fstE p)) 53) :: .blk b3 (.cells (pkArr vs p.2.1 p.2.2) 25) :: E9) _ := s
          refine s_pure h (ru_field fld53_2 (h.ev rfl)) rfl ?_; intro f h
          exact s_nil ⟨_, oc_out 28 rfl (h.holds 28 _ rfl), rfl, s⟩
        · intro f9 w2 vl5 E9 hs9 hd9 hl hF s
          have e28 : f9.tmps.getD 28 undef = .pointer (some ⟨b6, 33, none⟩) := (oc_get hl 28 0 (by kernel_rfl) (by kernel_rfl)).trans (hF 0 (by decide))
          have h := fin_slot [(28, .pointer (some ⟨b6, 33, none⟩))] (hs9.trans h.size) (hd9.trans h.defers) (holds_lk ⟨e28, trivial⟩)
          replace s : St w (.blk b6 (.cells (eArr (fstE p)) 53) :: .blk b3 (.cells (pkArr vs p.2.1 p.2.2) 25) :: E9) _ := s
          refine s_load_at1 (cell_of_has (Has.of_own s 0 rfl) 33 (eArr_host _)) h one3 rfl rfl ?_; intro f h
          exact s_nil ⟨_, oc_out 29 rfl (h.holds 29 _ rfl), rfl, s⟩
        · intro f9 w2 vl5 E9 hs9 hd9 hl hF s
          have e3 : f9.tmps.getD 3 undef = _ := oc_old hl 3 (by kernel_rfl) (by kernel_rfl) (h.holds 3 _ rfl)
          have h := fin_slot [(3, _)] (hs9.trans h.size) (hd9.trans h.defers) (holds_lk ⟨e3, trivial⟩)
          replace s : St w (.blk b6 (.cells (eArr (fstE p)) 53) :: .blk b3 (.cells (pkArr vs p.2.1 p.2.2) 25) :: E9) _ := s
          refine s_pure h (ru_field fld25_1 (h.ev rfl)) rfl ?_; intro f h
          exact s_nil ⟨_, oc_out 30 rfl (h.holds 30 _ rfl), rfl, s⟩
        · intro f9 w2 vl5 E9 hs9 hd9 hl hF s
          have e30 : f9.tmps.getD 30 undef = .pointer (some ⟨b3, 1, none⟩) := (oc_get hl 30 2 (by kernel_rfl) (by kernel_rfl)).trans (hF 2 (by decide))
          have h := fin_slot [(30, .pointer (some ⟨b3, 1, none⟩))] (hs9.trans h.size) (hd9.trans h.defers) (holds_lk ⟨e30, trivial⟩)
          replace s : St w (.blk b6 (.cells (eArr (fstE p)) 53) :: .blk b3 (.cells (pkArr vs p.2.1 p.2.2) 25) :: E9) _ := s
          refine s_load_at1 (V := .int .i64 p.2.1) (cell_of_has (Has.of_own s 1 rfl) 1 (pk_n _ _ _)) h one3 rfl rfl ?_; intro f h
          exact s_nil ⟨_, oc_out 31 rfl (h.holds 31 _ rfl), rfl, s⟩
        · intro f9 w2 vl5 E9 hs9 hd9 hl hF s
          have e3 : f9.tmps.getD 3 undef = _ := oc_old hl 3 (by kernel_rfl) (by kernel_rfl) (h.holds 3 _ rfl)
          have h := fin_slot [(3, _)] (hs9.trans h.size) (hd9.trans h.defers) (holds_lk ⟨e3, trivial⟩)
          replace s : St w (.blk b6 (.cells (eArr (fstE p)) 53) :: .blk b3 (.cells (pkArr vs p.2.1 p.2.2) 25) :: E9) _ := s
          refine s_pure h (ru_field fld25_2 (h.ev rfl)) rfl ?_; intro f h
          exact s_nil ⟨_, oc_out 32 rfl (h.holds 32 _ rfl), rfl, s⟩
        · intro f9 w2 vl5 E9 hs9 hd9 hl hF s
          have e32 : f9.tmps.getD 32 undef = .pointer (some ⟨b3, 2, none⟩) := (oc_get hl 32 4 (by kernel_rfl) (by kernel_rfl)).trans (hF 4 (by decide))
          have h := fin_slot [(32, .pointer (some ⟨b3, 2, none⟩))] (hs9.trans h.size) (hd9.trans h.defers) (holds_lk ⟨e32, trivial⟩)
          replace s : St w (.blk b6 (.cells (eArr (fstE p)) 53) :: .blk b3 (.cells (pkArr vs p.2.1 p.2.2) 25) :: E9) _ := s
          refine s_load_at1 (V := .string p.2.2) (cell_of_has (Has.of_own s 1 rfl) 2 (pk_d _ _ _)) h one9 rfl rfl ?_; intro f h
          exact s_nil ⟨_, oc_out 33 rfl (h.holds 33 _ rfl), rfl, s⟩
        · intro f9 w2 vl5 E9 hs9 hd9 hl hF s
          have e7 : f9.tmps.getD 7 undef = _ := oc_old hl 7 (by kernel_rfl) (by kernel_rfl) (h.holds 7 _ rfl)
          have h := fin_slot [(7, _)] (hs9.trans h.size) (hd9.trans h.defers) (holds_lk ⟨e7, trivial⟩)
          replace s : St w (.blk b6 (.cells (eArr (fstE p)) 53) :: .blk b3 (.cells (pkArr vs p.2.1 p.2.2) 25) :: E9) _ := s
          refine s_pure h (ru_move (h.ev rfl)) rfl ?_; intro f h
          exact s_nil ⟨_, oc_out 34 rfl (h.holds 34 _ rfl), rfl, s⟩
        · intro f9 w2 vl5 E9 hs9 hd9 hl hF s
          have e6 : f9.tmps.getD 6 undef = _ := oc_old hl 6 (by kernel_rfl) (by kernel_rfl) (h.holds 6 _ rfl)
          have h := fin_slot [(6, _)] (hs9.trans h.size) (hd9.trans h.defers) (holds_lk ⟨e6, trivial⟩)
          replace s : St w (.blk b6 (.cells (eArr (fstE p)) 53) :: .blk b3 (.cells (pkArr vs p.2.1 p.2.2) 25) :: E9) _ := s
          refine s_load_row 0 h s row53 rfl rfl (eArr_size _) rfl ?_; intro f h
          exact s_nil ⟨_, oc_out 35 rfl (h.holds 35 _ rfl), rfl, s⟩
        · intro f9 w2 vl5 E9 hs9 hd9 hl hF s
          have e35 : f9.tmps.getD 35 undef = .agg (eArr (fstE p)) := (oc_get hl 35 7 (by kernel_rfl) (by kernel_rfl)).trans (hF 7 (by decide))
          have h := fin_slot [(35, .agg (eArr (fstE p)))] (hs9.trans h.size) (hd9.trans h.defers) (holds_lk ⟨e35, trivial⟩)
          replace s : St w (.blk b6 (.cells (eArr (fstE p)) 53) :: .blk b3 (.cells (pkArr vs p.2.1 p.2.2) 25) :: E9) _ := s
          refine s_bslice (vs := [.agg (eArr (fstE p))]) [.tmp 35] h s Try.underlying23 elm53 rfl rfl (e_szE _) rfl rfl rfl ?_; intro f w1 v36 h s
          replace s := s.resl (m := [fstE p].length) (ys := eCells [fstE p]) 0 rfl rfl ((e_one _).trans (eCells_one _).symm)
          exact s_nil ⟨_, oc_out 36 rfl (h.holds 36 _ rfl), trivial, s⟩
        · intro f9 w2 vl5 E9 hs9 hd9 hl hF s
          have e31 : f9.tmps.getD 31 undef = .int .i64 p.2.1 := (oc_get hl 31 3 (by kernel_rfl) (by kernel_rfl)).trans (hF 3 (by decide))
          have e33 : f9.tmps.getD 33 undef = .string p.2.2 := (oc_get hl 33 5 (by kernel_rfl) (by kernel_rfl)).trans (hF 5 (by decide))
          have e34 : f9.tmps.getD 34 undef = (dropV vs 34 1) := (oc_get hl 34 6 (by kernel_rfl) (by kernel_rfl)).trans (hF 6 (by decide))
          have e36 : f9.tmps.getD 36 undef = (vl5 8) := oc_get hl 36 8 (by kernel_rfl) (by kernel_rfl)
          have h := fin_slot [(31, .int .i64 p.2.1), (33, .string p.2.2), (34, (dropV vs 34 1)), (36, (vl5 8))] (hs9.trans h.size) (hd9.trans h.defers) (holds_lk ⟨e31, e33, e34, e36, trivial⟩)
          replace s : St w (.sl (vl5 8) 53 34 [fstE p].length (eCells [fstE p]) :: .blk b6 (.cells (eArr (fstE p)) 53) :: .blk b3 (.cells (pkArr vs p.2.1 p.2.2) 25) :: E9) _ := s
          refine s_call h s fnc50 (ppacket_any (p.2.1) p.2.2 (p.1.drop 1) [fstE p] (dropV vs 34 1) (vl5 8) _ (hD.keep s.ext) (RdZ.of_own (s.getSl 0 rfl)) (all_drop hea 1) (all_one (hea9 _ (fst_mem h1))) (by rw [List.length_drop]; show 1 + _ ≤ 4; omega)) rfl rfl ?_; rintro f w1 v37 ⟨u9, hv9, hOw⟩ hE h sq
          rw [fst_drop h1] at hOw
          have h66 : u9 = (pkS v37) := by rw [hv9]; exact (pkS_of (RdZ.of_own hOw) _ _).symm
          subst h66
          replace s := s.sl_new hE hOw
          clear hOw
          exact s_nil ⟨_, oc_out 37 rfl (h.holds 37 _ rfl), hv9, (s.pick _ (List.Sublist.cons_cons _ (List.Sublist.cons _ (List.Sublist.cons_cons _ (List.Sublist.cons_cons _ (List.Sublist.refl _))))))⟩
        · intro f9 w2 vl5 E9 hs9 hd9 hl hF s
          have e29 : f9.tmps.getD 29 undef = .int .i64 (fstE p).2.2 := (oc_get hl 29 1 (by kernel_rfl) (by kernel_rfl)).trans (hF 1 (by decide))
          have e37 : f9.tmps.getD 37 undef = .agg (pkArr (pkS (vl5 9)) p.2.1 p.2.2) := (oc_get hl 37 9 (by kernel_rfl) (by kernel_rfl)).trans (hF 9 (by decide))
          have h := fin_slot [(29, .int .i64 (fstE p).2.2), (37, .agg (pkArr (pkS (vl5 9)) p.2.1 p.2.2))] (hs9.trans h.size) (hd9.trans h.defers) (holds_lk ⟨e29, e37, trivial⟩)
          replace s : St w (.blk b6 (.cells (eArr (fstE p)) 53) :: .blk b3 (.cells (pkArr vs p.2.1 p.2.2) 25) :: E9) _ := s
          refine s_pure h (ru_build_ot_host sttO rfl (h.ev rfl) (h.ev rfl)) rfl ?_; intro f h
          exact s_nil ⟨_, oc_out 38 rfl (h.holds 38 _ rfl), rfl, s⟩
        · intro f9 w2 vl5 E9 hs9 hd9 hl hF s
          have e38 : f9.tmps.getD 38 undef = .agg (otArr 1 (fstE p).2.2 (pkS (vl5 9)) p.2.1 p.2.2 zTg 0) := (oc_get hl 38 10 (by kernel_rfl) (by kernel_rfl)).trans (hF 10 (by decide))
          have h := fin_slot [(38, .agg (otArr 1 (fstE p).2.2 (pkS (vl5 9)) p.2.1 p.2.2 zTg 0))] (hs9.trans h.size) (hd9.trans h.defers) (holds_lk ⟨e38, trivial⟩)
          replace s : St w (.blk b6 (.cells (eArr (fstE p)) 53) :: .blk b3 (.cells (pkArr vs p.2.1 p.2.2) 25) :: E9) _ := s
          refine s_bslice (vs := [.agg (otArr 1 (fstE p).2.2 (pkS (vl5 9)) p.2.1 p.2.2 zTg 0)]) [.tmp 38] h s Try.underlying67 elm72 rfl rfl (ou_sz (hostO p, pkS (vl5 9))) rfl rfl rfl ?_; intro f w1 v39 h s
          replace s := s.resl (m := [(hostO p, pkS (vl5 9))].length) (ys := ouCells [(hostO p, pkS (vl5 9))]) 0 rfl rfl (by exact ou_put [] (hostO p, pkS (vl5 9)))
          exact s_nil ⟨_, oc_out 39 rfl (h.holds 39 _ rfl), trivial, s⟩
        intro f w1 vl5 hs9 hd9 hv hr hF s
        replace hv := fun i d h9 => hv i d (show Nat.blt i 12 = true from h9)
        replace h := oc_slT 12 (ops := _) [(28, .pointer (some ⟨b6, 33, none⟩)), (29, .int .i64 (fstE p).2.2), (30, .pointer (some ⟨b3, 1, none⟩)), (31, .int .i64 p.2.1), (32, .pointer (some ⟨b3, 2, none⟩)), (33, .string p.2.2), (34, (dropV vs 34 1)), (35, .agg (eArr (fstE p))), (36, (vl5 8)), (37, .agg (pkArr (pkS (vl5 9)) p.2.1 p.2.2)), (38, .agg (otArr 1 (fstE p).2.2 (pkS (vl5 9)) p.2.1 p.2.2 zTg 0)), (39, (vl5 11))] h hs9 hd9 hr ⟨(hv 0 28 rfl rfl).trans (hF 0 (by kernel_rfl)), (hv 1 29 rfl rfl).trans (hF 1 (by kernel_rfl)), (hv 2 30 rfl rfl).trans (hF 2 (by kernel_rfl)), (hv 3 31 rfl rfl).trans (hF 3 (by kernel_rfl)), (hv 4 32 rfl rfl).trans (hF 4 (by kernel_rfl)), (hv 5 33 rfl rfl).trans (hF 5 (by kernel_rfl)), (hv 6 34 rfl rfl).trans (hF 6 (by kernel_rfl)), (hv 7 35 rfl rfl).trans (hF 7 (by kernel_rfl)), hv 8 36 rfl rfl, (hv 9 37 rfl rfl).trans (hF 9 (by kernel_rfl)), (hv 10 38 rfl rfl).trans (hF 10 (by kernel_rfl)), hv 11 39 rfl rfl, trivial⟩ (by kernel_rfl)
        replace s : St w [.sl (pkS (vl5 9)) 53 34 p.1.length (eCells p.1), .sl (vl5 11) 72 73 1 (ouCells [(hostO p, pkS (vl5 9))]), .blk b6 (.cells (eArr (fstE p)) 53), .blk b3 (.cells (pkArr vs p.2.1 p.2.2) 25)] _ := s
        refine s_pure h (ru_assign (h.ev rfl)) rfl ?_; intro f h
        refine s_pure h (ru_assign (h.ev rfl)) rfl ?_; intro f h
        refine s_nil ?_
        refine hK9 _ _ ?_
        refine wpIn_ret ?_
        refine t_ret ?_
        exact e_tmps rfl h s rfl rfl (rwP_one (x := hostO p) e0 (l0.trans (step_host k0)) rfl (s.sel [1, 0] rfl (by decide)))
      · have k0 := hc
        refine wpIn_skip ?_
        refine hK7 _ _ ?_
        refine c_seq fun K10 hK10 => ?_
        refine c_seq fun K11 hK11 => ?_
        refine c_region ?_
        refine s_pure h (ru_field fld25_1 (h.ev rfl)) rfl ?_; intro f h
        refine s_load_at1 (V := .int .i64 p.2.1) (cell_of_has (Has.of_own s 1 rfl) 1 (pk_n _ _ _)) h one3 rfl rfl ?_; intro f h
        refine s_pure h (ru_eql (h.ev rfl) (h.ev rfl)) rfl ?_; intro f h
        refine s_nil ?_
        refine hK11 _ _ ?_
        refine c_cond h rfl (fun hc => ?_) (fun hc => ?_)
        · have k1 := hc
          refine c_seq fun K12 hK12 => ?_
          refine c_region ?_
          refine s_call h s fnc51 (pdead_any 9 _) rfl rfl ?_; intro f w1 v43 hOw hE h sq; replace s := s.sl_new hE hOw; clear hOw
          refine s_pure h (ru_assign (h.ev rfl)) rfl ?_; intro f h
          refine s_pure h (ru_assign (h.ev rfl)) rfl ?_; intro f h
          refine s_nil ?_
          refine hK12 _ _ ?_
          refine wpIn_ret ?_
          refine t_ret ?_
          exact e_tmps rfl h s rfl rfl (rwP_dead e0 (l0.trans (step_hops k0 k1)) (s.sel [0] rfl (by decide)))
        · have k1 := hc
          refine wpIn_skip ?_
          refine hK10 _ _ ?_
          refine c_seq fun K13 hK13 => ?_
          refine c_seq fun K14 hK14 => ?_
          refine c_region ?_
          refine s_pure h (ru_move (h.ev rfl)) rfl ?_; intro f h
          refine s_pure h (ru_field fld53_1 (h.ev rfl)) rfl ?_; intro f h
          refine s_load_at (Has.subL (Has.of_own s 0 rfl) 1 32 (D := idArr (_)) (eArr_id _)) h row42 rfl (by first | exact idArr_size _ | exact bytesF_size _ _) rfl ?_; intro f h
          refine s_call h s fnc18 (tmatch_any t vh (fstE p).2.1 _ (hR.keep s.ext) (by omega)) rfl rfl ?_; rintro f w1 v48 ⟨vm, kvm, rfl, hG⟩ hE h sq; replace s := s.add hG; clear hG
          obtain ⟨m1, m2⟩ := tm_y t0 (fstE p).2.1
          rw [m2] at s
          have hMl := mtf_le t (fstE p).2.1
          refine s_pure h (ru_move (h.ev rfl)) rfl ?_; intro f h
          refine s_pure h (ru_extract (h.ev rfl) rfl) rfl ?_; intro f h
          refine s_pure h (ru_extract (h.ev rfl) rfl) rfl ?_; intro f h
          refine s_pure h (ru_assign (h.ev rfl)) rfl ?_; intro f h
          refine s_pure h (ru_assign (h.ev rfl)) rfl ?_; intro f h
          refine s_nil ?_
          refine hK14 _ _ ?_
          refine c_seq fun K15 hK15 => ?_
          refine c_region ?_
          refine s_pure h (ru_move (h.ev rfl)) rfl ?_; intro f h
          refine s_pure h (ru_eql (h.ev rfl) (h.ev rfl)) rfl ?_; intro f h
          refine s_nil ?_
          refine hK15 _ _ ?_
          refine c_cond h rfl (fun hc => ?_) (fun hc => ?_)
          · have z0 := mtE_yes t0 (of_decide_eq_true hc)
            refine c_seq fun K16 hK16 => ?_
            refine c_region ?_
            refine s_pure h (ru_move (h.ev rfl)) rfl ?_; intro f h
            refine s_load_row 2 h s row25 rfl rfl (pkArr_size _ _ _) rfl ?_; intro f h
            refine s_call h s fnc52 (pbyeach_any (mtF t (fstE p).2.1) vm p vs _ ((s.getG 0 rfl) (hR.keep s.ext)) (by omega) (hP.keep s.ext) hpl hea h1 h41 hh (mtf_tgt t0)) rfl rfl ?_; rintro f w1 v55 ⟨K, ke, hK, hG⟩ hE h sq; replace s := s.add hG; clear hG
            refine s_pure h (ru_assign (h.ev rfl)) rfl ?_; intro f h
            refine s_pure h (ru_assign (h.ev rfl)) rfl ?_; intro f h
            refine s_nil ?_
            refine hK16 _ _ ?_
            refine wpIn_ret ?_
            refine t_ret ?_
            exact e_tmps rfl h s rfl rfl (rwP_own e0 (hK.trans (l0.trans (step_map k0 k1 z0)).symm) (s.sel [0, 1] rfl (by decide)))
          · have z0 := mtE_not t0 (of_decide_eq_false hc)
            refine wpIn_skip ?_
            refine hK13 _ _ ?_
            refine c_seq fun K17 hK17 => ?_
            refine c_seq fun K18 hK18 => ?_
            refine c_region ?_
            refine s_pure h (ru_move (h.ev rfl)) rfl ?_; intro f h
            refine s_pure h (ru_lenZ (hD.keep s.ext) Try.underlying23 (h.ev rfl)) rfl ?_; intro f h
            refine s_pure h (ru_val (.bool (decide (¬ 1 < p.1.length))) (ru_eql (h.ev rfl) (h.ev rfl)) (congrArg Value.bool (decide_eq_decide.2 (by rw [List.length_drop]; omega)))) rfl ?_; intro f h
            refine s_nil ?_
            refine hK18 _ _ ?_
            refine c_cond h rfl (fun hc => ?_) (fun hc => ?_)
            · have k2 : decide (1 < p.1.length) = false := decide_eq_false (of_decide_eq_true hc)
              refine c_seq fun K19 hK19 => ?_
              refine c_region ?_
              refine s_call h s fnc51 (pdead_any 6 _) rfl rfl ?_; intro f w1 v59 hOw hE h sq; replace s := s.sl_new hE hOw; clear hOw
              refine s_pure h (ru_assign (h.ev rfl)) rfl ?_; intro f h
              refine s_pure h (ru_assign (h.ev rfl)) rfl ?_; intro f h
              refine s_nil ?_
              refine hK19 _ _ ?_
              refine wpIn_ret ?_
              refine t_ret ?_
              exact e_tmps rfl h s rfl rfl (rwP_dead e0 (l0.trans (step_none k0 k1 z0 k2)) (s.sel [0] rfl (by decide)))
            · have k2 : decide (1 < p.1.length) = true := decide_eq_true (Decidable.of_not_not (of_decide_eq_false hc))
              refine wpIn_skip ?_
              refine hK17 _ _ ?_
              refine c_seq fun K20 hK20 => ?_
              refine c_region ?_
              refine s_load_row 2 h s row25 rfl rfl (pkArr_size _ _ _) rfl ?_; intro f h
              refine s_pure h (ru_build_tg0 sttG) rfl ?_; intro f h
              refine s_call h s fnc53 (ponward_any p vs zTg [] nilV _ (hP.keep s.ext) hpl hea h1 h41 hh (re_nil _) rfl (Nat.zero_le _)) rfl rfl ?_; rintro f w1 v62 ⟨vn, rfl, hOw⟩ hE h sq; have hu1 := rd_one (RdZ.of_own hOw); replace s := s.sl_new hE hOw; clear hOw
              refine s_bslice (vs := [.agg (otArr 2 0 vn (p.2.1 - 1) p.2.2 zTg 0)]) [.tmp 62] h s Try.underlying67 elm72 rfl rfl (ou_sz (onO p zTg [], vn)) rfl rfl rfl ?_; intro f w1 v63 h s
              replace s := s.resl (m := [(onO p zTg [], vn)].length) (ys := ouCells [(onO p zTg [], vn)]) 0 rfl rfl (by exact ou_put [] (onO p zTg [], vn))
              refine s_pure h (ru_assign (h.ev rfl)) rfl ?_; intro f h
              refine s_pure h (ru_assign (h.ev rfl)) rfl ?_; intro f h
              refine s_nil ?_
              refine hK20 _ _ ?_
              refine wpIn_ret ?_
              exact e_tmps rfl h s rfl rfl (rwP_one (x := onO p zTg []) e0 (l0.trans (stepO_next k0 k1 z0 k2)) rfl (s.sel [0, 1] rfl (by decide)))
end Go.Proofs.Ytdehanjhphfanaa
