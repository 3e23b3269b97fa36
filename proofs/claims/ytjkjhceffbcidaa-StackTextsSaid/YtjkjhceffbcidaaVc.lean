/- What is pushed ahead of a stack (package stack); the known stack of the laws. -/
import Derived.Test.YtjkjhceffbcidaaVb
set_option linter.unusedVariables false
set_option linter.unusedSimpArgs false
set_option linter.unusedSectionVars false
namespace Go.Proofs.Ytjkjhceffbcidaa
open Go.RowKit
theorem grow_any (n : Nat) (hn : n ≤ 1000) (w : World) : Calls Try.prog 29 [.slice none 0 0, .int .i64 (n : Int)].toArray w (Ret w (fun v w' => Owns w' w.heap.size 26 34 v 0 [])) := by
  refine c_enter Try.func29 rfl Try.ntmps29 rfl [(0, .slice none 0 0), (1, .int .i64 (n : Int))] (by simp) fun f h => ?_
  have s := St.start w
  refine c_seq fun K1 hK1 => ?_
  refine c_region ?_
  refine s_pure h (ru_assign (h.ev rfl)) rfl ?_; intro f h
  refine s_nil ?_
  refine hK1 _ _ ?_
  refine c_seq fun K2 hK2 => ?_
  refine c_seq fun K3 hK3 => ?_
  refine c_region ?_
  refine s_pure h (ru_move (h.ev rfl)) rfl ?_; intro f h
  refine s_pure h (ru_val (.bool false) (ru_lss (h.ev rfl) (h.ev rfl)) (congrArg Value.bool (decide_eq_false (by omega)))) rfl ?_; intro f h
  refine s_nil ?_
  refine hK3 _ _ ?_
  refine wpIn_cond_false (h.ev rfl) ?_
  refine wpIn_skip ?_
  refine hK2 _ _ ?_
  refine c_seq fun K4 hK4 => ?_
  refine c_seq fun K5 hK5 => ?_
  refine c_region ?_
  refine s_pure h (ru_move (h.ev rfl)) rfl ?_; intro f h
  refine s_pure h (ru_move (h.ev rfl)) rfl ?_; intro f h
  refine s_pure h (ru_cap_nil Try.underlying22 (h.ev rfl)) rfl ?_; intro f h
  refine s_pure h (ru_move (h.ev rfl)) rfl ?_; intro f h
  refine s_pure h (ru_len_lit Try.underlying22 (h.ev rfl)) rfl ?_; intro f h
  refine s_pure h (ru_val (.int .i64 0) (ru_sub (h.ev rfl) (h.ev rfl) (by omega)) (rfl)) rfl ?_; intro f h
  refine s_pure h (ru_val (.int .i64 (n : Int)) (ru_sub (h.ev rfl) (h.ev rfl) (by omega)) (congrArg (Value.int .i64) (by omega))) rfl ?_; intro f h
  refine s_pure h (ru_assign (h.ev rfl)) rfl ?_; intro f h
  refine s_nil ?_
  refine hK5 _ _ ?_
  refine c_seq fun K6 hK6 => ?_
  refine c_region ?_
  refine s_pure h (ru_move (h.ev rfl)) rfl ?_; intro f h
  refine s_pure h (ru_gtr (h.ev rfl) (h.ev rfl)) rfl ?_; intro f h
  refine s_nil ?_
  refine hK6 _ _ ?_
  refine c_cond h rfl (fun hc => ?_) (fun hc => ?_)
  · replace hc := of_decide_eq_true hc
    refine c_region ?_
    refine s_pure h (ru_move (h.ev rfl)) rfl ?_; intro f h
    refine s_pure h (ru_move (h.ev rfl)) rfl ?_; intro f h
    refine s_pure h (ru_cap_nil Try.underlying22 (h.ev rfl)) rfl ?_; intro f h
    refine s_pure h (ru_slice_nil Try.underlying22 szo26 (h.ev rfl) (h.ev rfl)) rfl ?_; intro f h
    refine s_pure h (ru_move (h.ev rfl)) rfl ?_; intro f h
    refine s_append_zeros (n := n) (base := w.heap.size) h Try.underlying22 Try.underlying3 elm26 rfl rfl (by omega) (by omega) (by omega) (Nat.le_refl _) rfl ?_; intro f w1 v22 xs9 h hE9 hO9
    replace s := s.sl_new hE9 hO9
    refine s_pure h (ru_move (h.ev rfl)) rfl ?_; intro f h
    refine s_pure h (ru_len_lit Try.underlying22 (h.ev rfl)) rfl ?_; intro f h
    refine s_pure h (ru_slice_own0 hO9 Try.underlying22 szo26 (h.ev rfl) (h.ev rfl)) rfl ?_; intro f h
    refine s_pure h (ru_assign (h.ev rfl)) rfl ?_; intro f h
    refine s_nil ?_
    refine hK4 _ _ ?_
    refine c_seq fun K7 hK7 => ?_
    refine c_region ?_
    refine s_pure h (ru_move (h.ev rfl)) rfl ?_; intro f h
    refine s_pure h (ru_assign (h.ev rfl)) rfl ?_; intro f h
    refine s_nil ?_
    refine hK7 _ _ ?_
    refine wpIn_ret ?_
    exact e_tmp rfl h s rfl (hO9.cut0)
  · replace hc := of_decide_eq_false hc
    refine wpIn_skip ?_
    refine hK4 _ _ ?_
    refine c_seq fun K8 hK8 => ?_
    refine c_region ?_
    refine s_pure h (ru_move (h.ev rfl)) rfl ?_; intro f h
    refine s_pure h (ru_assign (h.ev rfl)) rfl ?_; intro f h
    refine s_nil ?_
    refine hK8 _ _ ?_
    refine wpIn_ret ?_
    exact e_tmp rfl h s rfl (owns_nil _ _ _ _)

theorem concat_any (vh : Value) (vs : List Value) (ls : List (List Ent)) (hls : vs.length = ls.length) (htot : ls.flatten.length ≤ 1000) (hvn : vs.length ≤ 1000) (w : World) (hv : RdZ w vh 1 vs.length vs) (hr : ∀ k, k < vs.length → RdZ w (vs.getD k undef) 34 (ls.getD k []).length (eCells (ls.getD k []))) : Calls Try.prog 26 [vh].toArray w (Ret w (fun v w' => Owns w' w.heap.size 26 34 v ls.flatten.length (eCells ls.flatten))) := by
  refine c_enter Try.func26 rfl Try.ntmps26 rfl [(0, vh)] (by simp) fun f h => ?_
  have s := St.start w
  refine c_seq fun K1 hK1 => ?_
  refine c_region ?_
  refine s_pure h (ru_assign (h.ev rfl)) rfl ?_; intro f h
  refine s_nil ?_
  refine hK1 _ _ ?_
  refine c_seq fun K2 hK2 => ?_
  refine c_region ?_
  refine s_pure h (ru_assign (h.ev rfl)) rfl ?_; intro f h
  refine s_nil ?_
  refine hK2 _ _ ?_
  refine c_seq fun K3 hK3 => ?_
  refine c_seq fun K4 hK4 => ?_
  refine c_region ?_
  refine s_pure h (ru_move (h.ev rfl)) rfl ?_; intro f h
  refine s_pure h (ru_lenZ (hv.keep s.ext) Try.underlying54 (h.ev rfl)) rfl ?_; intro f h
  refine s_pure h (ru_move (h.ev rfl)) rfl ?_; intro f h
  refine s_nil ?_
  refine hK4 _ _ ?_
  refine wpIn_block ?_
  refine wpIn_loop_ghost (fun nn aa ww => ∃ k : Nat, Sl 36 aa [(0, vh), (3, .int .i64 (((ls.take k).flatten.length : Nat) : Int)), (9, vh), (10, .int .i64 (vs.length : Int)), (11, .int .i64 (k : Int))] ∧ St w [] ww ∧ nn = vs.length - k ∧ k ≤ vs.length) (vs.length - (0)) ⟨0, h.only ⟨rfl, slot_int rfl rfl, rfl, rfl, slot_int rfl (by omega), trivial⟩, s.as trivial, rfl, Nat.zero_le _⟩ ?_
  rintro _ f w1 ⟨k, h, s, hnn, hp0⟩
  refine c_seq fun K5 hK5 => ?_
  refine c_region ?_
  refine s_pure h (ru_lss (h.ev rfl) (h.ev rfl)) rfl ?_; intro f h
  refine s_nil ?_
  refine hK5 _ _ ?_
  refine c_seq fun K6 hK6 => ?_
  refine c_cond h rfl (fun hc => ?_) (fun hc => ?_)
  · replace hc := of_decide_eq_true hc
    refine wpIn_skip ?_
    refine hK6 _ _ ?_
    refine c_seq fun K7 hK7 => ?_
    refine wpIn_block ?_
    refine c_seq fun K8 hK8 => ?_
    refine c_region ?_
    have hkl : k < vs.length := by omega
    refine s_pure h (ru_ixz (hv.keep s.ext) (k) Try.underlying54 szo22 (h.ev rfl) (h.ev rfl) (by omega) (by omega)) rfl ?_; intro f h
    refine s_load_at1 ((hv.keep s.ext).el1 (k) (V := vs.getD k undef) (getD_el hkl)) h one22 rfl rfl ?_; intro f h
    refine s_pure h (ru_assign (h.ev rfl)) rfl ?_; intro f h
    refine s_nil ?_
    refine hK8 _ _ ?_
    refine c_seq fun K9 hK9 => ?_
    refine c_region ?_
    refine s_pure h (ru_move (h.ev rfl)) rfl ?_; intro f h
    refine s_pure h (ru_move (h.ev rfl)) rfl ?_; intro f h
    refine s_pure h (ru_lenZ ((hr k hkl).keep s.ext) Try.underlying22 (h.ev rfl)) rfl ?_; intro f h
    have hk1 := catE_len ls k (by omega)
    have hk2 := catE_le ls (k + 1)
    refine s_pure h (ru_add (h.ev rfl) (h.ev rfl) (by omega)) rfl ?_; intro f h
    refine s_pure h (ru_assign (h.ev rfl)) rfl ?_; intro f h
    refine s_nil ?_
    refine hK9 _ _ ?_
    refine c_seq fun K10 hK10 => ?_
    refine c_region ?_
    refine s_pure h (ru_move (h.ev rfl)) rfl ?_; intro f h
    refine s_pure h (ru_val (.bool false) (ru_lss (h.ev rfl) (h.ev rfl)) (congrArg Value.bool (decide_eq_false (by omega)))) rfl ?_; intro f h
    refine s_nil ?_
    refine hK10 _ _ ?_
    refine wpIn_cond_false (h.ev rfl) ?_
    refine wpIn_skip ?_
    refine b_norm ?_
    refine hK7 _ _ ?_
    refine c_region ?_
    refine s_pure h (ru_add (h.ev rfl) (h.ev rfl) (by omega)) rfl ?_; intro f h
    refine s_pure h (ru_move (h.ev rfl)) rfl ?_; intro f h
    refine s_nil ?_
    refine t_norm ?_
    exact ⟨_, by omega, ⟨k + 1, h.only ⟨rfl, slot_int rfl (by omega), rfl, rfl, slot_int rfl (by omega), trivial⟩, St.as s trivial, rfl, by omega⟩⟩
  · replace hc := of_decide_eq_false hc
    refine wpIn_exit ?_
    refine t_exit ?_
    refine t_exit ?_
    refine b_exit ?_
    refine hK3 _ _ ?_
    refine c_seq fun K11 hK11 => ?_
    refine c_region ?_
    obtain rfl : k = vs.length := by omega
    refine s_pure h (ru_val (.int .i64 ((ls.flatten.length : Nat) : Int)) (ru_move (h.ev rfl)) (by rw [hls, List.take_length])) rfl ?_; intro f h
    refine s_call h s fnc29 (grow_any ls.flatten.length (by omega) _) rfl rfl ?_; intro f w1 v24 hT hE h sq; replace s := s.sl_new hE hT
    refine s_pure h (ru_assign (h.ev rfl)) rfl ?_; intro f h
    refine s_nil ?_
    refine hK11 _ _ ?_
    refine c_seq fun K12 hK12 => ?_
    refine c_seq fun K13 hK13 => ?_
    refine c_region ?_
    refine s_pure h (ru_move (h.ev rfl)) rfl ?_; intro f h
    refine s_pure h (ru_lenZ (hv.keep s.ext) Try.underlying54 (h.ev rfl)) rfl ?_; intro f h
    refine s_pure h (ru_move (h.ev rfl)) rfl ?_; intro f h
    refine s_nil ?_
    refine hK13 _ _ ?_
    refine wpIn_block ?_
    refine wpIn_loop_ghost (fun nn aa ww => ∃ i : Nat, ∃ vb : Value, Sl 36 aa [(0, vh), (6, vb), (25, vh), (26, .int .i64 (vs.length : Int)), (27, .int .i64 (i : Int))] ∧ St w [.sl vb 26 34 (ls.take i).flatten.length (eCells (ls.take i).flatten)] ww ∧ nn = vs.length - i ∧ i ≤ vs.length) (vs.length - (0)) ⟨0, v24, h.only ⟨rfl, rfl, rfl, rfl, slot_int rfl (by omega), trivial⟩, s.as ⟨sl_eq rfl rfl, trivial⟩, rfl, Nat.zero_le _⟩ ?_
    rintro _ f w1 ⟨i, vb, h, s, hnn, hp0⟩
    refine c_seq fun K14 hK14 => ?_
    refine c_region ?_
    refine s_pure h (ru_lss (h.ev rfl) (h.ev rfl)) rfl ?_; intro f h
    refine s_nil ?_
    refine hK14 _ _ ?_
    refine c_seq fun K15 hK15 => ?_
    refine c_cond h rfl (fun hc => ?_) (fun hc => ?_)
    · replace hc := of_decide_eq_true hc
      refine wpIn_skip ?_
      refine hK15 _ _ ?_
      refine c_seq fun K16 hK16 => ?_
      refine wpIn_block ?_
      refine c_seq fun K17 hK17 => ?_
      refine c_region ?_
      have hkl : i < vs.length := by omega
      have hk1 := catE_len ls i (by omega)
      have hk2 := catE_le ls (i + 1)
      refine s_pure h (ru_ixz (hv.keep s.ext) (i) Try.underlying54 szo22 (h.ev rfl) (h.ev rfl) (by omega) (by omega)) rfl ?_; intro f h
      refine s_load_at1 ((hv.keep s.ext).el1 (i) (V := vs.getD i undef) (getD_el hkl)) h one22 rfl rfl ?_; intro f h
      refine s_pure h (ru_assign (h.ev rfl)) rfl ?_; intro f h
      refine s_nil ?_
      refine hK17 _ _ ?_
      refine c_region ?_
      refine s_pure h (ru_move (h.ev rfl)) rfl ?_; intro f h
      refine s_pure h (ru_move (h.ev rfl)) rfl ?_; intro f h
      refine s_append_rd 0 ((hr i hkl).keep s.ext) h s Try.underlying22 elm26 rfl rfl rfl (eCells_ones _) (by unfold maxLen; omega) (by omega) rfl ?_; intro f w1 v33 h s
      refine s_pure h (ru_assign (h.ev rfl)) rfl ?_; intro f h
      refine s_nil ?_
      refine b_norm ?_
      refine hK16 _ _ ?_
      refine c_region ?_
      refine s_pure h (ru_add (h.ev rfl) (h.ev rfl) (by omega)) rfl ?_; intro f h
      refine s_pure h (ru_move (h.ev rfl)) rfl ?_; intro f h
      refine s_nil ?_
      refine t_norm ?_
      exact ⟨_, by omega, ⟨i + 1, v33, h.only ⟨rfl, rfl, rfl, rfl, slot_int rfl (by omega), trivial⟩, St.as s ⟨sl_eq (catE_len ls i (by omega)) (catE_cells ls i (by omega)), trivial⟩, rfl, by omega⟩⟩
    · replace hc := of_decide_eq_false hc
      refine wpIn_exit ?_
      refine t_exit ?_
      refine t_exit ?_
      refine b_exit ?_
      refine hK12 _ _ ?_
      refine c_seq fun K18 hK18 => ?_
      refine c_region ?_
      refine s_pure h (ru_move (h.ev rfl)) rfl ?_; intro f h
      refine s_pure h (ru_assign (h.ev rfl)) rfl ?_; intro f h
      refine s_nil ?_
      refine hK18 _ _ ?_
      refine wpIn_ret ?_
      exact e_tmp rfl h s rfl (concat_fin (by omega) (s.getSl 0 rfl))

theorem push_any (l m : List Ent) (vh vu : Value) (w : World) (hv : RdZ w vh 34 l.length (eCells l)) (hu : RdZ w vu 34 m.length (eCells m)) (hln : l.length ≤ 1000000) (hmn : m.length ≤ 1000000) : Calls Try.prog 20 [vh, vu].toArray w (Ret w (fun v w' => ∃ vs, v = .tuple #[vs, .int .i64 (pushE l m)] ∧ Owns w' w.heap.size 26 34 vs (pushM l m).length (eCells (pushM l m)))) := by
  refine c_enter Try.func20 rfl Try.ntmps20 rfl [(0, vh), (1, vu)] (by simp) fun f h => ?_
  have s := St.start w
  refine c_seq fun K1 hK1 => ?_
  refine c_region ?_
  refine s_pure h (ru_assign (h.ev rfl)) rfl ?_; intro f h
  refine s_pure h (ru_assign (h.ev rfl)) rfl ?_; intro f h
  refine s_nil ?_
  refine hK1 _ _ ?_
  refine c_seq fun K2 hK2 => ?_
  refine c_seq fun K3 hK3 => ?_
  cases hf : (m.all isE : Bool)
  · skip
    refine c_region ?_
    refine s_pure h (ru_move (h.ev rfl)) rfl ?_; intro f h
    refine s_call h s fnc22 (ret_val (.bool false) (all_any m vu _ (hu.keep s.ext) hmn) (congrArg Value.bool hf)) rfl rfl ?_; intro f w1 v9 hT hE h s; obtain rfl := hT
    refine s_pure h (ru_val (.bool true) (ru_not (h.ev rfl)) rfl) rfl ?_; intro f h
    refine s_pure h (ru_move (h.ev rfl)) rfl ?_; intro f h
    refine s_off (b := false) h rfl rfl rfl rfl ?_; intro f h
    refine s_off (b := false) h rfl rfl rfl rfl ?_; intro f h
    refine s_off (b := false) h rfl rfl rfl rfl ?_; intro f h
    refine s_pure h (ru_pick_t (h.ev rfl) (h.ev rfl)) rfl ?_; intro f h
    refine s_nil ?_
    refine hK3 _ _ ?_
    refine wpIn_cond_true (h.ev rfl) ?_
    refine c_seq fun K4 hK4 => ?_
    refine c_region ?_
    refine s_pure h (ru_assign (h.ev rfl)) rfl ?_; intro f h
    refine s_pure h (ru_assign (h.ev rfl)) rfl ?_; intro f h
    refine s_nil ?_
    refine hK4 _ _ ?_
    refine wpIn_ret ?_
    refine t_ret ?_
    exact e_tmps rfl h s rfl rfl (push_nil (pushE_f hf) (by decide))
  · skip
    cases hl : (l.all isE : Bool)
    · skip
      refine c_region ?_
      refine s_pure h (ru_move (h.ev rfl)) rfl ?_; intro f h
      refine s_call h s fnc22 (ret_val (.bool true) (all_any m vu _ (hu.keep s.ext) hmn) (congrArg Value.bool hf)) rfl rfl ?_; intro f w1 v9 hT hE h s; obtain rfl := hT
      refine s_pure h (ru_val (.bool false) (ru_not (h.ev rfl)) rfl) rfl ?_; intro f h
      refine s_pure h (ru_move (h.ev rfl)) rfl ?_; intro f h
      refine s_on h rfl rfl rfl ?_
      refine s_pure h (ru_move (h.ev rfl)) rfl ?_; intro f h
      refine s_on h rfl rfl rfl ?_
      refine s_call h s fnc22 (ret_val (.bool false) (all_any l vh _ (hv.keep s.ext) hln) (congrArg Value.bool hl)) rfl rfl ?_; intro f w1 v9 hT hE h s; obtain rfl := hT
      refine s_on h rfl rfl rfl ?_
      refine s_pure h (ru_val (.bool true) (ru_not (h.ev rfl)) rfl) rfl ?_; intro f h
      refine s_pure h (ru_pick_f (h.ev rfl) (h.ev rfl)) rfl ?_; intro f h
      refine s_nil ?_
      refine hK3 _ _ ?_
      refine wpIn_cond_true (h.ev rfl) ?_
      refine c_seq fun K5 hK5 => ?_
      refine c_region ?_
      refine s_pure h (ru_assign (h.ev rfl)) rfl ?_; intro f h
      refine s_pure h (ru_assign (h.ev rfl)) rfl ?_; intro f h
      refine s_nil ?_
      refine hK5 _ _ ?_
      refine wpIn_ret ?_
      refine t_ret ?_
      exact e_tmps rfl h s rfl rfl (push_nil (pushE_l hl) (by decide))
    · skip
      refine c_region ?_
      refine s_pure h (ru_move (h.ev rfl)) rfl ?_; intro f h
      refine s_call h s fnc22 (ret_val (.bool true) (all_any m vu _ (hu.keep s.ext) hmn) (congrArg Value.bool hf)) rfl rfl ?_; intro f w1 v9 hT hE h s; obtain rfl := hT
      refine s_pure h (ru_val (.bool false) (ru_not (h.ev rfl)) rfl) rfl ?_; intro f h
      refine s_pure h (ru_move (h.ev rfl)) rfl ?_; intro f h
      refine s_on h rfl rfl rfl ?_
      refine s_pure h (ru_move (h.ev rfl)) rfl ?_; intro f h
      refine s_on h rfl rfl rfl ?_
      refine s_call h s fnc22 (ret_val (.bool true) (all_any l vh _ (hv.keep s.ext) hln) (congrArg Value.bool hl)) rfl rfl ?_; intro f w1 v9 hT hE h s; obtain rfl := hT
      refine s_on h rfl rfl rfl ?_
      refine s_pure h (ru_val (.bool false) (ru_not (h.ev rfl)) rfl) rfl ?_; intro f h
      refine s_pure h (ru_pick_f (h.ev rfl) (h.ev rfl)) rfl ?_; intro f h
      refine s_nil ?_
      refine hK3 _ _ ?_
      refine wpIn_cond_false (h.ev rfl) ?_
      refine wpIn_skip ?_
      refine hK2 _ _ ?_
      refine c_seq fun K6 hK6 => ?_
      refine c_seq fun K7 hK7 => ?_
      refine c_region ?_
      refine s_pure h (ru_move (h.ev rfl)) rfl ?_; intro f h
      refine s_pure h (ru_lenZ (hu.keep s.ext) Try.underlying22 (h.ev rfl)) rfl ?_; intro f h
      refine s_pure h (ru_move (h.ev rfl)) rfl ?_; intro f h
      refine s_pure h (ru_lenZ (hv.keep s.ext) Try.underlying22 (h.ev rfl)) rfl ?_; intro f h
      refine s_pure h (ru_add (h.ev rfl) (h.ev rfl) (by omega)) rfl ?_; intro f h
      refine s_pure h (ru_gtr (h.ev rfl) (h.ev rfl)) rfl ?_; intro f h
      refine s_nil ?_
      refine hK7 _ _ ?_
      refine c_cond h rfl (fun hc => ?_) (fun hc => ?_)
      · replace hc := of_decide_eq_true hc
        have h4 := hc
        refine c_seq fun K8 hK8 => ?_
        refine c_region ?_
        refine s_pure h (ru_assign (h.ev rfl)) rfl ?_; intro f h
        refine s_pure h (ru_assign (h.ev rfl)) rfl ?_; intro f h
        refine s_nil ?_
        refine hK8 _ _ ?_
        refine wpIn_ret ?_
        refine t_ret ?_
        exact e_tmps rfl h s rfl rfl (push_nil (pushE_12 hf hl h4) (by decide))
      · replace hc := of_decide_eq_false hc
        have h4 := hc
        refine wpIn_skip ?_
        refine hK6 _ _ ?_
        refine c_seq fun K9 hK9 => ?_
        refine c_region ?_
        refine s_pure h (ru_move (h.ev rfl)) rfl ?_; intro f h
        refine s_pure h (ru_move (h.ev rfl)) rfl ?_; intro f h
        refine s_bslice (vs := [vu, vh]) [.tmp 20, .tmp 21] h s Try.underlying54 elm22 rfl rfl (by intro v hv9; simp only [List.mem_cons, List.not_mem_nil, or_false] at hv9; rcases hv9 with rfl | rfl; exact congrArg Array.size (rz_cells hu); exact congrArg Array.size (rz_cells hv)) rfl rfl rfl ?_; intro f w1 v22 h s
        have s := s.as (B' := [.sl v22 22 1 2 [vu, vh]]) ⟨sl_eq rfl (flat_two (rz_cells hu) (rz_cells hv)), trivial⟩
        refine s_call h s fnc26 (concat_any v22 [vu, vh] [m, l] rfl (by simp; omega) (by simp) _ (RdZ.of_own (s.getSl 0 rfl)) (two_rd (hu.keep s.ext) (hv.keep s.ext))) rfl rfl ?_; intro f w1 v23 hT hE h sq; replace s := s.sl_new hE hT
        refine s_pure h (ru_assign (h.ev rfl)) rfl ?_; intro f h
        refine s_pure h (ru_assign (h.ev rfl)) rfl ?_; intro f h
        refine s_nil ?_
        refine hK9 _ _ ?_
        refine wpIn_ret ?_
        exact e_tmps rfl h s rfl rfl (push_out (pushE_0 hf hl h4) (by rw [pushM_0 (pushE_0 hf hl h4)]; have h9 := s.getSl 0 rfl; rw [show [m, l].flatten = m ++ l from by simp] at h9; exact h9))

theorem alive_any  (w : World) : Calls Try.prog 16 [].toArray w (Ret w (is (.bool true))) := by
  refine c_enter Try.func16 rfl Try.ntmps16 rfl [] (by simp) fun f h => ?_
  have s := St.start w
  refine c_seq fun K1 hK1 => ?_
  refine c_region ?_
  refine s_pure h (ru_assign (h.ev rfl)) rfl ?_; intro f h
  refine s_nil ?_
  refine hK1 _ _ ?_
  refine c_seq fun K2 hK2 => ?_
  refine c_region ?_
  refine s_pure h (ru_build_eh sttE (h.ev rfl) (h.ev rfl)) rfl ?_; intro f h
  refine s_bslice (vs := [.agg (eArr (2, 0#256, 3))]) [.tmp 4] h s Try.underlying22 elm26 rfl rfl (by intro v hv; rw [List.mem_singleton] at hv; subst hv; exact eArr_size _) rfl rfl rfl ?_; intro f w1 v5 h s
  have s := s.as (B' := [.sl v5 26 34 1 (eCells [(2, 0#256, 3)])]) ⟨sl_eq rfl (by rw [eCells_one]; simp [Value.cells]), trivial⟩
  refine s_call h s fnc9 (text_any [(2, 0#256, 3)] (by decide) _ _ (RdZ.of_own (s.getSl 0 rfl))) rfl rfl ?_; intro f w1 v9 hT hE h s; obtain rfl := hT
  refine s_pure h (ru_move (h.ev rfl)) rfl ?_; intro f h
  refine s_pure h (ru_val (.string ⟨#[1, 2, 3]⟩) (ru_extract (h.ev rfl) rfl) (congrArg Value.string alive_w)) rfl ?_; intro f h
  refine s_pure h (ru_val (.int .i64 0) (ru_extract (h.ev rfl) rfl) (congrArg (Value.int .i64) alive_r)) rfl ?_; intro f h
  refine s_pure h (ru_assign (h.ev rfl)) rfl ?_; intro f h
  refine s_pure h (ru_assign (h.ev rfl)) rfl ?_; intro f h
  refine s_nil ?_
  refine hK2 _ _ ?_
  refine c_seq fun K3 hK3 => ?_
  refine c_region ?_
  refine s_pure h (ru_move (h.ev rfl)) rfl ?_; intro f h
  refine s_pure h (ru_val (.bool true) (ru_eql (h.ev rfl) (h.ev rfl)) (congrArg Value.bool (decide_eq_true (rfl)))) rfl ?_; intro f h
  refine s_pure h (ru_move (h.ev rfl)) rfl ?_; intro f h
  refine s_on h rfl rfl rfl ?_
  refine s_pure h (ru_move (h.ev rfl)) rfl ?_; intro f h
  refine s_on h rfl rfl rfl ?_
  refine s_pure h (ru_val (.bool true) (ru_eql_str (h.ev rfl) (h.ev rfl)) (congrArg Value.bool (decide_eq_true (rfl)))) rfl ?_; intro f h
  refine s_pure h (ru_pick_t (h.ev rfl) (h.ev rfl)) rfl ?_; intro f h
  refine s_pure h (ru_assign (h.ev rfl)) rfl ?_; intro f h
  refine s_nil ?_
  refine hK3 _ _ ?_
  refine wpIn_ret ?_
  exact e_tmp rfl h s rfl (rfl)
end Go.Proofs.Ytjkjhceffbcidaa
