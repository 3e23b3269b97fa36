/- What the reference of chord answers for members, who is known, who lives, a node, an overlay without one. -/
import Derived.Test.YtndbijifgalpbaaCon
set_option linter.unusedVariables false
set_option linter.unusedSimpArgs false
set_option linter.unusedSectionVars false
namespace Go.Proofs.Ytndbijifgalpbaa
open Go.RowKit
theorem rfind_any (l : List Mb) (vh : Value) (no : Int) (w : World) (hR : RdZ w vh 33 l.length (mbCells l)) (hln : l.length ≤ 1000) : Calls Try.prog 25 [vh, .int .i64 no].toArray w (Ret w (is (.agg (mbArr (refF l no))))) := by
  refine c_enter Try.func25 rfl Try.ntmps25 rfl [(0, vh), (1, .int .i64 no)] (by simp) fun f h => ?_
  have s := St.start w
  refine c_seq fun K1 hK1 => ?_
  refine c_region ?_
  refine s_alloc (mbArr zMb) h s zero30 rfl rfl ?_; intro f w1 b4 h s
  refine s_nil ?_
  refine hK1 _ _ ?_
  refine c_seq fun K2 hK2 => ?_
  refine c_seq fun K3 hK3 => ?_
  refine c_region ?_
  refine s_pure h (ru_move (h.ev rfl)) rfl ?_; intro f h
  refine s_pure h (ru_lenZ (hR.keep s.ext) Try.underlying40 (h.ev rfl)) rfl ?_; intro f h
  refine s_pure h (ru_move (h.ev rfl)) rfl ?_; intro f h
  refine s_nil ?_
  refine hK3 _ _ ?_
  refine wpIn_block ?_
  refine wpIn_loop_ghost (fun nn aa ww => ∃ k : Nat, Sl 20 aa [(0, vh), (1, .int .i64 no), (4, .pointer (some ⟨b4, 0, none⟩)), (7, vh), (8, .int .i64 (l.length : Int)), (9, .int .i64 (k : Int))] ∧ St w [.blk b4 (.cells (mbArr zMb) 30)] ww ∧ nn = l.length - k ∧ k ≤ l.length ∧ ∀ j, j < k → decide ((l.getD j zMb).1 = no) = false) (l.length - (0)) ⟨0, h.only ⟨rfl, rfl, rfl, rfl, rfl, slot_int rfl (by omega), trivial⟩, s.as ⟨rfl, trivial⟩, rfl, Nat.zero_le _, fun j hj => absurd hj (Nat.not_lt_zero _)⟩ ?_
  rintro _ f w1 ⟨k, h, s, hnn, hp0, hp1⟩
  refine c_seq fun K4 hK4 => ?_
  refine c_region ?_
  refine s_pure h (ru_lss (h.ev rfl) (h.ev rfl)) rfl ?_; intro f h
  refine s_nil ?_
  refine hK4 _ _ ?_
  refine c_seq fun K5 hK5 => ?_
  refine c_cond h rfl (fun hc => ?_) (fun hc => ?_)
  · replace hc := of_decide_eq_true hc
    refine wpIn_skip ?_
    refine hK5 _ _ ?_
    refine c_seq fun K6 hK6 => ?_
    refine wpIn_block ?_
    refine c_seq fun K7 hK7 => ?_
    refine c_region ?_
    have hkl : k < l.length := by omega
    refine s_pure h (ru_ixz (hR.keep s.ext) (k) Try.underlying40 szo30 (h.ev rfl) (h.ev rfl) (by omega) (by omega)) rfl ?_; intro f h
    refine s_load_at ((hR.keep s.ext).el (k) (by omega) (by decide) (D := mbArr (l.getD k zMb)) (mb_elD l k hkl)) h row30 rfl (mbArr_size _) rfl ?_; intro f h
    refine s_alloc (mbArr zMb) h s zero30 rfl rfl ?_; intro f w1 b6 h s
    refine s_store_row 0 h s row30 rfl rfl rfl (mbArr_size _) (mbArr_size _) (mbArr_ones _) ?_; intro w1 s
    refine s_nil ?_
    refine hK7 _ _ ?_
    refine c_seq fun K8 hK8 => ?_
    refine c_region ?_
    refine s_pure h (ru_field fld30_0 (h.ev rfl)) rfl ?_; intro f h
    refine s_load_at1 (cell_of_has (Has.of_own s 0 rfl) 0 (mbArr_no _)) h one3 rfl rfl ?_; intro f h
    refine s_pure h (ru_move (h.ev rfl)) rfl ?_; intro f h
    refine s_pure h (ru_eql (h.ev rfl) (h.ev rfl)) rfl ?_; intro f h
    refine s_nil ?_
    refine hK8 _ _ ?_
    refine c_cond h rfl (fun hc => ?_) (fun hc => ?_)
    · refine c_seq fun K9 hK9 => ?_
      refine c_region ?_
      refine s_load_row 0 h s row30 rfl rfl (mbArr_size _) rfl ?_; intro f h
      refine s_store_row 1 h s row30 rfl rfl rfl (mbArr_size _) (mbArr_size _) (mbArr_ones _) ?_; intro w1 s
      refine s_nil ?_
      refine hK9 _ _ ?_
      refine wpIn_ret ?_
      refine b_ret ?_
      refine t_ret ?_
      refine t_ret ?_
      refine b_ret ?_
      refine t_ret ?_
      exact e_row 1 rfl h s row30 rfl rfl (mbArr_size _) (by show _ = _; unfold refF; rw [find_at hkl hp1 hc] <;> rfl)
    · refine wpIn_skip ?_
      refine b_norm ?_
      refine hK6 _ _ ?_
      refine c_region ?_
      refine s_pure h (ru_add (h.ev rfl) (h.ev rfl) (by omega)) rfl ?_; intro f h
      refine s_pure h (ru_move (h.ev rfl)) rfl ?_; intro f h
      refine s_nil ?_
      refine t_norm ?_
      exact ⟨_, by omega, ⟨k + 1, h.only ⟨rfl, rfl, rfl, rfl, rfl, slot_int rfl (by omega), trivial⟩, St.as (s.pick _ (List.sublist_append_right [_] _)) ⟨rfl, trivial⟩, rfl, by omega, qs_next (q := fun j => decide ((l.getD j zMb).1 = no)) hp1 hc⟩⟩
  · replace hc := of_decide_eq_false hc
    refine wpIn_exit ?_
    refine t_exit ?_
    refine t_exit ?_
    refine b_exit ?_
    refine hK2 _ _ ?_
    refine c_seq fun K10 hK10 => ?_
    refine c_region ?_
    refine s_pure h (ru_build_mb1 sttM (h.ev rfl)) rfl ?_; intro f h
    refine s_store_row 0 h s row30 rfl rfl rfl (mbArr_size _) (mbArr_size _) (mbArr_ones _) ?_; intro w1 s
    refine s_nil ?_
    refine hK10 _ _ ?_
    refine wpIn_ret ?_
    exact e_row 0 rfl h s row30 rfl rfl (mbArr_size _) (by show _ = _; unfold refF; rw [find_no (by omega) hp1] <;> rfl)

theorem members_any (L : List N3) (vo : Value) (w : World) (hO : RdO w vo L) (hL : L.length ≤ 40) : Calls Try.prog 22 [.agg #[vo]].toArray w (Ret w (fun v w' => Owns w' w.heap.size 30 33 v (memL L).length (mbCells (memL L)))) := by
  refine c_enter Try.func22 rfl Try.ntmps22 rfl [(0, .agg #[vo])] (by simp) fun f h => ?_
  have s := St.start w
  refine c_seq fun K1 hK1 => ?_
  refine c_region ?_
  refine s_box (#[vo]) h s rfl rfl rfl ?_; intro f w1 b1 h s
  refine s_pure h (ru_assign (h.ev rfl)) rfl ?_; intro f h
  refine s_nil ?_
  refine hK1 _ _ ?_
  refine c_seq fun K2 hK2 => ?_
  refine c_region ?_
  refine s_bslice (vs := []) [] h s Try.underlying40 elm30 rfl rfl (by simp) rfl rfl rfl ?_; intro f w1 v6 h s
  replace s := s.resl (m := (memL (L.take 0)).length) (ys := mbCells (memL (L.take 0))) 0 rfl (rfl) (rfl)
  refine s_pure h (ru_assign (h.ev rfl)) rfl ?_; intro f h
  refine s_nil ?_
  refine hK2 _ _ ?_
  refine c_seq fun K3 hK3 => ?_
  refine c_seq fun K4 hK4 => ?_
  refine c_region ?_
  refine s_pure h (ru_field fld24_0 (h.ev rfl)) rfl ?_; intro f h
  refine s_load_at1 (V := vo) (cell_of_has (Has.of_own s 1 rfl) 0 rfl) h one22 rfl rfl ?_; intro f h
  refine s_pure h (ru_lenZ (hO.1.keep s.ext) Try.underlying22 (h.ev rfl)) rfl ?_; intro f h
  refine s_pure h (ru_move (h.ev rfl)) rfl ?_; intro f h
  refine s_nil ?_
  refine hK4 _ _ ?_
  refine wpIn_block ?_
  refine wpIn_loop_ghost (fun nn aa ww => ∃ k : Nat, ∃ vb : Value, Sl 21 aa [(0, .agg #[vo]), (1, .pointer (some ⟨b1, 0, none⟩)), (3, vb), (8, vo), (9, .int .i64 (L.length : Int)), (10, .int .i64 (k : Int))] ∧ St w [.sl vb 30 33 (memL (L.take k)).length (mbCells (memL (L.take k))), .blk b1 (.cells (#[vo]) 24)] ww ∧ nn = L.length - k ∧ k ≤ L.length) (L.length - (0)) ⟨0, v6, h.only ⟨rfl, rfl, rfl, rfl, rfl, slot_int rfl (by omega), trivial⟩, s.as ⟨rfl, rfl, trivial⟩, rfl, Nat.zero_le _⟩ ?_
  rintro _ f w1 ⟨k, vb, h, s, hnn, hp0⟩
  refine c_seq fun K5 hK5 => ?_
  refine c_region ?_
  refine s_pure h (ru_lss (h.ev rfl) (h.ev rfl)) rfl ?_; intro f h
  refine s_nil ?_
  refine hK5 _ _ ?_
  refine c_seq fun K6 hK6 => ?_
  refine c_cond h rfl (fun hc => ?_) (fun hc => ?_)
  · replace hc := of_decide_eq_true hc
    refine wpIn_skip ?_
    refine hK6 _ _ ?_
    refine c_seq fun K7 hK7 => ?_
    refine wpIn_block ?_
    refine c_seq fun K8 hK8 => ?_
    refine c_region ?_
    have hkl : k < L.length := by omega
    refine s_pure h (ru_ixz (hO.1.keep s.ext) (k) Try.underlying22 szo46 (h.ev rfl) (h.ev rfl) (by omega) (by omega)) rfl ?_; intro f h
    refine s_load_at ((hO.1.keep s.ext).el (k) (by omega) (by decide) (D := ndArr (L.getD k z3).1.me (L.getD k z3).1.pr (L.getD k z3).2.1 (L.getD k z3).2.2) (n3_el L k hkl)) h row46 rfl (ndArr_size _ _ _ _) rfl ?_; intro f h
    refine s_alloc (ndArr zMb zMb nilV nilV) h s zero46 rfl rfl ?_; intro f w1 b5 h s
    refine s_store_row 0 h s row46 rfl rfl rfl (ndArr_size _ _ _ _) (ndArr_size _ _ _ _) (ndArr_ones (rd_one ((hO.2 _ (n3_mem hkl)).1.keep s.ext)) (rd_one ((hO.2 _ (n3_mem hkl)).2.keep s.ext))) ?_; intro w1 s
    refine s_nil ?_
    refine hK8 _ _ ?_
    refine c_region ?_
    refine s_pure h (ru_move (h.ev rfl)) rfl ?_; intro f h
    refine s_pure h (ru_field fld46_0 (h.ev rfl)) rfl ?_; intro f h
    refine s_load_at (Has.subL (Has.of_own s 0 rfl) 0 33 (D := mbArr (L.getD k z3).1.me) (ndArr_me _ _ _ _)) h row30 rfl (mbArr_size _) rfl ?_; intro f h
    refine s_bslice (vs := [.agg (mbArr (L.getD k z3).1.me)]) [.tmp 16] h s Try.underlying40 elm30 rfl rfl (mb_sz _) rfl rfl rfl ?_; intro f w1 v17 h s
    refine s_append 2 0 h s Try.underlying40 elm30 rfl rfl rfl rfl (by decide) (by rw [one_mb]; exact mbArr_ones _) (by rw [List.length_map, List.length_take]; unfold maxLen; omega) (by rw [List.length_map, List.length_take]; omega) rfl ?_; intro f w1 v18 h s
    replace s := s.pick _ (List.sublist_cons_self _ _)
    replace s := s.resl (m := (memL (L.take (k + 1))).length) (ys := mbCells (memL (L.take (k + 1)))) 1 rfl (by rw [mem_snoc hkl, List.length_append]; rfl) (by rw [mem_snoc hkl, one_mb, mb_snoc])
    refine s_pure h (ru_assign (h.ev rfl)) rfl ?_; intro f h
    refine s_nil ?_
    refine b_norm ?_
    refine hK7 _ _ ?_
    refine c_region ?_
    refine s_pure h (ru_add (h.ev rfl) (h.ev rfl) (by omega)) rfl ?_; intro f h
    refine s_pure h (ru_move (h.ev rfl)) rfl ?_; intro f h
    refine s_nil ?_
    refine t_norm ?_
    exact ⟨_, by omega, ⟨k + 1, v18, h.only ⟨rfl, rfl, rfl, rfl, rfl, slot_int rfl (by omega), trivial⟩, St.as (s.pick _ (List.sublist_append_right [_] _)) ⟨rfl, rfl, trivial⟩, rfl, by omega⟩⟩
  · replace hc := of_decide_eq_false hc
    refine wpIn_exit ?_
    refine t_exit ?_
    refine t_exit ?_
    refine b_exit ?_
    refine hK3 _ _ ?_
    refine c_seq fun K9 hK9 => ?_
    refine c_region ?_
    refine s_pure h (ru_move (h.ev rfl)) rfl ?_; intro f h
    refine s_pure h (ru_assign (h.ev rfl)) rfl ?_; intro f h
    refine s_nil ?_
    refine hK9 _ _ ?_
    refine wpIn_ret ?_
    exact e_tmp rfl h s rfl ((by obtain rfl : k = L.length := (by omega); rw [List.take_length] at s; exact (s.getSl 0 rfl)))

theorem known_any (n : Nd) (vs vf : Value) (w : World) (hRs : RdZ w vs 33 n.sc.length (mbCells n.sc)) (hRf : RdZ w vf 33 n.fg.length (mbCells n.fg)) (hns : n.sc.length ≤ 400) (hnf : n.fg.length ≤ 400) : Calls Try.prog 24 [.agg (ndArr n.me n.pr vs vf)].toArray w (Ret w (fun v w' => Owns w' w.heap.size 30 33 v (knownN n).length (mbCells (knownN n)))) := by
  refine c_enter Try.func24 rfl Try.ntmps24 rfl [(0, .agg (ndArr n.me n.pr vs vf))] (by simp) fun f h => ?_
  have s := St.start w
  refine c_seq fun K1 hK1 => ?_
  refine c_region ?_
  refine s_box (ndArr n.me n.pr vs vf) h s rfl rfl rfl ?_; intro f w1 b1 h s
  refine s_pure h (ru_assign (h.ev rfl)) rfl ?_; intro f h
  refine s_nil ?_
  refine hK1 _ _ ?_
  refine c_seq fun K2 hK2 => ?_
  refine c_region ?_
  refine s_pure h (ru_field fld46_1 (h.ev rfl)) rfl ?_; intro f h
  refine s_load_at (Has.subL (Has.of_own s 0 rfl) 33 33 (D := mbArr n.pr) (ndArr_pr _ _ _ _)) h row30 rfl (mbArr_size _) rfl ?_; intro f h
  refine s_bslice (vs := [.agg (mbArr n.pr)]) [.tmp 5] h s Try.underlying40 elm30 rfl rfl (mb_sz _) rfl rfl rfl ?_; intro f w1 v6 h s
  replace s := s.resl (m := [n.pr].length) (ys := mbCells [n.pr]) 0 rfl (rfl) (by rw [one_mb, mbCells_one])
  refine s_pure h (ru_assign (h.ev rfl)) rfl ?_; intro f h
  refine s_nil ?_
  refine hK2 _ _ ?_
  refine c_seq fun K3 hK3 => ?_
  refine c_region ?_
  refine s_pure h (ru_move (h.ev rfl)) rfl ?_; intro f h
  refine s_pure h (ru_field fld46_2 (h.ev rfl)) rfl ?_; intro f h
  refine s_load_at1 (V := vs) (cell_of_has (Has.of_own s 1 rfl) 66 (ndArr_sc _ _ _ _)) h one40 rfl rfl ?_; intro f h
  refine s_append_rd 0 (hRs.keep s.ext) h s Try.underlying40 elm30 rfl rfl rfl (mbCells_ones _) (by show 1 + _ ≤ _; unfold maxLen; omega) (by show (1 + _) * _ ≤ _; omega) rfl ?_; intro f w1 v10 h s
  replace s := s.resl (m := ([n.pr] ++ n.sc).length) (ys := mbCells ([n.pr] ++ n.sc)) 0 rfl (List.length_append.symm) ((mbCells_app _ _).symm)
  refine s_pure h (ru_assign (h.ev rfl)) rfl ?_; intro f h
  refine s_nil ?_
  refine hK3 _ _ ?_
  refine c_seq fun K4 hK4 => ?_
  refine c_region ?_
  refine s_pure h (ru_move (h.ev rfl)) rfl ?_; intro f h
  refine s_pure h (ru_field fld46_3 (h.ev rfl)) rfl ?_; intro f h
  refine s_load_at1 (V := vf) (cell_of_has (Has.of_own s 1 rfl) 67 (ndArr_fg _ _ _ _)) h one40 rfl rfl ?_; intro f h
  refine s_append_rd 0 (hRf.keep s.ext) h s Try.underlying40 elm30 rfl rfl rfl (mbCells_ones _) (by rw [List.length_append]; show 1 + _ + _ ≤ _; unfold maxLen; omega) (by rw [List.length_append]; show (1 + _ + _) * _ ≤ _; omega) rfl ?_; intro f w1 v14 h s
  replace s := s.resl (m := (knownN n).length) (ys := mbCells (knownN n)) 0 rfl (by simp only [knownN, List.length_append, List.length_cons, List.length_nil]; omega) ((mbCells_app _ _).symm)
  refine s_pure h (ru_assign (h.ev rfl)) rfl ?_; intro f h
  refine s_nil ?_
  refine hK4 _ _ ?_
  refine c_seq fun K5 hK5 => ?_
  refine c_region ?_
  refine s_pure h (ru_move (h.ev rfl)) rfl ?_; intro f h
  refine s_pure h (ru_assign (h.ev rfl)) rfl ?_; intro f h
  refine s_nil ?_
  refine hK5 _ _ ?_
  refine wpIn_ret ?_
  exact e_tmp rfl h s rfl (s.getSl 0 rfl)

theorem lives_any (L : List N3) (vo : Value) (no : Int) (w : World) (hO : RdO w vo L) (hL : L.length ≤ 40) : Calls Try.prog 27 [.agg #[vo], .int .i64 no].toArray w (Ret w (is (.bool (livesB (memL L) no)))) := by
  refine c_enter Try.func27 rfl Try.ntmps27 rfl [(0, .agg #[vo]), (1, .int .i64 no)] (by simp) fun f h => ?_
  have s := St.start w
  refine c_seq fun K1 hK1 => ?_
  refine c_region ?_
  refine s_box (#[vo]) h s rfl rfl rfl ?_; intro f w1 b2 h s
  refine s_pure h (ru_assign (h.ev rfl)) rfl ?_; intro f h
  refine s_nil ?_
  refine hK1 _ _ ?_
  refine c_seq fun K2 hK2 => ?_
  cases l0 : (decide ((refF (memL L) no).1 = no) : Bool)
  · skip
    refine c_region ?_
    refine s_load_row 0 h s row24 rfl rfl (rfl) rfl ?_; intro f h
    refine s_call h s fnc22 (members_any L vo _ (hO.keep s.ext) hL) rfl rfl ?_; intro f w1 v6 hT hE h sq; replace s := s.sl_new hE hT
    refine s_pure h (ru_move (h.ev rfl)) rfl ?_; intro f h
    refine s_call h s fnc25 (rfind_any (memL L) v6 no _ (RdZ.of_own (s.getSl 0 rfl)) (by rw [List.length_map]; omega)) rfl rfl ?_; intro f w1 v9 hT hE h s; obtain rfl := hT
    refine s_pure h (ru_fieldV flt30_0 one3 (h.ev rfl) (mbArr_no _)) rfl ?_; intro f h
    refine s_pure h (ru_move (h.ev rfl)) rfl ?_; intro f h
    refine s_pure h (ru_val (.bool false) (ru_eql (h.ev rfl) (h.ev rfl)) (congrArg Value.bool l0)) rfl ?_; intro f h
    refine s_pure h (ru_move (h.ev rfl)) rfl ?_; intro f h
    refine s_off (b := true) h rfl rfl rfl rfl ?_; intro f h
    refine s_off (b := true) h rfl rfl rfl rfl ?_; intro f h
    refine s_pure h (ru_pick_f (h.ev rfl) (h.ev rfl)) rfl ?_; intro f h
    refine s_pure h (ru_assign (h.ev rfl)) rfl ?_; intro f h
    refine s_nil ?_
    refine hK2 _ _ ?_
    refine wpIn_ret ?_
    exact e_tmp rfl h s rfl (by show _ = _; rw [lv_0 l0])
  · skip
    refine c_region ?_
    refine s_load_row 0 h s row24 rfl rfl (rfl) rfl ?_; intro f h
    refine s_call h s fnc22 (members_any L vo _ (hO.keep s.ext) hL) rfl rfl ?_; intro f w1 v6 hT hE h sq; replace s := s.sl_new hE hT
    refine s_pure h (ru_move (h.ev rfl)) rfl ?_; intro f h
    refine s_call h s fnc25 (rfind_any (memL L) v6 no _ (RdZ.of_own (s.getSl 0 rfl)) (by rw [List.length_map]; omega)) rfl rfl ?_; intro f w1 v9 hT hE h s; obtain rfl := hT
    refine s_pure h (ru_fieldV flt30_0 one3 (h.ev rfl) (mbArr_no _)) rfl ?_; intro f h
    refine s_pure h (ru_move (h.ev rfl)) rfl ?_; intro f h
    refine s_pure h (ru_val (.bool true) (ru_eql (h.ev rfl) (h.ev rfl)) (congrArg Value.bool l0)) rfl ?_; intro f h
    refine s_pure h (ru_move (h.ev rfl)) rfl ?_; intro f h
    refine s_on h rfl rfl rfl ?_
    refine s_pure h (ru_move (h.ev rfl)) rfl ?_; intro f h
    refine s_on h rfl rfl rfl ?_
    refine s_pure h (ru_geq (h.ev rfl) (h.ev rfl)) rfl ?_; intro f h
    refine s_pure h (ru_pick_t (h.ev rfl) (h.ev rfl)) rfl ?_; intro f h
    refine s_pure h (ru_assign (h.ev rfl)) rfl ?_; intro f h
    refine s_nil ?_
    refine hK2 _ _ ?_
    refine wpIn_ret ?_
    exact e_tmp rfl h s rfl (by show _ = _; rw [lv_1 l0])

theorem get_any (L : List N3) (vo : Value) (no : Int) (w : World) (hO : RdO w vo L) (hL : L.length ≤ 40) : Calls Try.prog 51 [.agg #[vo], .int .i64 no].toArray w (Ret w (is (.agg (ndArr (getL L no).1.me (getL L no).1.pr (getL L no).2.1 (getL L no).2.2)))) := by
  refine c_enter Try.func51 rfl Try.ntmps51 rfl [(0, .agg #[vo]), (1, .int .i64 no)] (by simp) fun f h => ?_
  have s := St.start w
  refine c_seq fun K1 hK1 => ?_
  refine c_region ?_
  refine s_box (#[vo]) h s rfl rfl rfl ?_; intro f w1 b2 h s
  refine s_alloc (ndArr zMb zMb nilV nilV) h s zero46 rfl rfl ?_; intro f w1 b4 h s
  refine s_nil ?_
  refine hK1 _ _ ?_
  refine c_seq fun K2 hK2 => ?_
  refine c_seq fun K3 hK3 => ?_
  refine c_region ?_
  refine s_pure h (ru_field fld24_0 (h.ev rfl)) rfl ?_; intro f h
  refine s_load_at1 (V := vo) (cell_of_has (Has.of_own s 1 rfl) 0 rfl) h one22 rfl rfl ?_; intro f h
  refine s_pure h (ru_lenZ (hO.1.keep s.ext) Try.underlying22 (h.ev rfl)) rfl ?_; intro f h
  refine s_pure h (ru_move (h.ev rfl)) rfl ?_; intro f h
  refine s_nil ?_
  refine hK3 _ _ ?_
  refine wpIn_block ?_
  refine wpIn_loop_ghost (fun nn aa ww => ∃ k : Nat, Sl 23 aa [(0, .agg #[vo]), (1, .int .i64 no), (2, .pointer (some ⟨b2, 0, none⟩)), (4, .pointer (some ⟨b4, 0, none⟩)), (8, vo), (9, .int .i64 (L.length : Int)), (10, .int .i64 (k : Int))] ∧ St w [.blk b4 (.cells (ndArr zMb zMb nilV nilV) 46), .blk b2 (.cells (#[vo]) 24)] ww ∧ nn = L.length - k ∧ k ≤ L.length ∧ ∀ j, j < k → decide ((L.getD j z3).1.me.1 = no) = false) (L.length - (0)) ⟨0, h.only ⟨rfl, rfl, rfl, rfl, rfl, rfl, slot_int rfl (by omega), trivial⟩, s.as ⟨rfl, rfl, trivial⟩, rfl, Nat.zero_le _, fun j hj => absurd hj (Nat.not_lt_zero _)⟩ ?_
  rintro _ f w1 ⟨k, h, s, hnn, hp0, hp1⟩
  refine c_seq fun K4 hK4 => ?_
  refine c_region ?_
  refine s_pure h (ru_lss (h.ev rfl) (h.ev rfl)) rfl ?_; intro f h
  refine s_nil ?_
  refine hK4 _ _ ?_
  refine c_seq fun K5 hK5 => ?_
  refine c_cond h rfl (fun hc => ?_) (fun hc => ?_)
  · replace hc := of_decide_eq_true hc
    refine wpIn_skip ?_
    refine hK5 _ _ ?_
    refine c_seq fun K6 hK6 => ?_
    refine wpIn_block ?_
    refine c_seq fun K7 hK7 => ?_
    refine c_region ?_
    have hkl : k < L.length := by omega
    refine s_pure h (ru_ixz (hO.1.keep s.ext) (k) Try.underlying22 szo46 (h.ev rfl) (h.ev rfl) (by omega) (by omega)) rfl ?_; intro f h
    refine s_load_at ((hO.1.keep s.ext).el (k) (by omega) (by decide) (D := ndArr (L.getD k z3).1.me (L.getD k z3).1.pr (L.getD k z3).2.1 (L.getD k z3).2.2) (n3_el L k hkl)) h row46 rfl (ndArr_size _ _ _ _) rfl ?_; intro f h
    refine s_alloc (ndArr zMb zMb nilV nilV) h s zero46 rfl rfl ?_; intro f w1 b6 h s
    refine s_store_row 0 h s row46 rfl rfl rfl (ndArr_size _ _ _ _) (ndArr_size _ _ _ _) (ndArr_ones (rd_one ((hO.2 _ (n3_mem hkl)).1.keep s.ext)) (rd_one ((hO.2 _ (n3_mem hkl)).2.keep s.ext))) ?_; intro w1 s
    refine s_nil ?_
    refine hK7 _ _ ?_
    refine c_seq fun K8 hK8 => ?_
    refine c_region ?_
    refine s_pure h (ru_field fld46_0 (h.ev rfl)) rfl ?_; intro f h
    refine s_pure h (ru_field fld30_0 (h.ev rfl)) rfl ?_; intro f h
    refine s_load_at1 (cell_of_has (Has.of_own s 0 rfl) 0 (ndArr_no _ _ _ _)) h one3 rfl rfl ?_; intro f h
    refine s_pure h (ru_move (h.ev rfl)) rfl ?_; intro f h
    refine s_pure h (ru_eql (h.ev rfl) (h.ev rfl)) rfl ?_; intro f h
    refine s_nil ?_
    refine hK8 _ _ ?_
    refine c_cond h rfl (fun hc => ?_) (fun hc => ?_)
    · refine c_seq fun K9 hK9 => ?_
      refine c_region ?_
      refine s_load_row 0 h s row46 rfl rfl (ndArr_size _ _ _ _) rfl ?_; intro f h
      refine s_store_row 1 h s row46 rfl rfl rfl (ndArr_size _ _ _ _) (ndArr_size _ _ _ _) (ndArr_ones (rd_one ((hO.2 _ (n3_mem hkl)).1.keep s.ext)) (rd_one ((hO.2 _ (n3_mem hkl)).2.keep s.ext))) ?_; intro w1 s
      refine s_nil ?_
      refine hK9 _ _ ?_
      refine wpIn_ret ?_
      refine b_ret ?_
      refine t_ret ?_
      refine t_ret ?_
      refine b_ret ?_
      refine t_ret ?_
      exact e_row 1 rfl h s row46 rfl rfl (ndArr_size _ _ _ _) (by show _ = _; rw [get_at hkl hp1 hc])
    · refine wpIn_skip ?_
      refine b_norm ?_
      refine hK6 _ _ ?_
      refine c_region ?_
      refine s_pure h (ru_add (h.ev rfl) (h.ev rfl) (by omega)) rfl ?_; intro f h
      refine s_pure h (ru_move (h.ev rfl)) rfl ?_; intro f h
      refine s_nil ?_
      refine t_norm ?_
      exact ⟨_, by omega, ⟨k + 1, h.only ⟨rfl, rfl, rfl, rfl, rfl, rfl, slot_int rfl (by omega), trivial⟩, St.as (s.pick _ (List.sublist_append_right [_] _)) ⟨rfl, rfl, trivial⟩, rfl, by omega, qs_next (q := fun j => decide ((L.getD j z3).1.me.1 = no)) hp1 hc⟩⟩
  · replace hc := of_decide_eq_false hc
    refine wpIn_exit ?_
    refine t_exit ?_
    refine t_exit ?_
    refine b_exit ?_
    refine hK2 _ _ ?_
    refine c_seq fun K10 hK10 => ?_
    refine c_region ?_
    refine s_pure h (ru_build_mb1 sttM rfl) rfl ?_; intro f h
    refine s_pure h (ru_build_nd1 sttN (h.ev rfl)) rfl ?_; intro f h
    refine s_store_row 0 h s row46 rfl rfl rfl (ndArr_size _ _ _ _) (ndArr_size _ _ _ _) (ndArr_ones (rfl) (rfl)) ?_; intro w1 s
    refine s_nil ?_
    refine hK10 _ _ ?_
    refine wpIn_ret ?_
    exact e_row 0 rfl h s row46 rfl rfl (ndArr_size _ _ _ _) (by show _ = _; rw [get_none (by omega) hp1]; rfl)
end Go.Proofs.Ytndbijifgalpbaa
