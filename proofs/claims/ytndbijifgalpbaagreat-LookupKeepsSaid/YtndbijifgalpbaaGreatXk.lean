/- What Keeps of package lookup answers. -/
import Derived.Test.YtndbijifgalpbaaGreatWo
set_option linter.unusedVariables false
set_option linter.unusedSimpArgs false
set_option linter.unusedSectionVars false
namespace Go.Proofs.YtndbijifgalpbaaGreat
open Go.RowKit
set_option maxHeartbeats 1000000 in
theorem ckeeps_any (L : List N3) (vo : Value) (x : Id) (many : Int) (w : World) (hO : RdO w vo L) (hL : L.length ≤ 40) (hb : RwB L) : Calls Tryz.prog 6 [.agg #[vo], idV x, .int .i64 many].toArray w (Ret w (KpP w L x many)) := by
  refine c_enter Tryz.func6 rfl Tryz.ntmps6 rfl [(0, .agg #[vo]), (1, idV x), (2, .int .i64 many)] (by simp) fun f h => ?_
  have s := St.start w
  refine c_seq fun K1 hK1 => ?_
  refine c_region ?_
  refine s_box (#[vo]) h s rfl rfl rfl ?_; intro f w1 b3 h s
  refine s_box (idArr x) h s rfl rfl rfl ?_; intro f w1 b4 h s
  refine s_pure h (ru_assign (h.ev rfl)) rfl ?_; intro f h
  refine s_pure h (ru_assign (h.ev rfl)) rfl ?_; intro f h
  refine s_nil ?_
  refine hK1 _ _ ?_
  refine c_seq fun K2 hK2 => ?_
  refine c_seq fun K3 hK3 => ?_
  cases r0 : (ovR L : Bool)
  · skip
    refine c_region ?_
    refine s_load_row 1 h s row24 rfl rfl (rfl) rfl ?_; intro f h
    refine s_call h s fnc16 (ret_val (.bool false) (cright_any L vo _ (hO.keep s.ext) hL hb) (congrArg Value.bool r0)) rfl rfl ?_; intro f w1 v9 hT hE h s; obtain rfl := hT
    refine s_pure h (ru_val (.bool true) (ru_not (h.ev rfl)) rfl) rfl ?_; intro f h
    refine s_pure h (ru_move (h.ev rfl)) rfl ?_; intro f h
    refine s_off (b := false) h rfl rfl rfl rfl ?_; intro f h
    refine s_off (b := false) h rfl rfl rfl rfl ?_; intro f h
    refine s_pure h (ru_pick_t (h.ev rfl) (h.ev rfl)) rfl ?_; intro f h
    refine s_pure h (ru_move (h.ev rfl)) rfl ?_; intro f h
    refine s_off (b := false) h rfl rfl rfl rfl ?_; intro f h
    refine s_off (b := false) h rfl rfl rfl rfl ?_; intro f h
    refine s_pure h (ru_pick_t (h.ev rfl) (h.ev rfl)) rfl ?_; intro f h
    refine s_nil ?_
    refine hK3 _ _ ?_
    refine wpIn_cond_true (h.ev rfl) ?_
    refine c_seq fun K4 hK4 => ?_
    refine c_region ?_
    refine s_pure h (ru_assign (h.ev rfl)) rfl ?_; intro f h
    refine s_pure h (ru_assign (h.ev rfl)) rfl ?_; intro f h
    refine s_nil ?_
    refine hK4 _ _ ?_
    refine wpIn_ret ?_
    refine t_ret ?_
    exact e_tmps rfl h s rfl rfl (kpP_own (kp_bad x (.inl r0)) ((s.nilSl 39 33).sel [0] rfl (by decide)))
  · skip
    cases m0 : (decide (many < 1) : Bool)
    · skip
      cases m1 : (decide (4 < many) : Bool)
      · skip
        refine c_region ?_
        refine s_load_row 1 h s row24 rfl rfl (rfl) rfl ?_; intro f h
        refine s_call h s fnc16 (ret_val (.bool true) (cright_any L vo _ (hO.keep s.ext) hL hb) (congrArg Value.bool r0)) rfl rfl ?_; intro f w1 v9 hT hE h s; obtain rfl := hT
        refine s_pure h (ru_val (.bool false) (ru_not (h.ev rfl)) rfl) rfl ?_; intro f h
        refine s_pure h (ru_move (h.ev rfl)) rfl ?_; intro f h
        refine s_on h rfl rfl rfl ?_
        refine s_pure h (ru_move (h.ev rfl)) rfl ?_; intro f h
        refine s_on h rfl rfl rfl ?_
        refine s_pure h (ru_val (.bool false) (ru_lss (h.ev rfl) (h.ev rfl)) (congrArg Value.bool (decide_eq_false (by have := of_decide_eq_false m0; omega)))) rfl ?_; intro f h
        refine s_pure h (ru_pick_f (h.ev rfl) (h.ev rfl)) rfl ?_; intro f h
        refine s_pure h (ru_move (h.ev rfl)) rfl ?_; intro f h
        refine s_on h rfl rfl rfl ?_
        refine s_pure h (ru_move (h.ev rfl)) rfl ?_; intro f h
        refine s_on h rfl rfl rfl ?_
        refine s_pure h (ru_val (.bool false) (ru_gtr (h.ev rfl) (h.ev rfl)) (congrArg Value.bool (decide_eq_false (by have := of_decide_eq_false m1; omega)))) rfl ?_; intro f h
        refine s_pure h (ru_pick_f (h.ev rfl) (h.ev rfl)) rfl ?_; intro f h
        refine s_nil ?_
        refine hK3 _ _ ?_
        refine wpIn_cond_false (h.ev rfl) ?_
        refine wpIn_skip ?_
        refine hK2 _ _ ?_
        refine c_seq fun K5 hK5 => ?_
        refine c_region ?_
        have hrs := (rl_iff r0).rs
        have hg := hrs.ring
        have hm1 : 1 ≤ many := by have := of_decide_eq_false m0; omega
        have hm4 : many ≤ 4 := by have := of_decide_eq_false m1; omega
        have hml : (memL L).length = L.length := List.length_map _
        have hl16 := hg.len
        refine s_load_row 1 h s row24 rfl rfl (rfl) rfl ?_; intro f h
        refine s_call h s fnc13 (cmembers_any L vo _ (hO.keep s.ext) hL) rfl rfl ?_; intro f w1 v25 hT hE h sq; replace s := s.sl_new hE hT
        refine s_pure h (ru_assign (h.ev rfl)) rfl ?_; intro f h
        refine s_nil ?_
        refine hK5 _ _ ?_
        refine c_seq fun K6 hK6 => ?_
        refine c_region ?_
        refine s_pure h (ru_move (h.ev rfl)) rfl ?_; intro f h
        refine s_load_row 1 h s row26 rfl rfl (by first | exact idArr_size _ | exact bytesF_size _ _) rfl ?_; intro f h
        refine s_call h s fnc12 (owner_any (memL L) v25 x _ (RdZ.of_own (s.getSl 0 rfl)) (by omega)) rfl rfl ?_; intro f w1 v9 hT hE h s; obtain rfl := hT
        refine s_pure h (ru_move (h.ev rfl)) rfl ?_; intro f h
        refine s_pure h (ru_extract (h.ev rfl) rfl) rfl ?_; intro f h
        refine s_pure h (ru_extract (h.ev rfl) rfl) rfl ?_; intro f h
        refine s_alloc (mbArr zMb) h s zero39 rfl rfl ?_; intro f w1 b9 h s
        refine s_store_row 0 h s row39 rfl rfl rfl (mbArr_size _) (mbArr_size _) (mbArr_ones _) ?_; intro w1 s
        refine s_pure h (ru_assign (h.ev rfl)) rfl ?_; intro f h
        refine s_nil ?_
        refine hK6 _ _ ?_
        refine c_seq fun K7 hK7 => ?_
        refine c_seq fun K8 hK8 => ?_
        cases z0 : (decide (L.length = 0) : Bool)
        · skip
          refine c_region ?_
          refine s_pure h (ru_move (h.ev rfl)) rfl ?_; intro f h
          refine s_pure h (ru_val (.bool false) (ru_neq (h.ev rfl) (h.ev rfl)) (congrArg Value.bool (own_z hg z0))) rfl ?_; intro f h
          refine s_nil ?_
          refine hK8 _ _ ?_
          refine wpIn_cond_false (h.ev rfl) ?_
          refine wpIn_skip ?_
          refine hK7 _ _ ?_
          refine c_seq fun K9 hK9 => ?_
          refine c_region ?_
          have hl0 := of_decide_eq_false z0
          have h0m : 0 < (memL L).length := by omega
          have hob := own_both hg h0m x
          have haf := aft_in hg (own_mem x h0m) (n := (min many.toNat (memL L).length - 1)) (by omega)
          replace s := s.recell (D := mbArr (ownL (memL L) x)) 0 rfl (by rw [hob.1])
          refine s_pure h (ru_move (h.ev rfl)) rfl ?_; intro f h
          refine s_pure h (ru_field fld39_0 (h.ev rfl)) rfl ?_; intro f h
          refine s_load_at1 (cell_of_has (Has.of_own s 0 rfl) 0 (mbArr_no _)) h one3 rfl rfl ?_; intro f h
          refine s_pure h (ru_move (h.ev rfl)) rfl ?_; intro f h
          refine s_pure h (ru_move (h.ev rfl)) rfl ?_; intro f h
          refine s_len_sl 1 h s Tryz.underlying28 rfl rfl rfl ?_; intro f h
          refine s_pure h (ru_min (h.ev rfl) (h.ev rfl)) rfl ?_; intro f h
          refine s_pure h (ru_val (.int .i64 (((min many.toNat (memL L).length - 1) : Nat) : Int)) (ru_sub (h.ev rfl) (h.ev rfl) (by split <;> omega)) (congrArg (Value.int .i64) (by split <;> omega))) rfl ?_; intro f h
          refine s_call h s fnc17 (after_any (memL L) v25 (ownL (memL L) x).1 (((min many.toNat (memL L).length - 1) : Nat) : Int) _ (RdZ.of_own (s.getSl 1 rfl)) (by omega)) rfl rfl ?_; rintro f w1 v9 ⟨va, rfl, hT⟩ hE h sq; rw [haf.2] at hT; replace s := s.sl_new hE hT
          refine s_pure h (ru_move (h.ev rfl)) rfl ?_; intro f h
          refine s_pure h (ru_extract (h.ev rfl) rfl) rfl ?_; intro f h
          refine s_pure h (ru_extract (h.ev rfl) rfl) rfl ?_; intro f h
          refine s_pure h (ru_assign (h.ev rfl)) rfl ?_; intro f h
          refine s_pure h (ru_assign (h.ev rfl)) rfl ?_; intro f h
          refine s_nil ?_
          refine hK9 _ _ ?_
          refine c_seq fun K10 hK10 => ?_
          refine c_region ?_
          refine s_load_row 1 h s row39 rfl rfl (mbArr_size _) rfl ?_; intro f h
          refine s_bslice (vs := [.agg (mbArr (ownL (memL L) x))]) [.tmp 47] h s Tryz.underlying28 elm39 rfl rfl (mb_sz _) rfl rfl rfl ?_; intro f w1 v48 h s
          replace s := s.resl (m := [(ownL (memL L) x)].length) (ys := mbCells [(ownL (memL L) x)]) 0 rfl (rfl) (by rw [one_mb, mbCells_one])
          refine s_pure h (ru_move (h.ev rfl)) rfl ?_; intro f h
          refine s_append_rd 0 (RdZ.of_own (s.getSl 1 rfl)) h s Tryz.underlying28 elm39 rfl rfl rfl (mbCells_ones _) (by rw [fol_len]; show 1 + _ ≤ _; unfold maxLen; omega) (by rw [fol_len]; show (1 + _) * _ ≤ _; omega) rfl ?_; intro f w1 v50 h s
          replace s := s.resl (m := (kpR (memL L) x many.toNat).length) (ys := mbCells (kpR (memL L) x many.toNat)) 0 rfl (by unfold kpR; simp only [List.length_cons, List.length_nil, fol_len]; omega) (by rw [← mbCells_app]; rfl)
          refine s_pure h (ru_assign (h.ev rfl)) rfl ?_; intro f h
          refine s_pure h (ru_assign (h.ev rfl)) rfl ?_; intro f h
          refine s_nil ?_
          refine hK10 _ _ ?_
          refine wpIn_ret ?_
          exact e_tmps rfl h s rfl rfl (kpP_own (kp_ok x r0 hm1 hm4 hl0) (s.sel [0] rfl (by decide)))
        · skip
          refine c_region ?_
          refine s_pure h (ru_move (h.ev rfl)) rfl ?_; intro f h
          refine s_pure h (ru_val (.bool true) (ru_neq (h.ev rfl) (h.ev rfl)) (congrArg Value.bool (own_z hg z0))) rfl ?_; intro f h
          refine s_nil ?_
          refine hK8 _ _ ?_
          refine wpIn_cond_true (h.ev rfl) ?_
          refine c_seq fun K11 hK11 => ?_
          refine c_region ?_
          have hz9 := own_z6 hg z0
          refine s_pure h (ru_move (h.ev rfl)) rfl ?_; intro f h
          refine s_pure h (ru_assign (h.ev rfl)) rfl ?_; intro f h
          refine s_pure h (ru_assign (h.ev rfl)) rfl ?_; intro f h
          refine s_nil ?_
          refine hK11 _ _ ?_
          refine wpIn_ret ?_
          refine t_ret ?_
          exact e_tmps rfl h s rfl rfl (kpP_own (by have h9 := kp_none (L := L) x r0 hm1 hm4 (of_decide_eq_true z0); exact ⟨h9.1.trans hz9.symm, h9.2⟩) ((s.nilSl 39 33).sel [0] rfl (by decide)))
      · skip
        refine c_region ?_
        refine s_load_row 1 h s row24 rfl rfl (rfl) rfl ?_; intro f h
        refine s_call h s fnc16 (ret_val (.bool true) (cright_any L vo _ (hO.keep s.ext) hL hb) (congrArg Value.bool r0)) rfl rfl ?_; intro f w1 v9 hT hE h s; obtain rfl := hT
        refine s_pure h (ru_val (.bool false) (ru_not (h.ev rfl)) rfl) rfl ?_; intro f h
        refine s_pure h (ru_move (h.ev rfl)) rfl ?_; intro f h
        refine s_on h rfl rfl rfl ?_
        refine s_pure h (ru_move (h.ev rfl)) rfl ?_; intro f h
        refine s_on h rfl rfl rfl ?_
        refine s_pure h (ru_val (.bool false) (ru_lss (h.ev rfl) (h.ev rfl)) (congrArg Value.bool (decide_eq_false (by have := of_decide_eq_false m0; omega)))) rfl ?_; intro f h
        refine s_pure h (ru_pick_f (h.ev rfl) (h.ev rfl)) rfl ?_; intro f h
        refine s_pure h (ru_move (h.ev rfl)) rfl ?_; intro f h
        refine s_on h rfl rfl rfl ?_
        refine s_pure h (ru_move (h.ev rfl)) rfl ?_; intro f h
        refine s_on h rfl rfl rfl ?_
        refine s_pure h (ru_val (.bool true) (ru_gtr (h.ev rfl) (h.ev rfl)) (congrArg Value.bool (decide_eq_true (by have := of_decide_eq_true m1; omega)))) rfl ?_; intro f h
        refine s_pure h (ru_pick_f (h.ev rfl) (h.ev rfl)) rfl ?_; intro f h
        refine s_nil ?_
        refine hK3 _ _ ?_
        refine wpIn_cond_true (h.ev rfl) ?_
        refine c_seq fun K12 hK12 => ?_
        refine c_region ?_
        refine s_pure h (ru_assign (h.ev rfl)) rfl ?_; intro f h
        refine s_pure h (ru_assign (h.ev rfl)) rfl ?_; intro f h
        refine s_nil ?_
        refine hK12 _ _ ?_
        refine wpIn_ret ?_
        refine t_ret ?_
        exact e_tmps rfl h s rfl rfl (kpP_own (kp_bad x (.inr (.inr (of_decide_eq_true m1)))) ((s.nilSl 39 33).sel [0] rfl (by decide)))
    · skip
      refine c_region ?_
      refine s_load_row 1 h s row24 rfl rfl (rfl) rfl ?_; intro f h
      refine s_call h s fnc16 (ret_val (.bool true) (cright_any L vo _ (hO.keep s.ext) hL hb) (congrArg Value.bool r0)) rfl rfl ?_; intro f w1 v9 hT hE h s; obtain rfl := hT
      refine s_pure h (ru_val (.bool false) (ru_not (h.ev rfl)) rfl) rfl ?_; intro f h
      refine s_pure h (ru_move (h.ev rfl)) rfl ?_; intro f h
      refine s_on h rfl rfl rfl ?_
      refine s_pure h (ru_move (h.ev rfl)) rfl ?_; intro f h
      refine s_on h rfl rfl rfl ?_
      refine s_pure h (ru_val (.bool true) (ru_lss (h.ev rfl) (h.ev rfl)) (congrArg Value.bool (decide_eq_true (by have := of_decide_eq_true m0; omega)))) rfl ?_; intro f h
      refine s_pure h (ru_pick_f (h.ev rfl) (h.ev rfl)) rfl ?_; intro f h
      refine s_pure h (ru_move (h.ev rfl)) rfl ?_; intro f h
      refine s_off (b := false) h rfl rfl rfl rfl ?_; intro f h
      refine s_off (b := false) h rfl rfl rfl rfl ?_; intro f h
      refine s_pure h (ru_pick_t (h.ev rfl) (h.ev rfl)) rfl ?_; intro f h
      refine s_nil ?_
      refine hK3 _ _ ?_
      refine wpIn_cond_true (h.ev rfl) ?_
      refine c_seq fun K13 hK13 => ?_
      refine c_region ?_
      refine s_pure h (ru_assign (h.ev rfl)) rfl ?_; intro f h
      refine s_pure h (ru_assign (h.ev rfl)) rfl ?_; intro f h
      refine s_nil ?_
      refine hK13 _ _ ?_
      refine wpIn_ret ?_
      refine t_ret ?_
      exact e_tmps rfl h s rfl rfl (kpP_own (kp_bad x (.inr (.inl (of_decide_eq_true m0)))) ((s.nilSl 39 33).sel [0] rfl (by decide)))
end Go.Proofs.YtndbijifgalpbaaGreat
