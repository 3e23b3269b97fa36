/- What LookupWalks answers: for all arguments. -/
import Derived.Test.YtndbijifgalpbaaXb
import Derived.Test.YtndbijifgalpbaaXl
set_option linter.unusedVariables false
set_option linter.unusedSimpArgs false
set_option linter.unusedSectionVars false
namespace Go.Proofs.Ytndbijifgalpbaa
open Go.RowKit
set_option maxHeartbeats 2000000 in
theorem lwalks_any (L : List N3) (vo : Value) (no hops : Int) (x : Id) (w : World) (hO : RdO w vo L) : Calls Try.prog 3 [.agg #[vo], .int .i64 no, .int .i64 hops, idV x].toArray w (Ret w (is (.bool true))) := by
  refine c_enter Try.func3 rfl Try.ntmps3 rfl [(0, .agg #[vo]), (1, .int .i64 no), (2, .int .i64 hops), (3, idV x)] (by simp) fun f h => ?_
  have s := St.start w
  refine c_seq fun K1 hK1 => ?_
  refine c_region ?_
  refine s_box (#[vo]) h s rfl rfl rfl ?_; intro f w1 b4 h s
  refine s_box (idArr x) h s rfl rfl rfl ?_; intro f w1 b7 h s
  refine s_pure h (ru_assign (h.ev rfl)) rfl ?_; intro f h
  refine s_nil ?_
  refine hK1 _ _ ?_
  refine c_seq fun K2 hK2 => ?_
  refine c_region ?_
  refine s_load_row 1 h s row24 rfl rfl (rfl) rfl ?_; intro f h
  refine s_call h s fnc7 (ofew_any L vo _ (hO.keep s.ext)) rfl rfl ?_; rintro f w1 v15 ⟨vm, rfl, hOw⟩ hE h sq; replace s := s.sl_new hE hOw; clear hOw
  obtain ⟨M, hM⟩ : ∃ x9, x9 = (L.take (min L.length 18)).map few3 := ⟨_, rfl⟩
  rw [← hM] at s
  have hMf : FewO M := by rw [hM]; exact few_few L
  have hM18 := hMf.len
  have hM40 : M.length ≤ 40 := by omega
  have hMb := hMf.rb
  have hMr : ∀ y ∈ M, RdN w y := by rw [hM]; exact few3_map (fun y hy => hO.2 y (List.mem_of_mem_take hy))
  refine s_store_row 2 h s row24 rfl rfl rfl (rfl) (rfl) (ov_ones (own_one (s.getSl 0 rfl))) ?_; intro w1 s
  refine s_nil ?_
  refine hK2 _ _ ?_
  refine c_seq fun K3 hK3 => ?_
  refine c_region ?_
  refine s_load_row 2 h s row24 rfl rfl (rfl) rfl ?_; intro f h
  refine s_pure h (ru_move (h.ev rfl)) rfl ?_; intro f h
  refine s_load_row 1 h s row26 rfl rfl (by first | exact idArr_size _ | exact bytesF_size _ _) rfl ?_; intro f h
  refine s_pure h (ru_move (h.ev rfl)) rfl ?_; intro f h
  refine s_call h s fnc8 (cwalk_any M vm x no hops _ (⟨RdZ.of_own (s.getSl 0 rfl), fun y hy => (hMr y hy).keep s.ext⟩ : RdO _ vm M) hM40 hMb) rfl rfl ?_; rintro f w1 v21 ⟨vp, kp, rfl, hG⟩ hE h sq; replace s := s.add hG; clear hG
  refine s_pure h (ru_move (h.ev rfl)) rfl ?_; intro f h
  refine s_pure h (ru_extract (h.ev rfl) rfl) rfl ?_; intro f h
  refine s_pure h (ru_extract (h.ev rfl) rfl) rfl ?_; intro f h
  refine s_pure h (ru_extract (h.ev rfl) rfl) rfl ?_; intro f h
  refine s_alloc (mbArr zMb) h s zero30 rfl rfl ?_; intro f w1 b10 h s
  refine s_pure h (ru_assign (h.ev rfl)) rfl ?_; intro f h
  refine s_store_row 0 h s row30 rfl rfl rfl (mbArr_size _) (mbArr_size _) (mbArr_ones _) ?_; intro w1 s
  refine s_pure h (ru_assign (h.ev rfl)) rfl ?_; intro f h
  refine s_nil ?_
  refine hK3 _ _ ?_
  refine c_seq fun K4 hK4 => ?_
  refine c_seq fun K5 hK5 => ?_
  cases r0 : (ovR M : Bool)
  · skip
    refine c_region ?_
    refine s_load_row 4 h s row24 rfl rfl (rfl) rfl ?_; intro f h
    refine s_call h s fnc9 (ret_val (.bool false) (oright_any M vm _ (⟨RdZ.of_own (s.getSl 2 rfl), fun y hy => (hMr y hy).keep s.ext⟩ : RdO _ vm M) hM40 hMb) (congrArg Value.bool r0)) rfl rfl ?_; intro f w1 v9 hT hE h s; obtain rfl := hT
    refine s_pure h (ru_val (.bool true) (ru_not (h.ev rfl)) rfl) rfl ?_; intro f h
    refine s_pure h (ru_move (h.ev rfl)) rfl ?_; intro f h
    refine s_off (b := false) h rfl rfl rfl rfl ?_; intro f h
    refine s_off (b := false) h rfl rfl rfl rfl ?_; intro f h
    refine s_pure h (ru_pick_t (h.ev rfl) (h.ev rfl)) rfl ?_; intro f h
    refine s_pure h (ru_move (h.ev rfl)) rfl ?_; intro f h
    refine s_off (b := false) h rfl rfl rfl rfl ?_; intro f h
    refine s_off (b := false) h rfl rfl rfl rfl ?_; intro f h
    refine s_pure h (ru_pick_t (h.ev rfl) (h.ev rfl)) rfl ?_; intro f h
    refine s_nil ?_
    refine hK5 _ _ ?_
    refine wpIn_cond_true (h.ev rfl) ?_
    refine c_seq fun K6 hK6 => ?_
    refine c_region ?_
    have hk9 := wk_no (L := M) (x := x) (no := no) (hops := hops) (by unfold wkOk; rw [r0]; rfl)
    refine s_call h s fnc10 (ret_val (.bool true) (lalive_any _) (congrArg Value.bool (rfl))) rfl rfl ?_; intro f w1 v9 hT hE h s; obtain rfl := hT
    refine s_pure h (ru_move (h.ev rfl)) rfl ?_; intro f h
    refine s_on h rfl rfl rfl ?_
    refine s_pure h (ru_move (h.ev rfl)) rfl ?_; intro f h
    refine s_on h rfl rfl rfl ?_
    refine s_pure h (ru_val (.bool true) (ru_eql (h.ev rfl) (h.ev rfl)) (congrArg Value.bool (by rw [hk9.1]; rfl))) rfl ?_; intro f h
    refine s_pure h (ru_pick_t (h.ev rfl) (h.ev rfl)) rfl ?_; intro f h
    refine s_pure h (ru_move (h.ev rfl)) rfl ?_; intro f h
    refine s_on h rfl rfl rfl ?_
    refine s_pure h (ru_move (h.ev rfl)) rfl ?_; intro f h
    refine s_on h rfl rfl rfl ?_
    refine s_pure h (ru_lenZ ((s.getG 1 rfl)) Try.underlying28 (h.ev rfl)) rfl ?_; intro f h
    refine s_on h rfl rfl rfl ?_
    refine s_pure h (ru_val (.bool true) (ru_eql (h.ev rfl) (h.ev rfl)) (congrArg Value.bool (by rw [hk9.2.2]; rfl))) rfl ?_; intro f h
    refine s_pure h (ru_pick_t (h.ev rfl) (h.ev rfl)) rfl ?_; intro f h
    refine s_pure h (ru_move (h.ev rfl)) rfl ?_; intro f h
    refine s_on h rfl rfl rfl ?_
    refine s_load_row 0 h s row30 rfl rfl (mbArr_size _) rfl ?_; intro f h
    refine s_on h rfl rfl rfl ?_
    refine s_pure h (ru_build_mb0 sttM) rfl ?_; intro f h
    refine s_on h rfl rfl rfl ?_
    refine s_pure h (ru_val (.bool true) (ru_eqlW (eqM _ _) (by kernel_rfl) (by decide) (h.ev rfl) (h.ev rfl) (decide ((wkM M x no hops) = zMb)) (mbEq _ _)) (congrArg Value.bool (by rw [hk9.2.1]; rfl))) rfl ?_; intro f h
    refine s_pure h (ru_pick_t (h.ev rfl) (h.ev rfl)) rfl ?_; intro f h
    refine s_pure h (ru_assign (h.ev rfl)) rfl ?_; intro f h
    refine s_nil ?_
    refine hK6 _ _ ?_
    refine wpIn_ret ?_
    refine t_ret ?_
    exact e_tmp rfl h s rfl (rfl)
  · skip
    cases m0 : (decide (hops < 0) : Bool)
    · skip
      cases m1 : (decide (16 < hops) : Bool)
      · skip
        refine c_region ?_
        refine s_load_row 4 h s row24 rfl rfl (rfl) rfl ?_; intro f h
        refine s_call h s fnc9 (ret_val (.bool true) (oright_any M vm _ (⟨RdZ.of_own (s.getSl 2 rfl), fun y hy => (hMr y hy).keep s.ext⟩ : RdO _ vm M) hM40 hMb) (congrArg Value.bool r0)) rfl rfl ?_; intro f w1 v9 hT hE h s; obtain rfl := hT
        refine s_pure h (ru_val (.bool false) (ru_not (h.ev rfl)) rfl) rfl ?_; intro f h
        refine s_pure h (ru_move (h.ev rfl)) rfl ?_; intro f h
        refine s_on h rfl rfl rfl ?_
        refine s_pure h (ru_move (h.ev rfl)) rfl ?_; intro f h
        refine s_on h rfl rfl rfl ?_
        refine s_pure h (ru_val (.bool false) (ru_lss (h.ev rfl) (h.ev rfl)) (congrArg Value.bool (decide_eq_false (by have := of_decide_eq_false m0; omega)))) rfl ?_; intro f h
        refine s_pure h (ru_pick_f (h.ev rfl) (h.ev rfl)) rfl ?_; intro f h
        refine s_pure h (ru_move (h.ev rfl)) rfl ?_; intro f h
        refine s_on h rfl rfl rfl ?_
        refine s_pure h (ru_move (h.ev rfl)) rfl ?_; intro f h
        refine s_on h rfl rfl rfl ?_
        refine s_pure h (ru_val (.bool false) (ru_gtr (h.ev rfl) (h.ev rfl)) (congrArg Value.bool (decide_eq_false (by have := of_decide_eq_false m1; omega)))) rfl ?_; intro f h
        refine s_pure h (ru_pick_f (h.ev rfl) (h.ev rfl)) rfl ?_; intro f h
        refine s_nil ?_
        refine hK5 _ _ ?_
        refine wpIn_cond_false (h.ev rfl) ?_
        refine wpIn_skip ?_
        refine hK4 _ _ ?_
        refine c_seq fun K7 hK7 => ?_
        refine c_region ?_
        have hm0 : 0 ≤ hops := by have := of_decide_eq_false m0; omega
        have hm1 : hops ≤ 16 := by have := of_decide_eq_false m1; omega
        have hrs := (rl_iff r0).rs
        have hk9 := wk_ok (L := M) (x := x) (no := no) (hops := hops) (by unfold wkOk; rw [r0, decide_eq_true hm0, decide_eq_true hm1]; rfl)
        refine s_load_row 4 h s row24 rfl rfl (rfl) rfl ?_; intro f h
        refine s_pure h (ru_move (h.ev rfl)) rfl ?_; intro f h
        refine s_load_row 3 h s row26 rfl rfl (by first | exact idArr_size _ | exact bytesF_size _ _) rfl ?_; intro f h
        refine s_pure h (ru_move (h.ev rfl)) rfl ?_; intro f h
        refine s_call h s fnc11 (rwalk_any M vm no x hops.toNat hops _ (⟨RdZ.of_own (s.getSl 2 rfl), fun y hy => (hMr y hy).keep s.ext⟩ : RdO _ vm M) hM40 hrs hMb (by omega) (by omega)) rfl rfl ?_; rintro f w1 v55 ⟨vq, rfl, hOw⟩ hE h sq; replace s := s.sl_new hE hOw; clear hOw
        refine s_alloc (wtArr nilV zMb 0) h s zero37 rfl rfl ?_; intro f w1 b12 h s
        refine s_store_row 0 h s row37 rfl rfl rfl (wtArr_size _ _ _) (wtArr_size _ _ _) (wtArr_ones _ _ (own_one (s.getSl 1 rfl))) ?_; intro w1 s
        refine s_nil ?_
        refine hK7 _ _ ?_
        refine c_seq fun K8 hK8 => ?_
        refine c_seq fun K9 hK9 => ?_
        refine c_region ?_
        refine s_pure h (ru_move (h.ev rfl)) rfl ?_; intro f h
        refine s_pure h (ru_field fld37_2 (h.ev rfl)) rfl ?_; intro f h
        refine s_load_at1 (V := .int .i64 (wlE M x no hops.toNat)) (cell_of_has (Has.of_own s 0 rfl) 34 (wt_e _ _ _)) h one31 rfl rfl ?_; intro f h
        refine s_pure h (ru_val (.bool false) (ru_neq (h.ev rfl) (h.ev rfl)) (congrArg Value.bool (by rw [hk9.1]; simp))) rfl ?_; intro f h
        refine s_pure h (ru_move (h.ev rfl)) rfl ?_; intro f h
        refine s_on h rfl rfl rfl ?_
        refine s_load_row 2 h s row30 rfl rfl (mbArr_size _) rfl ?_; intro f h
        refine s_on h rfl rfl rfl ?_
        refine s_pure h (ru_field fld37_1 (h.ev rfl)) rfl ?_; intro f h
        refine s_on h rfl rfl rfl ?_
        refine s_load_at (Has.subL (Has.of_own s 0 rfl) 1 33 (D := mbArr (wlM M x no hops.toNat)) (wt_m _ _ _)) h row30 rfl (mbArr_size _) rfl ?_; intro f h
        refine s_on h rfl rfl rfl ?_
        refine s_pure h (ru_val (.bool false) (ru_neqW (eqM _ _) (by kernel_rfl) (by decide) (h.ev rfl) (h.ev rfl) (decide ((wkM M x no hops) = (wlM M x no hops.toNat))) (mbEq _ _)) (congrArg Value.bool (by rw [hk9.2.1]; simp))) rfl ?_; intro f h
        refine s_pure h (ru_pick_f (h.ev rfl) (h.ev rfl)) rfl ?_; intro f h
        refine s_pure h (ru_move (h.ev rfl)) rfl ?_; intro f h
        refine s_on h rfl rfl rfl ?_
        refine s_pure h (ru_move (h.ev rfl)) rfl ?_; intro f h
        refine s_on h rfl rfl rfl ?_
        refine s_pure h (ru_lenZ ((s.getG 3 rfl)) Try.underlying28 (h.ev rfl)) rfl ?_; intro f h
        refine s_on h rfl rfl rfl ?_
        refine s_pure h (ru_field fld37_0 (h.ev rfl)) rfl ?_; intro f h
        refine s_on h rfl rfl rfl ?_
        refine s_load_at1 (V := vq) (cell_of_has (Has.of_own s 0 rfl) 0 (wt_p _ _ _)) h one28 rfl rfl ?_; intro f h
        refine s_on h rfl rfl rfl ?_
        refine s_len_sl 1 h s Try.underlying28 rfl rfl rfl ?_; intro f h
        refine s_on h rfl rfl rfl ?_
        refine s_pure h (ru_val (.bool false) (ru_neq (h.ev rfl) (h.ev rfl)) (congrArg Value.bool (by rw [hk9.2.2]; simp))) rfl ?_; intro f h
        refine s_pure h (ru_pick_f (h.ev rfl) (h.ev rfl)) rfl ?_; intro f h
        refine s_pure h (ru_move (h.ev rfl)) rfl ?_; intro f h
        refine s_on h rfl rfl rfl ?_
        refine s_call h s fnc10 (ret_val (.bool true) (lalive_any _) (congrArg Value.bool (rfl))) rfl rfl ?_; intro f w1 v9 hT hE h s; obtain rfl := hT
        refine s_on h rfl rfl rfl ?_
        refine s_pure h (ru_val (.bool false) (ru_not (h.ev rfl)) rfl) rfl ?_; intro f h
        refine s_pure h (ru_pick_f (h.ev rfl) (h.ev rfl)) rfl ?_; intro f h
        refine s_nil ?_
        refine hK9 _ _ ?_
        refine wpIn_cond_false (h.ev rfl) ?_
        refine wpIn_skip ?_
        refine hK8 _ _ ?_
        refine c_seq fun K10 hK10 => ?_
        refine c_seq fun K11 hK11 => ?_
        refine c_region ?_
        refine s_pure h (ru_move (h.ev rfl)) rfl ?_; intro f h
        refine s_pure h (ru_lenZ ((s.getG 3 rfl)) Try.underlying28 (h.ev rfl)) rfl ?_; intro f h
        refine s_pure h (ru_move (h.ev rfl)) rfl ?_; intro f h
        refine s_nil ?_
        refine hK11 _ _ ?_
        refine wpIn_block ?_
        refine wpIn_loop_ghost (fun nn aa ww => ∃ k : Nat, Sl 94 aa [(0, .agg #[vo]), (1, .int .i64 no), (2, .int .i64 hops), (3, idV x), (4, .pointer (some ⟨b4, 0, none⟩)), (7, .pointer (some ⟨b7, 0, none⟩)), (10, .pointer (some ⟨b10, 0, none⟩)), (12, .pointer (some ⟨b12, 0, none⟩)), (70, vq), (9, vp), (78, vp), (79, .int .i64 ((wkP M x no hops).length : Int)), (80, .int .i64 (k : Int))] ∧ St w [.blk b12 (.cells (wtArr vq (wlM M x no hops.toNat) (wlE M x no hops.toNat)) 37), .sl vq 3 1 (wlP M x no hops.toNat).length (intC (wlP M x no hops.toNat)), .blk b10 (.cells ((mbArr (wkM M x no hops))) 30), (.grp kp (fun w9 => RdZ w9 vp 1 (wkP M x no hops).length (intC (wkP M x no hops)))), .sl vm 46 68 M.length (n3Cells M), .blk b7 (.cells (idArr x) 26), .blk b4 (.cells (#[vm]) 24)] ww ∧ nn = (wkP M x no hops).length - k ∧ k ≤ (wkP M x no hops).length) ((wkP M x no hops).length - (0)) ⟨0, h.only ⟨rfl, rfl, rfl, rfl, rfl, rfl, rfl, rfl, rfl, rfl, rfl, rfl, slot_int rfl (by omega), trivial⟩, s.as ⟨rfl, rfl, rfl, rfl, rfl, rfl, rfl, trivial⟩, rfl, Nat.zero_le _⟩ ?_
        rintro _ f w1 ⟨k, h, s, hnn, hp0⟩
        refine c_seq fun K12 hK12 => ?_
        refine c_region ?_
        refine s_pure h (ru_lss (h.ev rfl) (h.ev rfl)) rfl ?_; intro f h
        refine s_nil ?_
        refine hK12 _ _ ?_
        refine c_seq fun K13 hK13 => ?_
        refine c_cond h rfl (fun hc => ?_) (fun hc => ?_)
        · replace hc := of_decide_eq_true hc
          refine wpIn_skip ?_
          refine hK13 _ _ ?_
          refine c_seq fun K14 hK14 => ?_
          refine wpIn_block ?_
          refine c_seq fun K15 hK15 => ?_
          refine c_region ?_
          have hkl : k < (wkP M x no hops).length := by omega
          have hkl2 : k < (wlP M x no hops.toNat).length := by rw [← hk9.2.2]; exact hkl
          have hpl := way_bd M x no hops
          refine s_pure h (ru_move (h.ev rfl)) rfl ?_; intro f h
          refine s_pure h (ru_assign (h.ev rfl)) rfl ?_; intro f h
          refine s_nil ?_
          refine hK15 _ _ ?_
          refine c_seq fun K16 hK16 => ?_
          refine c_walkN 10 [[], [], [0, 1], [0, 1, 2], [], [4], [], [4, 5, 6], [4, 5, 6, 7], [0, 1, 2, 3, 4, 5, 6, 7, 8]] h (by kernel_rfl) (by kernel_rfl) (by kernel_rfl) ?_
          refine w_pure h (ru_move (h.ev rfl)) rfl ?_; intro f h
          refine w_pure h (ru_move (h.ev rfl)) rfl ?_; intro f h
          refine w_pure h (ru_ixz ((s.getG 3 rfl)) (k) Try.underlying28 szo3 (h.ev rfl) (h.ev rfl) (by omega) (by omega)) rfl ?_; intro f h
          refine w_load_at1 (((s.getG 3 rfl)).el1 (k) (V := .int .i64 ((wkP M x no hops).getD k 0)) (ns_el (wkP M x no hops) k hkl)) h one3 rfl rfl ?_; intro f h
          refine w_pure h (ru_field fld37_0 (h.ev rfl)) rfl ?_; intro f h
          refine w_load_at1 (V := vq) (cell_of_has (Has.of_own s 0 rfl) 0 (wt_p _ _ _)) h one28 rfl rfl ?_; intro f h
          refine w_pure h (ru_move (h.ev rfl)) rfl ?_; intro f h
          refine w_pure h (ru_ixz (RdZ.of_own (s.getSl 1 rfl)) (k) Try.underlying28 szo3 (h.ev rfl) (h.ev rfl) (by omega) (by omega)) rfl ?_; intro f h
          refine w_load_at1 ((RdZ.of_own (s.getSl 1 rfl)).el1 (k) (V := .int .i64 ((wlP M x no hops.toNat).getD k 0)) (ns_el (wlP M x no hops.toNat) k (by rw [← hk9.2.2]; exact hkl))) h one3 rfl rfl ?_; intro f h
          refine w_pure h (ru_val (.bool false) (ru_neq (h.ev rfl) (h.ev rfl)) (congrArg Value.bool (by rw [hk9.2.2]; simp))) rfl ?_; intro f h
          refine w_nil s fun w1 s => ?_
          refine s_nil ?_
          refine hK16 _ _ ?_
          refine wpIn_cond_false (h.ev rfl) ?_
          refine wpIn_skip ?_
          refine b_norm ?_
          refine hK14 _ _ ?_
          refine c_region ?_
          refine s_pure h (ru_add (h.ev rfl) (h.ev rfl) (by omega)) rfl ?_; intro f h
          refine s_pure h (ru_move (h.ev rfl)) rfl ?_; intro f h
          refine s_nil ?_
          refine t_norm ?_
          exact ⟨_, by omega, ⟨k + 1, h.only ⟨rfl, rfl, rfl, rfl, rfl, rfl, rfl, rfl, rfl, rfl, rfl, rfl, slot_int rfl (by omega), trivial⟩, St.as s ⟨rfl, rfl, rfl, rfl, rfl, rfl, rfl, trivial⟩, rfl, by omega⟩⟩
        · replace hc := of_decide_eq_false hc
          refine wpIn_exit ?_
          refine t_exit ?_
          refine t_exit ?_
          refine b_exit ?_
          refine hK10 _ _ ?_
          refine c_seq fun K17 hK17 => ?_
          refine c_region ?_
          refine s_pure h (ru_assign (h.ev rfl)) rfl ?_; intro f h
          refine s_nil ?_
          refine hK17 _ _ ?_
          refine wpIn_ret ?_
          exact e_tmp rfl h s rfl (rfl)
      · skip
        refine c_region ?_
        refine s_load_row 4 h s row24 rfl rfl (rfl) rfl ?_; intro f h
        refine s_call h s fnc9 (ret_val (.bool true) (oright_any M vm _ (⟨RdZ.of_own (s.getSl 2 rfl), fun y hy => (hMr y hy).keep s.ext⟩ : RdO _ vm M) hM40 hMb) (congrArg Value.bool r0)) rfl rfl ?_; intro f w1 v9 hT hE h s; obtain rfl := hT
        refine s_pure h (ru_val (.bool false) (ru_not (h.ev rfl)) rfl) rfl ?_; intro f h
        refine s_pure h (ru_move (h.ev rfl)) rfl ?_; intro f h
        refine s_on h rfl rfl rfl ?_
        refine s_pure h (ru_move (h.ev rfl)) rfl ?_; intro f h
        refine s_on h rfl rfl rfl ?_
        refine s_pure h (ru_val (.bool false) (ru_lss (h.ev rfl) (h.ev rfl)) (congrArg Value.bool (decide_eq_false (by have := of_decide_eq_false m0; omega)))) rfl ?_; intro f h
        refine s_pure h (ru_pick_f (h.ev rfl) (h.ev rfl)) rfl ?_; intro f h
        refine s_pure h (ru_move (h.ev rfl)) rfl ?_; intro f h
        refine s_on h rfl rfl rfl ?_
        refine s_pure h (ru_move (h.ev rfl)) rfl ?_; intro f h
        refine s_on h rfl rfl rfl ?_
        refine s_pure h (ru_val (.bool true) (ru_gtr (h.ev rfl) (h.ev rfl)) (congrArg Value.bool (decide_eq_true (by have := of_decide_eq_true m1; omega)))) rfl ?_; intro f h
        refine s_pure h (ru_pick_f (h.ev rfl) (h.ev rfl)) rfl ?_; intro f h
        refine s_nil ?_
        refine hK5 _ _ ?_
        refine wpIn_cond_true (h.ev rfl) ?_
        refine c_seq fun K18 hK18 => ?_
        refine c_region ?_
        have hk9 := wk_no (L := M) (x := x) (no := no) (hops := hops) (by unfold wkOk; rw [decide_eq_false (by have := of_decide_eq_true m1; omega : ¬ hops ≤ 16), Bool.and_false, Bool.and_false])
        refine s_call h s fnc10 (ret_val (.bool true) (lalive_any _) (congrArg Value.bool (rfl))) rfl rfl ?_; intro f w1 v9 hT hE h s; obtain rfl := hT
        refine s_pure h (ru_move (h.ev rfl)) rfl ?_; intro f h
        refine s_on h rfl rfl rfl ?_
        refine s_pure h (ru_move (h.ev rfl)) rfl ?_; intro f h
        refine s_on h rfl rfl rfl ?_
        refine s_pure h (ru_val (.bool true) (ru_eql (h.ev rfl) (h.ev rfl)) (congrArg Value.bool (by rw [hk9.1]; rfl))) rfl ?_; intro f h
        refine s_pure h (ru_pick_t (h.ev rfl) (h.ev rfl)) rfl ?_; intro f h
        refine s_pure h (ru_move (h.ev rfl)) rfl ?_; intro f h
        refine s_on h rfl rfl rfl ?_
        refine s_pure h (ru_move (h.ev rfl)) rfl ?_; intro f h
        refine s_on h rfl rfl rfl ?_
        refine s_pure h (ru_lenZ ((s.getG 1 rfl)) Try.underlying28 (h.ev rfl)) rfl ?_; intro f h
        refine s_on h rfl rfl rfl ?_
        refine s_pure h (ru_val (.bool true) (ru_eql (h.ev rfl) (h.ev rfl)) (congrArg Value.bool (by rw [hk9.2.2]; rfl))) rfl ?_; intro f h
        refine s_pure h (ru_pick_t (h.ev rfl) (h.ev rfl)) rfl ?_; intro f h
        refine s_pure h (ru_move (h.ev rfl)) rfl ?_; intro f h
        refine s_on h rfl rfl rfl ?_
        refine s_load_row 0 h s row30 rfl rfl (mbArr_size _) rfl ?_; intro f h
        refine s_on h rfl rfl rfl ?_
        refine s_pure h (ru_build_mb0 sttM) rfl ?_; intro f h
        refine s_on h rfl rfl rfl ?_
        refine s_pure h (ru_val (.bool true) (ru_eqlW (eqM _ _) (by kernel_rfl) (by decide) (h.ev rfl) (h.ev rfl) (decide ((wkM M x no hops) = zMb)) (mbEq _ _)) (congrArg Value.bool (by rw [hk9.2.1]; rfl))) rfl ?_; intro f h
        refine s_pure h (ru_pick_t (h.ev rfl) (h.ev rfl)) rfl ?_; intro f h
        refine s_pure h (ru_assign (h.ev rfl)) rfl ?_; intro f h
        refine s_nil ?_
        refine hK18 _ _ ?_
        refine wpIn_ret ?_
        refine t_ret ?_
        exact e_tmp rfl h s rfl (rfl)
    · skip
      refine c_region ?_
      refine s_load_row 4 h s row24 rfl rfl (rfl) rfl ?_; intro f h
      refine s_call h s fnc9 (ret_val (.bool true) (oright_any M vm _ (⟨RdZ.of_own (s.getSl 2 rfl), fun y hy => (hMr y hy).keep s.ext⟩ : RdO _ vm M) hM40 hMb) (congrArg Value.bool r0)) rfl rfl ?_; intro f w1 v9 hT hE h s; obtain rfl := hT
      refine s_pure h (ru_val (.bool false) (ru_not (h.ev rfl)) rfl) rfl ?_; intro f h
      refine s_pure h (ru_move (h.ev rfl)) rfl ?_; intro f h
      refine s_on h rfl rfl rfl ?_
      refine s_pure h (ru_move (h.ev rfl)) rfl ?_; intro f h
      refine s_on h rfl rfl rfl ?_
      refine s_pure h (ru_val (.bool true) (ru_lss (h.ev rfl) (h.ev rfl)) (congrArg Value.bool (decide_eq_true (by have := of_decide_eq_true m0; omega)))) rfl ?_; intro f h
      refine s_pure h (ru_pick_f (h.ev rfl) (h.ev rfl)) rfl ?_; intro f h
      refine s_pure h (ru_move (h.ev rfl)) rfl ?_; intro f h
      refine s_off (b := false) h rfl rfl rfl rfl ?_; intro f h
      refine s_off (b := false) h rfl rfl rfl rfl ?_; intro f h
      refine s_pure h (ru_pick_t (h.ev rfl) (h.ev rfl)) rfl ?_; intro f h
      refine s_nil ?_
      refine hK5 _ _ ?_
      refine wpIn_cond_true (h.ev rfl) ?_
      refine c_seq fun K19 hK19 => ?_
      refine c_region ?_
      have hk9 := wk_no (L := M) (x := x) (no := no) (hops := hops) (by unfold wkOk; rw [decide_eq_false (by have := of_decide_eq_true m0; omega : ¬ 0 ≤ hops), Bool.false_and, Bool.and_false])
      refine s_call h s fnc10 (ret_val (.bool true) (lalive_any _) (congrArg Value.bool (rfl))) rfl rfl ?_; intro f w1 v9 hT hE h s; obtain rfl := hT
      refine s_pure h (ru_move (h.ev rfl)) rfl ?_; intro f h
      refine s_on h rfl rfl rfl ?_
      refine s_pure h (ru_move (h.ev rfl)) rfl ?_; intro f h
      refine s_on h rfl rfl rfl ?_
      refine s_pure h (ru_val (.bool true) (ru_eql (h.ev rfl) (h.ev rfl)) (congrArg Value.bool (by rw [hk9.1]; rfl))) rfl ?_; intro f h
      refine s_pure h (ru_pick_t (h.ev rfl) (h.ev rfl)) rfl ?_; intro f h
      refine s_pure h (ru_move (h.ev rfl)) rfl ?_; intro f h
      refine s_on h rfl rfl rfl ?_
      refine s_pure h (ru_move (h.ev rfl)) rfl ?_; intro f h
      refine s_on h rfl rfl rfl ?_
      refine s_pure h (ru_lenZ ((s.getG 1 rfl)) Try.underlying28 (h.ev rfl)) rfl ?_; intro f h
      refine s_on h rfl rfl rfl ?_
      refine s_pure h (ru_val (.bool true) (ru_eql (h.ev rfl) (h.ev rfl)) (congrArg Value.bool (by rw [hk9.2.2]; rfl))) rfl ?_; intro f h
      refine s_pure h (ru_pick_t (h.ev rfl) (h.ev rfl)) rfl ?_; intro f h
      refine s_pure h (ru_move (h.ev rfl)) rfl ?_; intro f h
      refine s_on h rfl rfl rfl ?_
      refine s_load_row 0 h s row30 rfl rfl (mbArr_size _) rfl ?_; intro f h
      refine s_on h rfl rfl rfl ?_
      refine s_pure h (ru_build_mb0 sttM) rfl ?_; intro f h
      refine s_on h rfl rfl rfl ?_
      refine s_pure h (ru_val (.bool true) (ru_eqlW (eqM _ _) (by kernel_rfl) (by decide) (h.ev rfl) (h.ev rfl) (decide ((wkM M x no hops) = zMb)) (mbEq _ _)) (congrArg Value.bool (by rw [hk9.2.1]; rfl))) rfl ?_; intro f h
      refine s_pure h (ru_pick_t (h.ev rfl) (h.ev rfl)) rfl ?_; intro f h
      refine s_pure h (ru_assign (h.ev rfl)) rfl ?_; intro f h
      refine s_nil ?_
      refine hK19 _ _ ?_
      refine wpIn_ret ?_
      refine t_ret ?_
      exact e_tmp rfl h s rfl (rfl)
end Go.Proofs.Ytndbijifgalpbaa
