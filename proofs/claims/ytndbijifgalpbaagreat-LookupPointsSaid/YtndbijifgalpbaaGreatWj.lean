/- What Point of package chord answers. -/
import Derived.Test.YtndbijifgalpbaaGreatVp
import Derived.Test.YtndbijifgalpbaaGreatWc
set_option linter.unusedVariables false
set_option linter.unusedSimpArgs false
set_option linter.unusedSectionVars false
namespace Go.Proofs.YtndbijifgalpbaaGreat
open Go.RowKit
set_option maxHeartbeats 1000000 in
theorem cpoint_any (L : List N3) (vo : Value) (no to : Int) (w : World) (hO : RdO w vo L) (hL : L.length ≤ 40) (hb : RwB L) : Calls Tryz.prog 14 [.agg #[vo], .int .i64 no, .int .i64 to].toArray w (Ret w (OvE w (RdL vo L) (cpN L no to) (cpE L no to))) := by
  refine c_enter Tryz.func14 rfl Tryz.ntmps14 rfl [(0, .agg #[vo]), (1, .int .i64 no), (2, .int .i64 to)] (by simp) fun f h => ?_
  have s := St.start w
  refine c_seq fun K1 hK1 => ?_
  refine c_region ?_
  refine s_box (#[vo]) h s rfl rfl rfl ?_; intro f w1 b3 h s
  refine s_alloc (#[nilV]) h s zero24 rfl rfl ?_; intro f w1 b6 h s
  refine s_pure h (ru_assign (h.ev rfl)) rfl ?_; intro f h
  refine s_nil ?_
  refine hK1 _ _ ?_
  refine c_seq fun K2 hK2 => ?_
  cases r0 : (ovR L : Bool)
  · skip
    refine c_region ?_
    refine s_load_row 1 h s row24 rfl rfl (rfl) rfl ?_; intro f h
    refine s_pure h (ru_move (h.ev rfl)) rfl ?_; intro f h
    refine s_call h s fnc31 (opened_any L vo no _ (hO.keep s.ext) hL hb) rfl rfl ?_; intro f w1 v14 hop hE h sq
    obtain rfl := hop.n (ce_arg r0) (by decide)
    replace s := sq
    refine s_pure h (ru_move (h.ev rfl)) rfl ?_; intro f h
    refine s_pure h (ru_extract (h.ev rfl) rfl) rfl ?_; intro f h
    refine s_pure h (ru_extract (h.ev rfl) rfl) rfl ?_; intro f h
    refine s_pure h (ru_extract (h.ev rfl) rfl) rfl ?_; intro f h
    refine s_store_row 1 h s row24 rfl rfl rfl (rfl) (rfl) (ov_ones (rfl)) ?_; intro w1 s
    refine s_pure h (ru_assign (h.ev rfl)) rfl ?_; intro f h
    refine s_pure h (ru_assign (h.ev rfl)) rfl ?_; intro f h
    refine s_nil ?_
    refine hK2 _ _ ?_
    refine c_seq fun K3 hK3 => ?_
    refine c_seq fun K4 hK4 => ?_
    refine c_region ?_
    refine s_pure h (ru_move (h.ev rfl)) rfl ?_; intro f h
    refine s_pure h (ru_val (.bool true) (ru_neq (h.ev rfl) (h.ev rfl)) (by rfl)) rfl ?_; intro f h
    refine s_nil ?_
    refine hK4 _ _ ?_
    refine wpIn_cond_true (h.ev rfl) ?_
    refine c_seq fun K5 hK5 => ?_
    refine c_region ?_
    refine s_pure h (ru_build_ov0 sttO) rfl ?_; intro f h
    refine s_pure h (ru_move (h.ev rfl)) rfl ?_; intro f h
    refine s_store_row 0 h s row24 rfl rfl rfl (rfl) (rfl) (ov_ones (rfl)) ?_; intro w1 s
    refine s_pure h (ru_assign (h.ev rfl)) rfl ?_; intro f h
    refine s_nil ?_
    refine hK5 _ _ ?_
    refine wpIn_ret ?_
    refine t_ret ?_
    exact e_row_tmp 0 rfl h s row24 rfl rfl (rfl) rfl (ovE_no s (cp_no (cp_arg r0) (by decide)) (cp_arg r0))
  · skip
    cases l0 : (livesB (memL L) no : Bool)
    · skip
      refine c_region ?_
      refine s_load_row 1 h s row24 rfl rfl (rfl) rfl ?_; intro f h
      refine s_pure h (ru_move (h.ev rfl)) rfl ?_; intro f h
      refine s_call h s fnc31 (opened_any L vo no _ (hO.keep s.ext) hL hb) rfl rfl ?_; intro f w1 v14 hop hE h sq
      obtain rfl := hop.n (ce_down r0 l0) (by decide)
      replace s := sq
      refine s_pure h (ru_move (h.ev rfl)) rfl ?_; intro f h
      refine s_pure h (ru_extract (h.ev rfl) rfl) rfl ?_; intro f h
      refine s_pure h (ru_extract (h.ev rfl) rfl) rfl ?_; intro f h
      refine s_pure h (ru_extract (h.ev rfl) rfl) rfl ?_; intro f h
      refine s_store_row 1 h s row24 rfl rfl rfl (rfl) (rfl) (ov_ones (rfl)) ?_; intro w1 s
      refine s_pure h (ru_assign (h.ev rfl)) rfl ?_; intro f h
      refine s_pure h (ru_assign (h.ev rfl)) rfl ?_; intro f h
      refine s_nil ?_
      refine hK2 _ _ ?_
      refine c_seq fun K6 hK6 => ?_
      refine c_seq fun K7 hK7 => ?_
      refine c_region ?_
      refine s_pure h (ru_move (h.ev rfl)) rfl ?_; intro f h
      refine s_pure h (ru_val (.bool true) (ru_neq (h.ev rfl) (h.ev rfl)) (by rfl)) rfl ?_; intro f h
      refine s_nil ?_
      refine hK7 _ _ ?_
      refine wpIn_cond_true (h.ev rfl) ?_
      refine c_seq fun K8 hK8 => ?_
      refine c_region ?_
      refine s_pure h (ru_build_ov0 sttO) rfl ?_; intro f h
      refine s_pure h (ru_move (h.ev rfl)) rfl ?_; intro f h
      refine s_store_row 0 h s row24 rfl rfl rfl (rfl) (rfl) (ov_ones (rfl)) ?_; intro w1 s
      refine s_pure h (ru_assign (h.ev rfl)) rfl ?_; intro f h
      refine s_nil ?_
      refine hK8 _ _ ?_
      refine wpIn_ret ?_
      refine t_ret ?_
      exact e_row_tmp 0 rfl h s row24 rfl rfl (rfl) rfl (ovE_no s (cp_no (cp_d0 r0 l0) (by decide)) (cp_d0 r0 l0))
    · skip
      refine c_region ?_
      refine s_load_row 1 h s row24 rfl rfl (rfl) rfl ?_; intro f h
      refine s_pure h (ru_move (h.ev rfl)) rfl ?_; intro f h
      refine s_call h s fnc31 (opened_any L vo no _ (hO.keep s.ext) hL hb) rfl rfl ?_; intro f w1 v14 hop hE h sq
      obtain ⟨vq, K, ks, rfl, hnk, hS⟩ := hop.y (ce_ok r0 l0)
      replace s := s.add hS
      clear hS hop
      have hlk := len_nds hnk
      have hrs := (rl_iff r0).rs
      have hio : ixL L no < L.length := of_decide_eq_true ((ix_lives hrs.nos).trans l0)
      have hRSK := hrs.nds hnk
      refine s_pure h (ru_move (h.ev rfl)) rfl ?_; intro f h
      refine s_pure h (ru_extract (h.ev rfl) rfl) rfl ?_; intro f h
      refine s_pure h (ru_extract (h.ev rfl) rfl) rfl ?_; intro f h
      refine s_pure h (ru_extract (h.ev rfl) rfl) rfl ?_; intro f h
      refine s_store_row 3 h s row24 rfl rfl rfl (rfl) (rfl) (ov_ones (own_one (s.getSl 0 rfl))) ?_; intro w1 s
      refine s_pure h (ru_assign (h.ev rfl)) rfl ?_; intro f h
      refine s_pure h (ru_assign (h.ev rfl)) rfl ?_; intro f h
      refine s_nil ?_
      refine hK2 _ _ ?_
      refine c_seq fun K9 hK9 => ?_
      refine c_seq fun K10 hK10 => ?_
      refine c_region ?_
      refine s_pure h (ru_move (h.ev rfl)) rfl ?_; intro f h
      refine s_pure h (ru_val (.bool false) (ru_neq (h.ev rfl) (h.ev rfl)) (by rfl)) rfl ?_; intro f h
      refine s_nil ?_
      refine hK10 _ _ ?_
      refine wpIn_cond_false (h.ev rfl) ?_
      refine wpIn_skip ?_
      refine hK9 _ _ ?_
      refine c_seq fun K11 hK11 => ?_
      cases n1 : (livesB (memL L) to : Bool)
      · skip
        refine c_region ?_
        have hnos := hrs.nos
        have hixe := ix_nds hnk to
        refine s_load_row 3 h s row24 rfl rfl (rfl) rfl ?_; intro f h
        refine s_pure h (ru_move (h.ev rfl)) rfl ?_; intro f h
        refine s_call h s fnc32 (ret_val (.pointer none) (cfind_any K vq to _ ⟨(RdZ.of_own (s.getSl 0 rfl)), fun y hy => (s.getG 1 rfl y hy)⟩ (by omega)) (ptr_n (by rw [hixe, hlk]; exact of_decide_eq_false ((ix_lives hnos).trans n1)))) rfl rfl ?_; intro f w1 v9 hT hE h s; obtain rfl := hT
        refine s_pure h (ru_assign (h.ev rfl)) rfl ?_; intro f h
        refine s_nil ?_
        refine hK11 _ _ ?_
        refine c_seq fun K12 hK12 => ?_
        refine c_seq fun K13 hK13 => ?_
        refine c_region ?_
        refine s_pure h (ru_move (h.ev rfl)) rfl ?_; intro f h
        refine s_pure h (ru_val (.bool true) (ru_eql_ptr0 Tryz.underlying60 (h.ev rfl) (h.ev rfl)) (rfl)) rfl ?_; intro f h
        refine s_nil ?_
        refine hK13 _ _ ?_
        refine wpIn_cond_true (h.ev rfl) ?_
        refine c_seq fun K14 hK14 => ?_
        refine c_region ?_
        refine s_pure h (ru_build_ov0 sttO) rfl ?_; intro f h
        refine s_store_row 2 h s row24 rfl rfl rfl (rfl) (rfl) (ov_ones (rfl)) ?_; intro w1 s
        refine s_pure h (ru_assign (h.ev rfl)) rfl ?_; intro f h
        refine s_nil ?_
        refine hK14 _ _ ?_
        refine wpIn_ret ?_
        refine t_ret ?_
        exact e_row_tmp 2 rfl h s row24 rfl rfl (rfl) rfl (ovE_no s (cp_no (cp_d1 r0 n1) (by decide)) (cp_d1 r0 n1))
      · skip
        refine c_region ?_
        have hnos := hrs.nos
        have hixe := ix_nds hnk to
        refine s_load_row 3 h s row24 rfl rfl (rfl) rfl ?_; intro f h
        refine s_pure h (ru_move (h.ev rfl)) rfl ?_; intro f h
        refine s_call h s fnc32 (ret_val (.pointer (some (elAddr vq ((ixL L to) * 68)))) (cfind_any K vq to _ ⟨(RdZ.of_own (s.getSl 0 rfl)), fun y hy => (s.getG 1 rfl y hy)⟩ (by omega)) (by rw [← hixe]; exact ptr_y (by rw [hixe, hlk]; exact of_decide_eq_true ((ix_lives hnos).trans n1)))) rfl rfl ?_; intro f w1 v9 hT hE h s; obtain rfl := hT
        refine s_pure h (ru_assign (h.ev rfl)) rfl ?_; intro f h
        refine s_nil ?_
        refine hK11 _ _ ?_
        refine c_seq fun K15 hK15 => ?_
        refine c_seq fun K16 hK16 => ?_
        refine c_region ?_
        have hk0 : ixL L no < K.length := by omega
        have hi1 : ixL L to < K.length := by rw [hlk]; exact of_decide_eq_true ((ix_lives hnos).trans n1)
        have hr0 : RN (K.getD (ixL L no) z3).1 := hRSK.rn _ (n3_mem hk0)
        have hr0l := hr0.len
        have hr0f := hr0.fg.1
        refine s_pure h (ru_move (h.ev rfl)) rfl ?_; intro f h
        refine s_pure h (ru_val (.bool false) (ru_eql_ptr0 Tryz.underlying60 (h.ev rfl) (h.ev rfl)) (rfl)) rfl ?_; intro f h
        refine s_nil ?_
        refine hK16 _ _ ?_
        refine wpIn_cond_false (h.ev rfl) ?_
        refine wpIn_skip ?_
        refine hK15 _ _ ?_
        refine c_seq fun K17 hK17 => ?_
        refine c_seq fun K18 hK18 => ?_
        replace s : St w [.sl vq 46 68 K.length (n3Cells K), (.grp ks (RwL K)), .blk b6 (.cells (#[nilV]) 24), .blk b3 (.cells (#[vq]) 24)] _ := s
        refine c_regF 1 [[], [], [1], [1, 2], [], [4], [4, 5], [4, 5, 6], [1, 2, 3, 4, 5, 6, 7], [1, 2, 3, 4, 5, 6, 7, 8], [1, 2, 3, 4, 5, 6, 7, 8, 9], [1, 2, 3, 4, 5, 6, 7, 8, 9], [0, 1, 2, 3, 4, 5, 6, 7, 8, 9, 10], [0, 1, 2, 3, 4, 5, 6, 7, 8, 9, 10, 12], [0, 1, 2, 3, 4, 5, 6, 7, 8, 9, 10, 11, 12, 13]] [[], [], [], [], [], [], [], [], [], [], [], [], [], [15], []] [[], [], [], [0], [], [], [0], [0], [], [], [], [], [], [], []] [fun _ => [], fun _ => [], fun _ => [], fun _ => [], fun _ => [], fun _ => [], fun _ => [], fun _ => [], fun v => [.sl (ndS 66 (v 8)) 39 33 (ptN (K.getD (ixL L no) z3).1 (K.getD (ixL L to) z3).1.me).sc.length (mbCells (ptN (K.getD (ixL L no) z3).1 (K.getD (ixL L to) z3).1.me).sc), .sl (ndS 67 (v 8)) 39 33 (ptN (K.getD (ixL L no) z3).1 (K.getD (ixL L to) z3).1.me).fg.length (mbCells (ptN (K.getD (ixL L no) z3).1 (K.getD (ixL L to) z3).1.me).fg)], fun _ => [], fun _ => [], fun _ => [], fun _ => [], fun v => [.sl vq 46 68 (K.set (ixL L no) (((ptN (K.getD (ixL L no) z3).1 (K.getD (ixL L to) z3).1.me), (ndS 66 (v 8)), (ndS 67 (v 8))) : N3)).length (n3Cells (K.set (ixL L no) (((ptN (K.getD (ixL L no) z3).1 (K.getD (ixL L to) z3).1.me), (ndS 66 (v 8)), (ndS 67 (v 8))) : N3)))], fun _ => []] [[.sl vq 46 68 K.length (n3Cells K)]] [fun v => v 0 = .pointer (some (elAddr vq ((ixL L no) * 68))), fun v => v 1 = .pointer (some (elAddr vq ((ixL L no) * 68))), fun v => v 2 = .pointer (some (elAddr vq ((ixL L no) * 68))), fun v => v 3 = .agg (ndArr (K.getD (ixL L no) z3).1.me (K.getD (ixL L no) z3).1.pr (K.getD (ixL L no) z3).2.1 (K.getD (ixL L no) z3).2.2), fun v => v 4 = .pointer (some (elAddr vq ((ixL L to) * 68))), fun v => v 5 = .pointer (some (elAddr vq ((ixL L to) * 68))), fun v => v 6 = .pointer (some (elAddr vq ((ixL L to) * 68 + 0))), fun v => v 7 = .agg (mbArr (K.getD (ixL L to) z3).1.me), fun v => v 8 = .tuple #[.agg (ndArr (ptN (K.getD (ixL L no) z3).1 (K.getD (ixL L to) z3).1.me).me (ptN (K.getD (ixL L no) z3).1 (K.getD (ixL L to) z3).1.me).pr (ndS 66 (v 8)) (ndS 67 (v 8))), .int .i64 (ptE (K.getD (ixL L no) z3).1 (K.getD (ixL L to) z3).1.me)], fun v => v 9 = .tuple #[.agg (ndArr (ptN (K.getD (ixL L no) z3).1 (K.getD (ixL L to) z3).1.me).me (ptN (K.getD (ixL L no) z3).1 (K.getD (ixL L to) z3).1.me).pr (ndS 66 (v 8)) (ndS 67 (v 8))), .int .i64 (ptE (K.getD (ixL L no) z3).1 (K.getD (ixL L to) z3).1.me)], fun v => v 10 = .agg (ndArr (ptN (K.getD (ixL L no) z3).1 (K.getD (ixL L to) z3).1.me).me (ptN (K.getD (ixL L no) z3).1 (K.getD (ixL L to) z3).1.me).pr (ndS 66 (v 8)) (ndS 67 (v 8))), fun v => v 11 = .int .i64 (ptE (K.getD (ixL L no) z3).1 (K.getD (ixL L to) z3).1.me), fun v => v 12 = .pointer (some (elAddr vq ((ixL L no) * 68))), fun _ => True, fun v => v 14 = .int .i64 (ptE (K.getD (ixL L no) z3).1 (K.getD (ixL L to) z3).1.me)] [(.grp ks (RwL K)), .blk b6 (.cells (#[nilV]) 24), .blk b3 (.cells (#[vq]) 24)] h s rfl (by kernel_rfl) (by kernel_rfl) (by kernel_rfl) (by kernel_rfl) (And.intro ?_ (And.intro ?_ (And.intro ?_ (And.intro ?_ (And.intro ?_ (And.intro ?_ (And.intro ?_ (And.intro ?_ (And.intro ?_ (And.intro ?_ (And.intro ?_ (And.intro ?_ (And.intro ?_ (And.intro ?_ (And.intro ?_ (trivial)))))))))))))))) [0, 1, 2, 3, 4, 5, 6, 7, 8, 9, 10, 11, 12, 13, 14] (by kernel_rfl) ?_
        · intro f9 w2 vl7 E9 hs9 hd9 hl hF hR9 s
          have e8 : f9.tmps.getD 8 undef = _ := oc_old hl 8 (by kernel_rfl) (by kernel_rfl) (h.holds 8 _ rfl)
          have h := fin_slot [(8, _)] (hs9.trans h.size) (hd9.trans h.defers) (holds_lk ⟨e8, trivial⟩)
          replace s : St w ((.grp ks (RwL K)) :: .blk b6 (.cells (#[nilV]) 24) :: .blk b3 (.cells (#[vq]) 24) :: E9) _ := s
          refine s_pure h (ru_move (h.ev rfl)) rfl ?_; intro f h
          exact s_nil ⟨_, oc_out 29 rfl (h.holds 29 _ rfl), rfl, s⟩
        · intro f9 w2 vl7 E9 hs9 hd9 hl hF hR9 s
          have e8 : f9.tmps.getD 8 undef = _ := oc_old hl 8 (by kernel_rfl) (by kernel_rfl) (h.holds 8 _ rfl)
          have h := fin_slot [(8, _)] (hs9.trans h.size) (hd9.trans h.defers) (holds_lk ⟨e8, trivial⟩)
          replace s : St w ((.grp ks (RwL K)) :: .blk b6 (.cells (#[nilV]) 24) :: .blk b3 (.cells (#[vq]) 24) :: E9) _ := s
          refine s_pure h (ru_move (h.ev rfl)) rfl ?_; intro f h
          exact s_nil ⟨_, oc_out 30 rfl (h.holds 30 _ rfl), rfl, s⟩
        · intro f9 w2 vl7 E9 hs9 hd9 hl hF hR9 s
          have e30 : f9.tmps.getD 30 undef = .pointer (some (elAddr vq ((ixL L no) * 68))) := (oc_get hl 30 1 (by kernel_rfl) (by kernel_rfl)).trans (hF 1 (by decide))
          have h := fin_slot [(30, .pointer (some (elAddr vq ((ixL L no) * 68))))] (hs9.trans h.size) (hd9.trans h.defers) (holds_lk ⟨e30, trivial⟩)
          replace s : St w ((.grp ks (RwL K)) :: .blk b6 (.cells (#[nilV]) 24) :: .blk b3 (.cells (#[vq]) 24) :: E9) _ := s
          refine s_pure h (ru_nilCheck (h.ev rfl)) rfl ?_; intro f h
          exact s_nil ⟨_, oc_out 31 rfl (h.holds 31 _ rfl), rfl, s⟩
        · intro f9 w2 vl7 E9 hs9 hd9 hl hF hR9 s
          have hq9 : Own.sl vq 46 68 K.length (n3Cells K) ∈ E9 := hR9 0 (by decide) _ List.mem_cons_self
          have e31 : f9.tmps.getD 31 undef = .pointer (some (elAddr vq ((ixL L no) * 68))) := (oc_get hl 31 2 (by kernel_rfl) (by kernel_rfl)).trans (hF 2 (by decide))
          have h := fin_slot [(31, .pointer (some (elAddr vq ((ixL L no) * 68))))] (hs9.trans h.size) (hd9.trans h.defers) (holds_lk ⟨e31, trivial⟩)
          replace s : St w ((.grp ks (RwL K)) :: .blk b6 (.cells (#[nilV]) 24) :: .blk b3 (.cells (#[vq]) 24) :: E9) _ := s
          have hq8 : Own.sl vq 46 68 K.length (n3Cells K) ∈ ((.grp ks (RwL K)) :: .blk b6 (.cells (#[nilV]) 24) :: .blk b3 (.cells (#[vq]) 24) :: E9) := by simp only [List.mem_cons, List.mem_append, hq9, or_true]
          refine s_load_at ((RdZ.of_own (s.memSl hq8)).el ((ixL L no)) (by omega) (by decide) (D := ndArr (K.getD (ixL L no) z3).1.me (K.getD (ixL L no) z3).1.pr (K.getD (ixL L no) z3).2.1 (K.getD (ixL L no) z3).2.2) (n3_el K _ hk0)) h row46 rfl (ndArr_size _ _ _ _) rfl ?_; intro f h
          exact s_nil ⟨_, oc_out 32 rfl (h.holds 32 _ rfl), rfl, s⟩
        · intro f9 w2 vl7 E9 hs9 hd9 hl hF hR9 s
          have e10 : f9.tmps.getD 10 undef = _ := oc_old hl 10 (by kernel_rfl) (by kernel_rfl) (h.holds 10 _ rfl)
          have h := fin_slot [(10, _)] (hs9.trans h.size) (hd9.trans h.defers) (holds_lk ⟨e10, trivial⟩)
          replace s : St w ((.grp ks (RwL K)) :: .blk b6 (.cells (#[nilV]) 24) :: .blk b3 (.cells (#[vq]) 24) :: E9) _ := s
          refine s_pure h (ru_move (h.ev rfl)) rfl ?_; intro f h
          exact s_nil ⟨_, oc_out 33 rfl (h.holds 33 _ rfl), rfl, s⟩
        · intro f9 w2 vl7 E9 hs9 hd9 hl hF hR9 s
          have e33 : f9.tmps.getD 33 undef = .pointer (some (elAddr vq ((ixL L to) * 68))) := (oc_get hl 33 4 (by kernel_rfl) (by kernel_rfl)).trans (hF 4 (by decide))
          have h := fin_slot [(33, .pointer (some (elAddr vq ((ixL L to) * 68))))] (hs9.trans h.size) (hd9.trans h.defers) (holds_lk ⟨e33, trivial⟩)
          replace s : St w ((.grp ks (RwL K)) :: .blk b6 (.cells (#[nilV]) 24) :: .blk b3 (.cells (#[vq]) 24) :: E9) _ := s
          refine s_pure h (ru_nilCheck (h.ev rfl)) rfl ?_; intro f h
          exact s_nil ⟨_, oc_out 34 rfl (h.holds 34 _ rfl), rfl, s⟩
        · intro f9 w2 vl7 E9 hs9 hd9 hl hF hR9 s
          have hq9 : Own.sl vq 46 68 K.length (n3Cells K) ∈ E9 := hR9 0 (by decide) _ List.mem_cons_self
          have e34 : f9.tmps.getD 34 undef = .pointer (some (elAddr vq ((ixL L to) * 68))) := (oc_get hl 34 5 (by kernel_rfl) (by kernel_rfl)).trans (hF 5 (by decide))
          have h := fin_slot [(34, .pointer (some (elAddr vq ((ixL L to) * 68))))] (hs9.trans h.size) (hd9.trans h.defers) (holds_lk ⟨e34, trivial⟩)
          replace s : St w ((.grp ks (RwL K)) :: .blk b6 (.cells (#[nilV]) 24) :: .blk b3 (.cells (#[vq]) 24) :: E9) _ := s
          have hq8 : Own.sl vq 46 68 K.length (n3Cells K) ∈ ((.grp ks (RwL K)) :: .blk b6 (.cells (#[nilV]) 24) :: .blk b3 (.cells (#[vq]) 24) :: E9) := by simp only [List.mem_cons, List.mem_append, hq9, or_true]
          refine s_pure h (ru_fieldE fld46_0 (h.ev rfl) ((RdZ.of_own (s.memSl hq8)).some (by omega))) rfl ?_; intro f h
          exact s_nil ⟨_, oc_out 35 rfl (h.holds 35 _ rfl), rfl, s⟩
        · intro f9 w2 vl7 E9 hs9 hd9 hl hF hR9 s
          have hq9 : Own.sl vq 46 68 K.length (n3Cells K) ∈ E9 := hR9 0 (by decide) _ List.mem_cons_self
          have e35 : f9.tmps.getD 35 undef = .pointer (some (elAddr vq ((ixL L to) * 68 + 0))) := (oc_get hl 35 6 (by kernel_rfl) (by kernel_rfl)).trans (hF 6 (by decide))
          have h := fin_slot [(35, .pointer (some (elAddr vq ((ixL L to) * 68 + 0))))] (hs9.trans h.size) (hd9.trans h.defers) (holds_lk ⟨e35, trivial⟩)
          replace s : St w ((.grp ks (RwL K)) :: .blk b6 (.cells (#[nilV]) 24) :: .blk b3 (.cells (#[vq]) 24) :: E9) _ := s
          have hq8 : Own.sl vq 46 68 K.length (n3Cells K) ∈ ((.grp ks (RwL K)) :: .blk b6 (.cells (#[nilV]) 24) :: .blk b3 (.cells (#[vq]) 24) :: E9) := by simp only [List.mem_cons, List.mem_append, hq9, or_true]
          refine s_load_at (RdZ.elF (RdZ.of_own (s.memSl hq8)) ((ixL L to)) 0 33 (by omega) (by decide) (C := ndArr (K.getD (ixL L to) z3).1.me (K.getD (ixL L to) z3).1.pr (K.getD (ixL L to) z3).2.1 (K.getD (ixL L to) z3).2.2) (n3_el K _ hi1) (D := mbArr (K.getD (ixL L to) z3).1.me) (ndArr_me _ _ _ _)) h row39 rfl (mbArr_size _) rfl ?_; intro f h
          exact s_nil ⟨_, oc_out 36 rfl (h.holds 36 _ rfl), rfl, s⟩
        · intro f9 w2 vl7 E9 hs9 hd9 hl hF hR9 s
          have e32 : f9.tmps.getD 32 undef = .agg (ndArr (K.getD (ixL L no) z3).1.me (K.getD (ixL L no) z3).1.pr (K.getD (ixL L no) z3).2.1 (K.getD (ixL L no) z3).2.2) := (oc_get hl 32 3 (by kernel_rfl) (by kernel_rfl)).trans (hF 3 (by decide))
          have e36 : f9.tmps.getD 36 undef = .agg (mbArr (K.getD (ixL L to) z3).1.me) := (oc_get hl 36 7 (by kernel_rfl) (by kernel_rfl)).trans (hF 7 (by decide))
          have h := fin_slot [(32, .agg (ndArr (K.getD (ixL L no) z3).1.me (K.getD (ixL L no) z3).1.pr (K.getD (ixL L no) z3).2.1 (K.getD (ixL L no) z3).2.2)), (36, .agg (mbArr (K.getD (ixL L to) z3).1.me))] (hs9.trans h.size) (hd9.trans h.defers) (holds_lk ⟨e32, e36, trivial⟩)
          replace s : St w ((.grp ks (RwL K)) :: .blk b6 (.cells (#[nilV]) 24) :: .blk b3 (.cells (#[vq]) 24) :: E9) _ := s
          refine s_call h s fnc33 (npoint_any (K.getD (ixL L no) z3).1 (K.getD (ixL L no) z3).2.1 (K.getD (ixL L no) z3).2.2 (K.getD (ixL L to) z3).1.me _ (s.getG 0 rfl _ (n3_mem hk0)).1 (s.getG 0 rfl _ (n3_mem hk0)).2 (by omega) (by omega)) rfl rfl ?_; rintro f w1 v37 ⟨cu, cv, hv9, hS⟩ hE h sq; replace s := s.add hS
          have h66 : cu = ndS 66 v37 := by rw [hv9]; exact (ndS_66 (RdZ.of_own (hS.getSl 0 rfl))).symm
          have h67 : cv = ndS 67 v37 := by rw [hv9]; exact (ndS_67 (RdZ.of_own (hS.getSl 1 rfl))).symm
          clear hS
          subst h66; subst h67
          exact s_nil ⟨_, oc_out 37 rfl (h.holds 37 _ rfl), hv9, s⟩
        · intro f9 w2 vl7 E9 hs9 hd9 hl hF hR9 s
          have e37 : f9.tmps.getD 37 undef = .tuple #[.agg (ndArr (ptN (K.getD (ixL L no) z3).1 (K.getD (ixL L to) z3).1.me).me (ptN (K.getD (ixL L no) z3).1 (K.getD (ixL L to) z3).1.me).pr (ndS 66 (vl7 8)) (ndS 67 (vl7 8))), .int .i64 (ptE (K.getD (ixL L no) z3).1 (K.getD (ixL L to) z3).1.me)] := (oc_get hl 37 8 (by kernel_rfl) (by kernel_rfl)).trans (hF 8 (by decide))
          have h := fin_slot [(37, .tuple #[.agg (ndArr (ptN (K.getD (ixL L no) z3).1 (K.getD (ixL L to) z3).1.me).me (ptN (K.getD (ixL L no) z3).1 (K.getD (ixL L to) z3).1.me).pr (ndS 66 (vl7 8)) (ndS 67 (vl7 8))), .int .i64 (ptE (K.getD (ixL L no) z3).1 (K.getD (ixL L to) z3).1.me)])] (hs9.trans h.size) (hd9.trans h.defers) (holds_lk ⟨e37, trivial⟩)
          replace s : St w ((.grp ks (RwL K)) :: .blk b6 (.cells (#[nilV]) 24) :: .blk b3 (.cells (#[vq]) 24) :: E9) _ := s
          refine s_pure h (ru_move (h.ev rfl)) rfl ?_; intro f h
          exact s_nil ⟨_, oc_out 28 rfl (h.holds 28 _ rfl), rfl, s⟩
        · intro f9 w2 vl7 E9 hs9 hd9 hl hF hR9 s
          have e28 : f9.tmps.getD 28 undef = .tuple #[.agg (ndArr (ptN (K.getD (ixL L no) z3).1 (K.getD (ixL L to) z3).1.me).me (ptN (K.getD (ixL L no) z3).1 (K.getD (ixL L to) z3).1.me).pr (ndS 66 (vl7 8)) (ndS 67 (vl7 8))), .int .i64 (ptE (K.getD (ixL L no) z3).1 (K.getD (ixL L to) z3).1.me)] := (oc_get hl 28 9 (by kernel_rfl) (by kernel_rfl)).trans (hF 9 (by decide))
          have h := fin_slot [(28, .tuple #[.agg (ndArr (ptN (K.getD (ixL L no) z3).1 (K.getD (ixL L to) z3).1.me).me (ptN (K.getD (ixL L no) z3).1 (K.getD (ixL L to) z3).1.me).pr (ndS 66 (vl7 8)) (ndS 67 (vl7 8))), .int .i64 (ptE (K.getD (ixL L no) z3).1 (K.getD (ixL L to) z3).1.me)])] (hs9.trans h.size) (hd9.trans h.defers) (holds_lk ⟨e28, trivial⟩)
          replace s : St w ((.grp ks (RwL K)) :: .blk b6 (.cells (#[nilV]) 24) :: .blk b3 (.cells (#[vq]) 24) :: E9) _ := s
          refine s_pure h (ru_extract (h.ev rfl) rfl) rfl ?_; intro f h
          exact s_nil ⟨_, oc_out 38 rfl (h.holds 38 _ rfl), rfl, s⟩
        · intro f9 w2 vl7 E9 hs9 hd9 hl hF hR9 s
          have e28 : f9.tmps.getD 28 undef = .tuple #[.agg (ndArr (ptN (K.getD (ixL L no) z3).1 (K.getD (ixL L to) z3).1.me).me (ptN (K.getD (ixL L no) z3).1 (K.getD (ixL L to) z3).1.me).pr (ndS 66 (vl7 8)) (ndS 67 (vl7 8))), .int .i64 (ptE (K.getD (ixL L no) z3).1 (K.getD (ixL L to) z3).1.me)] := (oc_get hl 28 9 (by kernel_rfl) (by kernel_rfl)).trans (hF 9 (by decide))
          have h := fin_slot [(28, .tuple #[.agg (ndArr (ptN (K.getD (ixL L no) z3).1 (K.getD (ixL L to) z3).1.me).me (ptN (K.getD (ixL L no) z3).1 (K.getD (ixL L to) z3).1.me).pr (ndS 66 (vl7 8)) (ndS 67 (vl7 8))), .int .i64 (ptE (K.getD (ixL L no) z3).1 (K.getD (ixL L to) z3).1.me)])] (hs9.trans h.size) (hd9.trans h.defers) (holds_lk ⟨e28, trivial⟩)
          replace s : St w ((.grp ks (RwL K)) :: .blk b6 (.cells (#[nilV]) 24) :: .blk b3 (.cells (#[vq]) 24) :: E9) _ := s
          refine s_pure h (ru_extract (h.ev rfl) rfl) rfl ?_; intro f h
          exact s_nil ⟨_, oc_out 39 rfl (h.holds 39 _ rfl), rfl, s⟩
        · intro f9 w2 vl7 E9 hs9 hd9 hl hF hR9 s
          have e29 : f9.tmps.getD 29 undef = .pointer (some (elAddr vq ((ixL L no) * 68))) := (oc_get hl 29 0 (by kernel_rfl) (by kernel_rfl)).trans (hF 0 (by decide))
          have h := fin_slot [(29, .pointer (some (elAddr vq ((ixL L no) * 68))))] (hs9.trans h.size) (hd9.trans h.defers) (holds_lk ⟨e29, trivial⟩)
          replace s : St w ((.grp ks (RwL K)) :: .blk b6 (.cells (#[nilV]) 24) :: .blk b3 (.cells (#[vq]) 24) :: E9) _ := s
          refine s_pure h (ru_nilCheck (h.ev rfl)) rfl ?_; intro f h
          exact s_nil ⟨_, oc_out 40 rfl (h.holds 40 _ rfl), rfl, s⟩
        · intro f9 w2 vl7 E9 hs9 hd9 hl hF hR9 s
          have e40 : f9.tmps.getD 40 undef = .pointer (some (elAddr vq ((ixL L no) * 68))) := (oc_get hl 40 12 (by kernel_rfl) (by kernel_rfl)).trans (hF 12 (by decide))
          have e38 : f9.tmps.getD 38 undef = .agg (ndArr (ptN (K.getD (ixL L no) z3).1 (K.getD (ixL L to) z3).1.me).me (ptN (K.getD (ixL L no) z3).1 (K.getD (ixL L to) z3).1.me).pr (ndS 66 (vl7 8)) (ndS 67 (vl7 8))) := (oc_get hl 38 10 (by kernel_rfl) (by kernel_rfl)).trans (hF 10 (by decide))
          have h := fin_slot [(40, .pointer (some (elAddr vq ((ixL L no) * 68)))), (38, .agg (ndArr (ptN (K.getD (ixL L no) z3).1 (K.getD (ixL L to) z3).1.me).me (ptN (K.getD (ixL L no) z3).1 (K.getD (ixL L to) z3).1.me).pr (ndS 66 (vl7 8)) (ndS 67 (vl7 8))))] (hs9.trans h.size) (hd9.trans h.defers) (holds_lk ⟨e40, e38, trivial⟩)
          replace s : St w (.sl vq 46 68 K.length (n3Cells K) :: (.grp ks (RwL K)) :: .blk b6 (.cells (#[nilV]) 24) :: .blk b3 (.cells (#[vq]) 24) :: E9) _ := s
          refine s_store_el 0 ((ixL L no)) h s row46 rfl rfl rfl (ndArr_size _ _ _ _) (by omega) (ndArr_ones (ndS_one _ _) (ndS_one _ _)) (show _ = n3Cells (K.set (ixL L no) (((ptN (K.getD (ixL L no) z3).1 (K.getD (ixL L to) z3).1.me), (ndS 66 (vl7 8)), (ndS 67 (vl7 8))) : N3)) from n3_set hk0 (((ptN (K.getD (ixL L no) z3).1 (K.getD (ixL L to) z3).1.me), (ndS 66 (vl7 8)), (ndS 67 (vl7 8))) : N3)) ?_; intro w1 s
          replace s := s.resl (m := (K.set (ixL L no) (((ptN (K.getD (ixL L no) z3).1 (K.getD (ixL L to) z3).1.me), (ndS 66 (vl7 8)), (ndS 67 (vl7 8))) : N3)).length) (ys := n3Cells (K.set (ixL L no) (((ptN (K.getD (ixL L no) z3).1 (K.getD (ixL L to) z3).1.me), (ndS 66 (vl7 8)), (ndS 67 (vl7 8))) : N3))) 0 rfl (by rw [List.length_set]) rfl
          exact s_nil ⟨undef, oc_none rfl, trivial, s⟩
        · intro f9 w2 vl7 E9 hs9 hd9 hl hF hR9 s
          have e39 : f9.tmps.getD 39 undef = .int .i64 (ptE (K.getD (ixL L no) z3).1 (K.getD (ixL L to) z3).1.me) := (oc_get hl 39 11 (by kernel_rfl) (by kernel_rfl)).trans (hF 11 (by decide))
          have h := fin_slot [(39, .int .i64 (ptE (K.getD (ixL L no) z3).1 (K.getD (ixL L to) z3).1.me))] (hs9.trans h.size) (hd9.trans h.defers) (holds_lk ⟨e39, trivial⟩)
          replace s : St w ((.grp ks (RwL K)) :: .blk b6 (.cells (#[nilV]) 24) :: .blk b3 (.cells (#[vq]) 24) :: E9) _ := s
          refine s_pure h (ru_assign (h.ev rfl)) rfl ?_; intro f h
          exact s_nil ⟨_, oc_out 9 rfl (h.holds 9 _ rfl), rfl, s⟩
        intro f w1 vl7 hs9 hd9 hv hr hF s
        replace h := oc_sl (ops := _) [(29, .pointer (some (elAddr vq ((ixL L no) * 68)))), (30, .pointer (some (elAddr vq ((ixL L no) * 68)))), (31, .pointer (some (elAddr vq ((ixL L no) * 68)))), (32, .agg (ndArr (K.getD (ixL L no) z3).1.me (K.getD (ixL L no) z3).1.pr (K.getD (ixL L no) z3).2.1 (K.getD (ixL L no) z3).2.2)), (33, .pointer (some (elAddr vq ((ixL L to) * 68)))), (34, .pointer (some (elAddr vq ((ixL L to) * 68)))), (35, .pointer (some (elAddr vq ((ixL L to) * 68 + 0)))), (36, .agg (mbArr (K.getD (ixL L to) z3).1.me)), (37, .tuple #[.agg (ndArr (ptN (K.getD (ixL L no) z3).1 (K.getD (ixL L to) z3).1.me).me (ptN (K.getD (ixL L no) z3).1 (K.getD (ixL L to) z3).1.me).pr (ndS 66 (vl7 8)) (ndS 67 (vl7 8))), .int .i64 (ptE (K.getD (ixL L no) z3).1 (K.getD (ixL L to) z3).1.me)]), (28, .tuple #[.agg (ndArr (ptN (K.getD (ixL L no) z3).1 (K.getD (ixL L to) z3).1.me).me (ptN (K.getD (ixL L no) z3).1 (K.getD (ixL L to) z3).1.me).pr (ndS 66 (vl7 8)) (ndS 67 (vl7 8))), .int .i64 (ptE (K.getD (ixL L no) z3).1 (K.getD (ixL L to) z3).1.me)]), (38, .agg (ndArr (ptN (K.getD (ixL L no) z3).1 (K.getD (ixL L to) z3).1.me).me (ptN (K.getD (ixL L no) z3).1 (K.getD (ixL L to) z3).1.me).pr (ndS 66 (vl7 8)) (ndS 67 (vl7 8)))), (39, .int .i64 (ptE (K.getD (ixL L no) z3).1 (K.getD (ixL L to) z3).1.me)), (40, .pointer (some (elAddr vq ((ixL L no) * 68)))), (9, .int .i64 (ptE (K.getD (ixL L no) z3).1 (K.getD (ixL L to) z3).1.me))] h hs9 hd9 hr ⟨(hv 0 29 rfl).trans (hF 0 (by kernel_rfl)), (hv 1 30 rfl).trans (hF 1 (by kernel_rfl)), (hv 2 31 rfl).trans (hF 2 (by kernel_rfl)), (hv 3 32 rfl).trans (hF 3 (by kernel_rfl)), (hv 4 33 rfl).trans (hF 4 (by kernel_rfl)), (hv 5 34 rfl).trans (hF 5 (by kernel_rfl)), (hv 6 35 rfl).trans (hF 6 (by kernel_rfl)), (hv 7 36 rfl).trans (hF 7 (by kernel_rfl)), (hv 8 37 rfl).trans (hF 8 (by kernel_rfl)), (hv 9 28 rfl).trans (hF 9 (by kernel_rfl)), (hv 10 38 rfl).trans (hF 10 (by kernel_rfl)), (hv 11 39 rfl).trans (hF 11 (by kernel_rfl)), (hv 12 40 rfl).trans (hF 12 (by kernel_rfl)), (hv 14 9 rfl).trans (hF 14 (by kernel_rfl)), trivial⟩ (by kernel_rfl)
        replace s : St w [.sl (ndS 66 (vl7 8)) 39 33 (ptN (K.getD (ixL L no) z3).1 (K.getD (ixL L to) z3).1.me).sc.length (mbCells (ptN (K.getD (ixL L no) z3).1 (K.getD (ixL L to) z3).1.me).sc), .sl (ndS 67 (vl7 8)) 39 33 (ptN (K.getD (ixL L no) z3).1 (K.getD (ixL L to) z3).1.me).fg.length (mbCells (ptN (K.getD (ixL L no) z3).1 (K.getD (ixL L to) z3).1.me).fg), .sl vq 46 68 (K.set (ixL L no) (((ptN (K.getD (ixL L no) z3).1 (K.getD (ixL L to) z3).1.me), (ndS 66 (vl7 8)), (ndS 67 (vl7 8))) : N3)).length (n3Cells (K.set (ixL L no) (((ptN (K.getD (ixL L no) z3).1 (K.getD (ixL L to) z3).1.me), (ndS 66 (vl7 8)), (ndS 67 (vl7 8))) : N3))), (.grp ks (RwL K)), .blk b6 (.cells (#[nilV]) 24), .blk b3 (.cells (#[vq]) 24)] _ := s
        replace s := s.bring 3 rfl
        replace s := s.bring 2 rfl
        replace s := s.bring 2 rfl
        replace s : St w [.sl (ndS 66 (vl7 8)) 39 33 (ptN (K.getD (ixL L no) z3).1 (K.getD (ixL L to) z3).1.me).sc.length (mbCells (ptN (K.getD (ixL L no) z3).1 (K.getD (ixL L to) z3).1.me).sc), .sl (ndS 67 (vl7 8)) 39 33 (ptN (K.getD (ixL L no) z3).1 (K.getD (ixL L to) z3).1.me).fg.length (mbCells (ptN (K.getD (ixL L no) z3).1 (K.getD (ixL L to) z3).1.me).fg), (.grp ks (RwL K)), .sl vq 46 68 (K.set (ixL L no) (((ptN (K.getD (ixL L no) z3).1 (K.getD (ixL L to) z3).1.me), (ndS 66 (vl7 8)), (ndS 67 (vl7 8))) : N3)).length (n3Cells (K.set (ixL L no) (((ptN (K.getD (ixL L no) z3).1 (K.getD (ixL L to) z3).1.me), (ndS 66 (vl7 8)), (ndS 67 (vl7 8))) : N3))), .blk b6 (.cells (#[nilV]) 24), .blk b3 (.cells (#[vq]) 24)] _ := s
        obtain ⟨k2, s⟩ := s.grpR (S' := RwL (K.set (ixL L no) (((ptN (K.getD (ixL L no) z3).1 (K.getD (ixL L to) z3).1.me), (ndS 66 (vl7 8)), (ndS 67 (vl7 8))) : N3))) (fun w9 h1 h2 h3 => rw_set9 h3 ⟨h1, h2⟩)
        have hfin := pt_fin (u := ndS 66 (vl7 8)) (v := ndS 67 (vl7 8)) hrs r0 l0 n1 hnk
        refine hK18 _ _ ?_
        refine c_seq fun K19 hK19 => ?_
        cases p0 : (decide ((ptE (K.getD (ixL L no) z3).1 (K.getD (ixL L to) z3).1.me) = 0) : Bool)
        · skip
          refine c_region ?_
          refine s_pure h (ru_move (h.ev rfl)) rfl ?_; intro f h
          refine s_pure h (ru_val (.bool true) (ru_neq (h.ev rfl) (h.ev rfl)) (congrArg Value.bool (decide_eq_true (of_decide_eq_false p0)))) rfl ?_; intro f h
          refine s_nil ?_
          refine hK19 _ _ ?_
          refine wpIn_cond_true (h.ev rfl) ?_
          refine c_seq fun K20 hK20 => ?_
          refine c_region ?_
          refine s_pure h (ru_build_ov0 sttO) rfl ?_; intro f h
          refine s_pure h (ru_move (h.ev rfl)) rfl ?_; intro f h
          refine s_store_row 2 h s row24 rfl rfl rfl (rfl) (rfl) (ov_ones (rfl)) ?_; intro w1 s
          refine s_pure h (ru_assign (h.ev rfl)) rfl ?_; intro f h
          refine s_nil ?_
          refine hK20 _ _ ?_
          refine wpIn_ret ?_
          refine t_ret ?_
          exact e_row_tmp 2 rfl h s row24 rfl rfl (rfl) rfl (ovE_no s (cp_no hfin.1.symm (of_decide_eq_false p0)) hfin.1.symm)
        · skip
          refine c_region ?_
          refine s_pure h (ru_move (h.ev rfl)) rfl ?_; intro f h
          refine s_pure h (ru_val (.bool false) (ru_neq (h.ev rfl) (h.ev rfl)) (congrArg Value.bool (decide_eq_false (not_not_intro (of_decide_eq_true p0))))) rfl ?_; intro f h
          refine s_nil ?_
          refine hK19 _ _ ?_
          refine wpIn_cond_false (h.ev rfl) ?_
          refine wpIn_skip ?_
          refine hK17 _ _ ?_
          refine c_seq fun K21 hK21 => ?_
          refine c_region ?_
          refine s_load_row 3 h s row24 rfl rfl (rfl) rfl ?_; intro f h
          refine s_store_row 2 h s row24 rfl rfl rfl (rfl) (rfl) (ov_ones (own_one (s.getSl 1 rfl))) ?_; intro w1 s
          refine s_pure h (ru_assign (h.ev rfl)) rfl ?_; intro f h
          refine s_nil ?_
          refine hK21 _ _ ?_
          refine wpIn_ret ?_
          exact e_row_tmp 2 rfl h s row24 rfl rfl (rfl) rfl (ovE_ok (hfin.1.symm.trans (of_decide_eq_true p0)) (ovP_2 (hfin.2 (hfin.1.symm.trans (of_decide_eq_true p0))) (s.sel [1, 0] rfl (by decide))))
end Go.Proofs.YtndbijifgalpbaaGreat
