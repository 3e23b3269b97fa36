/- What SpreadParts answers: for all arguments. -/
import Derived.Test.YtdehanjhphfanaaVc
import Derived.Test.YtdehanjhphfanaaXl
set_option linter.unusedVariables false
set_option linter.unusedSimpArgs false
set_option linter.unusedSectionVars false
namespace Go.Proofs.Ytdehanjhphfanaa
open Go.RowKit
set_option maxHeartbeats 4000000 in
theorem lsparts_any (l : List Tg) (vh : Value) (p0 : Pk) (vs : Value) (w : World) (hR : RdZ w vh 67 l.length (tgCells l)) (hP0 : RdZ w vs 34 p0.1.length (eCells p0.1)) : Calls Try.prog 5 [vh, .agg (pkArr vs p0.2.1 p0.2.2)].toArray w (Ret w (is (.bool true))) := by
  have hT := tg_take hR (min l.length 34) (by omega)
  obtain ⟨t, ht⟩ : ∃ x9, x9 = l.take (min l.length 34) := ⟨_, rfl⟩
  rw [← ht] at hT
  have htl : t.length ≤ 34 := by rw [ht, List.length_take]; omega
  have hP : RdE w (cutV vs (min p0.1.length 6)) (cutP p0).1 := cutP_rd hP0
  have hpl := cutP_len p0
  refine c_enter Try.func5 rfl Try.ntmps5 rfl [(0, vh), (1, .agg (pkArr vs p0.2.1 p0.2.2))] (by simp) fun f h => ?_
  have s := St.start w
  refine c_seq fun K1 hK1 => ?_
  refine c_region ?_
  refine s_box (pkArr vs p0.2.1 p0.2.2) h s rfl rfl rfl ?_; intro f w1 b3 h s
  refine s_pure h (ru_assign (h.ev rfl)) rfl ?_; intro f h
  refine s_nil ?_
  refine hK1 _ _ ?_
  refine c_seq fun K2 hK2 => ?_
  refine c_walkN 5 [[], [0], [], [0, 1, 2], [0, 1, 2, 3]] h (by kernel_rfl) (by kernel_rfl) (by kernel_rfl) ?_
  refine w_pure h (ru_move (h.ev rfl)) rfl ?_; intro f h
  refine w_call h fnc7 (fun w9 hE9 => sfew_any vh l w9 (hR.keep (s.ext.trans hE9))) rfl rfl ?_; intro f h
  refine w_load_row 0 h s row25 rfl rfl (pkArr_size _ _ _) rfl ?_; intro f h
  refine w_call h fnc8 (fun w9 hE9 => scut_any p0 vs w9 (hP0.keep (s.ext.trans hE9))) rfl rfl ?_; intro f h
  refine w_pure h (ru_assign (h.ev rfl)) rfl ?_; intro f h
  refine w_nil s fun w1 s => ?_
  refine s_store_row 0 h s row25 rfl rfl rfl (pkArr_size _ _ _) (pkArr_size _ _ _) (pkArr_ones _ _ (rd_one (hP.keep s.ext))) ?_; intro w1 s
  refine s_nil ?_
  refine hK2 _ _ ?_
  refine c_seq fun K3 hK3 => ?_
  refine c_region ?_
  refine s_pure h (ru_move (h.ev rfl)) rfl ?_; intro f h
  refine s_load_row 0 h s row25 rfl rfl (pkArr_size _ _ _) rfl ?_; intro f h
  refine s_call h s fnc9 (spdel_any t (cutV vh (min l.length 34)) (cutP p0) (cutV vs (min p0.1.length 6)) _ (hT.keep s.ext) (by first | omega | decide | exact (show 1 ≤ 1000 by decide) | simp) (hP.keep s.ext) (by first | omega | decide | exact (show 1 ≤ 1000 by decide) | simp)) rfl rfl ?_; rintro f w1 v19 ⟨va, kva, rfl, hG⟩ hE h sq; replace s := s.add hG; clear hG
  refine s_pure h (ru_move (h.ev rfl)) rfl ?_; intro f h
  refine s_pure h (ru_extract (h.ev rfl) rfl) rfl ?_; intro f h
  refine s_pure h (ru_extract (h.ev rfl) rfl) rfl ?_; intro f h
  refine s_alloc (ssArr nilV 0 0 0) h s zero30 rfl rfl ?_; intro f w1 b5 h s
  refine s_store_row 0 h s row30 rfl rfl rfl (ssArr_size _ _ _ _) (ssArr_size _ _ _ _) (ssArr_ones _ _ _ (rd_one ((s.getG 1 rfl)))) ?_; intro w1 s
  refine s_pure h (ru_assign (h.ev rfl)) rfl ?_; intro f h
  refine s_nil ?_
  refine hK3 _ _ ?_
  refine c_seq fun K4 hK4 => ?_
  refine c_seq fun K5 hK5 => ?_
  cases e0 : (decide (spE t (cutP p0) = 0) : Bool)
  · skip
    refine c_region ?_
    refine s_pure h (ru_move (h.ev rfl)) rfl ?_; intro f h
    refine s_pure h (ru_val (.bool true) (ru_neq (h.ev rfl) (h.ev rfl)) (congrArg Value.bool (by simpa using e0))) rfl ?_; intro f h
    refine s_pure h (ru_move (h.ev rfl)) rfl ?_; intro f h
    refine s_off (b := false) h rfl rfl rfl rfl ?_; intro f h
    refine s_off (b := false) h rfl rfl rfl rfl ?_; intro f h
    refine s_off (b := false) h rfl rfl rfl rfl ?_; intro f h
    refine s_pure h (ru_pick_t (h.ev rfl) (h.ev rfl)) rfl ?_; intro f h
    refine s_pure h (ru_move (h.ev rfl)) rfl ?_; intro f h
    refine s_off (b := false) h rfl rfl rfl rfl ?_; intro f h
    refine s_off (b := false) h rfl rfl rfl rfl ?_; intro f h
    refine s_off (b := false) h rfl rfl rfl rfl ?_; intro f h
    refine s_off (b := false) h rfl rfl rfl rfl ?_; intro f h
    refine s_pure h (ru_pick_t (h.ev rfl) (h.ev rfl)) rfl ?_; intro f h
    refine s_pure h (ru_move (h.ev rfl)) rfl ?_; intro f h
    refine s_off (b := false) h rfl rfl rfl rfl ?_; intro f h
    refine s_off (b := false) h rfl rfl rfl rfl ?_; intro f h
    refine s_off (b := false) h rfl rfl rfl rfl ?_; intro f h
    refine s_off (b := false) h rfl rfl rfl rfl ?_; intro f h
    refine s_off (b := false) h rfl rfl rfl rfl ?_; intro f h
    refine s_off (b := false) h rfl rfl rfl rfl ?_; intro f h
    refine s_pure h (ru_pick_t (h.ev rfl) (h.ev rfl)) rfl ?_; intro f h
    refine s_nil ?_
    refine hK5 _ _ ?_
    refine wpIn_cond_true (h.ev rfl) ?_
    refine c_seq fun K6 hK6 => ?_
    refine c_region ?_
    refine s_call h s fnc11 (ret_val (.bool true) (salive_any _) (congrArg Value.bool (rfl))) rfl rfl ?_; intro f w1 v9 hT hE h s; obtain rfl := hT
    refine s_pure h (ru_assign (h.ev rfl)) rfl ?_; intro f h
    refine s_nil ?_
    refine hK6 _ _ ?_
    refine wpIn_ret ?_
    refine t_ret ?_
    exact e_tmp rfl h s rfl (rfl)
  · skip
    cases z0 : (decide ((cutP p0).2.1 = 0) : Bool)
    · skip
      cases l0 : (decide ((cutP p0).1.length < 2) : Bool)
      · skip
        cases c0 : (decide ((fstE (cutP p0)).1 = 1) : Bool)
        · skip
          refine c_region ?_
          refine s_pure h (ru_move (h.ev rfl)) rfl ?_; intro f h
          refine s_pure h (ru_val (.bool false) (ru_neq (h.ev rfl) (h.ev rfl)) (congrArg Value.bool (by simpa using e0))) rfl ?_; intro f h
          obtain ⟨g1, g2, g3, g4⟩ := sp_0 (of_decide_eq_true e0)
          obtain ⟨y3, y4⟩ := sl_y g1
          have hll := lnk_le t
          have hrl := (rt_iff.1 g1).len
          obtain ⟨⟨hr1, _, _⟩, hr2, hr3, hr4⟩ := rightP_iff.1 g2
          refine s_pure h (ru_move (h.ev rfl)) rfl ?_; intro f h
          refine s_on h rfl rfl rfl ?_
          refine s_pure h (ru_field fld25_1 (h.ev rfl)) rfl ?_; intro f h
          refine s_on h rfl rfl rfl ?_
          refine s_load_at1 (V := .int .i64 (cutP p0).2.1) (cell_of_has (Has.of_own s 2 rfl) 1 (pk_n _ _ _)) h one3 rfl rfl ?_; intro f h
          refine s_on h rfl rfl rfl ?_
          refine s_pure h (ru_val (.bool false) (ru_eql (h.ev rfl) (h.ev rfl)) (congrArg Value.bool z0)) rfl ?_; intro f h
          refine s_pure h (ru_pick_f (h.ev rfl) (h.ev rfl)) rfl ?_; intro f h
          refine s_pure h (ru_move (h.ev rfl)) rfl ?_; intro f h
          refine s_on h rfl rfl rfl ?_
          refine s_pure h (ru_field fld25_0 (h.ev rfl)) rfl ?_; intro f h
          refine s_on h rfl rfl rfl ?_
          refine s_load_at1 (V := (cutV vs (min p0.1.length 6))) (cell_of_has (Has.of_own s 2 rfl) 0 (pk_v _ _ _)) h one23 rfl rfl ?_; intro f h
          refine s_on h rfl rfl rfl ?_
          refine s_pure h (ru_lenZ (hP.keep s.ext) Try.underlying23 (h.ev rfl)) rfl ?_; intro f h
          refine s_on h rfl rfl rfl ?_
          refine s_pure h (ru_val (.bool false) (ru_lss (h.ev rfl) (h.ev rfl)) (congrArg Value.bool ((decide_eq_decide.2 (by omega)).trans l0))) rfl ?_; intro f h
          refine s_pure h (ru_pick_f (h.ev rfl) (h.ev rfl)) rfl ?_; intro f h
          refine s_pure h (ru_move (h.ev rfl)) rfl ?_; intro f h
          refine s_on h rfl rfl rfl ?_
          refine s_pure h (ru_field fld25_0 (h.ev rfl)) rfl ?_; intro f h
          refine s_on h rfl rfl rfl ?_
          refine s_load_at1 (V := (cutV vs (min p0.1.length 6))) (cell_of_has (Has.of_own s 2 rfl) 0 (pk_v _ _ _)) h one23 rfl rfl ?_; intro f h
          refine s_on h rfl rfl rfl ?_
          refine s_pure h (ru_ixz (hP.keep s.ext) (0) Try.underlying23 szo53 (h.ev rfl) (h.ev rfl) (rfl) (by omega)) rfl ?_; intro f h
          refine s_on h rfl rfl rfl ?_
          refine s_pure h (ru_fieldE fld53_0 (h.ev rfl) ((hP.keep s.ext).some (by omega))) rfl ?_; intro f h
          refine s_on h rfl rfl rfl ?_
          refine s_load_at1 (V := .int .i64 (fstE (cutP p0)).1) (rdz_at (hP.keep s.ext) (0 * 34 + 0) (e_kind0 hr1)) h one3 rfl rfl ?_; intro f h
          refine s_on h rfl rfl rfl ?_
          refine s_pure h (ru_val (.bool true) (ru_neq (h.ev rfl) (h.ev rfl)) (congrArg Value.bool (by simpa using c0))) rfl ?_; intro f h
          refine s_pure h (ru_pick_f (h.ev rfl) (h.ev rfl)) rfl ?_; intro f h
          refine s_nil ?_
          refine hK5 _ _ ?_
          refine wpIn_cond_true (h.ev rfl) ?_
          refine c_seq fun K7 hK7 => ?_
          refine c_region ?_
          refine s_call h s fnc11 (ret_val (.bool true) (salive_any _) (congrArg Value.bool (rfl))) rfl rfl ?_; intro f w1 v9 hT hE h s; obtain rfl := hT
          refine s_pure h (ru_assign (h.ev rfl)) rfl ?_; intro f h
          refine s_nil ?_
          refine hK7 _ _ ?_
          refine wpIn_ret ?_
          refine t_ret ?_
          exact e_tmp rfl h s rfl (rfl)
        · skip
          refine c_region ?_
          refine s_pure h (ru_move (h.ev rfl)) rfl ?_; intro f h
          refine s_pure h (ru_val (.bool false) (ru_neq (h.ev rfl) (h.ev rfl)) (congrArg Value.bool (by simpa using e0))) rfl ?_; intro f h
          obtain ⟨g1, g2, g3, g4⟩ := sp_0 (of_decide_eq_true e0)
          obtain ⟨y3, y4⟩ := sl_y g1
          have hll := lnk_le t
          have hrl := (rt_iff.1 g1).len
          obtain ⟨⟨hr1, _, _⟩, hr2, hr3, hr4⟩ := rightP_iff.1 g2
          refine s_pure h (ru_move (h.ev rfl)) rfl ?_; intro f h
          refine s_on h rfl rfl rfl ?_
          refine s_pure h (ru_field fld25_1 (h.ev rfl)) rfl ?_; intro f h
          refine s_on h rfl rfl rfl ?_
          refine s_load_at1 (V := .int .i64 (cutP p0).2.1) (cell_of_has (Has.of_own s 2 rfl) 1 (pk_n _ _ _)) h one3 rfl rfl ?_; intro f h
          refine s_on h rfl rfl rfl ?_
          refine s_pure h (ru_val (.bool false) (ru_eql (h.ev rfl) (h.ev rfl)) (congrArg Value.bool z0)) rfl ?_; intro f h
          refine s_pure h (ru_pick_f (h.ev rfl) (h.ev rfl)) rfl ?_; intro f h
          refine s_pure h (ru_move (h.ev rfl)) rfl ?_; intro f h
          refine s_on h rfl rfl rfl ?_
          refine s_pure h (ru_field fld25_0 (h.ev rfl)) rfl ?_; intro f h
          refine s_on h rfl rfl rfl ?_
          refine s_load_at1 (V := (cutV vs (min p0.1.length 6))) (cell_of_has (Has.of_own s 2 rfl) 0 (pk_v _ _ _)) h one23 rfl rfl ?_; intro f h
          refine s_on h rfl rfl rfl ?_
          refine s_pure h (ru_lenZ (hP.keep s.ext) Try.underlying23 (h.ev rfl)) rfl ?_; intro f h
          refine s_on h rfl rfl rfl ?_
          refine s_pure h (ru_val (.bool false) (ru_lss (h.ev rfl) (h.ev rfl)) (congrArg Value.bool ((decide_eq_decide.2 (by omega)).trans l0))) rfl ?_; intro f h
          refine s_pure h (ru_pick_f (h.ev rfl) (h.ev rfl)) rfl ?_; intro f h
          refine s_pure h (ru_move (h.ev rfl)) rfl ?_; intro f h
          refine s_on h rfl rfl rfl ?_
          refine s_pure h (ru_field fld25_0 (h.ev rfl)) rfl ?_; intro f h
          refine s_on h rfl rfl rfl ?_
          refine s_load_at1 (V := (cutV vs (min p0.1.length 6))) (cell_of_has (Has.of_own s 2 rfl) 0 (pk_v _ _ _)) h one23 rfl rfl ?_; intro f h
          refine s_on h rfl rfl rfl ?_
          refine s_pure h (ru_ixz (hP.keep s.ext) (0) Try.underlying23 szo53 (h.ev rfl) (h.ev rfl) (rfl) (by omega)) rfl ?_; intro f h
          refine s_on h rfl rfl rfl ?_
          refine s_pure h (ru_fieldE fld53_0 (h.ev rfl) ((hP.keep s.ext).some (by omega))) rfl ?_; intro f h
          refine s_on h rfl rfl rfl ?_
          refine s_load_at1 (V := .int .i64 (fstE (cutP p0)).1) (rdz_at (hP.keep s.ext) (0 * 34 + 0) (e_kind0 hr1)) h one3 rfl rfl ?_; intro f h
          refine s_on h rfl rfl rfl ?_
          refine s_pure h (ru_val (.bool false) (ru_neq (h.ev rfl) (h.ev rfl)) (congrArg Value.bool (by simpa using c0))) rfl ?_; intro f h
          refine s_pure h (ru_pick_f (h.ev rfl) (h.ev rfl)) rfl ?_; intro f h
          refine s_nil ?_
          refine hK5 _ _ ?_
          refine wpIn_cond_false (h.ev rfl) ?_
          refine wpIn_skip ?_
          refine hK4 _ _ ?_
          refine c_seq fun K8 hK8 => ?_
          refine c_seq fun K9 hK9 => ?_
          refine c_region ?_
          refine s_pure h (ru_move (h.ev rfl)) rfl ?_; intro f h
          refine s_pure h (ru_field fld25_0 (h.ev rfl)) rfl ?_; intro f h
          refine s_load_at1 (V := (cutV vs (min p0.1.length 6))) (cell_of_has (Has.of_own s 2 rfl) 0 (pk_v _ _ _)) h one23 rfl rfl ?_; intro f h
          refine s_pure h (ru_ixz (hP.keep s.ext) (0) Try.underlying23 szo53 (h.ev rfl) (h.ev rfl) (rfl) (by omega)) rfl ?_; intro f h
          refine s_pure h (ru_fieldE fld53_1 (h.ev rfl) ((hP.keep s.ext).some (by omega))) rfl ?_; intro f h
          refine s_load_at (RdZ.elF (hP.keep s.ext) (0) 1 32 (by omega) (by decide) (C := eArr (fstE (cutP p0))) (e_elD (cutP p0).1 0 (by omega)) (D := idArr (fstE (cutP p0)).2.1) (eArr_id _)) h row42 rfl (by first | exact idArr_size _ | exact bytesF_size _ _) rfl ?_; intro f h
          refine s_call h s fnc18 (tmatch_any t (cutV vh (min l.length 34)) (fstE (cutP p0)).2.1 _ (hT.keep s.ext) (by omega)) rfl rfl ?_; rintro f w1 v51 ⟨vm, kvm, rfl, hG⟩ hE h sq; replace s := s.add hG; clear hG
          have le2 := mt_le t (fstE (cutP p0)).2.1
          refine s_pure h (ru_move (h.ev rfl)) rfl ?_; intro f h
          refine s_pure h (ru_extract (h.ev rfl) rfl) rfl ?_; intro f h
          refine s_pure h (ru_extract (h.ev rfl) rfl) rfl ?_; intro f h
          refine s_pure h (ru_assign (h.ev rfl)) rfl ?_; intro f h
          refine s_pure h (ru_assign (h.ev rfl)) rfl ?_; intro f h
          refine s_nil ?_
          refine hK9 _ _ ?_
          refine c_seq fun K10 hK10 => ?_
          cases m0 : (decide (mtE t (fstE (cutP p0)).2.1 = 6) : Bool)
          · skip
            refine c_region ?_
            refine s_pure h (ru_move (h.ev rfl)) rfl ?_; intro f h
            refine s_pure h (ru_val (.bool true) (ru_neq (h.ev rfl) (h.ev rfl)) (congrArg Value.bool (by simpa using m0))) rfl ?_; intro f h
            refine s_nil ?_
            refine hK10 _ _ ?_
            refine wpIn_cond_true (h.ev rfl) ?_
            refine c_seq fun K11 hK11 => ?_
            refine c_region ?_
            refine s_call h s fnc11 (ret_val (.bool true) (salive_any _) (congrArg Value.bool (rfl))) rfl rfl ?_; intro f w1 v9 hT hE h s; obtain rfl := hT
            refine s_pure h (ru_assign (h.ev rfl)) rfl ?_; intro f h
            refine s_nil ?_
            refine hK11 _ _ ?_
            refine wpIn_ret ?_
            refine t_ret ?_
            exact e_tmp rfl h s rfl (rfl)
          · skip
            refine c_region ?_
            refine s_pure h (ru_move (h.ev rfl)) rfl ?_; intro f h
            refine s_pure h (ru_val (.bool false) (ru_neq (h.ev rfl) (h.ev rfl)) (congrArg Value.bool (by simpa using m0))) rfl ?_; intro f h
            refine s_nil ?_
            refine hK10 _ _ ?_
            refine wpIn_cond_false (h.ev rfl) ?_
            refine wpIn_skip ?_
            refine hK8 _ _ ?_
            refine c_seq fun K12 hK12 => ?_
            refine c_region ?_
            refine s_load_row 3 h s row25 rfl rfl (pkArr_size _ _ _) rfl ?_; intro f h
            refine s_alloc (pkArr nilV 0 ByteArray.empty) h s zero25 rfl rfl ?_; intro f w1 b9 h s
            refine s_store_row 0 h s row25 rfl rfl rfl (pkArr_size _ _ _) (pkArr_size _ _ _) (pkArr_ones _ _ (rd_one (hP.keep s.ext))) ?_; intro w1 s
            refine s_nil ?_
            refine hK12 _ _ ?_
            refine c_seq fun K13 hK13 => ?_
            have hQ9 : RdE w (dropV (cutV vs (min p0.1.length 6)) 34 1) ((cutP p0).1.drop 1, (cutP p0).2.1 - 1, (cutP p0).2.2).1 := ents_drop hP 1 (by omega)
            have hQl : ((cutP p0).1.drop 1, (cutP p0).2.1 - 1, (cutP p0).2.2).1.length ≤ 6 := by show ((cutP p0).1.drop 1).length ≤ 6; rw [List.length_drop]; omega
            refine c_regT 1 9 [[], [0], [0, 1], [], [3], [3, 4], [0, 1, 2], [0, 1, 2, 6], [0, 1, 2, 3, 4, 5, 6, 7], [0, 1, 2, 3, 4, 5, 6, 7, 8]] [[], [], [], [], [], [], [], [10], [], []] [fun _ => [], fun _ => [], fun _ => [], fun _ => [], fun _ => [], fun _ => [], fun _ => [], fun v => [.blk b9 (.cells (pkArr (dropV (cutV vs (min p0.1.length 6)) 34 1) (cutP p0).2.1 (cutP p0).2.2) 25)], fun _ => [], fun _ => []] [[.blk b9 (.cells (pkArr (cutV vs (min p0.1.length 6)) (cutP p0).2.1 (cutP p0).2.2) 25)]] [fun v => v 0 = .pointer (some ⟨b3, 0, none⟩), fun v => v 1 = (cutV vs (min p0.1.length 6)), fun v => v 2 = (dropV (cutV vs (min p0.1.length 6)) 34 1), fun v => v 3 = .pointer (some ⟨b3, 1, none⟩), fun v => v 4 = .int .i64 (cutP p0).2.1, fun v => v 5 = .int .i64 ((cutP p0).2.1 - 1), fun v => v 6 = .pointer (some ⟨b9, 0, none⟩), fun _ => True, fun v => v 8 = .pointer (some ⟨b9, 1, none⟩), fun _ => True] [(.grp kvm (fun w9 => RdT w9 (cutV vh (min l.length 34)) t → RdT w9 vm (mtL t (fstE (cutP p0)).2.1))), .blk b5 (.cells (ssArr va (spD t (cutP p0)).lost (spD t (cutP p0)).hops (spD t (cutP p0)).work) 30), (.grp kva (fun w9 => RdZ w9 va 1 (spD t (cutP p0)).hosts.length (intC (spD t (cutP p0)).hosts))), .blk b3 (.cells (pkArr (cutV vs (min p0.1.length 6)) (cutP p0).2.1 (cutP p0).2.2) 25)] h s rfl (by kernel_rfl) (by kernel_rfl) (by kernel_rfl) (And.intro ?_ (And.intro ?_ (And.intro ?_ (And.intro ?_ (And.intro ?_ (And.intro ?_ (And.intro ?_ (And.intro ?_ (And.intro ?_ (trivial)))))))))) [0, 1, 2, 3, 4, 5, 6, 7, 8] (by kernel_rfl) ?_
            · intro f9 w2 vl9 E9 hs9 hd9 hl hF s
              have e3 : f9.tmps.getD 3 undef = _ := oc_old hl 3 (by kernel_rfl) (by kernel_rfl) (h.holds 3 _ rfl)
              have h := fin_slot [(3, _)] (hs9.trans h.size) (hd9.trans h.defers) (holds_lk ⟨e3, trivial⟩)
              replace s : St w ((.grp kvm (fun w9 => RdT w9 (cutV vh (min l.length 34)) t → RdT w9 vm (mtL t (fstE (cutP p0)).2.1))) :: .blk b5 (.cells (ssArr va (spD t (cutP p0)).lost (spD t (cutP p0)).hops (spD t (cutP p0)).work) 30) :: (.grp kva (fun w9 => RdZ w9 va 1 (spD t (cutP p0)).hosts.length (intC (spD t (cutP p0)).hosts))) :: .blk b3 (.cells (pkArr (cutV vs (min p0.1.length 6)) (cutP p0).2.1 (cutP p0).2.2) 25) :: E9) _ := s
              have hQ9 : RdE w (dropV (cutV vs (min p0.1.length 6)) 34 1) ((cutP p0).1.drop 1, (cutP p0).2.1 - 1, (cutP p0).2.2).1 := ents_drop hP 1 (by omega)
              have hQl : ((cutP p0).1.drop 1, (cutP p0).2.1 - 1, (cutP p0).2.2).1.length ≤ 6 := by show ((cutP p0).1.drop 1).length ≤ 6; rw [List.length_drop]; omega
              refine s_pure h (ru_field fld25_0 (h.ev rfl)) rfl ?_; intro f h
              exact s_nil ⟨_, oc_out 58 rfl (h.holds 58 _ rfl), rfl, s⟩
            · intro f9 w2 vl9 E9 hs9 hd9 hl hF s
              have e58 : f9.tmps.getD 58 undef = .pointer (some ⟨b3, 0, none⟩) := (oc_get hl 58 0 (by kernel_rfl) (by kernel_rfl)).trans (hF 0 (by decide))
              have h := fin_slot [(58, .pointer (some ⟨b3, 0, none⟩))] (hs9.trans h.size) (hd9.trans h.defers) (holds_lk ⟨e58, trivial⟩)
              replace s : St w ((.grp kvm (fun w9 => RdT w9 (cutV vh (min l.length 34)) t → RdT w9 vm (mtL t (fstE (cutP p0)).2.1))) :: .blk b5 (.cells (ssArr va (spD t (cutP p0)).lost (spD t (cutP p0)).hops (spD t (cutP p0)).work) 30) :: (.grp kva (fun w9 => RdZ w9 va 1 (spD t (cutP p0)).hosts.length (intC (spD t (cutP p0)).hosts))) :: .blk b3 (.cells (pkArr (cutV vs (min p0.1.length 6)) (cutP p0).2.1 (cutP p0).2.2) 25) :: E9) _ := s
              refine s_load_at1 (V := (cutV vs (min p0.1.length 6))) (cell_of_has (Has.of_own s 3 rfl) 0 (pk_v _ _ _)) h one23 rfl rfl ?_; intro f h
              exact s_nil ⟨_, oc_out 59 rfl (h.holds 59 _ rfl), rfl, s⟩
            · intro f9 w2 vl9 E9 hs9 hd9 hl hF s
              have e59 : f9.tmps.getD 59 undef = (cutV vs (min p0.1.length 6)) := (oc_get hl 59 1 (by kernel_rfl) (by kernel_rfl)).trans (hF 1 (by decide))
              have h := fin_slot [(59, (cutV vs (min p0.1.length 6)))] (hs9.trans h.size) (hd9.trans h.defers) (holds_lk ⟨e59, trivial⟩)
              replace s : St w ((.grp kvm (fun w9 => RdT w9 (cutV vh (min l.length 34)) t → RdT w9 vm (mtL t (fstE (cutP p0)).2.1))) :: .blk b5 (.cells (ssArr va (spD t (cutP p0)).lost (spD t (cutP p0)).hops (spD t (cutP p0)).work) 30) :: (.grp kva (fun w9 => RdZ w9 va 1 (spD t (cutP p0)).hosts.length (intC (spD t (cutP p0)).hosts))) :: .blk b3 (.cells (pkArr (cutV vs (min p0.1.length 6)) (cutP p0).2.1 (cutP p0).2.2) 25) :: E9) _ := s
              refine s_pure h (ru_slice_loZ (hP.keep s.ext) (1) Try.underlying23 szo53 (h.ev rfl) (h.ev rfl) (rfl) (by omega)) rfl ?_; intro f h
              exact s_nil ⟨_, oc_out 60 rfl (h.holds 60 _ rfl), rfl, s⟩
            · intro f9 w2 vl9 E9 hs9 hd9 hl hF s
              have e3 : f9.tmps.getD 3 undef = _ := oc_old hl 3 (by kernel_rfl) (by kernel_rfl) (h.holds 3 _ rfl)
              have h := fin_slot [(3, _)] (hs9.trans h.size) (hd9.trans h.defers) (holds_lk ⟨e3, trivial⟩)
              replace s : St w ((.grp kvm (fun w9 => RdT w9 (cutV vh (min l.length 34)) t → RdT w9 vm (mtL t (fstE (cutP p0)).2.1))) :: .blk b5 (.cells (ssArr va (spD t (cutP p0)).lost (spD t (cutP p0)).hops (spD t (cutP p0)).work) 30) :: (.grp kva (fun w9 => RdZ w9 va 1 (spD t (cutP p0)).hosts.length (intC (spD t (cutP p0)).hosts))) :: .blk b3 (.cells (pkArr (cutV vs (min p0.1.length 6)) (cutP p0).2.1 (cutP p0).2.2) 25) :: E9) _ := s
              refine s_pure h (ru_field fld25_1 (h.ev rfl)) rfl ?_; intro f h
              exact s_nil ⟨_, oc_out 61 rfl (h.holds 61 _ rfl), rfl, s⟩
            · intro f9 w2 vl9 E9 hs9 hd9 hl hF s
              have e61 : f9.tmps.getD 61 undef = .pointer (some ⟨b3, 1, none⟩) := (oc_get hl 61 3 (by kernel_rfl) (by kernel_rfl)).trans (hF 3 (by decide))
              have h := fin_slot [(61, .pointer (some ⟨b3, 1, none⟩))] (hs9.trans h.size) (hd9.trans h.defers) (holds_lk ⟨e61, trivial⟩)
              replace s : St w ((.grp kvm (fun w9 => RdT w9 (cutV vh (min l.length 34)) t → RdT w9 vm (mtL t (fstE (cutP p0)).2.1))) :: .blk b5 (.cells (ssArr va (spD t (cutP p0)).lost (spD t (cutP p0)).hops (spD t (cutP p0)).work) 30) :: (.grp kva (fun w9 => RdZ w9 va 1 (spD t (cutP p0)).hosts.length (intC (spD t (cutP p0)).hosts))) :: .blk b3 (.cells (pkArr (cutV vs (min p0.1.length 6)) (cutP p0).2.1 (cutP p0).2.2) 25) :: E9) _ := s
              refine s_load_at1 (V := .int .i64 (cutP p0).2.1) (cell_of_has (Has.of_own s 3 rfl) 1 (pk_n _ _ _)) h one3 rfl rfl ?_; intro f h
              exact s_nil ⟨_, oc_out 62 rfl (h.holds 62 _ rfl), rfl, s⟩
            · intro f9 w2 vl9 E9 hs9 hd9 hl hF s
              have e62 : f9.tmps.getD 62 undef = .int .i64 (cutP p0).2.1 := (oc_get hl 62 4 (by kernel_rfl) (by kernel_rfl)).trans (hF 4 (by decide))
              have h := fin_slot [(62, .int .i64 (cutP p0).2.1)] (hs9.trans h.size) (hd9.trans h.defers) (holds_lk ⟨e62, trivial⟩)
              replace s : St w ((.grp kvm (fun w9 => RdT w9 (cutV vh (min l.length 34)) t → RdT w9 vm (mtL t (fstE (cutP p0)).2.1))) :: .blk b5 (.cells (ssArr va (spD t (cutP p0)).lost (spD t (cutP p0)).hops (spD t (cutP p0)).work) 30) :: (.grp kva (fun w9 => RdZ w9 va 1 (spD t (cutP p0)).hosts.length (intC (spD t (cutP p0)).hosts))) :: .blk b3 (.cells (pkArr (cutV vs (min p0.1.length 6)) (cutP p0).2.1 (cutP p0).2.2) 25) :: E9) _ := s
              refine s_pure h (ru_sub (h.ev rfl) (h.ev rfl) (by omega)) rfl ?_; intro f h
              exact s_nil ⟨_, oc_out 63 rfl (h.holds 63 _ rfl), rfl, s⟩
            · intro f9 w2 vl9 E9 hs9 hd9 hl hF s
              have e9 : f9.tmps.getD 9 undef = _ := oc_old hl 9 (by kernel_rfl) (by kernel_rfl) (h.holds 9 _ rfl)
              have h := fin_slot [(9, _)] (hs9.trans h.size) (hd9.trans h.defers) (holds_lk ⟨e9, trivial⟩)
              replace s : St w ((.grp kvm (fun w9 => RdT w9 (cutV vh (min l.length 34)) t → RdT w9 vm (mtL t (fstE (cutP p0)).2.1))) :: .blk b5 (.cells (ssArr va (spD t (cutP p0)).lost (spD t (cutP p0)).hops (spD t (cutP p0)).work) 30) :: (.grp kva (fun w9 => RdZ w9 va 1 (spD t (cutP p0)).hosts.length (intC (spD t (cutP p0)).hosts))) :: .blk b3 (.cells (pkArr (cutV vs (min p0.1.length 6)) (cutP p0).2.1 (cutP p0).2.2) 25) :: E9) _ := s
              refine s_pure h (ru_field fld25_0 (h.ev rfl)) rfl ?_; intro f h
              exact s_nil ⟨_, oc_out 64 rfl (h.holds 64 _ rfl), rfl, s⟩
            · intro f9 w2 vl9 E9 hs9 hd9 hl hF s
              have e64 : f9.tmps.getD 64 undef = .pointer (some ⟨b9, 0, none⟩) := (oc_get hl 64 6 (by kernel_rfl) (by kernel_rfl)).trans (hF 6 (by decide))
              have e60 : f9.tmps.getD 60 undef = (dropV (cutV vs (min p0.1.length 6)) 34 1) := (oc_get hl 60 2 (by kernel_rfl) (by kernel_rfl)).trans (hF 2 (by decide))
              have h := fin_slot [(64, .pointer (some ⟨b9, 0, none⟩)), (60, (dropV (cutV vs (min p0.1.length 6)) 34 1))] (hs9.trans h.size) (hd9.trans h.defers) (holds_lk ⟨e64, e60, trivial⟩)
              replace s : St w (.blk b9 (.cells (pkArr (cutV vs (min p0.1.length 6)) (cutP p0).2.1 (cutP p0).2.2) 25) :: (.grp kvm (fun w9 => RdT w9 (cutV vh (min l.length 34)) t → RdT w9 vm (mtL t (fstE (cutP p0)).2.1))) :: .blk b5 (.cells (ssArr va (spD t (cutP p0)).lost (spD t (cutP p0)).hops (spD t (cutP p0)).work) 30) :: (.grp kva (fun w9 => RdZ w9 va 1 (spD t (cutP p0)).hosts.length (intC (spD t (cutP p0)).hosts))) :: .blk b3 (.cells (pkArr (cutV vs (min p0.1.length 6)) (cutP p0).2.1 (cutP p0).2.2) 25) :: E9) _ := s
              refine s_store_one 0 h s one23 rfl rfl rfl (by rw [pkArr_size]; omega) (rd_one (hQ9.keep s.ext)) ?_; intro w1 s
              replace s := s.recell (D := pkArr (dropV (cutV vs (min p0.1.length 6)) 34 1) (cutP p0).2.1 (cutP p0).2.2) 0 rfl (rfl)
              exact s_nil ⟨undef, oc_none rfl, trivial, s⟩
            · intro f9 w2 vl9 E9 hs9 hd9 hl hF s
              have e9 : f9.tmps.getD 9 undef = _ := oc_old hl 9 (by kernel_rfl) (by kernel_rfl) (h.holds 9 _ rfl)
              have h := fin_slot [(9, _)] (hs9.trans h.size) (hd9.trans h.defers) (holds_lk ⟨e9, trivial⟩)
              replace s : St w ((.grp kvm (fun w9 => RdT w9 (cutV vh (min l.length 34)) t → RdT w9 vm (mtL t (fstE (cutP p0)).2.1))) :: .blk b5 (.cells (ssArr va (spD t (cutP p0)).lost (spD t (cutP p0)).hops (spD t (cutP p0)).work) 30) :: (.grp kva (fun w9 => RdZ w9 va 1 (spD t (cutP p0)).hosts.length (intC (spD t (cutP p0)).hosts))) :: .blk b3 (.cells (pkArr (cutV vs (min p0.1.length 6)) (cutP p0).2.1 (cutP p0).2.2) 25) :: E9) _ := s
              refine s_pure h (ru_field fld25_1 (h.ev rfl)) rfl ?_; intro f h
              exact s_nil ⟨_, oc_out 65 rfl (h.holds 65 _ rfl), rfl, s⟩
            intro f w1 vl9 hs9 hd9 hv hr hF s
            replace hv := fun i d h9 => hv i d (show Nat.blt i 9 = true from h9)
            replace h := oc_slT 9 (ops := _) [(58, .pointer (some ⟨b3, 0, none⟩)), (59, (cutV vs (min p0.1.length 6))), (60, (dropV (cutV vs (min p0.1.length 6)) 34 1)), (61, .pointer (some ⟨b3, 1, none⟩)), (62, .int .i64 (cutP p0).2.1), (63, .int .i64 ((cutP p0).2.1 - 1)), (64, .pointer (some ⟨b9, 0, none⟩)), (65, .pointer (some ⟨b9, 1, none⟩))] h hs9 hd9 hr ⟨(hv 0 58 rfl rfl).trans (hF 0 (by kernel_rfl)), (hv 1 59 rfl rfl).trans (hF 1 (by kernel_rfl)), (hv 2 60 rfl rfl).trans (hF 2 (by kernel_rfl)), (hv 3 61 rfl rfl).trans (hF 3 (by kernel_rfl)), (hv 4 62 rfl rfl).trans (hF 4 (by kernel_rfl)), (hv 5 63 rfl rfl).trans (hF 5 (by kernel_rfl)), (hv 6 64 rfl rfl).trans (hF 6 (by kernel_rfl)), (hv 8 65 rfl rfl).trans (hF 8 (by kernel_rfl)), trivial⟩ (by kernel_rfl)
            replace s : St w [.blk b9 (.cells (pkArr (dropV (cutV vs (min p0.1.length 6)) 34 1) (cutP p0).2.1 (cutP p0).2.2) 25), (.grp kvm (fun w9 => RdT w9 (cutV vh (min l.length 34)) t → RdT w9 vm (mtL t (fstE (cutP p0)).2.1))), .blk b5 (.cells (ssArr va (spD t (cutP p0)).lost (spD t (cutP p0)).hops (spD t (cutP p0)).work) 30), (.grp kva (fun w9 => RdZ w9 va 1 (spD t (cutP p0)).hosts.length (intC (spD t (cutP p0)).hosts))), .blk b3 (.cells (pkArr (cutV vs (min p0.1.length 6)) (cutP p0).2.1 (cutP p0).2.2) 25)] _ := s
            refine s_store_one 0 h s one3 rfl rfl rfl (by rw [pkArr_size]; omega) (rfl) ?_; intro w1 s
            replace s := s.recell (D := pkArr (dropV (cutV vs (min p0.1.length 6)) 34 1) (((cutP p0).2.1 - 1)) (cutP p0).2.2) 0 rfl (rfl)
            refine s_nil ?_
            refine hK13 _ _ ?_
            refine c_seq fun K14 hK14 => ?_
            refine c_region ?_
            obtain ⟨q1, q2⟩ := sp_part (of_decide_eq_true e0) (of_decide_eq_false z0) (by have := of_decide_eq_false l0; omega) (of_decide_eq_true c0) (of_decide_eq_true m0)
            refine s_pure h (ru_move (h.ev rfl)) rfl ?_; intro f h
            refine s_load_row 0 h s row25 rfl rfl (pkArr_size _ _ _) rfl ?_; intro f h
            refine s_call h s fnc9 (spdel_any t (cutV vh (min l.length 34)) ((cutP p0).1.drop 1, (cutP p0).2.1 - 1, (cutP p0).2.2) (dropV (cutV vs (min p0.1.length 6)) 34 1) _ (hT.keep s.ext) (by first | omega | decide | exact (show 1 ≤ 1000 by decide) | simp) (hQ9.keep s.ext) (by first | omega | decide | exact (show 1 ≤ 1000 by decide) | simp)) rfl rfl ?_; rintro f w1 v69 ⟨vb, kvb, rfl, hG⟩ hE h sq; replace s := s.add hG; clear hG
            refine s_pure h (ru_move (h.ev rfl)) rfl ?_; intro f h
            refine s_pure h (ru_extract (h.ev rfl) rfl) rfl ?_; intro f h
            refine s_pure h (ru_extract (h.ev rfl) rfl) rfl ?_; intro f h
            refine s_alloc (ssArr nilV 0 0 0) h s zero30 rfl rfl ?_; intro f w1 b10 h s
            refine s_store_row 0 h s row30 rfl rfl rfl (ssArr_size _ _ _ _) (ssArr_size _ _ _ _) (ssArr_ones _ _ _ (rd_one ((s.getG 1 rfl)))) ?_; intro w1 s
            refine s_pure h (ru_assign (h.ev rfl)) rfl ?_; intro f h
            refine s_nil ?_
            refine hK14 _ _ ?_
            refine c_seq fun K15 hK15 => ?_
            refine c_region ?_
            have hwk := sp_wk t ((cutP p0).1.drop 1, (cutP p0).2.1 - 1, (cutP p0).2.2)
            have hwn := (sp_hnn t ((cutP p0).1.drop 1, (cutP p0).2.1 - 1, (cutP p0).2.2)).2
            refine s_pure h (ru_field fld30_3 (h.ev rfl)) rfl ?_; intro f h
            refine s_load_at1 (V := .int .i64 (spD t ((cutP p0).1.drop 1, (cutP p0).2.1 - 1, (cutP p0).2.2)).work) (cell_of_has (Has.of_own s 0 rfl) 3 (ss_k _ _ _ _)) h one3 rfl rfl ?_; intro f h
            refine s_pure h (ru_add (h.ev rfl) (h.ev rfl) (by omega)) rfl ?_; intro f h
            refine s_pure h (ru_field fld30_3 (h.ev rfl)) rfl ?_; intro f h
            refine s_store_one 0 h s one3 rfl rfl rfl (by rw [ssArr_size]; omega) (rfl) ?_; intro w1 s
            replace s := s.recell (D := ssArr vb (spD t ((cutP p0).1.drop 1, (cutP p0).2.1 - 1, (cutP p0).2.2)).lost (spD t ((cutP p0).1.drop 1, (cutP p0).2.1 - 1, (cutP p0).2.2)).hops (((spD t ((cutP p0).1.drop 1, (cutP p0).2.1 - 1, (cutP p0).2.2)).work + 1))) 0 rfl (rfl)
            refine s_nil ?_
            refine hK15 _ _ ?_
            refine c_seq fun K16 hK16 => ?_
            refine c_region ?_
            refine s_call h s fnc11 (ret_val (.bool true) (salive_any _) (congrArg Value.bool (rfl))) rfl rfl ?_; intro f w1 v9 hT hE h s; obtain rfl := hT
            refine s_pure h (ru_move (h.ev rfl)) rfl ?_; intro f h
            refine s_on h rfl rfl rfl ?_
            refine s_pure h (ru_move (h.ev rfl)) rfl ?_; intro f h
            refine s_on h rfl rfl rfl ?_
            refine s_pure h (ru_val (.bool true) (ru_eql (h.ev rfl) (h.ev rfl)) (congrArg Value.bool (by rw [q1]; rfl))) rfl ?_; intro f h
            refine s_pure h (ru_pick_t (h.ev rfl) (h.ev rfl)) rfl ?_; intro f h
            refine s_pure h (ru_move (h.ev rfl)) rfl ?_; intro f h
            refine s_on h rfl rfl rfl ?_
            refine s_load_row 4 h s row30 rfl rfl (ssArr_size _ _ _ _) rfl ?_; intro f h
            refine s_on h rfl rfl rfl ?_
            refine s_load_row 0 h s row30 rfl rfl (ssArr_size _ _ _ _) rfl ?_; intro f h
            refine s_on h rfl rfl rfl ?_
            refine s_call h s fnc13 (ret_val (.bool true) (rsames_any (spD t (cutP p0)) (⟨(spD t ((cutP p0).1.drop 1, (cutP p0).2.1 - 1, (cutP p0).2.2)).hosts, (spD t ((cutP p0).1.drop 1, (cutP p0).2.1 - 1, (cutP p0).2.2)).lost, (spD t ((cutP p0).1.drop 1, (cutP p0).2.1 - 1, (cutP p0).2.2)).hops, (spD t ((cutP p0).1.drop 1, (cutP p0).2.1 - 1, (cutP p0).2.2)).work + 1⟩ : Sd) va vb _ (s.getG 5 rfl) (s.getG 1 rfl) (by have := sp_len (t := t) (p := (cutP p0)); omega) (by have h9 := sp_len (t := t) (p := ((cutP p0).1.drop 1, (cutP p0).2.1 - 1, (cutP p0).2.2)); exact Nat.le_trans h9 (by decide))) (congrArg Value.bool (by rw [q2]; simp))) rfl rfl ?_; intro f w1 v9 hT hE h s; obtain rfl := hT
            refine s_pure h (ru_pick_t (h.ev rfl) (h.ev rfl)) rfl ?_; intro f h
            refine s_pure h (ru_assign (h.ev rfl)) rfl ?_; intro f h
            refine s_nil ?_
            refine hK16 _ _ ?_
            refine wpIn_ret ?_
            exact e_tmp rfl h s rfl (rfl)
      · skip
        refine c_region ?_
        refine s_pure h (ru_move (h.ev rfl)) rfl ?_; intro f h
        refine s_pure h (ru_val (.bool false) (ru_neq (h.ev rfl) (h.ev rfl)) (congrArg Value.bool (by simpa using e0))) rfl ?_; intro f h
        obtain ⟨g1, g2, g3, g4⟩ := sp_0 (of_decide_eq_true e0)
        obtain ⟨y3, y4⟩ := sl_y g1
        have hll := lnk_le t
        have hrl := (rt_iff.1 g1).len
        obtain ⟨⟨hr1, _, _⟩, hr2, hr3, hr4⟩ := rightP_iff.1 g2
        refine s_pure h (ru_move (h.ev rfl)) rfl ?_; intro f h
        refine s_on h rfl rfl rfl ?_
        refine s_pure h (ru_field fld25_1 (h.ev rfl)) rfl ?_; intro f h
        refine s_on h rfl rfl rfl ?_
        refine s_load_at1 (V := .int .i64 (cutP p0).2.1) (cell_of_has (Has.of_own s 2 rfl) 1 (pk_n _ _ _)) h one3 rfl rfl ?_; intro f h
        refine s_on h rfl rfl rfl ?_
        refine s_pure h (ru_val (.bool false) (ru_eql (h.ev rfl) (h.ev rfl)) (congrArg Value.bool z0)) rfl ?_; intro f h
        refine s_pure h (ru_pick_f (h.ev rfl) (h.ev rfl)) rfl ?_; intro f h
        refine s_pure h (ru_move (h.ev rfl)) rfl ?_; intro f h
        refine s_on h rfl rfl rfl ?_
        refine s_pure h (ru_field fld25_0 (h.ev rfl)) rfl ?_; intro f h
        refine s_on h rfl rfl rfl ?_
        refine s_load_at1 (V := (cutV vs (min p0.1.length 6))) (cell_of_has (Has.of_own s 2 rfl) 0 (pk_v _ _ _)) h one23 rfl rfl ?_; intro f h
        refine s_on h rfl rfl rfl ?_
        refine s_pure h (ru_lenZ (hP.keep s.ext) Try.underlying23 (h.ev rfl)) rfl ?_; intro f h
        refine s_on h rfl rfl rfl ?_
        refine s_pure h (ru_val (.bool true) (ru_lss (h.ev rfl) (h.ev rfl)) (congrArg Value.bool ((decide_eq_decide.2 (by omega)).trans l0))) rfl ?_; intro f h
        refine s_pure h (ru_pick_f (h.ev rfl) (h.ev rfl)) rfl ?_; intro f h
        refine s_pure h (ru_move (h.ev rfl)) rfl ?_; intro f h
        refine s_off (b := false) h rfl rfl rfl rfl ?_; intro f h
        refine s_off (b := false) h rfl rfl rfl rfl ?_; intro f h
        refine s_off (b := false) h rfl rfl rfl rfl ?_; intro f h
        refine s_off (b := false) h rfl rfl rfl rfl ?_; intro f h
        refine s_off (b := false) h rfl rfl rfl rfl ?_; intro f h
        refine s_off (b := false) h rfl rfl rfl rfl ?_; intro f h
        refine s_pure h (ru_pick_t (h.ev rfl) (h.ev rfl)) rfl ?_; intro f h
        refine s_nil ?_
        refine hK5 _ _ ?_
        refine wpIn_cond_true (h.ev rfl) ?_
        refine c_seq fun K17 hK17 => ?_
        refine c_region ?_
        refine s_call h s fnc11 (ret_val (.bool true) (salive_any _) (congrArg Value.bool (rfl))) rfl rfl ?_; intro f w1 v9 hT hE h s; obtain rfl := hT
        refine s_pure h (ru_assign (h.ev rfl)) rfl ?_; intro f h
        refine s_nil ?_
        refine hK17 _ _ ?_
        refine wpIn_ret ?_
        refine t_ret ?_
        exact e_tmp rfl h s rfl (rfl)
    · skip
      refine c_region ?_
      refine s_pure h (ru_move (h.ev rfl)) rfl ?_; intro f h
      refine s_pure h (ru_val (.bool false) (ru_neq (h.ev rfl) (h.ev rfl)) (congrArg Value.bool (by simpa using e0))) rfl ?_; intro f h
      obtain ⟨g1, g2, g3, g4⟩ := sp_0 (of_decide_eq_true e0)
      obtain ⟨y3, y4⟩ := sl_y g1
      have hll := lnk_le t
      have hrl := (rt_iff.1 g1).len
      obtain ⟨⟨hr1, _, _⟩, hr2, hr3, hr4⟩ := rightP_iff.1 g2
      refine s_pure h (ru_move (h.ev rfl)) rfl ?_; intro f h
      refine s_on h rfl rfl rfl ?_
      refine s_pure h (ru_field fld25_1 (h.ev rfl)) rfl ?_; intro f h
      refine s_on h rfl rfl rfl ?_
      refine s_load_at1 (V := .int .i64 (cutP p0).2.1) (cell_of_has (Has.of_own s 2 rfl) 1 (pk_n _ _ _)) h one3 rfl rfl ?_; intro f h
      refine s_on h rfl rfl rfl ?_
      refine s_pure h (ru_val (.bool true) (ru_eql (h.ev rfl) (h.ev rfl)) (congrArg Value.bool z0)) rfl ?_; intro f h
      refine s_pure h (ru_pick_f (h.ev rfl) (h.ev rfl)) rfl ?_; intro f h
      refine s_pure h (ru_move (h.ev rfl)) rfl ?_; intro f h
      refine s_off (b := false) h rfl rfl rfl rfl ?_; intro f h
      refine s_off (b := false) h rfl rfl rfl rfl ?_; intro f h
      refine s_off (b := false) h rfl rfl rfl rfl ?_; intro f h
      refine s_off (b := false) h rfl rfl rfl rfl ?_; intro f h
      refine s_pure h (ru_pick_t (h.ev rfl) (h.ev rfl)) rfl ?_; intro f h
      refine s_pure h (ru_move (h.ev rfl)) rfl ?_; intro f h
      refine s_off (b := false) h rfl rfl rfl rfl ?_; intro f h
      refine s_off (b := false) h rfl rfl rfl rfl ?_; intro f h
      refine s_off (b := false) h rfl rfl rfl rfl ?_; intro f h
      refine s_off (b := false) h rfl rfl rfl rfl ?_; intro f h
      refine s_off (b := false) h rfl rfl rfl rfl ?_; intro f h
      refine s_off (b := false) h rfl rfl rfl rfl ?_; intro f h
      refine s_pure h (ru_pick_t (h.ev rfl) (h.ev rfl)) rfl ?_; intro f h
      refine s_nil ?_
      refine hK5 _ _ ?_
      refine wpIn_cond_true (h.ev rfl) ?_
      refine c_seq fun K18 hK18 => ?_
      refine c_region ?_
      refine s_call h s fnc11 (ret_val (.bool true) (salive_any _) (congrArg Value.bool (rfl))) rfl rfl ?_; intro f w1 v9 hT hE h s; obtain rfl := hT
      refine s_pure h (ru_assign (h.ev rfl)) rfl ?_; intro f h
      refine s_nil ?_
      refine hK18 _ _ ?_
      refine wpIn_ret ?_
      refine t_ret ?_
      exact e_tmp rfl h s rfl (rfl)
end Go.Proofs.Ytdehanjhphfanaa
