/- What SpreadStops answers: for all arguments. -/
import Derived.Test.YtdehanjhphfanaaVc
import Derived.Test.YtdehanjhphfanaaXl
import Derived.Test.YtdehanjhphfanaaXc
set_option linter.unusedVariables false
set_option linter.unusedSimpArgs false
set_option linter.unusedSectionVars false
namespace Go.Proofs.Ytdehanjhphfanaa
open Go.RowKit
set_option maxHeartbeats 4000000 in
theorem lsstops_any (l : List Tg) (vh : Value) (p0 : Pk) (vs : Value) (mr : Int) (w : World) (hR : RdZ w vh 67 l.length (tgCells l)) (hP0 : RdZ w vs 34 p0.1.length (eCells p0.1)) : Calls Try.prog 4 [vh, .agg (pkArr vs p0.2.1 p0.2.2), .int .i64 mr].toArray w (Ret w (is (.bool true))) := by
  have hT := tg_take hR (min l.length 34) (by omega)
  obtain ⟨t, ht⟩ : ∃ x9, x9 = l.take (min l.length 34) := ⟨_, rfl⟩
  rw [← ht] at hT
  have htl : t.length ≤ 34 := by rw [ht, List.length_take]; omega
  have hP : RdE w (cutV vs (min p0.1.length 6)) (cutP p0).1 := cutP_rd hP0
  have hpl := cutP_len p0
  refine c_enter Try.func4 rfl Try.ntmps4 rfl [(0, vh), (1, .agg (pkArr vs p0.2.1 p0.2.2)), (2, .int .i64 mr)] (by simp) fun f h => ?_
  have s := St.start w
  refine c_seq fun K1 hK1 => ?_
  refine c_region ?_
  refine s_box (pkArr vs p0.2.1 p0.2.2) h s rfl rfl rfl ?_; intro f w1 b4 h s
  refine s_pure h (ru_assign (h.ev rfl)) rfl ?_; intro f h
  refine s_nil ?_
  refine hK1 _ _ ?_
  refine c_seq fun K2 hK2 => ?_
  refine c_walkN 5 [[], [0], [], [0, 1, 2], [0, 1, 2, 3]] h (by kernel_rfl) (by kernel_rfl) (by kernel_rfl) ?_
  refine w_pure h (ru_move (h.ev rfl)) rfl ?_; intro f h
  refine w_call h fnc7 (fun w9 hE9 => sfew_any vh l w9 (hR.keep (s.ext.trans hE9))) rfl rfl ?_; intro f h
  refine w_load_row 0 h s row25 rfl rfl (pkArr_size _ _ _) rfl ?_; intro f h
  refine w_call h fnc8 (fun w9 hE9 => scut_any p0 vs w9 (hP0.keep (s.ext.trans hE9))) rfl rfl ?_; intro f h
  refine w_pure h (ru_assign (h.ev rfl)) rfl ?_; intro f h
  refine w_nil s fun w1 s => ?_
  refine s_store_row 0 h s row25 rfl rfl rfl (pkArr_size _ _ _) (pkArr_size _ _ _) (pkArr_ones _ _ (rd_one (hP.keep s.ext))) ?_; intro w1 s
  refine s_nil ?_
  refine hK2 _ _ ?_
  refine c_seq fun K3 hK3 => ?_
  refine c_region ?_
  refine s_pure h (ru_move (h.ev rfl)) rfl ?_; intro f h
  refine s_load_row 0 h s row25 rfl rfl (pkArr_size _ _ _) rfl ?_; intro f h
  refine s_call h s fnc9 (spdel_any t (cutV vh (min l.length 34)) (cutP p0) (cutV vs (min p0.1.length 6)) _ (hT.keep s.ext) (by first | omega | decide | exact (show 1 ≤ 1000 by decide) | simp) (hP.keep s.ext) (by first | omega | decide | exact (show 1 ≤ 1000 by decide) | simp)) rfl rfl ?_; rintro f w1 v23 ⟨va, kva, rfl, hG⟩ hE h sq; replace s := s.add hG; clear hG
  refine s_pure h (ru_move (h.ev rfl)) rfl ?_; intro f h
  refine s_pure h (ru_extract (h.ev rfl) rfl) rfl ?_; intro f h
  refine s_pure h (ru_extract (h.ev rfl) rfl) rfl ?_; intro f h
  refine s_alloc (ssArr nilV 0 0 0) h s zero30 rfl rfl ?_; intro f w1 b7 h s
  refine s_store_row 0 h s row30 rfl rfl rfl (ssArr_size _ _ _ _) (ssArr_size _ _ _ _) (ssArr_ones _ _ _ (rd_one ((s.getG 1 rfl)))) ?_; intro w1 s
  refine s_pure h (ru_assign (h.ev rfl)) rfl ?_; intro f h
  refine s_nil ?_
  refine hK3 _ _ ?_
  refine c_seq fun K4 hK4 => ?_
  refine c_region ?_
  refine s_pure h (ru_move (h.ev rfl)) rfl ?_; intro f h
  refine s_call h s fnc10 (splnk_any t (cutV vh (min l.length 34)) _ (hT.keep s.ext) (by omega)) rfl rfl ?_; rintro f w1 v28 ⟨vl, kvl, rfl, hG⟩ hE h sq; replace s := s.add hG; clear hG
  refine s_pure h (ru_move (h.ev rfl)) rfl ?_; intro f h
  refine s_pure h (ru_extract (h.ev rfl) rfl) rfl ?_; intro f h
  refine s_pure h (ru_extract (h.ev rfl) rfl) rfl ?_; intro f h
  refine s_pure h (ru_assign (h.ev rfl)) rfl ?_; intro f h
  refine s_pure h (ru_assign (h.ev rfl)) rfl ?_; intro f h
  refine s_nil ?_
  refine hK4 _ _ ?_
  refine c_seq fun K5 hK5 => ?_
  refine c_seq fun K6 hK6 => ?_
  cases e0 : (decide (spE t (cutP p0) = 0) : Bool)
  · skip
    refine c_region ?_
    refine s_pure h (ru_move (h.ev rfl)) rfl ?_; intro f h
    refine s_pure h (ru_val (.bool true) (ru_neq (h.ev rfl) (h.ev rfl)) (congrArg Value.bool (by simpa using e0))) rfl ?_; intro f h
    refine s_pure h (ru_move (h.ev rfl)) rfl ?_; intro f h
    refine s_off (b := false) h rfl rfl rfl rfl ?_; intro f h
    refine s_off (b := false) h rfl rfl rfl rfl ?_; intro f h
    refine s_pure h (ru_pick_t (h.ev rfl) (h.ev rfl)) rfl ?_; intro f h
    refine s_nil ?_
    refine hK6 _ _ ?_
    refine wpIn_cond_true (h.ev rfl) ?_
    refine c_seq fun K7 hK7 => ?_
    refine c_region ?_
    have y1 := sp_no (of_decide_eq_false e0)
    refine s_call h s fnc11 (ret_val (.bool true) (salive_any _) (congrArg Value.bool (rfl))) rfl rfl ?_; intro f w1 v9 hT hE h s; obtain rfl := hT
    refine s_pure h (ru_move (h.ev rfl)) rfl ?_; intro f h
    refine s_on h rfl rfl rfl ?_
    refine s_pure h (ru_field fld30_3 (h.ev rfl)) rfl ?_; intro f h
    refine s_on h rfl rfl rfl ?_
    refine s_load_at1 (V := .int .i64 (spD t (cutP p0)).work) (cell_of_has (Has.of_own s 1 rfl) 3 (ss_k _ _ _ _)) h one3 rfl rfl ?_; intro f h
    refine s_on h rfl rfl rfl ?_
    refine s_pure h (ru_val (.bool true) (ru_eql (h.ev rfl) (h.ev rfl)) (congrArg Value.bool (by rw [y1]; rfl))) rfl ?_; intro f h
    refine s_pure h (ru_pick_t (h.ev rfl) (h.ev rfl)) rfl ?_; intro f h
    refine s_pure h (ru_assign (h.ev rfl)) rfl ?_; intro f h
    refine s_nil ?_
    refine hK7 _ _ ?_
    refine wpIn_ret ?_
    refine t_ret ?_
    exact e_tmp rfl h s rfl (rfl)
  · skip
    refine c_region ?_
    refine s_pure h (ru_move (h.ev rfl)) rfl ?_; intro f h
    refine s_pure h (ru_val (.bool false) (ru_neq (h.ev rfl) (h.ev rfl)) (congrArg Value.bool (by simpa using e0))) rfl ?_; intro f h
    refine s_pure h (ru_move (h.ev rfl)) rfl ?_; intro f h
    refine s_on h rfl rfl rfl ?_
    obtain ⟨g1, g2, g3, g4⟩ := sp_0 (of_decide_eq_true e0)
    obtain ⟨y3, y4⟩ := sl_y g1
    have hll := lnk_le t
    have hrl := (rt_iff.1 g1).len
    obtain ⟨⟨hr1, _, _⟩, hr2, hr3, hr4⟩ := rightP_iff.1 g2
    refine s_pure h (ru_move (h.ev rfl)) rfl ?_; intro f h
    refine s_on h rfl rfl rfl ?_
    refine s_pure h (ru_val (.bool false) (ru_neq (h.ev rfl) (h.ev rfl)) (congrArg Value.bool (by rw [y3]; rfl))) rfl ?_; intro f h
    refine s_pure h (ru_pick_f (h.ev rfl) (h.ev rfl)) rfl ?_; intro f h
    refine s_nil ?_
    refine hK6 _ _ ?_
    refine wpIn_cond_false (h.ev rfl) ?_
    refine wpIn_skip ?_
    refine hK5 _ _ ?_
    refine c_seq fun K8 hK8 => ?_
    refine c_region ?_
    refine s_pure h (ru_move (h.ev rfl)) rfl ?_; intro f h
    refine s_call h s fnc17 (acyclic_ok (slL t) (by rw [y4]; omega) vl _ (s.getG 0 rfl)) rfl rfl ?_; intro f w1 v9 hT hE h s; obtain rfl := hT
    refine s_pure h (ru_move (h.ev rfl)) rfl ?_; intro f h
    refine s_pure h (ru_extract (h.ev rfl) rfl) rfl ?_; intro f h
    refine s_pure h (ru_extract (h.ev rfl) rfl) rfl ?_; intro f h
    refine s_pure h (ru_assign (h.ev rfl)) rfl ?_; intro f h
    refine s_pure h (ru_assign (h.ev rfl)) rfl ?_; intro f h
    refine s_nil ?_
    refine hK8 _ _ ?_
    refine c_seq fun K9 hK9 => ?_
    refine c_seq fun K10 hK10 => ?_
    cases a0 : (acycB (slL t) : Bool)
    · skip
      refine c_region ?_
      refine s_pure h (ru_move (h.ev rfl)) rfl ?_; intro f h
      refine s_pure h (ru_val (.bool false) (ru_neq (h.ev rfl) (h.ev rfl)) (congrArg Value.bool (rfl))) rfl ?_; intro f h
      refine s_pure h (ru_move (h.ev rfl)) rfl ?_; intro f h
      refine s_on h rfl rfl rfl ?_
      refine s_pure h (ru_val (.bool false) (ru_move (h.ev rfl)) (congrArg Value.bool a0)) rfl ?_; intro f h
      refine s_on h rfl rfl rfl ?_
      refine s_pure h (ru_move (h.ev rfl)) rfl ?_; intro f h
      refine s_off (b := true) h rfl rfl rfl rfl ?_; intro f h
      refine s_off (b := true) h rfl rfl rfl rfl ?_; intro f h
      refine s_off (b := true) h rfl rfl rfl rfl ?_; intro f h
      refine s_off (b := true) h rfl rfl rfl rfl ?_; intro f h
      refine s_off (b := true) h rfl rfl rfl rfl ?_; intro f h
      refine s_off (b := true) h rfl rfl rfl rfl ?_; intro f h
      refine s_off (b := true) h rfl rfl rfl rfl ?_; intro f h
      refine s_on h rfl rfl rfl ?_
      refine s_pure h (ru_pick_f (h.ev rfl) (h.ev rfl)) rfl ?_; intro f h
      refine s_on h rfl rfl rfl ?_
      refine s_pure h (ru_move (h.ev rfl)) rfl ?_; intro f h
      refine s_off (b := true) h rfl rfl rfl rfl ?_; intro f h
      refine s_off (b := true) h rfl rfl rfl rfl ?_; intro f h
      refine s_off (b := true) h rfl rfl rfl rfl ?_; intro f h
      refine s_on h rfl rfl rfl ?_
      refine s_pure h (ru_pick_f (h.ev rfl) (h.ev rfl)) rfl ?_; intro f h
      refine s_pure h (ru_pick_f (h.ev rfl) (h.ev rfl)) rfl ?_; intro f h
      refine s_pure h (ru_move (h.ev rfl)) rfl ?_; intro f h
      refine s_on h rfl rfl rfl ?_
      refine s_call h s fnc11 (ret_val (.bool true) (salive_any _) (congrArg Value.bool (rfl))) rfl rfl ?_; intro f w1 v9 hT hE h s; obtain rfl := hT
      refine s_on h rfl rfl rfl ?_
      refine s_pure h (ru_val (.bool false) (ru_not (h.ev rfl)) rfl) rfl ?_; intro f h
      refine s_pure h (ru_pick_f (h.ev rfl) (h.ev rfl)) rfl ?_; intro f h
      refine s_nil ?_
      refine hK10 _ _ ?_
      refine wpIn_cond_false (h.ev rfl) ?_
      refine wpIn_skip ?_
      refine hK9 _ _ ?_
      refine c_seq fun K11 hK11 => ?_
      refine c_region ?_
      refine s_load_row 3 h s row25 rfl rfl (pkArr_size _ _ _) rfl ?_; intro f h
      refine s_alloc (pkArr nilV 0 ByteArray.empty) h s zero25 rfl rfl ?_; intro f w1 b13 h s
      refine s_store_row 0 h s row25 rfl rfl rfl (pkArr_size _ _ _) (pkArr_size _ _ _) (pkArr_ones _ _ (rd_one (hP.keep s.ext))) ?_; intro w1 s
      refine s_nil ?_
      refine hK11 _ _ ?_
      refine c_seq fun K12 hK12 => ?_
      refine c_region ?_
      refine s_pure h (ru_field fld25_1 (h.ev rfl)) rfl ?_; intro f h
      refine s_load_at1 (V := .int .i64 (cutP p0).2.1) (cell_of_has (Has.of_own s 0 rfl) 1 (pk_n _ _ _)) h one3 rfl rfl ?_; intro f h
      refine s_pure h (ru_move (h.ev rfl)) rfl ?_; intro f h
      have hm9 := tm_lt mr
      refine s_pure h (ru_remt (h.ev rfl) (h.ev rfl) (by omega)) rfl ?_; intro f h
      refine s_pure h (ru_add (h.ev rfl) (h.ev rfl) (by omega)) rfl ?_; intro f h
      obtain ⟨d9, hd9, hd8⟩ := tm_nat mr
      refine s_pure h (ru_val (.int .i64 (d9 : Int)) (ru_remt (h.ev rfl) (h.ev rfl) (by omega)) (congrArg (Value.int .i64) hd9)) rfl ?_; intro f h
      refine s_pure h (ru_val (.int .i64 ((cutP p0).2.1 + (d9 : Int))) (ru_add (h.ev rfl) (h.ev rfl) (by omega)) (rfl)) rfl ?_; intro f h
      refine s_pure h (ru_field fld25_1 (h.ev rfl)) rfl ?_; intro f h
      refine s_store_one 0 h s one3 rfl rfl rfl (by rw [pkArr_size]; omega) (rfl) ?_; intro w1 s
      replace s := s.recell (D := pkArr (cutV vs (min p0.1.length 6)) (((cutP p0).2.1 + (d9 : Int))) (cutP p0).2.2) 0 rfl (rfl)
      refine s_nil ?_
      refine hK12 _ _ ?_
      refine c_seq fun K13 hK13 => ?_
      refine c_seq fun K14 hK14 => ?_
      cases u0 : (decide (0 < (spD t (cutP p0)).hops) : Bool)
      · skip
        cases u1 : (decide (64 < (cutP p0).2.1 + (d9 : Int)) : Bool)
        · skip
          refine c_region ?_
          refine s_pure h (ru_field fld30_2 (h.ev rfl)) rfl ?_; intro f h
          refine s_load_at1 (V := .int .i64 (spD t (cutP p0)).hops) (cell_of_has (Has.of_own s 2 rfl) 2 (ss_h _ _ _ _)) h one3 rfl rfl ?_; intro f h
          refine s_pure h (ru_val (.bool false) (ru_gtr (h.ev rfl) (h.ev rfl)) (congrArg Value.bool u0)) rfl ?_; intro f h
          refine s_pure h (ru_move (h.ev rfl)) rfl ?_; intro f h
          refine s_on h rfl rfl rfl ?_
          refine s_pure h (ru_field fld25_1 (h.ev rfl)) rfl ?_; intro f h
          refine s_on h rfl rfl rfl ?_
          refine s_load_at1 (V := .int .i64 (((cutP p0).2.1 + (d9 : Int)))) (cell_of_has (Has.of_own s 0 rfl) 1 (pk_n _ _ _)) h one3 rfl rfl ?_; intro f h
          refine s_on h rfl rfl rfl ?_
          refine s_pure h (ru_val (.bool false) (ru_gtr (h.ev rfl) (h.ev rfl)) (congrArg Value.bool u1)) rfl ?_; intro f h
          refine s_pure h (ru_pick_f (h.ev rfl) (h.ev rfl)) rfl ?_; intro f h
          refine s_nil ?_
          refine hK14 _ _ ?_
          refine wpIn_cond_false (h.ev rfl) ?_
          refine wpIn_skip ?_
          refine hK13 _ _ ?_
          refine c_seq fun K15 hK15 => ?_
          refine c_region ?_
          replace s := s.recell (D := pkArr (cutV vs (min p0.1.length 6)) (plusP (d9 : Int) (cutP p0)).2.1 (plusP (d9 : Int) (cutP p0)).2.2) 0 rfl rfl
          have hQ9 : RdE w (cutV vs (min p0.1.length 6)) (plusP (d9 : Int) (cutP p0)).1 := hP
          have hQl : (plusP (d9 : Int) (cutP p0)).1.length ≤ 6 := hpl
          have hhn := (sp_hnn t (cutP p0)).1
          obtain ⟨q1, q2, q3⟩ := st_more (of_decide_eq_true e0) (z := (d9 : Int)) (by omega) (by have := of_decide_eq_false u0; omega) (by have := of_decide_eq_false u1; omega)
          refine s_pure h (ru_move (h.ev rfl)) rfl ?_; intro f h
          refine s_load_row 0 h s row25 rfl rfl (pkArr_size _ _ _) rfl ?_; intro f h
          refine s_call h s fnc9 (spdel_any t (cutV vh (min l.length 34)) (plusP (d9 : Int) (cutP p0)) (cutV vs (min p0.1.length 6)) _ (hT.keep s.ext) (by first | omega | decide | exact (show 1 ≤ 1000 by decide) | simp) (hQ9.keep s.ext) (by first | omega | decide | exact (show 1 ≤ 1000 by decide) | simp)) rfl rfl ?_; rintro f w1 v91 ⟨vb, kvb, rfl, hG⟩ hE h sq; replace s := s.add hG; clear hG
          refine s_pure h (ru_move (h.ev rfl)) rfl ?_; intro f h
          refine s_pure h (ru_extract (h.ev rfl) rfl) rfl ?_; intro f h
          refine s_pure h (ru_extract (h.ev rfl) rfl) rfl ?_; intro f h
          refine s_alloc (ssArr nilV 0 0 0) h s zero30 rfl rfl ?_; intro f w1 b14 h s
          refine s_store_row 0 h s row30 rfl rfl rfl (ssArr_size _ _ _ _) (ssArr_size _ _ _ _) (ssArr_ones _ _ _ (rd_one ((s.getG 1 rfl)))) ?_; intro w1 s
          refine s_pure h (ru_assign (h.ev rfl)) rfl ?_; intro f h
          refine s_nil ?_
          refine hK15 _ _ ?_
          refine c_seq fun K16 hK16 => ?_
          refine c_region ?_
          refine s_pure h (ru_move (h.ev rfl)) rfl ?_; intro f h
          refine s_pure h (ru_val (.bool true) (ru_eql (h.ev rfl) (h.ev rfl)) (congrArg Value.bool (by rw [q2]; rfl))) rfl ?_; intro f h
          refine s_pure h (ru_move (h.ev rfl)) rfl ?_; intro f h
          refine s_on h rfl rfl rfl ?_
          refine s_load_row 4 h s row30 rfl rfl (ssArr_size _ _ _ _) rfl ?_; intro f h
          refine s_on h rfl rfl rfl ?_
          refine s_load_row 0 h s row30 rfl rfl (ssArr_size _ _ _ _) rfl ?_; intro f h
          refine s_on h rfl rfl rfl ?_
          refine s_call h s fnc13 (ret_val (.bool true) (rsames_any (spD t (cutP p0)) (spD t (plusP (d9 : Int) (cutP p0))) va vb _ (s.getG 5 rfl) (s.getG 1 rfl) (by have := sp_len (t := t) (p := (cutP p0)); omega) (by have := sp_len (t := t) (p := (plusP (d9 : Int) (cutP p0))); omega)) (congrArg Value.bool (by rw [q3]; simp))) rfl rfl ?_; intro f w1 v9 hT hE h s; obtain rfl := hT
          refine s_pure h (ru_pick_t (h.ev rfl) (h.ev rfl)) rfl ?_; intro f h
          refine s_pure h (ru_assign (h.ev rfl)) rfl ?_; intro f h
          refine s_nil ?_
          refine hK16 _ _ ?_
          refine wpIn_ret ?_
          exact e_tmp rfl h s rfl (rfl)
        · skip
          refine c_region ?_
          refine s_pure h (ru_field fld30_2 (h.ev rfl)) rfl ?_; intro f h
          refine s_load_at1 (V := .int .i64 (spD t (cutP p0)).hops) (cell_of_has (Has.of_own s 2 rfl) 2 (ss_h _ _ _ _)) h one3 rfl rfl ?_; intro f h
          refine s_pure h (ru_val (.bool false) (ru_gtr (h.ev rfl) (h.ev rfl)) (congrArg Value.bool u0)) rfl ?_; intro f h
          refine s_pure h (ru_move (h.ev rfl)) rfl ?_; intro f h
          refine s_on h rfl rfl rfl ?_
          refine s_pure h (ru_field fld25_1 (h.ev rfl)) rfl ?_; intro f h
          refine s_on h rfl rfl rfl ?_
          refine s_load_at1 (V := .int .i64 (((cutP p0).2.1 + (d9 : Int)))) (cell_of_has (Has.of_own s 0 rfl) 1 (pk_n _ _ _)) h one3 rfl rfl ?_; intro f h
          refine s_on h rfl rfl rfl ?_
          refine s_pure h (ru_val (.bool true) (ru_gtr (h.ev rfl) (h.ev rfl)) (congrArg Value.bool u1)) rfl ?_; intro f h
          refine s_pure h (ru_pick_f (h.ev rfl) (h.ev rfl)) rfl ?_; intro f h
          refine s_nil ?_
          refine hK14 _ _ ?_
          refine wpIn_cond_true (h.ev rfl) ?_
          refine c_seq fun K17 hK17 => ?_
          refine c_region ?_
          refine s_pure h (ru_assign (h.ev rfl)) rfl ?_; intro f h
          refine s_nil ?_
          refine hK17 _ _ ?_
          refine wpIn_ret ?_
          refine t_ret ?_
          exact e_tmp rfl h s rfl (rfl)
      · skip
        refine c_region ?_
        refine s_pure h (ru_field fld30_2 (h.ev rfl)) rfl ?_; intro f h
        refine s_load_at1 (V := .int .i64 (spD t (cutP p0)).hops) (cell_of_has (Has.of_own s 2 rfl) 2 (ss_h _ _ _ _)) h one3 rfl rfl ?_; intro f h
        refine s_pure h (ru_val (.bool true) (ru_gtr (h.ev rfl) (h.ev rfl)) (congrArg Value.bool u0)) rfl ?_; intro f h
        refine s_pure h (ru_move (h.ev rfl)) rfl ?_; intro f h
        refine s_off (b := false) h rfl rfl rfl rfl ?_; intro f h
        refine s_off (b := false) h rfl rfl rfl rfl ?_; intro f h
        refine s_off (b := false) h rfl rfl rfl rfl ?_; intro f h
        refine s_pure h (ru_pick_t (h.ev rfl) (h.ev rfl)) rfl ?_; intro f h
        refine s_nil ?_
        refine hK14 _ _ ?_
        refine wpIn_cond_true (h.ev rfl) ?_
        refine c_seq fun K18 hK18 => ?_
        refine c_region ?_
        refine s_pure h (ru_assign (h.ev rfl)) rfl ?_; intro f h
        refine s_nil ?_
        refine hK18 _ _ ?_
        refine wpIn_ret ?_
        refine t_ret ?_
        exact e_tmp rfl h s rfl (rfl)
    · skip
      cases h0 : (decide (4 * ((t.length : Int) + 1) ≤ (cutP p0).2.1) : Bool)
      · skip
        refine c_region ?_
        refine s_pure h (ru_move (h.ev rfl)) rfl ?_; intro f h
        refine s_pure h (ru_val (.bool false) (ru_neq (h.ev rfl) (h.ev rfl)) (congrArg Value.bool (rfl))) rfl ?_; intro f h
        refine s_pure h (ru_move (h.ev rfl)) rfl ?_; intro f h
        refine s_on h rfl rfl rfl ?_
        refine s_pure h (ru_val (.bool true) (ru_move (h.ev rfl)) (congrArg Value.bool a0)) rfl ?_; intro f h
        refine s_on h rfl rfl rfl ?_
        refine s_pure h (ru_move (h.ev rfl)) rfl ?_; intro f h
        refine s_on h rfl rfl rfl ?_
        refine s_pure h (ru_field fld25_1 (h.ev rfl)) rfl ?_; intro f h
        refine s_on h rfl rfl rfl ?_
        refine s_load_at1 (V := .int .i64 (cutP p0).2.1) (cell_of_has (Has.of_own s 3 rfl) 1 (pk_n _ _ _)) h one3 rfl rfl ?_; intro f h
        refine s_on h rfl rfl rfl ?_
        refine s_pure h (ru_move (h.ev rfl)) rfl ?_; intro f h
        refine s_on h rfl rfl rfl ?_
        refine s_pure h (ru_lenZ (hT.keep s.ext) Try.underlying22 (h.ev rfl)) rfl ?_; intro f h
        refine s_on h rfl rfl rfl ?_
        refine s_pure h (ru_add (h.ev rfl) (h.ev rfl) (by omega)) rfl ?_; intro f h
        refine s_on h rfl rfl rfl ?_
        refine s_pure h (ru_mul (h.ev rfl) (h.ev rfl) (by omega)) rfl ?_; intro f h
        refine s_on h rfl rfl rfl ?_
        refine s_pure h (ru_val (.bool false) (ru_geq (h.ev rfl) (h.ev rfl)) (congrArg Value.bool h0)) rfl ?_; intro f h
        refine s_on h rfl rfl rfl ?_
        refine s_pure h (ru_pick_t (h.ev rfl) (h.ev rfl)) rfl ?_; intro f h
        refine s_on h rfl rfl rfl ?_
        refine s_pure h (ru_move (h.ev rfl)) rfl ?_; intro f h
        refine s_off (b := true) h rfl rfl rfl rfl ?_; intro f h
        refine s_off (b := true) h rfl rfl rfl rfl ?_; intro f h
        refine s_off (b := true) h rfl rfl rfl rfl ?_; intro f h
        refine s_on h rfl rfl rfl ?_
        refine s_pure h (ru_pick_f (h.ev rfl) (h.ev rfl)) rfl ?_; intro f h
        refine s_pure h (ru_pick_f (h.ev rfl) (h.ev rfl)) rfl ?_; intro f h
        refine s_pure h (ru_move (h.ev rfl)) rfl ?_; intro f h
        refine s_on h rfl rfl rfl ?_
        refine s_call h s fnc11 (ret_val (.bool true) (salive_any _) (congrArg Value.bool (rfl))) rfl rfl ?_; intro f w1 v9 hT hE h s; obtain rfl := hT
        refine s_on h rfl rfl rfl ?_
        refine s_pure h (ru_val (.bool false) (ru_not (h.ev rfl)) rfl) rfl ?_; intro f h
        refine s_pure h (ru_pick_f (h.ev rfl) (h.ev rfl)) rfl ?_; intro f h
        refine s_nil ?_
        refine hK10 _ _ ?_
        refine wpIn_cond_false (h.ev rfl) ?_
        refine wpIn_skip ?_
        refine hK9 _ _ ?_
        refine c_seq fun K19 hK19 => ?_
        refine c_region ?_
        refine s_load_row 3 h s row25 rfl rfl (pkArr_size _ _ _) rfl ?_; intro f h
        refine s_alloc (pkArr nilV 0 ByteArray.empty) h s zero25 rfl rfl ?_; intro f w1 b13 h s
        refine s_store_row 0 h s row25 rfl rfl rfl (pkArr_size _ _ _) (pkArr_size _ _ _) (pkArr_ones _ _ (rd_one (hP.keep s.ext))) ?_; intro w1 s
        refine s_nil ?_
        refine hK19 _ _ ?_
        refine c_seq fun K20 hK20 => ?_
        refine c_region ?_
        refine s_pure h (ru_field fld25_1 (h.ev rfl)) rfl ?_; intro f h
        refine s_load_at1 (V := .int .i64 (cutP p0).2.1) (cell_of_has (Has.of_own s 0 rfl) 1 (pk_n _ _ _)) h one3 rfl rfl ?_; intro f h
        refine s_pure h (ru_move (h.ev rfl)) rfl ?_; intro f h
        have hm9 := tm_lt mr
        refine s_pure h (ru_remt (h.ev rfl) (h.ev rfl) (by omega)) rfl ?_; intro f h
        refine s_pure h (ru_add (h.ev rfl) (h.ev rfl) (by omega)) rfl ?_; intro f h
        obtain ⟨d9, hd9, hd8⟩ := tm_nat mr
        refine s_pure h (ru_val (.int .i64 (d9 : Int)) (ru_remt (h.ev rfl) (h.ev rfl) (by omega)) (congrArg (Value.int .i64) hd9)) rfl ?_; intro f h
        refine s_pure h (ru_val (.int .i64 ((cutP p0).2.1 + (d9 : Int))) (ru_add (h.ev rfl) (h.ev rfl) (by omega)) (rfl)) rfl ?_; intro f h
        refine s_pure h (ru_field fld25_1 (h.ev rfl)) rfl ?_; intro f h
        refine s_store_one 0 h s one3 rfl rfl rfl (by rw [pkArr_size]; omega) (rfl) ?_; intro w1 s
        replace s := s.recell (D := pkArr (cutV vs (min p0.1.length 6)) (((cutP p0).2.1 + (d9 : Int))) (cutP p0).2.2) 0 rfl (rfl)
        refine s_nil ?_
        refine hK20 _ _ ?_
        refine c_seq fun K21 hK21 => ?_
        refine c_seq fun K22 hK22 => ?_
        cases u0 : (decide (0 < (spD t (cutP p0)).hops) : Bool)
        · skip
          cases u1 : (decide (64 < (cutP p0).2.1 + (d9 : Int)) : Bool)
          · skip
            refine c_region ?_
            refine s_pure h (ru_field fld30_2 (h.ev rfl)) rfl ?_; intro f h
            refine s_load_at1 (V := .int .i64 (spD t (cutP p0)).hops) (cell_of_has (Has.of_own s 2 rfl) 2 (ss_h _ _ _ _)) h one3 rfl rfl ?_; intro f h
            refine s_pure h (ru_val (.bool false) (ru_gtr (h.ev rfl) (h.ev rfl)) (congrArg Value.bool u0)) rfl ?_; intro f h
            refine s_pure h (ru_move (h.ev rfl)) rfl ?_; intro f h
            refine s_on h rfl rfl rfl ?_
            refine s_pure h (ru_field fld25_1 (h.ev rfl)) rfl ?_; intro f h
            refine s_on h rfl rfl rfl ?_
            refine s_load_at1 (V := .int .i64 (((cutP p0).2.1 + (d9 : Int)))) (cell_of_has (Has.of_own s 0 rfl) 1 (pk_n _ _ _)) h one3 rfl rfl ?_; intro f h
            refine s_on h rfl rfl rfl ?_
            refine s_pure h (ru_val (.bool false) (ru_gtr (h.ev rfl) (h.ev rfl)) (congrArg Value.bool u1)) rfl ?_; intro f h
            refine s_pure h (ru_pick_f (h.ev rfl) (h.ev rfl)) rfl ?_; intro f h
            refine s_nil ?_
            refine hK22 _ _ ?_
            refine wpIn_cond_false (h.ev rfl) ?_
            refine wpIn_skip ?_
            refine hK21 _ _ ?_
            refine c_seq fun K23 hK23 => ?_
            refine c_region ?_
            replace s := s.recell (D := pkArr (cutV vs (min p0.1.length 6)) (plusP (d9 : Int) (cutP p0)).2.1 (plusP (d9 : Int) (cutP p0)).2.2) 0 rfl rfl
            have hQ9 : RdE w (cutV vs (min p0.1.length 6)) (plusP (d9 : Int) (cutP p0)).1 := hP
            have hQl : (plusP (d9 : Int) (cutP p0)).1.length ≤ 6 := hpl
            have hhn := (sp_hnn t (cutP p0)).1
            obtain ⟨q1, q2, q3⟩ := st_more (of_decide_eq_true e0) (z := (d9 : Int)) (by omega) (by have := of_decide_eq_false u0; omega) (by have := of_decide_eq_false u1; omega)
            refine s_pure h (ru_move (h.ev rfl)) rfl ?_; intro f h
            refine s_load_row 0 h s row25 rfl rfl (pkArr_size _ _ _) rfl ?_; intro f h
            refine s_call h s fnc9 (spdel_any t (cutV vh (min l.length 34)) (plusP (d9 : Int) (cutP p0)) (cutV vs (min p0.1.length 6)) _ (hT.keep s.ext) (by first | omega | decide | exact (show 1 ≤ 1000 by decide) | simp) (hQ9.keep s.ext) (by first | omega | decide | exact (show 1 ≤ 1000 by decide) | simp)) rfl rfl ?_; rintro f w1 v91 ⟨vb, kvb, rfl, hG⟩ hE h sq; replace s := s.add hG; clear hG
            refine s_pure h (ru_move (h.ev rfl)) rfl ?_; intro f h
            refine s_pure h (ru_extract (h.ev rfl) rfl) rfl ?_; intro f h
            refine s_pure h (ru_extract (h.ev rfl) rfl) rfl ?_; intro f h
            refine s_alloc (ssArr nilV 0 0 0) h s zero30 rfl rfl ?_; intro f w1 b14 h s
            refine s_store_row 0 h s row30 rfl rfl rfl (ssArr_size _ _ _ _) (ssArr_size _ _ _ _) (ssArr_ones _ _ _ (rd_one ((s.getG 1 rfl)))) ?_; intro w1 s
            refine s_pure h (ru_assign (h.ev rfl)) rfl ?_; intro f h
            refine s_nil ?_
            refine hK23 _ _ ?_
            refine c_seq fun K24 hK24 => ?_
            refine c_region ?_
            refine s_pure h (ru_move (h.ev rfl)) rfl ?_; intro f h
            refine s_pure h (ru_val (.bool true) (ru_eql (h.ev rfl) (h.ev rfl)) (congrArg Value.bool (by rw [q2]; rfl))) rfl ?_; intro f h
            refine s_pure h (ru_move (h.ev rfl)) rfl ?_; intro f h
            refine s_on h rfl rfl rfl ?_
            refine s_load_row 4 h s row30 rfl rfl (ssArr_size _ _ _ _) rfl ?_; intro f h
            refine s_on h rfl rfl rfl ?_
            refine s_load_row 0 h s row30 rfl rfl (ssArr_size _ _ _ _) rfl ?_; intro f h
            refine s_on h rfl rfl rfl ?_
            refine s_call h s fnc13 (ret_val (.bool true) (rsames_any (spD t (cutP p0)) (spD t (plusP (d9 : Int) (cutP p0))) va vb _ (s.getG 5 rfl) (s.getG 1 rfl) (by have := sp_len (t := t) (p := (cutP p0)); omega) (by have := sp_len (t := t) (p := (plusP (d9 : Int) (cutP p0))); omega)) (congrArg Value.bool (by rw [q3]; simp))) rfl rfl ?_; intro f w1 v9 hT hE h s; obtain rfl := hT
            refine s_pure h (ru_pick_t (h.ev rfl) (h.ev rfl)) rfl ?_; intro f h
            refine s_pure h (ru_assign (h.ev rfl)) rfl ?_; intro f h
            refine s_nil ?_
            refine hK24 _ _ ?_
            refine wpIn_ret ?_
            exact e_tmp rfl h s rfl (rfl)
          · skip
            refine c_region ?_
            refine s_pure h (ru_field fld30_2 (h.ev rfl)) rfl ?_; intro f h
            refine s_load_at1 (V := .int .i64 (spD t (cutP p0)).hops) (cell_of_has (Has.of_own s 2 rfl) 2 (ss_h _ _ _ _)) h one3 rfl rfl ?_; intro f h
            refine s_pure h (ru_val (.bool false) (ru_gtr (h.ev rfl) (h.ev rfl)) (congrArg Value.bool u0)) rfl ?_; intro f h
            refine s_pure h (ru_move (h.ev rfl)) rfl ?_; intro f h
            refine s_on h rfl rfl rfl ?_
            refine s_pure h (ru_field fld25_1 (h.ev rfl)) rfl ?_; intro f h
            refine s_on h rfl rfl rfl ?_
            refine s_load_at1 (V := .int .i64 (((cutP p0).2.1 + (d9 : Int)))) (cell_of_has (Has.of_own s 0 rfl) 1 (pk_n _ _ _)) h one3 rfl rfl ?_; intro f h
            refine s_on h rfl rfl rfl ?_
            refine s_pure h (ru_val (.bool true) (ru_gtr (h.ev rfl) (h.ev rfl)) (congrArg Value.bool u1)) rfl ?_; intro f h
            refine s_pure h (ru_pick_f (h.ev rfl) (h.ev rfl)) rfl ?_; intro f h
            refine s_nil ?_
            refine hK22 _ _ ?_
            refine wpIn_cond_true (h.ev rfl) ?_
            refine c_seq fun K25 hK25 => ?_
            refine c_region ?_
            refine s_pure h (ru_assign (h.ev rfl)) rfl ?_; intro f h
            refine s_nil ?_
            refine hK25 _ _ ?_
            refine wpIn_ret ?_
            refine t_ret ?_
            exact e_tmp rfl h s rfl (rfl)
        · skip
          refine c_region ?_
          refine s_pure h (ru_field fld30_2 (h.ev rfl)) rfl ?_; intro f h
          refine s_load_at1 (V := .int .i64 (spD t (cutP p0)).hops) (cell_of_has (Has.of_own s 2 rfl) 2 (ss_h _ _ _ _)) h one3 rfl rfl ?_; intro f h
          refine s_pure h (ru_val (.bool true) (ru_gtr (h.ev rfl) (h.ev rfl)) (congrArg Value.bool u0)) rfl ?_; intro f h
          refine s_pure h (ru_move (h.ev rfl)) rfl ?_; intro f h
          refine s_off (b := false) h rfl rfl rfl rfl ?_; intro f h
          refine s_off (b := false) h rfl rfl rfl rfl ?_; intro f h
          refine s_off (b := false) h rfl rfl rfl rfl ?_; intro f h
          refine s_pure h (ru_pick_t (h.ev rfl) (h.ev rfl)) rfl ?_; intro f h
          refine s_nil ?_
          refine hK22 _ _ ?_
          refine wpIn_cond_true (h.ev rfl) ?_
          refine c_seq fun K26 hK26 => ?_
          refine c_region ?_
          refine s_pure h (ru_assign (h.ev rfl)) rfl ?_; intro f h
          refine s_nil ?_
          refine hK26 _ _ ?_
          refine wpIn_ret ?_
          refine t_ret ?_
          exact e_tmp rfl h s rfl (rfl)
      · skip
        refine c_region ?_
        refine s_pure h (ru_move (h.ev rfl)) rfl ?_; intro f h
        refine s_pure h (ru_val (.bool false) (ru_neq (h.ev rfl) (h.ev rfl)) (congrArg Value.bool (rfl))) rfl ?_; intro f h
        refine s_pure h (ru_move (h.ev rfl)) rfl ?_; intro f h
        refine s_on h rfl rfl rfl ?_
        refine s_pure h (ru_val (.bool true) (ru_move (h.ev rfl)) (congrArg Value.bool a0)) rfl ?_; intro f h
        refine s_on h rfl rfl rfl ?_
        refine s_pure h (ru_move (h.ev rfl)) rfl ?_; intro f h
        refine s_on h rfl rfl rfl ?_
        refine s_pure h (ru_field fld25_1 (h.ev rfl)) rfl ?_; intro f h
        refine s_on h rfl rfl rfl ?_
        refine s_load_at1 (V := .int .i64 (cutP p0).2.1) (cell_of_has (Has.of_own s 3 rfl) 1 (pk_n _ _ _)) h one3 rfl rfl ?_; intro f h
        refine s_on h rfl rfl rfl ?_
        refine s_pure h (ru_move (h.ev rfl)) rfl ?_; intro f h
        refine s_on h rfl rfl rfl ?_
        refine s_pure h (ru_lenZ (hT.keep s.ext) Try.underlying22 (h.ev rfl)) rfl ?_; intro f h
        refine s_on h rfl rfl rfl ?_
        refine s_pure h (ru_add (h.ev rfl) (h.ev rfl) (by omega)) rfl ?_; intro f h
        refine s_on h rfl rfl rfl ?_
        refine s_pure h (ru_mul (h.ev rfl) (h.ev rfl) (by omega)) rfl ?_; intro f h
        refine s_on h rfl rfl rfl ?_
        refine s_pure h (ru_val (.bool true) (ru_geq (h.ev rfl) (h.ev rfl)) (congrArg Value.bool h0)) rfl ?_; intro f h
        refine s_on h rfl rfl rfl ?_
        refine s_pure h (ru_pick_t (h.ev rfl) (h.ev rfl)) rfl ?_; intro f h
        refine s_on h rfl rfl rfl ?_
        refine s_pure h (ru_move (h.ev rfl)) rfl ?_; intro f h
        refine s_on h rfl rfl rfl ?_
        refine s_pure h (ru_field fld30_2 (h.ev rfl)) rfl ?_; intro f h
        refine s_on h rfl rfl rfl ?_
        refine s_load_at1 (V := .int .i64 (spD t (cutP p0)).hops) (cell_of_has (Has.of_own s 1 rfl) 2 (ss_h _ _ _ _)) h one3 rfl rfl ?_; intro f h
        refine s_on h rfl rfl rfl ?_
        refine s_pure h (ru_val (.bool false) (ru_neq (h.ev rfl) (h.ev rfl)) (congrArg Value.bool (by rw [st_hops (of_decide_eq_true e0) (by rw [← y4]; exact a0) (of_decide_eq_true h0)]; rfl))) rfl ?_; intro f h
        refine s_on h rfl rfl rfl ?_
        refine s_pure h (ru_pick_t (h.ev rfl) (h.ev rfl)) rfl ?_; intro f h
        refine s_pure h (ru_pick_f (h.ev rfl) (h.ev rfl)) rfl ?_; intro f h
        refine s_pure h (ru_move (h.ev rfl)) rfl ?_; intro f h
        refine s_on h rfl rfl rfl ?_
        refine s_call h s fnc11 (ret_val (.bool true) (salive_any _) (congrArg Value.bool (rfl))) rfl rfl ?_; intro f w1 v9 hT hE h s; obtain rfl := hT
        refine s_on h rfl rfl rfl ?_
        refine s_pure h (ru_val (.bool false) (ru_not (h.ev rfl)) rfl) rfl ?_; intro f h
        refine s_pure h (ru_pick_f (h.ev rfl) (h.ev rfl)) rfl ?_; intro f h
        refine s_nil ?_
        refine hK10 _ _ ?_
        refine wpIn_cond_false (h.ev rfl) ?_
        refine wpIn_skip ?_
        refine hK9 _ _ ?_
        refine c_seq fun K27 hK27 => ?_
        refine c_region ?_
        refine s_load_row 3 h s row25 rfl rfl (pkArr_size _ _ _) rfl ?_; intro f h
        refine s_alloc (pkArr nilV 0 ByteArray.empty) h s zero25 rfl rfl ?_; intro f w1 b13 h s
        refine s_store_row 0 h s row25 rfl rfl rfl (pkArr_size _ _ _) (pkArr_size _ _ _) (pkArr_ones _ _ (rd_one (hP.keep s.ext))) ?_; intro w1 s
        refine s_nil ?_
        refine hK27 _ _ ?_
        refine c_seq fun K28 hK28 => ?_
        refine c_region ?_
        refine s_pure h (ru_field fld25_1 (h.ev rfl)) rfl ?_; intro f h
        refine s_load_at1 (V := .int .i64 (cutP p0).2.1) (cell_of_has (Has.of_own s 0 rfl) 1 (pk_n _ _ _)) h one3 rfl rfl ?_; intro f h
        refine s_pure h (ru_move (h.ev rfl)) rfl ?_; intro f h
        have hm9 := tm_lt mr
        refine s_pure h (ru_remt (h.ev rfl) (h.ev rfl) (by omega)) rfl ?_; intro f h
        refine s_pure h (ru_add (h.ev rfl) (h.ev rfl) (by omega)) rfl ?_; intro f h
        obtain ⟨d9, hd9, hd8⟩ := tm_nat mr
        refine s_pure h (ru_val (.int .i64 (d9 : Int)) (ru_remt (h.ev rfl) (h.ev rfl) (by omega)) (congrArg (Value.int .i64) hd9)) rfl ?_; intro f h
        refine s_pure h (ru_val (.int .i64 ((cutP p0).2.1 + (d9 : Int))) (ru_add (h.ev rfl) (h.ev rfl) (by omega)) (rfl)) rfl ?_; intro f h
        refine s_pure h (ru_field fld25_1 (h.ev rfl)) rfl ?_; intro f h
        refine s_store_one 0 h s one3 rfl rfl rfl (by rw [pkArr_size]; omega) (rfl) ?_; intro w1 s
        replace s := s.recell (D := pkArr (cutV vs (min p0.1.length 6)) (((cutP p0).2.1 + (d9 : Int))) (cutP p0).2.2) 0 rfl (rfl)
        refine s_nil ?_
        refine hK28 _ _ ?_
        refine c_seq fun K29 hK29 => ?_
        refine c_seq fun K30 hK30 => ?_
        cases u0 : (decide (0 < (spD t (cutP p0)).hops) : Bool)
        · skip
          cases u1 : (decide (64 < (cutP p0).2.1 + (d9 : Int)) : Bool)
          · skip
            refine c_region ?_
            refine s_pure h (ru_field fld30_2 (h.ev rfl)) rfl ?_; intro f h
            refine s_load_at1 (V := .int .i64 (spD t (cutP p0)).hops) (cell_of_has (Has.of_own s 2 rfl) 2 (ss_h _ _ _ _)) h one3 rfl rfl ?_; intro f h
            refine s_pure h (ru_val (.bool false) (ru_gtr (h.ev rfl) (h.ev rfl)) (congrArg Value.bool u0)) rfl ?_; intro f h
            refine s_pure h (ru_move (h.ev rfl)) rfl ?_; intro f h
            refine s_on h rfl rfl rfl ?_
            refine s_pure h (ru_field fld25_1 (h.ev rfl)) rfl ?_; intro f h
            refine s_on h rfl rfl rfl ?_
            refine s_load_at1 (V := .int .i64 (((cutP p0).2.1 + (d9 : Int)))) (cell_of_has (Has.of_own s 0 rfl) 1 (pk_n _ _ _)) h one3 rfl rfl ?_; intro f h
            refine s_on h rfl rfl rfl ?_
            refine s_pure h (ru_val (.bool false) (ru_gtr (h.ev rfl) (h.ev rfl)) (congrArg Value.bool u1)) rfl ?_; intro f h
            refine s_pure h (ru_pick_f (h.ev rfl) (h.ev rfl)) rfl ?_; intro f h
            refine s_nil ?_
            refine hK30 _ _ ?_
            refine wpIn_cond_false (h.ev rfl) ?_
            refine wpIn_skip ?_
            refine hK29 _ _ ?_
            refine c_seq fun K31 hK31 => ?_
            refine c_region ?_
            replace s := s.recell (D := pkArr (cutV vs (min p0.1.length 6)) (plusP (d9 : Int) (cutP p0)).2.1 (plusP (d9 : Int) (cutP p0)).2.2) 0 rfl rfl
            have hQ9 : RdE w (cutV vs (min p0.1.length 6)) (plusP (d9 : Int) (cutP p0)).1 := hP
            have hQl : (plusP (d9 : Int) (cutP p0)).1.length ≤ 6 := hpl
            have hhn := (sp_hnn t (cutP p0)).1
            obtain ⟨q1, q2, q3⟩ := st_more (of_decide_eq_true e0) (z := (d9 : Int)) (by omega) (by have := of_decide_eq_false u0; omega) (by have := of_decide_eq_false u1; omega)
            refine s_pure h (ru_move (h.ev rfl)) rfl ?_; intro f h
            refine s_load_row 0 h s row25 rfl rfl (pkArr_size _ _ _) rfl ?_; intro f h
            refine s_call h s fnc9 (spdel_any t (cutV vh (min l.length 34)) (plusP (d9 : Int) (cutP p0)) (cutV vs (min p0.1.length 6)) _ (hT.keep s.ext) (by first | omega | decide | exact (show 1 ≤ 1000 by decide) | simp) (hQ9.keep s.ext) (by first | omega | decide | exact (show 1 ≤ 1000 by decide) | simp)) rfl rfl ?_; rintro f w1 v91 ⟨vb, kvb, rfl, hG⟩ hE h sq; replace s := s.add hG; clear hG
            refine s_pure h (ru_move (h.ev rfl)) rfl ?_; intro f h
            refine s_pure h (ru_extract (h.ev rfl) rfl) rfl ?_; intro f h
            refine s_pure h (ru_extract (h.ev rfl) rfl) rfl ?_; intro f h
            refine s_alloc (ssArr nilV 0 0 0) h s zero30 rfl rfl ?_; intro f w1 b14 h s
            refine s_store_row 0 h s row30 rfl rfl rfl (ssArr_size _ _ _ _) (ssArr_size _ _ _ _) (ssArr_ones _ _ _ (rd_one ((s.getG 1 rfl)))) ?_; intro w1 s
            refine s_pure h (ru_assign (h.ev rfl)) rfl ?_; intro f h
            refine s_nil ?_
            refine hK31 _ _ ?_
            refine c_seq fun K32 hK32 => ?_
            refine c_region ?_
            refine s_pure h (ru_move (h.ev rfl)) rfl ?_; intro f h
            refine s_pure h (ru_val (.bool true) (ru_eql (h.ev rfl) (h.ev rfl)) (congrArg Value.bool (by rw [q2]; rfl))) rfl ?_; intro f h
            refine s_pure h (ru_move (h.ev rfl)) rfl ?_; intro f h
            refine s_on h rfl rfl rfl ?_
            refine s_load_row 4 h s row30 rfl rfl (ssArr_size _ _ _ _) rfl ?_; intro f h
            refine s_on h rfl rfl rfl ?_
            refine s_load_row 0 h s row30 rfl rfl (ssArr_size _ _ _ _) rfl ?_; intro f h
            refine s_on h rfl rfl rfl ?_
            refine s_call h s fnc13 (ret_val (.bool true) (rsames_any (spD t (cutP p0)) (spD t (plusP (d9 : Int) (cutP p0))) va vb _ (s.getG 5 rfl) (s.getG 1 rfl) (by have := sp_len (t := t) (p := (cutP p0)); omega) (by have := sp_len (t := t) (p := (plusP (d9 : Int) (cutP p0))); omega)) (congrArg Value.bool (by rw [q3]; simp))) rfl rfl ?_; intro f w1 v9 hT hE h s; obtain rfl := hT
            refine s_pure h (ru_pick_t (h.ev rfl) (h.ev rfl)) rfl ?_; intro f h
            refine s_pure h (ru_assign (h.ev rfl)) rfl ?_; intro f h
            refine s_nil ?_
            refine hK32 _ _ ?_
            refine wpIn_ret ?_
            exact e_tmp rfl h s rfl (rfl)
          · skip
            refine c_region ?_
            refine s_pure h (ru_field fld30_2 (h.ev rfl)) rfl ?_; intro f h
            refine s_load_at1 (V := .int .i64 (spD t (cutP p0)).hops) (cell_of_has (Has.of_own s 2 rfl) 2 (ss_h _ _ _ _)) h one3 rfl rfl ?_; intro f h
            refine s_pure h (ru_val (.bool false) (ru_gtr (h.ev rfl) (h.ev rfl)) (congrArg Value.bool u0)) rfl ?_; intro f h
            refine s_pure h (ru_move (h.ev rfl)) rfl ?_; intro f h
            refine s_on h rfl rfl rfl ?_
            refine s_pure h (ru_field fld25_1 (h.ev rfl)) rfl ?_; intro f h
            refine s_on h rfl rfl rfl ?_
            refine s_load_at1 (V := .int .i64 (((cutP p0).2.1 + (d9 : Int)))) (cell_of_has (Has.of_own s 0 rfl) 1 (pk_n _ _ _)) h one3 rfl rfl ?_; intro f h
            refine s_on h rfl rfl rfl ?_
            refine s_pure h (ru_val (.bool true) (ru_gtr (h.ev rfl) (h.ev rfl)) (congrArg Value.bool u1)) rfl ?_; intro f h
            refine s_pure h (ru_pick_f (h.ev rfl) (h.ev rfl)) rfl ?_; intro f h
            refine s_nil ?_
            refine hK30 _ _ ?_
            refine wpIn_cond_true (h.ev rfl) ?_
            refine c_seq fun K33 hK33 => ?_
            refine c_region ?_
            refine s_pure h (ru_assign (h.ev rfl)) rfl ?_; intro f h
            refine s_nil ?_
            refine hK33 _ _ ?_
            refine wpIn_ret ?_
            refine t_ret ?_
            exact e_tmp rfl h s rfl (rfl)
        · skip
          refine c_region ?_
          refine s_pure h (ru_field fld30_2 (h.ev rfl)) rfl ?_; intro f h
          refine s_load_at1 (V := .int .i64 (spD t (cutP p0)).hops) (cell_of_has (Has.of_own s 2 rfl) 2 (ss_h _ _ _ _)) h one3 rfl rfl ?_; intro f h
          refine s_pure h (ru_val (.bool true) (ru_gtr (h.ev rfl) (h.ev rfl)) (congrArg Value.bool u0)) rfl ?_; intro f h
          refine s_pure h (ru_move (h.ev rfl)) rfl ?_; intro f h
          refine s_off (b := false) h rfl rfl rfl rfl ?_; intro f h
          refine s_off (b := false) h rfl rfl rfl rfl ?_; intro f h
          refine s_off (b := false) h rfl rfl rfl rfl ?_; intro f h
          refine s_pure h (ru_pick_t (h.ev rfl) (h.ev rfl)) rfl ?_; intro f h
          refine s_nil ?_
          refine hK30 _ _ ?_
          refine wpIn_cond_true (h.ev rfl) ?_
          refine c_seq fun K34 hK34 => ?_
          refine c_region ?_
          refine s_pure h (ru_assign (h.ev rfl)) rfl ?_; intro f h
          refine s_nil ?_
          refine hK34 _ _ ?_
          refine wpIn_ret ?_
          refine t_ret ?_
          exact e_tmp rfl h s rfl (rfl)
end Go.Proofs.Ytdehanjhphfanaa
