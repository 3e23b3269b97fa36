/- What NodeOwns answers: for all arguments. -/
import Derived.Test.YtfnjdjbknjcocaaVd
import Derived.Test.YtfnjdjbknjcocaaVe
set_option linter.unusedVariables false
set_option linter.unusedSimpArgs false
set_option linter.unusedSectionVars false
namespace Go.Proofs.Ytfnjdjbknjcocaa
open Go.RowKit
set_option maxHeartbeats 4000000 in
theorem nown_any (n : Nd) (vs vf : Value) (m : Mb) (x : Id) (w : World) (hRs : RdZ w vs 33 n.sc.length (mbCells n.sc)) (hRf : RdZ w vf 33 n.fg.length (mbCells n.fg)) : Calls Try.prog 8 [.agg (ndArr n.me n.pr vs vf), .agg (mbArr m), idV x].toArray w (Ret w (is (.bool true))) := by
  obtain ⟨r, hme, hpr, hlv, hlf, hl6, hl18⟩ := few_nd hRs hRf
  have hnl := nt_len r m
  have hbl := nt_len ({ r with pr := nMb } : Nd) m
  replace hbl : (ntN ({ r with pr := nMb } : Nd) m).sc.length ≤ r.sc.length ∧ (ntN ({ r with pr := nMb } : Nd) m).fg.length ≤ r.fg.length := hbl
  refine c_enter Try.func8 rfl Try.ntmps8 rfl [(0, .agg (ndArr n.me n.pr vs vf)), (1, .agg (mbArr m)), (2, idV x)] (by simp) fun f h => ?_
  have s := St.start w
  refine c_seq fun K1 hK1 => ?_
  refine c_region ?_
  refine s_box (ndArr n.me n.pr vs vf) h s rfl rfl rfl ?_; intro f w1 b3 h s
  refine s_box ((mbArr m)) h s rfl rfl rfl ?_; intro f w1 b4 h s
  refine s_box (idArr x) h s rfl rfl rfl ?_; intro f w1 b5 h s
  refine s_pure h (ru_assign (h.ev rfl)) rfl ?_; intro f h
  refine s_nil ?_
  refine hK1 _ _ ?_
  refine c_seq fun K2 hK2 => ?_
  refine c_region ?_
  refine s_load_row 2 h s row28 rfl rfl (ndArr_size _ _ _ _) rfl ?_; intro f h
  refine s_call h s fnc9 (ret_val (.agg (ndArr r.me r.pr (cutV vs (min n.sc.length 6)) (cutV vf (min n.fg.length 18)))) (few_any n vs vf _ (hRs.keep s.ext) (hRf.keep s.ext)) (by rw [hme, hpr])) rfl rfl ?_; intro f w1 v9 hT hE h s; obtain rfl := hT
  refine s_store_row 2 h s row28 rfl rfl rfl (ndArr_size _ _ _ _) (ndArr_size _ _ _ _) (ndArr_ones (rd_one (hlv.keep s.ext)) (rd_one (hlf.keep s.ext))) ?_; intro w1 s
  refine s_nil ?_
  refine hK2 _ _ ?_
  refine c_seq fun K3 hK3 => ?_
  refine c_region ?_
  refine s_load_row 2 h s row28 rfl rfl (ndArr_size _ _ _ _) rfl ?_; intro f h
  refine s_load_row 1 h s row25 rfl rfl (mbArr_size _) rfl ?_; intro f h
  refine s_call h s fnc21 (notify_any r (cutV vs (min n.sc.length 6)) (cutV vf (min n.fg.length 18)) m _ (hlv.keep s.ext) (hlf.keep s.ext) (by omega) (by omega)) rfl rfl ?_; rintro f w1 v17 ⟨au, av, rfl, hS⟩ hE h sq; replace s := s.add hS; clear hS
  refine s_pure h (ru_move (h.ev rfl)) rfl ?_; intro f h
  refine s_pure h (ru_extract (h.ev rfl) rfl) rfl ?_; intro f h
  refine s_pure h (ru_extract (h.ev rfl) rfl) rfl ?_; intro f h
  refine s_alloc (ndArr zMb zMb nilV nilV) h s zero28 rfl rfl ?_; intro f w1 b7 h s
  refine s_store_row 0 h s row28 rfl rfl rfl (ndArr_size _ _ _ _) (ndArr_size _ _ _ _) (ndArr_ones (own_one (s.getSl 1 rfl)) (own_one (s.getSl 2 rfl))) ?_; intro w1 s
  refine s_pure h (ru_assign (h.ev rfl)) rfl ?_; intro f h
  refine s_nil ?_
  refine hK3 _ _ ?_
  refine c_seq fun K4 hK4 => ?_
  refine c_seq fun K5 hK5 => ?_
  cases e0 : (decide (ntE r m = 0) : Bool)
  · skip
    refine c_region ?_
    refine s_pure h (ru_move (h.ev rfl)) rfl ?_; intro f h
    refine s_pure h (ru_val (.bool true) (ru_neq (h.ev rfl) (h.ev rfl)) (congrArg Value.bool (decide_eq_true (of_decide_eq_false e0)))) rfl ?_; intro f h
    refine s_nil ?_
    refine hK5 _ _ ?_
    refine wpIn_cond_true (h.ev rfl) ?_
    refine c_seq fun K6 hK6 => ?_
    cases hr : (rightN r : Bool)
    · skip
      refine c_region ?_
      refine s_call h s fnc14 (alive_any _) rfl rfl ?_; intro f w1 v9 hT hE h s; obtain rfl := hT
      refine s_pure h (ru_move (h.ev rfl)) rfl ?_; intro f h
      refine s_on h rfl rfl rfl ?_
      refine s_load_row 5 h s row28 rfl rfl (ndArr_size _ _ _ _) rfl ?_; intro f h
      refine s_on h rfl rfl rfl ?_
      refine s_call h s fnc16 (ret_val (.bool false) (nright_any r (cutV vs (min n.sc.length 6)) (cutV vf (min n.fg.length 18)) _ (hlv.keep s.ext) (hlf.keep s.ext) (by omega) (by omega)) (congrArg Value.bool hr)) rfl rfl ?_; intro f w1 v9 hT hE h s; obtain rfl := hT
      refine s_on h rfl rfl rfl ?_
      refine s_pure h (ru_move (h.ev rfl)) rfl ?_; intro f h
      refine s_off (b := true) h rfl rfl rfl rfl ?_; intro f h
      refine s_off (b := true) h rfl rfl rfl rfl ?_; intro f h
      refine s_on h rfl rfl rfl ?_
      refine s_pure h (ru_pick_f (h.ev rfl) (h.ev rfl)) rfl ?_; intro f h
      refine s_on h rfl rfl rfl ?_
      refine s_pure h (ru_val (.bool true) (ru_not (h.ev rfl)) rfl) rfl ?_; intro f h
      refine s_pure h (ru_pick_t (h.ev rfl) (h.ev rfl)) rfl ?_; intro f h
      refine s_pure h (ru_assign (h.ev rfl)) rfl ?_; intro f h
      refine s_nil ?_
      refine hK6 _ _ ?_
      refine wpIn_ret ?_
      refine t_ret ?_
      exact e_tmp rfl h s rfl (rfl)
    · skip
      cases hx : (mayB m : Bool)
      · skip
        refine c_region ?_
        refine s_call h s fnc14 (alive_any _) rfl rfl ?_; intro f w1 v9 hT hE h s; obtain rfl := hT
        refine s_pure h (ru_move (h.ev rfl)) rfl ?_; intro f h
        refine s_on h rfl rfl rfl ?_
        refine s_load_row 5 h s row28 rfl rfl (ndArr_size _ _ _ _) rfl ?_; intro f h
        refine s_on h rfl rfl rfl ?_
        refine s_call h s fnc16 (ret_val (.bool true) (nright_any r (cutV vs (min n.sc.length 6)) (cutV vf (min n.fg.length 18)) _ (hlv.keep s.ext) (hlf.keep s.ext) (by omega) (by omega)) (congrArg Value.bool hr)) rfl rfl ?_; intro f w1 v9 hT hE h s; obtain rfl := hT
        refine s_on h rfl rfl rfl ?_
        refine s_pure h (ru_move (h.ev rfl)) rfl ?_; intro f h
        refine s_on h rfl rfl rfl ?_
        refine s_load_row 4 h s row25 rfl rfl (mbArr_size _) rfl ?_; intro f h
        refine s_on h rfl rfl rfl ?_
        refine s_call h s fnc12 (ret_val (.bool false) (lmay_any m _) (congrArg Value.bool hx)) rfl rfl ?_; intro f w1 v9 hT hE h s; obtain rfl := hT
        refine s_on h rfl rfl rfl ?_
        refine s_pure h (ru_pick_t (h.ev rfl) (h.ev rfl)) rfl ?_; intro f h
        refine s_on h rfl rfl rfl ?_
        refine s_pure h (ru_val (.bool true) (ru_not (h.ev rfl)) rfl) rfl ?_; intro f h
        refine s_pure h (ru_pick_t (h.ev rfl) (h.ev rfl)) rfl ?_; intro f h
        refine s_pure h (ru_assign (h.ev rfl)) rfl ?_; intro f h
        refine s_nil ?_
        refine hK6 _ _ ?_
        refine wpIn_ret ?_
        refine t_ret ?_
        exact e_tmp rfl h s rfl (rfl)
      · skip
        exact absurd (nt_ok hr hx).2 (of_decide_eq_false e0)
  · skip
    refine c_region ?_
    refine s_pure h (ru_move (h.ev rfl)) rfl ?_; intro f h
    refine s_pure h (ru_val (.bool false) (ru_neq (h.ev rfl) (h.ev rfl)) (congrArg Value.bool (decide_eq_false (not_not_intro (of_decide_eq_true e0))))) rfl ?_; intro f h
    refine s_nil ?_
    refine hK5 _ _ ?_
    refine wpIn_cond_false (h.ev rfl) ?_
    refine wpIn_skip ?_
    refine hK4 _ _ ?_
    refine c_seq fun K7 hK7 => ?_
    refine c_region ?_
    have h0 := of_decide_eq_true e0
    refine s_load_row 5 h s row28 rfl rfl (ndArr_size _ _ _ _) rfl ?_; intro f h
    refine s_alloc (ndArr zMb zMb nilV nilV) h s zero28 rfl rfl ?_; intro f w1 b9 h s
    refine s_store_row 0 h s row28 rfl rfl rfl (ndArr_size _ _ _ _) (ndArr_size _ _ _ _) (ndArr_ones (rd_one (hlv.keep s.ext)) (rd_one (hlf.keep s.ext))) ?_; intro w1 s
    refine s_nil ?_
    refine hK7 _ _ ?_
    refine c_seq fun K8 hK8 => ?_
    refine c_region ?_
    refine s_pure h (ru_build_mb1 sttM rfl) rfl ?_; intro f h
    refine s_pure h (ru_field fld28_1 (h.ev rfl)) rfl ?_; intro f h
    refine s_store_sub 0 h s row25 rfl rfl rfl (mbArr_size _) (by rw [ndArr_size]; omega) (mbArr_ones _) ?_; intro w1 s
    replace s := s.recell (D := ndArr r.me nMb (cutV vs (min n.sc.length 6)) (cutV vf (min n.fg.length 18))) 0 rfl (nd_setp _ _ _ _ _)
    refine s_nil ?_
    refine hK8 _ _ ?_
    refine c_seq fun K9 hK9 => ?_
    refine c_region ?_
    refine s_load_row 0 h s row28 rfl rfl (ndArr_size _ _ _ _) rfl ?_; intro f h
    refine s_load_row 5 h s row25 rfl rfl (mbArr_size _) rfl ?_; intro f h
    refine s_call h s fnc21 (notify_any ({ r with pr := nMb } : Nd) (cutV vs (min n.sc.length 6)) (cutV vf (min n.fg.length 18)) m _ (hlv.keep s.ext) (hlf.keep s.ext) (by show r.sc.length ≤ 1000; omega) (by show r.fg.length ≤ 1000; omega)) rfl rfl ?_; rintro f w1 v38 ⟨bu, bv, rfl, hS⟩ hE h sq; replace s := s.add hS; clear hS
    refine s_pure h (ru_move (h.ev rfl)) rfl ?_; intro f h
    refine s_pure h (ru_extract (h.ev rfl) rfl) rfl ?_; intro f h
    refine s_pure h (ru_extract (h.ev rfl) rfl) rfl ?_; intro f h
    refine s_alloc (ndArr zMb zMb nilV nilV) h s zero28 rfl rfl ?_; intro f w1 b10 h s
    refine s_store_row 0 h s row28 rfl rfl rfl (ndArr_size _ _ _ _) (ndArr_size _ _ _ _) (ndArr_ones (own_one (s.getSl 1 rfl)) (own_one (s.getSl 2 rfl))) ?_; intro w1 s
    refine s_pure h (ru_assign (h.ev rfl)) rfl ?_; intro f h
    refine s_nil ?_
    refine hK9 _ _ ?_
    refine c_seq fun K10 hK10 => ?_
    refine c_seq fun K11 hK11 => ?_
    refine c_region ?_
    refine s_load_row 3 h s row28 rfl rfl (ndArr_size _ _ _ _) rfl ?_; intro f h
    refine s_load_row 7 h s row23 rfl rfl (by first | exact idArr_size _ | exact bytesF_size _ _) rfl ?_; intro f h
    refine s_call h s fnc17 (ret_val (.bool false) (nowns_any ({ r with pr := nMb } : Nd) (cutV vs (min n.sc.length 6)) (cutV vf (min n.fg.length 18)) x _ (hlv.keep s.ext) (hlf.keep s.ext) (by show r.sc.length ≤ 1000; omega) (by show r.fg.length ≤ 1000; omega)) (congrArg Value.bool (bare_owns r x))) rfl rfl ?_; intro f w1 v9 hT hE h s; obtain rfl := hT
    refine s_pure h (ru_move (h.ev rfl)) rfl ?_; intro f h
    refine s_on h rfl rfl rfl ?_
    refine s_pure h (ru_move (h.ev rfl)) rfl ?_; intro f h
    refine s_on h rfl rfl rfl ?_
    refine s_pure h (ru_val (.bool false) (ru_neq (h.ev rfl) (h.ev rfl)) (congrArg Value.bool (decide_eq_false (not_not_intro (bare_nt h0))))) rfl ?_; intro f h
    refine s_pure h (ru_pick_f (h.ev rfl) (h.ev rfl)) rfl ?_; intro f h
    refine s_pure h (ru_move (h.ev rfl)) rfl ?_; intro f h
    refine s_on h rfl rfl rfl ?_
    refine s_call h s fnc14 (alive_any _) rfl rfl ?_; intro f w1 v9 hT hE h s; obtain rfl := hT
    refine s_on h rfl rfl rfl ?_
    refine s_pure h (ru_val (.bool false) (ru_not (h.ev rfl)) rfl) rfl ?_; intro f h
    refine s_pure h (ru_pick_f (h.ev rfl) (h.ev rfl)) rfl ?_; intro f h
    refine s_nil ?_
    refine hK11 _ _ ?_
    refine wpIn_cond_false (h.ev rfl) ?_
    refine wpIn_skip ?_
    refine hK10 _ _ ?_
    refine c_seq fun K12 hK12 => ?_
    refine c_seq fun K13 hK13 => ?_
    cases g0 : (decide (m.1 = r.me.1) : Bool)
    · skip
      cases g1 : (decide (m.2 = r.me.2) : Bool)
      · skip
        refine c_region ?_
        refine s_pure h (ru_field fld25_0 (h.ev rfl)) rfl ?_; intro f h
        refine s_load_at1 (cell_of_has (Has.of_own s 8 rfl) 0 (mbArr_no _)) h one3 rfl rfl ?_; intro f h
        refine s_pure h (ru_field fld28_0 (h.ev rfl)) rfl ?_; intro f h
        refine s_pure h (ru_field fld25_0 (h.ev rfl)) rfl ?_; intro f h
        refine s_load_at1 (cell_of_has (Has.of_own s 9 rfl) 0 (ndArr_no _ _ _ _)) h one3 rfl rfl ?_; intro f h
        refine s_pure h (ru_val (.bool false) (ru_eql (h.ev rfl) (h.ev rfl)) (congrArg Value.bool g0)) rfl ?_; intro f h
        refine s_pure h (ru_move (h.ev rfl)) rfl ?_; intro f h
        refine s_on h rfl rfl rfl ?_
        refine s_pure h (ru_field fld25_1 (h.ev rfl)) rfl ?_; intro f h
        refine s_on h rfl rfl rfl ?_
        refine s_load_at (Has.subL (Has.of_own s 8 rfl) 1 32 (D := idArr (_)) (mbArr_id _)) h row23 rfl (by first | exact idArr_size _ | exact bytesF_size _ _) rfl ?_; intro f h
        refine s_on h rfl rfl rfl ?_
        refine s_pure h (ru_field fld28_0 (h.ev rfl)) rfl ?_; intro f h
        refine s_on h rfl rfl rfl ?_
        refine s_pure h (ru_field fld25_1 (h.ev rfl)) rfl ?_; intro f h
        refine s_on h rfl rfl rfl ?_
        refine s_load_at (Has.subL (Has.of_own s 9 rfl) 1 32 (D := idArr r.me.2) (ndArr_id _ _ _ _)) h row23 rfl (by first | exact idArr_size _ | exact bytesF_size _ _) rfl ?_; intro f h
        refine s_on h rfl rfl rfl ?_
        refine s_pure h (ru_val (.bool false) (ru_eql_id idTy (h.ev rfl) (h.ev rfl)) (congrArg Value.bool g1)) rfl ?_; intro f h
        refine s_pure h (ru_pick_f (h.ev rfl) (h.ev rfl)) rfl ?_; intro f h
        refine s_nil ?_
        refine hK13 _ _ ?_
        refine wpIn_cond_false (h.ev rfl) ?_
        refine wpIn_skip ?_
        refine hK12 _ _ ?_
        refine c_seq fun K14 hK14 => ?_
        refine c_seq fun K15 hK15 => ?_
        refine c_walkN 17 [[], [0], [], [0, 1, 2], [0, 1, 2, 3], [0, 1, 2, 3, 4], [0, 1, 2, 3, 4], [0, 1, 2, 3, 4, 5, 6], [0, 1, 2, 3, 4], [0, 1, 2, 3, 4], [0, 1, 2, 3, 4, 9], [0, 1, 2, 3, 4], [0, 1, 2, 3, 4, 11], [0, 1, 2, 3, 4, 11, 12], [0, 1, 2, 3, 4, 5, 6, 7, 8, 9, 10, 11, 12, 13], [0, 1, 2, 3, 4, 5, 6, 7, 8, 9, 10, 11, 12, 13, 14], [0, 1, 2, 3, 4, 5, 6, 7, 8, 9, 10, 11, 12, 13, 14, 15]] h (by kernel_rfl) (by kernel_rfl) (by kernel_rfl) ?_
        refine w_pure h (ru_field fld28_1 (h.ev rfl)) rfl ?_; intro f h
        refine w_load_at (Has.subL (Has.of_own s 0 rfl) 33 33 (D := mbArr (ntN ({ r with pr := nMb } : Nd) m).pr) (ndArr_pr _ _ _ _)) h row25 rfl (mbArr_size _) rfl ?_; intro f h
        refine w_load_row 8 h s row25 rfl rfl (mbArr_size _) rfl ?_; intro f h
        refine w_pure h (ru_val (.bool false) (ru_neqW (eqM _ _) (by kernel_rfl) (by decide) (h.ev rfl) (h.ev rfl) (decide ((ntN ({ r with pr := nMb } : Nd) m).pr = m)) (mbEq _ _)) (by rw [decide_eq_true (bare_take h0 g0 g1).1]; rfl)) rfl ?_; intro f h
        refine w_pure h (ru_move (h.ev rfl)) rfl ?_; intro f h
        refine w_on h rfl rfl rfl ?_
        refine w_load_row 0 h s row28 rfl rfl (ndArr_size _ _ _ _) rfl ?_; intro f h
        refine w_on h rfl rfl rfl ?_
        refine w_load_row 7 h s row23 rfl rfl (by first | exact idArr_size _ | exact bytesF_size _ _) rfl ?_; intro f h
        refine w_on h rfl rfl rfl ?_
        refine w_call h fnc17 (fun w9 hE9 => nowns_any (ntN ({ r with pr := nMb } : Nd) m) bu bv x w9 ((RdZ.of_own (s.getSl 1 rfl)).keep hE9) ((RdZ.of_own (s.getSl 2 rfl)).keep hE9) (by omega) (by omega)) rfl rfl ?_; intro f h
        refine w_on h rfl rfl rfl ?_
        refine w_load_row 7 h s row23 rfl rfl (by first | exact idArr_size _ | exact bytesF_size _ _) rfl ?_; intro f h
        refine w_on h rfl rfl rfl ?_
        refine w_pure h (ru_field fld25_1 (h.ev rfl)) rfl ?_; intro f h
        refine w_on h rfl rfl rfl ?_
        refine w_load_at (Has.subL (Has.of_own s 8 rfl) 1 32 (D := idArr (_)) (mbArr_id _)) h row23 rfl (by first | exact idArr_size _ | exact bytesF_size _ _) rfl ?_; intro f h
        refine w_on h rfl rfl rfl ?_
        refine w_pure h (ru_field fld28_0 (h.ev rfl)) rfl ?_; intro f h
        refine w_on h rfl rfl rfl ?_
        refine w_pure h (ru_field fld25_1 (h.ev rfl)) rfl ?_; intro f h
        refine w_on h rfl rfl rfl ?_
        refine w_load_at (Has.subL (Has.of_own s 9 rfl) 1 32 (D := idArr r.me.2) (ndArr_id _ _ _ _)) h row23 rfl (by first | exact idArr_size _ | exact bytesF_size _ _) rfl ?_; intro f h
        refine w_on h rfl rfl rfl ?_
        refine w_call h fnc31 (fun w9 hE9 => in_any _ _ _ w9) rfl rfl ?_; intro f h
        refine w_on h rfl rfl rfl ?_
        refine w_pure h (ru_val (.bool false) (ru_neq_bool Try.underlying4 (h.ev rfl) (h.ev rfl)) (by rw [(bare_take h0 g0 g1).2 x]; exact congrArg Value.bool (bne_self_f _))) rfl ?_; intro f h
        refine w_pure h (ru_pick_f (h.ev rfl) (h.ev rfl)) rfl ?_; intro f h
        refine w_nil s fun w1 s => ?_
        refine s_nil ?_
        refine hK15 _ _ ?_
        refine wpIn_cond_false (h.ev rfl) ?_
        refine wpIn_skip ?_
        refine hK14 _ _ ?_
        refine c_seq fun K16 hK16 => ?_
        cases w9 : (decide ((ntN r m).pr = m) : Bool)
        · skip
          refine c_walkN 21 [[], [0], [], [0, 1, 2], [0, 1, 2, 3], [0, 1, 2, 3, 4], [0, 1, 2, 3, 4, 5], [0, 1, 2, 3, 4], [0, 1, 2, 3, 4, 7], [0, 1, 2, 3, 4, 5, 6, 7, 8], [0, 1, 2, 3, 4, 5, 6, 7, 8, 9], [0, 1, 2, 3, 4, 5, 6, 7, 8, 9, 10], [0, 1, 2, 3, 4, 5, 6, 7, 8, 9, 10], [0, 1, 2, 3, 4, 5, 6, 7, 8, 9, 10, 11, 12], [0, 1, 2, 3, 4, 5, 6, 7, 8, 9, 10], [0, 1, 2, 3, 4, 5, 6, 7, 8, 9, 10], [0, 1, 2, 3, 4, 5, 6, 7, 8, 9, 10, 11, 12, 13, 14, 15], [0, 1, 2, 3, 4, 5, 6, 7, 8, 9, 10, 11, 12, 13, 14, 15, 16], [0, 1, 2, 3, 4, 5, 6, 7, 8, 9, 10, 11, 12, 13, 14, 15, 16, 17], [0, 1, 2, 3, 4, 5, 6, 7, 8, 9, 10, 11, 12, 13, 14, 15, 16, 17, 18], [0, 1, 2, 3, 4, 5, 6, 7, 8, 9, 10, 11, 12, 13, 14, 15, 16, 17, 18, 19]] h (by kernel_rfl) (by kernel_rfl) (by kernel_rfl) ?_
          refine w_pure h (ru_field fld28_1 (h.ev rfl)) rfl ?_; intro f h
          refine w_load_at (Has.subL (Has.of_own s 4 rfl) 33 33 (D := mbArr (ntN r m).pr) (ndArr_pr _ _ _ _)) h row25 rfl (mbArr_size _) rfl ?_; intro f h
          refine w_load_row 8 h s row25 rfl rfl (mbArr_size _) rfl ?_; intro f h
          refine w_pure h (ru_val (.bool false) (ru_eqlW (eqM _ _) (by kernel_rfl) (by decide) (h.ev rfl) (h.ev rfl) (decide ((ntN r m).pr = m)) (mbEq _ _)) (congrArg Value.bool w9)) rfl ?_; intro f h
          refine w_pure h (ru_move (h.ev rfl)) rfl ?_; intro f h
          refine w_on h rfl rfl rfl ?_
          have hpe := (nt_pr h0).resolve_left (of_decide_eq_false w9)
          refine w_pure h (ru_field fld28_1 (h.ev rfl)) rfl ?_; intro f h
          refine w_on h rfl rfl rfl ?_
          refine w_load_at (Has.subL (Has.of_own s 4 rfl) 33 33 (D := mbArr (ntN r m).pr) (ndArr_pr _ _ _ _)) h row25 rfl (mbArr_size _) rfl ?_; intro f h
          refine w_on h rfl rfl rfl ?_
          refine w_pure h (ru_field fld28_1 (h.ev rfl)) rfl ?_; intro f h
          refine w_on h rfl rfl rfl ?_
          refine w_load_at (Has.subL (Has.of_own s 9 rfl) 33 33 (D := mbArr r.pr) (ndArr_pr _ _ _ _)) h row25 rfl (mbArr_size _) rfl ?_; intro f h
          refine w_on h rfl rfl rfl ?_
          refine w_pure h (ru_val (.bool true) (ru_eqlW (eqM _ _) (by kernel_rfl) (by decide) (h.ev rfl) (h.ev rfl) (decide ((ntN r m).pr = r.pr)) (mbEq _ _)) (congrArg Value.bool (decide_eq_true (hpe.1)))) rfl ?_; intro f h
          refine w_on h rfl rfl rfl ?_
          refine w_pure h (ru_move (h.ev rfl)) rfl ?_; intro f h
          refine w_on h rfl rfl rfl ?_
          refine w_load_row 4 h s row28 rfl rfl (ndArr_size _ _ _ _) rfl ?_; intro f h
          refine w_on h rfl rfl rfl ?_
          refine w_load_row 7 h s row23 rfl rfl (by first | exact idArr_size _ | exact bytesF_size _ _) rfl ?_; intro f h
          refine w_on h rfl rfl rfl ?_
          refine w_call h fnc17 (fun w9 hE9 => nowns_any (ntN r m) au av x w9 ((RdZ.of_own (s.getSl 5 rfl)).keep hE9) ((RdZ.of_own (s.getSl 6 rfl)).keep hE9) (by omega) (by omega)) rfl rfl ?_; intro f h
          refine w_on h rfl rfl rfl ?_
          refine w_load_row 9 h s row28 rfl rfl (ndArr_size _ _ _ _) rfl ?_; intro f h
          refine w_on h rfl rfl rfl ?_
          refine w_load_row 7 h s row23 rfl rfl (by first | exact idArr_size _ | exact bytesF_size _ _) rfl ?_; intro f h
          refine w_on h rfl rfl rfl ?_
          refine w_call h fnc17 (fun w9 hE9 => nowns_any r (cutV vs (min n.sc.length 6)) (cutV vf (min n.fg.length 18)) x w9 (hlv.keep (s.ext.trans hE9)) (hlf.keep (s.ext.trans hE9)) (by omega) (by omega)) rfl rfl ?_; intro f h
          refine w_on h rfl rfl rfl ?_
          refine w_pure h (ru_val (.bool true) (ru_eql_bool Try.underlying4 (h.ev rfl) (h.ev rfl)) (by rw [hpe.2]; simp)) rfl ?_; intro f h
          refine w_on h rfl rfl rfl ?_
          refine w_pure h (ru_pick_t (h.ev rfl) (h.ev rfl)) rfl ?_; intro f h
          refine w_pure h (ru_pick_f (h.ev rfl) (h.ev rfl)) rfl ?_; intro f h
          refine w_pure h (ru_assign (h.ev rfl)) rfl ?_; intro f h
          refine w_nil s fun w1 s => ?_
          refine s_nil ?_
          refine hK16 _ _ ?_
          refine wpIn_ret ?_
          exact e_tmp rfl h s rfl (rfl)
        · skip
          refine c_walkN 21 [[], [0], [], [0, 1, 2], [0, 1, 2, 3], [0, 1, 2, 3, 4], [0, 1, 2, 3, 4, 5], [0, 1, 2, 3, 4], [0, 1, 2, 3, 4, 7], [0, 1, 2, 3, 4, 5, 6, 7, 8], [0, 1, 2, 3, 4, 5, 6, 7, 8, 9], [0, 1, 2, 3, 4, 5, 6, 7, 8, 9, 10], [0, 1, 2, 3, 4, 5, 6, 7, 8, 9, 10], [0, 1, 2, 3, 4, 5, 6, 7, 8, 9, 10, 11, 12], [0, 1, 2, 3, 4, 5, 6, 7, 8, 9, 10], [0, 1, 2, 3, 4, 5, 6, 7, 8, 9, 10], [0, 1, 2, 3, 4, 5, 6, 7, 8, 9, 10, 11, 12, 13, 14, 15], [0, 1, 2, 3, 4, 5, 6, 7, 8, 9, 10, 11, 12, 13, 14, 15, 16], [0, 1, 2, 3, 4, 5, 6, 7, 8, 9, 10, 11, 12, 13, 14, 15, 16, 17], [0, 1, 2, 3, 4, 5, 6, 7, 8, 9, 10, 11, 12, 13, 14, 15, 16, 17, 18], [0, 1, 2, 3, 4, 5, 6, 7, 8, 9, 10, 11, 12, 13, 14, 15, 16, 17, 18, 19]] h (by kernel_rfl) (by kernel_rfl) (by kernel_rfl) ?_
          refine w_pure h (ru_field fld28_1 (h.ev rfl)) rfl ?_; intro f h
          refine w_load_at (Has.subL (Has.of_own s 4 rfl) 33 33 (D := mbArr (ntN r m).pr) (ndArr_pr _ _ _ _)) h row25 rfl (mbArr_size _) rfl ?_; intro f h
          refine w_load_row 8 h s row25 rfl rfl (mbArr_size _) rfl ?_; intro f h
          refine w_pure h (ru_val (.bool true) (ru_eqlW (eqM _ _) (by kernel_rfl) (by decide) (h.ev rfl) (h.ev rfl) (decide ((ntN r m).pr = m)) (mbEq _ _)) (congrArg Value.bool w9)) rfl ?_; intro f h
          refine w_pure h (ru_move (h.ev rfl)) rfl ?_; intro f h
          refine w_off (b := false) h rfl rfl rfl rfl ?_; intro f h
          refine w_off (b := false) h rfl rfl rfl rfl ?_; intro f h
          refine w_off (b := false) h rfl rfl rfl rfl ?_; intro f h
          refine w_off (b := false) h rfl rfl rfl rfl ?_; intro f h
          refine w_off (b := false) h rfl rfl rfl rfl ?_; intro f h
          refine w_off (b := false) h rfl rfl rfl rfl ?_; intro f h
          refine w_none h rfl rfl rfl rfl ?_; intro f h
          refine w_none h rfl rfl rfl rfl ?_; intro f h
          refine w_none h rfl rfl rfl rfl ?_; intro f h
          refine w_none h rfl rfl rfl rfl ?_; intro f h
          refine w_none h rfl rfl rfl rfl ?_; intro f h
          refine w_none h rfl rfl rfl rfl ?_; intro f h
          refine w_none h rfl rfl rfl rfl ?_; intro f h
          refine w_off (b := false) h rfl rfl rfl rfl ?_; intro f h
          refine w_pure h (ru_pick_t (h.ev rfl) (h.ev rfl)) rfl ?_; intro f h
          refine w_pure h (ru_assign (h.ev rfl)) rfl ?_; intro f h
          refine w_nil s fun w1 s => ?_
          refine s_nil ?_
          refine hK16 _ _ ?_
          refine wpIn_ret ?_
          exact e_tmp rfl h s rfl (rfl)
      · skip
        refine c_region ?_
        refine s_pure h (ru_field fld25_0 (h.ev rfl)) rfl ?_; intro f h
        refine s_load_at1 (cell_of_has (Has.of_own s 8 rfl) 0 (mbArr_no _)) h one3 rfl rfl ?_; intro f h
        refine s_pure h (ru_field fld28_0 (h.ev rfl)) rfl ?_; intro f h
        refine s_pure h (ru_field fld25_0 (h.ev rfl)) rfl ?_; intro f h
        refine s_load_at1 (cell_of_has (Has.of_own s 9 rfl) 0 (ndArr_no _ _ _ _)) h one3 rfl rfl ?_; intro f h
        refine s_pure h (ru_val (.bool false) (ru_eql (h.ev rfl) (h.ev rfl)) (congrArg Value.bool g0)) rfl ?_; intro f h
        refine s_pure h (ru_move (h.ev rfl)) rfl ?_; intro f h
        refine s_on h rfl rfl rfl ?_
        refine s_pure h (ru_field fld25_1 (h.ev rfl)) rfl ?_; intro f h
        refine s_on h rfl rfl rfl ?_
        refine s_load_at (Has.subL (Has.of_own s 8 rfl) 1 32 (D := idArr (_)) (mbArr_id _)) h row23 rfl (by first | exact idArr_size _ | exact bytesF_size _ _) rfl ?_; intro f h
        refine s_on h rfl rfl rfl ?_
        refine s_pure h (ru_field fld28_0 (h.ev rfl)) rfl ?_; intro f h
        refine s_on h rfl rfl rfl ?_
        refine s_pure h (ru_field fld25_1 (h.ev rfl)) rfl ?_; intro f h
        refine s_on h rfl rfl rfl ?_
        refine s_load_at (Has.subL (Has.of_own s 9 rfl) 1 32 (D := idArr r.me.2) (ndArr_id _ _ _ _)) h row23 rfl (by first | exact idArr_size _ | exact bytesF_size _ _) rfl ?_; intro f h
        refine s_on h rfl rfl rfl ?_
        refine s_pure h (ru_val (.bool true) (ru_eql_id idTy (h.ev rfl) (h.ev rfl)) (congrArg Value.bool g1)) rfl ?_; intro f h
        refine s_pure h (ru_pick_f (h.ev rfl) (h.ev rfl)) rfl ?_; intro f h
        refine s_nil ?_
        refine hK13 _ _ ?_
        refine wpIn_cond_true (h.ev rfl) ?_
        refine c_seq fun K17 hK17 => ?_
        refine c_region ?_
        refine s_pure h (ru_field fld28_1 (h.ev rfl)) rfl ?_; intro f h
        refine s_load_at (Has.subL (Has.of_own s 4 rfl) 33 33 (D := mbArr (ntN r m).pr) (ndArr_pr _ _ _ _)) h row25 rfl (mbArr_size _) rfl ?_; intro f h
        refine s_pure h (ru_field fld28_1 (h.ev rfl)) rfl ?_; intro f h
        refine s_load_at (Has.subL (Has.of_own s 9 rfl) 33 33 (D := mbArr r.pr) (ndArr_pr _ _ _ _)) h row25 rfl (mbArr_size _) rfl ?_; intro f h
        refine s_pure h (ru_val (.bool true) (ru_eqlW (eqM _ _) (by kernel_rfl) (by decide) (h.ev rfl) (h.ev rfl) (decide ((ntN r m).pr = r.pr)) (mbEq _ _)) (congrArg Value.bool (decide_eq_true ((bare_own h0 (.inr g1)).1)))) rfl ?_; intro f h
        refine s_pure h (ru_move (h.ev rfl)) rfl ?_; intro f h
        refine s_on h rfl rfl rfl ?_
        refine s_pure h (ru_field fld28_1 (h.ev rfl)) rfl ?_; intro f h
        refine s_on h rfl rfl rfl ?_
        refine s_load_at (Has.subL (Has.of_own s 0 rfl) 33 33 (D := mbArr (ntN ({ r with pr := nMb } : Nd) m).pr) (ndArr_pr _ _ _ _)) h row25 rfl (mbArr_size _) rfl ?_; intro f h
        refine s_on h rfl rfl rfl ?_
        refine s_pure h (ru_field fld28_1 (h.ev rfl)) rfl ?_; intro f h
        refine s_on h rfl rfl rfl ?_
        refine s_load_at (Has.subL (Has.of_own s 3 rfl) 33 33 (D := mbArr nMb) (ndArr_pr _ _ _ _)) h row25 rfl (mbArr_size _) rfl ?_; intro f h
        refine s_on h rfl rfl rfl ?_
        refine s_pure h (ru_val (.bool true) (ru_eqlW (eqM _ _) (by kernel_rfl) (by decide) (h.ev rfl) (h.ev rfl) (decide ((ntN ({ r with pr := nMb } : Nd) m).pr = nMb)) (mbEq _ _)) (congrArg Value.bool (decide_eq_true ((bare_own h0 (.inr g1)).2)))) rfl ?_; intro f h
        refine s_pure h (ru_pick_t (h.ev rfl) (h.ev rfl)) rfl ?_; intro f h
        refine s_pure h (ru_assign (h.ev rfl)) rfl ?_; intro f h
        refine s_nil ?_
        refine hK17 _ _ ?_
        refine wpIn_ret ?_
        refine t_ret ?_
        exact e_tmp rfl h s rfl (rfl)
    · skip
      refine c_region ?_
      refine s_pure h (ru_field fld25_0 (h.ev rfl)) rfl ?_; intro f h
      refine s_load_at1 (cell_of_has (Has.of_own s 8 rfl) 0 (mbArr_no _)) h one3 rfl rfl ?_; intro f h
      refine s_pure h (ru_field fld28_0 (h.ev rfl)) rfl ?_; intro f h
      refine s_pure h (ru_field fld25_0 (h.ev rfl)) rfl ?_; intro f h
      refine s_load_at1 (cell_of_has (Has.of_own s 9 rfl) 0 (ndArr_no _ _ _ _)) h one3 rfl rfl ?_; intro f h
      refine s_pure h (ru_val (.bool true) (ru_eql (h.ev rfl) (h.ev rfl)) (congrArg Value.bool g0)) rfl ?_; intro f h
      refine s_pure h (ru_move (h.ev rfl)) rfl ?_; intro f h
      refine s_off (b := false) h rfl rfl rfl rfl ?_; intro f h
      refine s_off (b := false) h rfl rfl rfl rfl ?_; intro f h
      refine s_off (b := false) h rfl rfl rfl rfl ?_; intro f h
      refine s_off (b := false) h rfl rfl rfl rfl ?_; intro f h
      refine s_off (b := false) h rfl rfl rfl rfl ?_; intro f h
      refine s_off (b := false) h rfl rfl rfl rfl ?_; intro f h
      refine s_pure h (ru_pick_t (h.ev rfl) (h.ev rfl)) rfl ?_; intro f h
      refine s_nil ?_
      refine hK13 _ _ ?_
      refine wpIn_cond_true (h.ev rfl) ?_
      refine c_seq fun K18 hK18 => ?_
      refine c_region ?_
      refine s_pure h (ru_field fld28_1 (h.ev rfl)) rfl ?_; intro f h
      refine s_load_at (Has.subL (Has.of_own s 4 rfl) 33 33 (D := mbArr (ntN r m).pr) (ndArr_pr _ _ _ _)) h row25 rfl (mbArr_size _) rfl ?_; intro f h
      refine s_pure h (ru_field fld28_1 (h.ev rfl)) rfl ?_; intro f h
      refine s_load_at (Has.subL (Has.of_own s 9 rfl) 33 33 (D := mbArr r.pr) (ndArr_pr _ _ _ _)) h row25 rfl (mbArr_size _) rfl ?_; intro f h
      refine s_pure h (ru_val (.bool true) (ru_eqlW (eqM _ _) (by kernel_rfl) (by decide) (h.ev rfl) (h.ev rfl) (decide ((ntN r m).pr = r.pr)) (mbEq _ _)) (congrArg Value.bool (decide_eq_true ((bare_own h0 (.inl g0)).1)))) rfl ?_; intro f h
      refine s_pure h (ru_move (h.ev rfl)) rfl ?_; intro f h
      refine s_on h rfl rfl rfl ?_
      refine s_pure h (ru_field fld28_1 (h.ev rfl)) rfl ?_; intro f h
      refine s_on h rfl rfl rfl ?_
      refine s_load_at (Has.subL (Has.of_own s 0 rfl) 33 33 (D := mbArr (ntN ({ r with pr := nMb } : Nd) m).pr) (ndArr_pr _ _ _ _)) h row25 rfl (mbArr_size _) rfl ?_; intro f h
      refine s_on h rfl rfl rfl ?_
      refine s_pure h (ru_field fld28_1 (h.ev rfl)) rfl ?_; intro f h
      refine s_on h rfl rfl rfl ?_
      refine s_load_at (Has.subL (Has.of_own s 3 rfl) 33 33 (D := mbArr nMb) (ndArr_pr _ _ _ _)) h row25 rfl (mbArr_size _) rfl ?_; intro f h
      refine s_on h rfl rfl rfl ?_
      refine s_pure h (ru_val (.bool true) (ru_eqlW (eqM _ _) (by kernel_rfl) (by decide) (h.ev rfl) (h.ev rfl) (decide ((ntN ({ r with pr := nMb } : Nd) m).pr = nMb)) (mbEq _ _)) (congrArg Value.bool (decide_eq_true ((bare_own h0 (.inl g0)).2)))) rfl ?_; intro f h
      refine s_pure h (ru_pick_t (h.ev rfl) (h.ev rfl)) rfl ?_; intro f h
      refine s_pure h (ru_assign (h.ev rfl)) rfl ?_; intro f h
      refine s_nil ?_
      refine hK18 _ _ ?_
      refine wpIn_ret ?_
      refine t_ret ?_
      exact e_tmp rfl h s rfl (rfl)
end Go.Proofs.Ytfnjdjbknjcocaa
