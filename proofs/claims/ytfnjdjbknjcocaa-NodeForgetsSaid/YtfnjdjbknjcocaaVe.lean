/- What Notify and Follow of package node answer, and the iterator that stops: for all nodes with at most 900 members in each row. -/
import Derived.Test.YtfnjdjbknjcocaaVc
set_option linter.unusedVariables false
set_option linter.unusedSimpArgs false
set_option linter.unusedSectionVars false
namespace Go.Proofs.Ytfnjdjbknjcocaa
open Go.RowKit
theorem notify_any (n : Nd) (vs vf : Value) (x : Mb) (w : World) (hRs : RdZ w vs 33 n.sc.length (mbCells n.sc)) (hRf : RdZ w vf 33 n.fg.length (mbCells n.fg)) (hns : n.sc.length ≤ 1000) (hnf : n.fg.length ≤ 1000) : Calls Try.prog 21 [.agg (ndArr n.me n.pr vs vf), .agg (mbArr x)].toArray w (Ret w (NodP w 25 (ntN n x) (ntE n x))) := by
  refine c_enter Try.func21 rfl Try.ntmps21 rfl [(0, .agg (ndArr n.me n.pr vs vf)), (1, .agg (mbArr x))] (by simp) fun f h => ?_
  have s := St.start w
  refine c_seq fun K1 hK1 => ?_
  refine c_region ?_
  refine s_box (ndArr n.me n.pr vs vf) h s rfl rfl rfl ?_; intro f w1 b2 h s
  refine s_box ((mbArr x)) h s rfl rfl rfl ?_; intro f w1 b3 h s
  refine s_alloc (ndArr zMb zMb nilV nilV) h s zero28 rfl rfl ?_; intro f w1 b4 h s
  refine s_pure h (ru_assign (h.ev rfl)) rfl ?_; intro f h
  refine s_nil ?_
  refine hK1 _ _ ?_
  refine c_seq fun K2 hK2 => ?_
  refine c_seq fun K3 hK3 => ?_
  cases hr : (rightN n : Bool)
  · skip
    refine c_region ?_
    refine s_load_row 2 h s row28 rfl rfl (ndArr_size _ _ _ _) rfl ?_; intro f h
    refine s_call h s fnc16 (ret_val (.bool false) (nright_any n vs vf _ (hRs.keep s.ext) (hRf.keep s.ext) hns hnf) (congrArg Value.bool hr)) rfl rfl ?_; intro f w1 v9 hT hE h s; obtain rfl := hT
    refine s_pure h (ru_val (.bool true) (ru_not (h.ev rfl)) rfl) rfl ?_; intro f h
    refine s_pure h (ru_move (h.ev rfl)) rfl ?_; intro f h
    refine s_off (b := false) h rfl rfl rfl rfl ?_; intro f h
    refine s_off (b := false) h rfl rfl rfl rfl ?_; intro f h
    refine s_off (b := false) h rfl rfl rfl rfl ?_; intro f h
    refine s_pure h (ru_pick_t (h.ev rfl) (h.ev rfl)) rfl ?_; intro f h
    refine s_nil ?_
    refine hK3 _ _ ?_
    refine wpIn_cond_true (h.ev rfl) ?_
    refine c_seq fun K4 hK4 => ?_
    refine c_region ?_
    refine s_pure h (ru_build_nd0 sttN) rfl ?_; intro f h
    refine s_store_row 0 h s row28 rfl rfl rfl (ndArr_size _ _ _ _) (ndArr_size _ _ _ _) (ndArr_ones (rfl) (rfl)) ?_; intro w1 s
    refine s_pure h (ru_assign (h.ev rfl)) rfl ?_; intro f h
    refine s_nil ?_
    refine hK4 _ _ ?_
    refine wpIn_ret ?_
    refine t_ret ?_
    exact e_row_tmp 0 rfl h s row28 rfl rfl (ndArr_size _ _ _ _) rfl (nod_no s (nt_no0 hr).1 (nt_no0 hr).2)
  · skip
    cases hx : (mayB x : Bool)
    · skip
      refine c_region ?_
      refine s_load_row 2 h s row28 rfl rfl (ndArr_size _ _ _ _) rfl ?_; intro f h
      refine s_call h s fnc16 (ret_val (.bool true) (nright_any n vs vf _ (hRs.keep s.ext) (hRf.keep s.ext) hns hnf) (congrArg Value.bool hr)) rfl rfl ?_; intro f w1 v9 hT hE h s; obtain rfl := hT
      refine s_pure h (ru_val (.bool false) (ru_not (h.ev rfl)) rfl) rfl ?_; intro f h
      refine s_pure h (ru_move (h.ev rfl)) rfl ?_; intro f h
      refine s_on h rfl rfl rfl ?_
      refine s_load_row 1 h s row25 rfl rfl (mbArr_size _) rfl ?_; intro f h
      refine s_on h rfl rfl rfl ?_
      refine s_call h s fnc32 (ret_val (.bool false) (nmay_any x _) (congrArg Value.bool hx)) rfl rfl ?_; intro f w1 v9 hT hE h s; obtain rfl := hT
      refine s_on h rfl rfl rfl ?_
      refine s_pure h (ru_val (.bool true) (ru_not (h.ev rfl)) rfl) rfl ?_; intro f h
      refine s_pure h (ru_pick_f (h.ev rfl) (h.ev rfl)) rfl ?_; intro f h
      refine s_nil ?_
      refine hK3 _ _ ?_
      refine wpIn_cond_true (h.ev rfl) ?_
      refine c_seq fun K5 hK5 => ?_
      refine c_region ?_
      refine s_pure h (ru_build_nd0 sttN) rfl ?_; intro f h
      refine s_store_row 0 h s row28 rfl rfl rfl (ndArr_size _ _ _ _) (ndArr_size _ _ _ _) (ndArr_ones (rfl) (rfl)) ?_; intro w1 s
      refine s_pure h (ru_assign (h.ev rfl)) rfl ?_; intro f h
      refine s_nil ?_
      refine hK5 _ _ ?_
      refine wpIn_ret ?_
      refine t_ret ?_
      exact e_row_tmp 0 rfl h s row28 rfl rfl (ndArr_size _ _ _ _) rfl (nod_no s (nt_no1 hx).1 (nt_no1 hx).2)
    · skip
      refine c_region ?_
      refine s_load_row 2 h s row28 rfl rfl (ndArr_size _ _ _ _) rfl ?_; intro f h
      refine s_call h s fnc16 (ret_val (.bool true) (nright_any n vs vf _ (hRs.keep s.ext) (hRf.keep s.ext) hns hnf) (congrArg Value.bool hr)) rfl rfl ?_; intro f w1 v9 hT hE h s; obtain rfl := hT
      refine s_pure h (ru_val (.bool false) (ru_not (h.ev rfl)) rfl) rfl ?_; intro f h
      refine s_pure h (ru_move (h.ev rfl)) rfl ?_; intro f h
      refine s_on h rfl rfl rfl ?_
      refine s_load_row 1 h s row25 rfl rfl (mbArr_size _) rfl ?_; intro f h
      refine s_on h rfl rfl rfl ?_
      refine s_call h s fnc32 (ret_val (.bool true) (nmay_any x _) (congrArg Value.bool hx)) rfl rfl ?_; intro f w1 v9 hT hE h s; obtain rfl := hT
      refine s_on h rfl rfl rfl ?_
      refine s_pure h (ru_val (.bool false) (ru_not (h.ev rfl)) rfl) rfl ?_; intro f h
      refine s_pure h (ru_pick_f (h.ev rfl) (h.ev rfl)) rfl ?_; intro f h
      refine s_nil ?_
      refine hK3 _ _ ?_
      refine wpIn_cond_false (h.ev rfl) ?_
      refine wpIn_skip ?_
      refine hK2 _ _ ?_
      refine c_seq fun K6 hK6 => ?_
      refine c_region ?_
      refine s_load_row 2 h s row28 rfl rfl (ndArr_size _ _ _ _) rfl ?_; intro f h
      refine s_call h s fnc44 (copied_any n vs vf _ (hRs.keep s.ext) (hRf.keep s.ext) hns hnf) rfl rfl ?_; rintro f w1 v17 ⟨us, uf, rfl, hS⟩ hE h sq; replace s := s.add hS
      refine s_store_row 4 h s row28 rfl rfl rfl (ndArr_size _ _ _ _) (ndArr_size _ _ _ _) (ndArr_ones (own_one (s.getSl 0 rfl)) (own_one (s.getSl 1 rfl))) ?_; intro w1 s
      refine s_nil ?_
      refine hK6 _ _ ?_
      refine c_seq fun K7 hK7 => ?_
      cases g0 : (decide (x.1 ≠ n.me.1) : Bool)
      · skip
        refine c_region ?_
        refine s_pure h (ru_field fld25_0 (h.ev rfl)) rfl ?_; intro f h
        refine s_load_at1 (cell_of_has (Has.of_own s 3 rfl) 0 (mbArr_no _)) h one3 rfl rfl ?_; intro f h
        refine s_pure h (ru_field fld28_0 (h.ev rfl)) rfl ?_; intro f h
        refine s_pure h (ru_field fld25_0 (h.ev rfl)) rfl ?_; intro f h
        refine s_load_at1 (cell_of_has (Has.of_own s 4 rfl) 0 (ndArr_no _ _ _ _)) h one3 rfl rfl ?_; intro f h
        refine s_pure h (ru_val (.bool false) (ru_neq (h.ev rfl) (h.ev rfl)) (congrArg Value.bool g0)) rfl ?_; intro f h
        refine s_pure h (ru_move (h.ev rfl)) rfl ?_; intro f h
        refine s_off (b := true) h rfl rfl rfl rfl ?_; intro f h
        refine s_off (b := true) h rfl rfl rfl rfl ?_; intro f h
        refine s_off (b := true) h rfl rfl rfl rfl ?_; intro f h
        refine s_off (b := true) h rfl rfl rfl rfl ?_; intro f h
        refine s_off (b := true) h rfl rfl rfl rfl ?_; intro f h
        refine s_off (b := true) h rfl rfl rfl rfl ?_; intro f h
        refine s_pure h (ru_pick_f (h.ev rfl) (h.ev rfl)) rfl ?_; intro f h
        refine s_pure h (ru_assign (h.ev rfl)) rfl ?_; intro f h
        refine s_nil ?_
        refine hK7 _ _ ?_
        refine c_seq fun K8 hK8 => ?_
        refine c_seq fun K9 hK9 => ?_
        refine c_walkN 18 [[], [0], [0, 1], [0, 1, 2], [0, 1], [0, 1, 2, 3, 4], [0, 1, 2, 3, 4, 5], [0, 1, 2, 3, 4, 5, 6], [0, 1, 2, 3, 4, 5, 6, 7], [0, 1, 2, 3, 4, 5, 6], [0, 1, 2, 3, 4, 5, 6, 9], [0, 1, 2, 3, 4, 5, 6, 9, 10], [0, 1, 2, 3, 4, 5, 6], [0, 1, 2, 3, 4, 5, 6, 12], [0, 1, 2, 3, 4, 5, 6, 12, 13], [0, 1, 2, 3, 4, 5, 6, 7, 8, 9, 10, 11, 12, 13, 14], [0, 1, 2, 3, 4, 5, 6, 7, 8, 9, 10, 11, 12, 13, 14, 15], [0, 1, 2, 3, 4, 5, 6, 7, 8, 9, 10, 11, 12, 13, 14, 15, 16]] h (by kernel_rfl) (by kernel_rfl) (by kernel_rfl) ?_
        refine w_pure h (ru_move (h.ev rfl)) rfl ?_; intro f h
        refine w_pure h (ru_move (h.ev rfl)) rfl ?_; intro f h
        refine w_off (b := true) h rfl rfl rfl rfl ?_; intro f h
        refine w_off (b := true) h rfl rfl rfl rfl ?_; intro f h
        refine w_off (b := true) h rfl rfl rfl rfl ?_; intro f h
        refine w_off (b := true) h rfl rfl rfl rfl ?_; intro f h
        refine w_off (b := true) h rfl rfl rfl rfl ?_; intro f h
        refine w_none h rfl rfl rfl rfl ?_; intro f h
        refine w_none h rfl rfl rfl rfl ?_; intro f h
        refine w_none h rfl rfl rfl rfl ?_; intro f h
        refine w_none h rfl rfl rfl rfl ?_; intro f h
        refine w_none h rfl rfl rfl rfl ?_; intro f h
        refine w_none h rfl rfl rfl rfl ?_; intro f h
        refine w_none h rfl rfl rfl rfl ?_; intro f h
        refine w_none h rfl rfl rfl rfl ?_; intro f h
        refine w_none h rfl rfl rfl rfl ?_; intro f h
        refine w_off (b := true) h rfl rfl rfl rfl ?_; intro f h
        refine w_pure h (ru_pick_f (h.ev rfl) (h.ev rfl)) rfl ?_; intro f h
        refine w_nil s fun w1 s => ?_
        refine s_nil ?_
        refine hK9 _ _ ?_
        refine wpIn_cond_false (h.ev rfl) ?_
        refine wpIn_skip ?_
        refine hK8 _ _ ?_
        refine c_seq fun K10 hK10 => ?_
        refine c_region ?_
        refine s_load_row 4 h s row28 rfl rfl (ndArr_size _ _ _ _) rfl ?_; intro f h
        refine s_store_row 2 h s row28 rfl rfl rfl (ndArr_size _ _ _ _) (ndArr_size _ _ _ _) (ndArr_ones (own_one (s.getSl 0 rfl)) (own_one (s.getSl 1 rfl))) ?_; intro w1 s
        refine s_pure h (ru_assign (h.ev rfl)) rfl ?_; intro f h
        refine s_nil ?_
        refine hK10 _ _ ?_
        refine wpIn_ret ?_
        exact e_row_tmp 2 rfl h s row28 rfl rfl (ndArr_size _ _ _ _) rfl (nod_ok ((nt_ok hr hx).1.trans (by rw [ntP_0 g0])) (nt_ok hr hx).2 (s.pick _ (List.Sublist.cons_cons _ (List.Sublist.cons_cons _ (List.Sublist.cons _ (List.Sublist.cons _ (List.Sublist.cons _ (List.nil_sublist _))))))))
      · skip
        cases g1 : (decide (x.2 ≠ n.me.2) : Bool)
        · skip
          refine c_region ?_
          refine s_pure h (ru_field fld25_0 (h.ev rfl)) rfl ?_; intro f h
          refine s_load_at1 (cell_of_has (Has.of_own s 3 rfl) 0 (mbArr_no _)) h one3 rfl rfl ?_; intro f h
          refine s_pure h (ru_field fld28_0 (h.ev rfl)) rfl ?_; intro f h
          refine s_pure h (ru_field fld25_0 (h.ev rfl)) rfl ?_; intro f h
          refine s_load_at1 (cell_of_has (Has.of_own s 4 rfl) 0 (ndArr_no _ _ _ _)) h one3 rfl rfl ?_; intro f h
          refine s_pure h (ru_val (.bool true) (ru_neq (h.ev rfl) (h.ev rfl)) (congrArg Value.bool g0)) rfl ?_; intro f h
          refine s_pure h (ru_move (h.ev rfl)) rfl ?_; intro f h
          refine s_on h rfl rfl rfl ?_
          refine s_pure h (ru_field fld25_1 (h.ev rfl)) rfl ?_; intro f h
          refine s_on h rfl rfl rfl ?_
          refine s_load_at (Has.subL (Has.of_own s 3 rfl) 1 32 (D := idArr (_)) (mbArr_id _)) h row23 rfl (by first | exact idArr_size _ | exact bytesF_size _ _) rfl ?_; intro f h
          refine s_on h rfl rfl rfl ?_
          refine s_pure h (ru_field fld28_0 (h.ev rfl)) rfl ?_; intro f h
          refine s_on h rfl rfl rfl ?_
          refine s_pure h (ru_field fld25_1 (h.ev rfl)) rfl ?_; intro f h
          refine s_on h rfl rfl rfl ?_
          refine s_load_at (Has.subL (Has.of_own s 4 rfl) 1 32 (D := idArr n.me.2) (ndArr_id _ _ _ _)) h row23 rfl (by first | exact idArr_size _ | exact bytesF_size _ _) rfl ?_; intro f h
          refine s_on h rfl rfl rfl ?_
          refine s_pure h (ru_val (.bool false) (ru_neq_id idTy (h.ev rfl) (h.ev rfl)) (congrArg Value.bool g1)) rfl ?_; intro f h
          refine s_pure h (ru_pick_t (h.ev rfl) (h.ev rfl)) rfl ?_; intro f h
          refine s_pure h (ru_assign (h.ev rfl)) rfl ?_; intro f h
          refine s_nil ?_
          refine hK7 _ _ ?_
          refine c_seq fun K11 hK11 => ?_
          refine c_seq fun K12 hK12 => ?_
          refine c_walkN 18 [[], [0], [0, 1], [0, 1, 2], [0, 1], [0, 1, 2, 3, 4], [0, 1, 2, 3, 4, 5], [0, 1, 2, 3, 4, 5, 6], [0, 1, 2, 3, 4, 5, 6, 7], [0, 1, 2, 3, 4, 5, 6], [0, 1, 2, 3, 4, 5, 6, 9], [0, 1, 2, 3, 4, 5, 6, 9, 10], [0, 1, 2, 3, 4, 5, 6], [0, 1, 2, 3, 4, 5, 6, 12], [0, 1, 2, 3, 4, 5, 6, 12, 13], [0, 1, 2, 3, 4, 5, 6, 7, 8, 9, 10, 11, 12, 13, 14], [0, 1, 2, 3, 4, 5, 6, 7, 8, 9, 10, 11, 12, 13, 14, 15], [0, 1, 2, 3, 4, 5, 6, 7, 8, 9, 10, 11, 12, 13, 14, 15, 16]] h (by kernel_rfl) (by kernel_rfl) (by kernel_rfl) ?_
          refine w_pure h (ru_move (h.ev rfl)) rfl ?_; intro f h
          refine w_pure h (ru_move (h.ev rfl)) rfl ?_; intro f h
          refine w_off (b := true) h rfl rfl rfl rfl ?_; intro f h
          refine w_off (b := true) h rfl rfl rfl rfl ?_; intro f h
          refine w_off (b := true) h rfl rfl rfl rfl ?_; intro f h
          refine w_off (b := true) h rfl rfl rfl rfl ?_; intro f h
          refine w_off (b := true) h rfl rfl rfl rfl ?_; intro f h
          refine w_none h rfl rfl rfl rfl ?_; intro f h
          refine w_none h rfl rfl rfl rfl ?_; intro f h
          refine w_none h rfl rfl rfl rfl ?_; intro f h
          refine w_none h rfl rfl rfl rfl ?_; intro f h
          refine w_none h rfl rfl rfl rfl ?_; intro f h
          refine w_none h rfl rfl rfl rfl ?_; intro f h
          refine w_none h rfl rfl rfl rfl ?_; intro f h
          refine w_none h rfl rfl rfl rfl ?_; intro f h
          refine w_none h rfl rfl rfl rfl ?_; intro f h
          refine w_off (b := true) h rfl rfl rfl rfl ?_; intro f h
          refine w_pure h (ru_pick_f (h.ev rfl) (h.ev rfl)) rfl ?_; intro f h
          refine w_nil s fun w1 s => ?_
          refine s_nil ?_
          refine hK12 _ _ ?_
          refine wpIn_cond_false (h.ev rfl) ?_
          refine wpIn_skip ?_
          refine hK11 _ _ ?_
          refine c_seq fun K13 hK13 => ?_
          refine c_region ?_
          refine s_load_row 4 h s row28 rfl rfl (ndArr_size _ _ _ _) rfl ?_; intro f h
          refine s_store_row 2 h s row28 rfl rfl rfl (ndArr_size _ _ _ _) (ndArr_size _ _ _ _) (ndArr_ones (own_one (s.getSl 0 rfl)) (own_one (s.getSl 1 rfl))) ?_; intro w1 s
          refine s_pure h (ru_assign (h.ev rfl)) rfl ?_; intro f h
          refine s_nil ?_
          refine hK13 _ _ ?_
          refine wpIn_ret ?_
          exact e_row_tmp 2 rfl h s row28 rfl rfl (ndArr_size _ _ _ _) rfl (nod_ok ((nt_ok hr hx).1.trans (by rw [ntP_1 g1])) (nt_ok hr hx).2 (s.pick _ (List.Sublist.cons_cons _ (List.Sublist.cons_cons _ (List.Sublist.cons _ (List.Sublist.cons _ (List.Sublist.cons _ (List.nil_sublist _))))))))
        · skip
          refine c_region ?_
          refine s_pure h (ru_field fld25_0 (h.ev rfl)) rfl ?_; intro f h
          refine s_load_at1 (cell_of_has (Has.of_own s 3 rfl) 0 (mbArr_no _)) h one3 rfl rfl ?_; intro f h
          refine s_pure h (ru_field fld28_0 (h.ev rfl)) rfl ?_; intro f h
          refine s_pure h (ru_field fld25_0 (h.ev rfl)) rfl ?_; intro f h
          refine s_load_at1 (cell_of_has (Has.of_own s 4 rfl) 0 (ndArr_no _ _ _ _)) h one3 rfl rfl ?_; intro f h
          refine s_pure h (ru_val (.bool true) (ru_neq (h.ev rfl) (h.ev rfl)) (congrArg Value.bool g0)) rfl ?_; intro f h
          refine s_pure h (ru_move (h.ev rfl)) rfl ?_; intro f h
          refine s_on h rfl rfl rfl ?_
          refine s_pure h (ru_field fld25_1 (h.ev rfl)) rfl ?_; intro f h
          refine s_on h rfl rfl rfl ?_
          refine s_load_at (Has.subL (Has.of_own s 3 rfl) 1 32 (D := idArr (_)) (mbArr_id _)) h row23 rfl (by first | exact idArr_size _ | exact bytesF_size _ _) rfl ?_; intro f h
          refine s_on h rfl rfl rfl ?_
          refine s_pure h (ru_field fld28_0 (h.ev rfl)) rfl ?_; intro f h
          refine s_on h rfl rfl rfl ?_
          refine s_pure h (ru_field fld25_1 (h.ev rfl)) rfl ?_; intro f h
          refine s_on h rfl rfl rfl ?_
          refine s_load_at (Has.subL (Has.of_own s 4 rfl) 1 32 (D := idArr n.me.2) (ndArr_id _ _ _ _)) h row23 rfl (by first | exact idArr_size _ | exact bytesF_size _ _) rfl ?_; intro f h
          refine s_on h rfl rfl rfl ?_
          refine s_pure h (ru_val (.bool true) (ru_neq_id idTy (h.ev rfl) (h.ev rfl)) (congrArg Value.bool g1)) rfl ?_; intro f h
          refine s_pure h (ru_pick_t (h.ev rfl) (h.ev rfl)) rfl ?_; intro f h
          refine s_pure h (ru_assign (h.ev rfl)) rfl ?_; intro f h
          refine s_nil ?_
          refine hK7 _ _ ?_
          refine c_seq fun K14 hK14 => ?_
          refine c_seq fun K15 hK15 => ?_
          cases q0 : (decide (n.pr = nMb) : Bool)
          · skip
            cases q1 : (inB x.2 n.pr.2 n.me.2 : Bool)
            · skip
              refine c_walkN 18 [[], [0], [0, 1], [0, 1, 2], [0, 1], [0, 1, 2, 3, 4], [0, 1, 2, 3, 4, 5], [0, 1, 2, 3, 4, 5, 6], [0, 1, 2, 3, 4, 5, 6, 7], [0, 1, 2, 3, 4, 5, 6], [0, 1, 2, 3, 4, 5, 6, 9], [0, 1, 2, 3, 4, 5, 6, 9, 10], [0, 1, 2, 3, 4, 5, 6], [0, 1, 2, 3, 4, 5, 6, 12], [0, 1, 2, 3, 4, 5, 6, 12, 13], [0, 1, 2, 3, 4, 5, 6, 7, 8, 9, 10, 11, 12, 13, 14], [0, 1, 2, 3, 4, 5, 6, 7, 8, 9, 10, 11, 12, 13, 14, 15], [0, 1, 2, 3, 4, 5, 6, 7, 8, 9, 10, 11, 12, 13, 14, 15, 16]] h (by kernel_rfl) (by kernel_rfl) (by kernel_rfl) ?_
              refine w_pure h (ru_move (h.ev rfl)) rfl ?_; intro f h
              refine w_pure h (ru_move (h.ev rfl)) rfl ?_; intro f h
              refine w_on h rfl rfl rfl ?_
              refine w_pure h (ru_field fld28_1 (h.ev rfl)) rfl ?_; intro f h
              refine w_on h rfl rfl rfl ?_
              refine w_load_at (Has.subL (Has.of_own s 4 rfl) 33 33 (D := mbArr n.pr) (ndArr_pr _ _ _ _)) h row25 rfl (mbArr_size _) rfl ?_; intro f h
              refine w_on h rfl rfl rfl ?_
              refine w_call h fnc33 (fun w9 hE9 => none_any w9) rfl rfl ?_; intro f h
              refine w_on h rfl rfl rfl ?_
              refine w_pure h (ru_val (.bool false) (ru_eqlW (eqM _ _) (by kernel_rfl) (by decide) (h.ev rfl) (h.ev rfl) (decide (n.pr = nMb)) (mbEq _ _)) (congrArg Value.bool q0)) rfl ?_; intro f h
              refine w_on h rfl rfl rfl ?_
              refine w_pure h (ru_move (h.ev rfl)) rfl ?_; intro f h
              refine w_on h rfl rfl rfl ?_
              refine w_pure h (ru_field fld25_1 (h.ev rfl)) rfl ?_; intro f h
              refine w_on h rfl rfl rfl ?_
              refine w_load_at (Has.subL (Has.of_own s 3 rfl) 1 32 (D := idArr (_)) (mbArr_id _)) h row23 rfl (by first | exact idArr_size _ | exact bytesF_size _ _) rfl ?_; intro f h
              refine w_on h rfl rfl rfl ?_
              refine w_pure h (ru_field fld28_1 (h.ev rfl)) rfl ?_; intro f h
              refine w_on h rfl rfl rfl ?_
              refine w_pure h (ru_field fld25_1 (h.ev rfl)) rfl ?_; intro f h
              refine w_on h rfl rfl rfl ?_
              refine w_load_at (Has.subL (Has.of_own s 4 rfl) 34 32 (D := idArr n.pr.2) (ndArr_pid _ _ _ _)) h row23 rfl (by first | exact idArr_size _ | exact bytesF_size _ _) rfl ?_; intro f h
              refine w_on h rfl rfl rfl ?_
              refine w_pure h (ru_field fld28_0 (h.ev rfl)) rfl ?_; intro f h
              refine w_on h rfl rfl rfl ?_
              refine w_pure h (ru_field fld25_1 (h.ev rfl)) rfl ?_; intro f h
              refine w_on h rfl rfl rfl ?_
              refine w_load_at (Has.subL (Has.of_own s 4 rfl) 1 32 (D := idArr n.me.2) (ndArr_id _ _ _ _)) h row23 rfl (by first | exact idArr_size _ | exact bytesF_size _ _) rfl ?_; intro f h
              refine w_on h rfl rfl rfl ?_
              refine w_call h fnc31 (fun w9 hE9 => ret_val (.bool false) (in_any _ _ _ w9) (congrArg Value.bool q1)) rfl rfl ?_; intro f h
              refine w_on h rfl rfl rfl ?_
              refine w_pure h (ru_pick_f (h.ev rfl) (h.ev rfl)) rfl ?_; intro f h
              refine w_pure h (ru_pick_t (h.ev rfl) (h.ev rfl)) rfl ?_; intro f h
              refine w_nil s fun w1 s => ?_
              refine s_nil ?_
              refine hK15 _ _ ?_
              refine wpIn_cond_false (h.ev rfl) ?_
              refine wpIn_skip ?_
              refine hK14 _ _ ?_
              refine c_seq fun K16 hK16 => ?_
              refine c_region ?_
              refine s_load_row 4 h s row28 rfl rfl (ndArr_size _ _ _ _) rfl ?_; intro f h
              refine s_store_row 2 h s row28 rfl rfl rfl (ndArr_size _ _ _ _) (ndArr_size _ _ _ _) (ndArr_ones (own_one (s.getSl 0 rfl)) (own_one (s.getSl 1 rfl))) ?_; intro w1 s
              refine s_pure h (ru_assign (h.ev rfl)) rfl ?_; intro f h
              refine s_nil ?_
              refine hK16 _ _ ?_
              refine wpIn_ret ?_
              exact e_row_tmp 2 rfl h s row28 rfl rfl (ndArr_size _ _ _ _) rfl (nod_ok ((nt_ok hr hx).1.trans (by rw [ntP_4 q0 q1])) (nt_ok hr hx).2 (s.pick _ (List.Sublist.cons_cons _ (List.Sublist.cons_cons _ (List.Sublist.cons _ (List.Sublist.cons _ (List.Sublist.cons _ (List.nil_sublist _))))))))
            · skip
              refine c_walkN 18 [[], [0], [0, 1], [0, 1, 2], [0, 1], [0, 1, 2, 3, 4], [0, 1, 2, 3, 4, 5], [0, 1, 2, 3, 4, 5, 6], [0, 1, 2, 3, 4, 5, 6, 7], [0, 1, 2, 3, 4, 5, 6], [0, 1, 2, 3, 4, 5, 6, 9], [0, 1, 2, 3, 4, 5, 6, 9, 10], [0, 1, 2, 3, 4, 5, 6], [0, 1, 2, 3, 4, 5, 6, 12], [0, 1, 2, 3, 4, 5, 6, 12, 13], [0, 1, 2, 3, 4, 5, 6, 7, 8, 9, 10, 11, 12, 13, 14], [0, 1, 2, 3, 4, 5, 6, 7, 8, 9, 10, 11, 12, 13, 14, 15], [0, 1, 2, 3, 4, 5, 6, 7, 8, 9, 10, 11, 12, 13, 14, 15, 16]] h (by kernel_rfl) (by kernel_rfl) (by kernel_rfl) ?_
              refine w_pure h (ru_move (h.ev rfl)) rfl ?_; intro f h
              refine w_pure h (ru_move (h.ev rfl)) rfl ?_; intro f h
              refine w_on h rfl rfl rfl ?_
              refine w_pure h (ru_field fld28_1 (h.ev rfl)) rfl ?_; intro f h
              refine w_on h rfl rfl rfl ?_
              refine w_load_at (Has.subL (Has.of_own s 4 rfl) 33 33 (D := mbArr n.pr) (ndArr_pr _ _ _ _)) h row25 rfl (mbArr_size _) rfl ?_; intro f h
              refine w_on h rfl rfl rfl ?_
              refine w_call h fnc33 (fun w9 hE9 => none_any w9) rfl rfl ?_; intro f h
              refine w_on h rfl rfl rfl ?_
              refine w_pure h (ru_val (.bool false) (ru_eqlW (eqM _ _) (by kernel_rfl) (by decide) (h.ev rfl) (h.ev rfl) (decide (n.pr = nMb)) (mbEq _ _)) (congrArg Value.bool q0)) rfl ?_; intro f h
              refine w_on h rfl rfl rfl ?_
              refine w_pure h (ru_move (h.ev rfl)) rfl ?_; intro f h
              refine w_on h rfl rfl rfl ?_
              refine w_pure h (ru_field fld25_1 (h.ev rfl)) rfl ?_; intro f h
              refine w_on h rfl rfl rfl ?_
              refine w_load_at (Has.subL (Has.of_own s 3 rfl) 1 32 (D := idArr (_)) (mbArr_id _)) h row23 rfl (by first | exact idArr_size _ | exact bytesF_size _ _) rfl ?_; intro f h
              refine w_on h rfl rfl rfl ?_
              refine w_pure h (ru_field fld28_1 (h.ev rfl)) rfl ?_; intro f h
              refine w_on h rfl rfl rfl ?_
              refine w_pure h (ru_field fld25_1 (h.ev rfl)) rfl ?_; intro f h
              refine w_on h rfl rfl rfl ?_
              refine w_load_at (Has.subL (Has.of_own s 4 rfl) 34 32 (D := idArr n.pr.2) (ndArr_pid _ _ _ _)) h row23 rfl (by first | exact idArr_size _ | exact bytesF_size _ _) rfl ?_; intro f h
              refine w_on h rfl rfl rfl ?_
              refine w_pure h (ru_field fld28_0 (h.ev rfl)) rfl ?_; intro f h
              refine w_on h rfl rfl rfl ?_
              refine w_pure h (ru_field fld25_1 (h.ev rfl)) rfl ?_; intro f h
              refine w_on h rfl rfl rfl ?_
              refine w_load_at (Has.subL (Has.of_own s 4 rfl) 1 32 (D := idArr n.me.2) (ndArr_id _ _ _ _)) h row23 rfl (by first | exact idArr_size _ | exact bytesF_size _ _) rfl ?_; intro f h
              refine w_on h rfl rfl rfl ?_
              refine w_call h fnc31 (fun w9 hE9 => ret_val (.bool true) (in_any _ _ _ w9) (congrArg Value.bool q1)) rfl rfl ?_; intro f h
              refine w_on h rfl rfl rfl ?_
              refine w_pure h (ru_pick_f (h.ev rfl) (h.ev rfl)) rfl ?_; intro f h
              refine w_pure h (ru_pick_t (h.ev rfl) (h.ev rfl)) rfl ?_; intro f h
              refine w_nil s fun w1 s => ?_
              refine s_nil ?_
              refine hK15 _ _ ?_
              refine wpIn_cond_true (h.ev rfl) ?_
              refine c_region ?_
              refine s_load_row 3 h s row25 rfl rfl (mbArr_size _) rfl ?_; intro f h
              refine s_pure h (ru_field fld28_1 (h.ev rfl)) rfl ?_; intro f h
              refine s_store_sub 4 h s row25 rfl rfl rfl (mbArr_size _) (by rw [ndArr_size]; omega) (mbArr_ones _) ?_; intro w1 s
              replace s := s.recell (D := ndArr n.me x us uf) 4 rfl (nd_setp _ _ _ _ _)
              refine s_nil ?_
              refine hK14 _ _ ?_
              refine c_seq fun K17 hK17 => ?_
              refine c_region ?_
              refine s_load_row 4 h s row28 rfl rfl (ndArr_size _ _ _ _) rfl ?_; intro f h
              refine s_store_row 2 h s row28 rfl rfl rfl (ndArr_size _ _ _ _) (ndArr_size _ _ _ _) (ndArr_ones (own_one (s.getSl 0 rfl)) (own_one (s.getSl 1 rfl))) ?_; intro w1 s
              refine s_pure h (ru_assign (h.ev rfl)) rfl ?_; intro f h
              refine s_nil ?_
              refine hK17 _ _ ?_
              refine wpIn_ret ?_
              exact e_row_tmp 2 rfl h s row28 rfl rfl (ndArr_size _ _ _ _) rfl (nod_ok ((nt_ok hr hx).1.trans (by rw [ntP_3 g0 g1 q0 q1])) (nt_ok hr hx).2 (s.pick _ (List.Sublist.cons_cons _ (List.Sublist.cons_cons _ (List.Sublist.cons _ (List.Sublist.cons _ (List.Sublist.cons _ (List.nil_sublist _))))))))
          · skip
            refine c_walkN 18 [[], [0], [0, 1], [0, 1, 2], [0, 1], [0, 1, 2, 3, 4], [0, 1, 2, 3, 4, 5], [0, 1, 2, 3, 4, 5, 6], [0, 1, 2, 3, 4, 5, 6, 7], [0, 1, 2, 3, 4, 5, 6], [0, 1, 2, 3, 4, 5, 6, 9], [0, 1, 2, 3, 4, 5, 6, 9, 10], [0, 1, 2, 3, 4, 5, 6], [0, 1, 2, 3, 4, 5, 6, 12], [0, 1, 2, 3, 4, 5, 6, 12, 13], [0, 1, 2, 3, 4, 5, 6, 7, 8, 9, 10, 11, 12, 13, 14], [0, 1, 2, 3, 4, 5, 6, 7, 8, 9, 10, 11, 12, 13, 14, 15], [0, 1, 2, 3, 4, 5, 6, 7, 8, 9, 10, 11, 12, 13, 14, 15, 16]] h (by kernel_rfl) (by kernel_rfl) (by kernel_rfl) ?_
            refine w_pure h (ru_move (h.ev rfl)) rfl ?_; intro f h
            refine w_pure h (ru_move (h.ev rfl)) rfl ?_; intro f h
            refine w_on h rfl rfl rfl ?_
            refine w_pure h (ru_field fld28_1 (h.ev rfl)) rfl ?_; intro f h
            refine w_on h rfl rfl rfl ?_
            refine w_load_at (Has.subL (Has.of_own s 4 rfl) 33 33 (D := mbArr n.pr) (ndArr_pr _ _ _ _)) h row25 rfl (mbArr_size _) rfl ?_; intro f h
            refine w_on h rfl rfl rfl ?_
            refine w_call h fnc33 (fun w9 hE9 => none_any w9) rfl rfl ?_; intro f h
            refine w_on h rfl rfl rfl ?_
            refine w_pure h (ru_val (.bool true) (ru_eqlW (eqM _ _) (by kernel_rfl) (by decide) (h.ev rfl) (h.ev rfl) (decide (n.pr = nMb)) (mbEq _ _)) (congrArg Value.bool q0)) rfl ?_; intro f h
            refine w_on h rfl rfl rfl ?_
            refine w_pure h (ru_move (h.ev rfl)) rfl ?_; intro f h
            refine w_off (b := false) h rfl rfl rfl rfl ?_; intro f h
            refine w_off (b := false) h rfl rfl rfl rfl ?_; intro f h
            refine w_off (b := false) h rfl rfl rfl rfl ?_; intro f h
            refine w_off (b := false) h rfl rfl rfl rfl ?_; intro f h
            refine w_off (b := false) h rfl rfl rfl rfl ?_; intro f h
            refine w_off (b := false) h rfl rfl rfl rfl ?_; intro f h
            refine w_off (b := false) h rfl rfl rfl rfl ?_; intro f h
            refine w_off (b := false) h rfl rfl rfl rfl ?_; intro f h
            refine w_off (b := false) h rfl rfl rfl rfl ?_; intro f h
            refine w_on h rfl rfl rfl ?_
            refine w_pure h (ru_pick_t (h.ev rfl) (h.ev rfl)) rfl ?_; intro f h
            refine w_pure h (ru_pick_t (h.ev rfl) (h.ev rfl)) rfl ?_; intro f h
            refine w_nil s fun w1 s => ?_
            refine s_nil ?_
            refine hK15 _ _ ?_
            refine wpIn_cond_true (h.ev rfl) ?_
            refine c_region ?_
            refine s_load_row 3 h s row25 rfl rfl (mbArr_size _) rfl ?_; intro f h
            refine s_pure h (ru_field fld28_1 (h.ev rfl)) rfl ?_; intro f h
            refine s_store_sub 4 h s row25 rfl rfl rfl (mbArr_size _) (by rw [ndArr_size]; omega) (mbArr_ones _) ?_; intro w1 s
            replace s := s.recell (D := ndArr n.me x us uf) 4 rfl (nd_setp _ _ _ _ _)
            refine s_nil ?_
            refine hK14 _ _ ?_
            refine c_seq fun K18 hK18 => ?_
            refine c_region ?_
            refine s_load_row 4 h s row28 rfl rfl (ndArr_size _ _ _ _) rfl ?_; intro f h
            refine s_store_row 2 h s row28 rfl rfl rfl (ndArr_size _ _ _ _) (ndArr_size _ _ _ _) (ndArr_ones (own_one (s.getSl 0 rfl)) (own_one (s.getSl 1 rfl))) ?_; intro w1 s
            refine s_pure h (ru_assign (h.ev rfl)) rfl ?_; intro f h
            refine s_nil ?_
            refine hK18 _ _ ?_
            refine wpIn_ret ?_
            exact e_row_tmp 2 rfl h s row28 rfl rfl (ndArr_size _ _ _ _) rfl (nod_ok ((nt_ok hr hx).1.trans (by rw [ntP_2 g0 g1 q0])) (nt_ok hr hx).2 (s.pick _ (List.Sublist.cons_cons _ (List.Sublist.cons_cons _ (List.Sublist.cons _ (List.Sublist.cons _ (List.Sublist.cons _ (List.nil_sublist _))))))))

theorem first_any (m : Mb) (z : Nd) (ws wf : Value) (w : World) : Calls Try.prog 45 [.agg (mbArr m), .agg (ndArr z.me z.pr ws wf)].toArray w (Ret w (is (.agg (mbArr (frM m z))))) := by
  refine c_enter Try.func45 rfl Try.ntmps45 rfl [(0, .agg (mbArr m)), (1, .agg (ndArr z.me z.pr ws wf))] (by simp) fun f h => ?_
  have s := St.start w
  refine c_seq fun K1 hK1 => ?_
  refine c_region ?_
  refine s_box ((mbArr m)) h s rfl rfl rfl ?_; intro f w1 b2 h s
  refine s_box (ndArr z.me z.pr ws wf) h s rfl rfl rfl ?_; intro f w1 b3 h s
  refine s_alloc (mbArr zMb) h s zero25 rfl rfl ?_; intro f w1 b4 h s
  refine s_nil ?_
  refine hK1 _ _ ?_
  refine c_seq fun K2 hK2 => ?_
  refine c_region ?_
  refine s_pure h (ru_field fld28_1 (h.ev rfl)) rfl ?_; intro f h
  refine s_load_at (Has.subL (Has.of_own s 1 rfl) 33 33 (D := mbArr z.pr) (ndArr_pr _ _ _ _)) h row25 rfl (mbArr_size _) rfl ?_; intro f h
  refine s_alloc (mbArr zMb) h s zero25 rfl rfl ?_; intro f w1 b5 h s
  refine s_store_row 0 h s row25 rfl rfl rfl (mbArr_size _) (mbArr_size _) (mbArr_ones _) ?_; intro w1 s
  refine s_nil ?_
  refine hK2 _ _ ?_
  refine c_seq fun K3 hK3 => ?_
  refine c_seq fun K4 hK4 => ?_
  cases q0 : (decide (z.pr = nMb) : Bool)
  · skip
    cases q1 : (decide (z.pr.1 = m.1) : Bool)
    · skip
      cases q2 : (decide (z.pr.2 = m.2) : Bool)
      · skip
        cases q3 : (decide (z.pr.2 = z.me.2) : Bool)
        · skip
          refine c_walkN 25 [[], [], [0, 1], [0, 1, 2], [0, 1, 2, 3], [0, 1, 2, 3, 4], [0, 1, 2, 3], [0, 1, 2, 3, 6], [0, 1, 2, 3, 4, 5, 6, 7], [0, 1, 2, 3, 4, 5, 6, 7, 8], [0, 1, 2, 3, 4, 5, 6, 7, 8, 9], [0, 1, 2, 3, 4, 5, 6, 7, 8, 9, 10], [0, 1, 2, 3, 4, 5, 6, 7, 8, 9, 10, 11], [0, 1, 2, 3, 4, 5, 6, 7, 8, 9, 10], [0, 1, 2, 3, 4, 5, 6, 7, 8, 9, 10, 13], [0, 1, 2, 3, 4, 5, 6, 7, 8, 9, 10, 11, 12, 13, 14], [0, 1, 2, 3, 4, 5, 6, 7, 8, 9, 10, 11, 12, 13, 14, 15], [0, 1, 2, 3, 4, 5, 6, 7, 8, 9, 10, 11, 12, 13, 14, 15, 16], [0, 1, 2, 3, 4, 5, 6, 7, 8, 9, 10, 11, 12, 13, 14, 15, 16, 17], [0, 1, 2, 3, 4, 5, 6, 7, 8, 9, 10, 11, 12, 13, 14, 15, 16, 17, 18], [0, 1, 2, 3, 4, 5, 6, 7, 8, 9, 10, 11, 12, 13, 14, 15, 16, 17], [0, 1, 2, 3, 4, 5, 6, 7, 8, 9, 10, 11, 12, 13, 14, 15, 16, 17, 20], [0, 1, 2, 3, 4, 5, 6, 7, 8, 9, 10, 11, 12, 13, 14, 15, 16, 17, 20, 21], [0, 1, 2, 3, 4, 5, 6, 7, 8, 9, 10, 11, 12, 13, 14, 15, 16, 17, 18, 19, 20, 21, 22], [0, 1, 2, 3, 4, 5, 6, 7, 8, 9, 10, 11, 12, 13, 14, 15, 16, 17, 18, 19, 20, 21, 22, 23]] h (by kernel_rfl) (by kernel_rfl) (by kernel_rfl) ?_
          refine w_load_row 0 h s row25 rfl rfl (mbArr_size _) rfl ?_; intro f h
          refine w_call h fnc33 (fun w9 hE9 => none_any w9) rfl rfl ?_; intro f h
          refine w_pure h (ru_val (.bool false) (ru_eqlW (eqM _ _) (by kernel_rfl) (by decide) (h.ev rfl) (h.ev rfl) (decide (z.pr = nMb)) (mbEq _ _)) (congrArg Value.bool q0)) rfl ?_; intro f h
          refine w_pure h (ru_move (h.ev rfl)) rfl ?_; intro f h
          refine w_on h rfl rfl rfl ?_
          refine w_pure h (ru_field fld25_0 (h.ev rfl)) rfl ?_; intro f h
          refine w_on h rfl rfl rfl ?_
          refine w_load_at1 (cell_of_has (Has.of_own s 0 rfl) 0 (mbArr_no _)) h one3 rfl rfl ?_; intro f h
          refine w_on h rfl rfl rfl ?_
          refine w_pure h (ru_field fld25_0 (h.ev rfl)) rfl ?_; intro f h
          refine w_on h rfl rfl rfl ?_
          refine w_load_at1 (cell_of_has (Has.of_own s 3 rfl) 0 (mbArr_no _)) h one3 rfl rfl ?_; intro f h
          refine w_on h rfl rfl rfl ?_
          refine w_pure h (ru_val (.bool false) (ru_eql (h.ev rfl) (h.ev rfl)) (congrArg Value.bool q1)) rfl ?_; intro f h
          refine w_pure h (ru_pick_f (h.ev rfl) (h.ev rfl)) rfl ?_; intro f h
          refine w_pure h (ru_move (h.ev rfl)) rfl ?_; intro f h
          refine w_on h rfl rfl rfl ?_
          refine w_pure h (ru_field fld25_1 (h.ev rfl)) rfl ?_; intro f h
          refine w_on h rfl rfl rfl ?_
          refine w_load_at (Has.subL (Has.of_own s 0 rfl) 1 32 (D := idArr (_)) (mbArr_id _)) h row23 rfl (by first | exact idArr_size _ | exact bytesF_size _ _) rfl ?_; intro f h
          refine w_on h rfl rfl rfl ?_
          refine w_pure h (ru_field fld25_1 (h.ev rfl)) rfl ?_; intro f h
          refine w_on h rfl rfl rfl ?_
          refine w_load_at (Has.subL (Has.of_own s 3 rfl) 1 32 (D := idArr (_)) (mbArr_id _)) h row23 rfl (by first | exact idArr_size _ | exact bytesF_size _ _) rfl ?_; intro f h
          refine w_on h rfl rfl rfl ?_
          refine w_pure h (ru_val (.bool false) (ru_eql_id idTy (h.ev rfl) (h.ev rfl)) (congrArg Value.bool q2)) rfl ?_; intro f h
          refine w_pure h (ru_pick_f (h.ev rfl) (h.ev rfl)) rfl ?_; intro f h
          refine w_pure h (ru_move (h.ev rfl)) rfl ?_; intro f h
          refine w_on h rfl rfl rfl ?_
          refine w_pure h (ru_field fld25_1 (h.ev rfl)) rfl ?_; intro f h
          refine w_on h rfl rfl rfl ?_
          refine w_load_at (Has.subL (Has.of_own s 0 rfl) 1 32 (D := idArr (_)) (mbArr_id _)) h row23 rfl (by first | exact idArr_size _ | exact bytesF_size _ _) rfl ?_; intro f h
          refine w_on h rfl rfl rfl ?_
          refine w_pure h (ru_field fld28_0 (h.ev rfl)) rfl ?_; intro f h
          refine w_on h rfl rfl rfl ?_
          refine w_pure h (ru_field fld25_1 (h.ev rfl)) rfl ?_; intro f h
          refine w_on h rfl rfl rfl ?_
          refine w_load_at (Has.subL (Has.of_own s 2 rfl) 1 32 (D := idArr z.me.2) (ndArr_id _ _ _ _)) h row23 rfl (by first | exact idArr_size _ | exact bytesF_size _ _) rfl ?_; intro f h
          refine w_on h rfl rfl rfl ?_
          refine w_pure h (ru_val (.bool false) (ru_eql_id idTy (h.ev rfl) (h.ev rfl)) (congrArg Value.bool q3)) rfl ?_; intro f h
          refine w_pure h (ru_pick_f (h.ev rfl) (h.ev rfl)) rfl ?_; intro f h
          refine w_nil s fun w1 s => ?_
          refine s_nil ?_
          refine hK4 _ _ ?_
          refine wpIn_cond_false (h.ev rfl) ?_
          refine wpIn_skip ?_
          refine hK3 _ _ ?_
          refine c_seq fun K5 hK5 => ?_
          refine c_seq fun K6 hK6 => ?_
          cases q4 : (inB z.pr.2 m.2 z.me.2 : Bool)
          · skip
            refine c_region ?_
            refine s_pure h (ru_field fld25_1 (h.ev rfl)) rfl ?_; intro f h
            refine s_load_at (Has.subL (Has.of_own s 0 rfl) 1 32 (D := idArr (_)) (mbArr_id _)) h row23 rfl (by first | exact idArr_size _ | exact bytesF_size _ _) rfl ?_; intro f h
            refine s_pure h (ru_field fld25_1 (h.ev rfl)) rfl ?_; intro f h
            refine s_load_at (Has.subL (Has.of_own s 3 rfl) 1 32 (D := idArr (_)) (mbArr_id _)) h row23 rfl (by first | exact idArr_size _ | exact bytesF_size _ _) rfl ?_; intro f h
            refine s_pure h (ru_field fld28_0 (h.ev rfl)) rfl ?_; intro f h
            refine s_pure h (ru_field fld25_1 (h.ev rfl)) rfl ?_; intro f h
            refine s_load_at (Has.subL (Has.of_own s 2 rfl) 1 32 (D := idArr z.me.2) (ndArr_id _ _ _ _)) h row23 rfl (by first | exact idArr_size _ | exact bytesF_size _ _) rfl ?_; intro f h
            refine s_call h s fnc31 (ret_val (.bool false) (in_any _ _ _ _) (congrArg Value.bool q4)) rfl rfl ?_; intro f w1 v9 hT hE h s; obtain rfl := hT
            refine s_pure h (ru_val (.bool true) (ru_not (h.ev rfl)) rfl) rfl ?_; intro f h
            refine s_nil ?_
            refine hK6 _ _ ?_
            refine wpIn_cond_true (h.ev rfl) ?_
            refine c_seq fun K7 hK7 => ?_
            refine c_region ?_
            refine s_pure h (ru_field fld28_0 (h.ev rfl)) rfl ?_; intro f h
            refine s_load_at (Has.subL (Has.of_own s 2 rfl) 0 33 (D := mbArr z.me) (ndArr_me _ _ _ _)) h row25 rfl (mbArr_size _) rfl ?_; intro f h
            refine s_store_row 1 h s row25 rfl rfl rfl (mbArr_size _) (mbArr_size _) (mbArr_ones _) ?_; intro w1 s
            refine s_nil ?_
            refine hK7 _ _ ?_
            refine wpIn_ret ?_
            refine t_ret ?_
            exact e_row 1 rfl h s row25 rfl rfl (mbArr_size _) (by show _ = _; rw [fr_4 q4])
          · skip
            refine c_region ?_
            refine s_pure h (ru_field fld25_1 (h.ev rfl)) rfl ?_; intro f h
            refine s_load_at (Has.subL (Has.of_own s 0 rfl) 1 32 (D := idArr (_)) (mbArr_id _)) h row23 rfl (by first | exact idArr_size _ | exact bytesF_size _ _) rfl ?_; intro f h
            refine s_pure h (ru_field fld25_1 (h.ev rfl)) rfl ?_; intro f h
            refine s_load_at (Has.subL (Has.of_own s 3 rfl) 1 32 (D := idArr (_)) (mbArr_id _)) h row23 rfl (by first | exact idArr_size _ | exact bytesF_size _ _) rfl ?_; intro f h
            refine s_pure h (ru_field fld28_0 (h.ev rfl)) rfl ?_; intro f h
            refine s_pure h (ru_field fld25_1 (h.ev rfl)) rfl ?_; intro f h
            refine s_load_at (Has.subL (Has.of_own s 2 rfl) 1 32 (D := idArr z.me.2) (ndArr_id _ _ _ _)) h row23 rfl (by first | exact idArr_size _ | exact bytesF_size _ _) rfl ?_; intro f h
            refine s_call h s fnc31 (ret_val (.bool true) (in_any _ _ _ _) (congrArg Value.bool q4)) rfl rfl ?_; intro f w1 v9 hT hE h s; obtain rfl := hT
            refine s_pure h (ru_val (.bool false) (ru_not (h.ev rfl)) rfl) rfl ?_; intro f h
            refine s_nil ?_
            refine hK6 _ _ ?_
            refine wpIn_cond_false (h.ev rfl) ?_
            refine wpIn_skip ?_
            refine hK5 _ _ ?_
            refine c_seq fun K8 hK8 => ?_
            refine c_region ?_
            refine s_load_row 0 h s row25 rfl rfl (mbArr_size _) rfl ?_; intro f h
            refine s_store_row 1 h s row25 rfl rfl rfl (mbArr_size _) (mbArr_size _) (mbArr_ones _) ?_; intro w1 s
            refine s_nil ?_
            refine hK8 _ _ ?_
            refine wpIn_ret ?_
            exact e_row 1 rfl h s row25 rfl rfl (mbArr_size _) (by show _ = _; rw [fr_5 q0 q1 q2 q3 q4])
        · skip
          refine c_walkN 25 [[], [], [0, 1], [0, 1, 2], [0, 1, 2, 3], [0, 1, 2, 3, 4], [0, 1, 2, 3], [0, 1, 2, 3, 6], [0, 1, 2, 3, 4, 5, 6, 7], [0, 1, 2, 3, 4, 5, 6, 7, 8], [0, 1, 2, 3, 4, 5, 6, 7, 8, 9], [0, 1, 2, 3, 4, 5, 6, 7, 8, 9, 10], [0, 1, 2, 3, 4, 5, 6, 7, 8, 9, 10, 11], [0, 1, 2, 3, 4, 5, 6, 7, 8, 9, 10], [0, 1, 2, 3, 4, 5, 6, 7, 8, 9, 10, 13], [0, 1, 2, 3, 4, 5, 6, 7, 8, 9, 10, 11, 12, 13, 14], [0, 1, 2, 3, 4, 5, 6, 7, 8, 9, 10, 11, 12, 13, 14, 15], [0, 1, 2, 3, 4, 5, 6, 7, 8, 9, 10, 11, 12, 13, 14, 15, 16], [0, 1, 2, 3, 4, 5, 6, 7, 8, 9, 10, 11, 12, 13, 14, 15, 16, 17], [0, 1, 2, 3, 4, 5, 6, 7, 8, 9, 10, 11, 12, 13, 14, 15, 16, 17, 18], [0, 1, 2, 3, 4, 5, 6, 7, 8, 9, 10, 11, 12, 13, 14, 15, 16, 17], [0, 1, 2, 3, 4, 5, 6, 7, 8, 9, 10, 11, 12, 13, 14, 15, 16, 17, 20], [0, 1, 2, 3, 4, 5, 6, 7, 8, 9, 10, 11, 12, 13, 14, 15, 16, 17, 20, 21], [0, 1, 2, 3, 4, 5, 6, 7, 8, 9, 10, 11, 12, 13, 14, 15, 16, 17, 18, 19, 20, 21, 22], [0, 1, 2, 3, 4, 5, 6, 7, 8, 9, 10, 11, 12, 13, 14, 15, 16, 17, 18, 19, 20, 21, 22, 23]] h (by kernel_rfl) (by kernel_rfl) (by kernel_rfl) ?_
          refine w_load_row 0 h s row25 rfl rfl (mbArr_size _) rfl ?_; intro f h
          refine w_call h fnc33 (fun w9 hE9 => none_any w9) rfl rfl ?_; intro f h
          refine w_pure h (ru_val (.bool false) (ru_eqlW (eqM _ _) (by kernel_rfl) (by decide) (h.ev rfl) (h.ev rfl) (decide (z.pr = nMb)) (mbEq _ _)) (congrArg Value.bool q0)) rfl ?_; intro f h
          refine w_pure h (ru_move (h.ev rfl)) rfl ?_; intro f h
          refine w_on h rfl rfl rfl ?_
          refine w_pure h (ru_field fld25_0 (h.ev rfl)) rfl ?_; intro f h
          refine w_on h rfl rfl rfl ?_
          refine w_load_at1 (cell_of_has (Has.of_own s 0 rfl) 0 (mbArr_no _)) h one3 rfl rfl ?_; intro f h
          refine w_on h rfl rfl rfl ?_
          refine w_pure h (ru_field fld25_0 (h.ev rfl)) rfl ?_; intro f h
          refine w_on h rfl rfl rfl ?_
          refine w_load_at1 (cell_of_has (Has.of_own s 3 rfl) 0 (mbArr_no _)) h one3 rfl rfl ?_; intro f h
          refine w_on h rfl rfl rfl ?_
          refine w_pure h (ru_val (.bool false) (ru_eql (h.ev rfl) (h.ev rfl)) (congrArg Value.bool q1)) rfl ?_; intro f h
          refine w_pure h (ru_pick_f (h.ev rfl) (h.ev rfl)) rfl ?_; intro f h
          refine w_pure h (ru_move (h.ev rfl)) rfl ?_; intro f h
          refine w_on h rfl rfl rfl ?_
          refine w_pure h (ru_field fld25_1 (h.ev rfl)) rfl ?_; intro f h
          refine w_on h rfl rfl rfl ?_
          refine w_load_at (Has.subL (Has.of_own s 0 rfl) 1 32 (D := idArr (_)) (mbArr_id _)) h row23 rfl (by first | exact idArr_size _ | exact bytesF_size _ _) rfl ?_; intro f h
          refine w_on h rfl rfl rfl ?_
          refine w_pure h (ru_field fld25_1 (h.ev rfl)) rfl ?_; intro f h
          refine w_on h rfl rfl rfl ?_
          refine w_load_at (Has.subL (Has.of_own s 3 rfl) 1 32 (D := idArr (_)) (mbArr_id _)) h row23 rfl (by first | exact idArr_size _ | exact bytesF_size _ _) rfl ?_; intro f h
          refine w_on h rfl rfl rfl ?_
          refine w_pure h (ru_val (.bool false) (ru_eql_id idTy (h.ev rfl) (h.ev rfl)) (congrArg Value.bool q2)) rfl ?_; intro f h
          refine w_pure h (ru_pick_f (h.ev rfl) (h.ev rfl)) rfl ?_; intro f h
          refine w_pure h (ru_move (h.ev rfl)) rfl ?_; intro f h
          refine w_on h rfl rfl rfl ?_
          refine w_pure h (ru_field fld25_1 (h.ev rfl)) rfl ?_; intro f h
          refine w_on h rfl rfl rfl ?_
          refine w_load_at (Has.subL (Has.of_own s 0 rfl) 1 32 (D := idArr (_)) (mbArr_id _)) h row23 rfl (by first | exact idArr_size _ | exact bytesF_size _ _) rfl ?_; intro f h
          refine w_on h rfl rfl rfl ?_
          refine w_pure h (ru_field fld28_0 (h.ev rfl)) rfl ?_; intro f h
          refine w_on h rfl rfl rfl ?_
          refine w_pure h (ru_field fld25_1 (h.ev rfl)) rfl ?_; intro f h
          refine w_on h rfl rfl rfl ?_
          refine w_load_at (Has.subL (Has.of_own s 2 rfl) 1 32 (D := idArr z.me.2) (ndArr_id _ _ _ _)) h row23 rfl (by first | exact idArr_size _ | exact bytesF_size _ _) rfl ?_; intro f h
          refine w_on h rfl rfl rfl ?_
          refine w_pure h (ru_val (.bool true) (ru_eql_id idTy (h.ev rfl) (h.ev rfl)) (congrArg Value.bool q3)) rfl ?_; intro f h
          refine w_pure h (ru_pick_f (h.ev rfl) (h.ev rfl)) rfl ?_; intro f h
          refine w_nil s fun w1 s => ?_
          refine s_nil ?_
          refine hK4 _ _ ?_
          refine wpIn_cond_true (h.ev rfl) ?_
          refine c_seq fun K9 hK9 => ?_
          refine c_region ?_
          refine s_pure h (ru_field fld28_0 (h.ev rfl)) rfl ?_; intro f h
          refine s_load_at (Has.subL (Has.of_own s 2 rfl) 0 33 (D := mbArr z.me) (ndArr_me _ _ _ _)) h row25 rfl (mbArr_size _) rfl ?_; intro f h
          refine s_store_row 1 h s row25 rfl rfl rfl (mbArr_size _) (mbArr_size _) (mbArr_ones _) ?_; intro w1 s
          refine s_nil ?_
          refine hK9 _ _ ?_
          refine wpIn_ret ?_
          refine t_ret ?_
          exact e_row 1 rfl h s row25 rfl rfl (mbArr_size _) (by show _ = _; rw [fr_3 q3])
      · skip
        refine c_walkN 25 [[], [], [0, 1], [0, 1, 2], [0, 1, 2, 3], [0, 1, 2, 3, 4], [0, 1, 2, 3], [0, 1, 2, 3, 6], [0, 1, 2, 3, 4, 5, 6, 7], [0, 1, 2, 3, 4, 5, 6, 7, 8], [0, 1, 2, 3, 4, 5, 6, 7, 8, 9], [0, 1, 2, 3, 4, 5, 6, 7, 8, 9, 10], [0, 1, 2, 3, 4, 5, 6, 7, 8, 9, 10, 11], [0, 1, 2, 3, 4, 5, 6, 7, 8, 9, 10], [0, 1, 2, 3, 4, 5, 6, 7, 8, 9, 10, 13], [0, 1, 2, 3, 4, 5, 6, 7, 8, 9, 10, 11, 12, 13, 14], [0, 1, 2, 3, 4, 5, 6, 7, 8, 9, 10, 11, 12, 13, 14, 15], [0, 1, 2, 3, 4, 5, 6, 7, 8, 9, 10, 11, 12, 13, 14, 15, 16], [0, 1, 2, 3, 4, 5, 6, 7, 8, 9, 10, 11, 12, 13, 14, 15, 16, 17], [0, 1, 2, 3, 4, 5, 6, 7, 8, 9, 10, 11, 12, 13, 14, 15, 16, 17, 18], [0, 1, 2, 3, 4, 5, 6, 7, 8, 9, 10, 11, 12, 13, 14, 15, 16, 17], [0, 1, 2, 3, 4, 5, 6, 7, 8, 9, 10, 11, 12, 13, 14, 15, 16, 17, 20], [0, 1, 2, 3, 4, 5, 6, 7, 8, 9, 10, 11, 12, 13, 14, 15, 16, 17, 20, 21], [0, 1, 2, 3, 4, 5, 6, 7, 8, 9, 10, 11, 12, 13, 14, 15, 16, 17, 18, 19, 20, 21, 22], [0, 1, 2, 3, 4, 5, 6, 7, 8, 9, 10, 11, 12, 13, 14, 15, 16, 17, 18, 19, 20, 21, 22, 23]] h (by kernel_rfl) (by kernel_rfl) (by kernel_rfl) ?_
        refine w_load_row 0 h s row25 rfl rfl (mbArr_size _) rfl ?_; intro f h
        refine w_call h fnc33 (fun w9 hE9 => none_any w9) rfl rfl ?_; intro f h
        refine w_pure h (ru_val (.bool false) (ru_eqlW (eqM _ _) (by kernel_rfl) (by decide) (h.ev rfl) (h.ev rfl) (decide (z.pr = nMb)) (mbEq _ _)) (congrArg Value.bool q0)) rfl ?_; intro f h
        refine w_pure h (ru_move (h.ev rfl)) rfl ?_; intro f h
        refine w_on h rfl rfl rfl ?_
        refine w_pure h (ru_field fld25_0 (h.ev rfl)) rfl ?_; intro f h
        refine w_on h rfl rfl rfl ?_
        refine w_load_at1 (cell_of_has (Has.of_own s 0 rfl) 0 (mbArr_no _)) h one3 rfl rfl ?_; intro f h
        refine w_on h rfl rfl rfl ?_
        refine w_pure h (ru_field fld25_0 (h.ev rfl)) rfl ?_; intro f h
        refine w_on h rfl rfl rfl ?_
        refine w_load_at1 (cell_of_has (Has.of_own s 3 rfl) 0 (mbArr_no _)) h one3 rfl rfl ?_; intro f h
        refine w_on h rfl rfl rfl ?_
        refine w_pure h (ru_val (.bool false) (ru_eql (h.ev rfl) (h.ev rfl)) (congrArg Value.bool q1)) rfl ?_; intro f h
        refine w_pure h (ru_pick_f (h.ev rfl) (h.ev rfl)) rfl ?_; intro f h
        refine w_pure h (ru_move (h.ev rfl)) rfl ?_; intro f h
        refine w_on h rfl rfl rfl ?_
        refine w_pure h (ru_field fld25_1 (h.ev rfl)) rfl ?_; intro f h
        refine w_on h rfl rfl rfl ?_
        refine w_load_at (Has.subL (Has.of_own s 0 rfl) 1 32 (D := idArr (_)) (mbArr_id _)) h row23 rfl (by first | exact idArr_size _ | exact bytesF_size _ _) rfl ?_; intro f h
        refine w_on h rfl rfl rfl ?_
        refine w_pure h (ru_field fld25_1 (h.ev rfl)) rfl ?_; intro f h
        refine w_on h rfl rfl rfl ?_
        refine w_load_at (Has.subL (Has.of_own s 3 rfl) 1 32 (D := idArr (_)) (mbArr_id _)) h row23 rfl (by first | exact idArr_size _ | exact bytesF_size _ _) rfl ?_; intro f h
        refine w_on h rfl rfl rfl ?_
        refine w_pure h (ru_val (.bool true) (ru_eql_id idTy (h.ev rfl) (h.ev rfl)) (congrArg Value.bool q2)) rfl ?_; intro f h
        refine w_pure h (ru_pick_f (h.ev rfl) (h.ev rfl)) rfl ?_; intro f h
        refine w_pure h (ru_move (h.ev rfl)) rfl ?_; intro f h
        refine w_off (b := false) h rfl rfl rfl rfl ?_; intro f h
        refine w_off (b := false) h rfl rfl rfl rfl ?_; intro f h
        refine w_off (b := false) h rfl rfl rfl rfl ?_; intro f h
        refine w_off (b := false) h rfl rfl rfl rfl ?_; intro f h
        refine w_off (b := false) h rfl rfl rfl rfl ?_; intro f h
        refine w_off (b := false) h rfl rfl rfl rfl ?_; intro f h
        refine w_pure h (ru_pick_t (h.ev rfl) (h.ev rfl)) rfl ?_; intro f h
        refine w_nil s fun w1 s => ?_
        refine s_nil ?_
        refine hK4 _ _ ?_
        refine wpIn_cond_true (h.ev rfl) ?_
        refine c_seq fun K10 hK10 => ?_
        refine c_region ?_
        refine s_pure h (ru_field fld28_0 (h.ev rfl)) rfl ?_; intro f h
        refine s_load_at (Has.subL (Has.of_own s 2 rfl) 0 33 (D := mbArr z.me) (ndArr_me _ _ _ _)) h row25 rfl (mbArr_size _) rfl ?_; intro f h
        refine s_store_row 1 h s row25 rfl rfl rfl (mbArr_size _) (mbArr_size _) (mbArr_ones _) ?_; intro w1 s
        refine s_nil ?_
        refine hK10 _ _ ?_
        refine wpIn_ret ?_
        refine t_ret ?_
        exact e_row 1 rfl h s row25 rfl rfl (mbArr_size _) (by show _ = _; rw [fr_2 q2])
    · skip
      refine c_walkN 25 [[], [], [0, 1], [0, 1, 2], [0, 1, 2, 3], [0, 1, 2, 3, 4], [0, 1, 2, 3], [0, 1, 2, 3, 6], [0, 1, 2, 3, 4, 5, 6, 7], [0, 1, 2, 3, 4, 5, 6, 7, 8], [0, 1, 2, 3, 4, 5, 6, 7, 8, 9], [0, 1, 2, 3, 4, 5, 6, 7, 8, 9, 10], [0, 1, 2, 3, 4, 5, 6, 7, 8, 9, 10, 11], [0, 1, 2, 3, 4, 5, 6, 7, 8, 9, 10], [0, 1, 2, 3, 4, 5, 6, 7, 8, 9, 10, 13], [0, 1, 2, 3, 4, 5, 6, 7, 8, 9, 10, 11, 12, 13, 14], [0, 1, 2, 3, 4, 5, 6, 7, 8, 9, 10, 11, 12, 13, 14, 15], [0, 1, 2, 3, 4, 5, 6, 7, 8, 9, 10, 11, 12, 13, 14, 15, 16], [0, 1, 2, 3, 4, 5, 6, 7, 8, 9, 10, 11, 12, 13, 14, 15, 16, 17], [0, 1, 2, 3, 4, 5, 6, 7, 8, 9, 10, 11, 12, 13, 14, 15, 16, 17, 18], [0, 1, 2, 3, 4, 5, 6, 7, 8, 9, 10, 11, 12, 13, 14, 15, 16, 17], [0, 1, 2, 3, 4, 5, 6, 7, 8, 9, 10, 11, 12, 13, 14, 15, 16, 17, 20], [0, 1, 2, 3, 4, 5, 6, 7, 8, 9, 10, 11, 12, 13, 14, 15, 16, 17, 20, 21], [0, 1, 2, 3, 4, 5, 6, 7, 8, 9, 10, 11, 12, 13, 14, 15, 16, 17, 18, 19, 20, 21, 22], [0, 1, 2, 3, 4, 5, 6, 7, 8, 9, 10, 11, 12, 13, 14, 15, 16, 17, 18, 19, 20, 21, 22, 23]] h (by kernel_rfl) (by kernel_rfl) (by kernel_rfl) ?_
      refine w_load_row 0 h s row25 rfl rfl (mbArr_size _) rfl ?_; intro f h
      refine w_call h fnc33 (fun w9 hE9 => none_any w9) rfl rfl ?_; intro f h
      refine w_pure h (ru_val (.bool false) (ru_eqlW (eqM _ _) (by kernel_rfl) (by decide) (h.ev rfl) (h.ev rfl) (decide (z.pr = nMb)) (mbEq _ _)) (congrArg Value.bool q0)) rfl ?_; intro f h
      refine w_pure h (ru_move (h.ev rfl)) rfl ?_; intro f h
      refine w_on h rfl rfl rfl ?_
      refine w_pure h (ru_field fld25_0 (h.ev rfl)) rfl ?_; intro f h
      refine w_on h rfl rfl rfl ?_
      refine w_load_at1 (cell_of_has (Has.of_own s 0 rfl) 0 (mbArr_no _)) h one3 rfl rfl ?_; intro f h
      refine w_on h rfl rfl rfl ?_
      refine w_pure h (ru_field fld25_0 (h.ev rfl)) rfl ?_; intro f h
      refine w_on h rfl rfl rfl ?_
      refine w_load_at1 (cell_of_has (Has.of_own s 3 rfl) 0 (mbArr_no _)) h one3 rfl rfl ?_; intro f h
      refine w_on h rfl rfl rfl ?_
      refine w_pure h (ru_val (.bool true) (ru_eql (h.ev rfl) (h.ev rfl)) (congrArg Value.bool q1)) rfl ?_; intro f h
      refine w_pure h (ru_pick_f (h.ev rfl) (h.ev rfl)) rfl ?_; intro f h
      refine w_pure h (ru_move (h.ev rfl)) rfl ?_; intro f h
      refine w_off (b := false) h rfl rfl rfl rfl ?_; intro f h
      refine w_off (b := false) h rfl rfl rfl rfl ?_; intro f h
      refine w_off (b := false) h rfl rfl rfl rfl ?_; intro f h
      refine w_off (b := false) h rfl rfl rfl rfl ?_; intro f h
      refine w_off (b := false) h rfl rfl rfl rfl ?_; intro f h
      refine w_pure h (ru_pick_t (h.ev rfl) (h.ev rfl)) rfl ?_; intro f h
      refine w_pure h (ru_move (h.ev rfl)) rfl ?_; intro f h
      refine w_off (b := false) h rfl rfl rfl rfl ?_; intro f h
      refine w_off (b := false) h rfl rfl rfl rfl ?_; intro f h
      refine w_off (b := false) h rfl rfl rfl rfl ?_; intro f h
      refine w_off (b := false) h rfl rfl rfl rfl ?_; intro f h
      refine w_off (b := false) h rfl rfl rfl rfl ?_; intro f h
      refine w_off (b := false) h rfl rfl rfl rfl ?_; intro f h
      refine w_pure h (ru_pick_t (h.ev rfl) (h.ev rfl)) rfl ?_; intro f h
      refine w_nil s fun w1 s => ?_
      refine s_nil ?_
      refine hK4 _ _ ?_
      refine wpIn_cond_true (h.ev rfl) ?_
      refine c_seq fun K11 hK11 => ?_
      refine c_region ?_
      refine s_pure h (ru_field fld28_0 (h.ev rfl)) rfl ?_; intro f h
      refine s_load_at (Has.subL (Has.of_own s 2 rfl) 0 33 (D := mbArr z.me) (ndArr_me _ _ _ _)) h row25 rfl (mbArr_size _) rfl ?_; intro f h
      refine s_store_row 1 h s row25 rfl rfl rfl (mbArr_size _) (mbArr_size _) (mbArr_ones _) ?_; intro w1 s
      refine s_nil ?_
      refine hK11 _ _ ?_
      refine wpIn_ret ?_
      refine t_ret ?_
      exact e_row 1 rfl h s row25 rfl rfl (mbArr_size _) (by show _ = _; rw [fr_1 q1])
  · skip
    refine c_walkN 25 [[], [], [0, 1], [0, 1, 2], [0, 1, 2, 3], [0, 1, 2, 3, 4], [0, 1, 2, 3], [0, 1, 2, 3, 6], [0, 1, 2, 3, 4, 5, 6, 7], [0, 1, 2, 3, 4, 5, 6, 7, 8], [0, 1, 2, 3, 4, 5, 6, 7, 8, 9], [0, 1, 2, 3, 4, 5, 6, 7, 8, 9, 10], [0, 1, 2, 3, 4, 5, 6, 7, 8, 9, 10, 11], [0, 1, 2, 3, 4, 5, 6, 7, 8, 9, 10], [0, 1, 2, 3, 4, 5, 6, 7, 8, 9, 10, 13], [0, 1, 2, 3, 4, 5, 6, 7, 8, 9, 10, 11, 12, 13, 14], [0, 1, 2, 3, 4, 5, 6, 7, 8, 9, 10, 11, 12, 13, 14, 15], [0, 1, 2, 3, 4, 5, 6, 7, 8, 9, 10, 11, 12, 13, 14, 15, 16], [0, 1, 2, 3, 4, 5, 6, 7, 8, 9, 10, 11, 12, 13, 14, 15, 16, 17], [0, 1, 2, 3, 4, 5, 6, 7, 8, 9, 10, 11, 12, 13, 14, 15, 16, 17, 18], [0, 1, 2, 3, 4, 5, 6, 7, 8, 9, 10, 11, 12, 13, 14, 15, 16, 17], [0, 1, 2, 3, 4, 5, 6, 7, 8, 9, 10, 11, 12, 13, 14, 15, 16, 17, 20], [0, 1, 2, 3, 4, 5, 6, 7, 8, 9, 10, 11, 12, 13, 14, 15, 16, 17, 20, 21], [0, 1, 2, 3, 4, 5, 6, 7, 8, 9, 10, 11, 12, 13, 14, 15, 16, 17, 18, 19, 20, 21, 22], [0, 1, 2, 3, 4, 5, 6, 7, 8, 9, 10, 11, 12, 13, 14, 15, 16, 17, 18, 19, 20, 21, 22, 23]] h (by kernel_rfl) (by kernel_rfl) (by kernel_rfl) ?_
    refine w_load_row 0 h s row25 rfl rfl (mbArr_size _) rfl ?_; intro f h
    refine w_call h fnc33 (fun w9 hE9 => none_any w9) rfl rfl ?_; intro f h
    refine w_pure h (ru_val (.bool true) (ru_eqlW (eqM _ _) (by kernel_rfl) (by decide) (h.ev rfl) (h.ev rfl) (decide (z.pr = nMb)) (mbEq _ _)) (congrArg Value.bool q0)) rfl ?_; intro f h
    refine w_pure h (ru_move (h.ev rfl)) rfl ?_; intro f h
    refine w_off (b := false) h rfl rfl rfl rfl ?_; intro f h
    refine w_off (b := false) h rfl rfl rfl rfl ?_; intro f h
    refine w_off (b := false) h rfl rfl rfl rfl ?_; intro f h
    refine w_off (b := false) h rfl rfl rfl rfl ?_; intro f h
    refine w_off (b := false) h rfl rfl rfl rfl ?_; intro f h
    refine w_pure h (ru_pick_t (h.ev rfl) (h.ev rfl)) rfl ?_; intro f h
    refine w_pure h (ru_move (h.ev rfl)) rfl ?_; intro f h
    refine w_off (b := false) h rfl rfl rfl rfl ?_; intro f h
    refine w_off (b := false) h rfl rfl rfl rfl ?_; intro f h
    refine w_off (b := false) h rfl rfl rfl rfl ?_; intro f h
    refine w_off (b := false) h rfl rfl rfl rfl ?_; intro f h
    refine w_off (b := false) h rfl rfl rfl rfl ?_; intro f h
    refine w_pure h (ru_pick_t (h.ev rfl) (h.ev rfl)) rfl ?_; intro f h
    refine w_pure h (ru_move (h.ev rfl)) rfl ?_; intro f h
    refine w_off (b := false) h rfl rfl rfl rfl ?_; intro f h
    refine w_off (b := false) h rfl rfl rfl rfl ?_; intro f h
    refine w_off (b := false) h rfl rfl rfl rfl ?_; intro f h
    refine w_off (b := false) h rfl rfl rfl rfl ?_; intro f h
    refine w_off (b := false) h rfl rfl rfl rfl ?_; intro f h
    refine w_off (b := false) h rfl rfl rfl rfl ?_; intro f h
    refine w_pure h (ru_pick_t (h.ev rfl) (h.ev rfl)) rfl ?_; intro f h
    refine w_nil s fun w1 s => ?_
    refine s_nil ?_
    refine hK4 _ _ ?_
    refine wpIn_cond_true (h.ev rfl) ?_
    refine c_seq fun K12 hK12 => ?_
    refine c_region ?_
    refine s_pure h (ru_field fld28_0 (h.ev rfl)) rfl ?_; intro f h
    refine s_load_at (Has.subL (Has.of_own s 2 rfl) 0 33 (D := mbArr z.me) (ndArr_me _ _ _ _)) h row25 rfl (mbArr_size _) rfl ?_; intro f h
    refine s_store_row 1 h s row25 rfl rfl rfl (mbArr_size _) (mbArr_size _) (mbArr_ones _) ?_; intro w1 s
    refine s_nil ?_
    refine hK12 _ _ ?_
    refine wpIn_ret ?_
    refine t_ret ?_
    exact e_row 1 rfl h s row25 rfl rfl (mbArr_size _) (by show _ = _; rw [fr_0 q0])

theorem oralone_any (l : List Mb) (vh : Value) (m : Mb) (B9 : List Own) (w0 w : World) (s : St w0 (.sl vh 25 33 (l).length (mbCells (l)) :: B9) w) : Calls Try.prog 48 [vh, .agg (mbArr m)].toArray w (fun e w9 => ∃ v9, e = .returned v9 ∧ St w0 (.sl v9 25 33 (orA l m).length (mbCells (orA l m)) :: B9) w9) := by
  refine c_enterF Try.func48 rfl Try.ntmps48 rfl [(0, vh), (1, .agg (mbArr m))] (by simp) fun f h => ?_
  refine c_seq fun K1 hK1 => ?_
  refine c_region ?_
  refine s_box ((mbArr m)) h s rfl rfl rfl ?_; intro f w1 b3 h s
  refine s_pure h (ru_assign (h.ev rfl)) rfl ?_; intro f h
  refine s_nil ?_
  refine hK1 _ _ ?_
  refine c_seq fun K2 hK2 => ?_
  refine c_seq fun K3 hK3 => ?_
  refine c_region ?_
  refine s_pure h (ru_move (h.ev rfl)) rfl ?_; intro f h
  refine s_len_sl 1 h s Try.underlying26 rfl rfl rfl ?_; intro f h
  refine s_pure h (ru_eql (h.ev rfl) (h.ev rfl)) rfl ?_; intro f h
  refine s_nil ?_
  refine hK3 _ _ ?_
  refine c_cond h rfl (fun hc => ?_) (fun hc => ?_)
  · have h0 : l.length = 0 := by have := of_decide_eq_true hc; omega
    refine c_seq fun K4 hK4 => ?_
    refine c_region ?_
    refine s_load_row 0 h s row25 rfl rfl (mbArr_size _) rfl ?_; intro f h
    refine s_bslice (vs := [.agg (mbArr m)]) [.tmp 8] h s Try.underlying26 elm25 rfl rfl (mb_sz _) rfl rfl rfl ?_; intro f w1 v9 h s
    replace s := s.resl (m := [m].length) (ys := mbCells [m]) 0 rfl rfl (by rw [one_mb, mbCells_one])
    refine s_pure h (ru_assign (h.ev rfl)) rfl ?_; intro f h
    refine s_nil ?_
    refine hK4 _ _ ?_
    refine wpIn_ret ?_
    refine t_ret ?_
    exact e_tmpF rfl h rfl (⟨_, rfl, sl_same (orA_n h0).symm (s.pick _ (List.Sublist.cons_cons _ (List.Sublist.cons _ (List.Sublist.cons _ (List.Sublist.refl _)))))⟩)
  · have h0 : ¬ l.length = 0 := by have := of_decide_eq_false hc; omega
    refine wpIn_skip ?_
    refine hK2 _ _ ?_
    refine c_seq fun K5 hK5 => ?_
    refine c_region ?_
    refine s_pure h (ru_move (h.ev rfl)) rfl ?_; intro f h
    refine s_pure h (ru_assign (h.ev rfl)) rfl ?_; intro f h
    refine s_nil ?_
    refine hK5 _ _ ?_
    refine wpIn_ret ?_
    exact e_tmpF rfl h rfl (⟨_, rfl, sl_same (orA_l h0).symm (s.pick _ (List.Sublist.cons _ (List.Sublist.cons_cons _ (List.Sublist.refl _))))⟩)

theorem upto_ok (no : Int) (a9 : Option Addr) (n9 c9 : Nat) (B9 : List Own) (w0 w : World) (s : St w0 B9 w) : Calls Try.prog 46 [.int .i64 no, .slice a9 n9 c9].toArray w (fun e w9 => ∃ r, e = .returned r ∧ ∃ bs bn, r = .func (.func 62) #[] #[.pointer (some ⟨bs, 0, none⟩), .pointer (some ⟨bn, 0, none⟩)] ∧ St w0 (.blk bs (.cells #[.slice a9 n9 c9] 26) :: .blk bn (.cells #[.int .i64 no] 3) :: B9) w9) := by
  refine c_enterF Try.func46 rfl Try.ntmps46 rfl [(0, .int .i64 no), (1, .slice a9 n9 c9)] (by simp) fun f h => ?_
  refine c_seq fun K1 hK1 => ?_
  refine c_region ?_
  refine s_box (#[.int .i64 no]) h s rfl rfl rfl ?_; intro f w1 b2 h s
  refine s_box (#[.slice a9 n9 c9]) h s rfl rfl rfl ?_; intro f w1 b3 h s
  refine s_pure h (ru_assign (h.ev rfl)) rfl ?_; intro f h
  refine s_nil ?_
  refine hK1 _ _ ?_
  refine c_seq fun K2 hK2 => ?_
  refine c_region ?_
  refine s_pure h (ru_makeFunc [.pointer (some ⟨b3, 0, none⟩), .pointer (some ⟨b2, 0, none⟩)] (evsA h rfl)) rfl ?_; intro f h
  refine s_pure h (ru_assign (h.ev rfl)) rfl ?_; intro f h
  refine s_nil ?_
  refine hK2 _ _ ?_
  refine wpIn_ret ?_
  exact e_tmpF rfl h rfl (⟨_, rfl, b3, b2, rfl, s⟩)

theorem upto_any (no : Int) (l : List Mb) (vh : Value) (B9 : List Own) (w0 w : World) (s : St w0 B9 w) (hR : RdZ w vh 33 l.length (mbCells l)) : Calls Try.prog 46 [.int .i64 no, vh].toArray w (fun e w9 => ∃ r, e = .returned r ∧ ∃ bs bn, r = .func (.func 62) #[] #[.pointer (some ⟨bs, 0, none⟩), .pointer (some ⟨bn, 0, none⟩)] ∧ St w0 (.blk bs (.cells #[vh] 26) :: .blk bn (.cells #[.int .i64 no] 3) :: B9) w9) := by
  obtain ⟨a, c, rfl⟩ := hR.len
  exact upto_ok no a _ c B9 w0 w s

theorem uiter_any (no : Int) (l : List Mb) (hln : l.length ≤ 1000) (vh : Value) (lp bs bn : Nat) (q : Nat → Bool) (GG : Nat → Own → Prop) (g0 : Own) (w0 w : World) (s : St w0 [.blk bs (.cells #[vh] 26), .blk bn (.cells #[.int .i64 no] 3), .sl vh 25 33 l.length (mbCells l), g0] w) (hg0 : GG 0 g0) (hY : ∀ (d : Nat) (B9 : List Own) (w9 : World) (i : Nat) (g : Own), d < (rowU no l).length → (∀ j, j < d → q j = false) → GG d g → St w0 B9 w9 → B9[i]? = some g → Yields Try.prog lp [Value.agg (mbArr ((rowU no l).getD d zMb))].toArray w9 (fun v w2 => v = .bool (!q d) ∧ ∃ g', GG (d + 1) g' ∧ St w0 (B9.set i g') w2)) : Calls Try.prog 62 [.func (.yield lp) #[] #[], .pointer (some ⟨bs, 0, none⟩), .pointer (some ⟨bn, 0, none⟩)].toArray w (fun e w9 => (∃ v, e = .returned v) ∧ ∃ d g, GG d g ∧ St w0 ([.blk bs (.cells #[vh] 26), .blk bn (.cells #[.int .i64 no] 3), .sl vh 25 33 l.length (mbCells l)] ++ [g]) w9 ∧ d ≤ (rowU no l).length ∧ (∀ j, j + 1 < d → q j = false) ∧ (lq q d = false → d = (rowU no l).length)) := by
  refine c_enterF Try.func62 rfl Try.ntmps62 rfl [(0, .func (.yield lp) #[] #[]), (1, .pointer (some ⟨bs, 0, none⟩)), (2, .pointer (some ⟨bn, 0, none⟩))] (by simp) fun f h => ?_
  refine c_seq fun K1 hK1 => ?_
  refine c_region ?_
  refine s_load_one 0 h s one26 rfl rfl (rfl) rfl ?_; intro f h
  refine s_len_sl 2 h s Try.underlying26 rfl rfl rfl ?_; intro f h
  refine s_pure h (ru_move (h.ev rfl)) rfl ?_; intro f h
  refine s_nil ?_
  refine hK1 _ _ ?_
  refine wpIn_block ?_
  refine wpIn_loop_ghost (fun nn aa ww => ∃ d : Nat, ∃ gg : Own, Sl 23 aa [(0, .func (.yield lp) #[] #[]), (1, .pointer (some ⟨bs, 0, none⟩)), (2, .pointer (some ⟨bn, 0, none⟩)), (6, vh), (7, .int .i64 (l.length : Int)), (8, .int .i64 (d : Int))] ∧ St w0 [.blk bs (.cells (#[vh]) 26), .blk bn (.cells (#[.int .i64 no]) 3), .sl vh 25 33 l.length (mbCells l), (gg)] ww ∧ nn = l.length - d ∧ d ≤ (rowU no l).length ∧ GG d gg ∧ ∀ j, j < d → q j = false) (l.length - (0)) ⟨0, g0, h.only ⟨rfl, rfl, rfl, rfl, rfl, slot_int rfl (by omega), trivial⟩, s.as ⟨rfl, rfl, rfl, rfl, trivial⟩, rfl, Nat.zero_le _, hg0, fun j hj => absurd hj (Nat.not_lt_zero _)⟩ ?_
  rintro _ f w1 ⟨d, gg, h, s, hnn, hp0, hp1, hp2⟩
  refine c_seq fun K2 hK2 => ?_
  refine c_region ?_
  refine s_pure h (ru_lss (h.ev rfl) (h.ev rfl)) rfl ?_; intro f h
  refine s_nil ?_
  refine hK2 _ _ ?_
  refine c_seq fun K3 hK3 => ?_
  refine c_cond h rfl (fun hc => ?_) (fun hc => ?_)
  · replace hc := of_decide_eq_true hc
    refine wpIn_skip ?_
    refine hK3 _ _ ?_
    refine c_seq fun K4 hK4 => ?_
    refine wpIn_block ?_
    refine c_seq fun K5 hK5 => ?_
    refine c_region ?_
    have hdl : d < l.length := by omega
    refine s_pure h (ru_ixz (RdZ.of_own (s.getSl 2 rfl)) (d) Try.underlying26 szo25 (h.ev rfl) (h.ev rfl) (by omega) (by omega)) rfl ?_; intro f h
    refine s_load_at ((RdZ.of_own (s.getSl 2 rfl)).el (d) (by omega) (by decide) (D := mbArr (l.getD d zMb)) (mb_elD l d hdl)) h row25 rfl (mbArr_size _) rfl ?_; intro f h
    refine s_alloc (mbArr zMb) h s zero25 rfl rfl ?_; intro f w1 b5 h s
    refine s_store_row 0 h s row25 rfl rfl rfl (mbArr_size _) (mbArr_size _) (mbArr_ones _) ?_; intro w1 s
    refine s_nil ?_
    refine hK5 _ _ ?_
    refine c_seq fun K6 hK6 => ?_
    cases hs9 : (decide ((l.getD d zMb).1 = no) : Bool)
    · skip
      cases hq : (q d : Bool)
      · skip
        refine c_region ?_
        refine s_pure h (ru_field fld25_0 (h.ev rfl)) rfl ?_; intro f h
        refine s_load_at1 (cell_of_has (Has.of_own s 0 rfl) 0 (mbArr_no _)) h one3 rfl rfl ?_; intro f h
        refine s_load_one 2 h s one3 rfl rfl (rfl) rfl ?_; intro f h
        refine s_pure h (ru_val (.bool false) (ru_eql (h.ev rfl) (h.ev rfl)) (congrArg Value.bool hs9)) rfl ?_; intro f h
        refine s_pure h (ru_move (h.ev rfl)) rfl ?_; intro f h
        refine s_on h rfl rfl rfl ?_
        have hdm : d < (rowU no l).length := rowU_lt hp0 hdl hs9
        refine s_pure h (ru_move (h.ev rfl)) rfl ?_; intro f h
        refine s_on h rfl rfl rfl ?_
        refine s_load_row 0 h s row25 rfl rfl (mbArr_size _) rfl ?_; intro f h
        refine s_on h rfl rfl rfl ?_
        refine s_yieldG (V := .bool true) (G := GG (d + 1)) [.agg (mbArr (l.getD d zMb))] 4 h rfl rfl (by have h9 := hY d _ _ 4 gg hdm hp2 hp1 s rfl; rw [hq, rowU_get hdm] at h9; exact h9) rfl ?_; intro f w1 g1 hg1 h s
        refine s_on h rfl rfl rfl ?_
        refine s_pure h (ru_val (.bool false) (ru_not (h.ev rfl)) rfl) rfl ?_; intro f h
        refine s_pure h (ru_pick_f (h.ev rfl) (h.ev rfl)) rfl ?_; intro f h
        refine s_nil ?_
        refine hK6 _ _ ?_
        refine wpIn_cond_false (h.ev rfl) ?_
        refine wpIn_skip ?_
        refine b_norm ?_
        refine hK4 _ _ ?_
        refine c_region ?_
        refine s_pure h (ru_add (h.ev rfl) (h.ev rfl) (by omega)) rfl ?_; intro f h
        refine s_pure h (ru_move (h.ev rfl)) rfl ?_; intro f h
        refine s_nil ?_
        refine t_norm ?_
        exact ⟨_, by omega, ⟨d + 1, g1, h.only ⟨rfl, rfl, rfl, rfl, rfl, slot_int rfl (by omega), trivial⟩, St.as (s.pick _ (List.sublist_append_right [_] _)) ⟨rfl, rfl, rfl, rfl, trivial⟩, rfl, hdm, hg1, qs_next hp2 hq⟩⟩
      · skip
        refine c_region ?_
        refine s_pure h (ru_field fld25_0 (h.ev rfl)) rfl ?_; intro f h
        refine s_load_at1 (cell_of_has (Has.of_own s 0 rfl) 0 (mbArr_no _)) h one3 rfl rfl ?_; intro f h
        refine s_load_one 2 h s one3 rfl rfl (rfl) rfl ?_; intro f h
        refine s_pure h (ru_val (.bool false) (ru_eql (h.ev rfl) (h.ev rfl)) (congrArg Value.bool hs9)) rfl ?_; intro f h
        refine s_pure h (ru_move (h.ev rfl)) rfl ?_; intro f h
        refine s_on h rfl rfl rfl ?_
        have hdm : d < (rowU no l).length := rowU_lt hp0 hdl hs9
        refine s_pure h (ru_move (h.ev rfl)) rfl ?_; intro f h
        refine s_on h rfl rfl rfl ?_
        refine s_load_row 0 h s row25 rfl rfl (mbArr_size _) rfl ?_; intro f h
        refine s_on h rfl rfl rfl ?_
        refine s_yieldG (V := .bool false) (G := GG (d + 1)) [.agg (mbArr (l.getD d zMb))] 4 h rfl rfl (by have h9 := hY d _ _ 4 gg hdm hp2 hp1 s rfl; rw [hq, rowU_get hdm] at h9; exact h9) rfl ?_; intro f w1 g1 hg1 h s
        refine s_on h rfl rfl rfl ?_
        refine s_pure h (ru_val (.bool true) (ru_not (h.ev rfl)) rfl) rfl ?_; intro f h
        refine s_pure h (ru_pick_f (h.ev rfl) (h.ev rfl)) rfl ?_; intro f h
        refine s_nil ?_
        refine hK6 _ _ ?_
        refine wpIn_cond_true (h.ev rfl) ?_
        refine wpIn_ret ?_
        refine b_ret ?_
        refine t_ret ?_
        refine t_ret ?_
        refine b_ret ?_
        exact e_noneF rfl h (⟨⟨_, rfl⟩, d + 1, g1, hg1, s.pick _ (List.sublist_cons_self _ _), hdm, fun j hj => hp2 j (by omega), fun h9 => absurd (hq.symm.trans h9) (by decide)⟩)
    · skip
      refine c_region ?_
      refine s_pure h (ru_field fld25_0 (h.ev rfl)) rfl ?_; intro f h
      refine s_load_at1 (cell_of_has (Has.of_own s 0 rfl) 0 (mbArr_no _)) h one3 rfl rfl ?_; intro f h
      refine s_load_one 2 h s one3 rfl rfl (rfl) rfl ?_; intro f h
      refine s_pure h (ru_val (.bool true) (ru_eql (h.ev rfl) (h.ev rfl)) (congrArg Value.bool hs9)) rfl ?_; intro f h
      refine s_pure h (ru_move (h.ev rfl)) rfl ?_; intro f h
      refine s_off (b := false) h rfl rfl rfl rfl ?_; intro f h
      refine s_off (b := false) h rfl rfl rfl rfl ?_; intro f h
      refine s_off (b := false) h rfl rfl rfl rfl ?_; intro f h
      refine s_off (b := false) h rfl rfl rfl rfl ?_; intro f h
      refine s_pure h (ru_pick_t (h.ev rfl) (h.ev rfl)) rfl ?_; intro f h
      refine s_nil ?_
      refine hK6 _ _ ?_
      refine wpIn_cond_true (h.ev rfl) ?_
      refine wpIn_ret ?_
      refine b_ret ?_
      refine t_ret ?_
      refine t_ret ?_
      refine b_ret ?_
      exact e_noneF rfl h (⟨⟨_, rfl⟩, d, gg, hp1, s.pick _ (List.sublist_cons_self _ _), hp0, fun j hj => hp2 j (by omega), fun _ => Nat.le_antisymm hp0 (rowU_stop (of_decide_eq_true hs9) hdl)⟩)
  · replace hc := of_decide_eq_false hc
    refine wpIn_exit ?_
    refine t_exit ?_
    refine t_exit ?_
    refine b_exit ?_
    exact e_noneF_end rfl h (⟨⟨_, rfl⟩, d, gg, hp1, s, hp0, fun j hj => hp2 j (by omega), fun _ => (by have := rowU_le no l; omega)⟩)

set_option maxHeartbeats 1000000 in
theorem nfollow_any (n : Nd) (vs vf : Value) (z : Nd) (ws wf : Value) (w : World) (hRs : RdZ w vs 33 n.sc.length (mbCells n.sc)) (hRf : RdZ w vf 33 n.fg.length (mbCells n.fg)) (hns : n.sc.length ≤ 900) (hnf : n.fg.length ≤ 900) (hZs : RdZ w ws 33 z.sc.length (mbCells z.sc)) (hZf : RdZ w wf 33 z.fg.length (mbCells z.fg)) (hzs : z.sc.length ≤ 900) (hzf : z.fg.length ≤ 900) : Calls Try.prog 22 [.agg (ndArr n.me n.pr vs vf), .agg (ndArr z.me z.pr ws wf)].toArray w (Ret w (NodP w 25 (foN n z) (foE n z))) := by
  refine c_enterM Try.func22 rfl Try.ntmps22 rfl [(0, .agg (ndArr n.me n.pr vs vf)), (1, .agg (ndArr z.me z.pr ws wf))] (by simp) fun f h => ?_
  have s := St.start w
  refine c_seq fun K1 hK1 => ?_
  refine c_region ?_
  refine s_box (ndArr n.me n.pr vs vf) h s rfl rfl rfl ?_; intro f w1 b2 h s
  refine s_box (ndArr z.me z.pr ws wf) h s rfl rfl rfl ?_; intro f w1 b3 h s
  refine s_alloc (ndArr zMb zMb nilV nilV) h s zero28 rfl rfl ?_; intro f w1 b4 h s
  refine s_pure h (ru_assign (h.ev rfl)) rfl ?_; intro f h
  refine s_nil ?_
  refine hK1 _ _ ?_
  refine c_seq fun K2 hK2 => ?_
  refine c_seq fun K3 hK3 => ?_
  cases hr : (rightN n : Bool)
  · skip
    refine c_region ?_
    refine s_load_row 2 h s row28 rfl rfl (ndArr_size _ _ _ _) rfl ?_; intro f h
    refine s_call h s fnc16 (ret_val (.bool false) (nright_any n vs vf _ (hRs.keep s.ext) (hRf.keep s.ext) (by omega) (by omega)) (congrArg Value.bool hr)) rfl rfl ?_; intro f w1 v9 hT hE h s; obtain rfl := hT
    refine s_pure h (ru_val (.bool true) (ru_not (h.ev rfl)) rfl) rfl ?_; intro f h
    refine s_pure h (ru_move (h.ev rfl)) rfl ?_; intro f h
    refine s_off (b := false) h rfl rfl rfl rfl ?_; intro f h
    refine s_off (b := false) h rfl rfl rfl rfl ?_; intro f h
    refine s_off (b := false) h rfl rfl rfl rfl ?_; intro f h
    refine s_pure h (ru_pick_t (h.ev rfl) (h.ev rfl)) rfl ?_; intro f h
    refine s_nil ?_
    refine hK3 _ _ ?_
    refine wpIn_cond_true (h.ev rfl) ?_
    refine c_seq fun K4 hK4 => ?_
    refine c_region ?_
    refine s_pure h (ru_build_nd0 sttN) rfl ?_; intro f h
    refine s_store_row 0 h s row28 rfl rfl rfl (ndArr_size _ _ _ _) (ndArr_size _ _ _ _) (ndArr_ones (rfl) (rfl)) ?_; intro w1 s
    refine s_pure h (ru_assign (h.ev rfl)) rfl ?_; intro f h
    refine s_nil ?_
    refine hK4 _ _ ?_
    refine wpIn_ret ?_
    refine t_ret ?_
    exact e_row_tmp_M0S 0 rfl h s row28 rfl rfl rfl (ndArr_size _ _ _ _) (nod_no s (fo_no0 hr).1 (fo_no0 hr).2)
  · skip
    cases hz : (rightN z : Bool)
    · skip
      refine c_region ?_
      refine s_load_row 2 h s row28 rfl rfl (ndArr_size _ _ _ _) rfl ?_; intro f h
      refine s_call h s fnc16 (ret_val (.bool true) (nright_any n vs vf _ (hRs.keep s.ext) (hRf.keep s.ext) (by omega) (by omega)) (congrArg Value.bool hr)) rfl rfl ?_; intro f w1 v9 hT hE h s; obtain rfl := hT
      refine s_pure h (ru_val (.bool false) (ru_not (h.ev rfl)) rfl) rfl ?_; intro f h
      refine s_pure h (ru_move (h.ev rfl)) rfl ?_; intro f h
      refine s_on h rfl rfl rfl ?_
      refine s_load_row 1 h s row28 rfl rfl (ndArr_size _ _ _ _) rfl ?_; intro f h
      refine s_on h rfl rfl rfl ?_
      refine s_call h s fnc16 (ret_val (.bool false) (nright_any z ws wf _ (hZs.keep s.ext) (hZf.keep s.ext) (by omega) (by omega)) (congrArg Value.bool hz)) rfl rfl ?_; intro f w1 v9 hT hE h s; obtain rfl := hT
      refine s_on h rfl rfl rfl ?_
      refine s_pure h (ru_val (.bool true) (ru_not (h.ev rfl)) rfl) rfl ?_; intro f h
      refine s_pure h (ru_pick_f (h.ev rfl) (h.ev rfl)) rfl ?_; intro f h
      refine s_nil ?_
      refine hK3 _ _ ?_
      refine wpIn_cond_true (h.ev rfl) ?_
      refine c_seq fun K5 hK5 => ?_
      refine c_region ?_
      refine s_pure h (ru_build_nd0 sttN) rfl ?_; intro f h
      refine s_store_row 0 h s row28 rfl rfl rfl (ndArr_size _ _ _ _) (ndArr_size _ _ _ _) (ndArr_ones (rfl) (rfl)) ?_; intro w1 s
      refine s_pure h (ru_assign (h.ev rfl)) rfl ?_; intro f h
      refine s_nil ?_
      refine hK5 _ _ ?_
      refine wpIn_ret ?_
      refine t_ret ?_
      exact e_row_tmp_M0S 0 rfl h s row28 rfl rfl rfl (ndArr_size _ _ _ _) (nod_no s (fo_no1 hz).1 (fo_no1 hz).2)
    · skip
      refine c_region ?_
      refine s_load_row 2 h s row28 rfl rfl (ndArr_size _ _ _ _) rfl ?_; intro f h
      refine s_call h s fnc16 (ret_val (.bool true) (nright_any n vs vf _ (hRs.keep s.ext) (hRf.keep s.ext) (by omega) (by omega)) (congrArg Value.bool hr)) rfl rfl ?_; intro f w1 v9 hT hE h s; obtain rfl := hT
      refine s_pure h (ru_val (.bool false) (ru_not (h.ev rfl)) rfl) rfl ?_; intro f h
      refine s_pure h (ru_move (h.ev rfl)) rfl ?_; intro f h
      refine s_on h rfl rfl rfl ?_
      refine s_load_row 1 h s row28 rfl rfl (ndArr_size _ _ _ _) rfl ?_; intro f h
      refine s_on h rfl rfl rfl ?_
      refine s_call h s fnc16 (ret_val (.bool true) (nright_any z ws wf _ (hZs.keep s.ext) (hZf.keep s.ext) (by omega) (by omega)) (congrArg Value.bool hz)) rfl rfl ?_; intro f w1 v9 hT hE h s; obtain rfl := hT
      refine s_on h rfl rfl rfl ?_
      refine s_pure h (ru_val (.bool false) (ru_not (h.ev rfl)) rfl) rfl ?_; intro f h
      refine s_pure h (ru_pick_f (h.ev rfl) (h.ev rfl)) rfl ?_; intro f h
      refine s_nil ?_
      refine hK3 _ _ ?_
      refine wpIn_cond_false (h.ev rfl) ?_
      refine wpIn_skip ?_
      refine hK2 _ _ ?_
      refine c_seq fun K6 hK6 => ?_
      have hrt := hr
      refine c_regT 0 9 [[], [0], [], [0, 1, 2], [], [4], [0, 1, 2, 3, 4, 5], [], [7], [0, 1, 2, 3, 4, 5, 6, 7, 8], [0, 1, 2, 3, 4, 5, 6, 7, 8, 9]] [[], [], [], [], [], [], [], [], [], [], []] [fun _ => [], fun _ => [], fun _ => [], fun _ => [], fun _ => [], fun _ => [], fun v => [.sl (v 6) 25 33 2 (mbCells [frM n.me z, z.me])], fun _ => [], fun _ => [], fun _ => [], fun _ => []] [] [fun v => v 0 = .pointer (some ⟨b2, 0, none⟩), fun v => v 1 = .agg (mbArr n.me), fun v => v 2 = .agg (ndArr z.me z.pr ws wf), fun v => v 3 = .agg (mbArr (frM n.me z)), fun v => v 4 = .pointer (some ⟨b3, 0, none⟩), fun v => v 5 = .agg (mbArr z.me), fun _ => True, fun v => v 7 = .pointer (some ⟨b3, 66, none⟩), fun v => v 8 = ws, fun _ => True, fun _ => True] [.blk b4 (.cells (ndArr zMb zMb nilV nilV) 28), .blk b3 (.cells (ndArr z.me z.pr ws wf) 28), .blk b2 (.cells (ndArr n.me n.pr vs vf) 28)] h s rfl (by kernel_rfl) (by kernel_rfl) (by kernel_rfl) (And.intro ?_ (And.intro ?_ (And.intro ?_ (And.intro ?_ (And.intro ?_ (And.intro ?_ (And.intro ?_ (And.intro ?_ (And.intro ?_ (trivial)))))))))) [0, 1, 2, 3, 4, 5, 6, 7, 8] (by kernel_rfl) ?_
      · intro f9 w2 vl3 E9 hs9 hd9 hl hF s
        have e2 : f9.tmps.getD 2 undef = _ := oc_old hl 2 (by kernel_rfl) (by kernel_rfl) (h.holds 2 _ rfl)
        have h := fin_slot [(2, _)] (hs9.trans h.size) (hd9.trans h.defers) (holds_lk ⟨e2, trivial⟩)
        replace s : St w (.blk b4 (.cells (ndArr zMb zMb nilV nilV) 28) :: .blk b3 (.cells (ndArr z.me z.pr ws wf) 28) :: .blk b2 (.cells (ndArr n.me n.pr vs vf) 28) :: E9) _ := s
        refine s_pure h (ru_field fld28_0 (h.ev rfl)) rfl ?_; intro f h
        exact s_nil ⟨_, oc_out 18 rfl (h.holds 18 _ rfl), rfl, s⟩
      · intro f9 w2 vl3 E9 hs9 hd9 hl hF s
        have e18 : f9.tmps.getD 18 undef = .pointer (some ⟨b2, 0, none⟩) := (oc_get hl 18 0 (by kernel_rfl) (by kernel_rfl)).trans (hF 0 (by decide))
        have h := fin_slot [(18, .pointer (some ⟨b2, 0, none⟩))] (hs9.trans h.size) (hd9.trans h.defers) (holds_lk ⟨e18, trivial⟩)
        replace s : St w (.blk b4 (.cells (ndArr zMb zMb nilV nilV) 28) :: .blk b3 (.cells (ndArr z.me z.pr ws wf) 28) :: .blk b2 (.cells (ndArr n.me n.pr vs vf) 28) :: E9) _ := s
        refine s_load_at (Has.subL (Has.of_own s 2 rfl) 0 33 (D := mbArr n.me) (ndArr_me _ _ _ _)) h row25 rfl (mbArr_size _) rfl ?_; intro f h
        exact s_nil ⟨_, oc_out 19 rfl (h.holds 19 _ rfl), rfl, s⟩
      · intro f9 w2 vl3 E9 hs9 hd9 hl hF s
        have e3 : f9.tmps.getD 3 undef = _ := oc_old hl 3 (by kernel_rfl) (by kernel_rfl) (h.holds 3 _ rfl)
        have h := fin_slot [(3, _)] (hs9.trans h.size) (hd9.trans h.defers) (holds_lk ⟨e3, trivial⟩)
        replace s : St w (.blk b4 (.cells (ndArr zMb zMb nilV nilV) 28) :: .blk b3 (.cells (ndArr z.me z.pr ws wf) 28) :: .blk b2 (.cells (ndArr n.me n.pr vs vf) 28) :: E9) _ := s
        refine s_load_row 1 h s row28 rfl rfl (ndArr_size _ _ _ _) rfl ?_; intro f h
        exact s_nil ⟨_, oc_out 20 rfl (h.holds 20 _ rfl), rfl, s⟩
      · intro f9 w2 vl3 E9 hs9 hd9 hl hF s
        have e19 : f9.tmps.getD 19 undef = .agg (mbArr n.me) := (oc_get hl 19 1 (by kernel_rfl) (by kernel_rfl)).trans (hF 1 (by decide))
        have e20 : f9.tmps.getD 20 undef = .agg (ndArr z.me z.pr ws wf) := (oc_get hl 20 2 (by kernel_rfl) (by kernel_rfl)).trans (hF 2 (by decide))
        have h := fin_slot [(19, .agg (mbArr n.me)), (20, .agg (ndArr z.me z.pr ws wf))] (hs9.trans h.size) (hd9.trans h.defers) (holds_lk ⟨e19, e20, trivial⟩)
        replace s : St w (.blk b4 (.cells (ndArr zMb zMb nilV nilV) 28) :: .blk b3 (.cells (ndArr z.me z.pr ws wf) 28) :: .blk b2 (.cells (ndArr n.me n.pr vs vf) 28) :: E9) _ := s
        refine s_call h s fnc45 (first_any n.me z ws wf _) rfl rfl ?_; intro f w1 v9 hT hE h s; obtain rfl := hT
        exact s_nil ⟨_, oc_out 21 rfl (h.holds 21 _ rfl), rfl, s⟩
      · intro f9 w2 vl3 E9 hs9 hd9 hl hF s
        have e3 : f9.tmps.getD 3 undef = _ := oc_old hl 3 (by kernel_rfl) (by kernel_rfl) (h.holds 3 _ rfl)
        have h := fin_slot [(3, _)] (hs9.trans h.size) (hd9.trans h.defers) (holds_lk ⟨e3, trivial⟩)
        replace s : St w (.blk b4 (.cells (ndArr zMb zMb nilV nilV) 28) :: .blk b3 (.cells (ndArr z.me z.pr ws wf) 28) :: .blk b2 (.cells (ndArr n.me n.pr vs vf) 28) :: E9) _ := s
        refine s_pure h (ru_field fld28_0 (h.ev rfl)) rfl ?_; intro f h
        exact s_nil ⟨_, oc_out 22 rfl (h.holds 22 _ rfl), rfl, s⟩
      · intro f9 w2 vl3 E9 hs9 hd9 hl hF s
        have e22 : f9.tmps.getD 22 undef = .pointer (some ⟨b3, 0, none⟩) := (oc_get hl 22 4 (by kernel_rfl) (by kernel_rfl)).trans (hF 4 (by decide))
        have h := fin_slot [(22, .pointer (some ⟨b3, 0, none⟩))] (hs9.trans h.size) (hd9.trans h.defers) (holds_lk ⟨e22, trivial⟩)
        replace s : St w (.blk b4 (.cells (ndArr zMb zMb nilV nilV) 28) :: .blk b3 (.cells (ndArr z.me z.pr ws wf) 28) :: .blk b2 (.cells (ndArr n.me n.pr vs vf) 28) :: E9) _ := s
        refine s_load_at (Has.subL (Has.of_own s 1 rfl) 0 33 (D := mbArr z.me) (ndArr_me _ _ _ _)) h row25 rfl (mbArr_size _) rfl ?_; intro f h
        exact s_nil ⟨_, oc_out 23 rfl (h.holds 23 _ rfl), rfl, s⟩
      · intro f9 w2 vl3 E9 hs9 hd9 hl hF s
        have e21 : f9.tmps.getD 21 undef = .agg (mbArr (frM n.me z)) := (oc_get hl 21 3 (by kernel_rfl) (by kernel_rfl)).trans (hF 3 (by decide))
        have e23 : f9.tmps.getD 23 undef = .agg (mbArr z.me) := (oc_get hl 23 5 (by kernel_rfl) (by kernel_rfl)).trans (hF 5 (by decide))
        have h := fin_slot [(21, .agg (mbArr (frM n.me z))), (23, .agg (mbArr z.me))] (hs9.trans h.size) (hd9.trans h.defers) (holds_lk ⟨e21, e23, trivial⟩)
        replace s : St w (.blk b4 (.cells (ndArr zMb zMb nilV nilV) 28) :: .blk b3 (.cells (ndArr z.me z.pr ws wf) 28) :: .blk b2 (.cells (ndArr n.me n.pr vs vf) 28) :: E9) _ := s
        refine s_bslice (vs := [.agg (mbArr (frM n.me z)), .agg (mbArr z.me)]) [.tmp 21, .tmp 23] h s Try.underlying26 elm25 rfl rfl (by intro v hv9; simp only [List.mem_cons, List.not_mem_nil, or_false] at hv9; rcases hv9 with rfl | rfl <;> exact mbArr_size _) rfl rfl rfl ?_; intro f w1 v24 h s
        replace s := s.resl (m := 2) (ys := mbCells [frM n.me z, z.me]) 0 rfl rfl (by simp [mbCells, mbArr, Value.cells])
        exact s_nil ⟨_, oc_out 24 rfl (h.holds 24 _ rfl), trivial, s⟩
      · intro f9 w2 vl3 E9 hs9 hd9 hl hF s
        have e3 : f9.tmps.getD 3 undef = _ := oc_old hl 3 (by kernel_rfl) (by kernel_rfl) (h.holds 3 _ rfl)
        have h := fin_slot [(3, _)] (hs9.trans h.size) (hd9.trans h.defers) (holds_lk ⟨e3, trivial⟩)
        replace s : St w (.blk b4 (.cells (ndArr zMb zMb nilV nilV) 28) :: .blk b3 (.cells (ndArr z.me z.pr ws wf) 28) :: .blk b2 (.cells (ndArr n.me n.pr vs vf) 28) :: E9) _ := s
        refine s_pure h (ru_field fld28_2 (h.ev rfl)) rfl ?_; intro f h
        exact s_nil ⟨_, oc_out 25 rfl (h.holds 25 _ rfl), rfl, s⟩
      · intro f9 w2 vl3 E9 hs9 hd9 hl hF s
        have e25 : f9.tmps.getD 25 undef = .pointer (some ⟨b3, 66, none⟩) := (oc_get hl 25 7 (by kernel_rfl) (by kernel_rfl)).trans (hF 7 (by decide))
        have h := fin_slot [(25, .pointer (some ⟨b3, 66, none⟩))] (hs9.trans h.size) (hd9.trans h.defers) (holds_lk ⟨e25, trivial⟩)
        replace s : St w (.blk b4 (.cells (ndArr zMb zMb nilV nilV) 28) :: .blk b3 (.cells (ndArr z.me z.pr ws wf) 28) :: .blk b2 (.cells (ndArr n.me n.pr vs vf) 28) :: E9) _ := s
        refine s_load_at1 (V := ws) (cell_of_has (Has.of_own s 1 rfl) 66 (ndArr_sc _ _ _ _)) h one26 rfl rfl ?_; intro f h
        exact s_nil ⟨_, oc_out 26 rfl (h.holds 26 _ rfl), rfl, s⟩
      intro f w1 vl3 hs9 hd9 hv hr hF s
      replace hv := fun i d h9 => hv i d (show Nat.blt i 9 = true from h9)
      replace h := oc_slT 9 (ops := _) [(18, .pointer (some ⟨b2, 0, none⟩)), (19, .agg (mbArr n.me)), (20, .agg (ndArr z.me z.pr ws wf)), (21, .agg (mbArr (frM n.me z))), (22, .pointer (some ⟨b3, 0, none⟩)), (23, .agg (mbArr z.me)), (24, (vl3 6)), (25, .pointer (some ⟨b3, 66, none⟩)), (26, ws)] h hs9 hd9 hr ⟨(hv 0 18 rfl rfl).trans (hF 0 (by kernel_rfl)), (hv 1 19 rfl rfl).trans (hF 1 (by kernel_rfl)), (hv 2 20 rfl rfl).trans (hF 2 (by kernel_rfl)), (hv 3 21 rfl rfl).trans (hF 3 (by kernel_rfl)), (hv 4 22 rfl rfl).trans (hF 4 (by kernel_rfl)), (hv 5 23 rfl rfl).trans (hF 5 (by kernel_rfl)), hv 6 24 rfl rfl, (hv 7 25 rfl rfl).trans (hF 7 (by kernel_rfl)), (hv 8 26 rfl rfl).trans (hF 8 (by kernel_rfl)), trivial⟩ (by kernel_rfl)
      replace s : St w [.sl (vl3 6) 25 33 2 (mbCells [frM n.me z, z.me]), .blk b4 (.cells (ndArr zMb zMb nilV nilV) 28), .blk b3 (.cells (ndArr z.me z.pr ws wf) 28), .blk b2 (.cells (ndArr n.me n.pr vs vf) 28)] _ := s
      refine s_append_rd 0 (hZs.keep s.ext) h s Try.underlying26 elm25 rfl rfl rfl (mbCells_ones _) (by unfold maxLen; omega) (by omega) rfl ?_; intro f w1 v27 h s
      replace s := s.resl (m := (rowN n z).length) (ys := mbCells (rowN n z)) 0 rfl (by show 2 + z.sc.length = z.sc.length + 1 + 1; omega) (mbCells_app _ _).symm
      refine s_pure h (ru_assign (h.ev rfl)) rfl ?_; intro f h
      refine s_nil ?_
      refine hK6 _ _ ?_
      refine c_seq fun K7 hK7 => ?_
      refine c_region ?_
      refine s_alloc (#[.slice none 0 0]) h s zero26 rfl rfl ?_; intro f w1 b7 h s
      refine s_nil ?_
      refine hK7 _ _ ?_
      refine c_seq fun K8 hK8 => ?_
      refine c_seq fun K9 hK9 => ?_
      refine c_region ?_
      replace s := s.nilSl 25 33
      refine s_pure h (ru_field fld28_0 (h.ev rfl)) rfl ?_; intro f h
      refine s_pure h (ru_field fld25_0 (h.ev rfl)) rfl ?_; intro f h
      refine s_load_at1 (cell_of_has (Has.of_own s 5 rfl) 0 (ndArr_no _ _ _ _)) h one3 rfl rfl ?_; intro f h
      refine s_pure h (ru_move (h.ev rfl)) rfl ?_; intro f h
      refine s_callS [.int .i64 n.me.1, v27] h fnc46 (upto_any n.me.1 (rowN n z) v27 _ _ _ s (RdZ.of_own (s.getSl 2 rfl))) rfl rfl ?_; rintro f w1 r ⟨bs, bn, rfl, s⟩ h
      replace s := s.sel [0, 1, 4, 2, 3, 5, 6, 7] rfl (by decide)
      refine s_nil ?_
      refine hK9 _ _ ?_
      refine wpIn_block ?_
      refine c_rangeE (fun d A9 => ∃ v8 : Value, A9 = [.sl v8 25 33 (folF ((rowU n.me.1 (rowN n z)).take d)).length (mbCells (folF ((rowU n.me.1 (rowN n z)).take d))), .blk b7 (.cells #[v8] 26), .blk b4 (.cells (ndArr zMb zMb nilV nilV) 28), .blk b3 (.cells (ndArr z.me z.pr ws wf) 28), .blk b2 (.cells (ndArr n.me n.pr vs vf) 28)]) [.sl (Value.slice none 0 0) 25 33 0 [], .blk b7 (.cells #[(Value.slice none 0 0)] 26), .blk b4 (.cells (ndArr zMb zMb nilV nilV) 28), .blk b3 (.cells (ndArr z.me z.pr ws wf) 28), .blk b2 (.cells (ndArr n.me n.pr vs vf) 28)] [.blk bs (.cells #[v27] 26), .blk bn (.cells #[.int .i64 n.me.1] 3), .sl v27 25 33 (rowN n z).length (mbCells (rowN n z))] ((rowU n.me.1 (rowN n z)).length) (fun _ => false) (fun d => [Value.agg (mbArr ((rowU n.me.1 (rowN n z)).getD d zMb))]) h s rfl fnc62 (List.Perm.refl _) (⟨_, rfl⟩) (fun _ => rfl) ?_ ?_ ?_ ?_
      · intro lp w2 GG g0 hg0 s2 hY; exact uiter_any n.me.1 (rowN n z) (by show z.sc.length + 1 + 1 ≤ 1000; omega) v27 lp bs bn (fun _ => false) GG g0 w w2 s2 hg0 hY
      · intro lp D9 d9 rc R9 A9 w2 hd9 hq9 hJ9 s
        obtain ⟨v8, rfl⟩ := hJ9
        have h := Sl.round1 (p := 33) (V := .agg (mbArr ((rowU n.me.1 (rowN n z)).getD d9 zMb))) h rfl
        refine c_region ?_
        refine s_alloc (mbArr zMb) h s zero25 rfl rfl ?_; intro f w1 b8 h s
        refine s_store_row 0 h s row25 rfl rfl rfl (mbArr_size _) (mbArr_size _) (mbArr_ones _) ?_; intro w1 s
        refine s_nil ?_
        refine t_norm ?_
        refine ⟨_, s.perm (List.perm_middle (l₁ := [_])), fun w3 s => ?_⟩
        refine wpIn_block ?_
        refine c_seq fun K10 hK10 => ?_
        cases g0 : (decide ((folF ((rowU n.me.1 (rowN n z)).take d9)).length < 4) : Bool)
        · skip
          refine c_region ?_
          refine s_load_one 4 h s one26 rfl rfl (rfl) rfl ?_; intro f h
          refine s_len_sl 3 h s Try.underlying26 rfl rfl rfl ?_; intro f h
          refine s_pure h (ru_val (.bool false) (ru_lss (h.ev rfl) (h.ev rfl)) (congrArg Value.bool (decide_eq_false (by have := of_decide_eq_false g0; omega)))) rfl ?_; intro f h
          refine s_pure h (ru_move (h.ev rfl)) rfl ?_; intro f h
          refine s_off (b := true) h rfl rfl rfl rfl ?_; intro f h
          refine s_off (b := true) h rfl rfl rfl rfl ?_; intro f h
          refine s_off (b := true) h rfl rfl rfl rfl ?_; intro f h
          refine s_off (b := true) h rfl rfl rfl rfl ?_; intro f h
          refine s_off (b := true) h rfl rfl rfl rfl ?_; intro f h
          refine s_pure h (ru_pick_f (h.ev rfl) (h.ev rfl)) rfl ?_; intro f h
          refine s_nil ?_
          refine hK10 _ _ ?_
          refine wpIn_cond_false (h.ev rfl) ?_
          refine wpIn_skip ?_
          refine b_norm ?_
          replace s := s.resl (m := (folF ((rowU n.me.1 (rowN n z)).take (d9 + 1))).length) (ys := mbCells (folF ((rowU n.me.1 (rowN n z)).take (d9 + 1)))) 3 rfl (by rw [fol_atF hd9, add_n0 (of_decide_eq_false g0)]) (by rw [fol_atF hd9, add_n0 (of_decide_eq_false g0)])
          refine ⟨rfl, _, ⟨v8, rfl⟩, s.pick _ ?_⟩
          exact List.Sublist.cons_cons _ (List.Sublist.cons _ (List.Sublist.refl _))
        · skip
          cases g1 : (hasB (folF ((rowU n.me.1 (rowN n z)).take d9)) ((rowU n.me.1 (rowN n z)).getD d9 zMb).1 : Bool)
          · skip
            refine c_region ?_
            refine s_load_one 4 h s one26 rfl rfl (rfl) rfl ?_; intro f h
            refine s_len_sl 3 h s Try.underlying26 rfl rfl rfl ?_; intro f h
            refine s_pure h (ru_val (.bool true) (ru_lss (h.ev rfl) (h.ev rfl)) (congrArg Value.bool (decide_eq_true (by have := of_decide_eq_true g0; omega)))) rfl ?_; intro f h
            refine s_pure h (ru_move (h.ev rfl)) rfl ?_; intro f h
            refine s_on h rfl rfl rfl ?_
            refine s_load_one 4 h s one26 rfl rfl (rfl) rfl ?_; intro f h
            refine s_on h rfl rfl rfl ?_
            refine s_pure h (ru_field fld25_0 (h.ev rfl)) rfl ?_; intro f h
            refine s_on h rfl rfl rfl ?_
            refine s_load_at1 (cell_of_has (Has.of_own s 1 rfl) 0 (mbArr_no _)) h one3 rfl rfl ?_; intro f h
            refine s_on h rfl rfl rfl ?_
            refine s_call h s fnc47 (ret_val (.bool false) (hasno_any (folF ((rowU n.me.1 (rowN n z)).take d9)) v8 ((rowU n.me.1 (rowN n z)).getD d9 zMb).1 _ (RdZ.of_own (s.getSl 3 rfl)) (by have := fol_4 ((rowU n.me.1 (rowN n z)).take d9); omega)) (congrArg Value.bool g1)) rfl rfl ?_; intro f w1 v9 hT hE h s; obtain rfl := hT
            refine s_on h rfl rfl rfl ?_
            refine s_pure h (ru_val (.bool true) (ru_not (h.ev rfl)) rfl) rfl ?_; intro f h
            refine s_pure h (ru_pick_t (h.ev rfl) (h.ev rfl)) rfl ?_; intro f h
            refine s_nil ?_
            refine hK10 _ _ ?_
            refine wpIn_cond_true (h.ev rfl) ?_
            refine c_region ?_
            refine s_load_one 4 h s one26 rfl rfl (rfl) rfl ?_; intro f h
            refine s_load_row 1 h s row25 rfl rfl (mbArr_size _) rfl ?_; intro f h
            refine s_bslice (vs := [.agg (mbArr ((rowU n.me.1 (rowN n z)).getD d9 zMb))]) [.tmp 45] h s Try.underlying26 elm25 rfl rfl (mb_sz _) rfl rfl rfl ?_; intro f w1 v46 h s
            refine s_append 4 0 h s Try.underlying26 elm25 rfl rfl rfl rfl (by decide) (by rw [one_mb]; exact mbArr_ones _) (by have := fol_4 ((rowU n.me.1 (rowN n z)).take d9); unfold maxLen; omega) (by have := fol_4 ((rowU n.me.1 (rowN n z)).take d9); omega) rfl ?_; intro f w1 v47 h s
            replace s := s.pick _ (List.sublist_cons_self _ _)
            refine s_store_one 4 h s one26 rfl rfl rfl (by simp) (own_one (s.getSl 3 rfl)) ?_; intro w1 s
            refine s_nil ?_
            refine b_norm ?_
            replace s := s.resl (m := (folF ((rowU n.me.1 (rowN n z)).take (d9 + 1))).length) (ys := mbCells (folF ((rowU n.me.1 (rowN n z)).take (d9 + 1)))) 3 rfl (by rw [fol_atF hd9, add_y (of_decide_eq_true g0) g1, List.length_append]; rfl) (by rw [fol_atF hd9, add_y (of_decide_eq_true g0) g1, one_mb, mb_snoc])
            refine ⟨rfl, _, ⟨v47, rfl⟩, s.pick _ ?_⟩
            exact List.Sublist.cons_cons _ (List.Sublist.cons _ (List.Sublist.refl _))
          · skip
            refine c_region ?_
            refine s_load_one 4 h s one26 rfl rfl (rfl) rfl ?_; intro f h
            refine s_len_sl 3 h s Try.underlying26 rfl rfl rfl ?_; intro f h
            refine s_pure h (ru_val (.bool true) (ru_lss (h.ev rfl) (h.ev rfl)) (congrArg Value.bool (decide_eq_true (by have := of_decide_eq_true g0; omega)))) rfl ?_; intro f h
            refine s_pure h (ru_move (h.ev rfl)) rfl ?_; intro f h
            refine s_on h rfl rfl rfl ?_
            refine s_load_one 4 h s one26 rfl rfl (rfl) rfl ?_; intro f h
            refine s_on h rfl rfl rfl ?_
            refine s_pure h (ru_field fld25_0 (h.ev rfl)) rfl ?_; intro f h
            refine s_on h rfl rfl rfl ?_
            refine s_load_at1 (cell_of_has (Has.of_own s 1 rfl) 0 (mbArr_no _)) h one3 rfl rfl ?_; intro f h
            refine s_on h rfl rfl rfl ?_
            refine s_call h s fnc47 (ret_val (.bool true) (hasno_any (folF ((rowU n.me.1 (rowN n z)).take d9)) v8 ((rowU n.me.1 (rowN n z)).getD d9 zMb).1 _ (RdZ.of_own (s.getSl 3 rfl)) (by have := fol_4 ((rowU n.me.1 (rowN n z)).take d9); omega)) (congrArg Value.bool g1)) rfl rfl ?_; intro f w1 v9 hT hE h s; obtain rfl := hT
            refine s_on h rfl rfl rfl ?_
            refine s_pure h (ru_val (.bool false) (ru_not (h.ev rfl)) rfl) rfl ?_; intro f h
            refine s_pure h (ru_pick_t (h.ev rfl) (h.ev rfl)) rfl ?_; intro f h
            refine s_nil ?_
            refine hK10 _ _ ?_
            refine wpIn_cond_false (h.ev rfl) ?_
            refine wpIn_skip ?_
            refine b_norm ?_
            replace s := s.resl (m := (folF ((rowU n.me.1 (rowN n z)).take (d9 + 1))).length) (ys := mbCells (folF ((rowU n.me.1 (rowN n z)).take (d9 + 1)))) 3 rfl (by rw [fol_atF hd9, add_n1 g1]) (by rw [fol_atF hd9, add_n1 g1])
            refine ⟨rfl, _, ⟨v8, rfl⟩, s.pick _ ?_⟩
            exact List.Sublist.cons_cons _ (List.Sublist.cons _ (List.Sublist.refl _))
      · intro D9 A9 w2 hJ9 hq9 s
        obtain ⟨v8, rfl⟩ := hJ9
        replace h : Sl _ { f with defers := { target := .collected D9, args := #[] } :: f.defers } _ [{ target := .collected D9, args := #[] }] := ⟨h.size, by rw [h.defers], h.holds⟩
        rw [List.take_length] at s
        refine b_norm ?_
        refine hK8 _ _ ?_
        refine c_seq fun K11 hK11 => ?_
        refine c_region ?_
        refine s_load_row 8 h s row28 rfl rfl (ndArr_size _ _ _ _) rfl ?_; intro f h
        refine s_call h s fnc44 (copied_any n vs vf _ (hRs.keep s.ext) (hRf.keep s.ext) (by omega) (by omega)) rfl rfl ?_; rintro f w1 v49 ⟨us, uf, rfl, hS⟩ hE h sq; replace s := s.add hS
        refine s_store_row 10 h s row28 rfl rfl rfl (ndArr_size _ _ _ _) (ndArr_size _ _ _ _) (ndArr_ones (own_one (s.getSl 0 rfl)) (own_one (s.getSl 1 rfl))) ?_; intro w1 s
        refine s_nil ?_
        refine hK11 _ _ ?_
        refine c_seq fun K12 hK12 => ?_
        refine c_region ?_
        refine s_load_one 7 h s one26 rfl rfl (rfl) rfl ?_; intro f h
        refine s_pure h (ru_field fld28_0 (h.ev rfl)) rfl ?_; intro f h
        refine s_load_at (Has.subL (Has.of_own s 10 rfl) 0 33 (D := mbArr n.me) (ndArr_me _ _ _ _)) h row25 rfl (mbArr_size _) rfl ?_; intro f h
        replace s := (s.sel [6, 0, 1, 2, 3, 4, 5, 7, 8, 9, 10] rfl (by decide))
        refine s_callS [v8, .agg (mbArr n.me)] h fnc48 (oralone_any (folF (rowU n.me.1 (rowN n z))) v8 n.me _ _ _ s) rfl rfl ?_; rintro f w1 v53 s h
        refine s_pure h (ru_field fld28_2 (h.ev rfl)) rfl ?_; intro f h
        refine s_store_one 10 h s one26 rfl rfl rfl (by rw [ndArr_size]; omega) (own_one (s.getSl 0 rfl)) ?_; intro w1 s
        replace s := s.recell (D := ndArr n.me n.pr v53 uf) 10 rfl (nd_set66 _ _ _ _ _)
        refine s_nil ?_
        refine hK12 _ _ ?_
        refine c_seq fun K13 hK13 => ?_
        refine c_region ?_
        refine s_load_row 10 h s row28 rfl rfl (ndArr_size _ _ _ _) rfl ?_; intro f h
        refine s_store_row 8 h s row28 rfl rfl rfl (ndArr_size _ _ _ _) (ndArr_size _ _ _ _) (ndArr_ones (own_one (s.getSl 0 rfl)) (own_one (s.getSl 2 rfl))) ?_; intro w1 s
        refine s_pure h (ru_assign (h.ev rfl)) rfl ?_; intro f h
        refine s_nil ?_
        refine hK13 _ _ ?_
        refine wpIn_ret ?_
        exact e_row_tmp_MS 8 3 rfl h s row28 rfl rfl rfl rfl (ndArr_size _ _ _ _) (fun w9 s9 => nod_ok (fo_ok hrt hz).1 (fo_ok hrt hz).2 (s9.sel [0, 2] rfl (by decide)))
      · intro D9 d9 A9 w2 hd9 hqd9 hq9 hJ9 s
        cases hqd9
end Go.Proofs.Ytfnjdjbknjcocaa
