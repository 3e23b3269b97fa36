/- What Point of package node answers: for all nodes with at most 900 members in each row. -/
import Derived.Test.YtndbijifgalpbaaGreatVj
set_option linter.unusedVariables false
set_option linter.unusedSimpArgs false
set_option linter.unusedSectionVars false
namespace Go.Proofs.YtndbijifgalpbaaGreat
open Go.RowKit
theorem npoint_any (n : Nd) (vs vf : Value) (x : Mb) (w : World) (hRs : RdZ w vs 33 n.sc.length (mbCells n.sc)) (hRf : RdZ w vf 33 n.fg.length (mbCells n.fg)) (hns : n.sc.length ≤ 900) (hnf : n.fg.length ≤ 900) : Calls Tryz.prog 33 [.agg (ndArr n.me n.pr vs vf), .agg (mbArr x)].toArray w (Ret w (NodP w 39 (ptN n x) (ptE n x))) := by
  refine c_enter Tryz.func33 rfl Tryz.ntmps33 rfl [(0, .agg (ndArr n.me n.pr vs vf)), (1, .agg (mbArr x))] (by simp) fun f h => ?_
  have s := St.start w
  refine c_seq fun K1 hK1 => ?_
  refine c_region ?_
  refine s_box (ndArr n.me n.pr vs vf) h s rfl rfl rfl ?_; intro f w1 b2 h s
  refine s_box ((mbArr x)) h s rfl rfl rfl ?_; intro f w1 b3 h s
  refine s_alloc (ndArr zMb zMb nilV nilV) h s zero46 rfl rfl ?_; intro f w1 b4 h s
  refine s_pure h (ru_assign (h.ev rfl)) rfl ?_; intro f h
  refine s_nil ?_
  refine hK1 _ _ ?_
  refine c_seq fun K2 hK2 => ?_
  refine c_seq fun K3 hK3 => ?_
  cases hr : (rightN n : Bool)
  · skip
    refine c_region ?_
    refine s_load_row 2 h s row46 rfl rfl (ndArr_size _ _ _ _) rfl ?_; intro f h
    refine s_call h s fnc40 (ret_val (.bool false) (nright_any n vs vf _ (hRs.keep s.ext) (hRf.keep s.ext) (by omega) (by omega)) (congrArg Value.bool hr)) rfl rfl ?_; intro f w1 v9 hT hE h s; obtain rfl := hT
    refine s_pure h (ru_val (.bool true) (ru_not (h.ev rfl)) rfl) rfl ?_; intro f h
    refine s_pure h (ru_move (h.ev rfl)) rfl ?_; intro f h
    refine s_off (b := false) h rfl rfl rfl rfl ?_; intro f h
    refine s_off (b := false) h rfl rfl rfl rfl ?_; intro f h
    refine s_off (b := false) h rfl rfl rfl rfl ?_; intro f h
    refine s_pure h (ru_pick_t (h.ev rfl) (h.ev rfl)) rfl ?_; intro f h
    refine s_pure h (ru_move (h.ev rfl)) rfl ?_; intro f h
    refine s_off (b := false) h rfl rfl rfl rfl ?_; intro f h
    refine s_off (b := false) h rfl rfl rfl rfl ?_; intro f h
    refine s_off (b := false) h rfl rfl rfl rfl ?_; intro f h
    refine s_off (b := false) h rfl rfl rfl rfl ?_; intro f h
    refine s_off (b := false) h rfl rfl rfl rfl ?_; intro f h
    refine s_off (b := false) h rfl rfl rfl rfl ?_; intro f h
    refine s_pure h (ru_pick_t (h.ev rfl) (h.ev rfl)) rfl ?_; intro f h
    refine s_nil ?_
    refine hK3 _ _ ?_
    refine wpIn_cond_true (h.ev rfl) ?_
    refine c_seq fun K4 hK4 => ?_
    refine c_region ?_
    refine s_pure h (ru_build_nd0 sttN) rfl ?_; intro f h
    refine s_store_row 0 h s row46 rfl rfl rfl (ndArr_size _ _ _ _) (ndArr_size _ _ _ _) (ndArr_ones (rfl) (rfl)) ?_; intro w1 s
    refine s_pure h (ru_assign (h.ev rfl)) rfl ?_; intro f h
    refine s_nil ?_
    refine hK4 _ _ ?_
    refine wpIn_ret ?_
    refine t_ret ?_
    exact e_row_tmp 0 rfl h s row46 rfl rfl (ndArr_size _ _ _ _) rfl (nod_no s (pt_of (by rw [pt_0 hr]; decide)) (pt_0 hr))
  · skip
    cases hx : (mayB x : Bool)
    · skip
      refine c_region ?_
      refine s_load_row 2 h s row46 rfl rfl (ndArr_size _ _ _ _) rfl ?_; intro f h
      refine s_call h s fnc40 (ret_val (.bool true) (nright_any n vs vf _ (hRs.keep s.ext) (hRf.keep s.ext) (by omega) (by omega)) (congrArg Value.bool hr)) rfl rfl ?_; intro f w1 v9 hT hE h s; obtain rfl := hT
      refine s_pure h (ru_val (.bool false) (ru_not (h.ev rfl)) rfl) rfl ?_; intro f h
      refine s_pure h (ru_move (h.ev rfl)) rfl ?_; intro f h
      refine s_on h rfl rfl rfl ?_
      refine s_load_row 1 h s row39 rfl rfl (mbArr_size _) rfl ?_; intro f h
      refine s_on h rfl rfl rfl ?_
      refine s_call h s fnc59 (ret_val (.bool false) (nmay_any x _) (congrArg Value.bool hx)) rfl rfl ?_; intro f w1 v9 hT hE h s; obtain rfl := hT
      refine s_on h rfl rfl rfl ?_
      refine s_pure h (ru_val (.bool true) (ru_not (h.ev rfl)) rfl) rfl ?_; intro f h
      refine s_pure h (ru_pick_f (h.ev rfl) (h.ev rfl)) rfl ?_; intro f h
      refine s_pure h (ru_move (h.ev rfl)) rfl ?_; intro f h
      refine s_off (b := false) h rfl rfl rfl rfl ?_; intro f h
      refine s_off (b := false) h rfl rfl rfl rfl ?_; intro f h
      refine s_off (b := false) h rfl rfl rfl rfl ?_; intro f h
      refine s_off (b := false) h rfl rfl rfl rfl ?_; intro f h
      refine s_off (b := false) h rfl rfl rfl rfl ?_; intro f h
      refine s_off (b := false) h rfl rfl rfl rfl ?_; intro f h
      refine s_pure h (ru_pick_t (h.ev rfl) (h.ev rfl)) rfl ?_; intro f h
      refine s_nil ?_
      refine hK3 _ _ ?_
      refine wpIn_cond_true (h.ev rfl) ?_
      refine c_seq fun K5 hK5 => ?_
      refine c_region ?_
      refine s_pure h (ru_build_nd0 sttN) rfl ?_; intro f h
      refine s_store_row 0 h s row46 rfl rfl rfl (ndArr_size _ _ _ _) (ndArr_size _ _ _ _) (ndArr_ones (rfl) (rfl)) ?_; intro w1 s
      refine s_pure h (ru_assign (h.ev rfl)) rfl ?_; intro f h
      refine s_nil ?_
      refine hK5 _ _ ?_
      refine wpIn_ret ?_
      refine t_ret ?_
      exact e_row_tmp 0 rfl h s row46 rfl rfl (ndArr_size _ _ _ _) rfl (nod_no s (pt_of (by rw [pt_1 hx]; decide)) (pt_1 hx))
    · skip
      cases h2 : (decide (x.1 = n.me.1) : Bool)
      · skip
        refine c_region ?_
        refine s_load_row 2 h s row46 rfl rfl (ndArr_size _ _ _ _) rfl ?_; intro f h
        refine s_call h s fnc40 (ret_val (.bool true) (nright_any n vs vf _ (hRs.keep s.ext) (hRf.keep s.ext) (by omega) (by omega)) (congrArg Value.bool hr)) rfl rfl ?_; intro f w1 v9 hT hE h s; obtain rfl := hT
        refine s_pure h (ru_val (.bool false) (ru_not (h.ev rfl)) rfl) rfl ?_; intro f h
        refine s_pure h (ru_move (h.ev rfl)) rfl ?_; intro f h
        refine s_on h rfl rfl rfl ?_
        refine s_load_row 1 h s row39 rfl rfl (mbArr_size _) rfl ?_; intro f h
        refine s_on h rfl rfl rfl ?_
        refine s_call h s fnc59 (ret_val (.bool true) (nmay_any x _) (congrArg Value.bool hx)) rfl rfl ?_; intro f w1 v9 hT hE h s; obtain rfl := hT
        refine s_on h rfl rfl rfl ?_
        refine s_pure h (ru_val (.bool false) (ru_not (h.ev rfl)) rfl) rfl ?_; intro f h
        refine s_pure h (ru_pick_f (h.ev rfl) (h.ev rfl)) rfl ?_; intro f h
        refine s_pure h (ru_move (h.ev rfl)) rfl ?_; intro f h
        refine s_on h rfl rfl rfl ?_
        refine s_pure h (ru_field fld39_0 (h.ev rfl)) rfl ?_; intro f h
        refine s_on h rfl rfl rfl ?_
        refine s_load_at1 (cell_of_has (Has.of_own s 1 rfl) 0 (mbArr_no _)) h one3 rfl rfl ?_; intro f h
        refine s_on h rfl rfl rfl ?_
        refine s_pure h (ru_field fld46_0 (h.ev rfl)) rfl ?_; intro f h
        refine s_on h rfl rfl rfl ?_
        refine s_pure h (ru_field fld39_0 (h.ev rfl)) rfl ?_; intro f h
        refine s_on h rfl rfl rfl ?_
        refine s_load_at1 (cell_of_has (Has.of_own s 2 rfl) 0 (ndArr_no _ _ _ _)) h one3 rfl rfl ?_; intro f h
        refine s_on h rfl rfl rfl ?_
        refine s_pure h (ru_val (.bool false) (ru_eql (h.ev rfl) (h.ev rfl)) (congrArg Value.bool h2)) rfl ?_; intro f h
        refine s_pure h (ru_pick_f (h.ev rfl) (h.ev rfl)) rfl ?_; intro f h
        refine s_nil ?_
        refine hK3 _ _ ?_
        refine wpIn_cond_false (h.ev rfl) ?_
        refine wpIn_skip ?_
        refine hK2 _ _ ?_
        refine c_seq fun K6 hK6 => ?_
        refine c_region ?_
        refine s_load_row 2 h s row46 rfl rfl (ndArr_size _ _ _ _) rfl ?_; intro f h
        refine s_call h s fnc60 (copied_any n vs vf _ (hRs.keep s.ext) (hRf.keep s.ext) (by omega) (by omega)) rfl rfl ?_; rintro f w1 v24 ⟨us, uf, rfl, hS⟩ hE h sq; replace s := s.add hS
        refine s_store_row 4 h s row46 rfl rfl rfl (ndArr_size _ _ _ _) (ndArr_size _ _ _ _) (ndArr_ones (own_one (s.getSl 0 rfl)) (own_one (s.getSl 1 rfl))) ?_; intro w1 s
        refine s_nil ?_
        refine hK6 _ _ ?_
        refine c_seq fun K7 hK7 => ?_
        refine c_seq fun K8 hK8 => ?_
        cases h3 : (hasB n.fg x.1 : Bool)
        · skip
          refine c_region ?_
          refine s_pure h (ru_field fld46_3 (h.ev rfl)) rfl ?_; intro f h
          refine s_load_at1 (V := uf) (cell_of_has (Has.of_own s 4 rfl) 67 (ndArr_fg _ _ _ _)) h one28 rfl rfl ?_; intro f h
          refine s_pure h (ru_field fld39_0 (h.ev rfl)) rfl ?_; intro f h
          refine s_load_at1 (cell_of_has (Has.of_own s 3 rfl) 0 (mbArr_no _)) h one3 rfl rfl ?_; intro f h
          refine s_call h s fnc61 (ret_val (.bool false) (hasno_any n.fg uf x.1 _ (RdZ.of_own (s.getSl 1 rfl)) (by omega)) (congrArg Value.bool h3)) rfl rfl ?_; intro f w1 v9 hT hE h s; obtain rfl := hT
          refine s_nil ?_
          refine hK8 _ _ ?_
          refine wpIn_cond_false (h.ev rfl) ?_
          refine wpIn_skip ?_
          refine hK7 _ _ ?_
          refine c_seq fun K9 hK9 => ?_
          refine c_seq fun K10 hK10 => ?_
          cases h4 : (decide (n.fg.length = 16) : Bool)
          · skip
            refine c_region ?_
            refine s_pure h (ru_field fld46_3 (h.ev rfl)) rfl ?_; intro f h
            refine s_load_at1 (V := uf) (cell_of_has (Has.of_own s 4 rfl) 67 (ndArr_fg _ _ _ _)) h one28 rfl rfl ?_; intro f h
            refine s_len_sl 1 h s Tryz.underlying28 rfl rfl rfl ?_; intro f h
            refine s_pure h (ru_val (.bool false) (ru_eql (h.ev rfl) (h.ev rfl)) (congrArg Value.bool (decide_eq_false (by have := of_decide_eq_false h4; omega)))) rfl ?_; intro f h
            refine s_nil ?_
            refine hK10 _ _ ?_
            refine wpIn_cond_false (h.ev rfl) ?_
            refine wpIn_skip ?_
            refine hK9 _ _ ?_
            refine c_seq fun K11 hK11 => ?_
            refine c_region ?_
            refine s_pure h (ru_field fld46_3 (h.ev rfl)) rfl ?_; intro f h
            refine s_load_at1 (V := uf) (cell_of_has (Has.of_own s 4 rfl) 67 (ndArr_fg _ _ _ _)) h one28 rfl rfl ?_; intro f h
            refine s_load_row 3 h s row39 rfl rfl (mbArr_size _) rfl ?_; intro f h
            refine s_bslice (vs := [.agg (mbArr x)]) [.tmp 38] h s Tryz.underlying28 elm39 rfl rfl (mb_sz _) rfl rfl rfl ?_; intro f w1 v39 h s
            refine s_append 2 0 h s Tryz.underlying28 elm39 rfl rfl rfl rfl (by decide) (by rw [one_mb]; exact mbArr_ones _) (by unfold maxLen; omega) (by omega) rfl ?_; intro f w1 v40 h s
            replace s := s.pick _ (List.sublist_cons_self _ _)
            replace s := s.resl (m := (n.fg ++ [x]).length) (ys := mbCells (n.fg ++ [x])) 1 rfl (by rw [List.length_append]; rfl) (by rw [one_mb, mb_snoc])
            refine s_pure h (ru_field fld46_3 (h.ev rfl)) rfl ?_; intro f h
            refine s_store_one 4 h s one28 rfl rfl rfl (by rw [ndArr_size]; omega) (own_one (s.getSl 1 rfl)) ?_; intro w1 s
            replace s := s.recell (D := ndArr n.me n.pr us v40) 4 rfl (nd_set67 _ _ _ _ _)
            refine s_nil ?_
            refine hK11 _ _ ?_
            refine c_seq fun K12 hK12 => ?_
            refine c_region ?_
            refine s_load_row 4 h s row46 rfl rfl (ndArr_size _ _ _ _) rfl ?_; intro f h
            refine s_store_row 2 h s row46 rfl rfl rfl (ndArr_size _ _ _ _) (ndArr_size _ _ _ _) (ndArr_ones (own_one (s.getSl 0 rfl)) (own_one (s.getSl 1 rfl))) ?_; intro w1 s
            refine s_pure h (ru_assign (h.ev rfl)) rfl ?_; intro f h
            refine s_nil ?_
            refine hK12 _ _ ?_
            refine wpIn_ret ?_
            exact e_row_tmp 2 rfl h s row46 rfl rfl (ndArr_size _ _ _ _) rfl (nod_ok ((pt_to (pt_6 hr hx h2 h3 h4).1).trans (by rw [(pt_6 hr hx h2 h3 h4).2])) (pt_6 hr hx h2 h3 h4).1 (s.sel [0, 1] rfl (by decide)))
          · skip
            refine c_region ?_
            refine s_pure h (ru_field fld46_3 (h.ev rfl)) rfl ?_; intro f h
            refine s_load_at1 (V := uf) (cell_of_has (Has.of_own s 4 rfl) 67 (ndArr_fg _ _ _ _)) h one28 rfl rfl ?_; intro f h
            refine s_len_sl 1 h s Tryz.underlying28 rfl rfl rfl ?_; intro f h
            refine s_pure h (ru_val (.bool true) (ru_eql (h.ev rfl) (h.ev rfl)) (congrArg Value.bool (decide_eq_true (by have := of_decide_eq_true h4; omega)))) rfl ?_; intro f h
            refine s_nil ?_
            refine hK10 _ _ ?_
            refine wpIn_cond_true (h.ev rfl) ?_
            refine c_seq fun K13 hK13 => ?_
            refine c_region ?_
            refine s_pure h (ru_build_nd0 sttN) rfl ?_; intro f h
            refine s_store_row 2 h s row46 rfl rfl rfl (ndArr_size _ _ _ _) (ndArr_size _ _ _ _) (ndArr_ones (rfl) (rfl)) ?_; intro w1 s
            refine s_pure h (ru_assign (h.ev rfl)) rfl ?_; intro f h
            refine s_nil ?_
            refine hK13 _ _ ?_
            refine wpIn_ret ?_
            refine t_ret ?_
            exact e_row_tmp 2 rfl h s row46 rfl rfl (ndArr_size _ _ _ _) rfl (nod_no s (pt_of (by rw [pt_5 hr hx h2 h3 h4]; decide)) (pt_5 hr hx h2 h3 h4))
        · skip
          refine c_region ?_
          refine s_pure h (ru_field fld46_3 (h.ev rfl)) rfl ?_; intro f h
          refine s_load_at1 (V := uf) (cell_of_has (Has.of_own s 4 rfl) 67 (ndArr_fg _ _ _ _)) h one28 rfl rfl ?_; intro f h
          refine s_pure h (ru_field fld39_0 (h.ev rfl)) rfl ?_; intro f h
          refine s_load_at1 (cell_of_has (Has.of_own s 3 rfl) 0 (mbArr_no _)) h one3 rfl rfl ?_; intro f h
          refine s_call h s fnc61 (ret_val (.bool true) (hasno_any n.fg uf x.1 _ (RdZ.of_own (s.getSl 1 rfl)) (by omega)) (congrArg Value.bool h3)) rfl rfl ?_; intro f w1 v9 hT hE h s; obtain rfl := hT
          refine s_nil ?_
          refine hK8 _ _ ?_
          refine wpIn_cond_true (h.ev rfl) ?_
          refine c_seq fun K14 hK14 => ?_
          refine c_region ?_
          refine s_load_row 4 h s row46 rfl rfl (ndArr_size _ _ _ _) rfl ?_; intro f h
          refine s_store_row 2 h s row46 rfl rfl rfl (ndArr_size _ _ _ _) (ndArr_size _ _ _ _) (ndArr_ones (own_one (s.getSl 0 rfl)) (own_one (s.getSl 1 rfl))) ?_; intro w1 s
          refine s_pure h (ru_assign (h.ev rfl)) rfl ?_; intro f h
          refine s_nil ?_
          refine hK14 _ _ ?_
          refine wpIn_ret ?_
          refine t_ret ?_
          exact e_row_tmp 2 rfl h s row46 rfl rfl (ndArr_size _ _ _ _) rfl (nod_ok ((pt_to (pt_4 hr hx h2 h3).1).trans (by rw [(pt_4 hr hx h2 h3).2])) (pt_4 hr hx h2 h3).1 (s.sel [0, 1] rfl (by decide)))
      · skip
        refine c_region ?_
        refine s_load_row 2 h s row46 rfl rfl (ndArr_size _ _ _ _) rfl ?_; intro f h
        refine s_call h s fnc40 (ret_val (.bool true) (nright_any n vs vf _ (hRs.keep s.ext) (hRf.keep s.ext) (by omega) (by omega)) (congrArg Value.bool hr)) rfl rfl ?_; intro f w1 v9 hT hE h s; obtain rfl := hT
        refine s_pure h (ru_val (.bool false) (ru_not (h.ev rfl)) rfl) rfl ?_; intro f h
        refine s_pure h (ru_move (h.ev rfl)) rfl ?_; intro f h
        refine s_on h rfl rfl rfl ?_
        refine s_load_row 1 h s row39 rfl rfl (mbArr_size _) rfl ?_; intro f h
        refine s_on h rfl rfl rfl ?_
        refine s_call h s fnc59 (ret_val (.bool true) (nmay_any x _) (congrArg Value.bool hx)) rfl rfl ?_; intro f w1 v9 hT hE h s; obtain rfl := hT
        refine s_on h rfl rfl rfl ?_
        refine s_pure h (ru_val (.bool false) (ru_not (h.ev rfl)) rfl) rfl ?_; intro f h
        refine s_pure h (ru_pick_f (h.ev rfl) (h.ev rfl)) rfl ?_; intro f h
        refine s_pure h (ru_move (h.ev rfl)) rfl ?_; intro f h
        refine s_on h rfl rfl rfl ?_
        refine s_pure h (ru_field fld39_0 (h.ev rfl)) rfl ?_; intro f h
        refine s_on h rfl rfl rfl ?_
        refine s_load_at1 (cell_of_has (Has.of_own s 1 rfl) 0 (mbArr_no _)) h one3 rfl rfl ?_; intro f h
        refine s_on h rfl rfl rfl ?_
        refine s_pure h (ru_field fld46_0 (h.ev rfl)) rfl ?_; intro f h
        refine s_on h rfl rfl rfl ?_
        refine s_pure h (ru_field fld39_0 (h.ev rfl)) rfl ?_; intro f h
        refine s_on h rfl rfl rfl ?_
        refine s_load_at1 (cell_of_has (Has.of_own s 2 rfl) 0 (ndArr_no _ _ _ _)) h one3 rfl rfl ?_; intro f h
        refine s_on h rfl rfl rfl ?_
        refine s_pure h (ru_val (.bool true) (ru_eql (h.ev rfl) (h.ev rfl)) (congrArg Value.bool h2)) rfl ?_; intro f h
        refine s_pure h (ru_pick_f (h.ev rfl) (h.ev rfl)) rfl ?_; intro f h
        refine s_nil ?_
        refine hK3 _ _ ?_
        refine wpIn_cond_true (h.ev rfl) ?_
        refine c_seq fun K15 hK15 => ?_
        refine c_region ?_
        refine s_pure h (ru_build_nd0 sttN) rfl ?_; intro f h
        refine s_store_row 0 h s row46 rfl rfl rfl (ndArr_size _ _ _ _) (ndArr_size _ _ _ _) (ndArr_ones (rfl) (rfl)) ?_; intro w1 s
        refine s_pure h (ru_assign (h.ev rfl)) rfl ?_; intro f h
        refine s_nil ?_
        refine hK15 _ _ ?_
        refine wpIn_ret ?_
        refine t_ret ?_
        exact e_row_tmp 0 rfl h s row46 rfl rfl (ndArr_size _ _ _ _) rfl (nod_no s (pt_of (by rw [pt_2 h2]; decide)) (pt_2 h2))
end Go.Proofs.YtndbijifgalpbaaGreat
