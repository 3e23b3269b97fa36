/- What NodeTwice answers: for all arguments. -/
import Derived.Test.YtfnjdjbknjcocaaVd
import Derived.Test.YtfnjdjbknjcocaaVf
import Derived.Test.YtfnjdjbknjcocaaVg
set_option linter.unusedVariables false
set_option linter.unusedSimpArgs false
set_option linter.unusedSectionVars false
namespace Go.Proofs.Ytfnjdjbknjcocaa
open Go.RowKit
set_option maxHeartbeats 4000000 in
theorem ntwice_any (n : Nd) (vs vf : Value) (y : Nd) (ws wf : Value) (m : Mb) (nos : List Int) (vn : Value) (w : World) (hRs : RdZ w vs 33 n.sc.length (mbCells n.sc)) (hRf : RdZ w vf 33 n.fg.length (mbCells n.fg)) (hZs : RdZ w ws 33 y.sc.length (mbCells y.sc)) (hZf : RdZ w wf 33 y.fg.length (mbCells y.fg)) (hN : RdZ w vn 1 nos.length (nos.map (Value.int .i64))) : Calls Try.prog 7 [.agg (ndArr n.me n.pr vs vf), .agg (ndArr y.me y.pr ws wf), .agg (mbArr m), vn].toArray w (Ret w (is (.bool true))) := by
  obtain ⟨r, hme, hpr, hlv, hlf, hl6, hl18⟩ := few_nd hRs hRf
  obtain ⟨q, hme2, hpr2, hlv2, hlf2, hq6, hq18⟩ := few_nd hZs hZf
  have hlN0 := hN.cut (min nos.length 20) (Nat.min_le_left _ _)
  obtain ⟨ps, hps⟩ : ∃ x9, x9 = nos.take (min nos.length 20) := ⟨_, rfl⟩
  have hlN : RdZ w (cutV vn (min nos.length 20)) 1 ps.length (ps.map (Value.int .i64)) := by rw [hps, List.length_take, Nat.min_eq_left (Nat.min_le_left _ _), List.map_take]; rwa [Nat.mul_one] at hlN0
  have hp20 : ps.length ≤ 20 := by rw [hps, List.length_take]; omega
  have hnl := nt_len r m
  have hfl := fo_len r q
  have hdl := dr_len r ps
  have hpl := pt_len r m
  have hnl2 := nt_len (ntN r m) m
  have hfl2 := fo_len (foN r q) q
  have hdl2 := dr_len (drN r ps) ps
  have hpl2 := pt_len (ptN r m) m
  refine c_enter Try.func7 rfl Try.ntmps7 rfl [(0, .agg (ndArr n.me n.pr vs vf)), (1, .agg (ndArr y.me y.pr ws wf)), (2, .agg (mbArr m)), (3, vn)] (by simp) fun f h => ?_
  have s := St.start w
  refine c_seq fun K1 hK1 => ?_
  refine c_region ?_
  refine s_box (ndArr n.me n.pr vs vf) h s rfl rfl rfl ?_; intro f w1 b4 h s
  refine s_box (ndArr y.me y.pr ws wf) h s rfl rfl rfl ?_; intro f w1 b5 h s
  refine s_box ((mbArr m)) h s rfl rfl rfl ?_; intro f w1 b6 h s
  refine s_pure h (ru_assign (h.ev rfl)) rfl ?_; intro f h
  refine s_nil ?_
  refine hK1 _ _ ?_
  refine c_seq fun K2 hK2 => ?_
  have hbs := s.ext.le
  refine' c_reg2 3 [4, 5, 6, 7, 8, 11] [] [[], [0], [], [0, 1, 2], [], [], [5], [5, 6], [4, 5, 6, 7], [0, 1, 2, 3], [0, 1, 2, 3, 9], [0, 1, 2, 3, 4, 5, 6, 7, 8, 9, 10]] (is _ :: is _ :: is _ :: is undef :: is _ :: is _ :: is _ :: is _ :: is _ :: is undef :: is undef :: is _ :: []) (fun _ => True) h s (by kernel_rfl) (by kernel_rfl) (by kernel_rfl) (by kernel_rfl) rfl (fun _ _ h _ => h) (trivial) ⟨⟨_, rfl⟩, ⟨_, rfl⟩, ⟨_, rfl⟩, ⟨_, rfl⟩, ⟨_, rfl⟩, ⟨_, rfl⟩, trivial⟩ ⟨is_mono _, is_mono _, is_mono _, is_mono _, is_mono _, is_mono _, is_mono _, is_mono _, is_mono _, is_mono _, is_mono _, is_mono _, trivial⟩ (And.intro ?_ (And.intro ?_ (And.intro ?_ (And.intro ?_ (And.intro ?_ (And.intro ?_ (And.intro ?_ (And.intro ?_ (And.intro ?_ (And.intro ?_ (And.intro ?_ (And.intro ?_ (trivial))))))))))))) ?_
  rotate_left 9
  · refine obF_in 25 rfl (by decide) (by decide) ?_
    intro f9 w2 hE hs hd9 hl
    have e4 : f9.tmps.getD 4 undef = _ := sx_old hl 4 (by kernel_rfl) (by kernel_rfl) (h.holds 4 _ rfl)
    have h := fin_slot [(4, _)] hs hd9 (holds_lk ⟨e4, trivial⟩)
    have s := s.more hE
    have z := St.start w2
    refine s_load_row 2 h s row28 rfl rfl (ndArr_size _ _ _ _) rfl ?_; intro f h
    refine s_nil ?_
    have e9 := h.holds 25 _ rfl
    refine ⟨?_, Ext.refl _, fun h9 => absurd h9 (by decide)⟩
    refine e9.trans ?_
    exact rfl
  · refine obF_in 26 rfl (by decide) (by decide) ?_
    intro f9 w2 hE hs hd9 hl
    have e25 : f9.tmps.getD 25 undef = _ := sx_get hl 25 0 (by kernel_rfl) (by kernel_rfl)
    have h := fin_slot [(25, _)] hs hd9 (holds_lk ⟨e25, trivial⟩)
    have s := s.more hE
    have z := St.start w2
    refine s_call h s fnc9 (ret_val (.agg (ndArr r.me r.pr (cutV vs (min n.sc.length 6)) (cutV vf (min n.fg.length 18)))) (few_any n vs vf _ (hRs.keep s.ext) (hRf.keep s.ext)) (by rw [hme, hpr])) rfl rfl ?_; intro f w1 v9 hT hE h s; obtain rfl := hT
    refine s_nil ?_
    have e9 := h.holds 26 _ rfl
    refine ⟨?_, hE, fun h9 => absurd h9 (by decide)⟩
    refine e9.trans ?_
    exact rfl
  · refine obF_in 27 rfl (by decide) (by decide) ?_
    intro f9 w2 hE hs hd9 hl
    have e5 : f9.tmps.getD 5 undef = _ := sx_old hl 5 (by kernel_rfl) (by kernel_rfl) (h.holds 5 _ rfl)
    have h := fin_slot [(5, _)] hs hd9 (holds_lk ⟨e5, trivial⟩)
    have s := s.more hE
    have z := St.start w2
    refine s_load_row 1 h s row28 rfl rfl (ndArr_size _ _ _ _) rfl ?_; intro f h
    refine s_nil ?_
    have e9 := h.holds 27 _ rfl
    refine ⟨?_, Ext.refl _, fun h9 => absurd h9 (by decide)⟩
    refine e9.trans ?_
    exact rfl
  · exact obT_in (by decide) (by decide)
  · refine obH_in 29 rfl (by decide) ?_
    intro f9 w2 hE hs hl
    have e3 : f9.tmps.getD 3 undef = _ := sx_old hl 3 (by kernel_rfl) (by kernel_rfl) (h.holds 3 _ rfl)
    have h := fin_slot [(3, _)] hs rfl (holds_lk ⟨e3, trivial⟩)
    refine s_pure h (ru_move (h.ev rfl)) rfl ?_; intro f h
    refine s_nil ?_
    have e9 := h.holds 29 _ rfl
    refine ⟨?_, rfl⟩
    refine e9.trans ?_
    exact rfl
  · refine obH_in 30 rfl (by decide) ?_
    intro f9 w2 hE hs hl
    have e3 : f9.tmps.getD 3 undef = _ := sx_old hl 3 (by kernel_rfl) (by kernel_rfl) (h.holds 3 _ rfl)
    have h := fin_slot [(3, _)] hs rfl (holds_lk ⟨e3, trivial⟩)
    refine s_pure h (ru_move (h.ev rfl)) rfl ?_; intro f h
    refine s_nil ?_
    have e9 := h.holds 30 _ rfl
    refine ⟨?_, rfl⟩
    refine e9.trans ?_
    exact rfl
  · refine obH_in 31 rfl (by decide) ?_
    intro f9 w2 hE hs hl
    have e30 : f9.tmps.getD 30 undef = _ := sx_get hl 30 5 (by kernel_rfl) (by kernel_rfl)
    have h := fin_slot [(30, _)] hs rfl (holds_lk ⟨e30, trivial⟩)
    refine s_pure h (ru_lenZ (hN.keep s.ext) Try.underlying50 (h.ev rfl)) rfl ?_; intro f h
    refine s_nil ?_
    have e9 := h.holds 31 _ rfl
    refine ⟨?_, rfl⟩
    refine e9.trans ?_
    exact rfl
  · refine obH_in 32 rfl (by decide) ?_
    intro f9 w2 hE hs hl
    have e31 : f9.tmps.getD 31 undef = _ := sx_get hl 31 6 (by kernel_rfl) (by kernel_rfl)
    have h := fin_slot [(31, _)] hs rfl (holds_lk ⟨e31, trivial⟩)
    refine s_pure h (ru_min (h.ev rfl) (h.ev rfl)) rfl ?_; intro f h
    refine s_nil ?_
    have e9 := h.holds 32 _ rfl
    refine ⟨?_, rfl⟩
    refine e9.trans ?_
    exact rfl
  · refine obH_in 33 rfl (by decide) ?_
    intro f9 w2 hE hs hl
    have e29 : f9.tmps.getD 29 undef = _ := sx_get hl 29 4 (by kernel_rfl) (by kernel_rfl)
    have e32 : f9.tmps.getD 32 undef = _ := sx_get hl 32 7 (by kernel_rfl) (by kernel_rfl)
    have h := fin_slot [(29, _), (32, _)] hs rfl (holds_lk ⟨e29, e32, trivial⟩)
    refine s_pure h (ru_slice_hiZ (hN.keep s.ext) (min nos.length 20) Try.underlying50 szo3 (h.ev rfl) (h.ev rfl) (by split <;> omega) (by omega)) rfl ?_; intro f h
    refine s_nil ?_
    have e9 := h.holds 33 _ rfl
    refine ⟨?_, rfl⟩
    refine e9.trans ?_
    exact rfl
  · exact obT_in (by decide) (by decide)
  · exact obT_in (by decide) (by decide)
  · refine obH_in 3 rfl (by decide) ?_
    intro f9 w2 hE hs hl
    have e33 : f9.tmps.getD 33 undef = _ := sx_get hl 33 8 (by kernel_rfl) (by kernel_rfl)
    have h := fin_slot [(33, _)] hs rfl (holds_lk ⟨e33, trivial⟩)
    refine s_pure h (ru_assign (h.ev rfl)) rfl ?_; intro f h
    refine s_nil ?_
    have e9 := h.holds 3 _ rfl
    refine ⟨?_, rfl⟩
    refine e9.trans ?_
    exact rfl
  · intro f9 w2 hE hs hd9 hWp hT hR hFr hDj
    replace h := sl_new (ops := _) [(25, _), (26, _), (27, _), (29, _), (30, _), (31, _), (32, _), (33, _), (3, _)] h hs hd9 hR ⟨hT 0 25 (by decide) rfl, hT 1 26 (by decide) rfl, hT 2 27 (by decide) rfl, hT 4 29 (by decide) rfl, hT 5 30 (by decide) rfl, hT 6 31 (by decide) rfl, hT 7 32 (by decide) rfl, hT 8 33 (by decide) rfl, hT 11 3 (by decide) rfl, trivial⟩ (by kernel_rfl)
    replace s := s.more hE
    clear hT hR hFr hDj
    refine LstW.of ?_
    refine s_call h s fnc9 (ret_val (.agg (ndArr q.me q.pr (cutV ws (min y.sc.length 6)) (cutV wf (min y.fg.length 18)))) (few_any y ws wf _ (hZs.keep s.ext) (hZf.keep s.ext)) (by rw [hme2, hpr2])) rfl rfl ?_; intro f w1 v9 hT hE h s; obtain rfl := hT
    refine s_store_row 2 h s row28 rfl rfl rfl (ndArr_size _ _ _ _) (ndArr_size _ _ _ _) (ndArr_ones (rd_one (hlv.keep s.ext)) (rd_one (hlf.keep s.ext))) ?_; intro w1 s
    refine s_store_row 1 h s row28 rfl rfl rfl (ndArr_size _ _ _ _) (ndArr_size _ _ _ _) (ndArr_ones (rd_one (hlv2.keep s.ext)) (rd_one (hlf2.keep s.ext))) ?_; intro w1 s
    refine s_nil ?_
    refine hK2 _ _ ?_
    refine c_seq fun K3 hK3 => ?_
    refine c_region ?_
    refine s_load_row 2 h s row28 rfl rfl (ndArr_size _ _ _ _) rfl ?_; intro f h
    refine s_load_row 0 h s row25 rfl rfl (mbArr_size _) rfl ?_; intro f h
    refine s_call h s fnc21 (notify_any r (cutV vs (min n.sc.length 6)) (cutV vf (min n.fg.length 18)) m _ (hlv.keep s.ext) (hlf.keep s.ext) (by omega) (by omega)) rfl rfl ?_; rintro f w1 v37 ⟨au, av, rfl, hS⟩ hE h sq; replace s := s.add hS; clear hS
    refine s_pure h (ru_move (h.ev rfl)) rfl ?_; intro f h
    refine s_pure h (ru_extract (h.ev rfl) rfl) rfl ?_; intro f h
    refine s_pure h (ru_extract (h.ev rfl) rfl) rfl ?_; intro f h
    refine s_alloc (ndArr zMb zMb nilV nilV) h s zero28 rfl rfl ?_; intro f w1 b9 h s
    refine s_store_row 0 h s row28 rfl rfl rfl (ndArr_size _ _ _ _) (ndArr_size _ _ _ _) (ndArr_ones (own_one (s.getSl 1 rfl)) (own_one (s.getSl 2 rfl))) ?_; intro w1 s
    refine s_pure h (ru_assign (h.ev rfl)) rfl ?_; intro f h
    refine s_nil ?_
    refine hK3 _ _ ?_
    refine c_seq fun K4 hK4 => ?_
    refine c_region ?_
    refine s_load_row 5 h s row28 rfl rfl (ndArr_size _ _ _ _) rfl ?_; intro f h
    refine s_load_row 4 h s row28 rfl rfl (ndArr_size _ _ _ _) rfl ?_; intro f h
    refine s_call h s fnc22 (nfollow_any r (cutV vs (min n.sc.length 6)) (cutV vf (min n.fg.length 18)) q (cutV ws (min y.sc.length 6)) (cutV wf (min y.fg.length 18)) _ (hlv.keep s.ext) (hlf.keep s.ext) (by omega) (by omega) (hlv2.keep s.ext) (hlf2.keep s.ext) (by omega) (by omega)) rfl rfl ?_; rintro f w1 v43 ⟨bu, bv, rfl, hS⟩ hE h sq; replace s := s.add hS; clear hS
    refine s_pure h (ru_move (h.ev rfl)) rfl ?_; intro f h
    refine s_pure h (ru_extract (h.ev rfl) rfl) rfl ?_; intro f h
    refine s_pure h (ru_extract (h.ev rfl) rfl) rfl ?_; intro f h
    refine s_alloc (ndArr zMb zMb nilV nilV) h s zero28 rfl rfl ?_; intro f w1 b11 h s
    refine s_store_row 0 h s row28 rfl rfl rfl (ndArr_size _ _ _ _) (ndArr_size _ _ _ _) (ndArr_ones (own_one (s.getSl 1 rfl)) (own_one (s.getSl 2 rfl))) ?_; intro w1 s
    refine s_pure h (ru_assign (h.ev rfl)) rfl ?_; intro f h
    refine s_nil ?_
    refine hK4 _ _ ?_
    refine c_seq fun K5 hK5 => ?_
    refine c_region ?_
    refine s_load_row 8 h s row28 rfl rfl (ndArr_size _ _ _ _) rfl ?_; intro f h
    refine s_pure h (ru_move (h.ev rfl)) rfl ?_; intro f h
    refine s_call h s fnc25 (ndrop_any r (cutV vs (min n.sc.length 6)) (cutV vf (min n.fg.length 18)) ps (cutV vn (min nos.length 20)) _ (hlv.keep s.ext) (hlf.keep s.ext) (by omega) (by omega) (hlN.keep s.ext) (by omega)) rfl rfl ?_; rintro f w1 v49 ⟨cu, cv, rfl, hS⟩ hE h sq; replace s := s.add hS; clear hS
    refine s_pure h (ru_move (h.ev rfl)) rfl ?_; intro f h
    refine s_pure h (ru_extract (h.ev rfl) rfl) rfl ?_; intro f h
    refine s_pure h (ru_extract (h.ev rfl) rfl) rfl ?_; intro f h
    refine s_alloc (ndArr zMb zMb nilV nilV) h s zero28 rfl rfl ?_; intro f w1 b13 h s
    refine s_store_row 0 h s row28 rfl rfl rfl (ndArr_size _ _ _ _) (ndArr_size _ _ _ _) (ndArr_ones (own_one (s.getSl 1 rfl)) (own_one (s.getSl 2 rfl))) ?_; intro w1 s
    refine s_pure h (ru_assign (h.ev rfl)) rfl ?_; intro f h
    refine s_nil ?_
    refine hK5 _ _ ?_
    refine c_seq fun K6 hK6 => ?_
    refine c_region ?_
    refine s_load_row 11 h s row28 rfl rfl (ndArr_size _ _ _ _) rfl ?_; intro f h
    refine s_load_row 9 h s row25 rfl rfl (mbArr_size _) rfl ?_; intro f h
    refine s_call h s fnc26 (npoint_any r (cutV vs (min n.sc.length 6)) (cutV vf (min n.fg.length 18)) m _ (hlv.keep s.ext) (hlf.keep s.ext) (by omega) (by omega)) rfl rfl ?_; rintro f w1 v55 ⟨du, dv, rfl, hS⟩ hE h sq; replace s := s.add hS; clear hS
    refine s_pure h (ru_move (h.ev rfl)) rfl ?_; intro f h
    refine s_pure h (ru_extract (h.ev rfl) rfl) rfl ?_; intro f h
    refine s_pure h (ru_extract (h.ev rfl) rfl) rfl ?_; intro f h
    refine s_alloc (ndArr zMb zMb nilV nilV) h s zero28 rfl rfl ?_; intro f w1 b15 h s
    refine s_store_row 0 h s row28 rfl rfl rfl (ndArr_size _ _ _ _) (ndArr_size _ _ _ _) (ndArr_ones (own_one (s.getSl 1 rfl)) (own_one (s.getSl 2 rfl))) ?_; intro w1 s
    refine s_pure h (ru_assign (h.ev rfl)) rfl ?_; intro f h
    refine s_nil ?_
    refine hK6 _ _ ?_
    refine c_seq fun K7 hK7 => ?_
    refine c_region ?_
    refine s_load_row 9 h s row28 rfl rfl (ndArr_size _ _ _ _) rfl ?_; intro f h
    refine s_load_row 12 h s row25 rfl rfl (mbArr_size _) rfl ?_; intro f h
    refine s_call h s fnc21 (notify_any (ntN r m) au av m _ (RdZ.of_own (s.getSl 10 rfl)) (RdZ.of_own (s.getSl 11 rfl)) (by omega) (by omega)) rfl rfl ?_; rintro f w1 v61 ⟨eu, ev, rfl, hS⟩ hE h sq; replace s := s.add hS; clear hS
    refine s_pure h (ru_move (h.ev rfl)) rfl ?_; intro f h
    refine s_pure h (ru_extract (h.ev rfl) rfl) rfl ?_; intro f h
    refine s_pure h (ru_extract (h.ev rfl) rfl) rfl ?_; intro f h
    refine s_alloc (ndArr zMb zMb nilV nilV) h s zero28 rfl rfl ?_; intro f w1 b17 h s
    refine s_store_row 0 h s row28 rfl rfl rfl (ndArr_size _ _ _ _) (ndArr_size _ _ _ _) (ndArr_ones (own_one (s.getSl 1 rfl)) (own_one (s.getSl 2 rfl))) ?_; intro w1 s
    refine s_pure h (ru_assign (h.ev rfl)) rfl ?_; intro f h
    refine s_nil ?_
    refine hK7 _ _ ?_
    refine c_seq fun K8 hK8 => ?_
    refine c_region ?_
    refine s_load_row 9 h s row28 rfl rfl (ndArr_size _ _ _ _) rfl ?_; intro f h
    refine s_load_row 16 h s row28 rfl rfl (ndArr_size _ _ _ _) rfl ?_; intro f h
    refine s_call h s fnc22 (nfollow_any (foN r q) bu bv q (cutV ws (min y.sc.length 6)) (cutV wf (min y.fg.length 18)) _ (RdZ.of_own (s.getSl 10 rfl)) (RdZ.of_own (s.getSl 11 rfl)) (by omega) (by omega) (hlv2.keep s.ext) (hlf2.keep s.ext) (by omega) (by omega)) rfl rfl ?_; rintro f w1 v67 ⟨fu, fv, rfl, hS⟩ hE h sq; replace s := s.add hS; clear hS
    refine s_pure h (ru_move (h.ev rfl)) rfl ?_; intro f h
    refine s_pure h (ru_extract (h.ev rfl) rfl) rfl ?_; intro f h
    refine s_pure h (ru_extract (h.ev rfl) rfl) rfl ?_; intro f h
    refine s_alloc (ndArr zMb zMb nilV nilV) h s zero28 rfl rfl ?_; intro f w1 b19 h s
    refine s_store_row 0 h s row28 rfl rfl rfl (ndArr_size _ _ _ _) (ndArr_size _ _ _ _) (ndArr_ones (own_one (s.getSl 1 rfl)) (own_one (s.getSl 2 rfl))) ?_; intro w1 s
    refine s_pure h (ru_assign (h.ev rfl)) rfl ?_; intro f h
    refine s_nil ?_
    refine hK8 _ _ ?_
    refine c_seq fun K9 hK9 => ?_
    refine c_region ?_
    refine s_load_row 9 h s row28 rfl rfl (ndArr_size _ _ _ _) rfl ?_; intro f h
    refine s_pure h (ru_move (h.ev rfl)) rfl ?_; intro f h
    refine s_call h s fnc25 (ndrop_any (drN r ps) cu cv ps (cutV vn (min nos.length 20)) _ (RdZ.of_own (s.getSl 10 rfl)) (RdZ.of_own (s.getSl 11 rfl)) (by omega) (by omega) (hlN.keep s.ext) (by omega)) rfl rfl ?_; rintro f w1 v73 ⟨gu, gv, rfl, hS⟩ hE h sq; replace s := s.add hS; clear hS
    refine s_pure h (ru_move (h.ev rfl)) rfl ?_; intro f h
    refine s_pure h (ru_extract (h.ev rfl) rfl) rfl ?_; intro f h
    refine s_pure h (ru_extract (h.ev rfl) rfl) rfl ?_; intro f h
    refine s_alloc (ndArr zMb zMb nilV nilV) h s zero28 rfl rfl ?_; intro f w1 b21 h s
    refine s_store_row 0 h s row28 rfl rfl rfl (ndArr_size _ _ _ _) (ndArr_size _ _ _ _) (ndArr_ones (own_one (s.getSl 1 rfl)) (own_one (s.getSl 2 rfl))) ?_; intro w1 s
    refine s_pure h (ru_assign (h.ev rfl)) rfl ?_; intro f h
    refine s_nil ?_
    refine hK9 _ _ ?_
    refine c_seq fun K10 hK10 => ?_
    refine c_region ?_
    refine s_load_row 9 h s row28 rfl rfl (ndArr_size _ _ _ _) rfl ?_; intro f h
    refine s_load_row 21 h s row25 rfl rfl (mbArr_size _) rfl ?_; intro f h
    refine s_call h s fnc26 (npoint_any (ptN r m) du dv m _ (RdZ.of_own (s.getSl 10 rfl)) (RdZ.of_own (s.getSl 11 rfl)) (by omega) (by omega)) rfl rfl ?_; rintro f w1 v79 ⟨hu, hv9, rfl, hS⟩ hE h sq; replace s := s.add hS; clear hS
    refine s_pure h (ru_move (h.ev rfl)) rfl ?_; intro f h
    refine s_pure h (ru_extract (h.ev rfl) rfl) rfl ?_; intro f h
    refine s_pure h (ru_extract (h.ev rfl) rfl) rfl ?_; intro f h
    refine s_alloc (ndArr zMb zMb nilV nilV) h s zero28 rfl rfl ?_; intro f w1 b23 h s
    refine s_store_row 0 h s row28 rfl rfl rfl (ndArr_size _ _ _ _) (ndArr_size _ _ _ _) (ndArr_ones (own_one (s.getSl 1 rfl)) (own_one (s.getSl 2 rfl))) ?_; intro w1 s
    refine s_pure h (ru_assign (h.ev rfl)) rfl ?_; intro f h
    refine s_nil ?_
    refine hK10 _ _ ?_
    refine c_seq fun K11 hK11 => ?_
    refine c_seq fun K12 hK12 => ?_
    cases e0 : (decide (ntE r m = 0) : Bool)
    · skip
      cases e1 : (decide (foE r q = 0) : Bool)
      · skip
        refine c_region ?_
        refine s_pure h (ru_move (h.ev rfl)) rfl ?_; intro f h
        refine s_pure h (ru_val (.bool false) (ru_eql (h.ev rfl) (h.ev rfl)) (congrArg Value.bool e0)) rfl ?_; intro f h
        refine s_pure h (ru_move (h.ev rfl)) rfl ?_; intro f h
        refine s_off (b := true) h rfl rfl rfl rfl ?_; intro f h
        refine s_off (b := true) h rfl rfl rfl rfl ?_; intro f h
        refine s_off (b := true) h rfl rfl rfl rfl ?_; intro f h
        refine s_none h rfl rfl rfl rfl ?_; intro f h
        refine s_none h rfl rfl rfl rfl ?_; intro f h
        refine s_none h rfl rfl rfl rfl ?_; intro f h
        refine s_none h rfl rfl rfl rfl ?_; intro f h
        refine s_off (b := true) h rfl rfl rfl rfl ?_; intro f h
        refine s_pure h (ru_pick_f (h.ev rfl) (h.ev rfl)) rfl ?_; intro f h
        refine s_pure h (ru_move (h.ev rfl)) rfl ?_; intro f h
        refine s_on h rfl rfl rfl ?_
        refine s_pure h (ru_move (h.ev rfl)) rfl ?_; intro f h
        refine s_on h rfl rfl rfl ?_
        refine s_pure h (ru_val (.bool false) (ru_eql (h.ev rfl) (h.ev rfl)) (congrArg Value.bool e1)) rfl ?_; intro f h
        refine s_on h rfl rfl rfl ?_
        refine s_pure h (ru_move (h.ev rfl)) rfl ?_; intro f h
        refine s_off (b := true) h rfl rfl rfl rfl ?_; intro f h
        refine s_off (b := true) h rfl rfl rfl rfl ?_; intro f h
        refine s_off (b := true) h rfl rfl rfl rfl ?_; intro f h
        refine s_none h rfl rfl rfl rfl ?_; intro f h
        refine s_none h rfl rfl rfl rfl ?_; intro f h
        refine s_none h rfl rfl rfl rfl ?_; intro f h
        refine s_none h rfl rfl rfl rfl ?_; intro f h
        refine s_off (b := true) h rfl rfl rfl rfl ?_; intro f h
        refine s_on h rfl rfl rfl ?_
        refine s_pure h (ru_pick_f (h.ev rfl) (h.ev rfl)) rfl ?_; intro f h
        refine s_pure h (ru_pick_f (h.ev rfl) (h.ev rfl)) rfl ?_; intro f h
        refine s_pure h (ru_move (h.ev rfl)) rfl ?_; intro f h
        refine s_on h rfl rfl rfl ?_
        refine s_call h s fnc14 (alive_any _) rfl rfl ?_; intro f w1 v9 hT hE h s; obtain rfl := hT
        refine s_on h rfl rfl rfl ?_
        refine s_pure h (ru_val (.bool false) (ru_not (h.ev rfl)) rfl) rfl ?_; intro f h
        refine s_pure h (ru_pick_f (h.ev rfl) (h.ev rfl)) rfl ?_; intro f h
        refine s_nil ?_
        refine hK12 _ _ ?_
        refine wpIn_cond_false (h.ev rfl) ?_
        refine wpIn_skip ?_
        refine hK11 _ _ ?_
        refine c_seq fun K13 hK13 => ?_
        cases e2 : (decide (drE r = 0) : Bool)
        · skip
          cases e3 : (decide (ptE r m = 0) : Bool)
          · skip
            refine c_region ?_
            refine s_pure h (ru_move (h.ev rfl)) rfl ?_; intro f h
            refine s_pure h (ru_val (.bool true) (ru_neq (h.ev rfl) (h.ev rfl)) (congrArg Value.bool (decide_eq_true (of_decide_eq_false e2)))) rfl ?_; intro f h
            refine s_pure h (ru_move (h.ev rfl)) rfl ?_; intro f h
            refine s_off (b := false) h rfl rfl rfl rfl ?_; intro f h
            refine s_off (b := false) h rfl rfl rfl rfl ?_; intro f h
            refine s_off (b := false) h rfl rfl rfl rfl ?_; intro f h
            refine s_none h rfl rfl rfl rfl ?_; intro f h
            refine s_none h rfl rfl rfl rfl ?_; intro f h
            refine s_none h rfl rfl rfl rfl ?_; intro f h
            refine s_off (b := false) h rfl rfl rfl rfl ?_; intro f h
            refine s_pure h (ru_pick_t (h.ev rfl) (h.ev rfl)) rfl ?_; intro f h
            refine s_pure h (ru_move (h.ev rfl)) rfl ?_; intro f h
            refine s_on h rfl rfl rfl ?_
            refine s_pure h (ru_move (h.ev rfl)) rfl ?_; intro f h
            refine s_on h rfl rfl rfl ?_
            refine s_pure h (ru_val (.bool true) (ru_neq (h.ev rfl) (h.ev rfl)) (congrArg Value.bool (decide_eq_true (of_decide_eq_false e3)))) rfl ?_; intro f h
            refine s_on h rfl rfl rfl ?_
            refine s_pure h (ru_move (h.ev rfl)) rfl ?_; intro f h
            refine s_off (b := false) h rfl rfl rfl rfl ?_; intro f h
            refine s_off (b := false) h rfl rfl rfl rfl ?_; intro f h
            refine s_off (b := false) h rfl rfl rfl rfl ?_; intro f h
            refine s_none h rfl rfl rfl rfl ?_; intro f h
            refine s_none h rfl rfl rfl rfl ?_; intro f h
            refine s_none h rfl rfl rfl rfl ?_; intro f h
            refine s_off (b := false) h rfl rfl rfl rfl ?_; intro f h
            refine s_on h rfl rfl rfl ?_
            refine s_pure h (ru_pick_t (h.ev rfl) (h.ev rfl)) rfl ?_; intro f h
            refine s_pure h (ru_pick_t (h.ev rfl) (h.ev rfl)) rfl ?_; intro f h
            refine s_pure h (ru_assign (h.ev rfl)) rfl ?_; intro f h
            refine s_nil ?_
            refine hK13 _ _ ?_
            refine wpIn_ret ?_
            exact e_tmp rfl h s rfl (rfl)
          · skip
            refine c_region ?_
            refine s_pure h (ru_move (h.ev rfl)) rfl ?_; intro f h
            refine s_pure h (ru_val (.bool true) (ru_neq (h.ev rfl) (h.ev rfl)) (congrArg Value.bool (decide_eq_true (of_decide_eq_false e2)))) rfl ?_; intro f h
            refine s_pure h (ru_move (h.ev rfl)) rfl ?_; intro f h
            refine s_off (b := false) h rfl rfl rfl rfl ?_; intro f h
            refine s_off (b := false) h rfl rfl rfl rfl ?_; intro f h
            refine s_off (b := false) h rfl rfl rfl rfl ?_; intro f h
            refine s_none h rfl rfl rfl rfl ?_; intro f h
            refine s_none h rfl rfl rfl rfl ?_; intro f h
            refine s_none h rfl rfl rfl rfl ?_; intro f h
            refine s_off (b := false) h rfl rfl rfl rfl ?_; intro f h
            refine s_pure h (ru_pick_t (h.ev rfl) (h.ev rfl)) rfl ?_; intro f h
            refine s_pure h (ru_move (h.ev rfl)) rfl ?_; intro f h
            refine s_on h rfl rfl rfl ?_
            refine s_pure h (ru_move (h.ev rfl)) rfl ?_; intro f h
            refine s_on h rfl rfl rfl ?_
            refine s_pure h (ru_val (.bool false) (ru_neq (h.ev rfl) (h.ev rfl)) (congrArg Value.bool (decide_eq_false (not_not_intro (of_decide_eq_true e3))))) rfl ?_; intro f h
            refine s_on h rfl rfl rfl ?_
            refine s_pure h (ru_move (h.ev rfl)) rfl ?_; intro f h
            refine s_on h rfl rfl rfl ?_
            refine s_pure h (ru_move (h.ev rfl)) rfl ?_; intro f h
            refine s_on h rfl rfl rfl ?_
            refine s_pure h (ru_val (.bool true) (ru_eql (h.ev rfl) (h.ev rfl)) (congrArg Value.bool (decide_eq_true ((pt_twice (of_decide_eq_true e3)).1)))) rfl ?_; intro f h
            refine s_on h rfl rfl rfl ?_
            refine s_pure h (ru_move (h.ev rfl)) rfl ?_; intro f h
            refine s_on h rfl rfl rfl ?_
            refine s_load_row 0 h s row28 rfl rfl (ndArr_size _ _ _ _) rfl ?_; intro f h
            refine s_on h rfl rfl rfl ?_
            refine s_load_row 12 h s row28 rfl rfl (ndArr_size _ _ _ _) rfl ?_; intro f h
            refine s_on h rfl rfl rfl ?_
            refine s_call h s fnc13 (ret_val (.bool true) (like_any (ptN (ptN r m) m) (ptN r m) hu hv9 du dv _ (RdZ.of_own (s.getSl 1 rfl)) (RdZ.of_own (s.getSl 2 rfl)) (RdZ.of_own (s.getSl 13 rfl)) (RdZ.of_own (s.getSl 14 rfl)) (by omega) (by omega) (by omega) (by omega)) (congrArg Value.bool (lkN_eq (pt_twice (of_decide_eq_true e3)).2))) rfl rfl ?_; intro f w1 v9 hT hE h s; obtain rfl := hT
            refine s_on h rfl rfl rfl ?_
            refine s_pure h (ru_pick_t (h.ev rfl) (h.ev rfl)) rfl ?_; intro f h
            refine s_on h rfl rfl rfl ?_
            refine s_pure h (ru_pick_f (h.ev rfl) (h.ev rfl)) rfl ?_; intro f h
            refine s_pure h (ru_pick_t (h.ev rfl) (h.ev rfl)) rfl ?_; intro f h
            refine s_pure h (ru_assign (h.ev rfl)) rfl ?_; intro f h
            refine s_nil ?_
            refine hK13 _ _ ?_
            refine wpIn_ret ?_
            exact e_tmp rfl h s rfl (rfl)
        · skip
          cases e3 : (decide (ptE r m = 0) : Bool)
          · skip
            refine c_region ?_
            refine s_pure h (ru_move (h.ev rfl)) rfl ?_; intro f h
            refine s_pure h (ru_val (.bool false) (ru_neq (h.ev rfl) (h.ev rfl)) (congrArg Value.bool (decide_eq_false (not_not_intro (of_decide_eq_true e2))))) rfl ?_; intro f h
            refine s_pure h (ru_move (h.ev rfl)) rfl ?_; intro f h
            refine s_on h rfl rfl rfl ?_
            refine s_pure h (ru_move (h.ev rfl)) rfl ?_; intro f h
            refine s_on h rfl rfl rfl ?_
            refine s_pure h (ru_val (.bool true) (ru_eql (h.ev rfl) (h.ev rfl)) (congrArg Value.bool (decide_eq_true ((dr_twice (nos := ps) (of_decide_eq_true e2)).1)))) rfl ?_; intro f h
            refine s_on h rfl rfl rfl ?_
            refine s_pure h (ru_move (h.ev rfl)) rfl ?_; intro f h
            refine s_on h rfl rfl rfl ?_
            refine s_load_row 3 h s row28 rfl rfl (ndArr_size _ _ _ _) rfl ?_; intro f h
            refine s_on h rfl rfl rfl ?_
            refine s_load_row 15 h s row28 rfl rfl (ndArr_size _ _ _ _) rfl ?_; intro f h
            refine s_on h rfl rfl rfl ?_
            refine s_call h s fnc13 (ret_val (.bool true) (like_any (drN (drN r ps) ps) (drN r ps) gu gv cu cv _ (RdZ.of_own (s.getSl 4 rfl)) (RdZ.of_own (s.getSl 5 rfl)) (RdZ.of_own (s.getSl 16 rfl)) (RdZ.of_own (s.getSl 17 rfl)) (by omega) (by omega) (by omega) (by omega)) (congrArg Value.bool (lkN_eq (dr_twice (of_decide_eq_true e2)).2))) rfl rfl ?_; intro f w1 v9 hT hE h s; obtain rfl := hT
            refine s_on h rfl rfl rfl ?_
            refine s_pure h (ru_pick_t (h.ev rfl) (h.ev rfl)) rfl ?_; intro f h
            refine s_pure h (ru_pick_f (h.ev rfl) (h.ev rfl)) rfl ?_; intro f h
            refine s_pure h (ru_move (h.ev rfl)) rfl ?_; intro f h
            refine s_on h rfl rfl rfl ?_
            refine s_pure h (ru_move (h.ev rfl)) rfl ?_; intro f h
            refine s_on h rfl rfl rfl ?_
            refine s_pure h (ru_val (.bool true) (ru_neq (h.ev rfl) (h.ev rfl)) (congrArg Value.bool (decide_eq_true (of_decide_eq_false e3)))) rfl ?_; intro f h
            refine s_on h rfl rfl rfl ?_
            refine s_pure h (ru_move (h.ev rfl)) rfl ?_; intro f h
            refine s_off (b := false) h rfl rfl rfl rfl ?_; intro f h
            refine s_off (b := false) h rfl rfl rfl rfl ?_; intro f h
            refine s_off (b := false) h rfl rfl rfl rfl ?_; intro f h
            refine s_none h rfl rfl rfl rfl ?_; intro f h
            refine s_none h rfl rfl rfl rfl ?_; intro f h
            refine s_none h rfl rfl rfl rfl ?_; intro f h
            refine s_off (b := false) h rfl rfl rfl rfl ?_; intro f h
            refine s_on h rfl rfl rfl ?_
            refine s_pure h (ru_pick_t (h.ev rfl) (h.ev rfl)) rfl ?_; intro f h
            refine s_pure h (ru_pick_t (h.ev rfl) (h.ev rfl)) rfl ?_; intro f h
            refine s_pure h (ru_assign (h.ev rfl)) rfl ?_; intro f h
            refine s_nil ?_
            refine hK13 _ _ ?_
            refine wpIn_ret ?_
            exact e_tmp rfl h s rfl (rfl)
          · skip
            refine c_region ?_
            refine s_pure h (ru_move (h.ev rfl)) rfl ?_; intro f h
            refine s_pure h (ru_val (.bool false) (ru_neq (h.ev rfl) (h.ev rfl)) (congrArg Value.bool (decide_eq_false (not_not_intro (of_decide_eq_true e2))))) rfl ?_; intro f h
            refine s_pure h (ru_move (h.ev rfl)) rfl ?_; intro f h
            refine s_on h rfl rfl rfl ?_
            refine s_pure h (ru_move (h.ev rfl)) rfl ?_; intro f h
            refine s_on h rfl rfl rfl ?_
            refine s_pure h (ru_val (.bool true) (ru_eql (h.ev rfl) (h.ev rfl)) (congrArg Value.bool (decide_eq_true ((dr_twice (nos := ps) (of_decide_eq_true e2)).1)))) rfl ?_; intro f h
            refine s_on h rfl rfl rfl ?_
            refine s_pure h (ru_move (h.ev rfl)) rfl ?_; intro f h
            refine s_on h rfl rfl rfl ?_
            refine s_load_row 3 h s row28 rfl rfl (ndArr_size _ _ _ _) rfl ?_; intro f h
            refine s_on h rfl rfl rfl ?_
            refine s_load_row 15 h s row28 rfl rfl (ndArr_size _ _ _ _) rfl ?_; intro f h
            refine s_on h rfl rfl rfl ?_
            refine s_call h s fnc13 (ret_val (.bool true) (like_any (drN (drN r ps) ps) (drN r ps) gu gv cu cv _ (RdZ.of_own (s.getSl 4 rfl)) (RdZ.of_own (s.getSl 5 rfl)) (RdZ.of_own (s.getSl 16 rfl)) (RdZ.of_own (s.getSl 17 rfl)) (by omega) (by omega) (by omega) (by omega)) (congrArg Value.bool (lkN_eq (dr_twice (of_decide_eq_true e2)).2))) rfl rfl ?_; intro f w1 v9 hT hE h s; obtain rfl := hT
            refine s_on h rfl rfl rfl ?_
            refine s_pure h (ru_pick_t (h.ev rfl) (h.ev rfl)) rfl ?_; intro f h
            refine s_pure h (ru_pick_f (h.ev rfl) (h.ev rfl)) rfl ?_; intro f h
            refine s_pure h (ru_move (h.ev rfl)) rfl ?_; intro f h
            refine s_on h rfl rfl rfl ?_
            refine s_pure h (ru_move (h.ev rfl)) rfl ?_; intro f h
            refine s_on h rfl rfl rfl ?_
            refine s_pure h (ru_val (.bool false) (ru_neq (h.ev rfl) (h.ev rfl)) (congrArg Value.bool (decide_eq_false (not_not_intro (of_decide_eq_true e3))))) rfl ?_; intro f h
            refine s_on h rfl rfl rfl ?_
            refine s_pure h (ru_move (h.ev rfl)) rfl ?_; intro f h
            refine s_on h rfl rfl rfl ?_
            refine s_pure h (ru_move (h.ev rfl)) rfl ?_; intro f h
            refine s_on h rfl rfl rfl ?_
            refine s_pure h (ru_val (.bool true) (ru_eql (h.ev rfl) (h.ev rfl)) (congrArg Value.bool (decide_eq_true ((pt_twice (of_decide_eq_true e3)).1)))) rfl ?_; intro f h
            refine s_on h rfl rfl rfl ?_
            refine s_pure h (ru_move (h.ev rfl)) rfl ?_; intro f h
            refine s_on h rfl rfl rfl ?_
            refine s_load_row 0 h s row28 rfl rfl (ndArr_size _ _ _ _) rfl ?_; intro f h
            refine s_on h rfl rfl rfl ?_
            refine s_load_row 12 h s row28 rfl rfl (ndArr_size _ _ _ _) rfl ?_; intro f h
            refine s_on h rfl rfl rfl ?_
            refine s_call h s fnc13 (ret_val (.bool true) (like_any (ptN (ptN r m) m) (ptN r m) hu hv9 du dv _ (RdZ.of_own (s.getSl 1 rfl)) (RdZ.of_own (s.getSl 2 rfl)) (RdZ.of_own (s.getSl 13 rfl)) (RdZ.of_own (s.getSl 14 rfl)) (by omega) (by omega) (by omega) (by omega)) (congrArg Value.bool (lkN_eq (pt_twice (of_decide_eq_true e3)).2))) rfl rfl ?_; intro f w1 v9 hT hE h s; obtain rfl := hT
            refine s_on h rfl rfl rfl ?_
            refine s_pure h (ru_pick_t (h.ev rfl) (h.ev rfl)) rfl ?_; intro f h
            refine s_on h rfl rfl rfl ?_
            refine s_pure h (ru_pick_f (h.ev rfl) (h.ev rfl)) rfl ?_; intro f h
            refine s_pure h (ru_pick_t (h.ev rfl) (h.ev rfl)) rfl ?_; intro f h
            refine s_pure h (ru_assign (h.ev rfl)) rfl ?_; intro f h
            refine s_nil ?_
            refine hK13 _ _ ?_
            refine wpIn_ret ?_
            exact e_tmp rfl h s rfl (rfl)
      · skip
        refine c_region ?_
        refine s_pure h (ru_move (h.ev rfl)) rfl ?_; intro f h
        refine s_pure h (ru_val (.bool false) (ru_eql (h.ev rfl) (h.ev rfl)) (congrArg Value.bool e0)) rfl ?_; intro f h
        refine s_pure h (ru_move (h.ev rfl)) rfl ?_; intro f h
        refine s_off (b := true) h rfl rfl rfl rfl ?_; intro f h
        refine s_off (b := true) h rfl rfl rfl rfl ?_; intro f h
        refine s_off (b := true) h rfl rfl rfl rfl ?_; intro f h
        refine s_none h rfl rfl rfl rfl ?_; intro f h
        refine s_none h rfl rfl rfl rfl ?_; intro f h
        refine s_none h rfl rfl rfl rfl ?_; intro f h
        refine s_none h rfl rfl rfl rfl ?_; intro f h
        refine s_off (b := true) h rfl rfl rfl rfl ?_; intro f h
        refine s_pure h (ru_pick_f (h.ev rfl) (h.ev rfl)) rfl ?_; intro f h
        refine s_pure h (ru_move (h.ev rfl)) rfl ?_; intro f h
        refine s_on h rfl rfl rfl ?_
        refine s_pure h (ru_move (h.ev rfl)) rfl ?_; intro f h
        refine s_on h rfl rfl rfl ?_
        refine s_pure h (ru_val (.bool true) (ru_eql (h.ev rfl) (h.ev rfl)) (congrArg Value.bool e1)) rfl ?_; intro f h
        refine s_on h rfl rfl rfl ?_
        refine s_pure h (ru_move (h.ev rfl)) rfl ?_; intro f h
        refine s_on h rfl rfl rfl ?_
        refine s_pure h (ru_move (h.ev rfl)) rfl ?_; intro f h
        refine s_on h rfl rfl rfl ?_
        refine s_pure h (ru_val (.bool false) (ru_neq (h.ev rfl) (h.ev rfl)) (congrArg Value.bool (decide_eq_false (not_not_intro (fo_twice (of_decide_eq_true e1)).1)))) rfl ?_; intro f h
        refine s_on h rfl rfl rfl ?_
        refine s_pure h (ru_move (h.ev rfl)) rfl ?_; intro f h
        refine s_on h rfl rfl rfl ?_
        refine s_load_row 6 h s row28 rfl rfl (ndArr_size _ _ _ _) rfl ?_; intro f h
        refine s_on h rfl rfl rfl ?_
        refine s_load_row 18 h s row28 rfl rfl (ndArr_size _ _ _ _) rfl ?_; intro f h
        refine s_on h rfl rfl rfl ?_
        refine s_call h s fnc13 (ret_val (.bool true) (like_any (foN (foN r q) q) (foN r q) fu fv bu bv _ (RdZ.of_own (s.getSl 7 rfl)) (RdZ.of_own (s.getSl 8 rfl)) (RdZ.of_own (s.getSl 19 rfl)) (RdZ.of_own (s.getSl 20 rfl)) (by omega) (by omega) (by omega) (by omega)) (congrArg Value.bool (lkN_eq (fo_twice (of_decide_eq_true e1)).2))) rfl rfl ?_; intro f w1 v9 hT hE h s; obtain rfl := hT
        refine s_on h rfl rfl rfl ?_
        refine s_pure h (ru_val (.bool false) (ru_not (h.ev rfl)) rfl) rfl ?_; intro f h
        refine s_on h rfl rfl rfl ?_
        refine s_pure h (ru_pick_f (h.ev rfl) (h.ev rfl)) rfl ?_; intro f h
        refine s_on h rfl rfl rfl ?_
        refine s_pure h (ru_pick_t (h.ev rfl) (h.ev rfl)) rfl ?_; intro f h
        refine s_pure h (ru_pick_f (h.ev rfl) (h.ev rfl)) rfl ?_; intro f h
        refine s_pure h (ru_move (h.ev rfl)) rfl ?_; intro f h
        refine s_on h rfl rfl rfl ?_
        refine s_call h s fnc14 (alive_any _) rfl rfl ?_; intro f w1 v9 hT hE h s; obtain rfl := hT
        refine s_on h rfl rfl rfl ?_
        refine s_pure h (ru_val (.bool false) (ru_not (h.ev rfl)) rfl) rfl ?_; intro f h
        refine s_pure h (ru_pick_f (h.ev rfl) (h.ev rfl)) rfl ?_; intro f h
        refine s_nil ?_
        refine hK12 _ _ ?_
        refine wpIn_cond_false (h.ev rfl) ?_
        refine wpIn_skip ?_
        refine hK11 _ _ ?_
        refine c_seq fun K14 hK14 => ?_
        cases e2 : (decide (drE r = 0) : Bool)
        · skip
          cases e3 : (decide (ptE r m = 0) : Bool)
          · skip
            refine c_region ?_
            refine s_pure h (ru_move (h.ev rfl)) rfl ?_; intro f h
            refine s_pure h (ru_val (.bool true) (ru_neq (h.ev rfl) (h.ev rfl)) (congrArg Value.bool (decide_eq_true (of_decide_eq_false e2)))) rfl ?_; intro f h
            refine s_pure h (ru_move (h.ev rfl)) rfl ?_; intro f h
            refine s_off (b := false) h rfl rfl rfl rfl ?_; intro f h
            refine s_off (b := false) h rfl rfl rfl rfl ?_; intro f h
            refine s_off (b := false) h rfl rfl rfl rfl ?_; intro f h
            refine s_none h rfl rfl rfl rfl ?_; intro f h
            refine s_none h rfl rfl rfl rfl ?_; intro f h
            refine s_none h rfl rfl rfl rfl ?_; intro f h
            refine s_off (b := false) h rfl rfl rfl rfl ?_; intro f h
            refine s_pure h (ru_pick_t (h.ev rfl) (h.ev rfl)) rfl ?_; intro f h
            refine s_pure h (ru_move (h.ev rfl)) rfl ?_; intro f h
            refine s_on h rfl rfl rfl ?_
            refine s_pure h (ru_move (h.ev rfl)) rfl ?_; intro f h
            refine s_on h rfl rfl rfl ?_
            refine s_pure h (ru_val (.bool true) (ru_neq (h.ev rfl) (h.ev rfl)) (congrArg Value.bool (decide_eq_true (of_decide_eq_false e3)))) rfl ?_; intro f h
            refine s_on h rfl rfl rfl ?_
            refine s_pure h (ru_move (h.ev rfl)) rfl ?_; intro f h
            refine s_off (b := false) h rfl rfl rfl rfl ?_; intro f h
            refine s_off (b := false) h rfl rfl rfl rfl ?_; intro f h
            refine s_off (b := false) h rfl rfl rfl rfl ?_; intro f h
            refine s_none h rfl rfl rfl rfl ?_; intro f h
            refine s_none h rfl rfl rfl rfl ?_; intro f h
            refine s_none h rfl rfl rfl rfl ?_; intro f h
            refine s_off (b := false) h rfl rfl rfl rfl ?_; intro f h
            refine s_on h rfl rfl rfl ?_
            refine s_pure h (ru_pick_t (h.ev rfl) (h.ev rfl)) rfl ?_; intro f h
            refine s_pure h (ru_pick_t (h.ev rfl) (h.ev rfl)) rfl ?_; intro f h
            refine s_pure h (ru_assign (h.ev rfl)) rfl ?_; intro f h
            refine s_nil ?_
            refine hK14 _ _ ?_
            refine wpIn_ret ?_
            exact e_tmp rfl h s rfl (rfl)
          · skip
            refine c_region ?_
            refine s_pure h (ru_move (h.ev rfl)) rfl ?_; intro f h
            refine s_pure h (ru_val (.bool true) (ru_neq (h.ev rfl) (h.ev rfl)) (congrArg Value.bool (decide_eq_true (of_decide_eq_false e2)))) rfl ?_; intro f h
            refine s_pure h (ru_move (h.ev rfl)) rfl ?_; intro f h
            refine s_off (b := false) h rfl rfl rfl rfl ?_; intro f h
            refine s_off (b := false) h rfl rfl rfl rfl ?_; intro f h
            refine s_off (b := false) h rfl rfl rfl rfl ?_; intro f h
            refine s_none h rfl rfl rfl rfl ?_; intro f h
            refine s_none h rfl rfl rfl rfl ?_; intro f h
            refine s_none h rfl rfl rfl rfl ?_; intro f h
            refine s_off (b := false) h rfl rfl rfl rfl ?_; intro f h
            refine s_pure h (ru_pick_t (h.ev rfl) (h.ev rfl)) rfl ?_; intro f h
            refine s_pure h (ru_move (h.ev rfl)) rfl ?_; intro f h
            refine s_on h rfl rfl rfl ?_
            refine s_pure h (ru_move (h.ev rfl)) rfl ?_; intro f h
            refine s_on h rfl rfl rfl ?_
            refine s_pure h (ru_val (.bool false) (ru_neq (h.ev rfl) (h.ev rfl)) (congrArg Value.bool (decide_eq_false (not_not_intro (of_decide_eq_true e3))))) rfl ?_; intro f h
            refine s_on h rfl rfl rfl ?_
            refine s_pure h (ru_move (h.ev rfl)) rfl ?_; intro f h
            refine s_on h rfl rfl rfl ?_
            refine s_pure h (ru_move (h.ev rfl)) rfl ?_; intro f h
            refine s_on h rfl rfl rfl ?_
            refine s_pure h (ru_val (.bool true) (ru_eql (h.ev rfl) (h.ev rfl)) (congrArg Value.bool (decide_eq_true ((pt_twice (of_decide_eq_true e3)).1)))) rfl ?_; intro f h
            refine s_on h rfl rfl rfl ?_
            refine s_pure h (ru_move (h.ev rfl)) rfl ?_; intro f h
            refine s_on h rfl rfl rfl ?_
            refine s_load_row 0 h s row28 rfl rfl (ndArr_size _ _ _ _) rfl ?_; intro f h
            refine s_on h rfl rfl rfl ?_
            refine s_load_row 12 h s row28 rfl rfl (ndArr_size _ _ _ _) rfl ?_; intro f h
            refine s_on h rfl rfl rfl ?_
            refine s_call h s fnc13 (ret_val (.bool true) (like_any (ptN (ptN r m) m) (ptN r m) hu hv9 du dv _ (RdZ.of_own (s.getSl 1 rfl)) (RdZ.of_own (s.getSl 2 rfl)) (RdZ.of_own (s.getSl 13 rfl)) (RdZ.of_own (s.getSl 14 rfl)) (by omega) (by omega) (by omega) (by omega)) (congrArg Value.bool (lkN_eq (pt_twice (of_decide_eq_true e3)).2))) rfl rfl ?_; intro f w1 v9 hT hE h s; obtain rfl := hT
            refine s_on h rfl rfl rfl ?_
            refine s_pure h (ru_pick_t (h.ev rfl) (h.ev rfl)) rfl ?_; intro f h
            refine s_on h rfl rfl rfl ?_
            refine s_pure h (ru_pick_f (h.ev rfl) (h.ev rfl)) rfl ?_; intro f h
            refine s_pure h (ru_pick_t (h.ev rfl) (h.ev rfl)) rfl ?_; intro f h
            refine s_pure h (ru_assign (h.ev rfl)) rfl ?_; intro f h
            refine s_nil ?_
            refine hK14 _ _ ?_
            refine wpIn_ret ?_
            exact e_tmp rfl h s rfl (rfl)
        · skip
          cases e3 : (decide (ptE r m = 0) : Bool)
          · skip
            refine c_region ?_
            refine s_pure h (ru_move (h.ev rfl)) rfl ?_; intro f h
            refine s_pure h (ru_val (.bool false) (ru_neq (h.ev rfl) (h.ev rfl)) (congrArg Value.bool (decide_eq_false (not_not_intro (of_decide_eq_true e2))))) rfl ?_; intro f h
            refine s_pure h (ru_move (h.ev rfl)) rfl ?_; intro f h
            refine s_on h rfl rfl rfl ?_
            refine s_pure h (ru_move (h.ev rfl)) rfl ?_; intro f h
            refine s_on h rfl rfl rfl ?_
            refine s_pure h (ru_val (.bool true) (ru_eql (h.ev rfl) (h.ev rfl)) (congrArg Value.bool (decide_eq_true ((dr_twice (nos := ps) (of_decide_eq_true e2)).1)))) rfl ?_; intro f h
            refine s_on h rfl rfl rfl ?_
            refine s_pure h (ru_move (h.ev rfl)) rfl ?_; intro f h
            refine s_on h rfl rfl rfl ?_
            refine s_load_row 3 h s row28 rfl rfl (ndArr_size _ _ _ _) rfl ?_; intro f h
            refine s_on h rfl rfl rfl ?_
            refine s_load_row 15 h s row28 rfl rfl (ndArr_size _ _ _ _) rfl ?_; intro f h
            refine s_on h rfl rfl rfl ?_
            refine s_call h s fnc13 (ret_val (.bool true) (like_any (drN (drN r ps) ps) (drN r ps) gu gv cu cv _ (RdZ.of_own (s.getSl 4 rfl)) (RdZ.of_own (s.getSl 5 rfl)) (RdZ.of_own (s.getSl 16 rfl)) (RdZ.of_own (s.getSl 17 rfl)) (by omega) (by omega) (by omega) (by omega)) (congrArg Value.bool (lkN_eq (dr_twice (of_decide_eq_true e2)).2))) rfl rfl ?_; intro f w1 v9 hT hE h s; obtain rfl := hT
            refine s_on h rfl rfl rfl ?_
            refine s_pure h (ru_pick_t (h.ev rfl) (h.ev rfl)) rfl ?_; intro f h
            refine s_pure h (ru_pick_f (h.ev rfl) (h.ev rfl)) rfl ?_; intro f h
            refine s_pure h (ru_move (h.ev rfl)) rfl ?_; intro f h
            refine s_on h rfl rfl rfl ?_
            refine s_pure h (ru_move (h.ev rfl)) rfl ?_; intro f h
            refine s_on h rfl rfl rfl ?_
            refine s_pure h (ru_val (.bool true) (ru_neq (h.ev rfl) (h.ev rfl)) (congrArg Value.bool (decide_eq_true (of_decide_eq_false e3)))) rfl ?_; intro f h
            refine s_on h rfl rfl rfl ?_
            refine s_pure h (ru_move (h.ev rfl)) rfl ?_; intro f h
            refine s_off (b := false) h rfl rfl rfl rfl ?_; intro f h
            refine s_off (b := false) h rfl rfl rfl rfl ?_; intro f h
            refine s_off (b := false) h rfl rfl rfl rfl ?_; intro f h
            refine s_none h rfl rfl rfl rfl ?_; intro f h
            refine s_none h rfl rfl rfl rfl ?_; intro f h
            refine s_none h rfl rfl rfl rfl ?_; intro f h
            refine s_off (b := false) h rfl rfl rfl rfl ?_; intro f h
            refine s_on h rfl rfl rfl ?_
            refine s_pure h (ru_pick_t (h.ev rfl) (h.ev rfl)) rfl ?_; intro f h
            refine s_pure h (ru_pick_t (h.ev rfl) (h.ev rfl)) rfl ?_; intro f h
            refine s_pure h (ru_assign (h.ev rfl)) rfl ?_; intro f h
            refine s_nil ?_
            refine hK14 _ _ ?_
            refine wpIn_ret ?_
            exact e_tmp rfl h s rfl (rfl)
          · skip
            refine c_region ?_
            refine s_pure h (ru_move (h.ev rfl)) rfl ?_; intro f h
            refine s_pure h (ru_val (.bool false) (ru_neq (h.ev rfl) (h.ev rfl)) (congrArg Value.bool (decide_eq_false (not_not_intro (of_decide_eq_true e2))))) rfl ?_; intro f h
            refine s_pure h (ru_move (h.ev rfl)) rfl ?_; intro f h
            refine s_on h rfl rfl rfl ?_
            refine s_pure h (ru_move (h.ev rfl)) rfl ?_; intro f h
            refine s_on h rfl rfl rfl ?_
            refine s_pure h (ru_val (.bool true) (ru_eql (h.ev rfl) (h.ev rfl)) (congrArg Value.bool (decide_eq_true ((dr_twice (nos := ps) (of_decide_eq_true e2)).1)))) rfl ?_; intro f h
            refine s_on h rfl rfl rfl ?_
            refine s_pure h (ru_move (h.ev rfl)) rfl ?_; intro f h
            refine s_on h rfl rfl rfl ?_
            refine s_load_row 3 h s row28 rfl rfl (ndArr_size _ _ _ _) rfl ?_; intro f h
            refine s_on h rfl rfl rfl ?_
            refine s_load_row 15 h s row28 rfl rfl (ndArr_size _ _ _ _) rfl ?_; intro f h
            refine s_on h rfl rfl rfl ?_
            refine s_call h s fnc13 (ret_val (.bool true) (like_any (drN (drN r ps) ps) (drN r ps) gu gv cu cv _ (RdZ.of_own (s.getSl 4 rfl)) (RdZ.of_own (s.getSl 5 rfl)) (RdZ.of_own (s.getSl 16 rfl)) (RdZ.of_own (s.getSl 17 rfl)) (by omega) (by omega) (by omega) (by omega)) (congrArg Value.bool (lkN_eq (dr_twice (of_decide_eq_true e2)).2))) rfl rfl ?_; intro f w1 v9 hT hE h s; obtain rfl := hT
            refine s_on h rfl rfl rfl ?_
            refine s_pure h (ru_pick_t (h.ev rfl) (h.ev rfl)) rfl ?_; intro f h
            refine s_pure h (ru_pick_f (h.ev rfl) (h.ev rfl)) rfl ?_; intro f h
            refine s_pure h (ru_move (h.ev rfl)) rfl ?_; intro f h
            refine s_on h rfl rfl rfl ?_
            refine s_pure h (ru_move (h.ev rfl)) rfl ?_; intro f h
            refine s_on h rfl rfl rfl ?_
            refine s_pure h (ru_val (.bool false) (ru_neq (h.ev rfl) (h.ev rfl)) (congrArg Value.bool (decide_eq_false (not_not_intro (of_decide_eq_true e3))))) rfl ?_; intro f h
            refine s_on h rfl rfl rfl ?_
            refine s_pure h (ru_move (h.ev rfl)) rfl ?_; intro f h
            refine s_on h rfl rfl rfl ?_
            refine s_pure h (ru_move (h.ev rfl)) rfl ?_; intro f h
            refine s_on h rfl rfl rfl ?_
            refine s_pure h (ru_val (.bool true) (ru_eql (h.ev rfl) (h.ev rfl)) (congrArg Value.bool (decide_eq_true ((pt_twice (of_decide_eq_true e3)).1)))) rfl ?_; intro f h
            refine s_on h rfl rfl rfl ?_
            refine s_pure h (ru_move (h.ev rfl)) rfl ?_; intro f h
            refine s_on h rfl rfl rfl ?_
            refine s_load_row 0 h s row28 rfl rfl (ndArr_size _ _ _ _) rfl ?_; intro f h
            refine s_on h rfl rfl rfl ?_
            refine s_load_row 12 h s row28 rfl rfl (ndArr_size _ _ _ _) rfl ?_; intro f h
            refine s_on h rfl rfl rfl ?_
            refine s_call h s fnc13 (ret_val (.bool true) (like_any (ptN (ptN r m) m) (ptN r m) hu hv9 du dv _ (RdZ.of_own (s.getSl 1 rfl)) (RdZ.of_own (s.getSl 2 rfl)) (RdZ.of_own (s.getSl 13 rfl)) (RdZ.of_own (s.getSl 14 rfl)) (by omega) (by omega) (by omega) (by omega)) (congrArg Value.bool (lkN_eq (pt_twice (of_decide_eq_true e3)).2))) rfl rfl ?_; intro f w1 v9 hT hE h s; obtain rfl := hT
            refine s_on h rfl rfl rfl ?_
            refine s_pure h (ru_pick_t (h.ev rfl) (h.ev rfl)) rfl ?_; intro f h
            refine s_on h rfl rfl rfl ?_
            refine s_pure h (ru_pick_f (h.ev rfl) (h.ev rfl)) rfl ?_; intro f h
            refine s_pure h (ru_pick_t (h.ev rfl) (h.ev rfl)) rfl ?_; intro f h
            refine s_pure h (ru_assign (h.ev rfl)) rfl ?_; intro f h
            refine s_nil ?_
            refine hK14 _ _ ?_
            refine wpIn_ret ?_
            exact e_tmp rfl h s rfl (rfl)
    · skip
      cases e1 : (decide (foE r q = 0) : Bool)
      · skip
        refine c_region ?_
        refine s_pure h (ru_move (h.ev rfl)) rfl ?_; intro f h
        refine s_pure h (ru_val (.bool true) (ru_eql (h.ev rfl) (h.ev rfl)) (congrArg Value.bool e0)) rfl ?_; intro f h
        refine s_pure h (ru_move (h.ev rfl)) rfl ?_; intro f h
        refine s_on h rfl rfl rfl ?_
        refine s_pure h (ru_move (h.ev rfl)) rfl ?_; intro f h
        refine s_on h rfl rfl rfl ?_
        refine s_pure h (ru_val (.bool false) (ru_neq (h.ev rfl) (h.ev rfl)) (congrArg Value.bool (decide_eq_false (not_not_intro (nt_twice (of_decide_eq_true e0)).1)))) rfl ?_; intro f h
        refine s_on h rfl rfl rfl ?_
        refine s_pure h (ru_move (h.ev rfl)) rfl ?_; intro f h
        refine s_on h rfl rfl rfl ?_
        refine s_load_row 9 h s row28 rfl rfl (ndArr_size _ _ _ _) rfl ?_; intro f h
        refine s_on h rfl rfl rfl ?_
        refine s_load_row 21 h s row28 rfl rfl (ndArr_size _ _ _ _) rfl ?_; intro f h
        refine s_on h rfl rfl rfl ?_
        refine s_call h s fnc13 (ret_val (.bool true) (like_any (ntN (ntN r m) m) (ntN r m) eu ev au av _ (RdZ.of_own (s.getSl 10 rfl)) (RdZ.of_own (s.getSl 11 rfl)) (RdZ.of_own (s.getSl 22 rfl)) (RdZ.of_own (s.getSl 23 rfl)) (by omega) (by omega) (by omega) (by omega)) (congrArg Value.bool (lkN_eq (nt_twice (of_decide_eq_true e0)).2))) rfl rfl ?_; intro f w1 v9 hT hE h s; obtain rfl := hT
        refine s_on h rfl rfl rfl ?_
        refine s_pure h (ru_val (.bool false) (ru_not (h.ev rfl)) rfl) rfl ?_; intro f h
        refine s_on h rfl rfl rfl ?_
        refine s_pure h (ru_pick_f (h.ev rfl) (h.ev rfl)) rfl ?_; intro f h
        refine s_pure h (ru_pick_t (h.ev rfl) (h.ev rfl)) rfl ?_; intro f h
        refine s_pure h (ru_move (h.ev rfl)) rfl ?_; intro f h
        refine s_on h rfl rfl rfl ?_
        refine s_pure h (ru_move (h.ev rfl)) rfl ?_; intro f h
        refine s_on h rfl rfl rfl ?_
        refine s_pure h (ru_val (.bool false) (ru_eql (h.ev rfl) (h.ev rfl)) (congrArg Value.bool e1)) rfl ?_; intro f h
        refine s_on h rfl rfl rfl ?_
        refine s_pure h (ru_move (h.ev rfl)) rfl ?_; intro f h
        refine s_off (b := true) h rfl rfl rfl rfl ?_; intro f h
        refine s_off (b := true) h rfl rfl rfl rfl ?_; intro f h
        refine s_off (b := true) h rfl rfl rfl rfl ?_; intro f h
        refine s_none h rfl rfl rfl rfl ?_; intro f h
        refine s_none h rfl rfl rfl rfl ?_; intro f h
        refine s_none h rfl rfl rfl rfl ?_; intro f h
        refine s_none h rfl rfl rfl rfl ?_; intro f h
        refine s_off (b := true) h rfl rfl rfl rfl ?_; intro f h
        refine s_on h rfl rfl rfl ?_
        refine s_pure h (ru_pick_f (h.ev rfl) (h.ev rfl)) rfl ?_; intro f h
        refine s_pure h (ru_pick_f (h.ev rfl) (h.ev rfl)) rfl ?_; intro f h
        refine s_pure h (ru_move (h.ev rfl)) rfl ?_; intro f h
        refine s_on h rfl rfl rfl ?_
        refine s_call h s fnc14 (alive_any _) rfl rfl ?_; intro f w1 v9 hT hE h s; obtain rfl := hT
        refine s_on h rfl rfl rfl ?_
        refine s_pure h (ru_val (.bool false) (ru_not (h.ev rfl)) rfl) rfl ?_; intro f h
        refine s_pure h (ru_pick_f (h.ev rfl) (h.ev rfl)) rfl ?_; intro f h
        refine s_nil ?_
        refine hK12 _ _ ?_
        refine wpIn_cond_false (h.ev rfl) ?_
        refine wpIn_skip ?_
        refine hK11 _ _ ?_
        refine c_seq fun K15 hK15 => ?_
        cases e2 : (decide (drE r = 0) : Bool)
        · skip
          cases e3 : (decide (ptE r m = 0) : Bool)
          · skip
            refine c_region ?_
            refine s_pure h (ru_move (h.ev rfl)) rfl ?_; intro f h
            refine s_pure h (ru_val (.bool true) (ru_neq (h.ev rfl) (h.ev rfl)) (congrArg Value.bool (decide_eq_true (of_decide_eq_false e2)))) rfl ?_; intro f h
            refine s_pure h (ru_move (h.ev rfl)) rfl ?_; intro f h
            refine s_off (b := false) h rfl rfl rfl rfl ?_; intro f h
            refine s_off (b := false) h rfl rfl rfl rfl ?_; intro f h
            refine s_off (b := false) h rfl rfl rfl rfl ?_; intro f h
            refine s_none h rfl rfl rfl rfl ?_; intro f h
            refine s_none h rfl rfl rfl rfl ?_; intro f h
            refine s_none h rfl rfl rfl rfl ?_; intro f h
            refine s_off (b := false) h rfl rfl rfl rfl ?_; intro f h
            refine s_pure h (ru_pick_t (h.ev rfl) (h.ev rfl)) rfl ?_; intro f h
            refine s_pure h (ru_move (h.ev rfl)) rfl ?_; intro f h
            refine s_on h rfl rfl rfl ?_
            refine s_pure h (ru_move (h.ev rfl)) rfl ?_; intro f h
            refine s_on h rfl rfl rfl ?_
            refine s_pure h (ru_val (.bool true) (ru_neq (h.ev rfl) (h.ev rfl)) (congrArg Value.bool (decide_eq_true (of_decide_eq_false e3)))) rfl ?_; intro f h
            refine s_on h rfl rfl rfl ?_
            refine s_pure h (ru_move (h.ev rfl)) rfl ?_; intro f h
            refine s_off (b := false) h rfl rfl rfl rfl ?_; intro f h
            refine s_off (b := false) h rfl rfl rfl rfl ?_; intro f h
            refine s_off (b := false) h rfl rfl rfl rfl ?_; intro f h
            refine s_none h rfl rfl rfl rfl ?_; intro f h
            refine s_none h rfl rfl rfl rfl ?_; intro f h
            refine s_none h rfl rfl rfl rfl ?_; intro f h
            refine s_off (b := false) h rfl rfl rfl rfl ?_; intro f h
            refine s_on h rfl rfl rfl ?_
            refine s_pure h (ru_pick_t (h.ev rfl) (h.ev rfl)) rfl ?_; intro f h
            refine s_pure h (ru_pick_t (h.ev rfl) (h.ev rfl)) rfl ?_; intro f h
            refine s_pure h (ru_assign (h.ev rfl)) rfl ?_; intro f h
            refine s_nil ?_
            refine hK15 _ _ ?_
            refine wpIn_ret ?_
            exact e_tmp rfl h s rfl (rfl)
          · skip
            refine c_region ?_
            refine s_pure h (ru_move (h.ev rfl)) rfl ?_; intro f h
            refine s_pure h (ru_val (.bool true) (ru_neq (h.ev rfl) (h.ev rfl)) (congrArg Value.bool (decide_eq_true (of_decide_eq_false e2)))) rfl ?_; intro f h
            refine s_pure h (ru_move (h.ev rfl)) rfl ?_; intro f h
            refine s_off (b := false) h rfl rfl rfl rfl ?_; intro f h
            refine s_off (b := false) h rfl rfl rfl rfl ?_; intro f h
            refine s_off (b := false) h rfl rfl rfl rfl ?_; intro f h
            refine s_none h rfl rfl rfl rfl ?_; intro f h
            refine s_none h rfl rfl rfl rfl ?_; intro f h
            refine s_none h rfl rfl rfl rfl ?_; intro f h
            refine s_off (b := false) h rfl rfl rfl rfl ?_; intro f h
            refine s_pure h (ru_pick_t (h.ev rfl) (h.ev rfl)) rfl ?_; intro f h
            refine s_pure h (ru_move (h.ev rfl)) rfl ?_; intro f h
            refine s_on h rfl rfl rfl ?_
            refine s_pure h (ru_move (h.ev rfl)) rfl ?_; intro f h
            refine s_on h rfl rfl rfl ?_
            refine s_pure h (ru_val (.bool false) (ru_neq (h.ev rfl) (h.ev rfl)) (congrArg Value.bool (decide_eq_false (not_not_intro (of_decide_eq_true e3))))) rfl ?_; intro f h
            refine s_on h rfl rfl rfl ?_
            refine s_pure h (ru_move (h.ev rfl)) rfl ?_; intro f h
            refine s_on h rfl rfl rfl ?_
            refine s_pure h (ru_move (h.ev rfl)) rfl ?_; intro f h
            refine s_on h rfl rfl rfl ?_
            refine s_pure h (ru_val (.bool true) (ru_eql (h.ev rfl) (h.ev rfl)) (congrArg Value.bool (decide_eq_true ((pt_twice (of_decide_eq_true e3)).1)))) rfl ?_; intro f h
            refine s_on h rfl rfl rfl ?_
            refine s_pure h (ru_move (h.ev rfl)) rfl ?_; intro f h
            refine s_on h rfl rfl rfl ?_
            refine s_load_row 0 h s row28 rfl rfl (ndArr_size _ _ _ _) rfl ?_; intro f h
            refine s_on h rfl rfl rfl ?_
            refine s_load_row 12 h s row28 rfl rfl (ndArr_size _ _ _ _) rfl ?_; intro f h
            refine s_on h rfl rfl rfl ?_
            refine s_call h s fnc13 (ret_val (.bool true) (like_any (ptN (ptN r m) m) (ptN r m) hu hv9 du dv _ (RdZ.of_own (s.getSl 1 rfl)) (RdZ.of_own (s.getSl 2 rfl)) (RdZ.of_own (s.getSl 13 rfl)) (RdZ.of_own (s.getSl 14 rfl)) (by omega) (by omega) (by omega) (by omega)) (congrArg Value.bool (lkN_eq (pt_twice (of_decide_eq_true e3)).2))) rfl rfl ?_; intro f w1 v9 hT hE h s; obtain rfl := hT
            refine s_on h rfl rfl rfl ?_
            refine s_pure h (ru_pick_t (h.ev rfl) (h.ev rfl)) rfl ?_; intro f h
            refine s_on h rfl rfl rfl ?_
            refine s_pure h (ru_pick_f (h.ev rfl) (h.ev rfl)) rfl ?_; intro f h
            refine s_pure h (ru_pick_t (h.ev rfl) (h.ev rfl)) rfl ?_; intro f h
            refine s_pure h (ru_assign (h.ev rfl)) rfl ?_; intro f h
            refine s_nil ?_
            refine hK15 _ _ ?_
            refine wpIn_ret ?_
            exact e_tmp rfl h s rfl (rfl)
        · skip
          cases e3 : (decide (ptE r m = 0) : Bool)
          · skip
            refine c_region ?_
            refine s_pure h (ru_move (h.ev rfl)) rfl ?_; intro f h
            refine s_pure h (ru_val (.bool false) (ru_neq (h.ev rfl) (h.ev rfl)) (congrArg Value.bool (decide_eq_false (not_not_intro (of_decide_eq_true e2))))) rfl ?_; intro f h
            refine s_pure h (ru_move (h.ev rfl)) rfl ?_; intro f h
            refine s_on h rfl rfl rfl ?_
            refine s_pure h (ru_move (h.ev rfl)) rfl ?_; intro f h
            refine s_on h rfl rfl rfl ?_
            refine s_pure h (ru_val (.bool true) (ru_eql (h.ev rfl) (h.ev rfl)) (congrArg Value.bool (decide_eq_true ((dr_twice (nos := ps) (of_decide_eq_true e2)).1)))) rfl ?_; intro f h
            refine s_on h rfl rfl rfl ?_
            refine s_pure h (ru_move (h.ev rfl)) rfl ?_; intro f h
            refine s_on h rfl rfl rfl ?_
            refine s_load_row 3 h s row28 rfl rfl (ndArr_size _ _ _ _) rfl ?_; intro f h
            refine s_on h rfl rfl rfl ?_
            refine s_load_row 15 h s row28 rfl rfl (ndArr_size _ _ _ _) rfl ?_; intro f h
            refine s_on h rfl rfl rfl ?_
            refine s_call h s fnc13 (ret_val (.bool true) (like_any (drN (drN r ps) ps) (drN r ps) gu gv cu cv _ (RdZ.of_own (s.getSl 4 rfl)) (RdZ.of_own (s.getSl 5 rfl)) (RdZ.of_own (s.getSl 16 rfl)) (RdZ.of_own (s.getSl 17 rfl)) (by omega) (by omega) (by omega) (by omega)) (congrArg Value.bool (lkN_eq (dr_twice (of_decide_eq_true e2)).2))) rfl rfl ?_; intro f w1 v9 hT hE h s; obtain rfl := hT
            refine s_on h rfl rfl rfl ?_
            refine s_pure h (ru_pick_t (h.ev rfl) (h.ev rfl)) rfl ?_; intro f h
            refine s_pure h (ru_pick_f (h.ev rfl) (h.ev rfl)) rfl ?_; intro f h
            refine s_pure h (ru_move (h.ev rfl)) rfl ?_; intro f h
            refine s_on h rfl rfl rfl ?_
            refine s_pure h (ru_move (h.ev rfl)) rfl ?_; intro f h
            refine s_on h rfl rfl rfl ?_
            refine s_pure h (ru_val (.bool true) (ru_neq (h.ev rfl) (h.ev rfl)) (congrArg Value.bool (decide_eq_true (of_decide_eq_false e3)))) rfl ?_; intro f h
            refine s_on h rfl rfl rfl ?_
            refine s_pure h (ru_move (h.ev rfl)) rfl ?_; intro f h
            refine s_off (b := false) h rfl rfl rfl rfl ?_; intro f h
            refine s_off (b := false) h rfl rfl rfl rfl ?_; intro f h
            refine s_off (b := false) h rfl rfl rfl rfl ?_; intro f h
            refine s_none h rfl rfl rfl rfl ?_; intro f h
            refine s_none h rfl rfl rfl rfl ?_; intro f h
            refine s_none h rfl rfl rfl rfl ?_; intro f h
            refine s_off (b := false) h rfl rfl rfl rfl ?_; intro f h
            refine s_on h rfl rfl rfl ?_
            refine s_pure h (ru_pick_t (h.ev rfl) (h.ev rfl)) rfl ?_; intro f h
            refine s_pure h (ru_pick_t (h.ev rfl) (h.ev rfl)) rfl ?_; intro f h
            refine s_pure h (ru_assign (h.ev rfl)) rfl ?_; intro f h
            refine s_nil ?_
            refine hK15 _ _ ?_
            refine wpIn_ret ?_
            exact e_tmp rfl h s rfl (rfl)
          · skip
            refine c_region ?_
            refine s_pure h (ru_move (h.ev rfl)) rfl ?_; intro f h
            refine s_pure h (ru_val (.bool false) (ru_neq (h.ev rfl) (h.ev rfl)) (congrArg Value.bool (decide_eq_false (not_not_intro (of_decide_eq_true e2))))) rfl ?_; intro f h
            refine s_pure h (ru_move (h.ev rfl)) rfl ?_; intro f h
            refine s_on h rfl rfl rfl ?_
            refine s_pure h (ru_move (h.ev rfl)) rfl ?_; intro f h
            refine s_on h rfl rfl rfl ?_
            refine s_pure h (ru_val (.bool true) (ru_eql (h.ev rfl) (h.ev rfl)) (congrArg Value.bool (decide_eq_true ((dr_twice (nos := ps) (of_decide_eq_true e2)).1)))) rfl ?_; intro f h
            refine s_on h rfl rfl rfl ?_
            refine s_pure h (ru_move (h.ev rfl)) rfl ?_; intro f h
            refine s_on h rfl rfl rfl ?_
            refine s_load_row 3 h s row28 rfl rfl (ndArr_size _ _ _ _) rfl ?_; intro f h
            refine s_on h rfl rfl rfl ?_
            refine s_load_row 15 h s row28 rfl rfl (ndArr_size _ _ _ _) rfl ?_; intro f h
            refine s_on h rfl rfl rfl ?_
            refine s_call h s fnc13 (ret_val (.bool true) (like_any (drN (drN r ps) ps) (drN r ps) gu gv cu cv _ (RdZ.of_own (s.getSl 4 rfl)) (RdZ.of_own (s.getSl 5 rfl)) (RdZ.of_own (s.getSl 16 rfl)) (RdZ.of_own (s.getSl 17 rfl)) (by omega) (by omega) (by omega) (by omega)) (congrArg Value.bool (lkN_eq (dr_twice (of_decide_eq_true e2)).2))) rfl rfl ?_; intro f w1 v9 hT hE h s; obtain rfl := hT
            refine s_on h rfl rfl rfl ?_
            refine s_pure h (ru_pick_t (h.ev rfl) (h.ev rfl)) rfl ?_; intro f h
            refine s_pure h (ru_pick_f (h.ev rfl) (h.ev rfl)) rfl ?_; intro f h
            refine s_pure h (ru_move (h.ev rfl)) rfl ?_; intro f h
            refine s_on h rfl rfl rfl ?_
            refine s_pure h (ru_move (h.ev rfl)) rfl ?_; intro f h
            refine s_on h rfl rfl rfl ?_
            refine s_pure h (ru_val (.bool false) (ru_neq (h.ev rfl) (h.ev rfl)) (congrArg Value.bool (decide_eq_false (not_not_intro (of_decide_eq_true e3))))) rfl ?_; intro f h
            refine s_on h rfl rfl rfl ?_
            refine s_pure h (ru_move (h.ev rfl)) rfl ?_; intro f h
            refine s_on h rfl rfl rfl ?_
            refine s_pure h (ru_move (h.ev rfl)) rfl ?_; intro f h
            refine s_on h rfl rfl rfl ?_
            refine s_pure h (ru_val (.bool true) (ru_eql (h.ev rfl) (h.ev rfl)) (congrArg Value.bool (decide_eq_true ((pt_twice (of_decide_eq_true e3)).1)))) rfl ?_; intro f h
            refine s_on h rfl rfl rfl ?_
            refine s_pure h (ru_move (h.ev rfl)) rfl ?_; intro f h
            refine s_on h rfl rfl rfl ?_
            refine s_load_row 0 h s row28 rfl rfl (ndArr_size _ _ _ _) rfl ?_; intro f h
            refine s_on h rfl rfl rfl ?_
            refine s_load_row 12 h s row28 rfl rfl (ndArr_size _ _ _ _) rfl ?_; intro f h
            refine s_on h rfl rfl rfl ?_
            refine s_call h s fnc13 (ret_val (.bool true) (like_any (ptN (ptN r m) m) (ptN r m) hu hv9 du dv _ (RdZ.of_own (s.getSl 1 rfl)) (RdZ.of_own (s.getSl 2 rfl)) (RdZ.of_own (s.getSl 13 rfl)) (RdZ.of_own (s.getSl 14 rfl)) (by omega) (by omega) (by omega) (by omega)) (congrArg Value.bool (lkN_eq (pt_twice (of_decide_eq_true e3)).2))) rfl rfl ?_; intro f w1 v9 hT hE h s; obtain rfl := hT
            refine s_on h rfl rfl rfl ?_
            refine s_pure h (ru_pick_t (h.ev rfl) (h.ev rfl)) rfl ?_; intro f h
            refine s_on h rfl rfl rfl ?_
            refine s_pure h (ru_pick_f (h.ev rfl) (h.ev rfl)) rfl ?_; intro f h
            refine s_pure h (ru_pick_t (h.ev rfl) (h.ev rfl)) rfl ?_; intro f h
            refine s_pure h (ru_assign (h.ev rfl)) rfl ?_; intro f h
            refine s_nil ?_
            refine hK15 _ _ ?_
            refine wpIn_ret ?_
            exact e_tmp rfl h s rfl (rfl)
      · skip
        refine c_region ?_
        refine s_pure h (ru_move (h.ev rfl)) rfl ?_; intro f h
        refine s_pure h (ru_val (.bool true) (ru_eql (h.ev rfl) (h.ev rfl)) (congrArg Value.bool e0)) rfl ?_; intro f h
        refine s_pure h (ru_move (h.ev rfl)) rfl ?_; intro f h
        refine s_on h rfl rfl rfl ?_
        refine s_pure h (ru_move (h.ev rfl)) rfl ?_; intro f h
        refine s_on h rfl rfl rfl ?_
        refine s_pure h (ru_val (.bool false) (ru_neq (h.ev rfl) (h.ev rfl)) (congrArg Value.bool (decide_eq_false (not_not_intro (nt_twice (of_decide_eq_true e0)).1)))) rfl ?_; intro f h
        refine s_on h rfl rfl rfl ?_
        refine s_pure h (ru_move (h.ev rfl)) rfl ?_; intro f h
        refine s_on h rfl rfl rfl ?_
        refine s_load_row 9 h s row28 rfl rfl (ndArr_size _ _ _ _) rfl ?_; intro f h
        refine s_on h rfl rfl rfl ?_
        refine s_load_row 21 h s row28 rfl rfl (ndArr_size _ _ _ _) rfl ?_; intro f h
        refine s_on h rfl rfl rfl ?_
        refine s_call h s fnc13 (ret_val (.bool true) (like_any (ntN (ntN r m) m) (ntN r m) eu ev au av _ (RdZ.of_own (s.getSl 10 rfl)) (RdZ.of_own (s.getSl 11 rfl)) (RdZ.of_own (s.getSl 22 rfl)) (RdZ.of_own (s.getSl 23 rfl)) (by omega) (by omega) (by omega) (by omega)) (congrArg Value.bool (lkN_eq (nt_twice (of_decide_eq_true e0)).2))) rfl rfl ?_; intro f w1 v9 hT hE h s; obtain rfl := hT
        refine s_on h rfl rfl rfl ?_
        refine s_pure h (ru_val (.bool false) (ru_not (h.ev rfl)) rfl) rfl ?_; intro f h
        refine s_on h rfl rfl rfl ?_
        refine s_pure h (ru_pick_f (h.ev rfl) (h.ev rfl)) rfl ?_; intro f h
        refine s_pure h (ru_pick_t (h.ev rfl) (h.ev rfl)) rfl ?_; intro f h
        refine s_pure h (ru_move (h.ev rfl)) rfl ?_; intro f h
        refine s_on h rfl rfl rfl ?_
        refine s_pure h (ru_move (h.ev rfl)) rfl ?_; intro f h
        refine s_on h rfl rfl rfl ?_
        refine s_pure h (ru_val (.bool true) (ru_eql (h.ev rfl) (h.ev rfl)) (congrArg Value.bool e1)) rfl ?_; intro f h
        refine s_on h rfl rfl rfl ?_
        refine s_pure h (ru_move (h.ev rfl)) rfl ?_; intro f h
        refine s_on h rfl rfl rfl ?_
        refine s_pure h (ru_move (h.ev rfl)) rfl ?_; intro f h
        refine s_on h rfl rfl rfl ?_
        refine s_pure h (ru_val (.bool false) (ru_neq (h.ev rfl) (h.ev rfl)) (congrArg Value.bool (decide_eq_false (not_not_intro (fo_twice (of_decide_eq_true e1)).1)))) rfl ?_; intro f h
        refine s_on h rfl rfl rfl ?_
        refine s_pure h (ru_move (h.ev rfl)) rfl ?_; intro f h
        refine s_on h rfl rfl rfl ?_
        refine s_load_row 6 h s row28 rfl rfl (ndArr_size _ _ _ _) rfl ?_; intro f h
        refine s_on h rfl rfl rfl ?_
        refine s_load_row 18 h s row28 rfl rfl (ndArr_size _ _ _ _) rfl ?_; intro f h
        refine s_on h rfl rfl rfl ?_
        refine s_call h s fnc13 (ret_val (.bool true) (like_any (foN (foN r q) q) (foN r q) fu fv bu bv _ (RdZ.of_own (s.getSl 7 rfl)) (RdZ.of_own (s.getSl 8 rfl)) (RdZ.of_own (s.getSl 19 rfl)) (RdZ.of_own (s.getSl 20 rfl)) (by omega) (by omega) (by omega) (by omega)) (congrArg Value.bool (lkN_eq (fo_twice (of_decide_eq_true e1)).2))) rfl rfl ?_; intro f w1 v9 hT hE h s; obtain rfl := hT
        refine s_on h rfl rfl rfl ?_
        refine s_pure h (ru_val (.bool false) (ru_not (h.ev rfl)) rfl) rfl ?_; intro f h
        refine s_on h rfl rfl rfl ?_
        refine s_pure h (ru_pick_f (h.ev rfl) (h.ev rfl)) rfl ?_; intro f h
        refine s_on h rfl rfl rfl ?_
        refine s_pure h (ru_pick_t (h.ev rfl) (h.ev rfl)) rfl ?_; intro f h
        refine s_pure h (ru_pick_f (h.ev rfl) (h.ev rfl)) rfl ?_; intro f h
        refine s_pure h (ru_move (h.ev rfl)) rfl ?_; intro f h
        refine s_on h rfl rfl rfl ?_
        refine s_call h s fnc14 (alive_any _) rfl rfl ?_; intro f w1 v9 hT hE h s; obtain rfl := hT
        refine s_on h rfl rfl rfl ?_
        refine s_pure h (ru_val (.bool false) (ru_not (h.ev rfl)) rfl) rfl ?_; intro f h
        refine s_pure h (ru_pick_f (h.ev rfl) (h.ev rfl)) rfl ?_; intro f h
        refine s_nil ?_
        refine hK12 _ _ ?_
        refine wpIn_cond_false (h.ev rfl) ?_
        refine wpIn_skip ?_
        refine hK11 _ _ ?_
        refine c_seq fun K16 hK16 => ?_
        cases e2 : (decide (drE r = 0) : Bool)
        · skip
          cases e3 : (decide (ptE r m = 0) : Bool)
          · skip
            refine c_region ?_
            refine s_pure h (ru_move (h.ev rfl)) rfl ?_; intro f h
            refine s_pure h (ru_val (.bool true) (ru_neq (h.ev rfl) (h.ev rfl)) (congrArg Value.bool (decide_eq_true (of_decide_eq_false e2)))) rfl ?_; intro f h
            refine s_pure h (ru_move (h.ev rfl)) rfl ?_; intro f h
            refine s_off (b := false) h rfl rfl rfl rfl ?_; intro f h
            refine s_off (b := false) h rfl rfl rfl rfl ?_; intro f h
            refine s_off (b := false) h rfl rfl rfl rfl ?_; intro f h
            refine s_none h rfl rfl rfl rfl ?_; intro f h
            refine s_none h rfl rfl rfl rfl ?_; intro f h
            refine s_none h rfl rfl rfl rfl ?_; intro f h
            refine s_off (b := false) h rfl rfl rfl rfl ?_; intro f h
            refine s_pure h (ru_pick_t (h.ev rfl) (h.ev rfl)) rfl ?_; intro f h
            refine s_pure h (ru_move (h.ev rfl)) rfl ?_; intro f h
            refine s_on h rfl rfl rfl ?_
            refine s_pure h (ru_move (h.ev rfl)) rfl ?_; intro f h
            refine s_on h rfl rfl rfl ?_
            refine s_pure h (ru_val (.bool true) (ru_neq (h.ev rfl) (h.ev rfl)) (congrArg Value.bool (decide_eq_true (of_decide_eq_false e3)))) rfl ?_; intro f h
            refine s_on h rfl rfl rfl ?_
            refine s_pure h (ru_move (h.ev rfl)) rfl ?_; intro f h
            refine s_off (b := false) h rfl rfl rfl rfl ?_; intro f h
            refine s_off (b := false) h rfl rfl rfl rfl ?_; intro f h
            refine s_off (b := false) h rfl rfl rfl rfl ?_; intro f h
            refine s_none h rfl rfl rfl rfl ?_; intro f h
            refine s_none h rfl rfl rfl rfl ?_; intro f h
            refine s_none h rfl rfl rfl rfl ?_; intro f h
            refine s_off (b := false) h rfl rfl rfl rfl ?_; intro f h
            refine s_on h rfl rfl rfl ?_
            refine s_pure h (ru_pick_t (h.ev rfl) (h.ev rfl)) rfl ?_; intro f h
            refine s_pure h (ru_pick_t (h.ev rfl) (h.ev rfl)) rfl ?_; intro f h
            refine s_pure h (ru_assign (h.ev rfl)) rfl ?_; intro f h
            refine s_nil ?_
            refine hK16 _ _ ?_
            refine wpIn_ret ?_
            exact e_tmp rfl h s rfl (rfl)
          · skip
            refine c_region ?_
            refine s_pure h (ru_move (h.ev rfl)) rfl ?_; intro f h
            refine s_pure h (ru_val (.bool true) (ru_neq (h.ev rfl) (h.ev rfl)) (congrArg Value.bool (decide_eq_true (of_decide_eq_false e2)))) rfl ?_; intro f h
            refine s_pure h (ru_move (h.ev rfl)) rfl ?_; intro f h
            refine s_off (b := false) h rfl rfl rfl rfl ?_; intro f h
            refine s_off (b := false) h rfl rfl rfl rfl ?_; intro f h
            refine s_off (b := false) h rfl rfl rfl rfl ?_; intro f h
            refine s_none h rfl rfl rfl rfl ?_; intro f h
            refine s_none h rfl rfl rfl rfl ?_; intro f h
            refine s_none h rfl rfl rfl rfl ?_; intro f h
            refine s_off (b := false) h rfl rfl rfl rfl ?_; intro f h
            refine s_pure h (ru_pick_t (h.ev rfl) (h.ev rfl)) rfl ?_; intro f h
            refine s_pure h (ru_move (h.ev rfl)) rfl ?_; intro f h
            refine s_on h rfl rfl rfl ?_
            refine s_pure h (ru_move (h.ev rfl)) rfl ?_; intro f h
            refine s_on h rfl rfl rfl ?_
            refine s_pure h (ru_val (.bool false) (ru_neq (h.ev rfl) (h.ev rfl)) (congrArg Value.bool (decide_eq_false (not_not_intro (of_decide_eq_true e3))))) rfl ?_; intro f h
            refine s_on h rfl rfl rfl ?_
            refine s_pure h (ru_move (h.ev rfl)) rfl ?_; intro f h
            refine s_on h rfl rfl rfl ?_
            refine s_pure h (ru_move (h.ev rfl)) rfl ?_; intro f h
            refine s_on h rfl rfl rfl ?_
            refine s_pure h (ru_val (.bool true) (ru_eql (h.ev rfl) (h.ev rfl)) (congrArg Value.bool (decide_eq_true ((pt_twice (of_decide_eq_true e3)).1)))) rfl ?_; intro f h
            refine s_on h rfl rfl rfl ?_
            refine s_pure h (ru_move (h.ev rfl)) rfl ?_; intro f h
            refine s_on h rfl rfl rfl ?_
            refine s_load_row 0 h s row28 rfl rfl (ndArr_size _ _ _ _) rfl ?_; intro f h
            refine s_on h rfl rfl rfl ?_
            refine s_load_row 12 h s row28 rfl rfl (ndArr_size _ _ _ _) rfl ?_; intro f h
            refine s_on h rfl rfl rfl ?_
            refine s_call h s fnc13 (ret_val (.bool true) (like_any (ptN (ptN r m) m) (ptN r m) hu hv9 du dv _ (RdZ.of_own (s.getSl 1 rfl)) (RdZ.of_own (s.getSl 2 rfl)) (RdZ.of_own (s.getSl 13 rfl)) (RdZ.of_own (s.getSl 14 rfl)) (by omega) (by omega) (by omega) (by omega)) (congrArg Value.bool (lkN_eq (pt_twice (of_decide_eq_true e3)).2))) rfl rfl ?_; intro f w1 v9 hT hE h s; obtain rfl := hT
            refine s_on h rfl rfl rfl ?_
            refine s_pure h (ru_pick_t (h.ev rfl) (h.ev rfl)) rfl ?_; intro f h
            refine s_on h rfl rfl rfl ?_
            refine s_pure h (ru_pick_f (h.ev rfl) (h.ev rfl)) rfl ?_; intro f h
            refine s_pure h (ru_pick_t (h.ev rfl) (h.ev rfl)) rfl ?_; intro f h
            refine s_pure h (ru_assign (h.ev rfl)) rfl ?_; intro f h
            refine s_nil ?_
            refine hK16 _ _ ?_
            refine wpIn_ret ?_
            exact e_tmp rfl h s rfl (rfl)
        · skip
          cases e3 : (decide (ptE r m = 0) : Bool)
          · skip
            refine c_region ?_
            refine s_pure h (ru_move (h.ev rfl)) rfl ?_; intro f h
            refine s_pure h (ru_val (.bool false) (ru_neq (h.ev rfl) (h.ev rfl)) (congrArg Value.bool (decide_eq_false (not_not_intro (of_decide_eq_true e2))))) rfl ?_; intro f h
            refine s_pure h (ru_move (h.ev rfl)) rfl ?_; intro f h
            refine s_on h rfl rfl rfl ?_
            refine s_pure h (ru_move (h.ev rfl)) rfl ?_; intro f h
            refine s_on h rfl rfl rfl ?_
            refine s_pure h (ru_val (.bool true) (ru_eql (h.ev rfl) (h.ev rfl)) (congrArg Value.bool (decide_eq_true ((dr_twice (nos := ps) (of_decide_eq_true e2)).1)))) rfl ?_; intro f h
            refine s_on h rfl rfl rfl ?_
            refine s_pure h (ru_move (h.ev rfl)) rfl ?_; intro f h
            refine s_on h rfl rfl rfl ?_
            refine s_load_row 3 h s row28 rfl rfl (ndArr_size _ _ _ _) rfl ?_; intro f h
            refine s_on h rfl rfl rfl ?_
            refine s_load_row 15 h s row28 rfl rfl (ndArr_size _ _ _ _) rfl ?_; intro f h
            refine s_on h rfl rfl rfl ?_
            refine s_call h s fnc13 (ret_val (.bool true) (like_any (drN (drN r ps) ps) (drN r ps) gu gv cu cv _ (RdZ.of_own (s.getSl 4 rfl)) (RdZ.of_own (s.getSl 5 rfl)) (RdZ.of_own (s.getSl 16 rfl)) (RdZ.of_own (s.getSl 17 rfl)) (by omega) (by omega) (by omega) (by omega)) (congrArg Value.bool (lkN_eq (dr_twice (of_decide_eq_true e2)).2))) rfl rfl ?_; intro f w1 v9 hT hE h s; obtain rfl := hT
            refine s_on h rfl rfl rfl ?_
            refine s_pure h (ru_pick_t (h.ev rfl) (h.ev rfl)) rfl ?_; intro f h
            refine s_pure h (ru_pick_f (h.ev rfl) (h.ev rfl)) rfl ?_; intro f h
            refine s_pure h (ru_move (h.ev rfl)) rfl ?_; intro f h
            refine s_on h rfl rfl rfl ?_
            refine s_pure h (ru_move (h.ev rfl)) rfl ?_; intro f h
            refine s_on h rfl rfl rfl ?_
            refine s_pure h (ru_val (.bool true) (ru_neq (h.ev rfl) (h.ev rfl)) (congrArg Value.bool (decide_eq_true (of_decide_eq_false e3)))) rfl ?_; intro f h
            refine s_on h rfl rfl rfl ?_
            refine s_pure h (ru_move (h.ev rfl)) rfl ?_; intro f h
            refine s_off (b := false) h rfl rfl rfl rfl ?_; intro f h
            refine s_off (b := false) h rfl rfl rfl rfl ?_; intro f h
            refine s_off (b := false) h rfl rfl rfl rfl ?_; intro f h
            refine s_none h rfl rfl rfl rfl ?_; intro f h
            refine s_none h rfl rfl rfl rfl ?_; intro f h
            refine s_none h rfl rfl rfl rfl ?_; intro f h
            refine s_off (b := false) h rfl rfl rfl rfl ?_; intro f h
            refine s_on h rfl rfl rfl ?_
            refine s_pure h (ru_pick_t (h.ev rfl) (h.ev rfl)) rfl ?_; intro f h
            refine s_pure h (ru_pick_t (h.ev rfl) (h.ev rfl)) rfl ?_; intro f h
            refine s_pure h (ru_assign (h.ev rfl)) rfl ?_; intro f h
            refine s_nil ?_
            refine hK16 _ _ ?_
            refine wpIn_ret ?_
            exact e_tmp rfl h s rfl (rfl)
          · skip
            refine c_region ?_
            refine s_pure h (ru_move (h.ev rfl)) rfl ?_; intro f h
            refine s_pure h (ru_val (.bool false) (ru_neq (h.ev rfl) (h.ev rfl)) (congrArg Value.bool (decide_eq_false (not_not_intro (of_decide_eq_true e2))))) rfl ?_; intro f h
            refine s_pure h (ru_move (h.ev rfl)) rfl ?_; intro f h
            refine s_on h rfl rfl rfl ?_
            refine s_pure h (ru_move (h.ev rfl)) rfl ?_; intro f h
            refine s_on h rfl rfl rfl ?_
            refine s_pure h (ru_val (.bool true) (ru_eql (h.ev rfl) (h.ev rfl)) (congrArg Value.bool (decide_eq_true ((dr_twice (nos := ps) (of_decide_eq_true e2)).1)))) rfl ?_; intro f h
            refine s_on h rfl rfl rfl ?_
            refine s_pure h (ru_move (h.ev rfl)) rfl ?_; intro f h
            refine s_on h rfl rfl rfl ?_
            refine s_load_row 3 h s row28 rfl rfl (ndArr_size _ _ _ _) rfl ?_; intro f h
            refine s_on h rfl rfl rfl ?_
            refine s_load_row 15 h s row28 rfl rfl (ndArr_size _ _ _ _) rfl ?_; intro f h
            refine s_on h rfl rfl rfl ?_
            refine s_call h s fnc13 (ret_val (.bool true) (like_any (drN (drN r ps) ps) (drN r ps) gu gv cu cv _ (RdZ.of_own (s.getSl 4 rfl)) (RdZ.of_own (s.getSl 5 rfl)) (RdZ.of_own (s.getSl 16 rfl)) (RdZ.of_own (s.getSl 17 rfl)) (by omega) (by omega) (by omega) (by omega)) (congrArg Value.bool (lkN_eq (dr_twice (of_decide_eq_true e2)).2))) rfl rfl ?_; intro f w1 v9 hT hE h s; obtain rfl := hT
            refine s_on h rfl rfl rfl ?_
            refine s_pure h (ru_pick_t (h.ev rfl) (h.ev rfl)) rfl ?_; intro f h
            refine s_pure h (ru_pick_f (h.ev rfl) (h.ev rfl)) rfl ?_; intro f h
            refine s_pure h (ru_move (h.ev rfl)) rfl ?_; intro f h
            refine s_on h rfl rfl rfl ?_
            refine s_pure h (ru_move (h.ev rfl)) rfl ?_; intro f h
            refine s_on h rfl rfl rfl ?_
            refine s_pure h (ru_val (.bool false) (ru_neq (h.ev rfl) (h.ev rfl)) (congrArg Value.bool (decide_eq_false (not_not_intro (of_decide_eq_true e3))))) rfl ?_; intro f h
            refine s_on h rfl rfl rfl ?_
            refine s_pure h (ru_move (h.ev rfl)) rfl ?_; intro f h
            refine s_on h rfl rfl rfl ?_
            refine s_pure h (ru_move (h.ev rfl)) rfl ?_; intro f h
            refine s_on h rfl rfl rfl ?_
            refine s_pure h (ru_val (.bool true) (ru_eql (h.ev rfl) (h.ev rfl)) (congrArg Value.bool (decide_eq_true ((pt_twice (of_decide_eq_true e3)).1)))) rfl ?_; intro f h
            refine s_on h rfl rfl rfl ?_
            refine s_pure h (ru_move (h.ev rfl)) rfl ?_; intro f h
            refine s_on h rfl rfl rfl ?_
            refine s_load_row 0 h s row28 rfl rfl (ndArr_size _ _ _ _) rfl ?_; intro f h
            refine s_on h rfl rfl rfl ?_
            refine s_load_row 12 h s row28 rfl rfl (ndArr_size _ _ _ _) rfl ?_; intro f h
            refine s_on h rfl rfl rfl ?_
            refine s_call h s fnc13 (ret_val (.bool true) (like_any (ptN (ptN r m) m) (ptN r m) hu hv9 du dv _ (RdZ.of_own (s.getSl 1 rfl)) (RdZ.of_own (s.getSl 2 rfl)) (RdZ.of_own (s.getSl 13 rfl)) (RdZ.of_own (s.getSl 14 rfl)) (by omega) (by omega) (by omega) (by omega)) (congrArg Value.bool (lkN_eq (pt_twice (of_decide_eq_true e3)).2))) rfl rfl ?_; intro f w1 v9 hT hE h s; obtain rfl := hT
            refine s_on h rfl rfl rfl ?_
            refine s_pure h (ru_pick_t (h.ev rfl) (h.ev rfl)) rfl ?_; intro f h
            refine s_on h rfl rfl rfl ?_
            refine s_pure h (ru_pick_f (h.ev rfl) (h.ev rfl)) rfl ?_; intro f h
            refine s_pure h (ru_pick_t (h.ev rfl) (h.ev rfl)) rfl ?_; intro f h
            refine s_pure h (ru_assign (h.ev rfl)) rfl ?_; intro f h
            refine s_nil ?_
            refine hK16 _ _ ?_
            refine wpIn_ret ?_
            exact e_tmp rfl h s rfl (rfl)
end Go.Proofs.Ytfnjdjbknjcocaa
