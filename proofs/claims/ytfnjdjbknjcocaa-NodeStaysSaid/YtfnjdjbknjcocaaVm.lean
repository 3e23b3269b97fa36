/- What NodeStays answers: for all arguments. -/
import Derived.Test.YtfnjdjbknjcocaaVd
import Derived.Test.YtfnjdjbknjcocaaVf
import Derived.Test.YtfnjdjbknjcocaaVg
set_option linter.unusedVariables false
set_option linter.unusedSimpArgs false
set_option linter.unusedSectionVars false
namespace Go.Proofs.Ytfnjdjbknjcocaa
open Go.RowKit
set_option maxHeartbeats 4000000 in
theorem nstays_any (n : Nd) (vs vf : Value) (y : Nd) (ws wf : Value) (m : Mb) (nos : List Int) (vn : Value) (x : Id) (w : World) (hRs : RdZ w vs 33 n.sc.length (mbCells n.sc)) (hRf : RdZ w vf 33 n.fg.length (mbCells n.fg)) (hZs : RdZ w ws 33 y.sc.length (mbCells y.sc)) (hZf : RdZ w wf 33 y.fg.length (mbCells y.fg)) (hN : RdZ w vn 1 nos.length (nos.map (Value.int .i64))) : Calls Try.prog 6 [.agg (ndArr n.me n.pr vs vf), .agg (ndArr y.me y.pr ws wf), .agg (mbArr m), vn, idV x].toArray w (Ret w (is (.bool true))) := by
  obtain ⟨r, hme, hpr, hlv, hlf, hl6, hl18⟩ := few_nd hRs hRf
  obtain ⟨q, hme2, hpr2, hlv2, hlf2, hq6, hq18⟩ := few_nd hZs hZf
  have hlN0 := hN.cut (min nos.length 20) (Nat.min_le_left _ _)
  obtain ⟨ps, hps⟩ : ∃ x9, x9 = nos.take (min nos.length 20) := ⟨_, rfl⟩
  have hlN : RdZ w (cutV vn (min nos.length 20)) 1 ps.length (ps.map (Value.int .i64)) := by rw [hps, List.length_take, Nat.min_eq_left (Nat.min_le_left _ _), List.map_take]; rwa [Nat.mul_one] at hlN0
  have hp20 : ps.length ≤ 20 := by rw [hps, List.length_take]; omega
  have hnl := nt_len r m
  have hfl := fo_len r q
  have hdl := dr_len r ps
  have hpl := pt_len r m
  refine c_enter Try.func6 rfl Try.ntmps6 rfl [(0, .agg (ndArr n.me n.pr vs vf)), (1, .agg (ndArr y.me y.pr ws wf)), (2, .agg (mbArr m)), (3, vn), (4, idV x)] (by simp) fun f h => ?_
  have s := St.start w
  refine c_seq fun K1 hK1 => ?_
  refine c_region ?_
  refine s_box (ndArr n.me n.pr vs vf) h s rfl rfl rfl ?_; intro f w1 b5 h s
  refine s_box (ndArr y.me y.pr ws wf) h s rfl rfl rfl ?_; intro f w1 b6 h s
  refine s_box ((mbArr m)) h s rfl rfl rfl ?_; intro f w1 b7 h s
  refine s_box (idArr x) h s rfl rfl rfl ?_; intro f w1 b9 h s
  refine s_pure h (ru_assign (h.ev rfl)) rfl ?_; intro f h
  refine s_nil ?_
  refine hK1 _ _ ?_
  refine c_seq fun K2 hK2 => ?_
  refine c_walkN 4 [[], [0], [], [0, 1, 2]] h (by kernel_rfl) (by kernel_rfl) (by kernel_rfl) ?_
  refine w_load_row 3 h s row28 rfl rfl (ndArr_size _ _ _ _) rfl ?_; intro f h
  refine w_call h fnc9 (fun w9 hE9 => ret_val (.agg (ndArr r.me r.pr (cutV vs (min n.sc.length 6)) (cutV vf (min n.fg.length 18)))) (few_any n vs vf w9 (hRs.keep (s.ext.trans hE9)) (hRf.keep (s.ext.trans hE9))) (by rw [hme, hpr])) rfl rfl ?_; intro f h
  refine w_load_row 2 h s row28 rfl rfl (ndArr_size _ _ _ _) rfl ?_; intro f h
  refine w_call h fnc9 (fun w9 hE9 => ret_val (.agg (ndArr q.me q.pr (cutV ws (min y.sc.length 6)) (cutV wf (min y.fg.length 18)))) (few_any y ws wf w9 (hZs.keep (s.ext.trans hE9)) (hZf.keep (s.ext.trans hE9))) (by rw [hme2, hpr2])) rfl rfl ?_; intro f h
  refine w_nil s fun w1 s => ?_
  refine s_store_row 3 h s row28 rfl rfl rfl (ndArr_size _ _ _ _) (ndArr_size _ _ _ _) (ndArr_ones (rd_one (hlv.keep s.ext)) (rd_one (hlf.keep s.ext))) ?_; intro w1 s
  refine s_store_row 2 h s row28 rfl rfl rfl (ndArr_size _ _ _ _) (ndArr_size _ _ _ _) (ndArr_ones (rd_one (hlv2.keep s.ext)) (rd_one (hlf2.keep s.ext))) ?_; intro w1 s
  refine s_nil ?_
  refine hK2 _ _ ?_
  refine c_seq fun K3 hK3 => ?_
  refine c_seq fun K4 hK4 => ?_
  cases hr : (rightN r : Bool)
  · skip
    refine c_region ?_
    refine s_load_row 3 h s row28 rfl rfl (ndArr_size _ _ _ _) rfl ?_; intro f h
    refine s_call h s fnc16 (ret_val (.bool false) (nright_any r (cutV vs (min n.sc.length 6)) (cutV vf (min n.fg.length 18)) _ (hlv.keep s.ext) (hlf.keep s.ext) (by omega) (by omega)) (congrArg Value.bool hr)) rfl rfl ?_; intro f w1 v9 hT hE h s; obtain rfl := hT
    refine s_pure h (ru_val (.bool true) (ru_not (h.ev rfl)) rfl) rfl ?_; intro f h
    refine s_nil ?_
    refine hK4 _ _ ?_
    refine wpIn_cond_true (h.ev rfl) ?_
    refine c_seq fun K5 hK5 => ?_
    refine c_region ?_
    refine s_call h s fnc14 (alive_any _) rfl rfl ?_; intro f w1 v9 hT hE h s; obtain rfl := hT
    refine s_pure h (ru_assign (h.ev rfl)) rfl ?_; intro f h
    refine s_nil ?_
    refine hK5 _ _ ?_
    refine wpIn_ret ?_
    refine t_ret ?_
    exact e_tmp rfl h s rfl (rfl)
  · skip
    refine c_region ?_
    refine s_load_row 3 h s row28 rfl rfl (ndArr_size _ _ _ _) rfl ?_; intro f h
    refine s_call h s fnc16 (ret_val (.bool true) (nright_any r (cutV vs (min n.sc.length 6)) (cutV vf (min n.fg.length 18)) _ (hlv.keep s.ext) (hlf.keep s.ext) (by omega) (by omega)) (congrArg Value.bool hr)) rfl rfl ?_; intro f w1 v9 hT hE h s; obtain rfl := hT
    refine s_pure h (ru_val (.bool false) (ru_not (h.ev rfl)) rfl) rfl ?_; intro f h
    refine s_nil ?_
    refine hK4 _ _ ?_
    refine wpIn_cond_false (h.ev rfl) ?_
    refine wpIn_skip ?_
    refine hK3 _ _ ?_
    refine c_seq fun K6 hK6 => ?_
    refine c_region ?_
    have hrt := hr
    have hrn := rn_iff.1 hr
    have hl1 := hrn.len
    refine s_load_row 3 h s row28 rfl rfl (ndArr_size _ _ _ _) rfl ?_; intro f h
    refine s_load_row 1 h s row25 rfl rfl (mbArr_size _) rfl ?_; intro f h
    refine s_call h s fnc21 (notify_any r (cutV vs (min n.sc.length 6)) (cutV vf (min n.fg.length 18)) m _ (hlv.keep s.ext) (hlf.keep s.ext) (by omega) (by omega)) rfl rfl ?_; rintro f w1 v37 ⟨au, av, rfl, hS⟩ hE h sq; replace s := s.add hS; clear hS
    refine s_pure h (ru_move (h.ev rfl)) rfl ?_; intro f h
    refine s_pure h (ru_extract (h.ev rfl) rfl) rfl ?_; intro f h
    refine s_pure h (ru_extract (h.ev rfl) rfl) rfl ?_; intro f h
    refine s_alloc (ndArr zMb zMb nilV nilV) h s zero28 rfl rfl ?_; intro f w1 b11 h s
    refine s_store_row 0 h s row28 rfl rfl rfl (ndArr_size _ _ _ _) (ndArr_size _ _ _ _) (ndArr_ones (own_one (s.getSl 1 rfl)) (own_one (s.getSl 2 rfl))) ?_; intro w1 s
    refine s_pure h (ru_assign (h.ev rfl)) rfl ?_; intro f h
    refine s_nil ?_
    refine hK6 _ _ ?_
    refine c_seq fun K7 hK7 => ?_
    refine c_region ?_
    refine s_load_row 6 h s row28 rfl rfl (ndArr_size _ _ _ _) rfl ?_; intro f h
    refine s_load_row 5 h s row28 rfl rfl (ndArr_size _ _ _ _) rfl ?_; intro f h
    refine s_call h s fnc22 (nfollow_any r (cutV vs (min n.sc.length 6)) (cutV vf (min n.fg.length 18)) q (cutV ws (min y.sc.length 6)) (cutV wf (min y.fg.length 18)) _ (hlv.keep s.ext) (hlf.keep s.ext) (by omega) (by omega) (hlv2.keep s.ext) (hlf2.keep s.ext) (by omega) (by omega)) rfl rfl ?_; rintro f w1 v43 ⟨bu, bv, rfl, hS⟩ hE h sq; replace s := s.add hS; clear hS
    refine s_pure h (ru_move (h.ev rfl)) rfl ?_; intro f h
    refine s_pure h (ru_extract (h.ev rfl) rfl) rfl ?_; intro f h
    refine s_pure h (ru_extract (h.ev rfl) rfl) rfl ?_; intro f h
    refine s_alloc (ndArr zMb zMb nilV nilV) h s zero28 rfl rfl ?_; intro f w1 b13 h s
    refine s_store_row 0 h s row28 rfl rfl rfl (ndArr_size _ _ _ _) (ndArr_size _ _ _ _) (ndArr_ones (own_one (s.getSl 1 rfl)) (own_one (s.getSl 2 rfl))) ?_; intro w1 s
    refine s_pure h (ru_assign (h.ev rfl)) rfl ?_; intro f h
    refine s_nil ?_
    refine hK7 _ _ ?_
    refine c_seq fun K8 hK8 => ?_
    refine c_regC 0 [[], [], [], [2], [2, 3], [1, 2, 3, 4], [0, 1, 2, 3, 4, 5], [0, 1, 2, 3, 4, 5, 6], [0, 1, 2, 3, 4, 5, 6, 7], [0, 1, 2, 3, 4, 5, 6, 7], [], [0, 1, 2, 3, 4, 5, 6, 7, 8, 10], [0, 1, 2, 3, 4, 5, 6, 7, 8, 9, 10, 11]] [[], [], [], [], [], [], [], [], [], [], [], [10], []] [fun _ => [], fun _ => [], fun _ => [], fun _ => [], fun _ => [], fun _ => [], fun v => [.sl (ndS 66 (v 6)) 25 33 (drN r ps).sc.length (mbCells (drN r ps).sc), .sl (ndS 67 (v 6)) 25 33 (drN r ps).fg.length (mbCells (drN r ps).fg)], fun _ => [], fun _ => [], fun _ => [], fun v => [.blk (pbk (v 10)) (.cells (ndArr zMb zMb nilV nilV) 28)], fun v => [.blk (pbk (v 10)) (.cells (ndArr (drN r ps).me (drN r ps).pr (ndS 66 (v 6)) (ndS 67 (v 6))) 28)], fun _ => []] [] [fun v => v 0 = .agg (ndArr r.me r.pr (cutV vs (min n.sc.length 6)) (cutV vf (min n.fg.length 18))), fun v => v 1 = vn, fun v => v 2 = vn, fun v => v 3 = .int .i64 (nos.length : Int), fun v => v 4 = .int .i64 ((min nos.length 20 : Nat) : Int), fun v => v 5 = (cutV vn (min nos.length 20)), fun v => v 6 = .tuple #[.agg (ndArr (drN r ps).me (drN r ps).pr (ndS 66 (v 6)) (ndS 67 (v 6))), .int .i64 (drE r)], fun v => v 7 = .tuple #[.agg (ndArr (drN r ps).me (drN r ps).pr (ndS 66 (v 6)) (ndS 67 (v 6))), .int .i64 (drE r)], fun v => v 8 = .agg (ndArr (drN r ps).me (drN r ps).pr (ndS 66 (v 6)) (ndS 67 (v 6))), fun v => v 9 = .int .i64 (drE r), fun v => ∃ b, v 10 = .pointer (some ⟨b, 0, none⟩), fun _ => True, fun v => v 12 = .int .i64 (drE r)] [.blk b13 (.cells (ndArr (foN r q).me (foN r q).pr bu bv) 28), .sl bu 25 33 (foN r q).sc.length (mbCells (foN r q).sc), .sl bv 25 33 (foN r q).fg.length (mbCells (foN r q).fg), .blk b11 (.cells (ndArr (ntN r m).me (ntN r m).pr au av) 28), .sl au 25 33 (ntN r m).sc.length (mbCells (ntN r m).sc), .sl av 25 33 (ntN r m).fg.length (mbCells (ntN r m).fg), .blk b9 (.cells (idArr x) 23), .blk b7 (.cells ((mbArr m)) 25), .blk b6 (.cells (ndArr q.me q.pr (cutV ws (min y.sc.length 6)) (cutV wf (min y.fg.length 18))) 28), .blk b5 (.cells (ndArr r.me r.pr (cutV vs (min n.sc.length 6)) (cutV vf (min n.fg.length 18))) 28)] h s rfl (by kernel_rfl) (by kernel_rfl) (by kernel_rfl) (And.intro ?_ (And.intro ?_ (And.intro ?_ (And.intro ?_ (And.intro ?_ (And.intro ?_ (And.intro ?_ (And.intro ?_ (And.intro ?_ (And.intro ?_ (And.intro ?_ (And.intro ?_ (And.intro ?_ (trivial)))))))))))))) [0, 1, 2, 3, 4, 5, 6, 7, 8, 9, 11, 12] (by kernel_rfl) ?_
    · intro f9 w2 vl6 E9 hs9 hd9 hl hF s
      have e5 : f9.tmps.getD 5 undef = _ := oc_old hl 5 (by kernel_rfl) (by kernel_rfl) (h.holds 5 _ rfl)
      have h := fin_slot [(5, _)] (hs9.trans h.size) (hd9.trans h.defers) (holds_lk ⟨e5, trivial⟩)
      replace s : St w (.blk b13 (.cells (ndArr (foN r q).me (foN r q).pr bu bv) 28) :: .sl bu 25 33 (foN r q).sc.length (mbCells (foN r q).sc) :: .sl bv 25 33 (foN r q).fg.length (mbCells (foN r q).fg) :: .blk b11 (.cells (ndArr (ntN r m).me (ntN r m).pr au av) 28) :: .sl au 25 33 (ntN r m).sc.length (mbCells (ntN r m).sc) :: .sl av 25 33 (ntN r m).fg.length (mbCells (ntN r m).fg) :: .blk b9 (.cells (idArr x) 23) :: .blk b7 (.cells ((mbArr m)) 25) :: .blk b6 (.cells (ndArr q.me q.pr (cutV ws (min y.sc.length 6)) (cutV wf (min y.fg.length 18))) 28) :: .blk b5 (.cells (ndArr r.me r.pr (cutV vs (min n.sc.length 6)) (cutV vf (min n.fg.length 18))) 28) :: E9) _ := s
      refine s_load_row 9 h s row28 rfl rfl (ndArr_size _ _ _ _) rfl ?_; intro f h
      exact s_nil ⟨_, oc_out 47 rfl (h.holds 47 _ rfl), rfl, s⟩
    · intro f9 w2 vl6 E9 hs9 hd9 hl hF s
      have e3 : f9.tmps.getD 3 undef = _ := oc_old hl 3 (by kernel_rfl) (by kernel_rfl) (h.holds 3 _ rfl)
      have h := fin_slot [(3, _)] (hs9.trans h.size) (hd9.trans h.defers) (holds_lk ⟨e3, trivial⟩)
      replace s : St w (.blk b13 (.cells (ndArr (foN r q).me (foN r q).pr bu bv) 28) :: .sl bu 25 33 (foN r q).sc.length (mbCells (foN r q).sc) :: .sl bv 25 33 (foN r q).fg.length (mbCells (foN r q).fg) :: .blk b11 (.cells (ndArr (ntN r m).me (ntN r m).pr au av) 28) :: .sl au 25 33 (ntN r m).sc.length (mbCells (ntN r m).sc) :: .sl av 25 33 (ntN r m).fg.length (mbCells (ntN r m).fg) :: .blk b9 (.cells (idArr x) 23) :: .blk b7 (.cells ((mbArr m)) 25) :: .blk b6 (.cells (ndArr q.me q.pr (cutV ws (min y.sc.length 6)) (cutV wf (min y.fg.length 18))) 28) :: .blk b5 (.cells (ndArr r.me r.pr (cutV vs (min n.sc.length 6)) (cutV vf (min n.fg.length 18))) 28) :: E9) _ := s
      refine s_pure h (ru_move (h.ev rfl)) rfl ?_; intro f h
      exact s_nil ⟨_, oc_out 48 rfl (h.holds 48 _ rfl), rfl, s⟩
    · intro f9 w2 vl6 E9 hs9 hd9 hl hF s
      have e3 : f9.tmps.getD 3 undef = _ := oc_old hl 3 (by kernel_rfl) (by kernel_rfl) (h.holds 3 _ rfl)
      have h := fin_slot [(3, _)] (hs9.trans h.size) (hd9.trans h.defers) (holds_lk ⟨e3, trivial⟩)
      replace s : St w (.blk b13 (.cells (ndArr (foN r q).me (foN r q).pr bu bv) 28) :: .sl bu 25 33 (foN r q).sc.length (mbCells (foN r q).sc) :: .sl bv 25 33 (foN r q).fg.length (mbCells (foN r q).fg) :: .blk b11 (.cells (ndArr (ntN r m).me (ntN r m).pr au av) 28) :: .sl au 25 33 (ntN r m).sc.length (mbCells (ntN r m).sc) :: .sl av 25 33 (ntN r m).fg.length (mbCells (ntN r m).fg) :: .blk b9 (.cells (idArr x) 23) :: .blk b7 (.cells ((mbArr m)) 25) :: .blk b6 (.cells (ndArr q.me q.pr (cutV ws (min y.sc.length 6)) (cutV wf (min y.fg.length 18))) 28) :: .blk b5 (.cells (ndArr r.me r.pr (cutV vs (min n.sc.length 6)) (cutV vf (min n.fg.length 18))) 28) :: E9) _ := s
      refine s_pure h (ru_move (h.ev rfl)) rfl ?_; intro f h
      exact s_nil ⟨_, oc_out 49 rfl (h.holds 49 _ rfl), rfl, s⟩
    · intro f9 w2 vl6 E9 hs9 hd9 hl hF s
      have e49 : f9.tmps.getD 49 undef = vn := (oc_get hl 49 2 (by kernel_rfl) (by kernel_rfl)).trans (hF 2 (by decide))
      have h := fin_slot [(49, vn)] (hs9.trans h.size) (hd9.trans h.defers) (holds_lk ⟨e49, trivial⟩)
      replace s : St w (.blk b13 (.cells (ndArr (foN r q).me (foN r q).pr bu bv) 28) :: .sl bu 25 33 (foN r q).sc.length (mbCells (foN r q).sc) :: .sl bv 25 33 (foN r q).fg.length (mbCells (foN r q).fg) :: .blk b11 (.cells (ndArr (ntN r m).me (ntN r m).pr au av) 28) :: .sl au 25 33 (ntN r m).sc.length (mbCells (ntN r m).sc) :: .sl av 25 33 (ntN r m).fg.length (mbCells (ntN r m).fg) :: .blk b9 (.cells (idArr x) 23) :: .blk b7 (.cells ((mbArr m)) 25) :: .blk b6 (.cells (ndArr q.me q.pr (cutV ws (min y.sc.length 6)) (cutV wf (min y.fg.length 18))) 28) :: .blk b5 (.cells (ndArr r.me r.pr (cutV vs (min n.sc.length 6)) (cutV vf (min n.fg.length 18))) 28) :: E9) _ := s
      refine s_pure h (ru_lenZ (hN.keep s.ext) Try.underlying50 (h.ev rfl)) rfl ?_; intro f h
      exact s_nil ⟨_, oc_out 50 rfl (h.holds 50 _ rfl), rfl, s⟩
    · intro f9 w2 vl6 E9 hs9 hd9 hl hF s
      have e50 : f9.tmps.getD 50 undef = .int .i64 (nos.length : Int) := (oc_get hl 50 3 (by kernel_rfl) (by kernel_rfl)).trans (hF 3 (by decide))
      have h := fin_slot [(50, .int .i64 (nos.length : Int))] (hs9.trans h.size) (hd9.trans h.defers) (holds_lk ⟨e50, trivial⟩)
      replace s : St w (.blk b13 (.cells (ndArr (foN r q).me (foN r q).pr bu bv) 28) :: .sl bu 25 33 (foN r q).sc.length (mbCells (foN r q).sc) :: .sl bv 25 33 (foN r q).fg.length (mbCells (foN r q).fg) :: .blk b11 (.cells (ndArr (ntN r m).me (ntN r m).pr au av) 28) :: .sl au 25 33 (ntN r m).sc.length (mbCells (ntN r m).sc) :: .sl av 25 33 (ntN r m).fg.length (mbCells (ntN r m).fg) :: .blk b9 (.cells (idArr x) 23) :: .blk b7 (.cells ((mbArr m)) 25) :: .blk b6 (.cells (ndArr q.me q.pr (cutV ws (min y.sc.length 6)) (cutV wf (min y.fg.length 18))) 28) :: .blk b5 (.cells (ndArr r.me r.pr (cutV vs (min n.sc.length 6)) (cutV vf (min n.fg.length 18))) 28) :: E9) _ := s
      refine s_pure h (ru_val (.int .i64 ((min nos.length 20 : Nat) : Int)) (ru_min (h.ev rfl) (h.ev rfl)) (congrArg (Value.int .i64) (by split <;> omega))) rfl ?_; intro f h
      exact s_nil ⟨_, oc_out 51 rfl (h.holds 51 _ rfl), rfl, s⟩
    · intro f9 w2 vl6 E9 hs9 hd9 hl hF s
      have e48 : f9.tmps.getD 48 undef = vn := (oc_get hl 48 1 (by kernel_rfl) (by kernel_rfl)).trans (hF 1 (by decide))
      have e51 : f9.tmps.getD 51 undef = .int .i64 ((min nos.length 20 : Nat) : Int) := (oc_get hl 51 4 (by kernel_rfl) (by kernel_rfl)).trans (hF 4 (by decide))
      have h := fin_slot [(48, vn), (51, .int .i64 ((min nos.length 20 : Nat) : Int))] (hs9.trans h.size) (hd9.trans h.defers) (holds_lk ⟨e48, e51, trivial⟩)
      replace s : St w (.blk b13 (.cells (ndArr (foN r q).me (foN r q).pr bu bv) 28) :: .sl bu 25 33 (foN r q).sc.length (mbCells (foN r q).sc) :: .sl bv 25 33 (foN r q).fg.length (mbCells (foN r q).fg) :: .blk b11 (.cells (ndArr (ntN r m).me (ntN r m).pr au av) 28) :: .sl au 25 33 (ntN r m).sc.length (mbCells (ntN r m).sc) :: .sl av 25 33 (ntN r m).fg.length (mbCells (ntN r m).fg) :: .blk b9 (.cells (idArr x) 23) :: .blk b7 (.cells ((mbArr m)) 25) :: .blk b6 (.cells (ndArr q.me q.pr (cutV ws (min y.sc.length 6)) (cutV wf (min y.fg.length 18))) 28) :: .blk b5 (.cells (ndArr r.me r.pr (cutV vs (min n.sc.length 6)) (cutV vf (min n.fg.length 18))) 28) :: E9) _ := s
      refine s_pure h (ru_slice_hiZ (hN.keep s.ext) (min nos.length 20) Try.underlying50 szo3 (h.ev rfl) (h.ev rfl) (rfl) (by omega)) rfl ?_; intro f h
      exact s_nil ⟨_, oc_out 52 rfl (h.holds 52 _ rfl), rfl, s⟩
    · intro f9 w2 vl6 E9 hs9 hd9 hl hF s
      have e47 : f9.tmps.getD 47 undef = .agg (ndArr r.me r.pr (cutV vs (min n.sc.length 6)) (cutV vf (min n.fg.length 18))) := (oc_get hl 47 0 (by kernel_rfl) (by kernel_rfl)).trans (hF 0 (by decide))
      have e52 : f9.tmps.getD 52 undef = (cutV vn (min nos.length 20)) := (oc_get hl 52 5 (by kernel_rfl) (by kernel_rfl)).trans (hF 5 (by decide))
      have h := fin_slot [(47, .agg (ndArr r.me r.pr (cutV vs (min n.sc.length 6)) (cutV vf (min n.fg.length 18)))), (52, (cutV vn (min nos.length 20)))] (hs9.trans h.size) (hd9.trans h.defers) (holds_lk ⟨e47, e52, trivial⟩)
      replace s : St w (.blk b13 (.cells (ndArr (foN r q).me (foN r q).pr bu bv) 28) :: .sl bu 25 33 (foN r q).sc.length (mbCells (foN r q).sc) :: .sl bv 25 33 (foN r q).fg.length (mbCells (foN r q).fg) :: .blk b11 (.cells (ndArr (ntN r m).me (ntN r m).pr au av) 28) :: .sl au 25 33 (ntN r m).sc.length (mbCells (ntN r m).sc) :: .sl av 25 33 (ntN r m).fg.length (mbCells (ntN r m).fg) :: .blk b9 (.cells (idArr x) 23) :: .blk b7 (.cells ((mbArr m)) 25) :: .blk b6 (.cells (ndArr q.me q.pr (cutV ws (min y.sc.length 6)) (cutV wf (min y.fg.length 18))) 28) :: .blk b5 (.cells (ndArr r.me r.pr (cutV vs (min n.sc.length 6)) (cutV vf (min n.fg.length 18))) 28) :: E9) _ := s
      refine s_call h s fnc25 (ndrop_any r (cutV vs (min n.sc.length 6)) (cutV vf (min n.fg.length 18)) ps (cutV vn (min nos.length 20)) _ (hlv.keep s.ext) (hlf.keep s.ext) (by omega) (by omega) (hlN.keep s.ext) (by omega)) rfl rfl ?_; rintro f w1 v53 ⟨cu, cv, hv9, hS⟩ hE h sq; replace s := s.add hS
      have h66 : cu = ndS 66 v53 := by rw [hv9]; exact (ndS_66 (RdZ.of_own (hS.getSl 0 rfl))).symm
      have h67 : cv = ndS 67 v53 := by rw [hv9]; exact (ndS_67 (RdZ.of_own (hS.getSl 1 rfl))).symm
      clear hS
      subst h66; subst h67
      exact s_nil ⟨_, oc_out 53 rfl (h.holds 53 _ rfl), hv9, s⟩
    · intro f9 w2 vl6 E9 hs9 hd9 hl hF s
      have e53 : f9.tmps.getD 53 undef = .tuple #[.agg (ndArr (drN r ps).me (drN r ps).pr (ndS 66 (vl6 6)) (ndS 67 (vl6 6))), .int .i64 (drE r)] := (oc_get hl 53 6 (by kernel_rfl) (by kernel_rfl)).trans (hF 6 (by decide))
      have h := fin_slot [(53, .tuple #[.agg (ndArr (drN r ps).me (drN r ps).pr (ndS 66 (vl6 6)) (ndS 67 (vl6 6))), .int .i64 (drE r)])] (hs9.trans h.size) (hd9.trans h.defers) (holds_lk ⟨e53, trivial⟩)
      replace s : St w (.blk b13 (.cells (ndArr (foN r q).me (foN r q).pr bu bv) 28) :: .sl bu 25 33 (foN r q).sc.length (mbCells (foN r q).sc) :: .sl bv 25 33 (foN r q).fg.length (mbCells (foN r q).fg) :: .blk b11 (.cells (ndArr (ntN r m).me (ntN r m).pr au av) 28) :: .sl au 25 33 (ntN r m).sc.length (mbCells (ntN r m).sc) :: .sl av 25 33 (ntN r m).fg.length (mbCells (ntN r m).fg) :: .blk b9 (.cells (idArr x) 23) :: .blk b7 (.cells ((mbArr m)) 25) :: .blk b6 (.cells (ndArr q.me q.pr (cutV ws (min y.sc.length 6)) (cutV wf (min y.fg.length 18))) 28) :: .blk b5 (.cells (ndArr r.me r.pr (cutV vs (min n.sc.length 6)) (cutV vf (min n.fg.length 18))) 28) :: E9) _ := s
      refine s_pure h (ru_move (h.ev rfl)) rfl ?_; intro f h
      exact s_nil ⟨_, oc_out 46 rfl (h.holds 46 _ rfl), rfl, s⟩
    · intro f9 w2 vl6 E9 hs9 hd9 hl hF s
      have e46 : f9.tmps.getD 46 undef = .tuple #[.agg (ndArr (drN r ps).me (drN r ps).pr (ndS 66 (vl6 6)) (ndS 67 (vl6 6))), .int .i64 (drE r)] := (oc_get hl 46 7 (by kernel_rfl) (by kernel_rfl)).trans (hF 7 (by decide))
      have h := fin_slot [(46, .tuple #[.agg (ndArr (drN r ps).me (drN r ps).pr (ndS 66 (vl6 6)) (ndS 67 (vl6 6))), .int .i64 (drE r)])] (hs9.trans h.size) (hd9.trans h.defers) (holds_lk ⟨e46, trivial⟩)
      replace s : St w (.blk b13 (.cells (ndArr (foN r q).me (foN r q).pr bu bv) 28) :: .sl bu 25 33 (foN r q).sc.length (mbCells (foN r q).sc) :: .sl bv 25 33 (foN r q).fg.length (mbCells (foN r q).fg) :: .blk b11 (.cells (ndArr (ntN r m).me (ntN r m).pr au av) 28) :: .sl au 25 33 (ntN r m).sc.length (mbCells (ntN r m).sc) :: .sl av 25 33 (ntN r m).fg.length (mbCells (ntN r m).fg) :: .blk b9 (.cells (idArr x) 23) :: .blk b7 (.cells ((mbArr m)) 25) :: .blk b6 (.cells (ndArr q.me q.pr (cutV ws (min y.sc.length 6)) (cutV wf (min y.fg.length 18))) 28) :: .blk b5 (.cells (ndArr r.me r.pr (cutV vs (min n.sc.length 6)) (cutV vf (min n.fg.length 18))) 28) :: E9) _ := s
      refine s_pure h (ru_extract (h.ev rfl) rfl) rfl ?_; intro f h
      exact s_nil ⟨_, oc_out 54 rfl (h.holds 54 _ rfl), rfl, s⟩
    · intro f9 w2 vl6 E9 hs9 hd9 hl hF s
      have e46 : f9.tmps.getD 46 undef = .tuple #[.agg (ndArr (drN r ps).me (drN r ps).pr (ndS 66 (vl6 6)) (ndS 67 (vl6 6))), .int .i64 (drE r)] := (oc_get hl 46 7 (by kernel_rfl) (by kernel_rfl)).trans (hF 7 (by decide))
      have h := fin_slot [(46, .tuple #[.agg (ndArr (drN r ps).me (drN r ps).pr (ndS 66 (vl6 6)) (ndS 67 (vl6 6))), .int .i64 (drE r)])] (hs9.trans h.size) (hd9.trans h.defers) (holds_lk ⟨e46, trivial⟩)
      replace s : St w (.blk b13 (.cells (ndArr (foN r q).me (foN r q).pr bu bv) 28) :: .sl bu 25 33 (foN r q).sc.length (mbCells (foN r q).sc) :: .sl bv 25 33 (foN r q).fg.length (mbCells (foN r q).fg) :: .blk b11 (.cells (ndArr (ntN r m).me (ntN r m).pr au av) 28) :: .sl au 25 33 (ntN r m).sc.length (mbCells (ntN r m).sc) :: .sl av 25 33 (ntN r m).fg.length (mbCells (ntN r m).fg) :: .blk b9 (.cells (idArr x) 23) :: .blk b7 (.cells ((mbArr m)) 25) :: .blk b6 (.cells (ndArr q.me q.pr (cutV ws (min y.sc.length 6)) (cutV wf (min y.fg.length 18))) 28) :: .blk b5 (.cells (ndArr r.me r.pr (cutV vs (min n.sc.length 6)) (cutV vf (min n.fg.length 18))) 28) :: E9) _ := s
      refine s_pure h (ru_extract (h.ev rfl) rfl) rfl ?_; intro f h
      exact s_nil ⟨_, oc_out 55 rfl (h.holds 55 _ rfl), rfl, s⟩
    · intro f9 w2 vl6 E9 hs9 hd9 hl hF s
      have h := fin_slot [] (hs9.trans h.size) (hd9.trans h.defers) (holds_lk trivial)
      replace s : St w (.blk b13 (.cells (ndArr (foN r q).me (foN r q).pr bu bv) 28) :: .sl bu 25 33 (foN r q).sc.length (mbCells (foN r q).sc) :: .sl bv 25 33 (foN r q).fg.length (mbCells (foN r q).fg) :: .blk b11 (.cells (ndArr (ntN r m).me (ntN r m).pr au av) 28) :: .sl au 25 33 (ntN r m).sc.length (mbCells (ntN r m).sc) :: .sl av 25 33 (ntN r m).fg.length (mbCells (ntN r m).fg) :: .blk b9 (.cells (idArr x) 23) :: .blk b7 (.cells ((mbArr m)) 25) :: .blk b6 (.cells (ndArr q.me q.pr (cutV ws (min y.sc.length 6)) (cutV wf (min y.fg.length 18))) 28) :: .blk b5 (.cells (ndArr r.me r.pr (cutV vs (min n.sc.length 6)) (cutV vf (min n.fg.length 18))) 28) :: E9) _ := s
      refine s_alloc (ndArr zMb zMb nilV nilV) h s zero28 rfl rfl ?_; intro f w1 b15 h s
      exact s_nil ⟨_, oc_out 15 rfl (h.holds 15 _ rfl), ⟨_, rfl⟩, s⟩
    · intro f9 w2 vl6 E9 hs9 hd9 hl hF s
      obtain ⟨b15, hb15⟩ : ∃ b, vl6 10 = .pointer (some ⟨b, 0, none⟩) := hF 10 (by decide)
      have e15 : f9.tmps.getD 15 undef = .pointer (some ⟨b15, 0, none⟩) := (oc_get hl 15 10 (by kernel_rfl) (by kernel_rfl)).trans hb15
      have e54 : f9.tmps.getD 54 undef = .agg (ndArr (drN r ps).me (drN r ps).pr (ndS 66 (vl6 6)) (ndS 67 (vl6 6))) := (oc_get hl 54 8 (by kernel_rfl) (by kernel_rfl)).trans (hF 8 (by decide))
      have h := fin_slot [(15, .pointer (some ⟨b15, 0, none⟩)), (54, .agg (ndArr (drN r ps).me (drN r ps).pr (ndS 66 (vl6 6)) (ndS 67 (vl6 6))))] (hs9.trans h.size) (hd9.trans h.defers) (holds_lk ⟨e15, e54, trivial⟩)
      replace s : St w (.blk (pbk (vl6 10)) (.cells (ndArr zMb zMb nilV nilV) 28) :: .blk b13 (.cells (ndArr (foN r q).me (foN r q).pr bu bv) 28) :: .sl bu 25 33 (foN r q).sc.length (mbCells (foN r q).sc) :: .sl bv 25 33 (foN r q).fg.length (mbCells (foN r q).fg) :: .blk b11 (.cells (ndArr (ntN r m).me (ntN r m).pr au av) 28) :: .sl au 25 33 (ntN r m).sc.length (mbCells (ntN r m).sc) :: .sl av 25 33 (ntN r m).fg.length (mbCells (ntN r m).fg) :: .blk b9 (.cells (idArr x) 23) :: .blk b7 (.cells ((mbArr m)) 25) :: .blk b6 (.cells (ndArr q.me q.pr (cutV ws (min y.sc.length 6)) (cutV wf (min y.fg.length 18))) 28) :: .blk b5 (.cells (ndArr r.me r.pr (cutV vs (min n.sc.length 6)) (cutV vf (min n.fg.length 18))) 28) :: E9) _ := s
      rw [hb15] at s
      replace s : St w (.blk b15 (.cells (ndArr zMb zMb nilV nilV) 28) :: .blk b13 (.cells (ndArr (foN r q).me (foN r q).pr bu bv) 28) :: .sl bu 25 33 (foN r q).sc.length (mbCells (foN r q).sc) :: .sl bv 25 33 (foN r q).fg.length (mbCells (foN r q).fg) :: .blk b11 (.cells (ndArr (ntN r m).me (ntN r m).pr au av) 28) :: .sl au 25 33 (ntN r m).sc.length (mbCells (ntN r m).sc) :: .sl av 25 33 (ntN r m).fg.length (mbCells (ntN r m).fg) :: .blk b9 (.cells (idArr x) 23) :: .blk b7 (.cells ((mbArr m)) 25) :: .blk b6 (.cells (ndArr q.me q.pr (cutV ws (min y.sc.length 6)) (cutV wf (min y.fg.length 18))) 28) :: .blk b5 (.cells (ndArr r.me r.pr (cutV vs (min n.sc.length 6)) (cutV vf (min n.fg.length 18))) 28) :: E9) _ := s
      refine s_store_row 0 h s row28 rfl rfl rfl (ndArr_size _ _ _ _) (ndArr_size _ _ _ _) (ndArr_ones (ndS_one _ _) (ndS_one _ _)) ?_; intro w1 s
      refine s_nil ⟨undef, oc_none rfl, trivial, ?_⟩
      have z := s
      rw [← show pbk (vl6 10) = b15 from by rw [hb15]; rfl] at z
      exact z
    · intro f9 w2 vl6 E9 hs9 hd9 hl hF s
      have e55 : f9.tmps.getD 55 undef = .int .i64 (drE r) := (oc_get hl 55 9 (by kernel_rfl) (by kernel_rfl)).trans (hF 9 (by decide))
      have h := fin_slot [(55, .int .i64 (drE r))] (hs9.trans h.size) (hd9.trans h.defers) (holds_lk ⟨e55, trivial⟩)
      replace s : St w (.blk b13 (.cells (ndArr (foN r q).me (foN r q).pr bu bv) 28) :: .sl bu 25 33 (foN r q).sc.length (mbCells (foN r q).sc) :: .sl bv 25 33 (foN r q).fg.length (mbCells (foN r q).fg) :: .blk b11 (.cells (ndArr (ntN r m).me (ntN r m).pr au av) 28) :: .sl au 25 33 (ntN r m).sc.length (mbCells (ntN r m).sc) :: .sl av 25 33 (ntN r m).fg.length (mbCells (ntN r m).fg) :: .blk b9 (.cells (idArr x) 23) :: .blk b7 (.cells ((mbArr m)) 25) :: .blk b6 (.cells (ndArr q.me q.pr (cutV ws (min y.sc.length 6)) (cutV wf (min y.fg.length 18))) 28) :: .blk b5 (.cells (ndArr r.me r.pr (cutV vs (min n.sc.length 6)) (cutV vf (min n.fg.length 18))) 28) :: E9) _ := s
      refine s_pure h (ru_assign (h.ev rfl)) rfl ?_; intro f h
      exact s_nil ⟨_, oc_out 16 rfl (h.holds 16 _ rfl), rfl, s⟩
    intro f w1 vl6 hs9 hd9 hv hr hF s
    obtain ⟨b15, hb15⟩ : ∃ b, vl6 10 = .pointer (some ⟨b, 0, none⟩) := hF 10 (by kernel_rfl)
    replace h := oc_sl (ops := _) [(47, .agg (ndArr r.me r.pr (cutV vs (min n.sc.length 6)) (cutV vf (min n.fg.length 18)))), (48, vn), (49, vn), (50, .int .i64 (nos.length : Int)), (51, .int .i64 ((min nos.length 20 : Nat) : Int)), (52, (cutV vn (min nos.length 20))), (53, .tuple #[.agg (ndArr (drN r ps).me (drN r ps).pr (ndS 66 (vl6 6)) (ndS 67 (vl6 6))), .int .i64 (drE r)]), (46, .tuple #[.agg (ndArr (drN r ps).me (drN r ps).pr (ndS 66 (vl6 6)) (ndS 67 (vl6 6))), .int .i64 (drE r)]), (54, .agg (ndArr (drN r ps).me (drN r ps).pr (ndS 66 (vl6 6)) (ndS 67 (vl6 6)))), (55, .int .i64 (drE r)), (15, .pointer (some ⟨b15, 0, none⟩)), (16, .int .i64 (drE r))] h hs9 hd9 hr ⟨(hv 0 47 rfl).trans (hF 0 (by kernel_rfl)), (hv 1 48 rfl).trans (hF 1 (by kernel_rfl)), (hv 2 49 rfl).trans (hF 2 (by kernel_rfl)), (hv 3 50 rfl).trans (hF 3 (by kernel_rfl)), (hv 4 51 rfl).trans (hF 4 (by kernel_rfl)), (hv 5 52 rfl).trans (hF 5 (by kernel_rfl)), (hv 6 53 rfl).trans (hF 6 (by kernel_rfl)), (hv 7 46 rfl).trans (hF 7 (by kernel_rfl)), (hv 8 54 rfl).trans (hF 8 (by kernel_rfl)), (hv 9 55 rfl).trans (hF 9 (by kernel_rfl)), (hv 10 15 rfl).trans hb15, (hv 12 16 rfl).trans (hF 12 (by kernel_rfl)), trivial⟩ (by kernel_rfl)
    replace s : St w [.sl (ndS 66 (vl6 6)) 25 33 (drN r ps).sc.length (mbCells (drN r ps).sc), .sl (ndS 67 (vl6 6)) 25 33 (drN r ps).fg.length (mbCells (drN r ps).fg), .blk (pbk (vl6 10)) (.cells (ndArr (drN r ps).me (drN r ps).pr (ndS 66 (vl6 6)) (ndS 67 (vl6 6))) 28), .blk b13 (.cells (ndArr (foN r q).me (foN r q).pr bu bv) 28), .sl bu 25 33 (foN r q).sc.length (mbCells (foN r q).sc), .sl bv 25 33 (foN r q).fg.length (mbCells (foN r q).fg), .blk b11 (.cells (ndArr (ntN r m).me (ntN r m).pr au av) 28), .sl au 25 33 (ntN r m).sc.length (mbCells (ntN r m).sc), .sl av 25 33 (ntN r m).fg.length (mbCells (ntN r m).fg), .blk b9 (.cells (idArr x) 23), .blk b7 (.cells ((mbArr m)) 25), .blk b6 (.cells (ndArr q.me q.pr (cutV ws (min y.sc.length 6)) (cutV wf (min y.fg.length 18))) 28), .blk b5 (.cells (ndArr r.me r.pr (cutV vs (min n.sc.length 6)) (cutV vf (min n.fg.length 18))) 28)] _ := s
    rw [hb15] at s
    replace s : St w [.sl (ndS 66 (vl6 6)) 25 33 (drN r ps).sc.length (mbCells (drN r ps).sc), .sl (ndS 67 (vl6 6)) 25 33 (drN r ps).fg.length (mbCells (drN r ps).fg), .blk b15 (.cells (ndArr (drN r ps).me (drN r ps).pr (ndS 66 (vl6 6)) (ndS 67 (vl6 6))) 28), .blk b13 (.cells (ndArr (foN r q).me (foN r q).pr bu bv) 28), .sl bu 25 33 (foN r q).sc.length (mbCells (foN r q).sc), .sl bv 25 33 (foN r q).fg.length (mbCells (foN r q).fg), .blk b11 (.cells (ndArr (ntN r m).me (ntN r m).pr au av) 28), .sl au 25 33 (ntN r m).sc.length (mbCells (ntN r m).sc), .sl av 25 33 (ntN r m).fg.length (mbCells (ntN r m).fg), .blk b9 (.cells (idArr x) 23), .blk b7 (.cells ((mbArr m)) 25), .blk b6 (.cells (ndArr q.me q.pr (cutV ws (min y.sc.length 6)) (cutV wf (min y.fg.length 18))) 28), .blk b5 (.cells (ndArr r.me r.pr (cutV vs (min n.sc.length 6)) (cutV vf (min n.fg.length 18))) 28)] _ := s
    refine hK8 _ _ ?_
    refine c_seq fun K9 hK9 => ?_
    refine c_region ?_
    refine s_load_row 12 h s row28 rfl rfl (ndArr_size _ _ _ _) rfl ?_; intro f h
    refine s_load_row 10 h s row25 rfl rfl (mbArr_size _) rfl ?_; intro f h
    refine s_call h s fnc26 (npoint_any r (cutV vs (min n.sc.length 6)) (cutV vf (min n.fg.length 18)) m _ (hlv.keep s.ext) (hlf.keep s.ext) (by omega) (by omega)) rfl rfl ?_; rintro f w1 v59 ⟨du, dv, rfl, hS⟩ hE h sq; replace s := s.add hS; clear hS
    refine s_pure h (ru_move (h.ev rfl)) rfl ?_; intro f h
    refine s_pure h (ru_extract (h.ev rfl) rfl) rfl ?_; intro f h
    refine s_pure h (ru_extract (h.ev rfl) rfl) rfl ?_; intro f h
    refine s_alloc (ndArr zMb zMb nilV nilV) h s zero28 rfl rfl ?_; intro f w1 b17 h s
    refine s_store_row 0 h s row28 rfl rfl rfl (ndArr_size _ _ _ _) (ndArr_size _ _ _ _) (ndArr_ones (own_one (s.getSl 1 rfl)) (own_one (s.getSl 2 rfl))) ?_; intro w1 s
    refine s_pure h (ru_assign (h.ev rfl)) rfl ?_; intro f h
    refine s_nil ?_
    refine hK9 _ _ ?_
    refine c_seq fun K10 hK10 => ?_
    refine c_seq fun K11 hK11 => ?_
    refine c_region ?_
    have hst4 := four_all (Q := fun x9 => RN x9.1 ∧ x9.1.me = r.me) (a := ((ntN r m), au, av)) (b := ((foN r q), bu, bv)) (c := ((drN r ps), (ndS 66 (vl6 6)), (ndS 67 (vl6 6)))) (d := ((ptN r m), du, dv)) (fun h => nt_stay h) (fun h => fo_stay h) (fun h => dr_stay (nos := ps) h) (fun h => pt_stay h)
    refine s_load_row 9 h s row28 rfl rfl (ndArr_size _ _ _ _) rfl ?_; intro f h
    refine s_load_row 6 h s row28 rfl rfl (ndArr_size _ _ _ _) rfl ?_; intro f h
    refine s_load_row 5 h s row28 rfl rfl (ndArr_size _ _ _ _) rfl ?_; intro f h
    refine s_load_row 0 h s row28 rfl rfl (ndArr_size _ _ _ _) rfl ?_; intro f h
    refine s_bslice (vs := [.agg (ndArr (ntN r m).me (ntN r m).pr au av), .agg (ndArr (foN r q).me (foN r q).pr bu bv), .agg (ndArr (drN r ps).me (drN r ps).pr (ndS 66 (vl6 6)) (ndS 67 (vl6 6))), .agg (ndArr (ptN r m).me (ptN r m).pr du dv)]) [.tmp 62, .tmp 63, .tmp 64, .tmp 65] h s Try.underlying55 elm28 rfl rfl (by intro v hv9; simp only [List.mem_cons, List.not_mem_nil, or_false] at hv9; rcases hv9 with rfl | rfl | rfl | rfl <;> exact ndArr_size _ _ _ _) rfl rfl rfl ?_; intro f w1 v66 h s
    replace s := s.resl (m := ([((ntN r m), au, av), ((foN r q), bu, bv), ((drN r ps), (ndS 66 (vl6 6)), (ndS 67 (vl6 6))), ((ptN r m), du, dv)] : List N3).length) (ys := n3Cells ([((ntN r m), au, av), ((foN r q), bu, bv), ((drN r ps), (ndS 66 (vl6 6)), (ndS 67 (vl6 6))), ((ptN r m), du, dv)] : List N3)) 0 rfl rfl (by simp [n3Cells, n3L, ndArr, Value.cells])
    refine s_len_sl 0 h s Try.underlying55 rfl rfl rfl ?_; intro f h
    refine s_pure h (ru_move (h.ev rfl)) rfl ?_; intro f h
    refine s_nil ?_
    refine hK11 _ _ ?_
    refine wpIn_block ?_
    refine wpIn_loop_ghost (fun nn aa ww => ∃ k : Nat, Sl 158 aa [(0, .agg (ndArr n.me n.pr vs vf)), (1, .agg (ndArr y.me y.pr ws wf)), (2, .agg (mbArr m)), (3, vn), (4, idV x), (5, .pointer (some ⟨b5, 0, none⟩)), (6, .pointer (some ⟨b6, 0, none⟩)), (7, .pointer (some ⟨b7, 0, none⟩)), (9, .pointer (some ⟨b9, 0, none⟩)), (11, .pointer (some ⟨b11, 0, none⟩)), (13, .pointer (some ⟨b13, 0, none⟩)), (15, .pointer (some ⟨b15, 0, none⟩)), (17, .pointer (some ⟨b17, 0, none⟩)), (66, v66), (67, .int .i64 (([((ntN r m), au, av), ((foN r q), bu, bv), ((drN r ps), (ndS 66 (vl6 6)), (ndS 67 (vl6 6))), ((ptN r m), du, dv)] : List N3).length : Int)), (68, .int .i64 (k : Int)), (12, .int .i64 (ntE r m)), (14, .int .i64 (foE r q)), (16, .int .i64 (drE r)), (18, .int .i64 (ptE r m))] ∧ St w [.sl v66 28 68 ([((ntN r m), au, av), ((foN r q), bu, bv), ((drN r ps), (ndS 66 (vl6 6)), (ndS 67 (vl6 6))), ((ptN r m), du, dv)] : List N3).length (n3Cells ([((ntN r m), au, av), ((foN r q), bu, bv), ((drN r ps), (ndS 66 (vl6 6)), (ndS 67 (vl6 6))), ((ptN r m), du, dv)] : List N3)), .blk b17 (.cells (ndArr (ptN r m).me (ptN r m).pr du dv) 28), .sl du 25 33 (ptN r m).sc.length (mbCells (ptN r m).sc), .sl dv 25 33 (ptN r m).fg.length (mbCells (ptN r m).fg), .sl (ndS 66 (vl6 6)) 25 33 (drN r ps).sc.length (mbCells (drN r ps).sc), .sl (ndS 67 (vl6 6)) 25 33 (drN r ps).fg.length (mbCells (drN r ps).fg), .blk b15 (.cells (ndArr (drN r ps).me (drN r ps).pr (ndS 66 (vl6 6)) (ndS 67 (vl6 6))) 28), .blk b13 (.cells (ndArr (foN r q).me (foN r q).pr bu bv) 28), .sl bu 25 33 (foN r q).sc.length (mbCells (foN r q).sc), .sl bv 25 33 (foN r q).fg.length (mbCells (foN r q).fg), .blk b11 (.cells (ndArr (ntN r m).me (ntN r m).pr au av) 28), .sl au 25 33 (ntN r m).sc.length (mbCells (ntN r m).sc), .sl av 25 33 (ntN r m).fg.length (mbCells (ntN r m).fg), .blk b9 (.cells (idArr x) 23), .blk b7 (.cells ((mbArr m)) 25), .blk b6 (.cells (ndArr q.me q.pr (cutV ws (min y.sc.length 6)) (cutV wf (min y.fg.length 18))) 28), .blk b5 (.cells (ndArr r.me r.pr (cutV vs (min n.sc.length 6)) (cutV vf (min n.fg.length 18))) 28)] ww ∧ nn = ([((ntN r m), au, av), ((foN r q), bu, bv), ((drN r ps), (ndS 66 (vl6 6)), (ndS 67 (vl6 6))), ((ptN r m), du, dv)] : List N3).length - k ∧ k ≤ ([((ntN r m), au, av), ((foN r q), bu, bv), ((drN r ps), (ndS 66 (vl6 6)), (ndS 67 (vl6 6))), ((ptN r m), du, dv)] : List N3).length) (([((ntN r m), au, av), ((foN r q), bu, bv), ((drN r ps), (ndS 66 (vl6 6)), (ndS 67 (vl6 6))), ((ptN r m), du, dv)] : List N3).length - (0)) ⟨0, h.only ⟨rfl, rfl, rfl, rfl, rfl, rfl, rfl, rfl, rfl, rfl, rfl, rfl, rfl, rfl, rfl, slot_int rfl (by omega), rfl, rfl, rfl, rfl, trivial⟩, s.as ⟨rfl, rfl, rfl, rfl, rfl, rfl, rfl, rfl, rfl, rfl, rfl, rfl, rfl, rfl, rfl, rfl, rfl, trivial⟩, rfl, Nat.zero_le _⟩ ?_
    rintro _ f w1 ⟨k, h, s, hnn, hp0⟩
    refine c_seq fun K12 hK12 => ?_
    refine c_region ?_
    refine s_pure h (ru_lss (h.ev rfl) (h.ev rfl)) rfl ?_; intro f h
    refine s_nil ?_
    refine hK12 _ _ ?_
    refine c_seq fun K13 hK13 => ?_
    refine c_cond h rfl (fun hc => ?_) (fun hc => ?_)
    · replace hc := of_decide_eq_true hc
      refine wpIn_skip ?_
      refine hK13 _ _ ?_
      refine c_seq fun K14 hK14 => ?_
      refine wpIn_block ?_
      refine c_seq fun K15 hK15 => ?_
      refine c_region ?_
      refine s_pure h (ru_move (h.ev rfl)) rfl ?_; intro f h
      have hk4 : k < 4 := (show k < ([((ntN r m), au, av), ((foN r q), bu, bv), ((drN r ps), (ndS 66 (vl6 6)), (ndS 67 (vl6 6))), ((ptN r m), du, dv)] : List N3).length by omega)
      refine s_pure h (ru_ixz (RdZ.of_own (s.getSl 0 rfl)) (k) Try.underlying55 szo28 (h.ev rfl) (h.ev rfl) (by omega) (by omega)) rfl ?_; intro f h
      refine s_load_at ((RdZ.of_own (s.getSl 0 rfl)).el (k) (by omega) (by decide) (D := ndArr (([((ntN r m), au, av), ((foN r q), bu, bv), ((drN r ps), (ndS 66 (vl6 6)), (ndS 67 (vl6 6))), ((ptN r m), du, dv)] : List N3).getD k z3).1.me (([((ntN r m), au, av), ((foN r q), bu, bv), ((drN r ps), (ndS 66 (vl6 6)), (ndS 67 (vl6 6))), ((ptN r m), du, dv)] : List N3).getD k z3).1.pr (([((ntN r m), au, av), ((foN r q), bu, bv), ((drN r ps), (ndS 66 (vl6 6)), (ndS 67 (vl6 6))), ((ptN r m), du, dv)] : List N3).getD k z3).2.1 (([((ntN r m), au, av), ((foN r q), bu, bv), ((drN r ps), (ndS 66 (vl6 6)), (ndS 67 (vl6 6))), ((ptN r m), du, dv)] : List N3).getD k z3).2.2) (n3_el ([((ntN r m), au, av), ((foN r q), bu, bv), ((drN r ps), (ndS 66 (vl6 6)), (ndS 67 (vl6 6))), ((ptN r m), du, dv)] : List N3) k hk4)) h row28 rfl (ndArr_size _ _ _ _) rfl ?_; intro f h
      refine s_alloc (ndArr zMb zMb nilV nilV) h s zero28 rfl rfl ?_; intro f w1 b20 h s
      refine s_pure h (ru_assign (h.ev rfl)) rfl ?_; intro f h
      refine s_store_row 0 h s row28 rfl rfl rfl (ndArr_size _ _ _ _) (ndArr_size _ _ _ _) (ndArr_ones (rd_one ((four_rd (a := ((ntN r m), au, av)) (b := ((foN r q), bu, bv)) (c := ((drN r ps), (ndS 66 (vl6 6)), (ndS 67 (vl6 6)))) (d := ((ptN r m), du, dv)) ⟨(RdZ.of_own (s.getSl 12 rfl)), (RdZ.of_own (s.getSl 13 rfl))⟩ ⟨(RdZ.of_own (s.getSl 9 rfl)), (RdZ.of_own (s.getSl 10 rfl))⟩ ⟨(RdZ.of_own (s.getSl 5 rfl)), (RdZ.of_own (s.getSl 6 rfl))⟩ ⟨(RdZ.of_own (s.getSl 3 rfl)), (RdZ.of_own (s.getSl 4 rfl))⟩ k hk4).1)) (rd_one ((four_rd (a := ((ntN r m), au, av)) (b := ((foN r q), bu, bv)) (c := ((drN r ps), (ndS 66 (vl6 6)), (ndS 67 (vl6 6)))) (d := ((ptN r m), du, dv)) ⟨(RdZ.of_own (s.getSl 12 rfl)), (RdZ.of_own (s.getSl 13 rfl))⟩ ⟨(RdZ.of_own (s.getSl 9 rfl)), (RdZ.of_own (s.getSl 10 rfl))⟩ ⟨(RdZ.of_own (s.getSl 5 rfl)), (RdZ.of_own (s.getSl 6 rfl))⟩ ⟨(RdZ.of_own (s.getSl 3 rfl)), (RdZ.of_own (s.getSl 4 rfl))⟩ k hk4).2))) ?_; intro w1 s
      refine s_nil ?_
      refine hK15 _ _ ?_
      refine c_seq fun K16 hK16 => ?_
      refine c_seq fun K17 hK17 => ?_
      cases e0 : (decide (([ntE r m, foE r q, drE r, ptE r m] : List Int).getD k 0 = 0) : Bool)
      · skip
        refine c_region ?_
        refine s_pure h (ru_move (h.ev rfl)) rfl ?_; intro f h
        refine s_pure h (ru_move (h.ev rfl)) rfl ?_; intro f h
        refine s_pure h (ru_move (h.ev rfl)) rfl ?_; intro f h
        refine s_pure h (ru_move (h.ev rfl)) rfl ?_; intro f h
        refine s_bslice (vs := [.int .i64 (ntE r m), .int .i64 (foE r q), .int .i64 (drE r), .int .i64 (ptE r m)]) [.tmp 73, .tmp 74, .tmp 75, .tmp 76] h s Try.underlying56 elm30 rfl rfl (by simp [Value.cells]) rfl rfl rfl ?_; intro f w1 v77 h s
        replace s := s.resl (m := ([ntE r m, foE r q, drE r, ptE r m] : List Int).length) (ys := ([ntE r m, foE r q, drE r, ptE r m] : List Int).map (Value.int .i64)) 0 rfl rfl (by simp [Value.cells])
        refine s_pure h (ru_move (h.ev rfl)) rfl ?_; intro f h
        refine s_pure h (ru_ixz (RdZ.of_own (s.getSl 0 rfl)) (k) Try.underlying56 szo30 (h.ev rfl) (h.ev rfl) (by omega) (by omega)) rfl ?_; intro f h
        refine s_load_at1 ((RdZ.of_own (s.getSl 0 rfl)).el1 (k) (V := .int .i64 (([ntE r m, foE r q, drE r, ptE r m] : List Int).getD k 0)) (ns_el ([ntE r m, foE r q, drE r, ptE r m] : List Int) k hk4)) h one30 rfl rfl ?_; intro f h
        refine s_pure h (ru_val (.bool true) (ru_neq (h.ev rfl) (h.ev rfl)) (congrArg Value.bool (decide_eq_true (of_decide_eq_false e0)))) rfl ?_; intro f h
        refine s_nil ?_
        refine hK17 _ _ ?_
        refine wpIn_cond_true (h.ev rfl) ?_
        refine wpIn_exit ?_
        refine t_exit ?_
        refine b_exit ?_
        refine hK14 _ _ ?_
        refine c_region ?_
        refine s_pure h (ru_add (h.ev rfl) (h.ev rfl) (by omega)) rfl ?_; intro f h
        refine s_pure h (ru_move (h.ev rfl)) rfl ?_; intro f h
        refine s_nil ?_
        refine t_norm ?_
        exact ⟨_, by omega, ⟨k + 1, h.only ⟨rfl, rfl, rfl, rfl, rfl, rfl, rfl, rfl, rfl, rfl, rfl, rfl, rfl, rfl, rfl, slot_int rfl (by omega), rfl, rfl, rfl, rfl, trivial⟩, St.as (s.pick _ (List.sublist_append_right [_, _] _)) ⟨rfl, rfl, rfl, rfl, rfl, rfl, rfl, rfl, rfl, rfl, rfl, rfl, rfl, rfl, rfl, rfl, rfl, trivial⟩, rfl, by omega⟩⟩
      · skip
        refine c_region ?_
        refine s_pure h (ru_move (h.ev rfl)) rfl ?_; intro f h
        refine s_pure h (ru_move (h.ev rfl)) rfl ?_; intro f h
        refine s_pure h (ru_move (h.ev rfl)) rfl ?_; intro f h
        refine s_pure h (ru_move (h.ev rfl)) rfl ?_; intro f h
        refine s_bslice (vs := [.int .i64 (ntE r m), .int .i64 (foE r q), .int .i64 (drE r), .int .i64 (ptE r m)]) [.tmp 73, .tmp 74, .tmp 75, .tmp 76] h s Try.underlying56 elm30 rfl rfl (by simp [Value.cells]) rfl rfl rfl ?_; intro f w1 v77 h s
        replace s := s.resl (m := ([ntE r m, foE r q, drE r, ptE r m] : List Int).length) (ys := ([ntE r m, foE r q, drE r, ptE r m] : List Int).map (Value.int .i64)) 0 rfl rfl (by simp [Value.cells])
        refine s_pure h (ru_move (h.ev rfl)) rfl ?_; intro f h
        refine s_pure h (ru_ixz (RdZ.of_own (s.getSl 0 rfl)) (k) Try.underlying56 szo30 (h.ev rfl) (h.ev rfl) (by omega) (by omega)) rfl ?_; intro f h
        refine s_load_at1 ((RdZ.of_own (s.getSl 0 rfl)).el1 (k) (V := .int .i64 (([ntE r m, foE r q, drE r, ptE r m] : List Int).getD k 0)) (ns_el ([ntE r m, foE r q, drE r, ptE r m] : List Int) k hk4)) h one30 rfl rfl ?_; intro f h
        refine s_pure h (ru_val (.bool false) (ru_neq (h.ev rfl) (h.ev rfl)) (congrArg Value.bool (decide_eq_false (not_not_intro (of_decide_eq_true e0))))) rfl ?_; intro f h
        refine s_nil ?_
        refine hK17 _ _ ?_
        refine wpIn_cond_false (h.ev rfl) ?_
        refine wpIn_skip ?_
        refine hK16 _ _ ?_
        refine c_seq fun K18 hK18 => ?_
        refine c_seq fun K19 hK19 => ?_
        refine c_region ?_
        have hst := hst4 k hk4 (of_decide_eq_true e0)
        refine s_load_row 1 h s row28 rfl rfl (ndArr_size _ _ _ _) rfl ?_; intro f h
        refine s_call h s fnc16 (ret_val (.bool true) (nright_any (([((ntN r m), au, av), ((foN r q), bu, bv), ((drN r ps), (ndS 66 (vl6 6)), (ndS 67 (vl6 6))), ((ptN r m), du, dv)] : List N3).getD k z3).1 (([((ntN r m), au, av), ((foN r q), bu, bv), ((drN r ps), (ndS 66 (vl6 6)), (ndS 67 (vl6 6))), ((ptN r m), du, dv)] : List N3).getD k z3).2.1 (([((ntN r m), au, av), ((foN r q), bu, bv), ((drN r ps), (ndS 66 (vl6 6)), (ndS 67 (vl6 6))), ((ptN r m), du, dv)] : List N3).getD k z3).2.2 _ (four_rd (a := ((ntN r m), au, av)) (b := ((foN r q), bu, bv)) (c := ((drN r ps), (ndS 66 (vl6 6)), (ndS 67 (vl6 6)))) (d := ((ptN r m), du, dv)) ⟨(RdZ.of_own (s.getSl 13 rfl)), (RdZ.of_own (s.getSl 14 rfl))⟩ ⟨(RdZ.of_own (s.getSl 10 rfl)), (RdZ.of_own (s.getSl 11 rfl))⟩ ⟨(RdZ.of_own (s.getSl 6 rfl)), (RdZ.of_own (s.getSl 7 rfl))⟩ ⟨(RdZ.of_own (s.getSl 4 rfl)), (RdZ.of_own (s.getSl 5 rfl))⟩ k hk4).1 (four_rd (a := ((ntN r m), au, av)) (b := ((foN r q), bu, bv)) (c := ((drN r ps), (ndS 66 (vl6 6)), (ndS 67 (vl6 6)))) (d := ((ptN r m), du, dv)) ⟨(RdZ.of_own (s.getSl 13 rfl)), (RdZ.of_own (s.getSl 14 rfl))⟩ ⟨(RdZ.of_own (s.getSl 10 rfl)), (RdZ.of_own (s.getSl 11 rfl))⟩ ⟨(RdZ.of_own (s.getSl 6 rfl)), (RdZ.of_own (s.getSl 7 rfl))⟩ ⟨(RdZ.of_own (s.getSl 4 rfl)), (RdZ.of_own (s.getSl 5 rfl))⟩ k hk4).2 (by have h9 := hst.1.len; omega) (by have h9 := hst.1.fg.1; omega)) (congrArg Value.bool (rn_iff.2 hst.1))) rfl rfl ?_; intro f w1 v9 hT hE h s; obtain rfl := hT
        refine s_pure h (ru_val (.bool false) (ru_not (h.ev rfl)) rfl) rfl ?_; intro f h
        refine s_pure h (ru_move (h.ev rfl)) rfl ?_; intro f h
        refine s_on h rfl rfl rfl ?_
        refine s_load_row 1 h s row28 rfl rfl (ndArr_size _ _ _ _) rfl ?_; intro f h
        refine s_on h rfl rfl rfl ?_
        refine s_call h s fnc15 (ret_val (.bool true) (rnright_any (([((ntN r m), au, av), ((foN r q), bu, bv), ((drN r ps), (ndS 66 (vl6 6)), (ndS 67 (vl6 6))), ((ptN r m), du, dv)] : List N3).getD k z3).1 (([((ntN r m), au, av), ((foN r q), bu, bv), ((drN r ps), (ndS 66 (vl6 6)), (ndS 67 (vl6 6))), ((ptN r m), du, dv)] : List N3).getD k z3).2.1 (([((ntN r m), au, av), ((foN r q), bu, bv), ((drN r ps), (ndS 66 (vl6 6)), (ndS 67 (vl6 6))), ((ptN r m), du, dv)] : List N3).getD k z3).2.2 _ (four_rd (a := ((ntN r m), au, av)) (b := ((foN r q), bu, bv)) (c := ((drN r ps), (ndS 66 (vl6 6)), (ndS 67 (vl6 6)))) (d := ((ptN r m), du, dv)) ⟨(RdZ.of_own (s.getSl 13 rfl)), (RdZ.of_own (s.getSl 14 rfl))⟩ ⟨(RdZ.of_own (s.getSl 10 rfl)), (RdZ.of_own (s.getSl 11 rfl))⟩ ⟨(RdZ.of_own (s.getSl 6 rfl)), (RdZ.of_own (s.getSl 7 rfl))⟩ ⟨(RdZ.of_own (s.getSl 4 rfl)), (RdZ.of_own (s.getSl 5 rfl))⟩ k hk4).1 (four_rd (a := ((ntN r m), au, av)) (b := ((foN r q), bu, bv)) (c := ((drN r ps), (ndS 66 (vl6 6)), (ndS 67 (vl6 6)))) (d := ((ptN r m), du, dv)) ⟨(RdZ.of_own (s.getSl 13 rfl)), (RdZ.of_own (s.getSl 14 rfl))⟩ ⟨(RdZ.of_own (s.getSl 10 rfl)), (RdZ.of_own (s.getSl 11 rfl))⟩ ⟨(RdZ.of_own (s.getSl 6 rfl)), (RdZ.of_own (s.getSl 7 rfl))⟩ ⟨(RdZ.of_own (s.getSl 4 rfl)), (RdZ.of_own (s.getSl 5 rfl))⟩ k hk4).2 (by have h9 := hst.1.len; omega) (by have h9 := hst.1.fg.1; omega)) (congrArg Value.bool (rn_iff.2 hst.1))) rfl rfl ?_; intro f w1 v9 hT hE h s; obtain rfl := hT
        refine s_on h rfl rfl rfl ?_
        refine s_pure h (ru_val (.bool false) (ru_not (h.ev rfl)) rfl) rfl ?_; intro f h
        refine s_pure h (ru_pick_f (h.ev rfl) (h.ev rfl)) rfl ?_; intro f h
        refine s_pure h (ru_move (h.ev rfl)) rfl ?_; intro f h
        refine s_on h rfl rfl rfl ?_
        refine s_pure h (ru_field fld28_0 (h.ev rfl)) rfl ?_; intro f h
        refine s_on h rfl rfl rfl ?_
        refine s_load_at (Has.subL (Has.of_own s 1 rfl) 0 33 (D := mbArr (([((ntN r m), au, av), ((foN r q), bu, bv), ((drN r ps), (ndS 66 (vl6 6)), (ndS 67 (vl6 6))), ((ptN r m), du, dv)] : List N3).getD k z3).1.me) (ndArr_me _ _ _ _)) h row25 rfl (mbArr_size _) rfl ?_; intro f h
        refine s_on h rfl rfl rfl ?_
        refine s_pure h (ru_field fld28_0 (h.ev rfl)) rfl ?_; intro f h
        refine s_on h rfl rfl rfl ?_
        refine s_load_at (Has.subL (Has.of_own s 18 rfl) 0 33 (D := mbArr r.me) (ndArr_me _ _ _ _)) h row25 rfl (mbArr_size _) rfl ?_; intro f h
        refine s_on h rfl rfl rfl ?_
        refine s_pure h (ru_val (.bool false) (ru_neqW (eqM _ _) (by kernel_rfl) (by decide) (h.ev rfl) (h.ev rfl) (decide ((([((ntN r m), au, av), ((foN r q), bu, bv), ((drN r ps), (ndS 66 (vl6 6)), (ndS 67 (vl6 6))), ((ptN r m), du, dv)] : List N3).getD k z3).1.me = r.me)) (mbEq _ _)) (by rw [decide_eq_true hst.2]; rfl)) rfl ?_; intro f h
        refine s_pure h (ru_pick_f (h.ev rfl) (h.ev rfl)) rfl ?_; intro f h
        refine s_nil ?_
        refine hK19 _ _ ?_
        refine wpIn_cond_false (h.ev rfl) ?_
        refine wpIn_skip ?_
        refine hK18 _ _ ?_
        refine c_seq fun K20 hK20 => ?_
        refine c_region ?_
        refine s_pure h (ru_field fld28_2 (h.ev rfl)) rfl ?_; intro f h
        refine s_load_at1 (V := (([((ntN r m), au, av), ((foN r q), bu, bv), ((drN r ps), (ndS 66 (vl6 6)), (ndS 67 (vl6 6))), ((ptN r m), du, dv)] : List N3).getD k z3).2.1) (cell_of_has (Has.of_own s 1 rfl) 66 (ndArr_sc _ _ _ _)) h one26 rfl rfl ?_; intro f h
        refine s_pure h (ru_lenZ ((four_rd (a := ((ntN r m), au, av)) (b := ((foN r q), bu, bv)) (c := ((drN r ps), (ndS 66 (vl6 6)), (ndS 67 (vl6 6)))) (d := ((ptN r m), du, dv)) ⟨(RdZ.of_own (s.getSl 13 rfl)), (RdZ.of_own (s.getSl 14 rfl))⟩ ⟨(RdZ.of_own (s.getSl 10 rfl)), (RdZ.of_own (s.getSl 11 rfl))⟩ ⟨(RdZ.of_own (s.getSl 6 rfl)), (RdZ.of_own (s.getSl 7 rfl))⟩ ⟨(RdZ.of_own (s.getSl 4 rfl)), (RdZ.of_own (s.getSl 5 rfl))⟩ k hk4).1) Try.underlying26 (h.ev rfl)) rfl ?_; intro f h
        refine s_pure h (ru_move (h.ev rfl)) rfl ?_; intro f h
        refine s_nil ?_
        refine hK20 _ _ ?_
        refine wpIn_block ?_
        refine wpIn_loop_ghost (fun nn aa ww => ∃ j : Nat, Sl 158 aa [(0, .agg (ndArr n.me n.pr vs vf)), (1, .agg (ndArr y.me y.pr ws wf)), (2, .agg (mbArr m)), (3, vn), (4, idV x), (5, .pointer (some ⟨b5, 0, none⟩)), (6, .pointer (some ⟨b6, 0, none⟩)), (7, .pointer (some ⟨b7, 0, none⟩)), (9, .pointer (some ⟨b9, 0, none⟩)), (11, .pointer (some ⟨b11, 0, none⟩)), (13, .pointer (some ⟨b13, 0, none⟩)), (15, .pointer (some ⟨b15, 0, none⟩)), (17, .pointer (some ⟨b17, 0, none⟩)), (20, .pointer (some ⟨b20, 0, none⟩)), (77, v77), (98, (([((ntN r m), au, av), ((foN r q), bu, bv), ((drN r ps), (ndS 66 (vl6 6)), (ndS 67 (vl6 6))), ((ptN r m), du, dv)] : List N3).getD k z3).2.1), (99, .int .i64 ((([((ntN r m), au, av), ((foN r q), bu, bv), ((drN r ps), (ndS 66 (vl6 6)), (ndS 67 (vl6 6))), ((ptN r m), du, dv)] : List N3).getD k z3).1.sc.length : Int)), (100, .int .i64 (j : Int)), (66, v66), (67, .int .i64 (([((ntN r m), au, av), ((foN r q), bu, bv), ((drN r ps), (ndS 66 (vl6 6)), (ndS 67 (vl6 6))), ((ptN r m), du, dv)] : List N3).length : Int)), (68, .int .i64 (k : Int)), (12, .int .i64 (ntE r m)), (14, .int .i64 (foE r q)), (16, .int .i64 (drE r)), (18, .int .i64 (ptE r m))] ∧ St w [.sl v77 30 1 ([ntE r m, foE r q, drE r, ptE r m] : List Int).length (([ntE r m, foE r q, drE r, ptE r m] : List Int).map (Value.int .i64)), .blk b20 (.cells (ndArr (([((ntN r m), au, av), ((foN r q), bu, bv), ((drN r ps), (ndS 66 (vl6 6)), (ndS 67 (vl6 6))), ((ptN r m), du, dv)] : List N3).getD k z3).1.me (([((ntN r m), au, av), ((foN r q), bu, bv), ((drN r ps), (ndS 66 (vl6 6)), (ndS 67 (vl6 6))), ((ptN r m), du, dv)] : List N3).getD k z3).1.pr (([((ntN r m), au, av), ((foN r q), bu, bv), ((drN r ps), (ndS 66 (vl6 6)), (ndS 67 (vl6 6))), ((ptN r m), du, dv)] : List N3).getD k z3).2.1 (([((ntN r m), au, av), ((foN r q), bu, bv), ((drN r ps), (ndS 66 (vl6 6)), (ndS 67 (vl6 6))), ((ptN r m), du, dv)] : List N3).getD k z3).2.2) 28), .sl v66 28 68 ([((ntN r m), au, av), ((foN r q), bu, bv), ((drN r ps), (ndS 66 (vl6 6)), (ndS 67 (vl6 6))), ((ptN r m), du, dv)] : List N3).length (n3Cells ([((ntN r m), au, av), ((foN r q), bu, bv), ((drN r ps), (ndS 66 (vl6 6)), (ndS 67 (vl6 6))), ((ptN r m), du, dv)] : List N3)), .blk b17 (.cells (ndArr (ptN r m).me (ptN r m).pr du dv) 28), .sl du 25 33 (ptN r m).sc.length (mbCells (ptN r m).sc), .sl dv 25 33 (ptN r m).fg.length (mbCells (ptN r m).fg), .sl (ndS 66 (vl6 6)) 25 33 (drN r ps).sc.length (mbCells (drN r ps).sc), .sl (ndS 67 (vl6 6)) 25 33 (drN r ps).fg.length (mbCells (drN r ps).fg), .blk b15 (.cells (ndArr (drN r ps).me (drN r ps).pr (ndS 66 (vl6 6)) (ndS 67 (vl6 6))) 28), .blk b13 (.cells (ndArr (foN r q).me (foN r q).pr bu bv) 28), .sl bu 25 33 (foN r q).sc.length (mbCells (foN r q).sc), .sl bv 25 33 (foN r q).fg.length (mbCells (foN r q).fg), .blk b11 (.cells (ndArr (ntN r m).me (ntN r m).pr au av) 28), .sl au 25 33 (ntN r m).sc.length (mbCells (ntN r m).sc), .sl av 25 33 (ntN r m).fg.length (mbCells (ntN r m).fg), .blk b9 (.cells (idArr x) 23), .blk b7 (.cells ((mbArr m)) 25), .blk b6 (.cells (ndArr q.me q.pr (cutV ws (min y.sc.length 6)) (cutV wf (min y.fg.length 18))) 28), .blk b5 (.cells (ndArr r.me r.pr (cutV vs (min n.sc.length 6)) (cutV vf (min n.fg.length 18))) 28)] ww ∧ nn = (([((ntN r m), au, av), ((foN r q), bu, bv), ((drN r ps), (ndS 66 (vl6 6)), (ndS 67 (vl6 6))), ((ptN r m), du, dv)] : List N3).getD k z3).1.sc.length - j ∧ j ≤ (([((ntN r m), au, av), ((foN r q), bu, bv), ((drN r ps), (ndS 66 (vl6 6)), (ndS 67 (vl6 6))), ((ptN r m), du, dv)] : List N3).getD k z3).1.sc.length) ((([((ntN r m), au, av), ((foN r q), bu, bv), ((drN r ps), (ndS 66 (vl6 6)), (ndS 67 (vl6 6))), ((ptN r m), du, dv)] : List N3).getD k z3).1.sc.length - (0)) ⟨0, h.only ⟨rfl, rfl, rfl, rfl, rfl, rfl, rfl, rfl, rfl, rfl, rfl, rfl, rfl, rfl, rfl, rfl, rfl, slot_int rfl (by omega), rfl, rfl, rfl, rfl, rfl, rfl, rfl, trivial⟩, s.as ⟨rfl, rfl, rfl, rfl, rfl, rfl, rfl, rfl, rfl, rfl, rfl, rfl, rfl, rfl, rfl, rfl, rfl, rfl, rfl, trivial⟩, rfl, Nat.zero_le _⟩ ?_
        rintro _ f w1 ⟨j, h, s, hnn, hp0⟩
        refine c_seq fun K21 hK21 => ?_
        refine c_region ?_
        refine s_pure h (ru_lss (h.ev rfl) (h.ev rfl)) rfl ?_; intro f h
        refine s_nil ?_
        refine hK21 _ _ ?_
        refine c_seq fun K22 hK22 => ?_
        refine c_cond h rfl (fun hc => ?_) (fun hc => ?_)
        · replace hc := of_decide_eq_true hc
          refine wpIn_skip ?_
          refine hK22 _ _ ?_
          refine c_seq fun K23 hK23 => ?_
          refine wpIn_block ?_
          refine c_seq fun K24 hK24 => ?_
          refine c_region ?_
          have hjl : j < (([((ntN r m), au, av), ((foN r q), bu, bv), ((drN r ps), (ndS 66 (vl6 6)), (ndS 67 (vl6 6))), ((ptN r m), du, dv)] : List N3).getD k z3).1.sc.length := by omega
          refine s_pure h (ru_ixz ((four_rd (a := ((ntN r m), au, av)) (b := ((foN r q), bu, bv)) (c := ((drN r ps), (ndS 66 (vl6 6)), (ndS 67 (vl6 6)))) (d := ((ptN r m), du, dv)) ⟨(RdZ.of_own (s.getSl 13 rfl)), (RdZ.of_own (s.getSl 14 rfl))⟩ ⟨(RdZ.of_own (s.getSl 10 rfl)), (RdZ.of_own (s.getSl 11 rfl))⟩ ⟨(RdZ.of_own (s.getSl 6 rfl)), (RdZ.of_own (s.getSl 7 rfl))⟩ ⟨(RdZ.of_own (s.getSl 4 rfl)), (RdZ.of_own (s.getSl 5 rfl))⟩ k hk4).1) (j) Try.underlying26 szo25 (h.ev rfl) (h.ev rfl) (by omega) (by omega)) rfl ?_; intro f h
          refine s_load_at (((four_rd (a := ((ntN r m), au, av)) (b := ((foN r q), bu, bv)) (c := ((drN r ps), (ndS 66 (vl6 6)), (ndS 67 (vl6 6)))) (d := ((ptN r m), du, dv)) ⟨(RdZ.of_own (s.getSl 13 rfl)), (RdZ.of_own (s.getSl 14 rfl))⟩ ⟨(RdZ.of_own (s.getSl 10 rfl)), (RdZ.of_own (s.getSl 11 rfl))⟩ ⟨(RdZ.of_own (s.getSl 6 rfl)), (RdZ.of_own (s.getSl 7 rfl))⟩ ⟨(RdZ.of_own (s.getSl 4 rfl)), (RdZ.of_own (s.getSl 5 rfl))⟩ k hk4).1).el (j) (by omega) (by decide) (D := mbArr ((([((ntN r m), au, av), ((foN r q), bu, bv), ((drN r ps), (ndS 66 (vl6 6)), (ndS 67 (vl6 6))), ((ptN r m), du, dv)] : List N3).getD k z3).1.sc.getD j zMb)) (mb_elD (([((ntN r m), au, av), ((foN r q), bu, bv), ((drN r ps), (ndS 66 (vl6 6)), (ndS 67 (vl6 6))), ((ptN r m), du, dv)] : List N3).getD k z3).1.sc j hjl)) h row25 rfl (mbArr_size _) rfl ?_; intro f h
          refine s_alloc (mbArr zMb) h s zero25 rfl rfl ?_; intro f w1 b22 h s
          refine s_store_row 0 h s row25 rfl rfl rfl (mbArr_size _) (mbArr_size _) (mbArr_ones _) ?_; intro w1 s
          refine s_nil ?_
          refine hK24 _ _ ?_
          refine c_seq fun K25 hK25 => ?_
          cases d0 : (decide (((([((ntN r m), au, av), ((foN r q), bu, bv), ((drN r ps), (ndS 66 (vl6 6)), (ndS 67 (vl6 6))), ((ptN r m), du, dv)] : List N3).getD k z3).1.sc.getD j zMb).1 = r.me.1) : Bool)
          · skip
            refine c_region ?_
            refine s_pure h (ru_field fld25_0 (h.ev rfl)) rfl ?_; intro f h
            refine s_load_at1 (cell_of_has (Has.of_own s 0 rfl) 0 (mbArr_no _)) h one3 rfl rfl ?_; intro f h
            refine s_pure h (ru_field fld28_0 (h.ev rfl)) rfl ?_; intro f h
            refine s_pure h (ru_field fld25_0 (h.ev rfl)) rfl ?_; intro f h
            refine s_load_at1 (cell_of_has (Has.of_own s 19 rfl) 0 (ndArr_no _ _ _ _)) h one3 rfl rfl ?_; intro f h
            refine s_pure h (ru_val (.bool false) (ru_eql (h.ev rfl) (h.ev rfl)) (congrArg Value.bool d0)) rfl ?_; intro f h
            refine s_pure h (ru_move (h.ev rfl)) rfl ?_; intro f h
            refine s_off (b := true) h rfl rfl rfl rfl ?_; intro f h
            refine s_off (b := true) h rfl rfl rfl rfl ?_; intro f h
            refine s_off (b := true) h rfl rfl rfl rfl ?_; intro f h
            refine s_off (b := true) h rfl rfl rfl rfl ?_; intro f h
            refine s_pure h (ru_pick_f (h.ev rfl) (h.ev rfl)) rfl ?_; intro f h
            refine s_nil ?_
            refine hK25 _ _ ?_
            refine wpIn_cond_false (h.ev rfl) ?_
            refine wpIn_skip ?_
            refine b_norm ?_
            refine hK23 _ _ ?_
            refine c_region ?_
            refine s_pure h (ru_add (h.ev rfl) (h.ev rfl) (by have h9 := hst.1.len; omega)) rfl ?_; intro f h
            refine s_pure h (ru_move (h.ev rfl)) rfl ?_; intro f h
            refine s_nil ?_
            refine t_norm ?_
            exact ⟨_, by omega, ⟨j + 1, h.only ⟨rfl, rfl, rfl, rfl, rfl, rfl, rfl, rfl, rfl, rfl, rfl, rfl, rfl, rfl, rfl, rfl, rfl, slot_int rfl (by omega), rfl, rfl, rfl, rfl, rfl, rfl, rfl, trivial⟩, St.as (s.pick _ (List.sublist_append_right [_] _)) ⟨rfl, rfl, rfl, rfl, rfl, rfl, rfl, rfl, rfl, rfl, rfl, rfl, rfl, rfl, rfl, rfl, rfl, rfl, rfl, trivial⟩, rfl, by omega⟩⟩
          · skip
            refine c_region ?_
            refine s_pure h (ru_field fld25_0 (h.ev rfl)) rfl ?_; intro f h
            refine s_load_at1 (cell_of_has (Has.of_own s 0 rfl) 0 (mbArr_no _)) h one3 rfl rfl ?_; intro f h
            refine s_pure h (ru_field fld28_0 (h.ev rfl)) rfl ?_; intro f h
            refine s_pure h (ru_field fld25_0 (h.ev rfl)) rfl ?_; intro f h
            refine s_load_at1 (cell_of_has (Has.of_own s 19 rfl) 0 (ndArr_no _ _ _ _)) h one3 rfl rfl ?_; intro f h
            refine s_pure h (ru_val (.bool true) (ru_eql (h.ev rfl) (h.ev rfl)) (congrArg Value.bool d0)) rfl ?_; intro f h
            refine s_pure h (ru_move (h.ev rfl)) rfl ?_; intro f h
            refine s_on h rfl rfl rfl ?_
            refine s_pure h (ru_field fld28_2 (h.ev rfl)) rfl ?_; intro f h
            refine s_on h rfl rfl rfl ?_
            refine s_load_at1 (V := (([((ntN r m), au, av), ((foN r q), bu, bv), ((drN r ps), (ndS 66 (vl6 6)), (ndS 67 (vl6 6))), ((ptN r m), du, dv)] : List N3).getD k z3).2.1) (cell_of_has (Has.of_own s 2 rfl) 66 (ndArr_sc _ _ _ _)) h one26 rfl rfl ?_; intro f h
            refine s_on h rfl rfl rfl ?_
            refine s_pure h (ru_lenZ ((four_rd (a := ((ntN r m), au, av)) (b := ((foN r q), bu, bv)) (c := ((drN r ps), (ndS 66 (vl6 6)), (ndS 67 (vl6 6)))) (d := ((ptN r m), du, dv)) ⟨(RdZ.of_own (s.getSl 14 rfl)), (RdZ.of_own (s.getSl 15 rfl))⟩ ⟨(RdZ.of_own (s.getSl 11 rfl)), (RdZ.of_own (s.getSl 12 rfl))⟩ ⟨(RdZ.of_own (s.getSl 7 rfl)), (RdZ.of_own (s.getSl 8 rfl))⟩ ⟨(RdZ.of_own (s.getSl 5 rfl)), (RdZ.of_own (s.getSl 6 rfl))⟩ k hk4).1) Try.underlying26 (h.ev rfl)) rfl ?_; intro f h
            refine s_on h rfl rfl rfl ?_
            refine s_pure h (ru_val (.bool false) (ru_gtr (h.ev rfl) (h.ev rfl)) (congrArg Value.bool (decide_eq_false (by have h9 := sc_not hst.1 (mb_mem hjl) (congrArg Prod.fst hst.2) (of_decide_eq_true d0); omega)))) rfl ?_; intro f h
            refine s_pure h (ru_pick_t (h.ev rfl) (h.ev rfl)) rfl ?_; intro f h
            refine s_nil ?_
            refine hK25 _ _ ?_
            refine wpIn_cond_false (h.ev rfl) ?_
            refine wpIn_skip ?_
            refine b_norm ?_
            refine hK23 _ _ ?_
            refine c_region ?_
            refine s_pure h (ru_add (h.ev rfl) (h.ev rfl) (by have h9 := hst.1.len; omega)) rfl ?_; intro f h
            refine s_pure h (ru_move (h.ev rfl)) rfl ?_; intro f h
            refine s_nil ?_
            refine t_norm ?_
            exact ⟨_, by omega, ⟨j + 1, h.only ⟨rfl, rfl, rfl, rfl, rfl, rfl, rfl, rfl, rfl, rfl, rfl, rfl, rfl, rfl, rfl, rfl, rfl, slot_int rfl (by omega), rfl, rfl, rfl, rfl, rfl, rfl, rfl, trivial⟩, St.as (s.pick _ (List.sublist_append_right [_] _)) ⟨rfl, rfl, rfl, rfl, rfl, rfl, rfl, rfl, rfl, rfl, rfl, rfl, rfl, rfl, rfl, rfl, rfl, rfl, rfl, trivial⟩, rfl, by omega⟩⟩
        · replace hc := of_decide_eq_false hc
          refine wpIn_exit ?_
          refine t_exit ?_
          refine t_exit ?_
          refine b_exit ?_
          refine b_norm ?_
          refine hK14 _ _ ?_
          refine c_region ?_
          refine s_pure h (ru_add (h.ev rfl) (h.ev rfl) (by omega)) rfl ?_; intro f h
          refine s_pure h (ru_move (h.ev rfl)) rfl ?_; intro f h
          refine s_nil ?_
          refine t_norm ?_
          exact ⟨_, by omega, ⟨k + 1, h.only ⟨rfl, rfl, rfl, rfl, rfl, rfl, rfl, rfl, rfl, rfl, rfl, rfl, rfl, rfl, rfl, slot_int rfl (by omega), rfl, rfl, rfl, rfl, trivial⟩, St.as (s.pick _ (List.sublist_append_right [_, _] _)) ⟨rfl, rfl, rfl, rfl, rfl, rfl, rfl, rfl, rfl, rfl, rfl, rfl, rfl, rfl, rfl, rfl, rfl, trivial⟩, rfl, by omega⟩⟩
    · replace hc := of_decide_eq_false hc
      refine wpIn_exit ?_
      refine t_exit ?_
      refine t_exit ?_
      refine b_exit ?_
      refine hK10 _ _ ?_
      refine c_seq fun K26 hK26 => ?_
      refine c_region ?_
      refine s_load_row 16 h s row28 rfl rfl (ndArr_size _ _ _ _) rfl ?_; intro f h
      refine s_load_row 13 h s row23 rfl rfl (by first | exact idArr_size _ | exact bytesF_size _ _) rfl ?_; intro f h
      refine s_call h s fnc11 (nnext_any r (cutV vs (min n.sc.length 6)) (cutV vf (min n.fg.length 18)) x _ (hlv.keep s.ext) (hlf.keep s.ext) (by omega) (by omega)) rfl rfl ?_; intro f w1 v9 hT hE h s; obtain rfl := hT
      refine s_pure h (ru_move (h.ev rfl)) rfl ?_; intro f h
      refine s_pure h (ru_extract (h.ev rfl) rfl) rfl ?_; intro f h
      refine s_pure h (ru_extract (h.ev rfl) rfl) rfl ?_; intro f h
      refine s_pure h (ru_extract (h.ev rfl) rfl) rfl ?_; intro f h
      refine s_alloc (mbArr zMb) h s zero25 rfl rfl ?_; intro f w1 b23 h s
      refine s_store_row 0 h s row25 rfl rfl rfl (mbArr_size _) (mbArr_size _) (mbArr_ones _) ?_; intro w1 s
      refine s_pure h (ru_assign (h.ev rfl)) rfl ?_; intro f h
      refine s_pure h (ru_assign (h.ev rfl)) rfl ?_; intro f h
      refine s_nil ?_
      refine hK26 _ _ ?_
      refine c_seq fun K27 hK27 => ?_
      refine c_seq fun K28 hK28 => ?_
      refine c_region ?_
      refine s_pure h (ru_move (h.ev rfl)) rfl ?_; intro f h
      refine s_pure h (ru_val (.bool false) (ru_neq (h.ev rfl) (h.ev rfl)) (congrArg Value.bool (decide_eq_false (not_not_intro (by unfold nxE; rw [hrt]; rfl))))) rfl ?_; intro f h
      refine s_pure h (ru_move (h.ev rfl)) rfl ?_; intro f h
      refine s_on h rfl rfl rfl ?_
      refine s_call h s fnc14 (alive_any _) rfl rfl ?_; intro f w1 v9 hT hE h s; obtain rfl := hT
      refine s_on h rfl rfl rfl ?_
      refine s_pure h (ru_val (.bool false) (ru_not (h.ev rfl)) rfl) rfl ?_; intro f h
      refine s_pure h (ru_pick_f (h.ev rfl) (h.ev rfl)) rfl ?_; intro f h
      refine s_nil ?_
      refine hK28 _ _ ?_
      refine wpIn_cond_false (h.ev rfl) ?_
      refine wpIn_skip ?_
      refine hK27 _ _ ?_
      refine c_seq fun K29 hK29 => ?_
      refine c_seq fun K30 hK30 => ?_
      cases b0 : (nxB r x : Bool)
      · skip
        cases f0 : (decide (nxM r x = r.sc.getD 0 zMb) : Bool)
        · skip
          cases x0 : (decide (x = r.me.2) : Bool)
          · skip
            refine c_walkN 16 [[], [0], [0, 1], [0, 1], [0, 1, 3], [0, 1, 3, 4], [0, 1, 3, 4, 5], [0, 1, 2, 3, 4, 5, 6], [0, 1, 2, 3, 4, 5, 6, 7], [0, 1, 2, 3, 4, 5, 6, 7, 8], [0, 1, 2, 3, 4, 5, 6, 7, 8, 9], [0, 1, 2, 3, 4, 5, 6, 7, 8, 9], [0, 1, 2, 3, 4, 5, 6, 7, 8, 9, 11], [0, 1, 2, 3, 4, 5, 6, 7, 8, 9, 11, 12], [0, 1, 2, 3, 4, 5, 6, 7, 8, 9, 10, 11, 12, 13], [0, 1, 2, 3, 4, 5, 6, 7, 8, 9, 10, 11, 12, 13, 14]] h (by kernel_rfl) (by kernel_rfl) (by kernel_rfl) ?_
            refine w_pure h (ru_val (.bool false) (ru_move (h.ev rfl)) (congrArg Value.bool b0)) rfl ?_; intro f h
            refine w_pure h (ru_move (h.ev rfl)) rfl ?_; intro f h
            refine w_on h rfl rfl rfl ?_
            refine w_load_row 0 h s row25 rfl rfl (mbArr_size _) rfl ?_; intro f h
            refine w_on h rfl rfl rfl ?_
            refine w_pure h (ru_field fld28_2 (h.ev rfl)) rfl ?_; intro f h
            refine w_on h rfl rfl rfl ?_
            refine w_load_at1 (V := (cutV vs (min n.sc.length 6))) (cell_of_has (Has.of_own s 17 rfl) 66 (ndArr_sc _ _ _ _)) h one26 rfl rfl ?_; intro f h
            refine w_on h rfl rfl rfl ?_
            refine w_pure h (ru_ixz (hlv.keep s.ext) (0) Try.underlying26 szo25 (h.ev rfl) (h.ev rfl) (by omega) (by omega)) rfl ?_; intro f h
            refine w_on h rfl rfl rfl ?_
            refine w_load_at ((hlv.keep s.ext).el (0) (by omega) (by decide) (D := mbArr (r.sc.getD 0 zMb)) (mb_elD r.sc 0 (by omega))) h row25 rfl (mbArr_size _) rfl ?_; intro f h
            refine w_on h rfl rfl rfl ?_
            refine w_pure h (ru_val (.bool false) (ru_eqlW (eqM _ _) (by kernel_rfl) (by decide) (h.ev rfl) (h.ev rfl) (decide (nxM r x = r.sc.getD 0 zMb)) (mbEq _ _)) (congrArg Value.bool f0)) rfl ?_; intro f h
            refine w_pure h (ru_pick_f (h.ev rfl) (h.ev rfl)) rfl ?_; intro f h
            refine w_pure h (ru_move (h.ev rfl)) rfl ?_; intro f h
            refine w_on h rfl rfl rfl ?_
            refine w_load_row 14 h s row23 rfl rfl (by first | exact idArr_size _ | exact bytesF_size _ _) rfl ?_; intro f h
            refine w_on h rfl rfl rfl ?_
            refine w_pure h (ru_field fld28_0 (h.ev rfl)) rfl ?_; intro f h
            refine w_on h rfl rfl rfl ?_
            refine w_pure h (ru_field fld25_1 (h.ev rfl)) rfl ?_; intro f h
            refine w_on h rfl rfl rfl ?_
            refine w_load_at (Has.subL (Has.of_own s 17 rfl) 1 32 (D := idArr r.me.2) (ndArr_id _ _ _ _)) h row23 rfl (by first | exact idArr_size _ | exact bytesF_size _ _) rfl ?_; intro f h
            refine w_on h rfl rfl rfl ?_
            refine w_pure h (ru_val (.bool false) (ru_eql_id idTy (h.ev rfl) (h.ev rfl)) (congrArg Value.bool x0)) rfl ?_; intro f h
            refine w_pure h (ru_pick_f (h.ev rfl) (h.ev rfl)) rfl ?_; intro f h
            refine w_nil s fun w1 s => ?_
            refine s_nil ?_
            refine hK30 _ _ ?_
            refine wpIn_cond_false (h.ev rfl) ?_
            refine wpIn_skip ?_
            refine hK29 _ _ ?_
            refine c_seq fun K31 hK31 => ?_
            refine c_walkN 12 [[], [0], [], [0, 1, 2], [], [4], [4, 5], [], [0, 1, 2, 3, 4, 5, 6, 7], [0, 1, 2, 3, 4, 5, 6, 7, 8], [0, 1, 2, 3, 4, 5, 6, 7, 8, 9], [0, 1, 2, 3, 4, 5, 6, 7, 8, 9, 10]] h (by kernel_rfl) (by kernel_rfl) (by kernel_rfl) ?_
            refine w_pure h (ru_field fld25_1 (h.ev rfl)) rfl ?_; intro f h
            refine w_load_at (Has.subL (Has.of_own s 0 rfl) 1 32 (D := idArr (_)) (mbArr_id _)) h row23 rfl (by first | exact idArr_size _ | exact bytesF_size _ _) rfl ?_; intro f h
            refine w_load_row 14 h s row23 rfl rfl (by first | exact idArr_size _ | exact bytesF_size _ _) rfl ?_; intro f h
            refine w_call h fnc30 (fun w9 hE9 => far_any _ _ w9) rfl rfl ?_; intro f h
            refine w_pure h (ru_field fld28_0 (h.ev rfl)) rfl ?_; intro f h
            refine w_pure h (ru_field fld25_1 (h.ev rfl)) rfl ?_; intro f h
            refine w_load_at (Has.subL (Has.of_own s 17 rfl) 1 32 (D := idArr r.me.2) (ndArr_id _ _ _ _)) h row23 rfl (by first | exact idArr_size _ | exact bytesF_size _ _) rfl ?_; intro f h
            refine w_load_row 14 h s row23 rfl rfl (by first | exact idArr_size _ | exact bytesF_size _ _) rfl ?_; intro f h
            refine w_call h fnc30 (fun w9 hE9 => far_any _ _ w9) rfl rfl ?_; intro f h
            refine w_call h fnc29 (fun w9 hE9 => compare_any _ _ w9) rfl rfl ?_; intro f h
            refine w_pure h (ru_val (.bool true) (ru_lss (h.ev rfl) (h.ev rfl)) (congrArg Value.bool (decide_eq_true ((cmpI_neg _ _).2 (next_near hrt b0 (of_decide_eq_false f0) (of_decide_eq_false x0)))))) rfl ?_; intro f h
            refine w_pure h (ru_assign (h.ev rfl)) rfl ?_; intro f h
            refine w_nil s fun w1 s => ?_
            refine s_nil ?_
            refine hK31 _ _ ?_
            refine wpIn_ret ?_
            exact e_tmp rfl h s rfl (rfl)
          · skip
            refine c_walkN 16 [[], [0], [0, 1], [0, 1], [0, 1, 3], [0, 1, 3, 4], [0, 1, 3, 4, 5], [0, 1, 2, 3, 4, 5, 6], [0, 1, 2, 3, 4, 5, 6, 7], [0, 1, 2, 3, 4, 5, 6, 7, 8], [0, 1, 2, 3, 4, 5, 6, 7, 8, 9], [0, 1, 2, 3, 4, 5, 6, 7, 8, 9], [0, 1, 2, 3, 4, 5, 6, 7, 8, 9, 11], [0, 1, 2, 3, 4, 5, 6, 7, 8, 9, 11, 12], [0, 1, 2, 3, 4, 5, 6, 7, 8, 9, 10, 11, 12, 13], [0, 1, 2, 3, 4, 5, 6, 7, 8, 9, 10, 11, 12, 13, 14]] h (by kernel_rfl) (by kernel_rfl) (by kernel_rfl) ?_
            refine w_pure h (ru_val (.bool false) (ru_move (h.ev rfl)) (congrArg Value.bool b0)) rfl ?_; intro f h
            refine w_pure h (ru_move (h.ev rfl)) rfl ?_; intro f h
            refine w_on h rfl rfl rfl ?_
            refine w_load_row 0 h s row25 rfl rfl (mbArr_size _) rfl ?_; intro f h
            refine w_on h rfl rfl rfl ?_
            refine w_pure h (ru_field fld28_2 (h.ev rfl)) rfl ?_; intro f h
            refine w_on h rfl rfl rfl ?_
            refine w_load_at1 (V := (cutV vs (min n.sc.length 6))) (cell_of_has (Has.of_own s 17 rfl) 66 (ndArr_sc _ _ _ _)) h one26 rfl rfl ?_; intro f h
            refine w_on h rfl rfl rfl ?_
            refine w_pure h (ru_ixz (hlv.keep s.ext) (0) Try.underlying26 szo25 (h.ev rfl) (h.ev rfl) (by omega) (by omega)) rfl ?_; intro f h
            refine w_on h rfl rfl rfl ?_
            refine w_load_at ((hlv.keep s.ext).el (0) (by omega) (by decide) (D := mbArr (r.sc.getD 0 zMb)) (mb_elD r.sc 0 (by omega))) h row25 rfl (mbArr_size _) rfl ?_; intro f h
            refine w_on h rfl rfl rfl ?_
            refine w_pure h (ru_val (.bool false) (ru_eqlW (eqM _ _) (by kernel_rfl) (by decide) (h.ev rfl) (h.ev rfl) (decide (nxM r x = r.sc.getD 0 zMb)) (mbEq _ _)) (congrArg Value.bool f0)) rfl ?_; intro f h
            refine w_pure h (ru_pick_f (h.ev rfl) (h.ev rfl)) rfl ?_; intro f h
            refine w_pure h (ru_move (h.ev rfl)) rfl ?_; intro f h
            refine w_on h rfl rfl rfl ?_
            refine w_load_row 14 h s row23 rfl rfl (by first | exact idArr_size _ | exact bytesF_size _ _) rfl ?_; intro f h
            refine w_on h rfl rfl rfl ?_
            refine w_pure h (ru_field fld28_0 (h.ev rfl)) rfl ?_; intro f h
            refine w_on h rfl rfl rfl ?_
            refine w_pure h (ru_field fld25_1 (h.ev rfl)) rfl ?_; intro f h
            refine w_on h rfl rfl rfl ?_
            refine w_load_at (Has.subL (Has.of_own s 17 rfl) 1 32 (D := idArr r.me.2) (ndArr_id _ _ _ _)) h row23 rfl (by first | exact idArr_size _ | exact bytesF_size _ _) rfl ?_; intro f h
            refine w_on h rfl rfl rfl ?_
            refine w_pure h (ru_val (.bool true) (ru_eql_id idTy (h.ev rfl) (h.ev rfl)) (congrArg Value.bool x0)) rfl ?_; intro f h
            refine w_pure h (ru_pick_f (h.ev rfl) (h.ev rfl)) rfl ?_; intro f h
            refine w_nil s fun w1 s => ?_
            refine s_nil ?_
            refine hK30 _ _ ?_
            refine wpIn_cond_true (h.ev rfl) ?_
            refine c_seq fun K32 hK32 => ?_
            refine c_region ?_
            refine s_pure h (ru_assign (h.ev rfl)) rfl ?_; intro f h
            refine s_nil ?_
            refine hK32 _ _ ?_
            refine wpIn_ret ?_
            refine t_ret ?_
            exact e_tmp rfl h s rfl (rfl)
        · skip
          refine c_walkN 16 [[], [0], [0, 1], [0, 1], [0, 1, 3], [0, 1, 3, 4], [0, 1, 3, 4, 5], [0, 1, 2, 3, 4, 5, 6], [0, 1, 2, 3, 4, 5, 6, 7], [0, 1, 2, 3, 4, 5, 6, 7, 8], [0, 1, 2, 3, 4, 5, 6, 7, 8, 9], [0, 1, 2, 3, 4, 5, 6, 7, 8, 9], [0, 1, 2, 3, 4, 5, 6, 7, 8, 9, 11], [0, 1, 2, 3, 4, 5, 6, 7, 8, 9, 11, 12], [0, 1, 2, 3, 4, 5, 6, 7, 8, 9, 10, 11, 12, 13], [0, 1, 2, 3, 4, 5, 6, 7, 8, 9, 10, 11, 12, 13, 14]] h (by kernel_rfl) (by kernel_rfl) (by kernel_rfl) ?_
          refine w_pure h (ru_val (.bool false) (ru_move (h.ev rfl)) (congrArg Value.bool b0)) rfl ?_; intro f h
          refine w_pure h (ru_move (h.ev rfl)) rfl ?_; intro f h
          refine w_on h rfl rfl rfl ?_
          refine w_load_row 0 h s row25 rfl rfl (mbArr_size _) rfl ?_; intro f h
          refine w_on h rfl rfl rfl ?_
          refine w_pure h (ru_field fld28_2 (h.ev rfl)) rfl ?_; intro f h
          refine w_on h rfl rfl rfl ?_
          refine w_load_at1 (V := (cutV vs (min n.sc.length 6))) (cell_of_has (Has.of_own s 17 rfl) 66 (ndArr_sc _ _ _ _)) h one26 rfl rfl ?_; intro f h
          refine w_on h rfl rfl rfl ?_
          refine w_pure h (ru_ixz (hlv.keep s.ext) (0) Try.underlying26 szo25 (h.ev rfl) (h.ev rfl) (by omega) (by omega)) rfl ?_; intro f h
          refine w_on h rfl rfl rfl ?_
          refine w_load_at ((hlv.keep s.ext).el (0) (by omega) (by decide) (D := mbArr (r.sc.getD 0 zMb)) (mb_elD r.sc 0 (by omega))) h row25 rfl (mbArr_size _) rfl ?_; intro f h
          refine w_on h rfl rfl rfl ?_
          refine w_pure h (ru_val (.bool true) (ru_eqlW (eqM _ _) (by kernel_rfl) (by decide) (h.ev rfl) (h.ev rfl) (decide (nxM r x = r.sc.getD 0 zMb)) (mbEq _ _)) (congrArg Value.bool f0)) rfl ?_; intro f h
          refine w_pure h (ru_pick_f (h.ev rfl) (h.ev rfl)) rfl ?_; intro f h
          refine w_pure h (ru_move (h.ev rfl)) rfl ?_; intro f h
          refine w_off (b := false) h rfl rfl rfl rfl ?_; intro f h
          refine w_off (b := false) h rfl rfl rfl rfl ?_; intro f h
          refine w_off (b := false) h rfl rfl rfl rfl ?_; intro f h
          refine w_off (b := false) h rfl rfl rfl rfl ?_; intro f h
          refine w_off (b := false) h rfl rfl rfl rfl ?_; intro f h
          refine w_pure h (ru_pick_t (h.ev rfl) (h.ev rfl)) rfl ?_; intro f h
          refine w_nil s fun w1 s => ?_
          refine s_nil ?_
          refine hK30 _ _ ?_
          refine wpIn_cond_true (h.ev rfl) ?_
          refine c_seq fun K33 hK33 => ?_
          refine c_region ?_
          refine s_pure h (ru_assign (h.ev rfl)) rfl ?_; intro f h
          refine s_nil ?_
          refine hK33 _ _ ?_
          refine wpIn_ret ?_
          refine t_ret ?_
          exact e_tmp rfl h s rfl (rfl)
      · skip
        refine c_walkN 16 [[], [0], [0, 1], [0, 1], [0, 1, 3], [0, 1, 3, 4], [0, 1, 3, 4, 5], [0, 1, 2, 3, 4, 5, 6], [0, 1, 2, 3, 4, 5, 6, 7], [0, 1, 2, 3, 4, 5, 6, 7, 8], [0, 1, 2, 3, 4, 5, 6, 7, 8, 9], [0, 1, 2, 3, 4, 5, 6, 7, 8, 9], [0, 1, 2, 3, 4, 5, 6, 7, 8, 9, 11], [0, 1, 2, 3, 4, 5, 6, 7, 8, 9, 11, 12], [0, 1, 2, 3, 4, 5, 6, 7, 8, 9, 10, 11, 12, 13], [0, 1, 2, 3, 4, 5, 6, 7, 8, 9, 10, 11, 12, 13, 14]] h (by kernel_rfl) (by kernel_rfl) (by kernel_rfl) ?_
        refine w_pure h (ru_val (.bool true) (ru_move (h.ev rfl)) (congrArg Value.bool b0)) rfl ?_; intro f h
        refine w_pure h (ru_move (h.ev rfl)) rfl ?_; intro f h
        refine w_off (b := false) h rfl rfl rfl rfl ?_; intro f h
        refine w_off (b := false) h rfl rfl rfl rfl ?_; intro f h
        refine w_off (b := false) h rfl rfl rfl rfl ?_; intro f h
        refine w_off (b := false) h rfl rfl rfl rfl ?_; intro f h
        refine w_off (b := false) h rfl rfl rfl rfl ?_; intro f h
        refine w_off (b := false) h rfl rfl rfl rfl ?_; intro f h
        refine w_pure h (ru_pick_t (h.ev rfl) (h.ev rfl)) rfl ?_; intro f h
        refine w_pure h (ru_move (h.ev rfl)) rfl ?_; intro f h
        refine w_off (b := false) h rfl rfl rfl rfl ?_; intro f h
        refine w_off (b := false) h rfl rfl rfl rfl ?_; intro f h
        refine w_off (b := false) h rfl rfl rfl rfl ?_; intro f h
        refine w_off (b := false) h rfl rfl rfl rfl ?_; intro f h
        refine w_off (b := false) h rfl rfl rfl rfl ?_; intro f h
        refine w_pure h (ru_pick_t (h.ev rfl) (h.ev rfl)) rfl ?_; intro f h
        refine w_nil s fun w1 s => ?_
        refine s_nil ?_
        refine hK30 _ _ ?_
        refine wpIn_cond_true (h.ev rfl) ?_
        refine c_seq fun K34 hK34 => ?_
        refine c_region ?_
        refine s_pure h (ru_assign (h.ev rfl)) rfl ?_; intro f h
        refine s_nil ?_
        refine hK34 _ _ ?_
        refine wpIn_ret ?_
        refine t_ret ?_
        exact e_tmp rfl h s rfl (rfl)
end Go.Proofs.Ytfnjdjbknjcocaa
