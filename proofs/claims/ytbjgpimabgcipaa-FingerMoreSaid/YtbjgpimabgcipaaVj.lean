/- What FingerMore answers: for all arguments. -/
import Derived.Test.YtbjgpimabgcipaaVd
set_option linter.unusedVariables false
set_option linter.unusedSimpArgs false
set_option linter.unusedSectionVars false
namespace Go.Proofs.Ytbjgpimabgcipaa
open Go.RowKit
set_option maxHeartbeats 4000000 in
theorem fmore_any (t9 s9 : Id) (l : List Mb) (vh : Value) (m : Mb) (w : World) (hR : RdZ w vh 33 l.length (mbCells l)) : Calls Try.prog 6 [idV t9, idV s9, vh, .agg (mbArr m)].toArray w (Ret w (is (.bool true))) := by
  have hlv := mb_take hR (min l.length 18) (by omega)
  obtain ⟨r, hr9⟩ : ∃ x9, x9 = l.take (min l.length 18) := ⟨_, rfl⟩
  rw [← hr9] at hlv
  have hln8 : r.length ≤ 18 := by rw [hr9, List.length_take]; omega
  have hln : r.length ≤ 1000 := by omega
  have hml : (r ++ [m]).length ≤ 1000 := by rw [List.length_append]; show r.length + 1 ≤ 1000; omega
  have hrl : r.reverse.length ≤ 1000 := by rw [List.length_reverse]; omega
  refine c_enter Try.func6 rfl Try.ntmps6 rfl [(0, idV t9), (1, idV s9), (2, vh), (3, .agg (mbArr m))] (by simp) fun f h => ?_
  have s := St.start w
  refine c_seq fun K1 hK1 => ?_
  refine c_region ?_
  refine s_box (idArr t9) h s rfl rfl rfl ?_; intro f w1 b4 h s
  refine s_box (idArr s9) h s rfl rfl rfl ?_; intro f w1 b5 h s
  refine s_box ((mbArr m)) h s rfl rfl rfl ?_; intro f w1 b7 h s
  refine s_pure h (ru_assign (h.ev rfl)) rfl ?_; intro f h
  refine s_nil ?_
  refine hK1 _ _ ?_
  refine c_seq fun K2 hK2 => ?_
  refine c_region ?_
  refine s_pure h (ru_move (h.ev rfl)) rfl ?_; intro f h
  refine s_call h s fnc8 (few_any l vh _ (hR.keep s.ext)) rfl rfl ?_; intro f w1 v9 hT hE h s; obtain rfl := hT
  refine s_pure h (ru_assign (h.ev rfl)) rfl ?_; intro f h
  refine s_nil ?_
  refine hK2 _ _ ?_
  refine c_seq fun K3 hK3 => ?_
  refine c_region ?_
  refine s_load_row 2 h s row24 rfl rfl (by first | exact idArr_size _ | exact bytesF_size _ _) rfl ?_; intro f h
  refine s_load_row 1 h s row24 rfl rfl (by first | exact idArr_size _ | exact bytesF_size _ _) rfl ?_; intro f h
  refine s_pure h (ru_move (h.ev rfl)) rfl ?_; intro f h
  refine s_call h s fnc17 (closest_any r (cutV vh (min l.length 18)) t9 s9 _ (hlv.keep s.ext) hln) rfl rfl ?_; intro f w1 v9 hT hE h s; obtain rfl := hT
  refine s_pure h (ru_move (h.ev rfl)) rfl ?_; intro f h
  refine s_pure h (ru_extract (h.ev rfl) rfl) rfl ?_; intro f h
  refine s_pure h (ru_extract (h.ev rfl) rfl) rfl ?_; intro f h
  refine s_alloc (mbArr zMb) h s zero26 rfl rfl ?_; intro f w1 b9 h s
  refine s_store_row 0 h s row26 rfl rfl rfl (mbArr_size _) (mbArr_size _) (mbArr_ones _) ?_; intro w1 s
  refine s_pure h (ru_assign (h.ev rfl)) rfl ?_; intro f h
  refine s_nil ?_
  refine hK3 _ _ ?_
  refine c_seq fun K4 hK4 => ?_
  refine c_regC 0 [[], [], [], [], [2, 3], [], [5], [2, 3, 4, 5, 6], [0, 1, 2, 3, 4, 5, 6, 7], [0, 1, 2, 3, 4, 5, 6, 7, 8], [0, 1, 2, 3, 4, 5, 6, 7, 8, 9], [0, 1, 2, 3, 4, 5, 6, 7, 8, 9], [], [0, 1, 2, 3, 4, 5, 6, 7, 8, 9, 10, 12], [0, 1, 2, 3, 4, 5, 6, 7, 8, 9, 10, 11, 12, 13]] [[], [], [], [], [2], [], [], [4, 6], [7], [], [], [], [], [12], []] [fun _ => [], fun _ => [], fun v => [.sl (v 2) 26 33 0 []], fun _ => [], fun v => [.sl (v 4) 26 33 r.length (mbCells r)], fun _ => [], fun v => [.sl (v 6) 26 33 1 (mbArr m).toList], fun v => [.sl (v 7) 26 33 (r ++ [m]).length (mbCells (r ++ [m]))], fun _ => [], fun _ => [], fun _ => [], fun _ => [], fun v => [.blk (pbk (v 12)) (.cells (mbArr zMb) 26)], fun v => [.blk (pbk (v 12)) (.cells (mbArr (csM s9 t9 (r ++ [m]))) 26)], fun _ => []] [] [fun v => v 0 = .agg (idArr t9), fun v => v 1 = .agg (idArr s9), fun _ => True, fun v => v 3 = (cutV vh (min l.length 18)), fun _ => True, fun v => v 5 = .agg ((mbArr m)), fun _ => True, fun _ => True, fun v => v 8 = .tuple #[.agg (mbArr (csM s9 t9 (r ++ [m]))), .int .i64 (csE s9 t9 (r ++ [m]))], fun v => v 9 = .tuple #[.agg (mbArr (csM s9 t9 (r ++ [m]))), .int .i64 (csE s9 t9 (r ++ [m]))], fun v => v 10 = .agg (mbArr (csM s9 t9 (r ++ [m]))), fun v => v 11 = .int .i64 (csE s9 t9 (r ++ [m])), fun v => ∃ b, v 12 = .pointer (some ⟨b, 0, none⟩), fun _ => True, fun v => v 14 = .int .i64 (csE s9 t9 (r ++ [m]))] [.blk b9 (.cells ((mbArr (csM s9 t9 r))) 26), .blk b7 (.cells ((mbArr m)) 26), .blk b5 (.cells (idArr s9) 24), .blk b4 (.cells (idArr t9) 24)] h s rfl (by kernel_rfl) (by kernel_rfl) (by kernel_rfl) (And.intro ?_ (And.intro ?_ (And.intro ?_ (And.intro ?_ (And.intro ?_ (And.intro ?_ (And.intro ?_ (And.intro ?_ (And.intro ?_ (And.intro ?_ (And.intro ?_ (And.intro ?_ (And.intro ?_ (And.intro ?_ (And.intro ?_ (trivial)))))))))))))))) [0, 1, 3, 5, 8, 9, 10, 11, 13, 14] (by kernel_rfl) ?_
  · intro f9 w2 vl3 E9 hs9 hd9 hl hF s
    have e4 : f9.tmps.getD 4 undef = _ := oc_old hl 4 (by kernel_rfl) (by kernel_rfl) (h.holds 4 _ rfl)
    have h := fin_slot [(4, _)] (hs9.trans h.size) (hd9.trans h.defers) (holds_lk ⟨e4, trivial⟩)
    replace s : St w (.blk b9 (.cells ((mbArr (csM s9 t9 r))) 26) :: .blk b7 (.cells ((mbArr m)) 26) :: .blk b5 (.cells (idArr s9) 24) :: .blk b4 (.cells (idArr t9) 24) :: E9) _ := s
    refine s_load_row 3 h s row24 rfl rfl (by first | exact idArr_size _ | exact bytesF_size _ _) rfl ?_; intro f h
    exact s_nil ⟨_, oc_out 27 rfl (h.holds 27 _ rfl), rfl, s⟩
  · intro f9 w2 vl3 E9 hs9 hd9 hl hF s
    have e5 : f9.tmps.getD 5 undef = _ := oc_old hl 5 (by kernel_rfl) (by kernel_rfl) (h.holds 5 _ rfl)
    have h := fin_slot [(5, _)] (hs9.trans h.size) (hd9.trans h.defers) (holds_lk ⟨e5, trivial⟩)
    replace s : St w (.blk b9 (.cells ((mbArr (csM s9 t9 r))) 26) :: .blk b7 (.cells ((mbArr m)) 26) :: .blk b5 (.cells (idArr s9) 24) :: .blk b4 (.cells (idArr t9) 24) :: E9) _ := s
    refine s_load_row 2 h s row24 rfl rfl (by first | exact idArr_size _ | exact bytesF_size _ _) rfl ?_; intro f h
    exact s_nil ⟨_, oc_out 28 rfl (h.holds 28 _ rfl), rfl, s⟩
  · intro f9 w2 vl3 E9 hs9 hd9 hl hF s
    have h := fin_slot [] (hs9.trans h.size) (hd9.trans h.defers) (holds_lk trivial)
    replace s : St w (.blk b9 (.cells ((mbArr (csM s9 t9 r))) 26) :: .blk b7 (.cells ((mbArr m)) 26) :: .blk b5 (.cells (idArr s9) 24) :: .blk b4 (.cells (idArr t9) 24) :: E9) _ := s
    refine s_bslice (vs := []) [] h s Try.underlying22 elm26 rfl rfl (by simp) rfl rfl rfl ?_; intro f w1 v29 h s
    exact s_nil ⟨_, oc_out 29 rfl (h.holds 29 _ rfl), trivial, s⟩
  · intro f9 w2 vl3 E9 hs9 hd9 hl hF s
    have e2 : f9.tmps.getD 2 undef = _ := oc_old hl 2 (by kernel_rfl) (by kernel_rfl) (h.holds 2 _ rfl)
    have h := fin_slot [(2, _)] (hs9.trans h.size) (hd9.trans h.defers) (holds_lk ⟨e2, trivial⟩)
    replace s : St w (.blk b9 (.cells ((mbArr (csM s9 t9 r))) 26) :: .blk b7 (.cells ((mbArr m)) 26) :: .blk b5 (.cells (idArr s9) 24) :: .blk b4 (.cells (idArr t9) 24) :: E9) _ := s
    refine s_pure h (ru_move (h.ev rfl)) rfl ?_; intro f h
    exact s_nil ⟨_, oc_out 30 rfl (h.holds 30 _ rfl), rfl, s⟩
  · intro f9 w2 vl3 E9 hs9 hd9 hl hF s
    have e29 : f9.tmps.getD 29 undef = (vl3 2) := oc_get hl 29 2 (by kernel_rfl) (by kernel_rfl)
    have e30 : f9.tmps.getD 30 undef = (cutV vh (min l.length 18)) := (oc_get hl 30 3 (by kernel_rfl) (by kernel_rfl)).trans (hF 3 (by decide))
    have h := fin_slot [(29, (vl3 2)), (30, (cutV vh (min l.length 18)))] (hs9.trans h.size) (hd9.trans h.defers) (holds_lk ⟨e29, e30, trivial⟩)
    replace s : St w (.sl (vl3 2) 26 33 0 [] :: .blk b9 (.cells ((mbArr (csM s9 t9 r))) 26) :: .blk b7 (.cells ((mbArr m)) 26) :: .blk b5 (.cells (idArr s9) 24) :: .blk b4 (.cells (idArr t9) 24) :: E9) _ := s
    refine s_append_rd 0 (hlv.keep s.ext) h s Try.underlying22 elm26 rfl rfl rfl (mbCells_ones _) (by unfold maxLen; omega) (by omega) rfl ?_; intro f w1 v31 h s
    replace s := s.resl (m := r.length) (ys := mbCells r) 0 rfl (by omega) rfl
    exact s_nil ⟨_, oc_out 31 rfl (h.holds 31 _ rfl), trivial, s⟩
  · intro f9 w2 vl3 E9 hs9 hd9 hl hF s
    have e7 : f9.tmps.getD 7 undef = _ := oc_old hl 7 (by kernel_rfl) (by kernel_rfl) (h.holds 7 _ rfl)
    have h := fin_slot [(7, _)] (hs9.trans h.size) (hd9.trans h.defers) (holds_lk ⟨e7, trivial⟩)
    replace s : St w (.blk b9 (.cells ((mbArr (csM s9 t9 r))) 26) :: .blk b7 (.cells ((mbArr m)) 26) :: .blk b5 (.cells (idArr s9) 24) :: .blk b4 (.cells (idArr t9) 24) :: E9) _ := s
    refine s_load_row 1 h s row26 rfl rfl (mbArr_size _) rfl ?_; intro f h
    exact s_nil ⟨_, oc_out 32 rfl (h.holds 32 _ rfl), rfl, s⟩
  · intro f9 w2 vl3 E9 hs9 hd9 hl hF s
    have e32 : f9.tmps.getD 32 undef = .agg ((mbArr m)) := (oc_get hl 32 5 (by kernel_rfl) (by kernel_rfl)).trans (hF 5 (by decide))
    have h := fin_slot [(32, .agg ((mbArr m)))] (hs9.trans h.size) (hd9.trans h.defers) (holds_lk ⟨e32, trivial⟩)
    replace s : St w (.blk b9 (.cells ((mbArr (csM s9 t9 r))) 26) :: .blk b7 (.cells ((mbArr m)) 26) :: .blk b5 (.cells (idArr s9) 24) :: .blk b4 (.cells (idArr t9) 24) :: E9) _ := s
    refine s_bslice (vs := [.agg (mbArr m)]) [.tmp 32] h s Try.underlying22 elm26 rfl rfl (mb_sz _) rfl rfl rfl ?_; intro f w1 v33 h s
    replace s := s.resl (m := 1) (ys := (mbArr m).toList) 0 rfl rfl (one_mb m)
    exact s_nil ⟨_, oc_out 33 rfl (h.holds 33 _ rfl), trivial, s⟩
  · intro f9 w2 vl3 E9 hs9 hd9 hl hF s
    have e31 : f9.tmps.getD 31 undef = (vl3 4) := oc_get hl 31 4 (by kernel_rfl) (by kernel_rfl)
    have e33 : f9.tmps.getD 33 undef = (vl3 6) := oc_get hl 33 6 (by kernel_rfl) (by kernel_rfl)
    have h := fin_slot [(31, (vl3 4)), (33, (vl3 6))] (hs9.trans h.size) (hd9.trans h.defers) (holds_lk ⟨e31, e33, trivial⟩)
    replace s : St w (.sl (vl3 4) 26 33 r.length (mbCells r) :: .sl (vl3 6) 26 33 1 (mbArr m).toList :: .blk b9 (.cells ((mbArr (csM s9 t9 r))) 26) :: .blk b7 (.cells ((mbArr m)) 26) :: .blk b5 (.cells (idArr s9) 24) :: .blk b4 (.cells (idArr t9) 24) :: E9) _ := s
    refine s_append 0 1 h s Try.underlying22 elm26 rfl rfl rfl rfl (by decide) (mbArr_ones m) (by unfold maxLen; omega) (by omega) rfl ?_; intro f w1 v34 h s
    replace s := s.resl (m := (r ++ [m]).length) (ys := mbCells (r ++ [m])) 0 rfl (by rw [List.length_append]; rfl) (mb_snoc _ _)
    exact s_nil ⟨_, oc_out 34 rfl (h.holds 34 _ rfl), trivial, (s.pick _ (List.Sublist.cons_cons _ (List.Sublist.cons _ (List.Sublist.cons_cons _ (List.Sublist.cons_cons _ (List.Sublist.cons_cons _ (List.Sublist.cons_cons _ (List.Sublist.refl _))))))))⟩
  · intro f9 w2 vl3 E9 hs9 hd9 hl hF s
    have e27 : f9.tmps.getD 27 undef = .agg (idArr t9) := (oc_get hl 27 0 (by kernel_rfl) (by kernel_rfl)).trans (hF 0 (by decide))
    have e28 : f9.tmps.getD 28 undef = .agg (idArr s9) := (oc_get hl 28 1 (by kernel_rfl) (by kernel_rfl)).trans (hF 1 (by decide))
    have e34 : f9.tmps.getD 34 undef = (vl3 7) := oc_get hl 34 7 (by kernel_rfl) (by kernel_rfl)
    have h := fin_slot [(27, .agg (idArr t9)), (28, .agg (idArr s9)), (34, (vl3 7))] (hs9.trans h.size) (hd9.trans h.defers) (holds_lk ⟨e27, e28, e34, trivial⟩)
    replace s : St w (.sl (vl3 7) 26 33 (r ++ [m]).length (mbCells (r ++ [m])) :: .blk b9 (.cells ((mbArr (csM s9 t9 r))) 26) :: .blk b7 (.cells ((mbArr m)) 26) :: .blk b5 (.cells (idArr s9) 24) :: .blk b4 (.cells (idArr t9) 24) :: E9) _ := s
    refine s_call h s fnc17 (closest_any (r ++ [m]) (vl3 7) t9 s9 _ (RdZ.of_own (s.getSl 0 rfl)) hml) rfl rfl ?_; intro f w1 v9 hT hE h s; obtain rfl := hT
    exact s_nil ⟨_, oc_out 35 rfl (h.holds 35 _ rfl), rfl, (s.pick _ (List.Sublist.cons _ (List.Sublist.cons_cons _ (List.Sublist.cons_cons _ (List.Sublist.cons_cons _ (List.Sublist.cons_cons _ (List.Sublist.refl _)))))))⟩
  · intro f9 w2 vl3 E9 hs9 hd9 hl hF s
    have e35 : f9.tmps.getD 35 undef = .tuple #[.agg (mbArr (csM s9 t9 (r ++ [m]))), .int .i64 (csE s9 t9 (r ++ [m]))] := (oc_get hl 35 8 (by kernel_rfl) (by kernel_rfl)).trans (hF 8 (by decide))
    have h := fin_slot [(35, .tuple #[.agg (mbArr (csM s9 t9 (r ++ [m]))), .int .i64 (csE s9 t9 (r ++ [m]))])] (hs9.trans h.size) (hd9.trans h.defers) (holds_lk ⟨e35, trivial⟩)
    replace s : St w (.blk b9 (.cells ((mbArr (csM s9 t9 r))) 26) :: .blk b7 (.cells ((mbArr m)) 26) :: .blk b5 (.cells (idArr s9) 24) :: .blk b4 (.cells (idArr t9) 24) :: E9) _ := s
    refine s_pure h (ru_move (h.ev rfl)) rfl ?_; intro f h
    exact s_nil ⟨_, oc_out 26 rfl (h.holds 26 _ rfl), rfl, s⟩
  · intro f9 w2 vl3 E9 hs9 hd9 hl hF s
    have e26 : f9.tmps.getD 26 undef = .tuple #[.agg (mbArr (csM s9 t9 (r ++ [m]))), .int .i64 (csE s9 t9 (r ++ [m]))] := (oc_get hl 26 9 (by kernel_rfl) (by kernel_rfl)).trans (hF 9 (by decide))
    have h := fin_slot [(26, .tuple #[.agg (mbArr (csM s9 t9 (r ++ [m]))), .int .i64 (csE s9 t9 (r ++ [m]))])] (hs9.trans h.size) (hd9.trans h.defers) (holds_lk ⟨e26, trivial⟩)
    replace s : St w (.blk b9 (.cells ((mbArr (csM s9 t9 r))) 26) :: .blk b7 (.cells ((mbArr m)) 26) :: .blk b5 (.cells (idArr s9) 24) :: .blk b4 (.cells (idArr t9) 24) :: E9) _ := s
    refine s_pure h (ru_extract (h.ev rfl) rfl) rfl ?_; intro f h
    exact s_nil ⟨_, oc_out 36 rfl (h.holds 36 _ rfl), rfl, s⟩
  · intro f9 w2 vl3 E9 hs9 hd9 hl hF s
    have e26 : f9.tmps.getD 26 undef = .tuple #[.agg (mbArr (csM s9 t9 (r ++ [m]))), .int .i64 (csE s9 t9 (r ++ [m]))] := (oc_get hl 26 9 (by kernel_rfl) (by kernel_rfl)).trans (hF 9 (by decide))
    have h := fin_slot [(26, .tuple #[.agg (mbArr (csM s9 t9 (r ++ [m]))), .int .i64 (csE s9 t9 (r ++ [m]))])] (hs9.trans h.size) (hd9.trans h.defers) (holds_lk ⟨e26, trivial⟩)
    replace s : St w (.blk b9 (.cells ((mbArr (csM s9 t9 r))) 26) :: .blk b7 (.cells ((mbArr m)) 26) :: .blk b5 (.cells (idArr s9) 24) :: .blk b4 (.cells (idArr t9) 24) :: E9) _ := s
    refine s_pure h (ru_extract (h.ev rfl) rfl) rfl ?_; intro f h
    exact s_nil ⟨_, oc_out 37 rfl (h.holds 37 _ rfl), rfl, s⟩
  · intro f9 w2 vl3 E9 hs9 hd9 hl hF s
    have h := fin_slot [] (hs9.trans h.size) (hd9.trans h.defers) (holds_lk trivial)
    replace s : St w (.blk b9 (.cells ((mbArr (csM s9 t9 r))) 26) :: .blk b7 (.cells ((mbArr m)) 26) :: .blk b5 (.cells (idArr s9) 24) :: .blk b4 (.cells (idArr t9) 24) :: E9) _ := s
    refine s_alloc (mbArr zMb) h s zero26 rfl rfl ?_; intro f w1 b11 h s
    exact s_nil ⟨_, oc_out 11 rfl (h.holds 11 _ rfl), ⟨_, rfl⟩, s⟩
  · intro f9 w2 vl3 E9 hs9 hd9 hl hF s
    obtain ⟨b11, hb11⟩ : ∃ b, vl3 12 = .pointer (some ⟨b, 0, none⟩) := hF 12 (by decide)
    have e11 : f9.tmps.getD 11 undef = .pointer (some ⟨b11, 0, none⟩) := (oc_get hl 11 12 (by kernel_rfl) (by kernel_rfl)).trans hb11
    have e36 : f9.tmps.getD 36 undef = .agg (mbArr (csM s9 t9 (r ++ [m]))) := (oc_get hl 36 10 (by kernel_rfl) (by kernel_rfl)).trans (hF 10 (by decide))
    have h := fin_slot [(11, .pointer (some ⟨b11, 0, none⟩)), (36, .agg (mbArr (csM s9 t9 (r ++ [m]))))] (hs9.trans h.size) (hd9.trans h.defers) (holds_lk ⟨e11, e36, trivial⟩)
    replace s : St w (.blk (pbk (vl3 12)) (.cells (mbArr zMb) 26) :: .blk b9 (.cells ((mbArr (csM s9 t9 r))) 26) :: .blk b7 (.cells ((mbArr m)) 26) :: .blk b5 (.cells (idArr s9) 24) :: .blk b4 (.cells (idArr t9) 24) :: E9) _ := s
    rw [hb11] at s
    replace s : St w (.blk b11 (.cells (mbArr zMb) 26) :: .blk b9 (.cells ((mbArr (csM s9 t9 r))) 26) :: .blk b7 (.cells ((mbArr m)) 26) :: .blk b5 (.cells (idArr s9) 24) :: .blk b4 (.cells (idArr t9) 24) :: E9) _ := s
    refine s_store_row 0 h s row26 rfl rfl rfl (mbArr_size _) (mbArr_size _) (mbArr_ones _) ?_; intro w1 s
    refine s_nil ⟨undef, oc_none rfl, trivial, ?_⟩
    have z := s
    rw [← show pbk (vl3 12) = b11 from by rw [hb11]; rfl] at z
    exact z
  · intro f9 w2 vl3 E9 hs9 hd9 hl hF s
    have e37 : f9.tmps.getD 37 undef = .int .i64 (csE s9 t9 (r ++ [m])) := (oc_get hl 37 11 (by kernel_rfl) (by kernel_rfl)).trans (hF 11 (by decide))
    have h := fin_slot [(37, .int .i64 (csE s9 t9 (r ++ [m])))] (hs9.trans h.size) (hd9.trans h.defers) (holds_lk ⟨e37, trivial⟩)
    replace s : St w (.blk b9 (.cells ((mbArr (csM s9 t9 r))) 26) :: .blk b7 (.cells ((mbArr m)) 26) :: .blk b5 (.cells (idArr s9) 24) :: .blk b4 (.cells (idArr t9) 24) :: E9) _ := s
    refine s_pure h (ru_assign (h.ev rfl)) rfl ?_; intro f h
    exact s_nil ⟨_, oc_out 12 rfl (h.holds 12 _ rfl), rfl, s⟩
  intro f w1 vl3 hs9 hd9 hv hr hF s
  obtain ⟨b11, hb11⟩ : ∃ b, vl3 12 = .pointer (some ⟨b, 0, none⟩) := hF 12 (by kernel_rfl)
  replace h := oc_sl (ops := _) [(27, .agg (idArr t9)), (28, .agg (idArr s9)), (29, (vl3 2)), (30, (cutV vh (min l.length 18))), (31, (vl3 4)), (32, .agg ((mbArr m))), (33, (vl3 6)), (34, (vl3 7)), (35, .tuple #[.agg (mbArr (csM s9 t9 (r ++ [m]))), .int .i64 (csE s9 t9 (r ++ [m]))]), (26, .tuple #[.agg (mbArr (csM s9 t9 (r ++ [m]))), .int .i64 (csE s9 t9 (r ++ [m]))]), (36, .agg (mbArr (csM s9 t9 (r ++ [m])))), (37, .int .i64 (csE s9 t9 (r ++ [m]))), (11, .pointer (some ⟨b11, 0, none⟩)), (12, .int .i64 (csE s9 t9 (r ++ [m])))] h hs9 hd9 hr ⟨(hv 0 27 rfl).trans (hF 0 (by kernel_rfl)), (hv 1 28 rfl).trans (hF 1 (by kernel_rfl)), hv 2 29 rfl, (hv 3 30 rfl).trans (hF 3 (by kernel_rfl)), hv 4 31 rfl, (hv 5 32 rfl).trans (hF 5 (by kernel_rfl)), hv 6 33 rfl, hv 7 34 rfl, (hv 8 35 rfl).trans (hF 8 (by kernel_rfl)), (hv 9 26 rfl).trans (hF 9 (by kernel_rfl)), (hv 10 36 rfl).trans (hF 10 (by kernel_rfl)), (hv 11 37 rfl).trans (hF 11 (by kernel_rfl)), (hv 12 11 rfl).trans hb11, (hv 14 12 rfl).trans (hF 14 (by kernel_rfl)), trivial⟩ (by kernel_rfl)
  replace s : St w [.blk (pbk (vl3 12)) (.cells (mbArr (csM s9 t9 (r ++ [m]))) 26), .blk b9 (.cells ((mbArr (csM s9 t9 r))) 26), .blk b7 (.cells ((mbArr m)) 26), .blk b5 (.cells (idArr s9) 24), .blk b4 (.cells (idArr t9) 24)] _ := s
  rw [hb11] at s
  replace s : St w [.blk b11 (.cells (mbArr (csM s9 t9 (r ++ [m]))) 26), .blk b9 (.cells ((mbArr (csM s9 t9 r))) 26), .blk b7 (.cells ((mbArr m)) 26), .blk b5 (.cells (idArr s9) 24), .blk b4 (.cells (idArr t9) 24)] _ := s
  refine hK4 _ _ ?_
  refine c_seq fun K5 hK5 => ?_
  refine c_region ?_
  refine s_pure h (ru_assign (h.ev rfl)) rfl ?_; intro f h
  refine s_nil ?_
  refine hK5 _ _ ?_
  refine c_seq fun K6 hK6 => ?_
  refine c_seq fun K7 hK7 => ?_
  refine c_region ?_
  replace s := s.nilSl 26 33
  refine s_pure h (ru_move (h.ev rfl)) rfl ?_; intro f h
  refine s_pure h (ru_lenZ (hlv.keep s.ext) Try.underlying22 (h.ev rfl)) rfl ?_; intro f h
  refine s_pure h (ru_sub (h.ev rfl) (h.ev rfl) (by omega)) rfl ?_; intro f h
  refine s_pure h (ru_assign (h.ev rfl)) rfl ?_; intro f h
  refine s_nil ?_
  refine hK7 _ _ ?_
  refine wpIn_block ?_
  refine wpIn_loop_ghost (fun nn aa ww => ∃ k : Nat, ∃ vb : Value, Sl 90 aa [(0, idV t9), (1, idV s9), (3, .agg (mbArr m)), (4, .pointer (some ⟨b4, 0, none⟩)), (5, .pointer (some ⟨b5, 0, none⟩)), (7, .pointer (some ⟨b7, 0, none⟩)), (9, .pointer (some ⟨b9, 0, none⟩)), (11, .pointer (some ⟨b11, 0, none⟩)), (29, (vl3 2)), (31, (vl3 4)), (33, (vl3 6)), (34, (vl3 7)), (2, (cutV vh (min l.length 18))), (10, .int .i64 (csE s9 t9 r)), (12, .int .i64 (csE s9 t9 (r ++ [m]))), (13, vb), (14, .int .i64 ((k : Int) - 1))] ∧ St w [.sl vb 26 33 (r.drop k).reverse.length (mbCells (r.drop k).reverse), .blk b11 (.cells (mbArr (csM s9 t9 (r ++ [m]))) 26), .blk b9 (.cells (mbArr (csM s9 t9 r)) 26), .blk b7 (.cells ((mbArr m)) 26), .blk b5 (.cells (idArr s9) 24), .blk b4 (.cells (idArr t9) 24)] ww ∧ nn = k ∧ k ≤ r.length) ((r.length)) ⟨r.length, (Value.slice none 0 0), h.only ⟨rfl, rfl, rfl, rfl, rfl, rfl, rfl, rfl, rfl, rfl, rfl, rfl, rfl, rfl, rfl, rfl, slot_int rfl (by omega), trivial⟩, s.as ⟨sl_eq (by rw [List.drop_length]; rfl) (by rw [List.drop_length]; rfl), rfl, rfl, rfl, rfl, rfl, trivial⟩, rfl, Nat.le_refl _⟩ ?_
  rintro _ f w1 ⟨k, vb, h, s, hnn, hp0⟩
  refine c_seq fun K8 hK8 => ?_
  refine c_seq fun K9 hK9 => ?_
  refine c_region ?_
  refine s_pure h (ru_move (h.ev rfl)) rfl ?_; intro f h
  refine s_pure h (ru_geq (h.ev rfl) (h.ev rfl)) rfl ?_; intro f h
  refine s_nil ?_
  refine hK9 _ _ ?_
  refine c_cond h rfl (fun hc => ?_) (fun hc => ?_)
  · replace hc := of_decide_eq_true hc
    refine wpIn_skip ?_
    refine hK8 _ _ ?_
    refine c_seq fun K10 hK10 => ?_
    refine wpIn_block ?_
    refine c_region ?_
    have hrs : (r.drop (k - 1)).reverse = (r.drop k).reverse ++ [r.getD (k - 1) zMb] := by have h9 := rev_snoc (l := r) (k := k - 1) (by omega); rwa [show k - 1 + 1 = k by omega] at h9
    refine s_pure h (ru_move (h.ev rfl)) rfl ?_; intro f h
    refine s_pure h (ru_move (h.ev rfl)) rfl ?_; intro f h
    refine s_pure h (ru_move (h.ev rfl)) rfl ?_; intro f h
    refine s_pure h (ru_ixz (hlv.keep s.ext) (k - 1) Try.underlying22 szo26 (h.ev rfl) (h.ev rfl) (by omega) (by omega)) rfl ?_; intro f h
    refine s_load_at ((hlv.keep s.ext).el (k - 1) (by omega) (by decide) (D := mbArr (r.getD (k - 1) zMb)) (mb_elD r (k - 1) (by omega))) h row26 rfl (mbArr_size _) rfl ?_; intro f h
    refine s_bslice (vs := [.agg (mbArr (r.getD (k - 1) zMb))]) [.tmp 49] h s Try.underlying22 elm26 rfl rfl (mb_sz _) rfl rfl rfl ?_; intro f w1 v50 h s
    refine s_append 1 0 h s Try.underlying22 elm26 rfl rfl rfl rfl (by decide) (by rw [one_mb]; exact mbArr_ones _) (by rw [List.length_reverse, List.length_drop]; unfold maxLen; omega) (by rw [List.length_reverse, List.length_drop]; omega) rfl ?_; intro f w1 v51 h s
    replace s := s.pick _ (List.sublist_cons_self _ _)
    replace s := s.resl (m := (r.drop (k - 1)).reverse.length) (ys := mbCells (r.drop (k - 1)).reverse) 0 rfl (by rw [hrs, List.length_append]; rfl) (by rw [hrs, one_mb, mb_snoc])
    refine s_pure h (ru_assign (h.ev rfl)) rfl ?_; intro f h
    refine s_nil ?_
    refine b_norm ?_
    refine hK10 _ _ ?_
    refine c_region ?_
    refine s_pure h (ru_move (h.ev rfl)) rfl ?_; intro f h
    refine s_pure h (ru_sub (h.ev rfl) (h.ev rfl) (by omega)) rfl ?_; intro f h
    refine s_pure h (ru_assign (h.ev rfl)) rfl ?_; intro f h
    refine s_nil ?_
    refine t_norm ?_
    exact ⟨_, by omega, ⟨k - 1, v51, h.only ⟨rfl, rfl, rfl, rfl, rfl, rfl, rfl, rfl, rfl, rfl, rfl, rfl, rfl, rfl, rfl, rfl, slot_int rfl (by omega), trivial⟩, St.as (s.pick _ (List.Sublist.cons_cons _ (List.Sublist.cons_cons _ (List.Sublist.cons_cons _ (List.Sublist.cons_cons _ (List.Sublist.cons_cons _ (List.Sublist.cons_cons _ (List.nil_sublist _)))))))) ⟨rfl, rfl, rfl, rfl, rfl, rfl, trivial⟩, rfl, by omega⟩⟩
  · replace hc := of_decide_eq_false hc
    refine wpIn_exit ?_
    refine t_exit ?_
    refine t_exit ?_
    refine b_exit ?_
    refine hK6 _ _ ?_
    refine c_seq fun K11 hK11 => ?_
    refine c_region ?_
    obtain rfl : k = 0 := by omega
    refine s_load_row 5 h s row24 rfl rfl (by first | exact idArr_size _ | exact bytesF_size _ _) rfl ?_; intro f h
    refine s_load_row 4 h s row24 rfl rfl (by first | exact idArr_size _ | exact bytesF_size _ _) rfl ?_; intro f h
    refine s_pure h (ru_move (h.ev rfl)) rfl ?_; intro f h
    refine s_call h s fnc17 (closest_any r.reverse vb t9 s9 _ (RdZ.of_own (s.getSl 0 rfl)) hrl) rfl rfl ?_; intro f w1 v9 hT hE h s; obtain rfl := hT
    refine s_pure h (ru_move (h.ev rfl)) rfl ?_; intro f h
    refine s_pure h (ru_extract (h.ev rfl) rfl) rfl ?_; intro f h
    refine s_pure h (ru_extract (h.ev rfl) rfl) rfl ?_; intro f h
    refine s_alloc (mbArr zMb) h s zero26 rfl rfl ?_; intro f w1 b15 h s
    refine s_store_row 0 h s row26 rfl rfl rfl (mbArr_size _) (mbArr_size _) (mbArr_ones _) ?_; intro w1 s
    refine s_pure h (ru_assign (h.ev rfl)) rfl ?_; intro f h
    refine s_nil ?_
    refine hK11 _ _ ?_
    refine c_seq fun K12 hK12 => ?_
    refine c_seq fun K13 hK13 => ?_
    refine c_region ?_
    refine s_pure h (ru_move (h.ev rfl)) rfl ?_; intro f h
    refine s_pure h (ru_move (h.ev rfl)) rfl ?_; intro f h
    refine s_pure h (ru_val (.bool false) (ru_neq (h.ev rfl) (h.ev rfl)) (congrArg Value.bool (decide_eq_false (not_not_intro (more_back s9 t9 r).1)))) rfl ?_; intro f h
    refine s_pure h (ru_move (h.ev rfl)) rfl ?_; intro f h
    refine s_on h rfl rfl rfl ?_
    refine s_pure h (ru_field fld26_1 (h.ev rfl)) rfl ?_; intro f h
    refine s_on h rfl rfl rfl ?_
    refine s_load_at (Has.subL (Has.of_own s 3 rfl) 1 32 (D := idArr (_)) (mbArr_id _)) h row24 rfl (by first | exact idArr_size _ | exact bytesF_size _ _) rfl ?_; intro f h
    refine s_on h rfl rfl rfl ?_
    refine s_pure h (ru_field fld26_1 (h.ev rfl)) rfl ?_; intro f h
    refine s_on h rfl rfl rfl ?_
    refine s_load_at (Has.subL (Has.of_own s 0 rfl) 1 32 (D := idArr (_)) (mbArr_id _)) h row24 rfl (by first | exact idArr_size _ | exact bytesF_size _ _) rfl ?_; intro f h
    refine s_on h rfl rfl rfl ?_
    refine s_pure h (ru_val (.bool false) (ru_neq_id idTy (h.ev rfl) (h.ev rfl)) (congrArg Value.bool (decide_eq_false (not_not_intro (more_back s9 t9 r).2)))) rfl ?_; intro f h
    refine s_pure h (ru_pick_f (h.ev rfl) (h.ev rfl)) rfl ?_; intro f h
    refine s_pure h (ru_move (h.ev rfl)) rfl ?_; intro f h
    refine s_on h rfl rfl rfl ?_
    refine s_call h s fnc13 (alive_any _) rfl rfl ?_; intro f w1 v9 hT hE h s; obtain rfl := hT
    refine s_on h rfl rfl rfl ?_
    refine s_pure h (ru_val (.bool false) (ru_not (h.ev rfl)) rfl) rfl ?_; intro f h
    refine s_pure h (ru_pick_f (h.ev rfl) (h.ev rfl)) rfl ?_; intro f h
    refine s_nil ?_
    refine hK13 _ _ ?_
    refine wpIn_cond_false (h.ev rfl) ?_
    refine wpIn_skip ?_
    refine hK12 _ _ ?_
    refine c_seq fun K14 hK14 => ?_
    cases qa : (decide ((csE s9 t9 r) = (csE s9 t9 (r ++ [m]))) : Bool)
    · skip
      refine c_region ?_
      refine s_pure h (ru_move (h.ev rfl)) rfl ?_; intro f h
      refine s_pure h (ru_move (h.ev rfl)) rfl ?_; intro f h
      refine s_pure h (ru_val (.bool false) (ru_eql (h.ev rfl) (h.ev rfl)) (congrArg Value.bool qa)) rfl ?_; intro f h
      refine s_pure h (ru_move (h.ev rfl)) rfl ?_; intro f h
      refine s_off (b := true) h rfl rfl rfl rfl ?_; intro f h
      refine s_off (b := true) h rfl rfl rfl rfl ?_; intro f h
      refine s_off (b := true) h rfl rfl rfl rfl ?_; intro f h
      refine s_pure h (ru_pick_f (h.ev rfl) (h.ev rfl)) rfl ?_; intro f h
      refine s_pure h (ru_move (h.ev rfl)) rfl ?_; intro f h
      refine s_on h rfl rfl rfl ?_
      refine s_pure h (ru_move (h.ev rfl)) rfl ?_; intro f h
      refine s_on h rfl rfl rfl ?_
      refine s_pure h (ru_val (.bool true) (ru_eql (h.ev rfl) (h.ev rfl)) (congrArg Value.bool (decide_eq_true (((more_one s9 t9 r m).resolve_left (fun h9 => of_decide_eq_false qa h9.1)).1)))) rfl ?_; intro f h
      refine s_on h rfl rfl rfl ?_
      refine s_pure h (ru_move (h.ev rfl)) rfl ?_; intro f h
      refine s_on h rfl rfl rfl ?_
      refine s_load_row 2 h s row26 rfl rfl (mbArr_size _) rfl ?_; intro f h
      refine s_on h rfl rfl rfl ?_
      refine s_load_row 4 h s row26 rfl rfl (mbArr_size _) rfl ?_; intro f h
      refine s_on h rfl rfl rfl ?_
      refine s_pure h (ru_val (.bool true) (ru_eqlW (eqM _ _) (by kernel_rfl) (by decide) (h.ev rfl) (h.ev rfl) (decide ((csM s9 t9 (r ++ [m])) = m)) (mbEq _ _)) (congrArg Value.bool (decide_eq_true (((more_one s9 t9 r m).resolve_left (fun h9 => of_decide_eq_false qa h9.1)).2)))) rfl ?_; intro f h
      refine s_on h rfl rfl rfl ?_
      refine s_pure h (ru_pick_t (h.ev rfl) (h.ev rfl)) rfl ?_; intro f h
      refine s_pure h (ru_pick_f (h.ev rfl) (h.ev rfl)) rfl ?_; intro f h
      refine s_pure h (ru_assign (h.ev rfl)) rfl ?_; intro f h
      refine s_nil ?_
      refine hK14 _ _ ?_
      refine wpIn_ret ?_
      exact e_tmp rfl h s rfl (rfl)
    · skip
      cases qb : (decide ((csM s9 t9 r) = (csM s9 t9 (r ++ [m]))) : Bool)
      · skip
        refine c_region ?_
        refine s_pure h (ru_move (h.ev rfl)) rfl ?_; intro f h
        refine s_pure h (ru_move (h.ev rfl)) rfl ?_; intro f h
        refine s_pure h (ru_val (.bool true) (ru_eql (h.ev rfl) (h.ev rfl)) (congrArg Value.bool qa)) rfl ?_; intro f h
        refine s_pure h (ru_move (h.ev rfl)) rfl ?_; intro f h
        refine s_on h rfl rfl rfl ?_
        refine s_load_row 3 h s row26 rfl rfl (mbArr_size _) rfl ?_; intro f h
        refine s_on h rfl rfl rfl ?_
        refine s_load_row 2 h s row26 rfl rfl (mbArr_size _) rfl ?_; intro f h
        refine s_on h rfl rfl rfl ?_
        refine s_pure h (ru_val (.bool false) (ru_eqlW (eqM _ _) (by kernel_rfl) (by decide) (h.ev rfl) (h.ev rfl) (decide ((csM s9 t9 r) = (csM s9 t9 (r ++ [m])))) (mbEq _ _)) (congrArg Value.bool qb)) rfl ?_; intro f h
        refine s_pure h (ru_pick_t (h.ev rfl) (h.ev rfl)) rfl ?_; intro f h
        refine s_pure h (ru_move (h.ev rfl)) rfl ?_; intro f h
        refine s_on h rfl rfl rfl ?_
        refine s_pure h (ru_move (h.ev rfl)) rfl ?_; intro f h
        refine s_on h rfl rfl rfl ?_
        refine s_pure h (ru_val (.bool true) (ru_eql (h.ev rfl) (h.ev rfl)) (congrArg Value.bool (decide_eq_true (((more_one s9 t9 r m).resolve_left (fun h9 => of_decide_eq_false qb h9.2)).1)))) rfl ?_; intro f h
        refine s_on h rfl rfl rfl ?_
        refine s_pure h (ru_move (h.ev rfl)) rfl ?_; intro f h
        refine s_on h rfl rfl rfl ?_
        refine s_load_row 2 h s row26 rfl rfl (mbArr_size _) rfl ?_; intro f h
        refine s_on h rfl rfl rfl ?_
        refine s_load_row 4 h s row26 rfl rfl (mbArr_size _) rfl ?_; intro f h
        refine s_on h rfl rfl rfl ?_
        refine s_pure h (ru_val (.bool true) (ru_eqlW (eqM _ _) (by kernel_rfl) (by decide) (h.ev rfl) (h.ev rfl) (decide ((csM s9 t9 (r ++ [m])) = m)) (mbEq _ _)) (congrArg Value.bool (decide_eq_true (((more_one s9 t9 r m).resolve_left (fun h9 => of_decide_eq_false qb h9.2)).2)))) rfl ?_; intro f h
        refine s_on h rfl rfl rfl ?_
        refine s_pure h (ru_pick_t (h.ev rfl) (h.ev rfl)) rfl ?_; intro f h
        refine s_pure h (ru_pick_f (h.ev rfl) (h.ev rfl)) rfl ?_; intro f h
        refine s_pure h (ru_assign (h.ev rfl)) rfl ?_; intro f h
        refine s_nil ?_
        refine hK14 _ _ ?_
        refine wpIn_ret ?_
        exact e_tmp rfl h s rfl (rfl)
      · skip
        refine c_region ?_
        refine s_pure h (ru_move (h.ev rfl)) rfl ?_; intro f h
        refine s_pure h (ru_move (h.ev rfl)) rfl ?_; intro f h
        refine s_pure h (ru_val (.bool true) (ru_eql (h.ev rfl) (h.ev rfl)) (congrArg Value.bool qa)) rfl ?_; intro f h
        refine s_pure h (ru_move (h.ev rfl)) rfl ?_; intro f h
        refine s_on h rfl rfl rfl ?_
        refine s_load_row 3 h s row26 rfl rfl (mbArr_size _) rfl ?_; intro f h
        refine s_on h rfl rfl rfl ?_
        refine s_load_row 2 h s row26 rfl rfl (mbArr_size _) rfl ?_; intro f h
        refine s_on h rfl rfl rfl ?_
        refine s_pure h (ru_val (.bool true) (ru_eqlW (eqM _ _) (by kernel_rfl) (by decide) (h.ev rfl) (h.ev rfl) (decide ((csM s9 t9 r) = (csM s9 t9 (r ++ [m])))) (mbEq _ _)) (congrArg Value.bool qb)) rfl ?_; intro f h
        refine s_pure h (ru_pick_t (h.ev rfl) (h.ev rfl)) rfl ?_; intro f h
        refine s_pure h (ru_move (h.ev rfl)) rfl ?_; intro f h
        refine s_off (b := false) h rfl rfl rfl rfl ?_; intro f h
        refine s_off (b := false) h rfl rfl rfl rfl ?_; intro f h
        refine s_off (b := false) h rfl rfl rfl rfl ?_; intro f h
        refine s_none h rfl rfl rfl rfl ?_; intro f h
        refine s_none h rfl rfl rfl rfl ?_; intro f h
        refine s_none h rfl rfl rfl rfl ?_; intro f h
        refine s_off (b := false) h rfl rfl rfl rfl ?_; intro f h
        refine s_pure h (ru_pick_t (h.ev rfl) (h.ev rfl)) rfl ?_; intro f h
        refine s_pure h (ru_assign (h.ev rfl)) rfl ?_; intro f h
        refine s_nil ?_
        refine hK14 _ _ ?_
        refine wpIn_ret ?_
        exact e_tmp rfl h s rfl (rfl)
end Go.Proofs.Ytbjgpimabgcipaa
