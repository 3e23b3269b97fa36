/- What is put is matched; few. -/
import Derived.Test.YtliknbdambmmaaaXb
set_option linter.unusedVariables false
set_option linter.unusedSimpArgs false
set_option linter.unusedSectionVars false
namespace Go.Proofs.Ytliknbdambmmaaa
open Go.RowKit
theorem tfew_any (v9 : Value) (l : List Tg) (w : World) (hv : RdZ w v9 67 l.length (tgCells l)) : Calls Try.prog 8 [v9].toArray w (Ret w (is (cutV v9 (min l.length 34)))) := by
  refine c_enter Try.func8 rfl Try.ntmps8 rfl [(0, v9)] (by simp) fun f h => ?_
  have s := St.start w
  refine c_seq fun K1 hK1 => ?_
  refine c_region ?_
  refine s_pure h (ru_assign (h.ev rfl)) rfl ?_; intro f h
  refine s_nil ?_
  refine hK1 _ _ ?_
  refine c_seq fun K2 hK2 => ?_
  refine c_region ?_
  refine s_pure h (ru_move (h.ev rfl)) rfl ?_; intro f h
  refine s_pure h (ru_move (h.ev rfl)) rfl ?_; intro f h
  refine s_pure h (ru_lenZ (hv.keep s.ext) Try.underlying22 (h.ev rfl)) rfl ?_; intro f h
  refine s_pure h (ru_min (h.ev rfl) (h.ev rfl)) rfl ?_; intro f h
  refine s_pure h (ru_slice_hiZ (hv.keep s.ext) (min l.length 34) Try.underlying22 szo28 (h.ev rfl) (h.ev rfl) (by split <;> omega) (by omega)) rfl ?_; intro f h
  refine s_pure h (ru_assign (h.ev rfl)) rfl ?_; intro f h
  refine s_nil ?_
  refine hK2 _ _ ?_
  refine wpIn_ret ?_
  exact e_tmp rfl h s rfl (rfl)

theorem talive_any  (w : World) : Calls Try.prog 13 [].toArray w (Ret w (is (.bool true))) := by
  refine c_enter Try.func13 rfl Try.ntmps13 rfl [] (by simp) fun f h => ?_
  have s := St.start w
  refine c_seq fun K1 hK1 => ?_
  refine c_region ?_
  refine s_pure h (ru_assign (h.ev rfl)) rfl ?_; intro f h
  refine s_nil ?_
  refine hK1 _ _ ?_
  refine c_seq fun K2 hK2 => ?_
  refine c_region ?_
  refine s_pure h (ru_build1 idTy (v := 7) 0 rfl (by decide) (by decide)) rfl ?_; intro f h
  refine s_pure h (ru_build_eh sttE rfl rfl) rfl ?_; intro f h
  refine s_pure h (ru_build_tg3 sttG (h.ev rfl) (h.ev rfl) rfl) rfl ?_; intro f h
  refine s_alloc (tgArr zTg) h s zero28 rfl rfl ?_; intro f w1 b1 h s
  refine s_store_row 0 h s row28 rfl rfl rfl (tgArr_size _) (tgArr_size _) (tgArr_ones _) ?_; intro w1 s
  refine s_nil ?_
  refine hK2 _ _ ?_
  refine c_seq fun K3 hK3 => ?_
  refine c_region ?_
  refine s_load_row 0 h s row28 rfl rfl (tgArr_size _) rfl ?_; intro f h
  refine s_call h s fnc9 (tput_any [] nilV x12 _ (rt_nilT _) (by decide)) rfl rfl ?_; rintro f w1 v11 ⟨va, kva, rfl, hG⟩ hE h sq; replace s := s.add hG; clear hG
  obtain ⟨q1, q2⟩ := al12_put
  obtain ⟨q3, q4⟩ := al12_match
  have hq2 : (putR [] x12).length ≤ 1000 := by rw [q2]; decide
  refine s_pure h (ru_move (h.ev rfl)) rfl ?_; intro f h
  refine s_pure h (ru_extract (h.ev rfl) rfl) rfl ?_; intro f h
  refine s_pure h (ru_extract (h.ev rfl) rfl) rfl ?_; intro f h
  refine s_pure h (ru_assign (h.ev rfl)) rfl ?_; intro f h
  refine s_pure h (ru_assign (h.ev rfl)) rfl ?_; intro f h
  refine s_nil ?_
  refine hK3 _ _ ?_
  refine c_seq fun K4 hK4 => ?_
  refine c_region ?_
  refine s_pure h (ru_move (h.ev rfl)) rfl ?_; intro f h
  refine s_pure h (ru_field fld28_0 (h.ev rfl)) rfl ?_; intro f h
  refine s_load_at (Has.subL (Has.of_own s 1 rfl) 0 32 (D := idArr (_)) (tgArr_id _)) h row24 rfl (by first | exact idArr_size _ | exact bytesF_size _ _) rfl ?_; intro f h
  refine s_call h s fnc20 (tmatch_any (putR [] x12) va x12.1 _ ((s.getG 0 rfl) (rt_nilT _)) hq2) rfl rfl ?_; rintro f w1 v18 ⟨vb, kvb, rfl, hG⟩ hE h sq; replace s := s.add hG; clear hG
  have q5 : 0 < (mtL (putR [] x12) x12.1).length := by rw [q2, q4]; decide
  refine s_pure h (ru_move (h.ev rfl)) rfl ?_; intro f h
  refine s_pure h (ru_extract (h.ev rfl) rfl) rfl ?_; intro f h
  refine s_pure h (ru_extract (h.ev rfl) rfl) rfl ?_; intro f h
  refine s_pure h (ru_assign (h.ev rfl)) rfl ?_; intro f h
  refine s_pure h (ru_assign (h.ev rfl)) rfl ?_; intro f h
  refine s_nil ?_
  refine hK4 _ _ ?_
  refine c_seq fun K5 hK5 => ?_
  refine c_walkN 23 [[], [0], [0, 1], [0, 1, 2], [0, 1, 2, 3], [0, 1, 2, 3, 4], [0, 1, 2, 3, 4, 5], [0, 1, 2, 3, 4, 5, 6], [0, 1, 2, 3, 4, 5, 6, 7], [0, 1, 2, 3, 4, 5, 6, 7, 8], [0, 1, 2, 3, 4, 5, 6, 7, 8, 9], [0, 1, 2, 3, 4, 5, 6, 7, 8, 9, 10], [0, 1, 2, 3, 4, 5, 6, 7, 8, 9, 10, 11], [0, 1, 2, 3, 4, 5, 6, 7, 8, 9, 10, 11, 12], [0, 1, 2, 3, 4, 5, 6, 7, 8, 9, 10, 11, 12, 13], [0, 1, 2, 3, 4, 5, 6, 7, 8, 9, 10, 11], [0, 1, 2, 3, 4, 5, 6, 7, 8, 9, 10, 11, 12, 13, 14, 15], [0, 1, 2, 3, 4, 5, 6, 7, 8, 9, 10, 11, 12, 13, 14, 15, 16], [0, 1, 2, 3, 4, 5, 6, 7, 8, 9, 10, 11, 12, 13, 14, 15, 16, 17], [0, 1, 2, 3, 4, 5, 6, 7, 8, 9, 10, 11, 12, 13, 14, 15, 16, 17, 18], [0, 1, 2, 3, 4, 5, 6, 7, 8, 9, 10, 11, 12, 13, 14, 15, 16, 17, 18, 19], [0, 1, 2, 3, 4, 5, 6, 7, 8, 9, 10, 11, 12, 13, 14, 15, 16, 17, 18, 19, 20], [0, 1, 2, 3, 4, 5, 6, 7, 8, 9, 10, 11, 12, 13, 14, 15, 16, 17, 18, 19, 20, 21]] h (by kernel_rfl) (by kernel_rfl) (by kernel_rfl) ?_
  refine w_pure h (ru_move (h.ev rfl)) rfl ?_; intro f h
  refine w_pure h (ru_val (.bool true) (ru_eql (h.ev rfl) (h.ev rfl)) (congrArg Value.bool (by rw [q1]; rfl))) rfl ?_; intro f h
  refine w_pure h (ru_move (h.ev rfl)) rfl ?_; intro f h
  refine w_on h rfl rfl rfl ?_
  refine w_pure h (ru_move (h.ev rfl)) rfl ?_; intro f h
  refine w_on h rfl rfl rfl ?_
  refine w_pure h (ru_val (.bool true) (ru_eql (h.ev rfl) (h.ev rfl)) (congrArg Value.bool (by rw [q2, q3]; rfl))) rfl ?_; intro f h
  refine w_pure h (ru_pick_t (h.ev rfl) (h.ev rfl)) rfl ?_; intro f h
  refine w_pure h (ru_move (h.ev rfl)) rfl ?_; intro f h
  refine w_on h rfl rfl rfl ?_
  refine w_pure h (ru_move (h.ev rfl)) rfl ?_; intro f h
  refine w_on h rfl rfl rfl ?_
  refine w_pure h (ru_lenZ (((s.getG 0 rfl) ((s.getG 1 rfl) (rt_nilT _)))) Try.underlying22 (h.ev rfl)) rfl ?_; intro f h
  refine w_on h rfl rfl rfl ?_
  refine w_pure h (ru_val (.bool true) (ru_eql (h.ev rfl) (h.ev rfl)) (congrArg Value.bool (by rw [q2, q4]; rfl))) rfl ?_; intro f h
  refine w_pure h (ru_pick_t (h.ev rfl) (h.ev rfl)) rfl ?_; intro f h
  refine w_pure h (ru_move (h.ev rfl)) rfl ?_; intro f h
  refine w_on h rfl rfl rfl ?_
  refine w_pure h (ru_move (h.ev rfl)) rfl ?_; intro f h
  refine w_on h rfl rfl rfl ?_
  refine w_pure h (ru_ixz (((s.getG 0 rfl) ((s.getG 1 rfl) (rt_nilT _)))) (0) Try.underlying22 szo28 (h.ev rfl) (h.ev rfl) (rfl) (by rw [q2, q4]; decide)) rfl ?_; intro f h
  refine w_on h rfl rfl rfl ?_
  refine w_load_at ((((s.getG 0 rfl) ((s.getG 1 rfl) (rt_nilT _)))).el (0) (by omega) (by decide) (D := tgArr ((mtL (putR [] x12) x12.1).getD 0 zTg)) (tgr_el _ 0 (by rw [q2, q4]; decide))) h row28 rfl (tgArr_size _) rfl ?_; intro f h
  refine w_on h rfl rfl rfl ?_
  refine w_load_row 2 h s row28 rfl rfl (tgArr_size _) rfl ?_; intro f h
  refine w_on h rfl rfl rfl ?_
  refine w_pure h (ru_val (.bool true) (ru_eqlW (eqG _ _) (by kernel_rfl) (by decide) (h.ev rfl) (h.ev rfl) (decide ((mtL (putR [] x12) x12.1).getD 0 zTg = x12)) (tgEq _ _)) (congrArg Value.bool (by rw [q2, q4]; rfl))) rfl ?_; intro f h
  refine w_pure h (ru_pick_t (h.ev rfl) (h.ev rfl)) rfl ?_; intro f h
  refine w_pure h (ru_move (h.ev rfl)) rfl ?_; intro f h
  refine w_on h rfl rfl rfl ?_
  refine w_pure h (ru_move (h.ev rfl)) rfl ?_; intro f h
  refine w_on h rfl rfl rfl ?_
  refine w_call h fnc11 (fun w9 hE9 => ret_val (.bool true) (tright_any (putR [] x12) va w9 (((s.getG 1 rfl) (rt_nilT _)).keep hE9) hq2) (congrArg Value.bool (by rw [q2]; exact al12_right))) rfl rfl ?_; intro f h
  refine w_pure h (ru_pick_t (h.ev rfl) (h.ev rfl)) rfl ?_; intro f h
  refine w_pure h (ru_assign (h.ev rfl)) rfl ?_; intro f h
  refine w_nil s fun w1 s => ?_
  refine s_nil ?_
  refine hK5 _ _ ?_
  refine wpIn_ret ?_
  exact e_tmp rfl h s rfl (rfl)
end Go.Proofs.Ytliknbdambmmaaa
