/- One that is alone finds itself. -/
import Derived.Test.YtndbijifgalpbaaXw
set_option linter.unusedVariables false
set_option linter.unusedSimpArgs false
set_option linter.unusedSectionVars false
namespace Go.Proofs.Ytndbijifgalpbaa
open Go.RowKit
theorem lalive_any  (w : World) : Calls Try.prog 10 [].toArray w (Ret w (is (.bool true))) := by
  refine c_enter Try.func10 rfl Try.ntmps10 rfl [] (by simp) fun f h => ?_
  have s := St.start w
  refine c_seq fun K1 hK1 => ?_
  refine c_region ?_
  refine s_pure h (ru_assign (h.ev rfl)) rfl ?_; intro f h
  refine s_nil ?_
  refine hK1 _ _ ?_
  refine c_seq fun K2 hK2 => ?_
  refine c_region ?_
  refine s_pure h (ru_build_mb1 sttM rfl) rfl ?_; intro f h
  refine s_alloc (mbArr zMb) h s zero30 rfl rfl ?_; intro f w1 b1 h s
  refine s_store_row 0 h s row30 rfl rfl rfl (mbArr_size _) (mbArr_size _) (mbArr_ones _) ?_; intro w1 s
  refine s_nil ?_
  refine hK2 _ _ ?_
  refine c_seq fun K3 hK3 => ?_
  refine c_region ?_
  refine s_load_row 0 h s row30 rfl rfl (mbArr_size _) rfl ?_; intro f h
  refine s_pure h (ru_build_mb1 sttM rfl) rfl ?_; intro f h
  refine s_load_row 0 h s row30 rfl rfl (mbArr_size _) rfl ?_; intro f h
  refine s_bslice (vs := [.agg (mbArr zA3c)]) [.tmp 9] h s Try.underlying40 elm30 rfl rfl (mb_sz _) rfl rfl rfl ?_; intro f w1 v10 h s
  replace s := s.resl (m := [zA3c].length) (ys := mbCells [zA3c]) 0 rfl rfl (by simp [mbCells, n3Cells, n3L, al3, mbArr, ndArr, Value.cells])
  refine s_pure h (ru_build_nd3 sttN (rd_size (RdZ.of_own (s.getSl 0 rfl))) (rd_cells (RdZ.of_own (s.getSl 0 rfl))) (h.ev rfl) (h.ev rfl) (h.ev rfl)) rfl ?_; intro f h
  refine s_bslice (vs := [.agg (ndArr zA3c nMb v10 nilV)]) [.tmp 11] h s Try.underlying22 elm46 rfl rfl (n3_size ((al3, v10, nilV) : N3)) rfl rfl rfl ?_; intro f w1 v12 h s
  replace s := s.resl (m := [((al3, v10, nilV) : N3)].length) (ys := n3Cells [((al3, v10, nilV) : N3)]) 0 rfl rfl (by simp [mbCells, n3Cells, n3L, al3, mbArr, ndArr, Value.cells])
  refine s_pure h (ru_build_ov1 sttO (rd_size (RdZ.of_own (s.getSl 0 rfl))) (rd_cells (RdZ.of_own (s.getSl 0 rfl))) (h.ev rfl)) rfl ?_; intro f h
  refine s_pure h (ru_build1 idTy (v := 7) 31 rfl (by decide) (by decide)) rfl ?_; intro f h
  refine s_call h s fnc8 (cwalk_any [((al3, v10, nilV) : N3)] v12 idA7 3 0 _ (al_rd (s.getSl 0 rfl) (s.getSl 1 rfl)) (Nat.le_of_ble_eq_true rfl) (al_rb _ _)) rfl rfl ?_; rintro f w1 v15 ⟨vp, kp, rfl, hG⟩ hE h sq; replace s := s.add hG; clear hG
  obtain ⟨q1, q2, q3⟩ := al_walk v10 nilV
  refine s_pure h (ru_move (h.ev rfl)) rfl ?_; intro f h
  refine s_pure h (ru_extract (h.ev rfl) rfl) rfl ?_; intro f h
  refine s_pure h (ru_extract (h.ev rfl) rfl) rfl ?_; intro f h
  refine s_pure h (ru_extract (h.ev rfl) rfl) rfl ?_; intro f h
  refine s_alloc (mbArr zMb) h s zero30 rfl rfl ?_; intro f w1 b3 h s
  refine s_pure h (ru_assign (h.ev rfl)) rfl ?_; intro f h
  refine s_store_row 0 h s row30 rfl rfl rfl (mbArr_size _) (mbArr_size _) (mbArr_ones _) ?_; intro w1 s
  refine s_pure h (ru_assign (h.ev rfl)) rfl ?_; intro f h
  refine s_nil ?_
  refine hK3 _ _ ?_
  refine c_seq fun K4 hK4 => ?_
  refine c_region ?_
  refine s_pure h (ru_move (h.ev rfl)) rfl ?_; intro f h
  refine s_pure h (ru_val (.bool true) (ru_eql (h.ev rfl) (h.ev rfl)) (congrArg Value.bool (by rw [q1]; rfl))) rfl ?_; intro f h
  refine s_pure h (ru_move (h.ev rfl)) rfl ?_; intro f h
  refine s_on h rfl rfl rfl ?_
  refine s_load_row 0 h s row30 rfl rfl (mbArr_size _) rfl ?_; intro f h
  refine s_on h rfl rfl rfl ?_
  refine s_load_row 4 h s row30 rfl rfl (mbArr_size _) rfl ?_; intro f h
  refine s_on h rfl rfl rfl ?_
  refine s_pure h (ru_val (.bool true) (ru_eqlW (eqM _ _) (by kernel_rfl) (by decide) (h.ev rfl) (h.ev rfl) (decide (wkM [((al3, v10, nilV) : N3)] idA7 3 0 = zA3c)) (mbEq _ _)) (congrArg Value.bool (by rw [q2]; rfl))) rfl ?_; intro f h
  refine s_pure h (ru_pick_t (h.ev rfl) (h.ev rfl)) rfl ?_; intro f h
  refine s_pure h (ru_move (h.ev rfl)) rfl ?_; intro f h
  refine s_on h rfl rfl rfl ?_
  refine s_pure h (ru_move (h.ev rfl)) rfl ?_; intro f h
  refine s_on h rfl rfl rfl ?_
  refine s_pure h (ru_lenZ ((s.getG 1 rfl)) Try.underlying28 (h.ev rfl)) rfl ?_; intro f h
  refine s_on h rfl rfl rfl ?_
  refine s_pure h (ru_val (.bool true) (ru_eql (h.ev rfl) (h.ev rfl)) (congrArg Value.bool (by rw [q3]; rfl))) rfl ?_; intro f h
  refine s_pure h (ru_pick_t (h.ev rfl) (h.ev rfl)) rfl ?_; intro f h
  refine s_pure h (ru_move (h.ev rfl)) rfl ?_; intro f h
  refine s_on h rfl rfl rfl ?_
  refine s_pure h (ru_move (h.ev rfl)) rfl ?_; intro f h
  refine s_on h rfl rfl rfl ?_
  refine s_pure h (ru_ixz ((s.getG 1 rfl)) (0) Try.underlying28 szo3 (h.ev rfl) (h.ev rfl) (by omega) (by rw [q3]; decide)) rfl ?_; intro f h
  refine s_on h rfl rfl rfl ?_
  refine s_load_at1 (((s.getG 1 rfl)).el1 (0) (V := .int .i64 3) (by rw [q3]; rfl)) h one3 rfl rfl ?_; intro f h
  refine s_on h rfl rfl rfl ?_
  refine s_pure h (ru_val (.bool true) (ru_eql (h.ev rfl) (h.ev rfl)) (congrArg Value.bool (rfl))) rfl ?_; intro f h
  refine s_pure h (ru_pick_t (h.ev rfl) (h.ev rfl)) rfl ?_; intro f h
  refine s_pure h (ru_assign (h.ev rfl)) rfl ?_; intro f h
  refine s_nil ?_
  refine hK4 _ _ ?_
  refine wpIn_ret ?_
  exact e_tmp rfl h s rfl (rfl)
end Go.Proofs.Ytndbijifgalpbaa
