/- What the laws of rings call of their own: few, alive. -/
import Derived.Test.YtgnijdeieglpkaaVb
set_option linter.unusedVariables false
set_option linter.unusedSimpArgs false
set_option linter.unusedSectionVars false
namespace Go.Proofs.Ytgnijdeieglpkaa
open Go.RowKit
theorem few_any (l : List Mb) (vh : Value) (w : World) (hR : RdZ w vh 33 l.length (mbCells l)) : Calls Try.prog 8 [vh].toArray w (Ret w (is (cutV vh (min l.length 18)))) := by
  refine c_enter Try.func8 rfl Try.ntmps8 rfl [(0, vh)] (by simp) fun f h => ?_
  have s := St.start w
  refine c_seq fun K1 hK1 => ?_
  refine c_region ?_
  refine s_pure h (ru_assign (h.ev rfl)) rfl ?_; intro f h
  refine s_nil ?_
  refine hK1 _ _ ?_
  refine c_seq fun K2 hK2 => ?_
  refine c_region ?_
  refine s_pure h (ru_move (h.ev rfl)) rfl ?_; intro f h
  refine s_pure h (ru_move (h.ev rfl)) rfl ?_; intro f h
  refine s_pure h (ru_lenZ (hR.keep s.ext) Try.underlying22 (h.ev rfl)) rfl ?_; intro f h
  refine s_pure h (ru_min (h.ev rfl) (h.ev rfl)) rfl ?_; intro f h
  refine s_pure h (ru_slice_hiZ (hR.keep s.ext) (min l.length 18) Try.underlying22 szo30 (h.ev rfl) (h.ev rfl) (by split <;> omega) (by omega)) rfl ?_; intro f h
  refine s_pure h (ru_assign (h.ev rfl)) rfl ?_; intro f h
  refine s_nil ?_
  refine hK2 _ _ ?_
  refine wpIn_ret ?_
  exact e_tmp rfl h s rfl (rfl)

theorem alive_any  (w : World) : Calls Try.prog 13 [].toArray w (Ret w (is (.bool true))) := by
  refine c_enter Try.func13 rfl Try.ntmps13 rfl [] (by simp) fun f h => ?_
  have s := St.start w
  refine c_seq fun K1 hK1 => ?_
  refine c_region ?_
  refine s_pure h (ru_assign (h.ev rfl)) rfl ?_; intro f h
  refine s_nil ?_
  refine hK1 _ _ ?_
  refine c_seq fun K2 hK2 => ?_
  refine c_region ?_
  refine s_pure h (ru_build1 idTy (v := 20) 31 rfl (by decide) (by decide)) rfl ?_; intro f h
  refine s_pure h (ru_build_mb2 sttM (h.ev rfl) (h.ev rfl)) rfl ?_; intro f h
  refine s_pure h (ru_build1 idTy (v := 10) 31 rfl (by decide) (by decide)) rfl ?_; intro f h
  refine s_pure h (ru_build_mb2 sttM (h.ev rfl) (h.ev rfl)) rfl ?_; intro f h
  refine s_bslice (vs := [.agg (mbArr (3, setB 0#256 31 20)), .agg (mbArr (5, setB 0#256 31 10))]) [.tmp 5, .tmp 7] h s Try.underlying22 elm30 rfl rfl (by intro v hv9; simp only [List.mem_cons, List.not_mem_nil, or_false] at hv9; rcases hv9 with rfl | rfl <;> exact mbArr_size _) rfl rfl rfl ?_; intro f w1 v8 h s
  replace s := s.resl (m := zR.length) (ys := mbCells zR) 0 rfl rfl (by simp [zR, mbCells, mbArr, Value.cells])
  refine s_pure h (ru_assign (h.ev rfl)) rfl ?_; intro f h
  refine s_nil ?_
  refine hK2 _ _ ?_
  refine c_seq fun K3 hK3 => ?_
  refine c_region ?_
  refine s_pure h (ru_move (h.ev rfl)) rfl ?_; intro f h
  refine s_pure h (ru_build1 idTy (v := 21) 31 rfl (by decide) (by decide)) rfl ?_; intro f h
  refine s_call h s fnc10 (owner_any zR v8 (setB 0#256 31 21) _ (RdZ.of_own (s.getSl 0 rfl)) (by decide)) rfl rfl ?_; intro f w1 v9 hT hE h s; obtain rfl := hT
  refine s_pure h (ru_move (h.ev rfl)) rfl ?_; intro f h
  refine s_pure h (ru_extract (h.ev rfl) rfl) rfl ?_; intro f h
  refine s_pure h (ru_extract (h.ev rfl) rfl) rfl ?_; intro f h
  refine s_alloc (mbArr zMb) h s zero30 rfl rfl ?_; intro f w1 b2 h s
  refine s_store_row 0 h s row30 rfl rfl rfl (mbArr_size _) (mbArr_size _) (mbArr_ones _) ?_; intro w1 s
  refine s_pure h (ru_assign (h.ev rfl)) rfl ?_; intro f h
  refine s_nil ?_
  refine hK3 _ _ ?_
  refine c_seq fun K4 hK4 => ?_
  refine c_region ?_
  refine s_pure h (ru_move (h.ev rfl)) rfl ?_; intro f h
  refine s_pure h (ru_val (.bool true) (ru_eql (h.ev rfl) (h.ev rfl)) (congrArg Value.bool (decide_eq_true (aliveA.2.1)))) rfl ?_; intro f h
  refine s_pure h (ru_move (h.ev rfl)) rfl ?_; intro f h
  refine s_on h rfl rfl rfl ?_
  refine s_pure h (ru_field fld30_0 (h.ev rfl)) rfl ?_; intro f h
  refine s_on h rfl rfl rfl ?_
  refine s_load_at1 (cell_of_has (Has.of_own s 0 rfl) 0 (mbArr_no _)) h one3 rfl rfl ?_; intro f h
  refine s_on h rfl rfl rfl ?_
  refine s_pure h (ru_val (.bool true) (ru_eql (h.ev rfl) (h.ev rfl)) (congrArg Value.bool (decide_eq_true (aliveA.2.2)))) rfl ?_; intro f h
  refine s_pure h (ru_pick_t (h.ev rfl) (h.ev rfl)) rfl ?_; intro f h
  refine s_pure h (ru_move (h.ev rfl)) rfl ?_; intro f h
  refine s_on h rfl rfl rfl ?_
  refine s_pure h (ru_move (h.ev rfl)) rfl ?_; intro f h
  refine s_on h rfl rfl rfl ?_
  refine s_call h s fnc11 (ret_val (.bool true) (right_any zR v8 _ (RdZ.of_own (s.getSl 1 rfl)) (by decide)) (congrArg Value.bool aliveA.1)) rfl rfl ?_; intro f w1 v9 hT hE h s; obtain rfl := hT
  refine s_pure h (ru_pick_t (h.ev rfl) (h.ev rfl)) rfl ?_; intro f h
  refine s_pure h (ru_assign (h.ev rfl)) rfl ?_; intro f h
  refine s_nil ?_
  refine hK4 _ _ ?_
  refine wpIn_ret ?_
  exact e_tmp rfl h s rfl (rfl)
end Go.Proofs.Ytgnijdeieglpkaa
