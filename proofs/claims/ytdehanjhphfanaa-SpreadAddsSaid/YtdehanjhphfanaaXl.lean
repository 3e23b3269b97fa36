/- One packet for a host; what is cut. -/
import Derived.Test.YtdehanjhphfanaaXs
set_option linter.unusedVariables false
set_option linter.unusedSimpArgs false
set_option linter.unusedSectionVars false
namespace Go.Proofs.Ytdehanjhphfanaa
open Go.RowKit
theorem sfew_any (v9 : Value) (l : List Tg) (w : World) (hv : RdZ w v9 67 l.length (tgCells l)) : Calls Try.prog 7 [v9].toArray w (Ret w (is (cutV v9 (min l.length 34)))) := by
  refine c_enter Try.func7 rfl Try.ntmps7 rfl [(0, v9)] (by simp) fun f h => ?_
  have s := St.start w
  refine c_seq fun K1 hK1 => ?_
  refine c_region ?_
  refine s_pure h (ru_assign (h.ev rfl)) rfl ?_; intro f h
  refine s_nil ?_
  refine hK1 _ _ ?_
  refine c_seq fun K2 hK2 => ?_
  refine c_region ?_
  refine s_pure h (ru_move (h.ev rfl)) rfl ?_; intro f h
  refine s_pure h (ru_move (h.ev rfl)) rfl ?_; intro f h
  refine s_pure h (ru_lenZ (hv.keep s.ext) Try.underlying22 (h.ev rfl)) rfl ?_; intro f h
  refine s_pure h (ru_min (h.ev rfl) (h.ev rfl)) rfl ?_; intro f h
  refine s_pure h (ru_slice_hiZ (hv.keep s.ext) (min l.length 34) Try.underlying22 szo58 (h.ev rfl) (h.ev rfl) (by split <;> omega) (by omega)) rfl ?_; intro f h
  refine s_pure h (ru_assign (h.ev rfl)) rfl ?_; intro f h
  refine s_nil ?_
  refine hK2 _ _ ?_
  refine wpIn_ret ?_
  exact e_tmp rfl h s rfl (rfl)

theorem scut_any (p : Pk) (vs : Value) (w : World) (hP : RdZ w vs 34 p.1.length (eCells p.1)) : Calls Try.prog 8 [.agg (pkArr vs p.2.1 p.2.2)].toArray w (Ret w (is (.agg (pkArr (cutV vs (min p.1.length 6)) (cutP p).2.1 (cutP p).2.2)))) := by
  refine c_enter Try.func8 rfl Try.ntmps8 rfl [(0, .agg (pkArr vs p.2.1 p.2.2))] (by simp) fun f h => ?_
  have s := St.start w
  refine c_seq fun K1 hK1 => ?_
  refine c_region ?_
  refine s_box (pkArr vs p.2.1 p.2.2) h s rfl rfl rfl ?_; intro f w1 b1 h s
  refine s_alloc (pkArr nilV 0 ByteArray.empty) h s zero25 rfl rfl ?_; intro f w1 b2 h s
  refine s_nil ?_
  refine hK1 _ _ ?_
  refine c_seq fun K2 hK2 => ?_
  refine c_walkN 17 [[], [0], [], [2], [2, 3], [2, 3, 4], [0, 1, 2, 3, 4, 5], [], [7], [], [9], [], [11], [11, 12], [11, 12, 13], [9, 10, 11, 12, 13, 14], [0, 1, 2, 3, 4, 5, 6, 7, 8, 9, 10, 11, 12, 13, 14, 15]] h (by kernel_rfl) (by kernel_rfl) (by kernel_rfl) ?_
  refine w_pure h (ru_field fld25_0 (h.ev rfl)) rfl ?_; intro f h
  refine w_load_at1 (V := vs) (cell_of_has (Has.of_own s 1 rfl) 0 (pk_v _ _ _)) h one23 rfl rfl ?_; intro f h
  refine w_pure h (ru_field fld25_0 (h.ev rfl)) rfl ?_; intro f h
  refine w_load_at1 (V := vs) (cell_of_has (Has.of_own s 1 rfl) 0 (pk_v _ _ _)) h one23 rfl rfl ?_; intro f h
  refine w_pure h (ru_lenZ (hP.keep s.ext) Try.underlying23 (h.ev rfl)) rfl ?_; intro f h
  refine w_pure h (ru_min (h.ev rfl) (h.ev rfl)) rfl ?_; intro f h
  refine w_pure h (ru_slice_hiZ (hP.keep s.ext) (min p.1.length 6) Try.underlying23 szo53 (h.ev rfl) (h.ev rfl) (by split <;> omega) (by omega)) rfl ?_; intro f h
  refine w_pure h (ru_field fld25_1 (h.ev rfl)) rfl ?_; intro f h
  refine w_load_at1 (V := .int .i64 p.2.1) (cell_of_has (Has.of_own s 1 rfl) 1 (pk_n _ _ _)) h one3 rfl rfl ?_; intro f h
  refine w_pure h (ru_field fld25_2 (h.ev rfl)) rfl ?_; intro f h
  refine w_load_at1 (V := .string p.2.2) (cell_of_has (Has.of_own s 1 rfl) 2 (pk_d _ _ _)) h one9 rfl rfl ?_; intro f h
  refine w_pure h (ru_field fld25_2 (h.ev rfl)) rfl ?_; intro f h
  refine w_load_at1 (V := .string p.2.2) (cell_of_has (Has.of_own s 1 rfl) 2 (pk_d _ _ _)) h one9 rfl rfl ?_; intro f h
  refine w_pure h (ru_len_str Try.underlying9 (h.ev rfl)) rfl ?_; intro f h
  refine w_pure h (ru_min (h.ev rfl) (h.ev rfl)) rfl ?_; intro f h
  refine w_pure h (ru_slice_str (min p.2.2.size 70) Try.underlying9 (h.ev rfl) (h.ev rfl) (by split <;> omega) (by omega)) rfl ?_; intro f h
  refine w_pure h (ru_build_pk3 sttP (rd_size (cutP_rd (hP.keep s.ext))) (rd_cells (cutP_rd (hP.keep s.ext))) (h.ev rfl) (h.ev rfl) (h.ev rfl)) rfl ?_; intro f h
  refine w_nil s fun w1 s => ?_
  refine s_store_row 0 h s row25 rfl rfl rfl (pkArr_size _ _ _) (pkArr_size _ _ _) (pkArr_ones _ _ (rd_one (cutP_rd (hP.keep s.ext)))) ?_; intro w1 s
  refine s_nil ?_
  refine hK2 _ _ ?_
  refine wpIn_ret ?_
  exact e_row 0 rfl h s row25 rfl rfl (pkArr_size _ _ _) (rfl)

theorem salive_any  (w : World) : Calls Try.prog 11 [].toArray w (Ret w (is (.bool true))) := by
  refine c_enter Try.func11 rfl Try.ntmps11 rfl [] (by simp) fun f h => ?_
  have s := St.start w
  refine c_seq fun K1 hK1 => ?_
  refine c_region ?_
  refine s_pure h (ru_assign (h.ev rfl)) rfl ?_; intro f h
  refine s_nil ?_
  refine hK1 _ _ ?_
  refine c_seq fun K2 hK2 => ?_
  refine c_region ?_
  refine s_pure h (ru_build_eh sttE rfl rfl) rfl ?_; intro f h
  refine s_bslice (vs := [.agg (eArr (2, 0#256, 3))]) [.tmp 4] h s Try.underlying23 elm53 rfl rfl (e_szE _) rfl rfl rfl ?_; intro f w1 v5 h s
  replace s := s.resl (m := pkJ.1.length) (ys := eCells pkJ.1) 0 rfl rfl ((e_one _).trans (eCells_one _).symm)
  refine s_pure h (ru_build_pk1 sttP (rd_size (RdZ.of_own (s.getSl 0 rfl) : RdE _ v5 pkJ.1)) (rd_cells (RdZ.of_own (s.getSl 0 rfl) : RdE _ v5 pkJ.1)) (h.ev rfl)) rfl ?_; intro f h
  refine s_call h s fnc9 (spdel_any [] nilV pkJ v5 _ (rt_nilT _) (by first | omega | decide | exact (show 1 ≤ 1000 by decide) | simp) (RdZ.of_own (s.getSl 0 rfl) : RdE _ v5 pkJ.1) (by first | omega | decide | exact (show 1 ≤ 1000 by decide) | simp)) rfl rfl ?_; rintro f w1 v7 ⟨va, kva, rfl, hG⟩ hE h sq; replace s := s.add hG; clear hG
  obtain ⟨q1, q2⟩ := pkJ_is
  refine s_pure h (ru_move (h.ev rfl)) rfl ?_; intro f h
  refine s_pure h (ru_extract (h.ev rfl) rfl) rfl ?_; intro f h
  refine s_pure h (ru_extract (h.ev rfl) rfl) rfl ?_; intro f h
  refine s_alloc (ssArr nilV 0 0 0) h s zero30 rfl rfl ?_; intro f w1 b1 h s
  refine s_store_row 0 h s row30 rfl rfl rfl (ssArr_size _ _ _ _) (ssArr_size _ _ _ _) (ssArr_ones _ _ _ (rd_one ((s.getG 1 rfl)))) ?_; intro w1 s
  refine s_pure h (ru_assign (h.ev rfl)) rfl ?_; intro f h
  refine s_nil ?_
  refine hK2 _ _ ?_
  refine c_seq fun K3 hK3 => ?_
  refine c_region ?_
  refine s_pure h (ru_move (h.ev rfl)) rfl ?_; intro f h
  refine s_pure h (ru_val (.bool true) (ru_eql (h.ev rfl) (h.ev rfl)) (congrArg Value.bool (by rw [q1]; rfl))) rfl ?_; intro f h
  refine s_pure h (ru_move (h.ev rfl)) rfl ?_; intro f h
  refine s_on h rfl rfl rfl ?_
  refine s_pure h (ru_field fld30_0 (h.ev rfl)) rfl ?_; intro f h
  refine s_on h rfl rfl rfl ?_
  refine s_load_at1 (V := va) (cell_of_has (Has.of_own s 0 rfl) 0 (ss_v _ _ _ _)) h one28 rfl rfl ?_; intro f h
  refine s_on h rfl rfl rfl ?_
  refine s_pure h (ru_lenZ ((s.getG 1 rfl)) Try.underlying28 (h.ev rfl)) rfl ?_; intro f h
  refine s_on h rfl rfl rfl ?_
  refine s_pure h (ru_val (.bool true) (ru_eql (h.ev rfl) (h.ev rfl)) (congrArg Value.bool (by rw [q2]; rfl))) rfl ?_; intro f h
  refine s_pure h (ru_pick_t (h.ev rfl) (h.ev rfl)) rfl ?_; intro f h
  refine s_pure h (ru_move (h.ev rfl)) rfl ?_; intro f h
  refine s_on h rfl rfl rfl ?_
  refine s_pure h (ru_field fld30_0 (h.ev rfl)) rfl ?_; intro f h
  refine s_on h rfl rfl rfl ?_
  refine s_load_at1 (V := va) (cell_of_has (Has.of_own s 0 rfl) 0 (ss_v _ _ _ _)) h one28 rfl rfl ?_; intro f h
  refine s_on h rfl rfl rfl ?_
  refine s_pure h (ru_ixz ((s.getG 1 rfl)) (0) Try.underlying28 szo3 (h.ev rfl) (h.ev rfl) (rfl) (by rw [q2]; decide)) rfl ?_; intro f h
  refine s_on h rfl rfl rfl ?_
  refine s_load_at1 (((s.getG 1 rfl)).el1 (0) (V := .int .i64 3) (by rw [q2]; rfl)) h one3 rfl rfl ?_; intro f h
  refine s_on h rfl rfl rfl ?_
  refine s_pure h (ru_val (.bool true) (ru_eql (h.ev rfl) (h.ev rfl)) (congrArg Value.bool (rfl))) rfl ?_; intro f h
  refine s_pure h (ru_pick_t (h.ev rfl) (h.ev rfl)) rfl ?_; intro f h
  refine s_pure h (ru_move (h.ev rfl)) rfl ?_; intro f h
  refine s_on h rfl rfl rfl ?_
  refine s_pure h (ru_field fld30_3 (h.ev rfl)) rfl ?_; intro f h
  refine s_on h rfl rfl rfl ?_
  refine s_load_at1 (V := .int .i64 (spD [] pkJ).work) (cell_of_has (Has.of_own s 0 rfl) 3 (ss_k _ _ _ _)) h one3 rfl rfl ?_; intro f h
  refine s_on h rfl rfl rfl ?_
  refine s_pure h (ru_val (.bool true) (ru_eql (h.ev rfl) (h.ev rfl)) (congrArg Value.bool (by rw [q2]; rfl))) rfl ?_; intro f h
  refine s_pure h (ru_pick_t (h.ev rfl) (h.ev rfl)) rfl ?_; intro f h
  refine s_pure h (ru_assign (h.ev rfl)) rfl ?_; intro f h
  refine s_nil ?_
  refine hK3 _ _ ?_
  refine wpIn_ret ?_
  exact e_tmp rfl h s rfl (rfl)
end Go.Proofs.Ytdehanjhphfanaa
