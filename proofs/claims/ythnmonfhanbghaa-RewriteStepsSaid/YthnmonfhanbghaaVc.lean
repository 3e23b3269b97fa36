/- Which packets may be, which are the same, and what becomes of one, by the reference. -/
import Derived.Test.YthnmonfhanbghaaVb
set_option linter.unusedVariables false
set_option linter.unusedSimpArgs false
set_option linter.unusedSectionVars false
namespace Go.Proofs.Ythnmonfhanbghaa
open Go.RowKit
theorem rrightp_any (p : Pk) (vs : Value) (w : World) (hP : RdZ w vs 34 p.1.length (eCells p.1)) (hpl : p.1.length ≤ 1000) : Calls Try.prog 11 [.agg (pkArr vs p.2.1 p.2.2)].toArray w (Ret w (is (.bool (rightP p)))) := by
  refine c_enter Try.func11 rfl Try.ntmps11 rfl [(0, .agg (pkArr vs p.2.1 p.2.2))] (by simp) fun f h => ?_
  have s := St.start w
  refine c_seq fun K1 hK1 => ?_
  refine c_region ?_
  refine s_box (pkArr vs p.2.1 p.2.2) h s rfl rfl rfl ?_; intro f w1 b1 h s
  refine s_pure h (ru_assign (h.ev rfl)) rfl ?_; intro f h
  refine s_nil ?_
  refine hK1 _ _ ?_
  refine c_seq fun K2 hK2 => ?_
  cases h0 : (rightE p.1 : Bool)
  · skip
    refine c_region ?_
    refine s_pure h (ru_field fld25_0 (h.ev rfl)) rfl ?_; intro f h
    refine s_load_at1 (V := vs) (cell_of_has (Has.of_own s 0 rfl) 0 (pk_v _ _ _)) h one23 rfl rfl ?_; intro f h
    refine s_call h s fnc25 (ret_val (.bool false) (rright_any p.1 vs _ (hP.keep s.ext) (by omega)) (congrArg Value.bool h0)) rfl rfl ?_; intro f w1 v9 hT hE h s; obtain rfl := hT
    refine s_pure h (ru_move (h.ev rfl)) rfl ?_; intro f h
    refine s_off (b := true) h rfl rfl rfl rfl ?_; intro f h
    refine s_off (b := true) h rfl rfl rfl rfl ?_; intro f h
    refine s_off (b := true) h rfl rfl rfl rfl ?_; intro f h
    refine s_pure h (ru_pick_f (h.ev rfl) (h.ev rfl)) rfl ?_; intro f h
    refine s_pure h (ru_move (h.ev rfl)) rfl ?_; intro f h
    refine s_off (b := true) h rfl rfl rfl rfl ?_; intro f h
    refine s_off (b := true) h rfl rfl rfl rfl ?_; intro f h
    refine s_off (b := true) h rfl rfl rfl rfl ?_; intro f h
    refine s_pure h (ru_pick_f (h.ev rfl) (h.ev rfl)) rfl ?_; intro f h
    refine s_pure h (ru_move (h.ev rfl)) rfl ?_; intro f h
    refine s_off (b := true) h rfl rfl rfl rfl ?_; intro f h
    refine s_off (b := true) h rfl rfl rfl rfl ?_; intro f h
    refine s_off (b := true) h rfl rfl rfl rfl ?_; intro f h
    refine s_off (b := true) h rfl rfl rfl rfl ?_; intro f h
    refine s_pure h (ru_pick_f (h.ev rfl) (h.ev rfl)) rfl ?_; intro f h
    refine s_pure h (ru_assign (h.ev rfl)) rfl ?_; intro f h
    refine s_nil ?_
    refine hK2 _ _ ?_
    refine wpIn_ret ?_
    exact e_tmp rfl h s rfl (by show _ = _; unfold rightP; rw [h0] <;> rfl)
  · skip
    cases h1 : (decide (0 ≤ p.2.1) : Bool)
    · skip
      refine c_region ?_
      refine s_pure h (ru_field fld25_0 (h.ev rfl)) rfl ?_; intro f h
      refine s_load_at1 (V := vs) (cell_of_has (Has.of_own s 0 rfl) 0 (pk_v _ _ _)) h one23 rfl rfl ?_; intro f h
      refine s_call h s fnc25 (ret_val (.bool true) (rright_any p.1 vs _ (hP.keep s.ext) (by omega)) (congrArg Value.bool h0)) rfl rfl ?_; intro f w1 v9 hT hE h s; obtain rfl := hT
      refine s_pure h (ru_move (h.ev rfl)) rfl ?_; intro f h
      refine s_on h rfl rfl rfl ?_
      refine s_pure h (ru_field fld25_1 (h.ev rfl)) rfl ?_; intro f h
      refine s_on h rfl rfl rfl ?_
      refine s_load_at1 (V := .int .i64 p.2.1) (cell_of_has (Has.of_own s 0 rfl) 1 (pk_n _ _ _)) h one3 rfl rfl ?_; intro f h
      refine s_on h rfl rfl rfl ?_
      refine s_pure h (ru_val (.bool false) (ru_geq (h.ev rfl) (h.ev rfl)) (congrArg Value.bool h1)) rfl ?_; intro f h
      refine s_pure h (ru_pick_t (h.ev rfl) (h.ev rfl)) rfl ?_; intro f h
      refine s_pure h (ru_move (h.ev rfl)) rfl ?_; intro f h
      refine s_off (b := true) h rfl rfl rfl rfl ?_; intro f h
      refine s_off (b := true) h rfl rfl rfl rfl ?_; intro f h
      refine s_off (b := true) h rfl rfl rfl rfl ?_; intro f h
      refine s_pure h (ru_pick_f (h.ev rfl) (h.ev rfl)) rfl ?_; intro f h
      refine s_pure h (ru_move (h.ev rfl)) rfl ?_; intro f h
      refine s_off (b := true) h rfl rfl rfl rfl ?_; intro f h
      refine s_off (b := true) h rfl rfl rfl rfl ?_; intro f h
      refine s_off (b := true) h rfl rfl rfl rfl ?_; intro f h
      refine s_off (b := true) h rfl rfl rfl rfl ?_; intro f h
      refine s_pure h (ru_pick_f (h.ev rfl) (h.ev rfl)) rfl ?_; intro f h
      refine s_pure h (ru_assign (h.ev rfl)) rfl ?_; intro f h
      refine s_nil ?_
      refine hK2 _ _ ?_
      refine wpIn_ret ?_
      exact e_tmp rfl h s rfl (by show _ = _; unfold rightP; rw [h0, h1] <;> rfl)
    · skip
      cases h2 : (decide (p.2.1 ≤ 64) : Bool)
      · skip
        refine c_region ?_
        refine s_pure h (ru_field fld25_0 (h.ev rfl)) rfl ?_; intro f h
        refine s_load_at1 (V := vs) (cell_of_has (Has.of_own s 0 rfl) 0 (pk_v _ _ _)) h one23 rfl rfl ?_; intro f h
        refine s_call h s fnc25 (ret_val (.bool true) (rright_any p.1 vs _ (hP.keep s.ext) (by omega)) (congrArg Value.bool h0)) rfl rfl ?_; intro f w1 v9 hT hE h s; obtain rfl := hT
        refine s_pure h (ru_move (h.ev rfl)) rfl ?_; intro f h
        refine s_on h rfl rfl rfl ?_
        refine s_pure h (ru_field fld25_1 (h.ev rfl)) rfl ?_; intro f h
        refine s_on h rfl rfl rfl ?_
        refine s_load_at1 (V := .int .i64 p.2.1) (cell_of_has (Has.of_own s 0 rfl) 1 (pk_n _ _ _)) h one3 rfl rfl ?_; intro f h
        refine s_on h rfl rfl rfl ?_
        refine s_pure h (ru_val (.bool true) (ru_geq (h.ev rfl) (h.ev rfl)) (congrArg Value.bool h1)) rfl ?_; intro f h
        refine s_pure h (ru_pick_t (h.ev rfl) (h.ev rfl)) rfl ?_; intro f h
        refine s_pure h (ru_move (h.ev rfl)) rfl ?_; intro f h
        refine s_on h rfl rfl rfl ?_
        refine s_pure h (ru_field fld25_1 (h.ev rfl)) rfl ?_; intro f h
        refine s_on h rfl rfl rfl ?_
        refine s_load_at1 (V := .int .i64 p.2.1) (cell_of_has (Has.of_own s 0 rfl) 1 (pk_n _ _ _)) h one3 rfl rfl ?_; intro f h
        refine s_on h rfl rfl rfl ?_
        refine s_pure h (ru_val (.bool false) (ru_leq (h.ev rfl) (h.ev rfl)) (congrArg Value.bool h2)) rfl ?_; intro f h
        refine s_pure h (ru_pick_t (h.ev rfl) (h.ev rfl)) rfl ?_; intro f h
        refine s_pure h (ru_move (h.ev rfl)) rfl ?_; intro f h
        refine s_off (b := true) h rfl rfl rfl rfl ?_; intro f h
        refine s_off (b := true) h rfl rfl rfl rfl ?_; intro f h
        refine s_off (b := true) h rfl rfl rfl rfl ?_; intro f h
        refine s_off (b := true) h rfl rfl rfl rfl ?_; intro f h
        refine s_pure h (ru_pick_f (h.ev rfl) (h.ev rfl)) rfl ?_; intro f h
        refine s_pure h (ru_assign (h.ev rfl)) rfl ?_; intro f h
        refine s_nil ?_
        refine hK2 _ _ ?_
        refine wpIn_ret ?_
        exact e_tmp rfl h s rfl (by show _ = _; unfold rightP; rw [h0, h1, h2] <;> rfl)
      · skip
        refine c_region ?_
        refine s_pure h (ru_field fld25_0 (h.ev rfl)) rfl ?_; intro f h
        refine s_load_at1 (V := vs) (cell_of_has (Has.of_own s 0 rfl) 0 (pk_v _ _ _)) h one23 rfl rfl ?_; intro f h
        refine s_call h s fnc25 (ret_val (.bool true) (rright_any p.1 vs _ (hP.keep s.ext) (by omega)) (congrArg Value.bool h0)) rfl rfl ?_; intro f w1 v9 hT hE h s; obtain rfl := hT
        refine s_pure h (ru_move (h.ev rfl)) rfl ?_; intro f h
        refine s_on h rfl rfl rfl ?_
        refine s_pure h (ru_field fld25_1 (h.ev rfl)) rfl ?_; intro f h
        refine s_on h rfl rfl rfl ?_
        refine s_load_at1 (V := .int .i64 p.2.1) (cell_of_has (Has.of_own s 0 rfl) 1 (pk_n _ _ _)) h one3 rfl rfl ?_; intro f h
        refine s_on h rfl rfl rfl ?_
        refine s_pure h (ru_val (.bool true) (ru_geq (h.ev rfl) (h.ev rfl)) (congrArg Value.bool h1)) rfl ?_; intro f h
        refine s_pure h (ru_pick_t (h.ev rfl) (h.ev rfl)) rfl ?_; intro f h
        refine s_pure h (ru_move (h.ev rfl)) rfl ?_; intro f h
        refine s_on h rfl rfl rfl ?_
        refine s_pure h (ru_field fld25_1 (h.ev rfl)) rfl ?_; intro f h
        refine s_on h rfl rfl rfl ?_
        refine s_load_at1 (V := .int .i64 p.2.1) (cell_of_has (Has.of_own s 0 rfl) 1 (pk_n _ _ _)) h one3 rfl rfl ?_; intro f h
        refine s_on h rfl rfl rfl ?_
        refine s_pure h (ru_val (.bool true) (ru_leq (h.ev rfl) (h.ev rfl)) (congrArg Value.bool h2)) rfl ?_; intro f h
        refine s_pure h (ru_pick_t (h.ev rfl) (h.ev rfl)) rfl ?_; intro f h
        refine s_pure h (ru_move (h.ev rfl)) rfl ?_; intro f h
        refine s_on h rfl rfl rfl ?_
        refine s_pure h (ru_field fld25_2 (h.ev rfl)) rfl ?_; intro f h
        refine s_on h rfl rfl rfl ?_
        refine s_load_at1 (V := .string p.2.2) (cell_of_has (Has.of_own s 0 rfl) 2 (pk_d _ _ _)) h one9 rfl rfl ?_; intro f h
        refine s_on h rfl rfl rfl ?_
        refine s_pure h (ru_len_str Try.underlying9 (h.ev rfl)) rfl ?_; intro f h
        refine s_on h rfl rfl rfl ?_
        refine s_pure h (ru_val (.bool (decide (p.2.2.size ≤ 64))) (ru_leq (h.ev rfl) (h.ev rfl)) (congrArg Value.bool (decide_eq_decide.2 (by omega)))) rfl ?_; intro f h
        refine s_pure h (ru_pick_t (h.ev rfl) (h.ev rfl)) rfl ?_; intro f h
        refine s_pure h (ru_assign (h.ev rfl)) rfl ?_; intro f h
        refine s_nil ?_
        refine hK2 _ _ ?_
        refine wpIn_ret ?_
        exact e_tmp rfl h s rfl (by show _ = _; unfold rightP; rw [h0, h1, h2] <;> rfl)

theorem rsamep_any (p q : Pk) (vs vu : Value) (w : World) (hP : RdZ w vs 34 p.1.length (eCells p.1)) (hQ : RdZ w vu 34 q.1.length (eCells q.1)) (hpl : p.1.length ≤ 1000) (hql : q.1.length ≤ 1000) : Calls Try.prog 13 [.agg (pkArr vs p.2.1 p.2.2), .agg (pkArr vu q.2.1 q.2.2)].toArray w (Ret w (is (.bool (decide (p = q))))) := by
  refine c_enter Try.func13 rfl Try.ntmps13 rfl [(0, .agg (pkArr vs p.2.1 p.2.2)), (1, .agg (pkArr vu q.2.1 q.2.2))] (by simp) fun f h => ?_
  have s := St.start w
  refine c_seq fun K1 hK1 => ?_
  refine c_region ?_
  refine s_box (pkArr vs p.2.1 p.2.2) h s rfl rfl rfl ?_; intro f w1 b2 h s
  refine s_box (pkArr vu q.2.1 q.2.2) h s rfl rfl rfl ?_; intro f w1 b3 h s
  refine s_pure h (ru_assign (h.ev rfl)) rfl ?_; intro f h
  refine s_nil ?_
  refine hK1 _ _ ?_
  refine c_seq fun K2 hK2 => ?_
  cases h0 : (decide (p.1 = q.1) : Bool)
  · skip
    refine c_region ?_
    refine s_pure h (ru_field fld25_0 (h.ev rfl)) rfl ?_; intro f h
    refine s_load_at1 (V := vs) (cell_of_has (Has.of_own s 1 rfl) 0 (pk_v _ _ _)) h one23 rfl rfl ?_; intro f h
    refine s_pure h (ru_field fld25_0 (h.ev rfl)) rfl ?_; intro f h
    refine s_load_at1 (V := vu) (cell_of_has (Has.of_own s 0 rfl) 0 (pk_v _ _ _)) h one23 rfl rfl ?_; intro f h
    refine s_call h s fnc27 (ret_val (.bool false) (rsame_any p.1 q.1 vs vu _ (hP.keep s.ext) (hQ.keep s.ext) (by omega) (by omega)) (congrArg Value.bool h0)) rfl rfl ?_; intro f w1 v9 hT hE h s; obtain rfl := hT
    refine s_pure h (ru_move (h.ev rfl)) rfl ?_; intro f h
    refine s_off (b := true) h rfl rfl rfl rfl ?_; intro f h
    refine s_off (b := true) h rfl rfl rfl rfl ?_; intro f h
    refine s_off (b := true) h rfl rfl rfl rfl ?_; intro f h
    refine s_off (b := true) h rfl rfl rfl rfl ?_; intro f h
    refine s_off (b := true) h rfl rfl rfl rfl ?_; intro f h
    refine s_pure h (ru_pick_f (h.ev rfl) (h.ev rfl)) rfl ?_; intro f h
    refine s_pure h (ru_move (h.ev rfl)) rfl ?_; intro f h
    refine s_off (b := true) h rfl rfl rfl rfl ?_; intro f h
    refine s_off (b := true) h rfl rfl rfl rfl ?_; intro f h
    refine s_off (b := true) h rfl rfl rfl rfl ?_; intro f h
    refine s_off (b := true) h rfl rfl rfl rfl ?_; intro f h
    refine s_off (b := true) h rfl rfl rfl rfl ?_; intro f h
    refine s_pure h (ru_pick_f (h.ev rfl) (h.ev rfl)) rfl ?_; intro f h
    refine s_pure h (ru_assign (h.ev rfl)) rfl ?_; intro f h
    refine s_nil ?_
    refine hK2 _ _ ?_
    refine wpIn_ret ?_
    exact e_tmp rfl h s rfl (by show _ = _; rw [sameP_0 h0])
  · skip
    cases h1 : (decide (p.2.1 = q.2.1) : Bool)
    · skip
      refine c_region ?_
      refine s_pure h (ru_field fld25_0 (h.ev rfl)) rfl ?_; intro f h
      refine s_load_at1 (V := vs) (cell_of_has (Has.of_own s 1 rfl) 0 (pk_v _ _ _)) h one23 rfl rfl ?_; intro f h
      refine s_pure h (ru_field fld25_0 (h.ev rfl)) rfl ?_; intro f h
      refine s_load_at1 (V := vu) (cell_of_has (Has.of_own s 0 rfl) 0 (pk_v _ _ _)) h one23 rfl rfl ?_; intro f h
      refine s_call h s fnc27 (ret_val (.bool true) (rsame_any p.1 q.1 vs vu _ (hP.keep s.ext) (hQ.keep s.ext) (by omega) (by omega)) (congrArg Value.bool h0)) rfl rfl ?_; intro f w1 v9 hT hE h s; obtain rfl := hT
      refine s_pure h (ru_move (h.ev rfl)) rfl ?_; intro f h
      refine s_on h rfl rfl rfl ?_
      refine s_pure h (ru_field fld25_1 (h.ev rfl)) rfl ?_; intro f h
      refine s_on h rfl rfl rfl ?_
      refine s_load_at1 (V := .int .i64 p.2.1) (cell_of_has (Has.of_own s 1 rfl) 1 (pk_n _ _ _)) h one3 rfl rfl ?_; intro f h
      refine s_on h rfl rfl rfl ?_
      refine s_pure h (ru_field fld25_1 (h.ev rfl)) rfl ?_; intro f h
      refine s_on h rfl rfl rfl ?_
      refine s_load_at1 (V := .int .i64 q.2.1) (cell_of_has (Has.of_own s 0 rfl) 1 (pk_n _ _ _)) h one3 rfl rfl ?_; intro f h
      refine s_on h rfl rfl rfl ?_
      refine s_pure h (ru_val (.bool false) (ru_eql (h.ev rfl) (h.ev rfl)) (congrArg Value.bool h1)) rfl ?_; intro f h
      refine s_pure h (ru_pick_t (h.ev rfl) (h.ev rfl)) rfl ?_; intro f h
      refine s_pure h (ru_move (h.ev rfl)) rfl ?_; intro f h
      refine s_off (b := true) h rfl rfl rfl rfl ?_; intro f h
      refine s_off (b := true) h rfl rfl rfl rfl ?_; intro f h
      refine s_off (b := true) h rfl rfl rfl rfl ?_; intro f h
      refine s_off (b := true) h rfl rfl rfl rfl ?_; intro f h
      refine s_off (b := true) h rfl rfl rfl rfl ?_; intro f h
      refine s_pure h (ru_pick_f (h.ev rfl) (h.ev rfl)) rfl ?_; intro f h
      refine s_pure h (ru_assign (h.ev rfl)) rfl ?_; intro f h
      refine s_nil ?_
      refine hK2 _ _ ?_
      refine wpIn_ret ?_
      exact e_tmp rfl h s rfl (by show _ = _; rw [sameP_1 h0 h1])
    · skip
      refine c_region ?_
      refine s_pure h (ru_field fld25_0 (h.ev rfl)) rfl ?_; intro f h
      refine s_load_at1 (V := vs) (cell_of_has (Has.of_own s 1 rfl) 0 (pk_v _ _ _)) h one23 rfl rfl ?_; intro f h
      refine s_pure h (ru_field fld25_0 (h.ev rfl)) rfl ?_; intro f h
      refine s_load_at1 (V := vu) (cell_of_has (Has.of_own s 0 rfl) 0 (pk_v _ _ _)) h one23 rfl rfl ?_; intro f h
      refine s_call h s fnc27 (ret_val (.bool true) (rsame_any p.1 q.1 vs vu _ (hP.keep s.ext) (hQ.keep s.ext) (by omega) (by omega)) (congrArg Value.bool h0)) rfl rfl ?_; intro f w1 v9 hT hE h s; obtain rfl := hT
      refine s_pure h (ru_move (h.ev rfl)) rfl ?_; intro f h
      refine s_on h rfl rfl rfl ?_
      refine s_pure h (ru_field fld25_1 (h.ev rfl)) rfl ?_; intro f h
      refine s_on h rfl rfl rfl ?_
      refine s_load_at1 (V := .int .i64 p.2.1) (cell_of_has (Has.of_own s 1 rfl) 1 (pk_n _ _ _)) h one3 rfl rfl ?_; intro f h
      refine s_on h rfl rfl rfl ?_
      refine s_pure h (ru_field fld25_1 (h.ev rfl)) rfl ?_; intro f h
      refine s_on h rfl rfl rfl ?_
      refine s_load_at1 (V := .int .i64 q.2.1) (cell_of_has (Has.of_own s 0 rfl) 1 (pk_n _ _ _)) h one3 rfl rfl ?_; intro f h
      refine s_on h rfl rfl rfl ?_
      refine s_pure h (ru_val (.bool true) (ru_eql (h.ev rfl) (h.ev rfl)) (congrArg Value.bool h1)) rfl ?_; intro f h
      refine s_pure h (ru_pick_t (h.ev rfl) (h.ev rfl)) rfl ?_; intro f h
      refine s_pure h (ru_move (h.ev rfl)) rfl ?_; intro f h
      refine s_on h rfl rfl rfl ?_
      refine s_pure h (ru_field fld25_2 (h.ev rfl)) rfl ?_; intro f h
      refine s_on h rfl rfl rfl ?_
      refine s_load_at1 (V := .string p.2.2) (cell_of_has (Has.of_own s 1 rfl) 2 (pk_d _ _ _)) h one9 rfl rfl ?_; intro f h
      refine s_on h rfl rfl rfl ?_
      refine s_pure h (ru_field fld25_2 (h.ev rfl)) rfl ?_; intro f h
      refine s_on h rfl rfl rfl ?_
      refine s_load_at1 (V := .string q.2.2) (cell_of_has (Has.of_own s 0 rfl) 2 (pk_d _ _ _)) h one9 rfl rfl ?_; intro f h
      refine s_on h rfl rfl rfl ?_
      refine s_pure h (ru_eql_str (h.ev rfl) (h.ev rfl)) rfl ?_; intro f h
      refine s_pure h (ru_pick_t (h.ev rfl) (h.ev rfl)) rfl ?_; intro f h
      refine s_pure h (ru_assign (h.ev rfl)) rfl ?_; intro f h
      refine s_nil ?_
      refine hK2 _ _ ?_
      refine wpIn_ret ?_
      exact e_tmp rfl h s rfl (by show _ = _; rw [sameP_2 h0 h1])

theorem ron_any (p : Pk) (vs : Value) (b : Tg) (fr : List Ent) (vf : Value) (w : World) (hP : RdZ w vs 34 p.1.length (eCells p.1)) (hpl : p.1.length ≤ 1000) (h1 : 1 ≤ p.1.length) (hh : 0 ≤ p.2.1 ∧ p.2.1 ≤ 64) (hF : RdZ w vf 34 fr.length (eCells fr)) (hfl : fr.length ≤ 1000) : Calls Try.prog 31 [.agg (pkArr vs p.2.1 p.2.2), .agg (tgArr b), vf].toArray w (Ret w (fun v w' => ∃ u, v = .agg (otArr 2 0 u (p.2.1 - 1) p.2.2 b 0) ∧ Owns w' w.heap.size 42 34 u (fr ++ p.1.drop 1).length (eCells (fr ++ p.1.drop 1)))) := by
  refine c_enter Try.func31 rfl Try.ntmps31 rfl [(0, .agg (pkArr vs p.2.1 p.2.2)), (1, .agg (tgArr b)), (2, vf)] (by simp) fun f h => ?_
  have s := St.start w
  refine c_seq fun K1 hK1 => ?_
  refine c_region ?_
  refine s_box (pkArr vs p.2.1 p.2.2) h s rfl rfl rfl ?_; intro f w1 b3 h s
  refine s_box (tgArr b) h s rfl rfl rfl ?_; intro f w1 b4 h s
  refine s_alloc (otArr 0 0 nilV 0 ByteArray.empty zTg 0) h s zero46 rfl rfl ?_; intro f w1 b6 h s
  refine s_nil ?_
  refine hK1 _ _ ?_
  refine c_seq fun K2 hK2 => ?_
  refine c_region ?_
  refine s_bslice (vs := []) [] h s Try.underlying23 elm42 rfl rfl (by simp) rfl rfl rfl ?_; intro f w1 v8 h s
  replace s := s.resl (m := ([] : List Ent).length) (ys := eCells ([] : List Ent)) 0 rfl (rfl) (rfl)
  refine s_pure h (ru_assign (h.ev rfl)) rfl ?_; intro f h
  refine s_nil ?_
  refine hK2 _ _ ?_
  refine c_seq fun K3 hK3 => ?_
  refine c_region ?_
  refine s_pure h (ru_move (h.ev rfl)) rfl ?_; intro f h
  refine s_pure h (ru_move (h.ev rfl)) rfl ?_; intro f h
  refine s_append_rd 0 (hF.keep s.ext) h s Try.underlying23 elm42 rfl rfl rfl (eCells_ones _) (by show 0 + _ ≤ _; unfold maxLen; omega) (by show (0 + _) * _ ≤ _; omega) rfl ?_; intro f w1 v11 h s
  replace s := s.resl (m := fr.length) (ys := eCells fr) 0 rfl (by simp) (by rw [show eCells [] = ([] : List Value) from rfl, List.nil_append])
  refine s_pure h (ru_assign (h.ev rfl)) rfl ?_; intro f h
  refine s_nil ?_
  refine hK3 _ _ ?_
  refine c_seq fun K4 hK4 => ?_
  refine c_region ?_
  refine s_pure h (ru_move (h.ev rfl)) rfl ?_; intro f h
  refine s_pure h (ru_field fld25_0 (h.ev rfl)) rfl ?_; intro f h
  refine s_load_at1 (V := vs) (cell_of_has (Has.of_own s 3 rfl) 0 (pk_v _ _ _)) h one23 rfl rfl ?_; intro f h
  refine s_pure h (ru_slice_loZ (hP.keep s.ext) (1) Try.underlying23 szo42 (h.ev rfl) (h.ev rfl) (rfl) (by omega)) rfl ?_; intro f h
  refine s_append_rd 0 ((ents_drop (hP.keep s.ext) 1 (by omega))) h s Try.underlying23 elm42 rfl rfl rfl (eCells_ones _) (by rw [List.length_drop]; unfold maxLen; omega) (by rw [List.length_drop]; omega) rfl ?_; intro f w1 v16 h s
  replace s := s.resl (m := (fr ++ p.1.drop 1).length) (ys := eCells (fr ++ p.1.drop 1)) 0 rfl (by rw [List.length_append]) (by rw [eCells_app])
  refine s_pure h (ru_assign (h.ev rfl)) rfl ?_; intro f h
  refine s_nil ?_
  refine hK4 _ _ ?_
  refine c_seq fun K5 hK5 => ?_
  refine c_region ?_
  refine s_pure h (ru_move (h.ev rfl)) rfl ?_; intro f h
  refine s_pure h (ru_field fld25_1 (h.ev rfl)) rfl ?_; intro f h
  refine s_load_at1 (V := .int .i64 p.2.1) (cell_of_has (Has.of_own s 3 rfl) 1 (pk_n _ _ _)) h one3 rfl rfl ?_; intro f h
  refine s_pure h (ru_sub (h.ev rfl) (h.ev rfl) (by omega)) rfl ?_; intro f h
  refine s_pure h (ru_field fld25_2 (h.ev rfl)) rfl ?_; intro f h
  refine s_load_at1 (V := .string p.2.2) (cell_of_has (Has.of_own s 3 rfl) 2 (pk_d _ _ _)) h one9 rfl rfl ?_; intro f h
  refine s_pure h (ru_build_pk3 sttP (rd_size (RdZ.of_own (s.getSl 0 rfl))) (rd_cells (RdZ.of_own (s.getSl 0 rfl))) (h.ev rfl) (h.ev rfl) (h.ev rfl)) rfl ?_; intro f h
  refine s_load_row 2 h s row44 rfl rfl (tgArr_size _) rfl ?_; intro f h
  refine s_pure h (ru_build_ot_on sttO (rd_cells (RdZ.of_own (s.getSl 0 rfl))) rfl (h.ev rfl) (h.ev rfl)) rfl ?_; intro f h
  refine s_store_row 1 h s row46 rfl rfl rfl (otArr_size _ _ _ _ _ _ _) (otArr_size _ _ _ _ _ _ _) (otArr_ones _ _ _ _ _ _ (own_one (s.getSl 0 rfl))) ?_; intro w1 s
  refine s_nil ?_
  refine hK5 _ _ ?_
  refine wpIn_ret ?_
  exact e_row 1 rfl h s row46 rfl rfl (otArr_size _ _ _ _ _ _ _) (⟨_, rfl, s.getSl 0 rfl⟩)

set_option maxHeartbeats 2000000 in
theorem rstep_any (t : List Tg) (vh : Value) (p : Pk) (vs : Value) (w : World) (hR : RdZ w vh 67 t.length (tgCells t)) (hln : t.length ≤ 1000) (hP : RdZ w vs 34 p.1.length (eCells p.1)) (hpl : p.1.length ≤ 1000) (h1 : 1 ≤ p.1.length) (hh9 : 0 ≤ p.2.1 ∧ p.2.1 ≤ 64) : Calls Try.prog 17 [vh, .agg (pkArr vs p.2.1 p.2.2)].toArray w (Ret w (StP w 46 vs p (stepO t p))) := by
  refine c_enter Try.func17 rfl Try.ntmps17 rfl [(0, vh), (1, .agg (pkArr vs p.2.1 p.2.2))] (by simp) fun f h => ?_
  have s := St.start w
  refine c_seq fun K1 hK1 => ?_
  refine c_region ?_
  refine s_box (pkArr vs p.2.1 p.2.2) h s rfl rfl rfl ?_; intro f w1 b3 h s
  refine s_pure h (ru_assign (h.ev rfl)) rfl ?_; intro f h
  refine s_nil ?_
  refine hK1 _ _ ?_
  refine c_seq fun K2 hK2 => ?_
  refine c_region ?_
  refine s_bslice (vs := []) [] h s Try.underlying28 elm46 rfl rfl (by simp) rfl rfl rfl ?_; intro f w1 v9 h s
  replace s := s.resl (m := ([] : List O2).length) (ys := ouCells []) 0 rfl rfl rfl
  refine s_pure h (ru_assign (h.ev rfl)) rfl ?_; intro f h
  refine s_nil ?_
  refine hK2 _ _ ?_
  refine c_seq fun K3 hK3 => ?_
  refine c_region ?_
  refine s_pure h (ru_field fld25_0 (h.ev rfl)) rfl ?_; intro f h
  refine s_load_at1 (V := vs) (cell_of_has (Has.of_own s 1 rfl) 0 (pk_v _ _ _)) h one23 rfl rfl ?_; intro f h
  refine s_pure h (ru_ixz (hP.keep s.ext) (0) Try.underlying23 szo42 (h.ev rfl) (h.ev rfl) (rfl) (by omega)) rfl ?_; intro f h
  refine s_load_at ((hP.keep s.ext).el (0) (by omega) (by decide) (D := eArr (fstE p)) (e_elD p.1 0 (by omega))) h row42 rfl (eArr_size _) rfl ?_; intro f h
  refine s_alloc (eArr (0, 0#256, 0)) h s zero42 rfl rfl ?_; intro f w1 b6 h s
  refine s_store_row 0 h s row42 rfl rfl rfl (eArr_size _) (eArr_size _) (eArr_ones _) ?_; intro w1 s
  refine s_nil ?_
  refine hK3 _ _ ?_
  refine c_seq fun K4 hK4 => ?_
  refine c_seq fun K5 hK5 => ?_
  refine c_region ?_
  refine s_pure h (ru_field fld42_0 (h.ev rfl)) rfl ?_; intro f h
  refine s_load_at1 (cell_of_has (Has.of_own s 0 rfl) 0 (eArr_kind _)) h one3 rfl rfl ?_; intro f h
  refine s_pure h (ru_eql (h.ev rfl) (h.ev rfl)) rfl ?_; intro f h
  refine s_nil ?_
  refine hK5 _ _ ?_
  refine c_cond h rfl (fun hc => ?_) (fun hc => ?_)
  · have h0 := hc
    refine c_seq fun K6 hK6 => ?_
    refine c_region ?_
    refine s_pure h (ru_move (h.ev rfl)) rfl ?_; intro f h
    refine s_pure h (ru_field fld42_2 (h.ev rfl)) rfl ?_; intro f h
    refine s_load_at1 (cell_of_has (Has.of_own s 0 rfl) 33 (eArr_host _)) h one3 rfl rfl ?_; intro f h
    refine s_load_row 2 h s row25 rfl rfl (pkArr_size _ _ _) rfl ?_; intro f h
    refine s_pure h (ru_build_ot_host sttO rfl (h.ev rfl) (h.ev rfl)) rfl ?_; intro f h
    refine s_bslice (vs := [.agg (otArr 1 (fstE p).2.2 vs p.2.1 p.2.2 zTg 0)]) [.tmp 21] h s Try.underlying28 elm46 rfl rfl (ou_sz (hostO p, vs)) rfl rfl rfl ?_; intro f w1 v22 h s
    refine s_append 2 0 h s Try.underlying28 elm46 rfl rfl rfl rfl (by decide) (by exact otArr_ones _ _ _ _ _ _ (rd_one hP)) (by show 0 + 1 ≤ _; unfold maxLen; omega) (by show (0 + 1) * _ ≤ _; omega) rfl ?_; intro f w1 v23 h s
    replace s := s.pick _ (List.sublist_cons_self _ _)
    replace s := s.resl (m := (([] : List O2) ++ [(hostO p, vs)]).length) (ys := ouCells (([] : List O2) ++ [(hostO p, vs)])) 1 rfl (ou_len ([] : List O2) (hostO p, vs)) (by exact ou_put ([] : List O2) (hostO p, vs))
    refine s_pure h (ru_assign (h.ev rfl)) rfl ?_; intro f h
    refine s_nil ?_
    refine hK6 _ _ ?_
    refine c_seq fun K7 hK7 => ?_
    refine c_region ?_
    refine s_pure h (ru_move (h.ev rfl)) rfl ?_; intro f h
    refine s_pure h (ru_assign (h.ev rfl)) rfl ?_; intro f h
    refine s_nil ?_
    refine hK7 _ _ ?_
    refine wpIn_ret ?_
    refine t_ret ?_
    exact e_tmp rfl h s rfl (stp_own (K := ([] : List O2) ++ [(hostO p, vs)]) (by rw [step_host h0]; rfl) (fun _ h9 => rwU_one (x := hostO p) h9) (s.sel [1] rfl (by decide)))
  · have h0 := hc
    refine wpIn_skip ?_
    refine hK4 _ _ ?_
    refine c_seq fun K8 hK8 => ?_
    refine c_seq fun K9 hK9 => ?_
    refine c_region ?_
    refine s_pure h (ru_field fld25_1 (h.ev rfl)) rfl ?_; intro f h
    refine s_load_at1 (V := .int .i64 p.2.1) (cell_of_has (Has.of_own s 2 rfl) 1 (pk_n _ _ _)) h one3 rfl rfl ?_; intro f h
    refine s_pure h (ru_eql (h.ev rfl) (h.ev rfl)) rfl ?_; intro f h
    refine s_nil ?_
    refine hK9 _ _ ?_
    refine c_cond h rfl (fun hc => ?_) (fun hc => ?_)
    · have h2 := hc
      refine c_seq fun K10 hK10 => ?_
      refine c_region ?_
      refine s_pure h (ru_move (h.ev rfl)) rfl ?_; intro f h
      refine s_pure h (ru_build_ot_dead sttO rfl rfl) rfl ?_; intro f h
      refine s_bslice (vs := [.agg (otArr 3 0 nilV 0 ByteArray.empty zTg 9)]) [.tmp 29] h s Try.underlying28 elm46 rfl rfl (ou_sz (deadO 9, nilV)) rfl rfl rfl ?_; intro f w1 v30 h s
      refine s_append 2 0 h s Try.underlying28 elm46 rfl rfl rfl rfl (by decide) (by exact otArr_ones _ _ _ _ _ _ (rfl)) (by show 0 + 1 ≤ _; unfold maxLen; omega) (by show (0 + 1) * _ ≤ _; omega) rfl ?_; intro f w1 v31 h s
      replace s := s.pick _ (List.sublist_cons_self _ _)
      replace s := s.resl (m := (([] : List O2) ++ [(deadO 9, nilV)]).length) (ys := ouCells (([] : List O2) ++ [(deadO 9, nilV)])) 1 rfl (ou_len ([] : List O2) (deadO 9, nilV)) (by exact ou_put ([] : List O2) (deadO 9, nilV))
      refine s_pure h (ru_assign (h.ev rfl)) rfl ?_; intro f h
      refine s_nil ?_
      refine hK10 _ _ ?_
      refine c_seq fun K11 hK11 => ?_
      refine c_region ?_
      refine s_pure h (ru_move (h.ev rfl)) rfl ?_; intro f h
      refine s_pure h (ru_assign (h.ev rfl)) rfl ?_; intro f h
      refine s_nil ?_
      refine hK11 _ _ ?_
      refine wpIn_ret ?_
      refine t_ret ?_
      exact e_tmp rfl h s rfl (stp_own (K := ([] : List O2) ++ [(deadO 9, nilV)]) (by rw [step_hops h0 h2]; rfl) (fun _ _ => rwU_one (x := deadO 9) (re_nil _)) (s.sel [1] rfl (by decide)))
    · have h2 := hc
      refine wpIn_skip ?_
      refine hK8 _ _ ?_
      refine c_seq fun K12 hK12 => ?_
      refine c_seq fun K13 hK13 => ?_
      refine c_region ?_
      refine s_pure h (ru_move (h.ev rfl)) rfl ?_; intro f h
      refine s_pure h (ru_field fld42_1 (h.ev rfl)) rfl ?_; intro f h
      refine s_load_at (Has.subL (Has.of_own s 0 rfl) 1 32 (D := idArr (_)) (eArr_id _)) h row40 rfl (by first | exact idArr_size _ | exact bytesF_size _ _) rfl ?_; intro f h
      refine s_call h s fnc30 (rmatcht_any t vh (fstE p).2.1 _ (hR.keep s.ext) hln) rfl rfl ?_; intro f w1 v36 hOw hE h sq; change Owns _ _ _ 67 _ (mtF t (fstE p).2.1).length (tgCells (mtF t (fstE p).2.1)) at hOw; replace s := s.sl_new hE hOw; clear hOw
      obtain ⟨M, hM⟩ : ∃ x9, x9 = (mtF t (fstE p).2.1) := ⟨_, rfl⟩
      have hMl : M.length ≤ t.length := by rw [hM]; exact mtf_le t _
      rw [← hM] at s
      replace s := s.grp0 (S := fun w9 => RdE w9 vs p.1 → RwU [] w9) (fun w9 _ => rwU_nil w9)
      refine s_len_sl 1 h s Try.underlying22 rfl rfl rfl ?_; intro f h
      refine s_pure h (ru_move (h.ev rfl)) rfl ?_; intro f h
      refine s_nil ?_
      refine hK13 _ _ ?_
      refine wpIn_block ?_
      refine wpIn_loop_ghost (fun nn aa ww => ∃ k : Nat, ∃ vb : Value, ∃ K : List O2, ∃ kg : List Nat, Sl 75 aa [(0, vh), (1, .agg (pkArr vs p.2.1 p.2.2)), (3, .pointer (some ⟨b3, 0, none⟩)), (6, .pointer (some ⟨b6, 0, none⟩)), (5, vb), (36, v36), (37, .int .i64 (M.length : Int)), (38, .int .i64 (k : Int))] ∧ St w [(.grp kg (fun w9 => RdE w9 vs p.1 → RwU K w9)), .sl v36 44 67 M.length (tgCells M), .blk b6 (.cells (eArr (fstE p)) 42), .sl vb 46 73 K.length (ouCells K), .blk b3 (.cells (pkArr vs p.2.1 p.2.2) 25)] ww ∧ nn = M.length - k ∧ k ≤ M.length ∧ outs K = (M.take k).map (viaO p)) (M.length - (0)) ⟨0, v9, [], [], h.only ⟨rfl, rfl, rfl, rfl, rfl, rfl, rfl, slot_int rfl (by omega), trivial⟩, s.as ⟨rfl, rfl, rfl, rfl, rfl, trivial⟩, rfl, Nat.zero_le _, rfl⟩ ?_
      rintro _ f w1 ⟨k, vb, K, kg, h, s, hnn, hp0, hp1⟩
      refine c_seq fun K14 hK14 => ?_
      refine c_region ?_
      refine s_pure h (ru_lss (h.ev rfl) (h.ev rfl)) rfl ?_; intro f h
      refine s_nil ?_
      refine hK14 _ _ ?_
      refine c_seq fun K15 hK15 => ?_
      refine c_cond h rfl (fun hc => ?_) (fun hc => ?_)
      · replace hc := of_decide_eq_true hc
        refine wpIn_skip ?_
        refine hK15 _ _ ?_
        refine c_seq fun K16 hK16 => ?_
        refine wpIn_block ?_
        refine c_seq fun K17 hK17 => ?_
        refine c_region ?_
        have hkm : k < M.length := by omega
        have hKk : K.length = k := by rw [← outs_len, hp1, List.length_map, List.length_take]; omega
        refine s_pure h (ru_ixz (RdZ.of_own (s.getSl 1 rfl)) (k) Try.underlying22 szo44 (h.ev rfl) (h.ev rfl) (by omega) (by omega)) rfl ?_; intro f h
        refine s_load_at ((RdZ.of_own (s.getSl 1 rfl)).el (k) (by omega) (by decide) (D := tgArr (M.getD k zTg)) (tgr_el M k hkm)) h row44 rfl (tgArr_size _) rfl ?_; intro f h
        refine s_alloc (tgArr zTg) h s zero44 rfl rfl ?_; intro f w1 b8 h s
        refine s_store_row 0 h s row44 rfl rfl rfl (tgArr_size _) (tgArr_size _) (tgArr_ones _) ?_; intro w1 s
        refine s_nil ?_
        refine hK17 _ _ ?_
        refine c_region ?_
        refine s_pure h (ru_move (h.ev rfl)) rfl ?_; intro f h
        refine s_load_row 5 h s row25 rfl rfl (pkArr_size _ _ _) rfl ?_; intro f h
        refine s_load_row 0 h s row44 rfl rfl (tgArr_size _) rfl ?_; intro f h
        refine s_pure h (ru_field fld44_1 (h.ev rfl)) rfl ?_; intro f h
        refine s_load_at (Has.subL (Has.of_own s 0 rfl) 32 34 (D := eArr (_)) (tgArr_tg _)) h row42 rfl (eArr_size _) rfl ?_; intro f h
        refine s_bslice (vs := [.agg (eArr (M.getD k zTg).2.1)]) [.tmp 46] h s Try.underlying23 elm42 rfl rfl (e_szE _) rfl rfl rfl ?_; intro f w1 v47 h s
        replace s := s.resl (m := [(M.getD k zTg).2.1].length) (ys := eCells [(M.getD k zTg).2.1]) 0 rfl rfl ((e_one _).trans (eCells_one _).symm)
        refine s_call h s fnc31 (ron_any p vs (M.getD k zTg) [(M.getD k zTg).2.1] v47 _ (hP.keep s.ext) hpl h1 hh9 (RdZ.of_own (s.getSl 0 rfl)) (by simp)) rfl rfl ?_; rintro f w1 v48 ⟨vu, rfl, hOw⟩ hE h sq; have hu1 := rd_one (RdZ.of_own hOw); replace s := s.sl_new hE hOw; clear hOw
        refine s_bslice (vs := [.agg (otArr 2 0 vu (p.2.1 - 1) p.2.2 (M.getD k zTg) 0)]) [.tmp 48] h s Try.underlying28 elm46 rfl rfl (ou_sz (viaO p (M.getD k zTg), vu)) rfl rfl rfl ?_; intro f w1 v49 h s
        refine s_append 7 0 h s Try.underlying28 elm46 rfl rfl rfl rfl (by decide) (by exact otArr_ones _ _ _ _ _ _ (hu1)) (by unfold maxLen; omega) (by omega) rfl ?_; intro f w1 v50 h s
        replace s := s.pick _ (List.sublist_cons_self _ _)
        replace s := s.resl (m := (K ++ [(viaO p (M.getD k zTg), vu)]).length) (ys := ouCells (K ++ [(viaO p (M.getD k zTg), vu)])) 6 rfl (ou_len K (viaO p (M.getD k zTg), vu)) (by exact ou_put K (viaO p (M.getD k zTg), vu))
        refine s_pure h (ru_assign (h.ev rfl)) rfl ?_; intro f h
        refine s_nil ?_
        refine b_norm ?_
        refine hK16 _ _ ?_
        refine c_region ?_
        replace s := s.sel [0, 3, 1, 2, 4, 5, 6, 7] rfl (by decide)
        obtain ⟨kn, s⟩ := s.grp1 (S' := fun w9 => RdE w9 vs p.1 → RwU (K ++ [(viaO p (M.getD k zTg), vu)]) w9) (fun w9 h1 h2 h3 => rwU_snoc (h2 h3) h1)
        refine s_pure h (ru_add (h.ev rfl) (h.ev rfl) (by omega)) rfl ?_; intro f h
        refine s_pure h (ru_move (h.ev rfl)) rfl ?_; intro f h
        refine s_nil ?_
        refine t_norm ?_
        exact ⟨_, by omega, ⟨k + 1, v50, K ++ [(viaO p (M.getD k zTg), vu)], kn, h.only ⟨rfl, rfl, rfl, rfl, rfl, rfl, rfl, slot_int rfl (by omega), trivial⟩, St.as (s.pick _ (List.Sublist.cons_cons _ (List.Sublist.cons _ (List.Sublist.cons _ (List.Sublist.cons_cons _ (List.Sublist.cons_cons _ (List.Sublist.cons_cons _ (List.Sublist.cons_cons _ (List.nil_sublist _))))))))) ⟨rfl, rfl, rfl, rfl, rfl, trivial⟩, rfl, by omega, via_next hkm hp1⟩⟩
      · replace hc := of_decide_eq_false hc
        refine wpIn_exit ?_
        refine t_exit ?_
        refine t_exit ?_
        refine b_exit ?_
        refine hK12 _ _ ?_
        refine c_seq fun K18 hK18 => ?_
        refine c_seq fun K19 hK19 => ?_
        cases m0 : (decide (K.length = 0) : Bool)
        · skip
          refine c_region ?_
          obtain rfl : k = M.length := by omega
          rw [List.take_length] at hp1
          have hKl : K.length = M.length := by rw [← outs_len, hp1, List.length_map]
          refine s_pure h (ru_move (h.ev rfl)) rfl ?_; intro f h
          refine s_len_sl 3 h s Try.underlying28 rfl rfl rfl ?_; intro f h
          refine s_pure h (ru_val (.bool false) (ru_eql (h.ev rfl) (h.ev rfl)) (congrArg Value.bool ((decide_eq_decide.2 (by omega)).trans m0))) rfl ?_; intro f h
          refine s_pure h (ru_move (h.ev rfl)) rfl ?_; intro f h
          refine s_off (b := true) h rfl rfl rfl rfl ?_; intro f h
          refine s_off (b := true) h rfl rfl rfl rfl ?_; intro f h
          refine s_off (b := true) h rfl rfl rfl rfl ?_; intro f h
          refine s_off (b := true) h rfl rfl rfl rfl ?_; intro f h
          refine s_pure h (ru_pick_f (h.ev rfl) (h.ev rfl)) rfl ?_; intro f h
          refine s_nil ?_
          refine hK19 _ _ ?_
          refine wpIn_cond_false (h.ev rfl) ?_
          refine wpIn_skip ?_
          refine hK18 _ _ ?_
          refine c_seq fun K20 hK20 => ?_
          refine c_seq fun K21 hK21 => ?_
          refine c_region ?_
          refine s_pure h (ru_move (h.ev rfl)) rfl ?_; intro f h
          refine s_len_sl 3 h s Try.underlying28 rfl rfl rfl ?_; intro f h
          refine s_pure h (ru_val (.bool false) (ru_eql (h.ev rfl) (h.ev rfl)) (congrArg Value.bool ((decide_eq_decide.2 (by omega)).trans m0))) rfl ?_; intro f h
          refine s_nil ?_
          refine hK21 _ _ ?_
          refine wpIn_cond_false (h.ev rfl) ?_
          refine wpIn_skip ?_
          refine hK20 _ _ ?_
          refine c_seq fun K22 hK22 => ?_
          refine c_region ?_
          refine s_pure h (ru_move (h.ev rfl)) rfl ?_; intro f h
          refine s_pure h (ru_assign (h.ev rfl)) rfl ?_; intro f h
          refine s_nil ?_
          refine hK22 _ _ ?_
          refine wpIn_ret ?_
          exact e_tmp rfl h s rfl (⟨K, kg, by rw [step_map h0 h2 (by rw [← hM, ← hKl]; exact m0), ← hM]; exact hp1, s.sel [3, 0] rfl (by decide)⟩)
        · skip
          cases m1 : (decide (1 < p.1.length) : Bool)
          · skip
            refine c_region ?_
            obtain rfl : k = M.length := by omega
            rw [List.take_length] at hp1
            have hKl : K.length = M.length := by rw [← outs_len, hp1, List.length_map]
            refine s_pure h (ru_move (h.ev rfl)) rfl ?_; intro f h
            refine s_len_sl 3 h s Try.underlying28 rfl rfl rfl ?_; intro f h
            refine s_pure h (ru_val (.bool true) (ru_eql (h.ev rfl) (h.ev rfl)) (congrArg Value.bool ((decide_eq_decide.2 (by omega)).trans m0))) rfl ?_; intro f h
            refine s_pure h (ru_move (h.ev rfl)) rfl ?_; intro f h
            refine s_on h rfl rfl rfl ?_
            refine s_pure h (ru_field fld25_0 (h.ev rfl)) rfl ?_; intro f h
            refine s_on h rfl rfl rfl ?_
            refine s_load_at1 (V := vs) (cell_of_has (Has.of_own s 4 rfl) 0 (pk_v _ _ _)) h one23 rfl rfl ?_; intro f h
            refine s_on h rfl rfl rfl ?_
            refine s_pure h (ru_lenZ (hP.keep s.ext) Try.underlying23 (h.ev rfl)) rfl ?_; intro f h
            refine s_on h rfl rfl rfl ?_
            refine s_pure h (ru_val (.bool false) (ru_gtr (h.ev rfl) (h.ev rfl)) (congrArg Value.bool ((decide_eq_decide.2 (by omega)).trans m1))) rfl ?_; intro f h
            refine s_pure h (ru_pick_t (h.ev rfl) (h.ev rfl)) rfl ?_; intro f h
            refine s_nil ?_
            refine hK19 _ _ ?_
            refine wpIn_cond_false (h.ev rfl) ?_
            refine wpIn_skip ?_
            refine hK18 _ _ ?_
            refine c_seq fun K23 hK23 => ?_
            refine c_seq fun K24 hK24 => ?_
            refine c_region ?_
            refine s_pure h (ru_move (h.ev rfl)) rfl ?_; intro f h
            refine s_len_sl 3 h s Try.underlying28 rfl rfl rfl ?_; intro f h
            refine s_pure h (ru_val (.bool true) (ru_eql (h.ev rfl) (h.ev rfl)) (congrArg Value.bool ((decide_eq_decide.2 (by omega)).trans m0))) rfl ?_; intro f h
            refine s_nil ?_
            refine hK24 _ _ ?_
            refine wpIn_cond_true (h.ev rfl) ?_
            refine c_region ?_
            refine s_pure h (ru_move (h.ev rfl)) rfl ?_; intro f h
            refine s_pure h (ru_build_ot_dead sttO rfl rfl) rfl ?_; intro f h
            refine s_bslice (vs := [.agg (otArr 3 0 nilV 0 ByteArray.empty zTg 6)]) [.tmp 71] h s Try.underlying28 elm46 rfl rfl (ou_sz (deadO 6, nilV)) rfl rfl rfl ?_; intro f w1 v72 h s
            refine s_append 4 0 h s Try.underlying28 elm46 rfl rfl rfl rfl (by decide) (by exact otArr_ones _ _ _ _ _ _ (rfl)) (by unfold maxLen; omega) (by omega) rfl ?_; intro f w1 v73 h s
            replace s := s.pick _ (List.sublist_cons_self _ _)
            replace s := s.resl (m := (K ++ [(deadO 6, nilV)]).length) (ys := ouCells (K ++ [(deadO 6, nilV)])) 3 rfl (ou_len K (deadO 6, nilV)) (by exact ou_put K (deadO 6, nilV))
            refine s_pure h (ru_assign (h.ev rfl)) rfl ?_; intro f h
            refine s_nil ?_
            refine hK23 _ _ ?_
            refine c_seq fun K25 hK25 => ?_
            refine c_region ?_
            refine s_pure h (ru_move (h.ev rfl)) rfl ?_; intro f h
            refine s_pure h (ru_assign (h.ev rfl)) rfl ?_; intro f h
            refine s_nil ?_
            refine hK25 _ _ ?_
            refine wpIn_ret ?_
            exact e_tmp rfl h s rfl (⟨K ++ [(deadO 6, nilV)], kg, by rw [step_none h0 h2 (by rw [← hM, ← hKl]; exact m0) m1]; exact outs_0 (of_decide_eq_true m0) (deadO 6, nilV), ((s.sel [0, 3] rfl (by decide)).weak (S' := fun w9 => RdE w9 vs p.1 → RwU (K ++ [(deadO 6, nilV)]) w9) fun w9 h9 h8 => rwU_snoc (x := deadO 6) (u := nilV) (h9 h8) (re_nil w9)).sel [1, 0] rfl (by decide)⟩)
          · skip
            refine c_region ?_
            obtain rfl : k = M.length := by omega
            rw [List.take_length] at hp1
            have hKl : K.length = M.length := by rw [← outs_len, hp1, List.length_map]
            refine s_pure h (ru_move (h.ev rfl)) rfl ?_; intro f h
            refine s_len_sl 3 h s Try.underlying28 rfl rfl rfl ?_; intro f h
            refine s_pure h (ru_val (.bool true) (ru_eql (h.ev rfl) (h.ev rfl)) (congrArg Value.bool ((decide_eq_decide.2 (by omega)).trans m0))) rfl ?_; intro f h
            refine s_pure h (ru_move (h.ev rfl)) rfl ?_; intro f h
            refine s_on h rfl rfl rfl ?_
            refine s_pure h (ru_field fld25_0 (h.ev rfl)) rfl ?_; intro f h
            refine s_on h rfl rfl rfl ?_
            refine s_load_at1 (V := vs) (cell_of_has (Has.of_own s 4 rfl) 0 (pk_v _ _ _)) h one23 rfl rfl ?_; intro f h
            refine s_on h rfl rfl rfl ?_
            refine s_pure h (ru_lenZ (hP.keep s.ext) Try.underlying23 (h.ev rfl)) rfl ?_; intro f h
            refine s_on h rfl rfl rfl ?_
            refine s_pure h (ru_val (.bool true) (ru_gtr (h.ev rfl) (h.ev rfl)) (congrArg Value.bool ((decide_eq_decide.2 (by omega)).trans m1))) rfl ?_; intro f h
            refine s_pure h (ru_pick_t (h.ev rfl) (h.ev rfl)) rfl ?_; intro f h
            refine s_nil ?_
            refine hK19 _ _ ?_
            refine wpIn_cond_true (h.ev rfl) ?_
            refine c_region ?_
            refine s_pure h (ru_move (h.ev rfl)) rfl ?_; intro f h
            refine s_load_row 4 h s row25 rfl rfl (pkArr_size _ _ _) rfl ?_; intro f h
            refine s_pure h (ru_build_tg0 sttG) rfl ?_; intro f h
            refine s_call h s fnc31 (ron_any p vs zTg [] nilV _ (hP.keep s.ext) hpl h1 hh9 (re_nil _) (by simp)) rfl rfl ?_; rintro f w1 v64 ⟨vn, rfl, hOw⟩ hE h sq; have hu1 := rd_one (RdZ.of_own hOw); replace s := s.sl_new hE hOw; clear hOw
            refine s_bslice (vs := [.agg (otArr 2 0 vn (p.2.1 - 1) p.2.2 zTg 0)]) [.tmp 64] h s Try.underlying28 elm46 rfl rfl (ou_sz (onO p zTg [], vn)) rfl rfl rfl ?_; intro f w1 v65 h s
            refine s_append 5 0 h s Try.underlying28 elm46 rfl rfl rfl rfl (by decide) (by exact otArr_ones _ _ _ _ _ _ (hu1)) (by unfold maxLen; omega) (by omega) rfl ?_; intro f w1 v66 h s
            replace s := s.pick _ (List.sublist_cons_self _ _)
            replace s := s.resl (m := (K ++ [(onO p zTg [], vn)]).length) (ys := ouCells (K ++ [(onO p zTg [], vn)])) 4 rfl (ou_len K (onO p zTg [], vn)) (by exact ou_put K (onO p zTg [], vn))
            refine s_pure h (ru_assign (h.ev rfl)) rfl ?_; intro f h
            refine s_nil ?_
            refine hK18 _ _ ?_
            refine c_seq fun K26 hK26 => ?_
            refine c_seq fun K27 hK27 => ?_
            refine c_region ?_
            replace s := s.sel [0, 1, 2, 3, 4, 5] rfl (by decide)
            obtain ⟨kn, s⟩ := s.grp1 (S' := fun w9 => RdE w9 vs p.1 → RwU (K ++ [(onO p zTg [], vn)]) w9) (fun w9 h1 h2 h3 => rwU_snoc (h2 h3) h1)
            refine s_pure h (ru_move (h.ev rfl)) rfl ?_; intro f h
            refine s_len_sl 3 h s Try.underlying28 rfl rfl rfl ?_; intro f h
            refine s_pure h (ru_val (.bool false) (ru_eql (h.ev rfl) (h.ev rfl)) (congrArg Value.bool (decide_eq_false (by rw [List.length_append]; simp; omega)))) rfl ?_; intro f h
            refine s_nil ?_
            refine hK27 _ _ ?_
            refine wpIn_cond_false (h.ev rfl) ?_
            refine wpIn_skip ?_
            refine hK26 _ _ ?_
            refine c_seq fun K28 hK28 => ?_
            refine c_region ?_
            refine s_pure h (ru_move (h.ev rfl)) rfl ?_; intro f h
            refine s_pure h (ru_assign (h.ev rfl)) rfl ?_; intro f h
            refine s_nil ?_
            refine hK28 _ _ ?_
            refine wpIn_ret ?_
            exact e_tmp rfl h s rfl (⟨K ++ [(onO p zTg [], vn)], kn, by rw [stepO_next h0 h2 (by rw [← hM, ← hKl]; exact m0) m1]; exact outs_0 (of_decide_eq_true m0) (onO p zTg [], vn), s.sel [3, 0] rfl (by decide)⟩)

set_option maxHeartbeats 2000000 in
theorem rlike_any (K M : List O2) (va vb : Value) (w : World) (hK : RdU w va K) (hM : RdU w vb M) (hKl : K.length ≤ 1000) (hMl : M.length ≤ 1000) (hKs : ∀ x ∈ K, x.1.p.1.length ≤ 1000) (hMs : ∀ x ∈ M, x.1.p.1.length ≤ 1000) : Calls Try.prog 16 [va, vb].toArray w (Ret w (is (.bool (decide (outs K = outs M))))) := by
  refine c_enter Try.func16 rfl Try.ntmps16 rfl [(0, va), (1, vb)] (by simp) fun f h => ?_
  have s := St.start w
  refine c_seq fun K1 hK1 => ?_
  refine c_region ?_
  refine s_pure h (ru_assign (h.ev rfl)) rfl ?_; intro f h
  refine s_nil ?_
  refine hK1 _ _ ?_
  refine c_seq fun K2 hK2 => ?_
  refine c_seq fun K3 hK3 => ?_
  refine c_region ?_
  refine s_pure h (ru_move (h.ev rfl)) rfl ?_; intro f h
  refine s_pure h (ru_lenZ (hK.1.keep s.ext) Try.underlying28 (h.ev rfl)) rfl ?_; intro f h
  refine s_pure h (ru_move (h.ev rfl)) rfl ?_; intro f h
  refine s_pure h (ru_lenZ (hM.1.keep s.ext) Try.underlying28 (h.ev rfl)) rfl ?_; intro f h
  refine s_pure h (ru_neq (h.ev rfl) (h.ev rfl)) rfl ?_; intro f h
  refine s_nil ?_
  refine hK3 _ _ ?_
  refine c_cond h rfl (fun hc => ?_) (fun hc => ?_)
  · replace hc := hc
    refine c_seq fun K4 hK4 => ?_
    refine c_region ?_
    refine s_pure h (ru_assign (h.ev rfl)) rfl ?_; intro f h
    refine s_nil ?_
    refine hK4 _ _ ?_
    refine wpIn_ret ?_
    refine t_ret ?_
    exact e_tmp rfl h s rfl (by show _ = _; rw [ou_nl (fun e9 => by rw [e9] at hc; simp at hc)])
  · have hl9 : K.length = M.length := by have := hc; simp at this; omega
    refine wpIn_skip ?_
    refine hK2 _ _ ?_
    refine c_seq fun K5 hK5 => ?_
    refine c_seq fun K6 hK6 => ?_
    refine c_region ?_
    refine s_pure h (ru_move (h.ev rfl)) rfl ?_; intro f h
    refine s_pure h (ru_lenZ (hK.1.keep s.ext) Try.underlying28 (h.ev rfl)) rfl ?_; intro f h
    refine s_pure h (ru_move (h.ev rfl)) rfl ?_; intro f h
    refine s_nil ?_
    refine hK6 _ _ ?_
    refine wpIn_block ?_
    refine wpIn_loop_ghost (fun nn aa ww => ∃ k : Nat, Sl 59 aa [(0, va), (1, vb), (13, va), (14, .int .i64 (K.length : Int)), (15, .int .i64 (k : Int))] ∧ St w [] ww ∧ nn = K.length - k ∧ k ≤ K.length ∧ ∀ j, j < k → (K.getD j zO2).1 = (M.getD j zO2).1) (K.length - (0)) ⟨0, h.only ⟨rfl, rfl, rfl, rfl, slot_int rfl (by omega), trivial⟩, s.as trivial, rfl, Nat.zero_le _, fun j hj => absurd hj (Nat.not_lt_zero _)⟩ ?_
    rintro _ f w1 ⟨k, h, s, hnn, hp0, hp1⟩
    refine c_seq fun K7 hK7 => ?_
    refine c_region ?_
    refine s_pure h (ru_lss (h.ev rfl) (h.ev rfl)) rfl ?_; intro f h
    refine s_nil ?_
    refine hK7 _ _ ?_
    refine c_seq fun K8 hK8 => ?_
    refine c_cond h rfl (fun hc => ?_) (fun hc => ?_)
    · replace hc := of_decide_eq_true hc
      refine wpIn_skip ?_
      refine hK8 _ _ ?_
      refine c_seq fun K9 hK9 => ?_
      refine wpIn_block ?_
      refine c_seq fun K10 hK10 => ?_
      refine c_region ?_
      have hkl : k < K.length := by omega
      have hkm : k < M.length := by omega
      refine s_pure h (ru_move (h.ev rfl)) rfl ?_; intro f h
      refine s_pure h (ru_ixz (hK.1.keep s.ext) (k) Try.underlying28 szo46 (h.ev rfl) (h.ev rfl) (by omega) (by omega)) rfl ?_; intro f h
      refine s_load_at ((hK.1.keep s.ext).el (k) (by omega) (by decide) (D := otArr (K.getD k zO2).1.k (K.getD k zO2).1.h (K.getD k zO2).2 (K.getD k zO2).1.p.2.1 (K.getD k zO2).1.p.2.2 (K.getD k zO2).1.t (K.getD k zO2).1.y) (ou_el K k hkl)) h row46 rfl (otArr_size _ _ _ _ _ _ _) rfl ?_; intro f h
      refine s_alloc (otArr 0 0 nilV 0 ByteArray.empty zTg 0) h s zero46 rfl rfl ?_; intro f w1 b6 h s
      refine s_pure h (ru_assign (h.ev rfl)) rfl ?_; intro f h
      refine s_store_row 0 h s row46 rfl rfl rfl (otArr_size _ _ _ _ _ _ _) (otArr_size _ _ _ _ _ _ _) (otArr_ones _ _ _ _ _ _ (rd_one ((hK.2 _ (ou_mem hkl)).keep s.ext))) ?_; intro w1 s
      refine s_nil ?_
      refine hK10 _ _ ?_
      refine c_seq fun K11 hK11 => ?_
      refine c_region ?_
      refine s_pure h (ru_move (h.ev rfl)) rfl ?_; intro f h
      refine s_pure h (ru_move (h.ev rfl)) rfl ?_; intro f h
      refine s_pure h (ru_ixz (hM.1.keep s.ext) (k) Try.underlying28 szo46 (h.ev rfl) (h.ev rfl) (by omega) (by omega)) rfl ?_; intro f h
      refine s_load_at ((hM.1.keep s.ext).el (k) (by omega) (by decide) (D := otArr (M.getD k zO2).1.k (M.getD k zO2).1.h (M.getD k zO2).2 (M.getD k zO2).1.p.2.1 (M.getD k zO2).1.p.2.2 (M.getD k zO2).1.t (M.getD k zO2).1.y) (ou_el M k hkm)) h row46 rfl (otArr_size _ _ _ _ _ _ _) rfl ?_; intro f h
      refine s_alloc (otArr 0 0 nilV 0 ByteArray.empty zTg 0) h s zero46 rfl rfl ?_; intro f w1 b7 h s
      refine s_store_row 0 h s row46 rfl rfl rfl (otArr_size _ _ _ _ _ _ _) (otArr_size _ _ _ _ _ _ _) (otArr_ones _ _ _ _ _ _ (rd_one ((hM.2 _ (ou_mem hkm)).keep s.ext))) ?_; intro w1 s
      refine s_nil ?_
      refine hK11 _ _ ?_
      refine c_seq fun K12 hK12 => ?_
      cases k0 : (decide ((K.getD k zO2).1.k = (M.getD k zO2).1.k) : Bool)
      · skip
        refine c_region ?_
        refine s_pure h (ru_field fld46_0 (h.ev rfl)) rfl ?_; intro f h
        refine s_load_at1 (V := .int .i64 (K.getD k zO2).1.k) (cell_of_has (Has.of_own s 1 rfl) 0 (ot_k _ _ _ _ _ _ _)) h one3 rfl rfl ?_; intro f h
        refine s_pure h (ru_field fld46_0 (h.ev rfl)) rfl ?_; intro f h
        refine s_load_at1 (V := .int .i64 (M.getD k zO2).1.k) (cell_of_has (Has.of_own s 0 rfl) 0 (ot_k _ _ _ _ _ _ _)) h one3 rfl rfl ?_; intro f h
        refine s_pure h (ru_val (.bool true) (ru_neq (h.ev rfl) (h.ev rfl)) (congrArg Value.bool (by simpa using k0))) rfl ?_; intro f h
        refine s_pure h (ru_move (h.ev rfl)) rfl ?_; intro f h
        refine s_off (b := false) h rfl rfl rfl rfl ?_; intro f h
        refine s_off (b := false) h rfl rfl rfl rfl ?_; intro f h
        refine s_off (b := false) h rfl rfl rfl rfl ?_; intro f h
        refine s_off (b := false) h rfl rfl rfl rfl ?_; intro f h
        refine s_off (b := false) h rfl rfl rfl rfl ?_; intro f h
        refine s_pure h (ru_pick_t (h.ev rfl) (h.ev rfl)) rfl ?_; intro f h
        refine s_pure h (ru_move (h.ev rfl)) rfl ?_; intro f h
        refine s_off (b := false) h rfl rfl rfl rfl ?_; intro f h
        refine s_off (b := false) h rfl rfl rfl rfl ?_; intro f h
        refine s_off (b := false) h rfl rfl rfl rfl ?_; intro f h
        refine s_off (b := false) h rfl rfl rfl rfl ?_; intro f h
        refine s_off (b := false) h rfl rfl rfl rfl ?_; intro f h
        refine s_pure h (ru_pick_t (h.ev rfl) (h.ev rfl)) rfl ?_; intro f h
        refine s_pure h (ru_move (h.ev rfl)) rfl ?_; intro f h
        refine s_off (b := false) h rfl rfl rfl rfl ?_; intro f h
        refine s_off (b := false) h rfl rfl rfl rfl ?_; intro f h
        refine s_off (b := false) h rfl rfl rfl rfl ?_; intro f h
        refine s_off (b := false) h rfl rfl rfl rfl ?_; intro f h
        refine s_off (b := false) h rfl rfl rfl rfl ?_; intro f h
        refine s_pure h (ru_pick_t (h.ev rfl) (h.ev rfl)) rfl ?_; intro f h
        refine s_pure h (ru_move (h.ev rfl)) rfl ?_; intro f h
        refine s_off (b := false) h rfl rfl rfl rfl ?_; intro f h
        refine s_off (b := false) h rfl rfl rfl rfl ?_; intro f h
        refine s_off (b := false) h rfl rfl rfl rfl ?_; intro f h
        refine s_off (b := false) h rfl rfl rfl rfl ?_; intro f h
        refine s_off (b := false) h rfl rfl rfl rfl ?_; intro f h
        refine s_off (b := false) h rfl rfl rfl rfl ?_; intro f h
        refine s_pure h (ru_pick_t (h.ev rfl) (h.ev rfl)) rfl ?_; intro f h
        refine s_nil ?_
        refine hK12 _ _ ?_
        refine wpIn_cond_true (h.ev rfl) ?_
        refine c_seq fun K13 hK13 => ?_
        refine c_region ?_
        refine s_pure h (ru_assign (h.ev rfl)) rfl ?_; intro f h
        refine s_nil ?_
        refine hK13 _ _ ?_
        refine wpIn_ret ?_
        refine b_ret ?_
        refine t_ret ?_
        refine t_ret ?_
        refine b_ret ?_
        refine t_ret ?_
        exact e_tmp rfl h s rfl (by show _ = _; rw [ou_no hkl hkm (ot_ne (·.k) k0)])
      · skip
        cases k1 : (decide ((K.getD k zO2).1.h = (M.getD k zO2).1.h) : Bool)
        · skip
          refine c_region ?_
          refine s_pure h (ru_field fld46_0 (h.ev rfl)) rfl ?_; intro f h
          refine s_load_at1 (V := .int .i64 (K.getD k zO2).1.k) (cell_of_has (Has.of_own s 1 rfl) 0 (ot_k _ _ _ _ _ _ _)) h one3 rfl rfl ?_; intro f h
          refine s_pure h (ru_field fld46_0 (h.ev rfl)) rfl ?_; intro f h
          refine s_load_at1 (V := .int .i64 (M.getD k zO2).1.k) (cell_of_has (Has.of_own s 0 rfl) 0 (ot_k _ _ _ _ _ _ _)) h one3 rfl rfl ?_; intro f h
          refine s_pure h (ru_val (.bool false) (ru_neq (h.ev rfl) (h.ev rfl)) (congrArg Value.bool (by simpa using k0))) rfl ?_; intro f h
          refine s_pure h (ru_move (h.ev rfl)) rfl ?_; intro f h
          refine s_on h rfl rfl rfl ?_
          refine s_pure h (ru_field fld46_1 (h.ev rfl)) rfl ?_; intro f h
          refine s_on h rfl rfl rfl ?_
          refine s_load_at1 (V := .int .i64 (K.getD k zO2).1.h) (cell_of_has (Has.of_own s 1 rfl) 1 (ot_h _ _ _ _ _ _ _)) h one3 rfl rfl ?_; intro f h
          refine s_on h rfl rfl rfl ?_
          refine s_pure h (ru_field fld46_1 (h.ev rfl)) rfl ?_; intro f h
          refine s_on h rfl rfl rfl ?_
          refine s_load_at1 (V := .int .i64 (M.getD k zO2).1.h) (cell_of_has (Has.of_own s 0 rfl) 1 (ot_h _ _ _ _ _ _ _)) h one3 rfl rfl ?_; intro f h
          refine s_on h rfl rfl rfl ?_
          refine s_pure h (ru_val (.bool true) (ru_neq (h.ev rfl) (h.ev rfl)) (congrArg Value.bool (by simpa using k1))) rfl ?_; intro f h
          refine s_pure h (ru_pick_f (h.ev rfl) (h.ev rfl)) rfl ?_; intro f h
          refine s_pure h (ru_move (h.ev rfl)) rfl ?_; intro f h
          refine s_off (b := false) h rfl rfl rfl rfl ?_; intro f h
          refine s_off (b := false) h rfl rfl rfl rfl ?_; intro f h
          refine s_off (b := false) h rfl rfl rfl rfl ?_; intro f h
          refine s_off (b := false) h rfl rfl rfl rfl ?_; intro f h
          refine s_off (b := false) h rfl rfl rfl rfl ?_; intro f h
          refine s_pure h (ru_pick_t (h.ev rfl) (h.ev rfl)) rfl ?_; intro f h
          refine s_pure h (ru_move (h.ev rfl)) rfl ?_; intro f h
          refine s_off (b := false) h rfl rfl rfl rfl ?_; intro f h
          refine s_off (b := false) h rfl rfl rfl rfl ?_; intro f h
          refine s_off (b := false) h rfl rfl rfl rfl ?_; intro f h
          refine s_off (b := false) h rfl rfl rfl rfl ?_; intro f h
          refine s_off (b := false) h rfl rfl rfl rfl ?_; intro f h
          refine s_pure h (ru_pick_t (h.ev rfl) (h.ev rfl)) rfl ?_; intro f h
          refine s_pure h (ru_move (h.ev rfl)) rfl ?_; intro f h
          refine s_off (b := false) h rfl rfl rfl rfl ?_; intro f h
          refine s_off (b := false) h rfl rfl rfl rfl ?_; intro f h
          refine s_off (b := false) h rfl rfl rfl rfl ?_; intro f h
          refine s_off (b := false) h rfl rfl rfl rfl ?_; intro f h
          refine s_off (b := false) h rfl rfl rfl rfl ?_; intro f h
          refine s_off (b := false) h rfl rfl rfl rfl ?_; intro f h
          refine s_pure h (ru_pick_t (h.ev rfl) (h.ev rfl)) rfl ?_; intro f h
          refine s_nil ?_
          refine hK12 _ _ ?_
          refine wpIn_cond_true (h.ev rfl) ?_
          refine c_seq fun K14 hK14 => ?_
          refine c_region ?_
          refine s_pure h (ru_assign (h.ev rfl)) rfl ?_; intro f h
          refine s_nil ?_
          refine hK14 _ _ ?_
          refine wpIn_ret ?_
          refine b_ret ?_
          refine t_ret ?_
          refine t_ret ?_
          refine b_ret ?_
          refine t_ret ?_
          exact e_tmp rfl h s rfl (by show _ = _; rw [ou_no hkl hkm (ot_ne (·.h) k1)])
        · skip
          cases k2 : (decide ((K.getD k zO2).1.t = (M.getD k zO2).1.t) : Bool)
          · skip
            refine c_region ?_
            refine s_pure h (ru_field fld46_0 (h.ev rfl)) rfl ?_; intro f h
            refine s_load_at1 (V := .int .i64 (K.getD k zO2).1.k) (cell_of_has (Has.of_own s 1 rfl) 0 (ot_k _ _ _ _ _ _ _)) h one3 rfl rfl ?_; intro f h
            refine s_pure h (ru_field fld46_0 (h.ev rfl)) rfl ?_; intro f h
            refine s_load_at1 (V := .int .i64 (M.getD k zO2).1.k) (cell_of_has (Has.of_own s 0 rfl) 0 (ot_k _ _ _ _ _ _ _)) h one3 rfl rfl ?_; intro f h
            refine s_pure h (ru_val (.bool false) (ru_neq (h.ev rfl) (h.ev rfl)) (congrArg Value.bool (by simpa using k0))) rfl ?_; intro f h
            refine s_pure h (ru_move (h.ev rfl)) rfl ?_; intro f h
            refine s_on h rfl rfl rfl ?_
            refine s_pure h (ru_field fld46_1 (h.ev rfl)) rfl ?_; intro f h
            refine s_on h rfl rfl rfl ?_
            refine s_load_at1 (V := .int .i64 (K.getD k zO2).1.h) (cell_of_has (Has.of_own s 1 rfl) 1 (ot_h _ _ _ _ _ _ _)) h one3 rfl rfl ?_; intro f h
            refine s_on h rfl rfl rfl ?_
            refine s_pure h (ru_field fld46_1 (h.ev rfl)) rfl ?_; intro f h
            refine s_on h rfl rfl rfl ?_
            refine s_load_at1 (V := .int .i64 (M.getD k zO2).1.h) (cell_of_has (Has.of_own s 0 rfl) 1 (ot_h _ _ _ _ _ _ _)) h one3 rfl rfl ?_; intro f h
            refine s_on h rfl rfl rfl ?_
            refine s_pure h (ru_val (.bool false) (ru_neq (h.ev rfl) (h.ev rfl)) (congrArg Value.bool (by simpa using k1))) rfl ?_; intro f h
            refine s_pure h (ru_pick_f (h.ev rfl) (h.ev rfl)) rfl ?_; intro f h
            refine s_pure h (ru_move (h.ev rfl)) rfl ?_; intro f h
            refine s_on h rfl rfl rfl ?_
            refine s_pure h (ru_field fld46_3 (h.ev rfl)) rfl ?_; intro f h
            refine s_on h rfl rfl rfl ?_
            refine s_load_at (Has.subL (Has.of_own s 1 rfl) 5 67 (D := tgArr (K.getD k zO2).1.t) (ot_t _ _ _ _ _ _ _)) h row44 rfl (tgArr_size _) rfl ?_; intro f h
            refine s_on h rfl rfl rfl ?_
            refine s_pure h (ru_field fld46_3 (h.ev rfl)) rfl ?_; intro f h
            refine s_on h rfl rfl rfl ?_
            refine s_load_at (Has.subL (Has.of_own s 0 rfl) 5 67 (D := tgArr (M.getD k zO2).1.t) (ot_t _ _ _ _ _ _ _)) h row44 rfl (tgArr_size _) rfl ?_; intro f h
            refine s_on h rfl rfl rfl ?_
            refine s_pure h (ru_val (.bool true) (ru_neqW (eqG _ _) (by kernel_rfl) (by decide) (h.ev rfl) (h.ev rfl) (decide ((K.getD k zO2).1.t = (M.getD k zO2).1.t)) (tgEq _ _)) (congrArg Value.bool (by simpa using k2))) rfl ?_; intro f h
            refine s_pure h (ru_pick_f (h.ev rfl) (h.ev rfl)) rfl ?_; intro f h
            refine s_pure h (ru_move (h.ev rfl)) rfl ?_; intro f h
            refine s_off (b := false) h rfl rfl rfl rfl ?_; intro f h
            refine s_off (b := false) h rfl rfl rfl rfl ?_; intro f h
            refine s_off (b := false) h rfl rfl rfl rfl ?_; intro f h
            refine s_off (b := false) h rfl rfl rfl rfl ?_; intro f h
            refine s_off (b := false) h rfl rfl rfl rfl ?_; intro f h
            refine s_pure h (ru_pick_t (h.ev rfl) (h.ev rfl)) rfl ?_; intro f h
            refine s_pure h (ru_move (h.ev rfl)) rfl ?_; intro f h
            refine s_off (b := false) h rfl rfl rfl rfl ?_; intro f h
            refine s_off (b := false) h rfl rfl rfl rfl ?_; intro f h
            refine s_off (b := false) h rfl rfl rfl rfl ?_; intro f h
            refine s_off (b := false) h rfl rfl rfl rfl ?_; intro f h
            refine s_off (b := false) h rfl rfl rfl rfl ?_; intro f h
            refine s_off (b := false) h rfl rfl rfl rfl ?_; intro f h
            refine s_pure h (ru_pick_t (h.ev rfl) (h.ev rfl)) rfl ?_; intro f h
            refine s_nil ?_
            refine hK12 _ _ ?_
            refine wpIn_cond_true (h.ev rfl) ?_
            refine c_seq fun K15 hK15 => ?_
            refine c_region ?_
            refine s_pure h (ru_assign (h.ev rfl)) rfl ?_; intro f h
            refine s_nil ?_
            refine hK15 _ _ ?_
            refine wpIn_ret ?_
            refine b_ret ?_
            refine t_ret ?_
            refine t_ret ?_
            refine b_ret ?_
            refine t_ret ?_
            exact e_tmp rfl h s rfl (by show _ = _; rw [ou_no hkl hkm (ot_ne (·.t) k2)])
          · skip
            cases k3 : (decide ((K.getD k zO2).1.y = (M.getD k zO2).1.y) : Bool)
            · skip
              refine c_region ?_
              refine s_pure h (ru_field fld46_0 (h.ev rfl)) rfl ?_; intro f h
              refine s_load_at1 (V := .int .i64 (K.getD k zO2).1.k) (cell_of_has (Has.of_own s 1 rfl) 0 (ot_k _ _ _ _ _ _ _)) h one3 rfl rfl ?_; intro f h
              refine s_pure h (ru_field fld46_0 (h.ev rfl)) rfl ?_; intro f h
              refine s_load_at1 (V := .int .i64 (M.getD k zO2).1.k) (cell_of_has (Has.of_own s 0 rfl) 0 (ot_k _ _ _ _ _ _ _)) h one3 rfl rfl ?_; intro f h
              refine s_pure h (ru_val (.bool false) (ru_neq (h.ev rfl) (h.ev rfl)) (congrArg Value.bool (by simpa using k0))) rfl ?_; intro f h
              refine s_pure h (ru_move (h.ev rfl)) rfl ?_; intro f h
              refine s_on h rfl rfl rfl ?_
              refine s_pure h (ru_field fld46_1 (h.ev rfl)) rfl ?_; intro f h
              refine s_on h rfl rfl rfl ?_
              refine s_load_at1 (V := .int .i64 (K.getD k zO2).1.h) (cell_of_has (Has.of_own s 1 rfl) 1 (ot_h _ _ _ _ _ _ _)) h one3 rfl rfl ?_; intro f h
              refine s_on h rfl rfl rfl ?_
              refine s_pure h (ru_field fld46_1 (h.ev rfl)) rfl ?_; intro f h
              refine s_on h rfl rfl rfl ?_
              refine s_load_at1 (V := .int .i64 (M.getD k zO2).1.h) (cell_of_has (Has.of_own s 0 rfl) 1 (ot_h _ _ _ _ _ _ _)) h one3 rfl rfl ?_; intro f h
              refine s_on h rfl rfl rfl ?_
              refine s_pure h (ru_val (.bool false) (ru_neq (h.ev rfl) (h.ev rfl)) (congrArg Value.bool (by simpa using k1))) rfl ?_; intro f h
              refine s_pure h (ru_pick_f (h.ev rfl) (h.ev rfl)) rfl ?_; intro f h
              refine s_pure h (ru_move (h.ev rfl)) rfl ?_; intro f h
              refine s_on h rfl rfl rfl ?_
              refine s_pure h (ru_field fld46_3 (h.ev rfl)) rfl ?_; intro f h
              refine s_on h rfl rfl rfl ?_
              refine s_load_at (Has.subL (Has.of_own s 1 rfl) 5 67 (D := tgArr (K.getD k zO2).1.t) (ot_t _ _ _ _ _ _ _)) h row44 rfl (tgArr_size _) rfl ?_; intro f h
              refine s_on h rfl rfl rfl ?_
              refine s_pure h (ru_field fld46_3 (h.ev rfl)) rfl ?_; intro f h
              refine s_on h rfl rfl rfl ?_
              refine s_load_at (Has.subL (Has.of_own s 0 rfl) 5 67 (D := tgArr (M.getD k zO2).1.t) (ot_t _ _ _ _ _ _ _)) h row44 rfl (tgArr_size _) rfl ?_; intro f h
              refine s_on h rfl rfl rfl ?_
              refine s_pure h (ru_val (.bool false) (ru_neqW (eqG _ _) (by kernel_rfl) (by decide) (h.ev rfl) (h.ev rfl) (decide ((K.getD k zO2).1.t = (M.getD k zO2).1.t)) (tgEq _ _)) (congrArg Value.bool (by simpa using k2))) rfl ?_; intro f h
              refine s_pure h (ru_pick_f (h.ev rfl) (h.ev rfl)) rfl ?_; intro f h
              refine s_pure h (ru_move (h.ev rfl)) rfl ?_; intro f h
              refine s_on h rfl rfl rfl ?_
              refine s_pure h (ru_field fld46_4 (h.ev rfl)) rfl ?_; intro f h
              refine s_on h rfl rfl rfl ?_
              refine s_load_at1 (V := .int .i64 (K.getD k zO2).1.y) (cell_of_has (Has.of_own s 1 rfl) 72 (ot_y _ _ _ _ _ _ _)) h one29 rfl rfl ?_; intro f h
              refine s_on h rfl rfl rfl ?_
              refine s_pure h (ru_field fld46_4 (h.ev rfl)) rfl ?_; intro f h
              refine s_on h rfl rfl rfl ?_
              refine s_load_at1 (V := .int .i64 (M.getD k zO2).1.y) (cell_of_has (Has.of_own s 0 rfl) 72 (ot_y _ _ _ _ _ _ _)) h one29 rfl rfl ?_; intro f h
              refine s_on h rfl rfl rfl ?_
              refine s_pure h (ru_val (.bool true) (ru_neq (h.ev rfl) (h.ev rfl)) (congrArg Value.bool (by simpa using k3))) rfl ?_; intro f h
              refine s_pure h (ru_pick_f (h.ev rfl) (h.ev rfl)) rfl ?_; intro f h
              refine s_pure h (ru_move (h.ev rfl)) rfl ?_; intro f h
              refine s_off (b := false) h rfl rfl rfl rfl ?_; intro f h
              refine s_off (b := false) h rfl rfl rfl rfl ?_; intro f h
              refine s_off (b := false) h rfl rfl rfl rfl ?_; intro f h
              refine s_off (b := false) h rfl rfl rfl rfl ?_; intro f h
              refine s_off (b := false) h rfl rfl rfl rfl ?_; intro f h
              refine s_off (b := false) h rfl rfl rfl rfl ?_; intro f h
              refine s_pure h (ru_pick_t (h.ev rfl) (h.ev rfl)) rfl ?_; intro f h
              refine s_nil ?_
              refine hK12 _ _ ?_
              refine wpIn_cond_true (h.ev rfl) ?_
              refine c_seq fun K16 hK16 => ?_
              refine c_region ?_
              refine s_pure h (ru_assign (h.ev rfl)) rfl ?_; intro f h
              refine s_nil ?_
              refine hK16 _ _ ?_
              refine wpIn_ret ?_
              refine b_ret ?_
              refine t_ret ?_
              refine t_ret ?_
              refine b_ret ?_
              refine t_ret ?_
              exact e_tmp rfl h s rfl (by show _ = _; rw [ou_no hkl hkm (ot_ne (·.y) k3)])
            · skip
              cases k4 : (decide ((K.getD k zO2).1.p = (M.getD k zO2).1.p) : Bool)
              · skip
                refine c_region ?_
                refine s_pure h (ru_field fld46_0 (h.ev rfl)) rfl ?_; intro f h
                refine s_load_at1 (V := .int .i64 (K.getD k zO2).1.k) (cell_of_has (Has.of_own s 1 rfl) 0 (ot_k _ _ _ _ _ _ _)) h one3 rfl rfl ?_; intro f h
                refine s_pure h (ru_field fld46_0 (h.ev rfl)) rfl ?_; intro f h
                refine s_load_at1 (V := .int .i64 (M.getD k zO2).1.k) (cell_of_has (Has.of_own s 0 rfl) 0 (ot_k _ _ _ _ _ _ _)) h one3 rfl rfl ?_; intro f h
                refine s_pure h (ru_val (.bool false) (ru_neq (h.ev rfl) (h.ev rfl)) (congrArg Value.bool (by simpa using k0))) rfl ?_; intro f h
                refine s_pure h (ru_move (h.ev rfl)) rfl ?_; intro f h
                refine s_on h rfl rfl rfl ?_
                refine s_pure h (ru_field fld46_1 (h.ev rfl)) rfl ?_; intro f h
                refine s_on h rfl rfl rfl ?_
                refine s_load_at1 (V := .int .i64 (K.getD k zO2).1.h) (cell_of_has (Has.of_own s 1 rfl) 1 (ot_h _ _ _ _ _ _ _)) h one3 rfl rfl ?_; intro f h
                refine s_on h rfl rfl rfl ?_
                refine s_pure h (ru_field fld46_1 (h.ev rfl)) rfl ?_; intro f h
                refine s_on h rfl rfl rfl ?_
                refine s_load_at1 (V := .int .i64 (M.getD k zO2).1.h) (cell_of_has (Has.of_own s 0 rfl) 1 (ot_h _ _ _ _ _ _ _)) h one3 rfl rfl ?_; intro f h
                refine s_on h rfl rfl rfl ?_
                refine s_pure h (ru_val (.bool false) (ru_neq (h.ev rfl) (h.ev rfl)) (congrArg Value.bool (by simpa using k1))) rfl ?_; intro f h
                refine s_pure h (ru_pick_f (h.ev rfl) (h.ev rfl)) rfl ?_; intro f h
                refine s_pure h (ru_move (h.ev rfl)) rfl ?_; intro f h
                refine s_on h rfl rfl rfl ?_
                refine s_pure h (ru_field fld46_3 (h.ev rfl)) rfl ?_; intro f h
                refine s_on h rfl rfl rfl ?_
                refine s_load_at (Has.subL (Has.of_own s 1 rfl) 5 67 (D := tgArr (K.getD k zO2).1.t) (ot_t _ _ _ _ _ _ _)) h row44 rfl (tgArr_size _) rfl ?_; intro f h
                refine s_on h rfl rfl rfl ?_
                refine s_pure h (ru_field fld46_3 (h.ev rfl)) rfl ?_; intro f h
                refine s_on h rfl rfl rfl ?_
                refine s_load_at (Has.subL (Has.of_own s 0 rfl) 5 67 (D := tgArr (M.getD k zO2).1.t) (ot_t _ _ _ _ _ _ _)) h row44 rfl (tgArr_size _) rfl ?_; intro f h
                refine s_on h rfl rfl rfl ?_
                refine s_pure h (ru_val (.bool false) (ru_neqW (eqG _ _) (by kernel_rfl) (by decide) (h.ev rfl) (h.ev rfl) (decide ((K.getD k zO2).1.t = (M.getD k zO2).1.t)) (tgEq _ _)) (congrArg Value.bool (by simpa using k2))) rfl ?_; intro f h
                refine s_pure h (ru_pick_f (h.ev rfl) (h.ev rfl)) rfl ?_; intro f h
                refine s_pure h (ru_move (h.ev rfl)) rfl ?_; intro f h
                refine s_on h rfl rfl rfl ?_
                refine s_pure h (ru_field fld46_4 (h.ev rfl)) rfl ?_; intro f h
                refine s_on h rfl rfl rfl ?_
                refine s_load_at1 (V := .int .i64 (K.getD k zO2).1.y) (cell_of_has (Has.of_own s 1 rfl) 72 (ot_y _ _ _ _ _ _ _)) h one29 rfl rfl ?_; intro f h
                refine s_on h rfl rfl rfl ?_
                refine s_pure h (ru_field fld46_4 (h.ev rfl)) rfl ?_; intro f h
                refine s_on h rfl rfl rfl ?_
                refine s_load_at1 (V := .int .i64 (M.getD k zO2).1.y) (cell_of_has (Has.of_own s 0 rfl) 72 (ot_y _ _ _ _ _ _ _)) h one29 rfl rfl ?_; intro f h
                refine s_on h rfl rfl rfl ?_
                refine s_pure h (ru_val (.bool false) (ru_neq (h.ev rfl) (h.ev rfl)) (congrArg Value.bool (by simpa using k3))) rfl ?_; intro f h
                refine s_pure h (ru_pick_f (h.ev rfl) (h.ev rfl)) rfl ?_; intro f h
                refine s_pure h (ru_move (h.ev rfl)) rfl ?_; intro f h
                refine s_on h rfl rfl rfl ?_
                refine s_pure h (ru_field fld46_2 (h.ev rfl)) rfl ?_; intro f h
                refine s_on h rfl rfl rfl ?_
                refine s_load_at (Has.subL (Has.of_own s 1 rfl) 2 3 (D := pkArr (K.getD k zO2).2 (K.getD k zO2).1.p.2.1 (K.getD k zO2).1.p.2.2) (ot_p _ _ _ _ _ _ _)) h row25 rfl (pkArr_size _ _ _) rfl ?_; intro f h
                refine s_on h rfl rfl rfl ?_
                refine s_pure h (ru_field fld46_2 (h.ev rfl)) rfl ?_; intro f h
                refine s_on h rfl rfl rfl ?_
                refine s_load_at (Has.subL (Has.of_own s 0 rfl) 2 3 (D := pkArr (M.getD k zO2).2 (M.getD k zO2).1.p.2.1 (M.getD k zO2).1.p.2.2) (ot_p _ _ _ _ _ _ _)) h row25 rfl (pkArr_size _ _ _) rfl ?_; intro f h
                refine s_on h rfl rfl rfl ?_
                refine s_call h s fnc13 (ret_val (.bool false) (rsamep_any (K.getD k zO2).1.p (M.getD k zO2).1.p (K.getD k zO2).2 (M.getD k zO2).2 _ ((hK.2 _ (ou_mem hkl)).keep s.ext) ((hM.2 _ (ou_mem hkm)).keep s.ext) (hKs _ (ou_mem hkl)) (hMs _ (ou_mem hkm))) (congrArg Value.bool k4)) rfl rfl ?_; intro f w1 v9 hT hE h s; obtain rfl := hT
                refine s_on h rfl rfl rfl ?_
                refine s_pure h (ru_val (.bool true) (ru_not (h.ev rfl)) rfl) rfl ?_; intro f h
                refine s_pure h (ru_pick_f (h.ev rfl) (h.ev rfl)) rfl ?_; intro f h
                refine s_nil ?_
                refine hK12 _ _ ?_
                refine wpIn_cond_true (h.ev rfl) ?_
                refine c_seq fun K17 hK17 => ?_
                refine c_region ?_
                refine s_pure h (ru_assign (h.ev rfl)) rfl ?_; intro f h
                refine s_nil ?_
                refine hK17 _ _ ?_
                refine wpIn_ret ?_
                refine b_ret ?_
                refine t_ret ?_
                refine t_ret ?_
                refine b_ret ?_
                refine t_ret ?_
                exact e_tmp rfl h s rfl (by show _ = _; rw [ou_no hkl hkm (ot_ne (·.p) k4)])
              · skip
                refine c_region ?_
                refine s_pure h (ru_field fld46_0 (h.ev rfl)) rfl ?_; intro f h
                refine s_load_at1 (V := .int .i64 (K.getD k zO2).1.k) (cell_of_has (Has.of_own s 1 rfl) 0 (ot_k _ _ _ _ _ _ _)) h one3 rfl rfl ?_; intro f h
                refine s_pure h (ru_field fld46_0 (h.ev rfl)) rfl ?_; intro f h
                refine s_load_at1 (V := .int .i64 (M.getD k zO2).1.k) (cell_of_has (Has.of_own s 0 rfl) 0 (ot_k _ _ _ _ _ _ _)) h one3 rfl rfl ?_; intro f h
                refine s_pure h (ru_val (.bool false) (ru_neq (h.ev rfl) (h.ev rfl)) (congrArg Value.bool (by simpa using k0))) rfl ?_; intro f h
                refine s_pure h (ru_move (h.ev rfl)) rfl ?_; intro f h
                refine s_on h rfl rfl rfl ?_
                refine s_pure h (ru_field fld46_1 (h.ev rfl)) rfl ?_; intro f h
                refine s_on h rfl rfl rfl ?_
                refine s_load_at1 (V := .int .i64 (K.getD k zO2).1.h) (cell_of_has (Has.of_own s 1 rfl) 1 (ot_h _ _ _ _ _ _ _)) h one3 rfl rfl ?_; intro f h
                refine s_on h rfl rfl rfl ?_
                refine s_pure h (ru_field fld46_1 (h.ev rfl)) rfl ?_; intro f h
                refine s_on h rfl rfl rfl ?_
                refine s_load_at1 (V := .int .i64 (M.getD k zO2).1.h) (cell_of_has (Has.of_own s 0 rfl) 1 (ot_h _ _ _ _ _ _ _)) h one3 rfl rfl ?_; intro f h
                refine s_on h rfl rfl rfl ?_
                refine s_pure h (ru_val (.bool false) (ru_neq (h.ev rfl) (h.ev rfl)) (congrArg Value.bool (by simpa using k1))) rfl ?_; intro f h
                refine s_pure h (ru_pick_f (h.ev rfl) (h.ev rfl)) rfl ?_; intro f h
                refine s_pure h (ru_move (h.ev rfl)) rfl ?_; intro f h
                refine s_on h rfl rfl rfl ?_
                refine s_pure h (ru_field fld46_3 (h.ev rfl)) rfl ?_; intro f h
                refine s_on h rfl rfl rfl ?_
                refine s_load_at (Has.subL (Has.of_own s 1 rfl) 5 67 (D := tgArr (K.getD k zO2).1.t) (ot_t _ _ _ _ _ _ _)) h row44 rfl (tgArr_size _) rfl ?_; intro f h
                refine s_on h rfl rfl rfl ?_
                refine s_pure h (ru_field fld46_3 (h.ev rfl)) rfl ?_; intro f h
                refine s_on h rfl rfl rfl ?_
                refine s_load_at (Has.subL (Has.of_own s 0 rfl) 5 67 (D := tgArr (M.getD k zO2).1.t) (ot_t _ _ _ _ _ _ _)) h row44 rfl (tgArr_size _) rfl ?_; intro f h
                refine s_on h rfl rfl rfl ?_
                refine s_pure h (ru_val (.bool false) (ru_neqW (eqG _ _) (by kernel_rfl) (by decide) (h.ev rfl) (h.ev rfl) (decide ((K.getD k zO2).1.t = (M.getD k zO2).1.t)) (tgEq _ _)) (congrArg Value.bool (by simpa using k2))) rfl ?_; intro f h
                refine s_pure h (ru_pick_f (h.ev rfl) (h.ev rfl)) rfl ?_; intro f h
                refine s_pure h (ru_move (h.ev rfl)) rfl ?_; intro f h
                refine s_on h rfl rfl rfl ?_
                refine s_pure h (ru_field fld46_4 (h.ev rfl)) rfl ?_; intro f h
                refine s_on h rfl rfl rfl ?_
                refine s_load_at1 (V := .int .i64 (K.getD k zO2).1.y) (cell_of_has (Has.of_own s 1 rfl) 72 (ot_y _ _ _ _ _ _ _)) h one29 rfl rfl ?_; intro f h
                refine s_on h rfl rfl rfl ?_
                refine s_pure h (ru_field fld46_4 (h.ev rfl)) rfl ?_; intro f h
                refine s_on h rfl rfl rfl ?_
                refine s_load_at1 (V := .int .i64 (M.getD k zO2).1.y) (cell_of_has (Has.of_own s 0 rfl) 72 (ot_y _ _ _ _ _ _ _)) h one29 rfl rfl ?_; intro f h
                refine s_on h rfl rfl rfl ?_
                refine s_pure h (ru_val (.bool false) (ru_neq (h.ev rfl) (h.ev rfl)) (congrArg Value.bool (by simpa using k3))) rfl ?_; intro f h
                refine s_pure h (ru_pick_f (h.ev rfl) (h.ev rfl)) rfl ?_; intro f h
                refine s_pure h (ru_move (h.ev rfl)) rfl ?_; intro f h
                refine s_on h rfl rfl rfl ?_
                refine s_pure h (ru_field fld46_2 (h.ev rfl)) rfl ?_; intro f h
                refine s_on h rfl rfl rfl ?_
                refine s_load_at (Has.subL (Has.of_own s 1 rfl) 2 3 (D := pkArr (K.getD k zO2).2 (K.getD k zO2).1.p.2.1 (K.getD k zO2).1.p.2.2) (ot_p _ _ _ _ _ _ _)) h row25 rfl (pkArr_size _ _ _) rfl ?_; intro f h
                refine s_on h rfl rfl rfl ?_
                refine s_pure h (ru_field fld46_2 (h.ev rfl)) rfl ?_; intro f h
                refine s_on h rfl rfl rfl ?_
                refine s_load_at (Has.subL (Has.of_own s 0 rfl) 2 3 (D := pkArr (M.getD k zO2).2 (M.getD k zO2).1.p.2.1 (M.getD k zO2).1.p.2.2) (ot_p _ _ _ _ _ _ _)) h row25 rfl (pkArr_size _ _ _) rfl ?_; intro f h
                refine s_on h rfl rfl rfl ?_
                refine s_call h s fnc13 (ret_val (.bool true) (rsamep_any (K.getD k zO2).1.p (M.getD k zO2).1.p (K.getD k zO2).2 (M.getD k zO2).2 _ ((hK.2 _ (ou_mem hkl)).keep s.ext) ((hM.2 _ (ou_mem hkm)).keep s.ext) (hKs _ (ou_mem hkl)) (hMs _ (ou_mem hkm))) (congrArg Value.bool k4)) rfl rfl ?_; intro f w1 v9 hT hE h s; obtain rfl := hT
                refine s_on h rfl rfl rfl ?_
                refine s_pure h (ru_val (.bool false) (ru_not (h.ev rfl)) rfl) rfl ?_; intro f h
                refine s_pure h (ru_pick_f (h.ev rfl) (h.ev rfl)) rfl ?_; intro f h
                refine s_nil ?_
                refine hK12 _ _ ?_
                refine wpIn_cond_false (h.ev rfl) ?_
                refine wpIn_skip ?_
                refine b_norm ?_
                refine hK9 _ _ ?_
                refine c_region ?_
                refine s_pure h (ru_add (h.ev rfl) (h.ev rfl) (by omega)) rfl ?_; intro f h
                refine s_pure h (ru_move (h.ev rfl)) rfl ?_; intro f h
                refine s_nil ?_
                refine t_norm ?_
                exact ⟨_, by omega, ⟨k + 1, h.only ⟨rfl, rfl, rfl, rfl, slot_int rfl (by omega), trivial⟩, St.as (s.pick _ (List.sublist_append_right [_, _] _)) trivial, rfl, by omega, ou_next hp1 (ot_eq k0 k1 k2 k3 k4)⟩⟩
    · replace hc := of_decide_eq_false hc
      refine wpIn_exit ?_
      refine t_exit ?_
      refine t_exit ?_
      refine b_exit ?_
      refine hK5 _ _ ?_
      refine c_seq fun K18 hK18 => ?_
      refine c_region ?_
      refine s_pure h (ru_assign (h.ev rfl)) rfl ?_; intro f h
      refine s_nil ?_
      refine hK18 _ _ ?_
      refine wpIn_ret ?_
      exact e_tmp rfl h s rfl (by show _ = _; rw [ou_yes hl9 fun j hj => hp1 j (by omega)])
end Go.Proofs.Ythnmonfhanbghaa
