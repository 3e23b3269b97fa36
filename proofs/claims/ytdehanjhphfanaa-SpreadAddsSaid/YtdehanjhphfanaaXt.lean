/- How package table compares triggers, which tables may be, and which triggers match. -/
import Derived.Test.YtdehanjhphfanaaVi
set_option linter.unusedVariables false
set_option linter.unusedSimpArgs false
set_option linter.unusedSectionVars false
namespace Go.Proofs.Ytdehanjhphfanaa
open Go.RowKit
theorem iNaN_any (x : Int) (w : World) : Calls Try.prog 86 [.int .i64 x].toArray w (Ret w (is (.bool false))) := by
  refine c_enter Try.func86 rfl Try.ntmps86 rfl [(0, .int .i64 x)] (by simp) fun f h => ?_
  have s := St.start w
  refine c_seq fun K1 hK1 => ?_
  refine c_region ?_
  refine s_pure h (ru_assign (h.ev rfl)) rfl ?_; intro f h
  refine s_nil ?_
  refine hK1 _ _ ?_
  refine c_seq fun K2 hK2 => ?_
  refine c_region ?_
  refine s_pure h (ru_move (h.ev rfl)) rfl ?_; intro f h
  refine s_pure h (ru_move (h.ev rfl)) rfl ?_; intro f h
  refine s_pure h (ru_val (.bool false) (ru_neq (h.ev rfl) (h.ev rfl)) (by simp)) rfl ?_; intro f h
  refine s_pure h (ru_assign (h.ev rfl)) rfl ?_; intro f h
  refine s_nil ?_
  refine hK2 _ _ ?_
  refine wpIn_ret ?_
  exact e_tmp rfl h s rfl (rfl)

theorem icmp_any (x y : Int) (w : World) : Calls Try.prog 80 [.int .i64 x, .int .i64 y].toArray w (Ret w (is (.int .i64 (cmpInt x y)))) := by
  refine c_enter Try.func80 rfl Try.ntmps80 rfl [(0, .int .i64 x), (1, .int .i64 y)] (by simp) fun f h => ?_
  have s := St.start w
  refine c_seq fun K1 hK1 => ?_
  refine c_region ?_
  refine s_pure h (ru_assign (h.ev rfl)) rfl ?_; intro f h
  refine s_nil ?_
  refine hK1 _ _ ?_
  refine c_seq fun K2 hK2 => ?_
  refine c_region ?_
  refine s_pure h (ru_move (h.ev rfl)) rfl ?_; intro f h
  refine s_call h s fnc86 (iNaN_any _ _) rfl rfl ?_; intro f w1 v9 hT hE h s; obtain rfl := hT
  refine s_pure h (ru_assign (h.ev rfl)) rfl ?_; intro f h
  refine s_nil ?_
  refine hK2 _ _ ?_
  refine c_seq fun K3 hK3 => ?_
  refine c_region ?_
  refine s_pure h (ru_move (h.ev rfl)) rfl ?_; intro f h
  refine s_call h s fnc86 (iNaN_any _ _) rfl rfl ?_; intro f w1 v9 hT hE h s; obtain rfl := hT
  refine s_pure h (ru_assign (h.ev rfl)) rfl ?_; intro f h
  refine s_nil ?_
  refine hK3 _ _ ?_
  refine c_seq fun K4 hK4 => ?_
  refine c_seq fun K5 hK5 => ?_
  refine c_region ?_
  refine s_pure h (ru_move (h.ev rfl)) rfl ?_; intro f h
  refine s_nil ?_
  refine hK5 _ _ ?_
  refine wpIn_cond_false (h.ev rfl) ?_
  refine wpIn_skip ?_
  refine hK4 _ _ ?_
  refine c_seq fun K6 hK6 => ?_
  refine c_seq fun K7 hK7 => ?_
  refine c_region ?_
  refine s_pure h (ru_move (h.ev rfl)) rfl ?_; intro f h
  refine s_nil ?_
  refine hK7 _ _ ?_
  refine wpIn_cond_false (h.ev rfl) ?_
  refine wpIn_skip ?_
  refine hK6 _ _ ?_
  refine c_seq fun K8 hK8 => ?_
  refine c_seq fun K9 hK9 => ?_
  refine c_region ?_
  refine s_pure h (ru_move (h.ev rfl)) rfl ?_; intro f h
  refine s_pure h (ru_move (h.ev rfl)) rfl ?_; intro f h
  refine s_pure h (ru_lss (h.ev rfl) (h.ev rfl)) rfl ?_; intro f h
  refine s_nil ?_
  refine hK9 _ _ ?_
  refine c_cond h rfl (fun hc => ?_) (fun hc => ?_)
  · have hc := of_decide_eq_true hc
    refine c_seq fun K10 hK10 => ?_
    refine c_region ?_
    refine s_pure h (ru_assign (h.ev rfl)) rfl ?_; intro f h
    refine s_nil ?_
    refine hK10 _ _ ?_
    refine wpIn_ret ?_
    refine t_ret ?_
    exact e_tmp rfl h s rfl (by show _ = _; unfold cmpInt; rw [if_pos hc])
  · have hc1 := of_decide_eq_false hc
    refine wpIn_skip ?_
    refine hK8 _ _ ?_
    refine c_seq fun K11 hK11 => ?_
    refine c_seq fun K12 hK12 => ?_
    refine c_region ?_
    refine s_pure h (ru_move (h.ev rfl)) rfl ?_; intro f h
    refine s_pure h (ru_move (h.ev rfl)) rfl ?_; intro f h
    refine s_pure h (ru_gtr (h.ev rfl) (h.ev rfl)) rfl ?_; intro f h
    refine s_nil ?_
    refine hK12 _ _ ?_
    refine c_cond h rfl (fun hc => ?_) (fun hc => ?_)
    · replace hc := of_decide_eq_true hc
      refine c_seq fun K13 hK13 => ?_
      refine c_region ?_
      refine s_pure h (ru_assign (h.ev rfl)) rfl ?_; intro f h
      refine s_nil ?_
      refine hK13 _ _ ?_
      refine wpIn_ret ?_
      refine t_ret ?_
      exact e_tmp rfl h s rfl (by show _ = _; unfold cmpInt; rw [if_neg (by omega), if_pos (by omega)])
    · replace hc := of_decide_eq_false hc
      refine wpIn_skip ?_
      refine hK11 _ _ ?_
      refine c_seq fun K14 hK14 => ?_
      refine c_region ?_
      refine s_pure h (ru_assign (h.ev rfl)) rfl ?_; intro f h
      refine s_nil ?_
      refine hK14 _ _ ?_
      refine wpIn_ret ?_
      exact e_tmp rfl h s rfl (by show _ = _; unfold cmpInt; rw [if_neg (by omega), if_neg (by omega)])

theorem is_any (e : Ent) (w : World) : Calls Try.prog 64 [.agg (eArr e)].toArray w (Ret w (is (.bool (isE e)))) := by
  refine c_enter Try.func64 rfl Try.ntmps64 rfl [(0, .agg (eArr e))] (by simp) fun f h => ?_
  have s := St.start w
  refine c_seq fun K1 hK1 => ?_
  refine c_region ?_
  refine s_box (eArr e) h s rfl rfl rfl ?_; intro f w1 b1 h s
  refine s_pure h (ru_assign (h.ev rfl)) rfl ?_; intro f h
  refine s_nil ?_
  refine hK1 _ _ ?_
  refine c_seq fun K2 hK2 => ?_
  refine c_seq fun K3 hK3 => ?_
  refine c_region ?_
  refine s_pure h (ru_field fld53_0 (h.ev rfl)) rfl ?_; intro f h
  refine s_load_at1 (cell_of_has (Has.of_own s 0 rfl) 0 (eArr_kind _)) h one3 rfl rfl ?_; intro f h
  refine s_nil ?_
  refine hK3 _ _ ?_
  refine wpIn_block ?_
  refine c_seq fun K4 hK4 => ?_
  refine c_region ?_
  refine s_pure h (ru_eql (h.ev rfl) (h.ev rfl)) rfl ?_; intro f h
  refine s_pure h (ru_assign (h.ev rfl)) rfl ?_; intro f h
  refine s_nil ?_
  refine hK4 _ _ ?_
  refine c_cond h rfl (fun hc => ?_) (fun hc => ?_)
  · replace hc := of_decide_eq_true hc
    refine c_seq fun K5 hK5 => ?_
    refine c_region ?_
    refine s_pure h (ru_field fld53_2 (h.ev rfl)) rfl ?_; intro f h
    refine s_load_at1 (cell_of_has (Has.of_own s 0 rfl) 33 (eArr_host _)) h one3 rfl rfl ?_; intro f h
    refine s_pure h (ru_eql (h.ev rfl) (h.ev rfl)) rfl ?_; intro f h
    refine s_pure h (ru_assign (h.ev rfl)) rfl ?_; intro f h
    refine s_nil ?_
    refine hK5 _ _ ?_
    refine wpIn_ret ?_
    refine b_ret ?_
    refine t_ret ?_
    exact e_tmp rfl h s rfl (by show _ = _; rw [isE_one _ hc])
  · replace hc := of_decide_eq_false hc
    have hk := hc
    refine c_seq fun K6 hK6 => ?_
    refine c_region ?_
    refine s_pure h (ru_eql (h.ev rfl) (h.ev rfl)) rfl ?_; intro f h
    refine s_pure h (ru_assign (h.ev rfl)) rfl ?_; intro f h
    refine s_nil ?_
    refine hK6 _ _ ?_
    refine c_cond h rfl (fun hc => ?_) (fun hc => ?_)
    · replace hc := of_decide_eq_true hc
      refine c_seq fun K7 hK7 => ?_
      cases hz : (decide (e.2.1 = 0#256) : Bool)
      · skip
        refine c_region ?_
        refine s_pure h (ru_field fld53_1 (h.ev rfl)) rfl ?_; intro f h
        refine s_load_at (Has.subL (Has.of_own s 0 rfl) 1 32 (D := idArr (_)) (eArr_id _)) h row42 rfl (by first | exact idArr_size _ | exact bytesF_size _ _) rfl ?_; intro f h
        refine s_pure h (ru_build0 idTy) rfl ?_; intro f h
        refine s_pure h (ru_val (.bool false) (ru_eql_id idTy (h.ev rfl) (h.ev rfl)) (congrArg Value.bool hz)) rfl ?_; intro f h
        refine s_pure h (ru_move (h.ev rfl)) rfl ?_; intro f h
        refine s_off (b := true) h rfl rfl rfl rfl ?_; intro f h
        refine s_off (b := true) h rfl rfl rfl rfl ?_; intro f h
        refine s_off (b := true) h rfl rfl rfl rfl ?_; intro f h
        refine s_pure h (ru_pick_f (h.ev rfl) (h.ev rfl)) rfl ?_; intro f h
        refine s_pure h (ru_move (h.ev rfl)) rfl ?_; intro f h
        refine s_off (b := true) h rfl rfl rfl rfl ?_; intro f h
        refine s_off (b := true) h rfl rfl rfl rfl ?_; intro f h
        refine s_off (b := true) h rfl rfl rfl rfl ?_; intro f h
        refine s_pure h (ru_pick_f (h.ev rfl) (h.ev rfl)) rfl ?_; intro f h
        refine s_pure h (ru_assign (h.ev rfl)) rfl ?_; intro f h
        refine s_nil ?_
        refine hK7 _ _ ?_
        refine wpIn_ret ?_
        refine b_ret ?_
        refine t_ret ?_
        exact e_tmp rfl h s rfl (by show _ = _; rw [isE_two _ hc, hz]; rfl)
      · skip
        cases hg : (decide (0 ≤ e.2.2) : Bool)
        · skip
          refine c_region ?_
          refine s_pure h (ru_field fld53_1 (h.ev rfl)) rfl ?_; intro f h
          refine s_load_at (Has.subL (Has.of_own s 0 rfl) 1 32 (D := idArr (_)) (eArr_id _)) h row42 rfl (by first | exact idArr_size _ | exact bytesF_size _ _) rfl ?_; intro f h
          refine s_pure h (ru_build0 idTy) rfl ?_; intro f h
          refine s_pure h (ru_val (.bool true) (ru_eql_id idTy (h.ev rfl) (h.ev rfl)) (congrArg Value.bool hz)) rfl ?_; intro f h
          refine s_pure h (ru_move (h.ev rfl)) rfl ?_; intro f h
          refine s_on h rfl rfl rfl ?_
          refine s_pure h (ru_field fld53_2 (h.ev rfl)) rfl ?_; intro f h
          refine s_on h rfl rfl rfl ?_
          refine s_load_at1 (cell_of_has (Has.of_own s 0 rfl) 33 (eArr_host _)) h one3 rfl rfl ?_; intro f h
          refine s_on h rfl rfl rfl ?_
          refine s_pure h (ru_val (.bool false) (ru_geq (h.ev rfl) (h.ev rfl)) (congrArg Value.bool hg)) rfl ?_; intro f h
          refine s_pure h (ru_pick_t (h.ev rfl) (h.ev rfl)) rfl ?_; intro f h
          refine s_pure h (ru_move (h.ev rfl)) rfl ?_; intro f h
          refine s_off (b := true) h rfl rfl rfl rfl ?_; intro f h
          refine s_off (b := true) h rfl rfl rfl rfl ?_; intro f h
          refine s_off (b := true) h rfl rfl rfl rfl ?_; intro f h
          refine s_pure h (ru_pick_f (h.ev rfl) (h.ev rfl)) rfl ?_; intro f h
          refine s_pure h (ru_assign (h.ev rfl)) rfl ?_; intro f h
          refine s_nil ?_
          refine hK7 _ _ ?_
          refine wpIn_ret ?_
          refine b_ret ?_
          refine t_ret ?_
          exact e_tmp rfl h s rfl (by show _ = _; rw [isE_two _ hc, hz, hg]; rfl)
        · skip
          refine c_region ?_
          refine s_pure h (ru_field fld53_1 (h.ev rfl)) rfl ?_; intro f h
          refine s_load_at (Has.subL (Has.of_own s 0 rfl) 1 32 (D := idArr (_)) (eArr_id _)) h row42 rfl (by first | exact idArr_size _ | exact bytesF_size _ _) rfl ?_; intro f h
          refine s_pure h (ru_build0 idTy) rfl ?_; intro f h
          refine s_pure h (ru_val (.bool true) (ru_eql_id idTy (h.ev rfl) (h.ev rfl)) (congrArg Value.bool hz)) rfl ?_; intro f h
          refine s_pure h (ru_move (h.ev rfl)) rfl ?_; intro f h
          refine s_on h rfl rfl rfl ?_
          refine s_pure h (ru_field fld53_2 (h.ev rfl)) rfl ?_; intro f h
          refine s_on h rfl rfl rfl ?_
          refine s_load_at1 (cell_of_has (Has.of_own s 0 rfl) 33 (eArr_host _)) h one3 rfl rfl ?_; intro f h
          refine s_on h rfl rfl rfl ?_
          refine s_pure h (ru_val (.bool true) (ru_geq (h.ev rfl) (h.ev rfl)) (congrArg Value.bool hg)) rfl ?_; intro f h
          refine s_pure h (ru_pick_t (h.ev rfl) (h.ev rfl)) rfl ?_; intro f h
          refine s_pure h (ru_move (h.ev rfl)) rfl ?_; intro f h
          refine s_on h rfl rfl rfl ?_
          refine s_pure h (ru_field fld53_2 (h.ev rfl)) rfl ?_; intro f h
          refine s_on h rfl rfl rfl ?_
          refine s_load_at1 (cell_of_has (Has.of_own s 0 rfl) 33 (eArr_host _)) h one3 rfl rfl ?_; intro f h
          refine s_on h rfl rfl rfl ?_
          refine s_pure h (ru_lss (h.ev rfl) (h.ev rfl)) rfl ?_; intro f h
          refine s_pure h (ru_pick_t (h.ev rfl) (h.ev rfl)) rfl ?_; intro f h
          refine s_pure h (ru_assign (h.ev rfl)) rfl ?_; intro f h
          refine s_nil ?_
          refine hK7 _ _ ?_
          refine wpIn_ret ?_
          refine b_ret ?_
          refine t_ret ?_
          exact e_tmp rfl h s rfl (by show _ = _; rw [isE_two _ hc, hz, hg]; rfl)
    · replace hc := of_decide_eq_false hc
      refine wpIn_skip ?_
      refine b_norm ?_
      refine hK2 _ _ ?_
      refine c_seq fun K8 hK8 => ?_
      refine c_region ?_
      refine s_pure h (ru_assign (h.ev rfl)) rfl ?_; intro f h
      refine s_nil ?_
      refine hK8 _ _ ?_
      refine wpIn_ret ?_
      exact e_tmp rfl h s rfl (by show _ = _; rw [isE_none _ hk hc])

theorem tbyid_any (x y : Tg) (w : World) : Calls Try.prog 67 [.agg (tgArr x), .agg (tgArr y)].toArray w (Ret w (is (.int .i64 (cmQ x y 0)))) := by
  refine c_enter Try.func67 rfl Try.ntmps67 rfl [(0, .agg (tgArr x)), (1, .agg (tgArr y))] (by simp) fun f h => ?_
  have s := St.start w
  refine c_seq fun K1 hK1 => ?_
  refine c_region ?_
  refine s_box (tgArr x) h s rfl rfl rfl ?_; intro f w1 b2 h s
  refine s_box (tgArr y) h s rfl rfl rfl ?_; intro f w1 b3 h s
  refine s_pure h (ru_assign (h.ev rfl)) rfl ?_; intro f h
  refine s_nil ?_
  refine hK1 _ _ ?_
  refine c_seq fun K2 hK2 => ?_
  refine c_region ?_
  refine s_pure h (ru_field fld121_0 (h.ev rfl)) rfl ?_; intro f h
  refine s_load_at (Has.subL (Has.of_own s 1 rfl) 0 32 (D := idArr (_)) (tgArr_id _)) h row42 rfl (by first | exact idArr_size _ | exact bytesF_size _ _) rfl ?_; intro f h
  refine s_pure h (ru_field fld121_0 (h.ev rfl)) rfl ?_; intro f h
  refine s_load_at (Has.subL (Has.of_own s 0 rfl) 0 32 (D := idArr (_)) (tgArr_id _)) h row42 rfl (by first | exact idArr_size _ | exact bytesF_size _ _) rfl ?_; intro f h
  refine s_call h s fnc79 (compare_any x.1 y.1 _) rfl rfl ?_; intro f w1 v9 hT hE h s; obtain rfl := hT
  refine s_pure h (ru_assign (h.ev rfl)) rfl ?_; intro f h
  refine s_nil ?_
  refine hK2 _ _ ?_
  refine wpIn_ret ?_
  exact e_tmp rfl h s rfl (rfl)

theorem tbykind_any (x y : Tg) (w : World) : Calls Try.prog 68 [.agg (tgArr x), .agg (tgArr y)].toArray w (Ret w (is (.int .i64 (cmQ x y 1)))) := by
  refine c_enter Try.func68 rfl Try.ntmps68 rfl [(0, .agg (tgArr x)), (1, .agg (tgArr y))] (by simp) fun f h => ?_
  have s := St.start w
  refine c_seq fun K1 hK1 => ?_
  refine c_region ?_
  refine s_box (tgArr x) h s rfl rfl rfl ?_; intro f w1 b2 h s
  refine s_box (tgArr y) h s rfl rfl rfl ?_; intro f w1 b3 h s
  refine s_pure h (ru_assign (h.ev rfl)) rfl ?_; intro f h
  refine s_nil ?_
  refine hK1 _ _ ?_
  refine c_seq fun K2 hK2 => ?_
  refine c_region ?_
  refine s_pure h (ru_field fld121_1 (h.ev rfl)) rfl ?_; intro f h
  refine s_pure h (ru_field fld53_0 (h.ev rfl)) rfl ?_; intro f h
  refine s_load_at1 (cell_of_has (Has.of_own s 1 rfl) 32 (tgArr_kind _)) h one3 rfl rfl ?_; intro f h
  refine s_pure h (ru_field fld121_1 (h.ev rfl)) rfl ?_; intro f h
  refine s_pure h (ru_field fld53_0 (h.ev rfl)) rfl ?_; intro f h
  refine s_load_at1 (cell_of_has (Has.of_own s 0 rfl) 32 (tgArr_kind _)) h one3 rfl rfl ?_; intro f h
  refine s_call h s fnc80 (icmp_any x.2.1.1 y.2.1.1 _) rfl rfl ?_; intro f w1 v9 hT hE h s; obtain rfl := hT
  refine s_pure h (ru_assign (h.ev rfl)) rfl ?_; intro f h
  refine s_nil ?_
  refine hK2 _ _ ?_
  refine wpIn_ret ?_
  exact e_tmp rfl h s rfl (rfl)

theorem tbytid_any (x y : Tg) (w : World) : Calls Try.prog 69 [.agg (tgArr x), .agg (tgArr y)].toArray w (Ret w (is (.int .i64 (cmQ x y 2)))) := by
  refine c_enter Try.func69 rfl Try.ntmps69 rfl [(0, .agg (tgArr x)), (1, .agg (tgArr y))] (by simp) fun f h => ?_
  have s := St.start w
  refine c_seq fun K1 hK1 => ?_
  refine c_region ?_
  refine s_box (tgArr x) h s rfl rfl rfl ?_; intro f w1 b2 h s
  refine s_box (tgArr y) h s rfl rfl rfl ?_; intro f w1 b3 h s
  refine s_pure h (ru_assign (h.ev rfl)) rfl ?_; intro f h
  refine s_nil ?_
  refine hK1 _ _ ?_
  refine c_seq fun K2 hK2 => ?_
  refine c_region ?_
  refine s_pure h (ru_field fld121_1 (h.ev rfl)) rfl ?_; intro f h
  refine s_pure h (ru_field fld53_1 (h.ev rfl)) rfl ?_; intro f h
  refine s_load_at (Has.subL (Has.of_own s 1 rfl) 33 32 (D := idArr (_)) (tgArr_tid _)) h row42 rfl (by first | exact idArr_size _ | exact bytesF_size _ _) rfl ?_; intro f h
  refine s_pure h (ru_field fld121_1 (h.ev rfl)) rfl ?_; intro f h
  refine s_pure h (ru_field fld53_1 (h.ev rfl)) rfl ?_; intro f h
  refine s_load_at (Has.subL (Has.of_own s 0 rfl) 33 32 (D := idArr (_)) (tgArr_tid _)) h row42 rfl (by first | exact idArr_size _ | exact bytesF_size _ _) rfl ?_; intro f h
  refine s_call h s fnc79 (compare_any x.2.1.2.1 y.2.1.2.1 _) rfl rfl ?_; intro f w1 v9 hT hE h s; obtain rfl := hT
  refine s_pure h (ru_assign (h.ev rfl)) rfl ?_; intro f h
  refine s_nil ?_
  refine hK2 _ _ ?_
  refine wpIn_ret ?_
  exact e_tmp rfl h s rfl (rfl)

theorem tbyhost_any (x y : Tg) (w : World) : Calls Try.prog 70 [.agg (tgArr x), .agg (tgArr y)].toArray w (Ret w (is (.int .i64 (cmQ x y 3)))) := by
  refine c_enter Try.func70 rfl Try.ntmps70 rfl [(0, .agg (tgArr x)), (1, .agg (tgArr y))] (by simp) fun f h => ?_
  have s := St.start w
  refine c_seq fun K1 hK1 => ?_
  refine c_region ?_
  refine s_box (tgArr x) h s rfl rfl rfl ?_; intro f w1 b2 h s
  refine s_box (tgArr y) h s rfl rfl rfl ?_; intro f w1 b3 h s
  refine s_pure h (ru_assign (h.ev rfl)) rfl ?_; intro f h
  refine s_nil ?_
  refine hK1 _ _ ?_
  refine c_seq fun K2 hK2 => ?_
  refine c_region ?_
  refine s_pure h (ru_field fld121_1 (h.ev rfl)) rfl ?_; intro f h
  refine s_pure h (ru_field fld53_2 (h.ev rfl)) rfl ?_; intro f h
  refine s_load_at1 (cell_of_has (Has.of_own s 1 rfl) 65 (tgArr_host _)) h one3 rfl rfl ?_; intro f h
  refine s_pure h (ru_field fld121_1 (h.ev rfl)) rfl ?_; intro f h
  refine s_pure h (ru_field fld53_2 (h.ev rfl)) rfl ?_; intro f h
  refine s_load_at1 (cell_of_has (Has.of_own s 0 rfl) 65 (tgArr_host _)) h one3 rfl rfl ?_; intro f h
  refine s_call h s fnc80 (icmp_any x.2.1.2.2 y.2.1.2.2 _) rfl rfl ?_; intro f w1 v9 hT hE h s; obtain rfl := hT
  refine s_pure h (ru_assign (h.ev rfl)) rfl ?_; intro f h
  refine s_nil ?_
  refine hK2 _ _ ?_
  refine wpIn_ret ?_
  exact e_tmp rfl h s rfl (rfl)

theorem by4_any (x y : Tg) (k : Nat) (hk : k < 4) (w : World) : Fnc Try.prog (fn4 67 68 69 70 k) ∧ Calls Try.prog (fn4 67 68 69 70 k) [.agg (tgArr x), .agg (tgArr y)].toArray w (Ret w (is (.int .i64 (cmQ x y k)))) := by
  match k, hk with
  | 0, _ => exact ⟨fnc67, tbyid_any x y w⟩
  | 1, _ => exact ⟨fnc68, tbykind_any x y w⟩
  | 2, _ => exact ⟨fnc69, tbytid_any x y w⟩
  | 3, _ => exact ⟨fnc70, tbyhost_any x y w⟩

theorem tcompare_any (x y : Tg) (w : World) : Calls Try.prog 48 [.agg (tgArr x), .agg (tgArr y)].toArray w (Ret w (is (.int .i64 (cmT x y)))) := by
  refine c_enter Try.func48 rfl Try.ntmps48 rfl [(0, .agg (tgArr x)), (1, .agg (tgArr y))] (by simp) fun f h => ?_
  have s := St.start w
  refine c_seq fun K1 hK1 => ?_
  refine c_region ?_
  refine s_box (tgArr x) h s rfl rfl rfl ?_; intro f w1 b2 h s
  refine s_box (tgArr y) h s rfl rfl rfl ?_; intro f w1 b3 h s
  refine s_pure h (ru_assign (h.ev rfl)) rfl ?_; intro f h
  refine s_nil ?_
  refine hK1 _ _ ?_
  refine c_seq fun K2 hK2 => ?_
  refine c_region ?_
  refine s_pure h (ru_build_arr [.func 67, .func 68, .func 69, .func 70] [.func (.func 67) #[] #[], .func (.func 68) #[] #[], .func (.func 69) #[] #[], .func (.func 70) #[] #[]] Try.underlying122 size119 ⟨_, zero122, rfl⟩ rfl (evs h rfl) (by simp [Value.cells]) rfl) rfl ?_; intro f h
  refine s_alloc (#[.nilFunc, .nilFunc, .nilFunc, .nilFunc]) h s zero122 rfl rfl ?_; intro f w1 b5 h s
  refine s_store_row 0 h s row122 rfl rfl rfl (rfl) (rfl) (by decide) ?_; intro w1 s
  refine s_nil ?_
  refine hK2 _ _ ?_
  refine c_seq fun K3 hK3 => ?_
  refine c_seq fun K4 hK4 => ?_
  refine c_region ?_
  refine s_load_row 0 h s row122 rfl rfl (rfl) rfl ?_; intro f h
  refine s_pure h (ru_move (h.ev rfl)) rfl ?_; intro f h
  refine s_nil ?_
  refine hK4 _ _ ?_
  refine wpIn_block ?_
  refine wpIn_loop_ghost (fun nn aa ww => ∃ k : Nat, Sl 22 aa [(0, .agg (tgArr x)), (1, .agg (tgArr y)), (2, .pointer (some ⟨b2, 0, none⟩)), (3, .pointer (some ⟨b3, 0, none⟩)), (5, .pointer (some ⟨b5, 0, none⟩)), (10, .agg (#[.func (.func 67) #[] #[], .func (.func 68) #[] #[], .func (.func 69) #[] #[], .func (.func 70) #[] #[]])), (11, .int .i64 (k : Int))] ∧ St w [.blk b5 (.cells (#[.func (.func 67) #[] #[], .func (.func 68) #[] #[], .func (.func 69) #[] #[], .func (.func 70) #[] #[]]) 122), .blk b3 (.cells (tgArr y) 58), .blk b2 (.cells (tgArr x) 58)] ww ∧ nn = 4 - k ∧ k ≤ 4 ∧ ∀ j, j < k → cmQ x y j = 0) (4 - (0)) ⟨0, h.only ⟨rfl, rfl, rfl, rfl, rfl, rfl, slot_int rfl (by omega), trivial⟩, s.as ⟨rfl, rfl, rfl, trivial⟩, rfl, Nat.zero_le _, fun j hj => absurd hj (Nat.not_lt_zero _)⟩ ?_
  rintro _ f w1 ⟨k, h, s, hnn, hp0, hp1⟩
  refine c_seq fun K5 hK5 => ?_
  refine c_region ?_
  refine s_pure h (ru_lss (h.ev rfl) (h.ev rfl)) rfl ?_; intro f h
  refine s_nil ?_
  refine hK5 _ _ ?_
  refine c_seq fun K6 hK6 => ?_
  refine c_cond h rfl (fun hc => ?_) (fun hc => ?_)
  · replace hc := of_decide_eq_true hc
    refine wpIn_skip ?_
    refine hK6 _ _ ?_
    refine c_seq fun K7 hK7 => ?_
    refine wpIn_block ?_
    refine c_seq fun K8 hK8 => ?_
    refine c_region ?_
    have hk4 : k < 4 := by omega
    obtain ⟨hfn4, _⟩ := by4_any x y k hk4 w
    refine s_pure h (ru_index_fn k Try.underlying122 size119 Try.underlying119 (h.ev rfl) (h.ev rfl) rfl (by omega) (fn4_at hk4)) rfl ?_; intro f h
    refine s_pure h (ru_assign (h.ev rfl)) rfl ?_; intro f h
    refine s_nil ?_
    refine hK8 _ _ ?_
    refine c_seq fun K9 hK9 => ?_
    refine c_region ?_
    refine s_pure h (ru_move (h.ev rfl)) rfl ?_; intro f h
    refine s_load_row 2 h s row58 rfl rfl (tgArr_size _) rfl ?_; intro f h
    refine s_load_row 1 h s row58 rfl rfl (tgArr_size _) rfl ?_; intro f h
    refine s_callV [.agg (tgArr x), .agg (tgArr y)] (caps := []) h s hfn4 rfl (by4_any x y k hk4 _).2 rfl rfl ?_; intro f w1 v17 hT hE h s; obtain rfl := hT
    refine s_pure h (ru_assign (h.ev rfl)) rfl ?_; intro f h
    refine s_nil ?_
    refine hK9 _ _ ?_
    refine c_seq fun K10 hK10 => ?_
    refine c_region ?_
    refine s_pure h (ru_move (h.ev rfl)) rfl ?_; intro f h
    refine s_pure h (ru_neq (h.ev rfl) (h.ev rfl)) rfl ?_; intro f h
    refine s_nil ?_
    refine hK10 _ _ ?_
    refine c_cond h rfl (fun hc => ?_) (fun hc => ?_)
    · have hc := of_decide_eq_true hc
      refine c_seq fun K11 hK11 => ?_
      refine c_region ?_
      refine s_pure h (ru_move (h.ev rfl)) rfl ?_; intro f h
      refine s_pure h (ru_assign (h.ev rfl)) rfl ?_; intro f h
      refine s_nil ?_
      refine hK11 _ _ ?_
      refine wpIn_ret ?_
      refine b_ret ?_
      refine t_ret ?_
      refine t_ret ?_
      refine b_ret ?_
      refine t_ret ?_
      exact e_tmp rfl h s rfl (by show _ = _; rw [cmT_hit hk4 hp1 hc])
    · have hc := Decidable.of_not_not (of_decide_eq_false hc)
      refine wpIn_skip ?_
      refine b_norm ?_
      refine hK7 _ _ ?_
      refine c_region ?_
      refine s_pure h (ru_add (h.ev rfl) (h.ev rfl) (by omega)) rfl ?_; intro f h
      refine s_pure h (ru_move (h.ev rfl)) rfl ?_; intro f h
      refine s_nil ?_
      refine t_norm ?_
      exact ⟨_, by omega, ⟨k + 1, h.only ⟨rfl, rfl, rfl, rfl, rfl, rfl, slot_int rfl (by omega), trivial⟩, St.as s ⟨rfl, rfl, rfl, trivial⟩, rfl, by omega, cq_next hp1 hc⟩⟩
  · replace hc := of_decide_eq_false hc
    refine wpIn_exit ?_
    refine t_exit ?_
    refine t_exit ?_
    refine b_exit ?_
    refine hK3 _ _ ?_
    refine c_seq fun K12 hK12 => ?_
    refine c_region ?_
    refine s_pure h (ru_assign (h.ev rfl)) rfl ?_; intro f h
    refine s_nil ?_
    refine hK12 _ _ ?_
    refine wpIn_ret ?_
    exact e_tmp rfl h s rfl (by show _ = _; rw [cmT_out (fun j hj => hp1 j (by omega))])

theorem isright_any (x : Tg) (w : World) : Calls Try.prog 44 [.agg (tgArr x)].toArray w (Ret w (is (.bool (mayT x)))) := by
  refine c_enter Try.func44 rfl Try.ntmps44 rfl [(0, .agg (tgArr x))] (by simp) fun f h => ?_
  have s := St.start w
  refine c_seq fun K1 hK1 => ?_
  refine c_region ?_
  refine s_box (tgArr x) h s rfl rfl rfl ?_; intro f w1 b1 h s
  refine s_pure h (ru_assign (h.ev rfl)) rfl ?_; intro f h
  refine s_nil ?_
  refine hK1 _ _ ?_
  refine c_seq fun K2 hK2 => ?_
  cases h0 : (isE x.2.1 : Bool)
  · skip
    refine c_region ?_
    refine s_pure h (ru_field fld58_1 (h.ev rfl)) rfl ?_; intro f h
    refine s_load_at (Has.subL (Has.of_own s 0 rfl) 32 34 (D := eArr (_)) (tgArr_tg _)) h row53 rfl (eArr_size _) rfl ?_; intro f h
    refine s_call h s fnc64 (ret_val (.bool false) (is_any x.2.1 _) (congrArg Value.bool h0)) rfl rfl ?_; intro f w1 v9 hT hE h s; obtain rfl := hT
    refine s_pure h (ru_move (h.ev rfl)) rfl ?_; intro f h
    refine s_off (b := true) h rfl rfl rfl rfl ?_; intro f h
    refine s_off (b := true) h rfl rfl rfl rfl ?_; intro f h
    refine s_off (b := true) h rfl rfl rfl rfl ?_; intro f h
    refine s_pure h (ru_pick_f (h.ev rfl) (h.ev rfl)) rfl ?_; intro f h
    refine s_pure h (ru_move (h.ev rfl)) rfl ?_; intro f h
    refine s_off (b := true) h rfl rfl rfl rfl ?_; intro f h
    refine s_off (b := true) h rfl rfl rfl rfl ?_; intro f h
    refine s_off (b := true) h rfl rfl rfl rfl ?_; intro f h
    refine s_pure h (ru_pick_f (h.ev rfl) (h.ev rfl)) rfl ?_; intro f h
    refine s_pure h (ru_assign (h.ev rfl)) rfl ?_; intro f h
    refine s_nil ?_
    refine hK2 _ _ ?_
    refine wpIn_ret ?_
    exact e_tmp rfl h s rfl (by show _ = _; unfold mayT; rw [h0] <;> rfl)
  · skip
    cases h1 : (decide (0 ≤ x.2.2) : Bool)
    · skip
      refine c_region ?_
      refine s_pure h (ru_field fld58_1 (h.ev rfl)) rfl ?_; intro f h
      refine s_load_at (Has.subL (Has.of_own s 0 rfl) 32 34 (D := eArr (_)) (tgArr_tg _)) h row53 rfl (eArr_size _) rfl ?_; intro f h
      refine s_call h s fnc64 (ret_val (.bool true) (is_any x.2.1 _) (congrArg Value.bool h0)) rfl rfl ?_; intro f w1 v9 hT hE h s; obtain rfl := hT
      refine s_pure h (ru_move (h.ev rfl)) rfl ?_; intro f h
      refine s_on h rfl rfl rfl ?_
      refine s_pure h (ru_field fld58_2 (h.ev rfl)) rfl ?_; intro f h
      refine s_on h rfl rfl rfl ?_
      refine s_load_at1 (cell_of_has (Has.of_own s 0 rfl) 66 (tgArr_until _)) h one3 rfl rfl ?_; intro f h
      refine s_on h rfl rfl rfl ?_
      refine s_pure h (ru_val (.bool false) (ru_geq (h.ev rfl) (h.ev rfl)) (congrArg Value.bool h1)) rfl ?_; intro f h
      refine s_pure h (ru_pick_t (h.ev rfl) (h.ev rfl)) rfl ?_; intro f h
      refine s_pure h (ru_move (h.ev rfl)) rfl ?_; intro f h
      refine s_off (b := true) h rfl rfl rfl rfl ?_; intro f h
      refine s_off (b := true) h rfl rfl rfl rfl ?_; intro f h
      refine s_off (b := true) h rfl rfl rfl rfl ?_; intro f h
      refine s_pure h (ru_pick_f (h.ev rfl) (h.ev rfl)) rfl ?_; intro f h
      refine s_pure h (ru_assign (h.ev rfl)) rfl ?_; intro f h
      refine s_nil ?_
      refine hK2 _ _ ?_
      refine wpIn_ret ?_
      exact e_tmp rfl h s rfl (by show _ = _; unfold mayT; rw [h0, h1] <;> rfl)
    · skip
      refine c_region ?_
      refine s_pure h (ru_field fld58_1 (h.ev rfl)) rfl ?_; intro f h
      refine s_load_at (Has.subL (Has.of_own s 0 rfl) 32 34 (D := eArr (_)) (tgArr_tg _)) h row53 rfl (eArr_size _) rfl ?_; intro f h
      refine s_call h s fnc64 (ret_val (.bool true) (is_any x.2.1 _) (congrArg Value.bool h0)) rfl rfl ?_; intro f w1 v9 hT hE h s; obtain rfl := hT
      refine s_pure h (ru_move (h.ev rfl)) rfl ?_; intro f h
      refine s_on h rfl rfl rfl ?_
      refine s_pure h (ru_field fld58_2 (h.ev rfl)) rfl ?_; intro f h
      refine s_on h rfl rfl rfl ?_
      refine s_load_at1 (cell_of_has (Has.of_own s 0 rfl) 66 (tgArr_until _)) h one3 rfl rfl ?_; intro f h
      refine s_on h rfl rfl rfl ?_
      refine s_pure h (ru_val (.bool true) (ru_geq (h.ev rfl) (h.ev rfl)) (congrArg Value.bool h1)) rfl ?_; intro f h
      refine s_pure h (ru_pick_t (h.ev rfl) (h.ev rfl)) rfl ?_; intro f h
      refine s_pure h (ru_move (h.ev rfl)) rfl ?_; intro f h
      refine s_on h rfl rfl rfl ?_
      refine s_pure h (ru_field fld58_2 (h.ev rfl)) rfl ?_; intro f h
      refine s_on h rfl rfl rfl ?_
      refine s_load_at1 (cell_of_has (Has.of_own s 0 rfl) 66 (tgArr_until _)) h one3 rfl rfl ?_; intro f h
      refine s_on h rfl rfl rfl ?_
      refine s_pure h (ru_leq (h.ev rfl) (h.ev rfl)) rfl ?_; intro f h
      refine s_pure h (ru_pick_t (h.ev rfl) (h.ev rfl)) rfl ?_; intro f h
      refine s_pure h (ru_assign (h.ev rfl)) rfl ?_; intro f h
      refine s_nil ?_
      refine hK2 _ _ ?_
      refine wpIn_ret ?_
      exact e_tmp rfl h s rfl (by show _ = _; unfold mayT; rw [h0, h1] <;> rfl)

theorem tright_any (l : List Tg) (vh : Value) (w : World) (hR : RdZ w vh 67 l.length (tgCells l)) (hln : l.length ≤ 1000) : Calls Try.prog 20 [vh].toArray w (Ret w (is (.bool (rightT l)))) := by
  refine c_enter Try.func20 rfl Try.ntmps20 rfl [(0, vh)] (by simp) fun f h => ?_
  have s := St.start w
  refine c_seq fun K1 hK1 => ?_
  refine c_region ?_
  refine s_pure h (ru_assign (h.ev rfl)) rfl ?_; intro f h
  refine s_nil ?_
  refine hK1 _ _ ?_
  refine c_seq fun K2 hK2 => ?_
  refine c_seq fun K3 hK3 => ?_
  refine c_region ?_
  refine s_pure h (ru_move (h.ev rfl)) rfl ?_; intro f h
  refine s_pure h (ru_lenZ (hR.keep s.ext) Try.underlying22 (h.ev rfl)) rfl ?_; intro f h
  refine s_pure h (ru_gtr (h.ev rfl) (h.ev rfl)) rfl ?_; intro f h
  refine s_nil ?_
  refine hK3 _ _ ?_
  refine c_cond h rfl (fun hc => ?_) (fun hc => ?_)
  · have h32 : ¬ l.length ≤ 32 := by have := of_decide_eq_true hc; omega
    refine c_seq fun K4 hK4 => ?_
    refine c_region ?_
    refine s_pure h (ru_assign (h.ev rfl)) rfl ?_; intro f h
    refine s_nil ?_
    refine hK4 _ _ ?_
    refine wpIn_ret ?_
    refine t_ret ?_
    exact e_tmp rfl h s rfl (by first | (unfold rightT; rw [decide_eq_false h32, Bool.and_false]; rfl) | (obtain rfl : k = l.length := (by omega); show _ = _; rw [right_end hp1]; exact congrArg Value.bool (decide_eq_true h32).symm))
  · have h32 : l.length ≤ 32 := by have := of_decide_eq_false hc; omega
    refine wpIn_skip ?_
    refine hK2 _ _ ?_
    refine c_seq fun K5 hK5 => ?_
    refine c_seq fun K6 hK6 => ?_
    refine c_region ?_
    refine s_pure h (ru_move (h.ev rfl)) rfl ?_; intro f h
    refine s_pure h (ru_lenZ (hR.keep s.ext) Try.underlying22 (h.ev rfl)) rfl ?_; intro f h
    refine s_pure h (ru_move (h.ev rfl)) rfl ?_; intro f h
    refine s_nil ?_
    refine hK6 _ _ ?_
    refine wpIn_block ?_
    refine wpIn_loop_ghost (fun nn aa ww => ∃ k : Nat, Sl 33 aa [(0, vh), (8, vh), (9, .int .i64 (l.length : Int)), (10, .int .i64 (k : Int))] ∧ St w [] ww ∧ nn = l.length - k ∧ k ≤ l.length ∧ ∀ j, j < k → okG l j = true) (l.length - (0)) ⟨0, h.only ⟨rfl, rfl, rfl, slot_int rfl (by omega), trivial⟩, s.as trivial, rfl, Nat.zero_le _, fun j hj => absurd hj (Nat.not_lt_zero _)⟩ ?_
    rintro _ f w1 ⟨k, h, s, hnn, hp0, hp1⟩
    refine c_seq fun K7 hK7 => ?_
    refine c_region ?_
    refine s_pure h (ru_lss (h.ev rfl) (h.ev rfl)) rfl ?_; intro f h
    refine s_nil ?_
    refine hK7 _ _ ?_
    refine c_seq fun K8 hK8 => ?_
    refine c_cond h rfl (fun hc => ?_) (fun hc => ?_)
    · replace hc := of_decide_eq_true hc
      refine wpIn_skip ?_
      refine hK8 _ _ ?_
      refine c_seq fun K9 hK9 => ?_
      refine wpIn_block ?_
      refine c_seq fun K10 hK10 => ?_
      refine c_region ?_
      refine s_pure h (ru_move (h.ev rfl)) rfl ?_; intro f h
      have hkl : k < l.length := by omega
      refine s_pure h (ru_ixz (hR.keep s.ext) (k) Try.underlying22 szo58 (h.ev rfl) (h.ev rfl) (by omega) (by omega)) rfl ?_; intro f h
      refine s_load_at ((hR.keep s.ext).el (k) (by omega) (by decide) (D := tgArr (l.getD k zTg)) (tgr_el l k hkl)) h row58 rfl (tgArr_size _) rfl ?_; intro f h
      refine s_alloc (tgArr zTg) h s zero58 rfl rfl ?_; intro f w1 b4 h s
      refine s_pure h (ru_assign (h.ev rfl)) rfl ?_; intro f h
      refine s_store_row 0 h s row58 rfl rfl rfl (tgArr_size _) (tgArr_size _) (tgArr_ones _) ?_; intro w1 s
      refine s_nil ?_
      refine hK10 _ _ ?_
      refine c_seq fun K11 hK11 => ?_
      cases h0 : (mayT (l.getD k zTg) : Bool)
      · skip
        refine c_walkN 17 [[], [0], [0, 1], [0, 1, 2], [0, 1, 2, 3], [0, 1, 2, 3, 4], [0, 1, 2, 3, 4, 5], [0, 1, 2, 3, 4, 5, 6], [0, 1, 2, 3, 4, 5, 6], [0, 1, 2, 3, 4, 5, 6, 8], [0, 1, 2, 3, 4, 5, 6, 7, 8, 9], [0, 1, 2, 3, 4, 5, 6, 7, 8, 9, 10], [0, 1, 2, 3, 4, 5, 6], [0, 1, 2, 3, 4, 5, 6, 7, 8, 9, 10, 11, 12], [0, 1, 2, 3, 4, 5, 6, 7, 8, 9, 10, 11, 12, 13], [0, 1, 2, 3, 4, 5, 6, 7, 8, 9, 10, 11, 12, 13, 14], [0, 1, 2, 3, 4, 5, 6, 7, 8, 9, 10, 11, 12, 13, 14, 15]] h (by kernel_rfl) (by kernel_rfl) (by kernel_rfl) ?_
        refine w_load_row 0 h s row58 rfl rfl (tgArr_size _) rfl ?_; intro f h
        refine w_call h fnc44 (fun w9 hE9 => ret_val (.bool false) (isright_any (l.getD k zTg) w9) (congrArg Value.bool h0)) rfl rfl ?_; intro f h
        refine w_pure h (ru_val (.bool true) (ru_not (h.ev rfl)) rfl) rfl ?_; intro f h
        refine w_pure h (ru_move (h.ev rfl)) rfl ?_; intro f h
        refine w_off (b := false) h rfl rfl rfl rfl ?_; intro f h
        refine w_off (b := false) h rfl rfl rfl rfl ?_; intro f h
        refine w_off (b := false) h rfl rfl rfl rfl ?_; intro f h
        refine w_none h rfl rfl rfl rfl ?_; intro f h
        refine w_none h rfl rfl rfl rfl ?_; intro f h
        refine w_none h rfl rfl rfl rfl ?_; intro f h
        refine w_none h rfl rfl rfl rfl ?_; intro f h
        refine w_none h rfl rfl rfl rfl ?_; intro f h
        refine w_none h rfl rfl rfl rfl ?_; intro f h
        refine w_none h rfl rfl rfl rfl ?_; intro f h
        refine w_none h rfl rfl rfl rfl ?_; intro f h
        refine w_off (b := false) h rfl rfl rfl rfl ?_; intro f h
        refine w_pure h (ru_pick_t (h.ev rfl) (h.ev rfl)) rfl ?_; intro f h
        refine w_nil s fun w1 s => ?_
        refine s_nil ?_
        refine hK11 _ _ ?_
        refine wpIn_cond_true (h.ev rfl) ?_
        refine c_seq fun K12 hK12 => ?_
        refine c_region ?_
        refine s_pure h (ru_assign (h.ev rfl)) rfl ?_; intro f h
        refine s_nil ?_
        refine hK12 _ _ ?_
        refine wpIn_ret ?_
        refine b_ret ?_
        refine t_ret ?_
        refine t_ret ?_
        refine b_ret ?_
        refine t_ret ?_
        exact e_tmp rfl h s rfl (by show _ = _; rw [right_stop hkl (ok_0 h0)])
      · skip
        cases h1 : (decide (k = 0) : Bool)
        · skip
          cases h2 : (ltT (l.getD (k - 1) zTg) (l.getD k zTg) : Bool)
          · skip
            refine c_walkN 17 [[], [0], [0, 1], [0, 1, 2], [0, 1, 2, 3], [0, 1, 2, 3, 4], [0, 1, 2, 3, 4, 5], [0, 1, 2, 3, 4, 5, 6], [0, 1, 2, 3, 4, 5, 6], [0, 1, 2, 3, 4, 5, 6, 8], [0, 1, 2, 3, 4, 5, 6, 7, 8, 9], [0, 1, 2, 3, 4, 5, 6, 7, 8, 9, 10], [0, 1, 2, 3, 4, 5, 6], [0, 1, 2, 3, 4, 5, 6, 7, 8, 9, 10, 11, 12], [0, 1, 2, 3, 4, 5, 6, 7, 8, 9, 10, 11, 12, 13], [0, 1, 2, 3, 4, 5, 6, 7, 8, 9, 10, 11, 12, 13, 14], [0, 1, 2, 3, 4, 5, 6, 7, 8, 9, 10, 11, 12, 13, 14, 15]] h (by kernel_rfl) (by kernel_rfl) (by kernel_rfl) ?_
            refine w_load_row 0 h s row58 rfl rfl (tgArr_size _) rfl ?_; intro f h
            refine w_call h fnc44 (fun w9 hE9 => ret_val (.bool true) (isright_any (l.getD k zTg) w9) (congrArg Value.bool h0)) rfl rfl ?_; intro f h
            refine w_pure h (ru_val (.bool false) (ru_not (h.ev rfl)) rfl) rfl ?_; intro f h
            refine w_pure h (ru_move (h.ev rfl)) rfl ?_; intro f h
            refine w_on h rfl rfl rfl ?_
            refine w_pure h (ru_move (h.ev rfl)) rfl ?_; intro f h
            refine w_on h rfl rfl rfl ?_
            refine w_pure h (ru_val (.bool true) (ru_gtr (h.ev rfl) (h.ev rfl)) (congrArg Value.bool (decide_eq_true (by have := of_decide_eq_false h1; omega)))) rfl ?_; intro f h
            refine w_on h rfl rfl rfl ?_
            refine w_pure h (ru_move (h.ev rfl)) rfl ?_; intro f h
            refine w_on h rfl rfl rfl ?_
            refine w_pure h (ru_move (h.ev rfl)) rfl ?_; intro f h
            refine w_on h rfl rfl rfl ?_
            refine w_pure h (ru_move (h.ev rfl)) rfl ?_; intro f h
            refine w_on h rfl rfl rfl ?_
            refine w_pure h (ru_sub (h.ev rfl) (h.ev rfl) (by omega)) rfl ?_; intro f h
            refine w_on h rfl rfl rfl ?_
            refine w_pure h (ru_ixz (hR.keep s.ext) ((k - 1)) Try.underlying22 szo58 (h.ev rfl) (h.ev rfl) (by have := of_decide_eq_false h1; omega) (by omega)) rfl ?_; intro f h
            refine w_on h rfl rfl rfl ?_
            refine w_load_at ((hR.keep s.ext).el ((k - 1)) (by omega) (by decide) (D := tgArr (l.getD (k - 1) zTg)) (tgr_el l (k - 1) (by omega))) h row58 rfl (tgArr_size _) rfl ?_; intro f h
            refine w_on h rfl rfl rfl ?_
            refine w_load_row 0 h s row58 rfl rfl (tgArr_size _) rfl ?_; intro f h
            refine w_on h rfl rfl rfl ?_
            refine w_call h fnc48 (fun w9 hE9 => tcompare_any (l.getD (k - 1) zTg) (l.getD k zTg) w9) rfl rfl ?_; intro f h
            refine w_on h rfl rfl rfl ?_
            refine w_pure h (ru_val (.bool true) (ru_geq (h.ev rfl) (h.ev rfl)) (congrArg Value.bool ((cmT_ge _ _).trans (by rw [h2]; rfl)))) rfl ?_; intro f h
            refine w_on h rfl rfl rfl ?_
            refine w_pure h (ru_pick_t (h.ev rfl) (h.ev rfl)) rfl ?_; intro f h
            refine w_pure h (ru_pick_f (h.ev rfl) (h.ev rfl)) rfl ?_; intro f h
            refine w_nil s fun w1 s => ?_
            refine s_nil ?_
            refine hK11 _ _ ?_
            refine wpIn_cond_true (h.ev rfl) ?_
            refine c_seq fun K13 hK13 => ?_
            refine c_region ?_
            refine s_pure h (ru_assign (h.ev rfl)) rfl ?_; intro f h
            refine s_nil ?_
            refine hK13 _ _ ?_
            refine wpIn_ret ?_
            refine b_ret ?_
            refine t_ret ?_
            refine t_ret ?_
            refine b_ret ?_
            refine t_ret ?_
            exact e_tmp rfl h s rfl (by show _ = _; rw [right_stop hkl ((ok_2 h0 (of_decide_eq_false h1)).trans h2)])
          · skip
            refine c_walkN 17 [[], [0], [0, 1], [0, 1, 2], [0, 1, 2, 3], [0, 1, 2, 3, 4], [0, 1, 2, 3, 4, 5], [0, 1, 2, 3, 4, 5, 6], [0, 1, 2, 3, 4, 5, 6], [0, 1, 2, 3, 4, 5, 6, 8], [0, 1, 2, 3, 4, 5, 6, 7, 8, 9], [0, 1, 2, 3, 4, 5, 6, 7, 8, 9, 10], [0, 1, 2, 3, 4, 5, 6], [0, 1, 2, 3, 4, 5, 6, 7, 8, 9, 10, 11, 12], [0, 1, 2, 3, 4, 5, 6, 7, 8, 9, 10, 11, 12, 13], [0, 1, 2, 3, 4, 5, 6, 7, 8, 9, 10, 11, 12, 13, 14], [0, 1, 2, 3, 4, 5, 6, 7, 8, 9, 10, 11, 12, 13, 14, 15]] h (by kernel_rfl) (by kernel_rfl) (by kernel_rfl) ?_
            refine w_load_row 0 h s row58 rfl rfl (tgArr_size _) rfl ?_; intro f h
            refine w_call h fnc44 (fun w9 hE9 => ret_val (.bool true) (isright_any (l.getD k zTg) w9) (congrArg Value.bool h0)) rfl rfl ?_; intro f h
            refine w_pure h (ru_val (.bool false) (ru_not (h.ev rfl)) rfl) rfl ?_; intro f h
            refine w_pure h (ru_move (h.ev rfl)) rfl ?_; intro f h
            refine w_on h rfl rfl rfl ?_
            refine w_pure h (ru_move (h.ev rfl)) rfl ?_; intro f h
            refine w_on h rfl rfl rfl ?_
            refine w_pure h (ru_val (.bool true) (ru_gtr (h.ev rfl) (h.ev rfl)) (congrArg Value.bool (decide_eq_true (by have := of_decide_eq_false h1; omega)))) rfl ?_; intro f h
            refine w_on h rfl rfl rfl ?_
            refine w_pure h (ru_move (h.ev rfl)) rfl ?_; intro f h
            refine w_on h rfl rfl rfl ?_
            refine w_pure h (ru_move (h.ev rfl)) rfl ?_; intro f h
            refine w_on h rfl rfl rfl ?_
            refine w_pure h (ru_move (h.ev rfl)) rfl ?_; intro f h
            refine w_on h rfl rfl rfl ?_
            refine w_pure h (ru_sub (h.ev rfl) (h.ev rfl) (by omega)) rfl ?_; intro f h
            refine w_on h rfl rfl rfl ?_
            refine w_pure h (ru_ixz (hR.keep s.ext) ((k - 1)) Try.underlying22 szo58 (h.ev rfl) (h.ev rfl) (by have := of_decide_eq_false h1; omega) (by omega)) rfl ?_; intro f h
            refine w_on h rfl rfl rfl ?_
            refine w_load_at ((hR.keep s.ext).el ((k - 1)) (by omega) (by decide) (D := tgArr (l.getD (k - 1) zTg)) (tgr_el l (k - 1) (by omega))) h row58 rfl (tgArr_size _) rfl ?_; intro f h
            refine w_on h rfl rfl rfl ?_
            refine w_load_row 0 h s row58 rfl rfl (tgArr_size _) rfl ?_; intro f h
            refine w_on h rfl rfl rfl ?_
            refine w_call h fnc48 (fun w9 hE9 => tcompare_any (l.getD (k - 1) zTg) (l.getD k zTg) w9) rfl rfl ?_; intro f h
            refine w_on h rfl rfl rfl ?_
            refine w_pure h (ru_val (.bool false) (ru_geq (h.ev rfl) (h.ev rfl)) (congrArg Value.bool ((cmT_ge _ _).trans (by rw [h2]; rfl)))) rfl ?_; intro f h
            refine w_on h rfl rfl rfl ?_
            refine w_pure h (ru_pick_t (h.ev rfl) (h.ev rfl)) rfl ?_; intro f h
            refine w_pure h (ru_pick_f (h.ev rfl) (h.ev rfl)) rfl ?_; intro f h
            refine w_nil s fun w1 s => ?_
            refine s_nil ?_
            refine hK11 _ _ ?_
            refine wpIn_cond_false (h.ev rfl) ?_
            refine wpIn_skip ?_
            refine b_norm ?_
            refine hK9 _ _ ?_
            refine c_region ?_
            refine s_pure h (ru_add (h.ev rfl) (h.ev rfl) (by omega)) rfl ?_; intro f h
            refine s_pure h (ru_move (h.ev rfl)) rfl ?_; intro f h
            refine s_nil ?_
            refine t_norm ?_
            exact ⟨_, by omega, ⟨k + 1, h.only ⟨rfl, rfl, rfl, slot_int rfl (by omega), trivial⟩, St.as (s.pick _ (List.sublist_append_right [_] _)) trivial, rfl, by omega, qs_nextT hp1 ((ok_2 h0 (of_decide_eq_false h1)).trans h2)⟩⟩
        · skip
          refine c_walkN 17 [[], [0], [0, 1], [0, 1, 2], [0, 1, 2, 3], [0, 1, 2, 3, 4], [0, 1, 2, 3, 4, 5], [0, 1, 2, 3, 4, 5, 6], [0, 1, 2, 3, 4, 5, 6], [0, 1, 2, 3, 4, 5, 6, 8], [0, 1, 2, 3, 4, 5, 6, 7, 8, 9], [0, 1, 2, 3, 4, 5, 6, 7, 8, 9, 10], [0, 1, 2, 3, 4, 5, 6], [0, 1, 2, 3, 4, 5, 6, 7, 8, 9, 10, 11, 12], [0, 1, 2, 3, 4, 5, 6, 7, 8, 9, 10, 11, 12, 13], [0, 1, 2, 3, 4, 5, 6, 7, 8, 9, 10, 11, 12, 13, 14], [0, 1, 2, 3, 4, 5, 6, 7, 8, 9, 10, 11, 12, 13, 14, 15]] h (by kernel_rfl) (by kernel_rfl) (by kernel_rfl) ?_
          refine w_load_row 0 h s row58 rfl rfl (tgArr_size _) rfl ?_; intro f h
          refine w_call h fnc44 (fun w9 hE9 => ret_val (.bool true) (isright_any (l.getD k zTg) w9) (congrArg Value.bool h0)) rfl rfl ?_; intro f h
          refine w_pure h (ru_val (.bool false) (ru_not (h.ev rfl)) rfl) rfl ?_; intro f h
          refine w_pure h (ru_move (h.ev rfl)) rfl ?_; intro f h
          refine w_on h rfl rfl rfl ?_
          refine w_pure h (ru_move (h.ev rfl)) rfl ?_; intro f h
          refine w_on h rfl rfl rfl ?_
          refine w_pure h (ru_val (.bool false) (ru_gtr (h.ev rfl) (h.ev rfl)) (congrArg Value.bool (decide_eq_false (by have := of_decide_eq_true h1; omega)))) rfl ?_; intro f h
          refine w_on h rfl rfl rfl ?_
          refine w_pure h (ru_move (h.ev rfl)) rfl ?_; intro f h
          refine w_off (b := true) h rfl rfl rfl rfl ?_; intro f h
          refine w_off (b := true) h rfl rfl rfl rfl ?_; intro f h
          refine w_off (b := true) h rfl rfl rfl rfl ?_; intro f h
          refine w_off (b := true) h rfl rfl rfl rfl ?_; intro f h
          refine w_off (b := true) h rfl rfl rfl rfl ?_; intro f h
          refine w_off (b := true) h rfl rfl rfl rfl ?_; intro f h
          refine w_off (b := true) h rfl rfl rfl rfl ?_; intro f h
          refine w_off (b := true) h rfl rfl rfl rfl ?_; intro f h
          refine w_on h rfl rfl rfl ?_
          refine w_pure h (ru_pick_f (h.ev rfl) (h.ev rfl)) rfl ?_; intro f h
          refine w_pure h (ru_pick_f (h.ev rfl) (h.ev rfl)) rfl ?_; intro f h
          refine w_nil s fun w1 s => ?_
          refine s_nil ?_
          refine hK11 _ _ ?_
          refine wpIn_cond_false (h.ev rfl) ?_
          refine wpIn_skip ?_
          refine b_norm ?_
          refine hK9 _ _ ?_
          refine c_region ?_
          refine s_pure h (ru_add (h.ev rfl) (h.ev rfl) (by omega)) rfl ?_; intro f h
          refine s_pure h (ru_move (h.ev rfl)) rfl ?_; intro f h
          refine s_nil ?_
          refine t_norm ?_
          exact ⟨_, by omega, ⟨k + 1, h.only ⟨rfl, rfl, rfl, slot_int rfl (by omega), trivial⟩, St.as (s.pick _ (List.sublist_append_right [_] _)) trivial, rfl, by omega, qs_nextT hp1 (ok_1 h0 (of_decide_eq_true h1))⟩⟩
    · replace hc := of_decide_eq_false hc
      refine wpIn_exit ?_
      refine t_exit ?_
      refine t_exit ?_
      refine b_exit ?_
      refine hK5 _ _ ?_
      refine c_seq fun K14 hK14 => ?_
      refine c_region ?_
      refine s_pure h (ru_assign (h.ev rfl)) rfl ?_; intro f h
      refine s_nil ?_
      refine hK14 _ _ ?_
      refine wpIn_ret ?_
      exact e_tmp rfl h s rfl (by first | (unfold rightT; rw [decide_eq_false h32, Bool.and_false]; rfl) | (obtain rfl : k = l.length := (by omega); show _ = _; rw [right_end hp1]; exact congrArg Value.bool (decide_eq_true h32).symm))

theorem tonly_any (l : List Tg) (vh : Value) (g9 : Nat) (caps : List Value) (p : Tg → Bool) (w : World) (hR : RdZ w vh 67 l.length (tgCells l)) (hln : l.length ≤ 1000) (hg : Fnc Try.prog g9) (hp : ∀ w9, Ext w w9 → ∀ y ∈ l, Calls Try.prog g9 (.agg (tgArr y) :: caps).toArray w9 (Ret w9 (is (.bool (p y))))) : Calls Try.prog 42 [vh, .func (.func g9) #[] caps.toArray].toArray w (Ret w (fun v w' => Owns w' w.heap.size 58 67 v (l.filter p).length (tgCells (l.filter p)))) := by
  refine c_enter Try.func42 rfl Try.ntmps42 rfl [(0, vh), (1, .func (.func g9) #[] caps.toArray)] (by simp) fun f h => ?_
  have s := St.start w
  refine c_seq fun K1 hK1 => ?_
  refine c_region ?_
  refine s_pure h (ru_assign (h.ev rfl)) rfl ?_; intro f h
  refine s_nil ?_
  refine hK1 _ _ ?_
  refine c_seq fun K2 hK2 => ?_
  refine c_region ?_
  refine s_pure h (ru_assign (h.ev rfl)) rfl ?_; intro f h
  refine s_nil ?_
  refine hK2 _ _ ?_
  refine c_seq fun K3 hK3 => ?_
  refine c_seq fun K4 hK4 => ?_
  refine c_region ?_
  replace s := s.nilSl 58 67
  refine s_pure h (ru_move (h.ev rfl)) rfl ?_; intro f h
  refine s_pure h (ru_lenZ (hR.keep s.ext) Try.underlying22 (h.ev rfl)) rfl ?_; intro f h
  refine s_pure h (ru_move (h.ev rfl)) rfl ?_; intro f h
  refine s_nil ?_
  refine hK4 _ _ ?_
  refine wpIn_block ?_
  refine wpIn_loop_ghost (fun nn aa ww => ∃ k : Nat, ∃ vb : Value, Sl 23 aa [(0, vh), (1, .func (.func g9) #[] caps.toArray), (5, vb), (8, vh), (9, .int .i64 (l.length : Int)), (10, .int .i64 (k : Int))] ∧ St w [.sl vb 58 67 ((l.take k).filter p).length (tgCells ((l.take k).filter p))] ww ∧ nn = l.length - k ∧ k ≤ l.length) (l.length - (0)) ⟨0, nilV, h.only ⟨rfl, rfl, rfl, rfl, rfl, slot_int rfl (by omega), trivial⟩, s.as ⟨rfl, trivial⟩, rfl, Nat.zero_le _⟩ ?_
  rintro _ f w1 ⟨k, vb, h, s, hnn, hp0⟩
  refine c_seq fun K5 hK5 => ?_
  refine c_region ?_
  refine s_pure h (ru_lss (h.ev rfl) (h.ev rfl)) rfl ?_; intro f h
  refine s_nil ?_
  refine hK5 _ _ ?_
  refine c_seq fun K6 hK6 => ?_
  refine c_cond h rfl (fun hc => ?_) (fun hc => ?_)
  · replace hc := of_decide_eq_true hc
    refine wpIn_skip ?_
    refine hK6 _ _ ?_
    refine c_seq fun K7 hK7 => ?_
    refine wpIn_block ?_
    refine c_seq fun K8 hK8 => ?_
    refine c_region ?_
    have hkl : k < l.length := by omega
    refine s_pure h (ru_ixz (hR.keep s.ext) (k) Try.underlying22 szo58 (h.ev rfl) (h.ev rfl) (by omega) (by omega)) rfl ?_; intro f h
    refine s_load_at ((hR.keep s.ext).el (k) (by omega) (by decide) (D := tgArr (l.getD k zTg)) (tgr_el l k hkl)) h row58 rfl (tgArr_size _) rfl ?_; intro f h
    refine s_alloc (tgArr zTg) h s zero58 rfl rfl ?_; intro f w1 b7 h s
    refine s_store_row 0 h s row58 rfl rfl rfl (tgArr_size _) (tgArr_size _) (tgArr_ones _) ?_; intro w1 s
    refine s_nil ?_
    refine hK8 _ _ ?_
    refine c_seq fun K9 hK9 => ?_
    refine c_region ?_
    refine s_pure h (ru_move (h.ev rfl)) rfl ?_; intro f h
    refine s_load_row 0 h s row58 rfl rfl (tgArr_size _) rfl ?_; intro f h
    refine s_callV [.agg (tgArr (l.getD k zTg))] (caps := caps) h s hg rfl (hp _ s.ext _ (tg_mem hkl)) rfl rfl ?_; intro f w1 v16 hT hE h s; obtain rfl := hT
    refine s_nil ?_
    refine hK9 _ _ ?_
    refine c_cond h rfl (fun hc => ?_) (fun hc => ?_)
    · have hq : p (l.getD k zTg) = true := hc
      refine c_region ?_
      refine s_pure h (ru_move (h.ev rfl)) rfl ?_; intro f h
      refine s_load_row 0 h s row58 rfl rfl (tgArr_size _) rfl ?_; intro f h
      refine s_bslice (vs := [.agg (tgArr (l.getD k zTg))]) [.tmp 18] h s Try.underlying22 elm58 rfl rfl (tg_sz _) rfl rfl rfl ?_; intro f w1 v19 h s
      refine s_append 2 0 h s Try.underlying22 elm58 rfl rfl rfl rfl (by decide) (by rw [one_tg]; exact tgArr_ones _) (by have h9 := flt_le l p k; unfold maxLen; omega) (by have h9 := flt_le l p k; omega) rfl ?_; intro f w1 v20 h s
      replace s := s.pick _ (List.sublist_cons_self _ _)
      replace s := s.resl (m := ((l.take (k + 1)).filter p).length) (ys := tgCells ((l.take (k + 1)).filter p)) 1 rfl (by rw [flt_y hkl hq, List.length_append]; rfl) (by rw [flt_y hkl hq, one_tg, tg_snoc])
      refine s_pure h (ru_assign (h.ev rfl)) rfl ?_; intro f h
      refine s_nil ?_
      refine b_norm ?_
      refine hK7 _ _ ?_
      refine c_region ?_
      refine s_pure h (ru_add (h.ev rfl) (h.ev rfl) (by omega)) rfl ?_; intro f h
      refine s_pure h (ru_move (h.ev rfl)) rfl ?_; intro f h
      refine s_nil ?_
      refine t_norm ?_
      exact ⟨_, by omega, ⟨k + 1, v20, h.only ⟨rfl, rfl, rfl, rfl, rfl, slot_int rfl (by omega), trivial⟩, St.as (s.pick _ (List.sublist_append_right [_] _)) ⟨rfl, trivial⟩, rfl, by omega⟩⟩
    · have hq : p (l.getD k zTg) = false := hc
      refine wpIn_skip ?_
      refine b_norm ?_
      refine hK7 _ _ ?_
      refine c_region ?_
      refine s_pure h (ru_add (h.ev rfl) (h.ev rfl) (by omega)) rfl ?_; intro f h
      refine s_pure h (ru_move (h.ev rfl)) rfl ?_; intro f h
      refine s_nil ?_
      refine t_norm ?_
      exact ⟨_, by omega, ⟨k + 1, vb, h.only ⟨rfl, rfl, rfl, rfl, rfl, slot_int rfl (by omega), trivial⟩, St.as (s.pick _ (List.sublist_append_right [_] _)) ⟨sl_eq (by rw [flt_n hkl hq]) (by rw [flt_n hkl hq]), trivial⟩, rfl, by omega⟩⟩
  · replace hc := of_decide_eq_false hc
    refine wpIn_exit ?_
    refine t_exit ?_
    refine t_exit ?_
    refine b_exit ?_
    refine hK3 _ _ ?_
    refine c_seq fun K10 hK10 => ?_
    refine c_region ?_
    refine s_pure h (ru_move (h.ev rfl)) rfl ?_; intro f h
    refine s_pure h (ru_assign (h.ev rfl)) rfl ?_; intro f h
    refine s_nil ?_
    refine hK10 _ _ ?_
    refine wpIn_ret ?_
    exact e_tmp rfl h s rfl ((by have h9 := s.getSl 0 rfl; rw [flt_end (by omega)] at h9; exact h9))

theorem tfirst_any (l : List Tg) (vh : Value) (g9 : Nat) (caps : List Value) (m : Tg → Int) (le : Int) (w : World) (hR : RdZ w vh 67 l.length (tgCells l)) (hln : l.length ≤ 1000) (hg : Fnc Try.prog g9) (hp : ∀ w9, Ext w w9 → ∀ y ∈ l, Calls Try.prog g9 (.agg (tgArr y) :: caps).toArray w9 (Ret w9 (is (.int .i64 (m y))))) : Calls Try.prog 41 [vh, .func (.func g9) #[] caps.toArray, .int .i64 le].toArray w (Ret w (is (.tuple #[.agg (tgArr (fmS m le l l.length).1), .bool (fmS m le l l.length).2.2]))) := by
  refine c_enter Try.func41 rfl Try.ntmps41 rfl [(0, vh), (1, .func (.func g9) #[] caps.toArray), (2, .int .i64 le)] (by simp) fun f h => ?_
  have s := St.start w
  refine c_seq fun K1 hK1 => ?_
  refine c_region ?_
  refine s_alloc (tgArr zTg) h s zero58 rfl rfl ?_; intro f w1 b6 h s
  refine s_pure h (ru_assign (h.ev rfl)) rfl ?_; intro f h
  refine s_nil ?_
  refine hK1 _ _ ?_
  refine c_seq fun K2 hK2 => ?_
  refine c_region ?_
  refine s_alloc (tgArr zTg) h s zero58 rfl rfl ?_; intro f w1 b8 h s
  refine s_nil ?_
  refine hK2 _ _ ?_
  refine c_seq fun K3 hK3 => ?_
  refine c_region ?_
  refine s_pure h (ru_assign (h.ev rfl)) rfl ?_; intro f h
  refine s_pure h (ru_assign (h.ev rfl)) rfl ?_; intro f h
  refine s_nil ?_
  refine hK3 _ _ ?_
  refine c_seq fun K4 hK4 => ?_
  refine c_seq fun K5 hK5 => ?_
  refine c_region ?_
  refine s_pure h (ru_move (h.ev rfl)) rfl ?_; intro f h
  refine s_pure h (ru_lenZ (hR.keep s.ext) Try.underlying22 (h.ev rfl)) rfl ?_; intro f h
  refine s_pure h (ru_move (h.ev rfl)) rfl ?_; intro f h
  refine s_nil ?_
  refine hK5 _ _ ?_
  refine wpIn_block ?_
  refine wpIn_loop_ghost (fun nn aa ww => ∃ k : Nat, ∃ z : Tg, ∃ mo : Int, ∃ bi : Bool, Sl 40 aa [(0, vh), (6, .pointer (some ⟨b6, 0, none⟩)), (8, .pointer (some ⟨b8, 0, none⟩)), (1, .func (.func g9) #[] caps.toArray), (2, .int .i64 le), (9, .int .i64 mo), (10, .bool bi), (14, vh), (15, .int .i64 (l.length : Int)), (16, .int .i64 (k : Int))] ∧ St w [.blk b8 (.cells (tgArr z) 58), .blk b6 (.cells (tgArr zTg) 58)] ww ∧ nn = l.length - k ∧ k ≤ l.length ∧ (z, mo, bi) = fmS m le l k) (l.length - (0)) ⟨0, zTg, 0, false, h.only ⟨rfl, rfl, rfl, rfl, rfl, rfl, rfl, rfl, rfl, slot_int rfl (by omega), trivial⟩, s.as ⟨rfl, rfl, trivial⟩, rfl, Nat.zero_le _, rfl⟩ ?_
  rintro _ f w1 ⟨k, z, mo, bi, h, s, hnn, hp0, hp1⟩
  refine c_seq fun K6 hK6 => ?_
  refine c_region ?_
  refine s_pure h (ru_lss (h.ev rfl) (h.ev rfl)) rfl ?_; intro f h
  refine s_nil ?_
  refine hK6 _ _ ?_
  refine c_seq fun K7 hK7 => ?_
  refine c_cond h rfl (fun hc => ?_) (fun hc => ?_)
  · replace hc := of_decide_eq_true hc
    refine wpIn_skip ?_
    refine hK7 _ _ ?_
    refine c_seq fun K8 hK8 => ?_
    refine wpIn_block ?_
    refine c_seq fun K9 hK9 => ?_
    refine c_region ?_
    have hkl : k < l.length := by omega
    refine s_pure h (ru_ixz (hR.keep s.ext) (k) Try.underlying22 szo58 (h.ev rfl) (h.ev rfl) (by omega) (by omega)) rfl ?_; intro f h
    refine s_load_at ((hR.keep s.ext).el (k) (by omega) (by decide) (D := tgArr (l.getD k zTg)) (tgr_el l k hkl)) h row58 rfl (tgArr_size _) rfl ?_; intro f h
    refine s_alloc (tgArr zTg) h s zero58 rfl rfl ?_; intro f w1 b12 h s
    refine s_store_row 0 h s row58 rfl rfl rfl (tgArr_size _) (tgArr_size _) (tgArr_ones _) ?_; intro w1 s
    refine s_nil ?_
    refine hK9 _ _ ?_
    refine c_seq fun K10 hK10 => ?_
    refine c_region ?_
    refine s_pure h (ru_move (h.ev rfl)) rfl ?_; intro f h
    refine s_load_row 0 h s row58 rfl rfl (tgArr_size _) rfl ?_; intro f h
    refine s_callV [.agg (tgArr (l.getD k zTg))] (caps := caps) h s hg rfl (hp _ s.ext _ (tg_mem hkl)) rfl rfl ?_; intro f w1 v22 hT hE h s; obtain rfl := hT
    refine s_pure h (ru_assign (h.ev rfl)) rfl ?_; intro f h
    refine s_nil ?_
    refine hK10 _ _ ?_
    refine c_seq fun K11 hK11 => ?_
    cases h0 : (decide (le ≤ m (l.getD k zTg)) : Bool)
    · skip
      refine c_region ?_
      refine s_pure h (ru_move (h.ev rfl)) rfl ?_; intro f h
      refine s_pure h (ru_move (h.ev rfl)) rfl ?_; intro f h
      refine s_pure h (ru_val (.bool false) (ru_geq (h.ev rfl) (h.ev rfl)) (congrArg Value.bool h0)) rfl ?_; intro f h
      refine s_pure h (ru_move (h.ev rfl)) rfl ?_; intro f h
      refine s_off (b := true) h rfl rfl rfl rfl ?_; intro f h
      refine s_off (b := true) h rfl rfl rfl rfl ?_; intro f h
      refine s_off (b := true) h rfl rfl rfl rfl ?_; intro f h
      refine s_none h rfl rfl rfl rfl ?_; intro f h
      refine s_none h rfl rfl rfl rfl ?_; intro f h
      refine s_none h rfl rfl rfl rfl ?_; intro f h
      refine s_off (b := true) h rfl rfl rfl rfl ?_; intro f h
      refine s_pure h (ru_pick_f (h.ev rfl) (h.ev rfl)) rfl ?_; intro f h
      refine s_nil ?_
      refine hK11 _ _ ?_
      refine wpIn_cond_false (h.ev rfl) ?_
      refine wpIn_skip ?_
      refine b_norm ?_
      refine hK8 _ _ ?_
      refine c_region ?_
      refine s_pure h (ru_add (h.ev rfl) (h.ev rfl) (by omega)) rfl ?_; intro f h
      refine s_pure h (ru_move (h.ev rfl)) rfl ?_; intro f h
      refine s_nil ?_
      refine t_norm ?_
      exact ⟨_, by omega, ⟨k + 1, z, mo, bi, h.only ⟨rfl, rfl, rfl, rfl, rfl, rfl, rfl, rfl, rfl, slot_int rfl (by omega), trivial⟩, St.as (s.pick _ (List.sublist_append_right [_] _)) ⟨rfl, rfl, trivial⟩, rfl, by omega, fm_n hp1 (by rw [h0]; rfl)⟩⟩
    · skip
      cases h1 : (bi : Bool)
      · skip
        refine c_region ?_
        refine s_pure h (ru_move (h.ev rfl)) rfl ?_; intro f h
        refine s_pure h (ru_move (h.ev rfl)) rfl ?_; intro f h
        refine s_pure h (ru_val (.bool true) (ru_geq (h.ev rfl) (h.ev rfl)) (congrArg Value.bool h0)) rfl ?_; intro f h
        refine s_pure h (ru_move (h.ev rfl)) rfl ?_; intro f h
        refine s_on h rfl rfl rfl ?_
        refine s_pure h (ru_val (.bool false) (ru_move (h.ev rfl)) (congrArg Value.bool h1)) rfl ?_; intro f h
        refine s_on h rfl rfl rfl ?_
        refine s_pure h (ru_val (.bool true) (ru_not (h.ev rfl)) rfl) rfl ?_; intro f h
        refine s_on h rfl rfl rfl ?_
        refine s_pure h (ru_move (h.ev rfl)) rfl ?_; intro f h
        refine s_off (b := false) h rfl rfl rfl rfl ?_; intro f h
        refine s_off (b := false) h rfl rfl rfl rfl ?_; intro f h
        refine s_off (b := false) h rfl rfl rfl rfl ?_; intro f h
        refine s_on h rfl rfl rfl ?_
        refine s_pure h (ru_pick_t (h.ev rfl) (h.ev rfl)) rfl ?_; intro f h
        refine s_pure h (ru_pick_t (h.ev rfl) (h.ev rfl)) rfl ?_; intro f h
        refine s_nil ?_
        refine hK11 _ _ ?_
        refine wpIn_cond_true (h.ev rfl) ?_
        refine c_region ?_
        refine s_load_row 0 h s row58 rfl rfl (tgArr_size _) rfl ?_; intro f h
        refine s_pure h (ru_move (h.ev rfl)) rfl ?_; intro f h
        refine s_store_row 1 h s row58 rfl rfl rfl (tgArr_size _) (tgArr_size _) (tgArr_ones _) ?_; intro w1 s
        refine s_pure h (ru_assign (h.ev rfl)) rfl ?_; intro f h
        refine s_pure h (ru_assign (h.ev rfl)) rfl ?_; intro f h
        refine s_nil ?_
        refine b_norm ?_
        refine hK8 _ _ ?_
        refine c_region ?_
        refine s_pure h (ru_add (h.ev rfl) (h.ev rfl) (by omega)) rfl ?_; intro f h
        refine s_pure h (ru_move (h.ev rfl)) rfl ?_; intro f h
        refine s_nil ?_
        refine t_norm ?_
        exact ⟨_, by omega, ⟨k + 1, (l.getD k zTg), (m (l.getD k zTg)), true, h.only ⟨rfl, rfl, rfl, rfl, rfl, rfl, rfl, rfl, rfl, slot_int rfl (by omega), trivial⟩, St.as (s.pick _ (List.sublist_append_right [_] _)) ⟨rfl, rfl, trivial⟩, rfl, by omega, fm_y hp1 h0 (by rw [h1]; rfl)⟩⟩
      · skip
        cases h2 : (decide (mo < m (l.getD k zTg)) : Bool)
        · skip
          refine c_region ?_
          refine s_pure h (ru_move (h.ev rfl)) rfl ?_; intro f h
          refine s_pure h (ru_move (h.ev rfl)) rfl ?_; intro f h
          refine s_pure h (ru_val (.bool true) (ru_geq (h.ev rfl) (h.ev rfl)) (congrArg Value.bool h0)) rfl ?_; intro f h
          refine s_pure h (ru_move (h.ev rfl)) rfl ?_; intro f h
          refine s_on h rfl rfl rfl ?_
          refine s_pure h (ru_val (.bool true) (ru_move (h.ev rfl)) (congrArg Value.bool h1)) rfl ?_; intro f h
          refine s_on h rfl rfl rfl ?_
          refine s_pure h (ru_val (.bool false) (ru_not (h.ev rfl)) rfl) rfl ?_; intro f h
          refine s_on h rfl rfl rfl ?_
          refine s_pure h (ru_move (h.ev rfl)) rfl ?_; intro f h
          refine s_on h rfl rfl rfl ?_
          refine s_pure h (ru_move (h.ev rfl)) rfl ?_; intro f h
          refine s_on h rfl rfl rfl ?_
          refine s_pure h (ru_move (h.ev rfl)) rfl ?_; intro f h
          refine s_on h rfl rfl rfl ?_
          refine s_pure h (ru_val (.bool false) (ru_gtr (h.ev rfl) (h.ev rfl)) (congrArg Value.bool h2)) rfl ?_; intro f h
          refine s_on h rfl rfl rfl ?_
          refine s_pure h (ru_pick_f (h.ev rfl) (h.ev rfl)) rfl ?_; intro f h
          refine s_pure h (ru_pick_t (h.ev rfl) (h.ev rfl)) rfl ?_; intro f h
          refine s_nil ?_
          refine hK11 _ _ ?_
          refine wpIn_cond_false (h.ev rfl) ?_
          refine wpIn_skip ?_
          refine b_norm ?_
          refine hK8 _ _ ?_
          refine c_region ?_
          refine s_pure h (ru_add (h.ev rfl) (h.ev rfl) (by omega)) rfl ?_; intro f h
          refine s_pure h (ru_move (h.ev rfl)) rfl ?_; intro f h
          refine s_nil ?_
          refine t_norm ?_
          exact ⟨_, by omega, ⟨k + 1, z, mo, bi, h.only ⟨rfl, rfl, rfl, rfl, rfl, rfl, rfl, rfl, rfl, slot_int rfl (by omega), trivial⟩, St.as (s.pick _ (List.sublist_append_right [_] _)) ⟨rfl, rfl, trivial⟩, rfl, by omega, fm_n hp1 (by rw [h0, h1, h2]; rfl)⟩⟩
        · skip
          refine c_region ?_
          refine s_pure h (ru_move (h.ev rfl)) rfl ?_; intro f h
          refine s_pure h (ru_move (h.ev rfl)) rfl ?_; intro f h
          refine s_pure h (ru_val (.bool true) (ru_geq (h.ev rfl) (h.ev rfl)) (congrArg Value.bool h0)) rfl ?_; intro f h
          refine s_pure h (ru_move (h.ev rfl)) rfl ?_; intro f h
          refine s_on h rfl rfl rfl ?_
          refine s_pure h (ru_val (.bool true) (ru_move (h.ev rfl)) (congrArg Value.bool h1)) rfl ?_; intro f h
          refine s_on h rfl rfl rfl ?_
          refine s_pure h (ru_val (.bool false) (ru_not (h.ev rfl)) rfl) rfl ?_; intro f h
          refine s_on h rfl rfl rfl ?_
          refine s_pure h (ru_move (h.ev rfl)) rfl ?_; intro f h
          refine s_on h rfl rfl rfl ?_
          refine s_pure h (ru_move (h.ev rfl)) rfl ?_; intro f h
          refine s_on h rfl rfl rfl ?_
          refine s_pure h (ru_move (h.ev rfl)) rfl ?_; intro f h
          refine s_on h rfl rfl rfl ?_
          refine s_pure h (ru_val (.bool true) (ru_gtr (h.ev rfl) (h.ev rfl)) (congrArg Value.bool h2)) rfl ?_; intro f h
          refine s_on h rfl rfl rfl ?_
          refine s_pure h (ru_pick_f (h.ev rfl) (h.ev rfl)) rfl ?_; intro f h
          refine s_pure h (ru_pick_t (h.ev rfl) (h.ev rfl)) rfl ?_; intro f h
          refine s_nil ?_
          refine hK11 _ _ ?_
          refine wpIn_cond_true (h.ev rfl) ?_
          refine c_region ?_
          refine s_load_row 0 h s row58 rfl rfl (tgArr_size _) rfl ?_; intro f h
          refine s_pure h (ru_move (h.ev rfl)) rfl ?_; intro f h
          refine s_store_row 1 h s row58 rfl rfl rfl (tgArr_size _) (tgArr_size _) (tgArr_ones _) ?_; intro w1 s
          refine s_pure h (ru_assign (h.ev rfl)) rfl ?_; intro f h
          refine s_pure h (ru_assign (h.ev rfl)) rfl ?_; intro f h
          refine s_nil ?_
          refine b_norm ?_
          refine hK8 _ _ ?_
          refine c_region ?_
          refine s_pure h (ru_add (h.ev rfl) (h.ev rfl) (by omega)) rfl ?_; intro f h
          refine s_pure h (ru_move (h.ev rfl)) rfl ?_; intro f h
          refine s_nil ?_
          refine t_norm ?_
          exact ⟨_, by omega, ⟨k + 1, (l.getD k zTg), (m (l.getD k zTg)), true, h.only ⟨rfl, rfl, rfl, rfl, rfl, rfl, rfl, rfl, rfl, slot_int rfl (by omega), trivial⟩, St.as (s.pick _ (List.sublist_append_right [_] _)) ⟨rfl, rfl, trivial⟩, rfl, by omega, fm_y hp1 h0 (by rw [h1, h2]; rfl)⟩⟩
  · replace hc := of_decide_eq_false hc
    refine wpIn_exit ?_
    refine t_exit ?_
    refine t_exit ?_
    refine b_exit ?_
    refine hK4 _ _ ?_
    refine c_seq fun K12 hK12 => ?_
    refine c_region ?_
    refine s_load_row 0 h s row58 rfl rfl (tgArr_size _) rfl ?_; intro f h
    refine s_pure h (ru_move (h.ev rfl)) rfl ?_; intro f h
    refine s_store_row 1 h s row58 rfl rfl rfl (tgArr_size _) (tgArr_size _) (tgArr_ones _) ?_; intro w1 s
    refine s_pure h (ru_assign (h.ev rfl)) rfl ?_; intro f h
    refine s_nil ?_
    refine hK12 _ _ ?_
    refine wpIn_ret ?_
    exact e_row_tmp 1 rfl h s row58 rfl rfl (tgArr_size _) rfl (by obtain rfl : k = l.length := (by omega); show _ = _; rw [← hp1])

theorem tmat1_any (y : Tg) (x : Id) (bx : Nat) (w : World) (hb : Tab w bx (idArr x)) : Calls Try.prog 39 [.agg (tgArr y), .pointer (some ⟨bx, 0, none⟩)].toArray w (Ret w (is (.int .i64 (lkM x y)))) := by
  refine c_enter Try.func39 rfl Try.ntmps39 rfl [(0, .agg (tgArr y)), (1, .pointer (some ⟨bx, 0, none⟩))] (by simp) fun f h => ?_
  have s := St.start w
  refine c_seq fun K1 hK1 => ?_
  refine c_region ?_
  refine s_box (tgArr y) h s rfl rfl rfl ?_; intro f w1 b2 h s
  refine s_pure h (ru_assign (h.ev rfl)) rfl ?_; intro f h
  refine s_nil ?_
  refine hK1 _ _ ?_
  refine c_seq fun K2 hK2 => ?_
  refine c_region ?_
  refine s_pure h (ru_field fld58_0 (h.ev rfl)) rfl ?_; intro f h
  refine s_load_at (Has.subL (Has.of_own s 0 rfl) 0 32 (D := idArr (_)) (tgArr_id _)) h row42 rfl (by first | exact idArr_size _ | exact bytesF_size _ _) rfl ?_; intro f h
  refine s_load_at (Has.subL (Has.of_tab (hb.keep s.ext)) 0 32 (D := idArr x) (idArr_ext _)) h row42 rfl (by first | exact idArr_size _ | exact bytesF_size _ _) rfl ?_; intro f h
  refine s_call h s fnc40 (common_any y.1 x _) rfl rfl ?_; intro f w1 v9 hT hE h s; obtain rfl := hT
  refine s_pure h (ru_assign (h.ev rfl)) rfl ?_; intro f h
  refine s_nil ?_
  refine hK2 _ _ ?_
  refine wpIn_ret ?_
  exact e_tmp rfl h s rfl (rfl)

theorem tmat2_any (y z : Tg) (bx : Nat) (w : World) (hb : Tab w bx (tgArr z)) : Calls Try.prog 43 [.agg (tgArr y), .pointer (some ⟨bx, 0, none⟩)].toArray w (Ret w (is (.bool (decide (y.1 = z.1))))) := by
  refine c_enter Try.func43 rfl Try.ntmps43 rfl [(0, .agg (tgArr y)), (1, .pointer (some ⟨bx, 0, none⟩))] (by simp) fun f h => ?_
  have s := St.start w
  refine c_seq fun K1 hK1 => ?_
  refine c_region ?_
  refine s_box (tgArr y) h s rfl rfl rfl ?_; intro f w1 b2 h s
  refine s_pure h (ru_assign (h.ev rfl)) rfl ?_; intro f h
  refine s_nil ?_
  refine hK1 _ _ ?_
  refine c_seq fun K2 hK2 => ?_
  refine c_region ?_
  refine s_pure h (ru_field fld58_0 (h.ev rfl)) rfl ?_; intro f h
  refine s_load_at (Has.subL (Has.of_own s 0 rfl) 0 32 (D := idArr (_)) (tgArr_id _)) h row42 rfl (by first | exact idArr_size _ | exact bytesF_size _ _) rfl ?_; intro f h
  refine s_pure h (ru_field fld58_0 (h.ev rfl)) rfl ?_; intro f h
  refine s_load_at (Has.subL (Has.of_tab (hb.keep s.ext)) 0 32 (D := idArr z.1) (tgArr_id _)) h row42 rfl (by first | exact idArr_size _ | exact bytesF_size _ _) rfl ?_; intro f h
  refine s_pure h (ru_eql_id idTy (h.ev rfl) (h.ev rfl)) rfl ?_; intro f h
  refine s_pure h (ru_assign (h.ev rfl)) rfl ?_; intro f h
  refine s_nil ?_
  refine hK2 _ _ ?_
  refine wpIn_ret ?_
  exact e_tmp rfl h s rfl (rfl)

theorem tmatch_any (l : List Tg) (vh : Value) (x : Id) (w : World) (hR : RdZ w vh 67 l.length (tgCells l)) (hln : l.length ≤ 1000) : Calls Try.prog 18 [vh, idV x].toArray w (Ret w (TbP w vh l (mtL l x) (mtE l x))) := by
  refine c_enter Try.func18 rfl Try.ntmps18 rfl [(0, vh), (1, idV x)] (by simp) fun f h => ?_
  have s := St.start w
  refine c_seq fun K1 hK1 => ?_
  refine c_region ?_
  refine s_box (idArr x) h s rfl rfl rfl ?_; intro f w1 b3 h s
  refine s_pure h (ru_assign (h.ev rfl)) rfl ?_; intro f h
  refine s_pure h (ru_assign (h.ev rfl)) rfl ?_; intro f h
  refine s_nil ?_
  refine hK1 _ _ ?_
  refine c_seq fun K2 hK2 => ?_
  refine c_seq fun K3 hK3 => ?_
  cases r0 : (rightT l : Bool)
  · skip
    refine c_region ?_
    refine s_pure h (ru_move (h.ev rfl)) rfl ?_; intro f h
    refine s_call h s fnc20 (ret_val (.bool false) (tright_any l vh _ (hR.keep s.ext) hln) (congrArg Value.bool r0)) rfl rfl ?_; intro f w1 v9 hT hE h s; obtain rfl := hT
    refine s_pure h (ru_val (.bool true) (ru_not (h.ev rfl)) rfl) rfl ?_; intro f h
    refine s_nil ?_
    refine hK3 _ _ ?_
    refine wpIn_cond_true (h.ev rfl) ?_
    refine c_seq fun K4 hK4 => ?_
    refine c_region ?_
    refine s_pure h (ru_assign (h.ev rfl)) rfl ?_; intro f h
    refine s_pure h (ru_assign (h.ev rfl)) rfl ?_; intro f h
    refine s_nil ?_
    refine hK4 _ _ ?_
    refine wpIn_ret ?_
    refine t_ret ?_
    exact e_tmps rfl h s rfl rfl (tbP_nil (tm_n r0 x).1 (tm_n r0 x).2 (s.sel [] rfl (by decide)))
  · skip
    refine c_region ?_
    refine s_pure h (ru_move (h.ev rfl)) rfl ?_; intro f h
    refine s_call h s fnc20 (ret_val (.bool true) (tright_any l vh _ (hR.keep s.ext) hln) (congrArg Value.bool r0)) rfl rfl ?_; intro f w1 v9 hT hE h s; obtain rfl := hT
    refine s_pure h (ru_val (.bool false) (ru_not (h.ev rfl)) rfl) rfl ?_; intro f h
    refine s_nil ?_
    refine hK3 _ _ ?_
    refine wpIn_cond_false (h.ev rfl) ?_
    refine wpIn_skip ?_
    refine hK2 _ _ ?_
    refine c_seq fun K5 hK5 => ?_
    refine c_region ?_
    refine s_pure h (ru_makeFunc [.pointer (some ⟨b3, 0, none⟩)] (evsA h rfl)) rfl ?_; intro f h
    refine s_pure h (ru_assign (h.ev rfl)) rfl ?_; intro f h
    refine s_nil ?_
    refine hK5 _ _ ?_
    refine c_seq fun K6 hK6 => ?_
    cases hi : ((lkS l x).2.2 : Bool)
    · skip
      refine c_region ?_
      refine s_pure h (ru_move (h.ev rfl)) rfl ?_; intro f h
      refine s_pure h (ru_move (h.ev rfl)) rfl ?_; intro f h
      refine s_call h s fnc41 (tfirst_any l vh 39 [.pointer (some ⟨b3, 0, none⟩)] (lkM x) 128 _ (hR.keep s.ext) hln fnc39 (fun w9 h9 y _ => tmat1_any y x b3 w9 ((Tab.of_own s 0 rfl).keep h9))) rfl rfl ?_; intro f w1 v16 hT hE h s; obtain rfl := hT
      refine s_pure h (ru_move (h.ev rfl)) rfl ?_; intro f h
      refine s_pure h (ru_extract (h.ev rfl) rfl) rfl ?_; intro f h
      refine s_pure h (ru_val (.bool false) (ru_extract (h.ev rfl) rfl) (congrArg Value.bool hi)) rfl ?_; intro f h
      refine s_alloc (tgArr zTg) h s zero58 rfl rfl ?_; intro f w1 b7 h s
      refine s_store_row 0 h s row58 rfl rfl rfl (tgArr_size _) (tgArr_size _) (tgArr_ones _) ?_; intro w1 s
      refine s_pure h (ru_assign (h.ev rfl)) rfl ?_; intro f h
      refine s_nil ?_
      refine hK6 _ _ ?_
      refine c_seq fun K7 hK7 => ?_
      refine c_seq fun K8 hK8 => ?_
      refine c_region ?_
      refine s_pure h (ru_move (h.ev rfl)) rfl ?_; intro f h
      refine s_pure h (ru_val (.bool true) (ru_not (h.ev rfl)) rfl) rfl ?_; intro f h
      refine s_nil ?_
      refine hK8 _ _ ?_
      refine wpIn_cond_true (h.ev rfl) ?_
      refine c_seq fun K9 hK9 => ?_
      refine c_region ?_
      refine s_pure h (ru_assign (h.ev rfl)) rfl ?_; intro f h
      refine s_pure h (ru_assign (h.ev rfl)) rfl ?_; intro f h
      refine s_nil ?_
      refine hK9 _ _ ?_
      refine wpIn_ret ?_
      refine t_ret ?_
      exact e_tmps rfl h s rfl rfl (tbP_nil ((mt_like r0 x).1 hi).1 ((mt_like r0 x).1 hi).2 (s.sel [] rfl (by decide)))
    · skip
      refine c_region ?_
      refine s_pure h (ru_move (h.ev rfl)) rfl ?_; intro f h
      refine s_pure h (ru_move (h.ev rfl)) rfl ?_; intro f h
      refine s_call h s fnc41 (tfirst_any l vh 39 [.pointer (some ⟨b3, 0, none⟩)] (lkM x) 128 _ (hR.keep s.ext) hln fnc39 (fun w9 h9 y _ => tmat1_any y x b3 w9 ((Tab.of_own s 0 rfl).keep h9))) rfl rfl ?_; intro f w1 v16 hT hE h s; obtain rfl := hT
      refine s_pure h (ru_move (h.ev rfl)) rfl ?_; intro f h
      refine s_pure h (ru_extract (h.ev rfl) rfl) rfl ?_; intro f h
      refine s_pure h (ru_val (.bool true) (ru_extract (h.ev rfl) rfl) (congrArg Value.bool hi)) rfl ?_; intro f h
      refine s_alloc (tgArr zTg) h s zero58 rfl rfl ?_; intro f w1 b7 h s
      refine s_store_row 0 h s row58 rfl rfl rfl (tgArr_size _) (tgArr_size _) (tgArr_ones _) ?_; intro w1 s
      refine s_pure h (ru_assign (h.ev rfl)) rfl ?_; intro f h
      refine s_nil ?_
      refine hK6 _ _ ?_
      refine c_seq fun K10 hK10 => ?_
      refine c_seq fun K11 hK11 => ?_
      refine c_region ?_
      refine s_pure h (ru_move (h.ev rfl)) rfl ?_; intro f h
      refine s_pure h (ru_val (.bool false) (ru_not (h.ev rfl)) rfl) rfl ?_; intro f h
      refine s_nil ?_
      refine hK11 _ _ ?_
      refine wpIn_cond_false (h.ev rfl) ?_
      refine wpIn_skip ?_
      refine hK10 _ _ ?_
      refine c_seq fun K12 hK12 => ?_
      refine c_region ?_
      refine s_pure h (ru_move (h.ev rfl)) rfl ?_; intro f h
      refine s_pure h (ru_makeFunc [.pointer (some ⟨b7, 0, none⟩)] (evsA h rfl)) rfl ?_; intro f h
      refine s_call h s fnc42 (tonly_any l vh 43 [.pointer (some ⟨b7, 0, none⟩)] ((fun y => decide (y.1 = (lkS l x).1.1))) _ (hR.keep s.ext) hln fnc43 (fun w9 h9 y _ => tmat2_any y (lkS l x).1 b7 w9 ((Tab.of_own s 0 rfl).keep h9))) rfl rfl ?_; intro f w1 v23 hT hE h sq; replace s := s.sl_new hE hT
      refine s_pure h (ru_assign (h.ev rfl)) rfl ?_; intro f h
      refine s_pure h (ru_assign (h.ev rfl)) rfl ?_; intro f h
      refine s_nil ?_
      refine hK12 _ _ ?_
      refine wpIn_ret ?_
      exact e_tmps rfl h s rfl rfl (tbP_own ((mt_like r0 x).2 hi).1 ((mt_like r0 x).2 hi).2 (s.sel [0] rfl (by decide)))
end Go.Proofs.Ytdehanjhphfanaa
