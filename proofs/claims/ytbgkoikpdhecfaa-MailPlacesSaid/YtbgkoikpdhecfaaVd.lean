/- What MailPlaces answers: for all arguments. -/
import Derived.Test.YtbgkoikpdhecfaaVb
set_option linter.unusedVariables false
set_option linter.unusedSimpArgs false
set_option linter.unusedSectionVars false
namespace Go.Proofs.Ytbgkoikpdhecfaa
open Go.RowKit
set_option maxHeartbeats 4000000 in
theorem mplaces_any (m : Ml) (v9 : Value) (p : Int) (hpb : -9223372036854775808 ≤ p ∧ p ≤ 9223372036854775807) (w : World) (hR : RdZ w v9 4 m.l.length (ltCells m.l)) : Calls Try.prog 4 [.agg (mlArr m v9), .int .i64 p].toArray w (Ret w (is (.bool true))) := by
  obtain ⟨M9, hM9⟩ : ∃ x9, x9 = fewM m := ⟨_, rfl⟩
  have hml : M9.l.length ≤ 66 := by rw [hM9]; exact few_len m
  refine c_enter Try.func4 rfl Try.ntmps4 rfl [(0, .agg (mlArr m v9)), (1, .int .i64 p)] (by simp) fun f h => ?_
  have s := St.start w
  refine c_seq fun K1 hK1 => ?_
  refine c_region ?_
  refine s_box ((mlArr m v9)) h s rfl rfl rfl ?_; intro f w1 b2 h s
  refine s_pure h (ru_assign (h.ev rfl)) rfl ?_; intro f h
  refine s_nil ?_
  refine hK1 _ _ ?_
  refine c_seq fun K2 hK2 => ?_
  refine c_region ?_
  refine s_load_row 0 h s row24 rfl rfl (rfl) rfl ?_; intro f h
  refine s_call h s fnc7 (few_any m v9 _ (hR.keep s.ext)) rfl rfl ?_; rintro f w1 v21 ⟨vf, rfl, hvf⟩ hE h sq
  rw [← hM9] at hvf h
  replace s := s.sl_new hE hvf
  refine s_store_row 1 h s row24 rfl rfl rfl (rfl) (rfl) (mlArr_ones _ _ (own_one (s.getSl 0 rfl))) ?_; intro w1 s
  refine s_nil ?_
  refine hK2 _ _ ?_
  refine c_seq fun K3 hK3 => ?_
  refine c_region ?_
  refine s_load_row 1 h s row24 rfl rfl (rfl) rfl ?_; intro f h
  refine s_pure h (ru_move (h.ev rfl)) rfl ?_; intro f h
  refine s_call h s fnc14 (take_any M9 vf p _ (RdZ.of_own (s.getSl 0 rfl)) (by omega)) rfl rfl ?_; rintro f w1 v25 ⟨va, rfl, hva⟩ hE h sq
  replace s := s.sl_new hE hva
  refine s_pure h (ru_move (h.ev rfl)) rfl ?_; intro f h
  refine s_pure h (ru_extract (h.ev rfl) rfl) rfl ?_; intro f h
  refine s_pure h (ru_extract (h.ev rfl) rfl) rfl ?_; intro f h
  refine s_pure h (ru_extract (h.ev rfl) rfl) rfl ?_; intro f h
  refine s_alloc (mlArr zMl (.slice none 0 0)) h s zero24 rfl rfl ?_; intro f w1 b5 h s
  refine s_alloc (ltArr zLt) h s zero35 rfl rfl ?_; intro f w1 b6 h s
  refine s_store_row 1 h s row24 rfl rfl rfl (rfl) (rfl) (mlArr_ones _ _ (own_one (s.getSl 2 rfl))) ?_; intro w1 s
  refine s_store_row 0 h s row35 rfl rfl rfl (rfl) (rfl) (ltArr_ones _) ?_; intro w1 s
  refine s_pure h (ru_assign (h.ev rfl)) rfl ?_; intro f h
  refine s_nil ?_
  refine hK3 _ _ ?_
  refine c_seq fun K4 hK4 => ?_
  refine c_region ?_
  refine s_load_row 4 h s row24 rfl rfl (rfl) rfl ?_; intro f h
  refine s_pure h (ru_move (h.ev rfl)) rfl ?_; intro f h
  refine s_call h s fnc15 (twice_any M9 vf p _ (RdZ.of_own (s.getSl 3 rfl)) (by omega)) rfl rfl ?_; rintro f w1 v32 ⟨vb, rfl, hvb⟩ hE h sq
  replace s := s.sl_new hE hvb
  refine s_pure h (ru_move (h.ev rfl)) rfl ?_; intro f h
  refine s_pure h (ru_extract (h.ev rfl) rfl) rfl ?_; intro f h
  refine s_pure h (ru_extract (h.ev rfl) rfl) rfl ?_; intro f h
  refine s_alloc (mlArr zMl (.slice none 0 0)) h s zero24 rfl rfl ?_; intro f w1 b8 h s
  refine s_store_row 0 h s row24 rfl rfl rfl (rfl) (rfl) (mlArr_ones _ _ (own_one (s.getSl 1 rfl))) ?_; intro w1 s
  refine s_pure h (ru_assign (h.ev rfl)) rfl ?_; intro f h
  refine s_nil ?_
  refine hK4 _ _ ?_
  refine c_seq fun K5 hK5 => ?_
  refine c_region ?_
  refine s_load_row 6 h s row24 rfl rfl (rfl) rfl ?_; intro f h
  refine s_pure h (ru_move (h.ev rfl)) rfl ?_; intro f h
  refine s_call h s fnc16 (lose_any M9 vf p _ (RdZ.of_own (s.getSl 5 rfl)) (by omega)) rfl rfl ?_; rintro f w1 v38 ⟨vc, rfl, hvc⟩ hE h sq
  replace s := s.sl_new hE hvc
  refine s_pure h (ru_move (h.ev rfl)) rfl ?_; intro f h
  refine s_pure h (ru_extract (h.ev rfl) rfl) rfl ?_; intro f h
  refine s_pure h (ru_extract (h.ev rfl) rfl) rfl ?_; intro f h
  refine s_alloc (mlArr zMl (.slice none 0 0)) h s zero24 rfl rfl ?_; intro f w1 b10 h s
  refine s_store_row 0 h s row24 rfl rfl rfl (rfl) (rfl) (mlArr_ones _ _ (own_one (s.getSl 1 rfl))) ?_; intro w1 s
  refine s_pure h (ru_assign (h.ev rfl)) rfl ?_; intro f h
  refine s_nil ?_
  refine hK5 _ _ ?_
  refine c_seq fun K6 hK6 => ?_
  refine c_region ?_
  refine s_load_row 8 h s row24 rfl rfl (rfl) rfl ?_; intro f h
  refine s_pure h (ru_move (h.ev rfl)) rfl ?_; intro f h
  refine s_call h s fnc17 (last_any M9 vf p _ (RdZ.of_own (s.getSl 7 rfl)) (by omega)) rfl rfl ?_; rintro f w1 v44 ⟨vd, rfl, hvd⟩ hE h sq
  replace s := s.sl_new hE hvd
  refine s_pure h (ru_move (h.ev rfl)) rfl ?_; intro f h
  refine s_pure h (ru_extract (h.ev rfl) rfl) rfl ?_; intro f h
  refine s_pure h (ru_extract (h.ev rfl) rfl) rfl ?_; intro f h
  refine s_alloc (mlArr zMl (.slice none 0 0)) h s zero24 rfl rfl ?_; intro f w1 b12 h s
  refine s_store_row 0 h s row24 rfl rfl rfl (rfl) (rfl) (mlArr_ones _ _ (own_one (s.getSl 1 rfl))) ?_; intro w1 s
  refine s_pure h (ru_assign (h.ev rfl)) rfl ?_; intro f h
  refine s_nil ?_
  refine hK6 _ _ ?_
  refine c_seq fun K7 hK7 => ?_
  refine c_region ?_
  refine s_pure h (ru_build_ml0 sttM) rfl ?_; intro f h
  refine s_alloc (mlArr zMl (.slice none 0 0)) h s zero24 rfl rfl ?_; intro f w1 b14 h s
  refine s_store_row 0 h s row24 rfl rfl rfl (rfl) (rfl) (mlArr_ones _ _ rfl) ?_; intro w1 s
  refine s_nil ?_
  refine hK7 _ _ ?_
  refine c_seq fun K8 hK8 => ?_
  refine c_region ?_
  refine s_pure h (ru_assign (h.ev rfl)) rfl ?_; intro f h
  refine s_nil ?_
  refine hK8 _ _ ?_
  refine c_seq fun K9 hK9 => ?_
  refine c_seq fun K10 hK10 => ?_
  cases hr : (rightL M9 : Bool)
  · skip
    refine c_region ?_
    refine s_load_row 11 h s row24 rfl rfl (rfl) rfl ?_; intro f h
    refine s_call h s fnc11 (ret_val (.bool false) (lright_any M9 vf _ (RdZ.of_own (s.getSl 10 rfl)) (by omega)) (congrArg Value.bool hr)) rfl rfl ?_; intro f w1 v9 hT hE h s; obtain rfl := hT
    refine s_pure h (ru_val (.bool true) (ru_not (h.ev rfl)) rfl) rfl ?_; intro f h
    refine s_nil ?_
    refine hK10 _ _ ?_
    refine wpIn_cond_true (h.ev rfl) ?_
    refine c_region ?_
    refine s_pure h (ru_assign (h.ev rfl)) rfl ?_; intro f h
    refine s_nil ?_
    refine hK9 _ _ ?_
    refine c_seq fun K11 hK11 => ?_
    refine c_seq fun K12 hK12 => ?_
    refine c_region ?_
    refine s_call h s fnc12 (alive_any _) rfl rfl ?_; intro f w1 v9 hT hE h s; obtain rfl := hT
    refine s_pure h (ru_val (.bool false) (ru_not (h.ev rfl)) rfl) rfl ?_; intro f h
    refine s_nil ?_
    refine hK12 _ _ ?_
    refine wpIn_cond_false (h.ev rfl) ?_
    refine wpIn_skip ?_
    refine hK11 _ _ ?_
    refine c_seq fun K13 hK13 => ?_
    refine c_seq fun K14 hK14 => ?_
    refine c_region ?_
    refine s_pure h (ru_move (h.ev rfl)) rfl ?_; intro f h
    refine s_pure h (ru_val (.bool true) (ru_neq (h.ev rfl) (h.ev rfl)) (congrArg Value.bool (decide_eq_true (by decide)))) rfl ?_; intro f h
    refine s_nil ?_
    refine hK14 _ _ ?_
    refine wpIn_cond_true (h.ev rfl) ?_
    refine c_seq fun K15 hK15 => ?_
    refine c_region ?_
    have e0 : atE M9 p = 1 := atE_bad p hr
    have e0n : atE M9 p ≠ 0 := by omega
    have e1 : twE M9 p = 1 := (twE_no e0n).trans e0
    have e2 := take_no e0n
    have e3 := twM_no e0n
    have e4 := lastM_no e0n
    have e5 := atL_no e0n
    refine s_pure h (ru_move (h.ev rfl)) rfl ?_; intro f h
    refine s_pure h (ru_move (h.ev rfl)) rfl ?_; intro f h
    refine s_pure h (ru_val (.bool true) (ru_eql (h.ev rfl) (h.ev rfl)) (congrArg Value.bool (decide_eq_true (e0)))) rfl ?_; intro f h
    refine s_pure h (ru_move (h.ev rfl)) rfl ?_; intro f h
    refine s_on h rfl rfl rfl ?_
    refine s_pure h (ru_move (h.ev rfl)) rfl ?_; intro f h
    refine s_on h rfl rfl rfl ?_
    refine s_pure h (ru_move (h.ev rfl)) rfl ?_; intro f h
    refine s_on h rfl rfl rfl ?_
    refine s_pure h (ru_val (.bool true) (ru_eql (h.ev rfl) (h.ev rfl)) (congrArg Value.bool (decide_eq_true (e1)))) rfl ?_; intro f h
    refine s_pure h (ru_pick_t (h.ev rfl) (h.ev rfl)) rfl ?_; intro f h
    refine s_pure h (ru_move (h.ev rfl)) rfl ?_; intro f h
    refine s_on h rfl rfl rfl ?_
    refine s_pure h (ru_move (h.ev rfl)) rfl ?_; intro f h
    refine s_on h rfl rfl rfl ?_
    refine s_pure h (ru_move (h.ev rfl)) rfl ?_; intro f h
    refine s_on h rfl rfl rfl ?_
    refine s_pure h (ru_val (.bool true) (ru_eql (h.ev rfl) (h.ev rfl)) (congrArg Value.bool (decide_eq_true (e0)))) rfl ?_; intro f h
    refine s_pure h (ru_pick_t (h.ev rfl) (h.ev rfl)) rfl ?_; intro f h
    refine s_pure h (ru_move (h.ev rfl)) rfl ?_; intro f h
    refine s_on h rfl rfl rfl ?_
    refine s_pure h (ru_move (h.ev rfl)) rfl ?_; intro f h
    refine s_on h rfl rfl rfl ?_
    refine s_pure h (ru_move (h.ev rfl)) rfl ?_; intro f h
    refine s_on h rfl rfl rfl ?_
    refine s_pure h (ru_val (.bool true) (ru_eql (h.ev rfl) (h.ev rfl)) (congrArg Value.bool (decide_eq_true (e0)))) rfl ?_; intro f h
    refine s_pure h (ru_pick_t (h.ev rfl) (h.ev rfl)) rfl ?_; intro f h
    refine s_pure h (ru_move (h.ev rfl)) rfl ?_; intro f h
    refine s_on h rfl rfl rfl ?_
    refine s_load_row 7 h s row35 rfl rfl (rfl) rfl ?_; intro f h
    refine s_on h rfl rfl rfl ?_
    refine s_pure h (ru_build_lt0 sttL) rfl ?_; intro f h
    refine s_on h rfl rfl rfl ?_
    refine s_pure h (ru_val (.bool true) (ru_eqlW (eqL _ _) (by kernel_rfl) (by decide) (h.ev rfl) (h.ev rfl) (decide (atL M9 p = zLt)) (ltEq _ _)) (congrArg Value.bool (decide_eq_true (e5)))) rfl ?_; intro f h
    refine s_pure h (ru_pick_t (h.ev rfl) (h.ev rfl)) rfl ?_; intro f h
    refine s_pure h (ru_move (h.ev rfl)) rfl ?_; intro f h
    refine s_on h rfl rfl rfl ?_
    refine s_load_row 8 h s row24 rfl rfl (rfl) rfl ?_; intro f h
    refine s_on h rfl rfl rfl ?_
    refine s_load_row 0 h s row24 rfl rfl (rfl) rfl ?_; intro f h
    refine s_on h rfl rfl rfl ?_
    refine s_call h s fnc13 (ret_val (.bool true) (like_any (takeM M9 p) (zMl) va (.slice none 0 0) _ ((RdZ.of_own (s.getSl 9 rfl))) (rd_nil4 _) (by have := take_len (n := 66) p hml; omega) (by decide)) (congrArg Value.bool (by rw [e2]; exact like_self _))) rfl rfl ?_; intro f w1 v9 hT hE h s; obtain rfl := hT
    refine s_pure h (ru_pick_t (h.ev rfl) (h.ev rfl)) rfl ?_; intro f h
    refine s_pure h (ru_move (h.ev rfl)) rfl ?_; intro f h
    refine s_on h rfl rfl rfl ?_
    refine s_load_row 5 h s row24 rfl rfl (rfl) rfl ?_; intro f h
    refine s_on h rfl rfl rfl ?_
    refine s_load_row 0 h s row24 rfl rfl (rfl) rfl ?_; intro f h
    refine s_on h rfl rfl rfl ?_
    refine s_call h s fnc13 (ret_val (.bool true) (like_any (twM M9 p) (zMl) vb (.slice none 0 0) _ ((RdZ.of_own (s.getSl 6 rfl))) (rd_nil4 _) (by have := tw_len (p := p) hml; omega) (by decide)) (congrArg Value.bool (by rw [e3]; exact like_self _))) rfl rfl ?_; intro f w1 v9 hT hE h s; obtain rfl := hT
    refine s_pure h (ru_pick_t (h.ev rfl) (h.ev rfl)) rfl ?_; intro f h
    refine s_pure h (ru_move (h.ev rfl)) rfl ?_; intro f h
    refine s_on h rfl rfl rfl ?_
    refine s_load_row 3 h s row24 rfl rfl (rfl) rfl ?_; intro f h
    refine s_on h rfl rfl rfl ?_
    refine s_load_row 0 h s row24 rfl rfl (rfl) rfl ?_; intro f h
    refine s_on h rfl rfl rfl ?_
    refine s_call h s fnc13 (ret_val (.bool true) (like_any (takeM M9 p) (zMl) vc (.slice none 0 0) _ ((RdZ.of_own (s.getSl 4 rfl))) (rd_nil4 _) (by have := take_len (n := 66) p hml; omega) (by decide)) (congrArg Value.bool (by rw [e2]; exact like_self _))) rfl rfl ?_; intro f w1 v9 hT hE h s; obtain rfl := hT
    refine s_pure h (ru_pick_t (h.ev rfl) (h.ev rfl)) rfl ?_; intro f h
    refine s_pure h (ru_move (h.ev rfl)) rfl ?_; intro f h
    refine s_on h rfl rfl rfl ?_
    refine s_load_row 1 h s row24 rfl rfl (rfl) rfl ?_; intro f h
    refine s_on h rfl rfl rfl ?_
    refine s_load_row 0 h s row24 rfl rfl (rfl) rfl ?_; intro f h
    refine s_on h rfl rfl rfl ?_
    refine s_call h s fnc13 (ret_val (.bool true) (like_any (lastM M9 p) (zMl) vd (.slice none 0 0) _ ((RdZ.of_own (s.getSl 2 rfl))) (rd_nil4 _) (by have := last_len (p := p) hml; omega) (by decide)) (congrArg Value.bool (by rw [e4]; exact like_self _))) rfl rfl ?_; intro f w1 v9 hT hE h s; obtain rfl := hT
    refine s_pure h (ru_pick_t (h.ev rfl) (h.ev rfl)) rfl ?_; intro f h
    refine s_pure h (ru_assign (h.ev rfl)) rfl ?_; intro f h
    refine s_nil ?_
    refine hK15 _ _ ?_
    refine wpIn_ret ?_
    refine t_ret ?_
    exact e_tmp rfl h s rfl (rfl)
  · skip
    refine c_region ?_
    refine s_load_row 11 h s row24 rfl rfl (rfl) rfl ?_; intro f h
    refine s_call h s fnc11 (ret_val (.bool true) (lright_any M9 vf _ (RdZ.of_own (s.getSl 10 rfl)) (by omega)) (congrArg Value.bool hr)) rfl rfl ?_; intro f w1 v9 hT hE h s; obtain rfl := hT
    refine s_pure h (ru_val (.bool false) (ru_not (h.ev rfl)) rfl) rfl ?_; intro f h
    refine s_nil ?_
    refine hK10 _ _ ?_
    refine wpIn_cond_false (h.ev rfl) ?_
    refine c_seq fun K16 hK16 => ?_
    cases p0 : (decide (p < 0) : Bool)
    · skip
      cases p1 : (decide ((M9.l.length : Int) ≤ p) : Bool)
      · skip
        refine c_region ?_
        refine s_pure h (ru_move (h.ev rfl)) rfl ?_; intro f h
        refine s_pure h (ru_val (.bool false) (ru_lss (h.ev rfl) (h.ev rfl)) (congrArg Value.bool p0)) rfl ?_; intro f h
        refine s_pure h (ru_move (h.ev rfl)) rfl ?_; intro f h
        refine s_on h rfl rfl rfl ?_
        refine s_pure h (ru_move (h.ev rfl)) rfl ?_; intro f h
        refine s_on h rfl rfl rfl ?_
        refine s_pure h (ru_field fld24_0 (h.ev rfl)) rfl ?_; intro f h
        refine s_on h rfl rfl rfl ?_
        refine s_load_at1 (cell_of_has (Has.of_own s 11 rfl) 0 (rfl)) h one22 rfl rfl ?_; intro f h
        refine s_on h rfl rfl rfl ?_
        refine s_len_sl 10 h s Try.underlying22 rfl rfl rfl ?_; intro f h
        refine s_on h rfl rfl rfl ?_
        refine s_pure h (ru_val (.bool false) (ru_geq (h.ev rfl) (h.ev rfl)) (congrArg Value.bool p1)) rfl ?_; intro f h
        refine s_pure h (ru_pick_f (h.ev rfl) (h.ev rfl)) rfl ?_; intro f h
        refine s_nil ?_
        refine hK16 _ _ ?_
        refine wpIn_cond_false (h.ev rfl) ?_
        refine wpIn_skip ?_
        refine hK9 _ _ ?_
        refine c_seq fun K17 hK17 => ?_
        refine c_seq fun K18 hK18 => ?_
        refine c_region ?_
        refine s_call h s fnc12 (alive_any _) rfl rfl ?_; intro f w1 v9 hT hE h s; obtain rfl := hT
        refine s_pure h (ru_val (.bool false) (ru_not (h.ev rfl)) rfl) rfl ?_; intro f h
        refine s_nil ?_
        refine hK18 _ _ ?_
        refine wpIn_cond_false (h.ev rfl) ?_
        refine wpIn_skip ?_
        refine hK17 _ _ ?_
        refine c_seq fun K19 hK19 => ?_
        refine c_seq fun K20 hK20 => ?_
        refine c_region ?_
        refine s_pure h (ru_move (h.ev rfl)) rfl ?_; intro f h
        refine s_pure h (ru_val (.bool false) (ru_neq (h.ev rfl) (h.ev rfl)) (congrArg Value.bool (decide_eq_false (by decide)))) rfl ?_; intro f h
        refine s_nil ?_
        refine hK20 _ _ ?_
        refine wpIn_cond_false (h.ev rfl) ?_
        refine wpIn_skip ?_
        refine hK19 _ _ ?_
        refine c_seq fun K21 hK21 => ?_
        refine c_region ?_
        have hp0 := of_decide_eq_false p0
        have hp1 := of_decide_eq_false p1
        have e0 := atE_in (m := M9) (p := p) hr (by omega) (by omega)
        have eL := atL_in (m := M9) (p := p) hr (by omega) (by omega)
        have e2 := take_ok e0
        have e4 := lastM_ok e0
        have hpn : p.toNat < M9.l.length := by omega
        have hRL : (M9.l.eraseIdx p.toNat).length ≤ 66 := erase_len 66 hml
        have hT1 : (M9.l.take p.toNat).length ≤ 66 := by rw [List.length_take]; omega
        have hT2 : (M9.l.drop (p.toNat + 1)).length ≤ 66 := by rw [List.length_drop]; omega
        refine s_pure h (ru_field fld24_0 (h.ev rfl)) rfl ?_; intro f h
        refine s_load_at1 (cell_of_has (Has.of_own s 11 rfl) 0 (rfl)) h one22 rfl rfl ?_; intro f h
        refine s_pure h (ru_move (h.ev rfl)) rfl ?_; intro f h
        refine s_pure h (ru_ixz (RdZ.of_own (s.getSl 10 rfl)) (p.toNat) Try.underlying22 szo35 (h.ev rfl) (h.ev rfl) (by omega) (by omega)) rfl ?_; intro f h
        refine s_load_at ((RdZ.of_own (s.getSl 10 rfl)).el (p.toNat) (by omega) (by decide) (D := ltArr (atL M9 p)) ((lt_el M9.l p.toNat hpn).trans (by rw [eL]; exact ltD hpn))) h row35 rfl (rfl) rfl ?_; intro f h
        refine s_alloc (ltArr zLt) h s zero35 rfl rfl ?_; intro f w1 b16 h s
        refine s_store_row 0 h s row35 rfl rfl rfl (rfl) (rfl) (ltArr_ones _) ?_; intro w1 s
        refine s_nil ?_
        refine hK21 _ _ ?_
        refine c_seq fun K22 hK22 => ?_
        have hbs := s.ext.le
        refine' c_reg2 6 [1, 2] [3, 4, 5] [[], [], [], [], [], [], [0, 3, 4, 5], [0, 1, 3, 4, 5, 6], [0, 1, 2, 3, 4, 5, 6, 7]] (is _ :: is _ :: is _ :: (PtrT (mlArr zMl (.slice none 0 0)) 24) :: (PtrT (mlArr zMl (.slice none 0 0)) 24) :: (PtrT (mlArr zMl (.slice none 0 0)) 24) :: is undef :: is undef :: is undef :: []) (fun w9 => w9.heap[b2]? = some (.cells (mlArr M9 vf) 24)) h s (by kernel_rfl) (by kernel_rfl) (by kernel_rfl) (by kernel_rfl) rfl (fun _ _ h9 hE => heap_keep h9 hE) (s.get 12 rfl) ⟨⟨_, rfl⟩, ⟨_, rfl⟩, trivial⟩ ⟨is_mono _, is_mono _, is_mono _, PtrT.mono _ _, PtrT.mono _ _, PtrT.mono _ _, is_mono _, is_mono _, is_mono _, trivial⟩ (And.intro ?_ (And.intro ?_ (And.intro ?_ (And.intro ?_ (And.intro ?_ (And.intro ?_ (And.intro ?_ (And.intro ?_ (And.intro ?_ (trivial)))))))))) ?_
        rotate_left 3
        · refine obF_in 112 rfl (by decide) (by decide) ?_
          intro f9 w2 hE hs hd9 hl
          have e2 : f9.tmps.getD 2 undef = _ := sx_old hl 2 (by kernel_rfl) (by kernel_rfl) (h.holds 2 _ rfl)
          have h := fin_slot [(2, _)] hs hd9 (holds_lk ⟨e2, trivial⟩)
          have s := s.more hE
          have z := St.start w2
          refine s_load_row 12 h s row24 rfl rfl (rfl) rfl ?_; intro f h
          refine s_nil ?_
          have e9 := h.holds 112 _ rfl
          refine ⟨?_, Ext.refl _, fun h9 => absurd h9 (by decide)⟩
          refine e9.trans ?_
          exact rfl
        · refine obH_in 113 rfl (by decide) ?_
          intro f9 w2 hE hs hl
          have e2 : f9.tmps.getD 2 undef = _ := sx_old hl 2 (by kernel_rfl) (by kernel_rfl) (h.holds 2 _ rfl)
          have h := fin_slot [(2, _)] hs rfl (holds_lk ⟨e2, trivial⟩)
          refine s_load_at (Has.of_blk hE) h row24 rfl rfl rfl ?_; intro f h
          refine s_nil ?_
          have e9 := h.holds 113 _ rfl
          refine ⟨?_, rfl⟩
          refine e9.trans ?_
          exact rfl
        · refine obH_in 114 rfl (by decide) ?_
          intro f9 w2 hE hs hl
          have e2 : f9.tmps.getD 2 undef = _ := sx_old hl 2 (by kernel_rfl) (by kernel_rfl) (h.holds 2 _ rfl)
          have h := fin_slot [(2, _)] hs rfl (holds_lk ⟨e2, trivial⟩)
          refine s_load_at (Has.of_blk hE) h row24 rfl rfl rfl ?_; intro f h
          refine s_nil ?_
          have e9 := h.holds 114 _ rfl
          refine ⟨?_, rfl⟩
          refine e9.trans ?_
          exact rfl
        · refine obF_in 17 rfl (by decide) (by decide) ?_
          intro f9 w2 hE hs hd9 hl
          have h := fin_slot [] hs hd9 (holds_lk trivial)
          have s := s.more hE
          have z := St.start w2
          refine s_alloc (mlArr zMl (.slice none 0 0)) h z zero24 rfl rfl ?_; intro f w1 b9 h z
          refine s_nil ?_
          exact kf_ptr (h.holds 17 _ rfl) z
        · refine obF_in 18 rfl (by decide) (by decide) ?_
          intro f9 w2 hE hs hd9 hl
          have h := fin_slot [] hs hd9 (holds_lk trivial)
          have s := s.more hE
          have z := St.start w2
          refine s_alloc (mlArr zMl (.slice none 0 0)) h z zero24 rfl rfl ?_; intro f w1 b9 h z
          refine s_nil ?_
          exact kf_ptr (h.holds 18 _ rfl) z
        · refine obF_in 19 rfl (by decide) (by decide) ?_
          intro f9 w2 hE hs hd9 hl
          have h := fin_slot [] hs hd9 (holds_lk trivial)
          have s := s.more hE
          have z := St.start w2
          refine s_alloc (mlArr zMl (.slice none 0 0)) h z zero24 rfl rfl ?_; intro f w1 b9 h z
          refine s_nil ?_
          exact kf_ptr (h.holds 19 _ rfl) z
        · exact obT_in (by decide) (by decide)
        · exact obT_in (by decide) (by decide)
        · exact obT_in (by decide) (by decide)
        · intro f9 w2 hE hs hd9 hWp hT hR hFr hDj
          obtain ⟨u17, hu17⟩ : ∃ v, f9.tmps.getD 17 undef = v := ⟨_, rfl⟩
          have e17 : (PtrT (mlArr zMl (.slice none 0 0)) 24) u17 w2 := by rw [← hu17]; exact hT 3 17 (by decide) rfl
          have k17 := hFr 3 17 (by decide) rfl; rw [hu17] at k17
          obtain ⟨u18, hu18⟩ : ∃ v, f9.tmps.getD 18 undef = v := ⟨_, rfl⟩
          have e18 : (PtrT (mlArr zMl (.slice none 0 0)) 24) u18 w2 := by rw [← hu18]; exact hT 4 18 (by decide) rfl
          have k18 := hFr 4 18 (by decide) rfl; rw [hu18] at k18
          obtain ⟨u19, hu19⟩ : ∃ v, f9.tmps.getD 19 undef = v := ⟨_, rfl⟩
          have e19 : (PtrT (mlArr zMl (.slice none 0 0)) 24) u19 w2 := by rw [← hu19]; exact hT 5 19 (by decide) rfl
          have k19 := hFr 5 19 (by decide) rfl; rw [hu19] at k19
          replace h := sl_new (ops := _) [(112, _), (113, _), (114, _), (17, u17), (18, u18), (19, u19)] h hs hd9 hR ⟨hT 0 112 (by decide) rfl, hT 1 113 (by decide) rfl, hT 2 114 (by decide) rfl, hu17, hu18, hu19, trivial⟩ (by kernel_rfl)
          obtain ⟨b17, b18, b19, hb17, hb18, hb19, s⟩ := ptr_join3 s hE e17 k17 e18 k18 e19 k19 (by have := hDj 3 4 17 18 (by decide) (by decide) (by decide) rfl rfl; rw [hu17, hu18] at this; exact this) (by have := hDj 3 5 17 19 (by decide) (by decide) (by decide) rfl rfl; rw [hu17, hu19] at this; exact this) (by have := hDj 4 5 18 19 (by decide) (by decide) (by decide) rfl rfl; rw [hu18, hu19] at this; exact this); subst hb17; subst hb18; subst hb19
          clear hT hR hFr hDj
          refine LstW.cons ?_
          refine s_store_row 0 h s row24 rfl rfl rfl (rfl) (rfl) (mlArr_ones _ _ (own_one (s.getSl 14 rfl))) ?_; intro w1 s
          refine s_nil ⟨s.get 15 rfl, ?_⟩
          refine LstW.cons ?_
          refine s_store_row 1 h s row24 rfl rfl rfl (rfl) (rfl) (mlArr_ones _ _ (own_one (s.getSl 14 rfl))) ?_; intro w1 s
          refine s_nil ⟨s.get 15 rfl, ?_⟩
          refine LstW.cons ?_
          refine s_store_row 2 h s row24 rfl rfl rfl (rfl) (rfl) (mlArr_ones _ _ (own_one (s.getSl 14 rfl))) ?_; intro w1 s
          refine s_nil ⟨s.get 15 rfl, ?_⟩
          refine LstW.nil ?_
          refine hK22 _ _ ?_
          refine c_seq fun K23 hK23 => ?_
          have hbs := s.ext.le
          refine' c_reg2 11 [1, 3, 6, 8, 9, 12] [] [[], [], [1], [], [1, 2, 3], [0, 1, 2, 3, 4], [], [6], [], [8], [6, 7, 8, 9], [0, 1, 2, 3, 4, 5, 6, 7, 8, 9, 10], [0, 1, 2, 3, 4, 5, 6, 7, 8, 9, 10, 11], [0, 1, 2, 3, 4, 5, 6, 7, 8, 9, 10, 11, 12]] ((Emp w1.heap.size 35) :: is _ :: is _ :: is _ :: is _ :: (fun v w9 => Owns w9 w1.heap.size 35 4 v (M9.l.take p.toNat).length (ltCells (M9.l.take p.toNat))) :: is _ :: is _ :: is _ :: is _ :: is _ :: is undef :: is _ :: is undef :: []) (fun _ => True) h s (by kernel_rfl) (by kernel_rfl) (by kernel_rfl) (by kernel_rfl) rfl (fun _ _ h _ => h) (trivial) ⟨⟨_, rfl⟩, ⟨_, rfl⟩, ⟨_, rfl⟩, ⟨_, rfl⟩, ⟨_, rfl⟩, ⟨_, rfl⟩, trivial⟩ ⟨Emp.mono _ _, is_mono _, is_mono _, is_mono _, is_mono _, ownsM _ _ _ _ _, is_mono _, is_mono _, is_mono _, is_mono _, is_mono _, is_mono _, is_mono _, is_mono _, trivial⟩ (And.intro ?_ (And.intro ?_ (And.intro ?_ (And.intro ?_ (And.intro ?_ (And.intro ?_ (And.intro ?_ (And.intro ?_ (And.intro ?_ (And.intro ?_ (And.intro ?_ (And.intro ?_ (And.intro ?_ (And.intro ?_ (trivial))))))))))))))) ?_
          rotate_left 10
          · refine obF_in 115 rfl (by decide) (by decide) ?_
            intro f9 w2 hE hs hd9 hl
            have h := fin_slot [] hs hd9 (holds_lk trivial)
            have s := s.more hE
            have z := St.start w2
            refine s_bslice0 (base := w1.heap.size) h Try.underlying22 elm35 hE.le rfl ?_; intro f w3 v3 h hE3 hm3
            refine s_nil ?_
            exact ⟨by rw [h.holds 115 _ rfl]; exact hm3, hE3, fun h9 => absurd h9 (by decide)⟩
          · refine obH_in 116 rfl (by decide) ?_
            intro f9 w2 hE hs hl
            have e2 : f9.tmps.getD 2 undef = _ := sx_old hl 2 (by kernel_rfl) (by kernel_rfl) (h.holds 2 _ rfl)
            have h := fin_slot [(2, _)] hs rfl (holds_lk ⟨e2, trivial⟩)
            refine s_pure h (ru_field fld24_0 (h.ev rfl)) rfl ?_; intro f h
            refine s_nil ?_
            have e9 := h.holds 116 _ rfl
            refine ⟨?_, rfl⟩
            refine e9.trans ?_
            exact rfl
          · refine obF_in 117 rfl (by decide) (by decide) ?_
            intro f9 w2 hE hs hd9 hl
            have e116 : f9.tmps.getD 116 undef = _ := sx_get hl 116 1 (by kernel_rfl) (by kernel_rfl)
            have h := fin_slot [(116, _)] hs hd9 (holds_lk ⟨e116, trivial⟩)
            have s := s.more hE
            have z := St.start w2
            refine s_load_at1 (cell_of_has (Has.of_own s 15 rfl) 0 (rfl)) h one22 rfl rfl ?_; intro f h
            refine s_nil ?_
            have e9 := h.holds 117 _ rfl
            refine ⟨?_, Ext.refl _, fun h9 => absurd h9 (by decide)⟩
            refine e9.trans ?_
            exact rfl
          · refine obH_in 118 rfl (by decide) ?_
            intro f9 w2 hE hs hl
            have e1 : f9.tmps.getD 1 undef = _ := sx_old hl 1 (by kernel_rfl) (by kernel_rfl) (h.holds 1 _ rfl)
            have h := fin_slot [(1, _)] hs rfl (holds_lk ⟨e1, trivial⟩)
            refine s_pure h (ru_move (h.ev rfl)) rfl ?_; intro f h
            refine s_nil ?_
            have e9 := h.holds 118 _ rfl
            refine ⟨?_, rfl⟩
            refine e9.trans ?_
            exact rfl
          · refine obF_in 119 rfl (by decide) (by decide) ?_
            intro f9 w2 hE hs hd9 hl
            have e117 : f9.tmps.getD 117 undef = _ := sx_get hl 117 2 (by kernel_rfl) (by kernel_rfl)
            have e118 : f9.tmps.getD 118 undef = _ := sx_get hl 118 3 (by kernel_rfl) (by kernel_rfl)
            have h := fin_slot [(117, _), (118, _)] hs hd9 (holds_lk ⟨e117, e118, trivial⟩)
            have s := s.more hE
            have z := St.start w2
            refine s_pure h (ru_slice_hiZ (RdZ.of_own (s.getSl 14 rfl)) (p.toNat) Try.underlying22 szo35 (h.ev rfl) (h.ev rfl) (by omega) (by omega)) rfl ?_; intro f h
            refine s_nil ?_
            have e9 := h.holds 119 _ rfl
            refine ⟨?_, Ext.refl _, fun h9 => absurd h9 (by decide)⟩
            refine e9.trans ?_
            exact rfl
          · refine obF_in 120 rfl (by decide) (by decide) ?_
            intro f9 w2 hE hs hd9 hl
            obtain ⟨u115, hu115⟩ : ∃ v, f9.tmps.getD 115 undef = v := ⟨_, rfl⟩
            have e115 : (Emp w1.heap.size 35) u115 w2 := by rw [← hu115]; exact sx_get hl 115 0 (by kernel_rfl) (by kernel_rfl)
            have e119 : f9.tmps.getD 119 undef = _ := sx_get hl 119 4 (by kernel_rfl) (by kernel_rfl)
            have h := fin_slot [(115, u115), (119, _)] hs hd9 (holds_lk ⟨hu115, e119, trivial⟩)
            have s := s.more hE
            have z := St.start w2
            refine s_append_emp (base := w1.heap.size) e115 (lt_take (RdZ.of_own (s.getSl 14 rfl)) p.toNat (by omega)) h Try.underlying22 elm35 rfl rfl hE.le (ltCells_ones _) (by unfold maxLen; omega) (by omega) rfl ?_; intro f w3 v3 h hE3 hO
            refine s_nil ?_
            exact ⟨by rw [h.holds 120 _ rfl]; exact hO, hE3, fun h9 => absurd h9 (by decide)⟩
          · refine obH_in 121 rfl (by decide) ?_
            intro f9 w2 hE hs hl
            have e2 : f9.tmps.getD 2 undef = _ := sx_old hl 2 (by kernel_rfl) (by kernel_rfl) (h.holds 2 _ rfl)
            have h := fin_slot [(2, _)] hs rfl (holds_lk ⟨e2, trivial⟩)
            refine s_pure h (ru_field fld24_0 (h.ev rfl)) rfl ?_; intro f h
            refine s_nil ?_
            have e9 := h.holds 121 _ rfl
            refine ⟨?_, rfl⟩
            refine e9.trans ?_
            exact rfl
          · refine obF_in 122 rfl (by decide) (by decide) ?_
            intro f9 w2 hE hs hd9 hl
            have e121 : f9.tmps.getD 121 undef = _ := sx_get hl 121 6 (by kernel_rfl) (by kernel_rfl)
            have h := fin_slot [(121, _)] hs hd9 (holds_lk ⟨e121, trivial⟩)
            have s := s.more hE
            have z := St.start w2
            refine s_load_at1 (cell_of_has (Has.of_own s 15 rfl) 0 (rfl)) h one22 rfl rfl ?_; intro f h
            refine s_nil ?_
            have e9 := h.holds 122 _ rfl
            refine ⟨?_, Ext.refl _, fun h9 => absurd h9 (by decide)⟩
            refine e9.trans ?_
            exact rfl
          · refine obH_in 123 rfl (by decide) ?_
            intro f9 w2 hE hs hl
            have e1 : f9.tmps.getD 1 undef = _ := sx_old hl 1 (by kernel_rfl) (by kernel_rfl) (h.holds 1 _ rfl)
            have h := fin_slot [(1, _)] hs rfl (holds_lk ⟨e1, trivial⟩)
            refine s_pure h (ru_move (h.ev rfl)) rfl ?_; intro f h
            refine s_nil ?_
            have e9 := h.holds 123 _ rfl
            refine ⟨?_, rfl⟩
            refine e9.trans ?_
            exact rfl
          · refine obH_in 124 rfl (by decide) ?_
            intro f9 w2 hE hs hl
            have e123 : f9.tmps.getD 123 undef = _ := sx_get hl 123 8 (by kernel_rfl) (by kernel_rfl)
            have h := fin_slot [(123, _)] hs rfl (holds_lk ⟨e123, trivial⟩)
            refine s_pure h (ru_add (h.ev rfl) (h.ev rfl) (by omega)) rfl ?_; intro f h
            refine s_nil ?_
            have e9 := h.holds 124 _ rfl
            refine ⟨?_, rfl⟩
            refine e9.trans ?_
            exact rfl
          · refine obF_in 125 rfl (by decide) (by decide) ?_
            intro f9 w2 hE hs hd9 hl
            have e122 : f9.tmps.getD 122 undef = _ := sx_get hl 122 7 (by kernel_rfl) (by kernel_rfl)
            have e124 : f9.tmps.getD 124 undef = _ := sx_get hl 124 9 (by kernel_rfl) (by kernel_rfl)
            have h := fin_slot [(122, _), (124, _)] hs hd9 (holds_lk ⟨e122, e124, trivial⟩)
            have s := s.more hE
            have z := St.start w2
            refine s_pure h (ru_slice_loZ (RdZ.of_own (s.getSl 14 rfl)) (p.toNat + 1) Try.underlying22 szo35 (h.ev rfl) (h.ev rfl) (by omega) (by omega)) rfl ?_; intro f h
            refine s_nil ?_
            have e9 := h.holds 125 _ rfl
            refine ⟨?_, Ext.refl _, fun h9 => absurd h9 (by decide)⟩
            refine e9.trans ?_
            exact rfl
          · exact obT_in (by decide) (by decide)
          · refine obH_in 127 rfl (by decide) ?_
            intro f9 w2 hE hs hl
            have e17 : f9.tmps.getD 17 undef = _ := sx_old hl 17 (by kernel_rfl) (by kernel_rfl) (h.holds 17 _ rfl)
            have h := fin_slot [(17, _)] hs rfl (holds_lk ⟨e17, trivial⟩)
            refine s_pure h (ru_field fld24_0 (h.ev rfl)) rfl ?_; intro f h
            refine s_nil ?_
            have e9 := h.holds 127 _ rfl
            refine ⟨?_, rfl⟩
            refine e9.trans ?_
            exact rfl
          · exact obT_in (by decide) (by decide)
          · intro f9 w2 hE hs hd9 hWp hT hR hFr hDj
            obtain ⟨u115, hu115⟩ : ∃ v, f9.tmps.getD 115 undef = v := ⟨_, rfl⟩
            have e115 : (Emp w1.heap.size 35) u115 w2 := by rw [← hu115]; exact hT 0 115 (by decide) rfl
            obtain ⟨u120, hu120⟩ : ∃ v, f9.tmps.getD 120 undef = v := ⟨_, rfl⟩
            have e120 : (fun v w9 => Owns w9 w1.heap.size 35 4 v (M9.l.take p.toNat).length (ltCells (M9.l.take p.toNat))) u120 w2 := by rw [← hu120]; exact hT 5 120 (by decide) rfl
            replace h := sl_new (ops := _) [(115, u115), (116, _), (117, _), (118, _), (119, _), (120, u120), (121, _), (122, _), (123, _), (124, _), (125, _), (127, _)] h hs hd9 hR ⟨hu115, hT 1 116 (by decide) rfl, hT 2 117 (by decide) rfl, hT 3 118 (by decide) rfl, hT 4 119 (by decide) rfl, hu120, hT 6 121 (by decide) rfl, hT 7 122 (by decide) rfl, hT 8 123 (by decide) rfl, hT 9 124 (by decide) rfl, hT 10 125 (by decide) rfl, hT 12 127 (by decide) rfl, trivial⟩ (by kernel_rfl)
            replace s := s.sl_new hE e120
            clear hT hR hFr hDj
            refine LstW.of ?_
            refine s_append_rd 0 (lt_drop (RdZ.of_own (s.getSl 15 rfl)) (p.toNat + 1) (by omega)) h s Try.underlying22 elm35 rfl rfl rfl (ltCells_ones _) (by unfold maxLen; omega) (by omega) rfl ?_; intro f w1 v126 h s
            replace s := s.resl (m := (M9.l.eraseIdx p.toNat).length) (ys := ltCells (M9.l.eraseIdx p.toNat)) 0 rfl (by rw [List.eraseIdx_eq_take_drop_succ, List.length_append]) (by rw [List.eraseIdx_eq_take_drop_succ, ltCells_app])
            refine s_store_one 1 h s one22 rfl rfl rfl (by show _ < 3; decide) (own_one (s.getSl 0 rfl)) ?_; intro w1 s
            replace s := s.recell (D := mlArr { M9 with l := M9.l.eraseIdx p.toNat } v126) 1 rfl rfl
            refine s_nil ?_
            refine hK23 _ _ ?_
            refine c_seq fun K24 hK24 => ?_
            have hbs := s.ext.le
            refine' c_reg2 6 [1, 7] [] [[], [], [1], [0, 1, 2], [], [4], [0, 1, 2, 3, 4, 5], [0, 1, 2, 3, 4, 5, 6], [0, 1, 2, 3, 4, 5, 6, 7]] ((Emp w1.heap.size 35) :: is _ :: is _ :: (fun v w9 => Owns w9 w1.heap.size 35 4 v (M9.l).length (ltCells (M9.l))) :: is _ :: (fun v w9 => RdZ w9 v 4 1 ((ltArr (atL M9 p)).toList)) :: is undef :: is _ :: is undef :: []) (fun _ => True) h s (by kernel_rfl) (by kernel_rfl) (by kernel_rfl) (by kernel_rfl) rfl (fun _ _ h _ => h) (trivial) ⟨⟨_, rfl⟩, ⟨_, rfl⟩, trivial⟩ ⟨Emp.mono _ _, is_mono _, is_mono _, ownsM _ _ _ _ _, is_mono _, RdZ.mono, is_mono _, is_mono _, is_mono _, trivial⟩ (And.intro ?_ (And.intro ?_ (And.intro ?_ (And.intro ?_ (And.intro ?_ (And.intro ?_ (And.intro ?_ (And.intro ?_ (And.intro ?_ (trivial)))))))))) ?_
            rotate_left 4
            · refine obF_in 128 rfl (by decide) (by decide) ?_
              intro f9 w2 hE hs hd9 hl
              have h := fin_slot [] hs hd9 (holds_lk trivial)
              have s := s.more hE
              have z := St.start w2
              refine s_bslice0 (base := w1.heap.size) h Try.underlying22 elm35 hE.le rfl ?_; intro f w3 v3 h hE3 hm3
              refine s_nil ?_
              exact ⟨by rw [h.holds 128 _ rfl]; exact hm3, hE3, fun h9 => absurd h9 (by decide)⟩
            · refine obH_in 129 rfl (by decide) ?_
              intro f9 w2 hE hs hl
              have e2 : f9.tmps.getD 2 undef = _ := sx_old hl 2 (by kernel_rfl) (by kernel_rfl) (h.holds 2 _ rfl)
              have h := fin_slot [(2, _)] hs rfl (holds_lk ⟨e2, trivial⟩)
              refine s_pure h (ru_field fld24_0 (h.ev rfl)) rfl ?_; intro f h
              refine s_nil ?_
              have e9 := h.holds 129 _ rfl
              refine ⟨?_, rfl⟩
              refine e9.trans ?_
              exact rfl
            · refine obF_in 130 rfl (by decide) (by decide) ?_
              intro f9 w2 hE hs hd9 hl
              have e129 : f9.tmps.getD 129 undef = _ := sx_get hl 129 1 (by kernel_rfl) (by kernel_rfl)
              have h := fin_slot [(129, _)] hs hd9 (holds_lk ⟨e129, trivial⟩)
              have s := s.more hE
              have z := St.start w2
              refine s_load_at1 (cell_of_has (Has.of_own s 16 rfl) 0 (rfl)) h one22 rfl rfl ?_; intro f h
              refine s_nil ?_
              have e9 := h.holds 130 _ rfl
              refine ⟨?_, Ext.refl _, fun h9 => absurd h9 (by decide)⟩
              refine e9.trans ?_
              exact rfl
            · refine obF_in 131 rfl (by decide) (by decide) ?_
              intro f9 w2 hE hs hd9 hl
              obtain ⟨u128, hu128⟩ : ∃ v, f9.tmps.getD 128 undef = v := ⟨_, rfl⟩
              have e128 : (Emp w1.heap.size 35) u128 w2 := by rw [← hu128]; exact sx_get hl 128 0 (by kernel_rfl) (by kernel_rfl)
              have e130 : f9.tmps.getD 130 undef = _ := sx_get hl 130 2 (by kernel_rfl) (by kernel_rfl)
              have h := fin_slot [(128, u128), (130, _)] hs hd9 (holds_lk ⟨hu128, e130, trivial⟩)
              have s := s.more hE
              have z := St.start w2
              refine s_append_emp (base := w1.heap.size) e128 (RdZ.of_own (s.getSl 15 rfl)) h Try.underlying22 elm35 rfl rfl hE.le (ltCells_ones _) (by unfold maxLen; omega) (by omega) rfl ?_; intro f w3 v3 h hE3 hO
              refine s_nil ?_
              exact ⟨by rw [h.holds 131 _ rfl]; exact hO, hE3, fun h9 => absurd h9 (by decide)⟩
            · refine obF_in 132 rfl (by decide) (by decide) ?_
              intro f9 w2 hE hs hd9 hl
              have e16 : f9.tmps.getD 16 undef = _ := sx_old hl 16 (by kernel_rfl) (by kernel_rfl) (h.holds 16 _ rfl)
              have h := fin_slot [(16, _)] hs hd9 (holds_lk ⟨e16, trivial⟩)
              have s := s.more hE
              have z := St.start w2
              refine s_load_row 4 h s row35 rfl rfl (rfl) rfl ?_; intro f h
              refine s_nil ?_
              have e9 := h.holds 132 _ rfl
              refine ⟨?_, Ext.refl _, fun h9 => absurd h9 (by decide)⟩
              refine e9.trans ?_
              exact rfl
            · refine obF_in 133 rfl (by decide) (by decide) ?_
              intro f9 w2 hE hs hd9 hl
              have e132 : f9.tmps.getD 132 undef = _ := sx_get hl 132 4 (by kernel_rfl) (by kernel_rfl)
              have h := fin_slot [(132, _)] hs hd9 (holds_lk ⟨e132, trivial⟩)
              have s := s.more hE
              have z := St.start w2
              refine s_bslice (vs := [.agg (ltArr (atL M9 p))]) [.tmp 132] h z Try.underlying22 elm35 rfl rfl (one_lt_size _) rfl rfl rfl ?_; intro f w1 v9 h z
              refine s_nil ?_
              exact kf_rd (h.holds 133 _ rfl) z _ (one_lt _)
            · exact obT_in (by decide) (by decide)
            · refine obH_in 135 rfl (by decide) ?_
              intro f9 w2 hE hs hl
              have e18 : f9.tmps.getD 18 undef = _ := sx_old hl 18 (by kernel_rfl) (by kernel_rfl) (h.holds 18 _ rfl)
              have h := fin_slot [(18, _)] hs rfl (holds_lk ⟨e18, trivial⟩)
              refine s_pure h (ru_field fld24_0 (h.ev rfl)) rfl ?_; intro f h
              refine s_nil ?_
              have e9 := h.holds 135 _ rfl
              refine ⟨?_, rfl⟩
              refine e9.trans ?_
              exact rfl
            · exact obT_in (by decide) (by decide)
            · intro f9 w2 hE hs hd9 hWp hT hR hFr hDj
              obtain ⟨u128, hu128⟩ : ∃ v, f9.tmps.getD 128 undef = v := ⟨_, rfl⟩
              have e128 : (Emp w1.heap.size 35) u128 w2 := by rw [← hu128]; exact hT 0 128 (by decide) rfl
              obtain ⟨u131, hu131⟩ : ∃ v, f9.tmps.getD 131 undef = v := ⟨_, rfl⟩
              have e131 : (fun v w9 => Owns w9 w1.heap.size 35 4 v (M9.l).length (ltCells (M9.l))) u131 w2 := by rw [← hu131]; exact hT 3 131 (by decide) rfl
              obtain ⟨u133, hu133⟩ : ∃ v, f9.tmps.getD 133 undef = v := ⟨_, rfl⟩
              have e133 : (fun v w9 => RdZ w9 v 4 1 ((ltArr (atL M9 p)).toList)) u133 w2 := by rw [← hu133]; exact hT 5 133 (by decide) rfl
              replace h := sl_new (ops := _) [(128, u128), (129, _), (130, _), (131, u131), (132, _), (133, u133), (135, _)] h hs hd9 hR ⟨hu128, hT 1 129 (by decide) rfl, hT 2 130 (by decide) rfl, hu131, hT 4 132 (by decide) rfl, hu133, hT 7 135 (by decide) rfl, trivial⟩ (by kernel_rfl)
              replace s := s.sl_new hE e131
              clear hT hR hFr hDj
              refine LstW.of ?_
              refine s_append_rd 0 (e133) h s Try.underlying22 elm35 rfl rfl rfl (ltArr_ones (atL M9 p)) (by unfold maxLen; omega) (by omega) rfl ?_; intro f w1 v134 h s
              replace s := s.resl (m := (M9.l ++ [(atL M9 p)]).length) (ys := ltCells (M9.l ++ [(atL M9 p)])) 0 rfl (by rw [List.length_append]; rfl) (cells_snoc _ _)
              refine s_store_one 3 h s one22 rfl rfl rfl (by show _ < 3; decide) (own_one (s.getSl 0 rfl)) ?_; intro w1 s
              replace s := s.recell (D := mlArr { M9 with l := M9.l ++ [(atL M9 p)] } v134) 3 rfl rfl
              refine s_nil ?_
              refine hK24 _ _ ?_
              refine c_seq fun K25 hK25 => ?_
              have hbs := s.ext.le
              refine' c_reg2 6 [1, 7] [] [[], [], [1], [0, 1, 2], [], [4], [0, 1, 2, 3, 4, 5], [0, 1, 2, 3, 4, 5, 6], [0, 1, 2, 3, 4, 5, 6, 7]] ((Emp w1.heap.size 35) :: is _ :: is _ :: (fun v w9 => Owns w9 w1.heap.size 35 4 v (M9.l.eraseIdx p.toNat).length (ltCells (M9.l.eraseIdx p.toNat))) :: is _ :: (fun v w9 => RdZ w9 v 4 1 ((ltArr (atL M9 p)).toList)) :: is undef :: is _ :: is undef :: []) (fun _ => True) h s (by kernel_rfl) (by kernel_rfl) (by kernel_rfl) (by kernel_rfl) rfl (fun _ _ h _ => h) (trivial) ⟨⟨_, rfl⟩, ⟨_, rfl⟩, trivial⟩ ⟨Emp.mono _ _, is_mono _, is_mono _, ownsM _ _ _ _ _, is_mono _, RdZ.mono, is_mono _, is_mono _, is_mono _, trivial⟩ (And.intro ?_ (And.intro ?_ (And.intro ?_ (And.intro ?_ (And.intro ?_ (And.intro ?_ (And.intro ?_ (And.intro ?_ (And.intro ?_ (trivial)))))))))) ?_
              rotate_left 4
              · refine obF_in 136 rfl (by decide) (by decide) ?_
                intro f9 w2 hE hs hd9 hl
                have h := fin_slot [] hs hd9 (holds_lk trivial)
                have s := s.more hE
                have z := St.start w2
                refine s_bslice0 (base := w1.heap.size) h Try.underlying22 elm35 hE.le rfl ?_; intro f w3 v3 h hE3 hm3
                refine s_nil ?_
                exact ⟨by rw [h.holds 136 _ rfl]; exact hm3, hE3, fun h9 => absurd h9 (by decide)⟩
              · refine obH_in 137 rfl (by decide) ?_
                intro f9 w2 hE hs hl
                have e17 : f9.tmps.getD 17 undef = _ := sx_old hl 17 (by kernel_rfl) (by kernel_rfl) (h.holds 17 _ rfl)
                have h := fin_slot [(17, _)] hs rfl (holds_lk ⟨e17, trivial⟩)
                refine s_pure h (ru_field fld24_0 (h.ev rfl)) rfl ?_; intro f h
                refine s_nil ?_
                have e9 := h.holds 137 _ rfl
                refine ⟨?_, rfl⟩
                refine e9.trans ?_
                exact rfl
              · refine obF_in 138 rfl (by decide) (by decide) ?_
                intro f9 w2 hE hs hd9 hl
                have e137 : f9.tmps.getD 137 undef = _ := sx_get hl 137 1 (by kernel_rfl) (by kernel_rfl)
                have h := fin_slot [(137, _)] hs hd9 (holds_lk ⟨e137, trivial⟩)
                have s := s.more hE
                have z := St.start w2
                refine s_load_at1 (cell_of_has (Has.of_own s 2 rfl) 0 (rfl)) h one22 rfl rfl ?_; intro f h
                refine s_nil ?_
                have e9 := h.holds 138 _ rfl
                refine ⟨?_, Ext.refl _, fun h9 => absurd h9 (by decide)⟩
                refine e9.trans ?_
                exact rfl
              · refine obF_in 139 rfl (by decide) (by decide) ?_
                intro f9 w2 hE hs hd9 hl
                obtain ⟨u136, hu136⟩ : ∃ v, f9.tmps.getD 136 undef = v := ⟨_, rfl⟩
                have e136 : (Emp w1.heap.size 35) u136 w2 := by rw [← hu136]; exact sx_get hl 136 0 (by kernel_rfl) (by kernel_rfl)
                have e138 : f9.tmps.getD 138 undef = _ := sx_get hl 138 2 (by kernel_rfl) (by kernel_rfl)
                have h := fin_slot [(136, u136), (138, _)] hs hd9 (holds_lk ⟨hu136, e138, trivial⟩)
                have s := s.more hE
                have z := St.start w2
                refine s_append_emp (base := w1.heap.size) e136 (RdZ.of_own (s.getSl 1 rfl)) h Try.underlying22 elm35 rfl rfl hE.le (ltCells_ones _) (by unfold maxLen; omega) (by omega) rfl ?_; intro f w3 v3 h hE3 hO
                refine s_nil ?_
                exact ⟨by rw [h.holds 139 _ rfl]; exact hO, hE3, fun h9 => absurd h9 (by decide)⟩
              · refine obF_in 140 rfl (by decide) (by decide) ?_
                intro f9 w2 hE hs hd9 hl
                have e16 : f9.tmps.getD 16 undef = _ := sx_old hl 16 (by kernel_rfl) (by kernel_rfl) (h.holds 16 _ rfl)
                have h := fin_slot [(16, _)] hs hd9 (holds_lk ⟨e16, trivial⟩)
                have s := s.more hE
                have z := St.start w2
                refine s_load_row 5 h s row35 rfl rfl (rfl) rfl ?_; intro f h
                refine s_nil ?_
                have e9 := h.holds 140 _ rfl
                refine ⟨?_, Ext.refl _, fun h9 => absurd h9 (by decide)⟩
                refine e9.trans ?_
                exact rfl
              · refine obF_in 141 rfl (by decide) (by decide) ?_
                intro f9 w2 hE hs hd9 hl
                have e140 : f9.tmps.getD 140 undef = _ := sx_get hl 140 4 (by kernel_rfl) (by kernel_rfl)
                have h := fin_slot [(140, _)] hs hd9 (holds_lk ⟨e140, trivial⟩)
                have s := s.more hE
                have z := St.start w2
                refine s_bslice (vs := [.agg (ltArr (atL M9 p))]) [.tmp 140] h z Try.underlying22 elm35 rfl rfl (one_lt_size _) rfl rfl rfl ?_; intro f w1 v9 h z
                refine s_nil ?_
                exact kf_rd (h.holds 141 _ rfl) z _ (one_lt _)
              · exact obT_in (by decide) (by decide)
              · refine obH_in 143 rfl (by decide) ?_
                intro f9 w2 hE hs hl
                have e19 : f9.tmps.getD 19 undef = _ := sx_old hl 19 (by kernel_rfl) (by kernel_rfl) (h.holds 19 _ rfl)
                have h := fin_slot [(19, _)] hs rfl (holds_lk ⟨e19, trivial⟩)
                refine s_pure h (ru_field fld24_0 (h.ev rfl)) rfl ?_; intro f h
                refine s_nil ?_
                have e9 := h.holds 143 _ rfl
                refine ⟨?_, rfl⟩
                refine e9.trans ?_
                exact rfl
              · exact obT_in (by decide) (by decide)
              · intro f9 w2 hE hs hd9 hWp hT hR hFr hDj
                obtain ⟨u136, hu136⟩ : ∃ v, f9.tmps.getD 136 undef = v := ⟨_, rfl⟩
                have e136 : (Emp w1.heap.size 35) u136 w2 := by rw [← hu136]; exact hT 0 136 (by decide) rfl
                obtain ⟨u139, hu139⟩ : ∃ v, f9.tmps.getD 139 undef = v := ⟨_, rfl⟩
                have e139 : (fun v w9 => Owns w9 w1.heap.size 35 4 v (M9.l.eraseIdx p.toNat).length (ltCells (M9.l.eraseIdx p.toNat))) u139 w2 := by rw [← hu139]; exact hT 3 139 (by decide) rfl
                obtain ⟨u141, hu141⟩ : ∃ v, f9.tmps.getD 141 undef = v := ⟨_, rfl⟩
                have e141 : (fun v w9 => RdZ w9 v 4 1 ((ltArr (atL M9 p)).toList)) u141 w2 := by rw [← hu141]; exact hT 5 141 (by decide) rfl
                replace h := sl_new (ops := _) [(136, u136), (137, _), (138, _), (139, u139), (140, _), (141, u141), (143, _)] h hs hd9 hR ⟨hu136, hT 1 137 (by decide) rfl, hT 2 138 (by decide) rfl, hu139, hT 4 140 (by decide) rfl, hu141, hT 7 143 (by decide) rfl, trivial⟩ (by kernel_rfl)
                replace s := s.sl_new hE e139
                clear hT hR hFr hDj
                refine LstW.of ?_
                refine s_append_rd 0 (e141) h s Try.underlying22 elm35 rfl rfl rfl (ltArr_ones (atL M9 p)) (by unfold maxLen; omega) (by omega) rfl ?_; intro f w1 v142 h s
                replace s := s.resl (m := (M9.l.eraseIdx p.toNat ++ [(atL M9 p)]).length) (ys := ltCells (M9.l.eraseIdx p.toNat ++ [(atL M9 p)])) 0 rfl (by rw [List.length_append]; rfl) (cells_snoc _ _)
                refine s_store_one 5 h s one22 rfl rfl rfl (by show _ < 3; decide) (own_one (s.getSl 0 rfl)) ?_; intro w1 s
                replace s := s.recell (D := mlArr { M9 with l := M9.l.eraseIdx p.toNat ++ [(atL M9 p)] } v142) 5 rfl rfl
                refine s_nil ?_
                refine hK25 _ _ ?_
                refine c_seq fun K26 hK26 => ?_
                refine c_seq fun K27 hK27 => ?_
                refine c_region ?_
                refine s_pure h (ru_move (h.ev rfl)) rfl ?_; intro f h
                refine s_pure h (ru_val (.bool false) (ru_neq (h.ev rfl) (h.ev rfl)) (congrArg Value.bool (decide_eq_false (fun h9 => h9 e0)))) rfl ?_; intro f h
                refine s_pure h (ru_move (h.ev rfl)) rfl ?_; intro f h
                refine s_on h rfl rfl rfl ?_
                refine s_pure h (ru_move (h.ev rfl)) rfl ?_; intro f h
                refine s_on h rfl rfl rfl ?_
                refine s_pure h (ru_val (.bool false) (ru_neq (h.ev rfl) (h.ev rfl)) (congrArg Value.bool (decide_eq_false (fun h9 => h9 e0)))) rfl ?_; intro f h
                refine s_pure h (ru_pick_f (h.ev rfl) (h.ev rfl)) rfl ?_; intro f h
                refine s_pure h (ru_move (h.ev rfl)) rfl ?_; intro f h
                refine s_on h rfl rfl rfl ?_
                refine s_pure h (ru_move (h.ev rfl)) rfl ?_; intro f h
                refine s_on h rfl rfl rfl ?_
                refine s_pure h (ru_val (.bool false) (ru_neq (h.ev rfl) (h.ev rfl)) (congrArg Value.bool (decide_eq_false (fun h9 => h9 e0)))) rfl ?_; intro f h
                refine s_pure h (ru_pick_f (h.ev rfl) (h.ev rfl)) rfl ?_; intro f h
                refine s_pure h (ru_move (h.ev rfl)) rfl ?_; intro f h
                refine s_on h rfl rfl rfl ?_
                refine s_load_row 14 h s row35 rfl rfl (rfl) rfl ?_; intro f h
                refine s_on h rfl rfl rfl ?_
                refine s_load_row 6 h s row35 rfl rfl (rfl) rfl ?_; intro f h
                refine s_on h rfl rfl rfl ?_
                refine s_pure h (ru_val (.bool false) (ru_neqW (eqL _ _) (by kernel_rfl) (by decide) (h.ev rfl) (h.ev rfl) (decide (atL M9 p = atL M9 p)) (ltEq _ _)) (congrArg Value.bool (by simp))) rfl ?_; intro f h
                refine s_pure h (ru_pick_f (h.ev rfl) (h.ev rfl)) rfl ?_; intro f h
                refine s_pure h (ru_move (h.ev rfl)) rfl ?_; intro f h
                refine s_on h rfl rfl rfl ?_
                refine s_load_row 15 h s row24 rfl rfl (rfl) rfl ?_; intro f h
                refine s_on h rfl rfl rfl ?_
                refine s_load_row 3 h s row24 rfl rfl (rfl) rfl ?_; intro f h
                refine s_on h rfl rfl rfl ?_
                refine s_call h s fnc13 (ret_val (.bool true) (like_any (takeM M9 p) ({ M9 with l := M9.l.eraseIdx p.toNat }) va v126 _ ((RdZ.of_own (s.getSl 16 rfl))) ((RdZ.of_own (s.getSl 2 rfl))) (by have := take_len (n := 66) p hml; omega) (by show (M9.l.eraseIdx p.toNat).length ≤ 1000; omega)) (congrArg Value.bool (by rw [e2]; exact like_self _))) rfl rfl ?_; intro f w1 v9 hT hE h s; obtain rfl := hT
                refine s_on h rfl rfl rfl ?_
                refine s_pure h (ru_val (.bool false) (ru_not (h.ev rfl)) rfl) rfl ?_; intro f h
                refine s_pure h (ru_pick_f (h.ev rfl) (h.ev rfl)) rfl ?_; intro f h
                refine s_pure h (ru_move (h.ev rfl)) rfl ?_; intro f h
                refine s_on h rfl rfl rfl ?_
                refine s_load_row 10 h s row24 rfl rfl (rfl) rfl ?_; intro f h
                refine s_on h rfl rfl rfl ?_
                refine s_load_row 3 h s row24 rfl rfl (rfl) rfl ?_; intro f h
                refine s_on h rfl rfl rfl ?_
                refine s_call h s fnc13 (ret_val (.bool true) (like_any (takeM M9 p) ({ M9 with l := M9.l.eraseIdx p.toNat }) vc v126 _ ((RdZ.of_own (s.getSl 11 rfl))) ((RdZ.of_own (s.getSl 2 rfl))) (by have := take_len (n := 66) p hml; omega) (by show (M9.l.eraseIdx p.toNat).length ≤ 1000; omega)) (congrArg Value.bool (by rw [e2]; exact like_self _))) rfl rfl ?_; intro f w1 v9 hT hE h s; obtain rfl := hT
                refine s_on h rfl rfl rfl ?_
                refine s_pure h (ru_val (.bool false) (ru_not (h.ev rfl)) rfl) rfl ?_; intro f h
                refine s_pure h (ru_pick_f (h.ev rfl) (h.ev rfl)) rfl ?_; intro f h
                refine s_pure h (ru_move (h.ev rfl)) rfl ?_; intro f h
                refine s_on h rfl rfl rfl ?_
                refine s_load_row 8 h s row24 rfl rfl (rfl) rfl ?_; intro f h
                refine s_on h rfl rfl rfl ?_
                refine s_load_row 5 h s row24 rfl rfl (rfl) rfl ?_; intro f h
                refine s_on h rfl rfl rfl ?_
                refine s_call h s fnc13 (ret_val (.bool true) (like_any (lastM M9 p) ({ M9 with l := M9.l.eraseIdx p.toNat ++ [(atL M9 p)] }) vd v142 _ ((RdZ.of_own (s.getSl 9 rfl))) ((RdZ.of_own (s.getSl 0 rfl))) (by have := last_len (p := p) hml; omega) (by show (M9.l.eraseIdx p.toNat ++ [_]).length ≤ 1000; rw [List.length_append]; show _ + 1 ≤ 1000; omega)) (congrArg Value.bool (by rw [e4]; exact like_self _))) rfl rfl ?_; intro f w1 v9 hT hE h s; obtain rfl := hT
                refine s_on h rfl rfl rfl ?_
                refine s_pure h (ru_val (.bool false) (ru_not (h.ev rfl)) rfl) rfl ?_; intro f h
                refine s_pure h (ru_pick_f (h.ev rfl) (h.ev rfl)) rfl ?_; intro f h
                refine s_nil ?_
                refine hK27 _ _ ?_
                refine wpIn_cond_false (h.ev rfl) ?_
                refine wpIn_skip ?_
                refine hK26 _ _ ?_
                refine c_seq fun K28 hK28 => ?_
                refine c_seq fun K29 hK29 => ?_
                cases hf : (decide (M9.l.length = 64) : Bool)
                · skip
                  refine c_region ?_
                  refine s_pure h (ru_field fld24_0 (h.ev rfl)) rfl ?_; intro f h
                  refine s_load_at1 (cell_of_has (Has.of_own s 18 rfl) 0 (rfl)) h one22 rfl rfl ?_; intro f h
                  refine s_len_sl 17 h s Try.underlying22 rfl rfl rfl ?_; intro f h
                  refine s_pure h (ru_val (.bool false) (ru_eql (h.ev rfl) (h.ev rfl)) (congrArg Value.bool (decide_eq_false (by have := of_decide_eq_false hf; omega)))) rfl ?_; intro f h
                  refine s_nil ?_
                  refine hK29 _ _ ?_
                  refine wpIn_cond_false (h.ev rfl) ?_
                  refine wpIn_skip ?_
                  refine hK28 _ _ ?_
                  refine c_seq fun K30 hK30 => ?_
                  refine c_region ?_
                  have e6 := twE_ok e0 hf
                  have e7 := twM_ok e0 hf
                  refine s_pure h (ru_move (h.ev rfl)) rfl ?_; intro f h
                  refine s_pure h (ru_val (.bool true) (ru_eql (h.ev rfl) (h.ev rfl)) (congrArg Value.bool (decide_eq_true (e6)))) rfl ?_; intro f h
                  refine s_pure h (ru_move (h.ev rfl)) rfl ?_; intro f h
                  refine s_on h rfl rfl rfl ?_
                  refine s_load_row 12 h s row24 rfl rfl (rfl) rfl ?_; intro f h
                  refine s_on h rfl rfl rfl ?_
                  refine s_load_row 4 h s row24 rfl rfl (rfl) rfl ?_; intro f h
                  refine s_on h rfl rfl rfl ?_
                  refine s_call h s fnc13 (ret_val (.bool true) (like_any (twM M9 p) ({ M9 with l := M9.l ++ [(atL M9 p)] }) vb v134 _ ((RdZ.of_own (s.getSl 13 rfl))) ((RdZ.of_own (s.getSl 1 rfl))) (by have := tw_len (p := p) hml; omega) (by show (M9.l ++ [_]).length ≤ 1000; rw [List.length_append]; show _ + 1 ≤ 1000; omega)) (congrArg Value.bool (by rw [e7]; exact like_self _))) rfl rfl ?_; intro f w1 v9 hT hE h s; obtain rfl := hT
                  refine s_pure h (ru_pick_t (h.ev rfl) (h.ev rfl)) rfl ?_; intro f h
                  refine s_pure h (ru_assign (h.ev rfl)) rfl ?_; intro f h
                  refine s_nil ?_
                  refine hK30 _ _ ?_
                  refine wpIn_ret ?_
                  exact e_tmp rfl h s rfl (rfl)
                · skip
                  refine c_region ?_
                  refine s_pure h (ru_field fld24_0 (h.ev rfl)) rfl ?_; intro f h
                  refine s_load_at1 (cell_of_has (Has.of_own s 18 rfl) 0 (rfl)) h one22 rfl rfl ?_; intro f h
                  refine s_len_sl 17 h s Try.underlying22 rfl rfl rfl ?_; intro f h
                  refine s_pure h (ru_val (.bool true) (ru_eql (h.ev rfl) (h.ev rfl)) (congrArg Value.bool (decide_eq_true (by have := of_decide_eq_true hf; omega)))) rfl ?_; intro f h
                  refine s_nil ?_
                  refine hK29 _ _ ?_
                  refine wpIn_cond_true (h.ev rfl) ?_
                  refine c_seq fun K31 hK31 => ?_
                  refine c_region ?_
                  have e6 := twE_full e0 hf
                  have e7 := twM_full e0 hf
                  refine s_pure h (ru_move (h.ev rfl)) rfl ?_; intro f h
                  refine s_pure h (ru_val (.bool true) (ru_eql (h.ev rfl) (h.ev rfl)) (congrArg Value.bool (decide_eq_true (e6)))) rfl ?_; intro f h
                  refine s_pure h (ru_move (h.ev rfl)) rfl ?_; intro f h
                  refine s_on h rfl rfl rfl ?_
                  refine s_load_row 12 h s row24 rfl rfl (rfl) rfl ?_; intro f h
                  refine s_on h rfl rfl rfl ?_
                  refine s_load_row 7 h s row24 rfl rfl (rfl) rfl ?_; intro f h
                  refine s_on h rfl rfl rfl ?_
                  refine s_call h s fnc13 (ret_val (.bool true) (like_any (twM M9 p) (zMl) vb (.slice none 0 0) _ ((RdZ.of_own (s.getSl 13 rfl))) (rd_nil4 _) (by have := tw_len (p := p) hml; omega) (by decide)) (congrArg Value.bool (by rw [e7]; exact like_self _))) rfl rfl ?_; intro f w1 v9 hT hE h s; obtain rfl := hT
                  refine s_pure h (ru_pick_t (h.ev rfl) (h.ev rfl)) rfl ?_; intro f h
                  refine s_pure h (ru_assign (h.ev rfl)) rfl ?_; intro f h
                  refine s_nil ?_
                  refine hK31 _ _ ?_
                  refine wpIn_ret ?_
                  refine t_ret ?_
                  exact e_tmp rfl h s rfl (rfl)
      · skip
        refine c_region ?_
        refine s_pure h (ru_move (h.ev rfl)) rfl ?_; intro f h
        refine s_pure h (ru_val (.bool false) (ru_lss (h.ev rfl) (h.ev rfl)) (congrArg Value.bool p0)) rfl ?_; intro f h
        refine s_pure h (ru_move (h.ev rfl)) rfl ?_; intro f h
        refine s_on h rfl rfl rfl ?_
        refine s_pure h (ru_move (h.ev rfl)) rfl ?_; intro f h
        refine s_on h rfl rfl rfl ?_
        refine s_pure h (ru_field fld24_0 (h.ev rfl)) rfl ?_; intro f h
        refine s_on h rfl rfl rfl ?_
        refine s_load_at1 (cell_of_has (Has.of_own s 11 rfl) 0 (rfl)) h one22 rfl rfl ?_; intro f h
        refine s_on h rfl rfl rfl ?_
        refine s_len_sl 10 h s Try.underlying22 rfl rfl rfl ?_; intro f h
        refine s_on h rfl rfl rfl ?_
        refine s_pure h (ru_val (.bool true) (ru_geq (h.ev rfl) (h.ev rfl)) (congrArg Value.bool p1)) rfl ?_; intro f h
        refine s_pure h (ru_pick_f (h.ev rfl) (h.ev rfl)) rfl ?_; intro f h
        refine s_nil ?_
        refine hK16 _ _ ?_
        refine wpIn_cond_true (h.ev rfl) ?_
        refine c_region ?_
        refine s_pure h (ru_assign (h.ev rfl)) rfl ?_; intro f h
        refine s_nil ?_
        refine hK9 _ _ ?_
        refine c_seq fun K32 hK32 => ?_
        refine c_seq fun K33 hK33 => ?_
        refine c_region ?_
        refine s_call h s fnc12 (alive_any _) rfl rfl ?_; intro f w1 v9 hT hE h s; obtain rfl := hT
        refine s_pure h (ru_val (.bool false) (ru_not (h.ev rfl)) rfl) rfl ?_; intro f h
        refine s_nil ?_
        refine hK33 _ _ ?_
        refine wpIn_cond_false (h.ev rfl) ?_
        refine wpIn_skip ?_
        refine hK32 _ _ ?_
        refine c_seq fun K34 hK34 => ?_
        refine c_seq fun K35 hK35 => ?_
        refine c_region ?_
        refine s_pure h (ru_move (h.ev rfl)) rfl ?_; intro f h
        refine s_pure h (ru_val (.bool true) (ru_neq (h.ev rfl) (h.ev rfl)) (congrArg Value.bool (decide_eq_true (by decide)))) rfl ?_; intro f h
        refine s_nil ?_
        refine hK35 _ _ ?_
        refine wpIn_cond_true (h.ev rfl) ?_
        refine c_seq fun K36 hK36 => ?_
        refine c_region ?_
        have e0 : atE M9 p = 6 := atE_out hr (by have := of_decide_eq_true p1; omega)
        have e0n : atE M9 p ≠ 0 := by omega
        have e1 : twE M9 p = 6 := (twE_no e0n).trans e0
        have e2 := take_no e0n
        have e3 := twM_no e0n
        have e4 := lastM_no e0n
        have e5 := atL_no e0n
        refine s_pure h (ru_move (h.ev rfl)) rfl ?_; intro f h
        refine s_pure h (ru_move (h.ev rfl)) rfl ?_; intro f h
        refine s_pure h (ru_val (.bool true) (ru_eql (h.ev rfl) (h.ev rfl)) (congrArg Value.bool (decide_eq_true (e0)))) rfl ?_; intro f h
        refine s_pure h (ru_move (h.ev rfl)) rfl ?_; intro f h
        refine s_on h rfl rfl rfl ?_
        refine s_pure h (ru_move (h.ev rfl)) rfl ?_; intro f h
        refine s_on h rfl rfl rfl ?_
        refine s_pure h (ru_move (h.ev rfl)) rfl ?_; intro f h
        refine s_on h rfl rfl rfl ?_
        refine s_pure h (ru_val (.bool true) (ru_eql (h.ev rfl) (h.ev rfl)) (congrArg Value.bool (decide_eq_true (e1)))) rfl ?_; intro f h
        refine s_pure h (ru_pick_t (h.ev rfl) (h.ev rfl)) rfl ?_; intro f h
        refine s_pure h (ru_move (h.ev rfl)) rfl ?_; intro f h
        refine s_on h rfl rfl rfl ?_
        refine s_pure h (ru_move (h.ev rfl)) rfl ?_; intro f h
        refine s_on h rfl rfl rfl ?_
        refine s_pure h (ru_move (h.ev rfl)) rfl ?_; intro f h
        refine s_on h rfl rfl rfl ?_
        refine s_pure h (ru_val (.bool true) (ru_eql (h.ev rfl) (h.ev rfl)) (congrArg Value.bool (decide_eq_true (e0)))) rfl ?_; intro f h
        refine s_pure h (ru_pick_t (h.ev rfl) (h.ev rfl)) rfl ?_; intro f h
        refine s_pure h (ru_move (h.ev rfl)) rfl ?_; intro f h
        refine s_on h rfl rfl rfl ?_
        refine s_pure h (ru_move (h.ev rfl)) rfl ?_; intro f h
        refine s_on h rfl rfl rfl ?_
        refine s_pure h (ru_move (h.ev rfl)) rfl ?_; intro f h
        refine s_on h rfl rfl rfl ?_
        refine s_pure h (ru_val (.bool true) (ru_eql (h.ev rfl) (h.ev rfl)) (congrArg Value.bool (decide_eq_true (e0)))) rfl ?_; intro f h
        refine s_pure h (ru_pick_t (h.ev rfl) (h.ev rfl)) rfl ?_; intro f h
        refine s_pure h (ru_move (h.ev rfl)) rfl ?_; intro f h
        refine s_on h rfl rfl rfl ?_
        refine s_load_row 7 h s row35 rfl rfl (rfl) rfl ?_; intro f h
        refine s_on h rfl rfl rfl ?_
        refine s_pure h (ru_build_lt0 sttL) rfl ?_; intro f h
        refine s_on h rfl rfl rfl ?_
        refine s_pure h (ru_val (.bool true) (ru_eqlW (eqL _ _) (by kernel_rfl) (by decide) (h.ev rfl) (h.ev rfl) (decide (atL M9 p = zLt)) (ltEq _ _)) (congrArg Value.bool (decide_eq_true (e5)))) rfl ?_; intro f h
        refine s_pure h (ru_pick_t (h.ev rfl) (h.ev rfl)) rfl ?_; intro f h
        refine s_pure h (ru_move (h.ev rfl)) rfl ?_; intro f h
        refine s_on h rfl rfl rfl ?_
        refine s_load_row 8 h s row24 rfl rfl (rfl) rfl ?_; intro f h
        refine s_on h rfl rfl rfl ?_
        refine s_load_row 0 h s row24 rfl rfl (rfl) rfl ?_; intro f h
        refine s_on h rfl rfl rfl ?_
        refine s_call h s fnc13 (ret_val (.bool true) (like_any (takeM M9 p) (zMl) va (.slice none 0 0) _ ((RdZ.of_own (s.getSl 9 rfl))) (rd_nil4 _) (by have := take_len (n := 66) p hml; omega) (by decide)) (congrArg Value.bool (by rw [e2]; exact like_self _))) rfl rfl ?_; intro f w1 v9 hT hE h s; obtain rfl := hT
        refine s_pure h (ru_pick_t (h.ev rfl) (h.ev rfl)) rfl ?_; intro f h
        refine s_pure h (ru_move (h.ev rfl)) rfl ?_; intro f h
        refine s_on h rfl rfl rfl ?_
        refine s_load_row 5 h s row24 rfl rfl (rfl) rfl ?_; intro f h
        refine s_on h rfl rfl rfl ?_
        refine s_load_row 0 h s row24 rfl rfl (rfl) rfl ?_; intro f h
        refine s_on h rfl rfl rfl ?_
        refine s_call h s fnc13 (ret_val (.bool true) (like_any (twM M9 p) (zMl) vb (.slice none 0 0) _ ((RdZ.of_own (s.getSl 6 rfl))) (rd_nil4 _) (by have := tw_len (p := p) hml; omega) (by decide)) (congrArg Value.bool (by rw [e3]; exact like_self _))) rfl rfl ?_; intro f w1 v9 hT hE h s; obtain rfl := hT
        refine s_pure h (ru_pick_t (h.ev rfl) (h.ev rfl)) rfl ?_; intro f h
        refine s_pure h (ru_move (h.ev rfl)) rfl ?_; intro f h
        refine s_on h rfl rfl rfl ?_
        refine s_load_row 3 h s row24 rfl rfl (rfl) rfl ?_; intro f h
        refine s_on h rfl rfl rfl ?_
        refine s_load_row 0 h s row24 rfl rfl (rfl) rfl ?_; intro f h
        refine s_on h rfl rfl rfl ?_
        refine s_call h s fnc13 (ret_val (.bool true) (like_any (takeM M9 p) (zMl) vc (.slice none 0 0) _ ((RdZ.of_own (s.getSl 4 rfl))) (rd_nil4 _) (by have := take_len (n := 66) p hml; omega) (by decide)) (congrArg Value.bool (by rw [e2]; exact like_self _))) rfl rfl ?_; intro f w1 v9 hT hE h s; obtain rfl := hT
        refine s_pure h (ru_pick_t (h.ev rfl) (h.ev rfl)) rfl ?_; intro f h
        refine s_pure h (ru_move (h.ev rfl)) rfl ?_; intro f h
        refine s_on h rfl rfl rfl ?_
        refine s_load_row 1 h s row24 rfl rfl (rfl) rfl ?_; intro f h
        refine s_on h rfl rfl rfl ?_
        refine s_load_row 0 h s row24 rfl rfl (rfl) rfl ?_; intro f h
        refine s_on h rfl rfl rfl ?_
        refine s_call h s fnc13 (ret_val (.bool true) (like_any (lastM M9 p) (zMl) vd (.slice none 0 0) _ ((RdZ.of_own (s.getSl 2 rfl))) (rd_nil4 _) (by have := last_len (p := p) hml; omega) (by decide)) (congrArg Value.bool (by rw [e4]; exact like_self _))) rfl rfl ?_; intro f w1 v9 hT hE h s; obtain rfl := hT
        refine s_pure h (ru_pick_t (h.ev rfl) (h.ev rfl)) rfl ?_; intro f h
        refine s_pure h (ru_assign (h.ev rfl)) rfl ?_; intro f h
        refine s_nil ?_
        refine hK36 _ _ ?_
        refine wpIn_ret ?_
        refine t_ret ?_
        exact e_tmp rfl h s rfl (rfl)
    · skip
      refine c_region ?_
      refine s_pure h (ru_move (h.ev rfl)) rfl ?_; intro f h
      refine s_pure h (ru_val (.bool true) (ru_lss (h.ev rfl) (h.ev rfl)) (congrArg Value.bool p0)) rfl ?_; intro f h
      refine s_pure h (ru_move (h.ev rfl)) rfl ?_; intro f h
      refine s_off (b := false) h rfl rfl rfl rfl ?_; intro f h
      refine s_off (b := false) h rfl rfl rfl rfl ?_; intro f h
      refine s_off (b := false) h rfl rfl rfl rfl ?_; intro f h
      refine s_off (b := false) h rfl rfl rfl rfl ?_; intro f h
      refine s_off (b := false) h rfl rfl rfl rfl ?_; intro f h
      refine s_pure h (ru_pick_t (h.ev rfl) (h.ev rfl)) rfl ?_; intro f h
      refine s_nil ?_
      refine hK16 _ _ ?_
      refine wpIn_cond_true (h.ev rfl) ?_
      refine c_region ?_
      refine s_pure h (ru_assign (h.ev rfl)) rfl ?_; intro f h
      refine s_nil ?_
      refine hK9 _ _ ?_
      refine c_seq fun K37 hK37 => ?_
      refine c_seq fun K38 hK38 => ?_
      refine c_region ?_
      refine s_call h s fnc12 (alive_any _) rfl rfl ?_; intro f w1 v9 hT hE h s; obtain rfl := hT
      refine s_pure h (ru_val (.bool false) (ru_not (h.ev rfl)) rfl) rfl ?_; intro f h
      refine s_nil ?_
      refine hK38 _ _ ?_
      refine wpIn_cond_false (h.ev rfl) ?_
      refine wpIn_skip ?_
      refine hK37 _ _ ?_
      refine c_seq fun K39 hK39 => ?_
      refine c_seq fun K40 hK40 => ?_
      refine c_region ?_
      refine s_pure h (ru_move (h.ev rfl)) rfl ?_; intro f h
      refine s_pure h (ru_val (.bool true) (ru_neq (h.ev rfl) (h.ev rfl)) (congrArg Value.bool (decide_eq_true (by decide)))) rfl ?_; intro f h
      refine s_nil ?_
      refine hK40 _ _ ?_
      refine wpIn_cond_true (h.ev rfl) ?_
      refine c_seq fun K41 hK41 => ?_
      refine c_region ?_
      have e0 : atE M9 p = 6 := atE_out hr (by have := of_decide_eq_true p0; omega)
      have e0n : atE M9 p ≠ 0 := by omega
      have e1 : twE M9 p = 6 := (twE_no e0n).trans e0
      have e2 := take_no e0n
      have e3 := twM_no e0n
      have e4 := lastM_no e0n
      have e5 := atL_no e0n
      refine s_pure h (ru_move (h.ev rfl)) rfl ?_; intro f h
      refine s_pure h (ru_move (h.ev rfl)) rfl ?_; intro f h
      refine s_pure h (ru_val (.bool true) (ru_eql (h.ev rfl) (h.ev rfl)) (congrArg Value.bool (decide_eq_true (e0)))) rfl ?_; intro f h
      refine s_pure h (ru_move (h.ev rfl)) rfl ?_; intro f h
      refine s_on h rfl rfl rfl ?_
      refine s_pure h (ru_move (h.ev rfl)) rfl ?_; intro f h
      refine s_on h rfl rfl rfl ?_
      refine s_pure h (ru_move (h.ev rfl)) rfl ?_; intro f h
      refine s_on h rfl rfl rfl ?_
      refine s_pure h (ru_val (.bool true) (ru_eql (h.ev rfl) (h.ev rfl)) (congrArg Value.bool (decide_eq_true (e1)))) rfl ?_; intro f h
      refine s_pure h (ru_pick_t (h.ev rfl) (h.ev rfl)) rfl ?_; intro f h
      refine s_pure h (ru_move (h.ev rfl)) rfl ?_; intro f h
      refine s_on h rfl rfl rfl ?_
      refine s_pure h (ru_move (h.ev rfl)) rfl ?_; intro f h
      refine s_on h rfl rfl rfl ?_
      refine s_pure h (ru_move (h.ev rfl)) rfl ?_; intro f h
      refine s_on h rfl rfl rfl ?_
      refine s_pure h (ru_val (.bool true) (ru_eql (h.ev rfl) (h.ev rfl)) (congrArg Value.bool (decide_eq_true (e0)))) rfl ?_; intro f h
      refine s_pure h (ru_pick_t (h.ev rfl) (h.ev rfl)) rfl ?_; intro f h
      refine s_pure h (ru_move (h.ev rfl)) rfl ?_; intro f h
      refine s_on h rfl rfl rfl ?_
      refine s_pure h (ru_move (h.ev rfl)) rfl ?_; intro f h
      refine s_on h rfl rfl rfl ?_
      refine s_pure h (ru_move (h.ev rfl)) rfl ?_; intro f h
      refine s_on h rfl rfl rfl ?_
      refine s_pure h (ru_val (.bool true) (ru_eql (h.ev rfl) (h.ev rfl)) (congrArg Value.bool (decide_eq_true (e0)))) rfl ?_; intro f h
      refine s_pure h (ru_pick_t (h.ev rfl) (h.ev rfl)) rfl ?_; intro f h
      refine s_pure h (ru_move (h.ev rfl)) rfl ?_; intro f h
      refine s_on h rfl rfl rfl ?_
      refine s_load_row 7 h s row35 rfl rfl (rfl) rfl ?_; intro f h
      refine s_on h rfl rfl rfl ?_
      refine s_pure h (ru_build_lt0 sttL) rfl ?_; intro f h
      refine s_on h rfl rfl rfl ?_
      refine s_pure h (ru_val (.bool true) (ru_eqlW (eqL _ _) (by kernel_rfl) (by decide) (h.ev rfl) (h.ev rfl) (decide (atL M9 p = zLt)) (ltEq _ _)) (congrArg Value.bool (decide_eq_true (e5)))) rfl ?_; intro f h
      refine s_pure h (ru_pick_t (h.ev rfl) (h.ev rfl)) rfl ?_; intro f h
      refine s_pure h (ru_move (h.ev rfl)) rfl ?_; intro f h
      refine s_on h rfl rfl rfl ?_
      refine s_load_row 8 h s row24 rfl rfl (rfl) rfl ?_; intro f h
      refine s_on h rfl rfl rfl ?_
      refine s_load_row 0 h s row24 rfl rfl (rfl) rfl ?_; intro f h
      refine s_on h rfl rfl rfl ?_
      refine s_call h s fnc13 (ret_val (.bool true) (like_any (takeM M9 p) (zMl) va (.slice none 0 0) _ ((RdZ.of_own (s.getSl 9 rfl))) (rd_nil4 _) (by have := take_len (n := 66) p hml; omega) (by decide)) (congrArg Value.bool (by rw [e2]; exact like_self _))) rfl rfl ?_; intro f w1 v9 hT hE h s; obtain rfl := hT
      refine s_pure h (ru_pick_t (h.ev rfl) (h.ev rfl)) rfl ?_; intro f h
      refine s_pure h (ru_move (h.ev rfl)) rfl ?_; intro f h
      refine s_on h rfl rfl rfl ?_
      refine s_load_row 5 h s row24 rfl rfl (rfl) rfl ?_; intro f h
      refine s_on h rfl rfl rfl ?_
      refine s_load_row 0 h s row24 rfl rfl (rfl) rfl ?_; intro f h
      refine s_on h rfl rfl rfl ?_
      refine s_call h s fnc13 (ret_val (.bool true) (like_any (twM M9 p) (zMl) vb (.slice none 0 0) _ ((RdZ.of_own (s.getSl 6 rfl))) (rd_nil4 _) (by have := tw_len (p := p) hml; omega) (by decide)) (congrArg Value.bool (by rw [e3]; exact like_self _))) rfl rfl ?_; intro f w1 v9 hT hE h s; obtain rfl := hT
      refine s_pure h (ru_pick_t (h.ev rfl) (h.ev rfl)) rfl ?_; intro f h
      refine s_pure h (ru_move (h.ev rfl)) rfl ?_; intro f h
      refine s_on h rfl rfl rfl ?_
      refine s_load_row 3 h s row24 rfl rfl (rfl) rfl ?_; intro f h
      refine s_on h rfl rfl rfl ?_
      refine s_load_row 0 h s row24 rfl rfl (rfl) rfl ?_; intro f h
      refine s_on h rfl rfl rfl ?_
      refine s_call h s fnc13 (ret_val (.bool true) (like_any (takeM M9 p) (zMl) vc (.slice none 0 0) _ ((RdZ.of_own (s.getSl 4 rfl))) (rd_nil4 _) (by have := take_len (n := 66) p hml; omega) (by decide)) (congrArg Value.bool (by rw [e2]; exact like_self _))) rfl rfl ?_; intro f w1 v9 hT hE h s; obtain rfl := hT
      refine s_pure h (ru_pick_t (h.ev rfl) (h.ev rfl)) rfl ?_; intro f h
      refine s_pure h (ru_move (h.ev rfl)) rfl ?_; intro f h
      refine s_on h rfl rfl rfl ?_
      refine s_load_row 1 h s row24 rfl rfl (rfl) rfl ?_; intro f h
      refine s_on h rfl rfl rfl ?_
      refine s_load_row 0 h s row24 rfl rfl (rfl) rfl ?_; intro f h
      refine s_on h rfl rfl rfl ?_
      refine s_call h s fnc13 (ret_val (.bool true) (like_any (lastM M9 p) (zMl) vd (.slice none 0 0) _ ((RdZ.of_own (s.getSl 2 rfl))) (rd_nil4 _) (by have := last_len (p := p) hml; omega) (by decide)) (congrArg Value.bool (by rw [e4]; exact like_self _))) rfl rfl ?_; intro f w1 v9 hT hE h s; obtain rfl := hT
      refine s_pure h (ru_pick_t (h.ev rfl) (h.ev rfl)) rfl ?_; intro f h
      refine s_pure h (ru_assign (h.ev rfl)) rfl ?_; intro f h
      refine s_nil ?_
      refine hK41 _ _ ?_
      refine wpIn_ret ?_
      refine t_ret ?_
      exact e_tmp rfl h s rfl (rfl)
end Go.Proofs.Ytbgkoikpdhecfaa
