/- What MailPosts answers: for all arguments. -/
import Derived.Test.YtbgkoikpdhecfaaVb
set_option linter.unusedVariables false
set_option linter.unusedSimpArgs false
set_option linter.unusedSectionVars false
namespace Go.Proofs.Ytbgkoikpdhecfaa
open Go.RowKit
set_option maxHeartbeats 4000000 in
theorem mposts_any (m : Ml) (v9 : Value) (fr tt tk : Int) (htk : -9223372036854775808 ≤ tk ∧ tk ≤ 9223372036854775807) (dx : ByteArray) (w : World) (hR : RdZ w v9 4 m.l.length (ltCells m.l)) : Calls Try.prog 3 [.agg (mlArr m v9), .int .i64 fr, .int .i64 tt, .int .i64 tk, .string dx].toArray w (Ret w (is (.bool true))) := by
  obtain ⟨M9, hM9⟩ : ∃ x9, x9 = fewM m := ⟨_, rfl⟩
  have hml : M9.l.length ≤ 66 := by rw [hM9]; exact few_len m
  obtain ⟨dy, hdy⟩ : ∃ x9, x9 = dx.extract 0 (min dx.size 305) := ⟨_, rfl⟩
  have hsdy : dy.size ≤ 305 := by rw [hdy, ByteArray.size_extract]; omega
  refine c_enter Try.func3 rfl Try.ntmps3 rfl [(0, .agg (mlArr m v9)), (1, .int .i64 fr), (2, .int .i64 tt), (3, .int .i64 tk), (4, .string dx)] (by simp) fun f h => ?_
  have s := St.start w
  refine c_seq fun K1 hK1 => ?_
  refine c_region ?_
  refine s_box ((mlArr m v9)) h s rfl rfl rfl ?_; intro f w1 b5 h s
  refine s_pure h (ru_assign (h.ev rfl)) rfl ?_; intro f h
  refine s_nil ?_
  refine hK1 _ _ ?_
  refine c_seq fun K2 hK2 => ?_
  have hbs := s.ext.le
  refine' c_reg2 2 [2, 3, 4, 5, 6, 8] [] [[], [0], [], [], [3], [3, 4], [2, 3, 4, 5], [0, 1], [0, 1, 2, 3, 4, 5, 6, 7]] (is _ :: (OneP 35 w1.heap.size M9) :: is _ :: is _ :: is _ :: is _ :: is _ :: is undef :: is _ :: []) (fun _ => True) h s (by kernel_rfl) (by kernel_rfl) (by kernel_rfl) (by kernel_rfl) rfl (fun _ _ h _ => h) (trivial) ⟨⟨_, rfl⟩, ⟨_, rfl⟩, ⟨_, rfl⟩, ⟨_, rfl⟩, ⟨_, rfl⟩, ⟨_, rfl⟩, trivial⟩ ⟨is_mono _, OneP.mono _ _ _, is_mono _, is_mono _, is_mono _, is_mono _, is_mono _, is_mono _, is_mono _, trivial⟩ (And.intro ?_ (And.intro ?_ (And.intro ?_ (And.intro ?_ (And.intro ?_ (And.intro ?_ (And.intro ?_ (And.intro ?_ (And.intro ?_ (trivial)))))))))) ?_
  rotate_left 7
  · refine obF_in 19 rfl (by decide) (by decide) ?_
    intro f9 w2 hE hs hd9 hl
    have e5 : f9.tmps.getD 5 undef = _ := sx_old hl 5 (by kernel_rfl) (by kernel_rfl) (h.holds 5 _ rfl)
    have h := fin_slot [(5, _)] hs hd9 (holds_lk ⟨e5, trivial⟩)
    have s := s.more hE
    have z := St.start w2
    refine s_load_row 0 h s row24 rfl rfl (rfl) rfl ?_; intro f h
    refine s_nil ?_
    have e9 := h.holds 19 _ rfl
    refine ⟨?_, Ext.refl _, fun h9 => absurd h9 (by decide)⟩
    refine e9.trans ?_
    exact rfl
  · refine obF_in 20 rfl (by decide) (by decide) ?_
    intro f9 w2 hE hs hd9 hl
    have e19 : f9.tmps.getD 19 undef = _ := sx_get hl 19 0 (by kernel_rfl) (by kernel_rfl)
    have h := fin_slot [(19, _)] hs hd9 (holds_lk ⟨e19, trivial⟩)
    have s := s.more hE
    have z := St.start w2
    refine s_call h s fnc7 (few_any m v9 _ (hR.keep s.ext)) rfl rfl ?_; intro f w3 v3 hT9 hE3 h s
    refine s_nil ?_
    exact ⟨by rw [h.holds 20 _ rfl, hM9]; exact hT9.low hE.le, hE3, fun h9 => absurd h9 (by decide)⟩
  · refine obH_in 21 rfl (by decide) ?_
    intro f9 w2 hE hs hl
    have e4 : f9.tmps.getD 4 undef = _ := sx_old hl 4 (by kernel_rfl) (by kernel_rfl) (h.holds 4 _ rfl)
    have h := fin_slot [(4, _)] hs rfl (holds_lk ⟨e4, trivial⟩)
    refine s_pure h (ru_move (h.ev rfl)) rfl ?_; intro f h
    refine s_nil ?_
    have e9 := h.holds 21 _ rfl
    refine ⟨?_, rfl⟩
    refine e9.trans ?_
    exact rfl
  · refine obH_in 22 rfl (by decide) ?_
    intro f9 w2 hE hs hl
    have e4 : f9.tmps.getD 4 undef = _ := sx_old hl 4 (by kernel_rfl) (by kernel_rfl) (h.holds 4 _ rfl)
    have h := fin_slot [(4, _)] hs rfl (holds_lk ⟨e4, trivial⟩)
    refine s_pure h (ru_move (h.ev rfl)) rfl ?_; intro f h
    refine s_nil ?_
    have e9 := h.holds 22 _ rfl
    refine ⟨?_, rfl⟩
    refine e9.trans ?_
    exact rfl
  · refine obH_in 23 rfl (by decide) ?_
    intro f9 w2 hE hs hl
    have e22 : f9.tmps.getD 22 undef = _ := sx_get hl 22 3 (by kernel_rfl) (by kernel_rfl)
    have h := fin_slot [(22, _)] hs rfl (holds_lk ⟨e22, trivial⟩)
    refine s_pure h (ru_len_str Try.underlying9 (h.ev rfl)) rfl ?_; intro f h
    refine s_nil ?_
    have e9 := h.holds 23 _ rfl
    refine ⟨?_, rfl⟩
    refine e9.trans ?_
    exact rfl
  · refine obH_in 24 rfl (by decide) ?_
    intro f9 w2 hE hs hl
    have e23 : f9.tmps.getD 23 undef = _ := sx_get hl 23 4 (by kernel_rfl) (by kernel_rfl)
    have h := fin_slot [(23, _)] hs rfl (holds_lk ⟨e23, trivial⟩)
    refine s_pure h (ru_min (h.ev rfl) (h.ev rfl)) rfl ?_; intro f h
    refine s_nil ?_
    have e9 := h.holds 24 _ rfl
    refine ⟨?_, rfl⟩
    refine e9.trans ?_
    exact rfl
  · refine obH_in 25 rfl (by decide) ?_
    intro f9 w2 hE hs hl
    have e21 : f9.tmps.getD 21 undef = _ := sx_get hl 21 2 (by kernel_rfl) (by kernel_rfl)
    have e24 : f9.tmps.getD 24 undef = _ := sx_get hl 24 5 (by kernel_rfl) (by kernel_rfl)
    have h := fin_slot [(21, _), (24, _)] hs rfl (holds_lk ⟨e21, e24, trivial⟩)
    refine s_pure h (ru_val (.string dy) (ru_slice_str (min dx.size 305) Try.underlying9 (h.ev rfl) (h.ev rfl) (by split <;> omega) (by omega)) (by rw [hdy])) rfl ?_; intro f h
    refine s_nil ?_
    have e9 := h.holds 25 _ rfl
    refine ⟨?_, rfl⟩
    refine e9.trans ?_
    exact rfl
  · exact obT_in (by decide) (by decide)
  · refine obH_in 4 rfl (by decide) ?_
    intro f9 w2 hE hs hl
    have e25 : f9.tmps.getD 25 undef = _ := sx_get hl 25 6 (by kernel_rfl) (by kernel_rfl)
    have h := fin_slot [(25, _)] hs rfl (holds_lk ⟨e25, trivial⟩)
    refine s_pure h (ru_assign (h.ev rfl)) rfl ?_; intro f h
    refine s_nil ?_
    have e9 := h.holds 4 _ rfl
    refine ⟨?_, rfl⟩
    refine e9.trans ?_
    exact rfl
  · intro f9 w2 hE hs hd9 hWp hT hR hFr hDj
    obtain ⟨u20, hu20⟩ : ∃ v, f9.tmps.getD 20 undef = v := ⟨_, rfl⟩
    have e20 : (OneP 35 w1.heap.size M9) u20 w2 := by rw [← hu20]; exact hT 1 20 (by decide) rfl
    replace h := sl_new (ops := _) [(19, _), (20, u20), (21, _), (22, _), (23, _), (24, _), (25, _), (4, _)] h hs hd9 hR ⟨hT 0 19 (by decide) rfl, hu20, hT 2 21 (by decide) rfl, hT 3 22 (by decide) rfl, hT 4 23 (by decide) rfl, hT 5 24 (by decide) rfl, hT 6 25 (by decide) rfl, hT 8 4 (by decide) rfl, trivial⟩ (by kernel_rfl)
    obtain ⟨vf, hvvf, hOvf⟩ := e20
    subst hvvf
    replace s := s.sl_new hE hOvf
    clear hT hR hFr hDj
    refine LstW.of ?_
    refine s_store_row 1 h s row24 rfl rfl rfl (rfl) (rfl) (mlArr_ones _ _ (own_one (s.getSl 0 rfl))) ?_; intro w1 s
    refine s_nil ?_
    refine hK2 _ _ ?_
    refine c_seq fun K3 hK3 => ?_
    refine c_region ?_
    refine s_load_row 1 h s row24 rfl rfl (rfl) rfl ?_; intro f h
    refine s_pure h (ru_move (h.ev rfl)) rfl ?_; intro f h
    refine s_pure h (ru_move (h.ev rfl)) rfl ?_; intro f h
    refine s_pure h (ru_move (h.ev rfl)) rfl ?_; intro f h
    refine s_call h s fnc8 (post_any M9 vf fr tt dy _ (RdZ.of_own (s.getSl 0 rfl)) (by omega)) rfl rfl ?_; rintro f w1 v31 ⟨vp, rfl, hvp⟩ hE h sq
    replace s := s.sl_new hE hvp
    refine s_pure h (ru_move (h.ev rfl)) rfl ?_; intro f h
    refine s_pure h (ru_extract (h.ev rfl) rfl) rfl ?_; intro f h
    refine s_pure h (ru_extract (h.ev rfl) rfl) rfl ?_; intro f h
    refine s_pure h (ru_extract (h.ev rfl) rfl) rfl ?_; intro f h
    refine s_alloc (mlArr zMl (.slice none 0 0)) h s zero24 rfl rfl ?_; intro f w1 b11 h s
    refine s_store_row 0 h s row24 rfl rfl rfl (rfl) (rfl) (mlArr_ones _ _ (own_one (s.getSl 1 rfl))) ?_; intro w1 s
    refine s_pure h (ru_assign (h.ev rfl)) rfl ?_; intro f h
    refine s_pure h (ru_assign (h.ev rfl)) rfl ?_; intro f h
    refine s_nil ?_
    refine hK3 _ _ ?_
    refine c_seq fun K4 hK4 => ?_
    refine c_region ?_
    refine s_load_row 3 h s row24 rfl rfl (rfl) rfl ?_; intro f h
    refine s_pure h (ru_move (h.ev rfl)) rfl ?_; intro f h
    refine s_call h s fnc9 (pass_any M9 vf tk _ (RdZ.of_own (s.getSl 2 rfl)) (by omega)) rfl rfl ?_; rintro f w1 v38 ⟨vq, rfl, hvq⟩ hE h sq
    replace s := s.sl_new hE hvq
    refine s_pure h (ru_move (h.ev rfl)) rfl ?_; intro f h
    refine s_pure h (ru_extract (h.ev rfl) rfl) rfl ?_; intro f h
    refine s_pure h (ru_extract (h.ev rfl) rfl) rfl ?_; intro f h
    refine s_alloc (mlArr zMl (.slice none 0 0)) h s zero24 rfl rfl ?_; intro f w1 b14 h s
    refine s_store_row 0 h s row24 rfl rfl rfl (rfl) (rfl) (mlArr_ones _ _ (own_one (s.getSl 1 rfl))) ?_; intro w1 s
    refine s_pure h (ru_assign (h.ev rfl)) rfl ?_; intro f h
    refine s_nil ?_
    refine hK4 _ _ ?_
    refine c_seq fun K5 hK5 => ?_
    refine c_region ?_
    refine s_pure h (ru_build_ml0 sttM) rfl ?_; intro f h
    refine s_alloc (mlArr zMl (.slice none 0 0)) h s zero24 rfl rfl ?_; intro f w1 b16 h s
    refine s_store_row 0 h s row24 rfl rfl rfl (rfl) (rfl) (mlArr_ones _ _ rfl) ?_; intro w1 s
    refine s_nil ?_
    refine hK5 _ _ ?_
    refine c_seq fun K6 hK6 => ?_
    refine c_seq fun K7 hK7 => ?_
    refine c_walkN 9 [[], [0], [], [0, 1, 2], [0, 1, 2, 3], [0, 1, 2, 3, 4], [0, 1, 2, 3, 4, 5], [0, 1, 2, 3, 4, 5, 6], [0, 1, 2, 3, 4, 5, 6, 7]] h (by kernel_rfl) (by kernel_rfl) (by kernel_rfl) ?_
    refine w_load_row 6 h s row24 rfl rfl (rfl) rfl ?_; intro f h
    refine w_call h fnc10 (fun w9 hE9 => mright_any M9 vf w9 ((RdZ.of_own (s.getSl 5 rfl)).keep hE9) (by omega)) rfl rfl ?_; intro f h
    refine w_load_row 6 h s row24 rfl rfl (rfl) rfl ?_; intro f h
    refine w_call h fnc11 (fun w9 hE9 => lright_any M9 vf w9 ((RdZ.of_own (s.getSl 5 rfl)).keep hE9) (by omega)) rfl rfl ?_; intro f h
    refine w_pure h (ru_val (.bool false) (ru_neq_bool Try.underlying4 (h.ev rfl) (h.ev rfl)) (congrArg Value.bool (bne_self_f _))) rfl ?_; intro f h
    refine w_pure h (ru_move (h.ev rfl)) rfl ?_; intro f h
    refine w_on h rfl rfl rfl ?_
    refine w_call h fnc12 (fun w9 hE9 => alive_any w9) rfl rfl ?_; intro f h
    refine w_on h rfl rfl rfl ?_
    refine w_pure h (ru_val (.bool false) (ru_not (h.ev rfl)) rfl) rfl ?_; intro f h
    refine w_pure h (ru_pick_f (h.ev rfl) (h.ev rfl)) rfl ?_; intro f h
    refine w_nil s fun w1 s => ?_
    refine s_nil ?_
    refine hK7 _ _ ?_
    refine wpIn_cond_false (h.ev rfl) ?_
    refine wpIn_skip ?_
    refine hK6 _ _ ?_
    refine c_seq fun K8 hK8 => ?_
    refine c_seq fun K9 hK9 => ?_
    cases hr : (rightL M9 : Bool)
    · skip
      refine c_region ?_
      refine s_load_row 6 h s row24 rfl rfl (rfl) rfl ?_; intro f h
      refine s_call h s fnc11 (ret_val (.bool false) (lright_any M9 vf _ (RdZ.of_own (s.getSl 5 rfl)) (by omega)) (congrArg Value.bool hr)) rfl rfl ?_; intro f w1 v9 hT hE h s; obtain rfl := hT
      refine s_pure h (ru_val (.bool true) (ru_not (h.ev rfl)) rfl) rfl ?_; intro f h
      refine s_nil ?_
      refine hK9 _ _ ?_
      refine wpIn_cond_true (h.ev rfl) ?_
      refine c_seq fun K10 hK10 => ?_
      refine c_region ?_
      have hp1 : postE M9 fr tt dy = 1 := postE_1 (by rw [hr]; rfl)
      obtain ⟨hp2, hp3⟩ := postM_no (m := M9) (f := fr) (t := tt) (d := dy) (by omega)
      have hq1 : passE M9 tk = 1 := passE_1 (by rw [hr]; rfl)
      have hq2 := passM_no (m := M9) (t := tk) (by omega)
      refine s_pure h (ru_move (h.ev rfl)) rfl ?_; intro f h
      refine s_pure h (ru_val (.bool true) (ru_eql (h.ev rfl) (h.ev rfl)) (congrArg Value.bool (decide_eq_true (hp1)))) rfl ?_; intro f h
      refine s_pure h (ru_move (h.ev rfl)) rfl ?_; intro f h
      refine s_on h rfl rfl rfl ?_
      refine s_pure h (ru_move (h.ev rfl)) rfl ?_; intro f h
      refine s_on h rfl rfl rfl ?_
      refine s_pure h (ru_val (.bool true) (ru_eql (h.ev rfl) (h.ev rfl)) (congrArg Value.bool (decide_eq_true (hq1)))) rfl ?_; intro f h
      refine s_pure h (ru_pick_t (h.ev rfl) (h.ev rfl)) rfl ?_; intro f h
      refine s_pure h (ru_move (h.ev rfl)) rfl ?_; intro f h
      refine s_on h rfl rfl rfl ?_
      refine s_pure h (ru_move (h.ev rfl)) rfl ?_; intro f h
      refine s_on h rfl rfl rfl ?_
      refine s_pure h (ru_val (.bool true) (ru_eql (h.ev rfl) (h.ev rfl)) (congrArg Value.bool (decide_eq_true (hp3)))) rfl ?_; intro f h
      refine s_pure h (ru_pick_t (h.ev rfl) (h.ev rfl)) rfl ?_; intro f h
      refine s_pure h (ru_move (h.ev rfl)) rfl ?_; intro f h
      refine s_on h rfl rfl rfl ?_
      refine s_load_row 3 h s row24 rfl rfl (rfl) rfl ?_; intro f h
      refine s_on h rfl rfl rfl ?_
      refine s_load_row 0 h s row24 rfl rfl (rfl) rfl ?_; intro f h
      refine s_on h rfl rfl rfl ?_
      refine s_call h s fnc13 (ret_val (.bool true) (like_any (postM M9 fr tt dy) (zMl) vp (.slice none 0 0) _ ((RdZ.of_own (s.getSl 4 rfl))) (rd_nil4 _) (by have := post_len (m := M9) (f := fr) (t := tt) (d := dy) hml; omega) (by decide)) (congrArg Value.bool (by rw [hp2]; exact like_self _))) rfl rfl ?_; intro f w1 v9 hT hE h s; obtain rfl := hT
      refine s_pure h (ru_pick_t (h.ev rfl) (h.ev rfl)) rfl ?_; intro f h
      refine s_pure h (ru_move (h.ev rfl)) rfl ?_; intro f h
      refine s_on h rfl rfl rfl ?_
      refine s_load_row 1 h s row24 rfl rfl (rfl) rfl ?_; intro f h
      refine s_on h rfl rfl rfl ?_
      refine s_load_row 0 h s row24 rfl rfl (rfl) rfl ?_; intro f h
      refine s_on h rfl rfl rfl ?_
      refine s_call h s fnc13 (ret_val (.bool true) (like_any (passM M9 tk) (zMl) vq (.slice none 0 0) _ ((RdZ.of_own (s.getSl 2 rfl))) (rd_nil4 _) (by have := pass_len (m := M9) (t := tk) hml; omega) (by decide)) (congrArg Value.bool (by rw [hq2]; exact like_self _))) rfl rfl ?_; intro f w1 v9 hT hE h s; obtain rfl := hT
      refine s_pure h (ru_pick_t (h.ev rfl) (h.ev rfl)) rfl ?_; intro f h
      refine s_pure h (ru_assign (h.ev rfl)) rfl ?_; intro f h
      refine s_nil ?_
      refine hK10 _ _ ?_
      refine wpIn_ret ?_
      refine t_ret ?_
      exact e_tmp rfl h s rfl (rfl)
    · skip
      refine c_region ?_
      refine s_load_row 6 h s row24 rfl rfl (rfl) rfl ?_; intro f h
      refine s_call h s fnc11 (ret_val (.bool true) (lright_any M9 vf _ (RdZ.of_own (s.getSl 5 rfl)) (by omega)) (congrArg Value.bool hr)) rfl rfl ?_; intro f w1 v9 hT hE h s; obtain rfl := hT
      refine s_pure h (ru_val (.bool false) (ru_not (h.ev rfl)) rfl) rfl ?_; intro f h
      refine s_nil ?_
      refine hK9 _ _ ?_
      refine wpIn_cond_false (h.ev rfl) ?_
      refine wpIn_skip ?_
      refine hK8 _ _ ?_
      refine c_seq fun K11 hK11 => ?_
      refine c_region ?_
      refine s_load_row 6 h s row24 rfl rfl (rfl) rfl ?_; intro f h
      refine s_alloc (mlArr zMl (.slice none 0 0)) h s zero24 rfl rfl ?_; intro f w1 b17 h s
      refine s_store_row 0 h s row24 rfl rfl rfl (rfl) (rfl) (mlArr_ones _ _ (own_one (s.getSl 6 rfl))) ?_; intro w1 s
      refine s_nil ?_
      refine hK11 _ _ ?_
      refine c_seq fun K12 hK12 => ?_
      refine c_seq fun K13 hK13 => ?_
      refine c_region ?_
      refine s_pure h (ru_field fld24_2 (h.ev rfl)) rfl ?_; intro f h
      refine s_store_one 0 h s one3 rfl rfl rfl (by show _ < 3; decide) (rfl) ?_; intro w1 s
      replace s := s.recell (D := mlArr { M9 with now := 1099511627776 } vf) 0 rfl rfl
      refine s_nil ?_
      refine hK13 _ _ ?_
      refine c_seq fun K14 hK14 => ?_
      refine c_region ?_
      obtain ⟨hb1, hb2, hb3, _⟩ := (right_iff M9).1 hr
      refine s_pure h (ru_move (h.ev rfl)) rfl ?_; intro f h
      refine s_pure h (ru_field fld24_2 (h.ev rfl)) rfl ?_; intro f h
      refine s_load_at1 (cell_of_has (Has.of_own s 7 rfl) 2 (rfl)) h one3 rfl rfl ?_; intro f h
      refine s_pure h (ru_sub (h.ev rfl) (h.ev rfl) (by omega)) rfl ?_; intro f h
      refine s_pure h (ru_lss (h.ev rfl) (h.ev rfl)) rfl ?_; intro f h
      refine s_nil ?_
      refine hK14 _ _ ?_
      refine c_cond h rfl (fun hc => ?_) (fun hc => ?_)
      · replace hc := of_decide_eq_true hc
        refine c_region ?_
        refine s_pure h (ru_field fld24_2 (h.ev rfl)) rfl ?_; intro f h
        refine s_load_at1 (cell_of_has (Has.of_own s 7 rfl) 2 (rfl)) h one3 rfl rfl ?_; intro f h
        refine s_pure h (ru_move (h.ev rfl)) rfl ?_; intro f h
        refine s_pure h (ru_add (h.ev rfl) (h.ev rfl) (by omega)) rfl ?_; intro f h
        refine s_pure h (ru_field fld24_2 (h.ev rfl)) rfl ?_; intro f h
        refine s_store_one 0 h s one3 rfl rfl rfl (by show _ < 3; decide) (rfl) ?_; intro w1 s
        replace s := s.recell (D := mlArr { M9 with now := M9.now + min tk (1099511627776 - M9.now) } vf) 0 rfl (by show #[_, _, _] = #[_, _, _]; rw [show min tk (1099511627776 - M9.now) = tk from by omega])
        refine s_nil ?_
        refine hK12 _ _ ?_
        refine c_seq fun K15 hK15 => ?_
        refine c_seq fun K16 hK16 => ?_
        cases ht : (decide (tk < 0) : Bool)
        · skip
          refine c_region ?_
          have hq1 : passE M9 tk = 0 := passE_0 (by rw [hr, ht]; rfl)
          have hq2 := passM_ok hq1
          refine s_pure h (ru_move (h.ev rfl)) rfl ?_; intro f h
          refine s_pure h (ru_val (.bool false) (ru_lss (h.ev rfl) (h.ev rfl)) (congrArg Value.bool ht)) rfl ?_; intro f h
          refine s_pure h (ru_move (h.ev rfl)) rfl ?_; intro f h
          refine s_off (b := true) h rfl rfl rfl rfl ?_; intro f h
          refine s_off (b := true) h rfl rfl rfl rfl ?_; intro f h
          refine s_off (b := true) h rfl rfl rfl rfl ?_; intro f h
          refine s_none h rfl rfl rfl rfl ?_; intro f h
          refine s_none h rfl rfl rfl rfl ?_; intro f h
          refine s_none h rfl rfl rfl rfl ?_; intro f h
          refine s_none h rfl rfl rfl rfl ?_; intro f h
          refine s_off (b := true) h rfl rfl rfl rfl ?_; intro f h
          refine s_pure h (ru_pick_f (h.ev rfl) (h.ev rfl)) rfl ?_; intro f h
          refine s_pure h (ru_move (h.ev rfl)) rfl ?_; intro f h
          refine s_on h rfl rfl rfl ?_
          refine s_pure h (ru_move (h.ev rfl)) rfl ?_; intro f h
          refine s_on h rfl rfl rfl ?_
          refine s_pure h (ru_val (.bool true) (ru_geq (h.ev rfl) (h.ev rfl)) (congrArg Value.bool (decide_eq_true (by have := of_decide_eq_false ht; omega)))) rfl ?_; intro f h
          refine s_on h rfl rfl rfl ?_
          refine s_pure h (ru_move (h.ev rfl)) rfl ?_; intro f h
          refine s_on h rfl rfl rfl ?_
          refine s_pure h (ru_move (h.ev rfl)) rfl ?_; intro f h
          refine s_on h rfl rfl rfl ?_
          refine s_pure h (ru_val (.bool false) (ru_neq (h.ev rfl) (h.ev rfl)) (congrArg Value.bool (decide_eq_false (fun h9 => h9 hq1)))) rfl ?_; intro f h
          refine s_on h rfl rfl rfl ?_
          refine s_pure h (ru_move (h.ev rfl)) rfl ?_; intro f h
          refine s_on h rfl rfl rfl ?_
          refine s_load_row 2 h s row24 rfl rfl (rfl) rfl ?_; intro f h
          refine s_on h rfl rfl rfl ?_
          refine s_load_row 0 h s row24 rfl rfl (rfl) rfl ?_; intro f h
          refine s_on h rfl rfl rfl ?_
          refine s_call h s fnc13 (ret_val (.bool true) (like_any (passM M9 tk) ({ M9 with now := M9.now + min tk (1099511627776 - M9.now) }) vq vf _ ((RdZ.of_own (s.getSl 3 rfl))) ((RdZ.of_own (s.getSl 6 rfl))) (by have := pass_len (m := M9) (t := tk) hml; omega) (by show M9.l.length ≤ 1000; omega)) (congrArg Value.bool (by rw [hq2]; exact like_self _))) rfl rfl ?_; intro f w1 v9 hT hE h s; obtain rfl := hT
          refine s_on h rfl rfl rfl ?_
          refine s_pure h (ru_val (.bool false) (ru_not (h.ev rfl)) rfl) rfl ?_; intro f h
          refine s_on h rfl rfl rfl ?_
          refine s_pure h (ru_pick_f (h.ev rfl) (h.ev rfl)) rfl ?_; intro f h
          refine s_on h rfl rfl rfl ?_
          refine s_pure h (ru_pick_t (h.ev rfl) (h.ev rfl)) rfl ?_; intro f h
          refine s_pure h (ru_pick_f (h.ev rfl) (h.ev rfl)) rfl ?_; intro f h
          refine s_nil ?_
          refine hK16 _ _ ?_
          refine wpIn_cond_false (h.ev rfl) ?_
          refine wpIn_skip ?_
          refine hK15 _ _ ?_
          refine c_seq fun K17 hK17 => ?_
          refine c_region ?_
          refine s_pure h (ru_assign (h.ev rfl)) rfl ?_; intro f h
          refine s_nil ?_
          refine hK17 _ _ ?_
          refine c_seq fun K18 hK18 => ?_
          refine wpIn_block ?_
          refine c_seq fun K19 hK19 => ?_
          cases f0 : (decide (fr < 0) : Bool)
          · skip
            cases f1 : (decide (31 < fr) : Bool)
            · skip
              cases t0 : (decide (tt < 0) : Bool)
              · skip
                cases t1 : (decide (31 < tt) : Bool)
                · skip
                  refine c_region ?_
                  refine s_pure h (ru_move (h.ev rfl)) rfl ?_; intro f h
                  refine s_pure h (ru_val (.bool false) (ru_lss (h.ev rfl) (h.ev rfl)) (congrArg Value.bool f0)) rfl ?_; intro f h
                  refine s_pure h (ru_move (h.ev rfl)) rfl ?_; intro f h
                  refine s_on h rfl rfl rfl ?_
                  refine s_pure h (ru_move (h.ev rfl)) rfl ?_; intro f h
                  refine s_on h rfl rfl rfl ?_
                  refine s_pure h (ru_val (.bool false) (ru_gtr (h.ev rfl) (h.ev rfl)) (congrArg Value.bool f1)) rfl ?_; intro f h
                  refine s_pure h (ru_pick_f (h.ev rfl) (h.ev rfl)) rfl ?_; intro f h
                  refine s_pure h (ru_move (h.ev rfl)) rfl ?_; intro f h
                  refine s_on h rfl rfl rfl ?_
                  refine s_pure h (ru_move (h.ev rfl)) rfl ?_; intro f h
                  refine s_on h rfl rfl rfl ?_
                  refine s_pure h (ru_val (.bool false) (ru_lss (h.ev rfl) (h.ev rfl)) (congrArg Value.bool t0)) rfl ?_; intro f h
                  refine s_pure h (ru_pick_f (h.ev rfl) (h.ev rfl)) rfl ?_; intro f h
                  refine s_pure h (ru_move (h.ev rfl)) rfl ?_; intro f h
                  refine s_on h rfl rfl rfl ?_
                  refine s_pure h (ru_move (h.ev rfl)) rfl ?_; intro f h
                  refine s_on h rfl rfl rfl ?_
                  refine s_pure h (ru_val (.bool false) (ru_gtr (h.ev rfl) (h.ev rfl)) (congrArg Value.bool t1)) rfl ?_; intro f h
                  refine s_pure h (ru_pick_f (h.ev rfl) (h.ev rfl)) rfl ?_; intro f h
                  refine s_pure h (ru_assign (h.ev rfl)) rfl ?_; intro f h
                  refine s_nil ?_
                  refine hK19 _ _ ?_
                  refine wpIn_cond_false (h.ev rfl) ?_
                  refine c_seq fun K20 hK20 => ?_
                  refine c_region ?_
                  refine s_pure h (ru_move (h.ev rfl)) rfl ?_; intro f h
                  refine s_pure h (ru_len_str Try.underlying9 (h.ev rfl)) rfl ?_; intro f h
                  refine s_pure h (ru_gtr (h.ev rfl) (h.ev rfl)) rfl ?_; intro f h
                  refine s_pure h (ru_assign (h.ev rfl)) rfl ?_; intro f h
                  refine s_nil ?_
                  refine hK20 _ _ ?_
                  refine c_cond h rfl (fun hc => ?_) (fun hc => ?_)
                  · replace hc := of_decide_eq_true hc
                    have hb9 : (!rightL M9 || (!adr fr || !adr tt)) = false := by rw [hr, adr_y _ f0 f1, adr_y _ t0 t1]; rfl
                    refine c_region ?_
                    refine s_pure h (ru_assign (h.ev rfl)) rfl ?_; intro f h
                    refine s_nil ?_
                    refine b_norm ?_
                    refine hK18 _ _ ?_
                    refine c_seq fun K21 hK21 => ?_
                    refine c_seq fun K22 hK22 => ?_
                    refine c_region ?_
                    refine s_pure h (ru_move (h.ev rfl)) rfl ?_; intro f h
                    refine s_pure h (ru_val (.bool true) (ru_neq (h.ev rfl) (h.ev rfl)) (congrArg Value.bool (decide_eq_true (by decide)))) rfl ?_; intro f h
                    refine s_nil ?_
                    refine hK22 _ _ ?_
                    refine wpIn_cond_true (h.ev rfl) ?_
                    refine c_seq fun K23 hK23 => ?_
                    refine c_region ?_
                    have hp1 : postE M9 fr tt dy = 2 := postE_2 hb9 (by omega)
                    obtain ⟨hp2, hp3⟩ := postM_no (m := M9) (f := fr) (t := tt) (d := dy) (by omega)
                    refine s_pure h (ru_move (h.ev rfl)) rfl ?_; intro f h
                    refine s_pure h (ru_move (h.ev rfl)) rfl ?_; intro f h
                    refine s_pure h (ru_val (.bool true) (ru_eql (h.ev rfl) (h.ev rfl)) (congrArg Value.bool (decide_eq_true (hp1)))) rfl ?_; intro f h
                    refine s_pure h (ru_move (h.ev rfl)) rfl ?_; intro f h
                    refine s_on h rfl rfl rfl ?_
                    refine s_pure h (ru_move (h.ev rfl)) rfl ?_; intro f h
                    refine s_on h rfl rfl rfl ?_
                    refine s_pure h (ru_val (.bool true) (ru_eql (h.ev rfl) (h.ev rfl)) (congrArg Value.bool (decide_eq_true (hp3)))) rfl ?_; intro f h
                    refine s_pure h (ru_pick_t (h.ev rfl) (h.ev rfl)) rfl ?_; intro f h
                    refine s_pure h (ru_move (h.ev rfl)) rfl ?_; intro f h
                    refine s_on h rfl rfl rfl ?_
                    refine s_load_row 4 h s row24 rfl rfl (rfl) rfl ?_; intro f h
                    refine s_on h rfl rfl rfl ?_
                    refine s_load_row 1 h s row24 rfl rfl (rfl) rfl ?_; intro f h
                    refine s_on h rfl rfl rfl ?_
                    refine s_call h s fnc13 (ret_val (.bool true) (like_any (postM M9 fr tt dy) (zMl) vp (.slice none 0 0) _ ((RdZ.of_own (s.getSl 5 rfl))) (rd_nil4 _) (by have := post_len (m := M9) (f := fr) (t := tt) (d := dy) hml; omega) (by decide)) (congrArg Value.bool (by rw [hp2]; exact like_self _))) rfl rfl ?_; intro f w1 v9 hT hE h s; obtain rfl := hT
                    refine s_pure h (ru_pick_t (h.ev rfl) (h.ev rfl)) rfl ?_; intro f h
                    refine s_pure h (ru_assign (h.ev rfl)) rfl ?_; intro f h
                    refine s_nil ?_
                    refine hK23 _ _ ?_
                    refine wpIn_ret ?_
                    refine t_ret ?_
                    exact e_tmp rfl h s rfl (rfl)
                  · have hsz := of_decide_eq_false hc
                    have hb9 : (!rightL M9 || (!adr fr || !adr tt)) = false := by rw [hr, adr_y _ f0 f1, adr_y _ t0 t1]; rfl
                    refine c_seq fun K24 hK24 => ?_
                    cases hu : (decide (M9.l.length = 64) : Bool)
                    · skip
                      cases hv : (decide (M9.last = 1099511627776) : Bool)
                      · skip
                        refine c_region ?_
                        refine s_pure h (ru_field fld24_0 (h.ev rfl)) rfl ?_; intro f h
                        refine s_load_at1 (cell_of_has (Has.of_own s 7 rfl) 0 (rfl)) h one22 rfl rfl ?_; intro f h
                        refine s_len_sl 6 h s Try.underlying22 rfl rfl rfl ?_; intro f h
                        refine s_pure h (ru_val (.bool false) (ru_eql (h.ev rfl) (h.ev rfl)) (congrArg Value.bool (decide_eq_false (by have := of_decide_eq_false hu; omega)))) rfl ?_; intro f h
                        refine s_pure h (ru_move (h.ev rfl)) rfl ?_; intro f h
                        refine s_on h rfl rfl rfl ?_
                        refine s_pure h (ru_field fld24_1 (h.ev rfl)) rfl ?_; intro f h
                        refine s_on h rfl rfl rfl ?_
                        refine s_load_at1 (cell_of_has (Has.of_own s 7 rfl) 1 (rfl)) h one3 rfl rfl ?_; intro f h
                        refine s_on h rfl rfl rfl ?_
                        refine s_pure h (ru_val (.bool false) (ru_eql (h.ev rfl) (h.ev rfl)) (congrArg Value.bool hv)) rfl ?_; intro f h
                        refine s_pure h (ru_pick_f (h.ev rfl) (h.ev rfl)) rfl ?_; intro f h
                        refine s_pure h (ru_assign (h.ev rfl)) rfl ?_; intro f h
                        refine s_nil ?_
                        refine hK24 _ _ ?_
                        refine wpIn_cond_false (h.ev rfl) ?_
                        refine wpIn_skip ?_
                        refine b_norm ?_
                        refine hK18 _ _ ?_
                        refine c_seq fun K25 hK25 => ?_
                        refine c_seq fun K26 hK26 => ?_
                        refine c_region ?_
                        refine s_pure h (ru_move (h.ev rfl)) rfl ?_; intro f h
                        refine s_pure h (ru_val (.bool false) (ru_neq (h.ev rfl) (h.ev rfl)) (congrArg Value.bool (decide_eq_false (by decide)))) rfl ?_; intro f h
                        refine s_nil ?_
                        refine hK26 _ _ ?_
                        refine wpIn_cond_false (h.ev rfl) ?_
                        refine wpIn_skip ?_
                        refine hK25 _ _ ?_
                        refine c_seq fun K27 hK27 => ?_
                        refine c_region ?_
                        refine s_load_row 7 h s row24 rfl rfl (rfl) rfl ?_; intro f h
                        refine s_store_row 0 h s row24 rfl rfl rfl (rfl) (rfl) (mlArr_ones _ _ (own_one (s.getSl 6 rfl))) ?_; intro w1 s
                        refine s_nil ?_
                        refine hK27 _ _ ?_
                        refine c_seq fun K28 hK28 => ?_
                        refine c_region ?_
                        refine s_pure h (ru_field fld24_1 (h.ev rfl)) rfl ?_; intro f h
                        refine s_load_at1 (cell_of_has (Has.of_own s 0 rfl) 1 (rfl)) h one3 rfl rfl ?_; intro f h
                        refine s_pure h (ru_add (h.ev rfl) (h.ev rfl) (by omega)) rfl ?_; intro f h
                        refine s_pure h (ru_field fld24_1 (h.ev rfl)) rfl ?_; intro f h
                        refine s_store_one 0 h s one3 rfl rfl rfl (by show _ < 3; decide) (rfl) ?_; intro w1 s
                        replace s := s.recell (D := mlArr { M9 with last := M9.last + 1 } vf) 0 rfl rfl
                        refine s_nil ?_
                        refine hK28 _ _ ?_
                        refine c_seq fun K29 hK29 => ?_
                        have hbs := s.ext.le
                        refine' c_reg2 11 [1, 4, 6, 7, 8, 12] [] [[], [], [1], [0, 1, 2], [], [4], [], [], [], [4, 5, 6, 7, 8], [4, 5, 6, 7, 8, 9], [0, 1, 2, 3, 4, 5, 6, 7, 8, 9, 10], [0, 1, 2, 3, 4, 5, 6, 7, 8, 9, 10, 11], [0, 1, 2, 3, 4, 5, 6, 7, 8, 9, 10, 11, 12]] ((Emp w1.heap.size 35) :: is _ :: is _ :: (fun v w9 => Owns w9 w1.heap.size 35 4 v (M9.l).length (ltCells (M9.l))) :: is _ :: is _ :: is _ :: is _ :: is _ :: is _ :: (fun v w9 => RdZ w9 v 4 1 ((ltArr (M9.last + 1, fr, tt, dy)).toList)) :: is undef :: is _ :: is undef :: []) (fun _ => True) h s (by kernel_rfl) (by kernel_rfl) (by kernel_rfl) (by kernel_rfl) rfl (fun _ _ h _ => h) (trivial) ⟨⟨_, rfl⟩, ⟨_, rfl⟩, ⟨_, rfl⟩, ⟨_, rfl⟩, ⟨_, rfl⟩, ⟨_, rfl⟩, trivial⟩ ⟨Emp.mono _ _, is_mono _, is_mono _, ownsM _ _ _ _ _, is_mono _, is_mono _, is_mono _, is_mono _, is_mono _, is_mono _, RdZ.mono, is_mono _, is_mono _, is_mono _, trivial⟩ (And.intro ?_ (And.intro ?_ (And.intro ?_ (And.intro ?_ (And.intro ?_ (And.intro ?_ (And.intro ?_ (And.intro ?_ (And.intro ?_ (And.intro ?_ (And.intro ?_ (And.intro ?_ (And.intro ?_ (And.intro ?_ (trivial))))))))))))))) ?_
                        rotate_left 9
                        · refine obF_in 160 rfl (by decide) (by decide) ?_
                          intro f9 w2 hE hs hd9 hl
                          have h := fin_slot [] hs hd9 (holds_lk trivial)
                          have s := s.more hE
                          have z := St.start w2
                          refine s_bslice0 (base := w1.heap.size) h Try.underlying22 elm35 hE.le rfl ?_; intro f w3 v3 h hE3 hm3
                          refine s_nil ?_
                          exact ⟨by rw [h.holds 160 _ rfl]; exact hm3, hE3, fun h9 => absurd h9 (by decide)⟩
                        · refine obH_in 161 rfl (by decide) ?_
                          intro f9 w2 hE hs hl
                          have e5 : f9.tmps.getD 5 undef = _ := sx_old hl 5 (by kernel_rfl) (by kernel_rfl) (h.holds 5 _ rfl)
                          have h := fin_slot [(5, _)] hs rfl (holds_lk ⟨e5, trivial⟩)
                          refine s_pure h (ru_field fld24_0 (h.ev rfl)) rfl ?_; intro f h
                          refine s_nil ?_
                          have e9 := h.holds 161 _ rfl
                          refine ⟨?_, rfl⟩
                          refine e9.trans ?_
                          exact rfl
                        · refine obF_in 162 rfl (by decide) (by decide) ?_
                          intro f9 w2 hE hs hd9 hl
                          have e161 : f9.tmps.getD 161 undef = _ := sx_get hl 161 1 (by kernel_rfl) (by kernel_rfl)
                          have h := fin_slot [(161, _)] hs hd9 (holds_lk ⟨e161, trivial⟩)
                          have s := s.more hE
                          have z := St.start w2
                          refine s_load_at1 (cell_of_has (Has.of_own s 7 rfl) 0 (rfl)) h one22 rfl rfl ?_; intro f h
                          refine s_nil ?_
                          have e9 := h.holds 162 _ rfl
                          refine ⟨?_, Ext.refl _, fun h9 => absurd h9 (by decide)⟩
                          refine e9.trans ?_
                          exact rfl
                        · refine obF_in 163 rfl (by decide) (by decide) ?_
                          intro f9 w2 hE hs hd9 hl
                          obtain ⟨u160, hu160⟩ : ∃ v, f9.tmps.getD 160 undef = v := ⟨_, rfl⟩
                          have e160 : (Emp w1.heap.size 35) u160 w2 := by rw [← hu160]; exact sx_get hl 160 0 (by kernel_rfl) (by kernel_rfl)
                          have e162 : f9.tmps.getD 162 undef = _ := sx_get hl 162 2 (by kernel_rfl) (by kernel_rfl)
                          have h := fin_slot [(160, u160), (162, _)] hs hd9 (holds_lk ⟨hu160, e162, trivial⟩)
                          have s := s.more hE
                          have z := St.start w2
                          refine s_append_emp (base := w1.heap.size) e160 (RdZ.of_own (s.getSl 6 rfl)) h Try.underlying22 elm35 rfl rfl hE.le (ltCells_ones _) (by unfold maxLen; omega) (by omega) rfl ?_; intro f w3 v3 h hE3 hO
                          refine s_nil ?_
                          exact ⟨by rw [h.holds 163 _ rfl]; exact hO, hE3, fun h9 => absurd h9 (by decide)⟩
                        · refine obH_in 164 rfl (by decide) ?_
                          intro f9 w2 hE hs hl
                          have e17 : f9.tmps.getD 17 undef = _ := sx_old hl 17 (by kernel_rfl) (by kernel_rfl) (h.holds 17 _ rfl)
                          have h := fin_slot [(17, _)] hs rfl (holds_lk ⟨e17, trivial⟩)
                          refine s_pure h (ru_field fld24_1 (h.ev rfl)) rfl ?_; intro f h
                          refine s_nil ?_
                          have e9 := h.holds 164 _ rfl
                          refine ⟨?_, rfl⟩
                          refine e9.trans ?_
                          exact rfl
                        · refine obF_in 165 rfl (by decide) (by decide) ?_
                          intro f9 w2 hE hs hd9 hl
                          have e164 : f9.tmps.getD 164 undef = _ := sx_get hl 164 4 (by kernel_rfl) (by kernel_rfl)
                          have h := fin_slot [(164, _)] hs hd9 (holds_lk ⟨e164, trivial⟩)
                          have s := s.more hE
                          have z := St.start w2
                          refine s_load_at1 (cell_of_has (Has.of_own s 0 rfl) 1 (rfl)) h one3 rfl rfl ?_; intro f h
                          refine s_nil ?_
                          have e9 := h.holds 165 _ rfl
                          refine ⟨?_, Ext.refl _, fun h9 => absurd h9 (by decide)⟩
                          refine e9.trans ?_
                          exact rfl
                        · refine obH_in 166 rfl (by decide) ?_
                          intro f9 w2 hE hs hl
                          have e1 : f9.tmps.getD 1 undef = _ := sx_old hl 1 (by kernel_rfl) (by kernel_rfl) (h.holds 1 _ rfl)
                          have h := fin_slot [(1, _)] hs rfl (holds_lk ⟨e1, trivial⟩)
                          refine s_pure h (ru_move (h.ev rfl)) rfl ?_; intro f h
                          refine s_nil ?_
                          have e9 := h.holds 166 _ rfl
                          refine ⟨?_, rfl⟩
                          refine e9.trans ?_
                          exact rfl
                        · refine obH_in 167 rfl (by decide) ?_
                          intro f9 w2 hE hs hl
                          have e2 : f9.tmps.getD 2 undef = _ := sx_old hl 2 (by kernel_rfl) (by kernel_rfl) (h.holds 2 _ rfl)
                          have h := fin_slot [(2, _)] hs rfl (holds_lk ⟨e2, trivial⟩)
                          refine s_pure h (ru_move (h.ev rfl)) rfl ?_; intro f h
                          refine s_nil ?_
                          have e9 := h.holds 167 _ rfl
                          refine ⟨?_, rfl⟩
                          refine e9.trans ?_
                          exact rfl
                        · refine obH_in 168 rfl (by decide) ?_
                          intro f9 w2 hE hs hl
                          have e4 : f9.tmps.getD 4 undef = _ := sx_old hl 4 (by kernel_rfl) (by kernel_rfl) (h.holds 4 _ rfl)
                          have h := fin_slot [(4, _)] hs rfl (holds_lk ⟨e4, trivial⟩)
                          refine s_pure h (ru_move (h.ev rfl)) rfl ?_; intro f h
                          refine s_nil ?_
                          have e9 := h.holds 168 _ rfl
                          refine ⟨?_, rfl⟩
                          refine e9.trans ?_
                          exact rfl
                        · refine obF_in 169 rfl (by decide) (by decide) ?_
                          intro f9 w2 hE hs hd9 hl
                          have e165 : f9.tmps.getD 165 undef = _ := sx_get hl 165 5 (by kernel_rfl) (by kernel_rfl)
                          have e166 : f9.tmps.getD 166 undef = _ := sx_get hl 166 6 (by kernel_rfl) (by kernel_rfl)
                          have e167 : f9.tmps.getD 167 undef = _ := sx_get hl 167 7 (by kernel_rfl) (by kernel_rfl)
                          have e168 : f9.tmps.getD 168 undef = _ := sx_get hl 168 8 (by kernel_rfl) (by kernel_rfl)
                          have h := fin_slot [(165, _), (166, _), (167, _), (168, _)] hs hd9 (holds_lk ⟨e165, e166, e167, e168, trivial⟩)
                          have s := s.more hE
                          have z := St.start w2
                          refine s_pure h (ru_build_lt sttL (h.ev rfl) (h.ev rfl) (h.ev rfl) (h.ev rfl)) rfl ?_; intro f h
                          refine s_nil ?_
                          have e9 := h.holds 169 _ rfl
                          refine ⟨?_, Ext.refl _, fun h9 => absurd h9 (by decide)⟩
                          refine e9.trans ?_
                          exact rfl
                        · refine obF_in 170 rfl (by decide) (by decide) ?_
                          intro f9 w2 hE hs hd9 hl
                          have e169 : f9.tmps.getD 169 undef = _ := sx_get hl 169 9 (by kernel_rfl) (by kernel_rfl)
                          have h := fin_slot [(169, _)] hs hd9 (holds_lk ⟨e169, trivial⟩)
                          have s := s.more hE
                          have z := St.start w2
                          refine s_bslice (vs := [.agg (ltArr (M9.last + 1, fr, tt, dy))]) [.tmp 169] h z Try.underlying22 elm35 rfl rfl (one_lt_size _) rfl rfl rfl ?_; intro f w1 v9 h z
                          refine s_nil ?_
                          exact kf_rd (h.holds 170 _ rfl) z _ (one_lt _)
                        · exact obT_in (by decide) (by decide)
                        · refine obH_in 172 rfl (by decide) ?_
                          intro f9 w2 hE hs hl
                          have e17 : f9.tmps.getD 17 undef = _ := sx_old hl 17 (by kernel_rfl) (by kernel_rfl) (h.holds 17 _ rfl)
                          have h := fin_slot [(17, _)] hs rfl (holds_lk ⟨e17, trivial⟩)
                          refine s_pure h (ru_field fld24_0 (h.ev rfl)) rfl ?_; intro f h
                          refine s_nil ?_
                          have e9 := h.holds 172 _ rfl
                          refine ⟨?_, rfl⟩
                          refine e9.trans ?_
                          exact rfl
                        · exact obT_in (by decide) (by decide)
                        · intro f9 w2 hE hs hd9 hWp hT hR hFr hDj
                          obtain ⟨u160, hu160⟩ : ∃ v, f9.tmps.getD 160 undef = v := ⟨_, rfl⟩
                          have e160 : (Emp w1.heap.size 35) u160 w2 := by rw [← hu160]; exact hT 0 160 (by decide) rfl
                          obtain ⟨u163, hu163⟩ : ∃ v, f9.tmps.getD 163 undef = v := ⟨_, rfl⟩
                          have e163 : (fun v w9 => Owns w9 w1.heap.size 35 4 v (M9.l).length (ltCells (M9.l))) u163 w2 := by rw [← hu163]; exact hT 3 163 (by decide) rfl
                          obtain ⟨u170, hu170⟩ : ∃ v, f9.tmps.getD 170 undef = v := ⟨_, rfl⟩
                          have e170 : (fun v w9 => RdZ w9 v 4 1 ((ltArr (M9.last + 1, fr, tt, dy)).toList)) u170 w2 := by rw [← hu170]; exact hT 10 170 (by decide) rfl
                          replace h := sl_new (ops := _) [(160, u160), (161, _), (162, _), (163, u163), (164, _), (165, _), (166, _), (167, _), (168, _), (169, _), (170, u170), (172, _)] h hs hd9 hR ⟨hu160, hT 1 161 (by decide) rfl, hT 2 162 (by decide) rfl, hu163, hT 4 164 (by decide) rfl, hT 5 165 (by decide) rfl, hT 6 166 (by decide) rfl, hT 7 167 (by decide) rfl, hT 8 168 (by decide) rfl, hT 9 169 (by decide) rfl, hu170, hT 12 172 (by decide) rfl, trivial⟩ (by kernel_rfl)
                          replace s := s.sl_new hE e163
                          clear hT hR hFr hDj
                          refine LstW.of ?_
                          refine s_append_rd 0 (e170) h s Try.underlying22 elm35 rfl rfl rfl (ltArr_ones (M9.last + 1, fr, tt, dy)) (by unfold maxLen; omega) (by omega) rfl ?_; intro f w1 v171 h s
                          replace s := s.resl (m := (M9.l ++ [(M9.last + 1, fr, tt, dy)]).length) (ys := ltCells (M9.l ++ [(M9.last + 1, fr, tt, dy)])) 0 rfl (by rw [List.length_append]; rfl) (cells_snoc _ _)
                          refine s_store_one 1 h s one22 rfl rfl rfl (by show _ < 3; decide) (own_one (s.getSl 0 rfl)) ?_; intro w1 s
                          replace s := s.recell (D := mlArr ⟨M9.l ++ [(M9.last + 1, fr, tt, dy)], M9.last + 1, M9.now⟩ v171) 1 rfl rfl
                          refine s_nil ?_
                          refine hK29 _ _ ?_
                          refine c_seq fun K30 hK30 => ?_
                          refine c_region ?_
                          have hp1 : postE M9 fr tt dy = 0 := postE_0 hb9 (by omega) (by rw [hu, hv]; rfl)
                          obtain ⟨hp2, hp3⟩ := postM_ok hp1
                          refine s_pure h (ru_move (h.ev rfl)) rfl ?_; intro f h
                          refine s_pure h (ru_val (.bool true) (ru_eql (h.ev rfl) (h.ev rfl)) (congrArg Value.bool (decide_eq_true (hp1)))) rfl ?_; intro f h
                          refine s_pure h (ru_move (h.ev rfl)) rfl ?_; intro f h
                          refine s_on h rfl rfl rfl ?_
                          refine s_pure h (ru_move (h.ev rfl)) rfl ?_; intro f h
                          refine s_on h rfl rfl rfl ?_
                          refine s_pure h (ru_field fld24_1 (h.ev rfl)) rfl ?_; intro f h
                          refine s_on h rfl rfl rfl ?_
                          refine s_load_at1 (cell_of_has (Has.of_own s 1 rfl) 1 (rfl)) h one3 rfl rfl ?_; intro f h
                          refine s_on h rfl rfl rfl ?_
                          refine s_pure h (ru_val (.bool true) (ru_eql (h.ev rfl) (h.ev rfl)) (congrArg Value.bool (decide_eq_true (hp3)))) rfl ?_; intro f h
                          refine s_pure h (ru_pick_t (h.ev rfl) (h.ev rfl)) rfl ?_; intro f h
                          refine s_pure h (ru_move (h.ev rfl)) rfl ?_; intro f h
                          refine s_on h rfl rfl rfl ?_
                          refine s_load_row 5 h s row24 rfl rfl (rfl) rfl ?_; intro f h
                          refine s_on h rfl rfl rfl ?_
                          refine s_load_row 1 h s row24 rfl rfl (rfl) rfl ?_; intro f h
                          refine s_on h rfl rfl rfl ?_
                          refine s_call h s fnc13 (ret_val (.bool true) (like_any (postM M9 fr tt dy) (⟨M9.l ++ [(M9.last + 1, fr, tt, dy)], M9.last + 1, M9.now⟩) vp v171 _ ((RdZ.of_own (s.getSl 6 rfl))) ((RdZ.of_own (s.getSl 0 rfl))) (by have := post_len (m := M9) (f := fr) (t := tt) (d := dy) hml; omega) (by show (M9.l ++ [_]).length ≤ 1000; rw [List.length_append]; show _ + 1 ≤ 1000; omega)) (congrArg Value.bool (by rw [hp2]; exact like_self _))) rfl rfl ?_; intro f w1 v9 hT hE h s; obtain rfl := hT
                          refine s_pure h (ru_pick_t (h.ev rfl) (h.ev rfl)) rfl ?_; intro f h
                          refine s_pure h (ru_assign (h.ev rfl)) rfl ?_; intro f h
                          refine s_nil ?_
                          refine hK30 _ _ ?_
                          refine wpIn_ret ?_
                          exact e_tmp rfl h s rfl (rfl)
                      · skip
                        refine c_region ?_
                        refine s_pure h (ru_field fld24_0 (h.ev rfl)) rfl ?_; intro f h
                        refine s_load_at1 (cell_of_has (Has.of_own s 7 rfl) 0 (rfl)) h one22 rfl rfl ?_; intro f h
                        refine s_len_sl 6 h s Try.underlying22 rfl rfl rfl ?_; intro f h
                        refine s_pure h (ru_val (.bool false) (ru_eql (h.ev rfl) (h.ev rfl)) (congrArg Value.bool (decide_eq_false (by have := of_decide_eq_false hu; omega)))) rfl ?_; intro f h
                        refine s_pure h (ru_move (h.ev rfl)) rfl ?_; intro f h
                        refine s_on h rfl rfl rfl ?_
                        refine s_pure h (ru_field fld24_1 (h.ev rfl)) rfl ?_; intro f h
                        refine s_on h rfl rfl rfl ?_
                        refine s_load_at1 (cell_of_has (Has.of_own s 7 rfl) 1 (rfl)) h one3 rfl rfl ?_; intro f h
                        refine s_on h rfl rfl rfl ?_
                        refine s_pure h (ru_val (.bool true) (ru_eql (h.ev rfl) (h.ev rfl)) (congrArg Value.bool hv)) rfl ?_; intro f h
                        refine s_pure h (ru_pick_f (h.ev rfl) (h.ev rfl)) rfl ?_; intro f h
                        refine s_pure h (ru_assign (h.ev rfl)) rfl ?_; intro f h
                        refine s_nil ?_
                        refine hK24 _ _ ?_
                        refine wpIn_cond_true (h.ev rfl) ?_
                        refine c_region ?_
                        refine s_pure h (ru_assign (h.ev rfl)) rfl ?_; intro f h
                        refine s_nil ?_
                        refine b_norm ?_
                        refine hK18 _ _ ?_
                        refine c_seq fun K31 hK31 => ?_
                        refine c_seq fun K32 hK32 => ?_
                        refine c_region ?_
                        refine s_pure h (ru_move (h.ev rfl)) rfl ?_; intro f h
                        refine s_pure h (ru_val (.bool true) (ru_neq (h.ev rfl) (h.ev rfl)) (congrArg Value.bool (decide_eq_true (by decide)))) rfl ?_; intro f h
                        refine s_nil ?_
                        refine hK32 _ _ ?_
                        refine wpIn_cond_true (h.ev rfl) ?_
                        refine c_seq fun K33 hK33 => ?_
                        refine c_region ?_
                        have hp1 : postE M9 fr tt dy = 8 := postE_8 hb9 (by omega) (by rw [hu, hv]; rfl)
                        obtain ⟨hp2, hp3⟩ := postM_no (m := M9) (f := fr) (t := tt) (d := dy) (by omega)
                        refine s_pure h (ru_move (h.ev rfl)) rfl ?_; intro f h
                        refine s_pure h (ru_move (h.ev rfl)) rfl ?_; intro f h
                        refine s_pure h (ru_val (.bool true) (ru_eql (h.ev rfl) (h.ev rfl)) (congrArg Value.bool (decide_eq_true (hp1)))) rfl ?_; intro f h
                        refine s_pure h (ru_move (h.ev rfl)) rfl ?_; intro f h
                        refine s_on h rfl rfl rfl ?_
                        refine s_pure h (ru_move (h.ev rfl)) rfl ?_; intro f h
                        refine s_on h rfl rfl rfl ?_
                        refine s_pure h (ru_val (.bool true) (ru_eql (h.ev rfl) (h.ev rfl)) (congrArg Value.bool (decide_eq_true (hp3)))) rfl ?_; intro f h
                        refine s_pure h (ru_pick_t (h.ev rfl) (h.ev rfl)) rfl ?_; intro f h
                        refine s_pure h (ru_move (h.ev rfl)) rfl ?_; intro f h
                        refine s_on h rfl rfl rfl ?_
                        refine s_load_row 4 h s row24 rfl rfl (rfl) rfl ?_; intro f h
                        refine s_on h rfl rfl rfl ?_
                        refine s_load_row 1 h s row24 rfl rfl (rfl) rfl ?_; intro f h
                        refine s_on h rfl rfl rfl ?_
                        refine s_call h s fnc13 (ret_val (.bool true) (like_any (postM M9 fr tt dy) (zMl) vp (.slice none 0 0) _ ((RdZ.of_own (s.getSl 5 rfl))) (rd_nil4 _) (by have := post_len (m := M9) (f := fr) (t := tt) (d := dy) hml; omega) (by decide)) (congrArg Value.bool (by rw [hp2]; exact like_self _))) rfl rfl ?_; intro f w1 v9 hT hE h s; obtain rfl := hT
                        refine s_pure h (ru_pick_t (h.ev rfl) (h.ev rfl)) rfl ?_; intro f h
                        refine s_pure h (ru_assign (h.ev rfl)) rfl ?_; intro f h
                        refine s_nil ?_
                        refine hK33 _ _ ?_
                        refine wpIn_ret ?_
                        refine t_ret ?_
                        exact e_tmp rfl h s rfl (rfl)
                    · skip
                      refine c_region ?_
                      refine s_pure h (ru_field fld24_0 (h.ev rfl)) rfl ?_; intro f h
                      refine s_load_at1 (cell_of_has (Has.of_own s 7 rfl) 0 (rfl)) h one22 rfl rfl ?_; intro f h
                      refine s_len_sl 6 h s Try.underlying22 rfl rfl rfl ?_; intro f h
                      refine s_pure h (ru_val (.bool true) (ru_eql (h.ev rfl) (h.ev rfl)) (congrArg Value.bool (decide_eq_true (by have := of_decide_eq_true hu; omega)))) rfl ?_; intro f h
                      refine s_pure h (ru_move (h.ev rfl)) rfl ?_; intro f h
                      refine s_off (b := false) h rfl rfl rfl rfl ?_; intro f h
                      refine s_off (b := false) h rfl rfl rfl rfl ?_; intro f h
                      refine s_off (b := false) h rfl rfl rfl rfl ?_; intro f h
                      refine s_pure h (ru_pick_t (h.ev rfl) (h.ev rfl)) rfl ?_; intro f h
                      refine s_pure h (ru_assign (h.ev rfl)) rfl ?_; intro f h
                      refine s_nil ?_
                      refine hK24 _ _ ?_
                      refine wpIn_cond_true (h.ev rfl) ?_
                      refine c_region ?_
                      refine s_pure h (ru_assign (h.ev rfl)) rfl ?_; intro f h
                      refine s_nil ?_
                      refine b_norm ?_
                      refine hK18 _ _ ?_
                      refine c_seq fun K34 hK34 => ?_
                      refine c_seq fun K35 hK35 => ?_
                      refine c_region ?_
                      refine s_pure h (ru_move (h.ev rfl)) rfl ?_; intro f h
                      refine s_pure h (ru_val (.bool true) (ru_neq (h.ev rfl) (h.ev rfl)) (congrArg Value.bool (decide_eq_true (by decide)))) rfl ?_; intro f h
                      refine s_nil ?_
                      refine hK35 _ _ ?_
                      refine wpIn_cond_true (h.ev rfl) ?_
                      refine c_seq fun K36 hK36 => ?_
                      refine c_region ?_
                      have hp1 : postE M9 fr tt dy = 8 := postE_8 hb9 (by omega) (by rw [hu]; rfl)
                      obtain ⟨hp2, hp3⟩ := postM_no (m := M9) (f := fr) (t := tt) (d := dy) (by omega)
                      refine s_pure h (ru_move (h.ev rfl)) rfl ?_; intro f h
                      refine s_pure h (ru_move (h.ev rfl)) rfl ?_; intro f h
                      refine s_pure h (ru_val (.bool true) (ru_eql (h.ev rfl) (h.ev rfl)) (congrArg Value.bool (decide_eq_true (hp1)))) rfl ?_; intro f h
                      refine s_pure h (ru_move (h.ev rfl)) rfl ?_; intro f h
                      refine s_on h rfl rfl rfl ?_
                      refine s_pure h (ru_move (h.ev rfl)) rfl ?_; intro f h
                      refine s_on h rfl rfl rfl ?_
                      refine s_pure h (ru_val (.bool true) (ru_eql (h.ev rfl) (h.ev rfl)) (congrArg Value.bool (decide_eq_true (hp3)))) rfl ?_; intro f h
                      refine s_pure h (ru_pick_t (h.ev rfl) (h.ev rfl)) rfl ?_; intro f h
                      refine s_pure h (ru_move (h.ev rfl)) rfl ?_; intro f h
                      refine s_on h rfl rfl rfl ?_
                      refine s_load_row 4 h s row24 rfl rfl (rfl) rfl ?_; intro f h
                      refine s_on h rfl rfl rfl ?_
                      refine s_load_row 1 h s row24 rfl rfl (rfl) rfl ?_; intro f h
                      refine s_on h rfl rfl rfl ?_
                      refine s_call h s fnc13 (ret_val (.bool true) (like_any (postM M9 fr tt dy) (zMl) vp (.slice none 0 0) _ ((RdZ.of_own (s.getSl 5 rfl))) (rd_nil4 _) (by have := post_len (m := M9) (f := fr) (t := tt) (d := dy) hml; omega) (by decide)) (congrArg Value.bool (by rw [hp2]; exact like_self _))) rfl rfl ?_; intro f w1 v9 hT hE h s; obtain rfl := hT
                      refine s_pure h (ru_pick_t (h.ev rfl) (h.ev rfl)) rfl ?_; intro f h
                      refine s_pure h (ru_assign (h.ev rfl)) rfl ?_; intro f h
                      refine s_nil ?_
                      refine hK36 _ _ ?_
                      refine wpIn_ret ?_
                      refine t_ret ?_
                      exact e_tmp rfl h s rfl (rfl)
                · skip
                  refine c_region ?_
                  refine s_pure h (ru_move (h.ev rfl)) rfl ?_; intro f h
                  refine s_pure h (ru_val (.bool false) (ru_lss (h.ev rfl) (h.ev rfl)) (congrArg Value.bool f0)) rfl ?_; intro f h
                  refine s_pure h (ru_move (h.ev rfl)) rfl ?_; intro f h
                  refine s_on h rfl rfl rfl ?_
                  refine s_pure h (ru_move (h.ev rfl)) rfl ?_; intro f h
                  refine s_on h rfl rfl rfl ?_
                  refine s_pure h (ru_val (.bool false) (ru_gtr (h.ev rfl) (h.ev rfl)) (congrArg Value.bool f1)) rfl ?_; intro f h
                  refine s_pure h (ru_pick_f (h.ev rfl) (h.ev rfl)) rfl ?_; intro f h
                  refine s_pure h (ru_move (h.ev rfl)) rfl ?_; intro f h
                  refine s_on h rfl rfl rfl ?_
                  refine s_pure h (ru_move (h.ev rfl)) rfl ?_; intro f h
                  refine s_on h rfl rfl rfl ?_
                  refine s_pure h (ru_val (.bool false) (ru_lss (h.ev rfl) (h.ev rfl)) (congrArg Value.bool t0)) rfl ?_; intro f h
                  refine s_pure h (ru_pick_f (h.ev rfl) (h.ev rfl)) rfl ?_; intro f h
                  refine s_pure h (ru_move (h.ev rfl)) rfl ?_; intro f h
                  refine s_on h rfl rfl rfl ?_
                  refine s_pure h (ru_move (h.ev rfl)) rfl ?_; intro f h
                  refine s_on h rfl rfl rfl ?_
                  refine s_pure h (ru_val (.bool true) (ru_gtr (h.ev rfl) (h.ev rfl)) (congrArg Value.bool t1)) rfl ?_; intro f h
                  refine s_pure h (ru_pick_f (h.ev rfl) (h.ev rfl)) rfl ?_; intro f h
                  refine s_pure h (ru_assign (h.ev rfl)) rfl ?_; intro f h
                  refine s_nil ?_
                  refine hK19 _ _ ?_
                  refine wpIn_cond_true (h.ev rfl) ?_
                  refine c_region ?_
                  refine s_pure h (ru_assign (h.ev rfl)) rfl ?_; intro f h
                  refine s_nil ?_
                  refine b_norm ?_
                  refine hK18 _ _ ?_
                  refine c_seq fun K37 hK37 => ?_
                  refine c_seq fun K38 hK38 => ?_
                  refine c_region ?_
                  refine s_pure h (ru_move (h.ev rfl)) rfl ?_; intro f h
                  refine s_pure h (ru_val (.bool true) (ru_neq (h.ev rfl) (h.ev rfl)) (congrArg Value.bool (decide_eq_true (by decide)))) rfl ?_; intro f h
                  refine s_nil ?_
                  refine hK38 _ _ ?_
                  refine wpIn_cond_true (h.ev rfl) ?_
                  refine c_seq fun K39 hK39 => ?_
                  refine c_region ?_
                  have hp1 : postE M9 fr tt dy = 1 := postE_1 (by rw [hr, adr_y _ f0 f1, adr_c _ t1]; rfl)
                  obtain ⟨hp2, hp3⟩ := postM_no (m := M9) (f := fr) (t := tt) (d := dy) (by omega)
                  refine s_pure h (ru_move (h.ev rfl)) rfl ?_; intro f h
                  refine s_pure h (ru_move (h.ev rfl)) rfl ?_; intro f h
                  refine s_pure h (ru_val (.bool true) (ru_eql (h.ev rfl) (h.ev rfl)) (congrArg Value.bool (decide_eq_true (hp1)))) rfl ?_; intro f h
                  refine s_pure h (ru_move (h.ev rfl)) rfl ?_; intro f h
                  refine s_on h rfl rfl rfl ?_
                  refine s_pure h (ru_move (h.ev rfl)) rfl ?_; intro f h
                  refine s_on h rfl rfl rfl ?_
                  refine s_pure h (ru_val (.bool true) (ru_eql (h.ev rfl) (h.ev rfl)) (congrArg Value.bool (decide_eq_true (hp3)))) rfl ?_; intro f h
                  refine s_pure h (ru_pick_t (h.ev rfl) (h.ev rfl)) rfl ?_; intro f h
                  refine s_pure h (ru_move (h.ev rfl)) rfl ?_; intro f h
                  refine s_on h rfl rfl rfl ?_
                  refine s_load_row 4 h s row24 rfl rfl (rfl) rfl ?_; intro f h
                  refine s_on h rfl rfl rfl ?_
                  refine s_load_row 1 h s row24 rfl rfl (rfl) rfl ?_; intro f h
                  refine s_on h rfl rfl rfl ?_
                  refine s_call h s fnc13 (ret_val (.bool true) (like_any (postM M9 fr tt dy) (zMl) vp (.slice none 0 0) _ ((RdZ.of_own (s.getSl 5 rfl))) (rd_nil4 _) (by have := post_len (m := M9) (f := fr) (t := tt) (d := dy) hml; omega) (by decide)) (congrArg Value.bool (by rw [hp2]; exact like_self _))) rfl rfl ?_; intro f w1 v9 hT hE h s; obtain rfl := hT
                  refine s_pure h (ru_pick_t (h.ev rfl) (h.ev rfl)) rfl ?_; intro f h
                  refine s_pure h (ru_assign (h.ev rfl)) rfl ?_; intro f h
                  refine s_nil ?_
                  refine hK39 _ _ ?_
                  refine wpIn_ret ?_
                  refine t_ret ?_
                  exact e_tmp rfl h s rfl (rfl)
              · skip
                refine c_region ?_
                refine s_pure h (ru_move (h.ev rfl)) rfl ?_; intro f h
                refine s_pure h (ru_val (.bool false) (ru_lss (h.ev rfl) (h.ev rfl)) (congrArg Value.bool f0)) rfl ?_; intro f h
                refine s_pure h (ru_move (h.ev rfl)) rfl ?_; intro f h
                refine s_on h rfl rfl rfl ?_
                refine s_pure h (ru_move (h.ev rfl)) rfl ?_; intro f h
                refine s_on h rfl rfl rfl ?_
                refine s_pure h (ru_val (.bool false) (ru_gtr (h.ev rfl) (h.ev rfl)) (congrArg Value.bool f1)) rfl ?_; intro f h
                refine s_pure h (ru_pick_f (h.ev rfl) (h.ev rfl)) rfl ?_; intro f h
                refine s_pure h (ru_move (h.ev rfl)) rfl ?_; intro f h
                refine s_on h rfl rfl rfl ?_
                refine s_pure h (ru_move (h.ev rfl)) rfl ?_; intro f h
                refine s_on h rfl rfl rfl ?_
                refine s_pure h (ru_val (.bool true) (ru_lss (h.ev rfl) (h.ev rfl)) (congrArg Value.bool t0)) rfl ?_; intro f h
                refine s_pure h (ru_pick_f (h.ev rfl) (h.ev rfl)) rfl ?_; intro f h
                refine s_pure h (ru_move (h.ev rfl)) rfl ?_; intro f h
                refine s_off (b := false) h rfl rfl rfl rfl ?_; intro f h
                refine s_off (b := false) h rfl rfl rfl rfl ?_; intro f h
                refine s_pure h (ru_pick_t (h.ev rfl) (h.ev rfl)) rfl ?_; intro f h
                refine s_pure h (ru_assign (h.ev rfl)) rfl ?_; intro f h
                refine s_nil ?_
                refine hK19 _ _ ?_
                refine wpIn_cond_true (h.ev rfl) ?_
                refine c_region ?_
                refine s_pure h (ru_assign (h.ev rfl)) rfl ?_; intro f h
                refine s_nil ?_
                refine b_norm ?_
                refine hK18 _ _ ?_
                refine c_seq fun K40 hK40 => ?_
                refine c_seq fun K41 hK41 => ?_
                refine c_region ?_
                refine s_pure h (ru_move (h.ev rfl)) rfl ?_; intro f h
                refine s_pure h (ru_val (.bool true) (ru_neq (h.ev rfl) (h.ev rfl)) (congrArg Value.bool (decide_eq_true (by decide)))) rfl ?_; intro f h
                refine s_nil ?_
                refine hK41 _ _ ?_
                refine wpIn_cond_true (h.ev rfl) ?_
                refine c_seq fun K42 hK42 => ?_
                refine c_region ?_
                have hp1 : postE M9 fr tt dy = 1 := postE_1 (by rw [hr, adr_y _ f0 f1, adr_b _ t0]; rfl)
                obtain ⟨hp2, hp3⟩ := postM_no (m := M9) (f := fr) (t := tt) (d := dy) (by omega)
                refine s_pure h (ru_move (h.ev rfl)) rfl ?_; intro f h
                refine s_pure h (ru_move (h.ev rfl)) rfl ?_; intro f h
                refine s_pure h (ru_val (.bool true) (ru_eql (h.ev rfl) (h.ev rfl)) (congrArg Value.bool (decide_eq_true (hp1)))) rfl ?_; intro f h
                refine s_pure h (ru_move (h.ev rfl)) rfl ?_; intro f h
                refine s_on h rfl rfl rfl ?_
                refine s_pure h (ru_move (h.ev rfl)) rfl ?_; intro f h
                refine s_on h rfl rfl rfl ?_
                refine s_pure h (ru_val (.bool true) (ru_eql (h.ev rfl) (h.ev rfl)) (congrArg Value.bool (decide_eq_true (hp3)))) rfl ?_; intro f h
                refine s_pure h (ru_pick_t (h.ev rfl) (h.ev rfl)) rfl ?_; intro f h
                refine s_pure h (ru_move (h.ev rfl)) rfl ?_; intro f h
                refine s_on h rfl rfl rfl ?_
                refine s_load_row 4 h s row24 rfl rfl (rfl) rfl ?_; intro f h
                refine s_on h rfl rfl rfl ?_
                refine s_load_row 1 h s row24 rfl rfl (rfl) rfl ?_; intro f h
                refine s_on h rfl rfl rfl ?_
                refine s_call h s fnc13 (ret_val (.bool true) (like_any (postM M9 fr tt dy) (zMl) vp (.slice none 0 0) _ ((RdZ.of_own (s.getSl 5 rfl))) (rd_nil4 _) (by have := post_len (m := M9) (f := fr) (t := tt) (d := dy) hml; omega) (by decide)) (congrArg Value.bool (by rw [hp2]; exact like_self _))) rfl rfl ?_; intro f w1 v9 hT hE h s; obtain rfl := hT
                refine s_pure h (ru_pick_t (h.ev rfl) (h.ev rfl)) rfl ?_; intro f h
                refine s_pure h (ru_assign (h.ev rfl)) rfl ?_; intro f h
                refine s_nil ?_
                refine hK42 _ _ ?_
                refine wpIn_ret ?_
                refine t_ret ?_
                exact e_tmp rfl h s rfl (rfl)
            · skip
              refine c_region ?_
              refine s_pure h (ru_move (h.ev rfl)) rfl ?_; intro f h
              refine s_pure h (ru_val (.bool false) (ru_lss (h.ev rfl) (h.ev rfl)) (congrArg Value.bool f0)) rfl ?_; intro f h
              refine s_pure h (ru_move (h.ev rfl)) rfl ?_; intro f h
              refine s_on h rfl rfl rfl ?_
              refine s_pure h (ru_move (h.ev rfl)) rfl ?_; intro f h
              refine s_on h rfl rfl rfl ?_
              refine s_pure h (ru_val (.bool true) (ru_gtr (h.ev rfl) (h.ev rfl)) (congrArg Value.bool f1)) rfl ?_; intro f h
              refine s_pure h (ru_pick_f (h.ev rfl) (h.ev rfl)) rfl ?_; intro f h
              refine s_pure h (ru_move (h.ev rfl)) rfl ?_; intro f h
              refine s_off (b := false) h rfl rfl rfl rfl ?_; intro f h
              refine s_off (b := false) h rfl rfl rfl rfl ?_; intro f h
              refine s_pure h (ru_pick_t (h.ev rfl) (h.ev rfl)) rfl ?_; intro f h
              refine s_pure h (ru_move (h.ev rfl)) rfl ?_; intro f h
              refine s_off (b := false) h rfl rfl rfl rfl ?_; intro f h
              refine s_off (b := false) h rfl rfl rfl rfl ?_; intro f h
              refine s_pure h (ru_pick_t (h.ev rfl) (h.ev rfl)) rfl ?_; intro f h
              refine s_pure h (ru_assign (h.ev rfl)) rfl ?_; intro f h
              refine s_nil ?_
              refine hK19 _ _ ?_
              refine wpIn_cond_true (h.ev rfl) ?_
              refine c_region ?_
              refine s_pure h (ru_assign (h.ev rfl)) rfl ?_; intro f h
              refine s_nil ?_
              refine b_norm ?_
              refine hK18 _ _ ?_
              refine c_seq fun K43 hK43 => ?_
              refine c_seq fun K44 hK44 => ?_
              refine c_region ?_
              refine s_pure h (ru_move (h.ev rfl)) rfl ?_; intro f h
              refine s_pure h (ru_val (.bool true) (ru_neq (h.ev rfl) (h.ev rfl)) (congrArg Value.bool (decide_eq_true (by decide)))) rfl ?_; intro f h
              refine s_nil ?_
              refine hK44 _ _ ?_
              refine wpIn_cond_true (h.ev rfl) ?_
              refine c_seq fun K45 hK45 => ?_
              refine c_region ?_
              have hp1 : postE M9 fr tt dy = 1 := postE_1 (by rw [hr, adr_c _ f1]; rfl)
              obtain ⟨hp2, hp3⟩ := postM_no (m := M9) (f := fr) (t := tt) (d := dy) (by omega)
              refine s_pure h (ru_move (h.ev rfl)) rfl ?_; intro f h
              refine s_pure h (ru_move (h.ev rfl)) rfl ?_; intro f h
              refine s_pure h (ru_val (.bool true) (ru_eql (h.ev rfl) (h.ev rfl)) (congrArg Value.bool (decide_eq_true (hp1)))) rfl ?_; intro f h
              refine s_pure h (ru_move (h.ev rfl)) rfl ?_; intro f h
              refine s_on h rfl rfl rfl ?_
              refine s_pure h (ru_move (h.ev rfl)) rfl ?_; intro f h
              refine s_on h rfl rfl rfl ?_
              refine s_pure h (ru_val (.bool true) (ru_eql (h.ev rfl) (h.ev rfl)) (congrArg Value.bool (decide_eq_true (hp3)))) rfl ?_; intro f h
              refine s_pure h (ru_pick_t (h.ev rfl) (h.ev rfl)) rfl ?_; intro f h
              refine s_pure h (ru_move (h.ev rfl)) rfl ?_; intro f h
              refine s_on h rfl rfl rfl ?_
              refine s_load_row 4 h s row24 rfl rfl (rfl) rfl ?_; intro f h
              refine s_on h rfl rfl rfl ?_
              refine s_load_row 1 h s row24 rfl rfl (rfl) rfl ?_; intro f h
              refine s_on h rfl rfl rfl ?_
              refine s_call h s fnc13 (ret_val (.bool true) (like_any (postM M9 fr tt dy) (zMl) vp (.slice none 0 0) _ ((RdZ.of_own (s.getSl 5 rfl))) (rd_nil4 _) (by have := post_len (m := M9) (f := fr) (t := tt) (d := dy) hml; omega) (by decide)) (congrArg Value.bool (by rw [hp2]; exact like_self _))) rfl rfl ?_; intro f w1 v9 hT hE h s; obtain rfl := hT
              refine s_pure h (ru_pick_t (h.ev rfl) (h.ev rfl)) rfl ?_; intro f h
              refine s_pure h (ru_assign (h.ev rfl)) rfl ?_; intro f h
              refine s_nil ?_
              refine hK45 _ _ ?_
              refine wpIn_ret ?_
              refine t_ret ?_
              exact e_tmp rfl h s rfl (rfl)
          · skip
            refine c_region ?_
            refine s_pure h (ru_move (h.ev rfl)) rfl ?_; intro f h
            refine s_pure h (ru_val (.bool true) (ru_lss (h.ev rfl) (h.ev rfl)) (congrArg Value.bool f0)) rfl ?_; intro f h
            refine s_pure h (ru_move (h.ev rfl)) rfl ?_; intro f h
            refine s_off (b := false) h rfl rfl rfl rfl ?_; intro f h
            refine s_off (b := false) h rfl rfl rfl rfl ?_; intro f h
            refine s_pure h (ru_pick_t (h.ev rfl) (h.ev rfl)) rfl ?_; intro f h
            refine s_pure h (ru_move (h.ev rfl)) rfl ?_; intro f h
            refine s_off (b := false) h rfl rfl rfl rfl ?_; intro f h
            refine s_off (b := false) h rfl rfl rfl rfl ?_; intro f h
            refine s_pure h (ru_pick_t (h.ev rfl) (h.ev rfl)) rfl ?_; intro f h
            refine s_pure h (ru_move (h.ev rfl)) rfl ?_; intro f h
            refine s_off (b := false) h rfl rfl rfl rfl ?_; intro f h
            refine s_off (b := false) h rfl rfl rfl rfl ?_; intro f h
            refine s_pure h (ru_pick_t (h.ev rfl) (h.ev rfl)) rfl ?_; intro f h
            refine s_pure h (ru_assign (h.ev rfl)) rfl ?_; intro f h
            refine s_nil ?_
            refine hK19 _ _ ?_
            refine wpIn_cond_true (h.ev rfl) ?_
            refine c_region ?_
            refine s_pure h (ru_assign (h.ev rfl)) rfl ?_; intro f h
            refine s_nil ?_
            refine b_norm ?_
            refine hK18 _ _ ?_
            refine c_seq fun K46 hK46 => ?_
            refine c_seq fun K47 hK47 => ?_
            refine c_region ?_
            refine s_pure h (ru_move (h.ev rfl)) rfl ?_; intro f h
            refine s_pure h (ru_val (.bool true) (ru_neq (h.ev rfl) (h.ev rfl)) (congrArg Value.bool (decide_eq_true (by decide)))) rfl ?_; intro f h
            refine s_nil ?_
            refine hK47 _ _ ?_
            refine wpIn_cond_true (h.ev rfl) ?_
            refine c_seq fun K48 hK48 => ?_
            refine c_region ?_
            have hp1 : postE M9 fr tt dy = 1 := postE_1 (by rw [hr, adr_b _ f0]; rfl)
            obtain ⟨hp2, hp3⟩ := postM_no (m := M9) (f := fr) (t := tt) (d := dy) (by omega)
            refine s_pure h (ru_move (h.ev rfl)) rfl ?_; intro f h
            refine s_pure h (ru_move (h.ev rfl)) rfl ?_; intro f h
            refine s_pure h (ru_val (.bool true) (ru_eql (h.ev rfl) (h.ev rfl)) (congrArg Value.bool (decide_eq_true (hp1)))) rfl ?_; intro f h
            refine s_pure h (ru_move (h.ev rfl)) rfl ?_; intro f h
            refine s_on h rfl rfl rfl ?_
            refine s_pure h (ru_move (h.ev rfl)) rfl ?_; intro f h
            refine s_on h rfl rfl rfl ?_
            refine s_pure h (ru_val (.bool true) (ru_eql (h.ev rfl) (h.ev rfl)) (congrArg Value.bool (decide_eq_true (hp3)))) rfl ?_; intro f h
            refine s_pure h (ru_pick_t (h.ev rfl) (h.ev rfl)) rfl ?_; intro f h
            refine s_pure h (ru_move (h.ev rfl)) rfl ?_; intro f h
            refine s_on h rfl rfl rfl ?_
            refine s_load_row 4 h s row24 rfl rfl (rfl) rfl ?_; intro f h
            refine s_on h rfl rfl rfl ?_
            refine s_load_row 1 h s row24 rfl rfl (rfl) rfl ?_; intro f h
            refine s_on h rfl rfl rfl ?_
            refine s_call h s fnc13 (ret_val (.bool true) (like_any (postM M9 fr tt dy) (zMl) vp (.slice none 0 0) _ ((RdZ.of_own (s.getSl 5 rfl))) (rd_nil4 _) (by have := post_len (m := M9) (f := fr) (t := tt) (d := dy) hml; omega) (by decide)) (congrArg Value.bool (by rw [hp2]; exact like_self _))) rfl rfl ?_; intro f w1 v9 hT hE h s; obtain rfl := hT
            refine s_pure h (ru_pick_t (h.ev rfl) (h.ev rfl)) rfl ?_; intro f h
            refine s_pure h (ru_assign (h.ev rfl)) rfl ?_; intro f h
            refine s_nil ?_
            refine hK48 _ _ ?_
            refine wpIn_ret ?_
            refine t_ret ?_
            exact e_tmp rfl h s rfl (rfl)
        · skip
          refine c_region ?_
          have hq1 : passE M9 tk = 1 := passE_1 (by rw [hr, ht]; rfl)
          have hq2 := passM_no (m := M9) (t := tk) (by omega)
          refine s_pure h (ru_move (h.ev rfl)) rfl ?_; intro f h
          refine s_pure h (ru_val (.bool true) (ru_lss (h.ev rfl) (h.ev rfl)) (congrArg Value.bool ht)) rfl ?_; intro f h
          refine s_pure h (ru_move (h.ev rfl)) rfl ?_; intro f h
          refine s_on h rfl rfl rfl ?_
          refine s_pure h (ru_move (h.ev rfl)) rfl ?_; intro f h
          refine s_on h rfl rfl rfl ?_
          refine s_pure h (ru_val (.bool false) (ru_neq (h.ev rfl) (h.ev rfl)) (congrArg Value.bool (decide_eq_false (fun h9 => h9 hq1)))) rfl ?_; intro f h
          refine s_on h rfl rfl rfl ?_
          refine s_pure h (ru_move (h.ev rfl)) rfl ?_; intro f h
          refine s_on h rfl rfl rfl ?_
          refine s_load_row 2 h s row24 rfl rfl (rfl) rfl ?_; intro f h
          refine s_on h rfl rfl rfl ?_
          refine s_load_row 1 h s row24 rfl rfl (rfl) rfl ?_; intro f h
          refine s_on h rfl rfl rfl ?_
          refine s_call h s fnc13 (ret_val (.bool true) (like_any (passM M9 tk) (zMl) vq (.slice none 0 0) _ ((RdZ.of_own (s.getSl 3 rfl))) (rd_nil4 _) (by have := pass_len (m := M9) (t := tk) hml; omega) (by decide)) (congrArg Value.bool (by rw [hq2]; exact like_self _))) rfl rfl ?_; intro f w1 v9 hT hE h s; obtain rfl := hT
          refine s_on h rfl rfl rfl ?_
          refine s_pure h (ru_val (.bool false) (ru_not (h.ev rfl)) rfl) rfl ?_; intro f h
          refine s_on h rfl rfl rfl ?_
          refine s_pure h (ru_pick_f (h.ev rfl) (h.ev rfl)) rfl ?_; intro f h
          refine s_pure h (ru_pick_t (h.ev rfl) (h.ev rfl)) rfl ?_; intro f h
          refine s_pure h (ru_move (h.ev rfl)) rfl ?_; intro f h
          refine s_on h rfl rfl rfl ?_
          refine s_pure h (ru_move (h.ev rfl)) rfl ?_; intro f h
          refine s_on h rfl rfl rfl ?_
          refine s_pure h (ru_val (.bool false) (ru_geq (h.ev rfl) (h.ev rfl)) (congrArg Value.bool (decide_eq_false (by have := of_decide_eq_true ht; omega)))) rfl ?_; intro f h
          refine s_on h rfl rfl rfl ?_
          refine s_pure h (ru_move (h.ev rfl)) rfl ?_; intro f h
          refine s_off (b := true) h rfl rfl rfl rfl ?_; intro f h
          refine s_off (b := true) h rfl rfl rfl rfl ?_; intro f h
          refine s_off (b := true) h rfl rfl rfl rfl ?_; intro f h
          refine s_none h rfl rfl rfl rfl ?_; intro f h
          refine s_none h rfl rfl rfl rfl ?_; intro f h
          refine s_none h rfl rfl rfl rfl ?_; intro f h
          refine s_none h rfl rfl rfl rfl ?_; intro f h
          refine s_off (b := true) h rfl rfl rfl rfl ?_; intro f h
          refine s_on h rfl rfl rfl ?_
          refine s_pure h (ru_pick_f (h.ev rfl) (h.ev rfl)) rfl ?_; intro f h
          refine s_pure h (ru_pick_f (h.ev rfl) (h.ev rfl)) rfl ?_; intro f h
          refine s_nil ?_
          refine hK16 _ _ ?_
          refine wpIn_cond_false (h.ev rfl) ?_
          refine wpIn_skip ?_
          refine hK15 _ _ ?_
          refine c_seq fun K49 hK49 => ?_
          refine c_region ?_
          refine s_pure h (ru_assign (h.ev rfl)) rfl ?_; intro f h
          refine s_nil ?_
          refine hK49 _ _ ?_
          refine c_seq fun K50 hK50 => ?_
          refine wpIn_block ?_
          refine c_seq fun K51 hK51 => ?_
          cases f0 : (decide (fr < 0) : Bool)
          · skip
            cases f1 : (decide (31 < fr) : Bool)
            · skip
              cases t0 : (decide (tt < 0) : Bool)
              · skip
                cases t1 : (decide (31 < tt) : Bool)
                · skip
                  refine c_region ?_
                  refine s_pure h (ru_move (h.ev rfl)) rfl ?_; intro f h
                  refine s_pure h (ru_val (.bool false) (ru_lss (h.ev rfl) (h.ev rfl)) (congrArg Value.bool f0)) rfl ?_; intro f h
                  refine s_pure h (ru_move (h.ev rfl)) rfl ?_; intro f h
                  refine s_on h rfl rfl rfl ?_
                  refine s_pure h (ru_move (h.ev rfl)) rfl ?_; intro f h
                  refine s_on h rfl rfl rfl ?_
                  refine s_pure h (ru_val (.bool false) (ru_gtr (h.ev rfl) (h.ev rfl)) (congrArg Value.bool f1)) rfl ?_; intro f h
                  refine s_pure h (ru_pick_f (h.ev rfl) (h.ev rfl)) rfl ?_; intro f h
                  refine s_pure h (ru_move (h.ev rfl)) rfl ?_; intro f h
                  refine s_on h rfl rfl rfl ?_
                  refine s_pure h (ru_move (h.ev rfl)) rfl ?_; intro f h
                  refine s_on h rfl rfl rfl ?_
                  refine s_pure h (ru_val (.bool false) (ru_lss (h.ev rfl) (h.ev rfl)) (congrArg Value.bool t0)) rfl ?_; intro f h
                  refine s_pure h (ru_pick_f (h.ev rfl) (h.ev rfl)) rfl ?_; intro f h
                  refine s_pure h (ru_move (h.ev rfl)) rfl ?_; intro f h
                  refine s_on h rfl rfl rfl ?_
                  refine s_pure h (ru_move (h.ev rfl)) rfl ?_; intro f h
                  refine s_on h rfl rfl rfl ?_
                  refine s_pure h (ru_val (.bool false) (ru_gtr (h.ev rfl) (h.ev rfl)) (congrArg Value.bool t1)) rfl ?_; intro f h
                  refine s_pure h (ru_pick_f (h.ev rfl) (h.ev rfl)) rfl ?_; intro f h
                  refine s_pure h (ru_assign (h.ev rfl)) rfl ?_; intro f h
                  refine s_nil ?_
                  refine hK51 _ _ ?_
                  refine wpIn_cond_false (h.ev rfl) ?_
                  refine c_seq fun K52 hK52 => ?_
                  refine c_region ?_
                  refine s_pure h (ru_move (h.ev rfl)) rfl ?_; intro f h
                  refine s_pure h (ru_len_str Try.underlying9 (h.ev rfl)) rfl ?_; intro f h
                  refine s_pure h (ru_gtr (h.ev rfl) (h.ev rfl)) rfl ?_; intro f h
                  refine s_pure h (ru_assign (h.ev rfl)) rfl ?_; intro f h
                  refine s_nil ?_
                  refine hK52 _ _ ?_
                  refine c_cond h rfl (fun hc => ?_) (fun hc => ?_)
                  · replace hc := of_decide_eq_true hc
                    have hb9 : (!rightL M9 || (!adr fr || !adr tt)) = false := by rw [hr, adr_y _ f0 f1, adr_y _ t0 t1]; rfl
                    refine c_region ?_
                    refine s_pure h (ru_assign (h.ev rfl)) rfl ?_; intro f h
                    refine s_nil ?_
                    refine b_norm ?_
                    refine hK50 _ _ ?_
                    refine c_seq fun K53 hK53 => ?_
                    refine c_seq fun K54 hK54 => ?_
                    refine c_region ?_
                    refine s_pure h (ru_move (h.ev rfl)) rfl ?_; intro f h
                    refine s_pure h (ru_val (.bool true) (ru_neq (h.ev rfl) (h.ev rfl)) (congrArg Value.bool (decide_eq_true (by decide)))) rfl ?_; intro f h
                    refine s_nil ?_
                    refine hK54 _ _ ?_
                    refine wpIn_cond_true (h.ev rfl) ?_
                    refine c_seq fun K55 hK55 => ?_
                    refine c_region ?_
                    have hp1 : postE M9 fr tt dy = 2 := postE_2 hb9 (by omega)
                    obtain ⟨hp2, hp3⟩ := postM_no (m := M9) (f := fr) (t := tt) (d := dy) (by omega)
                    refine s_pure h (ru_move (h.ev rfl)) rfl ?_; intro f h
                    refine s_pure h (ru_move (h.ev rfl)) rfl ?_; intro f h
                    refine s_pure h (ru_val (.bool true) (ru_eql (h.ev rfl) (h.ev rfl)) (congrArg Value.bool (decide_eq_true (hp1)))) rfl ?_; intro f h
                    refine s_pure h (ru_move (h.ev rfl)) rfl ?_; intro f h
                    refine s_on h rfl rfl rfl ?_
                    refine s_pure h (ru_move (h.ev rfl)) rfl ?_; intro f h
                    refine s_on h rfl rfl rfl ?_
                    refine s_pure h (ru_val (.bool true) (ru_eql (h.ev rfl) (h.ev rfl)) (congrArg Value.bool (decide_eq_true (hp3)))) rfl ?_; intro f h
                    refine s_pure h (ru_pick_t (h.ev rfl) (h.ev rfl)) rfl ?_; intro f h
                    refine s_pure h (ru_move (h.ev rfl)) rfl ?_; intro f h
                    refine s_on h rfl rfl rfl ?_
                    refine s_load_row 4 h s row24 rfl rfl (rfl) rfl ?_; intro f h
                    refine s_on h rfl rfl rfl ?_
                    refine s_load_row 1 h s row24 rfl rfl (rfl) rfl ?_; intro f h
                    refine s_on h rfl rfl rfl ?_
                    refine s_call h s fnc13 (ret_val (.bool true) (like_any (postM M9 fr tt dy) (zMl) vp (.slice none 0 0) _ ((RdZ.of_own (s.getSl 5 rfl))) (rd_nil4 _) (by have := post_len (m := M9) (f := fr) (t := tt) (d := dy) hml; omega) (by decide)) (congrArg Value.bool (by rw [hp2]; exact like_self _))) rfl rfl ?_; intro f w1 v9 hT hE h s; obtain rfl := hT
                    refine s_pure h (ru_pick_t (h.ev rfl) (h.ev rfl)) rfl ?_; intro f h
                    refine s_pure h (ru_assign (h.ev rfl)) rfl ?_; intro f h
                    refine s_nil ?_
                    refine hK55 _ _ ?_
                    refine wpIn_ret ?_
                    refine t_ret ?_
                    exact e_tmp rfl h s rfl (rfl)
                  · have hsz := of_decide_eq_false hc
                    have hb9 : (!rightL M9 || (!adr fr || !adr tt)) = false := by rw [hr, adr_y _ f0 f1, adr_y _ t0 t1]; rfl
                    refine c_seq fun K56 hK56 => ?_
                    cases hu : (decide (M9.l.length = 64) : Bool)
                    · skip
                      cases hv : (decide (M9.last = 1099511627776) : Bool)
                      · skip
                        refine c_region ?_
                        refine s_pure h (ru_field fld24_0 (h.ev rfl)) rfl ?_; intro f h
                        refine s_load_at1 (cell_of_has (Has.of_own s 7 rfl) 0 (rfl)) h one22 rfl rfl ?_; intro f h
                        refine s_len_sl 6 h s Try.underlying22 rfl rfl rfl ?_; intro f h
                        refine s_pure h (ru_val (.bool false) (ru_eql (h.ev rfl) (h.ev rfl)) (congrArg Value.bool (decide_eq_false (by have := of_decide_eq_false hu; omega)))) rfl ?_; intro f h
                        refine s_pure h (ru_move (h.ev rfl)) rfl ?_; intro f h
                        refine s_on h rfl rfl rfl ?_
                        refine s_pure h (ru_field fld24_1 (h.ev rfl)) rfl ?_; intro f h
                        refine s_on h rfl rfl rfl ?_
                        refine s_load_at1 (cell_of_has (Has.of_own s 7 rfl) 1 (rfl)) h one3 rfl rfl ?_; intro f h
                        refine s_on h rfl rfl rfl ?_
                        refine s_pure h (ru_val (.bool false) (ru_eql (h.ev rfl) (h.ev rfl)) (congrArg Value.bool hv)) rfl ?_; intro f h
                        refine s_pure h (ru_pick_f (h.ev rfl) (h.ev rfl)) rfl ?_; intro f h
                        refine s_pure h (ru_assign (h.ev rfl)) rfl ?_; intro f h
                        refine s_nil ?_
                        refine hK56 _ _ ?_
                        refine wpIn_cond_false (h.ev rfl) ?_
                        refine wpIn_skip ?_
                        refine b_norm ?_
                        refine hK50 _ _ ?_
                        refine c_seq fun K57 hK57 => ?_
                        refine c_seq fun K58 hK58 => ?_
                        refine c_region ?_
                        refine s_pure h (ru_move (h.ev rfl)) rfl ?_; intro f h
                        refine s_pure h (ru_val (.bool false) (ru_neq (h.ev rfl) (h.ev rfl)) (congrArg Value.bool (decide_eq_false (by decide)))) rfl ?_; intro f h
                        refine s_nil ?_
                        refine hK58 _ _ ?_
                        refine wpIn_cond_false (h.ev rfl) ?_
                        refine wpIn_skip ?_
                        refine hK57 _ _ ?_
                        refine c_seq fun K59 hK59 => ?_
                        refine c_region ?_
                        refine s_load_row 7 h s row24 rfl rfl (rfl) rfl ?_; intro f h
                        refine s_store_row 0 h s row24 rfl rfl rfl (rfl) (rfl) (mlArr_ones _ _ (own_one (s.getSl 6 rfl))) ?_; intro w1 s
                        refine s_nil ?_
                        refine hK59 _ _ ?_
                        refine c_seq fun K60 hK60 => ?_
                        refine c_region ?_
                        refine s_pure h (ru_field fld24_1 (h.ev rfl)) rfl ?_; intro f h
                        refine s_load_at1 (cell_of_has (Has.of_own s 0 rfl) 1 (rfl)) h one3 rfl rfl ?_; intro f h
                        refine s_pure h (ru_add (h.ev rfl) (h.ev rfl) (by omega)) rfl ?_; intro f h
                        refine s_pure h (ru_field fld24_1 (h.ev rfl)) rfl ?_; intro f h
                        refine s_store_one 0 h s one3 rfl rfl rfl (by show _ < 3; decide) (rfl) ?_; intro w1 s
                        replace s := s.recell (D := mlArr { M9 with last := M9.last + 1 } vf) 0 rfl rfl
                        refine s_nil ?_
                        refine hK60 _ _ ?_
                        refine c_seq fun K61 hK61 => ?_
                        have hbs := s.ext.le
                        refine' c_reg2 11 [1, 4, 6, 7, 8, 12] [] [[], [], [1], [0, 1, 2], [], [4], [], [], [], [4, 5, 6, 7, 8], [4, 5, 6, 7, 8, 9], [0, 1, 2, 3, 4, 5, 6, 7, 8, 9, 10], [0, 1, 2, 3, 4, 5, 6, 7, 8, 9, 10, 11], [0, 1, 2, 3, 4, 5, 6, 7, 8, 9, 10, 11, 12]] ((Emp w1.heap.size 35) :: is _ :: is _ :: (fun v w9 => Owns w9 w1.heap.size 35 4 v (M9.l).length (ltCells (M9.l))) :: is _ :: is _ :: is _ :: is _ :: is _ :: is _ :: (fun v w9 => RdZ w9 v 4 1 ((ltArr (M9.last + 1, fr, tt, dy)).toList)) :: is undef :: is _ :: is undef :: []) (fun _ => True) h s (by kernel_rfl) (by kernel_rfl) (by kernel_rfl) (by kernel_rfl) rfl (fun _ _ h _ => h) (trivial) ⟨⟨_, rfl⟩, ⟨_, rfl⟩, ⟨_, rfl⟩, ⟨_, rfl⟩, ⟨_, rfl⟩, ⟨_, rfl⟩, trivial⟩ ⟨Emp.mono _ _, is_mono _, is_mono _, ownsM _ _ _ _ _, is_mono _, is_mono _, is_mono _, is_mono _, is_mono _, is_mono _, RdZ.mono, is_mono _, is_mono _, is_mono _, trivial⟩ (And.intro ?_ (And.intro ?_ (And.intro ?_ (And.intro ?_ (And.intro ?_ (And.intro ?_ (And.intro ?_ (And.intro ?_ (And.intro ?_ (And.intro ?_ (And.intro ?_ (And.intro ?_ (And.intro ?_ (And.intro ?_ (trivial))))))))))))))) ?_
                        rotate_left 9
                        · refine obF_in 160 rfl (by decide) (by decide) ?_
                          intro f9 w2 hE hs hd9 hl
                          have h := fin_slot [] hs hd9 (holds_lk trivial)
                          have s := s.more hE
                          have z := St.start w2
                          refine s_bslice0 (base := w1.heap.size) h Try.underlying22 elm35 hE.le rfl ?_; intro f w3 v3 h hE3 hm3
                          refine s_nil ?_
                          exact ⟨by rw [h.holds 160 _ rfl]; exact hm3, hE3, fun h9 => absurd h9 (by decide)⟩
                        · refine obH_in 161 rfl (by decide) ?_
                          intro f9 w2 hE hs hl
                          have e5 : f9.tmps.getD 5 undef = _ := sx_old hl 5 (by kernel_rfl) (by kernel_rfl) (h.holds 5 _ rfl)
                          have h := fin_slot [(5, _)] hs rfl (holds_lk ⟨e5, trivial⟩)
                          refine s_pure h (ru_field fld24_0 (h.ev rfl)) rfl ?_; intro f h
                          refine s_nil ?_
                          have e9 := h.holds 161 _ rfl
                          refine ⟨?_, rfl⟩
                          refine e9.trans ?_
                          exact rfl
                        · refine obF_in 162 rfl (by decide) (by decide) ?_
                          intro f9 w2 hE hs hd9 hl
                          have e161 : f9.tmps.getD 161 undef = _ := sx_get hl 161 1 (by kernel_rfl) (by kernel_rfl)
                          have h := fin_slot [(161, _)] hs hd9 (holds_lk ⟨e161, trivial⟩)
                          have s := s.more hE
                          have z := St.start w2
                          refine s_load_at1 (cell_of_has (Has.of_own s 7 rfl) 0 (rfl)) h one22 rfl rfl ?_; intro f h
                          refine s_nil ?_
                          have e9 := h.holds 162 _ rfl
                          refine ⟨?_, Ext.refl _, fun h9 => absurd h9 (by decide)⟩
                          refine e9.trans ?_
                          exact rfl
                        · refine obF_in 163 rfl (by decide) (by decide) ?_
                          intro f9 w2 hE hs hd9 hl
                          obtain ⟨u160, hu160⟩ : ∃ v, f9.tmps.getD 160 undef = v := ⟨_, rfl⟩
                          have e160 : (Emp w1.heap.size 35) u160 w2 := by rw [← hu160]; exact sx_get hl 160 0 (by kernel_rfl) (by kernel_rfl)
                          have e162 : f9.tmps.getD 162 undef = _ := sx_get hl 162 2 (by kernel_rfl) (by kernel_rfl)
                          have h := fin_slot [(160, u160), (162, _)] hs hd9 (holds_lk ⟨hu160, e162, trivial⟩)
                          have s := s.more hE
                          have z := St.start w2
                          refine s_append_emp (base := w1.heap.size) e160 (RdZ.of_own (s.getSl 6 rfl)) h Try.underlying22 elm35 rfl rfl hE.le (ltCells_ones _) (by unfold maxLen; omega) (by omega) rfl ?_; intro f w3 v3 h hE3 hO
                          refine s_nil ?_
                          exact ⟨by rw [h.holds 163 _ rfl]; exact hO, hE3, fun h9 => absurd h9 (by decide)⟩
                        · refine obH_in 164 rfl (by decide) ?_
                          intro f9 w2 hE hs hl
                          have e17 : f9.tmps.getD 17 undef = _ := sx_old hl 17 (by kernel_rfl) (by kernel_rfl) (h.holds 17 _ rfl)
                          have h := fin_slot [(17, _)] hs rfl (holds_lk ⟨e17, trivial⟩)
                          refine s_pure h (ru_field fld24_1 (h.ev rfl)) rfl ?_; intro f h
                          refine s_nil ?_
                          have e9 := h.holds 164 _ rfl
                          refine ⟨?_, rfl⟩
                          refine e9.trans ?_
                          exact rfl
                        · refine obF_in 165 rfl (by decide) (by decide) ?_
                          intro f9 w2 hE hs hd9 hl
                          have e164 : f9.tmps.getD 164 undef = _ := sx_get hl 164 4 (by kernel_rfl) (by kernel_rfl)
                          have h := fin_slot [(164, _)] hs hd9 (holds_lk ⟨e164, trivial⟩)
                          have s := s.more hE
                          have z := St.start w2
                          refine s_load_at1 (cell_of_has (Has.of_own s 0 rfl) 1 (rfl)) h one3 rfl rfl ?_; intro f h
                          refine s_nil ?_
                          have e9 := h.holds 165 _ rfl
                          refine ⟨?_, Ext.refl _, fun h9 => absurd h9 (by decide)⟩
                          refine e9.trans ?_
                          exact rfl
                        · refine obH_in 166 rfl (by decide) ?_
                          intro f9 w2 hE hs hl
                          have e1 : f9.tmps.getD 1 undef = _ := sx_old hl 1 (by kernel_rfl) (by kernel_rfl) (h.holds 1 _ rfl)
                          have h := fin_slot [(1, _)] hs rfl (holds_lk ⟨e1, trivial⟩)
                          refine s_pure h (ru_move (h.ev rfl)) rfl ?_; intro f h
                          refine s_nil ?_
                          have e9 := h.holds 166 _ rfl
                          refine ⟨?_, rfl⟩
                          refine e9.trans ?_
                          exact rfl
                        · refine obH_in 167 rfl (by decide) ?_
                          intro f9 w2 hE hs hl
                          have e2 : f9.tmps.getD 2 undef = _ := sx_old hl 2 (by kernel_rfl) (by kernel_rfl) (h.holds 2 _ rfl)
                          have h := fin_slot [(2, _)] hs rfl (holds_lk ⟨e2, trivial⟩)
                          refine s_pure h (ru_move (h.ev rfl)) rfl ?_; intro f h
                          refine s_nil ?_
                          have e9 := h.holds 167 _ rfl
                          refine ⟨?_, rfl⟩
                          refine e9.trans ?_
                          exact rfl
                        · refine obH_in 168 rfl (by decide) ?_
                          intro f9 w2 hE hs hl
                          have e4 : f9.tmps.getD 4 undef = _ := sx_old hl 4 (by kernel_rfl) (by kernel_rfl) (h.holds 4 _ rfl)
                          have h := fin_slot [(4, _)] hs rfl (holds_lk ⟨e4, trivial⟩)
                          refine s_pure h (ru_move (h.ev rfl)) rfl ?_; intro f h
                          refine s_nil ?_
                          have e9 := h.holds 168 _ rfl
                          refine ⟨?_, rfl⟩
                          refine e9.trans ?_
                          exact rfl
                        · refine obF_in 169 rfl (by decide) (by decide) ?_
                          intro f9 w2 hE hs hd9 hl
                          have e165 : f9.tmps.getD 165 undef = _ := sx_get hl 165 5 (by kernel_rfl) (by kernel_rfl)
                          have e166 : f9.tmps.getD 166 undef = _ := sx_get hl 166 6 (by kernel_rfl) (by kernel_rfl)
                          have e167 : f9.tmps.getD 167 undef = _ := sx_get hl 167 7 (by kernel_rfl) (by kernel_rfl)
                          have e168 : f9.tmps.getD 168 undef = _ := sx_get hl 168 8 (by kernel_rfl) (by kernel_rfl)
                          have h := fin_slot [(165, _), (166, _), (167, _), (168, _)] hs hd9 (holds_lk ⟨e165, e166, e167, e168, trivial⟩)
                          have s := s.more hE
                          have z := St.start w2
                          refine s_pure h (ru_build_lt sttL (h.ev rfl) (h.ev rfl) (h.ev rfl) (h.ev rfl)) rfl ?_; intro f h
                          refine s_nil ?_
                          have e9 := h.holds 169 _ rfl
                          refine ⟨?_, Ext.refl _, fun h9 => absurd h9 (by decide)⟩
                          refine e9.trans ?_
                          exact rfl
                        · refine obF_in 170 rfl (by decide) (by decide) ?_
                          intro f9 w2 hE hs hd9 hl
                          have e169 : f9.tmps.getD 169 undef = _ := sx_get hl 169 9 (by kernel_rfl) (by kernel_rfl)
                          have h := fin_slot [(169, _)] hs hd9 (holds_lk ⟨e169, trivial⟩)
                          have s := s.more hE
                          have z := St.start w2
                          refine s_bslice (vs := [.agg (ltArr (M9.last + 1, fr, tt, dy))]) [.tmp 169] h z Try.underlying22 elm35 rfl rfl (one_lt_size _) rfl rfl rfl ?_; intro f w1 v9 h z
                          refine s_nil ?_
                          exact kf_rd (h.holds 170 _ rfl) z _ (one_lt _)
                        · exact obT_in (by decide) (by decide)
                        · refine obH_in 172 rfl (by decide) ?_
                          intro f9 w2 hE hs hl
                          have e17 : f9.tmps.getD 17 undef = _ := sx_old hl 17 (by kernel_rfl) (by kernel_rfl) (h.holds 17 _ rfl)
                          have h := fin_slot [(17, _)] hs rfl (holds_lk ⟨e17, trivial⟩)
                          refine s_pure h (ru_field fld24_0 (h.ev rfl)) rfl ?_; intro f h
                          refine s_nil ?_
                          have e9 := h.holds 172 _ rfl
                          refine ⟨?_, rfl⟩
                          refine e9.trans ?_
                          exact rfl
                        · exact obT_in (by decide) (by decide)
                        · intro f9 w2 hE hs hd9 hWp hT hR hFr hDj
                          obtain ⟨u160, hu160⟩ : ∃ v, f9.tmps.getD 160 undef = v := ⟨_, rfl⟩
                          have e160 : (Emp w1.heap.size 35) u160 w2 := by rw [← hu160]; exact hT 0 160 (by decide) rfl
                          obtain ⟨u163, hu163⟩ : ∃ v, f9.tmps.getD 163 undef = v := ⟨_, rfl⟩
                          have e163 : (fun v w9 => Owns w9 w1.heap.size 35 4 v (M9.l).length (ltCells (M9.l))) u163 w2 := by rw [← hu163]; exact hT 3 163 (by decide) rfl
                          obtain ⟨u170, hu170⟩ : ∃ v, f9.tmps.getD 170 undef = v := ⟨_, rfl⟩
                          have e170 : (fun v w9 => RdZ w9 v 4 1 ((ltArr (M9.last + 1, fr, tt, dy)).toList)) u170 w2 := by rw [← hu170]; exact hT 10 170 (by decide) rfl
                          replace h := sl_new (ops := _) [(160, u160), (161, _), (162, _), (163, u163), (164, _), (165, _), (166, _), (167, _), (168, _), (169, _), (170, u170), (172, _)] h hs hd9 hR ⟨hu160, hT 1 161 (by decide) rfl, hT 2 162 (by decide) rfl, hu163, hT 4 164 (by decide) rfl, hT 5 165 (by decide) rfl, hT 6 166 (by decide) rfl, hT 7 167 (by decide) rfl, hT 8 168 (by decide) rfl, hT 9 169 (by decide) rfl, hu170, hT 12 172 (by decide) rfl, trivial⟩ (by kernel_rfl)
                          replace s := s.sl_new hE e163
                          clear hT hR hFr hDj
                          refine LstW.of ?_
                          refine s_append_rd 0 (e170) h s Try.underlying22 elm35 rfl rfl rfl (ltArr_ones (M9.last + 1, fr, tt, dy)) (by unfold maxLen; omega) (by omega) rfl ?_; intro f w1 v171 h s
                          replace s := s.resl (m := (M9.l ++ [(M9.last + 1, fr, tt, dy)]).length) (ys := ltCells (M9.l ++ [(M9.last + 1, fr, tt, dy)])) 0 rfl (by rw [List.length_append]; rfl) (cells_snoc _ _)
                          refine s_store_one 1 h s one22 rfl rfl rfl (by show _ < 3; decide) (own_one (s.getSl 0 rfl)) ?_; intro w1 s
                          replace s := s.recell (D := mlArr ⟨M9.l ++ [(M9.last + 1, fr, tt, dy)], M9.last + 1, M9.now⟩ v171) 1 rfl rfl
                          refine s_nil ?_
                          refine hK61 _ _ ?_
                          refine c_seq fun K62 hK62 => ?_
                          refine c_region ?_
                          have hp1 : postE M9 fr tt dy = 0 := postE_0 hb9 (by omega) (by rw [hu, hv]; rfl)
                          obtain ⟨hp2, hp3⟩ := postM_ok hp1
                          refine s_pure h (ru_move (h.ev rfl)) rfl ?_; intro f h
                          refine s_pure h (ru_val (.bool true) (ru_eql (h.ev rfl) (h.ev rfl)) (congrArg Value.bool (decide_eq_true (hp1)))) rfl ?_; intro f h
                          refine s_pure h (ru_move (h.ev rfl)) rfl ?_; intro f h
                          refine s_on h rfl rfl rfl ?_
                          refine s_pure h (ru_move (h.ev rfl)) rfl ?_; intro f h
                          refine s_on h rfl rfl rfl ?_
                          refine s_pure h (ru_field fld24_1 (h.ev rfl)) rfl ?_; intro f h
                          refine s_on h rfl rfl rfl ?_
                          refine s_load_at1 (cell_of_has (Has.of_own s 1 rfl) 1 (rfl)) h one3 rfl rfl ?_; intro f h
                          refine s_on h rfl rfl rfl ?_
                          refine s_pure h (ru_val (.bool true) (ru_eql (h.ev rfl) (h.ev rfl)) (congrArg Value.bool (decide_eq_true (hp3)))) rfl ?_; intro f h
                          refine s_pure h (ru_pick_t (h.ev rfl) (h.ev rfl)) rfl ?_; intro f h
                          refine s_pure h (ru_move (h.ev rfl)) rfl ?_; intro f h
                          refine s_on h rfl rfl rfl ?_
                          refine s_load_row 5 h s row24 rfl rfl (rfl) rfl ?_; intro f h
                          refine s_on h rfl rfl rfl ?_
                          refine s_load_row 1 h s row24 rfl rfl (rfl) rfl ?_; intro f h
                          refine s_on h rfl rfl rfl ?_
                          refine s_call h s fnc13 (ret_val (.bool true) (like_any (postM M9 fr tt dy) (⟨M9.l ++ [(M9.last + 1, fr, tt, dy)], M9.last + 1, M9.now⟩) vp v171 _ ((RdZ.of_own (s.getSl 6 rfl))) ((RdZ.of_own (s.getSl 0 rfl))) (by have := post_len (m := M9) (f := fr) (t := tt) (d := dy) hml; omega) (by show (M9.l ++ [_]).length ≤ 1000; rw [List.length_append]; show _ + 1 ≤ 1000; omega)) (congrArg Value.bool (by rw [hp2]; exact like_self _))) rfl rfl ?_; intro f w1 v9 hT hE h s; obtain rfl := hT
                          refine s_pure h (ru_pick_t (h.ev rfl) (h.ev rfl)) rfl ?_; intro f h
                          refine s_pure h (ru_assign (h.ev rfl)) rfl ?_; intro f h
                          refine s_nil ?_
                          refine hK62 _ _ ?_
                          refine wpIn_ret ?_
                          exact e_tmp rfl h s rfl (rfl)
                      · skip
                        refine c_region ?_
                        refine s_pure h (ru_field fld24_0 (h.ev rfl)) rfl ?_; intro f h
                        refine s_load_at1 (cell_of_has (Has.of_own s 7 rfl) 0 (rfl)) h one22 rfl rfl ?_; intro f h
                        refine s_len_sl 6 h s Try.underlying22 rfl rfl rfl ?_; intro f h
                        refine s_pure h (ru_val (.bool false) (ru_eql (h.ev rfl) (h.ev rfl)) (congrArg Value.bool (decide_eq_false (by have := of_decide_eq_false hu; omega)))) rfl ?_; intro f h
                        refine s_pure h (ru_move (h.ev rfl)) rfl ?_; intro f h
                        refine s_on h rfl rfl rfl ?_
                        refine s_pure h (ru_field fld24_1 (h.ev rfl)) rfl ?_; intro f h
                        refine s_on h rfl rfl rfl ?_
                        refine s_load_at1 (cell_of_has (Has.of_own s 7 rfl) 1 (rfl)) h one3 rfl rfl ?_; intro f h
                        refine s_on h rfl rfl rfl ?_
                        refine s_pure h (ru_val (.bool true) (ru_eql (h.ev rfl) (h.ev rfl)) (congrArg Value.bool hv)) rfl ?_; intro f h
                        refine s_pure h (ru_pick_f (h.ev rfl) (h.ev rfl)) rfl ?_; intro f h
                        refine s_pure h (ru_assign (h.ev rfl)) rfl ?_; intro f h
                        refine s_nil ?_
                        refine hK56 _ _ ?_
                        refine wpIn_cond_true (h.ev rfl) ?_
                        refine c_region ?_
                        refine s_pure h (ru_assign (h.ev rfl)) rfl ?_; intro f h
                        refine s_nil ?_
                        refine b_norm ?_
                        refine hK50 _ _ ?_
                        refine c_seq fun K63 hK63 => ?_
                        refine c_seq fun K64 hK64 => ?_
                        refine c_region ?_
                        refine s_pure h (ru_move (h.ev rfl)) rfl ?_; intro f h
                        refine s_pure h (ru_val (.bool true) (ru_neq (h.ev rfl) (h.ev rfl)) (congrArg Value.bool (decide_eq_true (by decide)))) rfl ?_; intro f h
                        refine s_nil ?_
                        refine hK64 _ _ ?_
                        refine wpIn_cond_true (h.ev rfl) ?_
                        refine c_seq fun K65 hK65 => ?_
                        refine c_region ?_
                        have hp1 : postE M9 fr tt dy = 8 := postE_8 hb9 (by omega) (by rw [hu, hv]; rfl)
                        obtain ⟨hp2, hp3⟩ := postM_no (m := M9) (f := fr) (t := tt) (d := dy) (by omega)
                        refine s_pure h (ru_move (h.ev rfl)) rfl ?_; intro f h
                        refine s_pure h (ru_move (h.ev rfl)) rfl ?_; intro f h
                        refine s_pure h (ru_val (.bool true) (ru_eql (h.ev rfl) (h.ev rfl)) (congrArg Value.bool (decide_eq_true (hp1)))) rfl ?_; intro f h
                        refine s_pure h (ru_move (h.ev rfl)) rfl ?_; intro f h
                        refine s_on h rfl rfl rfl ?_
                        refine s_pure h (ru_move (h.ev rfl)) rfl ?_; intro f h
                        refine s_on h rfl rfl rfl ?_
                        refine s_pure h (ru_val (.bool true) (ru_eql (h.ev rfl) (h.ev rfl)) (congrArg Value.bool (decide_eq_true (hp3)))) rfl ?_; intro f h
                        refine s_pure h (ru_pick_t (h.ev rfl) (h.ev rfl)) rfl ?_; intro f h
                        refine s_pure h (ru_move (h.ev rfl)) rfl ?_; intro f h
                        refine s_on h rfl rfl rfl ?_
                        refine s_load_row 4 h s row24 rfl rfl (rfl) rfl ?_; intro f h
                        refine s_on h rfl rfl rfl ?_
                        refine s_load_row 1 h s row24 rfl rfl (rfl) rfl ?_; intro f h
                        refine s_on h rfl rfl rfl ?_
                        refine s_call h s fnc13 (ret_val (.bool true) (like_any (postM M9 fr tt dy) (zMl) vp (.slice none 0 0) _ ((RdZ.of_own (s.getSl 5 rfl))) (rd_nil4 _) (by have := post_len (m := M9) (f := fr) (t := tt) (d := dy) hml; omega) (by decide)) (congrArg Value.bool (by rw [hp2]; exact like_self _))) rfl rfl ?_; intro f w1 v9 hT hE h s; obtain rfl := hT
                        refine s_pure h (ru_pick_t (h.ev rfl) (h.ev rfl)) rfl ?_; intro f h
                        refine s_pure h (ru_assign (h.ev rfl)) rfl ?_; intro f h
                        refine s_nil ?_
                        refine hK65 _ _ ?_
                        refine wpIn_ret ?_
                        refine t_ret ?_
                        exact e_tmp rfl h s rfl (rfl)
                    · skip
                      refine c_region ?_
                      refine s_pure h (ru_field fld24_0 (h.ev rfl)) rfl ?_; intro f h
                      refine s_load_at1 (cell_of_has (Has.of_own s 7 rfl) 0 (rfl)) h one22 rfl rfl ?_; intro f h
                      refine s_len_sl 6 h s Try.underlying22 rfl rfl rfl ?_; intro f h
                      refine s_pure h (ru_val (.bool true) (ru_eql (h.ev rfl) (h.ev rfl)) (congrArg Value.bool (decide_eq_true (by have := of_decide_eq_true hu; omega)))) rfl ?_; intro f h
                      refine s_pure h (ru_move (h.ev rfl)) rfl ?_; intro f h
                      refine s_off (b := false) h rfl rfl rfl rfl ?_; intro f h
                      refine s_off (b := false) h rfl rfl rfl rfl ?_; intro f h
                      refine s_off (b := false) h rfl rfl rfl rfl ?_; intro f h
                      refine s_pure h (ru_pick_t (h.ev rfl) (h.ev rfl)) rfl ?_; intro f h
                      refine s_pure h (ru_assign (h.ev rfl)) rfl ?_; intro f h
                      refine s_nil ?_
                      refine hK56 _ _ ?_
                      refine wpIn_cond_true (h.ev rfl) ?_
                      refine c_region ?_
                      refine s_pure h (ru_assign (h.ev rfl)) rfl ?_; intro f h
                      refine s_nil ?_
                      refine b_norm ?_
                      refine hK50 _ _ ?_
                      refine c_seq fun K66 hK66 => ?_
                      refine c_seq fun K67 hK67 => ?_
                      refine c_region ?_
                      refine s_pure h (ru_move (h.ev rfl)) rfl ?_; intro f h
                      refine s_pure h (ru_val (.bool true) (ru_neq (h.ev rfl) (h.ev rfl)) (congrArg Value.bool (decide_eq_true (by decide)))) rfl ?_; intro f h
                      refine s_nil ?_
                      refine hK67 _ _ ?_
                      refine wpIn_cond_true (h.ev rfl) ?_
                      refine c_seq fun K68 hK68 => ?_
                      refine c_region ?_
                      have hp1 : postE M9 fr tt dy = 8 := postE_8 hb9 (by omega) (by rw [hu]; rfl)
                      obtain ⟨hp2, hp3⟩ := postM_no (m := M9) (f := fr) (t := tt) (d := dy) (by omega)
                      refine s_pure h (ru_move (h.ev rfl)) rfl ?_; intro f h
                      refine s_pure h (ru_move (h.ev rfl)) rfl ?_; intro f h
                      refine s_pure h (ru_val (.bool true) (ru_eql (h.ev rfl) (h.ev rfl)) (congrArg Value.bool (decide_eq_true (hp1)))) rfl ?_; intro f h
                      refine s_pure h (ru_move (h.ev rfl)) rfl ?_; intro f h
                      refine s_on h rfl rfl rfl ?_
                      refine s_pure h (ru_move (h.ev rfl)) rfl ?_; intro f h
                      refine s_on h rfl rfl rfl ?_
                      refine s_pure h (ru_val (.bool true) (ru_eql (h.ev rfl) (h.ev rfl)) (congrArg Value.bool (decide_eq_true (hp3)))) rfl ?_; intro f h
                      refine s_pure h (ru_pick_t (h.ev rfl) (h.ev rfl)) rfl ?_; intro f h
                      refine s_pure h (ru_move (h.ev rfl)) rfl ?_; intro f h
                      refine s_on h rfl rfl rfl ?_
                      refine s_load_row 4 h s row24 rfl rfl (rfl) rfl ?_; intro f h
                      refine s_on h rfl rfl rfl ?_
                      refine s_load_row 1 h s row24 rfl rfl (rfl) rfl ?_; intro f h
                      refine s_on h rfl rfl rfl ?_
                      refine s_call h s fnc13 (ret_val (.bool true) (like_any (postM M9 fr tt dy) (zMl) vp (.slice none 0 0) _ ((RdZ.of_own (s.getSl 5 rfl))) (rd_nil4 _) (by have := post_len (m := M9) (f := fr) (t := tt) (d := dy) hml; omega) (by decide)) (congrArg Value.bool (by rw [hp2]; exact like_self _))) rfl rfl ?_; intro f w1 v9 hT hE h s; obtain rfl := hT
                      refine s_pure h (ru_pick_t (h.ev rfl) (h.ev rfl)) rfl ?_; intro f h
                      refine s_pure h (ru_assign (h.ev rfl)) rfl ?_; intro f h
                      refine s_nil ?_
                      refine hK68 _ _ ?_
                      refine wpIn_ret ?_
                      refine t_ret ?_
                      exact e_tmp rfl h s rfl (rfl)
                · skip
                  refine c_region ?_
                  refine s_pure h (ru_move (h.ev rfl)) rfl ?_; intro f h
                  refine s_pure h (ru_val (.bool false) (ru_lss (h.ev rfl) (h.ev rfl)) (congrArg Value.bool f0)) rfl ?_; intro f h
                  refine s_pure h (ru_move (h.ev rfl)) rfl ?_; intro f h
                  refine s_on h rfl rfl rfl ?_
                  refine s_pure h (ru_move (h.ev rfl)) rfl ?_; intro f h
                  refine s_on h rfl rfl rfl ?_
                  refine s_pure h (ru_val (.bool false) (ru_gtr (h.ev rfl) (h.ev rfl)) (congrArg Value.bool f1)) rfl ?_; intro f h
                  refine s_pure h (ru_pick_f (h.ev rfl) (h.ev rfl)) rfl ?_; intro f h
                  refine s_pure h (ru_move (h.ev rfl)) rfl ?_; intro f h
                  refine s_on h rfl rfl rfl ?_
                  refine s_pure h (ru_move (h.ev rfl)) rfl ?_; intro f h
                  refine s_on h rfl rfl rfl ?_
                  refine s_pure h (ru_val (.bool false) (ru_lss (h.ev rfl) (h.ev rfl)) (congrArg Value.bool t0)) rfl ?_; intro f h
                  refine s_pure h (ru_pick_f (h.ev rfl) (h.ev rfl)) rfl ?_; intro f h
                  refine s_pure h (ru_move (h.ev rfl)) rfl ?_; intro f h
                  refine s_on h rfl rfl rfl ?_
                  refine s_pure h (ru_move (h.ev rfl)) rfl ?_; intro f h
                  refine s_on h rfl rfl rfl ?_
                  refine s_pure h (ru_val (.bool true) (ru_gtr (h.ev rfl) (h.ev rfl)) (congrArg Value.bool t1)) rfl ?_; intro f h
                  refine s_pure h (ru_pick_f (h.ev rfl) (h.ev rfl)) rfl ?_; intro f h
                  refine s_pure h (ru_assign (h.ev rfl)) rfl ?_; intro f h
                  refine s_nil ?_
                  refine hK51 _ _ ?_
                  refine wpIn_cond_true (h.ev rfl) ?_
                  refine c_region ?_
                  refine s_pure h (ru_assign (h.ev rfl)) rfl ?_; intro f h
                  refine s_nil ?_
                  refine b_norm ?_
                  refine hK50 _ _ ?_
                  refine c_seq fun K69 hK69 => ?_
                  refine c_seq fun K70 hK70 => ?_
                  refine c_region ?_
                  refine s_pure h (ru_move (h.ev rfl)) rfl ?_; intro f h
                  refine s_pure h (ru_val (.bool true) (ru_neq (h.ev rfl) (h.ev rfl)) (congrArg Value.bool (decide_eq_true (by decide)))) rfl ?_; intro f h
                  refine s_nil ?_
                  refine hK70 _ _ ?_
                  refine wpIn_cond_true (h.ev rfl) ?_
                  refine c_seq fun K71 hK71 => ?_
                  refine c_region ?_
                  have hp1 : postE M9 fr tt dy = 1 := postE_1 (by rw [hr, adr_y _ f0 f1, adr_c _ t1]; rfl)
                  obtain ⟨hp2, hp3⟩ := postM_no (m := M9) (f := fr) (t := tt) (d := dy) (by omega)
                  refine s_pure h (ru_move (h.ev rfl)) rfl ?_; intro f h
                  refine s_pure h (ru_move (h.ev rfl)) rfl ?_; intro f h
                  refine s_pure h (ru_val (.bool true) (ru_eql (h.ev rfl) (h.ev rfl)) (congrArg Value.bool (decide_eq_true (hp1)))) rfl ?_; intro f h
                  refine s_pure h (ru_move (h.ev rfl)) rfl ?_; intro f h
                  refine s_on h rfl rfl rfl ?_
                  refine s_pure h (ru_move (h.ev rfl)) rfl ?_; intro f h
                  refine s_on h rfl rfl rfl ?_
                  refine s_pure h (ru_val (.bool true) (ru_eql (h.ev rfl) (h.ev rfl)) (congrArg Value.bool (decide_eq_true (hp3)))) rfl ?_; intro f h
                  refine s_pure h (ru_pick_t (h.ev rfl) (h.ev rfl)) rfl ?_; intro f h
                  refine s_pure h (ru_move (h.ev rfl)) rfl ?_; intro f h
                  refine s_on h rfl rfl rfl ?_
                  refine s_load_row 4 h s row24 rfl rfl (rfl) rfl ?_; intro f h
                  refine s_on h rfl rfl rfl ?_
                  refine s_load_row 1 h s row24 rfl rfl (rfl) rfl ?_; intro f h
                  refine s_on h rfl rfl rfl ?_
                  refine s_call h s fnc13 (ret_val (.bool true) (like_any (postM M9 fr tt dy) (zMl) vp (.slice none 0 0) _ ((RdZ.of_own (s.getSl 5 rfl))) (rd_nil4 _) (by have := post_len (m := M9) (f := fr) (t := tt) (d := dy) hml; omega) (by decide)) (congrArg Value.bool (by rw [hp2]; exact like_self _))) rfl rfl ?_; intro f w1 v9 hT hE h s; obtain rfl := hT
                  refine s_pure h (ru_pick_t (h.ev rfl) (h.ev rfl)) rfl ?_; intro f h
                  refine s_pure h (ru_assign (h.ev rfl)) rfl ?_; intro f h
                  refine s_nil ?_
                  refine hK71 _ _ ?_
                  refine wpIn_ret ?_
                  refine t_ret ?_
                  exact e_tmp rfl h s rfl (rfl)
              · skip
                refine c_region ?_
                refine s_pure h (ru_move (h.ev rfl)) rfl ?_; intro f h
                refine s_pure h (ru_val (.bool false) (ru_lss (h.ev rfl) (h.ev rfl)) (congrArg Value.bool f0)) rfl ?_; intro f h
                refine s_pure h (ru_move (h.ev rfl)) rfl ?_; intro f h
                refine s_on h rfl rfl rfl ?_
                refine s_pure h (ru_move (h.ev rfl)) rfl ?_; intro f h
                refine s_on h rfl rfl rfl ?_
                refine s_pure h (ru_val (.bool false) (ru_gtr (h.ev rfl) (h.ev rfl)) (congrArg Value.bool f1)) rfl ?_; intro f h
                refine s_pure h (ru_pick_f (h.ev rfl) (h.ev rfl)) rfl ?_; intro f h
                refine s_pure h (ru_move (h.ev rfl)) rfl ?_; intro f h
                refine s_on h rfl rfl rfl ?_
                refine s_pure h (ru_move (h.ev rfl)) rfl ?_; intro f h
                refine s_on h rfl rfl rfl ?_
                refine s_pure h (ru_val (.bool true) (ru_lss (h.ev rfl) (h.ev rfl)) (congrArg Value.bool t0)) rfl ?_; intro f h
                refine s_pure h (ru_pick_f (h.ev rfl) (h.ev rfl)) rfl ?_; intro f h
                refine s_pure h (ru_move (h.ev rfl)) rfl ?_; intro f h
                refine s_off (b := false) h rfl rfl rfl rfl ?_; intro f h
                refine s_off (b := false) h rfl rfl rfl rfl ?_; intro f h
                refine s_pure h (ru_pick_t (h.ev rfl) (h.ev rfl)) rfl ?_; intro f h
                refine s_pure h (ru_assign (h.ev rfl)) rfl ?_; intro f h
                refine s_nil ?_
                refine hK51 _ _ ?_
                refine wpIn_cond_true (h.ev rfl) ?_
                refine c_region ?_
                refine s_pure h (ru_assign (h.ev rfl)) rfl ?_; intro f h
                refine s_nil ?_
                refine b_norm ?_
                refine hK50 _ _ ?_
                refine c_seq fun K72 hK72 => ?_
                refine c_seq fun K73 hK73 => ?_
                refine c_region ?_
                refine s_pure h (ru_move (h.ev rfl)) rfl ?_; intro f h
                refine s_pure h (ru_val (.bool true) (ru_neq (h.ev rfl) (h.ev rfl)) (congrArg Value.bool (decide_eq_true (by decide)))) rfl ?_; intro f h
                refine s_nil ?_
                refine hK73 _ _ ?_
                refine wpIn_cond_true (h.ev rfl) ?_
                refine c_seq fun K74 hK74 => ?_
                refine c_region ?_
                have hp1 : postE M9 fr tt dy = 1 := postE_1 (by rw [hr, adr_y _ f0 f1, adr_b _ t0]; rfl)
                obtain ⟨hp2, hp3⟩ := postM_no (m := M9) (f := fr) (t := tt) (d := dy) (by omega)
                refine s_pure h (ru_move (h.ev rfl)) rfl ?_; intro f h
                refine s_pure h (ru_move (h.ev rfl)) rfl ?_; intro f h
                refine s_pure h (ru_val (.bool true) (ru_eql (h.ev rfl) (h.ev rfl)) (congrArg Value.bool (decide_eq_true (hp1)))) rfl ?_; intro f h
                refine s_pure h (ru_move (h.ev rfl)) rfl ?_; intro f h
                refine s_on h rfl rfl rfl ?_
                refine s_pure h (ru_move (h.ev rfl)) rfl ?_; intro f h
                refine s_on h rfl rfl rfl ?_
                refine s_pure h (ru_val (.bool true) (ru_eql (h.ev rfl) (h.ev rfl)) (congrArg Value.bool (decide_eq_true (hp3)))) rfl ?_; intro f h
                refine s_pure h (ru_pick_t (h.ev rfl) (h.ev rfl)) rfl ?_; intro f h
                refine s_pure h (ru_move (h.ev rfl)) rfl ?_; intro f h
                refine s_on h rfl rfl rfl ?_
                refine s_load_row 4 h s row24 rfl rfl (rfl) rfl ?_; intro f h
                refine s_on h rfl rfl rfl ?_
                refine s_load_row 1 h s row24 rfl rfl (rfl) rfl ?_; intro f h
                refine s_on h rfl rfl rfl ?_
                refine s_call h s fnc13 (ret_val (.bool true) (like_any (postM M9 fr tt dy) (zMl) vp (.slice none 0 0) _ ((RdZ.of_own (s.getSl 5 rfl))) (rd_nil4 _) (by have := post_len (m := M9) (f := fr) (t := tt) (d := dy) hml; omega) (by decide)) (congrArg Value.bool (by rw [hp2]; exact like_self _))) rfl rfl ?_; intro f w1 v9 hT hE h s; obtain rfl := hT
                refine s_pure h (ru_pick_t (h.ev rfl) (h.ev rfl)) rfl ?_; intro f h
                refine s_pure h (ru_assign (h.ev rfl)) rfl ?_; intro f h
                refine s_nil ?_
                refine hK74 _ _ ?_
                refine wpIn_ret ?_
                refine t_ret ?_
                exact e_tmp rfl h s rfl (rfl)
            · skip
              refine c_region ?_
              refine s_pure h (ru_move (h.ev rfl)) rfl ?_; intro f h
              refine s_pure h (ru_val (.bool false) (ru_lss (h.ev rfl) (h.ev rfl)) (congrArg Value.bool f0)) rfl ?_; intro f h
              refine s_pure h (ru_move (h.ev rfl)) rfl ?_; intro f h
              refine s_on h rfl rfl rfl ?_
              refine s_pure h (ru_move (h.ev rfl)) rfl ?_; intro f h
              refine s_on h rfl rfl rfl ?_
              refine s_pure h (ru_val (.bool true) (ru_gtr (h.ev rfl) (h.ev rfl)) (congrArg Value.bool f1)) rfl ?_; intro f h
              refine s_pure h (ru_pick_f (h.ev rfl) (h.ev rfl)) rfl ?_; intro f h
              refine s_pure h (ru_move (h.ev rfl)) rfl ?_; intro f h
              refine s_off (b := false) h rfl rfl rfl rfl ?_; intro f h
              refine s_off (b := false) h rfl rfl rfl rfl ?_; intro f h
              refine s_pure h (ru_pick_t (h.ev rfl) (h.ev rfl)) rfl ?_; intro f h
              refine s_pure h (ru_move (h.ev rfl)) rfl ?_; intro f h
              refine s_off (b := false) h rfl rfl rfl rfl ?_; intro f h
              refine s_off (b := false) h rfl rfl rfl rfl ?_; intro f h
              refine s_pure h (ru_pick_t (h.ev rfl) (h.ev rfl)) rfl ?_; intro f h
              refine s_pure h (ru_assign (h.ev rfl)) rfl ?_; intro f h
              refine s_nil ?_
              refine hK51 _ _ ?_
              refine wpIn_cond_true (h.ev rfl) ?_
              refine c_region ?_
              refine s_pure h (ru_assign (h.ev rfl)) rfl ?_; intro f h
              refine s_nil ?_
              refine b_norm ?_
              refine hK50 _ _ ?_
              refine c_seq fun K75 hK75 => ?_
              refine c_seq fun K76 hK76 => ?_
              refine c_region ?_
              refine s_pure h (ru_move (h.ev rfl)) rfl ?_; intro f h
              refine s_pure h (ru_val (.bool true) (ru_neq (h.ev rfl) (h.ev rfl)) (congrArg Value.bool (decide_eq_true (by decide)))) rfl ?_; intro f h
              refine s_nil ?_
              refine hK76 _ _ ?_
              refine wpIn_cond_true (h.ev rfl) ?_
              refine c_seq fun K77 hK77 => ?_
              refine c_region ?_
              have hp1 : postE M9 fr tt dy = 1 := postE_1 (by rw [hr, adr_c _ f1]; rfl)
              obtain ⟨hp2, hp3⟩ := postM_no (m := M9) (f := fr) (t := tt) (d := dy) (by omega)
              refine s_pure h (ru_move (h.ev rfl)) rfl ?_; intro f h
              refine s_pure h (ru_move (h.ev rfl)) rfl ?_; intro f h
              refine s_pure h (ru_val (.bool true) (ru_eql (h.ev rfl) (h.ev rfl)) (congrArg Value.bool (decide_eq_true (hp1)))) rfl ?_; intro f h
              refine s_pure h (ru_move (h.ev rfl)) rfl ?_; intro f h
              refine s_on h rfl rfl rfl ?_
              refine s_pure h (ru_move (h.ev rfl)) rfl ?_; intro f h
              refine s_on h rfl rfl rfl ?_
              refine s_pure h (ru_val (.bool true) (ru_eql (h.ev rfl) (h.ev rfl)) (congrArg Value.bool (decide_eq_true (hp3)))) rfl ?_; intro f h
              refine s_pure h (ru_pick_t (h.ev rfl) (h.ev rfl)) rfl ?_; intro f h
              refine s_pure h (ru_move (h.ev rfl)) rfl ?_; intro f h
              refine s_on h rfl rfl rfl ?_
              refine s_load_row 4 h s row24 rfl rfl (rfl) rfl ?_; intro f h
              refine s_on h rfl rfl rfl ?_
              refine s_load_row 1 h s row24 rfl rfl (rfl) rfl ?_; intro f h
              refine s_on h rfl rfl rfl ?_
              refine s_call h s fnc13 (ret_val (.bool true) (like_any (postM M9 fr tt dy) (zMl) vp (.slice none 0 0) _ ((RdZ.of_own (s.getSl 5 rfl))) (rd_nil4 _) (by have := post_len (m := M9) (f := fr) (t := tt) (d := dy) hml; omega) (by decide)) (congrArg Value.bool (by rw [hp2]; exact like_self _))) rfl rfl ?_; intro f w1 v9 hT hE h s; obtain rfl := hT
              refine s_pure h (ru_pick_t (h.ev rfl) (h.ev rfl)) rfl ?_; intro f h
              refine s_pure h (ru_assign (h.ev rfl)) rfl ?_; intro f h
              refine s_nil ?_
              refine hK77 _ _ ?_
              refine wpIn_ret ?_
              refine t_ret ?_
              exact e_tmp rfl h s rfl (rfl)
          · skip
            refine c_region ?_
            refine s_pure h (ru_move (h.ev rfl)) rfl ?_; intro f h
            refine s_pure h (ru_val (.bool true) (ru_lss (h.ev rfl) (h.ev rfl)) (congrArg Value.bool f0)) rfl ?_; intro f h
            refine s_pure h (ru_move (h.ev rfl)) rfl ?_; intro f h
            refine s_off (b := false) h rfl rfl rfl rfl ?_; intro f h
            refine s_off (b := false) h rfl rfl rfl rfl ?_; intro f h
            refine s_pure h (ru_pick_t (h.ev rfl) (h.ev rfl)) rfl ?_; intro f h
            refine s_pure h (ru_move (h.ev rfl)) rfl ?_; intro f h
            refine s_off (b := false) h rfl rfl rfl rfl ?_; intro f h
            refine s_off (b := false) h rfl rfl rfl rfl ?_; intro f h
            refine s_pure h (ru_pick_t (h.ev rfl) (h.ev rfl)) rfl ?_; intro f h
            refine s_pure h (ru_move (h.ev rfl)) rfl ?_; intro f h
            refine s_off (b := false) h rfl rfl rfl rfl ?_; intro f h
            refine s_off (b := false) h rfl rfl rfl rfl ?_; intro f h
            refine s_pure h (ru_pick_t (h.ev rfl) (h.ev rfl)) rfl ?_; intro f h
            refine s_pure h (ru_assign (h.ev rfl)) rfl ?_; intro f h
            refine s_nil ?_
            refine hK51 _ _ ?_
            refine wpIn_cond_true (h.ev rfl) ?_
            refine c_region ?_
            refine s_pure h (ru_assign (h.ev rfl)) rfl ?_; intro f h
            refine s_nil ?_
            refine b_norm ?_
            refine hK50 _ _ ?_
            refine c_seq fun K78 hK78 => ?_
            refine c_seq fun K79 hK79 => ?_
            refine c_region ?_
            refine s_pure h (ru_move (h.ev rfl)) rfl ?_; intro f h
            refine s_pure h (ru_val (.bool true) (ru_neq (h.ev rfl) (h.ev rfl)) (congrArg Value.bool (decide_eq_true (by decide)))) rfl ?_; intro f h
            refine s_nil ?_
            refine hK79 _ _ ?_
            refine wpIn_cond_true (h.ev rfl) ?_
            refine c_seq fun K80 hK80 => ?_
            refine c_region ?_
            have hp1 : postE M9 fr tt dy = 1 := postE_1 (by rw [hr, adr_b _ f0]; rfl)
            obtain ⟨hp2, hp3⟩ := postM_no (m := M9) (f := fr) (t := tt) (d := dy) (by omega)
            refine s_pure h (ru_move (h.ev rfl)) rfl ?_; intro f h
            refine s_pure h (ru_move (h.ev rfl)) rfl ?_; intro f h
            refine s_pure h (ru_val (.bool true) (ru_eql (h.ev rfl) (h.ev rfl)) (congrArg Value.bool (decide_eq_true (hp1)))) rfl ?_; intro f h
            refine s_pure h (ru_move (h.ev rfl)) rfl ?_; intro f h
            refine s_on h rfl rfl rfl ?_
            refine s_pure h (ru_move (h.ev rfl)) rfl ?_; intro f h
            refine s_on h rfl rfl rfl ?_
            refine s_pure h (ru_val (.bool true) (ru_eql (h.ev rfl) (h.ev rfl)) (congrArg Value.bool (decide_eq_true (hp3)))) rfl ?_; intro f h
            refine s_pure h (ru_pick_t (h.ev rfl) (h.ev rfl)) rfl ?_; intro f h
            refine s_pure h (ru_move (h.ev rfl)) rfl ?_; intro f h
            refine s_on h rfl rfl rfl ?_
            refine s_load_row 4 h s row24 rfl rfl (rfl) rfl ?_; intro f h
            refine s_on h rfl rfl rfl ?_
            refine s_load_row 1 h s row24 rfl rfl (rfl) rfl ?_; intro f h
            refine s_on h rfl rfl rfl ?_
            refine s_call h s fnc13 (ret_val (.bool true) (like_any (postM M9 fr tt dy) (zMl) vp (.slice none 0 0) _ ((RdZ.of_own (s.getSl 5 rfl))) (rd_nil4 _) (by have := post_len (m := M9) (f := fr) (t := tt) (d := dy) hml; omega) (by decide)) (congrArg Value.bool (by rw [hp2]; exact like_self _))) rfl rfl ?_; intro f w1 v9 hT hE h s; obtain rfl := hT
            refine s_pure h (ru_pick_t (h.ev rfl) (h.ev rfl)) rfl ?_; intro f h
            refine s_pure h (ru_assign (h.ev rfl)) rfl ?_; intro f h
            refine s_nil ?_
            refine hK80 _ _ ?_
            refine wpIn_ret ?_
            refine t_ret ?_
            exact e_tmp rfl h s rfl (rfl)
      · replace hc := of_decide_eq_false hc
        replace s := s.recell (D := mlArr { M9 with now := M9.now + min tk (1099511627776 - M9.now) } vf) 0 rfl (by show #[_, _, _] = #[_, _, _]; rw [show M9.now + min tk (1099511627776 - M9.now) = 1099511627776 from by omega])
        refine wpIn_skip ?_
        refine hK12 _ _ ?_
        refine c_seq fun K81 hK81 => ?_
        refine c_seq fun K82 hK82 => ?_
        cases ht : (decide (tk < 0) : Bool)
        · skip
          refine c_region ?_
          have hq1 : passE M9 tk = 0 := passE_0 (by rw [hr, ht]; rfl)
          have hq2 := passM_ok hq1
          refine s_pure h (ru_move (h.ev rfl)) rfl ?_; intro f h
          refine s_pure h (ru_val (.bool false) (ru_lss (h.ev rfl) (h.ev rfl)) (congrArg Value.bool ht)) rfl ?_; intro f h
          refine s_pure h (ru_move (h.ev rfl)) rfl ?_; intro f h
          refine s_off (b := true) h rfl rfl rfl rfl ?_; intro f h
          refine s_off (b := true) h rfl rfl rfl rfl ?_; intro f h
          refine s_off (b := true) h rfl rfl rfl rfl ?_; intro f h
          refine s_none h rfl rfl rfl rfl ?_; intro f h
          refine s_none h rfl rfl rfl rfl ?_; intro f h
          refine s_none h rfl rfl rfl rfl ?_; intro f h
          refine s_none h rfl rfl rfl rfl ?_; intro f h
          refine s_off (b := true) h rfl rfl rfl rfl ?_; intro f h
          refine s_pure h (ru_pick_f (h.ev rfl) (h.ev rfl)) rfl ?_; intro f h
          refine s_pure h (ru_move (h.ev rfl)) rfl ?_; intro f h
          refine s_on h rfl rfl rfl ?_
          refine s_pure h (ru_move (h.ev rfl)) rfl ?_; intro f h
          refine s_on h rfl rfl rfl ?_
          refine s_pure h (ru_val (.bool true) (ru_geq (h.ev rfl) (h.ev rfl)) (congrArg Value.bool (decide_eq_true (by have := of_decide_eq_false ht; omega)))) rfl ?_; intro f h
          refine s_on h rfl rfl rfl ?_
          refine s_pure h (ru_move (h.ev rfl)) rfl ?_; intro f h
          refine s_on h rfl rfl rfl ?_
          refine s_pure h (ru_move (h.ev rfl)) rfl ?_; intro f h
          refine s_on h rfl rfl rfl ?_
          refine s_pure h (ru_val (.bool false) (ru_neq (h.ev rfl) (h.ev rfl)) (congrArg Value.bool (decide_eq_false (fun h9 => h9 hq1)))) rfl ?_; intro f h
          refine s_on h rfl rfl rfl ?_
          refine s_pure h (ru_move (h.ev rfl)) rfl ?_; intro f h
          refine s_on h rfl rfl rfl ?_
          refine s_load_row 2 h s row24 rfl rfl (rfl) rfl ?_; intro f h
          refine s_on h rfl rfl rfl ?_
          refine s_load_row 0 h s row24 rfl rfl (rfl) rfl ?_; intro f h
          refine s_on h rfl rfl rfl ?_
          refine s_call h s fnc13 (ret_val (.bool true) (like_any (passM M9 tk) ({ M9 with now := M9.now + min tk (1099511627776 - M9.now) }) vq vf _ ((RdZ.of_own (s.getSl 3 rfl))) ((RdZ.of_own (s.getSl 6 rfl))) (by have := pass_len (m := M9) (t := tk) hml; omega) (by show M9.l.length ≤ 1000; omega)) (congrArg Value.bool (by rw [hq2]; exact like_self _))) rfl rfl ?_; intro f w1 v9 hT hE h s; obtain rfl := hT
          refine s_on h rfl rfl rfl ?_
          refine s_pure h (ru_val (.bool false) (ru_not (h.ev rfl)) rfl) rfl ?_; intro f h
          refine s_on h rfl rfl rfl ?_
          refine s_pure h (ru_pick_f (h.ev rfl) (h.ev rfl)) rfl ?_; intro f h
          refine s_on h rfl rfl rfl ?_
          refine s_pure h (ru_pick_t (h.ev rfl) (h.ev rfl)) rfl ?_; intro f h
          refine s_pure h (ru_pick_f (h.ev rfl) (h.ev rfl)) rfl ?_; intro f h
          refine s_nil ?_
          refine hK82 _ _ ?_
          refine wpIn_cond_false (h.ev rfl) ?_
          refine wpIn_skip ?_
          refine hK81 _ _ ?_
          refine c_seq fun K83 hK83 => ?_
          refine c_region ?_
          refine s_pure h (ru_assign (h.ev rfl)) rfl ?_; intro f h
          refine s_nil ?_
          refine hK83 _ _ ?_
          refine c_seq fun K84 hK84 => ?_
          refine wpIn_block ?_
          refine c_seq fun K85 hK85 => ?_
          cases f0 : (decide (fr < 0) : Bool)
          · skip
            cases f1 : (decide (31 < fr) : Bool)
            · skip
              cases t0 : (decide (tt < 0) : Bool)
              · skip
                cases t1 : (decide (31 < tt) : Bool)
                · skip
                  refine c_region ?_
                  refine s_pure h (ru_move (h.ev rfl)) rfl ?_; intro f h
                  refine s_pure h (ru_val (.bool false) (ru_lss (h.ev rfl) (h.ev rfl)) (congrArg Value.bool f0)) rfl ?_; intro f h
                  refine s_pure h (ru_move (h.ev rfl)) rfl ?_; intro f h
                  refine s_on h rfl rfl rfl ?_
                  refine s_pure h (ru_move (h.ev rfl)) rfl ?_; intro f h
                  refine s_on h rfl rfl rfl ?_
                  refine s_pure h (ru_val (.bool false) (ru_gtr (h.ev rfl) (h.ev rfl)) (congrArg Value.bool f1)) rfl ?_; intro f h
                  refine s_pure h (ru_pick_f (h.ev rfl) (h.ev rfl)) rfl ?_; intro f h
                  refine s_pure h (ru_move (h.ev rfl)) rfl ?_; intro f h
                  refine s_on h rfl rfl rfl ?_
                  refine s_pure h (ru_move (h.ev rfl)) rfl ?_; intro f h
                  refine s_on h rfl rfl rfl ?_
                  refine s_pure h (ru_val (.bool false) (ru_lss (h.ev rfl) (h.ev rfl)) (congrArg Value.bool t0)) rfl ?_; intro f h
                  refine s_pure h (ru_pick_f (h.ev rfl) (h.ev rfl)) rfl ?_; intro f h
                  refine s_pure h (ru_move (h.ev rfl)) rfl ?_; intro f h
                  refine s_on h rfl rfl rfl ?_
                  refine s_pure h (ru_move (h.ev rfl)) rfl ?_; intro f h
                  refine s_on h rfl rfl rfl ?_
                  refine s_pure h (ru_val (.bool false) (ru_gtr (h.ev rfl) (h.ev rfl)) (congrArg Value.bool t1)) rfl ?_; intro f h
                  refine s_pure h (ru_pick_f (h.ev rfl) (h.ev rfl)) rfl ?_; intro f h
                  refine s_pure h (ru_assign (h.ev rfl)) rfl ?_; intro f h
                  refine s_nil ?_
                  refine hK85 _ _ ?_
                  refine wpIn_cond_false (h.ev rfl) ?_
                  refine c_seq fun K86 hK86 => ?_
                  refine c_region ?_
                  refine s_pure h (ru_move (h.ev rfl)) rfl ?_; intro f h
                  refine s_pure h (ru_len_str Try.underlying9 (h.ev rfl)) rfl ?_; intro f h
                  refine s_pure h (ru_gtr (h.ev rfl) (h.ev rfl)) rfl ?_; intro f h
                  refine s_pure h (ru_assign (h.ev rfl)) rfl ?_; intro f h
                  refine s_nil ?_
                  refine hK86 _ _ ?_
                  refine c_cond h rfl (fun hc => ?_) (fun hc => ?_)
                  · replace hc := of_decide_eq_true hc
                    have hb9 : (!rightL M9 || (!adr fr || !adr tt)) = false := by rw [hr, adr_y _ f0 f1, adr_y _ t0 t1]; rfl
                    refine c_region ?_
                    refine s_pure h (ru_assign (h.ev rfl)) rfl ?_; intro f h
                    refine s_nil ?_
                    refine b_norm ?_
                    refine hK84 _ _ ?_
                    refine c_seq fun K87 hK87 => ?_
                    refine c_seq fun K88 hK88 => ?_
                    refine c_region ?_
                    refine s_pure h (ru_move (h.ev rfl)) rfl ?_; intro f h
                    refine s_pure h (ru_val (.bool true) (ru_neq (h.ev rfl) (h.ev rfl)) (congrArg Value.bool (decide_eq_true (by decide)))) rfl ?_; intro f h
                    refine s_nil ?_
                    refine hK88 _ _ ?_
                    refine wpIn_cond_true (h.ev rfl) ?_
                    refine c_seq fun K89 hK89 => ?_
                    refine c_region ?_
                    have hp1 : postE M9 fr tt dy = 2 := postE_2 hb9 (by omega)
                    obtain ⟨hp2, hp3⟩ := postM_no (m := M9) (f := fr) (t := tt) (d := dy) (by omega)
                    refine s_pure h (ru_move (h.ev rfl)) rfl ?_; intro f h
                    refine s_pure h (ru_move (h.ev rfl)) rfl ?_; intro f h
                    refine s_pure h (ru_val (.bool true) (ru_eql (h.ev rfl) (h.ev rfl)) (congrArg Value.bool (decide_eq_true (hp1)))) rfl ?_; intro f h
                    refine s_pure h (ru_move (h.ev rfl)) rfl ?_; intro f h
                    refine s_on h rfl rfl rfl ?_
                    refine s_pure h (ru_move (h.ev rfl)) rfl ?_; intro f h
                    refine s_on h rfl rfl rfl ?_
                    refine s_pure h (ru_val (.bool true) (ru_eql (h.ev rfl) (h.ev rfl)) (congrArg Value.bool (decide_eq_true (hp3)))) rfl ?_; intro f h
                    refine s_pure h (ru_pick_t (h.ev rfl) (h.ev rfl)) rfl ?_; intro f h
                    refine s_pure h (ru_move (h.ev rfl)) rfl ?_; intro f h
                    refine s_on h rfl rfl rfl ?_
                    refine s_load_row 4 h s row24 rfl rfl (rfl) rfl ?_; intro f h
                    refine s_on h rfl rfl rfl ?_
                    refine s_load_row 1 h s row24 rfl rfl (rfl) rfl ?_; intro f h
                    refine s_on h rfl rfl rfl ?_
                    refine s_call h s fnc13 (ret_val (.bool true) (like_any (postM M9 fr tt dy) (zMl) vp (.slice none 0 0) _ ((RdZ.of_own (s.getSl 5 rfl))) (rd_nil4 _) (by have := post_len (m := M9) (f := fr) (t := tt) (d := dy) hml; omega) (by decide)) (congrArg Value.bool (by rw [hp2]; exact like_self _))) rfl rfl ?_; intro f w1 v9 hT hE h s; obtain rfl := hT
                    refine s_pure h (ru_pick_t (h.ev rfl) (h.ev rfl)) rfl ?_; intro f h
                    refine s_pure h (ru_assign (h.ev rfl)) rfl ?_; intro f h
                    refine s_nil ?_
                    refine hK89 _ _ ?_
                    refine wpIn_ret ?_
                    refine t_ret ?_
                    exact e_tmp rfl h s rfl (rfl)
                  · have hsz := of_decide_eq_false hc
                    have hb9 : (!rightL M9 || (!adr fr || !adr tt)) = false := by rw [hr, adr_y _ f0 f1, adr_y _ t0 t1]; rfl
                    refine c_seq fun K90 hK90 => ?_
                    cases hu : (decide (M9.l.length = 64) : Bool)
                    · skip
                      cases hv : (decide (M9.last = 1099511627776) : Bool)
                      · skip
                        refine c_region ?_
                        refine s_pure h (ru_field fld24_0 (h.ev rfl)) rfl ?_; intro f h
                        refine s_load_at1 (cell_of_has (Has.of_own s 7 rfl) 0 (rfl)) h one22 rfl rfl ?_; intro f h
                        refine s_len_sl 6 h s Try.underlying22 rfl rfl rfl ?_; intro f h
                        refine s_pure h (ru_val (.bool false) (ru_eql (h.ev rfl) (h.ev rfl)) (congrArg Value.bool (decide_eq_false (by have := of_decide_eq_false hu; omega)))) rfl ?_; intro f h
                        refine s_pure h (ru_move (h.ev rfl)) rfl ?_; intro f h
                        refine s_on h rfl rfl rfl ?_
                        refine s_pure h (ru_field fld24_1 (h.ev rfl)) rfl ?_; intro f h
                        refine s_on h rfl rfl rfl ?_
                        refine s_load_at1 (cell_of_has (Has.of_own s 7 rfl) 1 (rfl)) h one3 rfl rfl ?_; intro f h
                        refine s_on h rfl rfl rfl ?_
                        refine s_pure h (ru_val (.bool false) (ru_eql (h.ev rfl) (h.ev rfl)) (congrArg Value.bool hv)) rfl ?_; intro f h
                        refine s_pure h (ru_pick_f (h.ev rfl) (h.ev rfl)) rfl ?_; intro f h
                        refine s_pure h (ru_assign (h.ev rfl)) rfl ?_; intro f h
                        refine s_nil ?_
                        refine hK90 _ _ ?_
                        refine wpIn_cond_false (h.ev rfl) ?_
                        refine wpIn_skip ?_
                        refine b_norm ?_
                        refine hK84 _ _ ?_
                        refine c_seq fun K91 hK91 => ?_
                        refine c_seq fun K92 hK92 => ?_
                        refine c_region ?_
                        refine s_pure h (ru_move (h.ev rfl)) rfl ?_; intro f h
                        refine s_pure h (ru_val (.bool false) (ru_neq (h.ev rfl) (h.ev rfl)) (congrArg Value.bool (decide_eq_false (by decide)))) rfl ?_; intro f h
                        refine s_nil ?_
                        refine hK92 _ _ ?_
                        refine wpIn_cond_false (h.ev rfl) ?_
                        refine wpIn_skip ?_
                        refine hK91 _ _ ?_
                        refine c_seq fun K93 hK93 => ?_
                        refine c_region ?_
                        refine s_load_row 7 h s row24 rfl rfl (rfl) rfl ?_; intro f h
                        refine s_store_row 0 h s row24 rfl rfl rfl (rfl) (rfl) (mlArr_ones _ _ (own_one (s.getSl 6 rfl))) ?_; intro w1 s
                        refine s_nil ?_
                        refine hK93 _ _ ?_
                        refine c_seq fun K94 hK94 => ?_
                        refine c_region ?_
                        refine s_pure h (ru_field fld24_1 (h.ev rfl)) rfl ?_; intro f h
                        refine s_load_at1 (cell_of_has (Has.of_own s 0 rfl) 1 (rfl)) h one3 rfl rfl ?_; intro f h
                        refine s_pure h (ru_add (h.ev rfl) (h.ev rfl) (by omega)) rfl ?_; intro f h
                        refine s_pure h (ru_field fld24_1 (h.ev rfl)) rfl ?_; intro f h
                        refine s_store_one 0 h s one3 rfl rfl rfl (by show _ < 3; decide) (rfl) ?_; intro w1 s
                        replace s := s.recell (D := mlArr { M9 with last := M9.last + 1 } vf) 0 rfl rfl
                        refine s_nil ?_
                        refine hK94 _ _ ?_
                        refine c_seq fun K95 hK95 => ?_
                        have hbs := s.ext.le
                        refine' c_reg2 11 [1, 4, 6, 7, 8, 12] [] [[], [], [1], [0, 1, 2], [], [4], [], [], [], [4, 5, 6, 7, 8], [4, 5, 6, 7, 8, 9], [0, 1, 2, 3, 4, 5, 6, 7, 8, 9, 10], [0, 1, 2, 3, 4, 5, 6, 7, 8, 9, 10, 11], [0, 1, 2, 3, 4, 5, 6, 7, 8, 9, 10, 11, 12]] ((Emp w1.heap.size 35) :: is _ :: is _ :: (fun v w9 => Owns w9 w1.heap.size 35 4 v (M9.l).length (ltCells (M9.l))) :: is _ :: is _ :: is _ :: is _ :: is _ :: is _ :: (fun v w9 => RdZ w9 v 4 1 ((ltArr (M9.last + 1, fr, tt, dy)).toList)) :: is undef :: is _ :: is undef :: []) (fun _ => True) h s (by kernel_rfl) (by kernel_rfl) (by kernel_rfl) (by kernel_rfl) rfl (fun _ _ h _ => h) (trivial) ⟨⟨_, rfl⟩, ⟨_, rfl⟩, ⟨_, rfl⟩, ⟨_, rfl⟩, ⟨_, rfl⟩, ⟨_, rfl⟩, trivial⟩ ⟨Emp.mono _ _, is_mono _, is_mono _, ownsM _ _ _ _ _, is_mono _, is_mono _, is_mono _, is_mono _, is_mono _, is_mono _, RdZ.mono, is_mono _, is_mono _, is_mono _, trivial⟩ (And.intro ?_ (And.intro ?_ (And.intro ?_ (And.intro ?_ (And.intro ?_ (And.intro ?_ (And.intro ?_ (And.intro ?_ (And.intro ?_ (And.intro ?_ (And.intro ?_ (And.intro ?_ (And.intro ?_ (And.intro ?_ (trivial))))))))))))))) ?_
                        rotate_left 9
                        · refine obF_in 160 rfl (by decide) (by decide) ?_
                          intro f9 w2 hE hs hd9 hl
                          have h := fin_slot [] hs hd9 (holds_lk trivial)
                          have s := s.more hE
                          have z := St.start w2
                          refine s_bslice0 (base := w1.heap.size) h Try.underlying22 elm35 hE.le rfl ?_; intro f w3 v3 h hE3 hm3
                          refine s_nil ?_
                          exact ⟨by rw [h.holds 160 _ rfl]; exact hm3, hE3, fun h9 => absurd h9 (by decide)⟩
                        · refine obH_in 161 rfl (by decide) ?_
                          intro f9 w2 hE hs hl
                          have e5 : f9.tmps.getD 5 undef = _ := sx_old hl 5 (by kernel_rfl) (by kernel_rfl) (h.holds 5 _ rfl)
                          have h := fin_slot [(5, _)] hs rfl (holds_lk ⟨e5, trivial⟩)
                          refine s_pure h (ru_field fld24_0 (h.ev rfl)) rfl ?_; intro f h
                          refine s_nil ?_
                          have e9 := h.holds 161 _ rfl
                          refine ⟨?_, rfl⟩
                          refine e9.trans ?_
                          exact rfl
                        · refine obF_in 162 rfl (by decide) (by decide) ?_
                          intro f9 w2 hE hs hd9 hl
                          have e161 : f9.tmps.getD 161 undef = _ := sx_get hl 161 1 (by kernel_rfl) (by kernel_rfl)
                          have h := fin_slot [(161, _)] hs hd9 (holds_lk ⟨e161, trivial⟩)
                          have s := s.more hE
                          have z := St.start w2
                          refine s_load_at1 (cell_of_has (Has.of_own s 7 rfl) 0 (rfl)) h one22 rfl rfl ?_; intro f h
                          refine s_nil ?_
                          have e9 := h.holds 162 _ rfl
                          refine ⟨?_, Ext.refl _, fun h9 => absurd h9 (by decide)⟩
                          refine e9.trans ?_
                          exact rfl
                        · refine obF_in 163 rfl (by decide) (by decide) ?_
                          intro f9 w2 hE hs hd9 hl
                          obtain ⟨u160, hu160⟩ : ∃ v, f9.tmps.getD 160 undef = v := ⟨_, rfl⟩
                          have e160 : (Emp w1.heap.size 35) u160 w2 := by rw [← hu160]; exact sx_get hl 160 0 (by kernel_rfl) (by kernel_rfl)
                          have e162 : f9.tmps.getD 162 undef = _ := sx_get hl 162 2 (by kernel_rfl) (by kernel_rfl)
                          have h := fin_slot [(160, u160), (162, _)] hs hd9 (holds_lk ⟨hu160, e162, trivial⟩)
                          have s := s.more hE
                          have z := St.start w2
                          refine s_append_emp (base := w1.heap.size) e160 (RdZ.of_own (s.getSl 6 rfl)) h Try.underlying22 elm35 rfl rfl hE.le (ltCells_ones _) (by unfold maxLen; omega) (by omega) rfl ?_; intro f w3 v3 h hE3 hO
                          refine s_nil ?_
                          exact ⟨by rw [h.holds 163 _ rfl]; exact hO, hE3, fun h9 => absurd h9 (by decide)⟩
                        · refine obH_in 164 rfl (by decide) ?_
                          intro f9 w2 hE hs hl
                          have e17 : f9.tmps.getD 17 undef = _ := sx_old hl 17 (by kernel_rfl) (by kernel_rfl) (h.holds 17 _ rfl)
                          have h := fin_slot [(17, _)] hs rfl (holds_lk ⟨e17, trivial⟩)
                          refine s_pure h (ru_field fld24_1 (h.ev rfl)) rfl ?_; intro f h
                          refine s_nil ?_
                          have e9 := h.holds 164 _ rfl
                          refine ⟨?_, rfl⟩
                          refine e9.trans ?_
                          exact rfl
                        · refine obF_in 165 rfl (by decide) (by decide) ?_
                          intro f9 w2 hE hs hd9 hl
                          have e164 : f9.tmps.getD 164 undef = _ := sx_get hl 164 4 (by kernel_rfl) (by kernel_rfl)
                          have h := fin_slot [(164, _)] hs hd9 (holds_lk ⟨e164, trivial⟩)
                          have s := s.more hE
                          have z := St.start w2
                          refine s_load_at1 (cell_of_has (Has.of_own s 0 rfl) 1 (rfl)) h one3 rfl rfl ?_; intro f h
                          refine s_nil ?_
                          have e9 := h.holds 165 _ rfl
                          refine ⟨?_, Ext.refl _, fun h9 => absurd h9 (by decide)⟩
                          refine e9.trans ?_
                          exact rfl
                        · refine obH_in 166 rfl (by decide) ?_
                          intro f9 w2 hE hs hl
                          have e1 : f9.tmps.getD 1 undef = _ := sx_old hl 1 (by kernel_rfl) (by kernel_rfl) (h.holds 1 _ rfl)
                          have h := fin_slot [(1, _)] hs rfl (holds_lk ⟨e1, trivial⟩)
                          refine s_pure h (ru_move (h.ev rfl)) rfl ?_; intro f h
                          refine s_nil ?_
                          have e9 := h.holds 166 _ rfl
                          refine ⟨?_, rfl⟩
                          refine e9.trans ?_
                          exact rfl
                        · refine obH_in 167 rfl (by decide) ?_
                          intro f9 w2 hE hs hl
                          have e2 : f9.tmps.getD 2 undef = _ := sx_old hl 2 (by kernel_rfl) (by kernel_rfl) (h.holds 2 _ rfl)
                          have h := fin_slot [(2, _)] hs rfl (holds_lk ⟨e2, trivial⟩)
                          refine s_pure h (ru_move (h.ev rfl)) rfl ?_; intro f h
                          refine s_nil ?_
                          have e9 := h.holds 167 _ rfl
                          refine ⟨?_, rfl⟩
                          refine e9.trans ?_
                          exact rfl
                        · refine obH_in 168 rfl (by decide) ?_
                          intro f9 w2 hE hs hl
                          have e4 : f9.tmps.getD 4 undef = _ := sx_old hl 4 (by kernel_rfl) (by kernel_rfl) (h.holds 4 _ rfl)
                          have h := fin_slot [(4, _)] hs rfl (holds_lk ⟨e4, trivial⟩)
                          refine s_pure h (ru_move (h.ev rfl)) rfl ?_; intro f h
                          refine s_nil ?_
                          have e9 := h.holds 168 _ rfl
                          refine ⟨?_, rfl⟩
                          refine e9.trans ?_
                          exact rfl
                        · refine obF_in 169 rfl (by decide) (by decide) ?_
                          intro f9 w2 hE hs hd9 hl
                          have e165 : f9.tmps.getD 165 undef = _ := sx_get hl 165 5 (by kernel_rfl) (by kernel_rfl)
                          have e166 : f9.tmps.getD 166 undef = _ := sx_get hl 166 6 (by kernel_rfl) (by kernel_rfl)
                          have e167 : f9.tmps.getD 167 undef = _ := sx_get hl 167 7 (by kernel_rfl) (by kernel_rfl)
                          have e168 : f9.tmps.getD 168 undef = _ := sx_get hl 168 8 (by kernel_rfl) (by kernel_rfl)
                          have h := fin_slot [(165, _), (166, _), (167, _), (168, _)] hs hd9 (holds_lk ⟨e165, e166, e167, e168, trivial⟩)
                          have s := s.more hE
                          have z := St.start w2
                          refine s_pure h (ru_build_lt sttL (h.ev rfl) (h.ev rfl) (h.ev rfl) (h.ev rfl)) rfl ?_; intro f h
                          refine s_nil ?_
                          have e9 := h.holds 169 _ rfl
                          refine ⟨?_, Ext.refl _, fun h9 => absurd h9 (by decide)⟩
                          refine e9.trans ?_
                          exact rfl
                        · refine obF_in 170 rfl (by decide) (by decide) ?_
                          intro f9 w2 hE hs hd9 hl
                          have e169 : f9.tmps.getD 169 undef = _ := sx_get hl 169 9 (by kernel_rfl) (by kernel_rfl)
                          have h := fin_slot [(169, _)] hs hd9 (holds_lk ⟨e169, trivial⟩)
                          have s := s.more hE
                          have z := St.start w2
                          refine s_bslice (vs := [.agg (ltArr (M9.last + 1, fr, tt, dy))]) [.tmp 169] h z Try.underlying22 elm35 rfl rfl (one_lt_size _) rfl rfl rfl ?_; intro f w1 v9 h z
                          refine s_nil ?_
                          exact kf_rd (h.holds 170 _ rfl) z _ (one_lt _)
                        · exact obT_in (by decide) (by decide)
                        · refine obH_in 172 rfl (by decide) ?_
                          intro f9 w2 hE hs hl
                          have e17 : f9.tmps.getD 17 undef = _ := sx_old hl 17 (by kernel_rfl) (by kernel_rfl) (h.holds 17 _ rfl)
                          have h := fin_slot [(17, _)] hs rfl (holds_lk ⟨e17, trivial⟩)
                          refine s_pure h (ru_field fld24_0 (h.ev rfl)) rfl ?_; intro f h
                          refine s_nil ?_
                          have e9 := h.holds 172 _ rfl
                          refine ⟨?_, rfl⟩
                          refine e9.trans ?_
                          exact rfl
                        · exact obT_in (by decide) (by decide)
                        · intro f9 w2 hE hs hd9 hWp hT hR hFr hDj
                          obtain ⟨u160, hu160⟩ : ∃ v, f9.tmps.getD 160 undef = v := ⟨_, rfl⟩
                          have e160 : (Emp w1.heap.size 35) u160 w2 := by rw [← hu160]; exact hT 0 160 (by decide) rfl
                          obtain ⟨u163, hu163⟩ : ∃ v, f9.tmps.getD 163 undef = v := ⟨_, rfl⟩
                          have e163 : (fun v w9 => Owns w9 w1.heap.size 35 4 v (M9.l).length (ltCells (M9.l))) u163 w2 := by rw [← hu163]; exact hT 3 163 (by decide) rfl
                          obtain ⟨u170, hu170⟩ : ∃ v, f9.tmps.getD 170 undef = v := ⟨_, rfl⟩
                          have e170 : (fun v w9 => RdZ w9 v 4 1 ((ltArr (M9.last + 1, fr, tt, dy)).toList)) u170 w2 := by rw [← hu170]; exact hT 10 170 (by decide) rfl
                          replace h := sl_new (ops := _) [(160, u160), (161, _), (162, _), (163, u163), (164, _), (165, _), (166, _), (167, _), (168, _), (169, _), (170, u170), (172, _)] h hs hd9 hR ⟨hu160, hT 1 161 (by decide) rfl, hT 2 162 (by decide) rfl, hu163, hT 4 164 (by decide) rfl, hT 5 165 (by decide) rfl, hT 6 166 (by decide) rfl, hT 7 167 (by decide) rfl, hT 8 168 (by decide) rfl, hT 9 169 (by decide) rfl, hu170, hT 12 172 (by decide) rfl, trivial⟩ (by kernel_rfl)
                          replace s := s.sl_new hE e163
                          clear hT hR hFr hDj
                          refine LstW.of ?_
                          refine s_append_rd 0 (e170) h s Try.underlying22 elm35 rfl rfl rfl (ltArr_ones (M9.last + 1, fr, tt, dy)) (by unfold maxLen; omega) (by omega) rfl ?_; intro f w1 v171 h s
                          replace s := s.resl (m := (M9.l ++ [(M9.last + 1, fr, tt, dy)]).length) (ys := ltCells (M9.l ++ [(M9.last + 1, fr, tt, dy)])) 0 rfl (by rw [List.length_append]; rfl) (cells_snoc _ _)
                          refine s_store_one 1 h s one22 rfl rfl rfl (by show _ < 3; decide) (own_one (s.getSl 0 rfl)) ?_; intro w1 s
                          replace s := s.recell (D := mlArr ⟨M9.l ++ [(M9.last + 1, fr, tt, dy)], M9.last + 1, M9.now⟩ v171) 1 rfl rfl
                          refine s_nil ?_
                          refine hK95 _ _ ?_
                          refine c_seq fun K96 hK96 => ?_
                          refine c_region ?_
                          have hp1 : postE M9 fr tt dy = 0 := postE_0 hb9 (by omega) (by rw [hu, hv]; rfl)
                          obtain ⟨hp2, hp3⟩ := postM_ok hp1
                          refine s_pure h (ru_move (h.ev rfl)) rfl ?_; intro f h
                          refine s_pure h (ru_val (.bool true) (ru_eql (h.ev rfl) (h.ev rfl)) (congrArg Value.bool (decide_eq_true (hp1)))) rfl ?_; intro f h
                          refine s_pure h (ru_move (h.ev rfl)) rfl ?_; intro f h
                          refine s_on h rfl rfl rfl ?_
                          refine s_pure h (ru_move (h.ev rfl)) rfl ?_; intro f h
                          refine s_on h rfl rfl rfl ?_
                          refine s_pure h (ru_field fld24_1 (h.ev rfl)) rfl ?_; intro f h
                          refine s_on h rfl rfl rfl ?_
                          refine s_load_at1 (cell_of_has (Has.of_own s 1 rfl) 1 (rfl)) h one3 rfl rfl ?_; intro f h
                          refine s_on h rfl rfl rfl ?_
                          refine s_pure h (ru_val (.bool true) (ru_eql (h.ev rfl) (h.ev rfl)) (congrArg Value.bool (decide_eq_true (hp3)))) rfl ?_; intro f h
                          refine s_pure h (ru_pick_t (h.ev rfl) (h.ev rfl)) rfl ?_; intro f h
                          refine s_pure h (ru_move (h.ev rfl)) rfl ?_; intro f h
                          refine s_on h rfl rfl rfl ?_
                          refine s_load_row 5 h s row24 rfl rfl (rfl) rfl ?_; intro f h
                          refine s_on h rfl rfl rfl ?_
                          refine s_load_row 1 h s row24 rfl rfl (rfl) rfl ?_; intro f h
                          refine s_on h rfl rfl rfl ?_
                          refine s_call h s fnc13 (ret_val (.bool true) (like_any (postM M9 fr tt dy) (⟨M9.l ++ [(M9.last + 1, fr, tt, dy)], M9.last + 1, M9.now⟩) vp v171 _ ((RdZ.of_own (s.getSl 6 rfl))) ((RdZ.of_own (s.getSl 0 rfl))) (by have := post_len (m := M9) (f := fr) (t := tt) (d := dy) hml; omega) (by show (M9.l ++ [_]).length ≤ 1000; rw [List.length_append]; show _ + 1 ≤ 1000; omega)) (congrArg Value.bool (by rw [hp2]; exact like_self _))) rfl rfl ?_; intro f w1 v9 hT hE h s; obtain rfl := hT
                          refine s_pure h (ru_pick_t (h.ev rfl) (h.ev rfl)) rfl ?_; intro f h
                          refine s_pure h (ru_assign (h.ev rfl)) rfl ?_; intro f h
                          refine s_nil ?_
                          refine hK96 _ _ ?_
                          refine wpIn_ret ?_
                          exact e_tmp rfl h s rfl (rfl)
                      · skip
                        refine c_region ?_
                        refine s_pure h (ru_field fld24_0 (h.ev rfl)) rfl ?_; intro f h
                        refine s_load_at1 (cell_of_has (Has.of_own s 7 rfl) 0 (rfl)) h one22 rfl rfl ?_; intro f h
                        refine s_len_sl 6 h s Try.underlying22 rfl rfl rfl ?_; intro f h
                        refine s_pure h (ru_val (.bool false) (ru_eql (h.ev rfl) (h.ev rfl)) (congrArg Value.bool (decide_eq_false (by have := of_decide_eq_false hu; omega)))) rfl ?_; intro f h
                        refine s_pure h (ru_move (h.ev rfl)) rfl ?_; intro f h
                        refine s_on h rfl rfl rfl ?_
                        refine s_pure h (ru_field fld24_1 (h.ev rfl)) rfl ?_; intro f h
                        refine s_on h rfl rfl rfl ?_
                        refine s_load_at1 (cell_of_has (Has.of_own s 7 rfl) 1 (rfl)) h one3 rfl rfl ?_; intro f h
                        refine s_on h rfl rfl rfl ?_
                        refine s_pure h (ru_val (.bool true) (ru_eql (h.ev rfl) (h.ev rfl)) (congrArg Value.bool hv)) rfl ?_; intro f h
                        refine s_pure h (ru_pick_f (h.ev rfl) (h.ev rfl)) rfl ?_; intro f h
                        refine s_pure h (ru_assign (h.ev rfl)) rfl ?_; intro f h
                        refine s_nil ?_
                        refine hK90 _ _ ?_
                        refine wpIn_cond_true (h.ev rfl) ?_
                        refine c_region ?_
                        refine s_pure h (ru_assign (h.ev rfl)) rfl ?_; intro f h
                        refine s_nil ?_
                        refine b_norm ?_
                        refine hK84 _ _ ?_
                        refine c_seq fun K97 hK97 => ?_
                        refine c_seq fun K98 hK98 => ?_
                        refine c_region ?_
                        refine s_pure h (ru_move (h.ev rfl)) rfl ?_; intro f h
                        refine s_pure h (ru_val (.bool true) (ru_neq (h.ev rfl) (h.ev rfl)) (congrArg Value.bool (decide_eq_true (by decide)))) rfl ?_; intro f h
                        refine s_nil ?_
                        refine hK98 _ _ ?_
                        refine wpIn_cond_true (h.ev rfl) ?_
                        refine c_seq fun K99 hK99 => ?_
                        refine c_region ?_
                        have hp1 : postE M9 fr tt dy = 8 := postE_8 hb9 (by omega) (by rw [hu, hv]; rfl)
                        obtain ⟨hp2, hp3⟩ := postM_no (m := M9) (f := fr) (t := tt) (d := dy) (by omega)
                        refine s_pure h (ru_move (h.ev rfl)) rfl ?_; intro f h
                        refine s_pure h (ru_move (h.ev rfl)) rfl ?_; intro f h
                        refine s_pure h (ru_val (.bool true) (ru_eql (h.ev rfl) (h.ev rfl)) (congrArg Value.bool (decide_eq_true (hp1)))) rfl ?_; intro f h
                        refine s_pure h (ru_move (h.ev rfl)) rfl ?_; intro f h
                        refine s_on h rfl rfl rfl ?_
                        refine s_pure h (ru_move (h.ev rfl)) rfl ?_; intro f h
                        refine s_on h rfl rfl rfl ?_
                        refine s_pure h (ru_val (.bool true) (ru_eql (h.ev rfl) (h.ev rfl)) (congrArg Value.bool (decide_eq_true (hp3)))) rfl ?_; intro f h
                        refine s_pure h (ru_pick_t (h.ev rfl) (h.ev rfl)) rfl ?_; intro f h
                        refine s_pure h (ru_move (h.ev rfl)) rfl ?_; intro f h
                        refine s_on h rfl rfl rfl ?_
                        refine s_load_row 4 h s row24 rfl rfl (rfl) rfl ?_; intro f h
                        refine s_on h rfl rfl rfl ?_
                        refine s_load_row 1 h s row24 rfl rfl (rfl) rfl ?_; intro f h
                        refine s_on h rfl rfl rfl ?_
                        refine s_call h s fnc13 (ret_val (.bool true) (like_any (postM M9 fr tt dy) (zMl) vp (.slice none 0 0) _ ((RdZ.of_own (s.getSl 5 rfl))) (rd_nil4 _) (by have := post_len (m := M9) (f := fr) (t := tt) (d := dy) hml; omega) (by decide)) (congrArg Value.bool (by rw [hp2]; exact like_self _))) rfl rfl ?_; intro f w1 v9 hT hE h s; obtain rfl := hT
                        refine s_pure h (ru_pick_t (h.ev rfl) (h.ev rfl)) rfl ?_; intro f h
                        refine s_pure h (ru_assign (h.ev rfl)) rfl ?_; intro f h
                        refine s_nil ?_
                        refine hK99 _ _ ?_
                        refine wpIn_ret ?_
                        refine t_ret ?_
                        exact e_tmp rfl h s rfl (rfl)
                    · skip
                      refine c_region ?_
                      refine s_pure h (ru_field fld24_0 (h.ev rfl)) rfl ?_; intro f h
                      refine s_load_at1 (cell_of_has (Has.of_own s 7 rfl) 0 (rfl)) h one22 rfl rfl ?_; intro f h
                      refine s_len_sl 6 h s Try.underlying22 rfl rfl rfl ?_; intro f h
                      refine s_pure h (ru_val (.bool true) (ru_eql (h.ev rfl) (h.ev rfl)) (congrArg Value.bool (decide_eq_true (by have := of_decide_eq_true hu; omega)))) rfl ?_; intro f h
                      refine s_pure h (ru_move (h.ev rfl)) rfl ?_; intro f h
                      refine s_off (b := false) h rfl rfl rfl rfl ?_; intro f h
                      refine s_off (b := false) h rfl rfl rfl rfl ?_; intro f h
                      refine s_off (b := false) h rfl rfl rfl rfl ?_; intro f h
                      refine s_pure h (ru_pick_t (h.ev rfl) (h.ev rfl)) rfl ?_; intro f h
                      refine s_pure h (ru_assign (h.ev rfl)) rfl ?_; intro f h
                      refine s_nil ?_
                      refine hK90 _ _ ?_
                      refine wpIn_cond_true (h.ev rfl) ?_
                      refine c_region ?_
                      refine s_pure h (ru_assign (h.ev rfl)) rfl ?_; intro f h
                      refine s_nil ?_
                      refine b_norm ?_
                      refine hK84 _ _ ?_
                      refine c_seq fun K100 hK100 => ?_
                      refine c_seq fun K101 hK101 => ?_
                      refine c_region ?_
                      refine s_pure h (ru_move (h.ev rfl)) rfl ?_; intro f h
                      refine s_pure h (ru_val (.bool true) (ru_neq (h.ev rfl) (h.ev rfl)) (congrArg Value.bool (decide_eq_true (by decide)))) rfl ?_; intro f h
                      refine s_nil ?_
                      refine hK101 _ _ ?_
                      refine wpIn_cond_true (h.ev rfl) ?_
                      refine c_seq fun K102 hK102 => ?_
                      refine c_region ?_
                      have hp1 : postE M9 fr tt dy = 8 := postE_8 hb9 (by omega) (by rw [hu]; rfl)
                      obtain ⟨hp2, hp3⟩ := postM_no (m := M9) (f := fr) (t := tt) (d := dy) (by omega)
                      refine s_pure h (ru_move (h.ev rfl)) rfl ?_; intro f h
                      refine s_pure h (ru_move (h.ev rfl)) rfl ?_; intro f h
                      refine s_pure h (ru_val (.bool true) (ru_eql (h.ev rfl) (h.ev rfl)) (congrArg Value.bool (decide_eq_true (hp1)))) rfl ?_; intro f h
                      refine s_pure h (ru_move (h.ev rfl)) rfl ?_; intro f h
                      refine s_on h rfl rfl rfl ?_
                      refine s_pure h (ru_move (h.ev rfl)) rfl ?_; intro f h
                      refine s_on h rfl rfl rfl ?_
                      refine s_pure h (ru_val (.bool true) (ru_eql (h.ev rfl) (h.ev rfl)) (congrArg Value.bool (decide_eq_true (hp3)))) rfl ?_; intro f h
                      refine s_pure h (ru_pick_t (h.ev rfl) (h.ev rfl)) rfl ?_; intro f h
                      refine s_pure h (ru_move (h.ev rfl)) rfl ?_; intro f h
                      refine s_on h rfl rfl rfl ?_
                      refine s_load_row 4 h s row24 rfl rfl (rfl) rfl ?_; intro f h
                      refine s_on h rfl rfl rfl ?_
                      refine s_load_row 1 h s row24 rfl rfl (rfl) rfl ?_; intro f h
                      refine s_on h rfl rfl rfl ?_
                      refine s_call h s fnc13 (ret_val (.bool true) (like_any (postM M9 fr tt dy) (zMl) vp (.slice none 0 0) _ ((RdZ.of_own (s.getSl 5 rfl))) (rd_nil4 _) (by have := post_len (m := M9) (f := fr) (t := tt) (d := dy) hml; omega) (by decide)) (congrArg Value.bool (by rw [hp2]; exact like_self _))) rfl rfl ?_; intro f w1 v9 hT hE h s; obtain rfl := hT
                      refine s_pure h (ru_pick_t (h.ev rfl) (h.ev rfl)) rfl ?_; intro f h
                      refine s_pure h (ru_assign (h.ev rfl)) rfl ?_; intro f h
                      refine s_nil ?_
                      refine hK102 _ _ ?_
                      refine wpIn_ret ?_
                      refine t_ret ?_
                      exact e_tmp rfl h s rfl (rfl)
                · skip
                  refine c_region ?_
                  refine s_pure h (ru_move (h.ev rfl)) rfl ?_; intro f h
                  refine s_pure h (ru_val (.bool false) (ru_lss (h.ev rfl) (h.ev rfl)) (congrArg Value.bool f0)) rfl ?_; intro f h
                  refine s_pure h (ru_move (h.ev rfl)) rfl ?_; intro f h
                  refine s_on h rfl rfl rfl ?_
                  refine s_pure h (ru_move (h.ev rfl)) rfl ?_; intro f h
                  refine s_on h rfl rfl rfl ?_
                  refine s_pure h (ru_val (.bool false) (ru_gtr (h.ev rfl) (h.ev rfl)) (congrArg Value.bool f1)) rfl ?_; intro f h
                  refine s_pure h (ru_pick_f (h.ev rfl) (h.ev rfl)) rfl ?_; intro f h
                  refine s_pure h (ru_move (h.ev rfl)) rfl ?_; intro f h
                  refine s_on h rfl rfl rfl ?_
                  refine s_pure h (ru_move (h.ev rfl)) rfl ?_; intro f h
                  refine s_on h rfl rfl rfl ?_
                  refine s_pure h (ru_val (.bool false) (ru_lss (h.ev rfl) (h.ev rfl)) (congrArg Value.bool t0)) rfl ?_; intro f h
                  refine s_pure h (ru_pick_f (h.ev rfl) (h.ev rfl)) rfl ?_; intro f h
                  refine s_pure h (ru_move (h.ev rfl)) rfl ?_; intro f h
                  refine s_on h rfl rfl rfl ?_
                  refine s_pure h (ru_move (h.ev rfl)) rfl ?_; intro f h
                  refine s_on h rfl rfl rfl ?_
                  refine s_pure h (ru_val (.bool true) (ru_gtr (h.ev rfl) (h.ev rfl)) (congrArg Value.bool t1)) rfl ?_; intro f h
                  refine s_pure h (ru_pick_f (h.ev rfl) (h.ev rfl)) rfl ?_; intro f h
                  refine s_pure h (ru_assign (h.ev rfl)) rfl ?_; intro f h
                  refine s_nil ?_
                  refine hK85 _ _ ?_
                  refine wpIn_cond_true (h.ev rfl) ?_
                  refine c_region ?_
                  refine s_pure h (ru_assign (h.ev rfl)) rfl ?_; intro f h
                  refine s_nil ?_
                  refine b_norm ?_
                  refine hK84 _ _ ?_
                  refine c_seq fun K103 hK103 => ?_
                  refine c_seq fun K104 hK104 => ?_
                  refine c_region ?_
                  refine s_pure h (ru_move (h.ev rfl)) rfl ?_; intro f h
                  refine s_pure h (ru_val (.bool true) (ru_neq (h.ev rfl) (h.ev rfl)) (congrArg Value.bool (decide_eq_true (by decide)))) rfl ?_; intro f h
                  refine s_nil ?_
                  refine hK104 _ _ ?_
                  refine wpIn_cond_true (h.ev rfl) ?_
                  refine c_seq fun K105 hK105 => ?_
                  refine c_region ?_
                  have hp1 : postE M9 fr tt dy = 1 := postE_1 (by rw [hr, adr_y _ f0 f1, adr_c _ t1]; rfl)
                  obtain ⟨hp2, hp3⟩ := postM_no (m := M9) (f := fr) (t := tt) (d := dy) (by omega)
                  refine s_pure h (ru_move (h.ev rfl)) rfl ?_; intro f h
                  refine s_pure h (ru_move (h.ev rfl)) rfl ?_; intro f h
                  refine s_pure h (ru_val (.bool true) (ru_eql (h.ev rfl) (h.ev rfl)) (congrArg Value.bool (decide_eq_true (hp1)))) rfl ?_; intro f h
                  refine s_pure h (ru_move (h.ev rfl)) rfl ?_; intro f h
                  refine s_on h rfl rfl rfl ?_
                  refine s_pure h (ru_move (h.ev rfl)) rfl ?_; intro f h
                  refine s_on h rfl rfl rfl ?_
                  refine s_pure h (ru_val (.bool true) (ru_eql (h.ev rfl) (h.ev rfl)) (congrArg Value.bool (decide_eq_true (hp3)))) rfl ?_; intro f h
                  refine s_pure h (ru_pick_t (h.ev rfl) (h.ev rfl)) rfl ?_; intro f h
                  refine s_pure h (ru_move (h.ev rfl)) rfl ?_; intro f h
                  refine s_on h rfl rfl rfl ?_
                  refine s_load_row 4 h s row24 rfl rfl (rfl) rfl ?_; intro f h
                  refine s_on h rfl rfl rfl ?_
                  refine s_load_row 1 h s row24 rfl rfl (rfl) rfl ?_; intro f h
                  refine s_on h rfl rfl rfl ?_
                  refine s_call h s fnc13 (ret_val (.bool true) (like_any (postM M9 fr tt dy) (zMl) vp (.slice none 0 0) _ ((RdZ.of_own (s.getSl 5 rfl))) (rd_nil4 _) (by have := post_len (m := M9) (f := fr) (t := tt) (d := dy) hml; omega) (by decide)) (congrArg Value.bool (by rw [hp2]; exact like_self _))) rfl rfl ?_; intro f w1 v9 hT hE h s; obtain rfl := hT
                  refine s_pure h (ru_pick_t (h.ev rfl) (h.ev rfl)) rfl ?_; intro f h
                  refine s_pure h (ru_assign (h.ev rfl)) rfl ?_; intro f h
                  refine s_nil ?_
                  refine hK105 _ _ ?_
                  refine wpIn_ret ?_
                  refine t_ret ?_
                  exact e_tmp rfl h s rfl (rfl)
              · skip
                refine c_region ?_
                refine s_pure h (ru_move (h.ev rfl)) rfl ?_; intro f h
                refine s_pure h (ru_val (.bool false) (ru_lss (h.ev rfl) (h.ev rfl)) (congrArg Value.bool f0)) rfl ?_; intro f h
                refine s_pure h (ru_move (h.ev rfl)) rfl ?_; intro f h
                refine s_on h rfl rfl rfl ?_
                refine s_pure h (ru_move (h.ev rfl)) rfl ?_; intro f h
                refine s_on h rfl rfl rfl ?_
                refine s_pure h (ru_val (.bool false) (ru_gtr (h.ev rfl) (h.ev rfl)) (congrArg Value.bool f1)) rfl ?_; intro f h
                refine s_pure h (ru_pick_f (h.ev rfl) (h.ev rfl)) rfl ?_; intro f h
                refine s_pure h (ru_move (h.ev rfl)) rfl ?_; intro f h
                refine s_on h rfl rfl rfl ?_
                refine s_pure h (ru_move (h.ev rfl)) rfl ?_; intro f h
                refine s_on h rfl rfl rfl ?_
                refine s_pure h (ru_val (.bool true) (ru_lss (h.ev rfl) (h.ev rfl)) (congrArg Value.bool t0)) rfl ?_; intro f h
                refine s_pure h (ru_pick_f (h.ev rfl) (h.ev rfl)) rfl ?_; intro f h
                refine s_pure h (ru_move (h.ev rfl)) rfl ?_; intro f h
                refine s_off (b := false) h rfl rfl rfl rfl ?_; intro f h
                refine s_off (b := false) h rfl rfl rfl rfl ?_; intro f h
                refine s_pure h (ru_pick_t (h.ev rfl) (h.ev rfl)) rfl ?_; intro f h
                refine s_pure h (ru_assign (h.ev rfl)) rfl ?_; intro f h
                refine s_nil ?_
                refine hK85 _ _ ?_
                refine wpIn_cond_true (h.ev rfl) ?_
                refine c_region ?_
                refine s_pure h (ru_assign (h.ev rfl)) rfl ?_; intro f h
                refine s_nil ?_
                refine b_norm ?_
                refine hK84 _ _ ?_
                refine c_seq fun K106 hK106 => ?_
                refine c_seq fun K107 hK107 => ?_
                refine c_region ?_
                refine s_pure h (ru_move (h.ev rfl)) rfl ?_; intro f h
                refine s_pure h (ru_val (.bool true) (ru_neq (h.ev rfl) (h.ev rfl)) (congrArg Value.bool (decide_eq_true (by decide)))) rfl ?_; intro f h
                refine s_nil ?_
                refine hK107 _ _ ?_
                refine wpIn_cond_true (h.ev rfl) ?_
                refine c_seq fun K108 hK108 => ?_
                refine c_region ?_
                have hp1 : postE M9 fr tt dy = 1 := postE_1 (by rw [hr, adr_y _ f0 f1, adr_b _ t0]; rfl)
                obtain ⟨hp2, hp3⟩ := postM_no (m := M9) (f := fr) (t := tt) (d := dy) (by omega)
                refine s_pure h (ru_move (h.ev rfl)) rfl ?_; intro f h
                refine s_pure h (ru_move (h.ev rfl)) rfl ?_; intro f h
                refine s_pure h (ru_val (.bool true) (ru_eql (h.ev rfl) (h.ev rfl)) (congrArg Value.bool (decide_eq_true (hp1)))) rfl ?_; intro f h
                refine s_pure h (ru_move (h.ev rfl)) rfl ?_; intro f h
                refine s_on h rfl rfl rfl ?_
                refine s_pure h (ru_move (h.ev rfl)) rfl ?_; intro f h
                refine s_on h rfl rfl rfl ?_
                refine s_pure h (ru_val (.bool true) (ru_eql (h.ev rfl) (h.ev rfl)) (congrArg Value.bool (decide_eq_true (hp3)))) rfl ?_; intro f h
                refine s_pure h (ru_pick_t (h.ev rfl) (h.ev rfl)) rfl ?_; intro f h
                refine s_pure h (ru_move (h.ev rfl)) rfl ?_; intro f h
                refine s_on h rfl rfl rfl ?_
                refine s_load_row 4 h s row24 rfl rfl (rfl) rfl ?_; intro f h
                refine s_on h rfl rfl rfl ?_
                refine s_load_row 1 h s row24 rfl rfl (rfl) rfl ?_; intro f h
                refine s_on h rfl rfl rfl ?_
                refine s_call h s fnc13 (ret_val (.bool true) (like_any (postM M9 fr tt dy) (zMl) vp (.slice none 0 0) _ ((RdZ.of_own (s.getSl 5 rfl))) (rd_nil4 _) (by have := post_len (m := M9) (f := fr) (t := tt) (d := dy) hml; omega) (by decide)) (congrArg Value.bool (by rw [hp2]; exact like_self _))) rfl rfl ?_; intro f w1 v9 hT hE h s; obtain rfl := hT
                refine s_pure h (ru_pick_t (h.ev rfl) (h.ev rfl)) rfl ?_; intro f h
                refine s_pure h (ru_assign (h.ev rfl)) rfl ?_; intro f h
                refine s_nil ?_
                refine hK108 _ _ ?_
                refine wpIn_ret ?_
                refine t_ret ?_
                exact e_tmp rfl h s rfl (rfl)
            · skip
              refine c_region ?_
              refine s_pure h (ru_move (h.ev rfl)) rfl ?_; intro f h
              refine s_pure h (ru_val (.bool false) (ru_lss (h.ev rfl) (h.ev rfl)) (congrArg Value.bool f0)) rfl ?_; intro f h
              refine s_pure h (ru_move (h.ev rfl)) rfl ?_; intro f h
              refine s_on h rfl rfl rfl ?_
              refine s_pure h (ru_move (h.ev rfl)) rfl ?_; intro f h
              refine s_on h rfl rfl rfl ?_
              refine s_pure h (ru_val (.bool true) (ru_gtr (h.ev rfl) (h.ev rfl)) (congrArg Value.bool f1)) rfl ?_; intro f h
              refine s_pure h (ru_pick_f (h.ev rfl) (h.ev rfl)) rfl ?_; intro f h
              refine s_pure h (ru_move (h.ev rfl)) rfl ?_; intro f h
              refine s_off (b := false) h rfl rfl rfl rfl ?_; intro f h
              refine s_off (b := false) h rfl rfl rfl rfl ?_; intro f h
              refine s_pure h (ru_pick_t (h.ev rfl) (h.ev rfl)) rfl ?_; intro f h
              refine s_pure h (ru_move (h.ev rfl)) rfl ?_; intro f h
              refine s_off (b := false) h rfl rfl rfl rfl ?_; intro f h
              refine s_off (b := false) h rfl rfl rfl rfl ?_; intro f h
              refine s_pure h (ru_pick_t (h.ev rfl) (h.ev rfl)) rfl ?_; intro f h
              refine s_pure h (ru_assign (h.ev rfl)) rfl ?_; intro f h
              refine s_nil ?_
              refine hK85 _ _ ?_
              refine wpIn_cond_true (h.ev rfl) ?_
              refine c_region ?_
              refine s_pure h (ru_assign (h.ev rfl)) rfl ?_; intro f h
              refine s_nil ?_
              refine b_norm ?_
              refine hK84 _ _ ?_
              refine c_seq fun K109 hK109 => ?_
              refine c_seq fun K110 hK110 => ?_
              refine c_region ?_
              refine s_pure h (ru_move (h.ev rfl)) rfl ?_; intro f h
              refine s_pure h (ru_val (.bool true) (ru_neq (h.ev rfl) (h.ev rfl)) (congrArg Value.bool (decide_eq_true (by decide)))) rfl ?_; intro f h
              refine s_nil ?_
              refine hK110 _ _ ?_
              refine wpIn_cond_true (h.ev rfl) ?_
              refine c_seq fun K111 hK111 => ?_
              refine c_region ?_
              have hp1 : postE M9 fr tt dy = 1 := postE_1 (by rw [hr, adr_c _ f1]; rfl)
              obtain ⟨hp2, hp3⟩ := postM_no (m := M9) (f := fr) (t := tt) (d := dy) (by omega)
              refine s_pure h (ru_move (h.ev rfl)) rfl ?_; intro f h
              refine s_pure h (ru_move (h.ev rfl)) rfl ?_; intro f h
              refine s_pure h (ru_val (.bool true) (ru_eql (h.ev rfl) (h.ev rfl)) (congrArg Value.bool (decide_eq_true (hp1)))) rfl ?_; intro f h
              refine s_pure h (ru_move (h.ev rfl)) rfl ?_; intro f h
              refine s_on h rfl rfl rfl ?_
              refine s_pure h (ru_move (h.ev rfl)) rfl ?_; intro f h
              refine s_on h rfl rfl rfl ?_
              refine s_pure h (ru_val (.bool true) (ru_eql (h.ev rfl) (h.ev rfl)) (congrArg Value.bool (decide_eq_true (hp3)))) rfl ?_; intro f h
              refine s_pure h (ru_pick_t (h.ev rfl) (h.ev rfl)) rfl ?_; intro f h
              refine s_pure h (ru_move (h.ev rfl)) rfl ?_; intro f h
              refine s_on h rfl rfl rfl ?_
              refine s_load_row 4 h s row24 rfl rfl (rfl) rfl ?_; intro f h
              refine s_on h rfl rfl rfl ?_
              refine s_load_row 1 h s row24 rfl rfl (rfl) rfl ?_; intro f h
              refine s_on h rfl rfl rfl ?_
              refine s_call h s fnc13 (ret_val (.bool true) (like_any (postM M9 fr tt dy) (zMl) vp (.slice none 0 0) _ ((RdZ.of_own (s.getSl 5 rfl))) (rd_nil4 _) (by have := post_len (m := M9) (f := fr) (t := tt) (d := dy) hml; omega) (by decide)) (congrArg Value.bool (by rw [hp2]; exact like_self _))) rfl rfl ?_; intro f w1 v9 hT hE h s; obtain rfl := hT
              refine s_pure h (ru_pick_t (h.ev rfl) (h.ev rfl)) rfl ?_; intro f h
              refine s_pure h (ru_assign (h.ev rfl)) rfl ?_; intro f h
              refine s_nil ?_
              refine hK111 _ _ ?_
              refine wpIn_ret ?_
              refine t_ret ?_
              exact e_tmp rfl h s rfl (rfl)
          · skip
            refine c_region ?_
            refine s_pure h (ru_move (h.ev rfl)) rfl ?_; intro f h
            refine s_pure h (ru_val (.bool true) (ru_lss (h.ev rfl) (h.ev rfl)) (congrArg Value.bool f0)) rfl ?_; intro f h
            refine s_pure h (ru_move (h.ev rfl)) rfl ?_; intro f h
            refine s_off (b := false) h rfl rfl rfl rfl ?_; intro f h
            refine s_off (b := false) h rfl rfl rfl rfl ?_; intro f h
            refine s_pure h (ru_pick_t (h.ev rfl) (h.ev rfl)) rfl ?_; intro f h
            refine s_pure h (ru_move (h.ev rfl)) rfl ?_; intro f h
            refine s_off (b := false) h rfl rfl rfl rfl ?_; intro f h
            refine s_off (b := false) h rfl rfl rfl rfl ?_; intro f h
            refine s_pure h (ru_pick_t (h.ev rfl) (h.ev rfl)) rfl ?_; intro f h
            refine s_pure h (ru_move (h.ev rfl)) rfl ?_; intro f h
            refine s_off (b := false) h rfl rfl rfl rfl ?_; intro f h
            refine s_off (b := false) h rfl rfl rfl rfl ?_; intro f h
            refine s_pure h (ru_pick_t (h.ev rfl) (h.ev rfl)) rfl ?_; intro f h
            refine s_pure h (ru_assign (h.ev rfl)) rfl ?_; intro f h
            refine s_nil ?_
            refine hK85 _ _ ?_
            refine wpIn_cond_true (h.ev rfl) ?_
            refine c_region ?_
            refine s_pure h (ru_assign (h.ev rfl)) rfl ?_; intro f h
            refine s_nil ?_
            refine b_norm ?_
            refine hK84 _ _ ?_
            refine c_seq fun K112 hK112 => ?_
            refine c_seq fun K113 hK113 => ?_
            refine c_region ?_
            refine s_pure h (ru_move (h.ev rfl)) rfl ?_; intro f h
            refine s_pure h (ru_val (.bool true) (ru_neq (h.ev rfl) (h.ev rfl)) (congrArg Value.bool (decide_eq_true (by decide)))) rfl ?_; intro f h
            refine s_nil ?_
            refine hK113 _ _ ?_
            refine wpIn_cond_true (h.ev rfl) ?_
            refine c_seq fun K114 hK114 => ?_
            refine c_region ?_
            have hp1 : postE M9 fr tt dy = 1 := postE_1 (by rw [hr, adr_b _ f0]; rfl)
            obtain ⟨hp2, hp3⟩ := postM_no (m := M9) (f := fr) (t := tt) (d := dy) (by omega)
            refine s_pure h (ru_move (h.ev rfl)) rfl ?_; intro f h
            refine s_pure h (ru_move (h.ev rfl)) rfl ?_; intro f h
            refine s_pure h (ru_val (.bool true) (ru_eql (h.ev rfl) (h.ev rfl)) (congrArg Value.bool (decide_eq_true (hp1)))) rfl ?_; intro f h
            refine s_pure h (ru_move (h.ev rfl)) rfl ?_; intro f h
            refine s_on h rfl rfl rfl ?_
            refine s_pure h (ru_move (h.ev rfl)) rfl ?_; intro f h
            refine s_on h rfl rfl rfl ?_
            refine s_pure h (ru_val (.bool true) (ru_eql (h.ev rfl) (h.ev rfl)) (congrArg Value.bool (decide_eq_true (hp3)))) rfl ?_; intro f h
            refine s_pure h (ru_pick_t (h.ev rfl) (h.ev rfl)) rfl ?_; intro f h
            refine s_pure h (ru_move (h.ev rfl)) rfl ?_; intro f h
            refine s_on h rfl rfl rfl ?_
            refine s_load_row 4 h s row24 rfl rfl (rfl) rfl ?_; intro f h
            refine s_on h rfl rfl rfl ?_
            refine s_load_row 1 h s row24 rfl rfl (rfl) rfl ?_; intro f h
            refine s_on h rfl rfl rfl ?_
            refine s_call h s fnc13 (ret_val (.bool true) (like_any (postM M9 fr tt dy) (zMl) vp (.slice none 0 0) _ ((RdZ.of_own (s.getSl 5 rfl))) (rd_nil4 _) (by have := post_len (m := M9) (f := fr) (t := tt) (d := dy) hml; omega) (by decide)) (congrArg Value.bool (by rw [hp2]; exact like_self _))) rfl rfl ?_; intro f w1 v9 hT hE h s; obtain rfl := hT
            refine s_pure h (ru_pick_t (h.ev rfl) (h.ev rfl)) rfl ?_; intro f h
            refine s_pure h (ru_assign (h.ev rfl)) rfl ?_; intro f h
            refine s_nil ?_
            refine hK114 _ _ ?_
            refine wpIn_ret ?_
            refine t_ret ?_
            exact e_tmp rfl h s rfl (rfl)
        · skip
          refine c_region ?_
          have hq1 : passE M9 tk = 1 := passE_1 (by rw [hr, ht]; rfl)
          have hq2 := passM_no (m := M9) (t := tk) (by omega)
          refine s_pure h (ru_move (h.ev rfl)) rfl ?_; intro f h
          refine s_pure h (ru_val (.bool true) (ru_lss (h.ev rfl) (h.ev rfl)) (congrArg Value.bool ht)) rfl ?_; intro f h
          refine s_pure h (ru_move (h.ev rfl)) rfl ?_; intro f h
          refine s_on h rfl rfl rfl ?_
          refine s_pure h (ru_move (h.ev rfl)) rfl ?_; intro f h
          refine s_on h rfl rfl rfl ?_
          refine s_pure h (ru_val (.bool false) (ru_neq (h.ev rfl) (h.ev rfl)) (congrArg Value.bool (decide_eq_false (fun h9 => h9 hq1)))) rfl ?_; intro f h
          refine s_on h rfl rfl rfl ?_
          refine s_pure h (ru_move (h.ev rfl)) rfl ?_; intro f h
          refine s_on h rfl rfl rfl ?_
          refine s_load_row 2 h s row24 rfl rfl (rfl) rfl ?_; intro f h
          refine s_on h rfl rfl rfl ?_
          refine s_load_row 1 h s row24 rfl rfl (rfl) rfl ?_; intro f h
          refine s_on h rfl rfl rfl ?_
          refine s_call h s fnc13 (ret_val (.bool true) (like_any (passM M9 tk) (zMl) vq (.slice none 0 0) _ ((RdZ.of_own (s.getSl 3 rfl))) (rd_nil4 _) (by have := pass_len (m := M9) (t := tk) hml; omega) (by decide)) (congrArg Value.bool (by rw [hq2]; exact like_self _))) rfl rfl ?_; intro f w1 v9 hT hE h s; obtain rfl := hT
          refine s_on h rfl rfl rfl ?_
          refine s_pure h (ru_val (.bool false) (ru_not (h.ev rfl)) rfl) rfl ?_; intro f h
          refine s_on h rfl rfl rfl ?_
          refine s_pure h (ru_pick_f (h.ev rfl) (h.ev rfl)) rfl ?_; intro f h
          refine s_pure h (ru_pick_t (h.ev rfl) (h.ev rfl)) rfl ?_; intro f h
          refine s_pure h (ru_move (h.ev rfl)) rfl ?_; intro f h
          refine s_on h rfl rfl rfl ?_
          refine s_pure h (ru_move (h.ev rfl)) rfl ?_; intro f h
          refine s_on h rfl rfl rfl ?_
          refine s_pure h (ru_val (.bool false) (ru_geq (h.ev rfl) (h.ev rfl)) (congrArg Value.bool (decide_eq_false (by have := of_decide_eq_true ht; omega)))) rfl ?_; intro f h
          refine s_on h rfl rfl rfl ?_
          refine s_pure h (ru_move (h.ev rfl)) rfl ?_; intro f h
          refine s_off (b := true) h rfl rfl rfl rfl ?_; intro f h
          refine s_off (b := true) h rfl rfl rfl rfl ?_; intro f h
          refine s_off (b := true) h rfl rfl rfl rfl ?_; intro f h
          refine s_none h rfl rfl rfl rfl ?_; intro f h
          refine s_none h rfl rfl rfl rfl ?_; intro f h
          refine s_none h rfl rfl rfl rfl ?_; intro f h
          refine s_none h rfl rfl rfl rfl ?_; intro f h
          refine s_off (b := true) h rfl rfl rfl rfl ?_; intro f h
          refine s_on h rfl rfl rfl ?_
          refine s_pure h (ru_pick_f (h.ev rfl) (h.ev rfl)) rfl ?_; intro f h
          refine s_pure h (ru_pick_f (h.ev rfl) (h.ev rfl)) rfl ?_; intro f h
          refine s_nil ?_
          refine hK82 _ _ ?_
          refine wpIn_cond_false (h.ev rfl) ?_
          refine wpIn_skip ?_
          refine hK81 _ _ ?_
          refine c_seq fun K115 hK115 => ?_
          refine c_region ?_
          refine s_pure h (ru_assign (h.ev rfl)) rfl ?_; intro f h
          refine s_nil ?_
          refine hK115 _ _ ?_
          refine c_seq fun K116 hK116 => ?_
          refine wpIn_block ?_
          refine c_seq fun K117 hK117 => ?_
          cases f0 : (decide (fr < 0) : Bool)
          · skip
            cases f1 : (decide (31 < fr) : Bool)
            · skip
              cases t0 : (decide (tt < 0) : Bool)
              · skip
                cases t1 : (decide (31 < tt) : Bool)
                · skip
                  refine c_region ?_
                  refine s_pure h (ru_move (h.ev rfl)) rfl ?_; intro f h
                  refine s_pure h (ru_val (.bool false) (ru_lss (h.ev rfl) (h.ev rfl)) (congrArg Value.bool f0)) rfl ?_; intro f h
                  refine s_pure h (ru_move (h.ev rfl)) rfl ?_; intro f h
                  refine s_on h rfl rfl rfl ?_
                  refine s_pure h (ru_move (h.ev rfl)) rfl ?_; intro f h
                  refine s_on h rfl rfl rfl ?_
                  refine s_pure h (ru_val (.bool false) (ru_gtr (h.ev rfl) (h.ev rfl)) (congrArg Value.bool f1)) rfl ?_; intro f h
                  refine s_pure h (ru_pick_f (h.ev rfl) (h.ev rfl)) rfl ?_; intro f h
                  refine s_pure h (ru_move (h.ev rfl)) rfl ?_; intro f h
                  refine s_on h rfl rfl rfl ?_
                  refine s_pure h (ru_move (h.ev rfl)) rfl ?_; intro f h
                  refine s_on h rfl rfl rfl ?_
                  refine s_pure h (ru_val (.bool false) (ru_lss (h.ev rfl) (h.ev rfl)) (congrArg Value.bool t0)) rfl ?_; intro f h
                  refine s_pure h (ru_pick_f (h.ev rfl) (h.ev rfl)) rfl ?_; intro f h
                  refine s_pure h (ru_move (h.ev rfl)) rfl ?_; intro f h
                  refine s_on h rfl rfl rfl ?_
                  refine s_pure h (ru_move (h.ev rfl)) rfl ?_; intro f h
                  refine s_on h rfl rfl rfl ?_
                  refine s_pure h (ru_val (.bool false) (ru_gtr (h.ev rfl) (h.ev rfl)) (congrArg Value.bool t1)) rfl ?_; intro f h
                  refine s_pure h (ru_pick_f (h.ev rfl) (h.ev rfl)) rfl ?_; intro f h
                  refine s_pure h (ru_assign (h.ev rfl)) rfl ?_; intro f h
                  refine s_nil ?_
                  refine hK117 _ _ ?_
                  refine wpIn_cond_false (h.ev rfl) ?_
                  refine c_seq fun K118 hK118 => ?_
                  refine c_region ?_
                  refine s_pure h (ru_move (h.ev rfl)) rfl ?_; intro f h
                  refine s_pure h (ru_len_str Try.underlying9 (h.ev rfl)) rfl ?_; intro f h
                  refine s_pure h (ru_gtr (h.ev rfl) (h.ev rfl)) rfl ?_; intro f h
                  refine s_pure h (ru_assign (h.ev rfl)) rfl ?_; intro f h
                  refine s_nil ?_
                  refine hK118 _ _ ?_
                  refine c_cond h rfl (fun hc => ?_) (fun hc => ?_)
                  · replace hc := of_decide_eq_true hc
                    have hb9 : (!rightL M9 || (!adr fr || !adr tt)) = false := by rw [hr, adr_y _ f0 f1, adr_y _ t0 t1]; rfl
                    refine c_region ?_
                    refine s_pure h (ru_assign (h.ev rfl)) rfl ?_; intro f h
                    refine s_nil ?_
                    refine b_norm ?_
                    refine hK116 _ _ ?_
                    refine c_seq fun K119 hK119 => ?_
                    refine c_seq fun K120 hK120 => ?_
                    refine c_region ?_
                    refine s_pure h (ru_move (h.ev rfl)) rfl ?_; intro f h
                    refine s_pure h (ru_val (.bool true) (ru_neq (h.ev rfl) (h.ev rfl)) (congrArg Value.bool (decide_eq_true (by decide)))) rfl ?_; intro f h
                    refine s_nil ?_
                    refine hK120 _ _ ?_
                    refine wpIn_cond_true (h.ev rfl) ?_
                    refine c_seq fun K121 hK121 => ?_
                    refine c_region ?_
                    have hp1 : postE M9 fr tt dy = 2 := postE_2 hb9 (by omega)
                    obtain ⟨hp2, hp3⟩ := postM_no (m := M9) (f := fr) (t := tt) (d := dy) (by omega)
                    refine s_pure h (ru_move (h.ev rfl)) rfl ?_; intro f h
                    refine s_pure h (ru_move (h.ev rfl)) rfl ?_; intro f h
                    refine s_pure h (ru_val (.bool true) (ru_eql (h.ev rfl) (h.ev rfl)) (congrArg Value.bool (decide_eq_true (hp1)))) rfl ?_; intro f h
                    refine s_pure h (ru_move (h.ev rfl)) rfl ?_; intro f h
                    refine s_on h rfl rfl rfl ?_
                    refine s_pure h (ru_move (h.ev rfl)) rfl ?_; intro f h
                    refine s_on h rfl rfl rfl ?_
                    refine s_pure h (ru_val (.bool true) (ru_eql (h.ev rfl) (h.ev rfl)) (congrArg Value.bool (decide_eq_true (hp3)))) rfl ?_; intro f h
                    refine s_pure h (ru_pick_t (h.ev rfl) (h.ev rfl)) rfl ?_; intro f h
                    refine s_pure h (ru_move (h.ev rfl)) rfl ?_; intro f h
                    refine s_on h rfl rfl rfl ?_
                    refine s_load_row 4 h s row24 rfl rfl (rfl) rfl ?_; intro f h
                    refine s_on h rfl rfl rfl ?_
                    refine s_load_row 1 h s row24 rfl rfl (rfl) rfl ?_; intro f h
                    refine s_on h rfl rfl rfl ?_
                    refine s_call h s fnc13 (ret_val (.bool true) (like_any (postM M9 fr tt dy) (zMl) vp (.slice none 0 0) _ ((RdZ.of_own (s.getSl 5 rfl))) (rd_nil4 _) (by have := post_len (m := M9) (f := fr) (t := tt) (d := dy) hml; omega) (by decide)) (congrArg Value.bool (by rw [hp2]; exact like_self _))) rfl rfl ?_; intro f w1 v9 hT hE h s; obtain rfl := hT
                    refine s_pure h (ru_pick_t (h.ev rfl) (h.ev rfl)) rfl ?_; intro f h
                    refine s_pure h (ru_assign (h.ev rfl)) rfl ?_; intro f h
                    refine s_nil ?_
                    refine hK121 _ _ ?_
                    refine wpIn_ret ?_
                    refine t_ret ?_
                    exact e_tmp rfl h s rfl (rfl)
                  · have hsz := of_decide_eq_false hc
                    have hb9 : (!rightL M9 || (!adr fr || !adr tt)) = false := by rw [hr, adr_y _ f0 f1, adr_y _ t0 t1]; rfl
                    refine c_seq fun K122 hK122 => ?_
                    cases hu : (decide (M9.l.length = 64) : Bool)
                    · skip
                      cases hv : (decide (M9.last = 1099511627776) : Bool)
                      · skip
                        refine c_region ?_
                        refine s_pure h (ru_field fld24_0 (h.ev rfl)) rfl ?_; intro f h
                        refine s_load_at1 (cell_of_has (Has.of_own s 7 rfl) 0 (rfl)) h one22 rfl rfl ?_; intro f h
                        refine s_len_sl 6 h s Try.underlying22 rfl rfl rfl ?_; intro f h
                        refine s_pure h (ru_val (.bool false) (ru_eql (h.ev rfl) (h.ev rfl)) (congrArg Value.bool (decide_eq_false (by have := of_decide_eq_false hu; omega)))) rfl ?_; intro f h
                        refine s_pure h (ru_move (h.ev rfl)) rfl ?_; intro f h
                        refine s_on h rfl rfl rfl ?_
                        refine s_pure h (ru_field fld24_1 (h.ev rfl)) rfl ?_; intro f h
                        refine s_on h rfl rfl rfl ?_
                        refine s_load_at1 (cell_of_has (Has.of_own s 7 rfl) 1 (rfl)) h one3 rfl rfl ?_; intro f h
                        refine s_on h rfl rfl rfl ?_
                        refine s_pure h (ru_val (.bool false) (ru_eql (h.ev rfl) (h.ev rfl)) (congrArg Value.bool hv)) rfl ?_; intro f h
                        refine s_pure h (ru_pick_f (h.ev rfl) (h.ev rfl)) rfl ?_; intro f h
                        refine s_pure h (ru_assign (h.ev rfl)) rfl ?_; intro f h
                        refine s_nil ?_
                        refine hK122 _ _ ?_
                        refine wpIn_cond_false (h.ev rfl) ?_
                        refine wpIn_skip ?_
                        refine b_norm ?_
                        refine hK116 _ _ ?_
                        refine c_seq fun K123 hK123 => ?_
                        refine c_seq fun K124 hK124 => ?_
                        refine c_region ?_
                        refine s_pure h (ru_move (h.ev rfl)) rfl ?_; intro f h
                        refine s_pure h (ru_val (.bool false) (ru_neq (h.ev rfl) (h.ev rfl)) (congrArg Value.bool (decide_eq_false (by decide)))) rfl ?_; intro f h
                        refine s_nil ?_
                        refine hK124 _ _ ?_
                        refine wpIn_cond_false (h.ev rfl) ?_
                        refine wpIn_skip ?_
                        refine hK123 _ _ ?_
                        refine c_seq fun K125 hK125 => ?_
                        refine c_region ?_
                        refine s_load_row 7 h s row24 rfl rfl (rfl) rfl ?_; intro f h
                        refine s_store_row 0 h s row24 rfl rfl rfl (rfl) (rfl) (mlArr_ones _ _ (own_one (s.getSl 6 rfl))) ?_; intro w1 s
                        refine s_nil ?_
                        refine hK125 _ _ ?_
                        refine c_seq fun K126 hK126 => ?_
                        refine c_region ?_
                        refine s_pure h (ru_field fld24_1 (h.ev rfl)) rfl ?_; intro f h
                        refine s_load_at1 (cell_of_has (Has.of_own s 0 rfl) 1 (rfl)) h one3 rfl rfl ?_; intro f h
                        refine s_pure h (ru_add (h.ev rfl) (h.ev rfl) (by omega)) rfl ?_; intro f h
                        refine s_pure h (ru_field fld24_1 (h.ev rfl)) rfl ?_; intro f h
                        refine s_store_one 0 h s one3 rfl rfl rfl (by show _ < 3; decide) (rfl) ?_; intro w1 s
                        replace s := s.recell (D := mlArr { M9 with last := M9.last + 1 } vf) 0 rfl rfl
                        refine s_nil ?_
                        refine hK126 _ _ ?_
                        refine c_seq fun K127 hK127 => ?_
                        have hbs := s.ext.le
                        refine' c_reg2 11 [1, 4, 6, 7, 8, 12] [] [[], [], [1], [0, 1, 2], [], [4], [], [], [], [4, 5, 6, 7, 8], [4, 5, 6, 7, 8, 9], [0, 1, 2, 3, 4, 5, 6, 7, 8, 9, 10], [0, 1, 2, 3, 4, 5, 6, 7, 8, 9, 10, 11], [0, 1, 2, 3, 4, 5, 6, 7, 8, 9, 10, 11, 12]] ((Emp w1.heap.size 35) :: is _ :: is _ :: (fun v w9 => Owns w9 w1.heap.size 35 4 v (M9.l).length (ltCells (M9.l))) :: is _ :: is _ :: is _ :: is _ :: is _ :: is _ :: (fun v w9 => RdZ w9 v 4 1 ((ltArr (M9.last + 1, fr, tt, dy)).toList)) :: is undef :: is _ :: is undef :: []) (fun _ => True) h s (by kernel_rfl) (by kernel_rfl) (by kernel_rfl) (by kernel_rfl) rfl (fun _ _ h _ => h) (trivial) ⟨⟨_, rfl⟩, ⟨_, rfl⟩, ⟨_, rfl⟩, ⟨_, rfl⟩, ⟨_, rfl⟩, ⟨_, rfl⟩, trivial⟩ ⟨Emp.mono _ _, is_mono _, is_mono _, ownsM _ _ _ _ _, is_mono _, is_mono _, is_mono _, is_mono _, is_mono _, is_mono _, RdZ.mono, is_mono _, is_mono _, is_mono _, trivial⟩ (And.intro ?_ (And.intro ?_ (And.intro ?_ (And.intro ?_ (And.intro ?_ (And.intro ?_ (And.intro ?_ (And.intro ?_ (And.intro ?_ (And.intro ?_ (And.intro ?_ (And.intro ?_ (And.intro ?_ (And.intro ?_ (trivial))))))))))))))) ?_
                        rotate_left 9
                        · refine obF_in 160 rfl (by decide) (by decide) ?_
                          intro f9 w2 hE hs hd9 hl
                          have h := fin_slot [] hs hd9 (holds_lk trivial)
                          have s := s.more hE
                          have z := St.start w2
                          refine s_bslice0 (base := w1.heap.size) h Try.underlying22 elm35 hE.le rfl ?_; intro f w3 v3 h hE3 hm3
                          refine s_nil ?_
                          exact ⟨by rw [h.holds 160 _ rfl]; exact hm3, hE3, fun h9 => absurd h9 (by decide)⟩
                        · refine obH_in 161 rfl (by decide) ?_
                          intro f9 w2 hE hs hl
                          have e5 : f9.tmps.getD 5 undef = _ := sx_old hl 5 (by kernel_rfl) (by kernel_rfl) (h.holds 5 _ rfl)
                          have h := fin_slot [(5, _)] hs rfl (holds_lk ⟨e5, trivial⟩)
                          refine s_pure h (ru_field fld24_0 (h.ev rfl)) rfl ?_; intro f h
                          refine s_nil ?_
                          have e9 := h.holds 161 _ rfl
                          refine ⟨?_, rfl⟩
                          refine e9.trans ?_
                          exact rfl
                        · refine obF_in 162 rfl (by decide) (by decide) ?_
                          intro f9 w2 hE hs hd9 hl
                          have e161 : f9.tmps.getD 161 undef = _ := sx_get hl 161 1 (by kernel_rfl) (by kernel_rfl)
                          have h := fin_slot [(161, _)] hs hd9 (holds_lk ⟨e161, trivial⟩)
                          have s := s.more hE
                          have z := St.start w2
                          refine s_load_at1 (cell_of_has (Has.of_own s 7 rfl) 0 (rfl)) h one22 rfl rfl ?_; intro f h
                          refine s_nil ?_
                          have e9 := h.holds 162 _ rfl
                          refine ⟨?_, Ext.refl _, fun h9 => absurd h9 (by decide)⟩
                          refine e9.trans ?_
                          exact rfl
                        · refine obF_in 163 rfl (by decide) (by decide) ?_
                          intro f9 w2 hE hs hd9 hl
                          obtain ⟨u160, hu160⟩ : ∃ v, f9.tmps.getD 160 undef = v := ⟨_, rfl⟩
                          have e160 : (Emp w1.heap.size 35) u160 w2 := by rw [← hu160]; exact sx_get hl 160 0 (by kernel_rfl) (by kernel_rfl)
                          have e162 : f9.tmps.getD 162 undef = _ := sx_get hl 162 2 (by kernel_rfl) (by kernel_rfl)
                          have h := fin_slot [(160, u160), (162, _)] hs hd9 (holds_lk ⟨hu160, e162, trivial⟩)
                          have s := s.more hE
                          have z := St.start w2
                          refine s_append_emp (base := w1.heap.size) e160 (RdZ.of_own (s.getSl 6 rfl)) h Try.underlying22 elm35 rfl rfl hE.le (ltCells_ones _) (by unfold maxLen; omega) (by omega) rfl ?_; intro f w3 v3 h hE3 hO
                          refine s_nil ?_
                          exact ⟨by rw [h.holds 163 _ rfl]; exact hO, hE3, fun h9 => absurd h9 (by decide)⟩
                        · refine obH_in 164 rfl (by decide) ?_
                          intro f9 w2 hE hs hl
                          have e17 : f9.tmps.getD 17 undef = _ := sx_old hl 17 (by kernel_rfl) (by kernel_rfl) (h.holds 17 _ rfl)
                          have h := fin_slot [(17, _)] hs rfl (holds_lk ⟨e17, trivial⟩)
                          refine s_pure h (ru_field fld24_1 (h.ev rfl)) rfl ?_; intro f h
                          refine s_nil ?_
                          have e9 := h.holds 164 _ rfl
                          refine ⟨?_, rfl⟩
                          refine e9.trans ?_
                          exact rfl
                        · refine obF_in 165 rfl (by decide) (by decide) ?_
                          intro f9 w2 hE hs hd9 hl
                          have e164 : f9.tmps.getD 164 undef = _ := sx_get hl 164 4 (by kernel_rfl) (by kernel_rfl)
                          have h := fin_slot [(164, _)] hs hd9 (holds_lk ⟨e164, trivial⟩)
                          have s := s.more hE
                          have z := St.start w2
                          refine s_load_at1 (cell_of_has (Has.of_own s 0 rfl) 1 (rfl)) h one3 rfl rfl ?_; intro f h
                          refine s_nil ?_
                          have e9 := h.holds 165 _ rfl
                          refine ⟨?_, Ext.refl _, fun h9 => absurd h9 (by decide)⟩
                          refine e9.trans ?_
                          exact rfl
                        · refine obH_in 166 rfl (by decide) ?_
                          intro f9 w2 hE hs hl
                          have e1 : f9.tmps.getD 1 undef = _ := sx_old hl 1 (by kernel_rfl) (by kernel_rfl) (h.holds 1 _ rfl)
                          have h := fin_slot [(1, _)] hs rfl (holds_lk ⟨e1, trivial⟩)
                          refine s_pure h (ru_move (h.ev rfl)) rfl ?_; intro f h
                          refine s_nil ?_
                          have e9 := h.holds 166 _ rfl
                          refine ⟨?_, rfl⟩
                          refine e9.trans ?_
                          exact rfl
                        · refine obH_in 167 rfl (by decide) ?_
                          intro f9 w2 hE hs hl
                          have e2 : f9.tmps.getD 2 undef = _ := sx_old hl 2 (by kernel_rfl) (by kernel_rfl) (h.holds 2 _ rfl)
                          have h := fin_slot [(2, _)] hs rfl (holds_lk ⟨e2, trivial⟩)
                          refine s_pure h (ru_move (h.ev rfl)) rfl ?_; intro f h
                          refine s_nil ?_
                          have e9 := h.holds 167 _ rfl
                          refine ⟨?_, rfl⟩
                          refine e9.trans ?_
                          exact rfl
                        · refine obH_in 168 rfl (by decide) ?_
                          intro f9 w2 hE hs hl
                          have e4 : f9.tmps.getD 4 undef = _ := sx_old hl 4 (by kernel_rfl) (by kernel_rfl) (h.holds 4 _ rfl)
                          have h := fin_slot [(4, _)] hs rfl (holds_lk ⟨e4, trivial⟩)
                          refine s_pure h (ru_move (h.ev rfl)) rfl ?_; intro f h
                          refine s_nil ?_
                          have e9 := h.holds 168 _ rfl
                          refine ⟨?_, rfl⟩
                          refine e9.trans ?_
                          exact rfl
                        · refine obF_in 169 rfl (by decide) (by decide) ?_
                          intro f9 w2 hE hs hd9 hl
                          have e165 : f9.tmps.getD 165 undef = _ := sx_get hl 165 5 (by kernel_rfl) (by kernel_rfl)
                          have e166 : f9.tmps.getD 166 undef = _ := sx_get hl 166 6 (by kernel_rfl) (by kernel_rfl)
                          have e167 : f9.tmps.getD 167 undef = _ := sx_get hl 167 7 (by kernel_rfl) (by kernel_rfl)
                          have e168 : f9.tmps.getD 168 undef = _ := sx_get hl 168 8 (by kernel_rfl) (by kernel_rfl)
                          have h := fin_slot [(165, _), (166, _), (167, _), (168, _)] hs hd9 (holds_lk ⟨e165, e166, e167, e168, trivial⟩)
                          have s := s.more hE
                          have z := St.start w2
                          refine s_pure h (ru_build_lt sttL (h.ev rfl) (h.ev rfl) (h.ev rfl) (h.ev rfl)) rfl ?_; intro f h
                          refine s_nil ?_
                          have e9 := h.holds 169 _ rfl
                          refine ⟨?_, Ext.refl _, fun h9 => absurd h9 (by decide)⟩
                          refine e9.trans ?_
                          exact rfl
                        · refine obF_in 170 rfl (by decide) (by decide) ?_
                          intro f9 w2 hE hs hd9 hl
                          have e169 : f9.tmps.getD 169 undef = _ := sx_get hl 169 9 (by kernel_rfl) (by kernel_rfl)
                          have h := fin_slot [(169, _)] hs hd9 (holds_lk ⟨e169, trivial⟩)
                          have s := s.more hE
                          have z := St.start w2
                          refine s_bslice (vs := [.agg (ltArr (M9.last + 1, fr, tt, dy))]) [.tmp 169] h z Try.underlying22 elm35 rfl rfl (one_lt_size _) rfl rfl rfl ?_; intro f w1 v9 h z
                          refine s_nil ?_
                          exact kf_rd (h.holds 170 _ rfl) z _ (one_lt _)
                        · exact obT_in (by decide) (by decide)
                        · refine obH_in 172 rfl (by decide) ?_
                          intro f9 w2 hE hs hl
                          have e17 : f9.tmps.getD 17 undef = _ := sx_old hl 17 (by kernel_rfl) (by kernel_rfl) (h.holds 17 _ rfl)
                          have h := fin_slot [(17, _)] hs rfl (holds_lk ⟨e17, trivial⟩)
                          refine s_pure h (ru_field fld24_0 (h.ev rfl)) rfl ?_; intro f h
                          refine s_nil ?_
                          have e9 := h.holds 172 _ rfl
                          refine ⟨?_, rfl⟩
                          refine e9.trans ?_
                          exact rfl
                        · exact obT_in (by decide) (by decide)
                        · intro f9 w2 hE hs hd9 hWp hT hR hFr hDj
                          obtain ⟨u160, hu160⟩ : ∃ v, f9.tmps.getD 160 undef = v := ⟨_, rfl⟩
                          have e160 : (Emp w1.heap.size 35) u160 w2 := by rw [← hu160]; exact hT 0 160 (by decide) rfl
                          obtain ⟨u163, hu163⟩ : ∃ v, f9.tmps.getD 163 undef = v := ⟨_, rfl⟩
                          have e163 : (fun v w9 => Owns w9 w1.heap.size 35 4 v (M9.l).length (ltCells (M9.l))) u163 w2 := by rw [← hu163]; exact hT 3 163 (by decide) rfl
                          obtain ⟨u170, hu170⟩ : ∃ v, f9.tmps.getD 170 undef = v := ⟨_, rfl⟩
                          have e170 : (fun v w9 => RdZ w9 v 4 1 ((ltArr (M9.last + 1, fr, tt, dy)).toList)) u170 w2 := by rw [← hu170]; exact hT 10 170 (by decide) rfl
                          replace h := sl_new (ops := _) [(160, u160), (161, _), (162, _), (163, u163), (164, _), (165, _), (166, _), (167, _), (168, _), (169, _), (170, u170), (172, _)] h hs hd9 hR ⟨hu160, hT 1 161 (by decide) rfl, hT 2 162 (by decide) rfl, hu163, hT 4 164 (by decide) rfl, hT 5 165 (by decide) rfl, hT 6 166 (by decide) rfl, hT 7 167 (by decide) rfl, hT 8 168 (by decide) rfl, hT 9 169 (by decide) rfl, hu170, hT 12 172 (by decide) rfl, trivial⟩ (by kernel_rfl)
                          replace s := s.sl_new hE e163
                          clear hT hR hFr hDj
                          refine LstW.of ?_
                          refine s_append_rd 0 (e170) h s Try.underlying22 elm35 rfl rfl rfl (ltArr_ones (M9.last + 1, fr, tt, dy)) (by unfold maxLen; omega) (by omega) rfl ?_; intro f w1 v171 h s
                          replace s := s.resl (m := (M9.l ++ [(M9.last + 1, fr, tt, dy)]).length) (ys := ltCells (M9.l ++ [(M9.last + 1, fr, tt, dy)])) 0 rfl (by rw [List.length_append]; rfl) (cells_snoc _ _)
                          refine s_store_one 1 h s one22 rfl rfl rfl (by show _ < 3; decide) (own_one (s.getSl 0 rfl)) ?_; intro w1 s
                          replace s := s.recell (D := mlArr ⟨M9.l ++ [(M9.last + 1, fr, tt, dy)], M9.last + 1, M9.now⟩ v171) 1 rfl rfl
                          refine s_nil ?_
                          refine hK127 _ _ ?_
                          refine c_seq fun K128 hK128 => ?_
                          refine c_region ?_
                          have hp1 : postE M9 fr tt dy = 0 := postE_0 hb9 (by omega) (by rw [hu, hv]; rfl)
                          obtain ⟨hp2, hp3⟩ := postM_ok hp1
                          refine s_pure h (ru_move (h.ev rfl)) rfl ?_; intro f h
                          refine s_pure h (ru_val (.bool true) (ru_eql (h.ev rfl) (h.ev rfl)) (congrArg Value.bool (decide_eq_true (hp1)))) rfl ?_; intro f h
                          refine s_pure h (ru_move (h.ev rfl)) rfl ?_; intro f h
                          refine s_on h rfl rfl rfl ?_
                          refine s_pure h (ru_move (h.ev rfl)) rfl ?_; intro f h
                          refine s_on h rfl rfl rfl ?_
                          refine s_pure h (ru_field fld24_1 (h.ev rfl)) rfl ?_; intro f h
                          refine s_on h rfl rfl rfl ?_
                          refine s_load_at1 (cell_of_has (Has.of_own s 1 rfl) 1 (rfl)) h one3 rfl rfl ?_; intro f h
                          refine s_on h rfl rfl rfl ?_
                          refine s_pure h (ru_val (.bool true) (ru_eql (h.ev rfl) (h.ev rfl)) (congrArg Value.bool (decide_eq_true (hp3)))) rfl ?_; intro f h
                          refine s_pure h (ru_pick_t (h.ev rfl) (h.ev rfl)) rfl ?_; intro f h
                          refine s_pure h (ru_move (h.ev rfl)) rfl ?_; intro f h
                          refine s_on h rfl rfl rfl ?_
                          refine s_load_row 5 h s row24 rfl rfl (rfl) rfl ?_; intro f h
                          refine s_on h rfl rfl rfl ?_
                          refine s_load_row 1 h s row24 rfl rfl (rfl) rfl ?_; intro f h
                          refine s_on h rfl rfl rfl ?_
                          refine s_call h s fnc13 (ret_val (.bool true) (like_any (postM M9 fr tt dy) (⟨M9.l ++ [(M9.last + 1, fr, tt, dy)], M9.last + 1, M9.now⟩) vp v171 _ ((RdZ.of_own (s.getSl 6 rfl))) ((RdZ.of_own (s.getSl 0 rfl))) (by have := post_len (m := M9) (f := fr) (t := tt) (d := dy) hml; omega) (by show (M9.l ++ [_]).length ≤ 1000; rw [List.length_append]; show _ + 1 ≤ 1000; omega)) (congrArg Value.bool (by rw [hp2]; exact like_self _))) rfl rfl ?_; intro f w1 v9 hT hE h s; obtain rfl := hT
                          refine s_pure h (ru_pick_t (h.ev rfl) (h.ev rfl)) rfl ?_; intro f h
                          refine s_pure h (ru_assign (h.ev rfl)) rfl ?_; intro f h
                          refine s_nil ?_
                          refine hK128 _ _ ?_
                          refine wpIn_ret ?_
                          exact e_tmp rfl h s rfl (rfl)
                      · skip
                        refine c_region ?_
                        refine s_pure h (ru_field fld24_0 (h.ev rfl)) rfl ?_; intro f h
                        refine s_load_at1 (cell_of_has (Has.of_own s 7 rfl) 0 (rfl)) h one22 rfl rfl ?_; intro f h
                        refine s_len_sl 6 h s Try.underlying22 rfl rfl rfl ?_; intro f h
                        refine s_pure h (ru_val (.bool false) (ru_eql (h.ev rfl) (h.ev rfl)) (congrArg Value.bool (decide_eq_false (by have := of_decide_eq_false hu; omega)))) rfl ?_; intro f h
                        refine s_pure h (ru_move (h.ev rfl)) rfl ?_; intro f h
                        refine s_on h rfl rfl rfl ?_
                        refine s_pure h (ru_field fld24_1 (h.ev rfl)) rfl ?_; intro f h
                        refine s_on h rfl rfl rfl ?_
                        refine s_load_at1 (cell_of_has (Has.of_own s 7 rfl) 1 (rfl)) h one3 rfl rfl ?_; intro f h
                        refine s_on h rfl rfl rfl ?_
                        refine s_pure h (ru_val (.bool true) (ru_eql (h.ev rfl) (h.ev rfl)) (congrArg Value.bool hv)) rfl ?_; intro f h
                        refine s_pure h (ru_pick_f (h.ev rfl) (h.ev rfl)) rfl ?_; intro f h
                        refine s_pure h (ru_assign (h.ev rfl)) rfl ?_; intro f h
                        refine s_nil ?_
                        refine hK122 _ _ ?_
                        refine wpIn_cond_true (h.ev rfl) ?_
                        refine c_region ?_
                        refine s_pure h (ru_assign (h.ev rfl)) rfl ?_; intro f h
                        refine s_nil ?_
                        refine b_norm ?_
                        refine hK116 _ _ ?_
                        refine c_seq fun K129 hK129 => ?_
                        refine c_seq fun K130 hK130 => ?_
                        refine c_region ?_
                        refine s_pure h (ru_move (h.ev rfl)) rfl ?_; intro f h
                        refine s_pure h (ru_val (.bool true) (ru_neq (h.ev rfl) (h.ev rfl)) (congrArg Value.bool (decide_eq_true (by decide)))) rfl ?_; intro f h
                        refine s_nil ?_
                        refine hK130 _ _ ?_
                        refine wpIn_cond_true (h.ev rfl) ?_
                        refine c_seq fun K131 hK131 => ?_
                        refine c_region ?_
                        have hp1 : postE M9 fr tt dy = 8 := postE_8 hb9 (by omega) (by rw [hu, hv]; rfl)
                        obtain ⟨hp2, hp3⟩ := postM_no (m := M9) (f := fr) (t := tt) (d := dy) (by omega)
                        refine s_pure h (ru_move (h.ev rfl)) rfl ?_; intro f h
                        refine s_pure h (ru_move (h.ev rfl)) rfl ?_; intro f h
                        refine s_pure h (ru_val (.bool true) (ru_eql (h.ev rfl) (h.ev rfl)) (congrArg Value.bool (decide_eq_true (hp1)))) rfl ?_; intro f h
                        refine s_pure h (ru_move (h.ev rfl)) rfl ?_; intro f h
                        refine s_on h rfl rfl rfl ?_
                        refine s_pure h (ru_move (h.ev rfl)) rfl ?_; intro f h
                        refine s_on h rfl rfl rfl ?_
                        refine s_pure h (ru_val (.bool true) (ru_eql (h.ev rfl) (h.ev rfl)) (congrArg Value.bool (decide_eq_true (hp3)))) rfl ?_; intro f h
                        refine s_pure h (ru_pick_t (h.ev rfl) (h.ev rfl)) rfl ?_; intro f h
                        refine s_pure h (ru_move (h.ev rfl)) rfl ?_; intro f h
                        refine s_on h rfl rfl rfl ?_
                        refine s_load_row 4 h s row24 rfl rfl (rfl) rfl ?_; intro f h
                        refine s_on h rfl rfl rfl ?_
                        refine s_load_row 1 h s row24 rfl rfl (rfl) rfl ?_; intro f h
                        refine s_on h rfl rfl rfl ?_
                        refine s_call h s fnc13 (ret_val (.bool true) (like_any (postM M9 fr tt dy) (zMl) vp (.slice none 0 0) _ ((RdZ.of_own (s.getSl 5 rfl))) (rd_nil4 _) (by have := post_len (m := M9) (f := fr) (t := tt) (d := dy) hml; omega) (by decide)) (congrArg Value.bool (by rw [hp2]; exact like_self _))) rfl rfl ?_; intro f w1 v9 hT hE h s; obtain rfl := hT
                        refine s_pure h (ru_pick_t (h.ev rfl) (h.ev rfl)) rfl ?_; intro f h
                        refine s_pure h (ru_assign (h.ev rfl)) rfl ?_; intro f h
                        refine s_nil ?_
                        refine hK131 _ _ ?_
                        refine wpIn_ret ?_
                        refine t_ret ?_
                        exact e_tmp rfl h s rfl (rfl)
                    · skip
                      refine c_region ?_
                      refine s_pure h (ru_field fld24_0 (h.ev rfl)) rfl ?_; intro f h
                      refine s_load_at1 (cell_of_has (Has.of_own s 7 rfl) 0 (rfl)) h one22 rfl rfl ?_; intro f h
                      refine s_len_sl 6 h s Try.underlying22 rfl rfl rfl ?_; intro f h
                      refine s_pure h (ru_val (.bool true) (ru_eql (h.ev rfl) (h.ev rfl)) (congrArg Value.bool (decide_eq_true (by have := of_decide_eq_true hu; omega)))) rfl ?_; intro f h
                      refine s_pure h (ru_move (h.ev rfl)) rfl ?_; intro f h
                      refine s_off (b := false) h rfl rfl rfl rfl ?_; intro f h
                      refine s_off (b := false) h rfl rfl rfl rfl ?_; intro f h
                      refine s_off (b := false) h rfl rfl rfl rfl ?_; intro f h
                      refine s_pure h (ru_pick_t (h.ev rfl) (h.ev rfl)) rfl ?_; intro f h
                      refine s_pure h (ru_assign (h.ev rfl)) rfl ?_; intro f h
                      refine s_nil ?_
                      refine hK122 _ _ ?_
                      refine wpIn_cond_true (h.ev rfl) ?_
                      refine c_region ?_
                      refine s_pure h (ru_assign (h.ev rfl)) rfl ?_; intro f h
                      refine s_nil ?_
                      refine b_norm ?_
                      refine hK116 _ _ ?_
                      refine c_seq fun K132 hK132 => ?_
                      refine c_seq fun K133 hK133 => ?_
                      refine c_region ?_
                      refine s_pure h (ru_move (h.ev rfl)) rfl ?_; intro f h
                      refine s_pure h (ru_val (.bool true) (ru_neq (h.ev rfl) (h.ev rfl)) (congrArg Value.bool (decide_eq_true (by decide)))) rfl ?_; intro f h
                      refine s_nil ?_
                      refine hK133 _ _ ?_
                      refine wpIn_cond_true (h.ev rfl) ?_
                      refine c_seq fun K134 hK134 => ?_
                      refine c_region ?_
                      have hp1 : postE M9 fr tt dy = 8 := postE_8 hb9 (by omega) (by rw [hu]; rfl)
                      obtain ⟨hp2, hp3⟩ := postM_no (m := M9) (f := fr) (t := tt) (d := dy) (by omega)
                      refine s_pure h (ru_move (h.ev rfl)) rfl ?_; intro f h
                      refine s_pure h (ru_move (h.ev rfl)) rfl ?_; intro f h
                      refine s_pure h (ru_val (.bool true) (ru_eql (h.ev rfl) (h.ev rfl)) (congrArg Value.bool (decide_eq_true (hp1)))) rfl ?_; intro f h
                      refine s_pure h (ru_move (h.ev rfl)) rfl ?_; intro f h
                      refine s_on h rfl rfl rfl ?_
                      refine s_pure h (ru_move (h.ev rfl)) rfl ?_; intro f h
                      refine s_on h rfl rfl rfl ?_
                      refine s_pure h (ru_val (.bool true) (ru_eql (h.ev rfl) (h.ev rfl)) (congrArg Value.bool (decide_eq_true (hp3)))) rfl ?_; intro f h
                      refine s_pure h (ru_pick_t (h.ev rfl) (h.ev rfl)) rfl ?_; intro f h
                      refine s_pure h (ru_move (h.ev rfl)) rfl ?_; intro f h
                      refine s_on h rfl rfl rfl ?_
                      refine s_load_row 4 h s row24 rfl rfl (rfl) rfl ?_; intro f h
                      refine s_on h rfl rfl rfl ?_
                      refine s_load_row 1 h s row24 rfl rfl (rfl) rfl ?_; intro f h
                      refine s_on h rfl rfl rfl ?_
                      refine s_call h s fnc13 (ret_val (.bool true) (like_any (postM M9 fr tt dy) (zMl) vp (.slice none 0 0) _ ((RdZ.of_own (s.getSl 5 rfl))) (rd_nil4 _) (by have := post_len (m := M9) (f := fr) (t := tt) (d := dy) hml; omega) (by decide)) (congrArg Value.bool (by rw [hp2]; exact like_self _))) rfl rfl ?_; intro f w1 v9 hT hE h s; obtain rfl := hT
                      refine s_pure h (ru_pick_t (h.ev rfl) (h.ev rfl)) rfl ?_; intro f h
                      refine s_pure h (ru_assign (h.ev rfl)) rfl ?_; intro f h
                      refine s_nil ?_
                      refine hK134 _ _ ?_
                      refine wpIn_ret ?_
                      refine t_ret ?_
                      exact e_tmp rfl h s rfl (rfl)
                · skip
                  refine c_region ?_
                  refine s_pure h (ru_move (h.ev rfl)) rfl ?_; intro f h
                  refine s_pure h (ru_val (.bool false) (ru_lss (h.ev rfl) (h.ev rfl)) (congrArg Value.bool f0)) rfl ?_; intro f h
                  refine s_pure h (ru_move (h.ev rfl)) rfl ?_; intro f h
                  refine s_on h rfl rfl rfl ?_
                  refine s_pure h (ru_move (h.ev rfl)) rfl ?_; intro f h
                  refine s_on h rfl rfl rfl ?_
                  refine s_pure h (ru_val (.bool false) (ru_gtr (h.ev rfl) (h.ev rfl)) (congrArg Value.bool f1)) rfl ?_; intro f h
                  refine s_pure h (ru_pick_f (h.ev rfl) (h.ev rfl)) rfl ?_; intro f h
                  refine s_pure h (ru_move (h.ev rfl)) rfl ?_; intro f h
                  refine s_on h rfl rfl rfl ?_
                  refine s_pure h (ru_move (h.ev rfl)) rfl ?_; intro f h
                  refine s_on h rfl rfl rfl ?_
                  refine s_pure h (ru_val (.bool false) (ru_lss (h.ev rfl) (h.ev rfl)) (congrArg Value.bool t0)) rfl ?_; intro f h
                  refine s_pure h (ru_pick_f (h.ev rfl) (h.ev rfl)) rfl ?_; intro f h
                  refine s_pure h (ru_move (h.ev rfl)) rfl ?_; intro f h
                  refine s_on h rfl rfl rfl ?_
                  refine s_pure h (ru_move (h.ev rfl)) rfl ?_; intro f h
                  refine s_on h rfl rfl rfl ?_
                  refine s_pure h (ru_val (.bool true) (ru_gtr (h.ev rfl) (h.ev rfl)) (congrArg Value.bool t1)) rfl ?_; intro f h
                  refine s_pure h (ru_pick_f (h.ev rfl) (h.ev rfl)) rfl ?_; intro f h
                  refine s_pure h (ru_assign (h.ev rfl)) rfl ?_; intro f h
                  refine s_nil ?_
                  refine hK117 _ _ ?_
                  refine wpIn_cond_true (h.ev rfl) ?_
                  refine c_region ?_
                  refine s_pure h (ru_assign (h.ev rfl)) rfl ?_; intro f h
                  refine s_nil ?_
                  refine b_norm ?_
                  refine hK116 _ _ ?_
                  refine c_seq fun K135 hK135 => ?_
                  refine c_seq fun K136 hK136 => ?_
                  refine c_region ?_
                  refine s_pure h (ru_move (h.ev rfl)) rfl ?_; intro f h
                  refine s_pure h (ru_val (.bool true) (ru_neq (h.ev rfl) (h.ev rfl)) (congrArg Value.bool (decide_eq_true (by decide)))) rfl ?_; intro f h
                  refine s_nil ?_
                  refine hK136 _ _ ?_
                  refine wpIn_cond_true (h.ev rfl) ?_
                  refine c_seq fun K137 hK137 => ?_
                  refine c_region ?_
                  have hp1 : postE M9 fr tt dy = 1 := postE_1 (by rw [hr, adr_y _ f0 f1, adr_c _ t1]; rfl)
                  obtain ⟨hp2, hp3⟩ := postM_no (m := M9) (f := fr) (t := tt) (d := dy) (by omega)
                  refine s_pure h (ru_move (h.ev rfl)) rfl ?_; intro f h
                  refine s_pure h (ru_move (h.ev rfl)) rfl ?_; intro f h
                  refine s_pure h (ru_val (.bool true) (ru_eql (h.ev rfl) (h.ev rfl)) (congrArg Value.bool (decide_eq_true (hp1)))) rfl ?_; intro f h
                  refine s_pure h (ru_move (h.ev rfl)) rfl ?_; intro f h
                  refine s_on h rfl rfl rfl ?_
                  refine s_pure h (ru_move (h.ev rfl)) rfl ?_; intro f h
                  refine s_on h rfl rfl rfl ?_
                  refine s_pure h (ru_val (.bool true) (ru_eql (h.ev rfl) (h.ev rfl)) (congrArg Value.bool (decide_eq_true (hp3)))) rfl ?_; intro f h
                  refine s_pure h (ru_pick_t (h.ev rfl) (h.ev rfl)) rfl ?_; intro f h
                  refine s_pure h (ru_move (h.ev rfl)) rfl ?_; intro f h
                  refine s_on h rfl rfl rfl ?_
                  refine s_load_row 4 h s row24 rfl rfl (rfl) rfl ?_; intro f h
                  refine s_on h rfl rfl rfl ?_
                  refine s_load_row 1 h s row24 rfl rfl (rfl) rfl ?_; intro f h
                  refine s_on h rfl rfl rfl ?_
                  refine s_call h s fnc13 (ret_val (.bool true) (like_any (postM M9 fr tt dy) (zMl) vp (.slice none 0 0) _ ((RdZ.of_own (s.getSl 5 rfl))) (rd_nil4 _) (by have := post_len (m := M9) (f := fr) (t := tt) (d := dy) hml; omega) (by decide)) (congrArg Value.bool (by rw [hp2]; exact like_self _))) rfl rfl ?_; intro f w1 v9 hT hE h s; obtain rfl := hT
                  refine s_pure h (ru_pick_t (h.ev rfl) (h.ev rfl)) rfl ?_; intro f h
                  refine s_pure h (ru_assign (h.ev rfl)) rfl ?_; intro f h
                  refine s_nil ?_
                  refine hK137 _ _ ?_
                  refine wpIn_ret ?_
                  refine t_ret ?_
                  exact e_tmp rfl h s rfl (rfl)
              · skip
                refine c_region ?_
                refine s_pure h (ru_move (h.ev rfl)) rfl ?_; intro f h
                refine s_pure h (ru_val (.bool false) (ru_lss (h.ev rfl) (h.ev rfl)) (congrArg Value.bool f0)) rfl ?_; intro f h
                refine s_pure h (ru_move (h.ev rfl)) rfl ?_; intro f h
                refine s_on h rfl rfl rfl ?_
                refine s_pure h (ru_move (h.ev rfl)) rfl ?_; intro f h
                refine s_on h rfl rfl rfl ?_
                refine s_pure h (ru_val (.bool false) (ru_gtr (h.ev rfl) (h.ev rfl)) (congrArg Value.bool f1)) rfl ?_; intro f h
                refine s_pure h (ru_pick_f (h.ev rfl) (h.ev rfl)) rfl ?_; intro f h
                refine s_pure h (ru_move (h.ev rfl)) rfl ?_; intro f h
                refine s_on h rfl rfl rfl ?_
                refine s_pure h (ru_move (h.ev rfl)) rfl ?_; intro f h
                refine s_on h rfl rfl rfl ?_
                refine s_pure h (ru_val (.bool true) (ru_lss (h.ev rfl) (h.ev rfl)) (congrArg Value.bool t0)) rfl ?_; intro f h
                refine s_pure h (ru_pick_f (h.ev rfl) (h.ev rfl)) rfl ?_; intro f h
                refine s_pure h (ru_move (h.ev rfl)) rfl ?_; intro f h
                refine s_off (b := false) h rfl rfl rfl rfl ?_; intro f h
                refine s_off (b := false) h rfl rfl rfl rfl ?_; intro f h
                refine s_pure h (ru_pick_t (h.ev rfl) (h.ev rfl)) rfl ?_; intro f h
                refine s_pure h (ru_assign (h.ev rfl)) rfl ?_; intro f h
                refine s_nil ?_
                refine hK117 _ _ ?_
                refine wpIn_cond_true (h.ev rfl) ?_
                refine c_region ?_
                refine s_pure h (ru_assign (h.ev rfl)) rfl ?_; intro f h
                refine s_nil ?_
                refine b_norm ?_
                refine hK116 _ _ ?_
                refine c_seq fun K138 hK138 => ?_
                refine c_seq fun K139 hK139 => ?_
                refine c_region ?_
                refine s_pure h (ru_move (h.ev rfl)) rfl ?_; intro f h
                refine s_pure h (ru_val (.bool true) (ru_neq (h.ev rfl) (h.ev rfl)) (congrArg Value.bool (decide_eq_true (by decide)))) rfl ?_; intro f h
                refine s_nil ?_
                refine hK139 _ _ ?_
                refine wpIn_cond_true (h.ev rfl) ?_
                refine c_seq fun K140 hK140 => ?_
                refine c_region ?_
                have hp1 : postE M9 fr tt dy = 1 := postE_1 (by rw [hr, adr_y _ f0 f1, adr_b _ t0]; rfl)
                obtain ⟨hp2, hp3⟩ := postM_no (m := M9) (f := fr) (t := tt) (d := dy) (by omega)
                refine s_pure h (ru_move (h.ev rfl)) rfl ?_; intro f h
                refine s_pure h (ru_move (h.ev rfl)) rfl ?_; intro f h
                refine s_pure h (ru_val (.bool true) (ru_eql (h.ev rfl) (h.ev rfl)) (congrArg Value.bool (decide_eq_true (hp1)))) rfl ?_; intro f h
                refine s_pure h (ru_move (h.ev rfl)) rfl ?_; intro f h
                refine s_on h rfl rfl rfl ?_
                refine s_pure h (ru_move (h.ev rfl)) rfl ?_; intro f h
                refine s_on h rfl rfl rfl ?_
                refine s_pure h (ru_val (.bool true) (ru_eql (h.ev rfl) (h.ev rfl)) (congrArg Value.bool (decide_eq_true (hp3)))) rfl ?_; intro f h
                refine s_pure h (ru_pick_t (h.ev rfl) (h.ev rfl)) rfl ?_; intro f h
                refine s_pure h (ru_move (h.ev rfl)) rfl ?_; intro f h
                refine s_on h rfl rfl rfl ?_
                refine s_load_row 4 h s row24 rfl rfl (rfl) rfl ?_; intro f h
                refine s_on h rfl rfl rfl ?_
                refine s_load_row 1 h s row24 rfl rfl (rfl) rfl ?_; intro f h
                refine s_on h rfl rfl rfl ?_
                refine s_call h s fnc13 (ret_val (.bool true) (like_any (postM M9 fr tt dy) (zMl) vp (.slice none 0 0) _ ((RdZ.of_own (s.getSl 5 rfl))) (rd_nil4 _) (by have := post_len (m := M9) (f := fr) (t := tt) (d := dy) hml; omega) (by decide)) (congrArg Value.bool (by rw [hp2]; exact like_self _))) rfl rfl ?_; intro f w1 v9 hT hE h s; obtain rfl := hT
                refine s_pure h (ru_pick_t (h.ev rfl) (h.ev rfl)) rfl ?_; intro f h
                refine s_pure h (ru_assign (h.ev rfl)) rfl ?_; intro f h
                refine s_nil ?_
                refine hK140 _ _ ?_
                refine wpIn_ret ?_
                refine t_ret ?_
                exact e_tmp rfl h s rfl (rfl)
            · skip
              refine c_region ?_
              refine s_pure h (ru_move (h.ev rfl)) rfl ?_; intro f h
              refine s_pure h (ru_val (.bool false) (ru_lss (h.ev rfl) (h.ev rfl)) (congrArg Value.bool f0)) rfl ?_; intro f h
              refine s_pure h (ru_move (h.ev rfl)) rfl ?_; intro f h
              refine s_on h rfl rfl rfl ?_
              refine s_pure h (ru_move (h.ev rfl)) rfl ?_; intro f h
              refine s_on h rfl rfl rfl ?_
              refine s_pure h (ru_val (.bool true) (ru_gtr (h.ev rfl) (h.ev rfl)) (congrArg Value.bool f1)) rfl ?_; intro f h
              refine s_pure h (ru_pick_f (h.ev rfl) (h.ev rfl)) rfl ?_; intro f h
              refine s_pure h (ru_move (h.ev rfl)) rfl ?_; intro f h
              refine s_off (b := false) h rfl rfl rfl rfl ?_; intro f h
              refine s_off (b := false) h rfl rfl rfl rfl ?_; intro f h
              refine s_pure h (ru_pick_t (h.ev rfl) (h.ev rfl)) rfl ?_; intro f h
              refine s_pure h (ru_move (h.ev rfl)) rfl ?_; intro f h
              refine s_off (b := false) h rfl rfl rfl rfl ?_; intro f h
              refine s_off (b := false) h rfl rfl rfl rfl ?_; intro f h
              refine s_pure h (ru_pick_t (h.ev rfl) (h.ev rfl)) rfl ?_; intro f h
              refine s_pure h (ru_assign (h.ev rfl)) rfl ?_; intro f h
              refine s_nil ?_
              refine hK117 _ _ ?_
              refine wpIn_cond_true (h.ev rfl) ?_
              refine c_region ?_
              refine s_pure h (ru_assign (h.ev rfl)) rfl ?_; intro f h
              refine s_nil ?_
              refine b_norm ?_
              refine hK116 _ _ ?_
              refine c_seq fun K141 hK141 => ?_
              refine c_seq fun K142 hK142 => ?_
              refine c_region ?_
              refine s_pure h (ru_move (h.ev rfl)) rfl ?_; intro f h
              refine s_pure h (ru_val (.bool true) (ru_neq (h.ev rfl) (h.ev rfl)) (congrArg Value.bool (decide_eq_true (by decide)))) rfl ?_; intro f h
              refine s_nil ?_
              refine hK142 _ _ ?_
              refine wpIn_cond_true (h.ev rfl) ?_
              refine c_seq fun K143 hK143 => ?_
              refine c_region ?_
              have hp1 : postE M9 fr tt dy = 1 := postE_1 (by rw [hr, adr_c _ f1]; rfl)
              obtain ⟨hp2, hp3⟩ := postM_no (m := M9) (f := fr) (t := tt) (d := dy) (by omega)
              refine s_pure h (ru_move (h.ev rfl)) rfl ?_; intro f h
              refine s_pure h (ru_move (h.ev rfl)) rfl ?_; intro f h
              refine s_pure h (ru_val (.bool true) (ru_eql (h.ev rfl) (h.ev rfl)) (congrArg Value.bool (decide_eq_true (hp1)))) rfl ?_; intro f h
              refine s_pure h (ru_move (h.ev rfl)) rfl ?_; intro f h
              refine s_on h rfl rfl rfl ?_
              refine s_pure h (ru_move (h.ev rfl)) rfl ?_; intro f h
              refine s_on h rfl rfl rfl ?_
              refine s_pure h (ru_val (.bool true) (ru_eql (h.ev rfl) (h.ev rfl)) (congrArg Value.bool (decide_eq_true (hp3)))) rfl ?_; intro f h
              refine s_pure h (ru_pick_t (h.ev rfl) (h.ev rfl)) rfl ?_; intro f h
              refine s_pure h (ru_move (h.ev rfl)) rfl ?_; intro f h
              refine s_on h rfl rfl rfl ?_
              refine s_load_row 4 h s row24 rfl rfl (rfl) rfl ?_; intro f h
              refine s_on h rfl rfl rfl ?_
              refine s_load_row 1 h s row24 rfl rfl (rfl) rfl ?_; intro f h
              refine s_on h rfl rfl rfl ?_
              refine s_call h s fnc13 (ret_val (.bool true) (like_any (postM M9 fr tt dy) (zMl) vp (.slice none 0 0) _ ((RdZ.of_own (s.getSl 5 rfl))) (rd_nil4 _) (by have := post_len (m := M9) (f := fr) (t := tt) (d := dy) hml; omega) (by decide)) (congrArg Value.bool (by rw [hp2]; exact like_self _))) rfl rfl ?_; intro f w1 v9 hT hE h s; obtain rfl := hT
              refine s_pure h (ru_pick_t (h.ev rfl) (h.ev rfl)) rfl ?_; intro f h
              refine s_pure h (ru_assign (h.ev rfl)) rfl ?_; intro f h
              refine s_nil ?_
              refine hK143 _ _ ?_
              refine wpIn_ret ?_
              refine t_ret ?_
              exact e_tmp rfl h s rfl (rfl)
          · skip
            refine c_region ?_
            refine s_pure h (ru_move (h.ev rfl)) rfl ?_; intro f h
            refine s_pure h (ru_val (.bool true) (ru_lss (h.ev rfl) (h.ev rfl)) (congrArg Value.bool f0)) rfl ?_; intro f h
            refine s_pure h (ru_move (h.ev rfl)) rfl ?_; intro f h
            refine s_off (b := false) h rfl rfl rfl rfl ?_; intro f h
            refine s_off (b := false) h rfl rfl rfl rfl ?_; intro f h
            refine s_pure h (ru_pick_t (h.ev rfl) (h.ev rfl)) rfl ?_; intro f h
            refine s_pure h (ru_move (h.ev rfl)) rfl ?_; intro f h
            refine s_off (b := false) h rfl rfl rfl rfl ?_; intro f h
            refine s_off (b := false) h rfl rfl rfl rfl ?_; intro f h
            refine s_pure h (ru_pick_t (h.ev rfl) (h.ev rfl)) rfl ?_; intro f h
            refine s_pure h (ru_move (h.ev rfl)) rfl ?_; intro f h
            refine s_off (b := false) h rfl rfl rfl rfl ?_; intro f h
            refine s_off (b := false) h rfl rfl rfl rfl ?_; intro f h
            refine s_pure h (ru_pick_t (h.ev rfl) (h.ev rfl)) rfl ?_; intro f h
            refine s_pure h (ru_assign (h.ev rfl)) rfl ?_; intro f h
            refine s_nil ?_
            refine hK117 _ _ ?_
            refine wpIn_cond_true (h.ev rfl) ?_
            refine c_region ?_
            refine s_pure h (ru_assign (h.ev rfl)) rfl ?_; intro f h
            refine s_nil ?_
            refine b_norm ?_
            refine hK116 _ _ ?_
            refine c_seq fun K144 hK144 => ?_
            refine c_seq fun K145 hK145 => ?_
            refine c_region ?_
            refine s_pure h (ru_move (h.ev rfl)) rfl ?_; intro f h
            refine s_pure h (ru_val (.bool true) (ru_neq (h.ev rfl) (h.ev rfl)) (congrArg Value.bool (decide_eq_true (by decide)))) rfl ?_; intro f h
            refine s_nil ?_
            refine hK145 _ _ ?_
            refine wpIn_cond_true (h.ev rfl) ?_
            refine c_seq fun K146 hK146 => ?_
            refine c_region ?_
            have hp1 : postE M9 fr tt dy = 1 := postE_1 (by rw [hr, adr_b _ f0]; rfl)
            obtain ⟨hp2, hp3⟩ := postM_no (m := M9) (f := fr) (t := tt) (d := dy) (by omega)
            refine s_pure h (ru_move (h.ev rfl)) rfl ?_; intro f h
            refine s_pure h (ru_move (h.ev rfl)) rfl ?_; intro f h
            refine s_pure h (ru_val (.bool true) (ru_eql (h.ev rfl) (h.ev rfl)) (congrArg Value.bool (decide_eq_true (hp1)))) rfl ?_; intro f h
            refine s_pure h (ru_move (h.ev rfl)) rfl ?_; intro f h
            refine s_on h rfl rfl rfl ?_
            refine s_pure h (ru_move (h.ev rfl)) rfl ?_; intro f h
            refine s_on h rfl rfl rfl ?_
            refine s_pure h (ru_val (.bool true) (ru_eql (h.ev rfl) (h.ev rfl)) (congrArg Value.bool (decide_eq_true (hp3)))) rfl ?_; intro f h
            refine s_pure h (ru_pick_t (h.ev rfl) (h.ev rfl)) rfl ?_; intro f h
            refine s_pure h (ru_move (h.ev rfl)) rfl ?_; intro f h
            refine s_on h rfl rfl rfl ?_
            refine s_load_row 4 h s row24 rfl rfl (rfl) rfl ?_; intro f h
            refine s_on h rfl rfl rfl ?_
            refine s_load_row 1 h s row24 rfl rfl (rfl) rfl ?_; intro f h
            refine s_on h rfl rfl rfl ?_
            refine s_call h s fnc13 (ret_val (.bool true) (like_any (postM M9 fr tt dy) (zMl) vp (.slice none 0 0) _ ((RdZ.of_own (s.getSl 5 rfl))) (rd_nil4 _) (by have := post_len (m := M9) (f := fr) (t := tt) (d := dy) hml; omega) (by decide)) (congrArg Value.bool (by rw [hp2]; exact like_self _))) rfl rfl ?_; intro f w1 v9 hT hE h s; obtain rfl := hT
            refine s_pure h (ru_pick_t (h.ev rfl) (h.ev rfl)) rfl ?_; intro f h
            refine s_pure h (ru_assign (h.ev rfl)) rfl ?_; intro f h
            refine s_nil ?_
            refine hK146 _ _ ?_
            refine wpIn_ret ?_
            refine t_ret ?_
            exact e_tmp rfl h s rfl (rfl)
end Go.Proofs.Ytbgkoikpdhecfaa
