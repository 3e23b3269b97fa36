/- What MailTurns answers: for all arguments. -/
import Derived.Test.YtbgkoikpdhecfaaVb
set_option linter.unusedVariables false
set_option linter.unusedSimpArgs false
set_option linter.unusedSectionVars false
namespace Go.Proofs.Ytbgkoikpdhecfaa
open Go.RowKit
set_option maxHeartbeats 4000000 in
theorem mturns_any (m : Ml) (v9 : Value) (dx : ByteArray) (tk : Int) (htk : -9223372036854775808 ≤ tk ∧ tk ≤ 9223372036854775807) (w : World) (hR : RdZ w v9 4 m.l.length (ltCells m.l)) : Calls Try.prog 6 [.agg (mlArr m v9), .string dx, .int .i64 tk].toArray w (Ret w (is (.bool true))) := by
  obtain ⟨M9, hM9⟩ : ∃ x9, x9 = fewM m := ⟨_, rfl⟩
  have hml : M9.l.length ≤ 66 := by rw [hM9]; exact few_len m
  obtain ⟨dy, hdy⟩ : ∃ x9, x9 = dx.extract 0 (min dx.size 100) := ⟨_, rfl⟩
  have hsdy : dy.size ≤ 100 := by rw [hdy, ByteArray.size_extract]; omega
  obtain ⟨hk1, hk2⟩ := tmod_k tk
  obtain ⟨hk3, hk4⟩ := tmod_p (k := tk.tmod 1000 + 1000) (by omega)
  obtain ⟨T9, hT9⟩ : ∃ x9, x9 = ((tk.tmod 1000 + 1000).tmod 1000) := ⟨_, rfl⟩
  rw [← hT9] at hk3 hk4
  refine c_enter Try.func6 rfl Try.ntmps6 rfl [(0, .agg (mlArr m v9)), (1, .string dx), (2, .int .i64 tk)] (by simp) fun f h => ?_
  have s := St.start w
  refine c_seq fun K1 hK1 => ?_
  refine c_region ?_
  refine s_box ((mlArr m v9)) h s rfl rfl rfl ?_; intro f w1 b3 h s
  refine s_pure h (ru_assign (h.ev rfl)) rfl ?_; intro f h
  refine s_nil ?_
  refine hK1 _ _ ?_
  refine c_seq fun K2 hK2 => ?_
  have hbs := s.ext.le
  refine' c_reg2 2 [2, 3, 4, 5, 6, 8] [] [[], [0], [], [], [3], [3, 4], [2, 3, 4, 5], [0, 1], [0, 1, 2, 3, 4, 5, 6, 7]] (is _ :: (OneP 35 w1.heap.size M9) :: is _ :: is _ :: is _ :: is _ :: is _ :: is undef :: is _ :: []) (fun _ => True) h s (by kernel_rfl) (by kernel_rfl) (by kernel_rfl) (by kernel_rfl) rfl (fun _ _ h _ => h) (trivial) ⟨⟨_, rfl⟩, ⟨_, rfl⟩, ⟨_, rfl⟩, ⟨_, rfl⟩, ⟨_, rfl⟩, ⟨_, rfl⟩, trivial⟩ ⟨is_mono _, OneP.mono _ _ _, is_mono _, is_mono _, is_mono _, is_mono _, is_mono _, is_mono _, is_mono _, trivial⟩ (And.intro ?_ (And.intro ?_ (And.intro ?_ (And.intro ?_ (And.intro ?_ (And.intro ?_ (And.intro ?_ (And.intro ?_ (And.intro ?_ (trivial)))))))))) ?_
  rotate_left 7
  · refine obF_in 18 rfl (by decide) (by decide) ?_
    intro f9 w2 hE hs hd9 hl
    have e3 : f9.tmps.getD 3 undef = _ := sx_old hl 3 (by kernel_rfl) (by kernel_rfl) (h.holds 3 _ rfl)
    have h := fin_slot [(3, _)] hs hd9 (holds_lk ⟨e3, trivial⟩)
    have s := s.more hE
    have z := St.start w2
    refine s_load_row 0 h s row24 rfl rfl (rfl) rfl ?_; intro f h
    refine s_nil ?_
    have e9 := h.holds 18 _ rfl
    refine ⟨?_, Ext.refl _, fun h9 => absurd h9 (by decide)⟩
    refine e9.trans ?_
    exact rfl
  · refine obF_in 19 rfl (by decide) (by decide) ?_
    intro f9 w2 hE hs hd9 hl
    have e18 : f9.tmps.getD 18 undef = _ := sx_get hl 18 0 (by kernel_rfl) (by kernel_rfl)
    have h := fin_slot [(18, _)] hs hd9 (holds_lk ⟨e18, trivial⟩)
    have s := s.more hE
    have z := St.start w2
    refine s_call h s fnc7 (few_any m v9 _ (hR.keep s.ext)) rfl rfl ?_; intro f w3 v3 hT9 hE3 h s
    refine s_nil ?_
    exact ⟨by rw [h.holds 19 _ rfl, hM9]; exact hT9.low hE.le, hE3, fun h9 => absurd h9 (by decide)⟩
  · refine obH_in 20 rfl (by decide) ?_
    intro f9 w2 hE hs hl
    have e1 : f9.tmps.getD 1 undef = _ := sx_old hl 1 (by kernel_rfl) (by kernel_rfl) (h.holds 1 _ rfl)
    have h := fin_slot [(1, _)] hs rfl (holds_lk ⟨e1, trivial⟩)
    refine s_pure h (ru_move (h.ev rfl)) rfl ?_; intro f h
    refine s_nil ?_
    have e9 := h.holds 20 _ rfl
    refine ⟨?_, rfl⟩
    refine e9.trans ?_
    exact rfl
  · refine obH_in 21 rfl (by decide) ?_
    intro f9 w2 hE hs hl
    have e1 : f9.tmps.getD 1 undef = _ := sx_old hl 1 (by kernel_rfl) (by kernel_rfl) (h.holds 1 _ rfl)
    have h := fin_slot [(1, _)] hs rfl (holds_lk ⟨e1, trivial⟩)
    refine s_pure h (ru_move (h.ev rfl)) rfl ?_; intro f h
    refine s_nil ?_
    have e9 := h.holds 21 _ rfl
    refine ⟨?_, rfl⟩
    refine e9.trans ?_
    exact rfl
  · refine obH_in 22 rfl (by decide) ?_
    intro f9 w2 hE hs hl
    have e21 : f9.tmps.getD 21 undef = _ := sx_get hl 21 3 (by kernel_rfl) (by kernel_rfl)
    have h := fin_slot [(21, _)] hs rfl (holds_lk ⟨e21, trivial⟩)
    refine s_pure h (ru_len_str Try.underlying9 (h.ev rfl)) rfl ?_; intro f h
    refine s_nil ?_
    have e9 := h.holds 22 _ rfl
    refine ⟨?_, rfl⟩
    refine e9.trans ?_
    exact rfl
  · refine obH_in 23 rfl (by decide) ?_
    intro f9 w2 hE hs hl
    have e22 : f9.tmps.getD 22 undef = _ := sx_get hl 22 4 (by kernel_rfl) (by kernel_rfl)
    have h := fin_slot [(22, _)] hs rfl (holds_lk ⟨e22, trivial⟩)
    refine s_pure h (ru_min (h.ev rfl) (h.ev rfl)) rfl ?_; intro f h
    refine s_nil ?_
    have e9 := h.holds 23 _ rfl
    refine ⟨?_, rfl⟩
    refine e9.trans ?_
    exact rfl
  · refine obH_in 24 rfl (by decide) ?_
    intro f9 w2 hE hs hl
    have e20 : f9.tmps.getD 20 undef = _ := sx_get hl 20 2 (by kernel_rfl) (by kernel_rfl)
    have e23 : f9.tmps.getD 23 undef = _ := sx_get hl 23 5 (by kernel_rfl) (by kernel_rfl)
    have h := fin_slot [(20, _), (23, _)] hs rfl (holds_lk ⟨e20, e23, trivial⟩)
    refine s_pure h (ru_val (.string dy) (ru_slice_str (min dx.size 100) Try.underlying9 (h.ev rfl) (h.ev rfl) (by split <;> omega) (by omega)) (by rw [hdy])) rfl ?_; intro f h
    refine s_nil ?_
    have e9 := h.holds 24 _ rfl
    refine ⟨?_, rfl⟩
    refine e9.trans ?_
    exact rfl
  · exact obT_in (by decide) (by decide)
  · refine obH_in 1 rfl (by decide) ?_
    intro f9 w2 hE hs hl
    have e24 : f9.tmps.getD 24 undef = _ := sx_get hl 24 6 (by kernel_rfl) (by kernel_rfl)
    have h := fin_slot [(24, _)] hs rfl (holds_lk ⟨e24, trivial⟩)
    refine s_pure h (ru_assign (h.ev rfl)) rfl ?_; intro f h
    refine s_nil ?_
    have e9 := h.holds 1 _ rfl
    refine ⟨?_, rfl⟩
    refine e9.trans ?_
    exact rfl
  · intro f9 w2 hE hs hd9 hWp hT hR hFr hDj
    obtain ⟨u19, hu19⟩ : ∃ v, f9.tmps.getD 19 undef = v := ⟨_, rfl⟩
    have e19 : (OneP 35 w1.heap.size M9) u19 w2 := by rw [← hu19]; exact hT 1 19 (by decide) rfl
    replace h := sl_new (ops := _) [(18, _), (19, u19), (20, _), (21, _), (22, _), (23, _), (24, _), (1, _)] h hs hd9 hR ⟨hT 0 18 (by decide) rfl, hu19, hT 2 20 (by decide) rfl, hT 3 21 (by decide) rfl, hT 4 22 (by decide) rfl, hT 5 23 (by decide) rfl, hT 6 24 (by decide) rfl, hT 8 1 (by decide) rfl, trivial⟩ (by kernel_rfl)
    obtain ⟨vf, hvvf, hOvf⟩ := e19
    subst hvvf
    replace s := s.sl_new hE hOvf
    clear hT hR hFr hDj
    refine LstW.of ?_
    refine s_store_row 1 h s row24 rfl rfl rfl (rfl) (rfl) (mlArr_ones _ _ (own_one (s.getSl 0 rfl))) ?_; intro w1 s
    refine s_nil ?_
    refine hK2 _ _ ?_
    refine c_seq fun K3 hK3 => ?_
    refine c_seq fun K4 hK4 => ?_
    cases hr : (rightL M9 : Bool)
    · skip
      refine c_region ?_
      refine s_load_row 1 h s row24 rfl rfl (rfl) rfl ?_; intro f h
      refine s_call h s fnc10 (ret_val (.bool false) (mright_any M9 vf _ (RdZ.of_own (s.getSl 0 rfl)) (by omega)) (congrArg Value.bool hr)) rfl rfl ?_; intro f w1 v9 hT hE h s; obtain rfl := hT
      refine s_pure h (ru_val (.bool true) (ru_not (h.ev rfl)) rfl) rfl ?_; intro f h
      refine s_nil ?_
      refine hK4 _ _ ?_
      refine wpIn_cond_true (h.ev rfl) ?_
      refine c_seq fun K5 hK5 => ?_
      refine c_region ?_
      refine s_call h s fnc12 (alive_any _) rfl rfl ?_; intro f w1 v9 hT hE h s; obtain rfl := hT
      refine s_pure h (ru_assign (h.ev rfl)) rfl ?_; intro f h
      refine s_nil ?_
      refine hK5 _ _ ?_
      refine wpIn_ret ?_
      refine t_ret ?_
      exact e_tmp rfl h s rfl (rfl)
    · skip
      refine c_region ?_
      refine s_load_row 1 h s row24 rfl rfl (rfl) rfl ?_; intro f h
      refine s_call h s fnc10 (ret_val (.bool true) (mright_any M9 vf _ (RdZ.of_own (s.getSl 0 rfl)) (by omega)) (congrArg Value.bool hr)) rfl rfl ?_; intro f w1 v9 hT hE h s; obtain rfl := hT
      refine s_pure h (ru_val (.bool false) (ru_not (h.ev rfl)) rfl) rfl ?_; intro f h
      refine s_nil ?_
      refine hK4 _ _ ?_
      refine wpIn_cond_false (h.ev rfl) ?_
      refine wpIn_skip ?_
      refine hK3 _ _ ?_
      refine c_seq fun K6 hK6 => ?_
      refine c_region ?_
      refine s_load_row 1 h s row24 rfl rfl (rfl) rfl ?_; intro f h
      refine s_alloc (mlArr zMl (.slice none 0 0)) h s zero24 rfl rfl ?_; intro f w1 b7 h s
      refine s_store_row 0 h s row24 rfl rfl rfl (rfl) (rfl) (mlArr_ones _ _ (own_one (s.getSl 1 rfl))) ?_; intro w1 s
      refine s_nil ?_
      refine hK6 _ _ ?_
      refine c_seq fun K7 hK7 => ?_
      refine c_seq fun K8 hK8 => ?_
      refine c_region ?_
      refine s_pure h (ru_field fld24_0 (h.ev rfl)) rfl ?_; intro f h
      refine s_load_at1 (cell_of_has (Has.of_own s 2 rfl) 0 (rfl)) h one22 rfl rfl ?_; intro f h
      refine s_len_sl 1 h s Try.underlying22 rfl rfl rfl ?_; intro f h
      replace s := s.nilSl 35 4
      refine s_pure h (ru_move (h.ev rfl)) rfl ?_; intro f h
      refine s_nil ?_
      refine hK8 _ _ ?_
      refine wpIn_block ?_
      refine wpIn_loop_ghost (fun nn aa ww => ∃ k : Nat, ∃ vg : Value, Sl 132 aa [(0, .agg (mlArr m v9)), (2, .int .i64 tk), (3, .pointer (some ⟨b3, 0, none⟩)), (7, .pointer (some ⟨b7, 0, none⟩)), (31, vf), (1, .string dy), (32, .int .i64 (M9.l.length : Int)), (33, .int .i64 (k : Int))] ∧ St w [.sl vg 35 4 (gl M9.l k).length (ltCells (gl M9.l k)), .blk b7 (.cells (mlArr M9 (vsel vf vg k)) 24), .sl vf 35 4 M9.l.length (ltCells M9.l), .blk b3 (.cells (mlArr M9 vf) 24)] ww ∧ nn = M9.l.length - k ∧ k ≤ M9.l.length) (M9.l.length - (0)) ⟨0, (Value.slice none 0 0), h.only ⟨rfl, rfl, rfl, rfl, rfl, rfl, rfl, slot_int rfl (by omega), trivial⟩, s.as ⟨rfl, rfl, rfl, rfl, trivial⟩, rfl, Nat.zero_le _⟩ ?_
      rintro _ f w1 ⟨k, vg, h, s, hnn, hp0⟩
      refine c_seq fun K9 hK9 => ?_
      refine c_region ?_
      refine s_pure h (ru_lss (h.ev rfl) (h.ev rfl)) rfl ?_; intro f h
      refine s_nil ?_
      refine hK9 _ _ ?_
      refine c_seq fun K10 hK10 => ?_
      refine c_cond h rfl (fun hc => ?_) (fun hc => ?_)
      · replace hc := of_decide_eq_true hc
        refine wpIn_skip ?_
        refine hK10 _ _ ?_
        refine c_seq fun K11 hK11 => ?_
        refine wpIn_block ?_
        refine c_seq fun K12 hK12 => ?_
        refine c_region ?_
        refine s_load_row 1 h s row24 rfl rfl (rfl) rfl ?_; intro f h
        have hkl : k < M9.l.length := by omega
        obtain ⟨e0, e1⟩ := rot_last hkl hr
        have hrl := rotL_len (l := M9.l) (k := k) (by omega)
        refine s_call h s fnc17 (last_any { M9 with l := rotL M9.l k } (vsel vf vg k) 0 _ (rd_sel (RdZ.of_own (s.getSl 2 rfl)) (RdZ.of_own (s.getSl 0 rfl))) (by show (rotL M9.l k).length ≤ 1000; omega)) rfl rfl ?_; rintro f w1 v37 ⟨vy, rfl, hvy⟩ hE h sq
        replace s := s.sl_new hE hvy
        refine s_pure h (ru_move (h.ev rfl)) rfl ?_; intro f h
        refine s_pure h (ru_extract (h.ev rfl) rfl) rfl ?_; intro f h
        refine s_pure h (ru_extract (h.ev rfl) rfl) rfl ?_; intro f h
        refine s_alloc (mlArr zMl (.slice none 0 0)) h s zero24 rfl rfl ?_; intro f w1 b8 h s
        refine s_store_row 0 h s row24 rfl rfl rfl (rfl) (rfl) (mlArr_ones _ _ (own_one (s.getSl 1 rfl))) ?_; intro w1 s
        refine s_pure h (ru_assign (h.ev rfl)) rfl ?_; intro f h
        refine s_nil ?_
        refine hK12 _ _ ?_
        refine c_seq fun K13 hK13 => ?_
        refine c_seq fun K14 hK14 => ?_
        refine c_region ?_
        refine s_pure h (ru_move (h.ev rfl)) rfl ?_; intro f h
        refine s_pure h (ru_val (.bool false) (ru_neq (h.ev rfl) (h.ev rfl)) (congrArg Value.bool (decide_eq_false (fun h9 => h9 e0)))) rfl ?_; intro f h
        refine s_nil ?_
        refine hK14 _ _ ?_
        refine wpIn_cond_false (h.ev rfl) ?_
        refine wpIn_skip ?_
        refine hK13 _ _ ?_
        refine c_region ?_
        refine s_load_row 0 h s row24 rfl rfl (rfl) rfl ?_; intro f h
        refine s_store_row 3 h s row24 rfl rfl rfl (rfl) (rfl) (mlArr_ones _ _ (own_one (s.getSl 1 rfl))) ?_; intro w1 s
        refine s_nil ?_
        refine b_norm ?_
        refine hK11 _ _ ?_
        refine c_region ?_
        refine s_pure h (ru_add (h.ev rfl) (h.ev rfl) (by omega)) rfl ?_; intro f h
        replace s := s.nilSl 35 4
        refine s_pure h (ru_move (h.ev rfl)) rfl ?_; intro f h
        refine s_nil ?_
        refine t_norm ?_
        exact ⟨_, by omega, ⟨k + 1, vy, h.only ⟨rfl, rfl, rfl, rfl, rfl, rfl, rfl, slot_int rfl (by omega), trivial⟩, St.as (s.pick _ (List.Sublist.cons _ (List.Sublist.cons _ (List.Sublist.cons_cons _ (List.Sublist.cons _ (List.Sublist.cons_cons _ (List.Sublist.cons_cons _ (List.Sublist.cons_cons _ (List.nil_sublist _))))))))) ⟨sl_eq (by rw [e1]; rfl) (by rw [e1]; rfl), cells_eq (by rw [e1]; rfl), rfl, rfl, trivial⟩, rfl, by omega⟩⟩
      · replace hc := of_decide_eq_false hc
        refine wpIn_exit ?_
        refine t_exit ?_
        refine t_exit ?_
        refine b_exit ?_
        refine hK7 _ _ ?_
        refine c_seq fun K15 hK15 => ?_
        refine c_region ?_
        refine s_pure h (ru_move (h.ev rfl)) rfl ?_; intro f h
        refine s_pure h (ru_remt (h.ev rfl) (h.ev rfl) (by omega)) rfl ?_; intro f h
        refine s_pure h (ru_add (h.ev rfl) (h.ev rfl) (by omega)) rfl ?_; intro f h
        refine s_pure h (ru_val (.int .i64 T9) (ru_remt (h.ev rfl) (h.ev rfl) (by omega)) (by rw [hT9])) rfl ?_; intro f h
        refine s_pure h (ru_assign (h.ev rfl)) rfl ?_; intro f h
        refine s_nil ?_
        refine hK15 _ _ ?_
        refine c_seq fun K16 hK16 => ?_
        refine c_region ?_
        obtain rfl : k = M9.l.length := by omega
        have q1 : passE M9 T9 = 0 := passE_0 (by rw [hr, decide_eq_false (by omega)]; rfl)
        have q2 := passM_ok q1
        obtain ⟨hb1, hb2, hb3, _⟩ := (right_iff M9).1 hr
        refine s_load_row 3 h s row24 rfl rfl (rfl) rfl ?_; intro f h
        refine s_pure h (ru_move (h.ev rfl)) rfl ?_; intro f h
        refine s_call h s fnc9 (pass_any M9 vf T9 _ (RdZ.of_own (s.getSl 2 rfl)) (by omega)) rfl rfl ?_; rintro f w1 v51 ⟨vq, rfl, hvq⟩ hE h sq
        replace s := s.sl_new hE hvq
        refine s_pure h (ru_move (h.ev rfl)) rfl ?_; intro f h
        refine s_pure h (ru_extract (h.ev rfl) rfl) rfl ?_; intro f h
        refine s_pure h (ru_extract (h.ev rfl) rfl) rfl ?_; intro f h
        refine s_alloc (mlArr zMl (.slice none 0 0)) h s zero24 rfl rfl ?_; intro f w1 b10 h s
        refine s_store_row 0 h s row24 rfl rfl rfl (rfl) (rfl) (mlArr_ones _ _ (own_one (s.getSl 1 rfl))) ?_; intro w1 s
        refine s_pure h (ru_assign (h.ev rfl)) rfl ?_; intro f h
        refine s_nil ?_
        refine hK16 _ _ ?_
        refine c_seq fun K17 hK17 => ?_
        refine c_seq fun K18 hK18 => ?_
        refine c_region ?_
        refine s_pure h (ru_move (h.ev rfl)) rfl ?_; intro f h
        refine s_pure h (ru_val (.bool false) (ru_neq (h.ev rfl) (h.ev rfl)) (congrArg Value.bool (decide_eq_false (fun h9 => h9 q1)))) rfl ?_; intro f h
        refine s_pure h (ru_move (h.ev rfl)) rfl ?_; intro f h
        refine s_on h rfl rfl rfl ?_
        refine s_load_row 3 h s row24 rfl rfl (rfl) rfl ?_; intro f h
        refine s_on h rfl rfl rfl ?_
        refine s_load_row 5 h s row24 rfl rfl (rfl) rfl ?_; intro f h
        refine s_on h rfl rfl rfl ?_
        refine s_call h s fnc13 (ret_val (.bool true) (like_any M9 M9 (vsel vf vg M9.l.length) vf _ (by have h9 := rd_sel (RdZ.of_own (s.getSl 4 rfl)) (RdZ.of_own (s.getSl 2 rfl)); rwa [rotL_end] at h9) (RdZ.of_own (s.getSl 4 rfl)) (by omega) (by omega)) (congrArg Value.bool (like_self _))) rfl rfl ?_; intro f w1 v9 hT hE h s; obtain rfl := hT
        refine s_on h rfl rfl rfl ?_
        refine s_pure h (ru_val (.bool false) (ru_not (h.ev rfl)) rfl) rfl ?_; intro f h
        refine s_pure h (ru_pick_f (h.ev rfl) (h.ev rfl)) rfl ?_; intro f h
        refine s_pure h (ru_move (h.ev rfl)) rfl ?_; intro f h
        refine s_on h rfl rfl rfl ?_
        refine s_pure h (ru_field fld24_0 (h.ev rfl)) rfl ?_; intro f h
        refine s_on h rfl rfl rfl ?_
        refine s_load_at1 (cell_of_has (Has.of_own s 0 rfl) 0 (rfl)) h one22 rfl rfl ?_; intro f h
        refine s_on h rfl rfl rfl ?_
        refine s_len_sl 1 h s Try.underlying22 rfl rfl rfl ?_; intro f h
        refine s_on h rfl rfl rfl ?_
        refine s_pure h (ru_field fld24_0 (h.ev rfl)) rfl ?_; intro f h
        refine s_on h rfl rfl rfl ?_
        refine s_load_at1 (cell_of_has (Has.of_own s 5 rfl) 0 (rfl)) h one22 rfl rfl ?_; intro f h
        refine s_on h rfl rfl rfl ?_
        refine s_len_sl 4 h s Try.underlying22 rfl rfl rfl ?_; intro f h
        refine s_on h rfl rfl rfl ?_
        refine s_pure h (ru_val (.bool false) (ru_neq (h.ev rfl) (h.ev rfl)) (congrArg Value.bool (decide_eq_false (by rw [q2]; exact fun h9 => h9 rfl)))) rfl ?_; intro f h
        refine s_pure h (ru_pick_f (h.ev rfl) (h.ev rfl)) rfl ?_; intro f h
        refine s_pure h (ru_move (h.ev rfl)) rfl ?_; intro f h
        refine s_on h rfl rfl rfl ?_
        refine s_pure h (ru_field fld24_2 (h.ev rfl)) rfl ?_; intro f h
        refine s_on h rfl rfl rfl ?_
        refine s_load_at1 (cell_of_has (Has.of_own s 0 rfl) 2 (rfl)) h one3 rfl rfl ?_; intro f h
        refine s_on h rfl rfl rfl ?_
        refine s_pure h (ru_field fld24_2 (h.ev rfl)) rfl ?_; intro f h
        refine s_on h rfl rfl rfl ?_
        refine s_load_at1 (cell_of_has (Has.of_own s 5 rfl) 2 (rfl)) h one3 rfl rfl ?_; intro f h
        refine s_on h rfl rfl rfl ?_
        refine s_pure h (ru_val (.bool false) (ru_lss (h.ev rfl) (h.ev rfl)) (congrArg Value.bool (decide_eq_false (by rw [q2]; show ¬ M9.now + min T9 (1099511627776 - M9.now) < M9.now; omega)))) rfl ?_; intro f h
        refine s_pure h (ru_pick_f (h.ev rfl) (h.ev rfl)) rfl ?_; intro f h
        refine s_pure h (ru_move (h.ev rfl)) rfl ?_; intro f h
        refine s_on h rfl rfl rfl ?_
        refine s_call h s fnc12 (alive_any _) rfl rfl ?_; intro f w1 v9 hT hE h s; obtain rfl := hT
        refine s_on h rfl rfl rfl ?_
        refine s_pure h (ru_val (.bool false) (ru_not (h.ev rfl)) rfl) rfl ?_; intro f h
        refine s_pure h (ru_pick_f (h.ev rfl) (h.ev rfl)) rfl ?_; intro f h
        refine s_nil ?_
        refine hK18 _ _ ?_
        refine wpIn_cond_false (h.ev rfl) ?_
        refine wpIn_skip ?_
        refine hK17 _ _ ?_
        refine c_seq fun K19 hK19 => ?_
        refine c_region ?_
        refine s_load_row 5 h s row24 rfl rfl (rfl) rfl ?_; intro f h
        refine s_pure h (ru_move (h.ev rfl)) rfl ?_; intro f h
        refine s_call h s fnc8 (post_any M9 vf 0 31 dy _ (RdZ.of_own (s.getSl 4 rfl)) (by omega)) rfl rfl ?_; rintro f w1 v85 ⟨vp, rfl, hvp⟩ hE h sq
        replace s := s.sl_new hE hvp
        refine s_pure h (ru_move (h.ev rfl)) rfl ?_; intro f h
        refine s_pure h (ru_extract (h.ev rfl) rfl) rfl ?_; intro f h
        refine s_pure h (ru_extract (h.ev rfl) rfl) rfl ?_; intro f h
        refine s_pure h (ru_extract (h.ev rfl) rfl) rfl ?_; intro f h
        refine s_alloc (mlArr zMl (.slice none 0 0)) h s zero24 rfl rfl ?_; intro f w1 b12 h s
        refine s_store_row 0 h s row24 rfl rfl rfl (rfl) (rfl) (mlArr_ones _ _ (own_one (s.getSl 1 rfl))) ?_; intro w1 s
        refine s_pure h (ru_assign (h.ev rfl)) rfl ?_; intro f h
        refine s_pure h (ru_assign (h.ev rfl)) rfl ?_; intro f h
        refine s_nil ?_
        refine hK19 _ _ ?_
        refine c_seq fun K20 hK20 => ?_
        refine c_seq fun K21 hK21 => ?_
        refine c_region ?_
        refine s_pure h (ru_move (h.ev rfl)) rfl ?_; intro f h
        refine s_pure h (ru_neq (h.ev rfl) (h.ev rfl)) rfl ?_; intro f h
        refine s_nil ?_
        refine hK21 _ _ ?_
        refine c_cond h rfl (fun hc => ?_) (fun hc => ?_)
        · replace hc := of_decide_eq_true hc
          refine c_seq fun K22 hK22 => ?_
          refine c_region ?_
          refine s_pure h (ru_move (h.ev rfl)) rfl ?_; intro f h
          refine s_pure h (ru_val (.bool true) (ru_eql (h.ev rfl) (h.ev rfl)) (congrArg Value.bool (decide_eq_true (post_8 hr (by omega) hc)))) rfl ?_; intro f h
          refine s_pure h (ru_assign (h.ev rfl)) rfl ?_; intro f h
          refine s_nil ?_
          refine hK22 _ _ ?_
          refine wpIn_ret ?_
          refine t_ret ?_
          exact e_tmp rfl h s rfl (rfl)
        · have h0 : postE M9 0 31 dy = 0 := by have := of_decide_eq_false hc; omega
          obtain ⟨hp2, hp3⟩ := postM_ok h0
          obtain ⟨e2, e3, e4⟩ := post_take h0
          refine wpIn_skip ?_
          refine hK20 _ _ ?_
          refine c_seq fun K23 hK23 => ?_
          refine c_region ?_
          refine s_load_row 0 h s row24 rfl rfl (rfl) rfl ?_; intro f h
          refine s_pure h (ru_field fld24_0 (h.ev rfl)) rfl ?_; intro f h
          refine s_load_at1 (cell_of_has (Has.of_own s 7 rfl) 0 (rfl)) h one22 rfl rfl ?_; intro f h
          refine s_len_sl 6 h s Try.underlying22 rfl rfl rfl ?_; intro f h
          refine s_call h s fnc14 (take_any (postM M9 0 31 dy) vp (M9.l.length : Int) _ (RdZ.of_own (s.getSl 1 rfl)) (by have := post_len (m := M9) (f := 0) (t := 31) (d := dy) hml; omega)) rfl rfl ?_; rintro f w1 v98 ⟨vz, rfl, hvz⟩ hE h sq
          replace s := s.sl_new hE hvz
          refine s_pure h (ru_move (h.ev rfl)) rfl ?_; intro f h
          refine s_pure h (ru_extract (h.ev rfl) rfl) rfl ?_; intro f h
          refine s_pure h (ru_extract (h.ev rfl) rfl) rfl ?_; intro f h
          refine s_pure h (ru_extract (h.ev rfl) rfl) rfl ?_; intro f h
          refine s_alloc (mlArr zMl (.slice none 0 0)) h s zero24 rfl rfl ?_; intro f w1 b15 h s
          refine s_alloc (ltArr zLt) h s zero35 rfl rfl ?_; intro f w1 b16 h s
          refine s_store_row 1 h s row24 rfl rfl rfl (rfl) (rfl) (mlArr_ones _ _ (own_one (s.getSl 2 rfl))) ?_; intro w1 s
          refine s_store_row 0 h s row35 rfl rfl rfl (rfl) (rfl) (ltArr_ones _) ?_; intro w1 s
          refine s_pure h (ru_assign (h.ev rfl)) rfl ?_; intro f h
          refine s_nil ?_
          refine hK23 _ _ ?_
          refine c_seq fun K24 hK24 => ?_
          refine c_region ?_
          refine s_pure h (ru_move (h.ev rfl)) rfl ?_; intro f h
          refine s_pure h (ru_val (.bool true) (ru_eql (h.ev rfl) (h.ev rfl)) (congrArg Value.bool (decide_eq_true (e2)))) rfl ?_; intro f h
          refine s_pure h (ru_move (h.ev rfl)) rfl ?_; intro f h
          refine s_on h rfl rfl rfl ?_
          refine s_pure h (ru_field fld35_0 (h.ev rfl)) rfl ?_; intro f h
          refine s_on h rfl rfl rfl ?_
          refine s_load_at1 (cell_of_has (Has.of_own s 0 rfl) 0 (rfl)) h one3 rfl rfl ?_; intro f h
          refine s_on h rfl rfl rfl ?_
          refine s_pure h (ru_move (h.ev rfl)) rfl ?_; intro f h
          refine s_on h rfl rfl rfl ?_
          refine s_pure h (ru_val (.bool true) (ru_eql (h.ev rfl) (h.ev rfl)) (congrArg Value.bool (decide_eq_true (by rw [e3, hp3])))) rfl ?_; intro f h
          refine s_pure h (ru_pick_t (h.ev rfl) (h.ev rfl)) rfl ?_; intro f h
          refine s_pure h (ru_move (h.ev rfl)) rfl ?_; intro f h
          refine s_on h rfl rfl rfl ?_
          refine s_pure h (ru_field fld35_3 (h.ev rfl)) rfl ?_; intro f h
          refine s_on h rfl rfl rfl ?_
          refine s_load_at1 (cell_of_has (Has.of_own s 0 rfl) 3 (rfl)) h one9 rfl rfl ?_; intro f h
          refine s_on h rfl rfl rfl ?_
          refine s_pure h (ru_move (h.ev rfl)) rfl ?_; intro f h
          refine s_on h rfl rfl rfl ?_
          refine s_pure h (ru_val (.bool true) (ru_eql_str (h.ev rfl) (h.ev rfl)) (congrArg Value.bool (decide_eq_true (by rw [e3])))) rfl ?_; intro f h
          refine s_pure h (ru_pick_t (h.ev rfl) (h.ev rfl)) rfl ?_; intro f h
          refine s_pure h (ru_move (h.ev rfl)) rfl ?_; intro f h
          refine s_on h rfl rfl rfl ?_
          refine s_pure h (ru_move (h.ev rfl)) rfl ?_; intro f h
          refine s_on h rfl rfl rfl ?_
          refine s_pure h (ru_field fld24_1 (h.ev rfl)) rfl ?_; intro f h
          refine s_on h rfl rfl rfl ?_
          refine s_load_at1 (cell_of_has (Has.of_own s 10 rfl) 1 (rfl)) h one3 rfl rfl ?_; intro f h
          refine s_on h rfl rfl rfl ?_
          refine s_pure h (ru_add (h.ev rfl) (h.ev rfl) (by omega)) rfl ?_; intro f h
          refine s_on h rfl rfl rfl ?_
          refine s_pure h (ru_val (.bool true) (ru_eql (h.ev rfl) (h.ev rfl)) (congrArg Value.bool (decide_eq_true (hp3)))) rfl ?_; intro f h
          refine s_pure h (ru_pick_t (h.ev rfl) (h.ev rfl)) rfl ?_; intro f h
          refine s_pure h (ru_move (h.ev rfl)) rfl ?_; intro f h
          refine s_on h rfl rfl rfl ?_
          refine s_pure h (ru_field fld24_0 (h.ev rfl)) rfl ?_; intro f h
          refine s_on h rfl rfl rfl ?_
          refine s_load_at1 (cell_of_has (Has.of_own s 1 rfl) 0 (rfl)) h one22 rfl rfl ?_; intro f h
          refine s_on h rfl rfl rfl ?_
          refine s_len_sl 2 h s Try.underlying22 rfl rfl rfl ?_; intro f h
          refine s_on h rfl rfl rfl ?_
          refine s_pure h (ru_field fld24_0 (h.ev rfl)) rfl ?_; intro f h
          refine s_on h rfl rfl rfl ?_
          refine s_load_at1 (cell_of_has (Has.of_own s 10 rfl) 0 (rfl)) h one22 rfl rfl ?_; intro f h
          refine s_on h rfl rfl rfl ?_
          refine s_len_sl 9 h s Try.underlying22 rfl rfl rfl ?_; intro f h
          refine s_on h rfl rfl rfl ?_
          refine s_pure h (ru_val (.bool true) (ru_eql (h.ev rfl) (h.ev rfl)) (congrArg Value.bool (decide_eq_true (by rw [e4])))) rfl ?_; intro f h
          refine s_pure h (ru_pick_t (h.ev rfl) (h.ev rfl)) rfl ?_; intro f h
          refine s_pure h (ru_assign (h.ev rfl)) rfl ?_; intro f h
          refine s_nil ?_
          refine hK24 _ _ ?_
          refine wpIn_ret ?_
          exact e_tmp rfl h s rfl (rfl)
end Go.Proofs.Ytbgkoikpdhecfaa
