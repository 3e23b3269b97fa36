/- What RewriteLike answers: for all arguments. -/
import Derived.Test.YthnmonfhanbghaaXl
set_option linter.unusedVariables false
set_option linter.unusedSimpArgs false
set_option linter.unusedSectionVars false
namespace Go.Proofs.Ythnmonfhanbghaa
open Go.RowKit
set_option maxHeartbeats 6000000 in
theorem lrlike_any (l : List Tg) (vh : Value) (p0 : Pk) (vs : Value) (sx : ByteArray) (mr : Int) (w : World) (hR : RdZ w vh 67 l.length (tgCells l)) (hP0 : RdZ w vs 34 p0.1.length (eCells p0.1)) : Calls Try.prog 6 [vh, .agg (pkArr vs p0.2.1 p0.2.2), .string sx, .int .i64 mr].toArray w (Ret w (is (.bool true))) := by
  have hT := tg_take hR (min l.length 34) (by omega)
  obtain ⟨t, ht⟩ : ∃ x9, x9 = l.take (min l.length 34) := ⟨_, rfl⟩
  rw [← ht] at hT
  have htl : t.length ≤ 34 := by rw [ht, List.length_take]; omega
  have hP : RdE w (cutV vs (min p0.1.length 6)) (cutP p0).1 := cutP_rd hP0
  have hpl := cutP_len p0
  have hsx : (sx.extract 0 (min sx.size 64)).size ≤ 64 := by rw [ByteArray.size_extract]; omega
  refine c_enter Try.func6 rfl Try.ntmps6 rfl [(0, vh), (1, .agg (pkArr vs p0.2.1 p0.2.2)), (2, .string sx), (3, .int .i64 mr)] (by simp) fun f h => ?_
  have s := St.start w
  refine c_seq fun K1 hK1 => ?_
  refine c_region ?_
  refine s_box (pkArr vs p0.2.1 p0.2.2) h s rfl rfl rfl ?_; intro f w1 b5 h s
  refine s_pure h (ru_assign (h.ev rfl)) rfl ?_; intro f h
  refine s_nil ?_
  refine hK1 _ _ ?_
  refine c_seq fun K2 hK2 => ?_
  have hbs := s.ext.le
  refine' c_reg2 3 [0, 4, 5, 6, 7, 8, 11] [] [[], [0], [], [0, 1, 2], [], [], [5], [5, 6], [4, 5, 6, 7], [0, 1, 2, 3], [0, 1, 2, 3, 9], [0, 1, 2, 3, 4, 5, 6, 7, 8, 9, 10]] (is _ :: is _ :: is _ :: is undef :: is _ :: is _ :: is _ :: is _ :: is _ :: is undef :: is undef :: is _ :: []) (fun _ => True) h s (by kernel_rfl) (by kernel_rfl) (by kernel_rfl) (by kernel_rfl) rfl (fun _ _ h _ => h) (trivial) ⟨⟨_, rfl⟩, ⟨_, rfl⟩, ⟨_, rfl⟩, ⟨_, rfl⟩, ⟨_, rfl⟩, ⟨_, rfl⟩, ⟨_, rfl⟩, trivial⟩ ⟨is_mono _, is_mono _, is_mono _, is_mono _, is_mono _, is_mono _, is_mono _, is_mono _, is_mono _, is_mono _, is_mono _, is_mono _, trivial⟩ (And.intro ?_ (And.intro ?_ (And.intro ?_ (And.intro ?_ (And.intro ?_ (And.intro ?_ (And.intro ?_ (And.intro ?_ (And.intro ?_ (And.intro ?_ (And.intro ?_ (And.intro ?_ (trivial))))))))))))) ?_
  rotate_left 9
  · refine obH_in 17 rfl (by decide) ?_
    intro f9 w2 hE hs hl
    have e0 : f9.tmps.getD 0 undef = _ := sx_old hl 0 (by kernel_rfl) (by kernel_rfl) (h.holds 0 _ rfl)
    have h := fin_slot [(0, _)] hs rfl (holds_lk ⟨e0, trivial⟩)
    refine s_pure h (ru_move (h.ev rfl)) rfl ?_; intro f h
    refine s_nil ?_
    have e9 := h.holds 17 _ rfl
    refine ⟨?_, rfl⟩
    refine e9.trans ?_
    exact rfl
  · refine obF_in 18 rfl (by decide) (by decide) ?_
    intro f9 w2 hE hs hd9 hl
    have e17 : f9.tmps.getD 17 undef = _ := sx_get hl 17 0 (by kernel_rfl) (by kernel_rfl)
    have h := fin_slot [(17, _)] hs hd9 (holds_lk ⟨e17, trivial⟩)
    have s := s.more hE
    have z := St.start w2
    refine s_call h s fnc7 (pfew_any vh l _ (hR.keep s.ext)) rfl rfl ?_; intro f w1 v9 hT hE h s; obtain rfl := hT
    refine s_nil ?_
    have e9 := h.holds 18 _ rfl
    refine ⟨?_, hE, fun h9 => absurd h9 (by decide)⟩
    refine e9.trans ?_
    exact rfl
  · refine obF_in 19 rfl (by decide) (by decide) ?_
    intro f9 w2 hE hs hd9 hl
    have e5 : f9.tmps.getD 5 undef = _ := sx_old hl 5 (by kernel_rfl) (by kernel_rfl) (h.holds 5 _ rfl)
    have h := fin_slot [(5, _)] hs hd9 (holds_lk ⟨e5, trivial⟩)
    have s := s.more hE
    have z := St.start w2
    refine s_load_row 0 h s row25 rfl rfl (pkArr_size _ _ _) rfl ?_; intro f h
    refine s_nil ?_
    have e9 := h.holds 19 _ rfl
    refine ⟨?_, Ext.refl _, fun h9 => absurd h9 (by decide)⟩
    refine e9.trans ?_
    exact rfl
  · exact obT_in (by decide) (by decide)
  · refine obH_in 21 rfl (by decide) ?_
    intro f9 w2 hE hs hl
    have e2 : f9.tmps.getD 2 undef = _ := sx_old hl 2 (by kernel_rfl) (by kernel_rfl) (h.holds 2 _ rfl)
    have h := fin_slot [(2, _)] hs rfl (holds_lk ⟨e2, trivial⟩)
    refine s_pure h (ru_move (h.ev rfl)) rfl ?_; intro f h
    refine s_nil ?_
    have e9 := h.holds 21 _ rfl
    refine ⟨?_, rfl⟩
    refine e9.trans ?_
    exact rfl
  · refine obH_in 22 rfl (by decide) ?_
    intro f9 w2 hE hs hl
    have e2 : f9.tmps.getD 2 undef = _ := sx_old hl 2 (by kernel_rfl) (by kernel_rfl) (h.holds 2 _ rfl)
    have h := fin_slot [(2, _)] hs rfl (holds_lk ⟨e2, trivial⟩)
    refine s_pure h (ru_move (h.ev rfl)) rfl ?_; intro f h
    refine s_nil ?_
    have e9 := h.holds 22 _ rfl
    refine ⟨?_, rfl⟩
    refine e9.trans ?_
    exact rfl
  · refine obH_in 23 rfl (by decide) ?_
    intro f9 w2 hE hs hl
    have e22 : f9.tmps.getD 22 undef = _ := sx_get hl 22 5 (by kernel_rfl) (by kernel_rfl)
    have h := fin_slot [(22, _)] hs rfl (holds_lk ⟨e22, trivial⟩)
    refine s_pure h (ru_len_str Try.underlying9 (h.ev rfl)) rfl ?_; intro f h
    refine s_nil ?_
    have e9 := h.holds 23 _ rfl
    refine ⟨?_, rfl⟩
    refine e9.trans ?_
    exact rfl
  · refine obH_in 24 rfl (by decide) ?_
    intro f9 w2 hE hs hl
    have e23 : f9.tmps.getD 23 undef = _ := sx_get hl 23 6 (by kernel_rfl) (by kernel_rfl)
    have h := fin_slot [(23, _)] hs rfl (holds_lk ⟨e23, trivial⟩)
    refine s_pure h (ru_min (h.ev rfl) (h.ev rfl)) rfl ?_; intro f h
    refine s_nil ?_
    have e9 := h.holds 24 _ rfl
    refine ⟨?_, rfl⟩
    refine e9.trans ?_
    exact rfl
  · refine obH_in 25 rfl (by decide) ?_
    intro f9 w2 hE hs hl
    have e21 : f9.tmps.getD 21 undef = _ := sx_get hl 21 4 (by kernel_rfl) (by kernel_rfl)
    have e24 : f9.tmps.getD 24 undef = _ := sx_get hl 24 7 (by kernel_rfl) (by kernel_rfl)
    have h := fin_slot [(21, _), (24, _)] hs rfl (holds_lk ⟨e21, e24, trivial⟩)
    refine s_pure h (ru_slice_str (min sx.size 64) Try.underlying9 (h.ev rfl) (h.ev rfl) (by split <;> omega) (by omega)) rfl ?_; intro f h
    refine s_nil ?_
    have e9 := h.holds 25 _ rfl
    refine ⟨?_, rfl⟩
    refine e9.trans ?_
    exact rfl
  · exact obT_in (by decide) (by decide)
  · exact obT_in (by decide) (by decide)
  · refine obH_in 2 rfl (by decide) ?_
    intro f9 w2 hE hs hl
    have e25 : f9.tmps.getD 25 undef = _ := sx_get hl 25 8 (by kernel_rfl) (by kernel_rfl)
    have h := fin_slot [(25, _)] hs rfl (holds_lk ⟨e25, trivial⟩)
    refine s_pure h (ru_assign (h.ev rfl)) rfl ?_; intro f h
    refine s_nil ?_
    have e9 := h.holds 2 _ rfl
    refine ⟨?_, rfl⟩
    refine e9.trans ?_
    exact rfl
  · intro f9 w2 hE hs hd9 hWp hT hR hFr hDj
    replace h := sl_new (ops := _) [(17, _), (18, _), (19, _), (21, _), (22, _), (23, _), (24, _), (25, _), (2, _)] h hs hd9 hR ⟨hT 0 17 (by decide) rfl, hT 1 18 (by decide) rfl, hT 2 19 (by decide) rfl, hT 4 21 (by decide) rfl, hT 5 22 (by decide) rfl, hT 6 23 (by decide) rfl, hT 7 24 (by decide) rfl, hT 8 25 (by decide) rfl, hT 11 2 (by decide) rfl, trivial⟩ (by kernel_rfl)
    replace s := s.more hE
    clear hT hR hFr hDj
    refine LstW.of ?_
    refine s_call h s fnc8 (pcut_any p0 vs _ (hP0.keep s.ext)) rfl rfl ?_; intro f w1 v9 hT hE h s; obtain rfl := hT
    refine s_pure h (ru_assign (h.ev rfl)) rfl ?_; intro f h
    refine s_store_row 0 h s row25 rfl rfl rfl (pkArr_size _ _ _) (pkArr_size _ _ _) (pkArr_ones _ _ (rd_one (hP.keep s.ext))) ?_; intro w1 s
    refine s_nil ?_
    refine hK2 _ _ ?_
    refine c_seq fun K3 hK3 => ?_
    refine c_region ?_
    refine s_pure h (ru_move (h.ev rfl)) rfl ?_; intro f h
    refine s_load_row 0 h s row25 rfl rfl (pkArr_size _ _ _) rfl ?_; intro f h
    refine s_call h s fnc9 (pstep_any t (cutV vh (min l.length 34)) (cutP p0) (cutV vs (min p0.1.length 6)) _ (hT.keep s.ext) (by first | omega | decide) (hP.keep s.ext) (by first | omega | decide)) rfl rfl ?_; rintro f w1 v29 ⟨va, Ka, kva, rfl, hKa, hG⟩ hE h sq; replace s := s.add hG; clear hG
    refine s_pure h (ru_move (h.ev rfl)) rfl ?_; intro f h
    refine s_pure h (ru_extract (h.ev rfl) rfl) rfl ?_; intro f h
    refine s_pure h (ru_extract (h.ev rfl) rfl) rfl ?_; intro f h
    refine s_pure h (ru_assign (h.ev rfl)) rfl ?_; intro f h
    refine s_pure h (ru_assign (h.ev rfl)) rfl ?_; intro f h
    refine s_nil ?_
    refine hK3 _ _ ?_
    refine c_seq fun K4 hK4 => ?_
    refine c_seq fun K5 hK5 => ?_
    cases e0 : (decide (rwE t (cutP p0) = 0) : Bool)
    · skip
      refine c_region ?_
      refine s_pure h (ru_move (h.ev rfl)) rfl ?_; intro f h
      refine s_pure h (ru_val (.bool true) (ru_neq (h.ev rfl) (h.ev rfl)) (congrArg Value.bool (by simpa using e0))) rfl ?_; intro f h
      refine s_nil ?_
      refine hK5 _ _ ?_
      refine wpIn_cond_true (h.ev rfl) ?_
      refine c_seq fun K6 hK6 => ?_
      refine c_region ?_
      obtain ⟨b1, b2⟩ := rwE_bad (of_decide_eq_false e0)
      have lKa : Ka.length = 0 := by rw [← outs_len, hKa, b1]; rfl
      refine s_call h s fnc14 (ret_val (.bool true) (palive_any _) (congrArg Value.bool (rfl))) rfl rfl ?_; intro f w1 v9 hT hE h s; obtain rfl := hT
      refine s_pure h (ru_move (h.ev rfl)) rfl ?_; intro f h
      refine s_on h rfl rfl rfl ?_
      refine s_pure h (ru_move (h.ev rfl)) rfl ?_; intro f h
      refine s_on h rfl rfl rfl ?_
      refine s_pure h (ru_lenZ ((((s.getG 0 rfl) (hP.keep s.ext))).1) Try.underlying28 (h.ev rfl)) rfl ?_; intro f h
      refine s_on h rfl rfl rfl ?_
      refine s_pure h (ru_val (.bool true) (ru_eql (h.ev rfl) (h.ev rfl)) (congrArg Value.bool (by rw [lKa]; rfl))) rfl ?_; intro f h
      refine s_pure h (ru_pick_t (h.ev rfl) (h.ev rfl)) rfl ?_; intro f h
      refine s_pure h (ru_assign (h.ev rfl)) rfl ?_; intro f h
      refine s_nil ?_
      refine hK6 _ _ ?_
      refine wpIn_ret ?_
      refine t_ret ?_
      exact e_tmp rfl h s rfl (rfl)
    · skip
      refine c_region ?_
      refine s_pure h (ru_move (h.ev rfl)) rfl ?_; intro f h
      refine s_pure h (ru_val (.bool false) (ru_neq (h.ev rfl) (h.ev rfl)) (congrArg Value.bool (by simpa using e0))) rfl ?_; intro f h
      refine s_nil ?_
      refine hK5 _ _ ?_
      refine wpIn_cond_false (h.ev rfl) ?_
      refine wpIn_skip ?_
      refine hK4 _ _ ?_
      refine c_seq fun K7 hK7 => ?_
      refine c_region ?_
      obtain ⟨r0, t0⟩ := rwE_is (of_decide_eq_true e0)
      obtain ⟨b1, b2⟩ := rwE_ok r0 t0
      rw [b2] at hKa
      obtain ⟨hr1, hr2, hr3, hr4⟩ := rightP_iff.1 r0
      have hsl := step_len (t := t) (p := (cutP p0))
      have lKa : Ka.length = (stepO t (cutP p0)).length := by rw [← hKa, outs_len]
      have dKa := outs_deep hKa (n := 1000) (by omega)
      refine s_load_row 1 h s row25 rfl rfl (pkArr_size _ _ _) rfl ?_; intro f h
      refine s_alloc (pkArr nilV 0 ByteArray.empty) h s zero25 rfl rfl ?_; intro f w1 b11 h s
      refine s_store_row 0 h s row25 rfl rfl rfl (pkArr_size _ _ _) (pkArr_size _ _ _) (pkArr_ones _ _ (rd_one (hP.keep s.ext))) ?_; intro w1 s
      refine s_nil ?_
      refine hK7 _ _ ?_
      refine c_seq fun K8 hK8 => ?_
      refine c_region ?_
      refine s_pure h (ru_move (h.ev rfl)) rfl ?_; intro f h
      refine s_pure h (ru_field fld25_2 (h.ev rfl)) rfl ?_; intro f h
      refine s_store_one 0 h s one9 rfl rfl rfl (by rw [pkArr_size]; omega) (rfl) ?_; intro w1 s
      replace s := s.recell (D := pkArr (cutV vs (min p0.1.length 6)) (cutP p0).2.1 ((sx.extract 0 (min sx.size 64)))) 0 rfl (rfl)
      refine s_nil ?_
      refine hK8 _ _ ?_
      refine c_seq fun K9 hK9 => ?_
      refine c_seq fun K10 hK10 => ?_
      refine c_region ?_
      refine s_pure h (ru_move (h.ev rfl)) rfl ?_; intro f h
      have hm9 := tm_lt mr
      refine s_pure h (ru_remt (h.ev rfl) (h.ev rfl) (by omega)) rfl ?_; intro f h
      refine s_pure h (ru_add (h.ev rfl) (h.ev rfl) (by omega)) rfl ?_; intro f h
      obtain ⟨d9, hd9, hd8⟩ := tm_nat mr
      refine s_pure h (ru_val (.int .i64 (d9 : Int)) (ru_remt (h.ev rfl) (h.ev rfl) (by omega)) (congrArg (Value.int .i64) hd9)) rfl ?_; intro f h
      refine s_pure h (ru_assign (h.ev rfl)) rfl ?_; intro f h
      refine s_nil ?_
      refine hK10 _ _ ?_
      refine c_seq fun K11 hK11 => ?_
      cases u0 : (decide (0 < (cutP p0).2.1) : Bool)
      · skip
        refine c_region ?_
        refine s_pure h (ru_field fld25_1 (h.ev rfl)) rfl ?_; intro f h
        refine s_load_at1 (V := .int .i64 (cutP p0).2.1) (cell_of_has (Has.of_own s 2 rfl) 1 (pk_n _ _ _)) h one3 rfl rfl ?_; intro f h
        refine s_pure h (ru_val (.bool false) (ru_gtr (h.ev rfl) (h.ev rfl)) (congrArg Value.bool ((decide_eq_decide.2 (by omega)).trans u0))) rfl ?_; intro f h
        refine s_pure h (ru_move (h.ev rfl)) rfl ?_; intro f h
        refine s_off (b := true) h rfl rfl rfl rfl ?_; intro f h
        refine s_off (b := true) h rfl rfl rfl rfl ?_; intro f h
        refine s_off (b := true) h rfl rfl rfl rfl ?_; intro f h
        refine s_off (b := true) h rfl rfl rfl rfl ?_; intro f h
        refine s_off (b := true) h rfl rfl rfl rfl ?_; intro f h
        refine s_pure h (ru_pick_f (h.ev rfl) (h.ev rfl)) rfl ?_; intro f h
        refine s_nil ?_
        refine hK11 _ _ ?_
        refine wpIn_cond_false (h.ev rfl) ?_
        refine wpIn_skip ?_
        refine hK9 _ _ ?_
        refine c_seq fun K12 hK12 => ?_
        refine c_region ?_
        have hz9 := zM_0 d9 u0
        replace s := s.recell (D := pkArr (cutV vs (min p0.1.length 6)) (likeP (cutP p0) (sx.extract 0 (min sx.size 64)) d9).2.1 (likeP (cutP p0) (sx.extract 0 (min sx.size 64)) d9).2.2) 0 rfl (by show pkArr _ _ _ = pkArr _ ((cutP p0).2.1 + zM (cutP p0) d9) _; rw [hz9]; rw [Int.add_zero]; rfl)
        have hQ9 : RdE w (cutV vs (min p0.1.length 6)) (likeP (cutP p0) (sx.extract 0 (min sx.size 64)) d9).1 := hP
        have hQl : (likeP (cutP p0) (sx.extract 0 (min sx.size 64)) d9).1.length ≤ 6 := hpl
        clear hz9
        refine s_pure h (ru_move (h.ev rfl)) rfl ?_; intro f h
        refine s_load_row 0 h s row25 rfl rfl (pkArr_size _ _ _) rfl ?_; intro f h
        refine s_call h s fnc9 (pstep_any t (cutV vh (min l.length 34)) (likeP (cutP p0) (sx.extract 0 (min sx.size 64)) d9) (cutV vs (min p0.1.length 6)) _ (hT.keep s.ext) (by first | omega | decide) (hQ9.keep s.ext) (by first | omega | decide)) rfl rfl ?_; rintro f w1 v65 ⟨vb, Kb, kvb, rfl, hKb, hG⟩ hE h sq; replace s := s.add hG; clear hG
        refine s_pure h (ru_move (h.ev rfl)) rfl ?_; intro f h
        refine s_pure h (ru_extract (h.ev rfl) rfl) rfl ?_; intro f h
        refine s_pure h (ru_extract (h.ev rfl) rfl) rfl ?_; intro f h
        refine s_pure h (ru_assign (h.ev rfl)) rfl ?_; intro f h
        refine s_pure h (ru_assign (h.ev rfl)) rfl ?_; intro f h
        refine s_nil ?_
        refine hK12 _ _ ?_
        refine c_seq fun K13 hK13 => ?_
        refine c_seq fun K14 hK14 => ?_
        refine c_region ?_
        obtain ⟨g3, g4⟩ := rwE_ok (t := t) (like_right (d := (sx.extract 0 (min sx.size 64))) d9 r0 hsx) t0
        rw [g4, like_step (sx.extract 0 (min sx.size 64)) d9 hr2 hr3] at hKb
        have hlk : Kb.length = Ka.length := by rw [← outs_len Kb, hKb, List.length_map, ← hKa, outs_len]
        refine s_pure h (ru_move (h.ev rfl)) rfl ?_; intro f h
        refine s_pure h (ru_val (.bool false) (ru_neq (h.ev rfl) (h.ev rfl)) (congrArg Value.bool (by rw [g3]; rfl))) rfl ?_; intro f h
        refine s_pure h (ru_move (h.ev rfl)) rfl ?_; intro f h
        refine s_on h rfl rfl rfl ?_
        refine s_pure h (ru_move (h.ev rfl)) rfl ?_; intro f h
        refine s_on h rfl rfl rfl ?_
        refine s_pure h (ru_lenZ ((((s.getG 2 rfl) (hP.keep s.ext))).1) Try.underlying28 (h.ev rfl)) rfl ?_; intro f h
        refine s_on h rfl rfl rfl ?_
        refine s_pure h (ru_move (h.ev rfl)) rfl ?_; intro f h
        refine s_on h rfl rfl rfl ?_
        refine s_pure h (ru_lenZ ((((s.getG 0 rfl) (hQ9.keep s.ext))).1) Try.underlying28 (h.ev rfl)) rfl ?_; intro f h
        refine s_on h rfl rfl rfl ?_
        refine s_pure h (ru_val (.bool false) (ru_neq (h.ev rfl) (h.ev rfl)) (congrArg Value.bool (by rw [hlk]; simp))) rfl ?_; intro f h
        refine s_pure h (ru_pick_f (h.ev rfl) (h.ev rfl)) rfl ?_; intro f h
        refine s_pure h (ru_move (h.ev rfl)) rfl ?_; intro f h
        refine s_on h rfl rfl rfl ?_
        refine s_call h s fnc14 (ret_val (.bool true) (palive_any _) (congrArg Value.bool (rfl))) rfl rfl ?_; intro f w1 v9 hT hE h s; obtain rfl := hT
        refine s_on h rfl rfl rfl ?_
        refine s_pure h (ru_val (.bool false) (ru_not (h.ev rfl)) rfl) rfl ?_; intro f h
        refine s_pure h (ru_pick_f (h.ev rfl) (h.ev rfl)) rfl ?_; intro f h
        refine s_nil ?_
        refine hK14 _ _ ?_
        refine wpIn_cond_false (h.ev rfl) ?_
        refine wpIn_skip ?_
        refine hK13 _ _ ?_
        refine c_seq fun K15 hK15 => ?_
        refine c_seq fun K16 hK16 => ?_
        refine c_region ?_
        refine s_pure h (ru_move (h.ev rfl)) rfl ?_; intro f h
        refine s_pure h (ru_lenZ ((((s.getG 2 rfl) (hP.keep s.ext))).1) Try.underlying28 (h.ev rfl)) rfl ?_; intro f h
        refine s_pure h (ru_move (h.ev rfl)) rfl ?_; intro f h
        refine s_nil ?_
        refine hK16 _ _ ?_
        refine wpIn_block ?_
        refine wpIn_loop_ghost (fun nn aa ww => ∃ k : Nat, Sl 155 aa [(1, .agg (pkArr vs p0.2.1 p0.2.2)), (5, .pointer (some ⟨b5, 0, none⟩)), (11, .pointer (some ⟨b11, 0, none⟩)), (0, (cutV vh (min l.length 34))), (2, .string (sx.extract 0 (min sx.size 64))), (9, va), (12, vb), (81, va), (82, .int .i64 (Ka.length : Int)), (83, .int .i64 (k : Int))] ∧ St w [(.grp kvb (fun w9 => RdE w9 (cutV vs (min p0.1.length 6)) (likeP (cutP p0) (sx.extract 0 (min sx.size 64)) d9).1 → RdU w9 vb Kb)), .blk b11 (.cells (pkArr (cutV vs (min p0.1.length 6)) (likeP (cutP p0) (sx.extract 0 (min sx.size 64)) d9).2.1 (likeP (cutP p0) (sx.extract 0 (min sx.size 64)) d9).2.2) 25), (.grp kva (fun w9 => RdE w9 (cutV vs (min p0.1.length 6)) (cutP p0).1 → RdU w9 va Ka)), .blk b5 (.cells (pkArr (cutV vs (min p0.1.length 6)) (cutP p0).2.1 (cutP p0).2.2) 25)] ww ∧ nn = Ka.length - k ∧ k ≤ Ka.length) (Ka.length - (0)) ⟨0, h.only ⟨rfl, rfl, rfl, rfl, rfl, rfl, rfl, rfl, rfl, slot_int rfl (by omega), trivial⟩, s.as ⟨rfl, rfl, rfl, rfl, trivial⟩, rfl, Nat.zero_le _⟩ ?_
        rintro _ f w1 ⟨k, h, s, hnn, hp0⟩
        refine c_seq fun K17 hK17 => ?_
        refine c_region ?_
        refine s_pure h (ru_lss (h.ev rfl) (h.ev rfl)) rfl ?_; intro f h
        refine s_nil ?_
        refine hK17 _ _ ?_
        refine c_seq fun K18 hK18 => ?_
        refine c_cond h rfl (fun hc => ?_) (fun hc => ?_)
        · replace hc := of_decide_eq_true hc
          refine wpIn_skip ?_
          refine hK18 _ _ ?_
          refine c_seq fun K19 hK19 => ?_
          refine wpIn_block ?_
          refine c_seq fun K20 hK20 => ?_
          refine c_region ?_
          have hka : k < Ka.length := by omega
          have hkb : k < Kb.length := by omega
          obtain ⟨x0, x1, x2, x3, x4, x5⟩ := ch_p (like_at hKa hKb hka).2
          refine s_pure h (ru_move (h.ev rfl)) rfl ?_; intro f h
          refine s_pure h (ru_ixz ((((s.getG 2 rfl) (hP.keep s.ext))).1) (k) Try.underlying28 szo46 (h.ev rfl) (h.ev rfl) (by omega) (by omega)) rfl ?_; intro f h
          refine s_load_at (((((s.getG 2 rfl) (hP.keep s.ext))).1).el (k) (by omega) (by decide) (D := otArr (Ka.getD k zO2).1.k (Ka.getD k zO2).1.h (Ka.getD k zO2).2 (Ka.getD k zO2).1.p.2.1 (Ka.getD k zO2).1.p.2.2 (Ka.getD k zO2).1.t (Ka.getD k zO2).1.y) (ou_el Ka k hka)) h row46 rfl (otArr_size _ _ _ _ _ _ _) rfl ?_; intro f h
          refine s_alloc (otArr 0 0 nilV 0 ByteArray.empty zTg 0) h s zero46 rfl rfl ?_; intro f w1 b15 h s
          refine s_pure h (ru_assign (h.ev rfl)) rfl ?_; intro f h
          refine s_store_row 0 h s row46 rfl rfl rfl (otArr_size _ _ _ _ _ _ _) (otArr_size _ _ _ _ _ _ _) (otArr_ones _ _ _ _ _ _ (rd_one ((((s.getG 3 rfl) (hP.keep s.ext))).2 _ (ou_mem hka)))) ?_; intro w1 s
          refine s_nil ?_
          refine hK20 _ _ ?_
          refine c_seq fun K21 hK21 => ?_
          refine c_region ?_
          refine s_pure h (ru_move (h.ev rfl)) rfl ?_; intro f h
          refine s_pure h (ru_move (h.ev rfl)) rfl ?_; intro f h
          refine s_pure h (ru_ixz ((((s.getG 1 rfl) (hQ9.keep s.ext))).1) (k) Try.underlying28 szo46 (h.ev rfl) (h.ev rfl) (by omega) (by omega)) rfl ?_; intro f h
          refine s_load_at (((((s.getG 1 rfl) (hQ9.keep s.ext))).1).el (k) (by omega) (by decide) (D := otArr (Kb.getD k zO2).1.k (Kb.getD k zO2).1.h (Kb.getD k zO2).2 (Kb.getD k zO2).1.p.2.1 (Kb.getD k zO2).1.p.2.2 (Kb.getD k zO2).1.t (Kb.getD k zO2).1.y) (ou_el Kb k hkb)) h row46 rfl (otArr_size _ _ _ _ _ _ _) rfl ?_; intro f h
          refine s_alloc (otArr 0 0 nilV 0 ByteArray.empty zTg 0) h s zero46 rfl rfl ?_; intro f w1 b16 h s
          refine s_store_row 0 h s row46 rfl rfl rfl (otArr_size _ _ _ _ _ _ _) (otArr_size _ _ _ _ _ _ _) (otArr_ones _ _ _ _ _ _ (rd_one ((((s.getG 2 rfl) (hQ9.keep s.ext))).2 _ (ou_mem hkb)))) ?_; intro w1 s
          refine s_nil ?_
          refine hK21 _ _ ?_
          refine c_seq fun K22 hK22 => ?_
          refine c_seq fun K23 hK23 => ?_
          refine c_region ?_
          refine s_pure h (ru_field fld46_0 (h.ev rfl)) rfl ?_; intro f h
          refine s_load_at1 (V := .int .i64 (Ka.getD k zO2).1.k) (cell_of_has (Has.of_own s 1 rfl) 0 (ot_k _ _ _ _ _ _ _)) h one3 rfl rfl ?_; intro f h
          refine s_pure h (ru_field fld46_0 (h.ev rfl)) rfl ?_; intro f h
          refine s_load_at1 (V := .int .i64 (Kb.getD k zO2).1.k) (cell_of_has (Has.of_own s 0 rfl) 0 (ot_k _ _ _ _ _ _ _)) h one3 rfl rfl ?_; intro f h
          refine s_pure h (ru_val (.bool false) (ru_neq (h.ev rfl) (h.ev rfl)) (congrArg Value.bool (by rw [x0]; simp))) rfl ?_; intro f h
          refine s_pure h (ru_move (h.ev rfl)) rfl ?_; intro f h
          refine s_on h rfl rfl rfl ?_
          refine s_pure h (ru_field fld46_1 (h.ev rfl)) rfl ?_; intro f h
          refine s_on h rfl rfl rfl ?_
          refine s_load_at1 (V := .int .i64 (Ka.getD k zO2).1.h) (cell_of_has (Has.of_own s 1 rfl) 1 (ot_h _ _ _ _ _ _ _)) h one3 rfl rfl ?_; intro f h
          refine s_on h rfl rfl rfl ?_
          refine s_pure h (ru_field fld46_1 (h.ev rfl)) rfl ?_; intro f h
          refine s_on h rfl rfl rfl ?_
          refine s_load_at1 (V := .int .i64 (Kb.getD k zO2).1.h) (cell_of_has (Has.of_own s 0 rfl) 1 (ot_h _ _ _ _ _ _ _)) h one3 rfl rfl ?_; intro f h
          refine s_on h rfl rfl rfl ?_
          refine s_pure h (ru_val (.bool false) (ru_neq (h.ev rfl) (h.ev rfl)) (congrArg Value.bool (by rw [x1]; simp))) rfl ?_; intro f h
          refine s_pure h (ru_pick_f (h.ev rfl) (h.ev rfl)) rfl ?_; intro f h
          refine s_pure h (ru_move (h.ev rfl)) rfl ?_; intro f h
          refine s_on h rfl rfl rfl ?_
          refine s_pure h (ru_field fld46_3 (h.ev rfl)) rfl ?_; intro f h
          refine s_on h rfl rfl rfl ?_
          refine s_load_at (Has.subL (Has.of_own s 1 rfl) 5 67 (D := tgArr (Ka.getD k zO2).1.t) (ot_t _ _ _ _ _ _ _)) h row44 rfl (tgArr_size _) rfl ?_; intro f h
          refine s_on h rfl rfl rfl ?_
          refine s_pure h (ru_field fld46_3 (h.ev rfl)) rfl ?_; intro f h
          refine s_on h rfl rfl rfl ?_
          refine s_load_at (Has.subL (Has.of_own s 0 rfl) 5 67 (D := tgArr (Kb.getD k zO2).1.t) (ot_t _ _ _ _ _ _ _)) h row44 rfl (tgArr_size _) rfl ?_; intro f h
          refine s_on h rfl rfl rfl ?_
          refine s_pure h (ru_val (.bool false) (ru_neqW (eqG _ _) (by kernel_rfl) (by decide) (h.ev rfl) (h.ev rfl) (decide ((Ka.getD k zO2).1.t = (Kb.getD k zO2).1.t)) (tgEq _ _)) (congrArg Value.bool (by rw [x2]; simp))) rfl ?_; intro f h
          refine s_pure h (ru_pick_f (h.ev rfl) (h.ev rfl)) rfl ?_; intro f h
          refine s_pure h (ru_move (h.ev rfl)) rfl ?_; intro f h
          refine s_on h rfl rfl rfl ?_
          refine s_pure h (ru_field fld46_4 (h.ev rfl)) rfl ?_; intro f h
          refine s_on h rfl rfl rfl ?_
          refine s_load_at1 (V := .int .i64 (Ka.getD k zO2).1.y) (cell_of_has (Has.of_own s 1 rfl) 72 (ot_y _ _ _ _ _ _ _)) h one29 rfl rfl ?_; intro f h
          refine s_on h rfl rfl rfl ?_
          refine s_pure h (ru_field fld46_4 (h.ev rfl)) rfl ?_; intro f h
          refine s_on h rfl rfl rfl ?_
          refine s_load_at1 (V := .int .i64 (Kb.getD k zO2).1.y) (cell_of_has (Has.of_own s 0 rfl) 72 (ot_y _ _ _ _ _ _ _)) h one29 rfl rfl ?_; intro f h
          refine s_on h rfl rfl rfl ?_
          refine s_pure h (ru_val (.bool false) (ru_neq (h.ev rfl) (h.ev rfl)) (congrArg Value.bool (by rw [x3]; simp))) rfl ?_; intro f h
          refine s_pure h (ru_pick_f (h.ev rfl) (h.ev rfl)) rfl ?_; intro f h
          refine s_pure h (ru_move (h.ev rfl)) rfl ?_; intro f h
          refine s_on h rfl rfl rfl ?_
          refine s_pure h (ru_field fld46_2 (h.ev rfl)) rfl ?_; intro f h
          refine s_on h rfl rfl rfl ?_
          refine s_pure h (ru_field fld25_0 (h.ev rfl)) rfl ?_; intro f h
          refine s_on h rfl rfl rfl ?_
          refine s_load_at1 (V := (Ka.getD k zO2).2) (cell_of_has (Has.of_own s 1 rfl) 2 (ot_v _ _ _ _ _ _ _)) h one23 rfl rfl ?_; intro f h
          refine s_on h rfl rfl rfl ?_
          refine s_pure h (ru_lenZ ((((s.getG 4 rfl) (hP.keep s.ext))).2 _ (ou_mem hka)) Try.underlying23 (h.ev rfl)) rfl ?_; intro f h
          refine s_on h rfl rfl rfl ?_
          refine s_pure h (ru_field fld46_2 (h.ev rfl)) rfl ?_; intro f h
          refine s_on h rfl rfl rfl ?_
          refine s_pure h (ru_field fld25_0 (h.ev rfl)) rfl ?_; intro f h
          refine s_on h rfl rfl rfl ?_
          refine s_load_at1 (V := (Kb.getD k zO2).2) (cell_of_has (Has.of_own s 0 rfl) 2 (ot_v _ _ _ _ _ _ _)) h one23 rfl rfl ?_; intro f h
          refine s_on h rfl rfl rfl ?_
          refine s_pure h (ru_lenZ ((((s.getG 2 rfl) (hQ9.keep s.ext))).2 _ (ou_mem hkb)) Try.underlying23 (h.ev rfl)) rfl ?_; intro f h
          refine s_on h rfl rfl rfl ?_
          refine s_pure h (ru_val (.bool false) (ru_neq (h.ev rfl) (h.ev rfl)) (congrArg Value.bool (by rw [x4]; simp))) rfl ?_; intro f h
          refine s_pure h (ru_pick_f (h.ev rfl) (h.ev rfl)) rfl ?_; intro f h
          refine s_nil ?_
          refine hK23 _ _ ?_
          refine wpIn_cond_false (h.ev rfl) ?_
          refine wpIn_skip ?_
          refine hK22 _ _ ?_
          refine c_seq fun K24 hK24 => ?_
          cases g0 : (decide ((Ka.getD k zO2).1.k = 3) : Bool)
          · skip
            refine c_region ?_
            refine s_pure h (ru_field fld46_0 (h.ev rfl)) rfl ?_; intro f h
            refine s_load_at1 (V := .int .i64 (Ka.getD k zO2).1.k) (cell_of_has (Has.of_own s 1 rfl) 0 (ot_k _ _ _ _ _ _ _)) h one3 rfl rfl ?_; intro f h
            refine s_pure h (ru_val (.bool true) (ru_neq (h.ev rfl) (h.ev rfl)) (congrArg Value.bool (by simpa using g0))) rfl ?_; intro f h
            refine s_pure h (ru_move (h.ev rfl)) rfl ?_; intro f h
            refine s_on h rfl rfl rfl ?_
            obtain ⟨x6, x7⟩ := x5 g0
            have hq9 : (likeP (cutP p0) (sx.extract 0 (min sx.size 64)) d9).2.1 = (cutP p0).2.1 + zM (cutP p0) d9 := rfl
            obtain ⟨w1, w2, _⟩ := like_b (p := (cutP p0)) (m := d9) hr2 hr3
            have hz2 : (Kb.getD k zO2).1.p.2.1 - (Ka.getD k zO2).1.p.2.1 = (likeP (cutP p0) (sx.extract 0 (min sx.size 64)) d9).2.1 - (cutP p0).2.1 := by omega
            refine s_pure h (ru_field fld46_2 (h.ev rfl)) rfl ?_; intro f h
            refine s_on h rfl rfl rfl ?_
            refine s_pure h (ru_field fld25_2 (h.ev rfl)) rfl ?_; intro f h
            refine s_on h rfl rfl rfl ?_
            refine s_load_at1 (V := .string (Kb.getD k zO2).1.p.2.2) (cell_of_has (Has.of_own s 0 rfl) 4 (ot_d _ _ _ _ _ _ _)) h one9 rfl rfl ?_; intro f h
            refine s_on h rfl rfl rfl ?_
            refine s_pure h (ru_move (h.ev rfl)) rfl ?_; intro f h
            refine s_on h rfl rfl rfl ?_
            refine s_pure h (ru_val (.bool false) (ru_neq_str (h.ev rfl) (h.ev rfl)) (congrArg Value.bool (by rw [x6]; simp))) rfl ?_; intro f h
            refine s_on h rfl rfl rfl ?_
            refine s_pure h (ru_move (h.ev rfl)) rfl ?_; intro f h
            refine s_on h rfl rfl rfl ?_
            refine s_pure h (ru_field fld46_2 (h.ev rfl)) rfl ?_; intro f h
            refine s_on h rfl rfl rfl ?_
            refine s_pure h (ru_field fld25_1 (h.ev rfl)) rfl ?_; intro f h
            refine s_on h rfl rfl rfl ?_
            refine s_load_at1 (V := .int .i64 (Kb.getD k zO2).1.p.2.1) (cell_of_has (Has.of_own s 0 rfl) 3 (ot_n _ _ _ _ _ _ _)) h one3 rfl rfl ?_; intro f h
            refine s_on h rfl rfl rfl ?_
            refine s_pure h (ru_field fld46_2 (h.ev rfl)) rfl ?_; intro f h
            refine s_on h rfl rfl rfl ?_
            refine s_pure h (ru_field fld25_1 (h.ev rfl)) rfl ?_; intro f h
            refine s_on h rfl rfl rfl ?_
            refine s_load_at1 (V := .int .i64 (Ka.getD k zO2).1.p.2.1) (cell_of_has (Has.of_own s 1 rfl) 3 (ot_n _ _ _ _ _ _ _)) h one3 rfl rfl ?_; intro f h
            refine s_on h rfl rfl rfl ?_
            refine s_pure h (ru_sub (h.ev rfl) (h.ev rfl) (by omega)) rfl ?_; intro f h
            refine s_on h rfl rfl rfl ?_
            refine s_pure h (ru_field fld25_1 (h.ev rfl)) rfl ?_; intro f h
            refine s_on h rfl rfl rfl ?_
            refine s_load_at1 (V := .int .i64 (likeP (cutP p0) (sx.extract 0 (min sx.size 64)) d9).2.1) (cell_of_has (Has.of_own s 3 rfl) 1 (pk_n _ _ _)) h one3 rfl rfl ?_; intro f h
            refine s_on h rfl rfl rfl ?_
            refine s_pure h (ru_field fld25_1 (h.ev rfl)) rfl ?_; intro f h
            refine s_on h rfl rfl rfl ?_
            refine s_load_at1 (V := .int .i64 (cutP p0).2.1) (cell_of_has (Has.of_own s 5 rfl) 1 (pk_n _ _ _)) h one3 rfl rfl ?_; intro f h
            refine s_on h rfl rfl rfl ?_
            refine s_pure h (ru_sub (h.ev rfl) (h.ev rfl) (by omega)) rfl ?_; intro f h
            refine s_on h rfl rfl rfl ?_
            refine s_pure h (ru_val (.bool false) (ru_neq (h.ev rfl) (h.ev rfl)) (congrArg Value.bool (by rw [hz2]; simp))) rfl ?_; intro f h
            refine s_on h rfl rfl rfl ?_
            refine s_pure h (ru_pick_f (h.ev rfl) (h.ev rfl)) rfl ?_; intro f h
            refine s_pure h (ru_pick_t (h.ev rfl) (h.ev rfl)) rfl ?_; intro f h
            refine s_nil ?_
            refine hK24 _ _ ?_
            refine wpIn_cond_false (h.ev rfl) ?_
            refine wpIn_skip ?_
            refine b_norm ?_
            refine hK19 _ _ ?_
            refine c_region ?_
            refine s_pure h (ru_add (h.ev rfl) (h.ev rfl) (by omega)) rfl ?_; intro f h
            refine s_pure h (ru_move (h.ev rfl)) rfl ?_; intro f h
            refine s_nil ?_
            refine t_norm ?_
            exact ⟨_, by omega, ⟨k + 1, h.only ⟨rfl, rfl, rfl, rfl, rfl, rfl, rfl, rfl, rfl, slot_int rfl (by omega), trivial⟩, St.as (s.pick _ (List.sublist_append_right [_, _] _)) ⟨rfl, rfl, rfl, rfl, trivial⟩, rfl, by omega⟩⟩
          · skip
            refine c_region ?_
            refine s_pure h (ru_field fld46_0 (h.ev rfl)) rfl ?_; intro f h
            refine s_load_at1 (V := .int .i64 (Ka.getD k zO2).1.k) (cell_of_has (Has.of_own s 1 rfl) 0 (ot_k _ _ _ _ _ _ _)) h one3 rfl rfl ?_; intro f h
            refine s_pure h (ru_val (.bool false) (ru_neq (h.ev rfl) (h.ev rfl)) (congrArg Value.bool (by simpa using g0))) rfl ?_; intro f h
            refine s_pure h (ru_move (h.ev rfl)) rfl ?_; intro f h
            refine s_off (b := true) h rfl rfl rfl rfl ?_; intro f h
            refine s_off (b := true) h rfl rfl rfl rfl ?_; intro f h
            refine s_off (b := true) h rfl rfl rfl rfl ?_; intro f h
            refine s_off (b := true) h rfl rfl rfl rfl ?_; intro f h
            refine s_off (b := true) h rfl rfl rfl rfl ?_; intro f h
            refine s_off (b := true) h rfl rfl rfl rfl ?_; intro f h
            refine s_none h rfl rfl rfl rfl ?_; intro f h
            refine s_none h rfl rfl rfl rfl ?_; intro f h
            refine s_none h rfl rfl rfl rfl ?_; intro f h
            refine s_none h rfl rfl rfl rfl ?_; intro f h
            refine s_none h rfl rfl rfl rfl ?_; intro f h
            refine s_none h rfl rfl rfl rfl ?_; intro f h
            refine s_none h rfl rfl rfl rfl ?_; intro f h
            refine s_none h rfl rfl rfl rfl ?_; intro f h
            refine s_none h rfl rfl rfl rfl ?_; intro f h
            refine s_none h rfl rfl rfl rfl ?_; intro f h
            refine s_none h rfl rfl rfl rfl ?_; intro f h
            refine s_none h rfl rfl rfl rfl ?_; intro f h
            refine s_none h rfl rfl rfl rfl ?_; intro f h
            refine s_off (b := true) h rfl rfl rfl rfl ?_; intro f h
            refine s_pure h (ru_pick_f (h.ev rfl) (h.ev rfl)) rfl ?_; intro f h
            refine s_nil ?_
            refine hK24 _ _ ?_
            refine wpIn_cond_false (h.ev rfl) ?_
            refine wpIn_skip ?_
            refine b_norm ?_
            refine hK19 _ _ ?_
            refine c_region ?_
            refine s_pure h (ru_add (h.ev rfl) (h.ev rfl) (by omega)) rfl ?_; intro f h
            refine s_pure h (ru_move (h.ev rfl)) rfl ?_; intro f h
            refine s_nil ?_
            refine t_norm ?_
            exact ⟨_, by omega, ⟨k + 1, h.only ⟨rfl, rfl, rfl, rfl, rfl, rfl, rfl, rfl, rfl, slot_int rfl (by omega), trivial⟩, St.as (s.pick _ (List.sublist_append_right [_, _] _)) ⟨rfl, rfl, rfl, rfl, trivial⟩, rfl, by omega⟩⟩
        · replace hc := of_decide_eq_false hc
          refine wpIn_exit ?_
          refine t_exit ?_
          refine t_exit ?_
          refine b_exit ?_
          refine hK15 _ _ ?_
          refine c_seq fun K25 hK25 => ?_
          refine c_region ?_
          refine s_pure h (ru_assign (h.ev rfl)) rfl ?_; intro f h
          refine s_nil ?_
          refine hK25 _ _ ?_
          refine wpIn_ret ?_
          exact e_tmp rfl h s rfl (rfl)
      · skip
        cases u1 : (decide ((cutP p0).2.1 + (d9 : Int) ≤ 64) : Bool)
        · skip
          refine c_region ?_
          refine s_pure h (ru_field fld25_1 (h.ev rfl)) rfl ?_; intro f h
          refine s_load_at1 (V := .int .i64 (cutP p0).2.1) (cell_of_has (Has.of_own s 2 rfl) 1 (pk_n _ _ _)) h one3 rfl rfl ?_; intro f h
          refine s_pure h (ru_val (.bool true) (ru_gtr (h.ev rfl) (h.ev rfl)) (congrArg Value.bool ((decide_eq_decide.2 (by omega)).trans u0))) rfl ?_; intro f h
          refine s_pure h (ru_move (h.ev rfl)) rfl ?_; intro f h
          refine s_on h rfl rfl rfl ?_
          refine s_pure h (ru_field fld25_1 (h.ev rfl)) rfl ?_; intro f h
          refine s_on h rfl rfl rfl ?_
          refine s_load_at1 (V := .int .i64 (cutP p0).2.1) (cell_of_has (Has.of_own s 2 rfl) 1 (pk_n _ _ _)) h one3 rfl rfl ?_; intro f h
          refine s_on h rfl rfl rfl ?_
          refine s_pure h (ru_move (h.ev rfl)) rfl ?_; intro f h
          refine s_on h rfl rfl rfl ?_
          refine s_pure h (ru_add (h.ev rfl) (h.ev rfl) (by omega)) rfl ?_; intro f h
          refine s_on h rfl rfl rfl ?_
          refine s_pure h (ru_val (.bool false) (ru_leq (h.ev rfl) (h.ev rfl)) (congrArg Value.bool ((decide_eq_decide.2 (by omega)).trans u1))) rfl ?_; intro f h
          refine s_pure h (ru_pick_t (h.ev rfl) (h.ev rfl)) rfl ?_; intro f h
          refine s_nil ?_
          refine hK11 _ _ ?_
          refine wpIn_cond_false (h.ev rfl) ?_
          refine wpIn_skip ?_
          refine hK9 _ _ ?_
          refine c_seq fun K26 hK26 => ?_
          refine c_region ?_
          have hz9 := zM_1 u1
          replace s := s.recell (D := pkArr (cutV vs (min p0.1.length 6)) (likeP (cutP p0) (sx.extract 0 (min sx.size 64)) d9).2.1 (likeP (cutP p0) (sx.extract 0 (min sx.size 64)) d9).2.2) 0 rfl (by show pkArr _ _ _ = pkArr _ ((cutP p0).2.1 + zM (cutP p0) d9) _; rw [hz9]; rw [Int.add_zero]; rfl)
          have hQ9 : RdE w (cutV vs (min p0.1.length 6)) (likeP (cutP p0) (sx.extract 0 (min sx.size 64)) d9).1 := hP
          have hQl : (likeP (cutP p0) (sx.extract 0 (min sx.size 64)) d9).1.length ≤ 6 := hpl
          clear hz9
          refine s_pure h (ru_move (h.ev rfl)) rfl ?_; intro f h
          refine s_load_row 0 h s row25 rfl rfl (pkArr_size _ _ _) rfl ?_; intro f h
          refine s_call h s fnc9 (pstep_any t (cutV vh (min l.length 34)) (likeP (cutP p0) (sx.extract 0 (min sx.size 64)) d9) (cutV vs (min p0.1.length 6)) _ (hT.keep s.ext) (by first | omega | decide) (hQ9.keep s.ext) (by first | omega | decide)) rfl rfl ?_; rintro f w1 v65 ⟨vb, Kb, kvb, rfl, hKb, hG⟩ hE h sq; replace s := s.add hG; clear hG
          refine s_pure h (ru_move (h.ev rfl)) rfl ?_; intro f h
          refine s_pure h (ru_extract (h.ev rfl) rfl) rfl ?_; intro f h
          refine s_pure h (ru_extract (h.ev rfl) rfl) rfl ?_; intro f h
          refine s_pure h (ru_assign (h.ev rfl)) rfl ?_; intro f h
          refine s_pure h (ru_assign (h.ev rfl)) rfl ?_; intro f h
          refine s_nil ?_
          refine hK26 _ _ ?_
          refine c_seq fun K27 hK27 => ?_
          refine c_seq fun K28 hK28 => ?_
          refine c_region ?_
          obtain ⟨g3, g4⟩ := rwE_ok (t := t) (like_right (d := (sx.extract 0 (min sx.size 64))) d9 r0 hsx) t0
          rw [g4, like_step (sx.extract 0 (min sx.size 64)) d9 hr2 hr3] at hKb
          have hlk : Kb.length = Ka.length := by rw [← outs_len Kb, hKb, List.length_map, ← hKa, outs_len]
          refine s_pure h (ru_move (h.ev rfl)) rfl ?_; intro f h
          refine s_pure h (ru_val (.bool false) (ru_neq (h.ev rfl) (h.ev rfl)) (congrArg Value.bool (by rw [g3]; rfl))) rfl ?_; intro f h
          refine s_pure h (ru_move (h.ev rfl)) rfl ?_; intro f h
          refine s_on h rfl rfl rfl ?_
          refine s_pure h (ru_move (h.ev rfl)) rfl ?_; intro f h
          refine s_on h rfl rfl rfl ?_
          refine s_pure h (ru_lenZ ((((s.getG 2 rfl) (hP.keep s.ext))).1) Try.underlying28 (h.ev rfl)) rfl ?_; intro f h
          refine s_on h rfl rfl rfl ?_
          refine s_pure h (ru_move (h.ev rfl)) rfl ?_; intro f h
          refine s_on h rfl rfl rfl ?_
          refine s_pure h (ru_lenZ ((((s.getG 0 rfl) (hQ9.keep s.ext))).1) Try.underlying28 (h.ev rfl)) rfl ?_; intro f h
          refine s_on h rfl rfl rfl ?_
          refine s_pure h (ru_val (.bool false) (ru_neq (h.ev rfl) (h.ev rfl)) (congrArg Value.bool (by rw [hlk]; simp))) rfl ?_; intro f h
          refine s_pure h (ru_pick_f (h.ev rfl) (h.ev rfl)) rfl ?_; intro f h
          refine s_pure h (ru_move (h.ev rfl)) rfl ?_; intro f h
          refine s_on h rfl rfl rfl ?_
          refine s_call h s fnc14 (ret_val (.bool true) (palive_any _) (congrArg Value.bool (rfl))) rfl rfl ?_; intro f w1 v9 hT hE h s; obtain rfl := hT
          refine s_on h rfl rfl rfl ?_
          refine s_pure h (ru_val (.bool false) (ru_not (h.ev rfl)) rfl) rfl ?_; intro f h
          refine s_pure h (ru_pick_f (h.ev rfl) (h.ev rfl)) rfl ?_; intro f h
          refine s_nil ?_
          refine hK28 _ _ ?_
          refine wpIn_cond_false (h.ev rfl) ?_
          refine wpIn_skip ?_
          refine hK27 _ _ ?_
          refine c_seq fun K29 hK29 => ?_
          refine c_seq fun K30 hK30 => ?_
          refine c_region ?_
          refine s_pure h (ru_move (h.ev rfl)) rfl ?_; intro f h
          refine s_pure h (ru_lenZ ((((s.getG 2 rfl) (hP.keep s.ext))).1) Try.underlying28 (h.ev rfl)) rfl ?_; intro f h
          refine s_pure h (ru_move (h.ev rfl)) rfl ?_; intro f h
          refine s_nil ?_
          refine hK30 _ _ ?_
          refine wpIn_block ?_
          refine wpIn_loop_ghost (fun nn aa ww => ∃ k : Nat, Sl 155 aa [(1, .agg (pkArr vs p0.2.1 p0.2.2)), (5, .pointer (some ⟨b5, 0, none⟩)), (11, .pointer (some ⟨b11, 0, none⟩)), (0, (cutV vh (min l.length 34))), (2, .string (sx.extract 0 (min sx.size 64))), (9, va), (12, vb), (81, va), (82, .int .i64 (Ka.length : Int)), (83, .int .i64 (k : Int))] ∧ St w [(.grp kvb (fun w9 => RdE w9 (cutV vs (min p0.1.length 6)) (likeP (cutP p0) (sx.extract 0 (min sx.size 64)) d9).1 → RdU w9 vb Kb)), .blk b11 (.cells (pkArr (cutV vs (min p0.1.length 6)) (likeP (cutP p0) (sx.extract 0 (min sx.size 64)) d9).2.1 (likeP (cutP p0) (sx.extract 0 (min sx.size 64)) d9).2.2) 25), (.grp kva (fun w9 => RdE w9 (cutV vs (min p0.1.length 6)) (cutP p0).1 → RdU w9 va Ka)), .blk b5 (.cells (pkArr (cutV vs (min p0.1.length 6)) (cutP p0).2.1 (cutP p0).2.2) 25)] ww ∧ nn = Ka.length - k ∧ k ≤ Ka.length) (Ka.length - (0)) ⟨0, h.only ⟨rfl, rfl, rfl, rfl, rfl, rfl, rfl, rfl, rfl, slot_int rfl (by omega), trivial⟩, s.as ⟨rfl, rfl, rfl, rfl, trivial⟩, rfl, Nat.zero_le _⟩ ?_
          rintro _ f w1 ⟨k, h, s, hnn, hp0⟩
          refine c_seq fun K31 hK31 => ?_
          refine c_region ?_
          refine s_pure h (ru_lss (h.ev rfl) (h.ev rfl)) rfl ?_; intro f h
          refine s_nil ?_
          refine hK31 _ _ ?_
          refine c_seq fun K32 hK32 => ?_
          refine c_cond h rfl (fun hc => ?_) (fun hc => ?_)
          · replace hc := of_decide_eq_true hc
            refine wpIn_skip ?_
            refine hK32 _ _ ?_
            refine c_seq fun K33 hK33 => ?_
            refine wpIn_block ?_
            refine c_seq fun K34 hK34 => ?_
            refine c_region ?_
            have hka : k < Ka.length := by omega
            have hkb : k < Kb.length := by omega
            obtain ⟨x0, x1, x2, x3, x4, x5⟩ := ch_p (like_at hKa hKb hka).2
            refine s_pure h (ru_move (h.ev rfl)) rfl ?_; intro f h
            refine s_pure h (ru_ixz ((((s.getG 2 rfl) (hP.keep s.ext))).1) (k) Try.underlying28 szo46 (h.ev rfl) (h.ev rfl) (by omega) (by omega)) rfl ?_; intro f h
            refine s_load_at (((((s.getG 2 rfl) (hP.keep s.ext))).1).el (k) (by omega) (by decide) (D := otArr (Ka.getD k zO2).1.k (Ka.getD k zO2).1.h (Ka.getD k zO2).2 (Ka.getD k zO2).1.p.2.1 (Ka.getD k zO2).1.p.2.2 (Ka.getD k zO2).1.t (Ka.getD k zO2).1.y) (ou_el Ka k hka)) h row46 rfl (otArr_size _ _ _ _ _ _ _) rfl ?_; intro f h
            refine s_alloc (otArr 0 0 nilV 0 ByteArray.empty zTg 0) h s zero46 rfl rfl ?_; intro f w1 b15 h s
            refine s_pure h (ru_assign (h.ev rfl)) rfl ?_; intro f h
            refine s_store_row 0 h s row46 rfl rfl rfl (otArr_size _ _ _ _ _ _ _) (otArr_size _ _ _ _ _ _ _) (otArr_ones _ _ _ _ _ _ (rd_one ((((s.getG 3 rfl) (hP.keep s.ext))).2 _ (ou_mem hka)))) ?_; intro w1 s
            refine s_nil ?_
            refine hK34 _ _ ?_
            refine c_seq fun K35 hK35 => ?_
            refine c_region ?_
            refine s_pure h (ru_move (h.ev rfl)) rfl ?_; intro f h
            refine s_pure h (ru_move (h.ev rfl)) rfl ?_; intro f h
            refine s_pure h (ru_ixz ((((s.getG 1 rfl) (hQ9.keep s.ext))).1) (k) Try.underlying28 szo46 (h.ev rfl) (h.ev rfl) (by omega) (by omega)) rfl ?_; intro f h
            refine s_load_at (((((s.getG 1 rfl) (hQ9.keep s.ext))).1).el (k) (by omega) (by decide) (D := otArr (Kb.getD k zO2).1.k (Kb.getD k zO2).1.h (Kb.getD k zO2).2 (Kb.getD k zO2).1.p.2.1 (Kb.getD k zO2).1.p.2.2 (Kb.getD k zO2).1.t (Kb.getD k zO2).1.y) (ou_el Kb k hkb)) h row46 rfl (otArr_size _ _ _ _ _ _ _) rfl ?_; intro f h
            refine s_alloc (otArr 0 0 nilV 0 ByteArray.empty zTg 0) h s zero46 rfl rfl ?_; intro f w1 b16 h s
            refine s_store_row 0 h s row46 rfl rfl rfl (otArr_size _ _ _ _ _ _ _) (otArr_size _ _ _ _ _ _ _) (otArr_ones _ _ _ _ _ _ (rd_one ((((s.getG 2 rfl) (hQ9.keep s.ext))).2 _ (ou_mem hkb)))) ?_; intro w1 s
            refine s_nil ?_
            refine hK35 _ _ ?_
            refine c_seq fun K36 hK36 => ?_
            refine c_seq fun K37 hK37 => ?_
            refine c_region ?_
            refine s_pure h (ru_field fld46_0 (h.ev rfl)) rfl ?_; intro f h
            refine s_load_at1 (V := .int .i64 (Ka.getD k zO2).1.k) (cell_of_has (Has.of_own s 1 rfl) 0 (ot_k _ _ _ _ _ _ _)) h one3 rfl rfl ?_; intro f h
            refine s_pure h (ru_field fld46_0 (h.ev rfl)) rfl ?_; intro f h
            refine s_load_at1 (V := .int .i64 (Kb.getD k zO2).1.k) (cell_of_has (Has.of_own s 0 rfl) 0 (ot_k _ _ _ _ _ _ _)) h one3 rfl rfl ?_; intro f h
            refine s_pure h (ru_val (.bool false) (ru_neq (h.ev rfl) (h.ev rfl)) (congrArg Value.bool (by rw [x0]; simp))) rfl ?_; intro f h
            refine s_pure h (ru_move (h.ev rfl)) rfl ?_; intro f h
            refine s_on h rfl rfl rfl ?_
            refine s_pure h (ru_field fld46_1 (h.ev rfl)) rfl ?_; intro f h
            refine s_on h rfl rfl rfl ?_
            refine s_load_at1 (V := .int .i64 (Ka.getD k zO2).1.h) (cell_of_has (Has.of_own s 1 rfl) 1 (ot_h _ _ _ _ _ _ _)) h one3 rfl rfl ?_; intro f h
            refine s_on h rfl rfl rfl ?_
            refine s_pure h (ru_field fld46_1 (h.ev rfl)) rfl ?_; intro f h
            refine s_on h rfl rfl rfl ?_
            refine s_load_at1 (V := .int .i64 (Kb.getD k zO2).1.h) (cell_of_has (Has.of_own s 0 rfl) 1 (ot_h _ _ _ _ _ _ _)) h one3 rfl rfl ?_; intro f h
            refine s_on h rfl rfl rfl ?_
            refine s_pure h (ru_val (.bool false) (ru_neq (h.ev rfl) (h.ev rfl)) (congrArg Value.bool (by rw [x1]; simp))) rfl ?_; intro f h
            refine s_pure h (ru_pick_f (h.ev rfl) (h.ev rfl)) rfl ?_; intro f h
            refine s_pure h (ru_move (h.ev rfl)) rfl ?_; intro f h
            refine s_on h rfl rfl rfl ?_
            refine s_pure h (ru_field fld46_3 (h.ev rfl)) rfl ?_; intro f h
            refine s_on h rfl rfl rfl ?_
            refine s_load_at (Has.subL (Has.of_own s 1 rfl) 5 67 (D := tgArr (Ka.getD k zO2).1.t) (ot_t _ _ _ _ _ _ _)) h row44 rfl (tgArr_size _) rfl ?_; intro f h
            refine s_on h rfl rfl rfl ?_
            refine s_pure h (ru_field fld46_3 (h.ev rfl)) rfl ?_; intro f h
            refine s_on h rfl rfl rfl ?_
            refine s_load_at (Has.subL (Has.of_own s 0 rfl) 5 67 (D := tgArr (Kb.getD k zO2).1.t) (ot_t _ _ _ _ _ _ _)) h row44 rfl (tgArr_size _) rfl ?_; intro f h
            refine s_on h rfl rfl rfl ?_
            refine s_pure h (ru_val (.bool false) (ru_neqW (eqG _ _) (by kernel_rfl) (by decide) (h.ev rfl) (h.ev rfl) (decide ((Ka.getD k zO2).1.t = (Kb.getD k zO2).1.t)) (tgEq _ _)) (congrArg Value.bool (by rw [x2]; simp))) rfl ?_; intro f h
            refine s_pure h (ru_pick_f (h.ev rfl) (h.ev rfl)) rfl ?_; intro f h
            refine s_pure h (ru_move (h.ev rfl)) rfl ?_; intro f h
            refine s_on h rfl rfl rfl ?_
            refine s_pure h (ru_field fld46_4 (h.ev rfl)) rfl ?_; intro f h
            refine s_on h rfl rfl rfl ?_
            refine s_load_at1 (V := .int .i64 (Ka.getD k zO2).1.y) (cell_of_has (Has.of_own s 1 rfl) 72 (ot_y _ _ _ _ _ _ _)) h one29 rfl rfl ?_; intro f h
            refine s_on h rfl rfl rfl ?_
            refine s_pure h (ru_field fld46_4 (h.ev rfl)) rfl ?_; intro f h
            refine s_on h rfl rfl rfl ?_
            refine s_load_at1 (V := .int .i64 (Kb.getD k zO2).1.y) (cell_of_has (Has.of_own s 0 rfl) 72 (ot_y _ _ _ _ _ _ _)) h one29 rfl rfl ?_; intro f h
            refine s_on h rfl rfl rfl ?_
            refine s_pure h (ru_val (.bool false) (ru_neq (h.ev rfl) (h.ev rfl)) (congrArg Value.bool (by rw [x3]; simp))) rfl ?_; intro f h
            refine s_pure h (ru_pick_f (h.ev rfl) (h.ev rfl)) rfl ?_; intro f h
            refine s_pure h (ru_move (h.ev rfl)) rfl ?_; intro f h
            refine s_on h rfl rfl rfl ?_
            refine s_pure h (ru_field fld46_2 (h.ev rfl)) rfl ?_; intro f h
            refine s_on h rfl rfl rfl ?_
            refine s_pure h (ru_field fld25_0 (h.ev rfl)) rfl ?_; intro f h
            refine s_on h rfl rfl rfl ?_
            refine s_load_at1 (V := (Ka.getD k zO2).2) (cell_of_has (Has.of_own s 1 rfl) 2 (ot_v _ _ _ _ _ _ _)) h one23 rfl rfl ?_; intro f h
            refine s_on h rfl rfl rfl ?_
            refine s_pure h (ru_lenZ ((((s.getG 4 rfl) (hP.keep s.ext))).2 _ (ou_mem hka)) Try.underlying23 (h.ev rfl)) rfl ?_; intro f h
            refine s_on h rfl rfl rfl ?_
            refine s_pure h (ru_field fld46_2 (h.ev rfl)) rfl ?_; intro f h
            refine s_on h rfl rfl rfl ?_
            refine s_pure h (ru_field fld25_0 (h.ev rfl)) rfl ?_; intro f h
            refine s_on h rfl rfl rfl ?_
            refine s_load_at1 (V := (Kb.getD k zO2).2) (cell_of_has (Has.of_own s 0 rfl) 2 (ot_v _ _ _ _ _ _ _)) h one23 rfl rfl ?_; intro f h
            refine s_on h rfl rfl rfl ?_
            refine s_pure h (ru_lenZ ((((s.getG 2 rfl) (hQ9.keep s.ext))).2 _ (ou_mem hkb)) Try.underlying23 (h.ev rfl)) rfl ?_; intro f h
            refine s_on h rfl rfl rfl ?_
            refine s_pure h (ru_val (.bool false) (ru_neq (h.ev rfl) (h.ev rfl)) (congrArg Value.bool (by rw [x4]; simp))) rfl ?_; intro f h
            refine s_pure h (ru_pick_f (h.ev rfl) (h.ev rfl)) rfl ?_; intro f h
            refine s_nil ?_
            refine hK37 _ _ ?_
            refine wpIn_cond_false (h.ev rfl) ?_
            refine wpIn_skip ?_
            refine hK36 _ _ ?_
            refine c_seq fun K38 hK38 => ?_
            cases g0 : (decide ((Ka.getD k zO2).1.k = 3) : Bool)
            · skip
              refine c_region ?_
              refine s_pure h (ru_field fld46_0 (h.ev rfl)) rfl ?_; intro f h
              refine s_load_at1 (V := .int .i64 (Ka.getD k zO2).1.k) (cell_of_has (Has.of_own s 1 rfl) 0 (ot_k _ _ _ _ _ _ _)) h one3 rfl rfl ?_; intro f h
              refine s_pure h (ru_val (.bool true) (ru_neq (h.ev rfl) (h.ev rfl)) (congrArg Value.bool (by simpa using g0))) rfl ?_; intro f h
              refine s_pure h (ru_move (h.ev rfl)) rfl ?_; intro f h
              refine s_on h rfl rfl rfl ?_
              obtain ⟨x6, x7⟩ := x5 g0
              have hq9 : (likeP (cutP p0) (sx.extract 0 (min sx.size 64)) d9).2.1 = (cutP p0).2.1 + zM (cutP p0) d9 := rfl
              obtain ⟨w1, w2, _⟩ := like_b (p := (cutP p0)) (m := d9) hr2 hr3
              have hz2 : (Kb.getD k zO2).1.p.2.1 - (Ka.getD k zO2).1.p.2.1 = (likeP (cutP p0) (sx.extract 0 (min sx.size 64)) d9).2.1 - (cutP p0).2.1 := by omega
              refine s_pure h (ru_field fld46_2 (h.ev rfl)) rfl ?_; intro f h
              refine s_on h rfl rfl rfl ?_
              refine s_pure h (ru_field fld25_2 (h.ev rfl)) rfl ?_; intro f h
              refine s_on h rfl rfl rfl ?_
              refine s_load_at1 (V := .string (Kb.getD k zO2).1.p.2.2) (cell_of_has (Has.of_own s 0 rfl) 4 (ot_d _ _ _ _ _ _ _)) h one9 rfl rfl ?_; intro f h
              refine s_on h rfl rfl rfl ?_
              refine s_pure h (ru_move (h.ev rfl)) rfl ?_; intro f h
              refine s_on h rfl rfl rfl ?_
              refine s_pure h (ru_val (.bool false) (ru_neq_str (h.ev rfl) (h.ev rfl)) (congrArg Value.bool (by rw [x6]; simp))) rfl ?_; intro f h
              refine s_on h rfl rfl rfl ?_
              refine s_pure h (ru_move (h.ev rfl)) rfl ?_; intro f h
              refine s_on h rfl rfl rfl ?_
              refine s_pure h (ru_field fld46_2 (h.ev rfl)) rfl ?_; intro f h
              refine s_on h rfl rfl rfl ?_
              refine s_pure h (ru_field fld25_1 (h.ev rfl)) rfl ?_; intro f h
              refine s_on h rfl rfl rfl ?_
              refine s_load_at1 (V := .int .i64 (Kb.getD k zO2).1.p.2.1) (cell_of_has (Has.of_own s 0 rfl) 3 (ot_n _ _ _ _ _ _ _)) h one3 rfl rfl ?_; intro f h
              refine s_on h rfl rfl rfl ?_
              refine s_pure h (ru_field fld46_2 (h.ev rfl)) rfl ?_; intro f h
              refine s_on h rfl rfl rfl ?_
              refine s_pure h (ru_field fld25_1 (h.ev rfl)) rfl ?_; intro f h
              refine s_on h rfl rfl rfl ?_
              refine s_load_at1 (V := .int .i64 (Ka.getD k zO2).1.p.2.1) (cell_of_has (Has.of_own s 1 rfl) 3 (ot_n _ _ _ _ _ _ _)) h one3 rfl rfl ?_; intro f h
              refine s_on h rfl rfl rfl ?_
              refine s_pure h (ru_sub (h.ev rfl) (h.ev rfl) (by omega)) rfl ?_; intro f h
              refine s_on h rfl rfl rfl ?_
              refine s_pure h (ru_field fld25_1 (h.ev rfl)) rfl ?_; intro f h
              refine s_on h rfl rfl rfl ?_
              refine s_load_at1 (V := .int .i64 (likeP (cutP p0) (sx.extract 0 (min sx.size 64)) d9).2.1) (cell_of_has (Has.of_own s 3 rfl) 1 (pk_n _ _ _)) h one3 rfl rfl ?_; intro f h
              refine s_on h rfl rfl rfl ?_
              refine s_pure h (ru_field fld25_1 (h.ev rfl)) rfl ?_; intro f h
              refine s_on h rfl rfl rfl ?_
              refine s_load_at1 (V := .int .i64 (cutP p0).2.1) (cell_of_has (Has.of_own s 5 rfl) 1 (pk_n _ _ _)) h one3 rfl rfl ?_; intro f h
              refine s_on h rfl rfl rfl ?_
              refine s_pure h (ru_sub (h.ev rfl) (h.ev rfl) (by omega)) rfl ?_; intro f h
              refine s_on h rfl rfl rfl ?_
              refine s_pure h (ru_val (.bool false) (ru_neq (h.ev rfl) (h.ev rfl)) (congrArg Value.bool (by rw [hz2]; simp))) rfl ?_; intro f h
              refine s_on h rfl rfl rfl ?_
              refine s_pure h (ru_pick_f (h.ev rfl) (h.ev rfl)) rfl ?_; intro f h
              refine s_pure h (ru_pick_t (h.ev rfl) (h.ev rfl)) rfl ?_; intro f h
              refine s_nil ?_
              refine hK38 _ _ ?_
              refine wpIn_cond_false (h.ev rfl) ?_
              refine wpIn_skip ?_
              refine b_norm ?_
              refine hK33 _ _ ?_
              refine c_region ?_
              refine s_pure h (ru_add (h.ev rfl) (h.ev rfl) (by omega)) rfl ?_; intro f h
              refine s_pure h (ru_move (h.ev rfl)) rfl ?_; intro f h
              refine s_nil ?_
              refine t_norm ?_
              exact ⟨_, by omega, ⟨k + 1, h.only ⟨rfl, rfl, rfl, rfl, rfl, rfl, rfl, rfl, rfl, slot_int rfl (by omega), trivial⟩, St.as (s.pick _ (List.sublist_append_right [_, _] _)) ⟨rfl, rfl, rfl, rfl, trivial⟩, rfl, by omega⟩⟩
            · skip
              refine c_region ?_
              refine s_pure h (ru_field fld46_0 (h.ev rfl)) rfl ?_; intro f h
              refine s_load_at1 (V := .int .i64 (Ka.getD k zO2).1.k) (cell_of_has (Has.of_own s 1 rfl) 0 (ot_k _ _ _ _ _ _ _)) h one3 rfl rfl ?_; intro f h
              refine s_pure h (ru_val (.bool false) (ru_neq (h.ev rfl) (h.ev rfl)) (congrArg Value.bool (by simpa using g0))) rfl ?_; intro f h
              refine s_pure h (ru_move (h.ev rfl)) rfl ?_; intro f h
              refine s_off (b := true) h rfl rfl rfl rfl ?_; intro f h
              refine s_off (b := true) h rfl rfl rfl rfl ?_; intro f h
              refine s_off (b := true) h rfl rfl rfl rfl ?_; intro f h
              refine s_off (b := true) h rfl rfl rfl rfl ?_; intro f h
              refine s_off (b := true) h rfl rfl rfl rfl ?_; intro f h
              refine s_off (b := true) h rfl rfl rfl rfl ?_; intro f h
              refine s_none h rfl rfl rfl rfl ?_; intro f h
              refine s_none h rfl rfl rfl rfl ?_; intro f h
              refine s_none h rfl rfl rfl rfl ?_; intro f h
              refine s_none h rfl rfl rfl rfl ?_; intro f h
              refine s_none h rfl rfl rfl rfl ?_; intro f h
              refine s_none h rfl rfl rfl rfl ?_; intro f h
              refine s_none h rfl rfl rfl rfl ?_; intro f h
              refine s_none h rfl rfl rfl rfl ?_; intro f h
              refine s_none h rfl rfl rfl rfl ?_; intro f h
              refine s_none h rfl rfl rfl rfl ?_; intro f h
              refine s_none h rfl rfl rfl rfl ?_; intro f h
              refine s_none h rfl rfl rfl rfl ?_; intro f h
              refine s_none h rfl rfl rfl rfl ?_; intro f h
              refine s_off (b := true) h rfl rfl rfl rfl ?_; intro f h
              refine s_pure h (ru_pick_f (h.ev rfl) (h.ev rfl)) rfl ?_; intro f h
              refine s_nil ?_
              refine hK38 _ _ ?_
              refine wpIn_cond_false (h.ev rfl) ?_
              refine wpIn_skip ?_
              refine b_norm ?_
              refine hK33 _ _ ?_
              refine c_region ?_
              refine s_pure h (ru_add (h.ev rfl) (h.ev rfl) (by omega)) rfl ?_; intro f h
              refine s_pure h (ru_move (h.ev rfl)) rfl ?_; intro f h
              refine s_nil ?_
              refine t_norm ?_
              exact ⟨_, by omega, ⟨k + 1, h.only ⟨rfl, rfl, rfl, rfl, rfl, rfl, rfl, rfl, rfl, slot_int rfl (by omega), trivial⟩, St.as (s.pick _ (List.sublist_append_right [_, _] _)) ⟨rfl, rfl, rfl, rfl, trivial⟩, rfl, by omega⟩⟩
          · replace hc := of_decide_eq_false hc
            refine wpIn_exit ?_
            refine t_exit ?_
            refine t_exit ?_
            refine b_exit ?_
            refine hK29 _ _ ?_
            refine c_seq fun K39 hK39 => ?_
            refine c_region ?_
            refine s_pure h (ru_assign (h.ev rfl)) rfl ?_; intro f h
            refine s_nil ?_
            refine hK39 _ _ ?_
            refine wpIn_ret ?_
            exact e_tmp rfl h s rfl (rfl)
        · skip
          refine c_region ?_
          refine s_pure h (ru_field fld25_1 (h.ev rfl)) rfl ?_; intro f h
          refine s_load_at1 (V := .int .i64 (cutP p0).2.1) (cell_of_has (Has.of_own s 2 rfl) 1 (pk_n _ _ _)) h one3 rfl rfl ?_; intro f h
          refine s_pure h (ru_val (.bool true) (ru_gtr (h.ev rfl) (h.ev rfl)) (congrArg Value.bool ((decide_eq_decide.2 (by omega)).trans u0))) rfl ?_; intro f h
          refine s_pure h (ru_move (h.ev rfl)) rfl ?_; intro f h
          refine s_on h rfl rfl rfl ?_
          refine s_pure h (ru_field fld25_1 (h.ev rfl)) rfl ?_; intro f h
          refine s_on h rfl rfl rfl ?_
          refine s_load_at1 (V := .int .i64 (cutP p0).2.1) (cell_of_has (Has.of_own s 2 rfl) 1 (pk_n _ _ _)) h one3 rfl rfl ?_; intro f h
          refine s_on h rfl rfl rfl ?_
          refine s_pure h (ru_move (h.ev rfl)) rfl ?_; intro f h
          refine s_on h rfl rfl rfl ?_
          refine s_pure h (ru_add (h.ev rfl) (h.ev rfl) (by omega)) rfl ?_; intro f h
          refine s_on h rfl rfl rfl ?_
          refine s_pure h (ru_val (.bool true) (ru_leq (h.ev rfl) (h.ev rfl)) (congrArg Value.bool ((decide_eq_decide.2 (by omega)).trans u1))) rfl ?_; intro f h
          refine s_pure h (ru_pick_t (h.ev rfl) (h.ev rfl)) rfl ?_; intro f h
          refine s_nil ?_
          refine hK11 _ _ ?_
          refine wpIn_cond_true (h.ev rfl) ?_
          refine c_region ?_
          refine s_pure h (ru_field fld25_1 (h.ev rfl)) rfl ?_; intro f h
          refine s_load_at1 (V := .int .i64 (cutP p0).2.1) (cell_of_has (Has.of_own s 0 rfl) 1 (pk_n _ _ _)) h one3 rfl rfl ?_; intro f h
          refine s_pure h (ru_move (h.ev rfl)) rfl ?_; intro f h
          refine s_pure h (ru_val (.int .i64 ((cutP p0).2.1 + (d9 : Int))) (ru_add (h.ev rfl) (h.ev rfl) (by omega)) (rfl)) rfl ?_; intro f h
          refine s_pure h (ru_field fld25_1 (h.ev rfl)) rfl ?_; intro f h
          refine s_store_one 0 h s one3 rfl rfl rfl (by rw [pkArr_size]; omega) (rfl) ?_; intro w1 s
          replace s := s.recell (D := pkArr (cutV vs (min p0.1.length 6)) (((cutP p0).2.1 + (d9 : Int))) ((sx.extract 0 (min sx.size 64)))) 0 rfl (rfl)
          refine s_nil ?_
          refine hK9 _ _ ?_
          refine c_seq fun K40 hK40 => ?_
          refine c_region ?_
          have hz9 := zM_y u0 u1
          replace s := s.recell (D := pkArr (cutV vs (min p0.1.length 6)) (likeP (cutP p0) (sx.extract 0 (min sx.size 64)) d9).2.1 (likeP (cutP p0) (sx.extract 0 (min sx.size 64)) d9).2.2) 0 rfl (by show pkArr _ _ _ = pkArr _ ((cutP p0).2.1 + zM (cutP p0) d9) _; rw [hz9]; rfl)
          have hQ9 : RdE w (cutV vs (min p0.1.length 6)) (likeP (cutP p0) (sx.extract 0 (min sx.size 64)) d9).1 := hP
          have hQl : (likeP (cutP p0) (sx.extract 0 (min sx.size 64)) d9).1.length ≤ 6 := hpl
          clear hz9
          refine s_pure h (ru_move (h.ev rfl)) rfl ?_; intro f h
          refine s_load_row 0 h s row25 rfl rfl (pkArr_size _ _ _) rfl ?_; intro f h
          refine s_call h s fnc9 (pstep_any t (cutV vh (min l.length 34)) (likeP (cutP p0) (sx.extract 0 (min sx.size 64)) d9) (cutV vs (min p0.1.length 6)) _ (hT.keep s.ext) (by first | omega | decide) (hQ9.keep s.ext) (by first | omega | decide)) rfl rfl ?_; rintro f w1 v65 ⟨vb, Kb, kvb, rfl, hKb, hG⟩ hE h sq; replace s := s.add hG; clear hG
          refine s_pure h (ru_move (h.ev rfl)) rfl ?_; intro f h
          refine s_pure h (ru_extract (h.ev rfl) rfl) rfl ?_; intro f h
          refine s_pure h (ru_extract (h.ev rfl) rfl) rfl ?_; intro f h
          refine s_pure h (ru_assign (h.ev rfl)) rfl ?_; intro f h
          refine s_pure h (ru_assign (h.ev rfl)) rfl ?_; intro f h
          refine s_nil ?_
          refine hK40 _ _ ?_
          refine c_seq fun K41 hK41 => ?_
          refine c_seq fun K42 hK42 => ?_
          refine c_region ?_
          obtain ⟨g3, g4⟩ := rwE_ok (t := t) (like_right (d := (sx.extract 0 (min sx.size 64))) d9 r0 hsx) t0
          rw [g4, like_step (sx.extract 0 (min sx.size 64)) d9 hr2 hr3] at hKb
          have hlk : Kb.length = Ka.length := by rw [← outs_len Kb, hKb, List.length_map, ← hKa, outs_len]
          refine s_pure h (ru_move (h.ev rfl)) rfl ?_; intro f h
          refine s_pure h (ru_val (.bool false) (ru_neq (h.ev rfl) (h.ev rfl)) (congrArg Value.bool (by rw [g3]; rfl))) rfl ?_; intro f h
          refine s_pure h (ru_move (h.ev rfl)) rfl ?_; intro f h
          refine s_on h rfl rfl rfl ?_
          refine s_pure h (ru_move (h.ev rfl)) rfl ?_; intro f h
          refine s_on h rfl rfl rfl ?_
          refine s_pure h (ru_lenZ ((((s.getG 2 rfl) (hP.keep s.ext))).1) Try.underlying28 (h.ev rfl)) rfl ?_; intro f h
          refine s_on h rfl rfl rfl ?_
          refine s_pure h (ru_move (h.ev rfl)) rfl ?_; intro f h
          refine s_on h rfl rfl rfl ?_
          refine s_pure h (ru_lenZ ((((s.getG 0 rfl) (hQ9.keep s.ext))).1) Try.underlying28 (h.ev rfl)) rfl ?_; intro f h
          refine s_on h rfl rfl rfl ?_
          refine s_pure h (ru_val (.bool false) (ru_neq (h.ev rfl) (h.ev rfl)) (congrArg Value.bool (by rw [hlk]; simp))) rfl ?_; intro f h
          refine s_pure h (ru_pick_f (h.ev rfl) (h.ev rfl)) rfl ?_; intro f h
          refine s_pure h (ru_move (h.ev rfl)) rfl ?_; intro f h
          refine s_on h rfl rfl rfl ?_
          refine s_call h s fnc14 (ret_val (.bool true) (palive_any _) (congrArg Value.bool (rfl))) rfl rfl ?_; intro f w1 v9 hT hE h s; obtain rfl := hT
          refine s_on h rfl rfl rfl ?_
          refine s_pure h (ru_val (.bool false) (ru_not (h.ev rfl)) rfl) rfl ?_; intro f h
          refine s_pure h (ru_pick_f (h.ev rfl) (h.ev rfl)) rfl ?_; intro f h
          refine s_nil ?_
          refine hK42 _ _ ?_
          refine wpIn_cond_false (h.ev rfl) ?_
          refine wpIn_skip ?_
          refine hK41 _ _ ?_
          refine c_seq fun K43 hK43 => ?_
          refine c_seq fun K44 hK44 => ?_
          refine c_region ?_
          refine s_pure h (ru_move (h.ev rfl)) rfl ?_; intro f h
          refine s_pure h (ru_lenZ ((((s.getG 2 rfl) (hP.keep s.ext))).1) Try.underlying28 (h.ev rfl)) rfl ?_; intro f h
          refine s_pure h (ru_move (h.ev rfl)) rfl ?_; intro f h
          refine s_nil ?_
          refine hK44 _ _ ?_
          refine wpIn_block ?_
          refine wpIn_loop_ghost (fun nn aa ww => ∃ k : Nat, Sl 155 aa [(1, .agg (pkArr vs p0.2.1 p0.2.2)), (5, .pointer (some ⟨b5, 0, none⟩)), (11, .pointer (some ⟨b11, 0, none⟩)), (0, (cutV vh (min l.length 34))), (2, .string (sx.extract 0 (min sx.size 64))), (9, va), (12, vb), (81, va), (82, .int .i64 (Ka.length : Int)), (83, .int .i64 (k : Int))] ∧ St w [(.grp kvb (fun w9 => RdE w9 (cutV vs (min p0.1.length 6)) (likeP (cutP p0) (sx.extract 0 (min sx.size 64)) d9).1 → RdU w9 vb Kb)), .blk b11 (.cells (pkArr (cutV vs (min p0.1.length 6)) (likeP (cutP p0) (sx.extract 0 (min sx.size 64)) d9).2.1 (likeP (cutP p0) (sx.extract 0 (min sx.size 64)) d9).2.2) 25), (.grp kva (fun w9 => RdE w9 (cutV vs (min p0.1.length 6)) (cutP p0).1 → RdU w9 va Ka)), .blk b5 (.cells (pkArr (cutV vs (min p0.1.length 6)) (cutP p0).2.1 (cutP p0).2.2) 25)] ww ∧ nn = Ka.length - k ∧ k ≤ Ka.length) (Ka.length - (0)) ⟨0, h.only ⟨rfl, rfl, rfl, rfl, rfl, rfl, rfl, rfl, rfl, slot_int rfl (by omega), trivial⟩, s.as ⟨rfl, rfl, rfl, rfl, trivial⟩, rfl, Nat.zero_le _⟩ ?_
          rintro _ f w1 ⟨k, h, s, hnn, hp0⟩
          refine c_seq fun K45 hK45 => ?_
          refine c_region ?_
          refine s_pure h (ru_lss (h.ev rfl) (h.ev rfl)) rfl ?_; intro f h
          refine s_nil ?_
          refine hK45 _ _ ?_
          refine c_seq fun K46 hK46 => ?_
          refine c_cond h rfl (fun hc => ?_) (fun hc => ?_)
          · replace hc := of_decide_eq_true hc
            refine wpIn_skip ?_
            refine hK46 _ _ ?_
            refine c_seq fun K47 hK47 => ?_
            refine wpIn_block ?_
            refine c_seq fun K48 hK48 => ?_
            refine c_region ?_
            have hka : k < Ka.length := by omega
            have hkb : k < Kb.length := by omega
            obtain ⟨x0, x1, x2, x3, x4, x5⟩ := ch_p (like_at hKa hKb hka).2
            refine s_pure h (ru_move (h.ev rfl)) rfl ?_; intro f h
            refine s_pure h (ru_ixz ((((s.getG 2 rfl) (hP.keep s.ext))).1) (k) Try.underlying28 szo46 (h.ev rfl) (h.ev rfl) (by omega) (by omega)) rfl ?_; intro f h
            refine s_load_at (((((s.getG 2 rfl) (hP.keep s.ext))).1).el (k) (by omega) (by decide) (D := otArr (Ka.getD k zO2).1.k (Ka.getD k zO2).1.h (Ka.getD k zO2).2 (Ka.getD k zO2).1.p.2.1 (Ka.getD k zO2).1.p.2.2 (Ka.getD k zO2).1.t (Ka.getD k zO2).1.y) (ou_el Ka k hka)) h row46 rfl (otArr_size _ _ _ _ _ _ _) rfl ?_; intro f h
            refine s_alloc (otArr 0 0 nilV 0 ByteArray.empty zTg 0) h s zero46 rfl rfl ?_; intro f w1 b15 h s
            refine s_pure h (ru_assign (h.ev rfl)) rfl ?_; intro f h
            refine s_store_row 0 h s row46 rfl rfl rfl (otArr_size _ _ _ _ _ _ _) (otArr_size _ _ _ _ _ _ _) (otArr_ones _ _ _ _ _ _ (rd_one ((((s.getG 3 rfl) (hP.keep s.ext))).2 _ (ou_mem hka)))) ?_; intro w1 s
            refine s_nil ?_
            refine hK48 _ _ ?_
            refine c_seq fun K49 hK49 => ?_
            refine c_region ?_
            refine s_pure h (ru_move (h.ev rfl)) rfl ?_; intro f h
            refine s_pure h (ru_move (h.ev rfl)) rfl ?_; intro f h
            refine s_pure h (ru_ixz ((((s.getG 1 rfl) (hQ9.keep s.ext))).1) (k) Try.underlying28 szo46 (h.ev rfl) (h.ev rfl) (by omega) (by omega)) rfl ?_; intro f h
            refine s_load_at (((((s.getG 1 rfl) (hQ9.keep s.ext))).1).el (k) (by omega) (by decide) (D := otArr (Kb.getD k zO2).1.k (Kb.getD k zO2).1.h (Kb.getD k zO2).2 (Kb.getD k zO2).1.p.2.1 (Kb.getD k zO2).1.p.2.2 (Kb.getD k zO2).1.t (Kb.getD k zO2).1.y) (ou_el Kb k hkb)) h row46 rfl (otArr_size _ _ _ _ _ _ _) rfl ?_; intro f h
            refine s_alloc (otArr 0 0 nilV 0 ByteArray.empty zTg 0) h s zero46 rfl rfl ?_; intro f w1 b16 h s
            refine s_store_row 0 h s row46 rfl rfl rfl (otArr_size _ _ _ _ _ _ _) (otArr_size _ _ _ _ _ _ _) (otArr_ones _ _ _ _ _ _ (rd_one ((((s.getG 2 rfl) (hQ9.keep s.ext))).2 _ (ou_mem hkb)))) ?_; intro w1 s
            refine s_nil ?_
            refine hK49 _ _ ?_
            refine c_seq fun K50 hK50 => ?_
            refine c_seq fun K51 hK51 => ?_
            refine c_region ?_
            refine s_pure h (ru_field fld46_0 (h.ev rfl)) rfl ?_; intro f h
            refine s_load_at1 (V := .int .i64 (Ka.getD k zO2).1.k) (cell_of_has (Has.of_own s 1 rfl) 0 (ot_k _ _ _ _ _ _ _)) h one3 rfl rfl ?_; intro f h
            refine s_pure h (ru_field fld46_0 (h.ev rfl)) rfl ?_; intro f h
            refine s_load_at1 (V := .int .i64 (Kb.getD k zO2).1.k) (cell_of_has (Has.of_own s 0 rfl) 0 (ot_k _ _ _ _ _ _ _)) h one3 rfl rfl ?_; intro f h
            refine s_pure h (ru_val (.bool false) (ru_neq (h.ev rfl) (h.ev rfl)) (congrArg Value.bool (by rw [x0]; simp))) rfl ?_; intro f h
            refine s_pure h (ru_move (h.ev rfl)) rfl ?_; intro f h
            refine s_on h rfl rfl rfl ?_
            refine s_pure h (ru_field fld46_1 (h.ev rfl)) rfl ?_; intro f h
            refine s_on h rfl rfl rfl ?_
            refine s_load_at1 (V := .int .i64 (Ka.getD k zO2).1.h) (cell_of_has (Has.of_own s 1 rfl) 1 (ot_h _ _ _ _ _ _ _)) h one3 rfl rfl ?_; intro f h
            refine s_on h rfl rfl rfl ?_
            refine s_pure h (ru_field fld46_1 (h.ev rfl)) rfl ?_; intro f h
            refine s_on h rfl rfl rfl ?_
            refine s_load_at1 (V := .int .i64 (Kb.getD k zO2).1.h) (cell_of_has (Has.of_own s 0 rfl) 1 (ot_h _ _ _ _ _ _ _)) h one3 rfl rfl ?_; intro f h
            refine s_on h rfl rfl rfl ?_
            refine s_pure h (ru_val (.bool false) (ru_neq (h.ev rfl) (h.ev rfl)) (congrArg Value.bool (by rw [x1]; simp))) rfl ?_; intro f h
            refine s_pure h (ru_pick_f (h.ev rfl) (h.ev rfl)) rfl ?_; intro f h
            refine s_pure h (ru_move (h.ev rfl)) rfl ?_; intro f h
            refine s_on h rfl rfl rfl ?_
            refine s_pure h (ru_field fld46_3 (h.ev rfl)) rfl ?_; intro f h
            refine s_on h rfl rfl rfl ?_
            refine s_load_at (Has.subL (Has.of_own s 1 rfl) 5 67 (D := tgArr (Ka.getD k zO2).1.t) (ot_t _ _ _ _ _ _ _)) h row44 rfl (tgArr_size _) rfl ?_; intro f h
            refine s_on h rfl rfl rfl ?_
            refine s_pure h (ru_field fld46_3 (h.ev rfl)) rfl ?_; intro f h
            refine s_on h rfl rfl rfl ?_
            refine s_load_at (Has.subL (Has.of_own s 0 rfl) 5 67 (D := tgArr (Kb.getD k zO2).1.t) (ot_t _ _ _ _ _ _ _)) h row44 rfl (tgArr_size _) rfl ?_; intro f h
            refine s_on h rfl rfl rfl ?_
            refine s_pure h (ru_val (.bool false) (ru_neqW (eqG _ _) (by kernel_rfl) (by decide) (h.ev rfl) (h.ev rfl) (decide ((Ka.getD k zO2).1.t = (Kb.getD k zO2).1.t)) (tgEq _ _)) (congrArg Value.bool (by rw [x2]; simp))) rfl ?_; intro f h
            refine s_pure h (ru_pick_f (h.ev rfl) (h.ev rfl)) rfl ?_; intro f h
            refine s_pure h (ru_move (h.ev rfl)) rfl ?_; intro f h
            refine s_on h rfl rfl rfl ?_
            refine s_pure h (ru_field fld46_4 (h.ev rfl)) rfl ?_; intro f h
            refine s_on h rfl rfl rfl ?_
            refine s_load_at1 (V := .int .i64 (Ka.getD k zO2).1.y) (cell_of_has (Has.of_own s 1 rfl) 72 (ot_y _ _ _ _ _ _ _)) h one29 rfl rfl ?_; intro f h
            refine s_on h rfl rfl rfl ?_
            refine s_pure h (ru_field fld46_4 (h.ev rfl)) rfl ?_; intro f h
            refine s_on h rfl rfl rfl ?_
            refine s_load_at1 (V := .int .i64 (Kb.getD k zO2).1.y) (cell_of_has (Has.of_own s 0 rfl) 72 (ot_y _ _ _ _ _ _ _)) h one29 rfl rfl ?_; intro f h
            refine s_on h rfl rfl rfl ?_
            refine s_pure h (ru_val (.bool false) (ru_neq (h.ev rfl) (h.ev rfl)) (congrArg Value.bool (by rw [x3]; simp))) rfl ?_; intro f h
            refine s_pure h (ru_pick_f (h.ev rfl) (h.ev rfl)) rfl ?_; intro f h
            refine s_pure h (ru_move (h.ev rfl)) rfl ?_; intro f h
            refine s_on h rfl rfl rfl ?_
            refine s_pure h (ru_field fld46_2 (h.ev rfl)) rfl ?_; intro f h
            refine s_on h rfl rfl rfl ?_
            refine s_pure h (ru_field fld25_0 (h.ev rfl)) rfl ?_; intro f h
            refine s_on h rfl rfl rfl ?_
            refine s_load_at1 (V := (Ka.getD k zO2).2) (cell_of_has (Has.of_own s 1 rfl) 2 (ot_v _ _ _ _ _ _ _)) h one23 rfl rfl ?_; intro f h
            refine s_on h rfl rfl rfl ?_
            refine s_pure h (ru_lenZ ((((s.getG 4 rfl) (hP.keep s.ext))).2 _ (ou_mem hka)) Try.underlying23 (h.ev rfl)) rfl ?_; intro f h
            refine s_on h rfl rfl rfl ?_
            refine s_pure h (ru_field fld46_2 (h.ev rfl)) rfl ?_; intro f h
            refine s_on h rfl rfl rfl ?_
            refine s_pure h (ru_field fld25_0 (h.ev rfl)) rfl ?_; intro f h
            refine s_on h rfl rfl rfl ?_
            refine s_load_at1 (V := (Kb.getD k zO2).2) (cell_of_has (Has.of_own s 0 rfl) 2 (ot_v _ _ _ _ _ _ _)) h one23 rfl rfl ?_; intro f h
            refine s_on h rfl rfl rfl ?_
            refine s_pure h (ru_lenZ ((((s.getG 2 rfl) (hQ9.keep s.ext))).2 _ (ou_mem hkb)) Try.underlying23 (h.ev rfl)) rfl ?_; intro f h
            refine s_on h rfl rfl rfl ?_
            refine s_pure h (ru_val (.bool false) (ru_neq (h.ev rfl) (h.ev rfl)) (congrArg Value.bool (by rw [x4]; simp))) rfl ?_; intro f h
            refine s_pure h (ru_pick_f (h.ev rfl) (h.ev rfl)) rfl ?_; intro f h
            refine s_nil ?_
            refine hK51 _ _ ?_
            refine wpIn_cond_false (h.ev rfl) ?_
            refine wpIn_skip ?_
            refine hK50 _ _ ?_
            refine c_seq fun K52 hK52 => ?_
            cases g0 : (decide ((Ka.getD k zO2).1.k = 3) : Bool)
            · skip
              refine c_region ?_
              refine s_pure h (ru_field fld46_0 (h.ev rfl)) rfl ?_; intro f h
              refine s_load_at1 (V := .int .i64 (Ka.getD k zO2).1.k) (cell_of_has (Has.of_own s 1 rfl) 0 (ot_k _ _ _ _ _ _ _)) h one3 rfl rfl ?_; intro f h
              refine s_pure h (ru_val (.bool true) (ru_neq (h.ev rfl) (h.ev rfl)) (congrArg Value.bool (by simpa using g0))) rfl ?_; intro f h
              refine s_pure h (ru_move (h.ev rfl)) rfl ?_; intro f h
              refine s_on h rfl rfl rfl ?_
              obtain ⟨x6, x7⟩ := x5 g0
              have hq9 : (likeP (cutP p0) (sx.extract 0 (min sx.size 64)) d9).2.1 = (cutP p0).2.1 + zM (cutP p0) d9 := rfl
              obtain ⟨w1, w2, _⟩ := like_b (p := (cutP p0)) (m := d9) hr2 hr3
              have hz2 : (Kb.getD k zO2).1.p.2.1 - (Ka.getD k zO2).1.p.2.1 = (likeP (cutP p0) (sx.extract 0 (min sx.size 64)) d9).2.1 - (cutP p0).2.1 := by omega
              refine s_pure h (ru_field fld46_2 (h.ev rfl)) rfl ?_; intro f h
              refine s_on h rfl rfl rfl ?_
              refine s_pure h (ru_field fld25_2 (h.ev rfl)) rfl ?_; intro f h
              refine s_on h rfl rfl rfl ?_
              refine s_load_at1 (V := .string (Kb.getD k zO2).1.p.2.2) (cell_of_has (Has.of_own s 0 rfl) 4 (ot_d _ _ _ _ _ _ _)) h one9 rfl rfl ?_; intro f h
              refine s_on h rfl rfl rfl ?_
              refine s_pure h (ru_move (h.ev rfl)) rfl ?_; intro f h
              refine s_on h rfl rfl rfl ?_
              refine s_pure h (ru_val (.bool false) (ru_neq_str (h.ev rfl) (h.ev rfl)) (congrArg Value.bool (by rw [x6]; simp))) rfl ?_; intro f h
              refine s_on h rfl rfl rfl ?_
              refine s_pure h (ru_move (h.ev rfl)) rfl ?_; intro f h
              refine s_on h rfl rfl rfl ?_
              refine s_pure h (ru_field fld46_2 (h.ev rfl)) rfl ?_; intro f h
              refine s_on h rfl rfl rfl ?_
              refine s_pure h (ru_field fld25_1 (h.ev rfl)) rfl ?_; intro f h
              refine s_on h rfl rfl rfl ?_
              refine s_load_at1 (V := .int .i64 (Kb.getD k zO2).1.p.2.1) (cell_of_has (Has.of_own s 0 rfl) 3 (ot_n _ _ _ _ _ _ _)) h one3 rfl rfl ?_; intro f h
              refine s_on h rfl rfl rfl ?_
              refine s_pure h (ru_field fld46_2 (h.ev rfl)) rfl ?_; intro f h
              refine s_on h rfl rfl rfl ?_
              refine s_pure h (ru_field fld25_1 (h.ev rfl)) rfl ?_; intro f h
              refine s_on h rfl rfl rfl ?_
              refine s_load_at1 (V := .int .i64 (Ka.getD k zO2).1.p.2.1) (cell_of_has (Has.of_own s 1 rfl) 3 (ot_n _ _ _ _ _ _ _)) h one3 rfl rfl ?_; intro f h
              refine s_on h rfl rfl rfl ?_
              refine s_pure h (ru_sub (h.ev rfl) (h.ev rfl) (by omega)) rfl ?_; intro f h
              refine s_on h rfl rfl rfl ?_
              refine s_pure h (ru_field fld25_1 (h.ev rfl)) rfl ?_; intro f h
              refine s_on h rfl rfl rfl ?_
              refine s_load_at1 (V := .int .i64 (likeP (cutP p0) (sx.extract 0 (min sx.size 64)) d9).2.1) (cell_of_has (Has.of_own s 3 rfl) 1 (pk_n _ _ _)) h one3 rfl rfl ?_; intro f h
              refine s_on h rfl rfl rfl ?_
              refine s_pure h (ru_field fld25_1 (h.ev rfl)) rfl ?_; intro f h
              refine s_on h rfl rfl rfl ?_
              refine s_load_at1 (V := .int .i64 (cutP p0).2.1) (cell_of_has (Has.of_own s 5 rfl) 1 (pk_n _ _ _)) h one3 rfl rfl ?_; intro f h
              refine s_on h rfl rfl rfl ?_
              refine s_pure h (ru_sub (h.ev rfl) (h.ev rfl) (by omega)) rfl ?_; intro f h
              refine s_on h rfl rfl rfl ?_
              refine s_pure h (ru_val (.bool false) (ru_neq (h.ev rfl) (h.ev rfl)) (congrArg Value.bool (by rw [hz2]; simp))) rfl ?_; intro f h
              refine s_on h rfl rfl rfl ?_
              refine s_pure h (ru_pick_f (h.ev rfl) (h.ev rfl)) rfl ?_; intro f h
              refine s_pure h (ru_pick_t (h.ev rfl) (h.ev rfl)) rfl ?_; intro f h
              refine s_nil ?_
              refine hK52 _ _ ?_
              refine wpIn_cond_false (h.ev rfl) ?_
              refine wpIn_skip ?_
              refine b_norm ?_
              refine hK47 _ _ ?_
              refine c_region ?_
              refine s_pure h (ru_add (h.ev rfl) (h.ev rfl) (by omega)) rfl ?_; intro f h
              refine s_pure h (ru_move (h.ev rfl)) rfl ?_; intro f h
              refine s_nil ?_
              refine t_norm ?_
              exact ⟨_, by omega, ⟨k + 1, h.only ⟨rfl, rfl, rfl, rfl, rfl, rfl, rfl, rfl, rfl, slot_int rfl (by omega), trivial⟩, St.as (s.pick _ (List.sublist_append_right [_, _] _)) ⟨rfl, rfl, rfl, rfl, trivial⟩, rfl, by omega⟩⟩
            · skip
              refine c_region ?_
              refine s_pure h (ru_field fld46_0 (h.ev rfl)) rfl ?_; intro f h
              refine s_load_at1 (V := .int .i64 (Ka.getD k zO2).1.k) (cell_of_has (Has.of_own s 1 rfl) 0 (ot_k _ _ _ _ _ _ _)) h one3 rfl rfl ?_; intro f h
              refine s_pure h (ru_val (.bool false) (ru_neq (h.ev rfl) (h.ev rfl)) (congrArg Value.bool (by simpa using g0))) rfl ?_; intro f h
              refine s_pure h (ru_move (h.ev rfl)) rfl ?_; intro f h
              refine s_off (b := true) h rfl rfl rfl rfl ?_; intro f h
              refine s_off (b := true) h rfl rfl rfl rfl ?_; intro f h
              refine s_off (b := true) h rfl rfl rfl rfl ?_; intro f h
              refine s_off (b := true) h rfl rfl rfl rfl ?_; intro f h
              refine s_off (b := true) h rfl rfl rfl rfl ?_; intro f h
              refine s_off (b := true) h rfl rfl rfl rfl ?_; intro f h
              refine s_none h rfl rfl rfl rfl ?_; intro f h
              refine s_none h rfl rfl rfl rfl ?_; intro f h
              refine s_none h rfl rfl rfl rfl ?_; intro f h
              refine s_none h rfl rfl rfl rfl ?_; intro f h
              refine s_none h rfl rfl rfl rfl ?_; intro f h
              refine s_none h rfl rfl rfl rfl ?_; intro f h
              refine s_none h rfl rfl rfl rfl ?_; intro f h
              refine s_none h rfl rfl rfl rfl ?_; intro f h
              refine s_none h rfl rfl rfl rfl ?_; intro f h
              refine s_none h rfl rfl rfl rfl ?_; intro f h
              refine s_none h rfl rfl rfl rfl ?_; intro f h
              refine s_none h rfl rfl rfl rfl ?_; intro f h
              refine s_none h rfl rfl rfl rfl ?_; intro f h
              refine s_off (b := true) h rfl rfl rfl rfl ?_; intro f h
              refine s_pure h (ru_pick_f (h.ev rfl) (h.ev rfl)) rfl ?_; intro f h
              refine s_nil ?_
              refine hK52 _ _ ?_
              refine wpIn_cond_false (h.ev rfl) ?_
              refine wpIn_skip ?_
              refine b_norm ?_
              refine hK47 _ _ ?_
              refine c_region ?_
              refine s_pure h (ru_add (h.ev rfl) (h.ev rfl) (by omega)) rfl ?_; intro f h
              refine s_pure h (ru_move (h.ev rfl)) rfl ?_; intro f h
              refine s_nil ?_
              refine t_norm ?_
              exact ⟨_, by omega, ⟨k + 1, h.only ⟨rfl, rfl, rfl, rfl, rfl, rfl, rfl, rfl, rfl, slot_int rfl (by omega), trivial⟩, St.as (s.pick _ (List.sublist_append_right [_, _] _)) ⟨rfl, rfl, rfl, rfl, trivial⟩, rfl, by omega⟩⟩
          · replace hc := of_decide_eq_false hc
            refine wpIn_exit ?_
            refine t_exit ?_
            refine t_exit ?_
            refine b_exit ?_
            refine hK43 _ _ ?_
            refine c_seq fun K53 hK53 => ?_
            refine c_region ?_
            refine s_pure h (ru_assign (h.ev rfl)) rfl ?_; intro f h
            refine s_nil ?_
            refine hK53 _ _ ?_
            refine wpIn_ret ?_
            exact e_tmp rfl h s rfl (rfl)
end Go.Proofs.Ythnmonfhanbghaa
