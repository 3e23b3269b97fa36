/- What is read of the bytes of a message: the reference (texts of at most 100000 bytes). -/
import Derived.Test.YtaehgcdcfbhohaaVe
import Derived.Test.YtaehgcdcfbhohaaVh
set_option linter.unusedVariables false
set_option linter.unusedSimpArgs false
set_option linter.unusedSectionVars false
namespace Go.Proofs.Ytaehgcdcfbhohaa
open Go.RowKit
set_option maxHeartbeats 4000000 in
theorem head_any (sx : ByteArray) (hsx : sx.size ≤ 100000) (w : World) : Calls Try.prog 39 [.string sx].toArray w (Ret w (fun v w' => ∃ vs, v = .agg (t5 (hdM sx) vs (hdR sx) (hdO sx)) ∧ Owns w' w.heap.size 25 34 vs (hdM sx).l.length (eCells (hdM sx).l))) := by
  have hb0 := sb_lt sx 0
  have hks : kS sx = ((sb sx 0 : Nat) : Int) := rfl
  obtain ⟨hq0, hq1, hq2, hq3, hq4, hq5⟩ := q_le sx
  refine c_enter Try.func39 rfl Try.ntmps39 rfl [(0, .string sx)] (by simp) fun f h => ?_
  have s := St.start w
  refine c_seq fun K1 hK1 => ?_
  refine c_region ?_
  refine s_alloc (t5 mZ (.slice none 0 0) ⟨#[]⟩ false) h s zero65 rfl rfl ?_; intro f w1 b2 h s
  refine s_nil ?_
  refine hK1 _ _ ?_
  refine c_seq fun K2 hK2 => ?_
  refine c_seq fun K3 hK3 => ?_
  refine c_join (fun aa ww => Sl 106 aa [(0, .string sx), (2, .pointer (some ⟨b2, 0, none⟩)), (22, .bool (!okK sx))] ∧ St w [.blk b2 (.cells (t5 mZ (.slice none 0 0) ⟨#[]⟩ false) 65)] ww) ?_ ?_
  · skip
    cases h0 : (decide (((sx.size : Nat) : Int) = 0) : Bool)
    · skip
      cases hI : (hasI (kS sx) : Bool)
      · skip
        cases hS : (hasS (kS sx) : Bool)
        · skip
          refine c_region ?_
          refine s_pure h (ru_move (h.ev rfl)) rfl ?_; intro f h
          refine s_pure h (ru_len_str Try.underlying9 (h.ev rfl)) rfl ?_; intro f h
          refine s_pure h (ru_val (.bool false) (ru_eql (h.ev rfl) (h.ev rfl)) (congrArg Value.bool h0)) rfl ?_; intro f h
          refine s_pure h (ru_move (h.ev rfl)) rfl ?_; intro f h
          refine s_on h rfl rfl rfl ?_
          refine s_pure h (ru_move (h.ev rfl)) rfl ?_; intro f h
          refine s_on h rfl rfl rfl ?_
          have hne := of_decide_eq_false h0
          refine s_pure h (ru_ix_sb Try.underlying9 (0) (h.ev rfl) (h.ev rfl) (by omega) (by omega)) rfl ?_; intro f h
          refine s_on h rfl rfl rfl ?_
          refine s_pure h (ru_conv_in Try.underlying5 Try.underlying3 (h.ev rfl) (IntWalk.i64_in _ (by omega))) rfl ?_; intro f h
          refine s_on h rfl rfl rfl ?_
          refine s_call h s fnc23 (ret_val (.bool false) (has_any (kS sx) 105 _) (congrArg Value.bool ((hasF_i (kS sx)).trans hI))) rfl rfl ?_; intro f w1 v9 hT hE h s; obtain rfl := hT
          refine s_on h rfl rfl rfl ?_
          refine s_pure h (ru_val (.bool true) (ru_not (h.ev rfl)) rfl) rfl ?_; intro f h
          refine s_on h rfl rfl rfl ?_
          refine s_pure h (ru_move (h.ev rfl)) rfl ?_; intro f h
          refine s_on h rfl rfl rfl ?_
          refine s_pure h (ru_move (h.ev rfl)) rfl ?_; intro f h
          refine s_on h rfl rfl rfl ?_
          refine s_pure h (ru_ix_sb Try.underlying9 (0) (h.ev rfl) (h.ev rfl) (by omega) (by omega)) rfl ?_; intro f h
          refine s_on h rfl rfl rfl ?_
          refine s_pure h (ru_conv_in Try.underlying5 Try.underlying3 (h.ev rfl) (IntWalk.i64_in _ (by omega))) rfl ?_; intro f h
          refine s_on h rfl rfl rfl ?_
          refine s_call h s fnc23 (ret_val (.bool false) (has_any (kS sx) 115 _) (congrArg Value.bool ((hasF_s (kS sx)).trans hS))) rfl rfl ?_; intro f w1 v9 hT hE h s; obtain rfl := hT
          refine s_on h rfl rfl rfl ?_
          refine s_pure h (ru_val (.bool true) (ru_not (h.ev rfl)) rfl) rfl ?_; intro f h
          refine s_on h rfl rfl rfl ?_
          refine s_pure h (ru_pick_t (h.ev rfl) (h.ev rfl)) rfl ?_; intro f h
          refine s_pure h (ru_pick_f (h.ev rfl) (h.ev rfl)) rfl ?_; intro f h
          refine s_nil ?_
          refine t_norm ?_
          exact ⟨h.only ⟨rfl, rfl, slot_as rfl (congrArg Value.bool (by rw [okK_eq, h0, hI, hS]; rfl)), trivial⟩, St.as s ⟨rfl, trivial⟩⟩
        · skip
          refine c_region ?_
          refine s_pure h (ru_move (h.ev rfl)) rfl ?_; intro f h
          refine s_pure h (ru_len_str Try.underlying9 (h.ev rfl)) rfl ?_; intro f h
          refine s_pure h (ru_val (.bool false) (ru_eql (h.ev rfl) (h.ev rfl)) (congrArg Value.bool h0)) rfl ?_; intro f h
          refine s_pure h (ru_move (h.ev rfl)) rfl ?_; intro f h
          refine s_on h rfl rfl rfl ?_
          refine s_pure h (ru_move (h.ev rfl)) rfl ?_; intro f h
          refine s_on h rfl rfl rfl ?_
          have hne := of_decide_eq_false h0
          refine s_pure h (ru_ix_sb Try.underlying9 (0) (h.ev rfl) (h.ev rfl) (by omega) (by omega)) rfl ?_; intro f h
          refine s_on h rfl rfl rfl ?_
          refine s_pure h (ru_conv_in Try.underlying5 Try.underlying3 (h.ev rfl) (IntWalk.i64_in _ (by omega))) rfl ?_; intro f h
          refine s_on h rfl rfl rfl ?_
          refine s_call h s fnc23 (ret_val (.bool false) (has_any (kS sx) 105 _) (congrArg Value.bool ((hasF_i (kS sx)).trans hI))) rfl rfl ?_; intro f w1 v9 hT hE h s; obtain rfl := hT
          refine s_on h rfl rfl rfl ?_
          refine s_pure h (ru_val (.bool true) (ru_not (h.ev rfl)) rfl) rfl ?_; intro f h
          refine s_on h rfl rfl rfl ?_
          refine s_pure h (ru_move (h.ev rfl)) rfl ?_; intro f h
          refine s_on h rfl rfl rfl ?_
          refine s_pure h (ru_move (h.ev rfl)) rfl ?_; intro f h
          refine s_on h rfl rfl rfl ?_
          refine s_pure h (ru_ix_sb Try.underlying9 (0) (h.ev rfl) (h.ev rfl) (by omega) (by omega)) rfl ?_; intro f h
          refine s_on h rfl rfl rfl ?_
          refine s_pure h (ru_conv_in Try.underlying5 Try.underlying3 (h.ev rfl) (IntWalk.i64_in _ (by omega))) rfl ?_; intro f h
          refine s_on h rfl rfl rfl ?_
          refine s_call h s fnc23 (ret_val (.bool true) (has_any (kS sx) 115 _) (congrArg Value.bool ((hasF_s (kS sx)).trans hS))) rfl rfl ?_; intro f w1 v9 hT hE h s; obtain rfl := hT
          refine s_on h rfl rfl rfl ?_
          refine s_pure h (ru_val (.bool false) (ru_not (h.ev rfl)) rfl) rfl ?_; intro f h
          refine s_on h rfl rfl rfl ?_
          refine s_pure h (ru_pick_t (h.ev rfl) (h.ev rfl)) rfl ?_; intro f h
          refine s_pure h (ru_pick_f (h.ev rfl) (h.ev rfl)) rfl ?_; intro f h
          refine s_nil ?_
          refine t_norm ?_
          exact ⟨h.only ⟨rfl, rfl, slot_as rfl (congrArg Value.bool (by rw [okK_eq, h0, hI, hS]; rfl)), trivial⟩, St.as s ⟨rfl, trivial⟩⟩
      · skip
        refine c_region ?_
        refine s_pure h (ru_move (h.ev rfl)) rfl ?_; intro f h
        refine s_pure h (ru_len_str Try.underlying9 (h.ev rfl)) rfl ?_; intro f h
        refine s_pure h (ru_val (.bool false) (ru_eql (h.ev rfl) (h.ev rfl)) (congrArg Value.bool h0)) rfl ?_; intro f h
        refine s_pure h (ru_move (h.ev rfl)) rfl ?_; intro f h
        refine s_on h rfl rfl rfl ?_
        refine s_pure h (ru_move (h.ev rfl)) rfl ?_; intro f h
        refine s_on h rfl rfl rfl ?_
        have hne := of_decide_eq_false h0
        refine s_pure h (ru_ix_sb Try.underlying9 (0) (h.ev rfl) (h.ev rfl) (by omega) (by omega)) rfl ?_; intro f h
        refine s_on h rfl rfl rfl ?_
        refine s_pure h (ru_conv_in Try.underlying5 Try.underlying3 (h.ev rfl) (IntWalk.i64_in _ (by omega))) rfl ?_; intro f h
        refine s_on h rfl rfl rfl ?_
        refine s_call h s fnc23 (ret_val (.bool true) (has_any (kS sx) 105 _) (congrArg Value.bool ((hasF_i (kS sx)).trans hI))) rfl rfl ?_; intro f w1 v9 hT hE h s; obtain rfl := hT
        refine s_on h rfl rfl rfl ?_
        refine s_pure h (ru_val (.bool false) (ru_not (h.ev rfl)) rfl) rfl ?_; intro f h
        refine s_on h rfl rfl rfl ?_
        refine s_pure h (ru_move (h.ev rfl)) rfl ?_; intro f h
        refine s_off (b := true) h rfl rfl rfl rfl ?_; intro f h
        refine s_off (b := true) h rfl rfl rfl rfl ?_; intro f h
        refine s_off (b := true) h rfl rfl rfl rfl ?_; intro f h
        refine s_off (b := true) h rfl rfl rfl rfl ?_; intro f h
        refine s_off (b := true) h rfl rfl rfl rfl ?_; intro f h
        refine s_on h rfl rfl rfl ?_
        refine s_pure h (ru_pick_f (h.ev rfl) (h.ev rfl)) rfl ?_; intro f h
        refine s_pure h (ru_pick_f (h.ev rfl) (h.ev rfl)) rfl ?_; intro f h
        refine s_nil ?_
        refine t_norm ?_
        exact ⟨h.only ⟨rfl, rfl, slot_as rfl (congrArg Value.bool (by rw [okK_eq, h0, hI]; rfl)), trivial⟩, St.as s ⟨rfl, trivial⟩⟩
    · skip
      refine c_region ?_
      refine s_pure h (ru_move (h.ev rfl)) rfl ?_; intro f h
      refine s_pure h (ru_len_str Try.underlying9 (h.ev rfl)) rfl ?_; intro f h
      refine s_pure h (ru_val (.bool true) (ru_eql (h.ev rfl) (h.ev rfl)) (congrArg Value.bool h0)) rfl ?_; intro f h
      refine s_pure h (ru_move (h.ev rfl)) rfl ?_; intro f h
      refine s_off (b := false) h rfl rfl rfl rfl ?_; intro f h
      refine s_off (b := false) h rfl rfl rfl rfl ?_; intro f h
      refine s_off (b := false) h rfl rfl rfl rfl ?_; intro f h
      refine s_off (b := false) h rfl rfl rfl rfl ?_; intro f h
      refine s_off (b := false) h rfl rfl rfl rfl ?_; intro f h
      refine s_off (b := false) h rfl rfl rfl rfl ?_; intro f h
      refine s_none h rfl rfl rfl rfl ?_; intro f h
      refine s_none h rfl rfl rfl rfl ?_; intro f h
      refine s_none h rfl rfl rfl rfl ?_; intro f h
      refine s_none h rfl rfl rfl rfl ?_; intro f h
      refine s_none h rfl rfl rfl rfl ?_; intro f h
      refine s_off (b := false) h rfl rfl rfl rfl ?_; intro f h
      refine s_pure h (ru_pick_t (h.ev rfl) (h.ev rfl)) rfl ?_; intro f h
      refine s_nil ?_
      refine t_norm ?_
      exact ⟨h.only ⟨rfl, rfl, slot_as rfl (congrArg Value.bool (by rw [okK_eq, h0]; rfl)), trivial⟩, St.as s ⟨rfl, trivial⟩⟩
  rintro f w1 ⟨h, s⟩
  refine hK3 _ _ ?_
  refine c_cond h rfl (fun hc => ?_) (fun hc => ?_)
  · have hK0 : okK sx = false := by simpa using hc
    refine c_seq fun K5 hK5 => ?_
    refine c_region ?_
    refine s_pure h (ru_build_t50 sttT5) rfl ?_; intro f h
    refine s_store_row 0 h s row65 rfl rfl rfl (t5_size _ _ _ _) (t5_size _ _ _ _) (t5_ones _ _ _ _ rfl) ?_; intro w1 s
    refine s_nil ?_
    refine hK5 _ _ ?_
    refine wpIn_ret ?_
    refine t_ret ?_
    exact e_row 0 rfl h s row65 rfl rfl (t5_size _ _ _ _) (hd_out (hdO_K hK0))
  · have hK : okK sx = true := by simpa using hc
    have h1s := okK_1 hK
    refine wpIn_skip ?_
    refine hK2 _ _ ?_
    refine c_seq fun K6 hK6 => ?_
    have hbs := s.ext.le
    refine' c_reg2 8 [0, 4, 5] [7] [[], [0], [0, 1], [0, 1, 2], [], [4], [0, 1, 2, 3, 4, 5], [], [0, 1, 2, 3, 4, 5, 6, 7]] (is _ :: is _ :: is _ :: is _ :: is _ :: is _ :: is _ :: (PtrT (t5 mZ (.slice none 0 0) ⟨#[]⟩ false) 65) :: is undef :: []) (fun _ => True) h s (by kernel_rfl) (by kernel_rfl) (by kernel_rfl) (by kernel_rfl) rfl (fun _ _ h _ => h) (trivial) ⟨⟨_, rfl⟩, ⟨_, rfl⟩, ⟨_, rfl⟩, trivial⟩ ⟨is_mono _, is_mono _, is_mono _, is_mono _, is_mono _, is_mono _, is_mono _, PtrT.mono _ _, is_mono _, trivial⟩ (And.intro ?_ (And.intro ?_ (And.intro ?_ (And.intro ?_ (And.intro ?_ (And.intro ?_ (And.intro ?_ (And.intro ?_ (And.intro ?_ (trivial)))))))))) ?_
    rotate_left 7
    · refine obH_in 24 rfl (by decide) ?_
      intro f9 w2 hE hs hl
      have e0 : f9.tmps.getD 0 undef = _ := sx_old hl 0 (by kernel_rfl) (by kernel_rfl) (h.holds 0 _ rfl)
      have h := fin_slot [(0, _)] hs rfl (holds_lk ⟨e0, trivial⟩)
      refine s_pure h (ru_move (h.ev rfl)) rfl ?_; intro f h
      refine s_nil ?_
      have e9 := h.holds 24 _ rfl
      refine ⟨?_, rfl⟩
      refine e9.trans ?_
      exact rfl
    · refine obF_in 25 rfl (by decide) (by decide) ?_
      intro f9 w2 hE hs hd9 hl
      have e24 : f9.tmps.getD 24 undef = _ := sx_get hl 24 0 (by kernel_rfl) (by kernel_rfl)
      have h := fin_slot [(24, _)] hs hd9 (holds_lk ⟨e24, trivial⟩)
      have s := s.more hE
      have z := St.start w2
      refine s_pure h (ru_ix_sb Try.underlying9 (0) (h.ev rfl) (h.ev rfl) (by omega) (by omega)) rfl ?_; intro f h
      refine s_nil ?_
      have e9 := h.holds 25 _ rfl
      refine ⟨?_, Ext.refl _, fun h9 => absurd h9 (by decide)⟩
      refine e9.trans ?_
      exact rfl
    · refine obF_in 26 rfl (by decide) (by decide) ?_
      intro f9 w2 hE hs hd9 hl
      have e25 : f9.tmps.getD 25 undef = _ := sx_get hl 25 1 (by kernel_rfl) (by kernel_rfl)
      have h := fin_slot [(25, _)] hs hd9 (holds_lk ⟨e25, trivial⟩)
      have s := s.more hE
      have z := St.start w2
      refine s_pure h (ru_conv_in Try.underlying5 Try.underlying3 (h.ev rfl) (IntWalk.i64_in _ (by omega))) rfl ?_; intro f h
      refine s_nil ?_
      have e9 := h.holds 26 _ rfl
      refine ⟨?_, Ext.refl _, fun h9 => absurd h9 (by decide)⟩
      refine e9.trans ?_
      exact rfl
    · refine obF_in 27 rfl (by decide) (by decide) ?_
      intro f9 w2 hE hs hd9 hl
      have e26 : f9.tmps.getD 26 undef = _ := sx_get hl 26 2 (by kernel_rfl) (by kernel_rfl)
      have h := fin_slot [(26, _)] hs hd9 (holds_lk ⟨e26, trivial⟩)
      have s := s.more hE
      have z := St.start w2
      refine s_pure h (ru_build_mk sttM (h.ev rfl)) rfl ?_; intro f h
      refine s_nil ?_
      have e9 := h.holds 27 _ rfl
      refine ⟨?_, Ext.refl _, fun h9 => absurd h9 (by decide)⟩
      refine e9.trans ?_
      exact rfl
    · refine obH_in 28 rfl (by decide) ?_
      intro f9 w2 hE hs hl
      have e0 : f9.tmps.getD 0 undef = _ := sx_old hl 0 (by kernel_rfl) (by kernel_rfl) (h.holds 0 _ rfl)
      have h := fin_slot [(0, _)] hs rfl (holds_lk ⟨e0, trivial⟩)
      refine s_pure h (ru_move (h.ev rfl)) rfl ?_; intro f h
      refine s_nil ?_
      have e9 := h.holds 28 _ rfl
      refine ⟨?_, rfl⟩
      refine e9.trans ?_
      exact rfl
    · refine obH_in 29 rfl (by decide) ?_
      intro f9 w2 hE hs hl
      have e28 : f9.tmps.getD 28 undef = _ := sx_get hl 28 4 (by kernel_rfl) (by kernel_rfl)
      have h := fin_slot [(28, _)] hs rfl (holds_lk ⟨e28, trivial⟩)
      refine s_pure h (ru_val (.string (q0 sx)) (ru_slice_str_lo (1) Try.underlying9 (h.ev rfl) (h.ev rfl) (rfl) (by omega)) (rfl)) rfl ?_; intro f h
      refine s_nil ?_
      have e9 := h.holds 29 _ rfl
      refine ⟨?_, rfl⟩
      refine e9.trans ?_
      exact rfl
    · refine obF_in 30 rfl (by decide) (by decide) ?_
      intro f9 w2 hE hs hd9 hl
      have e27 : f9.tmps.getD 27 undef = _ := sx_get hl 27 3 (by kernel_rfl) (by kernel_rfl)
      have e29 : f9.tmps.getD 29 undef = _ := sx_get hl 29 5 (by kernel_rfl) (by kernel_rfl)
      have h := fin_slot [(27, _), (29, _)] hs hd9 (holds_lk ⟨e27, e29, trivial⟩)
      have s := s.more hE
      have z := St.start w2
      refine s_pure h (ru_build_t5 sttT5 (h.ev rfl) (h.ev rfl) rfl) rfl ?_; intro f h
      refine s_nil ?_
      have e9 := h.holds 30 _ rfl
      refine ⟨?_, Ext.refl _, fun h9 => absurd h9 (by decide)⟩
      refine e9.trans ?_
      exact rfl
    · refine obF_in 3 rfl (by decide) (by decide) ?_
      intro f9 w2 hE hs hd9 hl
      have h := fin_slot [] hs hd9 (holds_lk trivial)
      have s := s.more hE
      have z := St.start w2
      refine s_alloc (t5 mZ (.slice none 0 0) ⟨#[]⟩ false) h z zero65 rfl rfl ?_; intro f w1 b9 h z
      refine s_nil ?_
      exact kf_ptr (h.holds 3 _ rfl) z
    · exact obT_in (by decide) (by decide)
    · intro f9 w2 hE hs hd9 hWp hT hR hFr hDj
      obtain ⟨u3, hu3⟩ : ∃ v, f9.tmps.getD 3 undef = v := ⟨_, rfl⟩
      have e3 : (PtrT (t5 mZ (.slice none 0 0) ⟨#[]⟩ false) 65) u3 w2 := by rw [← hu3]; exact hT 7 3 (by decide) rfl
      have k3 := hFr 7 3 (by decide) rfl; rw [hu3] at k3
      replace h := sl_new (ops := _) [(24, _), (25, _), (26, _), (27, _), (28, _), (29, _), (30, _), (3, u3)] h hs hd9 hR ⟨hT 0 24 (by decide) rfl, hT 1 25 (by decide) rfl, hT 2 26 (by decide) rfl, hT 3 27 (by decide) rfl, hT 4 28 (by decide) rfl, hT 5 29 (by decide) rfl, hT 6 30 (by decide) rfl, hu3, trivial⟩ (by kernel_rfl)
      obtain ⟨b3, hb3, s⟩ := ptr_join s hE e3 k3; subst hb3
      clear hT hR hFr hDj
      refine LstW.of ?_
      refine s_store_row 0 h s row65 rfl rfl rfl (t5_size _ _ _ _) (t5_size _ _ _ _) (t5_ones _ _ _ _ rfl) ?_; intro w1 s
      refine s_nil ?_
      refine hK6 _ _ ?_
      refine c_seq fun K7 hK7 => ?_
      refine c_seq fun K8 hK8 => ?_
      refine c_region ?_
      refine s_pure h (ru_field fld65_0 (h.ev rfl)) rfl ?_; intro f h
      refine s_pure h (ru_field fld28_0 (h.ev rfl)) rfl ?_; intro f h
      refine s_load_at1 (cell_of_has (Has.of_own s 0 rfl) 0 (t5_k _ _ _ _)) h one3 rfl rfl ?_; intro f h
      refine s_call h s fnc23 (ret_val (.bool (hasI (kS sx))) (has_any (kS sx) 105 _) (congrArg Value.bool (hasF_i (kS sx)))) rfl rfl ?_; intro f w1 v9 hT hE h s; obtain rfl := hT
      refine s_nil ?_
      refine hK8 _ _ ?_
      refine c_join (fun aa ww => Sl 106 aa [(0, .string sx), (2, .pointer (some ⟨b2, 0, none⟩)), (3, .pointer (some ⟨b3, 0, none⟩))] ∧ St w [.blk b3 (.cells (t5 (p2 sx) (.slice none 0 0) (q1 sx) true) 65), .blk b2 (.cells (t5 mZ (.slice none 0 0) ⟨#[]⟩ false) 65)] ww ∧ okI (kS sx) (q0 sx) = true) ?_ ?_
      · skip
        refine c_cond h rfl (fun hc => ?_) (fun hc => ?_)
        · have hcI := hc
          refine c_seq fun K9 hK9 => ?_
          refine c_seq fun K10 hK10 => ?_
          refine c_region ?_
          refine s_pure h (ru_field fld65_1 (h.ev rfl)) rfl ?_; intro f h
          refine s_load_at1 (cell_of_has (Has.of_own s 0 rfl) 71 (t5_r _ _ _ _)) h one9 rfl rfl ?_; intro f h
          refine s_pure h (ru_len_str Try.underlying9 (h.ev rfl)) rfl ?_; intro f h
          refine s_pure h (ru_lss (h.ev rfl) (h.ev rfl)) rfl ?_; intro f h
          refine s_nil ?_
          refine hK10 _ _ ?_
          refine c_cond h rfl (fun hc => ?_) (fun hc => ?_)
          · replace hc := of_decide_eq_true hc
            have hs32 : ¬ 32 ≤ (q0 sx).size := by omega
            refine c_seq fun K11 hK11 => ?_
            refine c_region ?_
            refine s_pure h (ru_build_t50 sttT5) rfl ?_; intro f h
            refine s_store_row 1 h s row65 rfl rfl rfl (t5_size _ _ _ _) (t5_size _ _ _ _) (t5_ones _ _ _ _ rfl) ?_; intro w1 s
            refine s_nil ?_
            refine hK11 _ _ ?_
            refine wpIn_ret ?_
            refine t_ret ?_
            refine t_ret ?_
            refine t_ret ?_
            exact e_row 1 rfl h s row65 rfl rfl (t5_size _ _ _ _) (hd_out (hdO_I hcI hs32))
          · replace hc := of_decide_eq_false hc
            have hs32 : 32 ≤ (q0 sx).size := by omega
            refine wpIn_skip ?_
            refine hK9 _ _ ?_
            refine c_seq fun K12 hK12 => ?_
            refine c_seq fun K13 hK13 => ?_
            refine c_region ?_
            refine s_pure h (ru_assign (h.ev rfl)) rfl ?_; intro f h
            refine s_nil ?_
            refine hK13 _ _ ?_
            refine wpIn_block ?_
            refine wpIn_loop_ghost (fun nn aa ww => ∃ j : Nat, Sl 106 aa [(0, .string sx), (2, .pointer (some ⟨b2, 0, none⟩)), (3, .pointer (some ⟨b3, 0, none⟩)), (4, .int .i64 (j : Int))] ∧ St w [.blk b3 (.cells (t5 { p1 sx with i := pidX (q0 sx) j } (.slice none 0 0) (q0 sx) true) 65), .blk b2 (.cells (t5 mZ (.slice none 0 0) ⟨#[]⟩ false) 65)] ww ∧ nn = 32 - j ∧ j ≤ 32) (32 - (0)) ⟨0, h.only ⟨rfl, rfl, rfl, slot_int rfl (by omega), trivial⟩, s.as ⟨cells_eq (congrArg (fun x => t5 { p1 sx with i := x } _ _ _) (pidX_zero _)), rfl, trivial⟩, rfl, Nat.zero_le _⟩ ?_
            rintro _ f w1 ⟨j, h, s, hnn, hp0⟩
            refine c_seq fun K14 hK14 => ?_
            refine c_seq fun K15 hK15 => ?_
            refine c_region ?_
            refine s_pure h (ru_move (h.ev rfl)) rfl ?_; intro f h
            refine s_pure h (ru_lss (h.ev rfl) (h.ev rfl)) rfl ?_; intro f h
            refine s_nil ?_
            refine hK15 _ _ ?_
            refine c_cond h rfl (fun hc => ?_) (fun hc => ?_)
            · replace hc := of_decide_eq_true hc
              refine wpIn_skip ?_
              refine hK14 _ _ ?_
              refine c_seq fun K16 hK16 => ?_
              refine wpIn_block ?_
              refine c_region ?_
              refine s_pure h (ru_move (h.ev rfl)) rfl ?_; intro f h
              refine s_pure h (ru_field fld65_1 (h.ev rfl)) rfl ?_; intro f h
              refine s_load_at1 (cell_of_has (Has.of_own s 0 rfl) 71 (t5_r _ _ _ _)) h one9 rfl rfl ?_; intro f h
              refine s_pure h (ru_move (h.ev rfl)) rfl ?_; intro f h
              refine s_pure h (ru_ix_sb Try.underlying9 (j) (h.ev rfl) (h.ev rfl) (by omega) (by omega)) rfl ?_; intro f h
              refine s_pure h (ru_field fld65_0 (h.ev rfl)) rfl ?_; intro f h
              refine s_pure h (ru_field fld28_1 (h.ev rfl)) rfl ?_; intro f h
              refine s_pure h (ru_ix_at (j) Try.underlying23 size5 (h.ev rfl) (h.ev rfl) (rfl) (by omega)) rfl ?_; intro f h
              refine s_store_one 0 h s one5 rfl rfl rfl (by rw [t5_size]; omega) (rfl) ?_; intro w1 s
              refine s_nil ?_
              refine b_norm ?_
              refine hK16 _ _ ?_
              refine c_region ?_
              refine s_pure h (ru_move (h.ev rfl)) rfl ?_; intro f h
              refine s_pure h (ru_add (h.ev rfl) (h.ev rfl) (by omega)) rfl ?_; intro f h
              refine s_pure h (ru_assign (h.ev rfl)) rfl ?_; intro f h
              refine s_nil ?_
              refine t_norm ?_
              exact ⟨_, by omega, ⟨j + 1, h.only ⟨rfl, rfl, rfl, slot_int rfl (by omega), trivial⟩, St.as s ⟨cells_eq (t5_set _ _ _ _ _ _ _ _ (by omega) (mArr_setB _ _ _ _ j _ (by omega) (pidX_next _ (by omega)))), rfl, trivial⟩, rfl, by omega⟩⟩
            · replace hc := of_decide_eq_false hc
              refine wpIn_exit ?_
              refine t_exit ?_
              refine t_exit ?_
              refine b_exit ?_
              refine hK12 _ _ ?_
              refine c_region ?_
              obtain rfl : j = 32 := by omega
              refine s_pure h (ru_field fld65_1 (h.ev rfl)) rfl ?_; intro f h
              refine s_load_at1 (cell_of_has (Has.of_own s 0 rfl) 71 (t5_r _ _ _ _)) h one9 rfl rfl ?_; intro f h
              refine s_pure h (ru_slice_str_lo (32) Try.underlying9 (h.ev rfl) (h.ev rfl) (rfl) (by omega)) rfl ?_; intro f h
              refine s_pure h (ru_field fld65_1 (h.ev rfl)) rfl ?_; intro f h
              refine s_store_one 0 h s one9 rfl rfl rfl (by rw [t5_size]; omega) (rfl) ?_; intro w1 s
              replace s := s.recell 0 rfl (t5_setR _ _ _ _ _)
              refine s_nil ?_
              refine t_norm ?_
              exact ⟨h.only ⟨rfl, rfl, rfl, trivial⟩, St.as s ⟨cells_eq (hdI_t _ hcI), rfl, trivial⟩, good_I hcI (decide_eq_true hs32)⟩
        · refine wpIn_skip ?_
          refine t_norm ?_
          exact ⟨h.only ⟨rfl, rfl, rfl, trivial⟩, St.as s ⟨cells_eq (hdI_f _ hc), rfl, trivial⟩, good_I' hc⟩
      rintro f w1 ⟨h, s, hI1⟩
      refine hK7 _ _ ?_
      refine c_seq fun K18 hK18 => ?_
      refine c_seq fun K19 hK19 => ?_
      refine c_join (fun aa ww => Sl 106 aa [(0, .string sx), (2, .pointer (some ⟨b2, 0, none⟩)), (3, .pointer (some ⟨b3, 0, none⟩)), (65, .bool (hasT (kS sx) || hasS (kS sx)))] ∧ St w [.blk b3 (.cells (t5 (p2 sx) (.slice none 0 0) (q1 sx) true) 65), .blk b2 (.cells (t5 mZ (.slice none 0 0) ⟨#[]⟩ false) 65)] ww) ?_ ?_
      · skip
        cases hT : (hasT (kS sx) : Bool)
        · skip
          cases hS : (hasS (kS sx) : Bool)
          · skip
            refine c_region ?_
            refine s_pure h (ru_field fld65_0 (h.ev rfl)) rfl ?_; intro f h
            refine s_pure h (ru_field fld28_0 (h.ev rfl)) rfl ?_; intro f h
            refine s_load_at1 (cell_of_has (Has.of_own s 0 rfl) 0 (t5_k _ _ _ _)) h one3 rfl rfl ?_; intro f h
            refine s_call h s fnc23 (ret_val (.bool false) (has_any (kS sx) 116 _) (congrArg Value.bool ((hasF_t (kS sx)).trans hT))) rfl rfl ?_; intro f w1 v9 hT hE h s; obtain rfl := hT
            refine s_pure h (ru_move (h.ev rfl)) rfl ?_; intro f h
            refine s_on h rfl rfl rfl ?_
            refine s_pure h (ru_field fld65_0 (h.ev rfl)) rfl ?_; intro f h
            refine s_on h rfl rfl rfl ?_
            refine s_pure h (ru_field fld28_0 (h.ev rfl)) rfl ?_; intro f h
            refine s_on h rfl rfl rfl ?_
            refine s_load_at1 (cell_of_has (Has.of_own s 0 rfl) 0 (t5_k _ _ _ _)) h one3 rfl rfl ?_; intro f h
            refine s_on h rfl rfl rfl ?_
            refine s_call h s fnc23 (ret_val (.bool false) (has_any (kS sx) 115 _) (congrArg Value.bool ((hasF_s (kS sx)).trans hS))) rfl rfl ?_; intro f w1 v9 hT hE h s; obtain rfl := hT
            refine s_pure h (ru_pick_f (h.ev rfl) (h.ev rfl)) rfl ?_; intro f h
            refine s_nil ?_
            refine t_norm ?_
            exact ⟨h.only ⟨rfl, rfl, rfl, slot_as rfl rfl, trivial⟩, St.as s ⟨rfl, rfl, trivial⟩⟩
          · skip
            refine c_region ?_
            refine s_pure h (ru_field fld65_0 (h.ev rfl)) rfl ?_; intro f h
            refine s_pure h (ru_field fld28_0 (h.ev rfl)) rfl ?_; intro f h
            refine s_load_at1 (cell_of_has (Has.of_own s 0 rfl) 0 (t5_k _ _ _ _)) h one3 rfl rfl ?_; intro f h
            refine s_call h s fnc23 (ret_val (.bool false) (has_any (kS sx) 116 _) (congrArg Value.bool ((hasF_t (kS sx)).trans hT))) rfl rfl ?_; intro f w1 v9 hT hE h s; obtain rfl := hT
            refine s_pure h (ru_move (h.ev rfl)) rfl ?_; intro f h
            refine s_on h rfl rfl rfl ?_
            refine s_pure h (ru_field fld65_0 (h.ev rfl)) rfl ?_; intro f h
            refine s_on h rfl rfl rfl ?_
            refine s_pure h (ru_field fld28_0 (h.ev rfl)) rfl ?_; intro f h
            refine s_on h rfl rfl rfl ?_
            refine s_load_at1 (cell_of_has (Has.of_own s 0 rfl) 0 (t5_k _ _ _ _)) h one3 rfl rfl ?_; intro f h
            refine s_on h rfl rfl rfl ?_
            refine s_call h s fnc23 (ret_val (.bool true) (has_any (kS sx) 115 _) (congrArg Value.bool ((hasF_s (kS sx)).trans hS))) rfl rfl ?_; intro f w1 v9 hT hE h s; obtain rfl := hT
            refine s_pure h (ru_pick_f (h.ev rfl) (h.ev rfl)) rfl ?_; intro f h
            refine s_nil ?_
            refine t_norm ?_
            exact ⟨h.only ⟨rfl, rfl, rfl, slot_as rfl rfl, trivial⟩, St.as s ⟨rfl, rfl, trivial⟩⟩
        · skip
          refine c_region ?_
          refine s_pure h (ru_field fld65_0 (h.ev rfl)) rfl ?_; intro f h
          refine s_pure h (ru_field fld28_0 (h.ev rfl)) rfl ?_; intro f h
          refine s_load_at1 (cell_of_has (Has.of_own s 0 rfl) 0 (t5_k _ _ _ _)) h one3 rfl rfl ?_; intro f h
          refine s_call h s fnc23 (ret_val (.bool true) (has_any (kS sx) 116 _) (congrArg Value.bool ((hasF_t (kS sx)).trans hT))) rfl rfl ?_; intro f w1 v9 hT hE h s; obtain rfl := hT
          refine s_pure h (ru_move (h.ev rfl)) rfl ?_; intro f h
          refine s_off (b := false) h rfl rfl rfl rfl ?_; intro f h
          refine s_off (b := false) h rfl rfl rfl rfl ?_; intro f h
          refine s_off (b := false) h rfl rfl rfl rfl ?_; intro f h
          refine s_off (b := false) h rfl rfl rfl rfl ?_; intro f h
          refine s_pure h (ru_pick_t (h.ev rfl) (h.ev rfl)) rfl ?_; intro f h
          refine s_nil ?_
          refine t_norm ?_
          exact ⟨h.only ⟨rfl, rfl, rfl, slot_as rfl rfl, trivial⟩, St.as s ⟨rfl, rfl, trivial⟩⟩
      rintro f w1 ⟨h, s⟩
      refine hK19 _ _ ?_
      refine c_join (fun aa ww => ∃ vr : Value, Sl 106 aa [(0, .string sx), (2, .pointer (some ⟨b2, 0, none⟩)), (3, .pointer (some ⟨b3, 0, none⟩))] ∧ St w [.blk b3 (.cells (t5 (p4 sx) vr (q3 sx) true) 65), .blk b2 (.cells (t5 mZ (.slice none 0 0) ⟨#[]⟩ false) 65), .sl vr 25 34 (vS (kS sx) (q2 sx)).length (eCells (vS (kS sx) (q2 sx)))] ww ∧ okT (kS sx) (q1 sx) = true ∧ okS (kS sx) (q2 sx) = true) ?_ ?_
      · skip
        refine c_cond h rfl (fun hc => ?_) (fun hc => ?_)
        · have hTS := hc
          refine c_seq fun K21 hK21 => ?_
          refine c_region ?_
          refine s_pure h (ru_field fld65_1 (h.ev rfl)) rfl ?_; intro f h
          refine s_load_at1 (cell_of_has (Has.of_own s 0 rfl) 71 (t5_r _ _ _ _)) h one9 rfl rfl ?_; intro f h
          refine s_call h s fnc47 (rread_any (q1 sx) (by omega) _) rfl rfl ?_; rintro f w1 v68 ⟨vy, rfl, hvy⟩ hE h sq
          replace s := s.sl_new hE hvy
          refine s_alloc (#[.slice none 0 0, .int .i64 0, .int .i64 0]) h s zero77 rfl rfl ?_; intro f w1 b5 h s
          refine s_store_row 0 h s row77 rfl rfl rfl (rfl) (rfl) (t_ones _ _ _ (own_one (s.getSl 1 rfl))) ?_; intro w1 s
          refine s_nil ?_
          refine hK21 _ _ ?_
          refine c_seq fun K22 hK22 => ?_
          refine c_seq fun K23 hK23 => ?_
          refine c_join (fun aa ww => Sl 106 aa [(0, .string sx), (2, .pointer (some ⟨b2, 0, none⟩)), (3, .pointer (some ⟨b3, 0, none⟩)), (5, .pointer (some ⟨b5, 0, none⟩)), (83, .bool (bdT sx))] ∧ St w [.blk b5 (.cells (#[vy, .int .i64 (((readM (q1 sx)).2.2 : Nat) : Int), .int .i64 (readM (q1 sx)).1]) 77), .sl vy 25 34 (readM (q1 sx)).2.1.length (eCells (readM (q1 sx)).2.1), .blk b3 (.cells (t5 (p2 sx) (.slice none 0 0) (q1 sx) true) 65), .blk b2 (.cells (t5 mZ (.slice none 0 0) ⟨#[]⟩ false) 65)] ww) ?_ ?_
          · skip
            cases he : (decide ((readM (q1 sx)).1 = 0) : Bool)
            · skip
              refine c_region ?_
              refine s_pure h (ru_field fld77_2 (h.ev rfl)) rfl ?_; intro f h
              refine s_load_at1 (cell_of_has (Has.of_own s 0 rfl) 2 (rfl)) h one30 rfl rfl ?_; intro f h
              refine s_pure h (ru_val (.bool true) (ru_neq (h.ev rfl) (h.ev rfl)) (congrArg Value.bool (by simpa using he))) rfl ?_; intro f h
              refine s_pure h (ru_move (h.ev rfl)) rfl ?_; intro f h
              refine s_off (b := false) h rfl rfl rfl rfl ?_; intro f h
              refine s_off (b := false) h rfl rfl rfl rfl ?_; intro f h
              refine s_off (b := false) h rfl rfl rfl rfl ?_; intro f h
              refine s_off (b := false) h rfl rfl rfl rfl ?_; intro f h
              refine s_off (b := false) h rfl rfl rfl rfl ?_; intro f h
              refine s_none h rfl rfl rfl rfl ?_; intro f h
              refine s_none h rfl rfl rfl rfl ?_; intro f h
              refine s_none h rfl rfl rfl rfl ?_; intro f h
              refine s_none h rfl rfl rfl rfl ?_; intro f h
              refine s_off (b := false) h rfl rfl rfl rfl ?_; intro f h
              refine s_pure h (ru_pick_t (h.ev rfl) (h.ev rfl)) rfl ?_; intro f h
              refine s_nil ?_
              refine t_norm ?_
              exact ⟨h.only ⟨rfl, rfl, rfl, rfl, slot_as rfl (congrArg Value.bool (by unfold bdT; rw [he]; rfl)), trivial⟩, St.as s ⟨rfl, rfl, rfl, rfl, trivial⟩⟩
            · skip
              cases hT : (hasT (kS sx) : Bool)
              · skip
                refine c_region ?_
                refine s_pure h (ru_field fld77_2 (h.ev rfl)) rfl ?_; intro f h
                refine s_load_at1 (cell_of_has (Has.of_own s 0 rfl) 2 (rfl)) h one30 rfl rfl ?_; intro f h
                refine s_pure h (ru_val (.bool false) (ru_neq (h.ev rfl) (h.ev rfl)) (congrArg Value.bool (by simpa using he))) rfl ?_; intro f h
                refine s_pure h (ru_move (h.ev rfl)) rfl ?_; intro f h
                refine s_on h rfl rfl rfl ?_
                refine s_pure h (ru_field fld65_0 (h.ev rfl)) rfl ?_; intro f h
                refine s_on h rfl rfl rfl ?_
                refine s_pure h (ru_field fld28_0 (h.ev rfl)) rfl ?_; intro f h
                refine s_on h rfl rfl rfl ?_
                refine s_load_at1 (cell_of_has (Has.of_own s 2 rfl) 0 (t5_k _ _ _ _)) h one3 rfl rfl ?_; intro f h
                refine s_on h rfl rfl rfl ?_
                refine s_call h s fnc23 (ret_val (.bool false) (has_any (kS sx) 116 _) (congrArg Value.bool ((hasF_t (kS sx)).trans hT))) rfl rfl ?_; intro f w1 v9 hT hE h s; obtain rfl := hT
                refine s_on h rfl rfl rfl ?_
                refine s_pure h (ru_move (h.ev rfl)) rfl ?_; intro f h
                refine s_off (b := true) h rfl rfl rfl rfl ?_; intro f h
                refine s_off (b := true) h rfl rfl rfl rfl ?_; intro f h
                refine s_off (b := true) h rfl rfl rfl rfl ?_; intro f h
                refine s_off (b := true) h rfl rfl rfl rfl ?_; intro f h
                refine s_on h rfl rfl rfl ?_
                refine s_pure h (ru_pick_f (h.ev rfl) (h.ev rfl)) rfl ?_; intro f h
                refine s_pure h (ru_pick_f (h.ev rfl) (h.ev rfl)) rfl ?_; intro f h
                refine s_nil ?_
                refine t_norm ?_
                exact ⟨h.only ⟨rfl, rfl, rfl, rfl, slot_as rfl (congrArg Value.bool (by unfold bdT; rw [he, hT]; rfl)), trivial⟩, St.as s ⟨rfl, rfl, rfl, rfl, trivial⟩⟩
              · skip
                cases h1 : (decide ((readM (q1 sx)).2.1.length = 1) : Bool)
                · skip
                  refine c_region ?_
                  refine s_pure h (ru_field fld77_2 (h.ev rfl)) rfl ?_; intro f h
                  refine s_load_at1 (cell_of_has (Has.of_own s 0 rfl) 2 (rfl)) h one30 rfl rfl ?_; intro f h
                  refine s_pure h (ru_val (.bool false) (ru_neq (h.ev rfl) (h.ev rfl)) (congrArg Value.bool (by simpa using he))) rfl ?_; intro f h
                  refine s_pure h (ru_move (h.ev rfl)) rfl ?_; intro f h
                  refine s_on h rfl rfl rfl ?_
                  refine s_pure h (ru_field fld65_0 (h.ev rfl)) rfl ?_; intro f h
                  refine s_on h rfl rfl rfl ?_
                  refine s_pure h (ru_field fld28_0 (h.ev rfl)) rfl ?_; intro f h
                  refine s_on h rfl rfl rfl ?_
                  refine s_load_at1 (cell_of_has (Has.of_own s 2 rfl) 0 (t5_k _ _ _ _)) h one3 rfl rfl ?_; intro f h
                  refine s_on h rfl rfl rfl ?_
                  refine s_call h s fnc23 (ret_val (.bool true) (has_any (kS sx) 116 _) (congrArg Value.bool ((hasF_t (kS sx)).trans hT))) rfl rfl ?_; intro f w1 v9 hT hE h s; obtain rfl := hT
                  refine s_on h rfl rfl rfl ?_
                  refine s_pure h (ru_move (h.ev rfl)) rfl ?_; intro f h
                  refine s_on h rfl rfl rfl ?_
                  refine s_pure h (ru_field fld77_0 (h.ev rfl)) rfl ?_; intro f h
                  refine s_on h rfl rfl rfl ?_
                  refine s_load_at1 (cell_of_has (Has.of_own s 0 rfl) 0 (rfl)) h one26 rfl rfl ?_; intro f h
                  refine s_on h rfl rfl rfl ?_
                  refine s_len_sl 1 h s Try.underlying26 rfl rfl rfl ?_; intro f h
                  refine s_on h rfl rfl rfl ?_
                  refine s_pure h (ru_val (.bool true) (ru_neq (h.ev rfl) (h.ev rfl)) (congrArg Value.bool (by have h9 := h1; simp at h9 ⊢; omega))) rfl ?_; intro f h
                  refine s_on h rfl rfl rfl ?_
                  refine s_pure h (ru_pick_t (h.ev rfl) (h.ev rfl)) rfl ?_; intro f h
                  refine s_pure h (ru_pick_f (h.ev rfl) (h.ev rfl)) rfl ?_; intro f h
                  refine s_nil ?_
                  refine t_norm ?_
                  exact ⟨h.only ⟨rfl, rfl, rfl, rfl, slot_as rfl (congrArg Value.bool (by unfold bdT; rw [he, hT, h1]; rfl)), trivial⟩, St.as s ⟨rfl, rfl, rfl, rfl, trivial⟩⟩
                · skip
                  refine c_region ?_
                  refine s_pure h (ru_field fld77_2 (h.ev rfl)) rfl ?_; intro f h
                  refine s_load_at1 (cell_of_has (Has.of_own s 0 rfl) 2 (rfl)) h one30 rfl rfl ?_; intro f h
                  refine s_pure h (ru_val (.bool false) (ru_neq (h.ev rfl) (h.ev rfl)) (congrArg Value.bool (by simpa using he))) rfl ?_; intro f h
                  refine s_pure h (ru_move (h.ev rfl)) rfl ?_; intro f h
                  refine s_on h rfl rfl rfl ?_
                  refine s_pure h (ru_field fld65_0 (h.ev rfl)) rfl ?_; intro f h
                  refine s_on h rfl rfl rfl ?_
                  refine s_pure h (ru_field fld28_0 (h.ev rfl)) rfl ?_; intro f h
                  refine s_on h rfl rfl rfl ?_
                  refine s_load_at1 (cell_of_has (Has.of_own s 2 rfl) 0 (t5_k _ _ _ _)) h one3 rfl rfl ?_; intro f h
                  refine s_on h rfl rfl rfl ?_
                  refine s_call h s fnc23 (ret_val (.bool true) (has_any (kS sx) 116 _) (congrArg Value.bool ((hasF_t (kS sx)).trans hT))) rfl rfl ?_; intro f w1 v9 hT hE h s; obtain rfl := hT
                  refine s_on h rfl rfl rfl ?_
                  refine s_pure h (ru_move (h.ev rfl)) rfl ?_; intro f h
                  refine s_on h rfl rfl rfl ?_
                  refine s_pure h (ru_field fld77_0 (h.ev rfl)) rfl ?_; intro f h
                  refine s_on h rfl rfl rfl ?_
                  refine s_load_at1 (cell_of_has (Has.of_own s 0 rfl) 0 (rfl)) h one26 rfl rfl ?_; intro f h
                  refine s_on h rfl rfl rfl ?_
                  refine s_len_sl 1 h s Try.underlying26 rfl rfl rfl ?_; intro f h
                  refine s_on h rfl rfl rfl ?_
                  refine s_pure h (ru_val (.bool false) (ru_neq (h.ev rfl) (h.ev rfl)) (congrArg Value.bool (by have h9 := h1; simp at h9 ⊢; omega))) rfl ?_; intro f h
                  refine s_on h rfl rfl rfl ?_
                  refine s_pure h (ru_pick_t (h.ev rfl) (h.ev rfl)) rfl ?_; intro f h
                  refine s_pure h (ru_pick_f (h.ev rfl) (h.ev rfl)) rfl ?_; intro f h
                  refine s_nil ?_
                  refine t_norm ?_
                  exact ⟨h.only ⟨rfl, rfl, rfl, rfl, slot_as rfl (congrArg Value.bool (by unfold bdT; rw [he, hT, h1]; rfl)), trivial⟩, St.as s ⟨rfl, rfl, rfl, rfl, trivial⟩⟩
          rintro f w1 ⟨h, s⟩
          refine hK23 _ _ ?_
          refine c_cond h rfl (fun hc => ?_) (fun hc => ?_)
          · have hbT := hc
            refine c_seq fun K25 hK25 => ?_
            refine c_region ?_
            refine s_pure h (ru_build_t50 sttT5) rfl ?_; intro f h
            refine s_store_row 3 h s row65 rfl rfl rfl (t5_size _ _ _ _) (t5_size _ _ _ _) (t5_ones _ _ _ _ rfl) ?_; intro w1 s
            refine s_nil ?_
            refine hK25 _ _ ?_
            refine wpIn_ret ?_
            refine t_ret ?_
            refine t_ret ?_
            refine t_ret ?_
            exact e_row 3 rfl h s row65 rfl rfl (t5_size _ _ _ _) (hd_out (hdO_T hTS hbT))
          · have hbT := hc
            refine wpIn_skip ?_
            refine hK22 _ _ ?_
            refine c_seq fun K26 hK26 => ?_
            refine c_seq fun K27 hK27 => ?_
            refine c_region ?_
            refine s_pure h (ru_field fld65_0 (h.ev rfl)) rfl ?_; intro f h
            refine s_pure h (ru_field fld28_0 (h.ev rfl)) rfl ?_; intro f h
            refine s_load_at1 (cell_of_has (Has.of_own s 2 rfl) 0 (t5_k _ _ _ _)) h one3 rfl rfl ?_; intro f h
            refine s_call h s fnc23 (ret_val (.bool (hasT (kS sx))) (has_any (kS sx) 116 _) (congrArg Value.bool (hasF_t (kS sx)))) rfl rfl ?_; intro f w1 v9 hT hE h s; obtain rfl := hT
            refine s_nil ?_
            refine hK27 _ _ ?_
            refine c_join (fun aa ww => ∃ vq : Value, Sl 106 aa [(0, .string sx), (2, .pointer (some ⟨b2, 0, none⟩)), (3, .pointer (some ⟨b3, 0, none⟩)), (5, .pointer (some ⟨b5, 0, none⟩))] ∧ St w [.blk b5 (.cells (#[vy, .int .i64 (((readM (q1 sx)).2.2 : Nat) : Int), .int .i64 (readM (q1 sx)).1]) 77), .blk b3 (.cells (t5 (p4 sx) vq (q1 sx) true) 65), .blk b2 (.cells (t5 mZ (.slice none 0 0) ⟨#[]⟩ false) 65), .sl vq 25 34 (vS (kS sx) (q2 sx)).length (eCells (vS (kS sx) (q2 sx)))] ww) ?_ ?_
            · skip
              refine c_cond h rfl (fun hc => ?_) (fun hc => ?_)
              · have hcT := hc
                have h1l := bdT_one hbT hcT
                refine c_region ?_
                refine s_pure h (ru_field fld77_0 (h.ev rfl)) rfl ?_; intro f h
                refine s_load_at1 (cell_of_has (Has.of_own s 0 rfl) 0 (rfl)) h one26 rfl rfl ?_; intro f h
                refine s_pure h (ru_ixz (RdZ.of_own (s.getSl 1 rfl)) (0) Try.underlying26 szo25 (h.ev rfl) (h.ev rfl) (by omega) (by omega)) rfl ?_; intro f h
                refine s_load_at ((RdZ.of_own (s.getSl 1 rfl)).el (0) (by omega) (by decide) (D := eArr (tgV (q1 sx))) (tg_el h1l)) h row25 rfl (eArr_size _) rfl ?_; intro f h
                refine s_pure h (ru_field fld65_0 (h.ev rfl)) rfl ?_; intro f h
                refine s_pure h (ru_field fld28_2 (h.ev rfl)) rfl ?_; intro f h
                refine s_store_sub 2 h s row25 rfl rfl rfl (eArr_size _) (by rw [t5_size]; omega) (eArr_ones _) ?_; intro w1 s
                replace s := s.recell 2 rfl (t5_splT _ _ _ _ _)
                refine s_nil ?_
                refine t_norm ?_
                replace s := s.nilSl 25 34
                exact ⟨(Value.slice none 0 0), h.only ⟨rfl, rfl, rfl, rfl, trivial⟩, St.as (s.sel [1, 3, 4, 0] rfl (by decide)) ⟨rfl, cells_eq (hdT_t _ hcT), rfl, sl_eq (congrArg List.length (vS_T hcT)) (congrArg eCells (vS_T hcT)), trivial⟩⟩
              · have hcT := hc
                have hcS : hasS (kS sx) = true := by rw [hcT] at hTS; exact hTS
                refine c_region ?_
                refine s_pure h (ru_field fld77_0 (h.ev rfl)) rfl ?_; intro f h
                refine s_load_at1 (cell_of_has (Has.of_own s 0 rfl) 0 (rfl)) h one26 rfl rfl ?_; intro f h
                refine s_pure h (ru_field fld65_0 (h.ev rfl)) rfl ?_; intro f h
                refine s_pure h (ru_field fld28_3 (h.ev rfl)) rfl ?_; intro f h
                refine s_store_one 2 h s one26 rfl rfl rfl (by rw [t5_size]; omega) (own_one (s.getSl 1 rfl)) ?_; intro w1 s
                replace s := s.recell 2 rfl (t5_set _ _ _ _ _ _ _ _ (by omega) (mArr_setV _ _ _ (readM (q1 sx)).2.1))
                refine s_nil ?_
                refine t_norm ?_
                exact ⟨vy, h.only ⟨rfl, rfl, rfl, rfl, trivial⟩, St.as (s.sel [0, 2, 3, 1] rfl (by decide)) ⟨rfl, cells_eq (hdS_t _ hcT hcS), rfl, sl_eq (congrArg List.length (vS_q1 hcT hcS)) (congrArg eCells (vS_q1 hcT hcS)), trivial⟩⟩
            rintro f w1 ⟨vq, h, s⟩
            refine hK26 _ _ ?_
            refine c_region ?_
            refine s_pure h (ru_field fld65_1 (h.ev rfl)) rfl ?_; intro f h
            refine s_load_at1 (cell_of_has (Has.of_own s 1 rfl) 71 (t5_r _ _ _ _)) h one9 rfl rfl ?_; intro f h
            refine s_pure h (ru_field fld77_1 (h.ev rfl)) rfl ?_; intro f h
            refine s_load_at1 (cell_of_has (Has.of_own s 0 rfl) 1 (rfl)) h one3 rfl rfl ?_; intro f h
            refine s_pure h (ru_slice_str_lo ((readM (q1 sx)).2.2) Try.underlying9 (h.ev rfl) (h.ev rfl) (rfl) (bdT_le hbT)) rfl ?_; intro f h
            refine s_pure h (ru_field fld65_1 (h.ev rfl)) rfl ?_; intro f h
            refine s_store_one 1 h s one9 rfl rfl rfl (by rw [t5_size]; omega) (rfl) ?_; intro w1 s
            replace s := s.recell 1 rfl ((t5_setR _ _ _ _ _).trans (congrArg (fun x => t5 _ _ x _) (hdR_t hTS)))
            refine s_nil ?_
            refine t_norm ?_
            exact ⟨vq, h.only ⟨rfl, rfl, rfl, trivial⟩, St.as (s.pick _ (List.Sublist.cons _ (List.Sublist.cons_cons _ (List.Sublist.cons_cons _ (List.Sublist.cons_cons _ (List.nil_sublist _)))))) ⟨rfl, rfl, rfl, trivial⟩, hdT_ok hbT, hdS_ok hbT⟩
        · have hTS := hc
          refine wpIn_skip ?_
          refine t_norm ?_
          replace s := s.nilSl 25 34
          exact ⟨(Value.slice none 0 0), h.only ⟨rfl, rfl, rfl, trivial⟩, St.as (s.sel [1, 2, 0] rfl (by decide)) ⟨cells_eq (hd4_none _ hTS), rfl, sl_eq (congrArg List.length (vS_f (hd_no hTS).2)) (congrArg eCells (vS_f (hd_no hTS).2)), trivial⟩, good_T' (hd_no hTS).1, good_S' (hd_no hTS).2⟩
      rintro f w1 ⟨vr, h, s, hT1, hS1⟩
      refine hK18 _ _ ?_
      refine c_seq fun K30 hK30 => ?_
      refine c_region ?_
      refine s_load_row 0 h s row65 rfl rfl (t5_size _ _ _ _) rfl ?_; intro f h
      refine s_store_row 1 h s row65 rfl rfl rfl (t5_size _ _ _ _) (t5_size _ _ _ _) (t5_ones _ _ _ _ (own_one (s.getSl 2 rfl))) ?_; intro w1 s
      refine s_nil ?_
      refine hK30 _ _ ?_
      refine wpIn_ret ?_
      exact e_row 1 rfl h s row65 rfl rfl (t5_size _ _ _ _) (hd_in (hdO_yes hK hI1 hT1 hS1) (s.getSl 2 rfl))

set_option maxHeartbeats 4000000 in
theorem rparse5_any (sx : ByteArray) (hsx : sx.size ≤ 100000) (w : World) : Calls Try.prog 16 [.string sx].toArray w (Ret w (fun v w' => ∃ vs, v = .tuple #[.agg (mArr (parM sx) vs), .bool (okP sx)] ∧ Owns w' w.heap.size 25 34 vs (parM sx).l.length (eCells (parM sx).l))) := by
  obtain ⟨hq0, hq1, hq2, hq3, hq4, hq5⟩ := q_le sx
  refine c_enter Try.func16 rfl Try.ntmps16 rfl [(0, .string sx)] (by simp) fun f h => ?_
  have s := St.start w
  refine c_seq fun K1 hK1 => ?_
  refine c_region ?_
  refine s_alloc (mArr mZ (.slice none 0 0)) h s zero28 rfl rfl ?_; intro f w1 b2 h s
  refine s_pure h (ru_assign (h.ev rfl)) rfl ?_; intro f h
  refine s_nil ?_
  refine hK1 _ _ ?_
  refine c_seq fun K2 hK2 => ?_
  cases hO : (hdO sx : Bool)
  · skip
    refine c_region ?_
    refine s_pure h (ru_move (h.ev rfl)) rfl ?_; intro f h
    refine s_call h s fnc39 (head_any sx hsx _) rfl rfl ?_; rintro f w1 v10 ⟨vh, rfl, hvh⟩ hE h sq
    rw [hd_f hO] at h
    replace s := s.sl_new hE hvh
    refine s_alloc (t5 mZ (.slice none 0 0) ⟨#[]⟩ false) h s zero65 rfl rfl ?_; intro f w1 b4 h s
    refine s_store_row 0 h s row65 rfl rfl rfl (t5_size _ _ _ _) (t5_size _ _ _ _) (t5_ones _ _ _ _ (own_one (s.getSl 1 rfl))) ?_; intro w1 s
    refine s_nil ?_
    refine hK2 _ _ ?_
    refine c_seq fun K3 hK3 => ?_
    refine c_region ?_
    refine s_pure h (ru_assign (h.ev rfl)) rfl ?_; intro f h
    refine s_nil ?_
    refine hK3 _ _ ?_
    refine c_seq fun K4 hK4 => ?_
    refine c_seq fun K5 hK5 => ?_
    refine c_region ?_
    refine s_pure h (ru_field fld65_0 (h.ev rfl)) rfl ?_; intro f h
    refine s_pure h (ru_field fld28_0 (h.ev rfl)) rfl ?_; intro f h
    refine s_load_at1 (cell_of_has (Has.of_own s 0 rfl) 0 (t5_k _ _ _ _)) h one3 rfl rfl ?_; intro f h
    refine s_call h s fnc23 (ret_val (.bool false) (has_any _ 110 _) (congrArg Value.bool (hasF_n 0))) rfl rfl ?_; intro f w1 v9 hT hE h s; obtain rfl := hT
    refine s_nil ?_
    refine hK5 _ _ ?_
    refine wpIn_cond_false (h.ev rfl) ?_
    refine wpIn_skip ?_
    refine hK4 _ _ ?_
    refine c_seq fun K6 hK6 => ?_
    refine c_seq fun K7 hK7 => ?_
    refine c_region ?_
    refine s_pure h (ru_field fld65_0 (h.ev rfl)) rfl ?_; intro f h
    refine s_pure h (ru_field fld28_0 (h.ev rfl)) rfl ?_; intro f h
    refine s_load_at1 (cell_of_has (Has.of_own s 0 rfl) 0 (t5_k _ _ _ _)) h one3 rfl rfl ?_; intro f h
    refine s_call h s fnc23 (ret_val (.bool false) (has_any _ 111 _) (congrArg Value.bool (hasF_o 0))) rfl rfl ?_; intro f w1 v9 hT hE h s; obtain rfl := hT
    refine s_nil ?_
    refine hK7 _ _ ?_
    refine wpIn_cond_false (h.ev rfl) ?_
    refine wpIn_skip ?_
    refine hK6 _ _ ?_
    refine c_seq fun K8 hK8 => ?_
    refine c_seq fun K9 hK9 => ?_
    refine c_region ?_
    refine s_pure h (ru_field fld65_2 (h.ev rfl)) rfl ?_; intro f h
    refine s_load_at1 (cell_of_has (Has.of_own s 0 rfl) 72 (t5_ok _ _ _ _)) h one4 rfl rfl ?_; intro f h
    refine s_pure h (ru_val (.bool true) (ru_not (h.ev rfl)) (rfl)) rfl ?_; intro f h
    refine s_pure h (ru_move (h.ev rfl)) rfl ?_; intro f h
    refine s_off (b := false) h rfl rfl rfl rfl ?_; intro f h
    refine s_off (b := false) h rfl rfl rfl rfl ?_; intro f h
    refine s_off (b := false) h rfl rfl rfl rfl ?_; intro f h
    refine s_off (b := false) h rfl rfl rfl rfl ?_; intro f h
    refine s_off (b := false) h rfl rfl rfl rfl ?_; intro f h
    refine s_pure h (ru_pick_t (h.ev rfl) (h.ev rfl)) rfl ?_; intro f h
    refine s_pure h (ru_move (h.ev rfl)) rfl ?_; intro f h
    refine s_off (b := false) h rfl rfl rfl rfl ?_; intro f h
    refine s_off (b := false) h rfl rfl rfl rfl ?_; intro f h
    refine s_off (b := false) h rfl rfl rfl rfl ?_; intro f h
    refine s_off (b := false) h rfl rfl rfl rfl ?_; intro f h
    refine s_off (b := false) h rfl rfl rfl rfl ?_; intro f h
    refine s_off (b := false) h rfl rfl rfl rfl ?_; intro f h
    refine s_none h rfl rfl rfl rfl ?_; intro f h
    refine s_none h rfl rfl rfl rfl ?_; intro f h
    refine s_none h rfl rfl rfl rfl ?_; intro f h
    refine s_none h rfl rfl rfl rfl ?_; intro f h
    refine s_none h rfl rfl rfl rfl ?_; intro f h
    refine s_off (b := false) h rfl rfl rfl rfl ?_; intro f h
    refine s_pure h (ru_pick_t (h.ev rfl) (h.ev rfl)) rfl ?_; intro f h
    refine s_nil ?_
    refine hK9 _ _ ?_
    refine wpIn_cond_true (h.ev rfl) ?_
    refine c_seq fun K10 hK10 => ?_
    refine c_region ?_
    refine s_pure h (ru_build_m0 sttM) rfl ?_; intro f h
    refine s_store_row 2 h s row28 rfl rfl rfl (mArr_size _ _) (mArr_size _ _) (mArr_ones _ _ rfl) ?_; intro w1 s
    refine s_pure h (ru_assign (h.ev rfl)) rfl ?_; intro f h
    refine s_nil ?_
    refine hK10 _ _ ?_
    refine wpIn_ret ?_
    refine t_ret ?_
    exact e_row_tmp 2 rfl h s row28 rfl rfl (mArr_size _ _) rfl (rpar_bad (rp_O hO))
  · skip
    refine c_region ?_
    refine s_pure h (ru_move (h.ev rfl)) rfl ?_; intro f h
    refine s_call h s fnc39 (head_any sx hsx _) rfl rfl ?_; rintro f w1 v10 ⟨vh, rfl, hvh⟩ hE h sq
    rw [hd_t hO] at h
    rw [hdM_t hO] at hvh
    replace s := s.sl_new hE hvh
    refine s_alloc (t5 mZ (.slice none 0 0) ⟨#[]⟩ false) h s zero65 rfl rfl ?_; intro f w1 b4 h s
    refine s_store_row 0 h s row65 rfl rfl rfl (t5_size _ _ _ _) (t5_size _ _ _ _) (t5_ones _ _ _ _ (own_one (s.getSl 1 rfl))) ?_; intro w1 s
    refine s_nil ?_
    refine hK2 _ _ ?_
    refine c_seq fun K11 hK11 => ?_
    refine c_region ?_
    refine s_pure h (ru_assign (h.ev rfl)) rfl ?_; intro f h
    refine s_nil ?_
    refine hK11 _ _ ?_
    refine c_seq fun K12 hK12 => ?_
    refine c_seq fun K13 hK13 => ?_
    refine c_region ?_
    refine s_pure h (ru_field fld65_0 (h.ev rfl)) rfl ?_; intro f h
    refine s_pure h (ru_field fld28_0 (h.ev rfl)) rfl ?_; intro f h
    refine s_load_at1 (cell_of_has (Has.of_own s 0 rfl) 0 (t5_k _ _ _ _)) h one3 rfl rfl ?_; intro f h
    refine s_call h s fnc23 (ret_val (.bool (hasN (kS sx))) (has_any _ 110 _) (congrArg Value.bool (hasF_n (kS sx)))) rfl rfl ?_; intro f w1 v9 hT hE h s; obtain rfl := hT
    refine s_nil ?_
    refine hK13 _ _ ?_
    refine c_join (fun aa ww => Sl 89 aa [(0, .string sx), (2, .pointer (some ⟨b2, 0, none⟩)), (4, .pointer (some ⟨b4, 0, none⟩)), (5, .int .i64 (((bif hasN (kS sx) then 8 else 0) : Nat) : Int))] ∧ St w [.blk b4 (.cells (t5 (p4 sx) vh (q3 sx) true) 65), .sl vh 25 34 (p4 sx).l.length (eCells (p4 sx).l), .blk b2 (.cells (mArr mZ (.slice none 0 0)) 28)] ww) ?_ ?_
    · skip
      refine c_cond h rfl (fun hc => ?_) (fun hc => ?_)
      · refine c_region ?_
        refine s_pure h (ru_assign (h.ev rfl)) rfl ?_; intro f h
        refine s_nil ?_
        refine t_norm ?_
        exact ⟨h.only ⟨rfl, rfl, rfl, slot_int rfl (by rw [hc]; rfl), trivial⟩, St.as s ⟨rfl, rfl, rfl, trivial⟩⟩
      · refine wpIn_skip ?_
        refine t_norm ?_
        exact ⟨h.only ⟨rfl, rfl, rfl, slot_int rfl (by rw [hc]; rfl), trivial⟩, St.as s ⟨rfl, rfl, rfl, trivial⟩⟩
    rintro f w1 ⟨h, s⟩
    refine hK12 _ _ ?_
    refine c_seq fun K15 hK15 => ?_
    refine c_seq fun K16 hK16 => ?_
    refine c_region ?_
    refine s_pure h (ru_field fld65_0 (h.ev rfl)) rfl ?_; intro f h
    refine s_pure h (ru_field fld28_0 (h.ev rfl)) rfl ?_; intro f h
    refine s_load_at1 (cell_of_has (Has.of_own s 0 rfl) 0 (t5_k _ _ _ _)) h one3 rfl rfl ?_; intro f h
    refine s_call h s fnc23 (ret_val (.bool (hasO (kS sx))) (has_any _ 111 _) (congrArg Value.bool (hasF_o (kS sx)))) rfl rfl ?_; intro f w1 v9 hT hE h s; obtain rfl := hT
    refine s_nil ?_
    refine hK16 _ _ ?_
    refine c_join (fun aa ww => Sl 89 aa [(0, .string sx), (2, .pointer (some ⟨b2, 0, none⟩)), (4, .pointer (some ⟨b4, 0, none⟩)), (5, .int .i64 ((nd sx : Nat) : Int))] ∧ St w [.blk b4 (.cells (t5 (p4 sx) vh (q3 sx) true) 65), .sl vh 25 34 (p4 sx).l.length (eCells (p4 sx).l), .blk b2 (.cells (mArr mZ (.slice none 0 0)) 28)] ww) ?_ ?_
    · skip
      refine c_cond h rfl (fun hc => ?_) (fun hc => ?_)
      · refine c_region ?_
        refine s_pure h (ru_move (h.ev rfl)) rfl ?_; intro f h
        refine s_pure h (ru_add (h.ev rfl) (h.ev rfl) (by cases hasN (kS sx) <;> decide)) rfl ?_; intro f h
        refine s_pure h (ru_assign (h.ev rfl)) rfl ?_; intro f h
        refine s_nil ?_
        refine t_norm ?_
        exact ⟨h.only ⟨rfl, rfl, rfl, slot_int rfl (by unfold nd; rw [hc]; cases hasN (kS sx) <;> rfl), trivial⟩, St.as s ⟨rfl, rfl, rfl, trivial⟩⟩
      · refine wpIn_skip ?_
        refine t_norm ?_
        exact ⟨h.only ⟨rfl, rfl, rfl, slot_int rfl (by unfold nd; rw [hc]; cases hasN (kS sx) <;> rfl), trivial⟩, St.as s ⟨rfl, rfl, rfl, trivial⟩⟩
    rintro f w1 ⟨h, s⟩
    refine hK15 _ _ ?_
    refine c_seq fun K18 hK18 => ?_
    refine c_seq fun K19 hK19 => ?_
    refine c_join (fun aa ww => Sl 89 aa [(0, .string sx), (2, .pointer (some ⟨b2, 0, none⟩)), (4, .pointer (some ⟨b4, 0, none⟩)), (44, .bool (bdL sx))] ∧ St w [.blk b4 (.cells (t5 (p4 sx) vh (q3 sx) true) 65), .sl vh 25 34 (p4 sx).l.length (eCells (p4 sx).l), .blk b2 (.cells (mArr mZ (.slice none 0 0)) 28)] ww) ?_ ?_
    · skip
      cases hl1 : (decide ((q3 sx).size < nd sx) : Bool)
      · skip
        cases hl2 : (decide (nd sx < (q3 sx).size) : Bool)
        · skip
          refine c_region ?_
          refine s_pure h (ru_field fld65_2 (h.ev rfl)) rfl ?_; intro f h
          refine s_load_at1 (cell_of_has (Has.of_own s 0 rfl) 72 (t5_ok _ _ _ _)) h one4 rfl rfl ?_; intro f h
          refine s_pure h (ru_val (.bool false) (ru_not (h.ev rfl)) (rfl)) rfl ?_; intro f h
          refine s_pure h (ru_move (h.ev rfl)) rfl ?_; intro f h
          refine s_on h rfl rfl rfl ?_
          refine s_pure h (ru_field fld65_1 (h.ev rfl)) rfl ?_; intro f h
          refine s_on h rfl rfl rfl ?_
          refine s_load_at1 (cell_of_has (Has.of_own s 0 rfl) 71 (t5_r _ _ _ _)) h one9 rfl rfl ?_; intro f h
          refine s_on h rfl rfl rfl ?_
          refine s_pure h (ru_len_str Try.underlying9 (h.ev rfl)) rfl ?_; intro f h
          refine s_on h rfl rfl rfl ?_
          refine s_pure h (ru_move (h.ev rfl)) rfl ?_; intro f h
          refine s_on h rfl rfl rfl ?_
          refine s_pure h (ru_val (.bool false) (ru_lss (h.ev rfl) (h.ev rfl)) (congrArg Value.bool (Eq.trans (decide_eq_decide.2 (by omega)) hl1))) rfl ?_; intro f h
          refine s_pure h (ru_pick_f (h.ev rfl) (h.ev rfl)) rfl ?_; intro f h
          refine s_pure h (ru_move (h.ev rfl)) rfl ?_; intro f h
          refine s_on h rfl rfl rfl ?_
          refine s_pure h (ru_field fld65_1 (h.ev rfl)) rfl ?_; intro f h
          refine s_on h rfl rfl rfl ?_
          refine s_load_at1 (cell_of_has (Has.of_own s 0 rfl) 71 (t5_r _ _ _ _)) h one9 rfl rfl ?_; intro f h
          refine s_on h rfl rfl rfl ?_
          refine s_pure h (ru_len_str Try.underlying9 (h.ev rfl)) rfl ?_; intro f h
          refine s_on h rfl rfl rfl ?_
          refine s_pure h (ru_move (h.ev rfl)) rfl ?_; intro f h
          refine s_on h rfl rfl rfl ?_
          refine s_pure h (ru_val (.bool false) (ru_gtr (h.ev rfl) (h.ev rfl)) (congrArg Value.bool (Eq.trans (decide_eq_decide.2 (by omega)) hl2))) rfl ?_; intro f h
          refine s_on h rfl rfl rfl ?_
          refine s_pure h (ru_move (h.ev rfl)) rfl ?_; intro f h
          refine s_off (b := true) h rfl rfl rfl rfl ?_; intro f h
          refine s_off (b := true) h rfl rfl rfl rfl ?_; intro f h
          refine s_off (b := true) h rfl rfl rfl rfl ?_; intro f h
          refine s_off (b := true) h rfl rfl rfl rfl ?_; intro f h
          refine s_off (b := true) h rfl rfl rfl rfl ?_; intro f h
          refine s_on h rfl rfl rfl ?_
          refine s_pure h (ru_pick_f (h.ev rfl) (h.ev rfl)) rfl ?_; intro f h
          refine s_pure h (ru_pick_f (h.ev rfl) (h.ev rfl)) rfl ?_; intro f h
          refine s_nil ?_
          refine t_norm ?_
          exact ⟨h.only ⟨rfl, rfl, rfl, slot_as rfl (congrArg Value.bool (by unfold bdL; rw [hl1, hl2]; rfl)), trivial⟩, St.as s ⟨rfl, rfl, rfl, trivial⟩⟩
        · skip
          cases hD : (hasD (kS sx) : Bool)
          · skip
            refine c_region ?_
            refine s_pure h (ru_field fld65_2 (h.ev rfl)) rfl ?_; intro f h
            refine s_load_at1 (cell_of_has (Has.of_own s 0 rfl) 72 (t5_ok _ _ _ _)) h one4 rfl rfl ?_; intro f h
            refine s_pure h (ru_val (.bool false) (ru_not (h.ev rfl)) (rfl)) rfl ?_; intro f h
            refine s_pure h (ru_move (h.ev rfl)) rfl ?_; intro f h
            refine s_on h rfl rfl rfl ?_
            refine s_pure h (ru_field fld65_1 (h.ev rfl)) rfl ?_; intro f h
            refine s_on h rfl rfl rfl ?_
            refine s_load_at1 (cell_of_has (Has.of_own s 0 rfl) 71 (t5_r _ _ _ _)) h one9 rfl rfl ?_; intro f h
            refine s_on h rfl rfl rfl ?_
            refine s_pure h (ru_len_str Try.underlying9 (h.ev rfl)) rfl ?_; intro f h
            refine s_on h rfl rfl rfl ?_
            refine s_pure h (ru_move (h.ev rfl)) rfl ?_; intro f h
            refine s_on h rfl rfl rfl ?_
            refine s_pure h (ru_val (.bool false) (ru_lss (h.ev rfl) (h.ev rfl)) (congrArg Value.bool (Eq.trans (decide_eq_decide.2 (by omega)) hl1))) rfl ?_; intro f h
            refine s_pure h (ru_pick_f (h.ev rfl) (h.ev rfl)) rfl ?_; intro f h
            refine s_pure h (ru_move (h.ev rfl)) rfl ?_; intro f h
            refine s_on h rfl rfl rfl ?_
            refine s_pure h (ru_field fld65_1 (h.ev rfl)) rfl ?_; intro f h
            refine s_on h rfl rfl rfl ?_
            refine s_load_at1 (cell_of_has (Has.of_own s 0 rfl) 71 (t5_r _ _ _ _)) h one9 rfl rfl ?_; intro f h
            refine s_on h rfl rfl rfl ?_
            refine s_pure h (ru_len_str Try.underlying9 (h.ev rfl)) rfl ?_; intro f h
            refine s_on h rfl rfl rfl ?_
            refine s_pure h (ru_move (h.ev rfl)) rfl ?_; intro f h
            refine s_on h rfl rfl rfl ?_
            refine s_pure h (ru_val (.bool true) (ru_gtr (h.ev rfl) (h.ev rfl)) (congrArg Value.bool (Eq.trans (decide_eq_decide.2 (by omega)) hl2))) rfl ?_; intro f h
            refine s_on h rfl rfl rfl ?_
            refine s_pure h (ru_move (h.ev rfl)) rfl ?_; intro f h
            refine s_on h rfl rfl rfl ?_
            refine s_pure h (ru_field fld65_0 (h.ev rfl)) rfl ?_; intro f h
            refine s_on h rfl rfl rfl ?_
            refine s_pure h (ru_field fld28_0 (h.ev rfl)) rfl ?_; intro f h
            refine s_on h rfl rfl rfl ?_
            refine s_load_at1 (cell_of_has (Has.of_own s 0 rfl) 0 (t5_k _ _ _ _)) h one3 rfl rfl ?_; intro f h
            refine s_on h rfl rfl rfl ?_
            refine s_call h s fnc23 (ret_val (.bool false) (has_any _ 100 _) (congrArg Value.bool ((hasF_d (kS sx)).trans hD))) rfl rfl ?_; intro f w1 v9 hT hE h s; obtain rfl := hT
            refine s_on h rfl rfl rfl ?_
            refine s_pure h (ru_val (.bool true) (ru_not (h.ev rfl)) rfl) rfl ?_; intro f h
            refine s_on h rfl rfl rfl ?_
            refine s_pure h (ru_pick_t (h.ev rfl) (h.ev rfl)) rfl ?_; intro f h
            refine s_pure h (ru_pick_f (h.ev rfl) (h.ev rfl)) rfl ?_; intro f h
            refine s_nil ?_
            refine t_norm ?_
            exact ⟨h.only ⟨rfl, rfl, rfl, slot_as rfl (congrArg Value.bool (by unfold bdL; rw [hl1, hl2, hD]; rfl)), trivial⟩, St.as s ⟨rfl, rfl, rfl, trivial⟩⟩
          · skip
            refine c_region ?_
            refine s_pure h (ru_field fld65_2 (h.ev rfl)) rfl ?_; intro f h
            refine s_load_at1 (cell_of_has (Has.of_own s 0 rfl) 72 (t5_ok _ _ _ _)) h one4 rfl rfl ?_; intro f h
            refine s_pure h (ru_val (.bool false) (ru_not (h.ev rfl)) (rfl)) rfl ?_; intro f h
            refine s_pure h (ru_move (h.ev rfl)) rfl ?_; intro f h
            refine s_on h rfl rfl rfl ?_
            refine s_pure h (ru_field fld65_1 (h.ev rfl)) rfl ?_; intro f h
            refine s_on h rfl rfl rfl ?_
            refine s_load_at1 (cell_of_has (Has.of_own s 0 rfl) 71 (t5_r _ _ _ _)) h one9 rfl rfl ?_; intro f h
            refine s_on h rfl rfl rfl ?_
            refine s_pure h (ru_len_str Try.underlying9 (h.ev rfl)) rfl ?_; intro f h
            refine s_on h rfl rfl rfl ?_
            refine s_pure h (ru_move (h.ev rfl)) rfl ?_; intro f h
            refine s_on h rfl rfl rfl ?_
            refine s_pure h (ru_val (.bool false) (ru_lss (h.ev rfl) (h.ev rfl)) (congrArg Value.bool (Eq.trans (decide_eq_decide.2 (by omega)) hl1))) rfl ?_; intro f h
            refine s_pure h (ru_pick_f (h.ev rfl) (h.ev rfl)) rfl ?_; intro f h
            refine s_pure h (ru_move (h.ev rfl)) rfl ?_; intro f h
            refine s_on h rfl rfl rfl ?_
            refine s_pure h (ru_field fld65_1 (h.ev rfl)) rfl ?_; intro f h
            refine s_on h rfl rfl rfl ?_
            refine s_load_at1 (cell_of_has (Has.of_own s 0 rfl) 71 (t5_r _ _ _ _)) h one9 rfl rfl ?_; intro f h
            refine s_on h rfl rfl rfl ?_
            refine s_pure h (ru_len_str Try.underlying9 (h.ev rfl)) rfl ?_; intro f h
            refine s_on h rfl rfl rfl ?_
            refine s_pure h (ru_move (h.ev rfl)) rfl ?_; intro f h
            refine s_on h rfl rfl rfl ?_
            refine s_pure h (ru_val (.bool true) (ru_gtr (h.ev rfl) (h.ev rfl)) (congrArg Value.bool (Eq.trans (decide_eq_decide.2 (by omega)) hl2))) rfl ?_; intro f h
            refine s_on h rfl rfl rfl ?_
            refine s_pure h (ru_move (h.ev rfl)) rfl ?_; intro f h
            refine s_on h rfl rfl rfl ?_
            refine s_pure h (ru_field fld65_0 (h.ev rfl)) rfl ?_; intro f h
            refine s_on h rfl rfl rfl ?_
            refine s_pure h (ru_field fld28_0 (h.ev rfl)) rfl ?_; intro f h
            refine s_on h rfl rfl rfl ?_
            refine s_load_at1 (cell_of_has (Has.of_own s 0 rfl) 0 (t5_k _ _ _ _)) h one3 rfl rfl ?_; intro f h
            refine s_on h rfl rfl rfl ?_
            refine s_call h s fnc23 (ret_val (.bool true) (has_any _ 100 _) (congrArg Value.bool ((hasF_d (kS sx)).trans hD))) rfl rfl ?_; intro f w1 v9 hT hE h s; obtain rfl := hT
            refine s_on h rfl rfl rfl ?_
            refine s_pure h (ru_val (.bool false) (ru_not (h.ev rfl)) rfl) rfl ?_; intro f h
            refine s_on h rfl rfl rfl ?_
            refine s_pure h (ru_pick_t (h.ev rfl) (h.ev rfl)) rfl ?_; intro f h
            refine s_pure h (ru_pick_f (h.ev rfl) (h.ev rfl)) rfl ?_; intro f h
            refine s_nil ?_
            refine t_norm ?_
            exact ⟨h.only ⟨rfl, rfl, rfl, slot_as rfl (congrArg Value.bool (by unfold bdL; rw [hl1, hl2, hD]; rfl)), trivial⟩, St.as s ⟨rfl, rfl, rfl, trivial⟩⟩
      · skip
        refine c_region ?_
        refine s_pure h (ru_field fld65_2 (h.ev rfl)) rfl ?_; intro f h
        refine s_load_at1 (cell_of_has (Has.of_own s 0 rfl) 72 (t5_ok _ _ _ _)) h one4 rfl rfl ?_; intro f h
        refine s_pure h (ru_val (.bool false) (ru_not (h.ev rfl)) (rfl)) rfl ?_; intro f h
        refine s_pure h (ru_move (h.ev rfl)) rfl ?_; intro f h
        refine s_on h rfl rfl rfl ?_
        refine s_pure h (ru_field fld65_1 (h.ev rfl)) rfl ?_; intro f h
        refine s_on h rfl rfl rfl ?_
        refine s_load_at1 (cell_of_has (Has.of_own s 0 rfl) 71 (t5_r _ _ _ _)) h one9 rfl rfl ?_; intro f h
        refine s_on h rfl rfl rfl ?_
        refine s_pure h (ru_len_str Try.underlying9 (h.ev rfl)) rfl ?_; intro f h
        refine s_on h rfl rfl rfl ?_
        refine s_pure h (ru_move (h.ev rfl)) rfl ?_; intro f h
        refine s_on h rfl rfl rfl ?_
        refine s_pure h (ru_val (.bool true) (ru_lss (h.ev rfl) (h.ev rfl)) (congrArg Value.bool (Eq.trans (decide_eq_decide.2 (by omega)) hl1))) rfl ?_; intro f h
        refine s_pure h (ru_pick_f (h.ev rfl) (h.ev rfl)) rfl ?_; intro f h
        refine s_pure h (ru_move (h.ev rfl)) rfl ?_; intro f h
        refine s_off (b := false) h rfl rfl rfl rfl ?_; intro f h
        refine s_off (b := false) h rfl rfl rfl rfl ?_; intro f h
        refine s_off (b := false) h rfl rfl rfl rfl ?_; intro f h
        refine s_off (b := false) h rfl rfl rfl rfl ?_; intro f h
        refine s_off (b := false) h rfl rfl rfl rfl ?_; intro f h
        refine s_off (b := false) h rfl rfl rfl rfl ?_; intro f h
        refine s_none h rfl rfl rfl rfl ?_; intro f h
        refine s_none h rfl rfl rfl rfl ?_; intro f h
        refine s_none h rfl rfl rfl rfl ?_; intro f h
        refine s_none h rfl rfl rfl rfl ?_; intro f h
        refine s_none h rfl rfl rfl rfl ?_; intro f h
        refine s_off (b := false) h rfl rfl rfl rfl ?_; intro f h
        refine s_pure h (ru_pick_t (h.ev rfl) (h.ev rfl)) rfl ?_; intro f h
        refine s_nil ?_
        refine t_norm ?_
        exact ⟨h.only ⟨rfl, rfl, rfl, slot_as rfl (congrArg Value.bool (by unfold bdL; rw [hl1]; rfl)), trivial⟩, St.as s ⟨rfl, rfl, rfl, trivial⟩⟩
    rintro f w1 ⟨h, s⟩
    refine hK19 _ _ ?_
    refine c_cond h rfl (fun hc => ?_) (fun hc => ?_)
    · have hL := hc
      refine c_seq fun K21 hK21 => ?_
      refine c_region ?_
      refine s_pure h (ru_build_m0 sttM) rfl ?_; intro f h
      refine s_store_row 2 h s row28 rfl rfl rfl (mArr_size _ _) (mArr_size _ _) (mArr_ones _ _ rfl) ?_; intro w1 s
      refine s_pure h (ru_assign (h.ev rfl)) rfl ?_; intro f h
      refine s_nil ?_
      refine hK21 _ _ ?_
      refine wpIn_ret ?_
      refine t_ret ?_
      exact e_row_tmp 2 rfl h s row28 rfl rfl (mArr_size _ _) rfl (rpar_bad (rp_L hL))
    · have hL := hc
      refine wpIn_skip ?_
      refine hK18 _ _ ?_
      refine c_seq fun K22 hK22 => ?_
      refine c_region ?_
      refine s_pure h (ru_field fld65_0 (h.ev rfl)) rfl ?_; intro f h
      refine s_load_at (Has.subL (Has.of_own s 0 rfl) 0 71 (D := mArr (p4 sx) vh) (t5_m _ _ _ _)) h row28 rfl (mArr_size _ _) rfl ?_; intro f h
      refine s_alloc (mArr mZ (.slice none 0 0)) h s zero28 rfl rfl ?_; intro f w1 b6 h s
      refine s_store_row 0 h s row28 rfl rfl rfl (mArr_size _ _) (mArr_size _ _) (mArr_ones _ _ (own_one (s.getSl 2 rfl))) ?_; intro w1 s
      refine s_nil ?_
      refine hK22 _ _ ?_
      refine c_seq fun K23 hK23 => ?_
      refine c_region ?_
      refine s_pure h (ru_field fld65_1 (h.ev rfl)) rfl ?_; intro f h
      refine s_load_at1 (cell_of_has (Has.of_own s 1 rfl) 71 (t5_r _ _ _ _)) h one9 rfl rfl ?_; intro f h
      refine s_pure h (ru_assign (h.ev rfl)) rfl ?_; intro f h
      refine s_nil ?_
      refine hK23 _ _ ?_
      refine c_seq fun K24 hK24 => ?_
      refine c_seq fun K25 hK25 => ?_
      refine c_region ?_
      refine s_pure h (ru_field fld28_0 (h.ev rfl)) rfl ?_; intro f h
      refine s_load_at1 (cell_of_has (Has.of_own s 0 rfl) 0 (mArr_k _ _)) h one3 rfl rfl ?_; intro f h
      refine s_call h s fnc23 (ret_val (.bool (hasN (kS sx))) (has_any _ 110 _) (congrArg Value.bool (hasF_n (kS sx)))) rfl rfl ?_; intro f w1 v9 hT hE h s; obtain rfl := hT
      refine s_nil ?_
      refine hK25 _ _ ?_
      refine c_join (fun aa ww => Sl 89 aa [(0, .string sx), (2, .pointer (some ⟨b2, 0, none⟩)), (4, .pointer (some ⟨b4, 0, none⟩)), (6, .pointer (some ⟨b6, 0, none⟩)), (7, .string (q4 sx))] ∧ St w [.blk b6 (.cells (mArr (p5R sx) vh) 28), .blk b4 (.cells (t5 (p4 sx) vh (q3 sx) true) 65), .sl vh 25 34 (p4 sx).l.length (eCells (p4 sx).l), .blk b2 (.cells (mArr mZ (.slice none 0 0)) 28)] ww ∧ (hasN (kS sx) = true → bdZ sx = false)) ?_ ?_
      · skip
        refine c_cond h rfl (fun hc => ?_) (fun hc => ?_)
        · have hcN := hc
          have h8 := n8_in hcN hL
          refine c_seq fun K26 hK26 => ?_
          refine c_seq fun K27 hK27 => ?_
          refine c_join (fun aa ww => Sl 89 aa [(0, .string sx), (2, .pointer (some ⟨b2, 0, none⟩)), (4, .pointer (some ⟨b4, 0, none⟩)), (6, .pointer (some ⟨b6, 0, none⟩)), (60, .bool (bdZ sx)), (7, .string (q3 sx))] ∧ St w [.blk b6 (.cells (mArr (p4 sx) vh) 28), .blk b4 (.cells (t5 (p4 sx) vh (q3 sx) true) 65), .sl vh 25 34 (p4 sx).l.length (eCells (p4 sx).l), .blk b2 (.cells (mArr mZ (.slice none 0 0)) 28)] ww) ?_ ?_
          · skip
            cases z7 : (decide (0 < sb (q3 sx) 7) : Bool)
            · skip
              cases z6 : (decide (0 < sb (q3 sx) 6) : Bool)
              · skip
                refine c_region ?_
                refine s_pure h (ru_move (h.ev rfl)) rfl ?_; intro f h
                refine s_pure h (ru_ix_sb Try.underlying9 (7) (h.ev rfl) (h.ev rfl) (by omega) (by omega)) rfl ?_; intro f h
                refine s_pure h (ru_val (.bool false) (ru_gtr (h.ev rfl) (h.ev rfl)) (congrArg Value.bool (Eq.trans (decide_eq_decide.2 (by omega)) z7))) rfl ?_; intro f h
                refine s_pure h (ru_move (h.ev rfl)) rfl ?_; intro f h
                refine s_on h rfl rfl rfl ?_
                refine s_pure h (ru_move (h.ev rfl)) rfl ?_; intro f h
                refine s_on h rfl rfl rfl ?_
                refine s_pure h (ru_ix_sb Try.underlying9 (6) (h.ev rfl) (h.ev rfl) (by omega) (by omega)) rfl ?_; intro f h
                refine s_on h rfl rfl rfl ?_
                refine s_pure h (ru_val (.bool false) (ru_gtr (h.ev rfl) (h.ev rfl)) (congrArg Value.bool (Eq.trans (decide_eq_decide.2 (by omega)) z6))) rfl ?_; intro f h
                refine s_pure h (ru_pick_f (h.ev rfl) (h.ev rfl)) rfl ?_; intro f h
                refine s_nil ?_
                refine t_norm ?_
                exact ⟨h.only ⟨rfl, rfl, rfl, rfl, slot_as rfl (congrArg Value.bool (by unfold bdZ; rw [z7, z6]; rfl)), rfl, trivial⟩, St.as s ⟨rfl, rfl, rfl, rfl, trivial⟩⟩
              · skip
                refine c_region ?_
                refine s_pure h (ru_move (h.ev rfl)) rfl ?_; intro f h
                refine s_pure h (ru_ix_sb Try.underlying9 (7) (h.ev rfl) (h.ev rfl) (by omega) (by omega)) rfl ?_; intro f h
                refine s_pure h (ru_val (.bool false) (ru_gtr (h.ev rfl) (h.ev rfl)) (congrArg Value.bool (Eq.trans (decide_eq_decide.2 (by omega)) z7))) rfl ?_; intro f h
                refine s_pure h (ru_move (h.ev rfl)) rfl ?_; intro f h
                refine s_on h rfl rfl rfl ?_
                refine s_pure h (ru_move (h.ev rfl)) rfl ?_; intro f h
                refine s_on h rfl rfl rfl ?_
                refine s_pure h (ru_ix_sb Try.underlying9 (6) (h.ev rfl) (h.ev rfl) (by omega) (by omega)) rfl ?_; intro f h
                refine s_on h rfl rfl rfl ?_
                refine s_pure h (ru_val (.bool true) (ru_gtr (h.ev rfl) (h.ev rfl)) (congrArg Value.bool (Eq.trans (decide_eq_decide.2 (by omega)) z6))) rfl ?_; intro f h
                refine s_pure h (ru_pick_f (h.ev rfl) (h.ev rfl)) rfl ?_; intro f h
                refine s_nil ?_
                refine t_norm ?_
                exact ⟨h.only ⟨rfl, rfl, rfl, rfl, slot_as rfl (congrArg Value.bool (by unfold bdZ; rw [z7, z6]; rfl)), rfl, trivial⟩, St.as s ⟨rfl, rfl, rfl, rfl, trivial⟩⟩
            · skip
              refine c_region ?_
              refine s_pure h (ru_move (h.ev rfl)) rfl ?_; intro f h
              refine s_pure h (ru_ix_sb Try.underlying9 (7) (h.ev rfl) (h.ev rfl) (by omega) (by omega)) rfl ?_; intro f h
              refine s_pure h (ru_val (.bool true) (ru_gtr (h.ev rfl) (h.ev rfl)) (congrArg Value.bool (Eq.trans (decide_eq_decide.2 (by omega)) z7))) rfl ?_; intro f h
              refine s_pure h (ru_move (h.ev rfl)) rfl ?_; intro f h
              refine s_off (b := false) h rfl rfl rfl rfl ?_; intro f h
              refine s_off (b := false) h rfl rfl rfl rfl ?_; intro f h
              refine s_off (b := false) h rfl rfl rfl rfl ?_; intro f h
              refine s_pure h (ru_pick_t (h.ev rfl) (h.ev rfl)) rfl ?_; intro f h
              refine s_nil ?_
              refine t_norm ?_
              exact ⟨h.only ⟨rfl, rfl, rfl, rfl, slot_as rfl (congrArg Value.bool (by unfold bdZ; rw [z7]; rfl)), rfl, trivial⟩, St.as s ⟨rfl, rfl, rfl, rfl, trivial⟩⟩
          rintro f w1 ⟨h, s⟩
          refine hK27 _ _ ?_
          refine c_cond h rfl (fun hc => ?_) (fun hc => ?_)
          · have hbZ := hc
            refine c_seq fun K29 hK29 => ?_
            refine c_region ?_
            refine s_pure h (ru_build_m0 sttM) rfl ?_; intro f h
            refine s_store_row 3 h s row28 rfl rfl rfl (mArr_size _ _) (mArr_size _ _) (mArr_ones _ _ rfl) ?_; intro w1 s
            refine s_pure h (ru_assign (h.ev rfl)) rfl ?_; intro f h
            refine s_nil ?_
            refine hK29 _ _ ?_
            refine wpIn_ret ?_
            refine t_ret ?_
            refine t_ret ?_
            refine t_ret ?_
            exact e_row_tmp 3 rfl h s row28 rfl rfl (mArr_size _ _) rfl (rpar_bad (rp_Z hcN hbZ))
          · have hbZ := hc
            refine wpIn_skip ?_
            refine hK26 _ _ ?_
            refine c_seq fun K30 hK30 => ?_
            refine c_seq fun K31 hK31 => ?_
            refine c_region ?_
            refine s_pure h (ru_assign (h.ev rfl)) rfl ?_; intro f h
            refine s_nil ?_
            refine hK31 _ _ ?_
            refine wpIn_block ?_
            refine wpIn_loop_ghost (fun nn aa ww => ∃ d : Nat, Sl 89 aa [(0, .string sx), (2, .pointer (some ⟨b2, 0, none⟩)), (4, .pointer (some ⟨b4, 0, none⟩)), (6, .pointer (some ⟨b6, 0, none⟩)), (7, .string (q3 sx)), (8, .int .i64 (5 - (d : Int)))] ∧ St w [.blk b6 (.cells (mArr { p4 sx with n := ((hN (q3 sx) d : Nat) : Int) } vh) 28), .blk b4 (.cells (t5 (p4 sx) vh (q3 sx) true) 65), .sl vh 25 34 (p4 sx).l.length (eCells (p4 sx).l), .blk b2 (.cells (mArr mZ (.slice none 0 0)) 28)] ww ∧ nn = 6 - d ∧ d ≤ 6) (6 - (0)) ⟨0, h.only ⟨rfl, rfl, rfl, rfl, rfl, slot_int rfl rfl, trivial⟩, s.as ⟨rfl, rfl, rfl, rfl, trivial⟩, rfl, Nat.zero_le _⟩ ?_
            rintro _ f w1 ⟨d, h, s, hnn, hp0⟩
            refine c_seq fun K32 hK32 => ?_
            refine c_seq fun K33 hK33 => ?_
            refine c_region ?_
            refine s_pure h (ru_move (h.ev rfl)) rfl ?_; intro f h
            refine s_pure h (ru_geq (h.ev rfl) (h.ev rfl)) rfl ?_; intro f h
            refine s_nil ?_
            refine hK33 _ _ ?_
            refine c_cond h rfl (fun hc => ?_) (fun hc => ?_)
            · replace hc := of_decide_eq_true hc
              refine wpIn_skip ?_
              refine hK32 _ _ ?_
              refine c_seq fun K34 hK34 => ?_
              refine wpIn_block ?_
              refine c_walkN 9 [[], [0], [0, 1], [], [], [3, 4], [3, 4, 5], [0, 1, 2, 3, 4, 5, 6], [0, 1, 2, 3, 4, 5, 6, 7]] h (by kernel_rfl) (by kernel_rfl) (by kernel_rfl) ?_
              refine w_pure h (ru_field fld28_4 (h.ev rfl)) rfl ?_; intro f h
              have hhn := hN_lt5 (q3 sx) d (by omega)
              have hbd := sb_lt (q3 sx) (5 - d)
              refine w_load_at1 (V := .int .i64 ((hN (q3 sx) d : Nat) : Int)) (cell_of_has (Has.of_own s 0 rfl) 68 (mArr_n _ _)) h one3 rfl rfl ?_; intro f h
              refine w_pure h (ru_mul (h.ev rfl) (h.ev rfl) (by omega)) rfl ?_; intro f h
              refine w_pure h (ru_move (h.ev rfl)) rfl ?_; intro f h
              refine w_pure h (ru_move (h.ev rfl)) rfl ?_; intro f h
              refine w_pure h (ru_ix_sb Try.underlying9 (5 - d) (h.ev rfl) (h.ev rfl) (by omega) (by omega)) rfl ?_; intro f h
              refine w_pure h (ru_conv_in Try.underlying5 Try.underlying3 (h.ev rfl) (IntWalk.i64_in _ (by omega))) rfl ?_; intro f h
              refine w_pure h (ru_val (.int .i64 ((hN (q3 sx) (d + 1) : Nat) : Int)) (ru_add (h.ev rfl) (h.ev rfl) (by omega)) (congrArg (Value.int .i64) (hN_step _ _))) rfl ?_; intro f h
              refine w_pure h (ru_field fld28_4 (h.ev rfl)) rfl ?_; intro f h
              refine w_nil s fun w1 s => ?_
              refine s_store_one 0 h s one3 rfl rfl rfl (by rw [mArr_size]; omega) (rfl) ?_; intro w1 s
              replace s := s.recell 0 rfl (mArr_setN _ _ _)
              refine s_nil ?_
              refine b_norm ?_
              refine hK34 _ _ ?_
              refine c_region ?_
              refine s_pure h (ru_move (h.ev rfl)) rfl ?_; intro f h
              refine s_pure h (ru_sub (h.ev rfl) (h.ev rfl) (by omega)) rfl ?_; intro f h
              refine s_pure h (ru_assign (h.ev rfl)) rfl ?_; intro f h
              refine s_nil ?_
              refine t_norm ?_
              exact ⟨_, by omega, ⟨d + 1, h.only ⟨rfl, rfl, rfl, rfl, rfl, slot_int rfl (by omega), trivial⟩, St.as s ⟨rfl, rfl, rfl, rfl, trivial⟩, rfl, by omega⟩⟩
            · replace hc := of_decide_eq_false hc
              refine wpIn_exit ?_
              refine t_exit ?_
              refine t_exit ?_
              refine b_exit ?_
              refine hK30 _ _ ?_
              refine c_region ?_
              obtain rfl : d = 6 := by omega
              refine s_pure h (ru_move (h.ev rfl)) rfl ?_; intro f h
              refine s_pure h (ru_slice_str_lo (8) Try.underlying9 (h.ev rfl) (h.ev rfl) (rfl) (h8)) rfl ?_; intro f h
              refine s_pure h (ru_assign (h.ev rfl)) rfl ?_; intro f h
              refine s_nil ?_
              refine t_norm ?_
              exact ⟨h.only ⟨rfl, rfl, rfl, rfl, slot_s rfl (q4_t hcN), trivial⟩, St.as s ⟨cells_eq (congrArg (fun x => mArr x _) (p5R_t hcN)), rfl, rfl, rfl, trivial⟩, fun _ => hbZ⟩
        · have hcN := hc
          refine wpIn_skip ?_
          refine t_norm ?_
          exact ⟨h.only ⟨rfl, rfl, rfl, rfl, slot_s rfl (q4_f hcN), trivial⟩, St.as s ⟨cells_eq (congrArg (fun x => mArr x _) (p5R_f hcN)), rfl, rfl, rfl, trivial⟩, fun h9 => absurd (h9.symm.trans hcN) (by decide)⟩
      rintro f w1 ⟨h, s, hZN⟩
      refine hK24 _ _ ?_
      refine c_seq fun K36 hK36 => ?_
      refine c_seq fun K37 hK37 => ?_
      refine c_region ?_
      refine s_pure h (ru_field fld28_0 (h.ev rfl)) rfl ?_; intro f h
      refine s_load_at1 (cell_of_has (Has.of_own s 0 rfl) 0 (mArr_k _ _)) h one3 rfl rfl ?_; intro f h
      refine s_call h s fnc23 (ret_val (.bool (hasO (kS sx))) (has_any _ 111 _) (congrArg Value.bool (hasF_o (kS sx)))) rfl rfl ?_; intro f w1 v9 hT hE h s; obtain rfl := hT
      refine s_nil ?_
      refine hK37 _ _ ?_
      refine c_join (fun aa ww => Sl 89 aa [(0, .string sx), (2, .pointer (some ⟨b2, 0, none⟩)), (4, .pointer (some ⟨b4, 0, none⟩)), (6, .pointer (some ⟨b6, 0, none⟩))] ∧ St w [.blk b6 (.cells (mArr (mR sx) vh) 28), .blk b4 (.cells (t5 (p4 sx) vh (q3 sx) true) 65), .sl vh 25 34 (p4 sx).l.length (eCells (p4 sx).l), .blk b2 (.cells (mArr mZ (.slice none 0 0)) 28)] ww) ?_ ?_
      · skip
        refine c_cond h rfl (fun hc => ?_) (fun hc => ?_)
        · refine c_region ?_
          refine s_pure h (ru_move (h.ev rfl)) rfl ?_; intro f h
          refine s_pure h (ru_field fld28_5 (h.ev rfl)) rfl ?_; intro f h
          refine s_store_one 0 h s one9 rfl rfl rfl (by rw [mArr_size]; omega) (rfl) ?_; intro w1 s
          replace s := s.recell 0 rfl (mArr_setO _ _ _)
          refine s_nil ?_
          refine t_norm ?_
          exact ⟨h.only ⟨rfl, rfl, rfl, rfl, trivial⟩, St.as s ⟨cells_eq (congrArg (fun x => mArr x _) (mR_t hc)), rfl, rfl, rfl, trivial⟩⟩
        · refine c_region ?_
          refine s_pure h (ru_move (h.ev rfl)) rfl ?_; intro f h
          refine s_pure h (ru_field fld28_6 (h.ev rfl)) rfl ?_; intro f h
          refine s_store_one 0 h s one9 rfl rfl rfl (by rw [mArr_size]; omega) (rfl) ?_; intro w1 s
          replace s := s.recell 0 rfl (mArr_setD _ _ _)
          refine s_nil ?_
          refine t_norm ?_
          exact ⟨h.only ⟨rfl, rfl, rfl, rfl, trivial⟩, St.as s ⟨cells_eq (congrArg (fun x => mArr x _) (mR_f hc)), rfl, rfl, rfl, trivial⟩⟩
      rintro f w1 ⟨h, s⟩
      refine hK36 _ _ ?_
      refine c_seq fun K39 hK39 => ?_
      refine c_seq fun K40 hK40 => ?_
      refine c_region ?_
      refine s_load_row 0 h s row28 rfl rfl (mArr_size _ _) rfl ?_; intro f h
      refine s_call h s fnc10 (rright5_any (mR sx) vh _ (RdZ.of_own (s.getSl 2 rfl)) (Nat.le_trans (vS_len sx) (by omega))) rfl rfl ?_; intro f w1 v9 hT hE h s; obtain rfl := hT
      refine s_pure h (ru_not (h.ev rfl)) rfl ?_; intro f h
      refine s_nil ?_
      refine hK40 _ _ ?_
      refine c_cond h rfl (fun hc => ?_) (fun hc => ?_)
      · have hR0 : rightM (mR sx) = false := by simpa using hc
        refine c_seq fun K41 hK41 => ?_
        refine c_region ?_
        refine s_pure h (ru_build_m0 sttM) rfl ?_; intro f h
        refine s_store_row 3 h s row28 rfl rfl rfl (mArr_size _ _) (mArr_size _ _) (mArr_ones _ _ rfl) ?_; intro w1 s
        refine s_pure h (ru_assign (h.ev rfl)) rfl ?_; intro f h
        refine s_nil ?_
        refine hK41 _ _ ?_
        refine wpIn_ret ?_
        refine t_ret ?_
        exact e_row_tmp 3 rfl h s row28 rfl rfl (mArr_size _ _) rfl (rpar_bad (rp_no hO hL hZN hR0))
      · have hR1 : rightM (mR sx) = true := by simpa using hc
        refine wpIn_skip ?_
        refine hK39 _ _ ?_
        refine c_seq fun K42 hK42 => ?_
        refine c_region ?_
        refine s_load_row 0 h s row28 rfl rfl (mArr_size _ _) rfl ?_; intro f h
        refine s_store_row 3 h s row28 rfl rfl rfl (mArr_size _ _) (mArr_size _ _) (mArr_ones _ _ (own_one (s.getSl 2 rfl))) ?_; intro w1 s
        refine s_pure h (ru_assign (h.ev rfl)) rfl ?_; intro f h
        refine s_nil ?_
        refine hK42 _ _ ?_
        refine wpIn_ret ?_
        exact e_row_tmp 3 rfl h s row28 rfl rfl (mArr_size _ _) rfl (rpar_good (rp_yes hO hL hZN hR1) (mR_mP hL hZN) (s.getSl 2 rfl))
end Go.Proofs.Ytaehgcdcfbhohaa
