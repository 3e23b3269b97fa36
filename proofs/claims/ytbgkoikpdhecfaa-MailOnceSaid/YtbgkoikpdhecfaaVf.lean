/- What MailOnce answers: for all arguments. -/
import Derived.Test.YtbgkoikpdhecfaaVb
set_option linter.unusedVariables false
set_option linter.unusedSimpArgs false
set_option linter.unusedSectionVars false
namespace Go.Proofs.Ytbgkoikpdhecfaa
open Go.RowKit
set_option maxHeartbeats 4000000 in
theorem monce_any (v1 : Value) (ps : List ByteArray) (v2 : Value) (qs : List Int) (hqb : ∀ a ∈ qs, -9223372036854775808 ≤ a ∧ a ≤ 9223372036854775807) (w : World) (hv : Rd w v1 ps.length (ps.map Value.string)) (hu : RdZ w v2 1 qs.length (qs.map (Value.int .i64))) : Calls Try.prog 5 [v1, v2].toArray w (Ret w (is (.bool true))) := by
  refine c_enter Try.func5 rfl Try.ntmps5 rfl [(0, v1), (1, v2)] (by simp) fun f h => ?_
  have s := St.start w
  refine c_seq fun K1 hK1 => ?_
  refine c_region ?_
  refine s_pure h (ru_assign (h.ev rfl)) rfl ?_; intro f h
  refine s_nil ?_
  refine hK1 _ _ ?_
  refine c_seq fun K2 hK2 => ?_
  refine c_region ?_
  refine s_alloc (mlArr zMl (.slice none 0 0)) h s zero24 rfl rfl ?_; intro f w1 b5 h s
  refine s_nil ?_
  refine hK2 _ _ ?_
  refine c_seq fun K3 hK3 => ?_
  refine c_region ?_
  refine s_makeMap h s rfl ?_; intro f w1 b25 h s
  refine s_pure h (ru_assign (h.ev rfl)) rfl ?_; intro f h
  refine s_nil ?_
  refine hK3 _ _ ?_
  refine c_seq fun K4 hK4 => ?_
  refine c_region ?_
  refine s_makeMap h s rfl ?_; intro f w1 b26 h s
  refine s_pure h (ru_assign (h.ev rfl)) rfl ?_; intro f h
  refine s_nil ?_
  refine hK4 _ _ ?_
  refine c_seq fun K5 hK5 => ?_
  refine c_seq fun K6 hK6 => ?_
  refine c_region ?_
  refine s_pure h (ru_move (h.ev rfl)) rfl ?_; intro f h
  refine s_pure h (ru_lenZ ((RdZ.of_rd hv).keep s.ext) Try.underlying40 (h.ev rfl)) rfl ?_; intro f h
  replace s := s.nilSl 35 4
  refine s_pure h (ru_move (h.ev rfl)) rfl ?_; intro f h
  refine s_nil ?_
  refine hK6 _ _ ?_
  refine wpIn_block ?_
  refine wpIn_loop_ghost (fun nn aa ww => ∃ k : Nat, ∃ vl : Value, Sl 222 aa [(0, v1), (1, v2), (5, .pointer (some ⟨b5, 0, none⟩)), (6, .map (some b25)), (7, .map (some b26)), (27, v1), (28, .int .i64 (ps.length : Int)), (29, .int .i64 (k : Int))] ∧ St w [.sl vl 35 4 (mlO ps k (List.range k)).l.length (ltCells (mlO ps k (List.range k)).l), .blk b26 (mpO k (cV (List.range k))), .blk b25 (mpO k (fun i => .string (dO ps i))), .blk b5 (.cells (mlArr (mlO ps k (List.range k)) vl) 24)] ww ∧ nn = ps.length - k ∧ k ≤ ps.length ∧ k ≤ 20) (ps.length - (0)) ⟨0, (Value.slice none 0 0), h.only ⟨rfl, rfl, rfl, rfl, rfl, rfl, rfl, slot_int rfl (by omega), trivial⟩, s.as ⟨rfl, rfl, rfl, rfl, trivial⟩, rfl, Nat.zero_le _, Nat.zero_le _⟩ ?_
  rintro _ f w1 ⟨k, vl, h, s, hnn, hp0, hp1⟩
  refine c_seq fun K7 hK7 => ?_
  refine c_region ?_
  refine s_pure h (ru_lss (h.ev rfl) (h.ev rfl)) rfl ?_; intro f h
  refine s_nil ?_
  refine hK7 _ _ ?_
  refine c_seq fun K8 hK8 => ?_
  refine c_cond h rfl (fun hc => ?_) (fun hc => ?_)
  · replace hc := of_decide_eq_true hc
    refine wpIn_skip ?_
    refine hK8 _ _ ?_
    refine c_seq fun K9 hK9 => ?_
    refine wpIn_block ?_
    refine c_seq fun K10 hK10 => ?_
    refine c_region ?_
    refine s_pure h (ru_move (h.ev rfl)) rfl ?_; intro f h
    have hkp : k < ps.length := by omega
    refine s_pure h (ru_ixz ((RdZ.of_rd hv).keep s.ext) (k) Try.underlying40 szo9 (h.ev rfl) (h.ev rfl) (by omega) (by omega)) rfl ?_; intro f h
    refine s_load_at1 (((RdZ.of_rd hv).keep s.ext).el1 (k) (V := .string (pt ps k)) (rd_map ps k hkp)) h one9 rfl rfl ?_; intro f h
    refine s_pure h (ru_assign (h.ev rfl)) rfl ?_; intro f h
    refine s_pure h (ru_assign (h.ev rfl)) rfl ?_; intro f h
    refine s_nil ?_
    refine hK10 _ _ ?_
    refine c_seq fun K11 hK11 => ?_
    refine c_seq fun K12 hK12 => ?_
    refine c_region ?_
    refine s_pure h (ru_move (h.ev rfl)) rfl ?_; intro f h
    refine s_pure h (ru_geq (h.ev rfl) (h.ev rfl)) rfl ?_; intro f h
    refine s_nil ?_
    refine hK12 _ _ ?_
    refine c_cond h rfl (fun hc => ?_) (fun hc => ?_)
    · replace hc := of_decide_eq_true hc
      refine wpIn_exit ?_
      refine t_exit ?_
      refine b_exit_other rfl ?_
      refine t_exit ?_
      refine t_exit ?_
      refine b_exit ?_
      refine hK5 _ _ ?_
      refine c_seq fun K13 hK13 => ?_
      refine c_seq fun K14 hK14 => ?_
      refine c_region ?_
      refine s_pure h (ru_move (h.ev rfl)) rfl ?_; intro f h
      refine s_pure h (ru_lenZ (hu.keep s.ext) Try.underlying41 (h.ev rfl)) rfl ?_; intro f h
      refine s_pure h (ru_move (h.ev rfl)) rfl ?_; intro f h
      refine s_nil ?_
      refine hK14 _ _ ?_
      refine wpIn_block ?_
      refine wpIn_loop_ghost (fun nn aa ww => ∃ i9 : Nat, ∃ ks : List Nat, ∃ vm : Value, Sl 222 aa [(0, v1), (1, v2), (5, .pointer (some ⟨b5, 0, none⟩)), (6, .map (some b25)), (7, .map (some b26)), (68, v2), (69, .int .i64 (qs.length : Int)), (70, .int .i64 (i9 : Int))] ∧ St w [.sl vm 35 4 (mlO ps k ks).l.length (ltCells (mlO ps k ks).l), .blk b26 (mpO k (cV ks)), .blk b25 (mpO k (fun i => .string (dO ps i))), .blk b5 (.cells (mlArr (mlO ps k ks) vm) 24)] ww ∧ nn = qs.length - i9 ∧ i9 ≤ qs.length ∧ okO k ks) (qs.length - (0)) ⟨0, (List.range k), vl, h.only ⟨rfl, rfl, rfl, rfl, rfl, rfl, rfl, slot_int rfl (by omega), trivial⟩, s.as ⟨rfl, rfl, rfl, rfl, trivial⟩, rfl, Nat.zero_le _, okO_range hp1⟩ ?_
      rintro _ f w1 ⟨i9, ks, vm, h, s, hnn, hp0, hp1⟩
      refine c_seq fun K15 hK15 => ?_
      refine c_region ?_
      refine s_pure h (ru_lss (h.ev rfl) (h.ev rfl)) rfl ?_; intro f h
      refine s_nil ?_
      refine hK15 _ _ ?_
      refine c_seq fun K16 hK16 => ?_
      refine c_cond h rfl (fun hc => ?_) (fun hc => ?_)
      · replace hc := of_decide_eq_true hc
        refine wpIn_skip ?_
        refine hK16 _ _ ?_
        refine c_seq fun K17 hK17 => ?_
        refine wpIn_block ?_
        refine c_seq fun K18 hK18 => ?_
        refine c_region ?_
        refine s_pure h (ru_move (h.ev rfl)) rfl ?_; intro f h
        have hiq : i9 < qs.length := by omega
        have hab := int_bd hqb i9 hiq
        have hml := mlO_len ps k ks
        have hO64 := hp1.2.1
        have hO20 := hp1.1
        refine s_pure h (ru_ixz (hu.keep s.ext) (i9) Try.underlying41 szo3 (h.ev rfl) (h.ev rfl) (by omega) (by omega)) rfl ?_; intro f h
        refine s_load_at1 ((hu.keep s.ext).el1 (i9) (V := .int .i64 (qs.getD i9 0)) (int_map qs i9 hiq)) h one3 rfl rfl ?_; intro f h
        refine s_pure h (ru_assign (h.ev rfl)) rfl ?_; intro f h
        refine s_pure h (ru_assign (h.ev rfl)) rfl ?_; intro f h
        refine s_nil ?_
        refine hK18 _ _ ?_
        refine c_seq fun K19 hK19 => ?_
        refine c_region ?_
        refine s_pure h (ru_field fld24_0 (h.ev rfl)) rfl ?_; intro f h
        refine s_load_at1 (cell_of_has (Has.of_own s 3 rfl) 0 (rfl)) h one22 rfl rfl ?_; intro f h
        refine s_len_sl 0 h s Try.underlying22 rfl rfl rfl ?_; intro f h
        refine s_pure h (ru_assign (h.ev rfl)) rfl ?_; intro f h
        refine s_nil ?_
        refine hK19 _ _ ?_
        refine c_seq fun K20 hK20 => ?_
        refine c_seq fun K21 hK21 => ?_
        cases h60 : (decide (60 ≤ i9) : Bool)
        · skip
          cases hk0 : (decide (ks.length = 0) : Bool)
          · skip
            refine c_region ?_
            refine s_pure h (ru_move (h.ev rfl)) rfl ?_; intro f h
            refine s_pure h (ru_val (.bool false) (ru_geq (h.ev rfl) (h.ev rfl)) (congrArg Value.bool (decide_eq_false (by have := of_decide_eq_false h60; omega)))) rfl ?_; intro f h
            refine s_pure h (ru_move (h.ev rfl)) rfl ?_; intro f h
            refine s_on h rfl rfl rfl ?_
            refine s_pure h (ru_move (h.ev rfl)) rfl ?_; intro f h
            refine s_on h rfl rfl rfl ?_
            refine s_pure h (ru_val (.bool false) (ru_eql (h.ev rfl) (h.ev rfl)) (congrArg Value.bool (decide_eq_false (by have := of_decide_eq_false hk0; omega)))) rfl ?_; intro f h
            refine s_pure h (ru_pick_f (h.ev rfl) (h.ev rfl)) rfl ?_; intro f h
            refine s_nil ?_
            refine hK21 _ _ ?_
            refine wpIn_cond_false (h.ev rfl) ?_
            refine wpIn_skip ?_
            refine hK20 _ _ ?_
            refine c_seq fun K22 hK22 => ?_
            refine c_region ?_
            have h60n := of_decide_eq_false h60
            have hk1 : 0 < ks.length := by have := of_decide_eq_false hk0; omega
            obtain ⟨hd1, hd2⟩ := tm_bd ((qs.getD i9 0).tdiv 4) (k := (mlO ps k ks).l.length) (by omega)
            obtain ⟨p9, hp9, hpl⟩ := tm_ok (m := ((qs.getD i9 0).tdiv 4).tmod ((mlO ps k ks).l.length : Int) + ((mlO ps k ks).l.length : Int)) (k := (mlO ps k ks).l.length) (by omega) (by omega)
            have hpk : p9 < ks.length := by omega
            have hJ := okO_get hp1 hpk
            obtain ⟨aO1, aO2, aO3, aO4⟩ := atO (ps := ps) hp1 hpk
            have hJc := count_one hpk
            have hJl := count_le ks (ks.getD p9 0)
            refine s_pure h (ru_move (h.ev rfl)) rfl ?_; intro f h
            refine s_pure h (ru_quot4 (h.ev rfl) (h.ev rfl) (by omega)) rfl ?_; intro f h
            refine s_pure h (ru_move (h.ev rfl)) rfl ?_; intro f h
            refine s_pure h (ru_remt (h.ev rfl) (h.ev rfl) (by omega)) rfl ?_; intro f h
            refine s_pure h (ru_move (h.ev rfl)) rfl ?_; intro f h
            refine s_pure h (ru_add (h.ev rfl) (h.ev rfl) (by omega)) rfl ?_; intro f h
            refine s_pure h (ru_move (h.ev rfl)) rfl ?_; intro f h
            refine s_pure h (ru_val (.int .i64 (p9 : Int)) (ru_remt (h.ev rfl) (h.ev rfl) (by omega)) (congrArg (Value.int .i64) hp9)) rfl ?_; intro f h
            refine s_pure h (ru_assign (h.ev rfl)) rfl ?_; intro f h
            refine s_nil ?_
            refine hK22 _ _ ?_
            refine c_seq fun K23 hK23 => ?_
            refine c_region ?_
            refine s_pure h (ru_field fld24_0 (h.ev rfl)) rfl ?_; intro f h
            refine s_load_at1 (cell_of_has (Has.of_own s 3 rfl) 0 (rfl)) h one22 rfl rfl ?_; intro f h
            refine s_pure h (ru_move (h.ev rfl)) rfl ?_; intro f h
            refine s_pure h (ru_ixz (RdZ.of_own (s.getSl 0 rfl)) (p9) Try.underlying22 szo35 (h.ev rfl) (h.ev rfl) (by omega) (by omega)) rfl ?_; intro f h
            refine s_pure h (ru_fieldE fld35_0 (h.ev rfl) ((RdZ.of_own (s.getSl 0 rfl)).some (by omega))) rfl ?_; intro f h
            refine s_load_at1 (V := .int .i64 (((ks.getD p9 0) : Nat) + 1 : Int)) (rdz_at (RdZ.of_own (s.getSl 0 rfl)) (p9 * 4 + 0) (lno_O hpk)) h one3 rfl rfl ?_; intro f h
            refine s_pure h (ru_assign (h.ev rfl)) rfl ?_; intro f h
            refine s_nil ?_
            refine hK23 _ _ ?_
            refine c_seq fun K24 hK24 => ?_
            refine c_region ?_
            refine s_alloc (mlArr zMl (.slice none 0 0)) h s zero24 rfl rfl ?_; intro f w1 b18 h s
            refine s_nil ?_
            refine hK24 _ _ ?_
            refine c_seq fun K25 hK25 => ?_
            refine c_region ?_
            refine s_pure h (ru_assign (h.ev rfl)) rfl ?_; intro f h
            refine s_nil ?_
            refine hK25 _ _ ?_
            refine c_seq fun K26 hK26 => ?_
            refine c_seq fun K27 hK27 => ?_
            refine c_region ?_
            refine s_pure h (ru_move (h.ev rfl)) rfl ?_; intro f h
            obtain ⟨hr1, hr2⟩ := tm_4 (qs.getD i9 0)
            obtain ⟨c9, hc9⟩ : ∃ x9, x9 = ((qs.getD i9 0).tmod 4 + 4).tmod 4 := ⟨_, rfl⟩
            refine s_pure h (ru_remt (h.ev rfl) (h.ev rfl) (by omega)) rfl ?_; intro f h
            refine s_pure h (ru_add (h.ev rfl) (h.ev rfl) (by omega)) rfl ?_; intro f h
            refine s_pure h (ru_val (.int .i64 c9) (ru_remt (h.ev rfl) (h.ev rfl) (by omega)) (by rw [hc9])) rfl ?_; intro f h
            refine s_nil ?_
            refine hK27 _ _ ?_
            refine wpIn_block ?_
            refine c_seq fun K28 hK28 => ?_
            cases c0 : (decide (c9 = 0) : Bool)
            · skip
              refine c_region ?_
              refine s_pure h (ru_val (.bool false) (ru_eql (h.ev rfl) (h.ev rfl)) (congrArg Value.bool c0)) rfl ?_; intro f h
              refine s_pure h (ru_assign (h.ev rfl)) rfl ?_; intro f h
              refine s_nil ?_
              refine hK28 _ _ ?_
              refine wpIn_cond_false (h.ev rfl) ?_
              refine c_seq fun K29 hK29 => ?_
              cases c1 : (decide (c9 = 1) : Bool)
              · skip
                refine c_region ?_
                refine s_pure h (ru_val (.bool false) (ru_eql (h.ev rfl) (h.ev rfl)) (congrArg Value.bool c1)) rfl ?_; intro f h
                refine s_pure h (ru_assign (h.ev rfl)) rfl ?_; intro f h
                refine s_nil ?_
                refine hK29 _ _ ?_
                refine wpIn_cond_false (h.ev rfl) ?_
                refine c_seq fun K30 hK30 => ?_
                cases c2 : (decide (c9 = 2) : Bool)
                · skip
                  refine c_region ?_
                  refine s_pure h (ru_val (.bool false) (ru_eql (h.ev rfl) (h.ev rfl)) (congrArg Value.bool c2)) rfl ?_; intro f h
                  refine s_pure h (ru_assign (h.ev rfl)) rfl ?_; intro f h
                  refine s_nil ?_
                  refine hK30 _ _ ?_
                  refine wpIn_cond_false (h.ev rfl) ?_
                  refine c_region ?_
                  refine s_load_row 4 h s row24 rfl rfl (rfl) rfl ?_; intro f h
                  refine s_pure h (ru_move (h.ev rfl)) rfl ?_; intro f h
                  refine s_call h s fnc17 (last_any (mlO ps k ks) vm (p9 : Int) _ (RdZ.of_own (s.getSl 1 rfl)) (by omega)) rfl rfl ?_; rintro f w1 v105 ⟨vy, rfl, hvy⟩ hE h sq
                  rw [aO4, aO1] at h
                  rw [aO4] at hvy
                  replace s := s.sl_new hE hvy
                  refine s_pure h (ru_move (h.ev rfl)) rfl ?_; intro f h
                  refine s_pure h (ru_extract (h.ev rfl) rfl) rfl ?_; intro f h
                  refine s_pure h (ru_extract (h.ev rfl) rfl) rfl ?_; intro f h
                  refine s_store_row 1 h s row24 rfl rfl rfl (rfl) (rfl) (mlArr_ones _ _ (own_one (s.getSl 0 rfl))) ?_; intro w1 s
                  refine s_pure h (ru_assign (h.ev rfl)) rfl ?_; intro f h
                  refine s_nil ?_
                  refine b_norm ?_
                  refine hK26 _ _ ?_
                  refine c_seq fun K31 hK31 => ?_
                  refine c_seq fun K32 hK32 => ?_
                  refine c_region ?_
                  refine s_pure h (ru_move (h.ev rfl)) rfl ?_; intro f h
                  refine s_pure h (ru_val (.bool false) (ru_neq (h.ev rfl) (h.ev rfl)) (congrArg Value.bool (decide_eq_false (fun h9 => h9 rfl)))) rfl ?_; intro f h
                  refine s_pure h (ru_move (h.ev rfl)) rfl ?_; intro f h
                  refine s_off (b := true) h rfl rfl rfl rfl ?_; intro f h
                  refine s_off (b := true) h rfl rfl rfl rfl ?_; intro f h
                  refine s_pure h (ru_pick_f (h.ev rfl) (h.ev rfl)) rfl ?_; intro f h
                  refine s_nil ?_
                  refine hK32 _ _ ?_
                  refine wpIn_cond_false (h.ev rfl) ?_
                  refine wpIn_skip ?_
                  refine hK31 _ _ ?_
                  refine c_seq fun K33 hK33 => ?_
                  refine c_region ?_
                  refine s_pure h (ru_move (h.ev rfl)) rfl ?_; intro f h
                  refine s_pure h (ru_val (.bool true) (ru_eql (h.ev rfl) (h.ev rfl)) (congrArg Value.bool (decide_eq_true (rfl)))) rfl ?_; intro f h
                  refine s_nil ?_
                  refine hK33 _ _ ?_
                  refine wpIn_cond_true (h.ev rfl) ?_
                  refine c_region ?_
                  refine s_load_row 1 h s row24 rfl rfl (rfl) rfl ?_; intro f h
                  refine s_store_row 5 h s row24 rfl rfl rfl (rfl) (rfl) (mlArr_ones _ _ (own_one (s.getSl 0 rfl))) ?_; intro w1 s
                  refine s_nil ?_
                  refine b_norm ?_
                  refine hK17 _ _ ?_
                  refine c_region ?_
                  refine s_pure h (ru_add (h.ev rfl) (h.ev rfl) (by omega)) rfl ?_; intro f h
                  refine s_pure h (ru_move (h.ev rfl)) rfl ?_; intro f h
                  refine s_nil ?_
                  refine t_norm ?_
                  exact ⟨_, by omega, ⟨i9 + 1, ks.eraseIdx p9 ++ [(ks.getD p9 0)], vy, h.only ⟨rfl, rfl, rfl, rfl, rfl, rfl, rfl, slot_int rfl (by omega), trivial⟩, St.as (s.pick _ (List.Sublist.cons_cons _ (List.Sublist.cons _ (List.Sublist.cons _ (List.Sublist.cons_cons _ (List.Sublist.cons_cons _ (List.Sublist.cons_cons _ (List.nil_sublist _)))))))) ⟨rfl, mp_blk (fun j hj => cV_last hpk j), rfl, rfl, trivial⟩, rfl, by omega, ok_last hp1 hpk⟩⟩
                · skip
                  refine c_region ?_
                  refine s_pure h (ru_val (.bool true) (ru_eql (h.ev rfl) (h.ev rfl)) (congrArg Value.bool c2)) rfl ?_; intro f h
                  refine s_pure h (ru_assign (h.ev rfl)) rfl ?_; intro f h
                  refine s_nil ?_
                  refine hK30 _ _ ?_
                  refine wpIn_cond_true (h.ev rfl) ?_
                  refine c_seq fun K34 hK34 => ?_
                  refine c_region ?_
                  refine s_load_row 4 h s row24 rfl rfl (rfl) rfl ?_; intro f h
                  refine s_pure h (ru_move (h.ev rfl)) rfl ?_; intro f h
                  refine s_call h s fnc16 (lose_any (mlO ps k ks) vm (p9 : Int) _ (RdZ.of_own (s.getSl 1 rfl)) (by omega)) rfl rfl ?_; rintro f w1 v179 ⟨vy, rfl, hvy⟩ hE h sq
                  rw [aO3, aO1] at h
                  rw [aO3] at hvy
                  replace s := s.sl_new hE hvy
                  refine s_pure h (ru_move (h.ev rfl)) rfl ?_; intro f h
                  refine s_pure h (ru_extract (h.ev rfl) rfl) rfl ?_; intro f h
                  refine s_pure h (ru_extract (h.ev rfl) rfl) rfl ?_; intro f h
                  refine s_store_row 1 h s row24 rfl rfl rfl (rfl) (rfl) (mlArr_ones _ _ (own_one (s.getSl 0 rfl))) ?_; intro w1 s
                  refine s_pure h (ru_assign (h.ev rfl)) rfl ?_; intro f h
                  refine s_nil ?_
                  refine hK34 _ _ ?_
                  refine c_region ?_
                  refine s_pure h (ru_move (h.ev rfl)) rfl ?_; intro f h
                  refine s_pure h (ru_move (h.ev rfl)) rfl ?_; intro f h
                  refine s_mplook (X := .int .i64 ((ks.count (ks.getD p9 0) : Nat) : Int)) 3 (ks.getD p9 0) h s Try.underlying43 Try.underlying3 zero3 rfl rfl rfl rfl (.inl ⟨hJ, rfl⟩) rfl ?_; intro f h
                  refine s_pure h (ru_sub (h.ev rfl) (h.ev rfl) (by omega)) rfl ?_; intro f h
                  refine s_mpset 3 (ks.getD p9 0) h s Try.underlying43 Try.underlying3 rfl rfl rfl rfl rfl hJ ?_; intro w1 s
                  replace s := s.reobj 3 rfl (mp_congr (fun j hj => cV_erase hpk j))
                  refine s_nil ?_
                  refine b_norm ?_
                  refine hK26 _ _ ?_
                  refine c_seq fun K35 hK35 => ?_
                  refine c_seq fun K36 hK36 => ?_
                  refine c_region ?_
                  refine s_pure h (ru_move (h.ev rfl)) rfl ?_; intro f h
                  refine s_pure h (ru_val (.bool false) (ru_neq (h.ev rfl) (h.ev rfl)) (congrArg Value.bool (decide_eq_false (fun h9 => h9 rfl)))) rfl ?_; intro f h
                  refine s_pure h (ru_move (h.ev rfl)) rfl ?_; intro f h
                  refine s_off (b := true) h rfl rfl rfl rfl ?_; intro f h
                  refine s_off (b := true) h rfl rfl rfl rfl ?_; intro f h
                  refine s_pure h (ru_pick_f (h.ev rfl) (h.ev rfl)) rfl ?_; intro f h
                  refine s_nil ?_
                  refine hK36 _ _ ?_
                  refine wpIn_cond_false (h.ev rfl) ?_
                  refine wpIn_skip ?_
                  refine hK35 _ _ ?_
                  refine c_seq fun K37 hK37 => ?_
                  refine c_region ?_
                  refine s_pure h (ru_move (h.ev rfl)) rfl ?_; intro f h
                  refine s_pure h (ru_val (.bool true) (ru_eql (h.ev rfl) (h.ev rfl)) (congrArg Value.bool (decide_eq_true (rfl)))) rfl ?_; intro f h
                  refine s_nil ?_
                  refine hK37 _ _ ?_
                  refine wpIn_cond_true (h.ev rfl) ?_
                  refine c_region ?_
                  refine s_load_row 1 h s row24 rfl rfl (rfl) rfl ?_; intro f h
                  refine s_store_row 5 h s row24 rfl rfl rfl (rfl) (rfl) (mlArr_ones _ _ (own_one (s.getSl 0 rfl))) ?_; intro w1 s
                  refine s_nil ?_
                  refine b_norm ?_
                  refine hK17 _ _ ?_
                  refine c_region ?_
                  refine s_pure h (ru_add (h.ev rfl) (h.ev rfl) (by omega)) rfl ?_; intro f h
                  refine s_pure h (ru_move (h.ev rfl)) rfl ?_; intro f h
                  refine s_nil ?_
                  refine t_norm ?_
                  exact ⟨_, by omega, ⟨i9 + 1, ks.eraseIdx p9, vy, h.only ⟨rfl, rfl, rfl, rfl, rfl, rfl, rfl, slot_int rfl (by omega), trivial⟩, St.as (s.pick _ (List.Sublist.cons_cons _ (List.Sublist.cons _ (List.Sublist.cons _ (List.Sublist.cons_cons _ (List.Sublist.cons_cons _ (List.Sublist.cons_cons _ (List.nil_sublist _)))))))) ⟨rfl, rfl, rfl, rfl, trivial⟩, rfl, by omega, ok_erase hp1 p9⟩⟩
              · skip
                refine c_region ?_
                refine s_pure h (ru_val (.bool true) (ru_eql (h.ev rfl) (h.ev rfl)) (congrArg Value.bool c1)) rfl ?_; intro f h
                refine s_pure h (ru_assign (h.ev rfl)) rfl ?_; intro f h
                refine s_nil ?_
                refine hK29 _ _ ?_
                refine wpIn_cond_true (h.ev rfl) ?_
                refine c_seq fun K38 hK38 => ?_
                cases hf : (decide (ks.length = 64) : Bool)
                · skip
                  refine c_region ?_
                  refine s_load_row 4 h s row24 rfl rfl (rfl) rfl ?_; intro f h
                  refine s_pure h (ru_move (h.ev rfl)) rfl ?_; intro f h
                  refine s_call h s fnc15 (twice_any (mlO ps k ks) vm (p9 : Int) _ (RdZ.of_own (s.getSl 1 rfl)) (by omega)) rfl rfl ?_; rintro f w1 v165 ⟨vy, rfl, hvy⟩ hE h sq
                  obtain ⟨tO1, tO2⟩ := twO_ok (ps := ps) hp1 hpk hf
                  rw [tO1, tO2] at h
                  rw [tO2] at hvy
                  replace s := s.sl_new hE hvy
                  refine s_pure h (ru_move (h.ev rfl)) rfl ?_; intro f h
                  refine s_pure h (ru_extract (h.ev rfl) rfl) rfl ?_; intro f h
                  refine s_pure h (ru_extract (h.ev rfl) rfl) rfl ?_; intro f h
                  refine s_store_row 1 h s row24 rfl rfl rfl (rfl) (rfl) (mlArr_ones _ _ (own_one (s.getSl 0 rfl))) ?_; intro w1 s
                  refine s_pure h (ru_assign (h.ev rfl)) rfl ?_; intro f h
                  refine s_nil ?_
                  refine hK38 _ _ ?_
                  refine c_seq fun K39 hK39 => ?_
                  refine c_region ?_
                  refine s_pure h (ru_move (h.ev rfl)) rfl ?_; intro f h
                  refine s_pure h (ru_val (.bool true) (ru_eql (h.ev rfl) (h.ev rfl)) (congrArg Value.bool (decide_eq_true (rfl)))) rfl ?_; intro f h
                  refine s_nil ?_
                  refine hK39 _ _ ?_
                  refine wpIn_cond_true (h.ev rfl) ?_
                  refine c_region ?_
                  refine s_pure h (ru_move (h.ev rfl)) rfl ?_; intro f h
                  refine s_pure h (ru_move (h.ev rfl)) rfl ?_; intro f h
                  refine s_mplook (X := .int .i64 ((ks.count (ks.getD p9 0) : Nat) : Int)) 3 (ks.getD p9 0) h s Try.underlying43 Try.underlying3 zero3 rfl rfl rfl rfl (.inl ⟨hJ, rfl⟩) rfl ?_; intro f h
                  refine s_pure h (ru_add (h.ev rfl) (h.ev rfl) (by omega)) rfl ?_; intro f h
                  refine s_mpset 3 (ks.getD p9 0) h s Try.underlying43 Try.underlying3 rfl rfl rfl rfl rfl hJ ?_; intro w1 s
                  replace s := s.reobj 3 rfl (mp_congr (fun j hj => cV_snoc ks (ks.getD p9 0) j))
                  refine s_nil ?_
                  refine b_norm ?_
                  refine hK26 _ _ ?_
                  refine c_seq fun K40 hK40 => ?_
                  refine c_seq fun K41 hK41 => ?_
                  refine c_region ?_
                  refine s_pure h (ru_move (h.ev rfl)) rfl ?_; intro f h
                  refine s_pure h (ru_val (.bool false) (ru_neq (h.ev rfl) (h.ev rfl)) (congrArg Value.bool (decide_eq_false (fun h9 => h9 rfl)))) rfl ?_; intro f h
                  refine s_pure h (ru_move (h.ev rfl)) rfl ?_; intro f h
                  refine s_off (b := true) h rfl rfl rfl rfl ?_; intro f h
                  refine s_off (b := true) h rfl rfl rfl rfl ?_; intro f h
                  refine s_pure h (ru_pick_f (h.ev rfl) (h.ev rfl)) rfl ?_; intro f h
                  refine s_nil ?_
                  refine hK41 _ _ ?_
                  refine wpIn_cond_false (h.ev rfl) ?_
                  refine wpIn_skip ?_
                  refine hK40 _ _ ?_
                  refine c_seq fun K42 hK42 => ?_
                  refine c_region ?_
                  refine s_pure h (ru_move (h.ev rfl)) rfl ?_; intro f h
                  refine s_pure h (ru_val (.bool true) (ru_eql (h.ev rfl) (h.ev rfl)) (congrArg Value.bool (decide_eq_true (rfl)))) rfl ?_; intro f h
                  refine s_nil ?_
                  refine hK42 _ _ ?_
                  refine wpIn_cond_true (h.ev rfl) ?_
                  refine c_region ?_
                  refine s_load_row 1 h s row24 rfl rfl (rfl) rfl ?_; intro f h
                  refine s_store_row 5 h s row24 rfl rfl rfl (rfl) (rfl) (mlArr_ones _ _ (own_one (s.getSl 0 rfl))) ?_; intro w1 s
                  refine s_nil ?_
                  refine b_norm ?_
                  refine hK17 _ _ ?_
                  refine c_region ?_
                  refine s_pure h (ru_add (h.ev rfl) (h.ev rfl) (by omega)) rfl ?_; intro f h
                  refine s_pure h (ru_move (h.ev rfl)) rfl ?_; intro f h
                  refine s_nil ?_
                  refine t_norm ?_
                  exact ⟨_, by omega, ⟨i9 + 1, ks ++ [(ks.getD p9 0)], vy, h.only ⟨rfl, rfl, rfl, rfl, rfl, rfl, rfl, slot_int rfl (by omega), trivial⟩, St.as (s.pick _ (List.Sublist.cons_cons _ (List.Sublist.cons _ (List.Sublist.cons _ (List.Sublist.cons_cons _ (List.Sublist.cons_cons _ (List.Sublist.cons_cons _ (List.nil_sublist _)))))))) ⟨rfl, rfl, rfl, rfl, trivial⟩, rfl, by omega, ok_snoc hp1 hJ (by have := of_decide_eq_false hf; omega)⟩⟩
                · skip
                  refine c_region ?_
                  refine s_load_row 4 h s row24 rfl rfl (rfl) rfl ?_; intro f h
                  refine s_pure h (ru_move (h.ev rfl)) rfl ?_; intro f h
                  refine s_call h s fnc15 (twice_any (mlO ps k ks) vm (p9 : Int) _ (RdZ.of_own (s.getSl 1 rfl)) (by omega)) rfl rfl ?_; rintro f w1 v165 ⟨vy, rfl, hvy⟩ hE h sq
                  obtain ⟨tO1, tO2⟩ := twO_full (ps := ps) hp1 hpk hf
                  rw [tO1, tO2] at h
                  rw [tO2] at hvy
                  replace s := s.sl_new hE hvy
                  refine s_pure h (ru_move (h.ev rfl)) rfl ?_; intro f h
                  refine s_pure h (ru_extract (h.ev rfl) rfl) rfl ?_; intro f h
                  refine s_pure h (ru_extract (h.ev rfl) rfl) rfl ?_; intro f h
                  refine s_store_row 1 h s row24 rfl rfl rfl (rfl) (rfl) (mlArr_ones _ _ (own_one (s.getSl 0 rfl))) ?_; intro w1 s
                  refine s_pure h (ru_assign (h.ev rfl)) rfl ?_; intro f h
                  refine s_nil ?_
                  refine hK38 _ _ ?_
                  refine c_seq fun K43 hK43 => ?_
                  refine c_region ?_
                  refine s_pure h (ru_move (h.ev rfl)) rfl ?_; intro f h
                  refine s_pure h (ru_val (.bool false) (ru_eql (h.ev rfl) (h.ev rfl)) (congrArg Value.bool (decide_eq_false (by decide)))) rfl ?_; intro f h
                  refine s_nil ?_
                  refine hK43 _ _ ?_
                  refine wpIn_cond_false (h.ev rfl) ?_
                  refine wpIn_skip ?_
                  refine b_norm ?_
                  refine hK26 _ _ ?_
                  refine c_seq fun K44 hK44 => ?_
                  refine c_seq fun K45 hK45 => ?_
                  refine c_region ?_
                  refine s_pure h (ru_move (h.ev rfl)) rfl ?_; intro f h
                  refine s_pure h (ru_val (.bool true) (ru_neq (h.ev rfl) (h.ev rfl)) (congrArg Value.bool (decide_eq_true (by decide)))) rfl ?_; intro f h
                  refine s_pure h (ru_move (h.ev rfl)) rfl ?_; intro f h
                  refine s_on h rfl rfl rfl ?_
                  refine s_pure h (ru_move (h.ev rfl)) rfl ?_; intro f h
                  refine s_on h rfl rfl rfl ?_
                  refine s_pure h (ru_val (.bool false) (ru_neq (h.ev rfl) (h.ev rfl)) (congrArg Value.bool (decide_eq_false (fun h9 => h9 rfl)))) rfl ?_; intro f h
                  refine s_pure h (ru_pick_t (h.ev rfl) (h.ev rfl)) rfl ?_; intro f h
                  refine s_nil ?_
                  refine hK45 _ _ ?_
                  refine wpIn_cond_false (h.ev rfl) ?_
                  refine wpIn_skip ?_
                  refine hK44 _ _ ?_
                  refine c_seq fun K46 hK46 => ?_
                  refine c_region ?_
                  refine s_pure h (ru_move (h.ev rfl)) rfl ?_; intro f h
                  refine s_pure h (ru_val (.bool false) (ru_eql (h.ev rfl) (h.ev rfl)) (congrArg Value.bool (decide_eq_false (by decide)))) rfl ?_; intro f h
                  refine s_nil ?_
                  refine hK46 _ _ ?_
                  refine wpIn_cond_false (h.ev rfl) ?_
                  refine wpIn_skip ?_
                  refine b_norm ?_
                  refine hK17 _ _ ?_
                  refine c_region ?_
                  refine s_pure h (ru_add (h.ev rfl) (h.ev rfl) (by omega)) rfl ?_; intro f h
                  refine s_pure h (ru_move (h.ev rfl)) rfl ?_; intro f h
                  refine s_nil ?_
                  refine t_norm ?_
                  exact ⟨_, by omega, ⟨i9 + 1, ks, vm, h.only ⟨rfl, rfl, rfl, rfl, rfl, rfl, rfl, slot_int rfl (by omega), trivial⟩, St.as (s.pick _ (List.sublist_append_right [_, _] _)) ⟨rfl, rfl, rfl, rfl, trivial⟩, rfl, by omega, hp1⟩⟩
            · skip
              refine c_region ?_
              refine s_pure h (ru_val (.bool true) (ru_eql (h.ev rfl) (h.ev rfl)) (congrArg Value.bool c0)) rfl ?_; intro f h
              refine s_pure h (ru_assign (h.ev rfl)) rfl ?_; intro f h
              refine s_nil ?_
              refine hK28 _ _ ?_
              refine wpIn_cond_true (h.ev rfl) ?_
              refine c_seq fun K47 hK47 => ?_
              refine c_region ?_
              refine s_alloc (ltArr zLt) h s zero35 rfl rfl ?_; intro f w1 b20 h s
              refine s_nil ?_
              refine hK47 _ _ ?_
              refine c_seq fun K48 hK48 => ?_
              refine c_region ?_
              refine s_load_row 5 h s row24 rfl rfl (rfl) rfl ?_; intro f h
              refine s_pure h (ru_move (h.ev rfl)) rfl ?_; intro f h
              refine s_call h s fnc14 (take_any (mlO ps k ks) vm (p9 : Int) _ (RdZ.of_own (s.getSl 2 rfl)) (by omega)) rfl rfl ?_; rintro f w1 v113 ⟨vy, rfl, hvy⟩ hE h sq
              rw [aO3, aO2, aO1] at h
              rw [aO3] at hvy
              replace s := s.sl_new hE hvy
              refine s_pure h (ru_move (h.ev rfl)) rfl ?_; intro f h
              refine s_pure h (ru_extract (h.ev rfl) rfl) rfl ?_; intro f h
              refine s_pure h (ru_extract (h.ev rfl) rfl) rfl ?_; intro f h
              refine s_pure h (ru_extract (h.ev rfl) rfl) rfl ?_; intro f h
              refine s_store_row 2 h s row24 rfl rfl rfl (rfl) (rfl) (mlArr_ones _ _ (own_one (s.getSl 0 rfl))) ?_; intro w1 s
              refine s_store_row 1 h s row35 rfl rfl rfl (rfl) (rfl) (ltArr_ones _) ?_; intro w1 s
              refine s_pure h (ru_assign (h.ev rfl)) rfl ?_; intro f h
              refine s_nil ?_
              refine hK48 _ _ ?_
              refine c_seq fun K49 hK49 => ?_
              refine c_seq fun K50 hK50 => ?_
              refine c_region ?_
              refine s_pure h (ru_move (h.ev rfl)) rfl ?_; intro f h
              refine s_pure h (ru_val (.bool false) (ru_neq (h.ev rfl) (h.ev rfl)) (congrArg Value.bool (decide_eq_false (fun h9 => h9 rfl)))) rfl ?_; intro f h
              refine s_pure h (ru_move (h.ev rfl)) rfl ?_; intro f h
              refine s_on h rfl rfl rfl ?_
              refine s_pure h (ru_field fld35_0 (h.ev rfl)) rfl ?_; intro f h
              refine s_on h rfl rfl rfl ?_
              refine s_load_at1 (cell_of_has (Has.of_own s 1 rfl) 0 (rfl)) h one3 rfl rfl ?_; intro f h
              refine s_on h rfl rfl rfl ?_
              refine s_pure h (ru_move (h.ev rfl)) rfl ?_; intro f h
              refine s_on h rfl rfl rfl ?_
              refine s_pure h (ru_val (.bool false) (ru_neq (h.ev rfl) (h.ev rfl)) (congrArg Value.bool (decide_eq_false (fun h9 => h9 rfl)))) rfl ?_; intro f h
              refine s_pure h (ru_pick_f (h.ev rfl) (h.ev rfl)) rfl ?_; intro f h
              refine s_pure h (ru_move (h.ev rfl)) rfl ?_; intro f h
              refine s_on h rfl rfl rfl ?_
              refine s_pure h (ru_field fld35_3 (h.ev rfl)) rfl ?_; intro f h
              refine s_on h rfl rfl rfl ?_
              refine s_load_at1 (cell_of_has (Has.of_own s 1 rfl) 3 (rfl)) h one9 rfl rfl ?_; intro f h
              refine s_on h rfl rfl rfl ?_
              refine s_pure h (ru_move (h.ev rfl)) rfl ?_; intro f h
              refine s_on h rfl rfl rfl ?_
              refine s_pure h (ru_move (h.ev rfl)) rfl ?_; intro f h
              refine s_on h rfl rfl rfl ?_
              refine s_mplook (X := .string (dO ps (ks.getD p9 0))) 5 (ks.getD p9 0) h s Try.underlying42 Try.underlying3 zero9 rfl rfl rfl rfl (.inl ⟨hJ, rfl⟩) rfl ?_; intro f h
              refine s_on h rfl rfl rfl ?_
              refine s_pure h (ru_val (.bool false) (ru_neq_str (h.ev rfl) (h.ev rfl)) (congrArg Value.bool (decide_eq_false (fun h9 => h9 rfl)))) rfl ?_; intro f h
              refine s_pure h (ru_pick_f (h.ev rfl) (h.ev rfl)) rfl ?_; intro f h
              refine s_pure h (ru_move (h.ev rfl)) rfl ?_; intro f h
              refine s_on h rfl rfl rfl ?_
              refine s_pure h (ru_field fld35_1 (h.ev rfl)) rfl ?_; intro f h
              refine s_on h rfl rfl rfl ?_
              refine s_load_at1 (cell_of_has (Has.of_own s 1 rfl) 1 (rfl)) h one3 rfl rfl ?_; intro f h
              refine s_on h rfl rfl rfl ?_
              refine s_pure h (ru_move (h.ev rfl)) rfl ?_; intro f h
              refine s_on h rfl rfl rfl ?_
              refine s_pure h (ru_sub (h.ev rfl) (h.ev rfl) (by omega)) rfl ?_; intro f h
              refine s_on h rfl rfl rfl ?_
              refine s_pure h (ru_val (.int .i64 (((ks.getD p9 0) : Nat) : Int)) (ru_rem (h.ev rfl) (h.ev rfl) (by omega)) (congrArg (Value.int .i64) (by omega))) rfl ?_; intro f h
              refine s_on h rfl rfl rfl ?_
              refine s_pure h (ru_val (.bool false) (ru_neq (h.ev rfl) (h.ev rfl)) (congrArg Value.bool (decide_eq_false (fun h9 => h9 rfl)))) rfl ?_; intro f h
              refine s_pure h (ru_pick_f (h.ev rfl) (h.ev rfl)) rfl ?_; intro f h
              refine s_pure h (ru_move (h.ev rfl)) rfl ?_; intro f h
              refine s_on h rfl rfl rfl ?_
              refine s_pure h (ru_field fld35_2 (h.ev rfl)) rfl ?_; intro f h
              refine s_on h rfl rfl rfl ?_
              refine s_load_at1 (cell_of_has (Has.of_own s 1 rfl) 2 (rfl)) h one3 rfl rfl ?_; intro f h
              refine s_on h rfl rfl rfl ?_
              refine s_pure h (ru_move (h.ev rfl)) rfl ?_; intro f h
              refine s_on h rfl rfl rfl ?_
              refine s_pure h (ru_sub (h.ev rfl) (h.ev rfl) (by omega)) rfl ?_; intro f h
              refine s_on h rfl rfl rfl ?_
              refine s_pure h (ru_val (.int .i64 (((ks.getD p9 0) : Nat) : Int)) (ru_rem (h.ev rfl) (h.ev rfl) (by omega)) (congrArg (Value.int .i64) (by omega))) rfl ?_; intro f h
              refine s_on h rfl rfl rfl ?_
              refine s_pure h (ru_sub (h.ev rfl) (h.ev rfl) (by omega)) rfl ?_; intro f h
              refine s_on h rfl rfl rfl ?_
              refine s_pure h (ru_val (.bool false) (ru_neq (h.ev rfl) (h.ev rfl)) (congrArg Value.bool (decide_eq_false (fun h9 => h9 rfl)))) rfl ?_; intro f h
              refine s_pure h (ru_pick_f (h.ev rfl) (h.ev rfl)) rfl ?_; intro f h
              refine s_pure h (ru_move (h.ev rfl)) rfl ?_; intro f h
              refine s_on h rfl rfl rfl ?_
              refine s_pure h (ru_move (h.ev rfl)) rfl ?_; intro f h
              refine s_on h rfl rfl rfl ?_
              refine s_pure h (ru_move (h.ev rfl)) rfl ?_; intro f h
              refine s_on h rfl rfl rfl ?_
              refine s_mplook (X := .int .i64 ((ks.count (ks.getD p9 0) : Nat) : Int)) 4 (ks.getD p9 0) h s Try.underlying43 Try.underlying3 zero3 rfl rfl rfl rfl (.inl ⟨hJ, rfl⟩) rfl ?_; intro f h
              refine s_on h rfl rfl rfl ?_
              refine s_pure h (ru_val (.bool false) (ru_lss (h.ev rfl) (h.ev rfl)) (congrArg Value.bool (decide_eq_false (by omega)))) rfl ?_; intro f h
              refine s_pure h (ru_pick_f (h.ev rfl) (h.ev rfl)) rfl ?_; intro f h
              refine s_nil ?_
              refine hK50 _ _ ?_
              refine wpIn_cond_false (h.ev rfl) ?_
              refine wpIn_skip ?_
              refine hK49 _ _ ?_
              refine c_region ?_
              refine s_pure h (ru_move (h.ev rfl)) rfl ?_; intro f h
              refine s_pure h (ru_move (h.ev rfl)) rfl ?_; intro f h
              refine s_mplook (X := .int .i64 ((ks.count (ks.getD p9 0) : Nat) : Int)) 4 (ks.getD p9 0) h s Try.underlying43 Try.underlying3 zero3 rfl rfl rfl rfl (.inl ⟨hJ, rfl⟩) rfl ?_; intro f h
              refine s_pure h (ru_sub (h.ev rfl) (h.ev rfl) (by omega)) rfl ?_; intro f h
              refine s_mpset 4 (ks.getD p9 0) h s Try.underlying43 Try.underlying3 rfl rfl rfl rfl rfl hJ ?_; intro w1 s
              replace s := s.reobj 4 rfl (mp_congr (fun j hj => cV_erase hpk j))
              refine s_nil ?_
              refine b_norm ?_
              refine hK26 _ _ ?_
              refine c_seq fun K51 hK51 => ?_
              refine c_seq fun K52 hK52 => ?_
              refine c_region ?_
              refine s_pure h (ru_move (h.ev rfl)) rfl ?_; intro f h
              refine s_pure h (ru_val (.bool false) (ru_neq (h.ev rfl) (h.ev rfl)) (congrArg Value.bool (decide_eq_false (fun h9 => h9 rfl)))) rfl ?_; intro f h
              refine s_pure h (ru_move (h.ev rfl)) rfl ?_; intro f h
              refine s_off (b := true) h rfl rfl rfl rfl ?_; intro f h
              refine s_off (b := true) h rfl rfl rfl rfl ?_; intro f h
              refine s_pure h (ru_pick_f (h.ev rfl) (h.ev rfl)) rfl ?_; intro f h
              refine s_nil ?_
              refine hK52 _ _ ?_
              refine wpIn_cond_false (h.ev rfl) ?_
              refine wpIn_skip ?_
              refine hK51 _ _ ?_
              refine c_seq fun K53 hK53 => ?_
              refine c_region ?_
              refine s_pure h (ru_move (h.ev rfl)) rfl ?_; intro f h
              refine s_pure h (ru_val (.bool true) (ru_eql (h.ev rfl) (h.ev rfl)) (congrArg Value.bool (decide_eq_true (rfl)))) rfl ?_; intro f h
              refine s_nil ?_
              refine hK53 _ _ ?_
              refine wpIn_cond_true (h.ev rfl) ?_
              refine c_region ?_
              refine s_load_row 2 h s row24 rfl rfl (rfl) rfl ?_; intro f h
              refine s_store_row 6 h s row24 rfl rfl rfl (rfl) (rfl) (mlArr_ones _ _ (own_one (s.getSl 0 rfl))) ?_; intro w1 s
              refine s_nil ?_
              refine b_norm ?_
              refine hK17 _ _ ?_
              refine c_region ?_
              refine s_pure h (ru_add (h.ev rfl) (h.ev rfl) (by omega)) rfl ?_; intro f h
              refine s_pure h (ru_move (h.ev rfl)) rfl ?_; intro f h
              refine s_nil ?_
              refine t_norm ?_
              exact ⟨_, by omega, ⟨i9 + 1, ks.eraseIdx p9, vy, h.only ⟨rfl, rfl, rfl, rfl, rfl, rfl, rfl, slot_int rfl (by omega), trivial⟩, St.as (s.pick _ (List.Sublist.cons_cons _ (List.Sublist.cons _ (List.Sublist.cons _ (List.Sublist.cons _ (List.Sublist.cons_cons _ (List.Sublist.cons_cons _ (List.Sublist.cons_cons _ (List.nil_sublist _))))))))) ⟨rfl, rfl, rfl, rfl, trivial⟩, rfl, by omega, ok_erase hp1 p9⟩⟩
          · skip
            refine c_region ?_
            refine s_pure h (ru_move (h.ev rfl)) rfl ?_; intro f h
            refine s_pure h (ru_val (.bool false) (ru_geq (h.ev rfl) (h.ev rfl)) (congrArg Value.bool (decide_eq_false (by have := of_decide_eq_false h60; omega)))) rfl ?_; intro f h
            refine s_pure h (ru_move (h.ev rfl)) rfl ?_; intro f h
            refine s_on h rfl rfl rfl ?_
            refine s_pure h (ru_move (h.ev rfl)) rfl ?_; intro f h
            refine s_on h rfl rfl rfl ?_
            refine s_pure h (ru_val (.bool true) (ru_eql (h.ev rfl) (h.ev rfl)) (congrArg Value.bool (decide_eq_true (by have := of_decide_eq_true hk0; omega)))) rfl ?_; intro f h
            refine s_pure h (ru_pick_f (h.ev rfl) (h.ev rfl)) rfl ?_; intro f h
            refine s_nil ?_
            refine hK21 _ _ ?_
            refine wpIn_cond_true (h.ev rfl) ?_
            refine wpIn_exit ?_
            refine t_exit ?_
            refine b_exit_other rfl ?_
            refine t_exit ?_
            refine t_exit ?_
            refine b_exit ?_
            refine hK13 _ _ ?_
            refine c_seq fun K54 hK54 => ?_
            refine c_seq fun K55 hK55 => ?_
            refine c_region ?_
            have hO9 := hp1
            have hml := mlO_len ps k ks
            have hO64 := hp1.2.1
            refine s_pure h (ru_field fld24_0 (h.ev rfl)) rfl ?_; intro f h
            refine s_load_at1 (cell_of_has (Has.of_own s 3 rfl) 0 (rfl)) h one22 rfl rfl ?_; intro f h
            refine s_len_sl 0 h s Try.underlying22 rfl rfl rfl ?_; intro f h
            refine s_pure h (ru_move (h.ev rfl)) rfl ?_; intro f h
            refine s_nil ?_
            refine hK55 _ _ ?_
            refine wpIn_block ?_
            refine wpIn_loop_ghost (fun nn aa ww => ∃ i3 : Nat, Sl 222 aa [(0, v1), (1, v2), (5, .pointer (some ⟨b5, 0, none⟩)), (76, vm), (197, vm), (6, .map (some b25)), (7, .map (some b26)), (198, .int .i64 ((mlO ps k ks).l.length : Int)), (199, .int .i64 (i3 : Int))] ∧ St w [.sl vm 35 4 (mlO ps k ks).l.length (ltCells (mlO ps k ks).l), .blk b26 (mpO k (rV ks i3)), .blk b25 (mpO k (fun i => .string (dO ps i))), .blk b5 (.cells (mlArr (mlO ps k ks) vm) 24)] ww ∧ nn = ks.length - i3 ∧ i3 ≤ ks.length) (ks.length - (0)) ⟨0, h.only ⟨rfl, rfl, rfl, rfl, rfl, rfl, rfl, rfl, slot_int rfl (by omega), trivial⟩, s.as ⟨rfl, mp_blk (fun j hj => rV_zero ks j), rfl, rfl, trivial⟩, rfl, Nat.zero_le _⟩ ?_
            rintro _ f w1 ⟨i3, h, s, hnn, hp0⟩
            refine c_seq fun K56 hK56 => ?_
            refine c_region ?_
            refine s_pure h (ru_lss (h.ev rfl) (h.ev rfl)) rfl ?_; intro f h
            refine s_nil ?_
            refine hK56 _ _ ?_
            refine c_seq fun K57 hK57 => ?_
            refine c_cond h rfl (fun hc => ?_) (fun hc => ?_)
            · replace hc := of_decide_eq_true hc
              refine wpIn_skip ?_
              refine hK57 _ _ ?_
              refine c_seq fun K58 hK58 => ?_
              refine wpIn_block ?_
              refine c_seq fun K59 hK59 => ?_
              refine c_region ?_
              have hi3 : i3 < ks.length := by omega
              have hJ3 := okO_get hO9 hi3
              have hc1 := count_le ks (ks.getD i3 0)
              have hc2 := take_count ks i3 (ks.getD i3 0)
              have hO64 := hO9.2.1
              refine s_pure h (ru_ixz (RdZ.of_own (s.getSl 0 rfl)) (i3) Try.underlying22 szo35 (h.ev rfl) (h.ev rfl) (by omega) (by omega)) rfl ?_; intro f h
              refine s_load_at ((RdZ.of_own (s.getSl 0 rfl)).el (i3) (by omega) (by decide) (D := ltArr (ltO ps (ks.getD i3 0))) (el_O hi3)) h row35 rfl (rfl) rfl ?_; intro f h
              refine s_alloc (ltArr zLt) h s zero35 rfl rfl ?_; intro f w1 b22 h s
              refine s_store_row 0 h s row35 rfl rfl rfl (rfl) (rfl) (ltArr_ones _) ?_; intro w1 s
              refine s_nil ?_
              refine hK59 _ _ ?_
              refine c_region ?_
              refine s_pure h (ru_move (h.ev rfl)) rfl ?_; intro f h
              refine s_pure h (ru_field fld35_0 (h.ev rfl)) rfl ?_; intro f h
              refine s_load_at1 (cell_of_has (Has.of_own s 0 rfl) 0 (rfl)) h one3 rfl rfl ?_; intro f h
              refine s_mplook (X := .int .i64 (((ks.count (ks.getD i3 0) : Nat) : Int) - (((ks.take i3).count (ks.getD i3 0) : Nat) : Int))) 2 (ks.getD i3 0) h s Try.underlying43 Try.underlying3 zero3 rfl rfl rfl rfl (.inl ⟨hJ3, rfl⟩) rfl ?_; intro f h
              refine s_pure h (ru_sub (h.ev rfl) (h.ev rfl) (by omega)) rfl ?_; intro f h
              refine s_mpset 2 (ks.getD i3 0) h s Try.underlying43 Try.underlying3 rfl rfl rfl rfl rfl hJ3 ?_; intro w1 s
              replace s := s.reobj 2 rfl (mp_congr (fun j hj => rV_next hi3 j))
              refine s_nil ?_
              refine b_norm ?_
              refine hK58 _ _ ?_
              refine c_region ?_
              refine s_pure h (ru_add (h.ev rfl) (h.ev rfl) (by omega)) rfl ?_; intro f h
              refine s_pure h (ru_move (h.ev rfl)) rfl ?_; intro f h
              refine s_nil ?_
              refine t_norm ?_
              exact ⟨_, by omega, ⟨i3 + 1, h.only ⟨rfl, rfl, rfl, rfl, rfl, rfl, rfl, rfl, slot_int rfl (by omega), trivial⟩, St.as (s.pick _ (List.sublist_append_right [_] _)) ⟨rfl, rfl, rfl, rfl, trivial⟩, rfl, by omega⟩⟩
            · replace hc := of_decide_eq_false hc
              refine wpIn_exit ?_
              refine t_exit ?_
              refine t_exit ?_
              refine b_exit ?_
              refine hK54 _ _ ?_
              refine c_seq fun K60 hK60 => ?_
              refine c_seq fun K61 hK61 => ?_
              refine c_region ?_
              refine s_pure h (ru_move (h.ev rfl)) rfl ?_; intro f h
              obtain rfl : i3 = ks.length := by omega
              replace s := s.reobj (o' := mpO k (fun _ => .int .i64 0)) 1 rfl (mp_congr (fun j hj => rV_end ks j))
              refine s_range 1 h s Try.underlying43 rfl rfl rfl ?_; intro f w1 bi h s
              refine s_nil ?_
              refine hK61 _ _ ?_
              refine wpIn_block ?_
              refine wpIn_loop_ghost (fun nn aa ww => ∃ sn : Array Nat, Sl 222 aa [(0, v1), (1, v2), (5, .pointer (some ⟨b5, 0, none⟩)), (76, vm), (197, vm), (210, .pointer (some ⟨bi, 0, none⟩))] ∧ St w [.blk bi (.mapIter (some b26) k sn k), .sl vm 35 4 (mlO ps k ks).l.length (ltCells (mlO ps k ks).l), .blk b26 (mpO k (fun _ => .int .i64 0)), .blk b25 (mpO k (fun i => .string (dO ps i))), .blk b5 (.cells (mlArr (mlO ps k ks) vm) 24)] ww ∧ nn = (leftOf (mpE k (fun _ => Value.int .i64 0)) sn).size) ((leftOf (mpE k (fun _ => Value.int .i64 0)) (#[])).size) ⟨#[], h.only ⟨rfl, rfl, rfl, rfl, rfl, rfl, trivial⟩, s.as ⟨rfl, rfl, rfl, rfl, rfl, trivial⟩, rfl⟩ ?_
              rintro _ f w1 ⟨sn, h, s, hnn⟩
              refine c_seq fun K62 hK62 => ?_
              refine c_region ?_
              refine s_next 0 2 h s rfl rfl rfl rfl ?_; intro f w1 ok9 k9 v9 sn1 hnx h s
              refine s_pure h (ru_extract (h.ev rfl) (nxV_0 _ _ _)) rfl ?_; intro f h
              refine s_nil ?_
              refine hK62 _ _ ?_
              refine c_seq fun K63 hK63 => ?_
              refine c_cond h rfl (fun hc => ?_) (fun hc => ?_)
              · obtain ⟨q9, hq9, rfl, hlt⟩ := hnx hc
                refine wpIn_skip ?_
                refine hK63 _ _ ?_
                refine wpIn_block ?_
                refine c_seq fun K64 hK64 => ?_
                refine c_region ?_
                refine s_entry 0 2 h s rfl rfl rfl hq9 rfl ?_; intro f h
                refine s_pure h (ru_extract (h.ev rfl) rfl) rfl ?_; intro f h
                refine s_pure h (ru_assign (h.ev rfl)) rfl ?_; intro f h
                refine s_nil ?_
                refine hK64 _ _ ?_
                refine c_seq fun K65 hK65 => ?_
                refine c_region ?_
                refine s_pure h (ru_move (h.ev rfl)) rfl ?_; intro f h
                refine s_pure h (ru_val (.bool false) (ru_neq (h.ev rfl) (h.ev rfl)) (congrArg Value.bool (decide_eq_false (fun h9 => h9 rfl)))) rfl ?_; intro f h
                refine s_nil ?_
                refine hK65 _ _ ?_
                refine wpIn_cond_false (h.ev rfl) ?_
                refine wpIn_skip ?_
                refine b_norm ?_
                refine t_norm ?_
                exact ⟨_, by omega, ⟨sn.push q9, h.only ⟨rfl, rfl, rfl, rfl, rfl, rfl, trivial⟩, St.as s ⟨rfl, rfl, rfl, rfl, rfl, trivial⟩, rfl⟩⟩
              · refine wpIn_exit ?_
                refine t_exit ?_
                refine t_exit ?_
                refine b_exit ?_
                refine hK60 _ _ ?_
                refine c_seq fun K66 hK66 => ?_
                refine c_region ?_
                refine s_call h s fnc12 (alive_any _) rfl rfl ?_; intro f w1 v9 hT hE h s; obtain rfl := hT
                refine s_pure h (ru_move (h.ev rfl)) rfl ?_; intro f h
                refine s_on h rfl rfl rfl ?_
                refine s_load_row 4 h s row24 rfl rfl (rfl) rfl ?_; intro f h
                refine s_on h rfl rfl rfl ?_
                refine s_call h s fnc10 (ret_val (.bool true) (mright_any (mlO ps k ks) vm _ (RdZ.of_own (s.getSl 1 rfl)) (by omega)) (congrArg Value.bool (rightO hO9))) rfl rfl ?_; intro f w1 v9 hT hE h s; obtain rfl := hT
                refine s_pure h (ru_pick_t (h.ev rfl) (h.ev rfl)) rfl ?_; intro f h
                refine s_pure h (ru_assign (h.ev rfl)) rfl ?_; intro f h
                refine s_nil ?_
                refine hK66 _ _ ?_
                refine wpIn_ret ?_
                exact e_tmp rfl h s rfl (rfl)
        · skip
          refine c_region ?_
          refine s_pure h (ru_move (h.ev rfl)) rfl ?_; intro f h
          refine s_pure h (ru_val (.bool true) (ru_geq (h.ev rfl) (h.ev rfl)) (congrArg Value.bool (decide_eq_true (by have := of_decide_eq_true h60; omega)))) rfl ?_; intro f h
          refine s_pure h (ru_move (h.ev rfl)) rfl ?_; intro f h
          refine s_off (b := false) h rfl rfl rfl rfl ?_; intro f h
          refine s_off (b := false) h rfl rfl rfl rfl ?_; intro f h
          refine s_pure h (ru_pick_t (h.ev rfl) (h.ev rfl)) rfl ?_; intro f h
          refine s_nil ?_
          refine hK21 _ _ ?_
          refine wpIn_cond_true (h.ev rfl) ?_
          refine wpIn_exit ?_
          refine t_exit ?_
          refine b_exit_other rfl ?_
          refine t_exit ?_
          refine t_exit ?_
          refine b_exit ?_
          refine hK13 _ _ ?_
          refine c_seq fun K67 hK67 => ?_
          refine c_seq fun K68 hK68 => ?_
          refine c_region ?_
          have hO9 := hp1
          have hml := mlO_len ps k ks
          have hO64 := hp1.2.1
          refine s_pure h (ru_field fld24_0 (h.ev rfl)) rfl ?_; intro f h
          refine s_load_at1 (cell_of_has (Has.of_own s 3 rfl) 0 (rfl)) h one22 rfl rfl ?_; intro f h
          refine s_len_sl 0 h s Try.underlying22 rfl rfl rfl ?_; intro f h
          refine s_pure h (ru_move (h.ev rfl)) rfl ?_; intro f h
          refine s_nil ?_
          refine hK68 _ _ ?_
          refine wpIn_block ?_
          refine wpIn_loop_ghost (fun nn aa ww => ∃ i3 : Nat, Sl 222 aa [(0, v1), (1, v2), (5, .pointer (some ⟨b5, 0, none⟩)), (76, vm), (197, vm), (6, .map (some b25)), (7, .map (some b26)), (198, .int .i64 ((mlO ps k ks).l.length : Int)), (199, .int .i64 (i3 : Int))] ∧ St w [.sl vm 35 4 (mlO ps k ks).l.length (ltCells (mlO ps k ks).l), .blk b26 (mpO k (rV ks i3)), .blk b25 (mpO k (fun i => .string (dO ps i))), .blk b5 (.cells (mlArr (mlO ps k ks) vm) 24)] ww ∧ nn = ks.length - i3 ∧ i3 ≤ ks.length) (ks.length - (0)) ⟨0, h.only ⟨rfl, rfl, rfl, rfl, rfl, rfl, rfl, rfl, slot_int rfl (by omega), trivial⟩, s.as ⟨rfl, mp_blk (fun j hj => rV_zero ks j), rfl, rfl, trivial⟩, rfl, Nat.zero_le _⟩ ?_
          rintro _ f w1 ⟨i3, h, s, hnn, hp0⟩
          refine c_seq fun K69 hK69 => ?_
          refine c_region ?_
          refine s_pure h (ru_lss (h.ev rfl) (h.ev rfl)) rfl ?_; intro f h
          refine s_nil ?_
          refine hK69 _ _ ?_
          refine c_seq fun K70 hK70 => ?_
          refine c_cond h rfl (fun hc => ?_) (fun hc => ?_)
          · replace hc := of_decide_eq_true hc
            refine wpIn_skip ?_
            refine hK70 _ _ ?_
            refine c_seq fun K71 hK71 => ?_
            refine wpIn_block ?_
            refine c_seq fun K72 hK72 => ?_
            refine c_region ?_
            have hi3 : i3 < ks.length := by omega
            have hJ3 := okO_get hO9 hi3
            have hc1 := count_le ks (ks.getD i3 0)
            have hc2 := take_count ks i3 (ks.getD i3 0)
            have hO64 := hO9.2.1
            refine s_pure h (ru_ixz (RdZ.of_own (s.getSl 0 rfl)) (i3) Try.underlying22 szo35 (h.ev rfl) (h.ev rfl) (by omega) (by omega)) rfl ?_; intro f h
            refine s_load_at ((RdZ.of_own (s.getSl 0 rfl)).el (i3) (by omega) (by decide) (D := ltArr (ltO ps (ks.getD i3 0))) (el_O hi3)) h row35 rfl (rfl) rfl ?_; intro f h
            refine s_alloc (ltArr zLt) h s zero35 rfl rfl ?_; intro f w1 b22 h s
            refine s_store_row 0 h s row35 rfl rfl rfl (rfl) (rfl) (ltArr_ones _) ?_; intro w1 s
            refine s_nil ?_
            refine hK72 _ _ ?_
            refine c_region ?_
            refine s_pure h (ru_move (h.ev rfl)) rfl ?_; intro f h
            refine s_pure h (ru_field fld35_0 (h.ev rfl)) rfl ?_; intro f h
            refine s_load_at1 (cell_of_has (Has.of_own s 0 rfl) 0 (rfl)) h one3 rfl rfl ?_; intro f h
            refine s_mplook (X := .int .i64 (((ks.count (ks.getD i3 0) : Nat) : Int) - (((ks.take i3).count (ks.getD i3 0) : Nat) : Int))) 2 (ks.getD i3 0) h s Try.underlying43 Try.underlying3 zero3 rfl rfl rfl rfl (.inl ⟨hJ3, rfl⟩) rfl ?_; intro f h
            refine s_pure h (ru_sub (h.ev rfl) (h.ev rfl) (by omega)) rfl ?_; intro f h
            refine s_mpset 2 (ks.getD i3 0) h s Try.underlying43 Try.underlying3 rfl rfl rfl rfl rfl hJ3 ?_; intro w1 s
            replace s := s.reobj 2 rfl (mp_congr (fun j hj => rV_next hi3 j))
            refine s_nil ?_
            refine b_norm ?_
            refine hK71 _ _ ?_
            refine c_region ?_
            refine s_pure h (ru_add (h.ev rfl) (h.ev rfl) (by omega)) rfl ?_; intro f h
            refine s_pure h (ru_move (h.ev rfl)) rfl ?_; intro f h
            refine s_nil ?_
            refine t_norm ?_
            exact ⟨_, by omega, ⟨i3 + 1, h.only ⟨rfl, rfl, rfl, rfl, rfl, rfl, rfl, rfl, slot_int rfl (by omega), trivial⟩, St.as (s.pick _ (List.sublist_append_right [_] _)) ⟨rfl, rfl, rfl, rfl, trivial⟩, rfl, by omega⟩⟩
          · replace hc := of_decide_eq_false hc
            refine wpIn_exit ?_
            refine t_exit ?_
            refine t_exit ?_
            refine b_exit ?_
            refine hK67 _ _ ?_
            refine c_seq fun K73 hK73 => ?_
            refine c_seq fun K74 hK74 => ?_
            refine c_region ?_
            refine s_pure h (ru_move (h.ev rfl)) rfl ?_; intro f h
            obtain rfl : i3 = ks.length := by omega
            replace s := s.reobj (o' := mpO k (fun _ => .int .i64 0)) 1 rfl (mp_congr (fun j hj => rV_end ks j))
            refine s_range 1 h s Try.underlying43 rfl rfl rfl ?_; intro f w1 bi h s
            refine s_nil ?_
            refine hK74 _ _ ?_
            refine wpIn_block ?_
            refine wpIn_loop_ghost (fun nn aa ww => ∃ sn : Array Nat, Sl 222 aa [(0, v1), (1, v2), (5, .pointer (some ⟨b5, 0, none⟩)), (76, vm), (197, vm), (210, .pointer (some ⟨bi, 0, none⟩))] ∧ St w [.blk bi (.mapIter (some b26) k sn k), .sl vm 35 4 (mlO ps k ks).l.length (ltCells (mlO ps k ks).l), .blk b26 (mpO k (fun _ => .int .i64 0)), .blk b25 (mpO k (fun i => .string (dO ps i))), .blk b5 (.cells (mlArr (mlO ps k ks) vm) 24)] ww ∧ nn = (leftOf (mpE k (fun _ => Value.int .i64 0)) sn).size) ((leftOf (mpE k (fun _ => Value.int .i64 0)) (#[])).size) ⟨#[], h.only ⟨rfl, rfl, rfl, rfl, rfl, rfl, trivial⟩, s.as ⟨rfl, rfl, rfl, rfl, rfl, trivial⟩, rfl⟩ ?_
            rintro _ f w1 ⟨sn, h, s, hnn⟩
            refine c_seq fun K75 hK75 => ?_
            refine c_region ?_
            refine s_next 0 2 h s rfl rfl rfl rfl ?_; intro f w1 ok9 k9 v9 sn1 hnx h s
            refine s_pure h (ru_extract (h.ev rfl) (nxV_0 _ _ _)) rfl ?_; intro f h
            refine s_nil ?_
            refine hK75 _ _ ?_
            refine c_seq fun K76 hK76 => ?_
            refine c_cond h rfl (fun hc => ?_) (fun hc => ?_)
            · obtain ⟨q9, hq9, rfl, hlt⟩ := hnx hc
              refine wpIn_skip ?_
              refine hK76 _ _ ?_
              refine wpIn_block ?_
              refine c_seq fun K77 hK77 => ?_
              refine c_region ?_
              refine s_entry 0 2 h s rfl rfl rfl hq9 rfl ?_; intro f h
              refine s_pure h (ru_extract (h.ev rfl) rfl) rfl ?_; intro f h
              refine s_pure h (ru_assign (h.ev rfl)) rfl ?_; intro f h
              refine s_nil ?_
              refine hK77 _ _ ?_
              refine c_seq fun K78 hK78 => ?_
              refine c_region ?_
              refine s_pure h (ru_move (h.ev rfl)) rfl ?_; intro f h
              refine s_pure h (ru_val (.bool false) (ru_neq (h.ev rfl) (h.ev rfl)) (congrArg Value.bool (decide_eq_false (fun h9 => h9 rfl)))) rfl ?_; intro f h
              refine s_nil ?_
              refine hK78 _ _ ?_
              refine wpIn_cond_false (h.ev rfl) ?_
              refine wpIn_skip ?_
              refine b_norm ?_
              refine t_norm ?_
              exact ⟨_, by omega, ⟨sn.push q9, h.only ⟨rfl, rfl, rfl, rfl, rfl, rfl, trivial⟩, St.as s ⟨rfl, rfl, rfl, rfl, rfl, trivial⟩, rfl⟩⟩
            · refine wpIn_exit ?_
              refine t_exit ?_
              refine t_exit ?_
              refine b_exit ?_
              refine hK73 _ _ ?_
              refine c_seq fun K79 hK79 => ?_
              refine c_region ?_
              refine s_call h s fnc12 (alive_any _) rfl rfl ?_; intro f w1 v9 hT hE h s; obtain rfl := hT
              refine s_pure h (ru_move (h.ev rfl)) rfl ?_; intro f h
              refine s_on h rfl rfl rfl ?_
              refine s_load_row 4 h s row24 rfl rfl (rfl) rfl ?_; intro f h
              refine s_on h rfl rfl rfl ?_
              refine s_call h s fnc10 (ret_val (.bool true) (mright_any (mlO ps k ks) vm _ (RdZ.of_own (s.getSl 1 rfl)) (by omega)) (congrArg Value.bool (rightO hO9))) rfl rfl ?_; intro f w1 v9 hT hE h s; obtain rfl := hT
              refine s_pure h (ru_pick_t (h.ev rfl) (h.ev rfl)) rfl ?_; intro f h
              refine s_pure h (ru_assign (h.ev rfl)) rfl ?_; intro f h
              refine s_nil ?_
              refine hK79 _ _ ?_
              refine wpIn_ret ?_
              exact e_tmp rfl h s rfl (rfl)
      · replace hc := of_decide_eq_false hc
        refine wpIn_exit ?_
        refine t_exit ?_
        refine t_exit ?_
        refine b_exit ?_
        refine hK13 _ _ ?_
        refine c_seq fun K80 hK80 => ?_
        refine c_seq fun K81 hK81 => ?_
        refine c_region ?_
        have hO9 := hp1
        have hml := mlO_len ps k ks
        have hO64 := hp1.2.1
        refine s_pure h (ru_field fld24_0 (h.ev rfl)) rfl ?_; intro f h
        refine s_load_at1 (cell_of_has (Has.of_own s 3 rfl) 0 (rfl)) h one22 rfl rfl ?_; intro f h
        refine s_len_sl 0 h s Try.underlying22 rfl rfl rfl ?_; intro f h
        refine s_pure h (ru_move (h.ev rfl)) rfl ?_; intro f h
        refine s_nil ?_
        refine hK81 _ _ ?_
        refine wpIn_block ?_
        refine wpIn_loop_ghost (fun nn aa ww => ∃ i3 : Nat, Sl 222 aa [(0, v1), (1, v2), (5, .pointer (some ⟨b5, 0, none⟩)), (197, vm), (6, .map (some b25)), (7, .map (some b26)), (198, .int .i64 ((mlO ps k ks).l.length : Int)), (199, .int .i64 (i3 : Int))] ∧ St w [.sl vm 35 4 (mlO ps k ks).l.length (ltCells (mlO ps k ks).l), .blk b26 (mpO k (rV ks i3)), .blk b25 (mpO k (fun i => .string (dO ps i))), .blk b5 (.cells (mlArr (mlO ps k ks) vm) 24)] ww ∧ nn = ks.length - i3 ∧ i3 ≤ ks.length) (ks.length - (0)) ⟨0, h.only ⟨rfl, rfl, rfl, rfl, rfl, rfl, rfl, slot_int rfl (by omega), trivial⟩, s.as ⟨rfl, mp_blk (fun j hj => rV_zero ks j), rfl, rfl, trivial⟩, rfl, Nat.zero_le _⟩ ?_
        rintro _ f w1 ⟨i3, h, s, hnn, hp0⟩
        refine c_seq fun K82 hK82 => ?_
        refine c_region ?_
        refine s_pure h (ru_lss (h.ev rfl) (h.ev rfl)) rfl ?_; intro f h
        refine s_nil ?_
        refine hK82 _ _ ?_
        refine c_seq fun K83 hK83 => ?_
        refine c_cond h rfl (fun hc => ?_) (fun hc => ?_)
        · replace hc := of_decide_eq_true hc
          refine wpIn_skip ?_
          refine hK83 _ _ ?_
          refine c_seq fun K84 hK84 => ?_
          refine wpIn_block ?_
          refine c_seq fun K85 hK85 => ?_
          refine c_region ?_
          have hi3 : i3 < ks.length := by omega
          have hJ3 := okO_get hO9 hi3
          have hc1 := count_le ks (ks.getD i3 0)
          have hc2 := take_count ks i3 (ks.getD i3 0)
          have hO64 := hO9.2.1
          refine s_pure h (ru_ixz (RdZ.of_own (s.getSl 0 rfl)) (i3) Try.underlying22 szo35 (h.ev rfl) (h.ev rfl) (by omega) (by omega)) rfl ?_; intro f h
          refine s_load_at ((RdZ.of_own (s.getSl 0 rfl)).el (i3) (by omega) (by decide) (D := ltArr (ltO ps (ks.getD i3 0))) (el_O hi3)) h row35 rfl (rfl) rfl ?_; intro f h
          refine s_alloc (ltArr zLt) h s zero35 rfl rfl ?_; intro f w1 b22 h s
          refine s_store_row 0 h s row35 rfl rfl rfl (rfl) (rfl) (ltArr_ones _) ?_; intro w1 s
          refine s_nil ?_
          refine hK85 _ _ ?_
          refine c_region ?_
          refine s_pure h (ru_move (h.ev rfl)) rfl ?_; intro f h
          refine s_pure h (ru_field fld35_0 (h.ev rfl)) rfl ?_; intro f h
          refine s_load_at1 (cell_of_has (Has.of_own s 0 rfl) 0 (rfl)) h one3 rfl rfl ?_; intro f h
          refine s_mplook (X := .int .i64 (((ks.count (ks.getD i3 0) : Nat) : Int) - (((ks.take i3).count (ks.getD i3 0) : Nat) : Int))) 2 (ks.getD i3 0) h s Try.underlying43 Try.underlying3 zero3 rfl rfl rfl rfl (.inl ⟨hJ3, rfl⟩) rfl ?_; intro f h
          refine s_pure h (ru_sub (h.ev rfl) (h.ev rfl) (by omega)) rfl ?_; intro f h
          refine s_mpset 2 (ks.getD i3 0) h s Try.underlying43 Try.underlying3 rfl rfl rfl rfl rfl hJ3 ?_; intro w1 s
          replace s := s.reobj 2 rfl (mp_congr (fun j hj => rV_next hi3 j))
          refine s_nil ?_
          refine b_norm ?_
          refine hK84 _ _ ?_
          refine c_region ?_
          refine s_pure h (ru_add (h.ev rfl) (h.ev rfl) (by omega)) rfl ?_; intro f h
          refine s_pure h (ru_move (h.ev rfl)) rfl ?_; intro f h
          refine s_nil ?_
          refine t_norm ?_
          exact ⟨_, by omega, ⟨i3 + 1, h.only ⟨rfl, rfl, rfl, rfl, rfl, rfl, rfl, slot_int rfl (by omega), trivial⟩, St.as (s.pick _ (List.sublist_append_right [_] _)) ⟨rfl, rfl, rfl, rfl, trivial⟩, rfl, by omega⟩⟩
        · replace hc := of_decide_eq_false hc
          refine wpIn_exit ?_
          refine t_exit ?_
          refine t_exit ?_
          refine b_exit ?_
          refine hK80 _ _ ?_
          refine c_seq fun K86 hK86 => ?_
          refine c_seq fun K87 hK87 => ?_
          refine c_region ?_
          refine s_pure h (ru_move (h.ev rfl)) rfl ?_; intro f h
          obtain rfl : i3 = ks.length := by omega
          replace s := s.reobj (o' := mpO k (fun _ => .int .i64 0)) 1 rfl (mp_congr (fun j hj => rV_end ks j))
          refine s_range 1 h s Try.underlying43 rfl rfl rfl ?_; intro f w1 bi h s
          refine s_nil ?_
          refine hK87 _ _ ?_
          refine wpIn_block ?_
          refine wpIn_loop_ghost (fun nn aa ww => ∃ sn : Array Nat, Sl 222 aa [(0, v1), (1, v2), (5, .pointer (some ⟨b5, 0, none⟩)), (197, vm), (210, .pointer (some ⟨bi, 0, none⟩))] ∧ St w [.blk bi (.mapIter (some b26) k sn k), .sl vm 35 4 (mlO ps k ks).l.length (ltCells (mlO ps k ks).l), .blk b26 (mpO k (fun _ => .int .i64 0)), .blk b25 (mpO k (fun i => .string (dO ps i))), .blk b5 (.cells (mlArr (mlO ps k ks) vm) 24)] ww ∧ nn = (leftOf (mpE k (fun _ => Value.int .i64 0)) sn).size) ((leftOf (mpE k (fun _ => Value.int .i64 0)) (#[])).size) ⟨#[], h.only ⟨rfl, rfl, rfl, rfl, rfl, trivial⟩, s.as ⟨rfl, rfl, rfl, rfl, rfl, trivial⟩, rfl⟩ ?_
          rintro _ f w1 ⟨sn, h, s, hnn⟩
          refine c_seq fun K88 hK88 => ?_
          refine c_region ?_
          refine s_next 0 2 h s rfl rfl rfl rfl ?_; intro f w1 ok9 k9 v9 sn1 hnx h s
          refine s_pure h (ru_extract (h.ev rfl) (nxV_0 _ _ _)) rfl ?_; intro f h
          refine s_nil ?_
          refine hK88 _ _ ?_
          refine c_seq fun K89 hK89 => ?_
          refine c_cond h rfl (fun hc => ?_) (fun hc => ?_)
          · obtain ⟨q9, hq9, rfl, hlt⟩ := hnx hc
            refine wpIn_skip ?_
            refine hK89 _ _ ?_
            refine wpIn_block ?_
            refine c_seq fun K90 hK90 => ?_
            refine c_region ?_
            refine s_entry 0 2 h s rfl rfl rfl hq9 rfl ?_; intro f h
            refine s_pure h (ru_extract (h.ev rfl) rfl) rfl ?_; intro f h
            refine s_pure h (ru_assign (h.ev rfl)) rfl ?_; intro f h
            refine s_nil ?_
            refine hK90 _ _ ?_
            refine c_seq fun K91 hK91 => ?_
            refine c_region ?_
            refine s_pure h (ru_move (h.ev rfl)) rfl ?_; intro f h
            refine s_pure h (ru_val (.bool false) (ru_neq (h.ev rfl) (h.ev rfl)) (congrArg Value.bool (decide_eq_false (fun h9 => h9 rfl)))) rfl ?_; intro f h
            refine s_nil ?_
            refine hK91 _ _ ?_
            refine wpIn_cond_false (h.ev rfl) ?_
            refine wpIn_skip ?_
            refine b_norm ?_
            refine t_norm ?_
            exact ⟨_, by omega, ⟨sn.push q9, h.only ⟨rfl, rfl, rfl, rfl, rfl, trivial⟩, St.as s ⟨rfl, rfl, rfl, rfl, rfl, trivial⟩, rfl⟩⟩
          · refine wpIn_exit ?_
            refine t_exit ?_
            refine t_exit ?_
            refine b_exit ?_
            refine hK86 _ _ ?_
            refine c_seq fun K92 hK92 => ?_
            refine c_region ?_
            refine s_call h s fnc12 (alive_any _) rfl rfl ?_; intro f w1 v9 hT hE h s; obtain rfl := hT
            refine s_pure h (ru_move (h.ev rfl)) rfl ?_; intro f h
            refine s_on h rfl rfl rfl ?_
            refine s_load_row 4 h s row24 rfl rfl (rfl) rfl ?_; intro f h
            refine s_on h rfl rfl rfl ?_
            refine s_call h s fnc10 (ret_val (.bool true) (mright_any (mlO ps k ks) vm _ (RdZ.of_own (s.getSl 1 rfl)) (by omega)) (congrArg Value.bool (rightO hO9))) rfl rfl ?_; intro f w1 v9 hT hE h s; obtain rfl := hT
            refine s_pure h (ru_pick_t (h.ev rfl) (h.ev rfl)) rfl ?_; intro f h
            refine s_pure h (ru_assign (h.ev rfl)) rfl ?_; intro f h
            refine s_nil ?_
            refine hK92 _ _ ?_
            refine wpIn_ret ?_
            exact e_tmp rfl h s rfl (rfl)
    · have hk20 : k < 20 := by have := of_decide_eq_false hc; omega
      have hO := okO_range (n := k) (by omega)
      obtain ⟨pO1, pO2, pO3⟩ := postO (ps := ps) hO hk20 (by rw [List.length_range]; omega)
      rw [← List.range_succ] at pO1
      refine wpIn_skip ?_
      refine hK11 _ _ ?_
      refine c_seq fun K93 hK93 => ?_
      refine c_region ?_
      refine s_pure h (ru_move (h.ev rfl)) rfl ?_; intro f h
      refine s_pure h (ru_move (h.ev rfl)) rfl ?_; intro f h
      refine s_pure h (ru_len_str Try.underlying9 (h.ev rfl)) rfl ?_; intro f h
      refine s_pure h (ru_val (.int .i64 ((min (pt ps k).size 100 : Nat) : Int)) (ru_min (h.ev rfl) (h.ev rfl)) (congrArg (Value.int .i64) (by omega))) rfl ?_; intro f h
      refine s_pure h (ru_val (.string (dO ps k)) (ru_slice_str (min (pt ps k).size 100) Try.underlying9 (h.ev rfl) (h.ev rfl) (rfl) (by omega)) (rfl)) rfl ?_; intro f h
      refine s_pure h (ru_assign (h.ev rfl)) rfl ?_; intro f h
      refine s_nil ?_
      refine hK93 _ _ ?_
      refine c_seq fun K94 hK94 => ?_
      refine c_region ?_
      refine s_load_row 3 h s row24 rfl rfl (rfl) rfl ?_; intro f h
      refine s_pure h (ru_move (h.ev rfl)) rfl ?_; intro f h
      refine s_pure h (ru_val (.int .i64 (k : Int)) (ru_rem (h.ev rfl) (h.ev rfl) (by omega)) (congrArg (Value.int .i64) (by omega))) rfl ?_; intro f h
      refine s_pure h (ru_move (h.ev rfl)) rfl ?_; intro f h
      refine s_pure h (ru_val (.int .i64 (k : Int)) (ru_rem (h.ev rfl) (h.ev rfl) (by omega)) (congrArg (Value.int .i64) (by omega))) rfl ?_; intro f h
      refine s_pure h (ru_sub (h.ev rfl) (h.ev rfl) (by omega)) rfl ?_; intro f h
      refine s_pure h (ru_move (h.ev rfl)) rfl ?_; intro f h
      refine s_call h s fnc8 (post_any (mlO ps k (List.range k)) vl (k : Int) (31 - (k : Int)) (dO ps k) _ (RdZ.of_own (s.getSl 0 rfl)) (by rw [mlO_len, List.length_range]; omega)) rfl rfl ?_; rintro f w1 v49 ⟨vp, rfl, hvp⟩ hE h sq
      rw [pO1, pO2, pO3] at h
      rw [pO1] at hvp
      replace s := s.sl_new hE hvp
      refine s_pure h (ru_move (h.ev rfl)) rfl ?_; intro f h
      refine s_pure h (ru_extract (h.ev rfl) rfl) rfl ?_; intro f h
      refine s_pure h (ru_extract (h.ev rfl) rfl) rfl ?_; intro f h
      refine s_pure h (ru_extract (h.ev rfl) rfl) rfl ?_; intro f h
      refine s_alloc (mlArr zMl (.slice none 0 0)) h s zero24 rfl rfl ?_; intro f w1 b10 h s
      refine s_store_row 0 h s row24 rfl rfl rfl (rfl) (rfl) (mlArr_ones _ _ (own_one (s.getSl 1 rfl))) ?_; intro w1 s
      refine s_pure h (ru_assign (h.ev rfl)) rfl ?_; intro f h
      refine s_pure h (ru_assign (h.ev rfl)) rfl ?_; intro f h
      refine s_nil ?_
      refine hK94 _ _ ?_
      refine c_seq fun K95 hK95 => ?_
      refine c_seq fun K96 hK96 => ?_
      refine c_region ?_
      refine s_pure h (ru_move (h.ev rfl)) rfl ?_; intro f h
      refine s_pure h (ru_val (.bool false) (ru_neq (h.ev rfl) (h.ev rfl)) (congrArg Value.bool (decide_eq_false (fun h9 => h9 rfl)))) rfl ?_; intro f h
      refine s_pure h (ru_move (h.ev rfl)) rfl ?_; intro f h
      refine s_on h rfl rfl rfl ?_
      refine s_pure h (ru_move (h.ev rfl)) rfl ?_; intro f h
      refine s_on h rfl rfl rfl ?_
      refine s_pure h (ru_move (h.ev rfl)) rfl ?_; intro f h
      refine s_on h rfl rfl rfl ?_
      refine s_mplook (X := .int .i64 0) 3 k h s Try.underlying43 Try.underlying3 zero3 rfl rfl rfl rfl (.inr ⟨Nat.le_refl _, rfl⟩) rfl ?_; intro f h
      refine s_on h rfl rfl rfl ?_
      refine s_pure h (ru_val (.bool false) (ru_neq (h.ev rfl) (h.ev rfl)) (congrArg Value.bool (decide_eq_false (fun h9 => h9 rfl)))) rfl ?_; intro f h
      refine s_pure h (ru_pick_f (h.ev rfl) (h.ev rfl)) rfl ?_; intro f h
      refine s_nil ?_
      refine hK96 _ _ ?_
      refine wpIn_cond_false (h.ev rfl) ?_
      refine wpIn_skip ?_
      refine hK95 _ _ ?_
      refine c_region ?_
      refine s_pure h (ru_move (h.ev rfl)) rfl ?_; intro f h
      refine s_pure h (ru_move (h.ev rfl)) rfl ?_; intro f h
      refine s_pure h (ru_move (h.ev rfl)) rfl ?_; intro f h
      refine s_pure h (ru_move (h.ev rfl)) rfl ?_; intro f h
      refine s_load_row 0 h s row24 rfl rfl (rfl) rfl ?_; intro f h
      refine s_pure h (ru_move (h.ev rfl)) rfl ?_; intro f h
      refine s_store_row 5 h s row24 rfl rfl rfl (rfl) (rfl) (mlArr_ones _ _ (own_one (s.getSl 1 rfl))) ?_; intro w1 s
      refine s_mpnew 4 h s Try.underlying42 Try.underlying3 rfl rfl rfl rfl rfl ?_; intro w1 s
      refine s_mpnew 3 h s Try.underlying43 Try.underlying3 rfl rfl rfl rfl rfl ?_; intro w1 s
      refine s_nil ?_
      refine b_norm ?_
      refine hK9 _ _ ?_
      refine c_region ?_
      refine s_pure h (ru_add (h.ev rfl) (h.ev rfl) (by omega)) rfl ?_; intro f h
      replace s := s.nilSl 35 4
      refine s_pure h (ru_move (h.ev rfl)) rfl ?_; intro f h
      refine s_nil ?_
      refine t_norm ?_
      exact ⟨_, by omega, ⟨k + 1, vp, h.only ⟨rfl, rfl, rfl, rfl, rfl, rfl, rfl, slot_int rfl (by omega), trivial⟩, St.as (s.pick _ (List.Sublist.cons _ (List.Sublist.cons _ (List.Sublist.cons_cons _ (List.Sublist.cons _ (List.Sublist.cons_cons _ (List.Sublist.cons_cons _ (List.Sublist.cons_cons _ (List.nil_sublist _))))))))) ⟨rfl, mp_blk (fun j hj => cV_push k j hj), mp_blk (fun j hj => sV_push ps k j hj), rfl, trivial⟩, rfl, by omega, by omega⟩⟩
  · replace hc := of_decide_eq_false hc
    refine wpIn_exit ?_
    refine t_exit ?_
    refine t_exit ?_
    refine b_exit ?_
    refine hK5 _ _ ?_
    refine c_seq fun K97 hK97 => ?_
    refine c_seq fun K98 hK98 => ?_
    refine c_region ?_
    refine s_pure h (ru_move (h.ev rfl)) rfl ?_; intro f h
    refine s_pure h (ru_lenZ (hu.keep s.ext) Try.underlying41 (h.ev rfl)) rfl ?_; intro f h
    refine s_pure h (ru_move (h.ev rfl)) rfl ?_; intro f h
    refine s_nil ?_
    refine hK98 _ _ ?_
    refine wpIn_block ?_
    refine wpIn_loop_ghost (fun nn aa ww => ∃ i9 : Nat, ∃ ks : List Nat, ∃ vm : Value, Sl 222 aa [(0, v1), (1, v2), (5, .pointer (some ⟨b5, 0, none⟩)), (6, .map (some b25)), (7, .map (some b26)), (68, v2), (69, .int .i64 (qs.length : Int)), (70, .int .i64 (i9 : Int))] ∧ St w [.sl vm 35 4 (mlO ps k ks).l.length (ltCells (mlO ps k ks).l), .blk b26 (mpO k (cV ks)), .blk b25 (mpO k (fun i => .string (dO ps i))), .blk b5 (.cells (mlArr (mlO ps k ks) vm) 24)] ww ∧ nn = qs.length - i9 ∧ i9 ≤ qs.length ∧ okO k ks) (qs.length - (0)) ⟨0, (List.range k), vl, h.only ⟨rfl, rfl, rfl, rfl, rfl, rfl, rfl, slot_int rfl (by omega), trivial⟩, s.as ⟨rfl, rfl, rfl, rfl, trivial⟩, rfl, Nat.zero_le _, okO_range hp1⟩ ?_
    rintro _ f w1 ⟨i9, ks, vm, h, s, hnn, hp0, hp1⟩
    refine c_seq fun K99 hK99 => ?_
    refine c_region ?_
    refine s_pure h (ru_lss (h.ev rfl) (h.ev rfl)) rfl ?_; intro f h
    refine s_nil ?_
    refine hK99 _ _ ?_
    refine c_seq fun K100 hK100 => ?_
    refine c_cond h rfl (fun hc => ?_) (fun hc => ?_)
    · replace hc := of_decide_eq_true hc
      refine wpIn_skip ?_
      refine hK100 _ _ ?_
      refine c_seq fun K101 hK101 => ?_
      refine wpIn_block ?_
      refine c_seq fun K102 hK102 => ?_
      refine c_region ?_
      refine s_pure h (ru_move (h.ev rfl)) rfl ?_; intro f h
      have hiq : i9 < qs.length := by omega
      have hab := int_bd hqb i9 hiq
      have hml := mlO_len ps k ks
      have hO64 := hp1.2.1
      have hO20 := hp1.1
      refine s_pure h (ru_ixz (hu.keep s.ext) (i9) Try.underlying41 szo3 (h.ev rfl) (h.ev rfl) (by omega) (by omega)) rfl ?_; intro f h
      refine s_load_at1 ((hu.keep s.ext).el1 (i9) (V := .int .i64 (qs.getD i9 0)) (int_map qs i9 hiq)) h one3 rfl rfl ?_; intro f h
      refine s_pure h (ru_assign (h.ev rfl)) rfl ?_; intro f h
      refine s_pure h (ru_assign (h.ev rfl)) rfl ?_; intro f h
      refine s_nil ?_
      refine hK102 _ _ ?_
      refine c_seq fun K103 hK103 => ?_
      refine c_region ?_
      refine s_pure h (ru_field fld24_0 (h.ev rfl)) rfl ?_; intro f h
      refine s_load_at1 (cell_of_has (Has.of_own s 3 rfl) 0 (rfl)) h one22 rfl rfl ?_; intro f h
      refine s_len_sl 0 h s Try.underlying22 rfl rfl rfl ?_; intro f h
      refine s_pure h (ru_assign (h.ev rfl)) rfl ?_; intro f h
      refine s_nil ?_
      refine hK103 _ _ ?_
      refine c_seq fun K104 hK104 => ?_
      refine c_seq fun K105 hK105 => ?_
      cases h60 : (decide (60 ≤ i9) : Bool)
      · skip
        cases hk0 : (decide (ks.length = 0) : Bool)
        · skip
          refine c_region ?_
          refine s_pure h (ru_move (h.ev rfl)) rfl ?_; intro f h
          refine s_pure h (ru_val (.bool false) (ru_geq (h.ev rfl) (h.ev rfl)) (congrArg Value.bool (decide_eq_false (by have := of_decide_eq_false h60; omega)))) rfl ?_; intro f h
          refine s_pure h (ru_move (h.ev rfl)) rfl ?_; intro f h
          refine s_on h rfl rfl rfl ?_
          refine s_pure h (ru_move (h.ev rfl)) rfl ?_; intro f h
          refine s_on h rfl rfl rfl ?_
          refine s_pure h (ru_val (.bool false) (ru_eql (h.ev rfl) (h.ev rfl)) (congrArg Value.bool (decide_eq_false (by have := of_decide_eq_false hk0; omega)))) rfl ?_; intro f h
          refine s_pure h (ru_pick_f (h.ev rfl) (h.ev rfl)) rfl ?_; intro f h
          refine s_nil ?_
          refine hK105 _ _ ?_
          refine wpIn_cond_false (h.ev rfl) ?_
          refine wpIn_skip ?_
          refine hK104 _ _ ?_
          refine c_seq fun K106 hK106 => ?_
          refine c_region ?_
          have h60n := of_decide_eq_false h60
          have hk1 : 0 < ks.length := by have := of_decide_eq_false hk0; omega
          obtain ⟨hd1, hd2⟩ := tm_bd ((qs.getD i9 0).tdiv 4) (k := (mlO ps k ks).l.length) (by omega)
          obtain ⟨p9, hp9, hpl⟩ := tm_ok (m := ((qs.getD i9 0).tdiv 4).tmod ((mlO ps k ks).l.length : Int) + ((mlO ps k ks).l.length : Int)) (k := (mlO ps k ks).l.length) (by omega) (by omega)
          have hpk : p9 < ks.length := by omega
          have hJ := okO_get hp1 hpk
          obtain ⟨aO1, aO2, aO3, aO4⟩ := atO (ps := ps) hp1 hpk
          have hJc := count_one hpk
          have hJl := count_le ks (ks.getD p9 0)
          refine s_pure h (ru_move (h.ev rfl)) rfl ?_; intro f h
          refine s_pure h (ru_quot4 (h.ev rfl) (h.ev rfl) (by omega)) rfl ?_; intro f h
          refine s_pure h (ru_move (h.ev rfl)) rfl ?_; intro f h
          refine s_pure h (ru_remt (h.ev rfl) (h.ev rfl) (by omega)) rfl ?_; intro f h
          refine s_pure h (ru_move (h.ev rfl)) rfl ?_; intro f h
          refine s_pure h (ru_add (h.ev rfl) (h.ev rfl) (by omega)) rfl ?_; intro f h
          refine s_pure h (ru_move (h.ev rfl)) rfl ?_; intro f h
          refine s_pure h (ru_val (.int .i64 (p9 : Int)) (ru_remt (h.ev rfl) (h.ev rfl) (by omega)) (congrArg (Value.int .i64) hp9)) rfl ?_; intro f h
          refine s_pure h (ru_assign (h.ev rfl)) rfl ?_; intro f h
          refine s_nil ?_
          refine hK106 _ _ ?_
          refine c_seq fun K107 hK107 => ?_
          refine c_region ?_
          refine s_pure h (ru_field fld24_0 (h.ev rfl)) rfl ?_; intro f h
          refine s_load_at1 (cell_of_has (Has.of_own s 3 rfl) 0 (rfl)) h one22 rfl rfl ?_; intro f h
          refine s_pure h (ru_move (h.ev rfl)) rfl ?_; intro f h
          refine s_pure h (ru_ixz (RdZ.of_own (s.getSl 0 rfl)) (p9) Try.underlying22 szo35 (h.ev rfl) (h.ev rfl) (by omega) (by omega)) rfl ?_; intro f h
          refine s_pure h (ru_fieldE fld35_0 (h.ev rfl) ((RdZ.of_own (s.getSl 0 rfl)).some (by omega))) rfl ?_; intro f h
          refine s_load_at1 (V := .int .i64 (((ks.getD p9 0) : Nat) + 1 : Int)) (rdz_at (RdZ.of_own (s.getSl 0 rfl)) (p9 * 4 + 0) (lno_O hpk)) h one3 rfl rfl ?_; intro f h
          refine s_pure h (ru_assign (h.ev rfl)) rfl ?_; intro f h
          refine s_nil ?_
          refine hK107 _ _ ?_
          refine c_seq fun K108 hK108 => ?_
          refine c_region ?_
          refine s_alloc (mlArr zMl (.slice none 0 0)) h s zero24 rfl rfl ?_; intro f w1 b18 h s
          refine s_nil ?_
          refine hK108 _ _ ?_
          refine c_seq fun K109 hK109 => ?_
          refine c_region ?_
          refine s_pure h (ru_assign (h.ev rfl)) rfl ?_; intro f h
          refine s_nil ?_
          refine hK109 _ _ ?_
          refine c_seq fun K110 hK110 => ?_
          refine c_seq fun K111 hK111 => ?_
          refine c_region ?_
          refine s_pure h (ru_move (h.ev rfl)) rfl ?_; intro f h
          obtain ⟨hr1, hr2⟩ := tm_4 (qs.getD i9 0)
          obtain ⟨c9, hc9⟩ : ∃ x9, x9 = ((qs.getD i9 0).tmod 4 + 4).tmod 4 := ⟨_, rfl⟩
          refine s_pure h (ru_remt (h.ev rfl) (h.ev rfl) (by omega)) rfl ?_; intro f h
          refine s_pure h (ru_add (h.ev rfl) (h.ev rfl) (by omega)) rfl ?_; intro f h
          refine s_pure h (ru_val (.int .i64 c9) (ru_remt (h.ev rfl) (h.ev rfl) (by omega)) (by rw [hc9])) rfl ?_; intro f h
          refine s_nil ?_
          refine hK111 _ _ ?_
          refine wpIn_block ?_
          refine c_seq fun K112 hK112 => ?_
          cases c0 : (decide (c9 = 0) : Bool)
          · skip
            refine c_region ?_
            refine s_pure h (ru_val (.bool false) (ru_eql (h.ev rfl) (h.ev rfl)) (congrArg Value.bool c0)) rfl ?_; intro f h
            refine s_pure h (ru_assign (h.ev rfl)) rfl ?_; intro f h
            refine s_nil ?_
            refine hK112 _ _ ?_
            refine wpIn_cond_false (h.ev rfl) ?_
            refine c_seq fun K113 hK113 => ?_
            cases c1 : (decide (c9 = 1) : Bool)
            · skip
              refine c_region ?_
              refine s_pure h (ru_val (.bool false) (ru_eql (h.ev rfl) (h.ev rfl)) (congrArg Value.bool c1)) rfl ?_; intro f h
              refine s_pure h (ru_assign (h.ev rfl)) rfl ?_; intro f h
              refine s_nil ?_
              refine hK113 _ _ ?_
              refine wpIn_cond_false (h.ev rfl) ?_
              refine c_seq fun K114 hK114 => ?_
              cases c2 : (decide (c9 = 2) : Bool)
              · skip
                refine c_region ?_
                refine s_pure h (ru_val (.bool false) (ru_eql (h.ev rfl) (h.ev rfl)) (congrArg Value.bool c2)) rfl ?_; intro f h
                refine s_pure h (ru_assign (h.ev rfl)) rfl ?_; intro f h
                refine s_nil ?_
                refine hK114 _ _ ?_
                refine wpIn_cond_false (h.ev rfl) ?_
                refine c_region ?_
                refine s_load_row 4 h s row24 rfl rfl (rfl) rfl ?_; intro f h
                refine s_pure h (ru_move (h.ev rfl)) rfl ?_; intro f h
                refine s_call h s fnc17 (last_any (mlO ps k ks) vm (p9 : Int) _ (RdZ.of_own (s.getSl 1 rfl)) (by omega)) rfl rfl ?_; rintro f w1 v105 ⟨vy, rfl, hvy⟩ hE h sq
                rw [aO4, aO1] at h
                rw [aO4] at hvy
                replace s := s.sl_new hE hvy
                refine s_pure h (ru_move (h.ev rfl)) rfl ?_; intro f h
                refine s_pure h (ru_extract (h.ev rfl) rfl) rfl ?_; intro f h
                refine s_pure h (ru_extract (h.ev rfl) rfl) rfl ?_; intro f h
                refine s_store_row 1 h s row24 rfl rfl rfl (rfl) (rfl) (mlArr_ones _ _ (own_one (s.getSl 0 rfl))) ?_; intro w1 s
                refine s_pure h (ru_assign (h.ev rfl)) rfl ?_; intro f h
                refine s_nil ?_
                refine b_norm ?_
                refine hK110 _ _ ?_
                refine c_seq fun K115 hK115 => ?_
                refine c_seq fun K116 hK116 => ?_
                refine c_region ?_
                refine s_pure h (ru_move (h.ev rfl)) rfl ?_; intro f h
                refine s_pure h (ru_val (.bool false) (ru_neq (h.ev rfl) (h.ev rfl)) (congrArg Value.bool (decide_eq_false (fun h9 => h9 rfl)))) rfl ?_; intro f h
                refine s_pure h (ru_move (h.ev rfl)) rfl ?_; intro f h
                refine s_off (b := true) h rfl rfl rfl rfl ?_; intro f h
                refine s_off (b := true) h rfl rfl rfl rfl ?_; intro f h
                refine s_pure h (ru_pick_f (h.ev rfl) (h.ev rfl)) rfl ?_; intro f h
                refine s_nil ?_
                refine hK116 _ _ ?_
                refine wpIn_cond_false (h.ev rfl) ?_
                refine wpIn_skip ?_
                refine hK115 _ _ ?_
                refine c_seq fun K117 hK117 => ?_
                refine c_region ?_
                refine s_pure h (ru_move (h.ev rfl)) rfl ?_; intro f h
                refine s_pure h (ru_val (.bool true) (ru_eql (h.ev rfl) (h.ev rfl)) (congrArg Value.bool (decide_eq_true (rfl)))) rfl ?_; intro f h
                refine s_nil ?_
                refine hK117 _ _ ?_
                refine wpIn_cond_true (h.ev rfl) ?_
                refine c_region ?_
                refine s_load_row 1 h s row24 rfl rfl (rfl) rfl ?_; intro f h
                refine s_store_row 5 h s row24 rfl rfl rfl (rfl) (rfl) (mlArr_ones _ _ (own_one (s.getSl 0 rfl))) ?_; intro w1 s
                refine s_nil ?_
                refine b_norm ?_
                refine hK101 _ _ ?_
                refine c_region ?_
                refine s_pure h (ru_add (h.ev rfl) (h.ev rfl) (by omega)) rfl ?_; intro f h
                refine s_pure h (ru_move (h.ev rfl)) rfl ?_; intro f h
                refine s_nil ?_
                refine t_norm ?_
                exact ⟨_, by omega, ⟨i9 + 1, ks.eraseIdx p9 ++ [(ks.getD p9 0)], vy, h.only ⟨rfl, rfl, rfl, rfl, rfl, rfl, rfl, slot_int rfl (by omega), trivial⟩, St.as (s.pick _ (List.Sublist.cons_cons _ (List.Sublist.cons _ (List.Sublist.cons _ (List.Sublist.cons_cons _ (List.Sublist.cons_cons _ (List.Sublist.cons_cons _ (List.nil_sublist _)))))))) ⟨rfl, mp_blk (fun j hj => cV_last hpk j), rfl, rfl, trivial⟩, rfl, by omega, ok_last hp1 hpk⟩⟩
              · skip
                refine c_region ?_
                refine s_pure h (ru_val (.bool true) (ru_eql (h.ev rfl) (h.ev rfl)) (congrArg Value.bool c2)) rfl ?_; intro f h
                refine s_pure h (ru_assign (h.ev rfl)) rfl ?_; intro f h
                refine s_nil ?_
                refine hK114 _ _ ?_
                refine wpIn_cond_true (h.ev rfl) ?_
                refine c_seq fun K118 hK118 => ?_
                refine c_region ?_
                refine s_load_row 4 h s row24 rfl rfl (rfl) rfl ?_; intro f h
                refine s_pure h (ru_move (h.ev rfl)) rfl ?_; intro f h
                refine s_call h s fnc16 (lose_any (mlO ps k ks) vm (p9 : Int) _ (RdZ.of_own (s.getSl 1 rfl)) (by omega)) rfl rfl ?_; rintro f w1 v179 ⟨vy, rfl, hvy⟩ hE h sq
                rw [aO3, aO1] at h
                rw [aO3] at hvy
                replace s := s.sl_new hE hvy
                refine s_pure h (ru_move (h.ev rfl)) rfl ?_; intro f h
                refine s_pure h (ru_extract (h.ev rfl) rfl) rfl ?_; intro f h
                refine s_pure h (ru_extract (h.ev rfl) rfl) rfl ?_; intro f h
                refine s_store_row 1 h s row24 rfl rfl rfl (rfl) (rfl) (mlArr_ones _ _ (own_one (s.getSl 0 rfl))) ?_; intro w1 s
                refine s_pure h (ru_assign (h.ev rfl)) rfl ?_; intro f h
                refine s_nil ?_
                refine hK118 _ _ ?_
                refine c_region ?_
                refine s_pure h (ru_move (h.ev rfl)) rfl ?_; intro f h
                refine s_pure h (ru_move (h.ev rfl)) rfl ?_; intro f h
                refine s_mplook (X := .int .i64 ((ks.count (ks.getD p9 0) : Nat) : Int)) 3 (ks.getD p9 0) h s Try.underlying43 Try.underlying3 zero3 rfl rfl rfl rfl (.inl ⟨hJ, rfl⟩) rfl ?_; intro f h
                refine s_pure h (ru_sub (h.ev rfl) (h.ev rfl) (by omega)) rfl ?_; intro f h
                refine s_mpset 3 (ks.getD p9 0) h s Try.underlying43 Try.underlying3 rfl rfl rfl rfl rfl hJ ?_; intro w1 s
                replace s := s.reobj 3 rfl (mp_congr (fun j hj => cV_erase hpk j))
                refine s_nil ?_
                refine b_norm ?_
                refine hK110 _ _ ?_
                refine c_seq fun K119 hK119 => ?_
                refine c_seq fun K120 hK120 => ?_
                refine c_region ?_
                refine s_pure h (ru_move (h.ev rfl)) rfl ?_; intro f h
                refine s_pure h (ru_val (.bool false) (ru_neq (h.ev rfl) (h.ev rfl)) (congrArg Value.bool (decide_eq_false (fun h9 => h9 rfl)))) rfl ?_; intro f h
                refine s_pure h (ru_move (h.ev rfl)) rfl ?_; intro f h
                refine s_off (b := true) h rfl rfl rfl rfl ?_; intro f h
                refine s_off (b := true) h rfl rfl rfl rfl ?_; intro f h
                refine s_pure h (ru_pick_f (h.ev rfl) (h.ev rfl)) rfl ?_; intro f h
                refine s_nil ?_
                refine hK120 _ _ ?_
                refine wpIn_cond_false (h.ev rfl) ?_
                refine wpIn_skip ?_
                refine hK119 _ _ ?_
                refine c_seq fun K121 hK121 => ?_
                refine c_region ?_
                refine s_pure h (ru_move (h.ev rfl)) rfl ?_; intro f h
                refine s_pure h (ru_val (.bool true) (ru_eql (h.ev rfl) (h.ev rfl)) (congrArg Value.bool (decide_eq_true (rfl)))) rfl ?_; intro f h
                refine s_nil ?_
                refine hK121 _ _ ?_
                refine wpIn_cond_true (h.ev rfl) ?_
                refine c_region ?_
                refine s_load_row 1 h s row24 rfl rfl (rfl) rfl ?_; intro f h
                refine s_store_row 5 h s row24 rfl rfl rfl (rfl) (rfl) (mlArr_ones _ _ (own_one (s.getSl 0 rfl))) ?_; intro w1 s
                refine s_nil ?_
                refine b_norm ?_
                refine hK101 _ _ ?_
                refine c_region ?_
                refine s_pure h (ru_add (h.ev rfl) (h.ev rfl) (by omega)) rfl ?_; intro f h
                refine s_pure h (ru_move (h.ev rfl)) rfl ?_; intro f h
                refine s_nil ?_
                refine t_norm ?_
                exact ⟨_, by omega, ⟨i9 + 1, ks.eraseIdx p9, vy, h.only ⟨rfl, rfl, rfl, rfl, rfl, rfl, rfl, slot_int rfl (by omega), trivial⟩, St.as (s.pick _ (List.Sublist.cons_cons _ (List.Sublist.cons _ (List.Sublist.cons _ (List.Sublist.cons_cons _ (List.Sublist.cons_cons _ (List.Sublist.cons_cons _ (List.nil_sublist _)))))))) ⟨rfl, rfl, rfl, rfl, trivial⟩, rfl, by omega, ok_erase hp1 p9⟩⟩
            · skip
              refine c_region ?_
              refine s_pure h (ru_val (.bool true) (ru_eql (h.ev rfl) (h.ev rfl)) (congrArg Value.bool c1)) rfl ?_; intro f h
              refine s_pure h (ru_assign (h.ev rfl)) rfl ?_; intro f h
              refine s_nil ?_
              refine hK113 _ _ ?_
              refine wpIn_cond_true (h.ev rfl) ?_
              refine c_seq fun K122 hK122 => ?_
              cases hf : (decide (ks.length = 64) : Bool)
              · skip
                refine c_region ?_
                refine s_load_row 4 h s row24 rfl rfl (rfl) rfl ?_; intro f h
                refine s_pure h (ru_move (h.ev rfl)) rfl ?_; intro f h
                refine s_call h s fnc15 (twice_any (mlO ps k ks) vm (p9 : Int) _ (RdZ.of_own (s.getSl 1 rfl)) (by omega)) rfl rfl ?_; rintro f w1 v165 ⟨vy, rfl, hvy⟩ hE h sq
                obtain ⟨tO1, tO2⟩ := twO_ok (ps := ps) hp1 hpk hf
                rw [tO1, tO2] at h
                rw [tO2] at hvy
                replace s := s.sl_new hE hvy
                refine s_pure h (ru_move (h.ev rfl)) rfl ?_; intro f h
                refine s_pure h (ru_extract (h.ev rfl) rfl) rfl ?_; intro f h
                refine s_pure h (ru_extract (h.ev rfl) rfl) rfl ?_; intro f h
                refine s_store_row 1 h s row24 rfl rfl rfl (rfl) (rfl) (mlArr_ones _ _ (own_one (s.getSl 0 rfl))) ?_; intro w1 s
                refine s_pure h (ru_assign (h.ev rfl)) rfl ?_; intro f h
                refine s_nil ?_
                refine hK122 _ _ ?_
                refine c_seq fun K123 hK123 => ?_
                refine c_region ?_
                refine s_pure h (ru_move (h.ev rfl)) rfl ?_; intro f h
                refine s_pure h (ru_val (.bool true) (ru_eql (h.ev rfl) (h.ev rfl)) (congrArg Value.bool (decide_eq_true (rfl)))) rfl ?_; intro f h
                refine s_nil ?_
                refine hK123 _ _ ?_
                refine wpIn_cond_true (h.ev rfl) ?_
                refine c_region ?_
                refine s_pure h (ru_move (h.ev rfl)) rfl ?_; intro f h
                refine s_pure h (ru_move (h.ev rfl)) rfl ?_; intro f h
                refine s_mplook (X := .int .i64 ((ks.count (ks.getD p9 0) : Nat) : Int)) 3 (ks.getD p9 0) h s Try.underlying43 Try.underlying3 zero3 rfl rfl rfl rfl (.inl ⟨hJ, rfl⟩) rfl ?_; intro f h
                refine s_pure h (ru_add (h.ev rfl) (h.ev rfl) (by omega)) rfl ?_; intro f h
                refine s_mpset 3 (ks.getD p9 0) h s Try.underlying43 Try.underlying3 rfl rfl rfl rfl rfl hJ ?_; intro w1 s
                replace s := s.reobj 3 rfl (mp_congr (fun j hj => cV_snoc ks (ks.getD p9 0) j))
                refine s_nil ?_
                refine b_norm ?_
                refine hK110 _ _ ?_
                refine c_seq fun K124 hK124 => ?_
                refine c_seq fun K125 hK125 => ?_
                refine c_region ?_
                refine s_pure h (ru_move (h.ev rfl)) rfl ?_; intro f h
                refine s_pure h (ru_val (.bool false) (ru_neq (h.ev rfl) (h.ev rfl)) (congrArg Value.bool (decide_eq_false (fun h9 => h9 rfl)))) rfl ?_; intro f h
                refine s_pure h (ru_move (h.ev rfl)) rfl ?_; intro f h
                refine s_off (b := true) h rfl rfl rfl rfl ?_; intro f h
                refine s_off (b := true) h rfl rfl rfl rfl ?_; intro f h
                refine s_pure h (ru_pick_f (h.ev rfl) (h.ev rfl)) rfl ?_; intro f h
                refine s_nil ?_
                refine hK125 _ _ ?_
                refine wpIn_cond_false (h.ev rfl) ?_
                refine wpIn_skip ?_
                refine hK124 _ _ ?_
                refine c_seq fun K126 hK126 => ?_
                refine c_region ?_
                refine s_pure h (ru_move (h.ev rfl)) rfl ?_; intro f h
                refine s_pure h (ru_val (.bool true) (ru_eql (h.ev rfl) (h.ev rfl)) (congrArg Value.bool (decide_eq_true (rfl)))) rfl ?_; intro f h
                refine s_nil ?_
                refine hK126 _ _ ?_
                refine wpIn_cond_true (h.ev rfl) ?_
                refine c_region ?_
                refine s_load_row 1 h s row24 rfl rfl (rfl) rfl ?_; intro f h
                refine s_store_row 5 h s row24 rfl rfl rfl (rfl) (rfl) (mlArr_ones _ _ (own_one (s.getSl 0 rfl))) ?_; intro w1 s
                refine s_nil ?_
                refine b_norm ?_
                refine hK101 _ _ ?_
                refine c_region ?_
                refine s_pure h (ru_add (h.ev rfl) (h.ev rfl) (by omega)) rfl ?_; intro f h
                refine s_pure h (ru_move (h.ev rfl)) rfl ?_; intro f h
                refine s_nil ?_
                refine t_norm ?_
                exact ⟨_, by omega, ⟨i9 + 1, ks ++ [(ks.getD p9 0)], vy, h.only ⟨rfl, rfl, rfl, rfl, rfl, rfl, rfl, slot_int rfl (by omega), trivial⟩, St.as (s.pick _ (List.Sublist.cons_cons _ (List.Sublist.cons _ (List.Sublist.cons _ (List.Sublist.cons_cons _ (List.Sublist.cons_cons _ (List.Sublist.cons_cons _ (List.nil_sublist _)))))))) ⟨rfl, rfl, rfl, rfl, trivial⟩, rfl, by omega, ok_snoc hp1 hJ (by have := of_decide_eq_false hf; omega)⟩⟩
              · skip
                refine c_region ?_
                refine s_load_row 4 h s row24 rfl rfl (rfl) rfl ?_; intro f h
                refine s_pure h (ru_move (h.ev rfl)) rfl ?_; intro f h
                refine s_call h s fnc15 (twice_any (mlO ps k ks) vm (p9 : Int) _ (RdZ.of_own (s.getSl 1 rfl)) (by omega)) rfl rfl ?_; rintro f w1 v165 ⟨vy, rfl, hvy⟩ hE h sq
                obtain ⟨tO1, tO2⟩ := twO_full (ps := ps) hp1 hpk hf
                rw [tO1, tO2] at h
                rw [tO2] at hvy
                replace s := s.sl_new hE hvy
                refine s_pure h (ru_move (h.ev rfl)) rfl ?_; intro f h
                refine s_pure h (ru_extract (h.ev rfl) rfl) rfl ?_; intro f h
                refine s_pure h (ru_extract (h.ev rfl) rfl) rfl ?_; intro f h
                refine s_store_row 1 h s row24 rfl rfl rfl (rfl) (rfl) (mlArr_ones _ _ (own_one (s.getSl 0 rfl))) ?_; intro w1 s
                refine s_pure h (ru_assign (h.ev rfl)) rfl ?_; intro f h
                refine s_nil ?_
                refine hK122 _ _ ?_
                refine c_seq fun K127 hK127 => ?_
                refine c_region ?_
                refine s_pure h (ru_move (h.ev rfl)) rfl ?_; intro f h
                refine s_pure h (ru_val (.bool false) (ru_eql (h.ev rfl) (h.ev rfl)) (congrArg Value.bool (decide_eq_false (by decide)))) rfl ?_; intro f h
                refine s_nil ?_
                refine hK127 _ _ ?_
                refine wpIn_cond_false (h.ev rfl) ?_
                refine wpIn_skip ?_
                refine b_norm ?_
                refine hK110 _ _ ?_
                refine c_seq fun K128 hK128 => ?_
                refine c_seq fun K129 hK129 => ?_
                refine c_region ?_
                refine s_pure h (ru_move (h.ev rfl)) rfl ?_; intro f h
                refine s_pure h (ru_val (.bool true) (ru_neq (h.ev rfl) (h.ev rfl)) (congrArg Value.bool (decide_eq_true (by decide)))) rfl ?_; intro f h
                refine s_pure h (ru_move (h.ev rfl)) rfl ?_; intro f h
                refine s_on h rfl rfl rfl ?_
                refine s_pure h (ru_move (h.ev rfl)) rfl ?_; intro f h
                refine s_on h rfl rfl rfl ?_
                refine s_pure h (ru_val (.bool false) (ru_neq (h.ev rfl) (h.ev rfl)) (congrArg Value.bool (decide_eq_false (fun h9 => h9 rfl)))) rfl ?_; intro f h
                refine s_pure h (ru_pick_t (h.ev rfl) (h.ev rfl)) rfl ?_; intro f h
                refine s_nil ?_
                refine hK129 _ _ ?_
                refine wpIn_cond_false (h.ev rfl) ?_
                refine wpIn_skip ?_
                refine hK128 _ _ ?_
                refine c_seq fun K130 hK130 => ?_
                refine c_region ?_
                refine s_pure h (ru_move (h.ev rfl)) rfl ?_; intro f h
                refine s_pure h (ru_val (.bool false) (ru_eql (h.ev rfl) (h.ev rfl)) (congrArg Value.bool (decide_eq_false (by decide)))) rfl ?_; intro f h
                refine s_nil ?_
                refine hK130 _ _ ?_
                refine wpIn_cond_false (h.ev rfl) ?_
                refine wpIn_skip ?_
                refine b_norm ?_
                refine hK101 _ _ ?_
                refine c_region ?_
                refine s_pure h (ru_add (h.ev rfl) (h.ev rfl) (by omega)) rfl ?_; intro f h
                refine s_pure h (ru_move (h.ev rfl)) rfl ?_; intro f h
                refine s_nil ?_
                refine t_norm ?_
                exact ⟨_, by omega, ⟨i9 + 1, ks, vm, h.only ⟨rfl, rfl, rfl, rfl, rfl, rfl, rfl, slot_int rfl (by omega), trivial⟩, St.as (s.pick _ (List.sublist_append_right [_, _] _)) ⟨rfl, rfl, rfl, rfl, trivial⟩, rfl, by omega, hp1⟩⟩
          · skip
            refine c_region ?_
            refine s_pure h (ru_val (.bool true) (ru_eql (h.ev rfl) (h.ev rfl)) (congrArg Value.bool c0)) rfl ?_; intro f h
            refine s_pure h (ru_assign (h.ev rfl)) rfl ?_; intro f h
            refine s_nil ?_
            refine hK112 _ _ ?_
            refine wpIn_cond_true (h.ev rfl) ?_
            refine c_seq fun K131 hK131 => ?_
            refine c_region ?_
            refine s_alloc (ltArr zLt) h s zero35 rfl rfl ?_; intro f w1 b20 h s
            refine s_nil ?_
            refine hK131 _ _ ?_
            refine c_seq fun K132 hK132 => ?_
            refine c_region ?_
            refine s_load_row 5 h s row24 rfl rfl (rfl) rfl ?_; intro f h
            refine s_pure h (ru_move (h.ev rfl)) rfl ?_; intro f h
            refine s_call h s fnc14 (take_any (mlO ps k ks) vm (p9 : Int) _ (RdZ.of_own (s.getSl 2 rfl)) (by omega)) rfl rfl ?_; rintro f w1 v113 ⟨vy, rfl, hvy⟩ hE h sq
            rw [aO3, aO2, aO1] at h
            rw [aO3] at hvy
            replace s := s.sl_new hE hvy
            refine s_pure h (ru_move (h.ev rfl)) rfl ?_; intro f h
            refine s_pure h (ru_extract (h.ev rfl) rfl) rfl ?_; intro f h
            refine s_pure h (ru_extract (h.ev rfl) rfl) rfl ?_; intro f h
            refine s_pure h (ru_extract (h.ev rfl) rfl) rfl ?_; intro f h
            refine s_store_row 2 h s row24 rfl rfl rfl (rfl) (rfl) (mlArr_ones _ _ (own_one (s.getSl 0 rfl))) ?_; intro w1 s
            refine s_store_row 1 h s row35 rfl rfl rfl (rfl) (rfl) (ltArr_ones _) ?_; intro w1 s
            refine s_pure h (ru_assign (h.ev rfl)) rfl ?_; intro f h
            refine s_nil ?_
            refine hK132 _ _ ?_
            refine c_seq fun K133 hK133 => ?_
            refine c_seq fun K134 hK134 => ?_
            refine c_region ?_
            refine s_pure h (ru_move (h.ev rfl)) rfl ?_; intro f h
            refine s_pure h (ru_val (.bool false) (ru_neq (h.ev rfl) (h.ev rfl)) (congrArg Value.bool (decide_eq_false (fun h9 => h9 rfl)))) rfl ?_; intro f h
            refine s_pure h (ru_move (h.ev rfl)) rfl ?_; intro f h
            refine s_on h rfl rfl rfl ?_
            refine s_pure h (ru_field fld35_0 (h.ev rfl)) rfl ?_; intro f h
            refine s_on h rfl rfl rfl ?_
            refine s_load_at1 (cell_of_has (Has.of_own s 1 rfl) 0 (rfl)) h one3 rfl rfl ?_; intro f h
            refine s_on h rfl rfl rfl ?_
            refine s_pure h (ru_move (h.ev rfl)) rfl ?_; intro f h
            refine s_on h rfl rfl rfl ?_
            refine s_pure h (ru_val (.bool false) (ru_neq (h.ev rfl) (h.ev rfl)) (congrArg Value.bool (decide_eq_false (fun h9 => h9 rfl)))) rfl ?_; intro f h
            refine s_pure h (ru_pick_f (h.ev rfl) (h.ev rfl)) rfl ?_; intro f h
            refine s_pure h (ru_move (h.ev rfl)) rfl ?_; intro f h
            refine s_on h rfl rfl rfl ?_
            refine s_pure h (ru_field fld35_3 (h.ev rfl)) rfl ?_; intro f h
            refine s_on h rfl rfl rfl ?_
            refine s_load_at1 (cell_of_has (Has.of_own s 1 rfl) 3 (rfl)) h one9 rfl rfl ?_; intro f h
            refine s_on h rfl rfl rfl ?_
            refine s_pure h (ru_move (h.ev rfl)) rfl ?_; intro f h
            refine s_on h rfl rfl rfl ?_
            refine s_pure h (ru_move (h.ev rfl)) rfl ?_; intro f h
            refine s_on h rfl rfl rfl ?_
            refine s_mplook (X := .string (dO ps (ks.getD p9 0))) 5 (ks.getD p9 0) h s Try.underlying42 Try.underlying3 zero9 rfl rfl rfl rfl (.inl ⟨hJ, rfl⟩) rfl ?_; intro f h
            refine s_on h rfl rfl rfl ?_
            refine s_pure h (ru_val (.bool false) (ru_neq_str (h.ev rfl) (h.ev rfl)) (congrArg Value.bool (decide_eq_false (fun h9 => h9 rfl)))) rfl ?_; intro f h
            refine s_pure h (ru_pick_f (h.ev rfl) (h.ev rfl)) rfl ?_; intro f h
            refine s_pure h (ru_move (h.ev rfl)) rfl ?_; intro f h
            refine s_on h rfl rfl rfl ?_
            refine s_pure h (ru_field fld35_1 (h.ev rfl)) rfl ?_; intro f h
            refine s_on h rfl rfl rfl ?_
            refine s_load_at1 (cell_of_has (Has.of_own s 1 rfl) 1 (rfl)) h one3 rfl rfl ?_; intro f h
            refine s_on h rfl rfl rfl ?_
            refine s_pure h (ru_move (h.ev rfl)) rfl ?_; intro f h
            refine s_on h rfl rfl rfl ?_
            refine s_pure h (ru_sub (h.ev rfl) (h.ev rfl) (by omega)) rfl ?_; intro f h
            refine s_on h rfl rfl rfl ?_
            refine s_pure h (ru_val (.int .i64 (((ks.getD p9 0) : Nat) : Int)) (ru_rem (h.ev rfl) (h.ev rfl) (by omega)) (congrArg (Value.int .i64) (by omega))) rfl ?_; intro f h
            refine s_on h rfl rfl rfl ?_
            refine s_pure h (ru_val (.bool false) (ru_neq (h.ev rfl) (h.ev rfl)) (congrArg Value.bool (decide_eq_false (fun h9 => h9 rfl)))) rfl ?_; intro f h
            refine s_pure h (ru_pick_f (h.ev rfl) (h.ev rfl)) rfl ?_; intro f h
            refine s_pure h (ru_move (h.ev rfl)) rfl ?_; intro f h
            refine s_on h rfl rfl rfl ?_
            refine s_pure h (ru_field fld35_2 (h.ev rfl)) rfl ?_; intro f h
            refine s_on h rfl rfl rfl ?_
            refine s_load_at1 (cell_of_has (Has.of_own s 1 rfl) 2 (rfl)) h one3 rfl rfl ?_; intro f h
            refine s_on h rfl rfl rfl ?_
            refine s_pure h (ru_move (h.ev rfl)) rfl ?_; intro f h
            refine s_on h rfl rfl rfl ?_
            refine s_pure h (ru_sub (h.ev rfl) (h.ev rfl) (by omega)) rfl ?_; intro f h
            refine s_on h rfl rfl rfl ?_
            refine s_pure h (ru_val (.int .i64 (((ks.getD p9 0) : Nat) : Int)) (ru_rem (h.ev rfl) (h.ev rfl) (by omega)) (congrArg (Value.int .i64) (by omega))) rfl ?_; intro f h
            refine s_on h rfl rfl rfl ?_
            refine s_pure h (ru_sub (h.ev rfl) (h.ev rfl) (by omega)) rfl ?_; intro f h
            refine s_on h rfl rfl rfl ?_
            refine s_pure h (ru_val (.bool false) (ru_neq (h.ev rfl) (h.ev rfl)) (congrArg Value.bool (decide_eq_false (fun h9 => h9 rfl)))) rfl ?_; intro f h
            refine s_pure h (ru_pick_f (h.ev rfl) (h.ev rfl)) rfl ?_; intro f h
            refine s_pure h (ru_move (h.ev rfl)) rfl ?_; intro f h
            refine s_on h rfl rfl rfl ?_
            refine s_pure h (ru_move (h.ev rfl)) rfl ?_; intro f h
            refine s_on h rfl rfl rfl ?_
            refine s_pure h (ru_move (h.ev rfl)) rfl ?_; intro f h
            refine s_on h rfl rfl rfl ?_
            refine s_mplook (X := .int .i64 ((ks.count (ks.getD p9 0) : Nat) : Int)) 4 (ks.getD p9 0) h s Try.underlying43 Try.underlying3 zero3 rfl rfl rfl rfl (.inl ⟨hJ, rfl⟩) rfl ?_; intro f h
            refine s_on h rfl rfl rfl ?_
            refine s_pure h (ru_val (.bool false) (ru_lss (h.ev rfl) (h.ev rfl)) (congrArg Value.bool (decide_eq_false (by omega)))) rfl ?_; intro f h
            refine s_pure h (ru_pick_f (h.ev rfl) (h.ev rfl)) rfl ?_; intro f h
            refine s_nil ?_
            refine hK134 _ _ ?_
            refine wpIn_cond_false (h.ev rfl) ?_
            refine wpIn_skip ?_
            refine hK133 _ _ ?_
            refine c_region ?_
            refine s_pure h (ru_move (h.ev rfl)) rfl ?_; intro f h
            refine s_pure h (ru_move (h.ev rfl)) rfl ?_; intro f h
            refine s_mplook (X := .int .i64 ((ks.count (ks.getD p9 0) : Nat) : Int)) 4 (ks.getD p9 0) h s Try.underlying43 Try.underlying3 zero3 rfl rfl rfl rfl (.inl ⟨hJ, rfl⟩) rfl ?_; intro f h
            refine s_pure h (ru_sub (h.ev rfl) (h.ev rfl) (by omega)) rfl ?_; intro f h
            refine s_mpset 4 (ks.getD p9 0) h s Try.underlying43 Try.underlying3 rfl rfl rfl rfl rfl hJ ?_; intro w1 s
            replace s := s.reobj 4 rfl (mp_congr (fun j hj => cV_erase hpk j))
            refine s_nil ?_
            refine b_norm ?_
            refine hK110 _ _ ?_
            refine c_seq fun K135 hK135 => ?_
            refine c_seq fun K136 hK136 => ?_
            refine c_region ?_
            refine s_pure h (ru_move (h.ev rfl)) rfl ?_; intro f h
            refine s_pure h (ru_val (.bool false) (ru_neq (h.ev rfl) (h.ev rfl)) (congrArg Value.bool (decide_eq_false (fun h9 => h9 rfl)))) rfl ?_; intro f h
            refine s_pure h (ru_move (h.ev rfl)) rfl ?_; intro f h
            refine s_off (b := true) h rfl rfl rfl rfl ?_; intro f h
            refine s_off (b := true) h rfl rfl rfl rfl ?_; intro f h
            refine s_pure h (ru_pick_f (h.ev rfl) (h.ev rfl)) rfl ?_; intro f h
            refine s_nil ?_
            refine hK136 _ _ ?_
            refine wpIn_cond_false (h.ev rfl) ?_
            refine wpIn_skip ?_
            refine hK135 _ _ ?_
            refine c_seq fun K137 hK137 => ?_
            refine c_region ?_
            refine s_pure h (ru_move (h.ev rfl)) rfl ?_; intro f h
            refine s_pure h (ru_val (.bool true) (ru_eql (h.ev rfl) (h.ev rfl)) (congrArg Value.bool (decide_eq_true (rfl)))) rfl ?_; intro f h
            refine s_nil ?_
            refine hK137 _ _ ?_
            refine wpIn_cond_true (h.ev rfl) ?_
            refine c_region ?_
            refine s_load_row 2 h s row24 rfl rfl (rfl) rfl ?_; intro f h
            refine s_store_row 6 h s row24 rfl rfl rfl (rfl) (rfl) (mlArr_ones _ _ (own_one (s.getSl 0 rfl))) ?_; intro w1 s
            refine s_nil ?_
            refine b_norm ?_
            refine hK101 _ _ ?_
            refine c_region ?_
            refine s_pure h (ru_add (h.ev rfl) (h.ev rfl) (by omega)) rfl ?_; intro f h
            refine s_pure h (ru_move (h.ev rfl)) rfl ?_; intro f h
            refine s_nil ?_
            refine t_norm ?_
            exact ⟨_, by omega, ⟨i9 + 1, ks.eraseIdx p9, vy, h.only ⟨rfl, rfl, rfl, rfl, rfl, rfl, rfl, slot_int rfl (by omega), trivial⟩, St.as (s.pick _ (List.Sublist.cons_cons _ (List.Sublist.cons _ (List.Sublist.cons _ (List.Sublist.cons _ (List.Sublist.cons_cons _ (List.Sublist.cons_cons _ (List.Sublist.cons_cons _ (List.nil_sublist _))))))))) ⟨rfl, rfl, rfl, rfl, trivial⟩, rfl, by omega, ok_erase hp1 p9⟩⟩
        · skip
          refine c_region ?_
          refine s_pure h (ru_move (h.ev rfl)) rfl ?_; intro f h
          refine s_pure h (ru_val (.bool false) (ru_geq (h.ev rfl) (h.ev rfl)) (congrArg Value.bool (decide_eq_false (by have := of_decide_eq_false h60; omega)))) rfl ?_; intro f h
          refine s_pure h (ru_move (h.ev rfl)) rfl ?_; intro f h
          refine s_on h rfl rfl rfl ?_
          refine s_pure h (ru_move (h.ev rfl)) rfl ?_; intro f h
          refine s_on h rfl rfl rfl ?_
          refine s_pure h (ru_val (.bool true) (ru_eql (h.ev rfl) (h.ev rfl)) (congrArg Value.bool (decide_eq_true (by have := of_decide_eq_true hk0; omega)))) rfl ?_; intro f h
          refine s_pure h (ru_pick_f (h.ev rfl) (h.ev rfl)) rfl ?_; intro f h
          refine s_nil ?_
          refine hK105 _ _ ?_
          refine wpIn_cond_true (h.ev rfl) ?_
          refine wpIn_exit ?_
          refine t_exit ?_
          refine b_exit_other rfl ?_
          refine t_exit ?_
          refine t_exit ?_
          refine b_exit ?_
          refine hK97 _ _ ?_
          refine c_seq fun K138 hK138 => ?_
          refine c_seq fun K139 hK139 => ?_
          refine c_region ?_
          have hO9 := hp1
          have hml := mlO_len ps k ks
          have hO64 := hp1.2.1
          refine s_pure h (ru_field fld24_0 (h.ev rfl)) rfl ?_; intro f h
          refine s_load_at1 (cell_of_has (Has.of_own s 3 rfl) 0 (rfl)) h one22 rfl rfl ?_; intro f h
          refine s_len_sl 0 h s Try.underlying22 rfl rfl rfl ?_; intro f h
          refine s_pure h (ru_move (h.ev rfl)) rfl ?_; intro f h
          refine s_nil ?_
          refine hK139 _ _ ?_
          refine wpIn_block ?_
          refine wpIn_loop_ghost (fun nn aa ww => ∃ i3 : Nat, Sl 222 aa [(0, v1), (1, v2), (5, .pointer (some ⟨b5, 0, none⟩)), (76, vm), (197, vm), (6, .map (some b25)), (7, .map (some b26)), (198, .int .i64 ((mlO ps k ks).l.length : Int)), (199, .int .i64 (i3 : Int))] ∧ St w [.sl vm 35 4 (mlO ps k ks).l.length (ltCells (mlO ps k ks).l), .blk b26 (mpO k (rV ks i3)), .blk b25 (mpO k (fun i => .string (dO ps i))), .blk b5 (.cells (mlArr (mlO ps k ks) vm) 24)] ww ∧ nn = ks.length - i3 ∧ i3 ≤ ks.length) (ks.length - (0)) ⟨0, h.only ⟨rfl, rfl, rfl, rfl, rfl, rfl, rfl, rfl, slot_int rfl (by omega), trivial⟩, s.as ⟨rfl, mp_blk (fun j hj => rV_zero ks j), rfl, rfl, trivial⟩, rfl, Nat.zero_le _⟩ ?_
          rintro _ f w1 ⟨i3, h, s, hnn, hp0⟩
          refine c_seq fun K140 hK140 => ?_
          refine c_region ?_
          refine s_pure h (ru_lss (h.ev rfl) (h.ev rfl)) rfl ?_; intro f h
          refine s_nil ?_
          refine hK140 _ _ ?_
          refine c_seq fun K141 hK141 => ?_
          refine c_cond h rfl (fun hc => ?_) (fun hc => ?_)
          · replace hc := of_decide_eq_true hc
            refine wpIn_skip ?_
            refine hK141 _ _ ?_
            refine c_seq fun K142 hK142 => ?_
            refine wpIn_block ?_
            refine c_seq fun K143 hK143 => ?_
            refine c_region ?_
            have hi3 : i3 < ks.length := by omega
            have hJ3 := okO_get hO9 hi3
            have hc1 := count_le ks (ks.getD i3 0)
            have hc2 := take_count ks i3 (ks.getD i3 0)
            have hO64 := hO9.2.1
            refine s_pure h (ru_ixz (RdZ.of_own (s.getSl 0 rfl)) (i3) Try.underlying22 szo35 (h.ev rfl) (h.ev rfl) (by omega) (by omega)) rfl ?_; intro f h
            refine s_load_at ((RdZ.of_own (s.getSl 0 rfl)).el (i3) (by omega) (by decide) (D := ltArr (ltO ps (ks.getD i3 0))) (el_O hi3)) h row35 rfl (rfl) rfl ?_; intro f h
            refine s_alloc (ltArr zLt) h s zero35 rfl rfl ?_; intro f w1 b22 h s
            refine s_store_row 0 h s row35 rfl rfl rfl (rfl) (rfl) (ltArr_ones _) ?_; intro w1 s
            refine s_nil ?_
            refine hK143 _ _ ?_
            refine c_region ?_
            refine s_pure h (ru_move (h.ev rfl)) rfl ?_; intro f h
            refine s_pure h (ru_field fld35_0 (h.ev rfl)) rfl ?_; intro f h
            refine s_load_at1 (cell_of_has (Has.of_own s 0 rfl) 0 (rfl)) h one3 rfl rfl ?_; intro f h
            refine s_mplook (X := .int .i64 (((ks.count (ks.getD i3 0) : Nat) : Int) - (((ks.take i3).count (ks.getD i3 0) : Nat) : Int))) 2 (ks.getD i3 0) h s Try.underlying43 Try.underlying3 zero3 rfl rfl rfl rfl (.inl ⟨hJ3, rfl⟩) rfl ?_; intro f h
            refine s_pure h (ru_sub (h.ev rfl) (h.ev rfl) (by omega)) rfl ?_; intro f h
            refine s_mpset 2 (ks.getD i3 0) h s Try.underlying43 Try.underlying3 rfl rfl rfl rfl rfl hJ3 ?_; intro w1 s
            replace s := s.reobj 2 rfl (mp_congr (fun j hj => rV_next hi3 j))
            refine s_nil ?_
            refine b_norm ?_
            refine hK142 _ _ ?_
            refine c_region ?_
            refine s_pure h (ru_add (h.ev rfl) (h.ev rfl) (by omega)) rfl ?_; intro f h
            refine s_pure h (ru_move (h.ev rfl)) rfl ?_; intro f h
            refine s_nil ?_
            refine t_norm ?_
            exact ⟨_, by omega, ⟨i3 + 1, h.only ⟨rfl, rfl, rfl, rfl, rfl, rfl, rfl, rfl, slot_int rfl (by omega), trivial⟩, St.as (s.pick _ (List.sublist_append_right [_] _)) ⟨rfl, rfl, rfl, rfl, trivial⟩, rfl, by omega⟩⟩
          · replace hc := of_decide_eq_false hc
            refine wpIn_exit ?_
            refine t_exit ?_
            refine t_exit ?_
            refine b_exit ?_
            refine hK138 _ _ ?_
            refine c_seq fun K144 hK144 => ?_
            refine c_seq fun K145 hK145 => ?_
            refine c_region ?_
            refine s_pure h (ru_move (h.ev rfl)) rfl ?_; intro f h
            obtain rfl : i3 = ks.length := by omega
            replace s := s.reobj (o' := mpO k (fun _ => .int .i64 0)) 1 rfl (mp_congr (fun j hj => rV_end ks j))
            refine s_range 1 h s Try.underlying43 rfl rfl rfl ?_; intro f w1 bi h s
            refine s_nil ?_
            refine hK145 _ _ ?_
            refine wpIn_block ?_
            refine wpIn_loop_ghost (fun nn aa ww => ∃ sn : Array Nat, Sl 222 aa [(0, v1), (1, v2), (5, .pointer (some ⟨b5, 0, none⟩)), (76, vm), (197, vm), (210, .pointer (some ⟨bi, 0, none⟩))] ∧ St w [.blk bi (.mapIter (some b26) k sn k), .sl vm 35 4 (mlO ps k ks).l.length (ltCells (mlO ps k ks).l), .blk b26 (mpO k (fun _ => .int .i64 0)), .blk b25 (mpO k (fun i => .string (dO ps i))), .blk b5 (.cells (mlArr (mlO ps k ks) vm) 24)] ww ∧ nn = (leftOf (mpE k (fun _ => Value.int .i64 0)) sn).size) ((leftOf (mpE k (fun _ => Value.int .i64 0)) (#[])).size) ⟨#[], h.only ⟨rfl, rfl, rfl, rfl, rfl, rfl, trivial⟩, s.as ⟨rfl, rfl, rfl, rfl, rfl, trivial⟩, rfl⟩ ?_
            rintro _ f w1 ⟨sn, h, s, hnn⟩
            refine c_seq fun K146 hK146 => ?_
            refine c_region ?_
            refine s_next 0 2 h s rfl rfl rfl rfl ?_; intro f w1 ok9 k9 v9 sn1 hnx h s
            refine s_pure h (ru_extract (h.ev rfl) (nxV_0 _ _ _)) rfl ?_; intro f h
            refine s_nil ?_
            refine hK146 _ _ ?_
            refine c_seq fun K147 hK147 => ?_
            refine c_cond h rfl (fun hc => ?_) (fun hc => ?_)
            · obtain ⟨q9, hq9, rfl, hlt⟩ := hnx hc
              refine wpIn_skip ?_
              refine hK147 _ _ ?_
              refine wpIn_block ?_
              refine c_seq fun K148 hK148 => ?_
              refine c_region ?_
              refine s_entry 0 2 h s rfl rfl rfl hq9 rfl ?_; intro f h
              refine s_pure h (ru_extract (h.ev rfl) rfl) rfl ?_; intro f h
              refine s_pure h (ru_assign (h.ev rfl)) rfl ?_; intro f h
              refine s_nil ?_
              refine hK148 _ _ ?_
              refine c_seq fun K149 hK149 => ?_
              refine c_region ?_
              refine s_pure h (ru_move (h.ev rfl)) rfl ?_; intro f h
              refine s_pure h (ru_val (.bool false) (ru_neq (h.ev rfl) (h.ev rfl)) (congrArg Value.bool (decide_eq_false (fun h9 => h9 rfl)))) rfl ?_; intro f h
              refine s_nil ?_
              refine hK149 _ _ ?_
              refine wpIn_cond_false (h.ev rfl) ?_
              refine wpIn_skip ?_
              refine b_norm ?_
              refine t_norm ?_
              exact ⟨_, by omega, ⟨sn.push q9, h.only ⟨rfl, rfl, rfl, rfl, rfl, rfl, trivial⟩, St.as s ⟨rfl, rfl, rfl, rfl, rfl, trivial⟩, rfl⟩⟩
            · refine wpIn_exit ?_
              refine t_exit ?_
              refine t_exit ?_
              refine b_exit ?_
              refine hK144 _ _ ?_
              refine c_seq fun K150 hK150 => ?_
              refine c_region ?_
              refine s_call h s fnc12 (alive_any _) rfl rfl ?_; intro f w1 v9 hT hE h s; obtain rfl := hT
              refine s_pure h (ru_move (h.ev rfl)) rfl ?_; intro f h
              refine s_on h rfl rfl rfl ?_
              refine s_load_row 4 h s row24 rfl rfl (rfl) rfl ?_; intro f h
              refine s_on h rfl rfl rfl ?_
              refine s_call h s fnc10 (ret_val (.bool true) (mright_any (mlO ps k ks) vm _ (RdZ.of_own (s.getSl 1 rfl)) (by omega)) (congrArg Value.bool (rightO hO9))) rfl rfl ?_; intro f w1 v9 hT hE h s; obtain rfl := hT
              refine s_pure h (ru_pick_t (h.ev rfl) (h.ev rfl)) rfl ?_; intro f h
              refine s_pure h (ru_assign (h.ev rfl)) rfl ?_; intro f h
              refine s_nil ?_
              refine hK150 _ _ ?_
              refine wpIn_ret ?_
              exact e_tmp rfl h s rfl (rfl)
      · skip
        refine c_region ?_
        refine s_pure h (ru_move (h.ev rfl)) rfl ?_; intro f h
        refine s_pure h (ru_val (.bool true) (ru_geq (h.ev rfl) (h.ev rfl)) (congrArg Value.bool (decide_eq_true (by have := of_decide_eq_true h60; omega)))) rfl ?_; intro f h
        refine s_pure h (ru_move (h.ev rfl)) rfl ?_; intro f h
        refine s_off (b := false) h rfl rfl rfl rfl ?_; intro f h
        refine s_off (b := false) h rfl rfl rfl rfl ?_; intro f h
        refine s_pure h (ru_pick_t (h.ev rfl) (h.ev rfl)) rfl ?_; intro f h
        refine s_nil ?_
        refine hK105 _ _ ?_
        refine wpIn_cond_true (h.ev rfl) ?_
        refine wpIn_exit ?_
        refine t_exit ?_
        refine b_exit_other rfl ?_
        refine t_exit ?_
        refine t_exit ?_
        refine b_exit ?_
        refine hK97 _ _ ?_
        refine c_seq fun K151 hK151 => ?_
        refine c_seq fun K152 hK152 => ?_
        refine c_region ?_
        have hO9 := hp1
        have hml := mlO_len ps k ks
        have hO64 := hp1.2.1
        refine s_pure h (ru_field fld24_0 (h.ev rfl)) rfl ?_; intro f h
        refine s_load_at1 (cell_of_has (Has.of_own s 3 rfl) 0 (rfl)) h one22 rfl rfl ?_; intro f h
        refine s_len_sl 0 h s Try.underlying22 rfl rfl rfl ?_; intro f h
        refine s_pure h (ru_move (h.ev rfl)) rfl ?_; intro f h
        refine s_nil ?_
        refine hK152 _ _ ?_
        refine wpIn_block ?_
        refine wpIn_loop_ghost (fun nn aa ww => ∃ i3 : Nat, Sl 222 aa [(0, v1), (1, v2), (5, .pointer (some ⟨b5, 0, none⟩)), (76, vm), (197, vm), (6, .map (some b25)), (7, .map (some b26)), (198, .int .i64 ((mlO ps k ks).l.length : Int)), (199, .int .i64 (i3 : Int))] ∧ St w [.sl vm 35 4 (mlO ps k ks).l.length (ltCells (mlO ps k ks).l), .blk b26 (mpO k (rV ks i3)), .blk b25 (mpO k (fun i => .string (dO ps i))), .blk b5 (.cells (mlArr (mlO ps k ks) vm) 24)] ww ∧ nn = ks.length - i3 ∧ i3 ≤ ks.length) (ks.length - (0)) ⟨0, h.only ⟨rfl, rfl, rfl, rfl, rfl, rfl, rfl, rfl, slot_int rfl (by omega), trivial⟩, s.as ⟨rfl, mp_blk (fun j hj => rV_zero ks j), rfl, rfl, trivial⟩, rfl, Nat.zero_le _⟩ ?_
        rintro _ f w1 ⟨i3, h, s, hnn, hp0⟩
        refine c_seq fun K153 hK153 => ?_
        refine c_region ?_
        refine s_pure h (ru_lss (h.ev rfl) (h.ev rfl)) rfl ?_; intro f h
        refine s_nil ?_
        refine hK153 _ _ ?_
        refine c_seq fun K154 hK154 => ?_
        refine c_cond h rfl (fun hc => ?_) (fun hc => ?_)
        · replace hc := of_decide_eq_true hc
          refine wpIn_skip ?_
          refine hK154 _ _ ?_
          refine c_seq fun K155 hK155 => ?_
          refine wpIn_block ?_
          refine c_seq fun K156 hK156 => ?_
          refine c_region ?_
          have hi3 : i3 < ks.length := by omega
          have hJ3 := okO_get hO9 hi3
          have hc1 := count_le ks (ks.getD i3 0)
          have hc2 := take_count ks i3 (ks.getD i3 0)
          have hO64 := hO9.2.1
          refine s_pure h (ru_ixz (RdZ.of_own (s.getSl 0 rfl)) (i3) Try.underlying22 szo35 (h.ev rfl) (h.ev rfl) (by omega) (by omega)) rfl ?_; intro f h
          refine s_load_at ((RdZ.of_own (s.getSl 0 rfl)).el (i3) (by omega) (by decide) (D := ltArr (ltO ps (ks.getD i3 0))) (el_O hi3)) h row35 rfl (rfl) rfl ?_; intro f h
          refine s_alloc (ltArr zLt) h s zero35 rfl rfl ?_; intro f w1 b22 h s
          refine s_store_row 0 h s row35 rfl rfl rfl (rfl) (rfl) (ltArr_ones _) ?_; intro w1 s
          refine s_nil ?_
          refine hK156 _ _ ?_
          refine c_region ?_
          refine s_pure h (ru_move (h.ev rfl)) rfl ?_; intro f h
          refine s_pure h (ru_field fld35_0 (h.ev rfl)) rfl ?_; intro f h
          refine s_load_at1 (cell_of_has (Has.of_own s 0 rfl) 0 (rfl)) h one3 rfl rfl ?_; intro f h
          refine s_mplook (X := .int .i64 (((ks.count (ks.getD i3 0) : Nat) : Int) - (((ks.take i3).count (ks.getD i3 0) : Nat) : Int))) 2 (ks.getD i3 0) h s Try.underlying43 Try.underlying3 zero3 rfl rfl rfl rfl (.inl ⟨hJ3, rfl⟩) rfl ?_; intro f h
          refine s_pure h (ru_sub (h.ev rfl) (h.ev rfl) (by omega)) rfl ?_; intro f h
          refine s_mpset 2 (ks.getD i3 0) h s Try.underlying43 Try.underlying3 rfl rfl rfl rfl rfl hJ3 ?_; intro w1 s
          replace s := s.reobj 2 rfl (mp_congr (fun j hj => rV_next hi3 j))
          refine s_nil ?_
          refine b_norm ?_
          refine hK155 _ _ ?_
          refine c_region ?_
          refine s_pure h (ru_add (h.ev rfl) (h.ev rfl) (by omega)) rfl ?_; intro f h
          refine s_pure h (ru_move (h.ev rfl)) rfl ?_; intro f h
          refine s_nil ?_
          refine t_norm ?_
          exact ⟨_, by omega, ⟨i3 + 1, h.only ⟨rfl, rfl, rfl, rfl, rfl, rfl, rfl, rfl, slot_int rfl (by omega), trivial⟩, St.as (s.pick _ (List.sublist_append_right [_] _)) ⟨rfl, rfl, rfl, rfl, trivial⟩, rfl, by omega⟩⟩
        · replace hc := of_decide_eq_false hc
          refine wpIn_exit ?_
          refine t_exit ?_
          refine t_exit ?_
          refine b_exit ?_
          refine hK151 _ _ ?_
          refine c_seq fun K157 hK157 => ?_
          refine c_seq fun K158 hK158 => ?_
          refine c_region ?_
          refine s_pure h (ru_move (h.ev rfl)) rfl ?_; intro f h
          obtain rfl : i3 = ks.length := by omega
          replace s := s.reobj (o' := mpO k (fun _ => .int .i64 0)) 1 rfl (mp_congr (fun j hj => rV_end ks j))
          refine s_range 1 h s Try.underlying43 rfl rfl rfl ?_; intro f w1 bi h s
          refine s_nil ?_
          refine hK158 _ _ ?_
          refine wpIn_block ?_
          refine wpIn_loop_ghost (fun nn aa ww => ∃ sn : Array Nat, Sl 222 aa [(0, v1), (1, v2), (5, .pointer (some ⟨b5, 0, none⟩)), (76, vm), (197, vm), (210, .pointer (some ⟨bi, 0, none⟩))] ∧ St w [.blk bi (.mapIter (some b26) k sn k), .sl vm 35 4 (mlO ps k ks).l.length (ltCells (mlO ps k ks).l), .blk b26 (mpO k (fun _ => .int .i64 0)), .blk b25 (mpO k (fun i => .string (dO ps i))), .blk b5 (.cells (mlArr (mlO ps k ks) vm) 24)] ww ∧ nn = (leftOf (mpE k (fun _ => Value.int .i64 0)) sn).size) ((leftOf (mpE k (fun _ => Value.int .i64 0)) (#[])).size) ⟨#[], h.only ⟨rfl, rfl, rfl, rfl, rfl, rfl, trivial⟩, s.as ⟨rfl, rfl, rfl, rfl, rfl, trivial⟩, rfl⟩ ?_
          rintro _ f w1 ⟨sn, h, s, hnn⟩
          refine c_seq fun K159 hK159 => ?_
          refine c_region ?_
          refine s_next 0 2 h s rfl rfl rfl rfl ?_; intro f w1 ok9 k9 v9 sn1 hnx h s
          refine s_pure h (ru_extract (h.ev rfl) (nxV_0 _ _ _)) rfl ?_; intro f h
          refine s_nil ?_
          refine hK159 _ _ ?_
          refine c_seq fun K160 hK160 => ?_
          refine c_cond h rfl (fun hc => ?_) (fun hc => ?_)
          · obtain ⟨q9, hq9, rfl, hlt⟩ := hnx hc
            refine wpIn_skip ?_
            refine hK160 _ _ ?_
            refine wpIn_block ?_
            refine c_seq fun K161 hK161 => ?_
            refine c_region ?_
            refine s_entry 0 2 h s rfl rfl rfl hq9 rfl ?_; intro f h
            refine s_pure h (ru_extract (h.ev rfl) rfl) rfl ?_; intro f h
            refine s_pure h (ru_assign (h.ev rfl)) rfl ?_; intro f h
            refine s_nil ?_
            refine hK161 _ _ ?_
            refine c_seq fun K162 hK162 => ?_
            refine c_region ?_
            refine s_pure h (ru_move (h.ev rfl)) rfl ?_; intro f h
            refine s_pure h (ru_val (.bool false) (ru_neq (h.ev rfl) (h.ev rfl)) (congrArg Value.bool (decide_eq_false (fun h9 => h9 rfl)))) rfl ?_; intro f h
            refine s_nil ?_
            refine hK162 _ _ ?_
            refine wpIn_cond_false (h.ev rfl) ?_
            refine wpIn_skip ?_
            refine b_norm ?_
            refine t_norm ?_
            exact ⟨_, by omega, ⟨sn.push q9, h.only ⟨rfl, rfl, rfl, rfl, rfl, rfl, trivial⟩, St.as s ⟨rfl, rfl, rfl, rfl, rfl, trivial⟩, rfl⟩⟩
          · refine wpIn_exit ?_
            refine t_exit ?_
            refine t_exit ?_
            refine b_exit ?_
            refine hK157 _ _ ?_
            refine c_seq fun K163 hK163 => ?_
            refine c_region ?_
            refine s_call h s fnc12 (alive_any _) rfl rfl ?_; intro f w1 v9 hT hE h s; obtain rfl := hT
            refine s_pure h (ru_move (h.ev rfl)) rfl ?_; intro f h
            refine s_on h rfl rfl rfl ?_
            refine s_load_row 4 h s row24 rfl rfl (rfl) rfl ?_; intro f h
            refine s_on h rfl rfl rfl ?_
            refine s_call h s fnc10 (ret_val (.bool true) (mright_any (mlO ps k ks) vm _ (RdZ.of_own (s.getSl 1 rfl)) (by omega)) (congrArg Value.bool (rightO hO9))) rfl rfl ?_; intro f w1 v9 hT hE h s; obtain rfl := hT
            refine s_pure h (ru_pick_t (h.ev rfl) (h.ev rfl)) rfl ?_; intro f h
            refine s_pure h (ru_assign (h.ev rfl)) rfl ?_; intro f h
            refine s_nil ?_
            refine hK163 _ _ ?_
            refine wpIn_ret ?_
            exact e_tmp rfl h s rfl (rfl)
    · replace hc := of_decide_eq_false hc
      refine wpIn_exit ?_
      refine t_exit ?_
      refine t_exit ?_
      refine b_exit ?_
      refine hK97 _ _ ?_
      refine c_seq fun K164 hK164 => ?_
      refine c_seq fun K165 hK165 => ?_
      refine c_region ?_
      have hO9 := hp1
      have hml := mlO_len ps k ks
      have hO64 := hp1.2.1
      refine s_pure h (ru_field fld24_0 (h.ev rfl)) rfl ?_; intro f h
      refine s_load_at1 (cell_of_has (Has.of_own s 3 rfl) 0 (rfl)) h one22 rfl rfl ?_; intro f h
      refine s_len_sl 0 h s Try.underlying22 rfl rfl rfl ?_; intro f h
      refine s_pure h (ru_move (h.ev rfl)) rfl ?_; intro f h
      refine s_nil ?_
      refine hK165 _ _ ?_
      refine wpIn_block ?_
      refine wpIn_loop_ghost (fun nn aa ww => ∃ i3 : Nat, Sl 222 aa [(0, v1), (1, v2), (5, .pointer (some ⟨b5, 0, none⟩)), (197, vm), (6, .map (some b25)), (7, .map (some b26)), (198, .int .i64 ((mlO ps k ks).l.length : Int)), (199, .int .i64 (i3 : Int))] ∧ St w [.sl vm 35 4 (mlO ps k ks).l.length (ltCells (mlO ps k ks).l), .blk b26 (mpO k (rV ks i3)), .blk b25 (mpO k (fun i => .string (dO ps i))), .blk b5 (.cells (mlArr (mlO ps k ks) vm) 24)] ww ∧ nn = ks.length - i3 ∧ i3 ≤ ks.length) (ks.length - (0)) ⟨0, h.only ⟨rfl, rfl, rfl, rfl, rfl, rfl, rfl, slot_int rfl (by omega), trivial⟩, s.as ⟨rfl, mp_blk (fun j hj => rV_zero ks j), rfl, rfl, trivial⟩, rfl, Nat.zero_le _⟩ ?_
      rintro _ f w1 ⟨i3, h, s, hnn, hp0⟩
      refine c_seq fun K166 hK166 => ?_
      refine c_region ?_
      refine s_pure h (ru_lss (h.ev rfl) (h.ev rfl)) rfl ?_; intro f h
      refine s_nil ?_
      refine hK166 _ _ ?_
      refine c_seq fun K167 hK167 => ?_
      refine c_cond h rfl (fun hc => ?_) (fun hc => ?_)
      · replace hc := of_decide_eq_true hc
        refine wpIn_skip ?_
        refine hK167 _ _ ?_
        refine c_seq fun K168 hK168 => ?_
        refine wpIn_block ?_
        refine c_seq fun K169 hK169 => ?_
        refine c_region ?_
        have hi3 : i3 < ks.length := by omega
        have hJ3 := okO_get hO9 hi3
        have hc1 := count_le ks (ks.getD i3 0)
        have hc2 := take_count ks i3 (ks.getD i3 0)
        have hO64 := hO9.2.1
        refine s_pure h (ru_ixz (RdZ.of_own (s.getSl 0 rfl)) (i3) Try.underlying22 szo35 (h.ev rfl) (h.ev rfl) (by omega) (by omega)) rfl ?_; intro f h
        refine s_load_at ((RdZ.of_own (s.getSl 0 rfl)).el (i3) (by omega) (by decide) (D := ltArr (ltO ps (ks.getD i3 0))) (el_O hi3)) h row35 rfl (rfl) rfl ?_; intro f h
        refine s_alloc (ltArr zLt) h s zero35 rfl rfl ?_; intro f w1 b22 h s
        refine s_store_row 0 h s row35 rfl rfl rfl (rfl) (rfl) (ltArr_ones _) ?_; intro w1 s
        refine s_nil ?_
        refine hK169 _ _ ?_
        refine c_region ?_
        refine s_pure h (ru_move (h.ev rfl)) rfl ?_; intro f h
        refine s_pure h (ru_field fld35_0 (h.ev rfl)) rfl ?_; intro f h
        refine s_load_at1 (cell_of_has (Has.of_own s 0 rfl) 0 (rfl)) h one3 rfl rfl ?_; intro f h
        refine s_mplook (X := .int .i64 (((ks.count (ks.getD i3 0) : Nat) : Int) - (((ks.take i3).count (ks.getD i3 0) : Nat) : Int))) 2 (ks.getD i3 0) h s Try.underlying43 Try.underlying3 zero3 rfl rfl rfl rfl (.inl ⟨hJ3, rfl⟩) rfl ?_; intro f h
        refine s_pure h (ru_sub (h.ev rfl) (h.ev rfl) (by omega)) rfl ?_; intro f h
        refine s_mpset 2 (ks.getD i3 0) h s Try.underlying43 Try.underlying3 rfl rfl rfl rfl rfl hJ3 ?_; intro w1 s
        replace s := s.reobj 2 rfl (mp_congr (fun j hj => rV_next hi3 j))
        refine s_nil ?_
        refine b_norm ?_
        refine hK168 _ _ ?_
        refine c_region ?_
        refine s_pure h (ru_add (h.ev rfl) (h.ev rfl) (by omega)) rfl ?_; intro f h
        refine s_pure h (ru_move (h.ev rfl)) rfl ?_; intro f h
        refine s_nil ?_
        refine t_norm ?_
        exact ⟨_, by omega, ⟨i3 + 1, h.only ⟨rfl, rfl, rfl, rfl, rfl, rfl, rfl, slot_int rfl (by omega), trivial⟩, St.as (s.pick _ (List.sublist_append_right [_] _)) ⟨rfl, rfl, rfl, rfl, trivial⟩, rfl, by omega⟩⟩
      · replace hc := of_decide_eq_false hc
        refine wpIn_exit ?_
        refine t_exit ?_
        refine t_exit ?_
        refine b_exit ?_
        refine hK164 _ _ ?_
        refine c_seq fun K170 hK170 => ?_
        refine c_seq fun K171 hK171 => ?_
        refine c_region ?_
        refine s_pure h (ru_move (h.ev rfl)) rfl ?_; intro f h
        obtain rfl : i3 = ks.length := by omega
        replace s := s.reobj (o' := mpO k (fun _ => .int .i64 0)) 1 rfl (mp_congr (fun j hj => rV_end ks j))
        refine s_range 1 h s Try.underlying43 rfl rfl rfl ?_; intro f w1 bi h s
        refine s_nil ?_
        refine hK171 _ _ ?_
        refine wpIn_block ?_
        refine wpIn_loop_ghost (fun nn aa ww => ∃ sn : Array Nat, Sl 222 aa [(0, v1), (1, v2), (5, .pointer (some ⟨b5, 0, none⟩)), (197, vm), (210, .pointer (some ⟨bi, 0, none⟩))] ∧ St w [.blk bi (.mapIter (some b26) k sn k), .sl vm 35 4 (mlO ps k ks).l.length (ltCells (mlO ps k ks).l), .blk b26 (mpO k (fun _ => .int .i64 0)), .blk b25 (mpO k (fun i => .string (dO ps i))), .blk b5 (.cells (mlArr (mlO ps k ks) vm) 24)] ww ∧ nn = (leftOf (mpE k (fun _ => Value.int .i64 0)) sn).size) ((leftOf (mpE k (fun _ => Value.int .i64 0)) (#[])).size) ⟨#[], h.only ⟨rfl, rfl, rfl, rfl, rfl, trivial⟩, s.as ⟨rfl, rfl, rfl, rfl, rfl, trivial⟩, rfl⟩ ?_
        rintro _ f w1 ⟨sn, h, s, hnn⟩
        refine c_seq fun K172 hK172 => ?_
        refine c_region ?_
        refine s_next 0 2 h s rfl rfl rfl rfl ?_; intro f w1 ok9 k9 v9 sn1 hnx h s
        refine s_pure h (ru_extract (h.ev rfl) (nxV_0 _ _ _)) rfl ?_; intro f h
        refine s_nil ?_
        refine hK172 _ _ ?_
        refine c_seq fun K173 hK173 => ?_
        refine c_cond h rfl (fun hc => ?_) (fun hc => ?_)
        · obtain ⟨q9, hq9, rfl, hlt⟩ := hnx hc
          refine wpIn_skip ?_
          refine hK173 _ _ ?_
          refine wpIn_block ?_
          refine c_seq fun K174 hK174 => ?_
          refine c_region ?_
          refine s_entry 0 2 h s rfl rfl rfl hq9 rfl ?_; intro f h
          refine s_pure h (ru_extract (h.ev rfl) rfl) rfl ?_; intro f h
          refine s_pure h (ru_assign (h.ev rfl)) rfl ?_; intro f h
          refine s_nil ?_
          refine hK174 _ _ ?_
          refine c_seq fun K175 hK175 => ?_
          refine c_region ?_
          refine s_pure h (ru_move (h.ev rfl)) rfl ?_; intro f h
          refine s_pure h (ru_val (.bool false) (ru_neq (h.ev rfl) (h.ev rfl)) (congrArg Value.bool (decide_eq_false (fun h9 => h9 rfl)))) rfl ?_; intro f h
          refine s_nil ?_
          refine hK175 _ _ ?_
          refine wpIn_cond_false (h.ev rfl) ?_
          refine wpIn_skip ?_
          refine b_norm ?_
          refine t_norm ?_
          exact ⟨_, by omega, ⟨sn.push q9, h.only ⟨rfl, rfl, rfl, rfl, rfl, trivial⟩, St.as s ⟨rfl, rfl, rfl, rfl, rfl, trivial⟩, rfl⟩⟩
        · refine wpIn_exit ?_
          refine t_exit ?_
          refine t_exit ?_
          refine b_exit ?_
          refine hK170 _ _ ?_
          refine c_seq fun K176 hK176 => ?_
          refine c_region ?_
          refine s_call h s fnc12 (alive_any _) rfl rfl ?_; intro f w1 v9 hT hE h s; obtain rfl := hT
          refine s_pure h (ru_move (h.ev rfl)) rfl ?_; intro f h
          refine s_on h rfl rfl rfl ?_
          refine s_load_row 4 h s row24 rfl rfl (rfl) rfl ?_; intro f h
          refine s_on h rfl rfl rfl ?_
          refine s_call h s fnc10 (ret_val (.bool true) (mright_any (mlO ps k ks) vm _ (RdZ.of_own (s.getSl 1 rfl)) (by omega)) (congrArg Value.bool (rightO hO9))) rfl rfl ?_; intro f w1 v9 hT hE h s; obtain rfl := hT
          refine s_pure h (ru_pick_t (h.ev rfl) (h.ev rfl)) rfl ?_; intro f h
          refine s_pure h (ru_assign (h.ev rfl)) rfl ?_; intro f h
          refine s_nil ?_
          refine hK176 _ _ ?_
          refine wpIn_ret ?_
          exact e_tmp rfl h s rfl (rfl)
end Go.Proofs.Ytbgkoikpdhecfaa
