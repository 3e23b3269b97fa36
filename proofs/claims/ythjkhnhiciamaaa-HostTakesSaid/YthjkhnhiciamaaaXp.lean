/- What package host answers: what a message does. -/
import Derived.Test.YthjkhnhiciamaaaXn
set_option linter.unusedVariables false
set_option linter.unusedSimpArgs false
set_option linter.unusedSectionVars false
namespace Go.Proofs.Ythjkhnhiciamaaa
open Go.RowKit
theorem qadr_any (fr : Int) (hfr : -9223372036854775808 ≤ fr ∧ fr ≤ 9223372036854775807)  (w : World) : Calls Try.prog 46 [.int .i64 fr].toArray w (Ret w (is (.bool (inb fr 0 31)))) := by
  refine c_en Try.func46 rfl Try.ntmps46 rfl fun f h s => qre hFT9 1 h rfl fun f h => c_seqN ?_
  refine rs hFT9 1 h rfl fun f h => s_cx h s fnc57 (qsrv_any fr _) rfl rfl (fun h0 f w1 h s => ?_) (fun h0 f w1 h s => ?_)
  · refine s_run hFT9 2 h rfl fun f h => s_o h rfl (s_pure h (ru_subw (h.ev rfl) (h.ev rfl)) rfl fun f h => s_o h rfl (s_cv h s fnc56 (qhst_any (IntKind.wrap .i64 (fr - 16)) _) rfl rfl fun f w1 h s => e9 hFT9 2 h rfl fun f h => wpIn_ret (e_tmp rfl h s rfl (by show _ = _; rw [hadr_iff hfr h0]))))
  · refine e9 hFT9 6 h rfl fun f h => wpIn_ret (e_tmp rfl h s rfl (by show _ = _; rw [hadr_y h0]))

theorem qheed_any (ho : Ho) (vw vh vi : Value) (m : Mg) (vs : Value) (bi : Nat) (w : World) (hb : Tab w bi (hoArr ho.no ho.gt vw vh vi)) (hHo : RdH w vw vh vi ho) (hB9 : ho.ws.length ≤ 1000 ∧ ho.hs.length ≤ 1000 ∧ ho.bx.length ≤ 1000) (hV : RdE w vs m.l) : Calls Try.prog 71 [.pointer (some ⟨bi, 0, none⟩), .agg (mArr m vs)].toArray w (Ret w (is (.int .i64 (hdE ho m)))) := by
  obtain ⟨hw9, hh9, hi9⟩ := hB9
  refine c_en Try.func71 rfl Try.ntmps71 rfl fun f h s => qr (s_box (mArr m vs) h s rfl rfl rfl fun f w1 b3 h s => e9 hFT9 1 h rfl fun f h => c_seqN (c_seqN (c_wA 8 h (by kernel_rfl) (w_run hFT9 3 h rfl fun f h => w_load_at1 (V := vw) (cell_of_has (Has.of_tab (hb.keep s.ext)) 2 (rfl)) h one71 rfl rfl fun f h => w_run hFT9 1 h rfl fun f h => w_load_at (Has.subL (Has.of_own s 0 rfl) 1 32 (D := idArr m.i) (mArr_i _ _)) h row28 rfl (by first | exact idArr_size _ | exact bytesF_size _ _) rfl fun f h => w_call h fnc31 (fun w9 hE9 => qplw_any ho.ws vw m.i w9 (hHo.1.keep (s.ext.trans hE9)) hw9) rfl rfl fun f h => w_run hFT9 1 h rfl fun f h => w_nil s fun w1 s => nt (c_cond h rfl (fun hc => ?_) (fun hc => ?_))))))
  · have wb : decide (wtI ho m.i < 0) = true := hc
    refine qre hFT9 1 h rfl fun f h => rt (e_tmp rfl h s rfl (by show _ = _; unfold hdE; rw [wb]; rfl))
  · have wb : decide (wtI ho m.i < 0) = false := hc
    refine kt (qre hFT9 1 h rfl fun f h => wpIn_ret (e_tmp rfl h s rfl (by show _ = _; unfold hdE; rw [wb]; rfl)))

/- fld49_1 fld49_2 fld49_5 -/
theorem qecho_any (ho : Ho) (vw vh vi : Value) (fr : Int) (m : Mg) (vs : Value) (bi : Nat) (w : World) (hb : Tab w bi (hoArr ho.no ho.gt vw vh vi)) (hHo : RdH w vw vh vi ho) (hB9 : ho.ws.length ≤ 1000 ∧ ho.hs.length ≤ 1000 ∧ ho.bx.length ≤ 1000) (hV : RdE w vs m.l) : Calls Try.prog 70 [.pointer (some ⟨bi, 0, none⟩), .int .i64 fr, .agg (mArr m vs)].toArray w (Ret w (fun v w' => ∃ ul K kk, v = .tuple #[ul, .int .i64 (ecE ho m)] ∧ sends K = ecL ho fr m ∧ St w [.grp kk (fun w9 => RdS w9 ul K)] w')) := by
  obtain ⟨hw9, hh9, hi9⟩ := hB9
  refine c_en Try.func70 rfl Try.ntmps70 rfl fun f h s => qr (s_box (mArr m vs) h s rfl rfl rfl fun f w1 b5 h s => e9 hFT9 2 h rfl fun f h => c_seqN (c_seqN ?_))
  cases q1 : (decide (m.t = selfH ho) : Bool)
  · refine c_wA 7 h (by kernel_rfl) (w_run hFT9 1 h rfl fun f h => w_load_at (Has.subL (Has.of_own s 0 rfl) 33 34 (D := eArr m.t) (mArr_t _ _)) h row47 rfl (eArr_size _) rfl fun f h => w_run hFT9 2 h rfl fun f h => w_load_at (Has.subL (Has.of_tab (hb.keep s.ext)) 0 5 (D := hoArr ho.no ho.gt vw vh vi) (rfl)) h row74 rfl (hoArr_size _ _ _ _ _) rfl fun f h => w_call h fnc38 (fun w9 hE9 => qent_any ho vw vh vi w9 (rd_one hHo.1) (rd_one hHo.2.1) (rd_one hHo.2.2)) rfl rfl fun f h => w_pure h (ru_val (.bool true) (ru_neqW (eqE _ _) (by kernel_rfl) (by decide) (h.ev rfl) (h.ev rfl) (decide (m.t = selfH ho)) (eEq _ _)) (congrArg Value.bool (by simpa using q1))) rfl fun f h => w_nil s fun w1 s => nct h rfl (qre hFT9 2 h rfl fun f h => rt (e_tmps rfl h s rfl rfl (ecp_no (ec_1 q1) (s.pick _ (List.nil_sublist _))))))
  · refine c_wA 7 h (by kernel_rfl) (w_run hFT9 1 h rfl fun f h => w_load_at (Has.subL (Has.of_own s 0 rfl) 33 34 (D := eArr m.t) (mArr_t _ _)) h row47 rfl (eArr_size _) rfl fun f h => w_run hFT9 2 h rfl fun f h => w_load_at (Has.subL (Has.of_tab (hb.keep s.ext)) 0 5 (D := hoArr ho.no ho.gt vw vh vi) (rfl)) h row74 rfl (hoArr_size _ _ _ _ _) rfl fun f h => w_call h fnc38 (fun w9 hE9 => qent_any ho vw vh vi w9 (rd_one hHo.1) (rd_one hHo.2.1) (rd_one hHo.2.2)) rfl rfl fun f h => w_pure h (ru_val (.bool false) (ru_neqW (eqE _ _) (by kernel_rfl) (by decide) (h.ev rfl) (h.ev rfl) (decide (m.t = selfH ho)) (eEq _ _)) (congrArg Value.bool (by simpa using q1))) rfl fun f h => w_nil s fun w1 s => ncfk h rfl (c_seqN (c_wA 8 h (by kernel_rfl) (w_run hFT9 3 h rfl fun f h => w_load_at1 (V := vw) (cell_of_has (Has.of_tab (hb.keep s.ext)) 2 (rfl)) h one71 rfl rfl fun f h => w_run hFT9 1 h rfl fun f h => w_load_at (Has.subL (Has.of_own s 0 rfl) 1 32 (D := idArr m.i) (mArr_i _ _)) h row28 rfl (by first | exact idArr_size _ | exact bytesF_size _ _) rfl fun f h => w_call h fnc31 (fun w9 hE9 => ret_val (.int .i64 (wtI ho m.i)) (qplw_any ho.ws vw m.i w9 (hHo.1.keep (s.ext.trans hE9)) hw9) (rfl)) rfl rfl fun f h => w_run hFT9 1 h rfl fun f h => w_nil s fun w1 s => nt (c_seqN (qre hFT9 2 h rfl fun f h => c_cond h rfl (fun hc => ?_) (fun hc => ?_)))))))
    · have wa := hc
      refine qre hFT9 2 h rfl fun f h => rt (e_tmps rfl h s rfl rfl (ecp_no (ec_2 q1 wa) (s.pick _ (List.nil_sublist _))))
    · have wa := hc
      have hwt := wt_get (of_decide_eq_false wa)
      refine kt (c_seqN (c_regT 0 16 [[], [0], [], [2], [], [4], [4, 5], [4, 5, 6], [], [4, 5, 6, 7, 8], [4, 5, 6, 7, 8, 9], [4, 5, 6, 7, 8, 9, 10], [], [12], [0, 1, 2, 3, 4, 5, 6, 7, 8, 9, 10, 11, 12, 13], [], [0, 1, 2, 3, 4, 5, 6, 7, 8, 9, 10, 11, 12, 13, 14, 15]] [[], [], [], [], [], [], [], [], [], [], [], [], [], [], [], [], []] [] [.v _, .v (.agg (idArr m.i)), .v _, .v (.agg (eArr m.t)), .v _, .v _, .v (.pointer (some ⟨bi, 2, none⟩)), .v vw, .v (.int .i64 (wtI ho m.i)), .v (.pointer (some (elAddr vw ((wtI ho m.i).toNat * 33)))), .v (.pointer (some (elAddr vw ((wtI ho m.i).toNat * 33 + 32)))), .v (.int .i64 (ho.ws.getD (wtI ho m.i).toNat zWn).2), .v _, .v (.string m.o), .v (.agg (mArr (echG ho m) nilV)), .q (fun v => [.blk (pbk (v 15)) (.cells (mArr mZ nilV) 49)]), .n] _ h s rfl (by kernel_rfl) (by kernel_rfl) (by kernel_rfl) (oPu hFT9 h rfl rfl rfl (oAI ?_ (oPu hFT9 h rfl rfl rfl (oAI ?_ (oPu hFT9 h rfl rfl rfl (oPu hFT9 h rfl rfl rfl (oAI ?_ (oAI ?_ (oAI ?_ (oAI ?_ (oAI ?_ (oAI ?_ (oPu hFT9 h rfl rfl rfl (oAI ?_ (oAI ?_ (oAI ?_ (trivial))))))))))))))))) [0, 1, 2, 3, 4, 5, 6, 7, 8, 9, 10, 11, 12, 13, 14, 15] (by kernel_rfl) ?_))
      · intro f9 w2 vl6 E9 hs9 hd9 hl hF s
        have h := f9h [(26, _)] h hs9 hd9 ⟨oc_g hl 26 0 (by kernel_rfl) (hF 0 (by decide)), trivial⟩
        refine s_load_at (Has.subL (Has.of_own s 0 rfl) 1 32 (D := idArr m.i) (mArr_i _ _)) h row28 rfl (by first | exact idArr_size _ | exact bytesF_size _ _) rfl fun f h => s_nil ⟨_, oc_u 27 h rfl rfl, rfl, s⟩
      · intro f9 w2 vl6 E9 hs9 hd9 hl hF s
        have h := f9h [(28, _)] h hs9 hd9 ⟨oc_g hl 28 2 (by kernel_rfl) (hF 2 (by decide)), trivial⟩
        refine s_load_at (Has.subL (Has.of_own s 0 rfl) 33 34 (D := eArr m.t) (mArr_t _ _)) h row47 rfl (eArr_size _) rfl fun f h => s_nil ⟨_, oc_u 29 h rfl rfl, rfl, s⟩
      · intro f9 w2 vl6 E9 hs9 hd9 hl hF s
        have h := f9h [(31, _)] h hs9 hd9 ⟨oc_g hl 31 5 (by kernel_rfl) (hF 5 (by decide)), trivial⟩
        refine s_run hFT9 1 h rfl fun f h => s_nil ⟨_, oc_u 32 h rfl rfl, rfl, s⟩
      · intro f9 w2 vl6 E9 hs9 hd9 hl hF s
        have h := f9h [(32, _)] h hs9 hd9 ⟨oc_g hl 32 6 (by kernel_rfl) (hF 6 (by decide)), trivial⟩
        refine s_load_at1 (V := vw) (cell_of_has (Has.of_tab (hb.keep s.ext)) 2 (rfl)) h one71 rfl rfl fun f h => s_nil ⟨_, oc_u 33 h rfl rfl, rfl, s⟩
      · intro f9 w2 vl6 E9 hs9 hd9 hl hF s
        have h := f9h [(8, _)] h hs9 hd9 ⟨oc_o hl 8 (by kernel_rfl) (h.holds 8 _ rfl), trivial⟩
        refine s_run hFT9 1 h rfl fun f h => s_nil ⟨_, oc_u 34 h rfl rfl, rfl, s⟩
      · intro f9 w2 vl6 E9 hs9 hd9 hl hF s
        have h := f9h [(33, _), (34, _)] h hs9 hd9 ⟨oc_g hl 33 7 (by kernel_rfl) (hF 7 (by decide)), oc_g hl 34 8 (by kernel_rfl) (hF 8 (by decide)), trivial⟩
        refine s_pure h (ru_ixz (hHo.1.keep s.ext) ((wtI ho m.i).toNat) Try.underlying71 szo79 (h.ev rfl) (h.ev rfl) (hwt.1) (hwt.2)) rfl fun f h => s_nil ⟨_, oc_u 35 h rfl rfl, rfl, s⟩
      · intro f9 w2 vl6 E9 hs9 hd9 hl hF s
        have h := f9h [(35, _)] h hs9 hd9 ⟨oc_g hl 35 9 (by kernel_rfl) (hF 9 (by decide)), trivial⟩
        refine s_pure h (ru_fieldE fld79_1 (h.ev rfl) ((hHo.1.keep s.ext).some (by omega))) rfl fun f h => s_nil ⟨_, oc_u 36 h rfl rfl, rfl, s⟩
      · intro f9 w2 vl6 E9 hs9 hd9 hl hF s
        have h := f9h [(36, _)] h hs9 hd9 ⟨oc_g hl 36 10 (by kernel_rfl) (hF 10 (by decide)), trivial⟩
        refine s_load_at1 (V := .int .i64 (ho.ws.getD (wtI ho m.i).toNat zWn).2) (rdz_at (hHo.1.keep s.ext) ((wtI ho m.i).toNat * 33 + 32) (wn_c32 _ _ hwt.2)) h one3 rfl rfl fun f h => s_nil ⟨_, oc_u 37 h rfl rfl, rfl, s⟩
      · intro f9 w2 vl6 E9 hs9 hd9 hl hF s
        have h := f9h [(38, _)] h hs9 hd9 ⟨oc_g hl 38 12 (by kernel_rfl) (hF 12 (by decide)), trivial⟩
        refine s_load_at1 (cell_of_has (Has.of_own s 0 rfl) 69 (mArr_o _ _)) h one9 rfl rfl fun f h => s_nil ⟨_, oc_u 39 h rfl rfl, rfl, s⟩
      · intro f9 w2 vl6 E9 hs9 hd9 hl hF s
        have h := f9h [(27, _), (29, _), (37, _), (39, _)] h hs9 hd9 ⟨oc_g hl 27 1 (by kernel_rfl) (hF 1 (by decide)), oc_g hl 29 3 (by kernel_rfl) (hF 3 (by decide)), oc_g hl 37 11 (by kernel_rfl) (hF 11 (by decide)), oc_g hl 39 13 (by kernel_rfl) (hF 13 (by decide)), trivial⟩
        refine s_pure h (ru_build_m01245 sttM rfl (h.ev rfl) (h.ev rfl) (h.ev rfl) (h.ev rfl)) rfl fun f h => s_nil ⟨_, oc_u 40 h rfl rfl, rfl, s⟩
      · intro f9 w2 vl6 E9 hs9 hd9 hl hF s
        have h := fin_slot [] (hs9.trans h.size) (hd9.trans h.defers) (holds_lk trivial)
        refine s_alloc (mArr mZ nilV) h s zero49 rfl rfl fun f w1 b9 h s => s_nil ⟨_, oc_u 9 h rfl rfl, ⟨_, rfl⟩, s⟩
      intro f w1 vl6 hs9 hd9 hv hr hF s
      replace hv := fun i d h9 => hv i d (show Nat.blt i 16 = true from h9)
      obtain ⟨b9, hb9⟩ : ∃ b, vl6 15 = .pointer (some ⟨b, 0, none⟩) := hF 15 (by kernel_rfl)
      replace h := oc_slT 16 (ops := _) [(26, _), (27, _), (28, _), (29, _), (30, _), (31, _), (32, _), (33, _), (34, _), (35, _), (36, _), (37, _), (38, _), (39, _), (40, _), (9, .pointer (some ⟨b9, 0, none⟩))] h hs9 hd9 hr ⟨(hv 0 26 rfl rfl).trans (hF 0 rfl), (hv 1 27 rfl rfl).trans (hF 1 rfl), (hv 2 28 rfl rfl).trans (hF 2 rfl), (hv 3 29 rfl rfl).trans (hF 3 rfl), (hv 4 30 rfl rfl).trans (hF 4 rfl), (hv 5 31 rfl rfl).trans (hF 5 rfl), (hv 6 32 rfl rfl).trans (hF 6 rfl), (hv 7 33 rfl rfl).trans (hF 7 rfl), (hv 8 34 rfl rfl).trans (hF 8 rfl), (hv 9 35 rfl rfl).trans (hF 9 rfl), (hv 10 36 rfl rfl).trans (hF 10 rfl), (hv 11 37 rfl rfl).trans (hF 11 rfl), (hv 12 38 rfl rfl).trans (hF 12 rfl), (hv 13 39 rfl rfl).trans (hF 13 rfl), (hv 14 40 rfl rfl).trans (hF 14 rfl), (hv 15 9 rfl rfl).trans hb9, trivial⟩ (by kernel_rfl)
      replace s : St w [.blk (pbk (vl6 15)) (.cells (mArr mZ nilV) 49), .blk b5 (.cells (mArr m vs) 49)] _ := s
      rw [hb9] at s
      replace s : St w [.blk b9 (.cells (mArr mZ nilV) 49), .blk b5 (.cells (mArr m vs) 49)] _ := s
      refine s_store_row 0 h s row49 rfl rfl rfl (mArr_size _ _) (mArr_size _ _) (mArr_ones _ _ rfl) fun w1 s => nt (qrs hFT9 1 h rfl fun f h => s_load_row 0 h s row49 rfl rfl (mArr_size _ _) rfl fun f h => s_pure h (ru_build_se2 sttSe (h.ev rfl) (h.ev rfl)) rfl fun f h => s_bslice (vs := [.agg (seArr fr (echG ho m) nilV zTg)]) [.tmp 43] h s Try.underlying43 elm53 rfl rfl (s2_sz (((fr, echG ho m, zTg), nilV) : S2)) rfl rfl rfl fun f w1 v44 h s => ?_)
      replace s := s.resl (m := [(((fr, echG ho m, zTg), nilV) : S2)].length) (ys := seCells [(((fr, echG ho m, zTg), nilV) : S2)]) 0 rfl rfl (by exact s2_put [] (((fr, echG ho m, zTg), nilV) : S2))
      refine e9 hFT9 2 h rfl fun f h => wpIn_ret (e_tmps rfl h s rfl rfl (ecp_ok (ec_3 q1 wa) (s.sel [0] rfl (by decide))))

/- fld49_6 fld74_4 -/
set_option maxHeartbeats 1000000 in
theorem qkeep_any (ho : Ho) (vw vh vi : Value) (m : Mg) (vs : Value) (bi : Nat) (B9 : List Own) (w0 w : World) (s : St w0 (.sl vi 9 1 ho.bx.length (txC ho.bx) :: .blk bi (.cells (hoArr ho.no ho.gt vw vh vi) 74) :: B9) w) (hV : RdE w0 vs m.l) (hl1 : 1 ≤ m.l.length) (h1 : vw.oneCell' = true) (h2 : vh.oneCell' = true) (hi9 : ho.bx.length ≤ 1000) : Calls Try.prog 69 [.pointer (some ⟨bi, 0, none⟩), .agg (mArr m vs)].toArray w (fun e w9 => ∃ v, e = .returned v ∧ v = .int .i64 (kqE ho m) ∧ ∃ ui, St w0 (.sl ui 9 1 (kqB ho m).length (txC (kqB ho m)) :: .blk bi (.cells (hoArr ho.no ho.gt vw vh ui) 74) :: B9) w9) := by
  have h3 := rd_one (RdZ.of_own (s.getSl 0 rfl))
  refine c_enterF Try.func69 rfl Try.ntmps69 rfl [(0, .pointer (some ⟨bi, 0, none⟩)), (1, .agg (mArr m vs))] (by simp) fun f h => ?_
  refine qr (s_box (mArr m vs) h s rfl rfl rfl fun f w1 b3 h s => e9 hFT9 1 h rfl fun f h => c_seqN (c_seqN ?_))
  cases q0 : (decide ((m.l.getD 0 (0, 0#256, 0)) = selfH ho) : Bool)
  · refine c_wA 9 h (by kernel_rfl) (w_run hFT9 1 h rfl fun f h => w_load_at1 (cell_of_has (Has.of_own s 0 rfl) 67 (mArr_v _ _)) h one42 rfl rfl fun f h => w_pure h (ru_ixz (hV.keep s.ext) (0) Try.underlying42 szo47 (h.ev rfl) (h.ev rfl) (rfl) (by omega)) rfl fun f h => w_load_at ((hV.keep s.ext).el (0) (by omega) (by decide) (D := eArr (m.l.getD 0 (0, 0#256, 0))) (e_elD m.l 0 (by omega))) h row47 rfl (eArr_size _) rfl fun f h => w_run hFT9 2 h rfl fun f h => w_load_row 2 h s row74 rfl rfl (hoArr_size _ _ _ _ _) rfl fun f h => w_call h fnc38 (fun w9 hE9 => qent_any ho vw vh vi w9 h1 h2 h3) rfl rfl fun f h => w_pure h (ru_val (.bool true) (ru_neqW (eqE _ _) (by kernel_rfl) (by decide) (h.ev rfl) (h.ev rfl) (decide ((m.l.getD 0 (0, 0#256, 0)) = selfH ho)) (eEq _ _)) (congrArg Value.bool (by simpa using q0))) rfl fun f h => w_nil s fun w1 s => nct h rfl (qre hFT9 1 h rfl fun f h => rt (e_tmpF rfl h rfl (by rw [(kw_1 q0).1, (kw_1 q0).2]; replace s := s.bring 2 rfl; replace s := s.bring 2 rfl; exact ⟨_, rfl, rfl, vi, (s.pick _ (List.Sublist.cons_cons _ (List.Sublist.cons_cons _ (List.Sublist.cons _ (List.Sublist.refl _)))))⟩))))
  · refine c_wA 9 h (by kernel_rfl) (w_run hFT9 1 h rfl fun f h => w_load_at1 (cell_of_has (Has.of_own s 0 rfl) 67 (mArr_v _ _)) h one42 rfl rfl fun f h => w_pure h (ru_ixz (hV.keep s.ext) (0) Try.underlying42 szo47 (h.ev rfl) (h.ev rfl) (rfl) (by omega)) rfl fun f h => w_load_at ((hV.keep s.ext).el (0) (by omega) (by decide) (D := eArr (m.l.getD 0 (0, 0#256, 0))) (e_elD m.l 0 (by omega))) h row47 rfl (eArr_size _) rfl fun f h => w_run hFT9 2 h rfl fun f h => w_load_row 2 h s row74 rfl rfl (hoArr_size _ _ _ _ _) rfl fun f h => w_call h fnc38 (fun w9 hE9 => qent_any ho vw vh vi w9 h1 h2 h3) rfl rfl fun f h => w_pure h (ru_val (.bool false) (ru_neqW (eqE _ _) (by kernel_rfl) (by decide) (h.ev rfl) (h.ev rfl) (decide ((m.l.getD 0 (0, 0#256, 0)) = selfH ho)) (eEq _ _)) (congrArg Value.bool (by simpa using q0))) rfl fun f h => w_nil s fun w1 s => ncfk h rfl (c_seqN (qrs hFT9 3 h rfl fun f h => s_load_at1 (V := vi) (cell_of_has (Has.of_own s 2 rfl) 4 (ho_i _ _ _ _ _)) h one24 rfl rfl fun f h => s_len_sl 1 h s Try.underlying24 rfl rfl rfl fun f h => e9 hFT9 1 h rfl fun f h => c_cond h rfl (fun hc => ?_) (fun hc => ?_))))
    · have x2 : decide (ho.bx.length = 32) = true := decide_eq_true (by have := of_decide_eq_true hc; omega)
      refine qre hFT9 1 h rfl fun f h => rt (e_tmpF rfl h rfl (by rw [(kw_2 q0 x2).1, (kw_2 q0 x2).2]; replace s := s.bring 2 rfl; replace s := s.bring 2 rfl; exact ⟨_, rfl, rfl, vi, (s.pick _ (List.Sublist.cons_cons _ (List.Sublist.cons_cons _ (List.Sublist.cons _ (List.Sublist.refl _)))))⟩))
    · have x2 : decide (ho.bx.length = 32) = false := decide_eq_false (by have := of_decide_eq_false hc; omega)
      refine kt (c_seqN ?_)
      replace s := s.bring 1 rfl
      replace s : St w0 (.sl vi 9 1 ho.bx.length (txC ho.bx) :: .blk b3 (.cells (mArr m vs) 49) :: .blk bi (.cells (hoArr ho.no ho.gt vw vh vi) 74) :: B9) _ := s
      refine c_regT 1 9 [[], [], [1], [1, 2], [1, 2, 3], [], [5], [5, 6], [1, 2, 3, 4, 5, 6, 7], [0, 1, 2, 3, 4, 5, 6, 7, 8], [0, 1, 2, 3, 4, 5, 6, 7, 8, 9], [0, 1, 2, 3, 4, 5, 6, 7, 8, 9, 10]] [[], [], [], [], [], [], [], [], [7, 12], [], [], []] [[_]] [.v _, .v _, .v _, .v _, .v vi, .v _, .v (.string m.d), .m (fun v => [.sl (v 7) 9 1 1 (txC [m.d])]), .m (fun v => [.sl (v 8) 9 1 (ho.bx ++ [m.d]).length (txC (ho.bx ++ [m.d]))]), .n, .n, .n] _ h s rfl (by kernel_rfl) (by kernel_rfl) (by kernel_rfl) (oPu hFT9 h rfl rfl rfl (oPu hFT9 h rfl rfl rfl (oPu hFT9 h rfl rfl rfl (oPu hFT9 h rfl rfl rfl (oAI ?_ (oPu hFT9 h rfl rfl rfl (oAI ?_ (oAI ?_ (oAI ?_ (trivial)))))))))) [0, 1, 2, 3, 4, 5, 6, 8] (by kernel_rfl) ?_
      · intro f9 w2 vl5 E9 hs9 hd9 hl hF s
        have h := f9h [(23, _)] h hs9 hd9 ⟨oc_g hl 23 3 (by kernel_rfl) (hF 3 (by decide)), trivial⟩
        refine s_load_at1 (V := vi) (cell_of_has (Has.of_own s 1 rfl) 4 (ho_i _ _ _ _ _)) h one24 rfl rfl fun f h => s_nil ⟨_, oc_u 24 h rfl rfl, rfl, s⟩
      · intro f9 w2 vl5 E9 hs9 hd9 hl hF s
        have h := f9h [(25, _)] h hs9 hd9 ⟨oc_g hl 25 5 (by kernel_rfl) (hF 5 (by decide)), trivial⟩
        refine s_load_at1 (cell_of_has (Has.of_own s 0 rfl) 70 (mArr_d _ _)) h one9 rfl rfl fun f h => s_nil ⟨_, oc_u 26 h rfl rfl, rfl, s⟩
      · intro f9 w2 vl5 E9 hs9 hd9 hl hF s
        have h := f9h [(26, _)] h hs9 hd9 ⟨oc_g hl 26 6 (by kernel_rfl) (hF 6 (by decide)), trivial⟩
        refine s_bslice (vs := [.string m.d]) [.tmp 26] h s Try.underlying24 elm9 rfl rfl (st_sz _) rfl rfl rfl fun f w1 v27 h s => ?_
        replace s := s.resl (m := 1) (ys := txC [m.d]) 0 rfl rfl rfl
        exact s_nil ⟨_, oc_u 27 h rfl rfl, trivial, s⟩
      · intro f9 w2 vl5 E9 hs9 hd9 hl hF s
        have e24 : f9.tmps.getD 24 undef = vi := (oc_get hl 24 4 (by kernel_rfl) (by kernel_rfl)).trans (hF 4 (by decide))
        have e27 : f9.tmps.getD 27 undef = (vl5 7) := oc_get hl 27 7 (by kernel_rfl) (by kernel_rfl)
        have h := fin_slot [(24, vi), (27, (vl5 7))] (hs9.trans h.size) (hd9.trans h.defers) (holds_lk ⟨e24, e27, trivial⟩)
        refine s_append 1 0 h s Try.underlying24 elm9 rfl rfl rfl rfl (by decide) (txC_ones [m.d]) (by unfold maxLen; omega) (by omega) rfl fun f w1 v28 h s => ?_
        replace s := s.pick _ (List.sublist_cons_self _ _)
        replace s := s.resl (m := (ho.bx ++ [m.d]).length) (ys := txC (ho.bx ++ [m.d])) 0 rfl (by rw [List.length_append]; rfl) (by rw [txC_app])
        exact s_nil ⟨_, oc_u 28 h rfl rfl, trivial, s⟩
      intro f w1 vl5 hs9 hd9 hv hr hF s
      replace hv := fun i d h9 => hv i d (show Nat.blt i 9 = true from h9)
      replace h := oc_slT 9 (ops := _) [(20, _), (21, _), (22, _), (23, _), (24, _), (25, _), (26, _), (27, (vl5 7)), (28, (vl5 8))] h hs9 hd9 hr ⟨(hv 0 20 rfl rfl).trans (hF 0 rfl), (hv 1 21 rfl rfl).trans (hF 1 rfl), (hv 2 22 rfl rfl).trans (hF 2 rfl), (hv 3 23 rfl rfl).trans (hF 3 rfl), (hv 4 24 rfl rfl).trans (hF 4 rfl), (hv 5 25 rfl rfl).trans (hF 5 rfl), (hv 6 26 rfl rfl).trans (hF 6 rfl), hv 7 27 rfl rfl, hv 8 28 rfl rfl, trivial⟩ (by kernel_rfl)
      replace s : St w0 (.sl (vl5 8) 9 1 (ho.bx ++ [m.d]).length (txC (ho.bx ++ [m.d])) :: .blk b3 (.cells (mArr m vs) 49) :: .blk bi (.cells (hoArr ho.no ho.gt vw vh vi) 74) :: B9) _ := s
      refine s_run hFT9 2 h rfl fun f h => s_store_one 2 h s one24 rfl rfl rfl (by rw [hoArr_size]; omega) (own_one (s.getSl 0 rfl)) fun w1 s => ?_
      replace s := s.recell (D := hoArr ho.no ho.gt vw vh (vl5 8)) 2 rfl (rfl)
      refine nt (qre hFT9 1 h rfl fun f h => wpIn_ret (e_tmpF rfl h rfl (by rw [(kw_3 q0 x2).1, (kw_3 q0 x2).2]; replace s := s.bring 2 rfl; replace s := s.bring 1 rfl; exact ⟨_, rfl, rfl, (vl5 8), (s.pick _ (List.Sublist.cons_cons _ (List.Sublist.cons_cons _ (List.Sublist.cons _ (List.Sublist.refl _)))))⟩)))

/- fld49_1 fld49_4 fld74_3 -/
set_option maxHeartbeats 2000000 in
theorem qlearn_any (ho : Ho) (vw vh vi : Value) (m : Mg) (vs : Value) (now : Int) (bi : Nat) (B9 : List Own) (w0 w : World) (s : St w0 (.sl vh 105 34 ho.hs.length (hnCells ho.hs) :: .blk bi (.cells (hoArr ho.no ho.gt vw vh vi) 74) :: B9) w) (hV : RdE w0 vs m.l) (hn9 : 0 ≤ now ∧ now ≤ 1099511627776) (h1 : vw.oneCell' = true) (h3 : vi.oneCell' = true) (hh8 : ho.hs.length ≤ 8) : Calls Try.prog 72 [.pointer (some ⟨bi, 0, none⟩), .agg (mArr m vs), .int .i64 now].toArray w (fun e w9 => ∃ v, e = .returned v ∧ LnP w0 bi 74 B9 ho vw vi m now v w9) := by
  have h2 := rd_one (RdZ.of_own (s.getSl 0 rfl))
  have hh9 : ho.hs.length ≤ 1000 := by omega
  refine c_enterF Try.func72 rfl Try.ntmps72 rfl [(0, .pointer (some ⟨bi, 0, none⟩)), (1, .agg (mArr m vs)), (2, .int .i64 now)] (by simp) fun f h => ?_
  refine qr (s_box (mArr m vs) h s rfl rfl rfl fun f w1 b4 h s => e9 hFT9 1 h rfl fun f h => c_seqN (c_seqN ?_))
  refine rs hFT9 1 h rfl fun f h => s_load_at1 (cell_of_has (Has.of_own s 0 rfl) 68 (mArr_n _ _)) h one3 rfl rfl fun f h => s_cx h s fnc57 (qsrv_any m.n _) rfl rfl (fun n0 f w1 h s => ?_) (fun n0 f w1 h s => ?_)
  · refine e9 hFT9 1 h rfl fun f h => c_ct h rfl (qre hFT9 1 h rfl fun f h => rt (e_tmpF rfl h rfl (by replace s := s.bring 2 rfl; replace s := s.bring 2 rfl; exact ⟨_, rfl, lnp_sl (ln_1 n0 ho.hs now).1 (ln_1 n0 ho.hs now).2 (s.pick _ (List.Sublist.cons_cons _ (List.Sublist.cons_cons _ (List.Sublist.cons _ (List.Sublist.refl _)))))⟩)))
  · refine e9 hFT9 1 h rfl fun f h => cfk h rfl (c_seqN ?_)
    replace s := s.bring 1 rfl
    replace s : St w0 (.sl vh 105 34 ho.hs.length (hnCells ho.hs) :: .blk b4 (.cells (mArr m vs) 49) :: .blk bi (.cells (hoArr ho.no ho.gt vw vh vi) 74) :: B9) _ := s
    refine c_regT 1 8 [[], [], [1], [1, 2], [1, 2, 3], [], [5], [1, 2, 3, 4, 5, 6], [0, 1, 2, 3, 4, 5, 6, 7], [0, 1, 2, 3, 4, 5, 6, 7, 8], [0, 1, 2, 3, 4, 5, 6, 7, 8, 9]] [[], [], [], [], [], [], [], [11], [], [], []] [[_]] [.v _, .v _, .v _, .v _, .v vh, .v _, .v (.agg (idArr m.i)), .m (fun v => [.sl (v 7) 105 34 (fgtL ho.hs m.i).length (hnCells (fgtL ho.hs m.i))]), .n, .n, .n] _ h s rfl (by kernel_rfl) (by kernel_rfl) (by kernel_rfl) (oPu hFT9 h rfl rfl rfl (oPu hFT9 h rfl rfl rfl (oPu hFT9 h rfl rfl rfl (oPu hFT9 h rfl rfl rfl (oAI ?_ (oPu hFT9 h rfl rfl rfl (oAI ?_ (oAI ?_ (trivial))))))))) [0, 1, 2, 3, 4, 5, 6, 7] (by kernel_rfl) ?_
    · intro f9 w2 vl3 E9 hs9 hd9 hl hF s
      have h := f9h [(14, _)] h hs9 hd9 ⟨oc_g hl 14 3 (by kernel_rfl) (hF 3 (by decide)), trivial⟩
      refine s_load_at1 (V := vh) (cell_of_has (Has.of_own s 1 rfl) 3 (ho_h _ _ _ _ _)) h one72 rfl rfl fun f h => s_nil ⟨_, oc_u 15 h rfl rfl, rfl, s⟩
    · intro f9 w2 vl3 E9 hs9 hd9 hl hF s
      have h := f9h [(16, _)] h hs9 hd9 ⟨oc_g hl 16 5 (by kernel_rfl) (hF 5 (by decide)), trivial⟩
      refine s_load_at (Has.subL (Has.of_own s 0 rfl) 1 32 (D := idArr m.i) (mArr_i _ _)) h row28 rfl (by first | exact idArr_size _ | exact bytesF_size _ _) rfl fun f h => s_nil ⟨_, oc_u 17 h rfl rfl, rfl, s⟩
    · intro f9 w2 vl3 E9 hs9 hd9 hl hF s
      have h := f9h [(15, _), (17, _)] h hs9 hd9 ⟨oc_g hl 15 4 (by kernel_rfl) (hF 4 (by decide)), oc_g hl 17 6 (by kernel_rfl) (hF 6 (by decide)), trivial⟩
      refine s_callS [vh, idV m.i] h fnc73 (qwoh_any ho.hs hh9 vh m.i _ _ _ s) rfl rfl ?_; rintro f w1 v18 s h
      exact s_nil ⟨_, oc_u 18 h rfl rfl, trivial, s⟩
    intro f w1 vl3 hs9 hd9 hv hr hF s
    replace hv := fun i d h9 => hv i d (show Nat.blt i 8 = true from h9)
    replace h := oc_slT 8 (ops := _) [(11, _), (12, _), (13, _), (14, _), (15, _), (16, _), (17, _), (18, (vl3 7))] h hs9 hd9 hr ⟨(hv 0 11 rfl rfl).trans (hF 0 rfl), (hv 1 12 rfl rfl).trans (hF 1 rfl), (hv 2 13 rfl rfl).trans (hF 2 rfl), (hv 3 14 rfl rfl).trans (hF 3 rfl), (hv 4 15 rfl rfl).trans (hF 4 rfl), (hv 5 16 rfl rfl).trans (hF 5 rfl), (hv 6 17 rfl rfl).trans (hF 6 rfl), hv 7 18 rfl rfl, trivial⟩ (by kernel_rfl)
    replace s : St w0 (.sl (vl3 7) 105 34 (fgtL ho.hs m.i).length (hnCells (fgtL ho.hs m.i)) :: .blk b4 (.cells (mArr m vs) 49) :: .blk bi (.cells (hoArr ho.no ho.gt vw vh vi) 74) :: B9) _ := s
    refine s_run hFT9 2 h rfl fun f h => s_store_one 2 h s one72 rfl rfl rfl (by rw [hoArr_size]; omega) (own_one (s.getSl 0 rfl)) fun w1 s => ?_
    replace s := s.recell (D := hoArr ho.no ho.gt vw (vl3 7) vi) 2 rfl (rfl)
    refine nt (c_seqN (qrs hFT9 3 h rfl fun f h => s_load_at1 (V := (vl3 7)) (cell_of_has (Has.of_own s 2 rfl) 3 (ho_h _ _ _ _ _)) h one72 rfl rfl fun f h => s_len_sl 0 h s Try.underlying72 rfl rfl rfl fun f h => e9 hFT9 1 h rfl fun f h => c_cond h rfl (fun hc => ?_) (fun hc => ?_)))
    · refine c_region ?_
      have hq8 : (fgtL ho.hs m.i).length = 8 := by have := of_decide_eq_true hc; omega
      replace s := s.tail 0 rfl
      refine s_run hFT9 4 h rfl fun f h => s_load_at1 (V := (vl3 7)) (cell_of_has (Has.of_own s 2 rfl) 3 (ho_h _ _ _ _ _)) h one72 rfl rfl fun f h => s_pure h (ru_slice_loZ ((s.tails 0 rfl).rd) (1) Try.underlying72 szo105 (h.ev rfl) (h.ev rfl) (rfl) (by omega)) rfl fun f h => s_run hFT9 2 h rfl fun f h => s_store_one 2 h s one72 rfl rfl rfl (by rw [hoArr_size]; omega) (rd_one (((s.tails 0 rfl).drop 1 (by omega)).rd)) fun w1 s => ?_
      replace s := s.recell (D := hoArr ho.no ho.gt vw (dropV (vl3 7) 34 1) vi) 2 rfl (rfl)
      replace s := s.tdrop 0 rfl 1 (by omega)
      replace s := s.retl (m := (lstL (fgtL ho.hs m.i)).length) (ys := hnCells (lstL (fgtL ho.hs m.i))) 0 rfl (by rw [lst_full hq8, List.length_drop]) (by rw [lst_full hq8]; exact hnDrop _)
      have hlL : (lstL (fgtL ho.hs m.i)).length ≤ 8 := Nat.le_trans (lst_le _) (fgt_8 m.i hh8)
      refine nt (c_seqN ?_)
      replace s : St w0 ((tlO w0.heap.size (dropV (vl3 7) 34 1) 105 34 (lstL (fgtL ho.hs m.i)).length (hnCells (lstL (fgtL ho.hs m.i)))) :: .blk b4 (.cells (mArr m vs) 49) :: .blk bi (.cells (hoArr ho.no ho.gt vw (dropV (vl3 7) 34 1) vi) 74) :: B9) _ := s
      refine c_regT 1 16 [[], [], [1], [1, 2], [1, 2, 3], [], [5], [5, 6], [], [8], [], [10], [10, 11], [5, 6, 7, 8, 9, 10, 11, 12], [5, 6, 7, 8, 9, 10, 11, 12, 13], [1, 2, 3, 4, 5, 6, 7, 8, 9, 10, 11, 12, 13, 14], [0, 1, 2, 3, 4, 5, 6, 7, 8, 9, 10, 11, 12, 13, 14, 15], [0, 1, 2, 3, 4, 5, 6, 7, 8, 9, 10, 11, 12, 13, 14, 15, 16], [0, 1, 2, 3, 4, 5, 6, 7, 8, 9, 10, 11, 12, 13, 14, 15, 16, 17]] [[], [], [], [], [], [], [], [], [], [], [], [], [], [], [], [14, 19], [], [], []] [[_]] [.v _, .v _, .v _, .v _, .v (dropV (vl3 7) 34 1), .v _, .v (.agg (idArr m.i)), .v (.agg (idArr m.i)), .v _, .v (.int .i64 m.n), .v _, .v (.int .i64 (now + 1000)), .v (.int .i64 (untH now)), .v (.agg (hnArr ((m.i, m.n, untH now) : Hn))), .m (fun v => [.sl (v 14) 105 34 1 (hnCells [((m.i, m.n, untH now) : Hn)])]), .r (fun v => [tlO w0.heap.size (v 15) 105 34 (lrnL ho.hs m.i m.n now).length (hnCells (lrnL ho.hs m.i m.n now))]) (fun v => (v 15).oneCell' = true), .n, .n, .n] _ h s rfl (by kernel_rfl) (by kernel_rfl) (by kernel_rfl) (oPu hFT9 h rfl rfl rfl (oPu hFT9 h rfl rfl rfl (oPu hFT9 h rfl rfl rfl (oPu hFT9 h rfl rfl rfl (oAI ?_ (oPu hFT9 h rfl rfl rfl (oAI ?_ (oAI ?_ (oPu hFT9 h rfl rfl rfl (oAI ?_ (oPu hFT9 h rfl rfl rfl (oAI ?_ (oAI ?_ (oAI ?_ (oAI ?_ (oAI ?_ (trivial))))))))))))))))) [0, 1, 2, 3, 4, 5, 6, 7, 8, 9, 10, 11, 12, 13, 15] (by kernel_rfl) ?_
      · intro f9 w2 vl6 E9 hs9 hd9 hl hF s
        have h := f9h [(38, _)] h hs9 hd9 ⟨oc_g hl 38 3 (by kernel_rfl) (hF 3 (by decide)), trivial⟩
        refine s_load_at1 (V := (dropV (vl3 7) 34 1)) (cell_of_has (Has.of_own s 1 rfl) 3 (ho_h _ _ _ _ _)) h one72 rfl rfl fun f h => s_nil ⟨_, oc_u 39 h rfl rfl, rfl, s⟩
      · intro f9 w2 vl6 E9 hs9 hd9 hl hF s
        have h := f9h [(40, _)] h hs9 hd9 ⟨oc_g hl 40 5 (by kernel_rfl) (hF 5 (by decide)), trivial⟩
        refine s_load_at (Has.subL (Has.of_own s 0 rfl) 1 32 (D := idArr m.i) (mArr_i _ _)) h row28 rfl (by first | exact idArr_size _ | exact bytesF_size _ _) rfl fun f h => s_nil ⟨_, oc_u 41 h rfl rfl, rfl, s⟩
      · intro f9 w2 vl6 E9 hs9 hd9 hl hF s
        have h := f9h [(41, _)] h hs9 hd9 ⟨oc_g hl 41 6 (by kernel_rfl) (hF 6 (by decide)), trivial⟩
        refine s_pure h (ru_build_nm sttNm (h.ev rfl)) rfl fun f h => s_nil ⟨_, oc_u 42 h rfl rfl, rfl, s⟩
      · intro f9 w2 vl6 E9 hs9 hd9 hl hF s
        have h := f9h [(43, _)] h hs9 hd9 ⟨oc_g hl 43 8 (by kernel_rfl) (hF 8 (by decide)), trivial⟩
        refine s_load_at1 (cell_of_has (Has.of_own s 0 rfl) 68 (mArr_n _ _)) h one3 rfl rfl fun f h => s_nil ⟨_, oc_u 44 h rfl rfl, rfl, s⟩
      · intro f9 w2 vl6 E9 hs9 hd9 hl hF s
        have h := f9h [(45, _)] h hs9 hd9 ⟨oc_g hl 45 10 (by kernel_rfl) (hF 10 (by decide)), trivial⟩
        refine s_pure h (ru_add (h.ev rfl) (h.ev rfl) (by omega)) rfl fun f h => s_nil ⟨_, oc_u 46 h rfl rfl, rfl, s⟩
      · intro f9 w2 vl6 E9 hs9 hd9 hl hF s
        have h := f9h [(46, _)] h hs9 hd9 ⟨oc_g hl 46 11 (by kernel_rfl) (hF 11 (by decide)), trivial⟩
        refine s_pure h (ru_val (.int .i64 (untH now)) (ru_min (h.ev rfl) (h.ev rfl)) (congrArg (Value.int .i64) (by unfold untH; (repeat split) <;> omega))) rfl fun f h => s_nil ⟨_, oc_u 47 h rfl rfl, rfl, s⟩
      · intro f9 w2 vl6 E9 hs9 hd9 hl hF s
        have h := f9h [(42, _), (44, _), (47, _)] h hs9 hd9 ⟨oc_g hl 42 7 (by kernel_rfl) (hF 7 (by decide)), oc_g hl 44 9 (by kernel_rfl) (hF 9 (by decide)), oc_g hl 47 12 (by kernel_rfl) (hF 12 (by decide)), trivial⟩
        refine s_pure h (ru_build_hn sttHm (h.ev rfl) (h.ev rfl) (h.ev rfl)) rfl fun f h => s_nil ⟨_, oc_u 48 h rfl rfl, rfl, s⟩
      · intro f9 w2 vl6 E9 hs9 hd9 hl hF s
        have h := f9h [(48, _)] h hs9 hd9 ⟨oc_g hl 48 13 (by kernel_rfl) (hF 13 (by decide)), trivial⟩
        refine s_bslice (vs := [.agg (hnArr ((m.i, m.n, untH now) : Hn))]) [.tmp 48] h s Try.underlying72 elm105 rfl rfl (hn_sz _) rfl rfl rfl fun f w1 v49 h s => ?_
        replace s := s.resl (m := 1) (ys := hnCells [((m.i, m.n, untH now) : Hn)]) 0 rfl rfl (by rw [one_hn, hnCells_one])
        exact s_nil ⟨_, oc_u 49 h rfl rfl, trivial, s⟩
      · intro f9 w2 vl6 E9 hs9 hd9 hl hF s
        have e39 : f9.tmps.getD 39 undef = (dropV (vl3 7) 34 1) := (oc_get hl 39 4 (by kernel_rfl) (by kernel_rfl)).trans (hF 4 (by decide))
        have e49 : f9.tmps.getD 49 undef = (vl6 14) := oc_get hl 49 14 (by kernel_rfl) (by kernel_rfl)
        have h := fin_slot [(39, (dropV (vl3 7) 34 1)), (49, (vl6 14))] (hs9.trans h.size) (hd9.trans h.defers) (holds_lk ⟨e39, e49, trivial⟩)
        refine s_append_tl 1 0 h s Try.underlying72 elm105 rfl rfl rfl rfl (by decide) (hnCells_ones [((m.i, m.n, untH now) : Hn)]) (by unfold maxLen; omega) (by omega) s.ext.le rfl fun f w3 v50 h s => ?_
        replace s := s.retl (m := (lrnL ho.hs m.i m.n now).length) (ys := hnCells (lrnL ho.hs m.i m.n now)) 1 rfl (by unfold lrnL; rw [List.length_append]; rfl) (by unfold lrnL; rw [hnCells_app])
        exact s_nil ⟨_, oc_u 50 h rfl rfl, (s.tails 1 rfl).one, (s.pick _ (List.Sublist.cons _ (List.Sublist.cons_cons _ (List.Sublist.cons_cons _ (List.Sublist.cons_cons _ (List.Sublist.refl _))))))⟩
      intro f w1 vl6 hs9 hd9 hv hr hF s
      replace hv := fun i d h9 => hv i d (show Nat.blt i 16 = true from h9)
      replace h := oc_slT 16 (ops := _) [(35, _), (36, _), (37, _), (38, _), (39, _), (40, _), (41, _), (42, _), (43, _), (44, _), (45, _), (46, _), (47, _), (48, _), (49, (vl6 14)), (50, (vl6 15))] h hs9 hd9 hr ⟨(hv 0 35 rfl rfl).trans (hF 0 rfl), (hv 1 36 rfl rfl).trans (hF 1 rfl), (hv 2 37 rfl rfl).trans (hF 2 rfl), (hv 3 38 rfl rfl).trans (hF 3 rfl), (hv 4 39 rfl rfl).trans (hF 4 rfl), (hv 5 40 rfl rfl).trans (hF 5 rfl), (hv 6 41 rfl rfl).trans (hF 6 rfl), (hv 7 42 rfl rfl).trans (hF 7 rfl), (hv 8 43 rfl rfl).trans (hF 8 rfl), (hv 9 44 rfl rfl).trans (hF 9 rfl), (hv 10 45 rfl rfl).trans (hF 10 rfl), (hv 11 46 rfl rfl).trans (hF 11 rfl), (hv 12 47 rfl rfl).trans (hF 12 rfl), (hv 13 48 rfl rfl).trans (hF 13 rfl), hv 14 49 rfl rfl, hv 15 50 rfl rfl, trivial⟩ (by kernel_rfl)
      replace s : St w0 (tlO w0.heap.size (vl6 15) 105 34 (lrnL ho.hs m.i m.n now).length (hnCells (lrnL ho.hs m.i m.n now)) :: .blk b4 (.cells (mArr m vs) 49) :: .blk bi (.cells (hoArr ho.no ho.gt vw (dropV (vl3 7) 34 1) vi) 74) :: B9) _ := s
      refine s_run hFT9 2 h rfl fun f h => s_store_one 2 h s one72 rfl rfl rfl (by rw [hoArr_size]; omega) (hF 15 (by kernel_rfl)) fun w1 s => ?_
      replace s := s.recell (D := hoArr ho.no ho.gt vw (vl6 15) vi) 2 rfl (rfl)
      refine nt (qre hFT9 1 h rfl fun f h => wpIn_ret (e_tmpF rfl h rfl (by replace s := s.bring 2 rfl; replace s := s.bring 1 rfl; exact ⟨_, rfl, lnp_tl (ln_2 n0 ho.hs now).1 (ln_2 n0 ho.hs now).2 (s.pick _ (List.Sublist.cons_cons _ (List.Sublist.cons_cons _ (List.Sublist.cons _ (List.Sublist.refl _)))))⟩)))
    · have hq8 : (fgtL ho.hs m.i).length < 8 := by have h9 := of_decide_eq_false hc; have := fgt_8 (h := ho) m.i hh8; omega
      refine kt (c_seqN ?_)
      replace s : St w0 (.sl (vl3 7) 105 34 (fgtL ho.hs m.i).length (hnCells (fgtL ho.hs m.i)) :: .blk b4 (.cells (mArr m vs) 49) :: .blk bi (.cells (hoArr ho.no ho.gt vw (vl3 7) vi) 74) :: B9) _ := s
      refine c_regT 1 16 [[], [], [1], [1, 2], [1, 2, 3], [], [5], [5, 6], [], [8], [], [10], [10, 11], [5, 6, 7, 8, 9, 10, 11, 12], [5, 6, 7, 8, 9, 10, 11, 12, 13], [1, 2, 3, 4, 5, 6, 7, 8, 9, 10, 11, 12, 13, 14], [0, 1, 2, 3, 4, 5, 6, 7, 8, 9, 10, 11, 12, 13, 14, 15], [0, 1, 2, 3, 4, 5, 6, 7, 8, 9, 10, 11, 12, 13, 14, 15, 16], [0, 1, 2, 3, 4, 5, 6, 7, 8, 9, 10, 11, 12, 13, 14, 15, 16, 17]] [[], [], [], [], [], [], [], [], [], [], [], [], [], [], [], [14, 19], [], [], []] [[_]] [.v _, .v _, .v _, .v _, .v (vl3 7), .v _, .v (.agg (idArr m.i)), .v (.agg (idArr m.i)), .v _, .v (.int .i64 m.n), .v _, .v (.int .i64 (now + 1000)), .v (.int .i64 (untH now)), .v (.agg (hnArr ((m.i, m.n, untH now) : Hn))), .m (fun v => [.sl (v 14) 105 34 1 (hnCells [((m.i, m.n, untH now) : Hn)])]), .m (fun v => [.sl (v 15) 105 34 (lrnL ho.hs m.i m.n now).length (hnCells (lrnL ho.hs m.i m.n now))]), .n, .n, .n] _ h s rfl (by kernel_rfl) (by kernel_rfl) (by kernel_rfl) (oPu hFT9 h rfl rfl rfl (oPu hFT9 h rfl rfl rfl (oPu hFT9 h rfl rfl rfl (oPu hFT9 h rfl rfl rfl (oAI ?_ (oPu hFT9 h rfl rfl rfl (oAI ?_ (oAI ?_ (oPu hFT9 h rfl rfl rfl (oAI ?_ (oPu hFT9 h rfl rfl rfl (oAI ?_ (oAI ?_ (oAI ?_ (oAI ?_ (oAI ?_ (trivial))))))))))))))))) [0, 1, 2, 3, 4, 5, 6, 7, 8, 9, 10, 11, 12, 13, 15] (by kernel_rfl) ?_
      · intro f9 w2 vl6 E9 hs9 hd9 hl hF s
        have h := f9h [(38, _)] h hs9 hd9 ⟨oc_g hl 38 3 (by kernel_rfl) (hF 3 (by decide)), trivial⟩
        refine s_load_at1 (V := (vl3 7)) (cell_of_has (Has.of_own s 1 rfl) 3 (ho_h _ _ _ _ _)) h one72 rfl rfl fun f h => s_nil ⟨_, oc_u 39 h rfl rfl, rfl, s⟩
      · intro f9 w2 vl6 E9 hs9 hd9 hl hF s
        have h := f9h [(40, _)] h hs9 hd9 ⟨oc_g hl 40 5 (by kernel_rfl) (hF 5 (by decide)), trivial⟩
        refine s_load_at (Has.subL (Has.of_own s 0 rfl) 1 32 (D := idArr m.i) (mArr_i _ _)) h row28 rfl (by first | exact idArr_size _ | exact bytesF_size _ _) rfl fun f h => s_nil ⟨_, oc_u 41 h rfl rfl, rfl, s⟩
      · intro f9 w2 vl6 E9 hs9 hd9 hl hF s
        have h := f9h [(41, _)] h hs9 hd9 ⟨oc_g hl 41 6 (by kernel_rfl) (hF 6 (by decide)), trivial⟩
        refine s_pure h (ru_build_nm sttNm (h.ev rfl)) rfl fun f h => s_nil ⟨_, oc_u 42 h rfl rfl, rfl, s⟩
      · intro f9 w2 vl6 E9 hs9 hd9 hl hF s
        have h := f9h [(43, _)] h hs9 hd9 ⟨oc_g hl 43 8 (by kernel_rfl) (hF 8 (by decide)), trivial⟩
        refine s_load_at1 (cell_of_has (Has.of_own s 0 rfl) 68 (mArr_n _ _)) h one3 rfl rfl fun f h => s_nil ⟨_, oc_u 44 h rfl rfl, rfl, s⟩
      · intro f9 w2 vl6 E9 hs9 hd9 hl hF s
        have h := f9h [(45, _)] h hs9 hd9 ⟨oc_g hl 45 10 (by kernel_rfl) (hF 10 (by decide)), trivial⟩
        refine s_pure h (ru_add (h.ev rfl) (h.ev rfl) (by omega)) rfl fun f h => s_nil ⟨_, oc_u 46 h rfl rfl, rfl, s⟩
      · intro f9 w2 vl6 E9 hs9 hd9 hl hF s
        have h := f9h [(46, _)] h hs9 hd9 ⟨oc_g hl 46 11 (by kernel_rfl) (hF 11 (by decide)), trivial⟩
        refine s_pure h (ru_val (.int .i64 (untH now)) (ru_min (h.ev rfl) (h.ev rfl)) (congrArg (Value.int .i64) (by unfold untH; (repeat split) <;> omega))) rfl fun f h => s_nil ⟨_, oc_u 47 h rfl rfl, rfl, s⟩
      · intro f9 w2 vl6 E9 hs9 hd9 hl hF s
        have h := f9h [(42, _), (44, _), (47, _)] h hs9 hd9 ⟨oc_g hl 42 7 (by kernel_rfl) (hF 7 (by decide)), oc_g hl 44 9 (by kernel_rfl) (hF 9 (by decide)), oc_g hl 47 12 (by kernel_rfl) (hF 12 (by decide)), trivial⟩
        refine s_pure h (ru_build_hn sttHm (h.ev rfl) (h.ev rfl) (h.ev rfl)) rfl fun f h => s_nil ⟨_, oc_u 48 h rfl rfl, rfl, s⟩
      · intro f9 w2 vl6 E9 hs9 hd9 hl hF s
        have h := f9h [(48, _)] h hs9 hd9 ⟨oc_g hl 48 13 (by kernel_rfl) (hF 13 (by decide)), trivial⟩
        refine s_bslice (vs := [.agg (hnArr ((m.i, m.n, untH now) : Hn))]) [.tmp 48] h s Try.underlying72 elm105 rfl rfl (hn_sz _) rfl rfl rfl fun f w1 v49 h s => ?_
        replace s := s.resl (m := 1) (ys := hnCells [((m.i, m.n, untH now) : Hn)]) 0 rfl rfl (by rw [one_hn, hnCells_one])
        exact s_nil ⟨_, oc_u 49 h rfl rfl, trivial, s⟩
      · intro f9 w2 vl6 E9 hs9 hd9 hl hF s
        have e39 : f9.tmps.getD 39 undef = (vl3 7) := (oc_get hl 39 4 (by kernel_rfl) (by kernel_rfl)).trans (hF 4 (by decide))
        have e49 : f9.tmps.getD 49 undef = (vl6 14) := oc_get hl 49 14 (by kernel_rfl) (by kernel_rfl)
        have h := fin_slot [(39, (vl3 7)), (49, (vl6 14))] (hs9.trans h.size) (hd9.trans h.defers) (holds_lk ⟨e39, e49, trivial⟩)
        refine s_append 1 0 h s Try.underlying72 elm105 rfl rfl rfl rfl (by decide) (hnCells_ones [((m.i, m.n, untH now) : Hn)]) (by have := fgt_le ho.hs m.i; unfold maxLen; omega) (by have := fgt_le ho.hs m.i; omega) rfl fun f w1 v50 h s => ?_
        replace s := s.pick _ (List.sublist_cons_self _ _)
        replace s := s.resl (m := (lrnL ho.hs m.i m.n now).length) (ys := hnCells (lrnL ho.hs m.i m.n now)) 0 rfl (by unfold lrnL; rw [lst_less hq8, List.length_append]; rfl) (by unfold lrnL; rw [lst_less hq8, hnCells_app])
        exact s_nil ⟨_, oc_u 50 h rfl rfl, trivial, s⟩
      intro f w1 vl6 hs9 hd9 hv hr hF s
      replace hv := fun i d h9 => hv i d (show Nat.blt i 16 = true from h9)
      replace h := oc_slT 16 (ops := _) [(35, _), (36, _), (37, _), (38, _), (39, _), (40, _), (41, _), (42, _), (43, _), (44, _), (45, _), (46, _), (47, _), (48, _), (49, (vl6 14)), (50, (vl6 15))] h hs9 hd9 hr ⟨(hv 0 35 rfl rfl).trans (hF 0 rfl), (hv 1 36 rfl rfl).trans (hF 1 rfl), (hv 2 37 rfl rfl).trans (hF 2 rfl), (hv 3 38 rfl rfl).trans (hF 3 rfl), (hv 4 39 rfl rfl).trans (hF 4 rfl), (hv 5 40 rfl rfl).trans (hF 5 rfl), (hv 6 41 rfl rfl).trans (hF 6 rfl), (hv 7 42 rfl rfl).trans (hF 7 rfl), (hv 8 43 rfl rfl).trans (hF 8 rfl), (hv 9 44 rfl rfl).trans (hF 9 rfl), (hv 10 45 rfl rfl).trans (hF 10 rfl), (hv 11 46 rfl rfl).trans (hF 11 rfl), (hv 12 47 rfl rfl).trans (hF 12 rfl), (hv 13 48 rfl rfl).trans (hF 13 rfl), hv 14 49 rfl rfl, hv 15 50 rfl rfl, trivial⟩ (by kernel_rfl)
      replace s : St w0 (.sl (vl6 15) 105 34 (lrnL ho.hs m.i m.n now).length (hnCells (lrnL ho.hs m.i m.n now)) :: .blk b4 (.cells (mArr m vs) 49) :: .blk bi (.cells (hoArr ho.no ho.gt vw (vl3 7) vi) 74) :: B9) _ := s
      refine s_run hFT9 2 h rfl fun f h => s_store_one 2 h s one72 rfl rfl rfl (by rw [hoArr_size]; omega) (own_one (s.getSl 0 rfl)) fun w1 s => ?_
      replace s := s.recell (D := hoArr ho.no ho.gt vw (vl6 15) vi) 2 rfl (rfl)
      refine nt (qre hFT9 1 h rfl fun f h => wpIn_ret (e_tmpF rfl h rfl (by replace s := s.bring 2 rfl; replace s := s.bring 1 rfl; exact ⟨_, rfl, lnp_sl (ln_2 n0 ho.hs now).1 (ln_2 n0 ho.hs now).2 (s.pick _ (List.Sublist.cons_cons _ (List.Sublist.cons_cons _ (List.Sublist.cons _ (List.Sublist.refl _)))))⟩)))

/- fld49_1 fld74_3 -/
set_option maxHeartbeats 2000000 in
theorem qtake_any (ho : Ho) (vw vh vi : Value) (fr : Int) (m : Mg) (vs : Value) (now : Int) (bi : Nat) (B9 : List Own) (w0 w : World) (s : St w0 (.blk bi (.cells (hoArr ho.no ho.gt vw vh vi) 74) :: .sl vw 79 33 ho.ws.length (wnCells ho.ws) :: .sl vh 105 34 ho.hs.length (hnCells ho.hs) :: .sl vi 9 1 ho.bx.length (txC ho.bx) :: B9) w) (hV : RdE w0 vs m.l) (hM : rightM m = true) (hn9 : 0 ≤ now ∧ now ≤ 1099511627776) (hr : rightH ho = true) : Calls Try.prog 47 [.pointer (some ⟨bi, 0, none⟩), .int .i64 fr, .agg (mArr m vs), .int .i64 now].toArray w (fun e w9 => ∃ v, e = .returned v ∧ TkP w0 bi 74 B9 ho fr m now v w9) := by
  have h1 := rd_one (RdZ.of_own (s.getSl 1 rfl))
  have h2 := rd_one (RdZ.of_own (s.getSl 2 rfl))
  have h3 := rd_one (RdZ.of_own (s.getSl 3 rfl))
  have hwl := (rh_iff.1 hr).wl
  have hhl := (rh_iff.1 hr).hl
  have hbl := (rh_iff.1 hr).bl
  have hB3 : ho.ws.length ≤ 1000 ∧ ho.hs.length ≤ 1000 ∧ ho.bx.length ≤ 1000 := ⟨by omega, by omega, by omega⟩
  have hh9 := hB3.2.1
  refine c_enterF Try.func47 rfl Try.ntmps47 rfl [(0, .pointer (some ⟨bi, 0, none⟩)), (1, .int .i64 fr), (2, .agg (mArr m vs)), (3, .int .i64 now)] (by simp) fun f h => ?_
  refine qr (s_box (mArr m vs) h s rfl rfl rfl fun f w1 b6 h s => e9 hFT9 2 h rfl fun f h => c_seqN (qrs hFT9 1 h rfl fun f h => s_load_at1 (cell_of_has (Has.of_own s 0 rfl) 0 (mArr_k _ _)) h one3 rfl rfl fun f h => nt (wpIn_block (qre hFT9 2 h rfl fun f h => c_cond h rfl (fun hc => ?_) (fun hc => ?_)))))
  · have k1 := hc
    have hl1 : 1 ≤ m.l.length := (rightP_iff.1 (pk_right hM (of_decide_eq_true k1))).1.1
    refine qrs hFT9 1 h rfl fun f h => s_load_row 0 h s row49 rfl rfl (mArr_size _ _) rfl fun f h => ?_
    replace s := s.bring 1 rfl
    replace s := s.bring 4 rfl
    replace s : St w0 (.sl vi 9 1 ho.bx.length (txC ho.bx) :: .blk bi (.cells (hoArr ho.no ho.gt vw vh vi) 74) :: .blk b6 (.cells (mArr m vs) 49) :: .sl vw 79 33 ho.ws.length (wnCells ho.ws) :: .sl vh 105 34 ho.hs.length (hnCells ho.hs) :: B9) _ := s
    refine s_callS [.pointer (some ⟨bi, 0, none⟩), .agg (mArr m vs)] h fnc69 (qkeep_any ho vw vh vi m vs bi _ _ _ s hV hl1 h1 h2 hB3.2.2) rfl rfl ?_; rintro f w1 v16 ⟨rfl, ui, s⟩ h
    refine e9 hFT9 2 h rfl fun f h => wpIn_ret (b_ret (t_ret ?_))
    exact e_tmpsF rfl h rfl rfl (by replace s := s.bring 1 rfl; replace s := s.bring 1 rfl; replace s := s.bring 4 rfl; replace s := s.bring 4 rfl; exact ⟨_, rfl, tkp_own (tk_1 k1).1 (tk_1 k1).2.1 (tk_1 k1).2.2 rfl rfl (s.pick _ (List.Sublist.cons_cons _ (List.Sublist.cons_cons _ (List.Sublist.cons_cons _ (List.Sublist.cons_cons _ (List.Sublist.cons _ (List.Sublist.refl _)))))))⟩)
  · have k1 := hc
    refine qre hFT9 2 h rfl fun f h => c_cond h rfl (fun hc => ?_) (fun hc => ?_)
    · have k3 := hc
      refine qrs hFT9 2 h rfl fun f h => s_load_row 0 h s row49 rfl rfl (mArr_size _ _) rfl fun f h => s_call h s fnc70 (qecho_any ho vw vh vi fr m vs bi _ (Tab.of_own s 1 rfl) ⟨RdZ.of_own (s.getSl 2 rfl), RdZ.of_own (s.getSl 3 rfl), RdZ.of_own (s.getSl 4 rfl)⟩ hB3 (hV.keep s.ext)) rfl rfl ?_; rintro f w1 v22 ⟨ul, K, kk, rfl, hK, hG⟩ hE h sq; replace s := s.add hG; clear hG
      refine e9 hFT9 4 h rfl fun f h => wpIn_ret (b_ret (t_ret ?_))
      exact e_tmpsF rfl h rfl rfl (by replace s := s.bring 2 rfl; replace s := s.bring 5 rfl; replace s := s.bring 5 rfl; replace s := s.bring 5 rfl; replace s := s.bring 4 rfl; exact ⟨_, rfl, tkp_snd (tk_3 k1 k3).1 ((tk_3 k1 k3).2.1.trans hK.symm) (tk_3 k1 k3).2.2 rfl rfl (s.pick _ (List.Sublist.cons_cons _ (List.Sublist.cons_cons _ (List.Sublist.cons_cons _ (List.Sublist.cons_cons _ (List.Sublist.cons_cons _ (List.Sublist.cons _ (List.Sublist.refl _))))))))⟩)
    · have k3 := hc
      refine qre hFT9 2 h rfl fun f h => c_cond h rfl (fun hc => ?_) (fun hc => ?_)
      · have k5 := hc
        refine qrs hFT9 1 h rfl fun f h => s_load_row 0 h s row49 rfl rfl (mArr_size _ _) rfl fun f h => s_cv h s fnc71 (qheed_any ho vw vh vi m vs bi _ (Tab.of_own s 1 rfl) ⟨RdZ.of_own (s.getSl 2 rfl), RdZ.of_own (s.getSl 3 rfl), RdZ.of_own (s.getSl 4 rfl)⟩ hB3 (hV.keep s.ext)) rfl rfl fun f w1 h s => e9 hFT9 2 h rfl fun f h => wpIn_ret (b_ret (t_ret ?_))
        exact e_tmpsF rfl h rfl rfl (by replace s := s.bring 1 rfl; replace s := s.bring 4 rfl; replace s := s.bring 4 rfl; replace s := s.bring 4 rfl; exact ⟨_, rfl, tkp_own (tk_5 k1 k3 k5).1 (tk_5 k1 k3 k5).2.1 (tk_5 k1 k3 k5).2.2 rfl rfl (s.pick _ (List.Sublist.cons_cons _ (List.Sublist.cons_cons _ (List.Sublist.cons_cons _ (List.Sublist.cons_cons _ (List.Sublist.cons _ (List.Sublist.refl _)))))))⟩)
      · have k5 := hc
        refine qre hFT9 2 h rfl fun f h => c_cond h rfl (fun hc => ?_) (fun hc => ?_)
        · have k8 := hc
          have k7 : decide (m.k = 7) = false := decide_eq_false (by have := of_decide_eq_true k8; omega)
          refine qrs hFT9 1 h rfl fun f h => s_load_row 0 h s row49 rfl rfl (mArr_size _ _) rfl fun f h => s_run hFT9 1 h rfl fun f h => ?_
          replace s := s.bring 1 rfl
          replace s := s.bring 3 rfl
          replace s : St w0 (.sl vh 105 34 ho.hs.length (hnCells ho.hs) :: .blk bi (.cells (hoArr ho.no ho.gt vw vh vi) 74) :: .blk b6 (.cells (mArr m vs) 49) :: .sl vw 79 33 ho.ws.length (wnCells ho.ws) :: .sl vi 9 1 ho.bx.length (txC ho.bx) :: B9) _ := s
          refine s_callS [.pointer (some ⟨bi, 0, none⟩), .agg (mArr m vs), .int .i64 now] h fnc72 (qlearn_any ho vw vh vi m vs now bi _ _ _ s hV hn9 h1 h3 hhl) rfl rfl ?_; rintro f w1 v35 ⟨rfl, uh, kh, s⟩ h
          refine e9 hFT9 2 h rfl fun f h => wpIn_ret (b_ret (t_ret ?_))
          exact e_tmpsF rfl h rfl rfl (by replace s := s.bring 1 rfl; replace s := s.bring 1 rfl; replace s := s.bring 4 rfl; replace s := s.bring 4 rfl; exact ⟨_, rfl, (have z9 := tk_8 hM k1 k3 k5 k7 k8; tkp_hnt z9.1 z9.2.1 z9.2.2 rfl rfl (s.pick _ (List.Sublist.cons_cons _ (List.Sublist.cons_cons _ (List.Sublist.cons_cons _ (List.Sublist.cons_cons _ (List.Sublist.cons _ (List.Sublist.refl _))))))))⟩)
        · have k8 := hc
          refine qre hFT9 2 h rfl fun f h => c_cond h rfl (fun hc => ?_) (fun hc => ?_)
          · have k7 := hc
            refine c_seqN ?_
            replace s := s.bring 3 rfl
            replace s : St w0 (.sl vh 105 34 ho.hs.length (hnCells ho.hs) :: .blk b6 (.cells (mArr m vs) 49) :: .blk bi (.cells (hoArr ho.no ho.gt vw vh vi) 74) :: .sl vw 79 33 ho.ws.length (wnCells ho.ws) :: .sl vi 9 1 ho.bx.length (txC ho.bx) :: B9) _ := s
            refine c_regT 1 8 [[], [], [1], [1, 2], [1, 2, 3], [], [5], [1, 2, 3, 4, 5, 6], [0, 1, 2, 3, 4, 5, 6, 7], [0, 1, 2, 3, 4, 5, 6, 7, 8], [0, 1, 2, 3, 4, 5, 6, 7, 8, 9]] [[], [], [], [], [], [], [], [11], [], [], []] [[_]] [.v _, .v _, .v _, .v _, .v vh, .v _, .v (.agg (idArr m.i)), .m (fun v => [.sl (v 7) 105 34 (fgtL ho.hs m.i).length (hnCells (fgtL ho.hs m.i))]), .n, .n, .n] _ h s rfl (by kernel_rfl) (by kernel_rfl) (by kernel_rfl) (oPu hFT9 h rfl rfl rfl (oPu hFT9 h rfl rfl rfl (oPu hFT9 h rfl rfl rfl (oPu hFT9 h rfl rfl rfl (oAI ?_ (oPu hFT9 h rfl rfl rfl (oAI ?_ (oAI ?_ (trivial))))))))) [0, 1, 2, 3, 4, 5, 6, 7] (by kernel_rfl) ?_
            · intro f9 w2 vl11 E9 hs9 hd9 hl hF s
              have h := f9h [(41, _)] h hs9 hd9 ⟨oc_g hl 41 3 (by kernel_rfl) (hF 3 (by decide)), trivial⟩
              refine s_load_at1 (V := vh) (cell_of_has (Has.of_own s 1 rfl) 3 (ho_h _ _ _ _ _)) h one72 rfl rfl fun f h => s_nil ⟨_, oc_u 42 h rfl rfl, rfl, s⟩
            · intro f9 w2 vl11 E9 hs9 hd9 hl hF s
              have h := f9h [(43, _)] h hs9 hd9 ⟨oc_g hl 43 5 (by kernel_rfl) (hF 5 (by decide)), trivial⟩
              refine s_load_at (Has.subL (Has.of_own s 0 rfl) 1 32 (D := idArr m.i) (mArr_i _ _)) h row28 rfl (by first | exact idArr_size _ | exact bytesF_size _ _) rfl fun f h => s_nil ⟨_, oc_u 44 h rfl rfl, rfl, s⟩
            · intro f9 w2 vl11 E9 hs9 hd9 hl hF s
              have h := f9h [(42, _), (44, _)] h hs9 hd9 ⟨oc_g hl 42 4 (by kernel_rfl) (hF 4 (by decide)), oc_g hl 44 6 (by kernel_rfl) (hF 6 (by decide)), trivial⟩
              refine s_callS [vh, idV m.i] h fnc73 (qwoh_any ho.hs hh9 vh m.i _ _ _ s) rfl rfl ?_; rintro f w1 v45 s h
              exact s_nil ⟨_, oc_u 45 h rfl rfl, trivial, s⟩
            intro f w1 vl11 hs9 hd9 hv hr hF s
            replace hv := fun i d h9 => hv i d (show Nat.blt i 8 = true from h9)
            replace h := oc_slT 8 (ops := _) [(38, _), (39, _), (40, _), (41, _), (42, _), (43, _), (44, _), (45, (vl11 7))] h hs9 hd9 hr ⟨(hv 0 38 rfl rfl).trans (hF 0 rfl), (hv 1 39 rfl rfl).trans (hF 1 rfl), (hv 2 40 rfl rfl).trans (hF 2 rfl), (hv 3 41 rfl rfl).trans (hF 3 rfl), (hv 4 42 rfl rfl).trans (hF 4 rfl), (hv 5 43 rfl rfl).trans (hF 5 rfl), (hv 6 44 rfl rfl).trans (hF 6 rfl), hv 7 45 rfl rfl, trivial⟩ (by kernel_rfl)
            replace s : St w0 (.sl (vl11 7) 105 34 (fgtL ho.hs m.i).length (hnCells (fgtL ho.hs m.i)) :: .blk b6 (.cells (mArr m vs) 49) :: .blk bi (.cells (hoArr ho.no ho.gt vw vh vi) 74) :: .sl vw 79 33 ho.ws.length (wnCells ho.ws) :: .sl vi 9 1 ho.bx.length (txC ho.bx) :: B9) _ := s
            refine s_run hFT9 2 h rfl fun f h => s_store_one 2 h s one72 rfl rfl rfl (by rw [hoArr_size]; omega) (own_one (s.getSl 0 rfl)) fun w1 s => ?_
            replace s := s.recell (D := hoArr ho.no ho.gt vw (vl11 7) vi) 2 rfl (rfl)
            refine nt (qre hFT9 2 h rfl fun f h => wpIn_ret (b_ret (t_ret ?_)))
            exact e_tmpsF rfl h rfl rfl (by replace s := s.bring 2 rfl; replace s := s.bring 4 rfl; replace s := s.bring 2 rfl; replace s := s.bring 4 rfl; exact ⟨_, rfl, tkp_own (tk_7 k1 k3 k5 k7).1 (tk_7 k1 k3 k5 k7).2.1 (tk_7 k1 k3 k5 k7).2.2 rfl rfl (s.pick _ (List.Sublist.cons_cons _ (List.Sublist.cons_cons _ (List.Sublist.cons_cons _ (List.Sublist.cons_cons _ (List.Sublist.cons _ (List.Sublist.refl _)))))))⟩)
          · have k7 := hc
            refine wpIn_skip (b_norm (t_norm (qre hFT9 2 h rfl fun f h => wpIn_ret ?_)))
            exact e_tmpsF rfl h rfl rfl (by replace s := s.bring 1 rfl; replace s := s.bring 4 rfl; replace s := s.bring 4 rfl; replace s := s.bring 4 rfl; exact ⟨_, rfl, tkp_own (tk_9 k1 k3 k5 k7 k8).1 (tk_9 k1 k3 k5 k7 k8).2.1 (tk_9 k1 k3 k5 k7 k8).2.2 rfl rfl (s.pick _ (List.Sublist.cons_cons _ (List.Sublist.cons_cons _ (List.Sublist.cons_cons _ (List.Sublist.cons_cons _ (List.Sublist.cons _ (List.Sublist.refl _)))))))⟩)

set_option maxHeartbeats 2000000 in
theorem hhandle_any (ho : Ho) (vw vh vi : Value) (fr : Int) (hfr : -9223372036854775808 ≤ fr ∧ fr ≤ 9223372036854775807) (m : Mg) (vs : Value) (now : Int) (w : World) (hHo : RdH w vw vh vi ho) (hB9 : B9 ho) (hV : RdE w vs m.l) (hml : m.l.length ≤ 1000) : Calls Try.prog 25 [.agg (hoArr ho.no ho.gt vw vh vi), .int .i64 fr, .agg (mArr m vs), .int .i64 now].toArray w (Ret w (HqP w vw vh vi vs ho m.l (hnqH ho fr m now))) := by
  obtain ⟨hw9, hh9, hi9⟩ := hB9
  refine c_en Try.func25 rfl Try.ntmps25 rfl fun f h s => qr (s_box (hoArr ho.no ho.gt vw vh vi) h s rfl rfl rfl fun f w1 b4 h s => s_box (mArr m vs) h s rfl rfl rfl fun f w1 b6 h s => s_alloc (hoArr 0 0 nilV nilV nilV) h s zero26 rfl rfl fun f w1 b8 h s => e9 hFT9 2 h rfl fun f h => qr (s_load_row 2 h s row26 rfl rfl (hoArr_size _ _ _ _ _) rfl fun f h => s_call h s fnc28 (qopen_any ho vw vh vi _ (hHo.keep s.ext) ⟨hw9, hh9, hi9⟩) rfl rfl ?_)); rintro f w1 v15 ⟨oa, ob, oc, rfl, hO⟩ hE h sq; replace s := s.add hO; clear hO
  have ho1 := rd_one (RdZ.of_own (s.getSl 0 rfl))
  have ho2 := rd_one (RdZ.of_own (s.getSl 1 rfl))
  have ho3 := rd_one (RdZ.of_own (s.getSl 2 rfl))
  refine s_alloc (hoArr 0 0 nilV nilV nilV) h s zero74 rfl rfl fun f w1 b11 h s => s_store_row 0 h s row74 rfl rfl rfl (hoArr_size _ _ _ _ _) (hoArr_size _ _ _ _ _) (hoArr_ones _ _ (ho1) (ho2) (ho3)) fun w1 s => nt (c_seqN (c_seqN ?_))
  refine c_region (s_load_row 0 h s row74 rfl rfl (hoArr_size _ _ _ _ _) rfl fun f h => s_cx h s fnc29 (qir_any ho oa ob oc _ ⟨RdZ.of_own (s.getSl 1 rfl), RdZ.of_own (s.getSl 2 rfl), RdZ.of_own (s.getSl 3 rfl)⟩ ⟨hw9, hh9, hi9⟩) rfl rfl (fun r0 f w1 h s => ?_) (fun r0 f w1 h s => ?_))
  · refine e9 hFT9 16 h rfl fun f h => c_ct h rfl (qr (s_pure h (ru_build_ho0 sttHo) rfl fun f h => s_store_row 4 h s row26 rfl rfl rfl (hoArr_size _ _ _ _ _) (hoArr_size _ _ _ _ _) (hoArr_ones _ _ (rfl) (rfl) (rfl)) fun w1 s => e9 hFT9 2 h rfl fun f h => rt ?_))
    exact e_row_tmp2 4 rfl h s row26 rfl rfl (hoArr_size _ _ _ _ _) rfl rfl (hqp_bad (hqB_0 r0) (s.pick _ (List.nil_sublist _)))
  · skip
    refine s_run hFT9 3 h rfl fun f h => s_o h rfl (s_cx h s fnc36 (qtime_any now _) rfl rfl (fun n0 f w1 h s => ?_) (fun n0 f w1 h s => ?_))
    · refine e9 hFT9 12 h rfl fun f h => c_ct h rfl (qr (s_pure h (ru_build_ho0 sttHo) rfl fun f h => s_store_row 4 h s row26 rfl rfl rfl (hoArr_size _ _ _ _ _) (hoArr_size _ _ _ _ _) (hoArr_ones _ _ (rfl) (rfl) (rfl)) fun w1 s => e9 hFT9 2 h rfl fun f h => rt ?_))
      exact e_row_tmp2 4 rfl h s row26 rfl rfl (hoArr_size _ _ _ _ _) rfl rfl (hqp_bad (hqB_1 n0) (s.pick _ (List.nil_sublist _)))
    · skip
      refine s_run hFT9 4 h rfl fun f h => s_o h rfl (s_cx h s fnc46 (qadr_any fr hfr _) rfl rfl (fun a0 f w1 h s => ?_) (fun a0 f w1 h s => ?_))
      · refine e9 hFT9 7 h rfl fun f h => c_ct h rfl (qr (s_pure h (ru_build_ho0 sttHo) rfl fun f h => s_store_row 4 h s row26 rfl rfl rfl (hoArr_size _ _ _ _ _) (hoArr_size _ _ _ _ _) (hoArr_ones _ _ (rfl) (rfl) (rfl)) fun w1 s => e9 hFT9 2 h rfl fun f h => rt ?_))
        exact e_row_tmp2 4 rfl h s row26 rfl rfl (hoArr_size _ _ _ _ _) rfl rfl (hqp_bad (hqB_2 a0) (s.pick _ (List.nil_sublist _)))
      · skip
        refine s_run hFT9 3 h rfl fun f h => s_o h rfl (s_load_row 5 h s row49 rfl rfl (mArr_size _ _) rfl fun f h => s_o h rfl (s_cx h s fnc27 (wright_any m vs _ (hV.keep s.ext) (by omega)) rfl rfl (fun m0 f w1 h s => ?_) (fun m0 f w1 h s => ?_)))
        · refine e9 hFT9 2 h rfl fun f h => c_ct h rfl (qr (s_pure h (ru_build_ho0 sttHo) rfl fun f h => s_store_row 4 h s row26 rfl rfl rfl (hoArr_size _ _ _ _ _) (hoArr_size _ _ _ _ _) (hoArr_ones _ _ (rfl) (rfl) (rfl)) fun w1 s => e9 hFT9 2 h rfl fun f h => rt ?_))
          exact e_row_tmp2 4 rfl h s row26 rfl rfl (hoArr_size _ _ _ _ _) rfl rfl (hqp_bad (hqB_3 m0) (s.pick _ (List.nil_sublist _)))
        · refine e9 hFT9 2 h rfl fun f h => cfk h rfl (qrs hFT9 1 h rfl fun f h => s_load_row 5 h s row49 rfl rfl (mArr_size _ _) rfl fun f h => s_run hFT9 1 h rfl fun f h => ?_)
          have hB := hqB_y r0 n0 a0 m0
          have hwl := (rh_iff.1 r0).wl
          have hhl := (rh_iff.1 r0).hl
          have hbl := (rh_iff.1 r0).bl
          have hB6 : ho.ws.length ≤ 900 ∧ ho.hs.length ≤ 900 ∧ ho.bx.length ≤ 900 := ⟨by omega, by omega, by omega⟩
          replace s := s.bring 3 rfl
          replace s := s.bring 3 rfl
          replace s := s.bring 3 rfl
          replace s := s.bring 3 rfl
          replace s : St w [.blk b11 (.cells (hoArr ho.no ho.gt oa ob oc) 74), .sl oa 79 33 ho.ws.length (wnCells ho.ws), .sl ob 105 34 ho.hs.length (hnCells ho.hs), .sl oc 9 1 ho.bx.length (txC ho.bx), .blk b8 (.cells (hoArr 0 0 nilV nilV nilV) 26), .blk b6 (.cells (mArr m vs) 49), .blk b4 (.cells (hoArr ho.no ho.gt vw vh vi) 26)] _ := s
          refine s_callS [.pointer (some ⟨b11, 0, none⟩), .int .i64 fr, .agg (mArr m vs), .int .i64 now] h fnc47 (qtake_any ho oa ob oc fr m vs now b11 _ _ _ s hV m0 (inb_iff.1 n0) r0) rfl rfl ?_; rintro f w1 v39 ⟨uw, uh, ui, ul, K, kk, rfl, hK, s⟩ h
          have hui9 := (s.getG 1 rfl).1.2.2
          refine e9 hFT9 5 h rfl fun f h => c_seqN (qre hFT9 2 h rfl fun f h => c_cond h rfl (fun hc => ?_) (fun hc => ?_))
          · have e0 : ¬ (kndQ ho fr m now).e = 0 := of_decide_eq_true hc
            refine qr (s_pure h (ru_build_ho0 sttHo) rfl fun f h => s_run hFT9 1 h rfl fun f h => s_store_row 2 h s row26 rfl rfl rfl (hoArr_size _ _ _ _ _) (hoArr_size _ _ _ _ _) (hoArr_ones _ _ (rfl) (rfl) (rfl)) fun w1 s => e9 hFT9 2 h rfl fun f h => rt ?_)
            exact e_row_tmp2 2 rfl h s row26 rfl rfl (hoArr_size _ _ _ _ _) rfl rfl (hqp_err hB e0 (s.pick _ (List.nil_sublist _)))
          · have e0 : (kndQ ho fr m now).e = 0 := Decidable.of_not_not (of_decide_eq_false hc)
            refine kt (qr (s_load_row 0 h s row74 rfl rfl (hoArr_size _ _ _ _ _) rfl fun f h => s_call h s fnc32 (qclose_any (tkH ho fr m now) uw uh ui _ (s.getG 1 rfl).1 (tk_b9 ho fr m now hB6 hB)) rfl rfl ?_)); rintro f w1 v47 ⟨ca, cb, rfl, hO⟩ hE h sq; replace s := s.add hO; clear hO
            have hc1 := rd_one (RdZ.of_own (s.getSl 0 rfl))
            have hc2 := rd_one (RdZ.of_own (s.getSl 1 rfl))
            refine s_run hFT9 1 h rfl fun f h => s_store_row 4 h s row26 rfl rfl rfl (hoArr_size _ _ _ _ _) (hoArr_size _ _ _ _ _) (hoArr_ones _ _ (hc1) (hc2) ((rd_one hui9))) fun w1 s => e9 hFT9 2 h rfl fun f h => wpIn_ret ?_
            exact e_row_tmp2 4 rfl h s row26 rfl rfl (hoArr_size _ _ _ _ _) rfl rfl (hqp_ok hB e0 hK (s.sel [0, 1, 3] rfl (by decide)))
end Go.Proofs.Ythjkhnhiciamaaa
