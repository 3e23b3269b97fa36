/- What package host answers: New, Right, Want, Unwant, Ask, Send. -/
import Derived.Test.YthjkhnhiciamaaaXn
set_option linter.unusedVariables false
set_option linter.unusedSimpArgs false
set_option linter.unusedSectionVars false
namespace Go.Proofs.Ythjkhnhiciamaaa
open Go.RowKit
theorem hright_any (ho : Ho) (vw vh vi : Value)  (w : World) (hHo : RdH w vw vh vi ho) (hB9 : B9 ho) : Calls Try.prog 14 [.agg (hoArr ho.no ho.gt vw vh vi)].toArray w (Ret w (is (.bool (rightH ho)))) := by
  obtain ⟨hw9, hh9, hi9⟩ := hB9
  refine c_en Try.func14 rfl Try.ntmps14 rfl fun f h s => qr (s_box (hoArr ho.no ho.gt vw vh vi) h s rfl rfl rfl fun f w1 b1 h s => e9 hFT9 1 h rfl fun f h => qr (s_load_row 0 h s row26 rfl rfl (hoArr_size _ _ _ _ _) rfl fun f h => s_call h s fnc28 (qopen_any ho vw vh vi _ (hHo.keep s.ext) ⟨hw9, hh9, hi9⟩) rfl rfl ?_)); rintro f w1 v4 ⟨oa, ob, oc, rfl, hO⟩ hE h sq; replace s := s.add hO; clear hO
  have ho1 := rd_one (RdZ.of_own (s.getSl 0 rfl))
  have ho2 := rd_one (RdZ.of_own (s.getSl 1 rfl))
  have ho3 := rd_one (RdZ.of_own (s.getSl 2 rfl))
  obtain ⟨ko, s⟩ := own_rd s
  refine s_cv h s fnc29 (qir_any ho oa ob oc _ (s.getG 0 rfl) ⟨hw9, hh9, hi9⟩) rfl rfl fun f w1 h s => e9 hFT9 1 h rfl fun f h => wpIn_ret (e_tmp rfl h s rfl (rfl))

theorem hnew_any (n g : Int) (w : World) : Calls Try.prog 10 [.int .i64 n, .int .i64 g].toArray w (Ret w (HoP w nilV nilV nilV zHo (newH n g) (newE n g))) := by
  refine c_en Try.func10 rfl Try.ntmps10 rfl fun f h s => qr (s_alloc (hoArr 0 0 nilV nilV nilV) h s zero26 rfl rfl fun f w1 b4 h s => e9 hFT9 1 h rfl fun f h => qrs hFT9 2 h rfl fun f h => s_pure h (ru_build_ho2 sttHo (h.ev rfl) (h.ev rfl)) rfl fun f h => s_alloc (hoArr 0 0 nilV nilV nilV) h s zero26 rfl rfl fun f w1 b6 h s => s_store_row 0 h s row26 rfl rfl rfl (hoArr_size _ _ _ _ _) (hoArr_size _ _ _ _ _) (hoArr_ones _ _ (rfl) (rfl) (rfl)) fun w1 s => nt (c_seqN (c_seqN ?_)))
  refine c_region (s_load_row 0 h s row26 rfl rfl (hoArr_size _ _ _ _ _) rfl fun f h => s_cx h s fnc14 (hright_any ⟨n, g, [], [], []⟩ nilV nilV nilV _ (rdH_nil _ n g) ⟨Nat.zero_le _, Nat.zero_le _, Nat.zero_le _⟩) rfl rfl (fun r0 f w1 h s => ?_) (fun r0 f w1 h s => ?_))
  · refine e9 hFT9 1 h rfl fun f h => c_ct h rfl (qr (s_pure h (ru_build_ho0 sttHo) rfl fun f h => s_store_row 1 h s row26 rfl rfl rfl (hoArr_size _ _ _ _ _) (hoArr_size _ _ _ _ _) (hoArr_ones _ _ (rfl) (rfl) (rfl)) fun w1 s => e9 hFT9 1 h rfl fun f h => rt (e_row_tmp 1 rfl h s row26 rfl rfl (hoArr_size _ _ _ _ _) rfl (by obtain ⟨e1, e2⟩ := nw_bad ((rh_new n g).symm.trans r0); rw [e1, e2]; exact hop_bad rfl rfl (s.pick _ (List.nil_sublist _))))))
  · refine e9 hFT9 1 h rfl fun f h => cfk h rfl (qr (s_load_row 0 h s row26 rfl rfl (hoArr_size _ _ _ _ _) rfl fun f h => s_store_row 1 h s row26 rfl rfl rfl (hoArr_size _ _ _ _ _) (hoArr_size _ _ _ _ _) (hoArr_ones _ _ (rfl) (rfl) (rfl)) fun w1 s => e9 hFT9 1 h rfl fun f h => wpIn_ret (e_row_tmp 1 rfl h s row26 rfl rfl (hoArr_size _ _ _ _ _) rfl (by obtain ⟨e1, e2⟩ := nw_ok ((rh_new n g).symm.trans r0); rw [e1, e2]; exact hop_new (s.pick _ (List.nil_sublist _))))))

set_option maxHeartbeats 2000000 in
theorem hwant_any (ho : Ho) (vw vh vi : Value) (x : Id) (li : Int) (w : World) (hHo : RdH w vw vh vi ho) (hB9 : B9 ho) : Calls Try.prog 11 [.agg (hoArr ho.no ho.gt vw vh vi), idV x, .int .i64 li].toArray w (Ret w (HoP w vw vh vi ho (wanH ho x li) (wanE ho x li))) := by
  obtain ⟨hw9, hh9, hi9⟩ := hB9
  refine c_en Try.func11 rfl Try.ntmps11 rfl fun f h s => qr (s_box (hoArr ho.no ho.gt vw vh vi) h s rfl rfl rfl fun f w1 b3 h s => s_box (idArr x) h s rfl rfl rfl fun f w1 b4 h s => s_alloc (hoArr 0 0 nilV nilV nilV) h s zero26 rfl rfl fun f w1 b6 h s => e9 hFT9 1 h rfl fun f h => c_seqN (c_regC 0 [[], [0], [], [2], [], [2, 3, 4], [], [], [0, 1, 6, 7], [0, 1, 2, 3, 4, 5, 6, 7, 8]] [[], [], [], [], [], [], [], [], [6], [7]] [] [.v (.agg (hoArr ho.no ho.gt vw vh vi)), .r (fun v => [.sl (hoW (v 1)) 79 33 ho.ws.length (wnCells ho.ws), .sl (hoN (v 1)) 105 34 ho.hs.length (hnCells ho.hs), .sl (hoS (v 1)) 9 1 ho.bx.length (txC ho.bx)]) (fun v => v 1 = .agg (hoArr ho.no ho.gt (hoW (v 1)) (hoN (v 1)) (hoS (v 1)))), .v (.agg (idArr x)), .v (.agg (idArr x)), .v _, .v (.agg (wnArr (x, li))), .q (fun v => [.blk (pbk (v 6)) (.cells (hoArr 0 0 nilV nilV nilV) 74)]), .q (fun v => [.blk (pbk (v 7)) (.cells (wnArr zWn) 79)]), .m (fun v => [.blk (pbk (v 6)) (.cells (hoArr ho.no ho.gt (hoW (v 1)) (hoN (v 1)) (hoS (v 1))) 74)]), .m (fun v => [.blk (pbk (v 7)) (.cells (wnArr (x, li)) 79)])] _ h s rfl (by kernel_rfl) (by kernel_rfl) (by kernel_rfl) (oAI ?_ (oAI ?_ (oAI ?_ (oAI ?_ (oPu hFT9 h rfl rfl rfl (oAI ?_ (oAI ?_ (oAI ?_ (oAI ?_ (oAI ?_ (trivial))))))))))) [0, 1, 2, 3, 4, 5, 8, 9] (by kernel_rfl) ?_))
  · intro f9 w2 vl1 E9 hs9 hd9 hl hF s
    have h := f9h [(3, _)] h hs9 hd9 ⟨oc_o hl 3 (by kernel_rfl) (h.holds 3 _ rfl), trivial⟩
    refine s_load_row 2 h s row26 rfl rfl (hoArr_size _ _ _ _ _) rfl fun f h => s_nil ⟨_, oc_u 10 h rfl rfl, rfl, s⟩
  · intro f9 w2 vl1 E9 hs9 hd9 hl hF s
    have h := f9h [(10, _)] h hs9 hd9 ⟨oc_g hl 10 0 (by kernel_rfl) (hF 0 (by decide)), trivial⟩
    refine s_call h s fnc28 (qopen_any ho vw vh vi _ (hHo.keep s.ext) ⟨hw9, hh9, hi9⟩) rfl rfl ?_; rintro f w1 v11 ⟨oa, ob, oc, hv9, hO⟩ hE h sq
    have h61 : oa = (hoW v11) := by rw [hv9]; exact (hoW_of (RdZ.of_own (hO.getSl 0 rfl)) _ _).symm
    have h62 : ob = (hoN v11) := by rw [hv9]; exact (hoN_of (RdZ.of_own (hO.getSl 1 rfl)) _ _).symm
    have h63 : oc = (hoS v11) := by rw [hv9]; exact (hoS_of (RdZ.of_own (hO.getSl 2 rfl)) _ _).symm
    subst h61; subst h62; subst h63
    replace s := s.add hO
    clear hO
    exact s_nil ⟨_, oc_u 11 h rfl rfl, hv9, s⟩
  · intro f9 w2 vl1 E9 hs9 hd9 hl hF s
    have h := f9h [(4, _)] h hs9 hd9 ⟨oc_o hl 4 (by kernel_rfl) (h.holds 4 _ rfl), trivial⟩
    refine s_load_row 1 h s row28 rfl rfl (by first | exact idArr_size _ | exact bytesF_size _ _) rfl fun f h => s_nil ⟨_, oc_u 12 h rfl rfl, rfl, s⟩
  · intro f9 w2 vl1 E9 hs9 hd9 hl hF s
    have h := f9h [(12, _)] h hs9 hd9 ⟨oc_g hl 12 2 (by kernel_rfl) (hF 2 (by decide)), trivial⟩
    refine s_pure h (ru_build_nm sttNm (h.ev rfl)) rfl fun f h => s_nil ⟨_, oc_u 13 h rfl rfl, rfl, s⟩
  · intro f9 w2 vl1 E9 hs9 hd9 hl hF s
    have h := f9h [(13, _), (14, _)] h hs9 hd9 ⟨oc_g hl 13 3 (by kernel_rfl) (hF 3 (by decide)), oc_g hl 14 4 (by kernel_rfl) (hF 4 (by decide)), trivial⟩
    refine s_pure h (ru_build_wn sttWm (h.ev rfl) (h.ev rfl)) rfl fun f h => s_nil ⟨_, oc_u 15 h rfl rfl, rfl, s⟩
  · intro f9 w2 vl1 E9 hs9 hd9 hl hF s
    have h := fin_slot [] (hs9.trans h.size) (hd9.trans h.defers) (holds_lk trivial)
    refine s_alloc (hoArr 0 0 nilV nilV nilV) h s zero74 rfl rfl fun f w1 b8 h s => s_nil ⟨_, oc_u 8 h rfl rfl, ⟨_, rfl⟩, s⟩
  · intro f9 w2 vl1 E9 hs9 hd9 hl hF s
    have h := fin_slot [] (hs9.trans h.size) (hd9.trans h.defers) (holds_lk trivial)
    refine s_alloc (wnArr zWn) h s zero79 rfl rfl fun f w1 b9 h s => s_nil ⟨_, oc_u 9 h rfl rfl, ⟨_, rfl⟩, s⟩
  · intro f9 w2 vl1 E9 hs9 hd9 hl hF s
    obtain ⟨b8, hb8⟩ : ∃ b, vl1 6 = .pointer (some ⟨b, 0, none⟩) := hF 6 (by decide)
    have e8 : f9.tmps.getD 8 undef = .pointer (some ⟨b8, 0, none⟩) := (oc_get hl 8 6 (by kernel_rfl) (by kernel_rfl)).trans hb8
    have e11 : f9.tmps.getD 11 undef = .agg (hoArr ho.no ho.gt (hoW (vl1 1)) (hoN (vl1 1)) (hoS (vl1 1))) := (oc_get hl 11 1 (by kernel_rfl) (by kernel_rfl)).trans (hF 1 (by decide))
    have h := fin_slot [(8, .pointer (some ⟨b8, 0, none⟩)), (11, .agg (hoArr ho.no ho.gt (hoW (vl1 1)) (hoN (vl1 1)) (hoS (vl1 1))))] (hs9.trans h.size) (hd9.trans h.defers) (holds_lk ⟨e8, e11, trivial⟩)
    replace s : St w (.blk (pbk (vl1 6)) (.cells (hoArr 0 0 nilV nilV nilV) 74) :: .blk b6 (.cells (hoArr 0 0 nilV nilV nilV) 26) :: .blk b4 (.cells (idArr x) 28) :: .blk b3 (.cells (hoArr ho.no ho.gt vw vh vi) 26) :: E9) _ := s
    rw [hb8] at s
    replace s : St w (.blk b8 (.cells (hoArr 0 0 nilV nilV nilV) 74) :: .blk b6 (.cells (hoArr 0 0 nilV nilV nilV) 26) :: .blk b4 (.cells (idArr x) 28) :: .blk b3 (.cells (hoArr ho.no ho.gt vw vh vi) 26) :: E9) _ := s
    refine s_store_row 0 h s row74 rfl rfl rfl (hoArr_size _ _ _ _ _) (hoArr_size _ _ _ _ _) (hoArr_ones _ _ ((hoW_one _)) ((hoN_one _)) ((hoS_one _))) fun w1 s => s_nil ⟨undef, oc_none rfl, trivial, ?_⟩
    have z := s
    rw [← show pbk (vl1 6) = b8 from by rw [hb8]; rfl] at z
    exact z
  · intro f9 w2 vl1 E9 hs9 hd9 hl hF s
    obtain ⟨b9, hb9⟩ : ∃ b, vl1 7 = .pointer (some ⟨b, 0, none⟩) := hF 7 (by decide)
    have e9 : f9.tmps.getD 9 undef = .pointer (some ⟨b9, 0, none⟩) := (oc_get hl 9 7 (by kernel_rfl) (by kernel_rfl)).trans hb9
    have e15 : f9.tmps.getD 15 undef = .agg (wnArr (x, li)) := (oc_get hl 15 5 (by kernel_rfl) (by kernel_rfl)).trans (hF 5 (by decide))
    have h := fin_slot [(9, .pointer (some ⟨b9, 0, none⟩)), (15, .agg (wnArr (x, li)))] (hs9.trans h.size) (hd9.trans h.defers) (holds_lk ⟨e9, e15, trivial⟩)
    replace s : St w (.blk (pbk (vl1 7)) (.cells (wnArr zWn) 79) :: .blk b6 (.cells (hoArr 0 0 nilV nilV nilV) 26) :: .blk b4 (.cells (idArr x) 28) :: .blk b3 (.cells (hoArr ho.no ho.gt vw vh vi) 26) :: E9) _ := s
    rw [hb9] at s
    replace s : St w (.blk b9 (.cells (wnArr zWn) 79) :: .blk b6 (.cells (hoArr 0 0 nilV nilV nilV) 26) :: .blk b4 (.cells (idArr x) 28) :: .blk b3 (.cells (hoArr ho.no ho.gt vw vh vi) 26) :: E9) _ := s
    refine s_store_row 0 h s row79 rfl rfl rfl (wnArr_size _) (wnArr_size _) (wnArr_ones _) fun w1 s => s_nil ⟨undef, oc_none rfl, trivial, ?_⟩
    have z := s
    rw [← show pbk (vl1 7) = b9 from by rw [hb9]; rfl] at z
    exact z
  intro f w1 vl1 hs9 hd9 hv hr hF s
  obtain ⟨b8, hb8⟩ : ∃ b, vl1 6 = .pointer (some ⟨b, 0, none⟩) := hF 6 (by kernel_rfl)
  obtain ⟨b9, hb9⟩ : ∃ b, vl1 7 = .pointer (some ⟨b, 0, none⟩) := hF 7 (by kernel_rfl)
  replace h := oc_sl (ops := _) [(10, _), (11, .agg (hoArr ho.no ho.gt (hoW (vl1 1)) (hoN (vl1 1)) (hoS (vl1 1)))), (12, _), (13, _), (14, _), (15, _), (8, .pointer (some ⟨b8, 0, none⟩)), (9, .pointer (some ⟨b9, 0, none⟩))] h hs9 hd9 hr ⟨(hv 0 10 rfl).trans (hF 0 rfl), (hv 1 11 rfl).trans (hF 1 rfl), (hv 2 12 rfl).trans (hF 2 rfl), (hv 3 13 rfl).trans (hF 3 rfl), (hv 4 14 rfl).trans (hF 4 rfl), (hv 5 15 rfl).trans (hF 5 rfl), (hv 6 8 rfl).trans hb8, (hv 7 9 rfl).trans hb9, trivial⟩ (by kernel_rfl)
  replace s : St w [.sl (hoW (vl1 1)) 79 33 ho.ws.length (wnCells ho.ws), .sl (hoN (vl1 1)) 105 34 ho.hs.length (hnCells ho.hs), .sl (hoS (vl1 1)) 9 1 ho.bx.length (txC ho.bx), .blk (pbk (vl1 6)) (.cells (hoArr ho.no ho.gt (hoW (vl1 1)) (hoN (vl1 1)) (hoS (vl1 1))) 74), .blk (pbk (vl1 7)) (.cells (wnArr (x, li)) 79), .blk b6 (.cells (hoArr 0 0 nilV nilV nilV) 26), .blk b4 (.cells (idArr x) 28), .blk b3 (.cells (hoArr ho.no ho.gt vw vh vi) 26)] _ := s
  rw [hb8] at s
  replace s : St w [.sl (hoW (vl1 1)) 79 33 ho.ws.length (wnCells ho.ws), .sl (hoN (vl1 1)) 105 34 ho.hs.length (hnCells ho.hs), .sl (hoS (vl1 1)) 9 1 ho.bx.length (txC ho.bx), .blk b8 (.cells (hoArr ho.no ho.gt (hoW (vl1 1)) (hoN (vl1 1)) (hoS (vl1 1))) 74), .blk (pbk (vl1 7)) (.cells (wnArr (x, li)) 79), .blk b6 (.cells (hoArr 0 0 nilV nilV nilV) 26), .blk b4 (.cells (idArr x) 28), .blk b3 (.cells (hoArr ho.no ho.gt vw vh vi) 26)] _ := s
  rw [hb9] at s
  replace s : St w [.sl (hoW (vl1 1)) 79 33 ho.ws.length (wnCells ho.ws), .sl (hoN (vl1 1)) 105 34 ho.hs.length (hnCells ho.hs), .sl (hoS (vl1 1)) 9 1 ho.bx.length (txC ho.bx), .blk b8 (.cells (hoArr ho.no ho.gt (hoW (vl1 1)) (hoN (vl1 1)) (hoS (vl1 1))) 74), .blk b9 (.cells (wnArr (x, li)) 79), .blk b6 (.cells (hoArr 0 0 nilV nilV nilV) 26), .blk b4 (.cells (idArr x) 28), .blk b3 (.cells (hoArr ho.no ho.gt vw vh vi) 26)] _ := s
  refine t_norm (c_seqN (c_seqN ?_))
  refine c_region (s_load_row 3 h s row74 rfl rfl (hoArr_size _ _ _ _ _) rfl fun f h => s_cx h s fnc29 (qir_any ho (hoW (vl1 1)) (hoN (vl1 1)) (hoS (vl1 1)) _ ⟨RdZ.of_own (s.getSl 0 rfl), RdZ.of_own (s.getSl 1 rfl), RdZ.of_own (s.getSl 2 rfl)⟩ ⟨hw9, hh9, hi9⟩) rfl rfl (fun r0 f w1 h s => ?_) (fun r0 f w1 h s => ?_))
  · refine e9 hFT9 6 h rfl fun f h => c_ct h rfl (qr (s_pure h (ru_build_ho0 sttHo) rfl fun f h => s_store_row 5 h s row26 rfl rfl rfl (hoArr_size _ _ _ _ _) (hoArr_size _ _ _ _ _) (hoArr_ones _ _ (rfl) (rfl) (rfl)) fun w1 s => e9 hFT9 1 h rfl fun f h => rt (e_row_tmp 5 rfl h s row26 rfl rfl (hoArr_size _ _ _ _ _) rfl (hop_bad (wan_bad r0).2 (wan_bad r0).1 (s.pick _ (List.nil_sublist _))))))
  · skip
    refine s_run hFT9 2 h rfl fun f h => s_o h rfl (s_load_row 4 h s row79 rfl rfl (wnArr_size _) rfl fun f h => s_o h rfl (s_cx h s fnc30 (qwr_any (x, li) _) rfl rfl (fun l0 f w1 h s => ?_) (fun l0 f w1 h s => ?_)))
    · refine e9 hFT9 2 h rfl fun f h => c_ct h rfl (qr (s_pure h (ru_build_ho0 sttHo) rfl fun f h => s_store_row 5 h s row26 rfl rfl rfl (hoArr_size _ _ _ _ _) (hoArr_size _ _ _ _ _) (hoArr_ones _ _ (rfl) (rfl) (rfl)) fun w1 s => e9 hFT9 1 h rfl fun f h => rt (e_row_tmp 5 rfl h s row26 rfl rfl (hoArr_size _ _ _ _ _) rfl (hop_bad (wanH_n (fun e9 => by rw [wan_1 (fun e8 => by rw [inb_iff.2 e8] at l0; cases l0)] at e9; cases e9)) (wan_1 (fun e8 => by rw [inb_iff.2 e8] at l0; cases l0)) (s.pick _ (List.nil_sublist _))))))
    · refine e9 hFT9 2 h rfl fun f h => cfk h rfl (c_seqN (qrs hFT9 1 h rfl fun f h => s_load_at1 (V := (hoW (vl1 1))) (cell_of_has (Has.of_own s 3 rfl) 2 (ho_w _ _ _ _ _)) h one71 rfl rfl fun f h => s_load_row 6 h s row28 rfl rfl (by first | exact idArr_size _ | exact bytesF_size _ _) rfl fun f h => s_cv h s fnc31 (qplw_any ho.ws (hoW (vl1 1)) x _ (RdZ.of_own (s.getSl 0 rfl)) hw9) rfl rfl fun f w1 h s => e9 hFT9 1 h rfl fun f h => c_cond h rfl (fun hc => ?_) (fun hc => ?_)))
      · have t0 : decide (0 ≤ wtI ho x) = true := hc
        refine qr (s_pure h (ru_build_ho0 sttHo) rfl fun f h => s_store_row 5 h s row26 rfl rfl rfl (hoArr_size _ _ _ _ _) (hoArr_size _ _ _ _ _) (hoArr_ones _ _ (rfl) (rfl) (rfl)) fun w1 s => e9 hFT9 1 h rfl fun f h => rt (e_row_tmp 5 rfl h s row26 rfl rfl (hoArr_size _ _ _ _ _) rfl (hop_bad (wanH_n (fun e9 => by rw [wan_7 r0 (inb_iff.1 l0) t0] at e9; cases e9)) (wan_7 r0 (inb_iff.1 l0) t0) (s.pick _ (List.nil_sublist _)))))
      · have t0 : decide (0 ≤ wtI ho x) = false := hc
        refine kt (c_seqN (qrs hFT9 1 h rfl fun f h => s_load_at1 (V := (hoW (vl1 1))) (cell_of_has (Has.of_own s 3 rfl) 2 (ho_w _ _ _ _ _)) h one71 rfl rfl fun f h => s_len_sl 0 h s Try.underlying71 rfl rfl rfl fun f h => e9 hFT9 1 h rfl fun f h => c_cond h rfl (fun hc => ?_) (fun hc => ?_)))
        · have h8 : decide (ho.ws.length = 8) = true := decide_eq_true (by have := of_decide_eq_true hc; omega)
          refine qr (s_pure h (ru_build_ho0 sttHo) rfl fun f h => s_store_row 5 h s row26 rfl rfl rfl (hoArr_size _ _ _ _ _) (hoArr_size _ _ _ _ _) (hoArr_ones _ _ (rfl) (rfl) (rfl)) fun w1 s => e9 hFT9 1 h rfl fun f h => rt (e_row_tmp 5 rfl h s row26 rfl rfl (hoArr_size _ _ _ _ _) rfl (hop_bad (wanH_n (fun e9 => by rw [wan_8 r0 (inb_iff.1 l0) t0 h8] at e9; cases e9)) (wan_8 r0 (inb_iff.1 l0) t0 h8) (s.pick _ (List.nil_sublist _)))))
        · have h8 : decide (ho.ws.length = 8) = false := decide_eq_false (by have := of_decide_eq_false hc; omega)
          have e0 := wan_0 r0 (inb_iff.1 l0) t0 h8
          refine kt (qrs hFT9 1 h rfl fun f h => s_load_at1 (V := (hoW (vl1 1))) (cell_of_has (Has.of_own s 3 rfl) 2 (ho_w _ _ _ _ _)) h one71 rfl rfl fun f h => s_load_row 4 h s row79 rfl rfl (wnArr_size _) rfl fun f h => s_bslice (vs := [.agg (wnArr (x, li))]) [.tmp 38] h s Try.underlying71 elm79 rfl rfl (wn_sz _) rfl rfl rfl fun f w1 v39 h s => s_append 1 0 h s Try.underlying71 elm79 rfl rfl rfl rfl (by decide) (by rw [one_wn]; exact wnArr_ones _) (by unfold maxLen; omega) (by omega) rfl fun f w1 v40 h s => ?_)
          replace s := s.pick _ (List.sublist_cons_self _ _)
          replace s := s.resl (m := (ho.ws ++ [(x, li)]).length) (ys := wnCells (ho.ws ++ [(x, li)])) 0 rfl (by rw [List.length_append]; rfl) (by rw [one_wn, wn_snoc])
          refine s_run hFT9 1 h rfl fun f h => s_store_one 3 h s one71 rfl rfl rfl (by rw [hoArr_size]; omega) (own_one (s.getSl 0 rfl)) fun w1 s => ?_
          replace s := s.recell (D := hoArr ho.no ho.gt v40 (hoN (vl1 1)) (hoS (vl1 1))) 3 rfl (rfl)
          refine nt (qr (s_load_row 3 h s row74 rfl rfl (hoArr_size _ _ _ _ _) rfl fun f h => s_call h s fnc32 (qclose_any (morH ho x li) v40 (hoN (vl1 1)) (hoS (vl1 1)) _ ⟨RdZ.of_own (s.getSl 0 rfl), RdZ.of_own (s.getSl 1 rfl), RdZ.of_own (s.getSl 2 rfl)⟩ (⟨by show (ho.ws ++ [(x, li)]).length ≤ 1000; rw [List.length_append]; have := (rh_iff.1 r0).wl; show _ + 1 ≤ 1000; omega, hh9, hi9⟩)) rfl rfl ?_)); rintro f w1 v43 ⟨ca, cb, rfl, hO⟩ hE h sq; replace s := s.add hO; clear hO
          have hc1 := rd_one (RdZ.of_own (s.getSl 0 rfl))
          have hc2 := rd_one (RdZ.of_own (s.getSl 1 rfl))
          refine s_store_row 7 h s row26 rfl rfl rfl (hoArr_size _ _ _ _ _) (hoArr_size _ _ _ _ _) (hoArr_ones _ _ (hc1) (hc2) ((hoS_one _))) fun w1 s => e9 hFT9 1 h rfl fun f h => wpIn_ret (e_row_tmp 7 rfl h s row26 rfl rfl (hoArr_size _ _ _ _ _) rfl (by rw [wanH_y e0, e0]; exact hop_own (H := (morH ho x li)) rfl rfl rfl (s.sel [0, 1, 4] rfl (by decide))))

set_option maxHeartbeats 2000000 in
theorem hunwant_any (ho : Ho) (vw vh vi : Value) (x : Id) (w : World) (hHo : RdH w vw vh vi ho) (hB9 : B9 ho) : Calls Try.prog 12 [.agg (hoArr ho.no ho.gt vw vh vi), idV x].toArray w (Ret w (HoP w vw vh vi ho (unwH ho x) (unwE ho x))) := by
  obtain ⟨hw9, hh9, hi9⟩ := hB9
  refine c_en Try.func12 rfl Try.ntmps12 rfl fun f h s => qr (s_box (hoArr ho.no ho.gt vw vh vi) h s rfl rfl rfl fun f w1 b2 h s => s_box (idArr x) h s rfl rfl rfl fun f w1 b3 h s => s_alloc (hoArr 0 0 nilV nilV nilV) h s zero26 rfl rfl fun f w1 b4 h s => e9 hFT9 1 h rfl fun f h => qr (s_load_row 2 h s row26 rfl rfl (hoArr_size _ _ _ _ _) rfl fun f h => s_call h s fnc28 (qopen_any ho vw vh vi _ (hHo.keep s.ext) ⟨hw9, hh9, hi9⟩) rfl rfl ?_)); rintro f w1 v8 ⟨oa, ob, oc, rfl, hO⟩ hE h sq; replace s := s.add hO; clear hO
  have ho1 := rd_one (RdZ.of_own (s.getSl 0 rfl))
  have ho2 := rd_one (RdZ.of_own (s.getSl 1 rfl))
  have ho3 := rd_one (RdZ.of_own (s.getSl 2 rfl))
  refine s_alloc (hoArr 0 0 nilV nilV nilV) h s zero74 rfl rfl fun f w1 b6 h s => s_store_row 0 h s row74 rfl rfl rfl (hoArr_size _ _ _ _ _) (hoArr_size _ _ _ _ _) (hoArr_ones _ _ (ho1) (ho2) (ho3)) fun w1 s => nt (c_seqN (c_seqN ?_))
  refine c_region (s_load_row 0 h s row74 rfl rfl (hoArr_size _ _ _ _ _) rfl fun f h => s_cx h s fnc29 (qir_any ho oa ob oc _ ⟨RdZ.of_own (s.getSl 1 rfl), RdZ.of_own (s.getSl 2 rfl), RdZ.of_own (s.getSl 3 rfl)⟩ ⟨hw9, hh9, hi9⟩) rfl rfl (fun r0 f w1 h s => ?_) (fun r0 f w1 h s => ?_))
  · refine e9 hFT9 1 h rfl fun f h => c_ct h rfl (qr (s_pure h (ru_build_ho0 sttHo) rfl fun f h => s_store_row 4 h s row26 rfl rfl rfl (hoArr_size _ _ _ _ _) (hoArr_size _ _ _ _ _) (hoArr_ones _ _ (rfl) (rfl) (rfl)) fun w1 s => e9 hFT9 1 h rfl fun f h => rt (e_row_tmp 4 rfl h s row26 rfl rfl (hoArr_size _ _ _ _ _) rfl (hop_bad (unw_bad r0).2 (unw_bad r0).1 (s.pick _ (List.nil_sublist _))))))
  · refine e9 hFT9 1 h rfl fun f h => cfk h rfl (c_seqN (qrs hFT9 1 h rfl fun f h => s_load_at1 (V := oa) (cell_of_has (Has.of_own s 0 rfl) 2 (ho_w _ _ _ _ _)) h one71 rfl rfl fun f h => s_load_row 5 h s row28 rfl rfl (by first | exact idArr_size _ | exact bytesF_size _ _) rfl fun f h => s_cv h s fnc31 (qplw_any ho.ws oa x _ (RdZ.of_own (s.getSl 1 rfl)) hw9) rfl rfl fun f w1 h s => e9 hFT9 1 h rfl fun f h => c_cond h rfl (fun hc => ?_) (fun hc => ?_)))
    · have t0 : wtI ho x < 0 := of_decide_eq_true hc
      refine qr (s_pure h (ru_build_ho0 sttHo) rfl fun f h => s_store_row 4 h s row26 rfl rfl rfl (hoArr_size _ _ _ _ _) (hoArr_size _ _ _ _ _) (hoArr_ones _ _ (rfl) (rfl) (rfl)) fun w1 s => e9 hFT9 1 h rfl fun f h => rt (e_row_tmp 4 rfl h s row26 rfl rfl (hoArr_size _ _ _ _ _) rfl (hop_bad (unw_n r0 t0).2 (unw_n r0 t0).1 (s.pick _ (List.nil_sublist _)))))
    · have t0 : ¬ wtI ho x < 0 := of_decide_eq_false hc
      refine kt (qrs hFT9 1 h rfl fun f h => s_load_at1 (V := oa) (cell_of_has (Has.of_own s 0 rfl) 2 (ho_w _ _ _ _ _)) h one71 rfl rfl fun f h => s_load_row 5 h s row28 rfl rfl (by first | exact idArr_size _ | exact bytesF_size _ _) rfl fun f h => ?_)
      replace s := s.bring 1 rfl
      replace s : St w [.sl oa 79 33 ho.ws.length (wnCells ho.ws), .blk b6 (.cells (hoArr ho.no ho.gt oa ob oc) 74), .sl ob 105 34 ho.hs.length (hnCells ho.hs), .sl oc 9 1 ho.bx.length (txC ho.bx), .blk b4 (.cells (hoArr 0 0 nilV nilV nilV) 26), .blk b3 (.cells (idArr x) 28), .blk b2 (.cells (hoArr ho.no ho.gt vw vh vi) 26)] _ := s
      refine s_callS [oa, idV x] h fnc33 (qwow_any ho.ws hw9 oa x _ _ _ s) rfl rfl ?_; rintro f w1 v22 s h
      rw [show (ho.ws.filter fun y => !decide (y.1 = x)) = (lesH ho x).ws from wos_les r0 t0] at s
      have hv22 := rd_one (RdZ.of_own (s.getSl 0 rfl))
      refine s_run hFT9 1 h rfl fun f h => s_store_one 1 h s one71 rfl rfl rfl (by rw [hoArr_size]; omega) (own_one (s.getSl 0 rfl)) fun w1 s => ?_
      replace s := s.recell (D := hoArr ho.no ho.gt v22 ob oc) 1 rfl (rfl)
      refine nt (qr (s_load_row 1 h s row74 rfl rfl (hoArr_size _ _ _ _ _) rfl fun f h => s_call h s fnc32 (qclose_any (lesH ho x) v22 ob oc _ ⟨RdZ.of_own (s.getSl 0 rfl), RdZ.of_own (s.getSl 2 rfl), RdZ.of_own (s.getSl 3 rfl)⟩ (⟨Nat.le_trans (les_len ho x) hw9, hh9, hi9⟩)) rfl rfl ?_)); rintro f w1 v25 ⟨ca, cb, rfl, hO⟩ hE h sq; replace s := s.add hO; clear hO
      have hc1 := rd_one (RdZ.of_own (s.getSl 0 rfl))
      have hc2 := rd_one (RdZ.of_own (s.getSl 1 rfl))
      refine s_store_row 6 h s row26 rfl rfl rfl (hoArr_size _ _ _ _ _) (hoArr_size _ _ _ _ _) (hoArr_ones _ _ (hc1) (hc2) (ho3)) fun w1 s => e9 hFT9 1 h rfl fun f h => wpIn_ret (e_row_tmp 6 rfl h s row26 rfl rfl (hoArr_size _ _ _ _ _) rfl (by rw [(unw_y r0 t0).2, (unw_y r0 t0).1]; exact hop_own (H := (lesH ho x)) rfl rfl rfl (s.sel [0, 1, 5] rfl (by decide))))

/- fld79_0 fld79_1 -/
set_option maxHeartbeats 2000000 in
theorem hask_any (ho : Ho) (vw vh vi : Value) (now : Int) (w : World) (hHo : RdH w vw vh vi ho) (hB9 : B9 ho) : Calls Try.prog 18 [.agg (hoArr ho.no ho.gt vw vh vi), .int .i64 now].toArray w (Ret w (AkP w vw vh vi ho (akL ho now) (akE ho now))) := by
  obtain ⟨hw9, hh9, hi9⟩ := hB9
  refine c_en Try.func18 rfl Try.ntmps18 rfl fun f h s => qr (s_box (hoArr ho.no ho.gt vw vh vi) h s rfl rfl rfl fun f w1 b2 h s => e9 hFT9 2 h rfl fun f h => qr (s_load_row 0 h s row26 rfl rfl (hoArr_size _ _ _ _ _) rfl fun f h => s_call h s fnc28 (qopen_any ho vw vh vi _ (hHo.keep s.ext) ⟨hw9, hh9, hi9⟩) rfl rfl ?_)); rintro f w1 v12 ⟨oa, ob, oc, rfl, hO⟩ hE h sq; replace s := s.add hO; clear hO
  have ho1 := rd_one (RdZ.of_own (s.getSl 0 rfl))
  have ho2 := rd_one (RdZ.of_own (s.getSl 1 rfl))
  have ho3 := rd_one (RdZ.of_own (s.getSl 2 rfl))
  obtain ⟨ko, s⟩ := own_rd s
  refine s_alloc (hoArr 0 0 nilV nilV nilV) h s zero74 rfl rfl fun f w1 b6 h s => s_store_row 0 h s row74 rfl rfl rfl (hoArr_size _ _ _ _ _) (hoArr_size _ _ _ _ _) (hoArr_ones _ _ (ho1) (ho2) (ho3)) fun w1 s => nt (c_seqN (c_seqN ?_))
  refine c_region (s_load_row 0 h s row74 rfl rfl (hoArr_size _ _ _ _ _) rfl fun f h => s_cx h s fnc29 (qir_any ho oa ob oc _ (s.getG 1 rfl) ⟨hw9, hh9, hi9⟩) rfl rfl (fun r0 f w1 h s => ?_) (fun r0 f w1 h s => ?_))
  · refine e9 hFT9 6 h rfl fun f h => c_ct h rfl (qre hFT9 2 h rfl fun f h => rt (e_tmps rfl h s rfl rfl (akp_bad (ak_bad fun e9 => by rw [r0] at e9; cases e9.1) (s.pick _ (List.nil_sublist _)))))
  · skip
    refine s_run hFT9 3 h rfl fun f h => s_o h rfl (s_cx h s fnc36 (qtime_any now _) rfl rfl (fun n0 f w1 h s => ?_) (fun n0 f w1 h s => ?_))
    · refine e9 hFT9 2 h rfl fun f h => c_ct h rfl (qre hFT9 2 h rfl fun f h => rt (e_tmps rfl h s rfl rfl (akp_bad (ak_bad fun e9 => by rw [inb_iff.2 e9.2] at n0; cases n0) (s.pick _ (List.nil_sublist _)))))
    · refine e9 hFT9 2 h rfl fun f h => cfk h rfl (qre hFT9 1 h rfl fun f h => c_seqN (qr ?_))
      replace s := s.nilSl 53 139
      refine s_run hFT9 1 h rfl fun f h => s_load_at1 (V := oa) (cell_of_has (Has.of_own s 1 rfl) 2 (ho_w _ _ _ _ _)) h one71 rfl rfl fun f h => s_lz h ((s.getG 2 rfl).1) Try.underlying71 rfl rfl fun f h => e9 hFT9 1 h rfl fun f h => wpIn_block (wpIn_loop_ghost (fun nn aa ww => ∃ k : Nat, ∃ vb : Value, Sl 49 aa [(0, .agg (hoArr ho.no ho.gt vw vh vi)), (1, .int .i64 now), (2, .pointer (some ⟨b2, 0, none⟩)), (6, .pointer (some ⟨b6, 0, none⟩)), (7, vb), (22, oa), (23, .int .i64 (ho.ws.length : Int)), (24, .int .i64 (k : Int))] ∧ St w [.sl vb 53 139 (akK ho now k).length (seCells (akK ho now k)), .blk b6 (.cells (hoArr ho.no ho.gt oa ob oc) 74), (.grp ko (fun w9 => RdH w9 oa ob oc ho)), .blk b2 (.cells (hoArr ho.no ho.gt vw vh vi) 26)] ww ∧ nn = ho.ws.length - k ∧ k ≤ ho.ws.length) (ho.ws.length - (0)) ⟨0, nilV, h.only ⟨rfl, rfl, rfl, rfl, rfl, rfl, rfl, slot_int rfl (by omega), trivial⟩, s.as ⟨rfl, rfl, rfl, rfl, trivial⟩, rfl, Nat.zero_le _⟩ ?_)
      rintro _ f w1 ⟨k, vb, h, s, hnn, hp0⟩
      refine qre hFT9 1 h rfl fun f h => c_seqN (c_cd h rfl (fun hc => ?_) (fun hc => ?_))
      · refine kt (c_seqN (wpIn_block (qr ?_)))
        have hkl : k < ho.ws.length := by omega
        have hak := akK_len (h := ho) (now := now) (k := k) (by omega)
        refine s_pure h (ru_ixz ((s.getG 2 rfl).1) (k) Try.underlying71 szo79 (h.ev rfl) (h.ev rfl) (by omega) (by omega)) rfl fun f h => s_load_at (((s.getG 2 rfl).1).el (k) (by omega) (by decide) (D := wnArr (ho.ws.getD k zWn)) (wn_el _ k hkl)) h row79 rfl (wnArr_size _) rfl fun f h => s_alloc (wnArr zWn) h s zero79 rfl rfl fun f w1 b9 h s => s_store_row 0 h s row79 rfl rfl rfl (wnArr_size _) (wnArr_size _) (wnArr_ones _) fun w1 s => nt (c_seqN (c_regT 0 9 [[], [0], [0, 1], [], [0, 1, 2, 3], [], [5], [0, 1, 2, 3, 4, 5, 6], [], [0, 1, 2, 3, 4, 5, 6, 7, 8]] [[], [], [], [], [], [], [], [], [], []] [] [.v _, .v (.agg (idArr (ho.ws.getD k zWn).1)), .v (.agg (idArr (ho.ws.getD k zWn).1)), .v (.agg (hoArr ho.no ho.gt oa ob oc)), .v (.agg (eArr (selfH ho))), .v _, .v (.int .i64 (ho.ws.getD k zWn).2), .v (.agg (mArr (insG ho (ho.ws.getD k zWn)) nilV)), .q (fun v => [.blk (pbk (v 8)) (.cells (mArr mZ nilV) 49)]), .n] _ h s rfl (by kernel_rfl) (by kernel_rfl) (by kernel_rfl) (oPu hFT9 h rfl rfl rfl (oAI ?_ (oAI ?_ (oAI ?_ (oAI ?_ (oPu hFT9 h rfl rfl rfl (oAI ?_ (oAI ?_ (oAI ?_ (trivial)))))))))) [0, 1, 2, 3, 4, 5, 6, 7, 8] (by kernel_rfl) ?_))
        · intro f9 w2 vl8 E9 hs9 hd9 hl hF s
          have h := f9h [(28, _)] h hs9 hd9 ⟨oc_g hl 28 0 (by kernel_rfl) (hF 0 (by decide)), trivial⟩
          refine s_load_at (Has.subL (Has.of_own s 0 rfl) 0 32 (D := idArr (ho.ws.getD k zWn).1) (wnArr_id _)) h row77 rfl (by first | exact idArr_size _ | exact bytesF_size _ _) rfl fun f h => s_nil ⟨_, oc_u 29 h rfl rfl, rfl, s⟩
        · intro f9 w2 vl8 E9 hs9 hd9 hl hF s
          have h := f9h [(29, _)] h hs9 hd9 ⟨oc_g hl 29 1 (by kernel_rfl) (hF 1 (by decide)), trivial⟩
          refine s_cv h s fnc37 (nid_any (ho.ws.getD k zWn).1 _) rfl rfl fun f w1 h s => s_nil ⟨_, oc_u 30 h rfl rfl, rfl, s⟩
        · intro f9 w2 vl8 E9 hs9 hd9 hl hF s
          have h := f9h [(6, _)] h hs9 hd9 ⟨oc_o hl 6 (by kernel_rfl) (h.holds 6 _ rfl), trivial⟩
          refine s_load_row 2 h s row74 rfl rfl (hoArr_size _ _ _ _ _) rfl fun f h => s_nil ⟨_, oc_u 31 h rfl rfl, rfl, s⟩
        · intro f9 w2 vl8 E9 hs9 hd9 hl hF s
          have h := f9h [(31, _)] h hs9 hd9 ⟨oc_g hl 31 3 (by kernel_rfl) (hF 3 (by decide)), trivial⟩
          refine s_cv h s fnc38 (qent_any ho oa ob oc _ ho1 ho2 ho3) rfl rfl fun f w1 h s => s_nil ⟨_, oc_u 32 h rfl rfl, rfl, s⟩
        · intro f9 w2 vl8 E9 hs9 hd9 hl hF s
          have h := f9h [(33, _)] h hs9 hd9 ⟨oc_g hl 33 5 (by kernel_rfl) (hF 5 (by decide)), trivial⟩
          refine s_load_at1 (V := .int .i64 (ho.ws.getD k zWn).2) (cell_of_has (Has.of_own s 0 rfl) 32 (wnArr_life _)) h one3 rfl rfl fun f h => s_nil ⟨_, oc_u 34 h rfl rfl, rfl, s⟩
        · intro f9 w2 vl8 E9 hs9 hd9 hl hF s
          have h := f9h [(30, _), (32, _), (34, _)] h hs9 hd9 ⟨oc_g hl 30 2 (by kernel_rfl) (hF 2 (by decide)), oc_g hl 32 4 (by kernel_rfl) (hF 4 (by decide)), oc_g hl 34 6 (by kernel_rfl) (hF 6 (by decide)), trivial⟩
          refine s_pure h (ru_build_m0124 sttM rfl (h.ev rfl) (h.ev rfl) (h.ev rfl)) rfl fun f h => s_nil ⟨_, oc_u 35 h rfl rfl, rfl, s⟩
        · intro f9 w2 vl8 E9 hs9 hd9 hl hF s
          have h := fin_slot [] (hs9.trans h.size) (hd9.trans h.defers) (holds_lk trivial)
          refine s_alloc (mArr mZ nilV) h s zero49 rfl rfl fun f w1 b10 h s => s_nil ⟨_, oc_u 10 h rfl rfl, ⟨_, rfl⟩, s⟩
        intro f w1 vl8 hs9 hd9 hv hr hF s
        replace hv := fun i d h9 => hv i d (show Nat.blt i 9 = true from h9)
        obtain ⟨b10, hb10⟩ : ∃ b, vl8 8 = .pointer (some ⟨b, 0, none⟩) := hF 8 (by kernel_rfl)
        replace h := oc_slT 9 (ops := _) [(28, _), (29, _), (30, _), (31, _), (32, _), (33, _), (34, _), (35, _), (10, .pointer (some ⟨b10, 0, none⟩))] h hs9 hd9 hr ⟨(hv 0 28 rfl rfl).trans (hF 0 rfl), (hv 1 29 rfl rfl).trans (hF 1 rfl), (hv 2 30 rfl rfl).trans (hF 2 rfl), (hv 3 31 rfl rfl).trans (hF 3 rfl), (hv 4 32 rfl rfl).trans (hF 4 rfl), (hv 5 33 rfl rfl).trans (hF 5 rfl), (hv 6 34 rfl rfl).trans (hF 6 rfl), (hv 7 35 rfl rfl).trans (hF 7 rfl), (hv 8 10 rfl rfl).trans hb10, trivial⟩ (by kernel_rfl)
        replace s : St w [.blk (pbk (vl8 8)) (.cells (mArr mZ nilV) 49), .blk b9 (.cells (wnArr (ho.ws.getD k zWn)) 79), .sl vb 53 139 (akK ho now k).length (seCells (akK ho now k)), .blk b6 (.cells (hoArr ho.no ho.gt oa ob oc) 74), (.grp ko (fun w9 => RdH w9 oa ob oc ho)), .blk b2 (.cells (hoArr ho.no ho.gt vw vh vi) 26)] _ := s
        rw [hb10] at s
        replace s : St w [.blk b10 (.cells (mArr mZ nilV) 49), .blk b9 (.cells (wnArr (ho.ws.getD k zWn)) 79), .sl vb 53 139 (akK ho now k).length (seCells (akK ho now k)), .blk b6 (.cells (hoArr ho.no ho.gt oa ob oc) 74), (.grp ko (fun w9 => RdH w9 oa ob oc ho)), .blk b2 (.cells (hoArr ho.no ho.gt vw vh vi) 26)] _ := s
        refine s_store_row 0 h s row49 rfl rfl rfl (mArr_size _ _) (mArr_size _ _) (mArr_ones _ _ rfl) fun w1 s => nt ?_
        replace s := s.bring 2 rfl
        replace s : St w [.sl vb 53 139 (akK ho now k).length (seCells (akK ho now k)), .blk b10 (.cells (mArr (insG ho (ho.ws.getD k zWn)) nilV) 49), .blk b9 (.cells (wnArr (ho.ws.getD k zWn)) 79), .blk b6 (.cells (hoArr ho.no ho.gt oa ob oc) 74), (.grp ko (fun w9 => RdH w9 oa ob oc ho)), .blk b2 (.cells (hoArr ho.no ho.gt vw vh vi) 26)] _ := s
        refine c_regT 1 11 [[], [], [], [2], [2, 3], [], [1, 2, 3, 4, 5], [], [1, 2, 3, 4, 5, 6, 7], [1, 2, 3, 4, 5, 6, 7, 8], [0, 1, 2, 3, 4, 5, 6, 7, 8, 9], [0, 1, 2, 3, 4, 5, 6, 7, 8, 9, 10]] [[], [], [], [], [], [], [], [], [], [], [9, 12], []] [[_]] [.v _, .v (.agg (hoArr ho.no ho.gt oa ob oc)), .v _, .v (.agg (idArr (ho.ws.getD k zWn).1)), .v (.agg (idArr (ho.ws.getD k zWn).1)), .v _, .v (.int .i64 (trnH ho (ho.ws.getD k zWn).1 now)), .v (.agg (mArr (insG ho (ho.ws.getD k zWn)) nilV)), .v (.agg (seArr (trnH ho (ho.ws.getD k zWn).1 now) (insG ho (ho.ws.getD k zWn)) nilV zTg)), .m (fun v => [.sl (v 9) 53 139 1 (seCells [((askO ho now (ho.ws.getD k zWn), nilV) : S2)])]), .m (fun v => [.sl (v 10) 53 139 ((akK ho now k) ++ [((askO ho now (ho.ws.getD k zWn), nilV) : S2)]).length (seCells ((akK ho now k) ++ [((askO ho now (ho.ws.getD k zWn), nilV) : S2)]))]), .n] _ h s rfl (by kernel_rfl) (by kernel_rfl) (by kernel_rfl) (oPu hFT9 h rfl rfl rfl (oAI ?_ (oPu hFT9 h rfl rfl rfl (oAI ?_ (oAI ?_ (oPu hFT9 h rfl rfl rfl (oAI ?_ (oAI ?_ (oAI ?_ (oAI ?_ (oAI ?_ (trivial)))))))))))) [0, 1, 2, 3, 4, 5, 6, 7, 8, 10] (by kernel_rfl) ?_
        · intro f9 w2 vl9 E9 hs9 hd9 hl hF s
          have h := f9h [(6, _)] h hs9 hd9 ⟨oc_o hl 6 (by kernel_rfl) (h.holds 6 _ rfl), trivial⟩
          refine s_load_row 2 h s row74 rfl rfl (hoArr_size _ _ _ _ _) rfl fun f h => s_nil ⟨_, oc_u 37 h rfl rfl, rfl, s⟩
        · intro f9 w2 vl9 E9 hs9 hd9 hl hF s
          have h := f9h [(38, _)] h hs9 hd9 ⟨oc_g hl 38 2 (by kernel_rfl) (hF 2 (by decide)), trivial⟩
          refine s_load_at (Has.subL (Has.of_own s 1 rfl) 0 32 (D := idArr (ho.ws.getD k zWn).1) (wnArr_id _)) h row77 rfl (by first | exact idArr_size _ | exact bytesF_size _ _) rfl fun f h => s_nil ⟨_, oc_u 39 h rfl rfl, rfl, s⟩
        · intro f9 w2 vl9 E9 hs9 hd9 hl hF s
          have h := f9h [(39, _)] h hs9 hd9 ⟨oc_g hl 39 3 (by kernel_rfl) (hF 3 (by decide)), trivial⟩
          refine s_cv h s fnc37 (nid_any (ho.ws.getD k zWn).1 _) rfl rfl fun f w1 h s => s_nil ⟨_, oc_u 40 h rfl rfl, rfl, s⟩
        · intro f9 w2 vl9 E9 hs9 hd9 hl hF s
          have h := f9h [(37, _), (40, _), (41, _)] h hs9 hd9 ⟨oc_g hl 37 1 (by kernel_rfl) (hF 1 (by decide)), oc_g hl 40 4 (by kernel_rfl) (hF 4 (by decide)), oc_g hl 41 5 (by kernel_rfl) (hF 5 (by decide)), trivial⟩
          refine s_cv h s fnc39 (qtrn_any ho oa ob oc (ho.ws.getD k zWn).1 now _ (s.getG 3 rfl) ⟨hw9, hh9, hi9⟩) rfl rfl fun f w1 h s => s_nil ⟨_, oc_u 42 h rfl rfl, rfl, s⟩
        · intro f9 w2 vl9 E9 hs9 hd9 hl hF s
          have h := f9h [(10, _)] h hs9 hd9 ⟨oc_o hl 10 (by kernel_rfl) (h.holds 10 _ rfl), trivial⟩
          refine s_load_row 0 h s row49 rfl rfl (mArr_size _ _) rfl fun f h => s_nil ⟨_, oc_u 43 h rfl rfl, rfl, s⟩
        · intro f9 w2 vl9 E9 hs9 hd9 hl hF s
          have h := f9h [(42, _), (43, _)] h hs9 hd9 ⟨oc_g hl 42 6 (by kernel_rfl) (hF 6 (by decide)), oc_g hl 43 7 (by kernel_rfl) (hF 7 (by decide)), trivial⟩
          refine s_pure h (ru_build_se2 sttSe (h.ev rfl) (h.ev rfl)) rfl fun f h => s_nil ⟨_, oc_u 44 h rfl rfl, rfl, s⟩
        · intro f9 w2 vl9 E9 hs9 hd9 hl hF s
          have h := f9h [(44, _)] h hs9 hd9 ⟨oc_g hl 44 8 (by kernel_rfl) (hF 8 (by decide)), trivial⟩
          refine s_bslice (vs := [.agg (seArr (trnH ho (ho.ws.getD k zWn).1 now) (insG ho (ho.ws.getD k zWn)) nilV zTg)]) [.tmp 44] h s Try.underlying43 elm53 rfl rfl (s2_sz ((askO ho now (ho.ws.getD k zWn), nilV) : S2)) rfl rfl rfl fun f w1 v45 h s => ?_
          replace s := s.resl (m := 1) (ys := seCells [((askO ho now (ho.ws.getD k zWn), nilV) : S2)]) 0 rfl rfl (by exact s2_put [] ((askO ho now (ho.ws.getD k zWn), nilV) : S2))
          exact s_nil ⟨_, oc_u 45 h rfl rfl, trivial, s⟩
        · intro f9 w2 vl9 E9 hs9 hd9 hl hF s
          have e36 : f9.tmps.getD 36 undef = vb := (oc_get hl 36 0 (by kernel_rfl) (by kernel_rfl)).trans (hF 0 (by decide))
          have e45 : f9.tmps.getD 45 undef = (vl9 9) := oc_get hl 45 9 (by kernel_rfl) (by kernel_rfl)
          have h := fin_slot [(36, vb), (45, (vl9 9))] (hs9.trans h.size) (hd9.trans h.defers) (holds_lk ⟨e36, e45, trivial⟩)
          refine s_append 1 0 h s Try.underlying43 elm53 rfl rfl rfl rfl (by decide) (s2_ones (K := [((askO ho now (ho.ws.getD k zWn), nilV) : S2)]) (w := w) (rwS_snoc (rwS_nil _) (re_nil _))) (by show _ + 1 ≤ _; unfold maxLen; omega) (by show (_ + 1) * _ ≤ _; omega) rfl fun f w1 v46 h s => ?_
          replace s := s.pick _ (List.sublist_cons_self _ _)
          replace s := s.resl (m := ((akK ho now k) ++ [((askO ho now (ho.ws.getD k zWn), nilV) : S2)]).length) (ys := seCells ((akK ho now k) ++ [((askO ho now (ho.ws.getD k zWn), nilV) : S2)])) 0 rfl (by rw [List.length_append]; rfl) (by rw [seCells_app])
          exact s_nil ⟨_, oc_u 46 h rfl rfl, trivial, s⟩
        intro f w1 vl9 hs9 hd9 hv hr hF s
        replace hv := fun i d h9 => hv i d (show Nat.blt i 11 = true from h9)
        replace h := oc_slT 11 (ops := _) [(36, _), (37, _), (38, _), (39, _), (40, _), (41, _), (42, _), (43, _), (44, _), (45, (vl9 9)), (46, (vl9 10))] h hs9 hd9 hr ⟨(hv 0 36 rfl rfl).trans (hF 0 rfl), (hv 1 37 rfl rfl).trans (hF 1 rfl), (hv 2 38 rfl rfl).trans (hF 2 rfl), (hv 3 39 rfl rfl).trans (hF 3 rfl), (hv 4 40 rfl rfl).trans (hF 4 rfl), (hv 5 41 rfl rfl).trans (hF 5 rfl), (hv 6 42 rfl rfl).trans (hF 6 rfl), (hv 7 43 rfl rfl).trans (hF 7 rfl), (hv 8 44 rfl rfl).trans (hF 8 rfl), hv 9 45 rfl rfl, hv 10 46 rfl rfl, trivial⟩ (by kernel_rfl)
        replace s : St w [.sl (vl9 10) 53 139 ((akK ho now k) ++ [((askO ho now (ho.ws.getD k zWn), nilV) : S2)]).length (seCells ((akK ho now k) ++ [((askO ho now (ho.ws.getD k zWn), nilV) : S2)])), .blk b10 (.cells (mArr (insG ho (ho.ws.getD k zWn)) nilV) 49), .blk b9 (.cells (wnArr (ho.ws.getD k zWn)) 79), .blk b6 (.cells (hoArr ho.no ho.gt oa ob oc) 74), (.grp ko (fun w9 => RdH w9 oa ob oc ho)), .blk b2 (.cells (hoArr ho.no ho.gt vw vh vi) 26)] _ := s
        refine s_run hFT9 1 h rfl fun f h => s_nil (b_norm (t_norm (c_region (s_pure h (ru_add (h.ev rfl) (h.ev rfl) (by omega)) rfl fun f h => e9 hFT9 1 h rfl fun f h => ?_))))
        exact ⟨_, by omega, ⟨k + 1, (vl9 10), h.only ⟨rfl, rfl, rfl, rfl, rfl, rfl, rfl, slot_int rfl (by omega), trivial⟩, St.as (s.pick _ (List.Sublist.cons_cons _ (List.Sublist.cons _ (List.Sublist.cons _ (List.Sublist.cons_cons _ (List.Sublist.cons_cons _ (List.Sublist.cons_cons _ (List.nil_sublist _)))))))) ⟨sl_eq (by rw [akK_s hkl]) (by rw [akK_s hkl]), rfl, rfl, rfl, trivial⟩, rfl, by omega⟩⟩
      · refine wpIn_exit (t_exit (t_exit (b_exit (t_norm (qre hFT9 3 h rfl fun f h => wpIn_ret (e_tmps rfl h s rfl rfl (by obtain rfl : k = ho.ws.length := (by omega); exact akp_ok (ak_ok ⟨r0, inb_iff.1 n0⟩) (s.sel [0] rfl (by decide)))))))))

theorem qcle_ok (l : List Ent) (hln : l.length ≤ 1000) (a9 : Option Addr) (n9 c9 : Nat) (w : World) (hR : RdZ w (.slice a9 n9 c9) 34 l.length (eCells l)) : Calls Try.prog 41 [.slice a9 n9 c9].toArray w (Ret w (fun v w' => Owns w' w.heap.size 47 34 v l.length (eCells l))) := by
  refine c_en Try.func41 rfl Try.ntmps41 rfl fun f h s => qre hFT9 1 h rfl fun f h => c_seqN (c_seqN ?_)
  cases hn : (a9.isNone : Bool)
  · refine rs hFT9 1 h rfl fun f h => s_pure h (ru_val (.bool false) (ru_eql_nilS Try.underlying42 (h.ev rfl) (h.ev rfl)) (congrArg Value.bool hn)) rfl fun f h => ncfk h rfl (qr (s_bslice0 (base := w.heap.size) h Try.underlying42 elm47 (Nat.le_refl _) rfl fun f w2 v5 h hE3 e5 => s_run hFT9 1 h rfl fun f h => s_append_emp (base := w.heap.size) e5 (hR.keep hE3) h Try.underlying42 elm47 rfl rfl hE3.le (eCells_ones _) (by unfold maxLen; omega) (by omega) rfl fun f w3 v7 h hE4 e7 => ?_))
    replace s := s.sl_new (hE3.trans hE4) e7
    refine e9 hFT9 1 h rfl fun f h => wpIn_ret (e_tmp rfl h s rfl (s.getSl 0 rfl))
  · refine rs hFT9 1 h rfl fun f h => s_pure h (ru_val (.bool true) (ru_eql_nilS Try.underlying42 (h.ev rfl) (h.ev rfl)) (congrArg Value.bool hn)) rfl fun f h => nct h rfl (qre hFT9 1 h rfl fun f h => rt (e_tmp rfl h s rfl (by obtain rfl := clone_nilG hn hR; exact owns_nil _ _ _ _)))

theorem qcle_any (l : List Ent) (hln : l.length ≤ 1000) (v9 : Value) (w : World) (hR : RdZ w v9 34 l.length (eCells l)) : Calls Try.prog 41 [v9].toArray w (Ret w (fun v w' => Owns w' w.heap.size 47 34 v l.length (eCells l))) := by
  obtain ⟨a, c, rfl⟩ := hR.len
  exact qcle_ok l hln a _ c w hR

set_option maxHeartbeats 2000000 in
theorem hsend_any (ho : Ho) (vw vh vi : Value) (l : List Ent) (vl : Value) (sx : ByteArray) (now : Int) (w : World) (hHo : RdH w vw vh vi ho) (hB9 : B9 ho) (hL9 : RdE w vl l) (hll : l.length ≤ 1000) : Calls Try.prog 19 [.agg (hoArr ho.no ho.gt vw vh vi), vl, .string sx, .int .i64 now].toArray w (Ret w (SdP w vl l (sdX ho l sx now) (sdE ho l sx now))) := by
  obtain ⟨hw9, hh9, hi9⟩ := hB9
  refine c_en Try.func19 rfl Try.ntmps19 rfl fun f h s => qr (s_box (hoArr ho.no ho.gt vw vh vi) h s rfl rfl rfl fun f w1 b4 h s => s_alloc (seArr 0 mZ nilV zTg) h s zero53 rfl rfl fun f w1 b8 h s => e9 hFT9 1 h rfl fun f h => qr (s_load_row 1 h s row26 rfl rfl (hoArr_size _ _ _ _ _) rfl fun f h => s_call h s fnc28 (qopen_any ho vw vh vi _ (hHo.keep s.ext) ⟨hw9, hh9, hi9⟩) rfl rfl ?_)); rintro f w1 v14 ⟨oa, ob, oc, rfl, hO⟩ hE h sq; replace s := s.add hO; clear hO
  have ho1 := rd_one (RdZ.of_own (s.getSl 0 rfl))
  have ho2 := rd_one (RdZ.of_own (s.getSl 1 rfl))
  have ho3 := rd_one (RdZ.of_own (s.getSl 2 rfl))
  obtain ⟨ko, s⟩ := own_rd s
  refine s_alloc (hoArr 0 0 nilV nilV nilV) h s zero74 rfl rfl fun f w1 b10 h s => s_store_row 0 h s row74 rfl rfl rfl (hoArr_size _ _ _ _ _) (hoArr_size _ _ _ _ _) (hoArr_ones _ _ (ho1) (ho2) (ho3)) fun w1 s => nt (c_seqN (c_seqN ?_))
  refine c_region (s_load_row 0 h s row74 rfl rfl (hoArr_size _ _ _ _ _) rfl fun f h => s_cx h s fnc29 (qir_any ho oa ob oc _ (s.getG 1 rfl) ⟨hw9, hh9, hi9⟩) rfl rfl (fun r0 f w1 h s => ?_) (fun r0 f w1 h s => ?_))
  · refine e9 hFT9 11 h rfl fun f h => c_ct h rfl (qr (s_pure h (ru_build_se0 sttSe) rfl fun f h => s_store_row 2 h s row53 rfl rfl rfl (seArr_size _ _ _ _) (seArr_size _ _ _ _) (seArr_ones _ _ _ (rfl)) fun w1 s => e9 hFT9 1 h rfl fun f h => rt (e_row_tmp 2 rfl h s row53 rfl rfl (seArr_size _ _ _ _) rfl (sdp_bad (sd_1 fun e9 => by rw [r0] at e9; cases e9.1) (s.pick _ (List.nil_sublist _))))))
  · skip
    refine s_run hFT9 3 h rfl fun f h => s_o h rfl (s_cx h s fnc36 (qtime_any now _) rfl rfl (fun n0 f w1 h s => ?_) (fun n0 f w1 h s => ?_))
    · refine e9 hFT9 7 h rfl fun f h => c_ct h rfl (qr (s_pure h (ru_build_se0 sttSe) rfl fun f h => s_store_row 2 h s row53 rfl rfl rfl (seArr_size _ _ _ _) (seArr_size _ _ _ _) (seArr_ones _ _ _ (rfl)) fun w1 s => e9 hFT9 1 h rfl fun f h => rt (e_row_tmp 2 rfl h s row53 rfl rfl (seArr_size _ _ _ _) rfl (sdp_bad (sd_1 fun e9 => by rw [inb_iff.2 e9.2.1] at n0; cases n0) (s.pick _ (List.nil_sublist _))))))
    · skip
      cases q0 : (rightE l : Bool)
      · refine s_run hFT9 4 h rfl fun f h => s_o h rfl (s_cb false h s fnc40 (sright_any l vl _ (hL9.keep s.ext) (by omega)) (q0) rfl rfl fun f w1 h s => e9 hFT9 2 h rfl fun f h => c_ct h rfl (qr (s_pure h (ru_build_se0 sttSe) rfl fun f h => s_store_row 2 h s row53 rfl rfl rfl (seArr_size _ _ _ _) (seArr_size _ _ _ _) (seArr_ones _ _ _ (rfl)) fun w1 s => e9 hFT9 1 h rfl fun f h => rt (e_row_tmp 2 rfl h s row53 rfl rfl (seArr_size _ _ _ _) rfl (sdp_bad (sd_1 fun e9 => by rw [q0] at e9; cases e9.2.2) (s.pick _ (List.nil_sublist _)))))))
      · refine s_run hFT9 4 h rfl fun f h => s_o h rfl (s_call h s fnc40 (ret_val (.bool true) (sright_any l vl _ (hL9.keep s.ext) (by omega)) (congrArg Value.bool q0)) rfl rfl ?_); intro f w1 v9 hT hE h s; obtain rfl := hT
        refine e9 hFT9 2 h rfl fun f h => cfk h rfl (c_seqN (qrs hFT9 1 h rfl fun f h => s_pure h (ru_len_str Try.underlying9 (h.ev rfl)) rfl fun f h => e9 hFT9 1 h rfl fun f h => c_cond h rfl (fun hc => ?_) (fun hc => ?_)))
        · have d0 : ¬ sx.size ≤ 64 := by have := of_decide_eq_true hc; omega
          refine qr (s_pure h (ru_build_se0 sttSe) rfl fun f h => s_store_row 2 h s row53 rfl rfl rfl (seArr_size _ _ _ _) (seArr_size _ _ _ _) (seArr_ones _ _ _ (rfl)) fun w1 s => e9 hFT9 1 h rfl fun f h => rt (e_row_tmp 2 rfl h s row53 rfl rfl (seArr_size _ _ _ _) rfl (sdp_bad (sd_2 ⟨r0, inb_iff.1 n0, q0⟩ d0) (s.pick _ (List.nil_sublist _)))))
        · have d0 : sx.size ≤ 64 := by have := of_decide_eq_false hc; omega
          have hl1 : 1 ≤ l.length := ((rightE_iff _).1 q0).1
          refine kt (qrs hFT9 1 h rfl fun f h => s_load_at1 (V := .int .i64 ho.gt) (cell_of_has (Has.of_own s 0 rfl) 1 (ho_g _ _ _ _ _)) h one3 rfl rfl fun f h => e9 hFT9 1 h rfl fun f h => c_seqN (qrs hFT9 1 h rfl fun f h => s_pure h (ru_ixz (hL9.keep s.ext) (0) Try.underlying42 szo47 (h.ev rfl) (h.ev rfl) (rfl) (by omega)) rfl fun f h => s_pure h (ru_fieldE fld47_0 (h.ev rfl) ((hL9.keep s.ext).some (by omega))) rfl fun f h => s_load_at1 (V := .int .i64 (l.getD 0 (0, 0#256, 0)).1) (rdz_at (hL9.keep s.ext) (0 * 34 + 0) (e_kind0 (by omega))) h one3 rfl rfl fun f h => e9 hFT9 1 h rfl fun f h => c_cond h rfl (fun hc => ?_) (fun hc => ?_)))
          · have k0 := hc
            refine c_wA 8 h (by kernel_rfl) (w_load_row 0 h s row74 rfl rfl (hoArr_size _ _ _ _ _) rfl fun f h => w_run hFT9 1 h rfl fun f h => w_pure h (ru_ixz (hL9.keep s.ext) (0) Try.underlying42 szo47 (h.ev rfl) (h.ev rfl) (rfl) (by omega)) rfl fun f h => w_pure h (ru_fieldE fld47_1 (h.ev rfl) ((hL9.keep s.ext).some (by omega))) rfl fun f h => w_load_at (RdZ.elF (hL9.keep s.ext) (0) 1 32 (by omega) (by decide) (C := eArr (l.getD 0 (0, 0#256, 0))) (e_elD l 0 (by omega)) (D := idArr (l.getD 0 (0, 0#256, 0)).2.1) (eArr_id _)) h row28 rfl (by first | exact idArr_size _ | exact bytesF_size _ _) rfl fun f h => w_run hFT9 1 h rfl fun f h => w_call h fnc39 (fun w9 hE9 => qtrn_any ho oa ob oc (l.getD 0 (0, 0#256, 0)).2.1 now w9 (RdH.keep (s.getG 1 rfl) hE9) ⟨hw9, hh9, hi9⟩) rfl rfl fun f h => w_run hFT9 1 h rfl fun f h => w_nil s fun w1 s => nt (qrs hFT9 1 h rfl fun f h => s_call h s fnc41 (qcle_any l hll vl _ (hL9.keep s.ext)) rfl rfl ?_)); intro f w1 v48 hT hE h sq; replace s := s.sl_new hE hT
            have hv48 := rd_one (RdZ.of_own (s.getSl 0 rfl))
            refine s_run hFT9 1 h rfl fun f h => s_pure h (ru_build_m0346 (l := l) (rd_size (RdZ.of_own (s.getSl 0 rfl))) (rd_cells (RdZ.of_own (s.getSl 0 rfl))) sttM rfl (h.ev rfl) rfl (h.ev rfl)) rfl fun f h => s_alloc (mArr mZ nilV) h s zero49 rfl rfl fun f w1 b12 h s => s_store_row 0 h s row49 rfl rfl rfl (mArr_size _ _) (mArr_size _ _) (mArr_ones _ _ hv48) fun w1 s => nt (qrs hFT9 1 h rfl fun f h => s_load_row 0 h s row49 rfl rfl (mArr_size _ _) rfl fun f h => s_pure h (ru_build_se2 sttSe (h.ev rfl) (h.ev rfl)) rfl fun f h => s_store_row 4 h s row53 rfl rfl rfl (seArr_size _ _ _ _) (seArr_size _ _ _ _) (seArr_ones _ _ _ hv48) fun w1 s => e9 hFT9 1 h rfl fun f h => wpIn_ret (e_row_tmp 4 rfl h s row53 rfl rfl (seArr_size _ _ _ _) rfl ((show (trnH ho (l.getD 0 (0, 0#256, 0)).2.1 now) = sndT ho l now from by unfold sndT; rw [k0]; rfl) ▸ sdp_ok (sd_0 ⟨r0, inb_iff.1 n0, q0⟩ d0) (s.sel [1] rfl (by decide)))))
          · have k0 := hc
            refine kt (qrs hFT9 1 h rfl fun f h => s_call h s fnc41 (qcle_any l hll vl _ (hL9.keep s.ext)) rfl rfl ?_); intro f w1 v48 hT hE h sq; replace s := s.sl_new hE hT
            have hv48 := rd_one (RdZ.of_own (s.getSl 0 rfl))
            refine s_run hFT9 1 h rfl fun f h => s_pure h (ru_build_m0346 (l := l) (rd_size (RdZ.of_own (s.getSl 0 rfl))) (rd_cells (RdZ.of_own (s.getSl 0 rfl))) sttM rfl (h.ev rfl) rfl (h.ev rfl)) rfl fun f h => s_alloc (mArr mZ nilV) h s zero49 rfl rfl fun f w1 b12 h s => s_store_row 0 h s row49 rfl rfl rfl (mArr_size _ _) (mArr_size _ _) (mArr_ones _ _ hv48) fun w1 s => nt (qrs hFT9 1 h rfl fun f h => s_load_row 0 h s row49 rfl rfl (mArr_size _ _) rfl fun f h => s_pure h (ru_build_se2 sttSe (h.ev rfl) (h.ev rfl)) rfl fun f h => s_store_row 4 h s row53 rfl rfl rfl (seArr_size _ _ _ _) (seArr_size _ _ _ _) (seArr_ones _ _ _ hv48) fun w1 s => e9 hFT9 1 h rfl fun f h => wpIn_ret (e_row_tmp 4 rfl h s row53 rfl rfl (seArr_size _ _ _ _) rfl ((show ho.gt = sndT ho l now from by unfold sndT; rw [k0]; rfl) ▸ sdp_ok (sd_0 ⟨r0, inb_iff.1 n0, q0⟩ d0) (s.sel [1] rfl (by decide)))))
end Go.Proofs.Ythjkhnhiciamaaa
