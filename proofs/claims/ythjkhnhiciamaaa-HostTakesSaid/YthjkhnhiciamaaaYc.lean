/- What HostTakes answers: for all arguments. -/
import Derived.Test.YthjkhnhiciamaaaVk
import Derived.Test.YthjkhnhiciamaaaXl
import Derived.Test.YthjkhnhiciamaaaXp
set_option linter.unusedVariables false
set_option linter.unusedSimpArgs false
set_option linter.unusedSectionVars false
namespace Go.Proofs.Ythjkhnhiciamaaa
open Go.RowKit
set_option maxHeartbeats 6000000 in
theorem lhtakes_any (h0 : Ho) (vw vh vi : Value) (fr : Int) (hfr : -9223372036854775808 ≤ fr ∧ fr ≤ 9223372036854775807) (m0 : Mg) (vs : Value) (now : Int) (w : World) (hW0 : RdZ w vw 33 h0.ws.length (wnCells h0.ws)) (hN0 : RdZ w vh 34 h0.hs.length (hnCells h0.hs)) (hI0 : RdZ w vi 1 h0.bx.length (txC h0.bx)) (hV0 : RdZ w vs 34 m0.l.length (eCells m0.l)) : Calls Try.prog 5 [.agg (hoArr h0.no h0.gt vw vh vi), .int .i64 fr, .agg (mArr m0 vs), .int .i64 now].toArray w (Ret w (is (.bool true))) := by
  have hW : RdZ w (cutV vw (min h0.ws.length 10)) 33 (fewHo h0).ws.length (wnCells (fewHo h0).ws) := few_rdW hW0
  have hN : RdZ w (cutV vh (min h0.hs.length 10)) 34 (fewHo h0).hs.length (hnCells (fewHo h0).hs) := few_rdN hN0
  have hV : RdE w (cutV vs (min m0.l.length 6)) (cutM m0).l := e_take hV0 _ (Nat.min_le_left _ _)
  have hml := cutM_l m0
  refine c_en Try.func5 rfl Try.ntmps5 rfl fun f h s => qr (s_box (hoArr h0.no h0.gt vw vh vi) h s rfl rfl rfl fun f w1 b4 h s => s_box (mArr m0 vs) h s rfl rfl rfl fun f w1 b6 h s => e9 hFT9 1 h rfl fun f h => c_seqN (c_regT 0 4 [[], [0], [], [0, 1, 2], [0, 1, 2, 3], [0, 1, 2, 3, 4]] [[], [], [], [], [], []] [] [.v (.agg (hoArr h0.no h0.gt vw vh vi)), .r (fun v => [.sl (hoS (v 1)) 9 1 (fewHo h0).bx.length (txC (fewHo h0).bx)]) (fun v => v 1 = .agg (hoArr (fewHo h0).no (fewHo h0).gt (cutV vw (min h0.ws.length 10)) (cutV vh (min h0.hs.length 10)) (hoS (v 1)))), .v (.agg (mArr m0 vs)), .v (.agg (mArr (cutM m0) (cutV vs (min m0.l.length 6)))), .n, .n] _ h s rfl (by kernel_rfl) (by kernel_rfl) (by kernel_rfl) (oAI ?_ (oAI ?_ (oAI ?_ (oAI ?_ (trivial))))) [0, 1, 2, 3] (by kernel_rfl) ?_))
  · intro f9 w2 vl1 E9 hs9 hd9 hl hF s
    have h := f9h [(4, _)] h hs9 hd9 ⟨oc_o hl 4 (by kernel_rfl) (h.holds 4 _ rfl), trivial⟩
    refine s_load_row 1 h s row26 rfl rfl (hoArr_size _ _ _ _ _) rfl fun f h => s_nil ⟨_, oc_u 13 h rfl rfl, rfl, s⟩
  · intro f9 w2 vl1 E9 hs9 hd9 hl hF s
    have h := f9h [(13, _)] h hs9 hd9 ⟨oc_g hl 13 0 (by kernel_rfl) (hF 0 (by decide)), trivial⟩
    refine s_call h s fnc9 (hfew_any h0 vw vh vi _ (hW0.keep s.ext) (hN0.keep s.ext) (hI0.keep s.ext)) rfl rfl ?_; rintro f w1 v14 ⟨u9, hv9, hOw⟩ hE h sq
    have h66 : u9 = (hoS v14) := by rw [hv9]; exact (hoS_of (RdZ.of_own hOw) _ _).symm
    subst h66
    replace s := s.sl_new hE hOw
    clear hOw
    exact s_nil ⟨_, oc_u 14 h rfl rfl, hv9, s⟩
  · intro f9 w2 vl1 E9 hs9 hd9 hl hF s
    have h := f9h [(6, _)] h hs9 hd9 ⟨oc_o hl 6 (by kernel_rfl) (h.holds 6 _ rfl), trivial⟩
    refine s_load_row 0 h s row49 rfl rfl (mArr_size _ _) rfl fun f h => s_nil ⟨_, oc_u 15 h rfl rfl, rfl, s⟩
  · intro f9 w2 vl1 E9 hs9 hd9 hl hF s
    have h := f9h [(15, _)] h hs9 hd9 ⟨oc_g hl 15 2 (by kernel_rfl) (hF 2 (by decide)), trivial⟩
    refine s_cv h s fnc24 (hcut_any m0 vs _ (hV0.keep s.ext)) rfl rfl fun f w1 h s => s_nil ⟨_, oc_u 16 h rfl rfl, rfl, s⟩
  intro f w1 vl1 hs9 hd9 hv hr hF s
  replace hv := fun i d h9 => hv i d (show Nat.blt i 4 = true from h9)
  replace h := oc_slT 4 (ops := _) [(13, _), (14, .agg (hoArr (fewHo h0).no (fewHo h0).gt (cutV vw (min h0.ws.length 10)) (cutV vh (min h0.hs.length 10)) (hoS (vl1 1)))), (15, _), (16, _)] h hs9 hd9 hr ⟨(hv 0 13 rfl rfl).trans (hF 0 rfl), (hv 1 14 rfl rfl).trans (hF 1 rfl), (hv 2 15 rfl rfl).trans (hF 2 rfl), (hv 3 16 rfl rfl).trans (hF 3 rfl), trivial⟩ (by kernel_rfl)
  replace s : St w [.sl (hoS (vl1 1)) 9 1 (fewHo h0).bx.length (txC (fewHo h0).bx), .blk b6 (.cells (mArr m0 vs) 49), .blk b4 (.cells (hoArr h0.no h0.gt vw vh vi) 26)] _ := s
  refine s_store_row 2 h s row26 rfl rfl rfl (hoArr_size _ _ _ _ _) (hoArr_size _ _ _ _ _) (hoArr_ones _ _ (rd_one (hW.keep s.ext)) (rd_one (hN.keep s.ext)) (own_one (s.getSl 0 rfl))) fun w1 s => s_store_row 1 h s row49 rfl rfl rfl (mArr_size _ _) (mArr_size _ _) (mArr_ones _ _ (rd_one hV)) fun w1 s => nt (qr (s_load_row 2 h s row26 rfl rfl (hoArr_size _ _ _ _ _) rfl fun f h => s_run hFT9 1 h rfl fun f h => s_load_row 1 h s row49 rfl rfl (mArr_size _ _) rfl fun f h => s_run hFT9 1 h rfl fun f h => s_call h s fnc25 (hhandle_any (fewHo h0) (cutV vw (min h0.ws.length 10)) (cutV vh (min h0.hs.length 10)) (hoS (vl1 1)) fr hfr (cutM m0) (cutV vs (min m0.l.length 6)) now _ ⟨hW.keep s.ext, hN.keep s.ext, RdZ.of_own (s.getSl 0 rfl)⟩ (few_b h0) (hV.keep s.ext) (by omega)) rfl rfl ?_)); rintro f w1 v22 ⟨aua, bua, cua, ua, Kua, kua, rfl, hua, hG⟩ hE h sq; replace s := s.add hG; clear hG
  obtain ⟨hq1, hq2⟩ := hq_snd (h := (fewHo h0)) (fr := fr) (m := (cutM m0)) (now := now)
  have la : Kua.length ≤ 1 := by rw [← sends_len, hua]; exact hq1
  refine s_run hFT9 4 h rfl fun f h => s_alloc (hoArr 0 0 nilV nilV nilV) h s zero26 rfl rfl fun f w1 b9 h s => s_store_row 0 h s row26 rfl rfl rfl (hoArr_size _ _ _ _ _) (hoArr_size _ _ _ _ _) (hoArr_ones _ _ (rd_one (((s.getG 1 rfl) ⟨hW.keep s.ext, hN.keep s.ext, RdZ.of_own (s.getSl 2 rfl)⟩ (hV.keep s.ext)).1.1)) (rd_one (((s.getG 1 rfl) ⟨hW.keep s.ext, hN.keep s.ext, RdZ.of_own (s.getSl 2 rfl)⟩ (hV.keep s.ext)).1.2.1)) (rd_one (((s.getG 1 rfl) ⟨hW.keep s.ext, hN.keep s.ext, RdZ.of_own (s.getSl 2 rfl)⟩ (hV.keep s.ext)).1.2.2))) fun w1 s => e9 hFT9 2 h rfl fun f h => qr (s_load_row 4 h s row26 rfl rfl (hoArr_size _ _ _ _ _) rfl fun f h => s_run hFT9 1 h rfl fun f h => s_load_row 3 h s row49 rfl rfl (mArr_size _ _) rfl fun f h => s_run hFT9 1 h rfl fun f h => s_call h s fnc26 (rhandle17_any (fewHo h0) (cutV vw (min h0.ws.length 10)) (cutV vh (min h0.hs.length 10)) (hoS (vl1 1)) fr (cutM m0) (cutV vs (min m0.l.length 6)) now _ ⟨hW.keep s.ext, hN.keep s.ext, RdZ.of_own (s.getSl 2 rfl)⟩ (few_b h0) (hV.keep s.ext) (by omega)) rfl rfl ?_); rintro f w1 v30 ⟨aub, bub, cub, ub, Kub, kub, rfl, hub, hG⟩ hE h sq; replace s := s.add hG; clear hG
  have lb : Kub.length ≤ 1 := by rw [← sends_len, hub]; exact hq1
  refine s_alloc (thArr 0 0 nilV nilV nilV nilV 0) h s zero65 rfl rfl fun f w1 b12 h s => s_store_row 0 h s row65 rfl rfl rfl (thArr_size _ _ _ _ _ _ _) (thArr_size _ _ _ _ _ _ _) (thArr_ones _ _ _ (rd_one (((s.getG 1 rfl) ⟨hW.keep s.ext, hN.keep s.ext, RdZ.of_own (s.getSl 4 rfl)⟩ (hV.keep s.ext)).1.1)) (rd_one (((s.getG 1 rfl) ⟨hW.keep s.ext, hN.keep s.ext, RdZ.of_own (s.getSl 4 rfl)⟩ (hV.keep s.ext)).1.2.1)) (rd_one (((s.getG 1 rfl) ⟨hW.keep s.ext, hN.keep s.ext, RdZ.of_own (s.getSl 4 rfl)⟩ (hV.keep s.ext)).1.2.2)) (rd_one (((s.getG 1 rfl) ⟨hW.keep s.ext, hN.keep s.ext, RdZ.of_own (s.getSl 4 rfl)⟩ (hV.keep s.ext)).2.1))) fun w1 s => nt (qr (s_cb true h s fnc16 (halive_any _) (rfl) rfl rfl fun f w1 h s => s_run hFT9 3 h rfl fun f h => s_o h rfl (s_load_at1 (V := .int .i64 (hnqH (fewHo h0) fr (cutM m0) now).e) (cell_of_has (Has.of_own s 0 rfl) 6 (th_e _ _ _ _ _ _ _)) h one30 rfl rfl fun f h => s_o h rfl (s_at hFT9 h rfl (by simp) fun f h => s_run hFT9 2 h rfl fun f h => s_o h rfl (s_load_row 2 h s row26 rfl rfl (hoArr_size _ _ _ _ _) rfl fun f h => s_run hFT9 1 h rfl fun f h => s_o h rfl (s_load_at (Has.subL (Has.of_own s 0 rfl) 0 5 (D := hoArr (hnqH (fewHo h0) fr (cutM m0) now).h.no (hnqH (fewHo h0) fr (cutM m0) now).h.gt aub bub cub) (th_ho _ _ _ _ _ _ _)) h row26 rfl (hoArr_size _ _ _ _ _) rfl fun f h => s_o h rfl (s_cb true h s fnc13 (rlikeh_any (hnqH (fewHo h0) fr (cutM m0) now).h (hnqH (fewHo h0) fr (cutM m0) now).h aua bua cua aub bub cub _ ((s.getG 3 rfl) ⟨hW.keep s.ext, hN.keep s.ext, RdZ.of_own (s.getSl 4 rfl)⟩ (hV.keep s.ext)).1 ((s.getG 1 rfl) ⟨hW.keep s.ext, hN.keep s.ext, RdZ.of_own (s.getSl 4 rfl)⟩ (hV.keep s.ext)).1 (b9_hq (few_n h0)) (b9_hq (few_n h0))) (decide_eq_true rfl) rfl rfl fun f w1 h s => s_run hFT9 4 h rfl fun f h => s_o h rfl (s_load_at1 (V := ub) (cell_of_has (Has.of_own s 0 rfl) 5 (th_u _ _ _ _ _ _ _)) h one43 rfl rfl fun f h => s_o h rfl (s_cb true h s fnc20 (rsends_any Kua Kub ua ub _ ((s.getG 3 rfl) ⟨hW.keep s.ext, hN.keep s.ext, RdZ.of_own (s.getSl 4 rfl)⟩ (hV.keep s.ext)).2 ((s.getG 1 rfl) ⟨hW.keep s.ext, hN.keep s.ext, RdZ.of_own (s.getSl 4 rfl)⟩ (hV.keep s.ext)).2 (by omega) (by omega) (sends_l hua hq2) (sends_l hub hq2)) (decide_eq_true (hua.trans hub.symm)) rfl rfl fun f w1 h s => e9 hFT9 2 h rfl fun f h => wpIn_ret (e_tmp rfl h s rfl (rfl)))))))))))
end Go.Proofs.Ythjkhnhiciamaaa
