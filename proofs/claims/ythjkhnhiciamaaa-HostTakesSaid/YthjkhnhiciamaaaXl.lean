/- What is cut; one asks for what it wants. -/
import Derived.Test.YthjkhnhiciamaaaXo
set_option linter.unusedVariables false
set_option linter.unusedSimpArgs false
set_option linter.unusedSectionVars false
namespace Go.Proofs.Ythjkhnhiciamaaa
open Go.RowKit
/- fld26_0 fld26_1 fld26_2 fld26_3 fld26_4 -/
set_option maxHeartbeats 1000000 in
theorem hfew_any (ho : Ho) (vw vh vi : Value)  (w : World) (hW0 : RdZ w vw 33 ho.ws.length (wnCells ho.ws)) (hN0 : RdZ w vh 34 ho.hs.length (hnCells ho.hs)) (hI0 : RdZ w vi 1 ho.bx.length (txC ho.bx)) : Calls Try.prog 9 [.agg (hoArr ho.no ho.gt vw vh vi)].toArray w (Ret w (fun v w' => ∃ u, v = .agg (hoArr (fewHo ho).no (fewHo ho).gt (cutV vw (min ho.ws.length 10)) (cutV vh (min ho.hs.length 10)) u) ∧ Owns w' w.heap.size 9 1 u (fewHo ho).bx.length (txC (fewHo ho).bx))) := by
  have hfb := fbL_len ho
  refine c_en Try.func9 rfl Try.ntmps9 rfl fun f h s => qr (s_box (hoArr ho.no ho.gt vw vh vi) h s rfl rfl rfl fun f w1 b1 h s => s_alloc (hoArr 0 0 nilV nilV nilV) h s zero26 rfl rfl fun f w1 b2 h s => nt (c_seqN (c_regT 0 20 [[], [0], [], [2], [], [4], [], [6], [6, 7], [6, 7, 8], [4, 5, 6, 7, 8, 9], [], [11], [], [13], [13, 14], [13, 14, 15], [11, 12, 13, 14, 15, 16], [0, 1, 2, 3, 4, 5, 6, 7, 8, 9, 10, 11, 12, 13, 14, 15, 16, 17], [], [0, 1, 2, 3, 4, 5, 6, 7, 8, 9, 10, 11, 12, 13, 14, 15, 16, 17, 18, 19]] [[], [], [], [], [], [], [], [], [], [], [], [], [], [], [], [], [], [], [], [], []] [] [.v _, .v (.int .i64 ho.no), .v _, .v (.int .i64 ho.gt), .v _, .v vw, .v _, .v vw, .v (.int .i64 (ho.ws.length : Int)), .v (.int .i64 (if (10 : Int) < (ho.ws.length : Int) then 10 else (ho.ws.length : Int))), .v (cutV vw (min ho.ws.length 10)), .v _, .v vh, .v _, .v vh, .v (.int .i64 (ho.hs.length : Int)), .v (.int .i64 (if (10 : Int) < (ho.hs.length : Int) then 10 else (ho.hs.length : Int))), .v (cutV vh (min ho.hs.length 10)), .v (.agg (hoArr ho.no ho.gt (cutV vw (min ho.ws.length 10)) (cutV vh (min ho.hs.length 10)) nilV)), .q (fun v => [.blk (pbk (v 19)) (.cells (hoArr 0 0 nilV nilV nilV) 26)]), .n] _ h s rfl (by kernel_rfl) (by kernel_rfl) (by kernel_rfl) (oPu hFT9 h rfl rfl rfl (oAI ?_ (oPu hFT9 h rfl rfl rfl (oAI ?_ (oPu hFT9 h rfl rfl rfl (oAI ?_ (oPu hFT9 h rfl rfl rfl (oAI ?_ (oAI ?_ (oAI ?_ (oAI ?_ (oPu hFT9 h rfl rfl rfl (oAI ?_ (oPu hFT9 h rfl rfl rfl (oAI ?_ (oAI ?_ (oAI ?_ (oAI ?_ (oAI ?_ (oAI ?_ (trivial))))))))))))))))))))) [0, 1, 2, 3, 4, 5, 6, 7, 8, 9, 10, 11, 12, 13, 14, 15, 16, 17, 18, 19] (by kernel_rfl) ?_)))
  · intro f9 w2 vl1 E9 hs9 hd9 hl hF s
    have h := f9h [(6, _)] h hs9 hd9 ⟨oc_g hl 6 0 (by kernel_rfl) (hF 0 (by decide)), trivial⟩
    refine s_load_at1 (V := .int .i64 ho.no) (cell_of_has (Has.of_own s 1 rfl) 0 (ho_n _ _ _ _ _)) h one3 rfl rfl fun f h => s_nil ⟨_, oc_u 7 h rfl rfl, rfl, s⟩
  · intro f9 w2 vl1 E9 hs9 hd9 hl hF s
    have h := f9h [(8, _)] h hs9 hd9 ⟨oc_g hl 8 2 (by kernel_rfl) (hF 2 (by decide)), trivial⟩
    refine s_load_at1 (V := .int .i64 ho.gt) (cell_of_has (Has.of_own s 1 rfl) 1 (ho_g _ _ _ _ _)) h one3 rfl rfl fun f h => s_nil ⟨_, oc_u 9 h rfl rfl, rfl, s⟩
  · intro f9 w2 vl1 E9 hs9 hd9 hl hF s
    have h := f9h [(10, _)] h hs9 hd9 ⟨oc_g hl 10 4 (by kernel_rfl) (hF 4 (by decide)), trivial⟩
    refine s_load_at1 (V := vw) (cell_of_has (Has.of_own s 1 rfl) 2 (ho_w _ _ _ _ _)) h one22 rfl rfl fun f h => s_nil ⟨_, oc_u 11 h rfl rfl, rfl, s⟩
  · intro f9 w2 vl1 E9 hs9 hd9 hl hF s
    have h := f9h [(12, _)] h hs9 hd9 ⟨oc_g hl 12 6 (by kernel_rfl) (hF 6 (by decide)), trivial⟩
    refine s_load_at1 (V := vw) (cell_of_has (Has.of_own s 1 rfl) 2 (ho_w _ _ _ _ _)) h one22 rfl rfl fun f h => s_nil ⟨_, oc_u 13 h rfl rfl, rfl, s⟩
  · intro f9 w2 vl1 E9 hs9 hd9 hl hF s
    have h := f9h [(13, _)] h hs9 hd9 ⟨oc_g hl 13 7 (by kernel_rfl) (hF 7 (by decide)), trivial⟩
    refine s_lz h (hW0.keep s.ext) Try.underlying22 rfl rfl fun f h => s_nil ⟨_, oc_u 14 h rfl rfl, rfl, s⟩
  · intro f9 w2 vl1 E9 hs9 hd9 hl hF s
    have h := f9h [(14, _)] h hs9 hd9 ⟨oc_g hl 14 8 (by kernel_rfl) (hF 8 (by decide)), trivial⟩
    refine s_pure h (ru_min (h.ev rfl) (h.ev rfl)) rfl fun f h => s_nil ⟨_, oc_u 15 h rfl rfl, rfl, s⟩
  · intro f9 w2 vl1 E9 hs9 hd9 hl hF s
    have h := f9h [(11, _), (15, _)] h hs9 hd9 ⟨oc_g hl 11 5 (by kernel_rfl) (hF 5 (by decide)), oc_g hl 15 9 (by kernel_rfl) (hF 9 (by decide)), trivial⟩
    refine s_pure h (ru_slice_hiZ (hW0.keep s.ext) (min ho.ws.length 10) Try.underlying22 szo40 (h.ev rfl) (h.ev rfl) (by split <;> omega) (by omega)) rfl fun f h => s_nil ⟨_, oc_u 16 h rfl rfl, rfl, s⟩
  · intro f9 w2 vl1 E9 hs9 hd9 hl hF s
    have h := f9h [(17, _)] h hs9 hd9 ⟨oc_g hl 17 11 (by kernel_rfl) (hF 11 (by decide)), trivial⟩
    refine s_load_at1 (V := vh) (cell_of_has (Has.of_own s 1 rfl) 3 (ho_h _ _ _ _ _)) h one23 rfl rfl fun f h => s_nil ⟨_, oc_u 18 h rfl rfl, rfl, s⟩
  · intro f9 w2 vl1 E9 hs9 hd9 hl hF s
    have h := f9h [(19, _)] h hs9 hd9 ⟨oc_g hl 19 13 (by kernel_rfl) (hF 13 (by decide)), trivial⟩
    refine s_load_at1 (V := vh) (cell_of_has (Has.of_own s 1 rfl) 3 (ho_h _ _ _ _ _)) h one23 rfl rfl fun f h => s_nil ⟨_, oc_u 20 h rfl rfl, rfl, s⟩
  · intro f9 w2 vl1 E9 hs9 hd9 hl hF s
    have h := f9h [(20, _)] h hs9 hd9 ⟨oc_g hl 20 14 (by kernel_rfl) (hF 14 (by decide)), trivial⟩
    refine s_lz h (hN0.keep s.ext) Try.underlying23 rfl rfl fun f h => s_nil ⟨_, oc_u 21 h rfl rfl, rfl, s⟩
  · intro f9 w2 vl1 E9 hs9 hd9 hl hF s
    have h := f9h [(21, _)] h hs9 hd9 ⟨oc_g hl 21 15 (by kernel_rfl) (hF 15 (by decide)), trivial⟩
    refine s_pure h (ru_min (h.ev rfl) (h.ev rfl)) rfl fun f h => s_nil ⟨_, oc_u 22 h rfl rfl, rfl, s⟩
  · intro f9 w2 vl1 E9 hs9 hd9 hl hF s
    have h := f9h [(18, _), (22, _)] h hs9 hd9 ⟨oc_g hl 18 12 (by kernel_rfl) (hF 12 (by decide)), oc_g hl 22 16 (by kernel_rfl) (hF 16 (by decide)), trivial⟩
    refine s_pure h (ru_slice_hiZ (hN0.keep s.ext) (min ho.hs.length 10) Try.underlying23 szo84 (h.ev rfl) (h.ev rfl) (by split <;> omega) (by omega)) rfl fun f h => s_nil ⟨_, oc_u 23 h rfl rfl, rfl, s⟩
  · intro f9 w2 vl1 E9 hs9 hd9 hl hF s
    have h := f9h [(7, _), (9, _), (16, _), (23, _)] h hs9 hd9 ⟨oc_g hl 7 1 (by kernel_rfl) (hF 1 (by decide)), oc_g hl 9 3 (by kernel_rfl) (hF 3 (by decide)), oc_g hl 16 10 (by kernel_rfl) (hF 10 (by decide)), oc_g hl 23 17 (by kernel_rfl) (hF 17 (by decide)), trivial⟩
    refine s_pure h (ru_build_ho4 sttHo (rd_size (few_rdW hW0)) (rd_cells (few_rdW hW0)) (rd_size (few_rdN hN0)) (rd_cells (few_rdN hN0)) (h.ev rfl) (h.ev rfl) (h.ev rfl) (h.ev rfl)) rfl fun f h => s_nil ⟨_, oc_u 24 h rfl rfl, rfl, s⟩
  · intro f9 w2 vl1 E9 hs9 hd9 hl hF s
    have h := fin_slot [] (hs9.trans h.size) (hd9.trans h.defers) (holds_lk trivial)
    refine s_alloc (hoArr 0 0 nilV nilV nilV) h s zero26 rfl rfl fun f w1 b3 h s => s_nil ⟨_, oc_u 3 h rfl rfl, ⟨_, rfl⟩, s⟩
  intro f w1 vl1 hs9 hd9 hv hr hF s
  replace hv := fun i d h9 => hv i d (show Nat.blt i 20 = true from h9)
  obtain ⟨b3, hb3⟩ : ∃ b, vl1 19 = .pointer (some ⟨b, 0, none⟩) := hF 19 (by kernel_rfl)
  replace h := oc_slT 20 (ops := _) [(6, _), (7, _), (8, _), (9, _), (10, _), (11, _), (12, _), (13, _), (14, _), (15, _), (16, _), (17, _), (18, _), (19, _), (20, _), (21, _), (22, _), (23, _), (24, _), (3, .pointer (some ⟨b3, 0, none⟩))] h hs9 hd9 hr ⟨(hv 0 6 rfl rfl).trans (hF 0 rfl), (hv 1 7 rfl rfl).trans (hF 1 rfl), (hv 2 8 rfl rfl).trans (hF 2 rfl), (hv 3 9 rfl rfl).trans (hF 3 rfl), (hv 4 10 rfl rfl).trans (hF 4 rfl), (hv 5 11 rfl rfl).trans (hF 5 rfl), (hv 6 12 rfl rfl).trans (hF 6 rfl), (hv 7 13 rfl rfl).trans (hF 7 rfl), (hv 8 14 rfl rfl).trans (hF 8 rfl), (hv 9 15 rfl rfl).trans (hF 9 rfl), (hv 10 16 rfl rfl).trans (hF 10 rfl), (hv 11 17 rfl rfl).trans (hF 11 rfl), (hv 12 18 rfl rfl).trans (hF 12 rfl), (hv 13 19 rfl rfl).trans (hF 13 rfl), (hv 14 20 rfl rfl).trans (hF 14 rfl), (hv 15 21 rfl rfl).trans (hF 15 rfl), (hv 16 22 rfl rfl).trans (hF 16 rfl), (hv 17 23 rfl rfl).trans (hF 17 rfl), (hv 18 24 rfl rfl).trans (hF 18 rfl), (hv 19 3 rfl rfl).trans hb3, trivial⟩ (by kernel_rfl)
  replace s : St w [.blk (pbk (vl1 19)) (.cells (hoArr 0 0 nilV nilV nilV) 26), .blk b2 (.cells (hoArr 0 0 nilV nilV nilV) 26), .blk b1 (.cells (hoArr ho.no ho.gt vw vh vi) 26)] _ := s
  rw [hb3] at s
  replace s : St w [.blk b3 (.cells (hoArr 0 0 nilV nilV nilV) 26), .blk b2 (.cells (hoArr 0 0 nilV nilV nilV) 26), .blk b1 (.cells (hoArr ho.no ho.gt vw vh vi) 26)] _ := s
  refine s_store_row 0 h s row26 rfl rfl rfl (hoArr_size _ _ _ _ _) (hoArr_size _ _ _ _ _) (hoArr_ones _ _ (rd_one (few_rdW (hW0.keep s.ext))) (rd_one (few_rdN (hN0.keep s.ext))) (rfl)) fun w1 s => nt (c_seqN (qr ?_))
  replace s := s.nilSl 9 1
  refine s_run hFT9 1 h rfl fun f h => s_load_at1 (V := vi) (cell_of_has (Has.of_own s 3 rfl) 4 (ho_i _ _ _ _ _)) h one24 rfl rfl fun f h => s_run hFT9 1 h rfl fun f h => s_load_at1 (V := vi) (cell_of_has (Has.of_own s 3 rfl) 4 (ho_i _ _ _ _ _)) h one24 rfl rfl fun f h => s_lz h (hI0.keep s.ext) Try.underlying24 rfl rfl fun f h => s_pure h (ru_min (h.ev rfl) (h.ev rfl)) rfl fun f h => s_pure h (ru_slice_hiZ (hI0.keep s.ext) (min ho.bx.length 34) Try.underlying24 szo9 (h.ev rfl) (h.ev rfl) (by split <;> omega) (by omega)) rfl fun f h => s_lz h (few_rdB (hI0.keep s.ext)) Try.underlying24 rfl rfl fun f h => e9 hFT9 1 h rfl fun f h => wpIn_block (wpIn_loop_ghost (fun nn aa ww => ∃ k : Nat, ∃ vb : Value, Sl 49 aa [(0, .agg (hoArr ho.no ho.gt vw vh vi)), (1, .pointer (some ⟨b1, 0, none⟩)), (2, .pointer (some ⟨b2, 0, none⟩)), (3, .pointer (some ⟨b3, 0, none⟩)), (31, (cutV vi (min ho.bx.length 34))), (32, .int .i64 ((fbL ho).length : Int)), (33, .int .i64 (k : Int))] ∧ St w [.sl vb 9 1 (fbK (fbL ho) k).length (txC (fbK (fbL ho) k)), .blk b3 (.cells (hoArr ho.no ho.gt (cutV vw (min ho.ws.length 10)) (cutV vh (min ho.hs.length 10)) vb) 26), .blk b2 (.cells (hoArr 0 0 nilV nilV nilV) 26), .blk b1 (.cells (hoArr ho.no ho.gt vw vh vi) 26)] ww ∧ nn = (fbL ho).length - k ∧ k ≤ (fbL ho).length) ((fbL ho).length - (0)) ⟨0, nilV, h.only ⟨rfl, rfl, rfl, rfl, rfl, rfl, slot_int rfl (by omega), trivial⟩, s.as ⟨rfl, rfl, rfl, rfl, trivial⟩, rfl, Nat.zero_le _⟩ ?_)
  rintro _ f w1 ⟨k, vb, h, s, hnn, hp0⟩
  refine qre hFT9 1 h rfl fun f h => c_seqN (c_cd h rfl (fun hc => ?_) (fun hc => ?_))
  · refine kt (c_seqN (wpIn_block (qr ?_)))
    have hkl : k < (fbL ho).length := by omega
    have hfk := fbK_len (fbL ho) k
    refine s_pure h (ru_ixz (few_rdB (hI0.keep s.ext)) (k) Try.underlying24 szo9 (h.ev rfl) (h.ev rfl) (by omega) (by omega)) rfl fun f h => s_load_at1 ((few_rdB (hI0.keep s.ext)).el1 (k) (V := .string ((fbL ho).getD k ByteArray.empty)) (txC_at hkl)) h one9 rfl rfl fun f h => e9 hFT9 1 h rfl fun f h => ?_
    replace s : St w [.sl vb 9 1 (fbK (fbL ho) k).length (txC (fbK (fbL ho) k)), .blk b3 (.cells (hoArr ho.no ho.gt (cutV vw (min ho.ws.length 10)) (cutV vh (min ho.hs.length 10)) vb) 26), .blk b2 (.cells (hoArr 0 0 nilV nilV nilV) 26), .blk b1 (.cells (hoArr ho.no ho.gt vw vh vi) 26)] _ := s
    refine c_regT 1 9 [[], [0], [], [], [3], [3, 4], [2, 3, 4, 5], [2, 3, 4, 5, 6], [0, 1, 2, 3, 4, 5, 6, 7], [0, 1, 2, 3, 4, 5, 6, 7, 8], [0, 1, 2, 3, 4, 5, 6, 7, 8, 9]] [[], [], [], [], [], [], [], [], [7, 11], [], []] [[_]] [.v _, .v vb, .v _, .v _, .v (.int .i64 (((fbL ho).getD k ByteArray.empty).size : Int)), .v (.int .i64 (if (70 : Int) < (((fbL ho).getD k ByteArray.empty).size : Int) then 70 else (((fbL ho).getD k ByteArray.empty).size : Int))), .v (.string (cut70 ((fbL ho).getD k ByteArray.empty))), .m (fun v => [.sl (v 7) 9 1 1 (txC [(cut70 ((fbL ho).getD k ByteArray.empty))])]), .m (fun v => [.sl (v 8) 9 1 (fbK (fbL ho) (k + 1)).length (txC (fbK (fbL ho) (k + 1)))]), .n, .n] _ h s rfl (by kernel_rfl) (by kernel_rfl) (by kernel_rfl) (oPu hFT9 h rfl rfl rfl (oAI ?_ (oPu hFT9 h rfl rfl rfl (oPu hFT9 h rfl rfl rfl (oAI ?_ (oAI ?_ (oAI ?_ (oAI ?_ (oAI ?_ (trivial)))))))))) [0, 1, 2, 3, 4, 5, 6, 8] (by kernel_rfl) ?_
    · intro f9 w2 vl5 E9 hs9 hd9 hl hF s
      have h := f9h [(37, _)] h hs9 hd9 ⟨oc_g hl 37 0 (by kernel_rfl) (hF 0 (by decide)), trivial⟩
      refine s_load_at1 (V := vb) (cell_of_has (Has.of_own s 0 rfl) 4 (ho_i _ _ _ _ _)) h one24 rfl rfl fun f h => s_nil ⟨_, oc_u 38 h rfl rfl, rfl, s⟩
    · intro f9 w2 vl5 E9 hs9 hd9 hl hF s
      have h := f9h [(40, _)] h hs9 hd9 ⟨oc_g hl 40 3 (by kernel_rfl) (hF 3 (by decide)), trivial⟩
      refine s_pure h (ru_len_str Try.underlying9 (h.ev rfl)) rfl fun f h => s_nil ⟨_, oc_u 41 h rfl rfl, rfl, s⟩
    · intro f9 w2 vl5 E9 hs9 hd9 hl hF s
      have h := f9h [(41, _)] h hs9 hd9 ⟨oc_g hl 41 4 (by kernel_rfl) (hF 4 (by decide)), trivial⟩
      refine s_pure h (ru_min (h.ev rfl) (h.ev rfl)) rfl fun f h => s_nil ⟨_, oc_u 42 h rfl rfl, rfl, s⟩
    · intro f9 w2 vl5 E9 hs9 hd9 hl hF s
      have h := f9h [(39, _), (42, _)] h hs9 hd9 ⟨oc_g hl 39 2 (by kernel_rfl) (hF 2 (by decide)), oc_g hl 42 5 (by kernel_rfl) (hF 5 (by decide)), trivial⟩
      refine s_pure h (ru_slice_str (min ((fbL ho).getD k ByteArray.empty).size 70) Try.underlying9 (h.ev rfl) (h.ev rfl) (by split <;> omega) (by omega)) rfl fun f h => s_nil ⟨_, oc_u 43 h rfl rfl, rfl, s⟩
    · intro f9 w2 vl5 E9 hs9 hd9 hl hF s
      have h := f9h [(43, _)] h hs9 hd9 ⟨oc_g hl 43 6 (by kernel_rfl) (hF 6 (by decide)), trivial⟩
      refine s_bslice (vs := [.string (cut70 ((fbL ho).getD k ByteArray.empty))]) [.tmp 43] h s Try.underlying24 elm9 rfl rfl (st_sz _) rfl rfl rfl fun f w1 v44 h s => ?_
      replace s := s.resl (m := 1) (ys := txC [(cut70 ((fbL ho).getD k ByteArray.empty))]) 0 rfl rfl rfl
      exact s_nil ⟨_, oc_u 44 h rfl rfl, trivial, s⟩
    · intro f9 w2 vl5 E9 hs9 hd9 hl hF s
      have e38 : f9.tmps.getD 38 undef = vb := (oc_get hl 38 1 (by kernel_rfl) (by kernel_rfl)).trans (hF 1 (by decide))
      have e44 : f9.tmps.getD 44 undef = (vl5 7) := oc_get hl 44 7 (by kernel_rfl) (by kernel_rfl)
      have h := fin_slot [(38, vb), (44, (vl5 7))] (hs9.trans h.size) (hd9.trans h.defers) (holds_lk ⟨e38, e44, trivial⟩)
      refine s_append 1 0 h s Try.underlying24 elm9 rfl rfl rfl rfl (by decide) (txC_ones [(cut70 ((fbL ho).getD k ByteArray.empty))]) (by unfold maxLen; omega) (by omega) rfl fun f w1 v45 h s => ?_
      replace s := s.pick _ (List.sublist_cons_self _ _)
      replace s := s.resl (m := (fbK (fbL ho) (k + 1)).length) (ys := txC (fbK (fbL ho) (k + 1))) 0 rfl (by rw [fbK_s hkl, List.length_append]; rfl) (by rw [fbK_s hkl, txC_app])
      exact s_nil ⟨_, oc_u 45 h rfl rfl, trivial, s⟩
    intro f w1 vl5 hs9 hd9 hv hr hF s
    replace hv := fun i d h9 => hv i d (show Nat.blt i 9 = true from h9)
    replace h := oc_slT 9 (ops := _) [(37, _), (38, _), (39, _), (40, _), (41, _), (42, _), (43, _), (44, (vl5 7)), (45, (vl5 8))] h hs9 hd9 hr ⟨(hv 0 37 rfl rfl).trans (hF 0 rfl), (hv 1 38 rfl rfl).trans (hF 1 rfl), (hv 2 39 rfl rfl).trans (hF 2 rfl), (hv 3 40 rfl rfl).trans (hF 3 rfl), (hv 4 41 rfl rfl).trans (hF 4 rfl), (hv 5 42 rfl rfl).trans (hF 5 rfl), (hv 6 43 rfl rfl).trans (hF 6 rfl), hv 7 44 rfl rfl, hv 8 45 rfl rfl, trivial⟩ (by kernel_rfl)
    replace s : St w [.sl (vl5 8) 9 1 (fbK (fbL ho) (k + 1)).length (txC (fbK (fbL ho) (k + 1))), .blk b3 (.cells (hoArr ho.no ho.gt (cutV vw (min ho.ws.length 10)) (cutV vh (min ho.hs.length 10)) vb) 26), .blk b2 (.cells (hoArr 0 0 nilV nilV nilV) 26), .blk b1 (.cells (hoArr ho.no ho.gt vw vh vi) 26)] _ := s
    refine s_run hFT9 1 h rfl fun f h => s_store_one 1 h s one24 rfl rfl rfl (by rw [hoArr_size]; omega) (own_one (s.getSl 0 rfl)) fun w1 s => ?_
    replace s := s.recell (D := hoArr ho.no ho.gt (cutV vw (min ho.ws.length 10)) (cutV vh (min ho.hs.length 10)) (vl5 8)) 1 rfl (rfl)
    refine s_nil (b_norm (t_norm (c_region (s_pure h (ru_add (h.ev rfl) (h.ev rfl) (by omega)) rfl fun f h => e9 hFT9 1 h rfl fun f h => ?_))))
    exact ⟨_, by omega, ⟨k + 1, (vl5 8), h.only ⟨rfl, rfl, rfl, rfl, rfl, rfl, slot_int rfl (by omega), trivial⟩, St.as (s.pick _ (List.Sublist.cons_cons _ (List.Sublist.cons_cons _ (List.Sublist.cons_cons _ (List.Sublist.cons_cons _ (List.nil_sublist _)))))) ⟨rfl, rfl, rfl, rfl, trivial⟩, rfl, by omega⟩⟩
  · refine wpIn_exit (t_exit (t_exit (b_exit (t_norm (qr (s_load_row 1 h s row26 rfl rfl (hoArr_size _ _ _ _ _) rfl fun f h => s_store_row 2 h s row26 rfl rfl rfl (hoArr_size _ _ _ _ _) (hoArr_size _ _ _ _ _) (hoArr_ones _ _ (rd_one (few_rdW (hW0.keep s.ext))) (rd_one (few_rdN (hN0.keep s.ext))) (own_one (s.getSl 0 rfl))) fun w1 s => nt (wpIn_ret (e_row 2 rfl h s row26 rfl rfl (hoArr_size _ _ _ _ _) (⟨_, rfl, by obtain rfl : k = (fbL ho).length := (by omega); exact s.getSl 0 rfl⟩)))))))))

set_option maxHeartbeats 2000000 in
theorem hcut_any (m : Mg) (vs : Value) (w : World) (hv : RdZ w vs 34 m.l.length (eCells m.l)) : Calls Try.prog 24 [.agg (mArr m vs)].toArray w (Ret w (is (.agg (mArr (cutM m) (cutV vs (min m.l.length 6)))))) := by
  refine c_en Try.func24 rfl Try.ntmps24 rfl fun f h s => qr (s_box (mArr m vs) h s rfl rfl rfl fun f w1 b1 h s => s_alloc (mArr mZ nilV) h s zero49 rfl rfl fun f w1 b2 h s => nt (c_seqN ?_))
  have hbs := s.ext.le
  refine' c_reg3 18 [0, 2, 7, 9, 11, 12, 13, 14, 16, 18, 19, 20, 21, 23, 25] [8, 10, 15, 17] [] [[], [0], [], [2], [2, 3], [2, 3, 4], [0, 1, 2, 3, 4, 5], [], [7], [], [9], [9, 10], [9, 10, 11], [7, 8, 9, 10, 11, 12], [], [14], [], [16], [16, 17], [16, 17, 18], [14, 15, 16, 17, 18, 19], [0, 1, 2, 3, 4, 5, 6, 7, 8, 9, 10, 14, 15, 16, 17], [0, 1, 2, 3, 4, 5, 6, 7, 8, 9, 10, 14, 15, 16, 17, 21], [0, 1, 2, 3, 4, 5, 6, 7, 8, 9, 10, 11, 12, 13, 14, 15, 16, 17, 21, 22], [0, 1, 2, 3, 4, 5, 6, 7, 8, 9, 10, 11, 12, 13, 14, 15, 16, 17, 21, 22, 23], [0, 1, 2, 3, 4, 5, 6, 7, 8, 9, 10, 11, 12, 13, 14, 15, 16, 17, 18, 19, 20, 21, 22, 23, 24], [0, 1, 2, 3, 4, 5, 6, 7, 8, 9, 10, 11, 12, 13, 14, 15, 16, 17, 18, 19, 20, 21, 22, 23, 24, 25]] (is _ :: is _ :: is _ :: is _ :: is _ :: is _ :: is _ :: is _ :: (is (.string m.o)) :: is _ :: (is (.string m.o)) :: is _ :: is _ :: is _ :: is _ :: (is (.string m.d)) :: is _ :: (is (.string m.d)) :: is _ :: is _ :: is _ :: is _ :: is undef :: is _ :: is undef :: is _ :: is undef :: []) (fun _ => True) h s (by kernel_rfl) (by kernel_rfl) (by kernel_rfl) (by kernel_rfl) rfl (fun _ _ h _ => h) (trivial) ⟨⟨_, rfl⟩, ⟨_, rfl⟩, ⟨_, rfl⟩, ⟨_, rfl⟩, ⟨_, rfl⟩, ⟨_, rfl⟩, ⟨_, rfl⟩, ⟨_, rfl⟩, ⟨_, rfl⟩, ⟨_, rfl⟩, ⟨_, rfl⟩, ⟨_, rfl⟩, ⟨_, rfl⟩, ⟨_, rfl⟩, ⟨_, rfl⟩, trivial⟩ ⟨⟨_, rfl⟩, ⟨_, rfl⟩, ⟨_, rfl⟩, ⟨_, rfl⟩, trivial⟩ ⟨is_mono _, is_mono _, is_mono _, is_mono _, is_mono _, is_mono _, is_mono _, is_mono _, is_mono _, is_mono _, is_mono _, is_mono _, is_mono _, is_mono _, is_mono _, is_mono _, is_mono _, is_mono _, is_mono _, is_mono _, is_mono _, is_mono _, is_mono _, is_mono _, is_mono _, is_mono _, is_mono _, trivial⟩ (And.intro ?_ (And.intro ?_ (And.intro ?_ (And.intro ?_ (And.intro ?_ (And.intro ?_ (And.intro ?_ (And.intro ?_ (And.intro ?_ (And.intro ?_ (And.intro ?_ (And.intro ?_ (And.intro ?_ (And.intro ?_ (And.intro ?_ (And.intro ?_ (And.intro ?_ (And.intro ?_ (And.intro ?_ (And.intro ?_ (And.intro ?_ (And.intro ?_ (And.intro ?_ (And.intro ?_ (And.intro ?_ (And.intro ?_ (And.intro ?_ (trivial)))))))))))))))))))))))))))) ?_
  rotate_left 20
  · refine obH_in 3 rfl (by decide) ?_
    intro f9 w2 hE hs hl
    have e1 : f9.tmps.getD 1 undef = _ := sx_old hl 1 (by kernel_rfl) (by kernel_rfl) (h.holds 1 _ rfl)
    have h := fin_slot [(1, _)] hs rfl (holds_lk ⟨e1, trivial⟩)
    refine s_run hFT9 1 h rfl fun f h => s_nil ?_
    have e9 := h.holds 3 _ rfl
    refine ⟨?_, rfl⟩
    refine e9.trans ?_
    exact rfl
  · refine obF_in 4 rfl (by decide) (by decide) ?_
    intro f9 w2 hE hs hd9 hl
    have e3 : f9.tmps.getD 3 undef = _ := sx_get hl 3 0 (by kernel_rfl) (by kernel_rfl)
    have h := fin_slot [(3, _)] hs hd9 (holds_lk ⟨e3, trivial⟩)
    have s := s.more hE
    have z := St.start w2
    refine s_load_at1 (cell_of_has (Has.of_own s 1 rfl) 67 (mArr_v _ _)) h one42 rfl rfl fun f h => s_nil ?_
    have e9 := h.holds 4 _ rfl
    refine ⟨?_, Ext.refl _, fun h9 => absurd h9 (by decide)⟩
    refine e9.trans ?_
    exact rfl
  · refine obH_in 5 rfl (by decide) ?_
    intro f9 w2 hE hs hl
    have e1 : f9.tmps.getD 1 undef = _ := sx_old hl 1 (by kernel_rfl) (by kernel_rfl) (h.holds 1 _ rfl)
    have h := fin_slot [(1, _)] hs rfl (holds_lk ⟨e1, trivial⟩)
    refine s_run hFT9 1 h rfl fun f h => s_nil ?_
    have e9 := h.holds 5 _ rfl
    refine ⟨?_, rfl⟩
    refine e9.trans ?_
    exact rfl
  · refine obF_in 6 rfl (by decide) (by decide) ?_
    intro f9 w2 hE hs hd9 hl
    have e5 : f9.tmps.getD 5 undef = _ := sx_get hl 5 2 (by kernel_rfl) (by kernel_rfl)
    have h := fin_slot [(5, _)] hs hd9 (holds_lk ⟨e5, trivial⟩)
    have s := s.more hE
    have z := St.start w2
    refine s_load_at1 (cell_of_has (Has.of_own s 1 rfl) 67 (mArr_v _ _)) h one42 rfl rfl fun f h => s_nil ?_
    have e9 := h.holds 6 _ rfl
    refine ⟨?_, Ext.refl _, fun h9 => absurd h9 (by decide)⟩
    refine e9.trans ?_
    exact rfl
  · refine obF_in 7 rfl (by decide) (by decide) ?_
    intro f9 w2 hE hs hd9 hl
    have e6 : f9.tmps.getD 6 undef = _ := sx_get hl 6 3 (by kernel_rfl) (by kernel_rfl)
    have h := fin_slot [(6, _)] hs hd9 (holds_lk ⟨e6, trivial⟩)
    have s := s.more hE
    have z := St.start w2
    refine s_lz h (hv.keep s.ext) Try.underlying42 rfl rfl fun f h => s_nil ?_
    have e9 := h.holds 7 _ rfl
    refine ⟨?_, Ext.refl _, fun h9 => absurd h9 (by decide)⟩
    refine e9.trans ?_
    exact rfl
  · refine obF_in 8 rfl (by decide) (by decide) ?_
    intro f9 w2 hE hs hd9 hl
    have e7 : f9.tmps.getD 7 undef = _ := sx_get hl 7 4 (by kernel_rfl) (by kernel_rfl)
    have h := fin_slot [(7, _)] hs hd9 (holds_lk ⟨e7, trivial⟩)
    have s := s.more hE
    have z := St.start w2
    refine s_pure h (ru_min (h.ev rfl) (h.ev rfl)) rfl fun f h => s_nil ?_
    have e9 := h.holds 8 _ rfl
    refine ⟨?_, Ext.refl _, fun h9 => absurd h9 (by decide)⟩
    refine e9.trans ?_
    exact rfl
  · refine obF_in 9 rfl (by decide) (by decide) ?_
    intro f9 w2 hE hs hd9 hl
    have e4 : f9.tmps.getD 4 undef = _ := sx_get hl 4 1 (by kernel_rfl) (by kernel_rfl)
    have e8 : f9.tmps.getD 8 undef = _ := sx_get hl 8 5 (by kernel_rfl) (by kernel_rfl)
    have h := fin_slot [(4, _), (8, _)] hs hd9 (holds_lk ⟨e4, e8, trivial⟩)
    have s := s.more hE
    have z := St.start w2
    refine s_pure h (ru_slice_hiZ (hv.keep s.ext) (min m.l.length 6) Try.underlying42 szo47 (h.ev rfl) (h.ev rfl) (by split <;> omega) (by omega)) rfl fun f h => s_nil ?_
    have e9 := h.holds 9 _ rfl
    refine ⟨?_, Ext.refl _, fun h9 => absurd h9 (by decide)⟩
    refine e9.trans ?_
    exact rfl
  · refine obH_in 10 rfl (by decide) ?_
    intro f9 w2 hE hs hl
    have e1 : f9.tmps.getD 1 undef = _ := sx_old hl 1 (by kernel_rfl) (by kernel_rfl) (h.holds 1 _ rfl)
    have h := fin_slot [(1, _)] hs rfl (holds_lk ⟨e1, trivial⟩)
    refine s_run hFT9 1 h rfl fun f h => s_nil ?_
    have e9 := h.holds 10 _ rfl
    refine ⟨?_, rfl⟩
    refine e9.trans ?_
    exact rfl
  · refine obF_in 11 rfl (by decide) (by decide) ?_
    intro f9 w2 hE hs hd9 hl
    have e10 : f9.tmps.getD 10 undef = _ := sx_get hl 10 7 (by kernel_rfl) (by kernel_rfl)
    have h := fin_slot [(10, _)] hs hd9 (holds_lk ⟨e10, trivial⟩)
    have s := s.more hE
    have z := St.start w2
    refine s_load_at1 (cell_of_has (Has.of_own s 1 rfl) 69 (mArr_o _ _)) h one9 rfl rfl fun f h => s_nil ?_
    have e9 := h.holds 11 _ rfl
    refine ⟨?_, Ext.refl _, fun h9 => absurd h9 (by decide)⟩
    refine e9.trans ?_
    exact rfl
  · refine obH_in 12 rfl (by decide) ?_
    intro f9 w2 hE hs hl
    have e1 : f9.tmps.getD 1 undef = _ := sx_old hl 1 (by kernel_rfl) (by kernel_rfl) (h.holds 1 _ rfl)
    have h := fin_slot [(1, _)] hs rfl (holds_lk ⟨e1, trivial⟩)
    refine s_run hFT9 1 h rfl fun f h => s_nil ?_
    have e9 := h.holds 12 _ rfl
    refine ⟨?_, rfl⟩
    refine e9.trans ?_
    exact rfl
  · refine obF_in 13 rfl (by decide) (by decide) ?_
    intro f9 w2 hE hs hd9 hl
    have e12 : f9.tmps.getD 12 undef = _ := sx_get hl 12 9 (by kernel_rfl) (by kernel_rfl)
    have h := fin_slot [(12, _)] hs hd9 (holds_lk ⟨e12, trivial⟩)
    have s := s.more hE
    have z := St.start w2
    refine s_load_at1 (cell_of_has (Has.of_own s 1 rfl) 69 (mArr_o _ _)) h one9 rfl rfl fun f h => s_nil ?_
    have e9 := h.holds 13 _ rfl
    refine ⟨?_, Ext.refl _, fun h9 => absurd h9 (by decide)⟩
    refine e9.trans ?_
    exact rfl
  · refine obH_in 14 rfl (by decide) ?_
    intro f9 w2 hE hs hl
    have e13 : f9.tmps.getD 13 undef = _ := sx_get hl 13 10 (by kernel_rfl) (by kernel_rfl)
    have h := fin_slot [(13, _)] hs rfl (holds_lk ⟨e13, trivial⟩)
    refine s_pure h (ru_len_str Try.underlying9 (h.ev rfl)) rfl fun f h => s_nil ?_
    have e9 := h.holds 14 _ rfl
    refine ⟨?_, rfl⟩
    refine e9.trans ?_
    exact rfl
  · refine obH_in 15 rfl (by decide) ?_
    intro f9 w2 hE hs hl
    have e14 : f9.tmps.getD 14 undef = _ := sx_get hl 14 11 (by kernel_rfl) (by kernel_rfl)
    have h := fin_slot [(14, _)] hs rfl (holds_lk ⟨e14, trivial⟩)
    refine s_pure h (ru_min (h.ev rfl) (h.ev rfl)) rfl fun f h => s_nil ?_
    have e9 := h.holds 15 _ rfl
    refine ⟨?_, rfl⟩
    refine e9.trans ?_
    exact rfl
  · refine obH_in 16 rfl (by decide) ?_
    intro f9 w2 hE hs hl
    have e11 : f9.tmps.getD 11 undef = _ := sx_get hl 11 8 (by kernel_rfl) (by kernel_rfl)
    have e15 : f9.tmps.getD 15 undef = _ := sx_get hl 15 12 (by kernel_rfl) (by kernel_rfl)
    have h := fin_slot [(11, _), (15, _)] hs rfl (holds_lk ⟨e11, e15, trivial⟩)
    refine s_pure h (ru_slice_str (min m.o.size 20) Try.underlying9 (h.ev rfl) (h.ev rfl) (by split <;> omega) (by omega)) rfl fun f h => s_nil ?_
    have e9 := h.holds 16 _ rfl
    refine ⟨?_, rfl⟩
    refine e9.trans ?_
    exact rfl
  · refine obH_in 17 rfl (by decide) ?_
    intro f9 w2 hE hs hl
    have e1 : f9.tmps.getD 1 undef = _ := sx_old hl 1 (by kernel_rfl) (by kernel_rfl) (h.holds 1 _ rfl)
    have h := fin_slot [(1, _)] hs rfl (holds_lk ⟨e1, trivial⟩)
    refine s_run hFT9 1 h rfl fun f h => s_nil ?_
    have e9 := h.holds 17 _ rfl
    refine ⟨?_, rfl⟩
    refine e9.trans ?_
    exact rfl
  · refine obF_in 18 rfl (by decide) (by decide) ?_
    intro f9 w2 hE hs hd9 hl
    have e17 : f9.tmps.getD 17 undef = _ := sx_get hl 17 14 (by kernel_rfl) (by kernel_rfl)
    have h := fin_slot [(17, _)] hs hd9 (holds_lk ⟨e17, trivial⟩)
    have s := s.more hE
    have z := St.start w2
    refine s_load_at1 (cell_of_has (Has.of_own s 1 rfl) 70 (mArr_d _ _)) h one9 rfl rfl fun f h => s_nil ?_
    have e9 := h.holds 18 _ rfl
    refine ⟨?_, Ext.refl _, fun h9 => absurd h9 (by decide)⟩
    refine e9.trans ?_
    exact rfl
  · refine obH_in 19 rfl (by decide) ?_
    intro f9 w2 hE hs hl
    have e1 : f9.tmps.getD 1 undef = _ := sx_old hl 1 (by kernel_rfl) (by kernel_rfl) (h.holds 1 _ rfl)
    have h := fin_slot [(1, _)] hs rfl (holds_lk ⟨e1, trivial⟩)
    refine s_run hFT9 1 h rfl fun f h => s_nil ?_
    have e9 := h.holds 19 _ rfl
    refine ⟨?_, rfl⟩
    refine e9.trans ?_
    exact rfl
  · refine obF_in 20 rfl (by decide) (by decide) ?_
    intro f9 w2 hE hs hd9 hl
    have e19 : f9.tmps.getD 19 undef = _ := sx_get hl 19 16 (by kernel_rfl) (by kernel_rfl)
    have h := fin_slot [(19, _)] hs hd9 (holds_lk ⟨e19, trivial⟩)
    have s := s.more hE
    have z := St.start w2
    refine s_load_at1 (cell_of_has (Has.of_own s 1 rfl) 70 (mArr_d _ _)) h one9 rfl rfl fun f h => s_nil ?_
    have e9 := h.holds 20 _ rfl
    refine ⟨?_, Ext.refl _, fun h9 => absurd h9 (by decide)⟩
    refine e9.trans ?_
    exact rfl
  · refine obH_in 21 rfl (by decide) ?_
    intro f9 w2 hE hs hl
    have e20 : f9.tmps.getD 20 undef = _ := sx_get hl 20 17 (by kernel_rfl) (by kernel_rfl)
    have h := fin_slot [(20, _)] hs rfl (holds_lk ⟨e20, trivial⟩)
    refine s_pure h (ru_len_str Try.underlying9 (h.ev rfl)) rfl fun f h => s_nil ?_
    have e9 := h.holds 21 _ rfl
    refine ⟨?_, rfl⟩
    refine e9.trans ?_
    exact rfl
  · refine obH_in 22 rfl (by decide) ?_
    intro f9 w2 hE hs hl
    have e21 : f9.tmps.getD 21 undef = _ := sx_get hl 21 18 (by kernel_rfl) (by kernel_rfl)
    have h := fin_slot [(21, _)] hs rfl (holds_lk ⟨e21, trivial⟩)
    refine s_pure h (ru_min (h.ev rfl) (h.ev rfl)) rfl fun f h => s_nil ?_
    have e9 := h.holds 22 _ rfl
    refine ⟨?_, rfl⟩
    refine e9.trans ?_
    exact rfl
  · refine obH_in 23 rfl (by decide) ?_
    intro f9 w2 hE hs hl
    have e18 : f9.tmps.getD 18 undef = _ := sx_get hl 18 15 (by kernel_rfl) (by kernel_rfl)
    have e22 : f9.tmps.getD 22 undef = _ := sx_get hl 22 19 (by kernel_rfl) (by kernel_rfl)
    have h := fin_slot [(18, _), (22, _)] hs rfl (holds_lk ⟨e18, e22, trivial⟩)
    refine s_pure h (ru_slice_str (min m.d.size 70) Try.underlying9 (h.ev rfl) (h.ev rfl) (by split <;> omega) (by omega)) rfl fun f h => s_nil ?_
    have e9 := h.holds 23 _ rfl
    refine ⟨?_, rfl⟩
    refine e9.trans ?_
    exact rfl
  · refine obH_in 24 rfl (by decide) ?_
    intro f9 w2 hE hs hl
    have e1 : f9.tmps.getD 1 undef = _ := sx_old hl 1 (by kernel_rfl) (by kernel_rfl) (h.holds 1 _ rfl)
    have h := fin_slot [(1, _)] hs rfl (holds_lk ⟨e1, trivial⟩)
    refine s_run hFT9 1 h rfl fun f h => s_nil ?_
    have e9 := h.holds 24 _ rfl
    refine ⟨?_, rfl⟩
    refine e9.trans ?_
    exact rfl
  · exact obT_in (by decide) (by decide)
  · refine obH_in 25 rfl (by decide) ?_
    intro f9 w2 hE hs hl
    have e1 : f9.tmps.getD 1 undef = _ := sx_old hl 1 (by kernel_rfl) (by kernel_rfl) (h.holds 1 _ rfl)
    have h := fin_slot [(1, _)] hs rfl (holds_lk ⟨e1, trivial⟩)
    refine s_run hFT9 1 h rfl fun f h => s_nil ?_
    have e9 := h.holds 25 _ rfl
    refine ⟨?_, rfl⟩
    refine e9.trans ?_
    exact rfl
  · exact obT_in (by decide) (by decide)
  · refine obH_in 26 rfl (by decide) ?_
    intro f9 w2 hE hs hl
    have e1 : f9.tmps.getD 1 undef = _ := sx_old hl 1 (by kernel_rfl) (by kernel_rfl) (h.holds 1 _ rfl)
    have h := fin_slot [(1, _)] hs rfl (holds_lk ⟨e1, trivial⟩)
    refine s_run hFT9 1 h rfl fun f h => s_nil ?_
    have e9 := h.holds 26 _ rfl
    refine ⟨?_, rfl⟩
    refine e9.trans ?_
    exact rfl
  · exact obT_in (by decide) (by decide)
  · intro f9 w2 hE hs hd9 hWp hT hR hFr hDj
    replace h := sl_new (ops := _) [(3, _), (4, _), (5, _), (6, _), (7, _), (8, _), (9, _), (10, _), (11, _), (12, _), (13, _), (14, _), (15, _), (16, _), (17, _), (18, _), (19, _), (20, _), (21, _), (22, _), (23, _), (24, _), (25, _), (26, _)] h hs hd9 hR ⟨hT 0 3 (by decide) rfl, hT 1 4 (by decide) rfl, hT 2 5 (by decide) rfl, hT 3 6 (by decide) rfl, hT 4 7 (by decide) rfl, hT 5 8 (by decide) rfl, hT 6 9 (by decide) rfl, hT 7 10 (by decide) rfl, hT 8 11 (by decide) rfl, hT 9 12 (by decide) rfl, hT 10 13 (by decide) rfl, hT 11 14 (by decide) rfl, hT 12 15 (by decide) rfl, hT 13 16 (by decide) rfl, hT 14 17 (by decide) rfl, hT 15 18 (by decide) rfl, hT 16 19 (by decide) rfl, hT 17 20 (by decide) rfl, hT 18 21 (by decide) rfl, hT 19 22 (by decide) rfl, hT 20 23 (by decide) rfl, hT 21 24 (by decide) rfl, hT 23 25 (by decide) rfl, hT 25 26 (by decide) rfl, trivial⟩ (by kernel_rfl)
    replace s := s.more hE
    clear hT hR hFr hDj
    refine LstV.cons ?_
    refine s_store_one 1 h s one42 rfl rfl rfl (by rw [mArr_size]; omega) (rdz_one (re_take hv _ (by omega))) fun w1 s => ?_
    replace s := s.recell 1 rfl (mArr_setV _ _ _ (m.l.take (min m.l.length 6)))
    refine s_nil ⟨trivial, VOk.no (by kernel_rfl), ?_⟩
    refine LstV.cons ?_
    refine s_store_one 1 h s one9 rfl rfl rfl (by rw [mArr_size]; omega) (rfl) fun w1 s => ?_
    replace s := s.recell 1 rfl (mArr_setO _ _ _)
    refine s_nil ⟨trivial, VOk.no (by kernel_rfl), ?_⟩
    refine LstV.cons ?_
    refine s_store_one 1 h s one9 rfl rfl rfl (by rw [mArr_size]; omega) (rfl) fun w1 s => ?_
    replace s := s.recell 1 rfl (mArr_setD _ _ _)
    refine s_nil ⟨trivial, VOk.no (by kernel_rfl), ?_⟩
    refine LstV.nil ?_
    refine t_norm (qr (s_load_row 1 h s row49 rfl rfl (mArr_size _ _) rfl fun f h => s_store_row 0 h s row49 rfl rfl rfl (mArr_size _ _) (mArr_size _ _) (mArr_ones _ _ (rdz_one (re_take hv _ (by omega)))) fun w1 s => nt (wpIn_ret (e_row 0 rfl h s row49 rfl rfl (mArr_size _ _) (rfl)))))

set_option maxHeartbeats 1000000 in
theorem halive_any  (w : World) : Calls Try.prog 16 [].toArray w (Ret w (is (.bool true))) := by
  obtain ⟨n1, n2⟩ := al17_n
  obtain ⟨x1, x2⟩ := al17_w (setB 0#256 0 7)
  obtain ⟨y1, y2⟩ := al17_a (setB 0#256 0 7)
  refine c_en Try.func16 rfl Try.ntmps16 rfl fun f h s => qre hFT9 1 h rfl fun f h => qr (s_call h s fnc10 (hnew_any 3 1 _) rfl rfl ?_); rintro f w1 v7 ⟨aua, bua, cua, kua, rfl, hG⟩ hE h sq; replace s := s.add hG; clear hG
  refine s_run hFT9 3 h rfl fun f h => s_alloc (hoArr 0 0 nilV nilV nilV) h s zero26 rfl rfl fun f w1 b1 h s => s_store_row 0 h s row26 rfl rfl rfl (hoArr_size _ _ _ _ _) (hoArr_size _ _ _ _ _) (hoArr_ones _ _ (rd_one (((s.getG 1 rfl) (rdH_z _)).1)) (rd_one (((s.getG 1 rfl) (rdH_z _)).2.1)) (rd_one (((s.getG 1 rfl) (rdH_z _)).2.2))) fun w1 s => e9 hFT9 1 h rfl fun f h => qr (s_load_row 0 h s row26 rfl rfl (hoArr_size _ _ _ _ _) rfl fun f h => s_pure h (ru_build1 idTy (v := 7) 0 rfl (by decide) (by decide)) rfl fun f h => s_call h s fnc11 (hwant_any (newH 3 1) aua bua cua (setB 0#256 0 7) 5 _ ((s.getG 1 rfl) (rdH_z _)) (b9_new 3 1)) rfl rfl ?_); rintro f w1 v13 ⟨aub, bub, cub, kub, rfl, hG⟩ hE h sq; replace s := s.add hG; clear hG
  refine s_run hFT9 3 h rfl fun f h => s_store_row 1 h s row26 rfl rfl rfl (hoArr_size _ _ _ _ _) (hoArr_size _ _ _ _ _) (hoArr_ones _ _ (rd_one (((s.getG 0 rfl) ((s.getG 2 rfl) (rdH_z _))).1)) (rd_one (((s.getG 0 rfl) ((s.getG 2 rfl) (rdH_z _))).2.1)) (rd_one (((s.getG 0 rfl) ((s.getG 2 rfl) (rdH_z _))).2.2))) fun w1 s => e9 hFT9 1 h rfl fun f h => qr (s_load_row 1 h s row26 rfl rfl (hoArr_size _ _ _ _ _) rfl fun f h => s_call h s fnc18 (hask_any (wanH (newH 3 1) (setB 0#256 0 7) 5) aub bub cub 0 _ ((s.getG 0 rfl) ((s.getG 2 rfl) (rdH_z _))) (b9_wan (by rw [n2]; exact ⟨Nat.zero_le _, Nat.zero_le _, Nat.zero_le _⟩) _ _)) rfl rfl ?_); rintro f w1 v18 ⟨uc, Kuc, kuc, rfl, huc, hG⟩ hE h sq; replace s := s.add hG; clear hG
  obtain ⟨q1, q2⟩ := sends_one (huc.trans (by rw [n2, x2]; exact y2))
  refine e9 hFT9 5 h rfl fun f h => qrs hFT9 1 h rfl fun f h => s_at hFT9 h rfl (by rw [n1]; rfl) fun f h => s_run hFT9 2 h rfl fun f h => s_o h rfl (s_at hFT9 h rfl (by rw [n2, x1]; rfl) fun f h => s_run hFT9 3 h rfl fun f h => s_o h rfl (s_at hFT9 h rfl (by rw [n2, x2, y1]; rfl) fun f h => s_run hFT9 3 h rfl fun f h => s_o h rfl (s_lz h (((s.getG 0 rfl) ((s.getG 1 rfl) ((s.getG 3 rfl) (rdH_z _)))).1) Try.underlying43 rfl rfl fun f h => s_o h rfl (s_at hFT9 h rfl (by rw [q1]; rfl) fun f h => s_run hFT9 3 h rfl fun f h => s_o h rfl (s_pure h (ru_ixz (((s.getG 0 rfl) ((s.getG 1 rfl) ((s.getG 3 rfl) (rdH_z _)))).1) (0) Try.underlying43 szo53 (h.ev rfl) (h.ev rfl) (rfl) (by omega)) rfl fun f h => s_o h rfl (s_pure h (ru_fieldE fld53_0 (h.ev rfl) ((((s.getG 0 rfl) ((s.getG 1 rfl) ((s.getG 3 rfl) (rdH_z _)))).1).some (by omega))) rfl fun f h => s_o h rfl (s_load_at1 (V := .int .i64 1) (rdz_at (((s.getG 0 rfl) ((s.getG 1 rfl) ((s.getG 3 rfl) (rdH_z _)))).1) (0 * 139 + 0) ((se_c0 Kuc 0 (by omega)).trans (by rw [q2]))) h one3 rfl rfl fun f h => s_o h rfl (s_at hFT9 h rfl (rfl) fun f h => s_run hFT9 3 h rfl fun f h => s_o h rfl (s_pure h (ru_ixz (((s.getG 0 rfl) ((s.getG 1 rfl) ((s.getG 3 rfl) (rdH_z _)))).1) (0) Try.underlying43 szo53 (h.ev rfl) (h.ev rfl) (rfl) (by omega)) rfl fun f h => s_o h rfl (s_pure h (ru_fieldE fld53_1 (h.ev rfl) ((((s.getG 0 rfl) ((s.getG 1 rfl) ((s.getG 3 rfl) (rdH_z _)))).1).some (by omega))) rfl fun f h => s_o h rfl (s_pure h (ru_fieldE fld49_0 (h.ev rfl) ((((s.getG 0 rfl) ((s.getG 1 rfl) ((s.getG 3 rfl) (rdH_z _)))).1).some (by omega))) rfl fun f h => s_o h rfl (s_load_at1 (V := .int .i64 2) (rdz_at (((s.getG 0 rfl) ((s.getG 1 rfl) ((s.getG 3 rfl) (rdH_z _)))).1) (0 * 139 + 1) ((se_c1 Kuc 0 (by omega)).trans (by rw [q2]; rfl))) h one3 rfl rfl fun f h => s_o h rfl (s_at hFT9 h rfl (rfl) fun f h => e9 hFT9 2 h rfl fun f h => wpIn_ret (e_tmp rfl h s rfl (rfl)))))))))))))))
end Go.Proofs.Ythjkhnhiciamaaa
