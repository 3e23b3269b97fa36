/- What GuardJudges answers: for all arguments. -/
import Derived.Test.YtcnnlakcpcofkaaDoorVg
import Derived.Test.YtcnnlakcpcofkaaDoorXl
set_option linter.unusedVariables false
set_option linter.unusedSimpArgs false
set_option linter.unusedSectionVars false
namespace Go.Proofs.YtcnnlakcpcofkaaDoor
open Go.RowKit
set_option maxHeartbeats 4000000 in
theorem lgjudges_any (sx : ByteArray) (m0 : Mg) (vs : Value) (now : Int) (w : World) (hV0 : RdZ w vs 34 m0.l.length (eCells m0.l)) (hH : Tab w 0 (wF hTab 8)) (hK : Tab w 1 (wF kTab 64)) : Calls Tryd.prog 3 [.string sx, .agg (mArr m0 vs), .int .i64 now].toArray w (Ret w (is (.bool true))) := by
  have hV : RdE w (cutV vs (min m0.l.length 6)) (cutM m0).l := e_take hV0 _ (Nat.min_le_left _ _)
  have hml := cutM_l m0
  have hsl : (sx.extract 0 (min sx.size 70)).size ≤ 70 := by rw [ByteArray.size_extract]; omega
  refine c_en Tryd.func3 rfl Tryd.ntmps3 rfl fun f h s => qr (s_box (mArr m0 vs) h s rfl rfl rfl fun f w1 b4 h s => e9 hFT9 1 h rfl fun f h => c_seqN ?_)
  have hbs := s.ext.le
  refine' c_reg2 0 [2, 3, 4, 5, 6, 8] [] [[], [0], [], [], [3], [3, 4], [2, 3, 4, 5], [0, 1], [0, 1, 2, 3, 4, 5, 6, 7]] (is undef :: is undef :: is _ :: is _ :: is _ :: is _ :: is _ :: is undef :: is _ :: []) (fun _ => True) h s (by kernel_rfl) (by kernel_rfl) (by kernel_rfl) (by kernel_rfl) rfl (fun _ _ h _ => h) (trivial) ⟨⟨_, rfl⟩, ⟨_, rfl⟩, ⟨_, rfl⟩, ⟨_, rfl⟩, ⟨_, rfl⟩, ⟨_, rfl⟩, trivial⟩ ⟨is_mono _, is_mono _, is_mono _, is_mono _, is_mono _, is_mono _, is_mono _, is_mono _, is_mono _, trivial⟩ (And.intro ?_ (And.intro ?_ (And.intro ?_ (And.intro ?_ (And.intro ?_ (And.intro ?_ (And.intro ?_ (And.intro ?_ (And.intro ?_ (trivial)))))))))) ?_
  rotate_left 6
  · exact obT_in (by decide) (by decide)
  · exact obT_in (by decide) (by decide)
  · refine obH_in 16 rfl (by decide) ?_
    intro f9 w2 hE hs hl
    have e0 : f9.tmps.getD 0 undef = _ := sx_old hl 0 (by kernel_rfl) (by kernel_rfl) (h.holds 0 _ rfl)
    have h := fin_slot [(0, _)] hs rfl (holds_lk ⟨e0, trivial⟩)
    refine s_run hFT9 1 h rfl fun f h => s_nil ?_
    have e9 := h.holds 16 _ rfl
    refine ⟨?_, rfl⟩
    refine e9.trans ?_
    exact rfl
  · refine obH_in 17 rfl (by decide) ?_
    intro f9 w2 hE hs hl
    have e0 : f9.tmps.getD 0 undef = _ := sx_old hl 0 (by kernel_rfl) (by kernel_rfl) (h.holds 0 _ rfl)
    have h := fin_slot [(0, _)] hs rfl (holds_lk ⟨e0, trivial⟩)
    refine s_run hFT9 1 h rfl fun f h => s_nil ?_
    have e9 := h.holds 17 _ rfl
    refine ⟨?_, rfl⟩
    refine e9.trans ?_
    exact rfl
  · refine obH_in 18 rfl (by decide) ?_
    intro f9 w2 hE hs hl
    have e17 : f9.tmps.getD 17 undef = _ := sx_get hl 17 3 (by kernel_rfl) (by kernel_rfl)
    have h := fin_slot [(17, _)] hs rfl (holds_lk ⟨e17, trivial⟩)
    refine s_pure h (ru_len_str Tryd.underlying9 (h.ev rfl)) rfl fun f h => s_nil ?_
    have e9 := h.holds 18 _ rfl
    refine ⟨?_, rfl⟩
    refine e9.trans ?_
    exact rfl
  · refine obH_in 19 rfl (by decide) ?_
    intro f9 w2 hE hs hl
    have e18 : f9.tmps.getD 18 undef = _ := sx_get hl 18 4 (by kernel_rfl) (by kernel_rfl)
    have h := fin_slot [(18, _)] hs rfl (holds_lk ⟨e18, trivial⟩)
    refine s_pure h (ru_min (h.ev rfl) (h.ev rfl)) rfl fun f h => s_nil ?_
    have e9 := h.holds 19 _ rfl
    refine ⟨?_, rfl⟩
    refine e9.trans ?_
    exact rfl
  · refine obH_in 20 rfl (by decide) ?_
    intro f9 w2 hE hs hl
    have e16 : f9.tmps.getD 16 undef = _ := sx_get hl 16 2 (by kernel_rfl) (by kernel_rfl)
    have e19 : f9.tmps.getD 19 undef = _ := sx_get hl 19 5 (by kernel_rfl) (by kernel_rfl)
    have h := fin_slot [(16, _), (19, _)] hs rfl (holds_lk ⟨e16, e19, trivial⟩)
    refine s_pure h (ru_slice_str (min sx.size 70) Tryd.underlying9 (h.ev rfl) (h.ev rfl) (by split <;> omega) (by omega)) rfl fun f h => s_nil ?_
    have e9 := h.holds 20 _ rfl
    refine ⟨?_, rfl⟩
    refine e9.trans ?_
    exact rfl
  · exact obT_in (by decide) (by decide)
  · refine obH_in 0 rfl (by decide) ?_
    intro f9 w2 hE hs hl
    have e20 : f9.tmps.getD 20 undef = _ := sx_get hl 20 6 (by kernel_rfl) (by kernel_rfl)
    have h := fin_slot [(20, _)] hs rfl (holds_lk ⟨e20, trivial⟩)
    refine s_run hFT9 1 h rfl fun f h => s_nil ?_
    have e9 := h.holds 0 _ rfl
    refine ⟨?_, rfl⟩
    refine e9.trans ?_
    exact rfl
  · intro f9 w2 hE hs hd9 hWp hT hR hFr hDj
    replace h := sl_new (ops := _) [(16, _), (17, _), (18, _), (19, _), (20, _), (0, _)] h hs hd9 hR ⟨hT 2 16 (by decide) rfl, hT 3 17 (by decide) rfl, hT 4 18 (by decide) rfl, hT 5 19 (by decide) rfl, hT 6 20 (by decide) rfl, hT 8 0 (by decide) rfl, trivial⟩ (by kernel_rfl)
    replace s := s.more hE
    clear hT hR hFr hDj
    refine LstW.of ?_
    refine s_load_row 0 h s row28 rfl rfl (mArr_size _ _) rfl fun f h => s_cv h s fnc7 (gcut_any m0 vs _ (hV0.keep s.ext)) rfl rfl fun f w1 h s => s_store_row 0 h s row28 rfl rfl rfl (mArr_size _ _) (mArr_size _ _) (mArr_ones _ _ (rd_one hV)) fun w1 s => nt (qrs hFT9 1 h rfl fun f h => s_load_row 0 h s row28 rfl rfl (mArr_size _ _) rfl fun f h => s_call h s fnc8 (gjudge_any (sx.extract 0 (min sx.size 70)) (by omega) (cutM m0) (cutV vs (min m0.l.length 6)) _ (hV.keep s.ext) (by first | omega | decide | exact Nat.zero_le _) (hH.keep s.ext) (hK.keep s.ext)) rfl rfl ?_); rintro f w1 v24 ⟨ua, kua, rfl, hG⟩ hE h sq; replace s := s.add hG; clear hG
    refine s_run hFT9 4 h rfl fun f h => s_alloc (mArr mZ nilV) h s zero28 rfl rfl fun f w1 b8 h s => s_run hFT9 1 h rfl fun f h => s_store_row 0 h s row28 rfl rfl rfl (mArr_size _ _) (mArr_size _ _) (mArr_ones _ _ (rd_one ((s.getG 1 rfl) (hV.keep s.ext)))) fun w1 s => e9 hFT9 1 h rfl fun f h => qr (s_load_row 2 h s row28 rfl rfl (mArr_size _ _) rfl fun f h => s_run hFT9 1 h rfl fun f h => s_cv h s fnc9 (gtrig_any (cutM m0) (cutV vs (min m0.l.length 6)) now _ (hV.keep s.ext) (by omega)) rfl rfl fun f w1 h s => s_run hFT9 3 h rfl fun f h => s_alloc (tgArr zTg) h s zero34 rfl rfl fun f w1 b10 h s => s_store_row 0 h s row34 rfl rfl rfl (tgArr_size _) (tgArr_size _) (tgArr_ones _) fun w1 s => e9 hFT9 1 h rfl fun f h => c_seqN (qr (s_cb true h s fnc10 (galive_any _ (hH.keep s.ext) (hK.keep s.ext)) (rfl) rfl rfl fun f w1 h s => e9 hFT9 1 h rfl fun f h => cfk h rfl (c_seqN (c_seqN ?_)))))
    refine c_region (s_load_row 3 h s row28 rfl rfl (mArr_size _ _) rfl fun f h => s_cx h s fnc11 (rabout_any (cutM m0) (cutV vs (min m0.l.length 6)) _ (hV.keep s.ext) (by omega)) rfl rfl (fun a0 f w1 h s => ?_) (fun a0 f w1 h s => ?_))
    · refine e9 hFT9 14 h rfl fun f h => c_ct h rfl (qr ?_)
      obtain ⟨x1, x2⟩ := tg_n (tb_0 now a0)
      refine s_run hFT9 1 h rfl fun f h => s_af hFT9 h rfl (by rw [x1]; rfl) fun f h => s_run hFT9 1 h rfl fun f h => s_o h rfl (s_load_row 0 h s row34 rfl rfl (tgArr_size _) rfl fun f h => s_o h rfl (s_pure h (ru_build_tg0 sttG) rfl fun f h => s_o h rfl (s_pure h (ru_val (.bool false) (ru_neqW (eqG _ _) (by kernel_rfl) (by decide) (h.ev rfl) (h.ev rfl) (decide (tgT (cutM m0) now = zTg)) (tgEq _ _)) (congrArg Value.bool (by rw [x2]; simp))) rfl fun f h => e9 hFT9 1 h rfl fun f h => cfk h rfl (qre hFT9 1 h rfl fun f h => c_seqN (qr (s_load_row 3 h s row28 rfl rfl (mArr_size _ _) rfl fun f h => s_cb false h s fnc11 (rabout_any (cutM m0) (cutV vs (min m0.l.length 6)) _ (hV.keep s.ext) (by omega)) (a0) rfl rfl fun f w1 h s => e9 hFT9 1 h rfl fun f h => c_ct h rfl (re hFT9 1 h rfl fun f h => c_seqN (qrs hFT9 1 h rfl fun f h => s_at hFT9 h rfl (rfl) fun f h => nct h rfl (qr ?_)))))))))
      obtain ⟨y1, y2, y3⟩ := gd_no (s := (sx.extract 0 (min sx.size 70))) a0
      refine s_run hFT9 2 h rfl fun f h => s_at hFT9 h rfl (by rw [y1]; rfl) fun f h => s_run hFT9 2 h rfl fun f h => s_o h rfl (s_at hFT9 h rfl (by rw [y2]; rfl) fun f h => s_run hFT9 2 h rfl fun f h => s_o h rfl (s_load_row 1 h s row28 rfl rfl (mArr_size _ _) rfl fun f h => s_o h rfl (s_pure h (ru_build_m0 sttM) rfl fun f h => s_o h rfl (s_cb true h s fnc13 (rlike_any (gdA (sx.extract 0 (min sx.size 70)) (cutM m0)) mZ ua nilV _ ((s.getG 2 rfl) (hV.keep s.ext)) (re_nil _) (by rw [(judA_l _ _).2]; exact Nat.zero_le _) (Nat.zero_le _)) (by rw [y3]; exact (mEqB_iff _ _).2 rfl) rfl rfl fun f w1 h s => e9 hFT9 2 h rfl fun f h => rt (e_tmp rfl h s rfl (rfl))))))
    · skip
      refine s_run hFT9 3 h rfl fun f h => s_o h rfl (s_load_at1 (cell_of_has (Has.of_own s 3 rfl) 0 (mArr_k _ _)) h one3 rfl rfl fun f h => s_o h rfl (s_ax hFT9 h rfl (fun k6 f h => ?_) (fun k6 f h => ?_)))
      · skip
        refine s_run hFT9 3 h rfl fun f h => s_o h rfl (s_ax hFT9 h rfl (fun n0 f h => ?_) (fun n0 f h => ?_))
        · skip
          refine s_run hFT9 3 h rfl fun f h => s_o h rfl (s_ax hFT9 h rfl (fun n1 f h => ?_) (fun n1 f h => ?_))
          · refine e9 hFT9 1 h rfl fun f h => c_cf h rfl (c_seqN (c_wA 9 h (by kernel_rfl) ?_))
            obtain ⟨x1, x2⟩ := tg_y (tb_y a0 k6 n0 n1)
            refine w_run hFT9 1 h rfl fun f h => w_af hFT9 h rfl (by rw [x1]; rfl) fun f h => w_run hFT9 1 h rfl fun f h => w_o h rfl (w_load_row 0 h s row34 rfl rfl (tgArr_size _) rfl fun f h => w_o h rfl (w_load_row 3 h s row28 rfl rfl (mArr_size _ _) rfl fun f h => w_run hFT9 1 h rfl fun f h => w_o h rfl (w_call h fnc12 (fun w9 hE9 => rtrigger_any (cutM m0) (cutV vs (min m0.l.length 6)) now w9 (by have := of_decide_eq_false n0; have := of_decide_eq_false n1; omega) (about_n a0 k6)) rfl rfl fun f h => w_o h rfl (w_pure h (ru_val (.bool false) (ru_neqW (eqG _ _) (by kernel_rfl) (by decide) (h.ev rfl) (h.ev rfl) (decide (tgT (cutM m0) now = trgT (cutM m0) now)) (tgEq _ _)) (congrArg Value.bool (by rw [x2]; simp))) rfl fun f h => w_run hFT9 1 h rfl fun f h => w_nil s fun w1 s => ncfk h rfl (qre hFT9 1 h rfl fun f h => c_seqN (qr (s_load_row 3 h s row28 rfl rfl (mArr_size _ _) rfl fun f h => s_cb true h s fnc11 (rabout_any (cutM m0) (cutV vs (min m0.l.length 6)) _ (hV.keep s.ext) (by omega)) (a0) rfl rfl fun f w1 h s => e9 hFT9 1 h rfl fun f h => c_cf h rfl (c_seqN ?_))))))))
            refine rs hFT9 1 h rfl fun f h => s_pure h (ru_len_str Tryd.underlying9 (h.ev rfl)) rfl fun f h => s_ay hFT9 (decide (64 < (sx.extract 0 (min sx.size 70)).size)) h rfl ((decide_eq_decide.2 (by omega))) (fun s0 f h => ?_) (fun s0 f h => ?_)
            · refine ncfk h rfl (c_seqN (qrs hFT9 1 h rfl fun f h => s_af hFT9 h rfl (rfl) fun f h => ncfk h rfl (qrs hFT9 1 h rfl fun f h => s_load_row 3 h s row28 rfl rfl (mArr_size _ _) rfl fun f h => s_cv h s fnc14 (rjudge_any (sx.extract 0 (min sx.size 70)) (cutM m0) (cutV vs (min m0.l.length 6)) _ (by have := of_decide_eq_false s0; omega) a0) rfl rfl fun f w1 h s => s_alloc (gtArr 0 mZ nilV) h s zero42 rfl rfl fun f w1 b13 h s => s_store_row 0 h s row42 rfl rfl rfl (gtArr_size _ _ _) (gtArr_size _ _ _) (gtArr_ones _ _ rfl) fun w1 s => nt (qr ?_))))
              obtain ⟨y1, y2, y3⟩ := gd_ok (s := (sx.extract 0 (min sx.size 70))) a0 (by have := of_decide_eq_false s0; omega)
              refine s_run hFT9 1 h rfl fun f h => s_at hFT9 h rfl (by rw [y1]; rfl) fun f h => s_run hFT9 3 h rfl fun f h => s_o h rfl (s_load_at1 (cell_of_has (Has.of_own s 0 rfl) 0 (gt_q _ _ _)) h one3 rfl rfl fun f h => s_o h rfl (s_at hFT9 h rfl (by rw [y2]; simp) fun f h => s_run hFT9 2 h rfl fun f h => s_o h rfl (s_load_row 2 h s row28 rfl rfl (mArr_size _ _) rfl fun f h => s_run hFT9 1 h rfl fun f h => s_o h rfl (s_load_at (Has.subL (Has.of_own s 0 rfl) 1 71 (D := mArr (_) (_)) (gt_m _ _ _)) h row28 rfl (mArr_size _ _) rfl fun f h => s_o h rfl (s_cb true h s fnc13 (rlike_any (gdA (sx.extract 0 (min sx.size 70)) (cutM m0)) (judA (sx.extract 0 (min sx.size 70)) (cutM m0)) ua nilV _ ((s.getG 3 rfl) (hV.keep s.ext)) (re_nil9 _ (judA_l _ _).1 rfl) (by rw [(judA_l _ _).2]; exact Nat.zero_le _) (by rw [(judA_l _ _).1]; exact Nat.zero_le _)) (by rw [y3]; exact (mEqB_iff _ _).2 rfl) rfl rfl fun f w1 h s => e9 hFT9 2 h rfl fun f h => wpIn_ret (e_tmp rfl h s rfl (rfl)))))))
            · refine nct h rfl (re hFT9 1 h rfl fun f h => c_seqN (qrs hFT9 1 h rfl fun f h => s_at hFT9 h rfl (rfl) fun f h => nct h rfl (qr ?_)))
              obtain ⟨y1, y2, y3⟩ := gd_long (s := (sx.extract 0 (min sx.size 70))) a0 (by have := of_decide_eq_true s0; omega)
              refine s_run hFT9 2 h rfl fun f h => s_at hFT9 h rfl (by rw [y1]; rfl) fun f h => s_run hFT9 2 h rfl fun f h => s_o h rfl (s_at hFT9 h rfl (by rw [y2]; rfl) fun f h => s_run hFT9 2 h rfl fun f h => s_o h rfl (s_load_row 1 h s row28 rfl rfl (mArr_size _ _) rfl fun f h => s_o h rfl (s_pure h (ru_build_m0 sttM) rfl fun f h => s_o h rfl (s_cb true h s fnc13 (rlike_any (gdA (sx.extract 0 (min sx.size 70)) (cutM m0)) mZ ua nilV _ ((s.getG 2 rfl) (hV.keep s.ext)) (re_nil _) (by rw [(judA_l _ _).2]; exact Nat.zero_le _) (Nat.zero_le _)) (by rw [y3]; exact (mEqB_iff _ _).2 rfl) rfl rfl fun f w1 h s => e9 hFT9 2 h rfl fun f h => rt (e_tmp rfl h s rfl (rfl))))))
          · refine e9 hFT9 1 h rfl fun f h => c_ct h rfl (qr ?_)
            obtain ⟨x1, x2⟩ := tg_n (tb_3 n1)
            refine s_run hFT9 1 h rfl fun f h => s_af hFT9 h rfl (by rw [x1]; rfl) fun f h => s_run hFT9 1 h rfl fun f h => s_o h rfl (s_load_row 0 h s row34 rfl rfl (tgArr_size _) rfl fun f h => s_o h rfl (s_pure h (ru_build_tg0 sttG) rfl fun f h => s_o h rfl (s_pure h (ru_val (.bool false) (ru_neqW (eqG _ _) (by kernel_rfl) (by decide) (h.ev rfl) (h.ev rfl) (decide (tgT (cutM m0) now = zTg)) (tgEq _ _)) (congrArg Value.bool (by rw [x2]; simp))) rfl fun f h => e9 hFT9 1 h rfl fun f h => cfk h rfl (qre hFT9 1 h rfl fun f h => c_seqN (qr (s_load_row 3 h s row28 rfl rfl (mArr_size _ _) rfl fun f h => s_cb true h s fnc11 (rabout_any (cutM m0) (cutV vs (min m0.l.length 6)) _ (hV.keep s.ext) (by omega)) (a0) rfl rfl fun f w1 h s => e9 hFT9 1 h rfl fun f h => c_cf h rfl (c_seqN ?_)))))))
            refine rs hFT9 1 h rfl fun f h => s_pure h (ru_len_str Tryd.underlying9 (h.ev rfl)) rfl fun f h => s_ay hFT9 (decide (64 < (sx.extract 0 (min sx.size 70)).size)) h rfl ((decide_eq_decide.2 (by omega))) (fun s0 f h => ?_) (fun s0 f h => ?_)
            · refine ncfk h rfl (c_seqN (qrs hFT9 1 h rfl fun f h => s_af hFT9 h rfl (rfl) fun f h => ncfk h rfl (qrs hFT9 1 h rfl fun f h => s_load_row 3 h s row28 rfl rfl (mArr_size _ _) rfl fun f h => s_cv h s fnc14 (rjudge_any (sx.extract 0 (min sx.size 70)) (cutM m0) (cutV vs (min m0.l.length 6)) _ (by have := of_decide_eq_false s0; omega) a0) rfl rfl fun f w1 h s => s_alloc (gtArr 0 mZ nilV) h s zero42 rfl rfl fun f w1 b13 h s => s_store_row 0 h s row42 rfl rfl rfl (gtArr_size _ _ _) (gtArr_size _ _ _) (gtArr_ones _ _ rfl) fun w1 s => nt (qr ?_))))
              obtain ⟨y1, y2, y3⟩ := gd_ok (s := (sx.extract 0 (min sx.size 70))) a0 (by have := of_decide_eq_false s0; omega)
              refine s_run hFT9 1 h rfl fun f h => s_at hFT9 h rfl (by rw [y1]; rfl) fun f h => s_run hFT9 3 h rfl fun f h => s_o h rfl (s_load_at1 (cell_of_has (Has.of_own s 0 rfl) 0 (gt_q _ _ _)) h one3 rfl rfl fun f h => s_o h rfl (s_at hFT9 h rfl (by rw [y2]; simp) fun f h => s_run hFT9 2 h rfl fun f h => s_o h rfl (s_load_row 2 h s row28 rfl rfl (mArr_size _ _) rfl fun f h => s_run hFT9 1 h rfl fun f h => s_o h rfl (s_load_at (Has.subL (Has.of_own s 0 rfl) 1 71 (D := mArr (_) (_)) (gt_m _ _ _)) h row28 rfl (mArr_size _ _) rfl fun f h => s_o h rfl (s_cb true h s fnc13 (rlike_any (gdA (sx.extract 0 (min sx.size 70)) (cutM m0)) (judA (sx.extract 0 (min sx.size 70)) (cutM m0)) ua nilV _ ((s.getG 3 rfl) (hV.keep s.ext)) (re_nil9 _ (judA_l _ _).1 rfl) (by rw [(judA_l _ _).2]; exact Nat.zero_le _) (by rw [(judA_l _ _).1]; exact Nat.zero_le _)) (by rw [y3]; exact (mEqB_iff _ _).2 rfl) rfl rfl fun f w1 h s => e9 hFT9 2 h rfl fun f h => wpIn_ret (e_tmp rfl h s rfl (rfl)))))))
            · refine nct h rfl (re hFT9 1 h rfl fun f h => c_seqN (qrs hFT9 1 h rfl fun f h => s_at hFT9 h rfl (rfl) fun f h => nct h rfl (qr ?_)))
              obtain ⟨y1, y2, y3⟩ := gd_long (s := (sx.extract 0 (min sx.size 70))) a0 (by have := of_decide_eq_true s0; omega)
              refine s_run hFT9 2 h rfl fun f h => s_at hFT9 h rfl (by rw [y1]; rfl) fun f h => s_run hFT9 2 h rfl fun f h => s_o h rfl (s_at hFT9 h rfl (by rw [y2]; rfl) fun f h => s_run hFT9 2 h rfl fun f h => s_o h rfl (s_load_row 1 h s row28 rfl rfl (mArr_size _ _) rfl fun f h => s_o h rfl (s_pure h (ru_build_m0 sttM) rfl fun f h => s_o h rfl (s_cb true h s fnc13 (rlike_any (gdA (sx.extract 0 (min sx.size 70)) (cutM m0)) mZ ua nilV _ ((s.getG 2 rfl) (hV.keep s.ext)) (re_nil _) (by rw [(judA_l _ _).2]; exact Nat.zero_le _) (Nat.zero_le _)) (by rw [y3]; exact (mEqB_iff _ _).2 rfl) rfl rfl fun f w1 h s => e9 hFT9 2 h rfl fun f h => rt (e_tmp rfl h s rfl (rfl))))))
        · refine e9 hFT9 5 h rfl fun f h => c_ct h rfl (qr ?_)
          obtain ⟨x1, x2⟩ := tg_n (tb_2 n0)
          refine s_run hFT9 1 h rfl fun f h => s_af hFT9 h rfl (by rw [x1]; rfl) fun f h => s_run hFT9 1 h rfl fun f h => s_o h rfl (s_load_row 0 h s row34 rfl rfl (tgArr_size _) rfl fun f h => s_o h rfl (s_pure h (ru_build_tg0 sttG) rfl fun f h => s_o h rfl (s_pure h (ru_val (.bool false) (ru_neqW (eqG _ _) (by kernel_rfl) (by decide) (h.ev rfl) (h.ev rfl) (decide (tgT (cutM m0) now = zTg)) (tgEq _ _)) (congrArg Value.bool (by rw [x2]; simp))) rfl fun f h => e9 hFT9 1 h rfl fun f h => cfk h rfl (qre hFT9 1 h rfl fun f h => c_seqN (qr (s_load_row 3 h s row28 rfl rfl (mArr_size _ _) rfl fun f h => s_cb true h s fnc11 (rabout_any (cutM m0) (cutV vs (min m0.l.length 6)) _ (hV.keep s.ext) (by omega)) (a0) rfl rfl fun f w1 h s => e9 hFT9 1 h rfl fun f h => c_cf h rfl (c_seqN ?_)))))))
          refine rs hFT9 1 h rfl fun f h => s_pure h (ru_len_str Tryd.underlying9 (h.ev rfl)) rfl fun f h => s_ay hFT9 (decide (64 < (sx.extract 0 (min sx.size 70)).size)) h rfl ((decide_eq_decide.2 (by omega))) (fun s0 f h => ?_) (fun s0 f h => ?_)
          · refine ncfk h rfl (c_seqN (qrs hFT9 1 h rfl fun f h => s_af hFT9 h rfl (rfl) fun f h => ncfk h rfl (qrs hFT9 1 h rfl fun f h => s_load_row 3 h s row28 rfl rfl (mArr_size _ _) rfl fun f h => s_cv h s fnc14 (rjudge_any (sx.extract 0 (min sx.size 70)) (cutM m0) (cutV vs (min m0.l.length 6)) _ (by have := of_decide_eq_false s0; omega) a0) rfl rfl fun f w1 h s => s_alloc (gtArr 0 mZ nilV) h s zero42 rfl rfl fun f w1 b13 h s => s_store_row 0 h s row42 rfl rfl rfl (gtArr_size _ _ _) (gtArr_size _ _ _) (gtArr_ones _ _ rfl) fun w1 s => nt (qr ?_))))
            obtain ⟨y1, y2, y3⟩ := gd_ok (s := (sx.extract 0 (min sx.size 70))) a0 (by have := of_decide_eq_false s0; omega)
            refine s_run hFT9 1 h rfl fun f h => s_at hFT9 h rfl (by rw [y1]; rfl) fun f h => s_run hFT9 3 h rfl fun f h => s_o h rfl (s_load_at1 (cell_of_has (Has.of_own s 0 rfl) 0 (gt_q _ _ _)) h one3 rfl rfl fun f h => s_o h rfl (s_at hFT9 h rfl (by rw [y2]; simp) fun f h => s_run hFT9 2 h rfl fun f h => s_o h rfl (s_load_row 2 h s row28 rfl rfl (mArr_size _ _) rfl fun f h => s_run hFT9 1 h rfl fun f h => s_o h rfl (s_load_at (Has.subL (Has.of_own s 0 rfl) 1 71 (D := mArr (_) (_)) (gt_m _ _ _)) h row28 rfl (mArr_size _ _) rfl fun f h => s_o h rfl (s_cb true h s fnc13 (rlike_any (gdA (sx.extract 0 (min sx.size 70)) (cutM m0)) (judA (sx.extract 0 (min sx.size 70)) (cutM m0)) ua nilV _ ((s.getG 3 rfl) (hV.keep s.ext)) (re_nil9 _ (judA_l _ _).1 rfl) (by rw [(judA_l _ _).2]; exact Nat.zero_le _) (by rw [(judA_l _ _).1]; exact Nat.zero_le _)) (by rw [y3]; exact (mEqB_iff _ _).2 rfl) rfl rfl fun f w1 h s => e9 hFT9 2 h rfl fun f h => wpIn_ret (e_tmp rfl h s rfl (rfl)))))))
          · refine nct h rfl (re hFT9 1 h rfl fun f h => c_seqN (qrs hFT9 1 h rfl fun f h => s_at hFT9 h rfl (rfl) fun f h => nct h rfl (qr ?_)))
            obtain ⟨y1, y2, y3⟩ := gd_long (s := (sx.extract 0 (min sx.size 70))) a0 (by have := of_decide_eq_true s0; omega)
            refine s_run hFT9 2 h rfl fun f h => s_at hFT9 h rfl (by rw [y1]; rfl) fun f h => s_run hFT9 2 h rfl fun f h => s_o h rfl (s_at hFT9 h rfl (by rw [y2]; rfl) fun f h => s_run hFT9 2 h rfl fun f h => s_o h rfl (s_load_row 1 h s row28 rfl rfl (mArr_size _ _) rfl fun f h => s_o h rfl (s_pure h (ru_build_m0 sttM) rfl fun f h => s_o h rfl (s_cb true h s fnc13 (rlike_any (gdA (sx.extract 0 (min sx.size 70)) (cutM m0)) mZ ua nilV _ ((s.getG 2 rfl) (hV.keep s.ext)) (re_nil _) (by rw [(judA_l _ _).2]; exact Nat.zero_le _) (Nat.zero_le _)) (by rw [y3]; exact (mEqB_iff _ _).2 rfl) rfl rfl fun f w1 h s => e9 hFT9 2 h rfl fun f h => rt (e_tmp rfl h s rfl (rfl))))))
      · refine e9 hFT9 9 h rfl fun f h => c_ct h rfl (qr ?_)
        obtain ⟨x1, x2⟩ := tg_n (tb_1 now k6)
        refine s_run hFT9 1 h rfl fun f h => s_af hFT9 h rfl (by rw [x1]; rfl) fun f h => s_run hFT9 1 h rfl fun f h => s_o h rfl (s_load_row 0 h s row34 rfl rfl (tgArr_size _) rfl fun f h => s_o h rfl (s_pure h (ru_build_tg0 sttG) rfl fun f h => s_o h rfl (s_pure h (ru_val (.bool false) (ru_neqW (eqG _ _) (by kernel_rfl) (by decide) (h.ev rfl) (h.ev rfl) (decide (tgT (cutM m0) now = zTg)) (tgEq _ _)) (congrArg Value.bool (by rw [x2]; simp))) rfl fun f h => e9 hFT9 1 h rfl fun f h => cfk h rfl (qre hFT9 1 h rfl fun f h => c_seqN (qr (s_load_row 3 h s row28 rfl rfl (mArr_size _ _) rfl fun f h => s_cb true h s fnc11 (rabout_any (cutM m0) (cutV vs (min m0.l.length 6)) _ (hV.keep s.ext) (by omega)) (a0) rfl rfl fun f w1 h s => e9 hFT9 1 h rfl fun f h => c_cf h rfl (c_seqN ?_)))))))
        refine rs hFT9 1 h rfl fun f h => s_pure h (ru_len_str Tryd.underlying9 (h.ev rfl)) rfl fun f h => s_ay hFT9 (decide (64 < (sx.extract 0 (min sx.size 70)).size)) h rfl ((decide_eq_decide.2 (by omega))) (fun s0 f h => ?_) (fun s0 f h => ?_)
        · refine ncfk h rfl (c_seqN (qrs hFT9 1 h rfl fun f h => s_af hFT9 h rfl (rfl) fun f h => ncfk h rfl (qrs hFT9 1 h rfl fun f h => s_load_row 3 h s row28 rfl rfl (mArr_size _ _) rfl fun f h => s_cv h s fnc14 (rjudge_any (sx.extract 0 (min sx.size 70)) (cutM m0) (cutV vs (min m0.l.length 6)) _ (by have := of_decide_eq_false s0; omega) a0) rfl rfl fun f w1 h s => s_alloc (gtArr 0 mZ nilV) h s zero42 rfl rfl fun f w1 b13 h s => s_store_row 0 h s row42 rfl rfl rfl (gtArr_size _ _ _) (gtArr_size _ _ _) (gtArr_ones _ _ rfl) fun w1 s => nt (qr ?_))))
          obtain ⟨y1, y2, y3⟩ := gd_ok (s := (sx.extract 0 (min sx.size 70))) a0 (by have := of_decide_eq_false s0; omega)
          refine s_run hFT9 1 h rfl fun f h => s_at hFT9 h rfl (by rw [y1]; rfl) fun f h => s_run hFT9 3 h rfl fun f h => s_o h rfl (s_load_at1 (cell_of_has (Has.of_own s 0 rfl) 0 (gt_q _ _ _)) h one3 rfl rfl fun f h => s_o h rfl (s_at hFT9 h rfl (by rw [y2]; simp) fun f h => s_run hFT9 2 h rfl fun f h => s_o h rfl (s_load_row 2 h s row28 rfl rfl (mArr_size _ _) rfl fun f h => s_run hFT9 1 h rfl fun f h => s_o h rfl (s_load_at (Has.subL (Has.of_own s 0 rfl) 1 71 (D := mArr (_) (_)) (gt_m _ _ _)) h row28 rfl (mArr_size _ _) rfl fun f h => s_o h rfl (s_cb true h s fnc13 (rlike_any (gdA (sx.extract 0 (min sx.size 70)) (cutM m0)) (judA (sx.extract 0 (min sx.size 70)) (cutM m0)) ua nilV _ ((s.getG 3 rfl) (hV.keep s.ext)) (re_nil9 _ (judA_l _ _).1 rfl) (by rw [(judA_l _ _).2]; exact Nat.zero_le _) (by rw [(judA_l _ _).1]; exact Nat.zero_le _)) (by rw [y3]; exact (mEqB_iff _ _).2 rfl) rfl rfl fun f w1 h s => e9 hFT9 2 h rfl fun f h => wpIn_ret (e_tmp rfl h s rfl (rfl)))))))
        · refine nct h rfl (re hFT9 1 h rfl fun f h => c_seqN (qrs hFT9 1 h rfl fun f h => s_at hFT9 h rfl (rfl) fun f h => nct h rfl (qr ?_)))
          obtain ⟨y1, y2, y3⟩ := gd_long (s := (sx.extract 0 (min sx.size 70))) a0 (by have := of_decide_eq_true s0; omega)
          refine s_run hFT9 2 h rfl fun f h => s_at hFT9 h rfl (by rw [y1]; rfl) fun f h => s_run hFT9 2 h rfl fun f h => s_o h rfl (s_at hFT9 h rfl (by rw [y2]; rfl) fun f h => s_run hFT9 2 h rfl fun f h => s_o h rfl (s_load_row 1 h s row28 rfl rfl (mArr_size _ _) rfl fun f h => s_o h rfl (s_pure h (ru_build_m0 sttM) rfl fun f h => s_o h rfl (s_cb true h s fnc13 (rlike_any (gdA (sx.extract 0 (min sx.size 70)) (cutM m0)) mZ ua nilV _ ((s.getG 2 rfl) (hV.keep s.ext)) (re_nil _) (by rw [(judA_l _ _).2]; exact Nat.zero_le _) (Nat.zero_le _)) (by rw [y3]; exact (mEqB_iff _ _).2 rfl) rfl rfl fun f w1 h s => e9 hFT9 2 h rfl fun f h => rt (e_tmp rfl h s rfl (rfl))))))
end Go.Proofs.YtcnnlakcpcofkaaDoor
