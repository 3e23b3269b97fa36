/- What is judged, by the reference. -/
import Derived.Test.YtcnnlakcpcofkaaDoorVc
import Derived.Test.YtcnnlakcpcofkaaDoorVe
set_option linter.unusedVariables false
set_option linter.unusedSimpArgs false
set_option linter.unusedSectionVars false
namespace Go.Proofs.YtcnnlakcpcofkaaDoor
open Go.RowKit
theorem rabout_any (m : Mg) (vs : Value) (w : World) (hV : RdE w vs m.l) (hml : m.l.length ≤ 1000) : Calls Tryd.prog 11 [.agg (mArr m vs)].toArray w (Ret w (is (.bool (aboutM m)))) := by
  refine c_en Tryd.func11 rfl Tryd.ntmps11 rfl fun f h s => qr (s_box (mArr m vs) h s rfl rfl rfl fun f w1 b1 h s => e9 hFT9 1 h rfl fun f h => c_seqN ?_)
  refine c_region (s_load_row 0 h s row28 rfl rfl (mArr_size _ _) rfl fun f h => s_cx h s fnc20 (rright5_any m vs _ (hV.keep s.ext) (by omega)) rfl rfl (fun h0 f w1 h s => ?_) (fun h0 f w1 h s => ?_))
  · refine s_run hFT9 5 h rfl fun f h => s_none h rfl rfl rfl rfl ?_; intro f h
    refine s_none h rfl rfl rfl rfl ?_; intro f h
    refine s_none h rfl rfl rfl rfl ?_; intro f h
    refine s_run hFT9 2 h rfl fun f h => s_none h rfl rfl rfl rfl ?_; intro f h
    refine s_none h rfl rfl rfl rfl ?_; intro f h
    refine s_none h rfl rfl rfl rfl ?_; intro f h
    refine e9 hFT9 3 h rfl fun f h => wpIn_ret (e_tmp rfl h s rfl (by show _ = _; unfold aboutM; rw [h0]; rfl))
  · skip
    refine s_run hFT9 2 h rfl fun f h => s_o h rfl (s_load_at1 (cell_of_has (Has.of_own s 0 rfl) 0 (mArr_k _ _)) h one3 rfl rfl fun f h => s_o h rfl (s_ax hFT9 h rfl (fun h1 f h => ?_) (fun h1 f h => ?_)))
    · skip
      refine s_run hFT9 2 h rfl fun f h => s_o h rfl (s_load_at1 (cell_of_has (Has.of_own s 0 rfl) 0 (mArr_k _ _)) h one3 rfl rfl fun f h => s_o h rfl (s_ax hFT9 h rfl (fun h2 f h => ?_) (fun h2 f h => ?_)))
      · refine s_run hFT9 3 h rfl fun f h => s_o h rfl (s_load_at1 (cell_of_has (Has.of_own s 0 rfl) 0 (mArr_k _ _)) h one3 rfl rfl fun f h => e9 hFT9 4 h rfl fun f h => wpIn_ret (e_tmp rfl h s rfl (by show _ = _; unfold aboutM; rw [h0, h1, h2]; rfl)))
      · refine e9 hFT9 8 h rfl fun f h => wpIn_ret (e_tmp rfl h s rfl (by show _ = _; unfold aboutM; rw [h0, h1, h2]; rfl))
    · refine e9 hFT9 12 h rfl fun f h => wpIn_ret (e_tmp rfl h s rfl (by show _ = _; unfold aboutM; rw [h0, h1]; rfl))

theorem rjudge_any (sx : ByteArray) (m : Mg) (vs : Value) (w : World) (hsx : sx.size ≤ 64) (ha : aboutM m = true) : Calls Tryd.prog 14 [.string sx, .agg (mArr m vs)].toArray w (Ret w (is (.agg (gtArr (judK sx m) (judA sx m) nilV)))) := by
  obtain ⟨hh1, hh2⟩ := host_t (about_t ha).1
  refine c_en Tryd.func14 rfl Tryd.ntmps14 rfl fun f h s => qr (s_box (mArr m vs) h s rfl rfl rfl fun f w1 b3 h s => s_alloc (gtArr 0 mZ nilV) h s zero42 rfl rfl fun f w1 b4 h s => nt (c_seqN (qrs hFT9 2 h rfl fun f h => s_load_at1 (cell_of_has (Has.of_own s 1 rfl) 33 (mArr_tk _ _)) h one3 rfl rfl fun f h => e9 hFT9 1 h rfl fun f h => c_cond h rfl (fun hc => ?_) (fun hc => ?_))))
  · have c1 := hc
    refine c_seqN (c_seqN ?_)
    refine rs hFT9 1 h rfl fun f h => s_load_at1 (cell_of_has (Has.of_own s 1 rfl) 0 (mArr_k _ _)) h one3 rfl rfl fun f h => s_ax hFT9 h rfl (fun k2 f h => ?_) (fun k2 f h => ?_)
    · refine e9 hFT9 8 h rfl fun f h => cfk h rfl (qr (s_pure h (ru_build_gt1 sttGT rfl) rfl fun f h => s_store_row 0 h s row42 rfl rfl rfl (gtArr_size _ _ _) (gtArr_size _ _ _) (gtArr_ones _ _ rfl) fun w1 s => nt (rt (e_row 0 rfl h s row42 rfl rfl (gtArr_size _ _ _) (by show _ = _; rw [show judK sx m = 4 by unfold judK; rw [c1, k2]; rfl, show judA sx m = mZ by unfold judA; rw [c1, k2]; rfl])))))
    · skip
      refine s_run hFT9 2 h rfl fun f h => s_o h rfl (s_load_at (Has.subL (Has.of_own s 1 rfl) 1 32 (D := idArr (_)) (mArr_i _ _)) h row23 rfl (by first | exact idArr_size _ | exact bytesF_size _ _) rfl fun f h => s_run hFT9 2 h rfl fun f h => s_o h rfl (s_load_at (Has.subL (Has.of_own s 1 rfl) 34 32 (D := idArr (_)) (mArr_ti _ _)) h row23 rfl (by first | exact idArr_size _ | exact bytesF_size _ _) rfl fun f h => s_o h rfl (s_cx h s fnc22 (rlinks_any m.i m.t.2.1 _) rfl rfl (fun l0 f w1 h s => ?_) (fun l0 f w1 h s => ?_))))
      · refine e9 hFT9 1 h rfl fun f h => cfk h rfl (qr (s_pure h (ru_build_gt1 sttGT rfl) rfl fun f h => s_store_row 0 h s row42 rfl rfl rfl (gtArr_size _ _ _) (gtArr_size _ _ _) (gtArr_ones _ _ rfl) fun w1 s => nt (rt (e_row 0 rfl h s row42 rfl rfl (gtArr_size _ _ _) (by show _ = _; rw [show judK sx m = 4 by unfold judK; rw [c1, k2, l0]; rfl, show judA sx m = mZ by unfold judA; rw [c1, k2]; rfl])))))
      · refine e9 hFT9 1 h rfl fun f h => c_ct h rfl (qr (s_pure h (ru_build_gt1 sttGT rfl) rfl fun f h => s_store_row 0 h s row42 rfl rfl rfl (gtArr_size _ _ _) (gtArr_size _ _ _) (gtArr_ones _ _ rfl) fun w1 s => nt (rt (t_ret (e_row 0 rfl h s row42 rfl rfl (gtArr_size _ _ _) (by show _ = _; rw [show judK sx m = 2 by unfold judK; rw [c1, k2, l0]; rfl, show judA sx m = mZ by unfold judA; rw [c1, k2]; rfl]))))))
  · have c1 := hc
    refine kt (qrs hFT9 2 h rfl fun f h => s_load_at (Has.subL (Has.of_own s 1 rfl) 1 32 (D := idArr (_)) (mArr_i _ _)) h row23 rfl (by first | exact idArr_size _ | exact bytesF_size _ _) rfl fun f h => s_run hFT9 2 h rfl fun f h => s_load_at1 (V := .int .i64 ((m.t.2.2.toNat : Nat) : Int)) (cell_of_has (Has.of_own s 1 rfl) 66 ((by rw [mArr_th, hh1]))) h one3 rfl rfl fun f h => s_cv h s fnc23 (rnonce_ok sx hsx m.i m.t.2.2.toNat hh2 _) rfl rfl fun f w1 h s => e9 hFT9 1 h rfl fun f h => c_seqN (qrs hFT9 1 h rfl fun f h => s_load_at1 (cell_of_has (Has.of_own s 1 rfl) 0 (mArr_k _ _)) h one3 rfl rfl fun f h => e9 hFT9 1 h rfl fun f h => c_cond h rfl (fun hc => ?_) (fun hc => ?_)))
    · have k2 := hc
      refine qrs hFT9 1 h rfl fun f h => s_load_at (Has.subL (Has.of_own s 1 rfl) 1 32 (D := idArr (_)) (mArr_i _ _)) h row23 rfl (by first | exact idArr_size _ | exact bytesF_size _ _) rfl fun f h => s_run hFT9 1 h rfl fun f h => s_load_at (Has.subL (Has.of_own s 1 rfl) 33 34 (D := eArr (_)) (mArr_t _ _)) h row25 rfl (eArr_size _) rfl fun f h => s_run hFT9 1 h rfl fun f h => s_pure h (ru_build_m0125 sttM rfl (h.ev rfl) (h.ev rfl) (h.ev rfl)) rfl fun f h => s_pure h (ru_build_gt2 sttGT rfl (h.ev rfl)) rfl fun f h => s_store_row 0 h s row42 rfl rfl rfl (gtArr_size _ _ _) (gtArr_size _ _ _) (gtArr_ones _ _ rfl) fun w1 s => nt (rt (e_row 0 rfl h s row42 rfl rfl (gtArr_size _ _ _) (by show _ = _; rw [show judK sx m = 1 by unfold judK; rw [c1, k2]; rfl, show judA sx m = (askM sx m) by unfold judA; rw [c1, k2]; rfl]; rfl)))
    · have k2 := hc
      refine kt (c_seqN (qrs hFT9 1 h rfl fun f h => s_load_at1 (cell_of_has (Has.of_own s 1 rfl) 69 (mArr_o _ _)) h one9 rfl rfl fun f h => s_run hFT9 1 h rfl fun f h => s_pure h (ru_neq_str (h.ev rfl) (h.ev rfl)) rfl fun f h => nt (c_cond h rfl (fun hc => ?_) (fun hc => ?_))))
      · have o1 : decide (m.o = ncG sx m) = false := decide_eq_false (of_decide_eq_true hc)
        refine qr (s_pure h (ru_build_gt1 sttGT rfl) rfl fun f h => s_store_row 0 h s row42 rfl rfl rfl (gtArr_size _ _ _) (gtArr_size _ _ _) (gtArr_ones _ _ rfl) fun w1 s => nt (rt (e_row 0 rfl h s row42 rfl rfl (gtArr_size _ _ _) (by show _ = _; rw [show judK sx m = 4 by unfold judK; rw [c1, k2, o1]; rfl, show judA sx m = mZ by unfold judA; rw [c1, k2]; rfl]))))
      · have o1 : decide (m.o = ncG sx m) = true := decide_eq_true (Decidable.of_not_not (of_decide_eq_false hc))
        refine kt (c_seqN (qrs hFT9 1 h rfl fun f h => s_load_at1 (cell_of_has (Has.of_own s 1 rfl) 0 (mArr_k _ _)) h one3 rfl rfl fun f h => e9 hFT9 1 h rfl fun f h => c_cond h rfl (fun hc => ?_) (fun hc => ?_)))
        · have k4 := hc
          refine qr (s_pure h (ru_build_gt1 sttGT rfl) rfl fun f h => s_store_row 0 h s row42 rfl rfl rfl (gtArr_size _ _ _) (gtArr_size _ _ _) (gtArr_ones _ _ rfl) fun w1 s => nt (rt (e_row 0 rfl h s row42 rfl rfl (gtArr_size _ _ _) (by show _ = _; rw [show judK sx m = 2 by unfold judK; rw [c1, k2, o1, k4]; rfl, show judA sx m = mZ by unfold judA; rw [c1, k2]; rfl]))))
        · have k4 := hc
          refine kt (qr (s_pure h (ru_build_gt1 sttGT rfl) rfl fun f h => s_store_row 0 h s row42 rfl rfl rfl (gtArr_size _ _ _) (gtArr_size _ _ _) (gtArr_ones _ _ rfl) fun w1 s => nt (wpIn_ret (e_row 0 rfl h s row42 rfl rfl (gtArr_size _ _ _) (by show _ = _; rw [show judK sx m = 3 by unfold judK; rw [c1, k2, o1, k4]; rfl, show judA sx m = mZ by unfold judA; rw [c1, k2]; rfl])))))

theorem rtrigger_any (m : Mg) (vs : Value) (now : Int) (w : World) (h0 : 0 ≤ now ∧ now ≤ 1099511627776) (h1 : 0 ≤ m.n ∧ m.n ≤ 1099511627776) : Calls Tryd.prog 12 [.agg (mArr m vs), .int .i64 now].toArray w (Ret w (is (.agg (tgArr (trgT m now))))) := by
  refine c_en Tryd.func12 rfl Tryd.ntmps12 rfl fun f h s => qr (s_box (mArr m vs) h s rfl rfl rfl fun f w1 b2 h s => s_alloc (tgArr zTg) h s zero34 rfl rfl fun f w1 b4 h s => nt (qrs hFT9 2 h rfl fun f h => s_load_at1 (cell_of_has (Has.of_own s 1 rfl) 68 (mArr_n _ _)) h one3 rfl rfl fun f h => s_pure h (ru_add (h.ev rfl) (h.ev rfl) (by omega)) rfl fun f h => e9 hFT9 1 h rfl fun f h => c_seqN (qre hFT9 2 h rfl fun f h => c_cond h rfl (fun hc => ?_) (fun hc => ?_))))
  · have hc := of_decide_eq_true hc
    refine re hFT9 1 h rfl fun f h => qrs hFT9 1 h rfl fun f h => s_load_at (Has.subL (Has.of_own s 1 rfl) 1 32 (D := idArr (_)) (mArr_i _ _)) h row23 rfl (by first | exact idArr_size _ | exact bytesF_size _ _) rfl fun f h => s_run hFT9 1 h rfl fun f h => s_load_at (Has.subL (Has.of_own s 1 rfl) 33 34 (D := eArr (_)) (mArr_t _ _)) h row25 rfl (eArr_size _) rfl fun f h => s_run hFT9 1 h rfl fun f h => s_pure h (ru_build_tg3 sttG (h.ev rfl) (h.ev rfl) (h.ev rfl)) rfl fun f h => s_store_row 0 h s row34 rfl rfl rfl (tgArr_size _) (tgArr_size _) (tgArr_ones _) fun w1 s => nt (wpIn_ret (e_row 0 rfl h s row34 rfl rfl (tgArr_size _) (by show _ = _; unfold trgT; rw [show min (now + m.n) 1099511627776 = 1099511627776 by omega])))
  · have hc := of_decide_eq_false hc
    refine kt (qrs hFT9 1 h rfl fun f h => s_load_at (Has.subL (Has.of_own s 1 rfl) 1 32 (D := idArr (_)) (mArr_i _ _)) h row23 rfl (by first | exact idArr_size _ | exact bytesF_size _ _) rfl fun f h => s_run hFT9 1 h rfl fun f h => s_load_at (Has.subL (Has.of_own s 1 rfl) 33 34 (D := eArr (_)) (mArr_t _ _)) h row25 rfl (eArr_size _) rfl fun f h => s_run hFT9 1 h rfl fun f h => s_pure h (ru_build_tg3 sttG (h.ev rfl) (h.ev rfl) (h.ev rfl)) rfl fun f h => s_store_row 0 h s row34 rfl rfl rfl (tgArr_size _) (tgArr_size _) (tgArr_ones _) fun w1 s => nt (wpIn_ret (e_row 0 rfl h s row34 rfl rfl (tgArr_size _) (by show _ = _; unfold trgT; rw [show min (now + m.n) 1099511627776 = now + m.n by omega]))))
end Go.Proofs.YtcnnlakcpcofkaaDoor
