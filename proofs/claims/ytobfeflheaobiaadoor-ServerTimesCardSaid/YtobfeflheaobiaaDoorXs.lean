/- What package server makes of a message: what it is to it, what is judged, what is sent on, Handle. -/
import Derived.Test.YtobfeflheaobiaaDoorXg
set_option linter.unusedVariables false
set_option linter.unusedSimpArgs false
set_option linter.unusedSectionVars false
namespace Go.Proofs.YtobfeflheaobiaaDoor
open Go.RowKit
theorem shost_any (x : Int) (w : World) (hx : 0 ≤ x ∧ x ≤ 1000) : Calls Tryd.prog 16 [.int .i64 x].toArray w (Ret w (is (.int .i64 (16 + x)))) := by
  refine c_en Tryd.func16 rfl Tryd.ntmps16 rfl fun f h s => qre hFT9 1 h rfl fun f h => qrs hFT9 1 h rfl fun f h => s_pure h (ru_add (h.ev rfl) (h.ev rfl) (by omega)) rfl fun f h => e9 hFT9 1 h rfl fun f h => wpIn_ret (e_tmp rfl h s rfl (rfl))

theorem sright_any (sv : Sv) (vt : Value) (w : World) (hT : RdT w vt sv.tb) (htl : sv.tb.length ≤ 1000) : Calls Tryd.prog 15 [.agg (svArr sv.no sv.sec vt)].toArray w (Ret w (is (.bool (rightV sv)))) := by
  refine c_en Tryd.func15 rfl Tryd.ntmps15 rfl fun f h s => qr (s_box (svArr sv.no sv.sec vt) h s rfl rfl rfl fun f w1 b1 h s => e9 hFT9 1 h rfl fun f h => c_seqN ?_)
  refine rs hFT9 1 h rfl fun f h => s_load_at1 (V := .int .i64 sv.no) (cell_of_has (Has.of_own s 0 rfl) 0 (sv_n _ _ _)) h one3 rfl rfl fun f h => s_ax hFT9 h rfl (fun h0 f h => ?_) (fun h0 f h => ?_)
  · refine e9 hFT9 17 h rfl fun f h => wpIn_ret (e_tmp rfl h s rfl (by show _ = _; unfold rightV; rw [h0]; rfl))
  · skip
    refine s_run hFT9 2 h rfl fun f h => s_o h rfl (s_load_at1 (V := .int .i64 sv.no) (cell_of_has (Has.of_own s 0 rfl) 0 (sv_n _ _ _)) h one3 rfl rfl fun f h => s_o h rfl (s_ay hFT9 (decide (sv.no ≤ 15)) h rfl ((decide_eq_decide.2 (by omega))) (fun h1 f h => ?_) (fun h1 f h => ?_)))
    · refine e9 hFT9 13 h rfl fun f h => wpIn_ret (e_tmp rfl h s rfl (by show _ = _; unfold rightV; rw [h0, h1]; rfl))
    · skip
      refine s_run hFT9 3 h rfl fun f h => s_o h rfl (s_load_at1 (V := .string sv.sec) (cell_of_has (Has.of_own s 0 rfl) 1 (sv_s _ _ _)) h one9 rfl rfl fun f h => s_o h rfl (s_pure h (ru_len_str Tryd.underlying9 (h.ev rfl)) rfl fun f h => s_o h rfl (s_ay hFT9 (decide (sv.sec.size ≤ 64)) h rfl ((decide_eq_decide.2 (by omega))) (fun h2 f h => ?_) (fun h2 f h => ?_))))
      · refine e9 hFT9 7 h rfl fun f h => wpIn_ret (e_tmp rfl h s rfl (by show _ = _; unfold rightV; rw [h0, h1, h2]; rfl))
      · refine s_run hFT9 3 h rfl fun f h => s_o h rfl (s_load_at1 (V := vt) (cell_of_has (Has.of_own s 0 rfl) 2 (sv_v _ _ _)) h one22 rfl rfl fun f h => s_o h rfl (s_cv h s fnc31 (tright_any sv.tb vt _ (hT.keep s.ext) htl) rfl rfl fun f w1 h s => e9 hFT9 2 h rfl fun f h => wpIn_ret (e_tmp rfl h s rfl (by show _ = _; unfold rightV; rw [h0, h1, h2]; rfl))))

theorem slast_any (sv : Sv) (vt : Value) (now : Int) (w : World) (hT : RdT w vt sv.tb) (htl : sv.tb.length ≤ 1000) (hr : rightT sv.tb = true) : Calls Tryd.prog 18 [.agg (svArr sv.no sv.sec vt), .int .i64 now].toArray w (Ret w (LsP w sv vt (expF sv.tb now))) := by
  refine c_en Tryd.func18 rfl Tryd.ntmps18 rfl fun f h s => qr (s_box (svArr sv.no sv.sec vt) h s rfl rfl rfl fun f w1 b2 h s => s_alloc (svArr 0 ByteArray.empty nilV) h s zero24 rfl rfl fun f w1 b4 h s => nt (qrs hFT9 1 h rfl fun f h => s_load_at1 (V := vt) (cell_of_has (Has.of_own s 1 rfl) 2 (sv_v _ _ _)) h one22 rfl rfl fun f h => s_run hFT9 1 h rfl fun f h => s_call h s fnc34 (texp_any sv.tb vt now _ (hT.keep s.ext) htl) rfl rfl ?_)); rintro f w1 v9 ⟨va, kva, rfl, hG⟩ hE h sq; replace s := s.add hG; clear hG
  rw [expL_y hr now] at s
  refine s_run hFT9 4 h rfl fun f h => s_store_one 2 h s one22 rfl rfl rfl (by rw [svArr_size]; omega) (rd_one (((s.getG 0 rfl) (hT.keep s.ext)))) fun w1 s => ?_
  replace s := s.recell (D := svArr sv.no sv.sec va) 2 rfl (rfl)
  refine nt (qr (s_load_row 2 h s row24 rfl rfl (svArr_size _ _ _) rfl fun f h => s_store_row 1 h s row24 rfl rfl rfl (svArr_size _ _ _) (svArr_size _ _ _) (svArr_ones _ _ (rd_one (((s.getG 0 rfl) (hT.keep s.ext))))) fun w1 s => nt (wpIn_ret (e_row 1 rfl h s row24 rfl rfl (svArr_size _ _ _) (⟨va, kva, rfl, s.sel [0] rfl (by decide)⟩)))))

theorem sread_any (m : Mg) (vs : Value) (w : World) (hV : RdE w vs m.l) (hml : m.l.length ≤ 1000) : Calls Tryd.prog 19 [.agg (mArr m vs)].toArray w (Ret w (is (tkV 77 78 83 m vs))) := by
  refine c_en Tryd.func19 rfl Tryd.ntmps19 rfl fun f h s => qr (s_box (mArr m vs) h s rfl rfl rfl fun f w1 b1 h s => e9 hFT9 1 h rfl fun f h => c_seqN (qrs hFT9 1 h rfl fun f h => s_load_at1 (cell_of_has (Has.of_own s 0 rfl) 0 (mArr_k _ _)) h one3 rfl rfl fun f h => nt (wpIn_block (c_seqN (c_seqN ?_)))))
  refine c_region (s_ax hFT9 h rfl (fun k2 f h => ?_) (fun k2 f h => ?_))
  · refine e9 hFT9 1 h rfl fun f h => c_cf h rfl (c_seqN ?_)
    refine c_region (s_ax hFT9 h rfl (fun k4 f h => ?_) (fun k4 f h => ?_))
    · refine e9 hFT9 1 h rfl fun f h => c_cf h rfl ?_
      refine c_region (s_ax hFT9 h rfl (fun k6 f h => ?_) (fun k6 f h => ?_))
      · refine e9 hFT9 1 h rfl fun f h => c_cf h rfl (c_seqN ?_)
        refine c_region (s_ax hFT9 h rfl (fun k1 f h => ?_) (fun k1 f h => ?_))
        · refine e9 hFT9 1 h rfl fun f h => c_cf h rfl (wpIn_skip (b_norm (t_norm (qr (s_pure h (ru_build_oth sttOt) rfl fun f h => s_pure h (ru_makeIface Tryd.underlying83 rfl (h.ev rfl)) rfl fun f h => e9 hFT9 1 h rfl fun f h => wpIn_ret (e_tmp rfl h s rfl (by show _ = _; unfold tkV isC; rw [k2, k4, k6, k1]; rfl)))))))
        · refine e9 hFT9 1 h rfl fun f h => c_ct h rfl (qr (s_load_row 0 h s row31 rfl rfl (mArr_size _ _) rfl fun f h => s_pure h (ru_build_cl sttPc (h.ev rfl)) rfl fun f h => s_pure h (ru_makeIface Tryd.underlying78 rfl (h.ev rfl)) rfl fun f h => e9 hFT9 1 h rfl fun f h => wpIn_ret (b_ret (t_ret (e_tmp rfl h s rfl (by show _ = _; unfold tkV isC; rw [k2, k4, k6, k1]; rfl))))))
      · refine e9 hFT9 1 h rfl fun f h => c_ct h rfl (qr (s_load_row 0 h s row31 rfl rfl (mArr_size _ _) rfl fun f h => s_pure h (ru_build_cl sttCl (h.ev rfl)) rfl fun f h => s_pure h (ru_makeIface Tryd.underlying77 rfl (h.ev rfl)) rfl fun f h => e9 hFT9 1 h rfl fun f h => wpIn_ret (b_ret (t_ret (e_tmp rfl h s rfl (by show _ = _; unfold tkV isC; rw [k2, k4, k6]; rfl))))))
    · refine e9 hFT9 1 h rfl fun f h => c_ct h rfl (kt (c_ct h rfl (qr (s_load_row 0 h s row31 rfl rfl (mArr_size _ _) rfl fun f h => s_pure h (ru_build_cl sttCl (h.ev rfl)) rfl fun f h => s_pure h (ru_makeIface Tryd.underlying77 rfl (h.ev rfl)) rfl fun f h => e9 hFT9 1 h rfl fun f h => wpIn_ret (b_ret (t_ret (e_tmp rfl h s rfl (by show _ = _; unfold tkV isC; rw [k2, k4]; rfl))))))))
  · refine e9 hFT9 1 h rfl fun f h => c_ct h rfl (kt (c_ct h rfl (qr (s_load_row 0 h s row31 rfl rfl (mArr_size _ _) rfl fun f h => s_pure h (ru_build_cl sttCl (h.ev rfl)) rfl fun f h => s_pure h (ru_makeIface Tryd.underlying77 rfl (h.ev rfl)) rfl fun f h => e9 hFT9 1 h rfl fun f h => wpIn_ret (b_ret (t_ret (e_tmp rfl h s rfl (by show _ = _; unfold tkV isC; rw [k2]; rfl))))))))

/- fld28_0 fld28_1 -/
theorem sbyp_any (m : Mg) (vs : Value) (w : World) (hV : RdE w vs m.l) (hml : m.l.length ≤ 1000) (h1 : 1 ≤ m.l.length) : Calls Tryd.prog 47 [.agg (mArr m vs)].toArray w (Ret w (is (.tuple #[.agg (idArr (fstE (pkOf m)).2.1), .bool (decide ((fstE (pkOf m)).1 = 1))]))) := by
  refine c_en Tryd.func47 rfl Tryd.ntmps47 rfl fun f h s => qr (s_box (mArr m vs) h s rfl rfl rfl fun f w1 b1 h s => s_alloc (idArr 0#256) h s zero26 rfl rfl fun f w1 b2 h s => e9 hFT9 1 h rfl fun f h => qrs hFT9 2 h rfl fun f h => s_load_at1 (cell_of_has (Has.of_own s 1 rfl) 67 (mArr_v _ _)) h one29 rfl rfl fun f h => s_pure h (ru_ixz (hV.keep s.ext) (0) Tryd.underlying29 szo28 (h.ev rfl) (h.ev rfl) (rfl) (by omega)) rfl fun f h => s_load_at ((hV.keep s.ext).el (0) (by omega) (by decide) (D := eArr (fstE (pkOf m))) (e_elD m.l 0 (by omega))) h row28 rfl (eArr_size _) rfl fun f h => s_alloc (eArr (0, 0#256, 0)) h s zero28 rfl rfl fun f w1 b4 h s => s_store_row 0 h s row28 rfl rfl rfl (eArr_size _) (eArr_size _) (eArr_ones _) fun w1 s => nt (c_seqN ?_))
  replace s := s.bring 1 rfl
  replace s : St w [.blk b2 (.cells (idArr 0#256) 26), .blk b4 (.cells (eArr (fstE (pkOf m))) 28), .blk b1 (.cells (mArr m vs) 78)] _ := s
  refine c_regC 1 [[], [0], [], [2], [2, 3], [0, 1], [0, 1, 2, 3, 4, 5]] [[], [], [], [], [], [7], []] [[_]] [.v _, .v (.agg (idArr (fstE (pkOf m)).2.1)), .v _, .v (.int .i64 (fstE (pkOf m)).1), .v _, .m (fun v => [.blk b2 (.cells (idArr (fstE (pkOf m)).2.1) 26)]), .v _] _ h s rfl (by kernel_rfl) (by kernel_rfl) (by kernel_rfl) (oPu hFT9 h rfl rfl rfl (oAI ?_ (oPu hFT9 h rfl rfl rfl (oAI ?_ (oPu hFT9 h rfl rfl rfl (oAI ?_ (oPu hFT9 h rfl rfl rfl (trivial)))))))) [0, 1, 2, 3, 4, 5, 6] (by kernel_rfl) ?_
  · intro f9 w2 vl2 E9 hs9 hd9 hl hF s
    have h := f9h [(10, _)] h hs9 hd9 ⟨oc_g hl 10 0 (by kernel_rfl) (hF 0 (by decide)), trivial⟩
    refine s_load_at (Has.subL (Has.of_own s 0 rfl) 1 32 (D := idArr (_)) (eArr_id _)) h row26 rfl (by first | exact idArr_size _ | exact bytesF_size _ _) rfl fun f h => s_nil ⟨_, oc_u 11 h rfl rfl, rfl, s⟩
  · intro f9 w2 vl2 E9 hs9 hd9 hl hF s
    have h := f9h [(12, _)] h hs9 hd9 ⟨oc_g hl 12 2 (by kernel_rfl) (hF 2 (by decide)), trivial⟩
    refine s_load_at1 (cell_of_has (Has.of_own s 0 rfl) 0 (eArr_kind _)) h one3 rfl rfl fun f h => s_nil ⟨_, oc_u 13 h rfl rfl, rfl, s⟩
  · intro f9 w2 vl2 E9 hs9 hd9 hl hF s
    have h := f9h [(2, _), (11, _)] h hs9 hd9 ⟨oc_o hl 2 (by kernel_rfl) (h.holds 2 _ rfl), oc_g hl 11 1 (by kernel_rfl) (hF 1 (by decide)), trivial⟩
    refine s_store_row 0 h s row26 rfl rfl rfl (by first | exact idArr_size _ | exact bytesF_size _ _) (by first | exact idArr_size _ | exact bytesF_size _ _) (by first | exact idArr_ones _ | exact bytesF_ones _ _) fun w1 s => s_nil ⟨undef, oc_none rfl, trivial, s⟩
  intro f w1 vl2 hs9 hd9 hv hr hF s
  replace h := oc_sl (ops := _) [(10, _), (11, _), (12, _), (13, _), (14, _), (3, _)] h hs9 hd9 hr ⟨(hv 0 10 rfl).trans (hF 0 rfl), (hv 1 11 rfl).trans (hF 1 rfl), (hv 2 12 rfl).trans (hF 2 rfl), (hv 3 13 rfl).trans (hF 3 rfl), (hv 4 14 rfl).trans (hF 4 rfl), (hv 6 3 rfl).trans (hF 6 rfl), trivial⟩ (by kernel_rfl)
  refine t_norm (wpIn_ret (e_row_tmp 0 rfl h s row26 rfl rfl (by first | exact idArr_size _ | exact bytesF_size _ _) rfl (rfl)))

theorem sdata_any (p : Pk) (vs : Value) (w : World) (hP : RdE w vs p.1) : Calls Tryd.prog 48 [.agg (pkArr vs p.2.1 p.2.2)].toArray w (Ret w (is (.agg (mArr (dataM p) vs)))) := by
  refine c_en Tryd.func48 rfl Tryd.ntmps48 rfl fun f h s => qr (s_box (pkArr vs p.2.1 p.2.2) h s rfl rfl rfl fun f w1 b1 h s => s_alloc (mArr mZ nilV) h s zero31 rfl rfl fun f w1 b2 h s => nt (qrs hFT9 1 h rfl fun f h => s_load_at1 (V := vs) (cell_of_has (Has.of_own s 1 rfl) 0 (pk_v _ _ _)) h one29 rfl rfl fun f h => s_run hFT9 1 h rfl fun f h => s_load_at1 (V := .int .i64 p.2.1) (cell_of_has (Has.of_own s 1 rfl) 1 (pk_n _ _ _)) h one3 rfl rfl fun f h => s_run hFT9 1 h rfl fun f h => s_load_at1 (V := .string p.2.2) (cell_of_has (Has.of_own s 1 rfl) 2 (pk_d _ _ _)) h one9 rfl rfl fun f h => s_pure h (ru_build_m0346 (l := p.1) (rd_size hP) (rd_cells hP) sttM rfl (h.ev rfl) (h.ev rfl) (h.ev rfl)) rfl fun f h => s_store_row 0 h s row31 rfl rfl rfl (mArr_size _ _) (mArr_size _ _) (mArr_ones _ _ (rd_one hP)) fun w1 s => nt (wpIn_ret (e_row 0 rfl h s row31 rfl rfl (mArr_size _ _) (rfl)))))

theorem stow_any (e : Ent) (w : World) (hh : e.1 = 2 → 0 ≤ e.2.2 ∧ e.2.2 ≤ 15) : Calls Tryd.prog 49 [.agg (eArr e)].toArray w (Ret w (is (.int .i64 (towM e)))) := by
  refine c_en Tryd.func49 rfl Tryd.ntmps49 rfl fun f h s => qr (s_box (eArr e) h s rfl rfl rfl fun f w1 b1 h s => e9 hFT9 1 h rfl fun f h => c_seqN (c_seqN ?_))
  refine rs hFT9 1 h rfl fun f h => s_load_at1 (V := .int .i64 e.1) (cell_of_has (Has.of_own s 0 rfl) 0 (eArr_kind _)) h one3 rfl rfl fun f h => s_ax hFT9 h rfl (fun k2 f h => ?_) (fun k2 f h => ?_)
  · refine ncfk h rfl (qre hFT9 1 h rfl fun f h => wpIn_ret (e_tmp rfl h s rfl (by show _ = _; unfold towM; rw [k2]; rfl)))
  · refine nct h rfl (qrs hFT9 1 h rfl fun f h => s_load_at1 (V := .int .i64 e.2.2) (cell_of_has (Has.of_own s 0 rfl) 33 (eArr_host _)) h one3 rfl rfl fun f h => s_cv h s fnc16 (shost_any e.2.2 _ (by have := hh (of_decide_eq_true k2); omega)) rfl rfl fun f w1 h s => e9 hFT9 1 h rfl fun f h => rt (e_tmp rfl h s rfl (by show _ = _; unfold towM; rw [k2]; rfl)))

theorem spush_any (n : Int) (m : Mg) (v : Value) (b : Tg) (w : World) : Calls Tryd.prog 51 [.agg (seArr n m v b)].toArray w (Ret w (is (.bool (decide (m.k = 7))))) := by
  refine c_en Tryd.func51 rfl Tryd.ntmps51 rfl fun f h s => qr (s_box (seArr n m v b) h s rfl rfl rfl fun f w1 b1 h s => e9 hFT9 1 h rfl fun f h => qrs hFT9 2 h rfl fun f h => s_load_at1 (V := .int .i64 m.k) (cell_of_has (Has.of_own s 0 rfl) 1 (se_k _ _ _ _)) h one3 rfl rfl fun f h => e9 hFT9 2 h rfl fun f h => wpIn_ret (e_tmp rfl h s rfl (rfl)))

theorem sixf_any (K : List S2) (vh : Value) (w : World) (hR : RdZ w vh 139 K.length (seCells K)) (hKl : K.length ≤ 2000) : Calls Tryd.prog 72 [vh, .func (.func 51) #[] #[]].toArray w (Ret w (IxP K)) := by
  refine c_en Tryd.func72 rfl Tryd.ntmps72 rfl fun f h s => qre hFT9 1 h rfl fun f h => c_seqN (qrs hFT9 1 h rfl fun f h => s_lz h (hR.keep s.ext) Tryd.underlying34 rfl rfl fun f h => e9 hFT9 1 h rfl fun f h => wpIn_block (wpIn_loop_ghost (fun nn aa ww => ∃ k : Nat, Sl 19 aa [(0, vh), (1, .func (.func 51) #[] #[]), (6, vh), (7, .int .i64 (K.length : Int)), (8, .int .i64 (k : Int))] ∧ St w [] ww ∧ nn = K.length - k ∧ k ≤ K.length ∧ ∀ i, i < k → psh7 (K.getD i zS2) = false) (K.length - (0)) ⟨0, h.only ⟨rfl, rfl, rfl, rfl, slot_int rfl (by omega), trivial⟩, s.as trivial, rfl, Nat.zero_le _, fun i hi => absurd hi (Nat.not_lt_zero _)⟩ ?_))
  rintro _ f w1 ⟨k, h, s, hnn, hp0, hp1⟩
  refine qre hFT9 1 h rfl fun f h => c_seqN (c_cd h rfl (fun hc => ?_) (fun hc => ?_))
  · refine kt (c_seqN (wpIn_block (qre hFT9 2 h rfl fun f h => qr ?_)))
    have hkl : k < K.length := by omega
    refine s_run hFT9 3 h rfl fun f h => s_pure h (ru_ixz (hR.keep s.ext) (k) Tryd.underlying34 szo43 (h.ev rfl) (h.ev rfl) (by omega) (by omega)) rfl fun f h => s_load_at ((hR.keep s.ext).el (k) (by omega) (by decide) (D := seArr (K.getD k zS2).1.1 (K.getD k zS2).1.2.1 (K.getD k zS2).2 (K.getD k zS2).1.2.2) (s2_el K k hkl)) h row43 rfl (seArr_size _ _ _ _) rfl fun f h => s_callV [.agg (seArr (K.getD k zS2).1.1 (K.getD k zS2).1.2.1 (K.getD k zS2).2 (K.getD k zS2).1.2.2)] (caps := []) h s fnc51 rfl (spush_any _ _ _ _ _) rfl rfl ?_; intro f w1 v16 hT hE h s; obtain rfl := hT
    refine nt (c_cond h rfl (fun hc => ?_) (fun hc => ?_))
    · have hc : psh7 (K.getD k zS2) = true := hc
      refine qre hFT9 2 h rfl fun f h => wpIn_ret (b_ret (t_ret (t_ret (b_ret (t_ret (e_tmp rfl h s rfl (⟨_, rfl, ix7_y hkl hc⟩)))))))
    · have hc : psh7 (K.getD k zS2) = false := hc
      refine wpIn_skip (b_norm (t_norm (c_region (s_pure h (ru_add (h.ev rfl) (h.ev rfl) (by omega)) rfl fun f h => e9 hFT9 1 h rfl fun f h => ?_))))
      exact ⟨_, by omega, ⟨k + 1, h.only ⟨rfl, rfl, rfl, rfl, slot_int rfl (by omega), trivial⟩, St.as s trivial, rfl, by omega, qs_next (q := fun j => psh7 (K.getD j zS2)) hp1 hc⟩⟩
  · refine wpIn_exit (t_exit (t_exit (b_exit (t_norm (qre hFT9 1 h rfl fun f h => wpIn_ret (e_tmp rfl h s rfl (⟨_, rfl, ix7_n (fun i hi => hp1 i (by omega))⟩)))))))

theorem scontf_any (K : List S2) (vh : Value) (w : World) (hR : RdZ w vh 139 K.length (seCells K)) (hKl : K.length ≤ 2000) : Calls Tryd.prog 50 [vh, .func (.func 51) #[] #[]].toArray w (Ret w (is (.bool (K.any psh7)))) := by
  refine c_en Tryd.func50 rfl Tryd.ntmps50 rfl fun f h s => qre hFT9 1 h rfl fun f h => qrs hFT9 2 h rfl fun f h => s_call h s fnc72 (sixf_any K vh _ (hR.keep s.ext) hKl) rfl rfl ?_; rintro f w1 v9 ⟨r9, rfl, hr⟩ hE h s
  refine s_as hFT9 (.bool (K.any psh7)) h rfl (congrArg Value.bool hr) rfl fun f h => e9 hFT9 1 h rfl fun f h => wpIn_ret (e_tmp rfl h s rfl (rfl))

/- fld31_1 fld31_2 -/
set_option maxHeartbeats 2000000 in
theorem sadmit_any (sv : Sv) (vt : Value) (fr : Int) (m : Mg) (vs : Value) (now : Int) (w : World) (hT : RdT w vt sv.tb) (htl : sv.tb.length ≤ 1000) (hV : RdE w vs m.l) (hml : m.l.length ≤ 1000) (ha : aboutM m = true) (hn : 0 ≤ now ∧ now ≤ 1099511627776) (h6 : decide (m.k = 6) = false) : Calls Tryd.prog 44 [.agg (svArr sv.no sv.sec vt), .int .i64 fr, .agg (mArr m vs), .int .i64 now].toArray w (Ret w (HdP w vt vs sv.tb m.l ⟨⟨sv.no, sv.sec, putR sv.tb (trgT m now)⟩, [(fr, ackM m, zTg)], putE sv.tb (trgT m now)⟩)) := by
  obtain ⟨q1, q2⟩ := tg_y (tb_y (now := now) ha h6 (decide_eq_false (by omega)) (decide_eq_false (by omega)))
  refine c_en Tryd.func44 rfl Tryd.ntmps44 rfl fun f h s => qr (s_box (svArr sv.no sv.sec vt) h s rfl rfl rfl fun f w1 b4 h s => s_box (mArr m vs) h s rfl rfl rfl fun f w1 b6 h s => s_alloc (svArr 0 ByteArray.empty nilV) h s zero24 rfl rfl fun f w1 b8 h s => e9 hFT9 2 h rfl fun f h => qr (s_load_row 1 h s row31 rfl rfl (mArr_size _ _) rfl fun f h => s_run hFT9 1 h rfl fun f h => s_cv h s fnc62 (ret_val (.tuple #[.agg (tgArr (trgT m now)), .int .i64 0]) (gtrig_any m vs now _ (hV.keep s.ext) hml) (by rw [q1, q2])) rfl rfl fun f w1 h s => s_run hFT9 3 h rfl fun f h => s_alloc (tgArr zTg) h s zero41 rfl rfl fun f w1 b11 h s => s_store_row 0 h s row41 rfl rfl rfl (tgArr_size _) (tgArr_size _) (tgArr_ones _) fun w1 s => e9 hFT9 1 h rfl fun f h => qrs hFT9 1 h rfl fun f h => s_load_at1 (V := vt) (cell_of_has (Has.of_own s 3 rfl) 2 (sv_v _ _ _)) h one22 rfl rfl fun f h => s_load_row 0 h s row41 rfl rfl (tgArr_size _) rfl fun f h => s_call h s fnc63 (tput_any sv.tb vt (trgT m now) _ (hT.keep s.ext) htl) rfl rfl ?_)); rintro f w1 v25 ⟨va, kva, rfl, hG⟩ hE h sq; replace s := s.add hG; clear hG
  have hva1 := rd_one (((s.getG 0 rfl) (hT.keep s.ext)))
  refine e9 hFT9 5 h rfl fun f h => qrs hFT9 2 h rfl fun f h => s_store_one 4 h s one22 rfl rfl rfl (by rw [svArr_size]; omega) (rd_one (((s.getG 0 rfl) (hT.keep s.ext)))) fun w1 s => ?_
  replace s := s.recell (D := svArr sv.no sv.sec va) 4 rfl (rfl)
  refine nt (c_seqN ?_)
  replace s := s.bring 2 rfl
  replace s : St w [.blk b8 (.cells (svArr 0 ByteArray.empty nilV) 24), (.grp kva (fun w9 => RdT w9 vt sv.tb → RdT w9 va (putR sv.tb (trgT m now)))), .blk b11 (.cells (tgArr (trgT m now)) 41), .blk b6 (.cells (mArr m vs) 31), .blk b4 (.cells (svArr sv.no sv.sec va) 24)] _ := s
  refine c_regC 1 [[], [], [], [2], [], [4], [2, 3, 4, 5], [1, 2, 3, 4, 5, 6], [1, 2, 3, 4, 5, 6, 7], [], [0], [0, 1, 2, 3, 4, 5, 6, 7, 8, 10], [0, 1, 2, 3, 4, 5, 6, 7, 8, 9, 10, 11]] [[], [], [], [], [], [], [], [], [], [], [13], [8], []] [[_]] [.v (.agg (svArr sv.no sv.sec va)), .v _, .v _, .v (.agg (idArr m.i)), .v _, .v (.agg (eArr m.t)), .v (.agg (mArr (ackM m) nilV)), .v (.agg (seArr fr (ackM m) nilV zTg)), .m (fun v => [.sl (v 8) 43 139 [(((fr, ackM m, zTg), nilV) : S2)].length (seCells [(((fr, ackM m, zTg), nilV) : S2)])]), .v _, .m (fun v => [.blk b8 (.cells (svArr sv.no sv.sec va) 24)]), .m (fun v => [.sl (v 11) 43 139 [(((fr, ackM m, zTg), nilV) : S2)].length (seCells [(((fr, ackM m, zTg), nilV) : S2)])]), .v _] _ h s rfl (by kernel_rfl) (by kernel_rfl) (by kernel_rfl) (oAI ?_ (oPu hFT9 h rfl rfl rfl (oPu hFT9 h rfl rfl rfl (oAI ?_ (oPu hFT9 h rfl rfl rfl (oAI ?_ (oAI ?_ (oAI ?_ (oAI ?_ (oPu hFT9 h rfl rfl rfl (oAI ?_ (oAI ?_ (oPu hFT9 h rfl rfl rfl (trivial)))))))))))))) [0, 1, 2, 3, 4, 5, 6, 7, 9, 10, 11, 12] (by kernel_rfl) ?_
  · intro f9 w2 vl4 E9 hs9 hd9 hl hF s
    have h := f9h [(4, _)] h hs9 hd9 ⟨oc_o hl 4 (by kernel_rfl) (h.holds 4 _ rfl), trivial⟩
    refine s_load_row 3 h s row24 rfl rfl (svArr_size _ _ _) rfl fun f h => s_nil ⟨_, oc_u 30 h rfl rfl, rfl, s⟩
  · intro f9 w2 vl4 E9 hs9 hd9 hl hF s
    have h := f9h [(32, _)] h hs9 hd9 ⟨oc_g hl 32 2 (by kernel_rfl) (hF 2 (by decide)), trivial⟩
    refine s_load_at (Has.subL (Has.of_own s 2 rfl) 1 32 (D := idArr m.i) (mArr_i _ _)) h row26 rfl (by first | exact idArr_size _ | exact bytesF_size _ _) rfl fun f h => s_nil ⟨_, oc_u 33 h rfl rfl, rfl, s⟩
  · intro f9 w2 vl4 E9 hs9 hd9 hl hF s
    have h := f9h [(34, _)] h hs9 hd9 ⟨oc_g hl 34 4 (by kernel_rfl) (hF 4 (by decide)), trivial⟩
    refine s_load_at (Has.subL (Has.of_own s 2 rfl) 33 34 (D := eArr m.t) (mArr_t _ _)) h row28 rfl (eArr_size _) rfl fun f h => s_nil ⟨_, oc_u 35 h rfl rfl, rfl, s⟩
  · intro f9 w2 vl4 E9 hs9 hd9 hl hF s
    have h := f9h [(33, _), (35, _)] h hs9 hd9 ⟨oc_g hl 33 3 (by kernel_rfl) (hF 3 (by decide)), oc_g hl 35 5 (by kernel_rfl) (hF 5 (by decide)), trivial⟩
    refine s_pure h (ru_build_m012 sttM rfl (h.ev rfl) (h.ev rfl)) rfl fun f h => s_nil ⟨_, oc_u 36 h rfl rfl, rfl, s⟩
  · intro f9 w2 vl4 E9 hs9 hd9 hl hF s
    have h := f9h [(31, _), (36, _)] h hs9 hd9 ⟨oc_g hl 31 1 (by kernel_rfl) (hF 1 (by decide)), oc_g hl 36 6 (by kernel_rfl) (hF 6 (by decide)), trivial⟩
    refine s_pure h (ru_build_se2 sttSe (h.ev rfl) (h.ev rfl)) rfl fun f h => s_nil ⟨_, oc_u 37 h rfl rfl, rfl, s⟩
  · intro f9 w2 vl4 E9 hs9 hd9 hl hF s
    have h := f9h [(37, _)] h hs9 hd9 ⟨oc_g hl 37 7 (by kernel_rfl) (hF 7 (by decide)), trivial⟩
    refine s_bslice (vs := [.agg (seArr fr (ackM m) nilV zTg)]) [.tmp 37] h s Tryd.underlying34 elm43 rfl rfl (s2_sz (((fr, ackM m, zTg), nilV) : S2)) rfl rfl rfl fun f w1 v38 h s => ?_
    replace s := s.resl (m := [(((fr, ackM m, zTg), nilV) : S2)].length) (ys := seCells [(((fr, ackM m, zTg), nilV) : S2)]) 0 rfl rfl (by exact s2_put [] (((fr, ackM m, zTg), nilV) : S2))
    exact s_nil ⟨_, oc_u 38 h rfl rfl, trivial, s⟩
  · intro f9 w2 vl4 E9 hs9 hd9 hl hF s
    have h := f9h [(8, _), (30, _)] h hs9 hd9 ⟨oc_o hl 8 (by kernel_rfl) (h.holds 8 _ rfl), oc_g hl 30 0 (by kernel_rfl) (hF 0 (by decide)), trivial⟩
    refine s_store_row 0 h s row24 rfl rfl rfl (svArr_size _ _ _) (svArr_size _ _ _) (svArr_ones _ _ hva1) fun w1 s => s_nil ⟨undef, oc_none rfl, trivial, s⟩
  · intro f9 w2 vl4 E9 hs9 hd9 hl hF s
    have e38 : f9.tmps.getD 38 undef = (vl4 8) := oc_get hl 38 8 (by kernel_rfl) (by kernel_rfl)
    have h := fin_slot [(38, (vl4 8))] (hs9.trans h.size) (hd9.trans h.defers) (holds_lk ⟨e38, trivial⟩)
    refine s_run hFT9 1 h rfl fun f h => s_nil ⟨_, oc_u 9 h rfl rfl, trivial, s⟩
  intro f w1 vl4 hs9 hd9 hv hr hF s
  replace h := oc_sl (ops := _) [(30, _), (31, _), (32, _), (33, _), (34, _), (35, _), (36, _), (37, _), (38, (vl4 8)), (39, _), (9, (vl4 11)), (10, _)] h hs9 hd9 hr ⟨(hv 0 30 rfl).trans (hF 0 rfl), (hv 1 31 rfl).trans (hF 1 rfl), (hv 2 32 rfl).trans (hF 2 rfl), (hv 3 33 rfl).trans (hF 3 rfl), (hv 4 34 rfl).trans (hF 4 rfl), (hv 5 35 rfl).trans (hF 5 rfl), (hv 6 36 rfl).trans (hF 6 rfl), (hv 7 37 rfl).trans (hF 7 rfl), hv 8 38 rfl, (hv 9 39 rfl).trans (hF 9 rfl), hv 11 9 rfl, (hv 12 10 rfl).trans (hF 12 rfl), trivial⟩ (by kernel_rfl)
  replace s : St w [.blk b8 (.cells (svArr sv.no sv.sec va) 24), .sl (vl4 11) 43 139 [(((fr, ackM m, zTg), nilV) : S2)].length (seCells [(((fr, ackM m, zTg), nilV) : S2)]), (.grp kva (fun w9 => RdT w9 vt sv.tb → RdT w9 va (putR sv.tb (trgT m now)))), .blk b11 (.cells (tgArr (trgT m now)) 41), .blk b6 (.cells (mArr m vs) 31), .blk b4 (.cells (svArr sv.no sv.sec va) 24)] _ := s
  refine t_norm (wpIn_ret ?_)
  exact e_row_tmp2 0 rfl h s row24 rfl rfl (svArr_size _ _ _) rfl rfl (hdp_adm rfl rfl (s.sel [1, 2] rfl (by decide)))

/- fld28_2 fld31_2 -/
set_option maxHeartbeats 4000000 in
theorem sjudge_any (sv : Sv) (vt : Value) (fr : Int) (m : Mg) (vs : Value) (now : Int) (w : World) (hT : RdT w vt sv.tb) (htl : sv.tb.length ≤ 1000) (hV : RdE w vs m.l) (hml : m.l.length ≤ 1000) (ha : aboutM m = true) (hn : 0 ≤ now ∧ now ≤ 1099511627776) (hsz : sv.sec.size ≤ 64) (hH : Tab w 0 (wF hTab 8)) (hK : Tab w 1 (wF kTab 64)) : Calls Tryd.prog 32 [.agg (svArr sv.no sv.sec vt), .int .i64 fr, .agg (mArr m vs), .int .i64 now].toArray w (Ret w (HdP w vt vs sv.tb m.l (jugH sv fr m now))) := by
  obtain ⟨p1, p2, p3⟩ := gd_ok (s := sv.sec) ha hsz
  obtain ⟨hh1, hh2⟩ := host_t (about_t ha).1
  refine c_en Tryd.func32 rfl Tryd.ntmps32 rfl fun f h s => qr (s_box (svArr sv.no sv.sec vt) h s rfl rfl rfl fun f w1 b4 h s => s_box (mArr m vs) h s rfl rfl rfl fun f w1 b6 h s => s_alloc (svArr 0 ByteArray.empty nilV) h s zero24 rfl rfl fun f w1 b8 h s => e9 hFT9 2 h rfl fun f h => qrs hFT9 1 h rfl fun f h => s_load_at1 (V := .string sv.sec) (cell_of_has (Has.of_own s 2 rfl) 1 (sv_s _ _ _)) h one9 rfl rfl fun f h => s_load_row 1 h s row31 rfl rfl (mArr_size _ _) rfl fun f h => s_call h s fnc43 (gjudge_any sv.sec (by omega) m vs _ (hV.keep s.ext) hml (hH.keep s.ext) (hK.keep s.ext)) rfl rfl ?_); rintro f w1 v20 ⟨ua, kua, rfl, hG⟩ hE h sq; replace s := s.add hG; clear hG
  rw [p1, p2, p3] at h
  rw [p3] at s
  have hua1 := rd_one ((s.getG 0 rfl) (hV.keep s.ext))
  refine s_run hFT9 4 h rfl fun f h => s_alloc (mArr mZ nilV) h s zero31 rfl rfl fun f w1 b12 h s => s_run hFT9 1 h rfl fun f h => s_store_row 0 h s row31 rfl rfl rfl (mArr_size _ _) (mArr_size _ _) (mArr_ones _ _ hua1) fun w1 s => e9 hFT9 1 h rfl fun f h => c_seqN (qre hFT9 1 h rfl fun f h => wpIn_block (c_seqN ?_))
  refine c_region (s_ax hFT9 h rfl (fun j1 f h => ?_) (fun j1 f h => ?_))
  · refine e9 hFT9 1 h rfl fun f h => c_cf h rfl (c_seqN ?_)
    refine c_region (s_ax hFT9 h rfl (fun j2 f h => ?_) (fun j2 f h => ?_))
    · refine e9 hFT9 1 h rfl fun f h => c_cf h rfl (c_seqN ?_)
      refine c_region (s_ax hFT9 h rfl (fun j3 f h => ?_) (fun j3 f h => ?_))
      · refine e9 hFT9 1 h rfl fun f h => c_cf h rfl (wpIn_skip (b_norm (t_norm (qr (s_load_row 4 h s row24 rfl rfl (svArr_size _ _ _) rfl fun f h => s_store_row 2 h s row24 rfl rfl rfl (svArr_size _ _ _) (svArr_size _ _ _) (svArr_ones _ _ (rd_one hT)) fun w1 s => e9 hFT9 2 h rfl fun f h => wpIn_ret ?_)))))
        exact e_row_tmp2 2 rfl h s row24 rfl rfl (svArr_size _ _ _) rfl rfl (hdp_none (jug_4 j1 j2 j3) (s.pick _ (List.nil_sublist _)))
      · refine e9 hFT9 1 h rfl fun f h => c_ct h rfl (qrs hFT9 1 h rfl fun f h => s_load_at1 (V := vt) (cell_of_has (Has.of_own s 4 rfl) 2 (sv_v _ _ _)) h one22 rfl rfl fun f h => s_run hFT9 1 h rfl fun f h => s_load_at (Has.subL (Has.of_own s 3 rfl) 1 32 (D := idArr m.i) (mArr_i _ _)) h row26 rfl (by first | exact idArr_size _ | exact bytesF_size _ _) rfl fun f h => s_run hFT9 1 h rfl fun f h => s_load_at (Has.subL (Has.of_own s 3 rfl) 33 34 (D := eArr m.t) (mArr_t _ _)) h row28 rfl (eArr_size _) rfl fun f h => s_call h s fnc45 (tdrop_any sv.tb vt m.i m.t _ (hT.keep s.ext) htl) rfl rfl ?_); rintro f w1 v54 ⟨va, kva, rfl, hG⟩ hE h sq; replace s := s.add hG; clear hG
        have hva1 := rd_one ((s.getG 0 rfl) (hT.keep s.ext))
        refine e9 hFT9 5 h rfl fun f h => qrs hFT9 2 h rfl fun f h => s_store_one 5 h s one22 rfl rfl rfl (by rw [svArr_size]; omega) (rd_one (((s.getG 0 rfl) (hT.keep s.ext)))) fun w1 s => ?_
        replace s := s.recell (D := svArr sv.no sv.sec va) 5 rfl (rfl)
        refine nt (qr (s_load_row 5 h s row24 rfl rfl (svArr_size _ _ _) rfl fun f h => s_run hFT9 1 h rfl fun f h => s_store_row 3 h s row24 rfl rfl rfl (svArr_size _ _ _) (svArr_size _ _ _) (svArr_ones _ _ hva1) fun w1 s => e9 hFT9 2 h rfl fun f h => wpIn_ret (b_ret (t_ret ?_))))
        exact e_row_tmp2 3 rfl h s row24 rfl rfl (svArr_size _ _ _) rfl rfl (hdp_drp (jug_3 j1 j2 j3) (s.sel [0] rfl (by decide)))
    · refine e9 hFT9 1 h rfl fun f h => c_ct h rfl (qr (s_load_row 4 h s row24 rfl rfl (svArr_size _ _ _) rfl fun f h => s_run hFT9 1 h rfl fun f h => s_load_row 3 h s row31 rfl rfl (mArr_size _ _) rfl fun f h => s_run hFT9 1 h rfl fun f h => s_call h s fnc44 (sadmit_any sv vt fr m vs now _ (hT.keep s.ext) htl (hV.keep s.ext) hml ha hn (jd_k6 j2)) rfl rfl ?_)); rintro f w1 v41 ⟨tub, ub, Kub, kub, rfl, hub, hG⟩ hE h sq; replace s := s.add hG; clear hG
      have hub1 := rd_one (((s.getG 0 rfl) (hT.keep s.ext) (hV.keep s.ext)).1)
      refine s_run hFT9 3 h rfl fun f h => s_store_row 3 h s row24 rfl rfl rfl (svArr_size _ _ _) (svArr_size _ _ _) (svArr_ones _ _ hub1) fun w1 s => e9 hFT9 2 h rfl fun f h => wpIn_ret (b_ret (t_ret ?_))
      exact e_row_tmp2 3 rfl h s row24 rfl rfl (svArr_size _ _ _) rfl rfl (by rw [jug_2 j1 j2]; exact ⟨tub, ub, Kub, kub, rfl, hub, s.sel [0] rfl (by decide)⟩)
  · refine e9 hFT9 1 h rfl fun f h => c_ct h rfl (c_seqN ?_)
    replace s := s.bring 2 rfl
    replace s : St w [.blk b8 (.cells (svArr 0 ByteArray.empty nilV) 24), .blk b12 (.cells (mArr (judA sv.sec m) ua) 31), (.grp kua (fun w9 => RdE w9 vs m.l → RdE w9 ua (judA sv.sec m).l)), .blk b6 (.cells (mArr m vs) 31), .blk b4 (.cells (svArr sv.no sv.sec vt) 24)] _ := s
    refine c_regC 1 [[], [], [1], [1, 2], [1, 2, 3], [], [1, 2, 3, 4, 5], [1, 2, 3, 4, 5, 6], [0, 1, 2, 3, 4], [0, 1, 2, 3, 4, 5, 6, 7, 8], [0, 1, 2, 3, 4, 5, 6, 7, 8, 9]] [[], [], [], [], [], [], [], [], [11], [7], []] [[_]] [.v (.agg (svArr sv.no sv.sec vt)), .v _, .v _, .v (.int .i64 m.t.2.2), .v (.int .i64 (16 + m.t.2.2)), .v (.agg (mArr (judA sv.sec m) ua)), .v (.agg (seArr (16 + m.t.2.2) (judA sv.sec m) ua zTg)), .m (fun v => [.sl (v 7) 43 139 [(((16 + m.t.2.2, (judA sv.sec m), zTg), ua) : S2)].length (seCells [(((16 + m.t.2.2, (judA sv.sec m), zTg), ua) : S2)])]), .m (fun v => [.blk b8 (.cells (svArr sv.no sv.sec vt) 24)]), .m (fun v => [.sl (v 9) 43 139 [(((16 + m.t.2.2, (judA sv.sec m), zTg), ua) : S2)].length (seCells [(((16 + m.t.2.2, (judA sv.sec m), zTg), ua) : S2)])]), .v _] _ h s rfl (by kernel_rfl) (by kernel_rfl) (by kernel_rfl) (oAI ?_ (oPu hFT9 h rfl rfl rfl (oPu hFT9 h rfl rfl rfl (oAI ?_ (oAI ?_ (oAI ?_ (oAI ?_ (oAI ?_ (oAI ?_ (oAI ?_ (oPu hFT9 h rfl rfl rfl (trivial)))))))))))) [0, 1, 2, 3, 4, 5, 6, 8, 9, 10] (by kernel_rfl) ?_
    · intro f9 w2 vl4 E9 hs9 hd9 hl hF s
      have h := f9h [(4, _)] h hs9 hd9 ⟨oc_o hl 4 (by kernel_rfl) (h.holds 4 _ rfl), trivial⟩
      refine s_load_row 3 h s row24 rfl rfl (svArr_size _ _ _) rfl fun f h => s_nil ⟨_, oc_u 27 h rfl rfl, rfl, s⟩
    · intro f9 w2 vl4 E9 hs9 hd9 hl hF s
      have h := f9h [(29, _)] h hs9 hd9 ⟨oc_g hl 29 2 (by kernel_rfl) (hF 2 (by decide)), trivial⟩
      refine s_load_at1 (cell_of_has (Has.of_own s 2 rfl) 66 (mArr_th _ _)) h one3 rfl rfl fun f h => s_nil ⟨_, oc_u 30 h rfl rfl, rfl, s⟩
    · intro f9 w2 vl4 E9 hs9 hd9 hl hF s
      have h := f9h [(30, _)] h hs9 hd9 ⟨oc_g hl 30 3 (by kernel_rfl) (hF 3 (by decide)), trivial⟩
      refine s_cv h s fnc16 (shost_any m.t.2.2 _ (by omega)) rfl rfl fun f w1 h s => s_nil ⟨_, oc_u 31 h rfl rfl, rfl, s⟩
    · intro f9 w2 vl4 E9 hs9 hd9 hl hF s
      have h := f9h [(12, _)] h hs9 hd9 ⟨oc_o hl 12 (by kernel_rfl) (h.holds 12 _ rfl), trivial⟩
      refine s_load_row 0 h s row31 rfl rfl (mArr_size _ _) rfl fun f h => s_nil ⟨_, oc_u 32 h rfl rfl, rfl, s⟩
    · intro f9 w2 vl4 E9 hs9 hd9 hl hF s
      have h := f9h [(31, _), (32, _)] h hs9 hd9 ⟨oc_g hl 31 4 (by kernel_rfl) (hF 4 (by decide)), oc_g hl 32 5 (by kernel_rfl) (hF 5 (by decide)), trivial⟩
      refine s_pure h (ru_build_se2 sttSe (h.ev rfl) (h.ev rfl)) rfl fun f h => s_nil ⟨_, oc_u 33 h rfl rfl, rfl, s⟩
    · intro f9 w2 vl4 E9 hs9 hd9 hl hF s
      have h := f9h [(33, _)] h hs9 hd9 ⟨oc_g hl 33 6 (by kernel_rfl) (hF 6 (by decide)), trivial⟩
      refine s_bslice (vs := [.agg (seArr (16 + m.t.2.2) (judA sv.sec m) ua zTg)]) [.tmp 33] h s Tryd.underlying34 elm43 rfl rfl (s2_sz (((16 + m.t.2.2, (judA sv.sec m), zTg), ua) : S2)) rfl rfl rfl fun f w1 v34 h s => ?_
      replace s := s.resl (m := [(((16 + m.t.2.2, (judA sv.sec m), zTg), ua) : S2)].length) (ys := seCells [(((16 + m.t.2.2, (judA sv.sec m), zTg), ua) : S2)]) 0 rfl rfl (by exact s2_put [] (((16 + m.t.2.2, (judA sv.sec m), zTg), ua) : S2))
      exact s_nil ⟨_, oc_u 34 h rfl rfl, trivial, s⟩
    · intro f9 w2 vl4 E9 hs9 hd9 hl hF s
      have h := f9h [(8, _), (27, _)] h hs9 hd9 ⟨oc_o hl 8 (by kernel_rfl) (h.holds 8 _ rfl), oc_g hl 27 0 (by kernel_rfl) (hF 0 (by decide)), trivial⟩
      refine s_store_row 0 h s row24 rfl rfl rfl (svArr_size _ _ _) (svArr_size _ _ _) (svArr_ones _ _ (rd_one hT)) fun w1 s => s_nil ⟨undef, oc_none rfl, trivial, s⟩
    · intro f9 w2 vl4 E9 hs9 hd9 hl hF s
      have e34 : f9.tmps.getD 34 undef = (vl4 7) := oc_get hl 34 7 (by kernel_rfl) (by kernel_rfl)
      have h := fin_slot [(34, (vl4 7))] (hs9.trans h.size) (hd9.trans h.defers) (holds_lk ⟨e34, trivial⟩)
      refine s_run hFT9 1 h rfl fun f h => s_nil ⟨_, oc_u 9 h rfl rfl, trivial, s⟩
    intro f w1 vl4 hs9 hd9 hv hr hF s
    replace h := oc_sl (ops := _) [(27, _), (28, _), (29, _), (30, _), (31, _), (32, _), (33, _), (34, (vl4 7)), (9, (vl4 9)), (10, _)] h hs9 hd9 hr ⟨(hv 0 27 rfl).trans (hF 0 rfl), (hv 1 28 rfl).trans (hF 1 rfl), (hv 2 29 rfl).trans (hF 2 rfl), (hv 3 30 rfl).trans (hF 3 rfl), (hv 4 31 rfl).trans (hF 4 rfl), (hv 5 32 rfl).trans (hF 5 rfl), (hv 6 33 rfl).trans (hF 6 rfl), hv 7 34 rfl, hv 9 9 rfl, (hv 10 10 rfl).trans (hF 10 rfl), trivial⟩ (by kernel_rfl)
    replace s : St w [.blk b8 (.cells (svArr sv.no sv.sec vt) 24), .sl (vl4 9) 43 139 [(((16 + m.t.2.2, (judA sv.sec m), zTg), ua) : S2)].length (seCells [(((16 + m.t.2.2, (judA sv.sec m), zTg), ua) : S2)]), .blk b12 (.cells (mArr (judA sv.sec m) ua) 31), (.grp kua (fun w9 => RdE w9 vs m.l → RdE w9 ua (judA sv.sec m).l)), .blk b6 (.cells (mArr m vs) 31), .blk b4 (.cells (svArr sv.no sv.sec vt) 24)] _ := s
    refine t_norm (wpIn_ret (b_ret (t_ret ?_)))
    exact e_row_tmp2 0 rfl h s row24 rfl rfl (svArr_size _ _ _) rfl rfl (hdp_ask (jug_1 j1) (s.sel [1, 3] rfl (by decide)))

/- fld104_0 fld111_1 fld111_2 fld111_3 -/
set_option maxHeartbeats 8000000 in
theorem ssendon_any (sv : Sv) (vt : Value) (fr : Int) (m : Mg) (vs : Value) (w : World) (hT : RdT w vt sv.tb) (htl : sv.tb.length ≤ 1000) (hV : RdE w vs m.l) (hml : m.l.length ≤ 1000) (hr : rightV sv = true) (hM : rightM m = true) (hk1 : m.k = 1) : Calls Tryd.prog 33 [.agg (svArr sv.no sv.sec vt), .int .i64 fr, .agg (mArr m vs)].toArray w (Ret w (SoP w vs m.l (pckL sv fr m))) := by
  have hpk := pk_right hM hk1
  have hrt := (rightV_iff.1 hr).2.2.2
  obtain ⟨hl1, hfk⟩ := first_kind hpk
  obtain ⟨_, hh1, hh2, _⟩ := rightP_iff.1 hpk
  replace hl1 : 1 ≤ m.l.length := hl1
  obtain ⟨e0, l0⟩ := rwE_ok (t := sv.tb) hpk hrt
  refine c_en Tryd.func33 rfl Tryd.ntmps33 rfl fun f h s => qr (s_box (svArr sv.no sv.sec vt) h s rfl rfl rfl fun f w1 b3 h s => s_box (mArr m vs) h s rfl rfl rfl fun f w1 b5 h s => e9 hFT9 1 h rfl fun f h => qrs hFT9 2 h rfl fun f h => s_load_at1 (V := vs) (cell_of_has (Has.of_own s 0 rfl) 67 (mArr_v _ _)) h one29 rfl rfl fun f h => s_run hFT9 2 h rfl fun f h => s_load_at1 (V := .int .i64 m.n) (cell_of_has (Has.of_own s 0 rfl) 68 (mArr_n _ _)) h one3 rfl rfl fun f h => s_pure h (ru_val (.int .i64 (min m.n 64)) (ru_min (h.ev rfl) (h.ev rfl)) (congrArg (Value.int .i64) (by split <;> omega))) rfl fun f h => s_run hFT9 2 h rfl fun f h => s_load_at1 (V := .string m.d) (cell_of_has (Has.of_own s 0 rfl) 70 (mArr_d _ _)) h one9 rfl rfl fun f h => s_pure h (ru_build_pk3 sttP (rd_size (hV.keep s.ext)) (rd_cells (hV.keep s.ext)) (h.ev rfl) (h.ev rfl) (h.ev rfl)) rfl fun f h => s_alloc (pkArr nilV 0 ByteArray.empty) h s zero104 rfl rfl fun f w1 b7 h s => s_store_row 0 h s row104 rfl rfl rfl (pkArr_size _ _ _) (pkArr_size _ _ _) (pkArr_ones _ _ (rd_one (hV.keep s.ext))) fun w1 s => nt (qrs hFT9 1 h rfl fun f h => s_load_at1 (V := vt) (cell_of_has (Has.of_own s 2 rfl) 2 (sv_v _ _ _)) h one22 rfl rfl fun f h => s_load_row 0 h s row104 rfl rfl (pkArr_size _ _ _) rfl fun f h => s_call h s fnc46 (pstep_any sv.tb vt (pkOf m) vs _ (hT.keep s.ext) htl (hV.keep s.ext) hml) rfl rfl ?_)); rintro f w1 v31 ⟨uo, K, kb, rfl, hKb, hG⟩ hE h sq; replace s := s.add hG; clear hG
  rw [l0] at hKb
  have hKn : K.length ≤ 1000 := by have h9 := (step_len (t := sv.tb) (p := (pkOf m))).2; rw [← hKb, outs_len] at h9; omega
  refine e9 hFT9 5 h rfl fun f h => qr (s_load_row 2 h s row78 rfl rfl (mArr_size _ _) rfl fun f h => s_cv h s fnc47 (sbyp_any m vs _ (hV.keep s.ext) hml hl1) rfl rfl fun f w1 h s => s_run hFT9 3 h rfl fun f h => s_alloc (idArr 0#256) h s zero26 rfl rfl fun f w1 b10 h s => s_store_row 0 h s row26 rfl rfl rfl (by first | exact idArr_size _ | exact bytesF_size _ _) (by first | exact idArr_size _ | exact bytesF_size _ _) (by first | exact idArr_ones _ | exact bytesF_ones _ _) fun w1 s => e9 hFT9 1 h rfl fun f h => qrs hFT9 1 h rfl fun f h => s_cv h s fnc16 (ret_val (.int .i64 16) (shost_any 0 _ (by omega)) (rfl)) rfl rfl fun f w1 h s => s_as hFT9 (.bool (decide (16 ≤ fr))) h rfl (rfl) rfl fun f h => e9 hFT9 1 h rfl fun f h => qre hFT9 1 h rfl fun f h => c_seqN (qrs hFT9 1 h rfl fun f h => s_lz h (((s.getG 1 rfl) (hV.keep s.ext)).1) Tryd.underlying105 rfl rfl fun f h => ?_))
  replace s := s.nilSl 43 139
  refine e9 hFT9 1 h rfl fun f h => wpIn_block (wpIn_loop_ghost (fun nn aa ww => ∃ k : Nat, ∃ ul : Value, ∃ KS : List S2, Sl 115 aa [(0, .agg (svArr sv.no sv.sec vt)), (2, .agg (mArr m vs)), (3, .pointer (some ⟨b3, 0, none⟩)), (5, .pointer (some ⟨b5, 0, none⟩)), (7, .pointer (some ⟨b7, 0, none⟩)), (10, .pointer (some ⟨b10, 0, none⟩)), (1, .int .i64 fr), (11, .bool (decide ((fstE (pkOf m)).1 = 1))), (12, .bool (decide (16 ≤ fr))), (13, ul), (42, uo), (43, .int .i64 (K.length : Int)), (44, .int .i64 (k : Int))] ∧ St w [.sl ul 43 139 KS.length (seCells KS), .blk b10 (.cells (idArr (fstE (pkOf m)).2.1) 26), (.grp kb (fun w9 => RdE w9 vs (pkOf m).1 → RdU w9 uo K)), .blk b7 (.cells (pkArr vs (min m.n 64) m.d) 104), .blk b5 (.cells (mArr m vs) 78), .blk b3 (.cells (svArr sv.no sv.sec vt) 24)] ww ∧ nn = K.length - k ∧ k ≤ K.length ∧ sends KS = sndK fr (pkOf m) ((outs K).take k) ∧ (∀ w9, RwU K w9 → RwS KS w9) ∧ KS.length ≤ k) (K.length - (0)) ⟨0, nilV, [], h.only ⟨rfl, rfl, rfl, rfl, rfl, rfl, rfl, rfl, rfl, rfl, rfl, rfl, slot_int rfl (by omega), trivial⟩, s.as ⟨rfl, rfl, rfl, rfl, rfl, rfl, trivial⟩, rfl, Nat.zero_le _, rfl, fun w9 _ => rwS_nil w9, Nat.le_refl _⟩ ?_)
  rintro _ f w1 ⟨k, ul, KS, h, s, hnn, hp0, hp1, hp2, hp3⟩
  refine qre hFT9 1 h rfl fun f h => c_seqN (c_cd h rfl (fun hc => ?_) (fun hc => ?_))
  · refine kt (c_seqN (wpIn_block (qr ?_)))
    have hkk : k < K.length := by omega
    have hmo : (K.getD k zO2).1 ∈ stepO sv.tb (pkOf m) := by rw [← hKb]; exact List.mem_map.2 ⟨_, ou_mem hkk, rfl⟩
    refine s_pure h (ru_ixz (((s.getG 2 rfl) (hV.keep s.ext)).1) (k) Tryd.underlying105 szo111 (h.ev rfl) (h.ev rfl) (by omega) (by omega)) rfl fun f h => s_load_at ((((s.getG 2 rfl) (hV.keep s.ext)).1).el (k) (by omega) (by decide) (D := otArr (K.getD k zO2).1.k (K.getD k zO2).1.h (K.getD k zO2).2 (K.getD k zO2).1.p.2.1 (K.getD k zO2).1.p.2.2 (K.getD k zO2).1.t (K.getD k zO2).1.y) (ou_el K k hkk)) h row111 rfl (otArr_size _ _ _ _ _ _ _) rfl fun f h => s_alloc (otArr 0 0 nilV 0 ByteArray.empty zTg 0) h s zero111 rfl rfl fun f w1 b15 h s => s_store_row 0 h s row111 rfl rfl rfl (otArr_size _ _ _ _ _ _ _) (otArr_size _ _ _ _ _ _ _) (otArr_ones _ _ _ _ _ _ (rd_one ((((s.getG 3 rfl) (hV.keep s.ext)).2 _ (ou_mem hkk))))) fun w1 s => nt (wpIn_block (c_seqN ?_))
    refine rs hFT9 1 h rfl fun f h => s_load_at1 (V := .int .i64 (K.getD k zO2).1.k) (cell_of_has (Has.of_own s 0 rfl) 0 (ot_k _ _ _ _ _ _ _)) h one3 rfl rfl fun f h => s_ax hFT9 h rfl (fun k1 f h => ?_) (fun k1 f h => ?_)
    · refine e9 hFT9 1 h rfl fun f h => c_cf h rfl (c_seqN ?_)
      refine rs hFT9 1 h rfl fun f h => s_load_at1 (V := .int .i64 (K.getD k zO2).1.k) (cell_of_has (Has.of_own s 0 rfl) 0 (ot_k _ _ _ _ _ _ _)) h one3 rfl rfl fun f h => s_ax hFT9 h rfl (fun k2 f h => ?_) (fun k2 f h => ?_)
      · refine e9 hFT9 1 h rfl fun f h => c_cf h rfl (c_seqN ?_)
        refine rs hFT9 1 h rfl fun f h => s_load_at1 (V := .int .i64 (K.getD k zO2).1.y) (cell_of_has (Has.of_own s 0 rfl) 72 (ot_y _ _ _ _ _ _ _)) h one35 rfl rfl fun f h => s_ax hFT9 h rfl (fun k4 f h => ?_) (fun k4 f h => ?_)
        · refine e9 hFT9 4 h rfl fun f h => c_cf h rfl (wpIn_skip (b_norm (b_norm (t_norm (c_region (s_pure h (ru_add (h.ev rfl) (h.ev rfl) (by omega)) rfl fun f h => ?_))))))
          replace s := s.nilSl 43 139
          refine e9 hFT9 1 h rfl fun f h => ?_
          obtain ⟨hs8, hs9⟩ := so_5 (fr := fr) (p := (pkOf m)) k1 k2 k4
          exact ⟨_, by omega, ⟨k + 1, ul, KS, h.only ⟨rfl, rfl, rfl, rfl, rfl, rfl, rfl, rfl, rfl, rfl, rfl, rfl, slot_int rfl (by omega), trivial⟩, St.as (s.pick _ (List.Sublist.cons _ (List.Sublist.cons _ (List.Sublist.cons_cons _ (List.Sublist.cons_cons _ (List.Sublist.cons_cons _ (List.Sublist.cons_cons _ (List.Sublist.cons_cons _ (List.Sublist.cons_cons _ (List.nil_sublist _)))))))))) ⟨rfl, rfl, rfl, rfl, rfl, rfl, trivial⟩, rfl, by omega, sn_none hkk hp1 hs8, hp2, Nat.le_succ_of_le hp3⟩⟩
        · skip
          refine s_run hFT9 1 h rfl fun f h => s_o h rfl (s_ax hFT9 h rfl (fun k5 f h => ?_) (fun k5 f h => ?_))
          · refine e9 hFT9 2 h rfl fun f h => c_cf h rfl (wpIn_skip (b_norm (b_norm (t_norm (c_region (s_pure h (ru_add (h.ev rfl) (h.ev rfl) (by omega)) rfl fun f h => ?_))))))
            replace s := s.nilSl 43 139
            refine e9 hFT9 1 h rfl fun f h => ?_
            obtain ⟨hs8, hs9⟩ := so_6 (fr := fr) (p := (pkOf m)) k1 k2 k5
            exact ⟨_, by omega, ⟨k + 1, ul, KS, h.only ⟨rfl, rfl, rfl, rfl, rfl, rfl, rfl, rfl, rfl, rfl, rfl, rfl, slot_int rfl (by omega), trivial⟩, St.as (s.pick _ (List.Sublist.cons _ (List.Sublist.cons _ (List.Sublist.cons_cons _ (List.Sublist.cons_cons _ (List.Sublist.cons_cons _ (List.Sublist.cons_cons _ (List.Sublist.cons_cons _ (List.Sublist.cons_cons _ (List.nil_sublist _)))))))))) ⟨rfl, rfl, rfl, rfl, rfl, rfl, trivial⟩, rfl, by omega, sn_none hkk hp1 hs8, hp2, Nat.le_succ_of_le hp3⟩⟩
          · refine e9 hFT9 2 h rfl fun f h => c_ct h rfl (c_region ?_)
            have hon9 : ∀ u ∈ seCells [(((fr, (pushG (fstI (pkOf m))), zTg), nilV) : S2)], u.oneCell' = true := s2_ones (se_on (re_nil9 w rfl rfl))
            refine s_run hFT9 2 h rfl fun f h => s_load_row 2 h s row26 rfl rfl (by first | exact idArr_size _ | exact bytesF_size _ _) rfl fun f h => s_pure h (ru_build_m01 sttM rfl (h.ev rfl)) rfl fun f h => s_pure h (ru_build_se2 sttSe (h.ev rfl) (h.ev rfl)) rfl fun f h => s_bslice (vs := [.agg (seArr fr (pushG (fstI (pkOf m))) nilV zTg)]) [.tmp 92] h s Tryd.underlying34 elm43 rfl rfl (s2_sz (((fr, (pushG (fstI (pkOf m))), zTg), nilV) : S2)) rfl rfl rfl fun f w1 v93 h s => ?_
            replace s := s.resl (m := [(((fr, (pushG (fstI (pkOf m))), zTg), nilV) : S2)].length) (ys := seCells [(((fr, (pushG (fstI (pkOf m))), zTg), nilV) : S2)]) 0 rfl rfl (by exact s2_put [] (((fr, (pushG (fstI (pkOf m))), zTg), nilV) : S2))
            refine s_append 2 0 h s Tryd.underlying34 elm43 rfl rfl rfl rfl (Nat.le_refl _) (hon9) (by show KS.length + 1 ≤ _; unfold maxLen; omega) (by show (KS.length + 1) * _ ≤ _; omega) rfl fun f w1 v94 h s => ?_
            replace s := s.pick _ (List.sublist_cons_self _ _)
            replace s := s.resl (m := (KS ++ [(((fr, (pushG (fstI (pkOf m))), zTg), nilV) : S2)]).length) (ys := seCells (KS ++ [(((fr, (pushG (fstI (pkOf m))), zTg), nilV) : S2)])) 1 rfl (List.length_append ..).symm (seCells_app ..).symm
            refine s_run hFT9 1 h rfl fun f h => s_nil (b_norm (b_norm (t_norm (c_region (s_pure h (ru_add (h.ev rfl) (h.ev rfl) (by omega)) rfl fun f h => ?_)))))
            replace s := s.nilSl 43 139
            refine e9 hFT9 1 h rfl fun f h => ?_
            obtain ⟨hs8, hs9⟩ := so_4 (fr := fr) (p := (pkOf m)) k1 k2 (by have := step_kind hmo; have := of_decide_eq_false k1; have := of_decide_eq_false k2; omega) k4 k5
            exact ⟨_, by omega, ⟨k + 1, v94, (KS ++ [(((fr, (pushG (fstI (pkOf m))), zTg), nilV) : S2)]), h.only ⟨rfl, rfl, rfl, rfl, rfl, rfl, rfl, rfl, rfl, rfl, rfl, rfl, slot_int rfl (by omega), trivial⟩, St.as (s.pick _ (List.Sublist.cons _ (List.Sublist.cons _ (List.Sublist.cons_cons _ (List.Sublist.cons_cons _ (List.Sublist.cons_cons _ (List.Sublist.cons_cons _ (List.Sublist.cons_cons _ (List.Sublist.cons_cons _ (List.nil_sublist _)))))))))) ⟨rfl, rfl, rfl, rfl, rfl, rfl, trivial⟩, rfl, by omega, sn_put hkk hp1 hs8, snd_add hp2 (fun w9 h9 => re_nil9 w9 rfl rfl), len_snoc hp3⟩⟩
      · refine e9 hFT9 1 h rfl fun f h => c_ct h rfl ?_
        have hx := step_on hpk hrt hmo (of_decide_eq_true k2)
        have hx1 := (first_kind hx.1).1
        have hon9 : ∀ u ∈ seCells [((((towM (fstE (K.getD k zO2).1.p)), (dataM (K.getD k zO2).1.p), (K.getD k zO2).1.t), (K.getD k zO2).2) : S2)], u.oneCell' = true := s2_ones (se_on (((s.getG 3 rfl) (hV.keep s.ext)).2 _ (ou_mem hkk)))
        replace s := s.bring 1 rfl
        replace s : St w [.sl ul 43 139 KS.length (seCells KS), .blk b15 (.cells (otArr (K.getD k zO2).1.k (K.getD k zO2).1.h (K.getD k zO2).2 (K.getD k zO2).1.p.2.1 (K.getD k zO2).1.p.2.2 (K.getD k zO2).1.t (K.getD k zO2).1.y) 111), .blk b10 (.cells (idArr (fstE (pkOf m)).2.1) 26), (.grp kb (fun w9 => RdE w9 vs (pkOf m).1 → RdU w9 uo K)), .blk b7 (.cells (pkArr vs (min m.n 64) m.d) 104), .blk b5 (.cells (mArr m vs) 78), .blk b3 (.cells (svArr sv.no sv.sec vt) 24)] _ := s
        refine c_regC 1 [[], [], [1], [1, 2], [1, 2, 3], [1, 2, 3, 4], [1, 2, 3, 4, 5], [], [7], [1, 2, 3, 4, 5, 6, 7, 8], [], [10], [1, 2, 3, 4, 5, 6, 7, 8, 9, 10, 11], [1, 2, 3, 4, 5, 6, 7, 8, 9, 10, 11, 12], [0, 1, 2, 3, 4, 5, 6, 7, 8, 9, 10, 11, 12, 13], [0, 1, 2, 3, 4, 5, 6, 7, 8, 9, 10, 11, 12, 13, 14]] [[16], [], [], [], [], [], [], [], [], [], [], [], [], [], [0, 13], [14]] [[_]] [.m (fun v => [.sl (v 0) 43 139 KS.length (seCells KS)]), .v _, .v _, .v ((K.getD k zO2).2), .v (.pointer (some (elAddr (K.getD k zO2).2 (0 * 34)))), .v (.agg (eArr (fstE (K.getD k zO2).1.p))), .v (.int .i64 (towM (fstE (K.getD k zO2).1.p))), .v _, .v (.agg (pkArr (K.getD k zO2).2 (K.getD k zO2).1.p.2.1 (K.getD k zO2).1.p.2.2)), .v (.agg (mArr (dataM (K.getD k zO2).1.p) (K.getD k zO2).2)), .v _, .v (.agg (tgArr (K.getD k zO2).1.t)), .v (.agg (seArr (towM (fstE (K.getD k zO2).1.p)) (dataM (K.getD k zO2).1.p) (K.getD k zO2).2 (K.getD k zO2).1.t)), .m (fun v => [.sl (v 13) 43 139 [((((towM (fstE (K.getD k zO2).1.p)), (dataM (K.getD k zO2).1.p), (K.getD k zO2).1.t), (K.getD k zO2).2) : S2)].length (seCells [((((towM (fstE (K.getD k zO2).1.p)), (dataM (K.getD k zO2).1.p), (K.getD k zO2).1.t), (K.getD k zO2).2) : S2)])]), .m (fun v => [.sl (v 14) 43 139 (KS ++ [((((towM (fstE (K.getD k zO2).1.p)), (dataM (K.getD k zO2).1.p), (K.getD k zO2).1.t), (K.getD k zO2).2) : S2)]).length (seCells (KS ++ [((((towM (fstE (K.getD k zO2).1.p)), (dataM (K.getD k zO2).1.p), (K.getD k zO2).1.t), (K.getD k zO2).2) : S2)]))]), .m (fun v => [.sl (v 15) 43 139 (KS ++ [((((towM (fstE (K.getD k zO2).1.p)), (dataM (K.getD k zO2).1.p), (K.getD k zO2).1.t), (K.getD k zO2).2) : S2)]).length (seCells (KS ++ [((((towM (fstE (K.getD k zO2).1.p)), (dataM (K.getD k zO2).1.p), (K.getD k zO2).1.t), (K.getD k zO2).2) : S2)]))])] _ h s rfl (by kernel_rfl) (by kernel_rfl) (by kernel_rfl) (oAI ?_ (oPu hFT9 h rfl rfl rfl (oPu hFT9 h rfl rfl rfl (oAI ?_ (oAI ?_ (oAI ?_ (oAI ?_ (oPu hFT9 h rfl rfl rfl (oAI ?_ (oAI ?_ (oPu hFT9 h rfl rfl rfl (oAI ?_ (oAI ?_ (oAI ?_ (oAI ?_ (oAI ?_ (trivial))))))))))))))))) [1, 2, 3, 4, 5, 6, 7, 8, 9, 10, 11, 12, 15] (by kernel_rfl) ?_
        · intro f9 w2 vl12 E9 hs9 hd9 hl hF s
          have h := f9h [(13, _)] h hs9 hd9 ⟨oc_o hl 13 (by kernel_rfl) (h.holds 13 _ rfl), trivial⟩
          refine s_run hFT9 1 h rfl fun f h => s_nil ⟨_, oc_u 66 h rfl rfl, trivial, s⟩
        · intro f9 w2 vl12 E9 hs9 hd9 hl hF s
          have h := f9h [(68, _)] h hs9 hd9 ⟨oc_g hl 68 2 (by kernel_rfl) (hF 2 (by decide)), trivial⟩
          refine s_load_at1 (V := (K.getD k zO2).2) (cell_of_has (Has.of_own s 0 rfl) 2 (ot_v _ _ _ _ _ _ _)) h one29 rfl rfl fun f h => s_nil ⟨_, oc_u 69 h rfl rfl, rfl, s⟩
        · intro f9 w2 vl12 E9 hs9 hd9 hl hF s
          have h := f9h [(69, _)] h hs9 hd9 ⟨oc_g hl 69 3 (by kernel_rfl) (hF 3 (by decide)), trivial⟩
          refine s_pure h (ru_ixz ((((s.getG 2 rfl) (hV.keep s.ext)).2 _ (ou_mem hkk))) (0) Tryd.underlying29 szo28 (h.ev rfl) (h.ev rfl) (rfl) (by omega)) rfl fun f h => s_nil ⟨_, oc_u 70 h rfl rfl, rfl, s⟩
        · intro f9 w2 vl12 E9 hs9 hd9 hl hF s
          have h := f9h [(70, _)] h hs9 hd9 ⟨oc_g hl 70 4 (by kernel_rfl) (hF 4 (by decide)), trivial⟩
          refine s_load_at (((((s.getG 2 rfl) (hV.keep s.ext)).2 _ (ou_mem hkk))).el (0) (by omega) (by decide) (D := eArr (fstE (K.getD k zO2).1.p)) (e_elD (K.getD k zO2).1.p.1 0 (by omega))) h row28 rfl (eArr_size _) rfl fun f h => s_nil ⟨_, oc_u 71 h rfl rfl, rfl, s⟩
        · intro f9 w2 vl12 E9 hs9 hd9 hl hF s
          have h := f9h [(71, _)] h hs9 hd9 ⟨oc_g hl 71 5 (by kernel_rfl) (hF 5 (by decide)), trivial⟩
          refine s_cv h s fnc49 (stow_any (fstE (K.getD k zO2).1.p) _ (fun e2 => first_host hx.1 e2)) rfl rfl fun f w1 h s => s_nil ⟨_, oc_u 72 h rfl rfl, rfl, s⟩
        · intro f9 w2 vl12 E9 hs9 hd9 hl hF s
          have h := f9h [(73, _)] h hs9 hd9 ⟨oc_g hl 73 7 (by kernel_rfl) (hF 7 (by decide)), trivial⟩
          refine s_load_at (Has.subL (Has.of_own s 0 rfl) 2 3 (D := pkArr (K.getD k zO2).2 (K.getD k zO2).1.p.2.1 (K.getD k zO2).1.p.2.2) (ot_p _ _ _ _ _ _ _)) h row104 rfl (pkArr_size _ _ _) rfl fun f h => s_nil ⟨_, oc_u 74 h rfl rfl, rfl, s⟩
        · intro f9 w2 vl12 E9 hs9 hd9 hl hF s
          have h := f9h [(74, _)] h hs9 hd9 ⟨oc_g hl 74 8 (by kernel_rfl) (hF 8 (by decide)), trivial⟩
          refine s_cv h s fnc48 (sdata_any (K.getD k zO2).1.p (K.getD k zO2).2 _ (((s.getG 2 rfl) (hV.keep s.ext)).2 _ (ou_mem hkk))) rfl rfl fun f w1 h s => s_nil ⟨_, oc_u 75 h rfl rfl, rfl, s⟩
        · intro f9 w2 vl12 E9 hs9 hd9 hl hF s
          have h := f9h [(76, _)] h hs9 hd9 ⟨oc_g hl 76 10 (by kernel_rfl) (hF 10 (by decide)), trivial⟩
          refine s_load_at (Has.subL (Has.of_own s 0 rfl) 5 67 (D := tgArr (K.getD k zO2).1.t) (ot_t _ _ _ _ _ _ _)) h row41 rfl (tgArr_size _) rfl fun f h => s_nil ⟨_, oc_u 77 h rfl rfl, rfl, s⟩
        · intro f9 w2 vl12 E9 hs9 hd9 hl hF s
          have h := f9h [(72, _), (75, _), (77, _)] h hs9 hd9 ⟨oc_g hl 72 6 (by kernel_rfl) (hF 6 (by decide)), oc_g hl 75 9 (by kernel_rfl) (hF 9 (by decide)), oc_g hl 77 11 (by kernel_rfl) (hF 11 (by decide)), trivial⟩
          refine s_pure h (ru_build_se sttSe (h.ev rfl) (h.ev rfl) (h.ev rfl)) rfl fun f h => s_nil ⟨_, oc_u 78 h rfl rfl, rfl, s⟩
        · intro f9 w2 vl12 E9 hs9 hd9 hl hF s
          have h := f9h [(78, _)] h hs9 hd9 ⟨oc_g hl 78 12 (by kernel_rfl) (hF 12 (by decide)), trivial⟩
          refine s_bslice (vs := [.agg (seArr (towM (fstE (K.getD k zO2).1.p)) (dataM (K.getD k zO2).1.p) (K.getD k zO2).2 (K.getD k zO2).1.t)]) [.tmp 78] h s Tryd.underlying34 elm43 rfl rfl (s2_sz ((((towM (fstE (K.getD k zO2).1.p)), (dataM (K.getD k zO2).1.p), (K.getD k zO2).1.t), (K.getD k zO2).2) : S2)) rfl rfl rfl fun f w1 v79 h s => ?_
          replace s := s.resl (m := [((((towM (fstE (K.getD k zO2).1.p)), (dataM (K.getD k zO2).1.p), (K.getD k zO2).1.t), (K.getD k zO2).2) : S2)].length) (ys := seCells [((((towM (fstE (K.getD k zO2).1.p)), (dataM (K.getD k zO2).1.p), (K.getD k zO2).1.t), (K.getD k zO2).2) : S2)]) 0 rfl rfl (by exact s2_put [] ((((towM (fstE (K.getD k zO2).1.p)), (dataM (K.getD k zO2).1.p), (K.getD k zO2).1.t), (K.getD k zO2).2) : S2))
          exact s_nil ⟨_, oc_u 79 h rfl rfl, trivial, s⟩
        · intro f9 w2 vl12 E9 hs9 hd9 hl hF s
          have e66 : f9.tmps.getD 66 undef = (vl12 0) := oc_get hl 66 0 (by kernel_rfl) (by kernel_rfl)
          have e79 : f9.tmps.getD 79 undef = (vl12 13) := oc_get hl 79 13 (by kernel_rfl) (by kernel_rfl)
          have h := fin_slot [(66, (vl12 0)), (79, (vl12 13))] (hs9.trans h.size) (hd9.trans h.defers) (holds_lk ⟨e66, e79, trivial⟩)
          refine s_append 0 1 h s Tryd.underlying34 elm43 rfl rfl rfl rfl (Nat.le_refl _) (hon9) (by show KS.length + 1 ≤ _; unfold maxLen; omega) (by show (KS.length + 1) * _ ≤ _; omega) rfl fun f w1 v80 h s => ?_
          replace s := s.resl (m := (KS ++ [((((towM (fstE (K.getD k zO2).1.p)), (dataM (K.getD k zO2).1.p), (K.getD k zO2).1.t), (K.getD k zO2).2) : S2)]).length) (ys := seCells (KS ++ [((((towM (fstE (K.getD k zO2).1.p)), (dataM (K.getD k zO2).1.p), (K.getD k zO2).1.t), (K.getD k zO2).2) : S2)])) 0 rfl (List.length_append ..).symm (seCells_app ..).symm
          exact s_nil ⟨_, oc_u 80 h rfl rfl, trivial, (s.pick _ (List.Sublist.cons_cons _ (List.Sublist.cons _ (List.Sublist.cons_cons _ (List.Sublist.cons_cons _ (List.Sublist.cons_cons _ (List.Sublist.cons_cons _ (List.Sublist.cons_cons _ (List.Sublist.cons_cons _ (List.Sublist.refl _))))))))))⟩
        · intro f9 w2 vl12 E9 hs9 hd9 hl hF s
          have e80 : f9.tmps.getD 80 undef = (vl12 14) := oc_get hl 80 14 (by kernel_rfl) (by kernel_rfl)
          have h := fin_slot [(80, (vl12 14))] (hs9.trans h.size) (hd9.trans h.defers) (holds_lk ⟨e80, trivial⟩)
          refine s_run hFT9 1 h rfl fun f h => s_nil ⟨_, oc_u 13 h rfl rfl, trivial, s⟩
        intro f w1 vl12 hs9 hd9 hv hr hF s
        replace h := oc_sl (ops := _) [(66, (vl12 0)), (67, _), (68, _), (69, _), (70, _), (71, _), (72, _), (73, _), (74, _), (75, _), (76, _), (77, _), (78, _), (79, (vl12 13)), (80, (vl12 14)), (13, (vl12 15))] h hs9 hd9 hr ⟨hv 0 66 rfl, (hv 1 67 rfl).trans (hF 1 rfl), (hv 2 68 rfl).trans (hF 2 rfl), (hv 3 69 rfl).trans (hF 3 rfl), (hv 4 70 rfl).trans (hF 4 rfl), (hv 5 71 rfl).trans (hF 5 rfl), (hv 6 72 rfl).trans (hF 6 rfl), (hv 7 73 rfl).trans (hF 7 rfl), (hv 8 74 rfl).trans (hF 8 rfl), (hv 9 75 rfl).trans (hF 9 rfl), (hv 10 76 rfl).trans (hF 10 rfl), (hv 11 77 rfl).trans (hF 11 rfl), (hv 12 78 rfl).trans (hF 12 rfl), hv 13 79 rfl, hv 14 80 rfl, hv 15 13 rfl, trivial⟩ (by kernel_rfl)
        replace s : St w [.sl (vl12 15) 43 139 (KS ++ [((((towM (fstE (K.getD k zO2).1.p)), (dataM (K.getD k zO2).1.p), (K.getD k zO2).1.t), (K.getD k zO2).2) : S2)]).length (seCells (KS ++ [((((towM (fstE (K.getD k zO2).1.p)), (dataM (K.getD k zO2).1.p), (K.getD k zO2).1.t), (K.getD k zO2).2) : S2)])), .blk b15 (.cells (otArr (K.getD k zO2).1.k (K.getD k zO2).1.h (K.getD k zO2).2 (K.getD k zO2).1.p.2.1 (K.getD k zO2).1.p.2.2 (K.getD k zO2).1.t (K.getD k zO2).1.y) 111), .blk b10 (.cells (idArr (fstE (pkOf m)).2.1) 26), (.grp kb (fun w9 => RdE w9 vs (pkOf m).1 → RdU w9 uo K)), .blk b7 (.cells (pkArr vs (min m.n 64) m.d) 104), .blk b5 (.cells (mArr m vs) 78), .blk b3 (.cells (svArr sv.no sv.sec vt) 24)] _ := s
        refine b_norm (b_norm (t_norm (c_region (s_pure h (ru_add (h.ev rfl) (h.ev rfl) (by omega)) rfl fun f h => ?_))))
        replace s := s.nilSl 43 139
        refine e9 hFT9 1 h rfl fun f h => ?_
        obtain ⟨hs8, hs9⟩ := so_t (fr := fr) (p := (pkOf m)) k1 k2
        exact ⟨_, by omega, ⟨k + 1, (vl12 15), (KS ++ [((((towM (fstE (K.getD k zO2).1.p)), (dataM (K.getD k zO2).1.p), (K.getD k zO2).1.t), (K.getD k zO2).2) : S2)]), h.only ⟨rfl, rfl, rfl, rfl, rfl, rfl, rfl, rfl, rfl, rfl, rfl, rfl, slot_int rfl (by omega), trivial⟩, St.as (s.pick _ (List.Sublist.cons _ (List.Sublist.cons_cons _ (List.Sublist.cons _ (List.Sublist.cons_cons _ (List.Sublist.cons_cons _ (List.Sublist.cons_cons _ (List.Sublist.cons_cons _ (List.Sublist.cons_cons _ (List.nil_sublist _)))))))))) ⟨rfl, rfl, rfl, rfl, rfl, rfl, trivial⟩, rfl, by omega, sn_put hkk hp1 hs8, snd_add hp2 (fun w9 h9 => h9 _ (ou_mem hkk)), len_snoc hp3⟩⟩
    · refine e9 hFT9 1 h rfl fun f h => c_ct h rfl ?_
      have hon9 : ∀ u ∈ seCells [((((16 + (K.getD k zO2).1.h), (dataM (K.getD k zO2).1.p), zTg), (K.getD k zO2).2) : S2)], u.oneCell' = true := s2_ones (se_on (((s.getG 3 rfl) (hV.keep s.ext)).2 _ (ou_mem hkk)))
      replace s := s.bring 1 rfl
      replace s : St w [.sl ul 43 139 KS.length (seCells KS), .blk b15 (.cells (otArr (K.getD k zO2).1.k (K.getD k zO2).1.h (K.getD k zO2).2 (K.getD k zO2).1.p.2.1 (K.getD k zO2).1.p.2.2 (K.getD k zO2).1.t (K.getD k zO2).1.y) 111), .blk b10 (.cells (idArr (fstE (pkOf m)).2.1) 26), (.grp kb (fun w9 => RdE w9 vs (pkOf m).1 → RdU w9 uo K)), .blk b7 (.cells (pkArr vs (min m.n 64) m.d) 104), .blk b5 (.cells (mArr m vs) 78), .blk b3 (.cells (svArr sv.no sv.sec vt) 24)] _ := s
      refine c_regC 1 [[], [], [1], [1, 2], [], [4], [1, 2, 3, 4, 5], [1, 2, 3, 4, 5, 6], [1, 2, 3, 4, 5, 6, 7], [0, 1, 2, 3, 4, 5, 6, 7, 8], [0, 1, 2, 3, 4, 5, 6, 7, 8, 9]] [[11], [], [], [], [], [], [], [], [], [0, 8], [9]] [[_]] [.m (fun v => [.sl (v 0) 43 139 KS.length (seCells KS)]), .v _, .v (.int .i64 (K.getD k zO2).1.h), .v (.int .i64 (16 + (K.getD k zO2).1.h)), .v _, .v (.agg (pkArr (K.getD k zO2).2 (K.getD k zO2).1.p.2.1 (K.getD k zO2).1.p.2.2)), .v (.agg (mArr (dataM (K.getD k zO2).1.p) (K.getD k zO2).2)), .v (.agg (seArr (16 + (K.getD k zO2).1.h) (dataM (K.getD k zO2).1.p) (K.getD k zO2).2 zTg)), .m (fun v => [.sl (v 8) 43 139 [((((16 + (K.getD k zO2).1.h), (dataM (K.getD k zO2).1.p), zTg), (K.getD k zO2).2) : S2)].length (seCells [((((16 + (K.getD k zO2).1.h), (dataM (K.getD k zO2).1.p), zTg), (K.getD k zO2).2) : S2)])]), .m (fun v => [.sl (v 9) 43 139 (KS ++ [((((16 + (K.getD k zO2).1.h), (dataM (K.getD k zO2).1.p), zTg), (K.getD k zO2).2) : S2)]).length (seCells (KS ++ [((((16 + (K.getD k zO2).1.h), (dataM (K.getD k zO2).1.p), zTg), (K.getD k zO2).2) : S2)]))]), .m (fun v => [.sl (v 10) 43 139 (KS ++ [((((16 + (K.getD k zO2).1.h), (dataM (K.getD k zO2).1.p), zTg), (K.getD k zO2).2) : S2)]).length (seCells (KS ++ [((((16 + (K.getD k zO2).1.h), (dataM (K.getD k zO2).1.p), zTg), (K.getD k zO2).2) : S2)]))])] _ h s rfl (by kernel_rfl) (by kernel_rfl) (by kernel_rfl) (oAI ?_ (oPu hFT9 h rfl rfl rfl (oAI ?_ (oAI ?_ (oPu hFT9 h rfl rfl rfl (oAI ?_ (oAI ?_ (oAI ?_ (oAI ?_ (oAI ?_ (oAI ?_ (trivial)))))))))))) [1, 2, 3, 4, 5, 6, 7, 10] (by kernel_rfl) ?_
      · intro f9 w2 vl10 E9 hs9 hd9 hl hF s
        have h := f9h [(13, _)] h hs9 hd9 ⟨oc_o hl 13 (by kernel_rfl) (h.holds 13 _ rfl), trivial⟩
        refine s_run hFT9 1 h rfl fun f h => s_nil ⟨_, oc_u 52 h rfl rfl, trivial, s⟩
      · intro f9 w2 vl10 E9 hs9 hd9 hl hF s
        have h := f9h [(53, _)] h hs9 hd9 ⟨oc_g hl 53 1 (by kernel_rfl) (hF 1 (by decide)), trivial⟩
        refine s_load_at1 (V := .int .i64 (K.getD k zO2).1.h) (cell_of_has (Has.of_own s 0 rfl) 1 (ot_h _ _ _ _ _ _ _)) h one3 rfl rfl fun f h => s_nil ⟨_, oc_u 54 h rfl rfl, rfl, s⟩
      · intro f9 w2 vl10 E9 hs9 hd9 hl hF s
        have h := f9h [(54, _)] h hs9 hd9 ⟨oc_g hl 54 2 (by kernel_rfl) (hF 2 (by decide)), trivial⟩
        refine s_cv h s fnc16 (shost_any (K.getD k zO2).1.h _ (by have := step_hostB hpk hmo (of_decide_eq_true k1); omega)) rfl rfl fun f w1 h s => s_nil ⟨_, oc_u 55 h rfl rfl, rfl, s⟩
      · intro f9 w2 vl10 E9 hs9 hd9 hl hF s
        have h := f9h [(56, _)] h hs9 hd9 ⟨oc_g hl 56 4 (by kernel_rfl) (hF 4 (by decide)), trivial⟩
        refine s_load_at (Has.subL (Has.of_own s 0 rfl) 2 3 (D := pkArr (K.getD k zO2).2 (K.getD k zO2).1.p.2.1 (K.getD k zO2).1.p.2.2) (ot_p _ _ _ _ _ _ _)) h row104 rfl (pkArr_size _ _ _) rfl fun f h => s_nil ⟨_, oc_u 57 h rfl rfl, rfl, s⟩
      · intro f9 w2 vl10 E9 hs9 hd9 hl hF s
        have h := f9h [(57, _)] h hs9 hd9 ⟨oc_g hl 57 5 (by kernel_rfl) (hF 5 (by decide)), trivial⟩
        refine s_cv h s fnc48 (sdata_any (K.getD k zO2).1.p (K.getD k zO2).2 _ (((s.getG 2 rfl) (hV.keep s.ext)).2 _ (ou_mem hkk))) rfl rfl fun f w1 h s => s_nil ⟨_, oc_u 58 h rfl rfl, rfl, s⟩
      · intro f9 w2 vl10 E9 hs9 hd9 hl hF s
        have h := f9h [(55, _), (58, _)] h hs9 hd9 ⟨oc_g hl 55 3 (by kernel_rfl) (hF 3 (by decide)), oc_g hl 58 6 (by kernel_rfl) (hF 6 (by decide)), trivial⟩
        refine s_pure h (ru_build_se2 sttSe (h.ev rfl) (h.ev rfl)) rfl fun f h => s_nil ⟨_, oc_u 59 h rfl rfl, rfl, s⟩
      · intro f9 w2 vl10 E9 hs9 hd9 hl hF s
        have h := f9h [(59, _)] h hs9 hd9 ⟨oc_g hl 59 7 (by kernel_rfl) (hF 7 (by decide)), trivial⟩
        refine s_bslice (vs := [.agg (seArr (16 + (K.getD k zO2).1.h) (dataM (K.getD k zO2).1.p) (K.getD k zO2).2 zTg)]) [.tmp 59] h s Tryd.underlying34 elm43 rfl rfl (s2_sz ((((16 + (K.getD k zO2).1.h), (dataM (K.getD k zO2).1.p), zTg), (K.getD k zO2).2) : S2)) rfl rfl rfl fun f w1 v60 h s => ?_
        replace s := s.resl (m := [((((16 + (K.getD k zO2).1.h), (dataM (K.getD k zO2).1.p), zTg), (K.getD k zO2).2) : S2)].length) (ys := seCells [((((16 + (K.getD k zO2).1.h), (dataM (K.getD k zO2).1.p), zTg), (K.getD k zO2).2) : S2)]) 0 rfl rfl (by exact s2_put [] ((((16 + (K.getD k zO2).1.h), (dataM (K.getD k zO2).1.p), zTg), (K.getD k zO2).2) : S2))
        exact s_nil ⟨_, oc_u 60 h rfl rfl, trivial, s⟩
      · intro f9 w2 vl10 E9 hs9 hd9 hl hF s
        have e52 : f9.tmps.getD 52 undef = (vl10 0) := oc_get hl 52 0 (by kernel_rfl) (by kernel_rfl)
        have e60 : f9.tmps.getD 60 undef = (vl10 8) := oc_get hl 60 8 (by kernel_rfl) (by kernel_rfl)
        have h := fin_slot [(52, (vl10 0)), (60, (vl10 8))] (hs9.trans h.size) (hd9.trans h.defers) (holds_lk ⟨e52, e60, trivial⟩)
        refine s_append 0 1 h s Tryd.underlying34 elm43 rfl rfl rfl rfl (Nat.le_refl _) (hon9) (by show KS.length + 1 ≤ _; unfold maxLen; omega) (by show (KS.length + 1) * _ ≤ _; omega) rfl fun f w1 v61 h s => ?_
        replace s := s.resl (m := (KS ++ [((((16 + (K.getD k zO2).1.h), (dataM (K.getD k zO2).1.p), zTg), (K.getD k zO2).2) : S2)]).length) (ys := seCells (KS ++ [((((16 + (K.getD k zO2).1.h), (dataM (K.getD k zO2).1.p), zTg), (K.getD k zO2).2) : S2)])) 0 rfl (List.length_append ..).symm (seCells_app ..).symm
        exact s_nil ⟨_, oc_u 61 h rfl rfl, trivial, (s.pick _ (List.Sublist.cons_cons _ (List.Sublist.cons _ (List.Sublist.cons_cons _ (List.Sublist.cons_cons _ (List.Sublist.cons_cons _ (List.Sublist.cons_cons _ (List.Sublist.cons_cons _ (List.Sublist.cons_cons _ (List.Sublist.refl _))))))))))⟩
      · intro f9 w2 vl10 E9 hs9 hd9 hl hF s
        have e61 : f9.tmps.getD 61 undef = (vl10 9) := oc_get hl 61 9 (by kernel_rfl) (by kernel_rfl)
        have h := fin_slot [(61, (vl10 9))] (hs9.trans h.size) (hd9.trans h.defers) (holds_lk ⟨e61, trivial⟩)
        refine s_run hFT9 1 h rfl fun f h => s_nil ⟨_, oc_u 13 h rfl rfl, trivial, s⟩
      intro f w1 vl10 hs9 hd9 hv hr hF s
      replace h := oc_sl (ops := _) [(52, (vl10 0)), (53, _), (54, _), (55, _), (56, _), (57, _), (58, _), (59, _), (60, (vl10 8)), (61, (vl10 9)), (13, (vl10 10))] h hs9 hd9 hr ⟨hv 0 52 rfl, (hv 1 53 rfl).trans (hF 1 rfl), (hv 2 54 rfl).trans (hF 2 rfl), (hv 3 55 rfl).trans (hF 3 rfl), (hv 4 56 rfl).trans (hF 4 rfl), (hv 5 57 rfl).trans (hF 5 rfl), (hv 6 58 rfl).trans (hF 6 rfl), (hv 7 59 rfl).trans (hF 7 rfl), hv 8 60 rfl, hv 9 61 rfl, hv 10 13 rfl, trivial⟩ (by kernel_rfl)
      replace s : St w [.sl (vl10 10) 43 139 (KS ++ [((((16 + (K.getD k zO2).1.h), (dataM (K.getD k zO2).1.p), zTg), (K.getD k zO2).2) : S2)]).length (seCells (KS ++ [((((16 + (K.getD k zO2).1.h), (dataM (K.getD k zO2).1.p), zTg), (K.getD k zO2).2) : S2)])), .blk b15 (.cells (otArr (K.getD k zO2).1.k (K.getD k zO2).1.h (K.getD k zO2).2 (K.getD k zO2).1.p.2.1 (K.getD k zO2).1.p.2.2 (K.getD k zO2).1.t (K.getD k zO2).1.y) 111), .blk b10 (.cells (idArr (fstE (pkOf m)).2.1) 26), (.grp kb (fun w9 => RdE w9 vs (pkOf m).1 → RdU w9 uo K)), .blk b7 (.cells (pkArr vs (min m.n 64) m.d) 104), .blk b5 (.cells (mArr m vs) 78), .blk b3 (.cells (svArr sv.no sv.sec vt) 24)] _ := s
      refine b_norm (b_norm (t_norm (c_region (s_pure h (ru_add (h.ev rfl) (h.ev rfl) (by omega)) rfl fun f h => ?_))))
      replace s := s.nilSl 43 139
      refine e9 hFT9 1 h rfl fun f h => ?_
      obtain ⟨hs8, hs9⟩ := so_1 (fr := fr) (p := (pkOf m)) k1
      exact ⟨_, by omega, ⟨k + 1, (vl10 10), (KS ++ [((((16 + (K.getD k zO2).1.h), (dataM (K.getD k zO2).1.p), zTg), (K.getD k zO2).2) : S2)]), h.only ⟨rfl, rfl, rfl, rfl, rfl, rfl, rfl, rfl, rfl, rfl, rfl, rfl, slot_int rfl (by omega), trivial⟩, St.as (s.pick _ (List.Sublist.cons _ (List.Sublist.cons_cons _ (List.Sublist.cons _ (List.Sublist.cons_cons _ (List.Sublist.cons_cons _ (List.Sublist.cons_cons _ (List.Sublist.cons_cons _ (List.Sublist.cons_cons _ (List.nil_sublist _)))))))))) ⟨rfl, rfl, rfl, rfl, rfl, rfl, trivial⟩, rfl, by omega, sn_put hkk hp1 hs8, snd_add hp2 (fun w9 h9 => h9 _ (ou_mem hkk)), len_snoc hp3⟩⟩
  · refine wpIn_exit (t_exit (t_exit (b_exit (t_norm (c_seqN (c_seqN ?_))))))
    refine c_region (s_ax hFT9 h rfl (fun q0 f h => ?_) (fun q0 f h => ?_))
    · refine e9 hFT9 8 h rfl fun f h => cfk h rfl (qre hFT9 2 h rfl fun f h => wpIn_ret (e_tmp rfl h s rfl (by obtain rfl : k = K.length := (by omega); exact sop_end (pck_n2 hKb hp1 (by rw [q0]; rfl)) hp2 (s.sel [0, 2] rfl (by decide)))))
    · skip
      refine s_run hFT9 1 h rfl fun f h => s_o h rfl (s_ax hFT9 h rfl (fun q1 f h => ?_) (fun q1 f h => ?_))
      · refine e9 hFT9 6 h rfl fun f h => cfk h rfl (qre hFT9 2 h rfl fun f h => wpIn_ret (e_tmp rfl h s rfl (by obtain rfl : k = K.length := (by omega); exact sop_end (pck_n2 hKb hp1 (by rw [q0, q1]; rfl)) hp2 (s.sel [0, 2] rfl (by decide)))))
      · skip
        refine s_run hFT9 3 h rfl fun f h => s_o h rfl (s_cx h s fnc50 (scontf_any KS ul _ (RdZ.of_own (s.getSl 0 rfl)) (by omega)) rfl rfl (fun q2 f w1 h s => ?_) (fun q2 f w1 h s => ?_))
        · refine e9 hFT9 2 h rfl fun f h => c_ct h rfl (c_region ?_)
          have hon9 : ∀ u ∈ seCells [(((fr, (cachG (fstI (pkOf m)) sv.no), zTg), nilV) : S2)], u.oneCell' = true := s2_ones (se_on (re_nil9 w rfl rfl))
          refine s_run hFT9 2 h rfl fun f h => s_load_row 1 h s row26 rfl rfl (by first | exact idArr_size _ | exact bytesF_size _ _) rfl fun f h => s_run hFT9 1 h rfl fun f h => s_load_at1 (V := .int .i64 sv.no) (cell_of_has (Has.of_own s 5 rfl) 0 (sv_n _ _ _)) h one3 rfl rfl fun f h => s_pure h (ru_build_m014 sttM rfl (h.ev rfl) (h.ev rfl)) rfl fun f h => s_pure h (ru_build_se2 sttSe (h.ev rfl) (h.ev rfl)) rfl fun f h => s_bslice (vs := [.agg (seArr fr (cachG (fstI (pkOf m)) sv.no) nilV zTg)]) [.tmp 111] h s Tryd.underlying34 elm43 rfl rfl (s2_sz (((fr, (cachG (fstI (pkOf m)) sv.no), zTg), nilV) : S2)) rfl rfl rfl fun f w1 v112 h s => ?_
          replace s := s.resl (m := [(((fr, (cachG (fstI (pkOf m)) sv.no), zTg), nilV) : S2)].length) (ys := seCells [(((fr, (cachG (fstI (pkOf m)) sv.no), zTg), nilV) : S2)]) 0 rfl rfl (by exact s2_put [] (((fr, (cachG (fstI (pkOf m)) sv.no), zTg), nilV) : S2))
          refine s_append 1 0 h s Tryd.underlying34 elm43 rfl rfl rfl rfl (Nat.le_refl _) (hon9) (by show KS.length + 1 ≤ _; unfold maxLen; omega) (by show (KS.length + 1) * _ ≤ _; omega) rfl fun f w1 v113 h s => ?_
          replace s := s.pick _ (List.sublist_cons_self _ _)
          replace s := s.resl (m := (KS ++ [(((fr, (cachG (fstI (pkOf m)) sv.no), zTg), nilV) : S2)]).length) (ys := seCells (KS ++ [(((fr, (cachG (fstI (pkOf m)) sv.no), zTg), nilV) : S2)])) 0 rfl (List.length_append ..).symm (seCells_app ..).symm
          refine e9 hFT9 1 h rfl fun f h => qre hFT9 2 h rfl fun f h => wpIn_ret (e_tmp rfl h s rfl (by obtain rfl : k = K.length := (by omega); exact sop_end (pck_y2 hKb hp1 q0 q1 q2) (fun w9 h9 => rwS_snoc (hp2 w9 h9) (re_nil9 w9 rfl rfl)) (s.sel [0, 2] rfl (by decide))))
        · refine e9 hFT9 2 h rfl fun f h => cfk h rfl (qre hFT9 2 h rfl fun f h => wpIn_ret (e_tmp rfl h s rfl (by obtain rfl : k = K.length := (by omega); exact sop_end (pck_n2 hKb hp1 (by rw [q0, q1, q2]; rfl)) hp2 (s.sel [0, 2] rfl (by decide)))))

theorem as_cc (v : Value) (w : World) : (Instr.typeAssert (.iface 77 v) 57 77 true).run Tryd.prog w = .ok (.tuple #[v, .bool true]) w := by kernel_rfl
theorem as_pp (v : Value) (w : World) : (Instr.typeAssert (.iface 78 v) 57 78 true).run Tryd.prog w = .ok (.tuple #[v, .bool true]) w := by kernel_rfl
theorem as_pc (v : Value) (w : World) : (Instr.typeAssert (.iface 78 v) 57 77 true).run Tryd.prog w = .ok (.tuple #[(.agg (mArr mZ nilV)), .bool false]) w := by kernel_rfl
theorem as_oc (v : Value) (w : World) : (Instr.typeAssert (.iface 83 v) 57 77 true).run Tryd.prog w = .ok (.tuple #[(.agg (mArr mZ nilV)), .bool false]) w := by kernel_rfl
theorem as_op (v : Value) (w : World) : (Instr.typeAssert (.iface 83 v) 57 78 true).run Tryd.prog w = .ok (.tuple #[(.agg (mArr mZ nilV)), .bool false]) w := by kernel_rfl

theorem stakec_any (sv : Sv) (vt : Value) (fr : Int) (m : Mg) (vs : Value) (now : Int) (w : World) (hT : RdT w vt sv.tb) (htl : sv.tb.length ≤ 1000) (hV : RdE w vs m.l) (hml : m.l.length ≤ 1000) (ha : aboutM m = true) (hn : 0 ≤ now ∧ now ≤ 1099511627776) (hsz : sv.sec.size ≤ 64) (hH : Tab w 0 (wF hTab 8)) (hK : Tab w 1 (wF kTab 64)) : Calls Tryd.prog 17 [.agg (svArr sv.no sv.sec vt), .int .i64 fr, .iface 77 (.agg (mArr m vs)), .int .i64 now].toArray w (Ret w (HdP w vt vs sv.tb m.l (jugH sv fr m now))) := by
  refine c_en Tryd.func17 rfl Tryd.ntmps17 rfl fun f h s => qr (s_box (svArr sv.no sv.sec vt) h s rfl rfl rfl fun f w1 b4 h s => s_alloc (svArr 0 ByteArray.empty nilV) h s zero24 rfl rfl fun f w1 b8 h s => e9 hFT9 2 h rfl fun f h => c_seqN (qre hFT9 1 h rfl fun f h => wpIn_block (qr (s_pure h (ru_assert (V := .tuple #[.agg (mArr m vs), .bool true]) (as_cc _) (h.ev rfl)) rfl fun f h => s_pure h (ru_val (.bool true) (ru_extract (h.ev rfl) rfl) (congrArg Value.bool (rfl))) rfl fun f h => e9 hFT9 1 h rfl fun f h => c_ct h rfl (qr (s_alloc (mArr mZ nilV) h s zero77 rfl rfl fun f w1 b11 h s => s_store_row 0 h s row77 rfl rfl rfl (mArr_size _ _) (mArr_size _ _) (mArr_ones _ _ (rd_one hV)) fun w1 s => nt (qr (s_load_row 2 h s row24 rfl rfl (svArr_size _ _ _) rfl fun f h => s_run hFT9 2 h rfl fun f h => s_load_at (Has.subL (Has.of_own s 0 rfl) 0 71 (D := mArr m vs) (mArr_whole _ _)) h row31 rfl (mArr_size _ _) rfl fun f h => s_run hFT9 1 h rfl fun f h => s_call h s fnc32 (sjudge_any sv vt fr m vs now _ (hT.keep s.ext) htl (hV.keep s.ext) hml ha hn hsz (hH.keep s.ext) (hK.keep s.ext)) rfl rfl ?_)))))))); rintro f w1 v22 ⟨tub, ub, Kub, kub, rfl, hub, hG⟩ hE h sq; replace s := s.add hG; clear hG
  have hub1 := rd_one (((s.getG 0 rfl) (hT.keep s.ext) (hV.keep s.ext)).1)
  refine s_run hFT9 3 h rfl fun f h => s_store_row 2 h s row24 rfl rfl rfl (svArr_size _ _ _) (svArr_size _ _ _) (svArr_ones _ _ hub1) fun w1 s => e9 hFT9 2 h rfl fun f h => wpIn_ret (b_ret (t_ret ?_))
  exact e_row_tmp2 2 rfl h s row24 rfl rfl (svArr_size _ _ _) rfl rfl (⟨tub, ub, Kub, kub, rfl, hub, s.sel [0] rfl (by decide)⟩)

theorem stakep_any (sv : Sv) (vt : Value) (fr : Int) (m : Mg) (vs : Value) (now : Int) (w : World) (hT : RdT w vt sv.tb) (htl : sv.tb.length ≤ 1000) (hV : RdE w vs m.l) (hml : m.l.length ≤ 1000) (hr : rightV sv = true) (hM : rightM m = true) (hk1 : m.k = 1) : Calls Tryd.prog 17 [.agg (svArr sv.no sv.sec vt), .int .i64 fr, .iface 78 (.agg (mArr m vs)), .int .i64 now].toArray w (Ret w (HdP w vt vs sv.tb m.l ⟨sv, pckL sv fr m, 0⟩)) := by
  refine c_en Tryd.func17 rfl Tryd.ntmps17 rfl fun f h s => qr (s_box (svArr sv.no sv.sec vt) h s rfl rfl rfl fun f w1 b4 h s => s_alloc (svArr 0 ByteArray.empty nilV) h s zero24 rfl rfl fun f w1 b8 h s => e9 hFT9 2 h rfl fun f h => c_seqN (qre hFT9 1 h rfl fun f h => wpIn_block (qr (s_pure h (ru_assert (V := .tuple #[(.agg (mArr mZ nilV)), .bool false]) (as_pc _) (h.ev rfl)) rfl fun f h => s_pure h (ru_val (.bool false) (ru_extract (h.ev rfl) rfl) (congrArg Value.bool (rfl))) rfl fun f h => e9 hFT9 1 h rfl fun f h => c_cf h rfl (qr (s_pure h (ru_assert (V := .tuple #[.agg (mArr m vs), .bool true]) (as_pp _) (h.ev rfl)) rfl fun f h => s_pure h (ru_val (.bool true) (ru_extract (h.ev rfl) rfl) (congrArg Value.bool (rfl))) rfl fun f h => e9 hFT9 1 h rfl fun f h => c_ct h rfl (qr (s_alloc (mArr mZ nilV) h s zero78 rfl rfl fun f w1 b12 h s => s_store_row 0 h s row78 rfl rfl rfl (mArr_size _ _) (mArr_size _ _) (mArr_ones _ _ (rd_one hV)) fun w1 s => nt (c_seqN ?_)))))))))
  replace s := s.bring 1 rfl
  replace s : St w [.blk b8 (.cells (svArr 0 ByteArray.empty nilV) 24), .blk b12 (.cells (mArr m vs) 78), .blk b4 (.cells (svArr sv.no sv.sec vt) 24)] _ := s
  refine c_regG (γ := List Nat × List S2) 1 [[], [], [], [], [1, 2, 3], [0, 1, 2, 3, 4], [0, 1, 2, 3, 4, 5], [0, 1, 2, 3, 4, 5, 6]] [[], [], [], [], [], [8], [], []] [[_]] [.v (.agg (svArr sv.no sv.sec vt)), .v (.agg (svArr sv.no sv.sec vt)), .v _, .v (.agg (mArr m vs)), .m (fun v => [.grp (v 4).2.1 (fun w9 => sends (v 4).2.2 = pckL sv fr m ∧ (RdE w9 vs m.l → RdZ w9 (v 4).1 139 (v 4).2.2.length (seCells (v 4).2.2) ∧ RwS (v 4).2.2 w9))]), .m (fun v => [.blk b8 (.cells (svArr sv.no sv.sec vt) 24)]), .f (fun v => (v 6).1 = (v 4).1), .v _] _ h s rfl (by kernel_rfl) (by kernel_rfl) (by kernel_rfl) (oAI ?_ (oAI ?_ (oPv hFT9 h rfl rfl rfl (oAI ?_ (oAI ?_ (oAI ?_ (oAI ?_ (oPv hFT9 h rfl rfl rfl (trivial))))))))) [0, 1, 2, 3, 4, 5, 6, 7] (by kernel_rfl) ?_
  · intro f9 w2 vl7 E9 hs9 hd9 hl hF s
    have h := f9h [(4, _)] h hs9 hd9 ⟨oc_o hl 4 (by kernel_rfl) (h.holds 4 _ rfl), trivial⟩
    refine s_load_row 1 h s row24 rfl rfl (svArr_size _ _ _) rfl fun f h => s_nil ⟨(_, default), oc_u 29 h rfl rfl, rfl, s⟩
  · intro f9 w2 vl7 E9 hs9 hd9 hl hF s
    have h := f9h [(4, _)] h hs9 hd9 ⟨oc_o hl 4 (by kernel_rfl) (h.holds 4 _ rfl), trivial⟩
    refine s_load_row 1 h s row24 rfl rfl (svArr_size _ _ _) rfl fun f h => s_nil ⟨(_, default), oc_u 30 h rfl rfl, rfl, s⟩
  · intro f9 w2 vl7 E9 hs9 hd9 hl hF s
    have h := f9h [(12, _)] h hs9 hd9 ⟨oc_o hl 12 (by kernel_rfl) (h.holds 12 _ rfl), trivial⟩
    refine s_load_row 0 h s row78 rfl rfl (mArr_size _ _) rfl fun f h => s_nil ⟨(_, default), oc_u 32 h rfl rfl, rfl, s⟩
  · intro f9 w2 vl7 E9 hs9 hd9 hl hF s
    have h := f9h [(30, _), (31, _), (32, _)] h hs9 hd9 ⟨oc_g hl 30 1 (by kernel_rfl) (hF 1 (by decide)), oc_g hl 31 2 (by kernel_rfl) (hF 2 (by decide)), oc_g hl 32 3 (by kernel_rfl) (hF 3 (by decide)), trivial⟩
    refine s_call h s fnc33 (ssendon_any sv vt fr m vs _ (hT.keep s.ext) htl (hV.keep s.ext) hml hr hM hk1) rfl rfl ?_; rintro f w1 v33 ⟨K9, ks9, hK9, hG⟩ hE h sq; replace s := s.add hG; clear hG
    replace s := s.weak (S' := fun w9 => sends K9 = pckL sv fr m ∧ (RdE w9 vs m.l → RdZ w9 v33 139 K9.length (seCells K9) ∧ RwS K9 w9)) (fun w9 h9 => ⟨hK9, h9⟩)
    exact s_nil ⟨(_, (ks9, K9)), oc_u 33 h rfl rfl, trivial, s⟩
  · intro f9 w2 vl7 E9 hs9 hd9 hl hF s
    have h := f9h [(8, _), (29, _)] h hs9 hd9 ⟨oc_o hl 8 (by kernel_rfl) (h.holds 8 _ rfl), oc_g hl 29 0 (by kernel_rfl) (hF 0 (by decide)), trivial⟩
    refine s_store_row 0 h s row24 rfl rfl rfl (svArr_size _ _ _) (svArr_size _ _ _) (svArr_ones _ _ (rd_one hT)) fun w1 s => s_nil ⟨(undef, default), oc_none rfl, trivial, s⟩
  · intro f9 w2 vl7 E9 hs9 hd9 hl hF s
    have e33 : f9.tmps.getD 33 undef = (vl7 4).1 := oc_get hl 33 4 (by kernel_rfl) (by kernel_rfl)
    have h := fin_slot [(33, (vl7 4).1)] (hs9.trans h.size) (hd9.trans h.defers) (holds_lk ⟨e33, trivial⟩)
    refine s_run hFT9 1 h rfl fun f h => s_nil ⟨(_, default), oc_u 9 h rfl rfl, rfl, s⟩
  intro f w1 vl7 hs9 hd9 hv hr hF s
  replace h := oc_sl (ops := _) [(29, _), (30, _), (31, _), (32, _), (33, (vl7 4).1), (9, (vl7 4).1), (10, _)] h hs9 hd9 hr ⟨(hv 0 29 rfl).trans (hF 0 rfl), (hv 1 30 rfl).trans (hF 1 rfl), (hv 2 31 rfl).trans (hF 2 rfl), (hv 3 32 rfl).trans (hF 3 rfl), hv 4 33 rfl, (hv 6 9 rfl).trans (hF 6 rfl), (hv 7 10 rfl).trans (hF 7 rfl), trivial⟩ (by kernel_rfl)
  replace s : St w [.grp (vl7 4).2.1 (fun w9 => sends (vl7 4).2.2 = pckL sv fr m ∧ (RdE w9 vs m.l → RdZ w9 (vl7 4).1 139 (vl7 4).2.2.length (seCells (vl7 4).2.2) ∧ RwS (vl7 4).2.2 w9)), .blk b8 (.cells (svArr sv.no sv.sec vt) 24), .blk b12 (.cells (mArr m vs) 78), .blk b4 (.cells (svArr sv.no sv.sec vt) 24)] _ := s
  refine t_norm (wpIn_ret (b_ret (t_ret ?_)))
  exact e_row_tmp2 1 rfl h s row24 rfl rfl (svArr_size _ _ _) rfl rfl (hdp_par rfl (s.sel [0] rfl (by decide)))

theorem stakeo_any (sv : Sv) (vt : Value) (fr : Int) (m : Mg) (vs : Value) (now : Int) (w : World) (hT : RdT w vt sv.tb) (htl : sv.tb.length ≤ 1000) (hV : RdE w vs m.l) (hml : m.l.length ≤ 1000) : Calls Tryd.prog 17 [.agg (svArr sv.no sv.sec vt), .int .i64 fr, .iface 83 (.agg #[]), .int .i64 now].toArray w (Ret w (HdP w vt vs sv.tb m.l ⟨zSv, [], 1⟩)) := by
  refine c_en Tryd.func17 rfl Tryd.ntmps17 rfl fun f h s => qr (s_box (svArr sv.no sv.sec vt) h s rfl rfl rfl fun f w1 b4 h s => s_alloc (svArr 0 ByteArray.empty nilV) h s zero24 rfl rfl fun f w1 b8 h s => e9 hFT9 2 h rfl fun f h => c_seqN (qre hFT9 1 h rfl fun f h => wpIn_block (qr (s_pure h (ru_assert (V := .tuple #[(.agg (mArr mZ nilV)), .bool false]) (as_oc _) (h.ev rfl)) rfl fun f h => s_pure h (ru_val (.bool false) (ru_extract (h.ev rfl) rfl) (congrArg Value.bool (rfl))) rfl fun f h => e9 hFT9 1 h rfl fun f h => c_cf h rfl (qr (s_pure h (ru_assert (V := .tuple #[(.agg (mArr mZ nilV)), .bool false]) (as_op _) (h.ev rfl)) rfl fun f h => s_pure h (ru_val (.bool false) (ru_extract (h.ev rfl) rfl) (congrArg Value.bool (rfl))) rfl fun f h => e9 hFT9 1 h rfl fun f h => c_cf h rfl (wpIn_skip (b_norm (t_norm (qr (s_pure h (ru_build_sv0 sttSv) rfl fun f h => s_store_row 0 h s row24 rfl rfl rfl (svArr_size _ _ _) (svArr_size _ _ _) (svArr_ones _ _ (rfl)) fun w1 s => e9 hFT9 2 h rfl fun f h => wpIn_ret ?_)))))))))))
  exact e_row_tmp2 0 rfl h s row24 rfl rfl (svArr_size _ _ _) rfl rfl (hdp_oth rfl rfl (s.pick _ (List.nil_sublist _)))

theorem stake_any (sv : Sv) (vt : Value) (fr : Int) (m : Mg) (vs : Value) (now : Int) (w : World) (hT : RdT w vt sv.tb) (htl : sv.tb.length ≤ 1000) (hV : RdE w vs m.l) (hml : m.l.length ≤ 1000) (hr : rightV sv = true) (hM : rightM m = true) (hn : 0 ≤ now ∧ now ≤ 1099511627776) (hH : Tab w 0 (wF hTab 8)) (hK : Tab w 1 (wF kTab 64)) : Calls Tryd.prog 17 [.agg (svArr sv.no sv.sec vt), .int .i64 fr, (tkV 77 78 83 m vs), .int .i64 now].toArray w (Ret w (HdP w vt vs sv.tb m.l (takH sv fr m now))) := by
  unfold tkV takH
  cases hc : isC m with
  | true => exact stakec_any sv vt fr m vs now w hT htl hV hml (isC_about hc hM) hn (rightV_iff.1 hr).2.2.1 hH hK
  | false =>
    cases hd : decide (m.k = 1) with
    | true => exact stakep_any sv vt fr m vs now w hT htl hV hml hr hM (of_decide_eq_true hd)
    | false => exact stakeo_any sv vt fr m vs now w hT htl hV hml

set_option maxHeartbeats 8000000 in
theorem shandle_any (sv : Sv) (vt : Value) (fr : Int) (m : Mg) (vs : Value) (now : Int) (w : World) (hT : RdT w vt sv.tb) (htl : sv.tb.length ≤ 1000) (hV : RdE w vs m.l) (hml : m.l.length ≤ 1000) (hH : Tab w 0 (wF hTab 8)) (hK : Tab w 1 (wF kTab 64)) : Calls Tryd.prog 8 [.agg (svArr sv.no sv.sec vt), .int .i64 fr, .agg (mArr m vs), .int .i64 now].toArray w (Ret w (HdP w vt vs sv.tb m.l (hndH sv fr m now))) := by
  refine c_en Tryd.func8 rfl Tryd.ntmps8 rfl fun f h s => qr (s_box (svArr sv.no sv.sec vt) h s rfl rfl rfl fun f w1 b4 h s => s_box (mArr m vs) h s rfl rfl rfl fun f w1 b6 h s => s_alloc (svArr 0 ByteArray.empty nilV) h s zero24 rfl rfl fun f w1 b8 h s => e9 hFT9 2 h rfl fun f h => c_seqN ?_)
  refine rs hFT9 1 h rfl fun f h => s_ax hFT9 h rfl (fun r2 f h => ?_) (fun r2 f h => ?_)
  · refine e9 hFT9 6 h rfl fun f h => c_seqN (c_seqN ?_)
    refine c_region (s_load_row 2 h s row24 rfl rfl (svArr_size _ _ _) rfl fun f h => s_cx h s fnc15 (sright_any sv vt _ (hT.keep s.ext) htl) rfl rfl (fun r0 f w1 h s => ?_) (fun r0 f w1 h s => ?_))
    · refine e9 hFT9 18 h rfl fun f h => c_ct h rfl (qr (s_pure h (ru_build_sv0 sttSv) rfl fun f h => s_store_row 0 h s row24 rfl rfl rfl (svArr_size _ _ _) (svArr_size _ _ _) (svArr_ones _ _ (rfl)) fun w1 s => e9 hFT9 2 h rfl fun f h => rt ?_))
      exact e_row_tmp2 0 rfl h s row24 rfl rfl (svArr_size _ _ _) rfl rfl (hdp_bad (hnb fun ⟨a0, a1, a2, a3, a4, a5⟩ => absurd a2 (of_decide_eq_false r2)) (s.pick _ (List.nil_sublist _)))
    · skip
      refine s_run hFT9 2 h rfl fun f h => s_o h rfl (s_load_row 1 h s row31 rfl rfl (mArr_size _ _) rfl fun f h => s_o h rfl (s_cx h s fnc11 (wright_any m vs _ (hV.keep s.ext) (by omega)) rfl rfl (fun r1 f w1 h s => ?_) (fun r1 f w1 h s => ?_)))
      · refine e9 hFT9 14 h rfl fun f h => c_ct h rfl (qr (s_pure h (ru_build_sv0 sttSv) rfl fun f h => s_store_row 0 h s row24 rfl rfl rfl (svArr_size _ _ _) (svArr_size _ _ _) (svArr_ones _ _ (rfl)) fun w1 s => e9 hFT9 2 h rfl fun f h => rt ?_))
        exact e_row_tmp2 0 rfl h s row24 rfl rfl (svArr_size _ _ _) rfl rfl (hdp_bad (hnb fun ⟨a0, a1, a2, a3, a4, a5⟩ => absurd a2 (of_decide_eq_false r2)) (s.pick _ (List.nil_sublist _)))
      · refine e9 hFT9 14 h rfl fun f h => c_ct h rfl (qr (s_pure h (ru_build_sv0 sttSv) rfl fun f h => s_store_row 0 h s row24 rfl rfl rfl (svArr_size _ _ _) (svArr_size _ _ _) (svArr_ones _ _ (rfl)) fun w1 s => e9 hFT9 2 h rfl fun f h => rt ?_))
        exact e_row_tmp2 0 rfl h s row24 rfl rfl (svArr_size _ _ _) rfl rfl (hdp_bad (hnb fun ⟨a0, a1, a2, a3, a4, a5⟩ => absurd a2 (of_decide_eq_false r2)) (s.pick _ (List.nil_sublist _)))
  · skip
    refine s_run hFT9 2 h rfl fun f h => s_o h rfl (s_cv h s fnc16 (ret_val (.int .i64 32) (shost_any 16 _ (by omega)) (rfl)) rfl rfl fun f w1 h s => s_o h rfl (s_ax hFT9 h rfl (fun r3 f h => ?_) (fun r3 f h => ?_)))
    · refine e9 hFT9 2 h rfl fun f h => c_seqN (c_seqN ?_)
      refine c_region (s_load_row 2 h s row24 rfl rfl (svArr_size _ _ _) rfl fun f h => s_cx h s fnc15 (sright_any sv vt _ (hT.keep s.ext) htl) rfl rfl (fun r0 f w1 h s => ?_) (fun r0 f w1 h s => ?_))
      · refine e9 hFT9 18 h rfl fun f h => c_ct h rfl (qr (s_pure h (ru_build_sv0 sttSv) rfl fun f h => s_store_row 0 h s row24 rfl rfl rfl (svArr_size _ _ _) (svArr_size _ _ _) (svArr_ones _ _ (rfl)) fun w1 s => e9 hFT9 2 h rfl fun f h => rt ?_))
        exact e_row_tmp2 0 rfl h s row24 rfl rfl (svArr_size _ _ _) rfl rfl (hdp_bad (hnb fun ⟨a0, a1, a2, a3, a4, a5⟩ => absurd a3 (by have := of_decide_eq_false r3; omega)) (s.pick _ (List.nil_sublist _)))
      · skip
        refine s_run hFT9 2 h rfl fun f h => s_o h rfl (s_load_row 1 h s row31 rfl rfl (mArr_size _ _) rfl fun f h => s_o h rfl (s_cx h s fnc11 (wright_any m vs _ (hV.keep s.ext) (by omega)) rfl rfl (fun r1 f w1 h s => ?_) (fun r1 f w1 h s => ?_)))
        · refine e9 hFT9 14 h rfl fun f h => c_ct h rfl (qr (s_pure h (ru_build_sv0 sttSv) rfl fun f h => s_store_row 0 h s row24 rfl rfl rfl (svArr_size _ _ _) (svArr_size _ _ _) (svArr_ones _ _ (rfl)) fun w1 s => e9 hFT9 2 h rfl fun f h => rt ?_))
          exact e_row_tmp2 0 rfl h s row24 rfl rfl (svArr_size _ _ _) rfl rfl (hdp_bad (hnb fun ⟨a0, a1, a2, a3, a4, a5⟩ => absurd a3 (by have := of_decide_eq_false r3; omega)) (s.pick _ (List.nil_sublist _)))
        · refine e9 hFT9 14 h rfl fun f h => c_ct h rfl (qr (s_pure h (ru_build_sv0 sttSv) rfl fun f h => s_store_row 0 h s row24 rfl rfl rfl (svArr_size _ _ _) (svArr_size _ _ _) (svArr_ones _ _ (rfl)) fun w1 s => e9 hFT9 2 h rfl fun f h => rt ?_))
          exact e_row_tmp2 0 rfl h s row24 rfl rfl (svArr_size _ _ _) rfl rfl (hdp_bad (hnb fun ⟨a0, a1, a2, a3, a4, a5⟩ => absurd a3 (by have := of_decide_eq_false r3; omega)) (s.pick _ (List.nil_sublist _)))
    · refine e9 hFT9 2 h rfl fun f h => c_seqN (c_seqN ?_)
      refine c_region (s_load_row 2 h s row24 rfl rfl (svArr_size _ _ _) rfl fun f h => s_cx h s fnc15 (sright_any sv vt _ (hT.keep s.ext) htl) rfl rfl (fun r0 f w1 h s => ?_) (fun r0 f w1 h s => ?_))
      · refine e9 hFT9 18 h rfl fun f h => c_ct h rfl (qr (s_pure h (ru_build_sv0 sttSv) rfl fun f h => s_store_row 0 h s row24 rfl rfl rfl (svArr_size _ _ _) (svArr_size _ _ _) (svArr_ones _ _ (rfl)) fun w1 s => e9 hFT9 2 h rfl fun f h => rt ?_))
        exact e_row_tmp2 0 rfl h s row24 rfl rfl (svArr_size _ _ _) rfl rfl (hdp_bad (hnb fun ⟨a0, a1, a2, a3, a4, a5⟩ => by rw [r0] at a0; cases a0) (s.pick _ (List.nil_sublist _)))
      · skip
        refine s_run hFT9 2 h rfl fun f h => s_o h rfl (s_load_row 1 h s row31 rfl rfl (mArr_size _ _) rfl fun f h => s_o h rfl (s_cx h s fnc11 (wright_any m vs _ (hV.keep s.ext) (by omega)) rfl rfl (fun r1 f w1 h s => ?_) (fun r1 f w1 h s => ?_)))
        · refine e9 hFT9 14 h rfl fun f h => c_ct h rfl (qr (s_pure h (ru_build_sv0 sttSv) rfl fun f h => s_store_row 0 h s row24 rfl rfl rfl (svArr_size _ _ _) (svArr_size _ _ _) (svArr_ones _ _ (rfl)) fun w1 s => e9 hFT9 2 h rfl fun f h => rt ?_))
          exact e_row_tmp2 0 rfl h s row24 rfl rfl (svArr_size _ _ _) rfl rfl (hdp_bad (hnb fun ⟨a0, a1, a2, a3, a4, a5⟩ => by rw [r1] at a1; cases a1) (s.pick _ (List.nil_sublist _)))
        · skip
          refine s_run hFT9 8 h rfl fun f h => s_o h rfl (s_ax hFT9 h rfl (fun r4 f h => ?_) (fun r4 f h => ?_))
          · skip
            refine s_run hFT9 3 h rfl fun f h => s_o h rfl (s_ax hFT9 h rfl (fun r5 f h => ?_) (fun r5 f h => ?_))
            · refine e9 hFT9 1 h rfl fun f h => cfk h rfl (c_seqN ?_)
              have hn9 : 0 ≤ now ∧ now ≤ 1099511627776 := ⟨by have := of_decide_eq_false r4; omega, by have := of_decide_eq_false r5; omega⟩
              have hbk : hbK sv fr m now := ⟨r0, r1, of_decide_eq_true r2, (by have := of_decide_eq_true r3; omega), hn9.1, hn9.2⟩
              have hxl : (expV sv now).tb.length ≤ 1000 := Nat.le_trans (List.length_filter_le _ _) htl
              refine c_regG (γ := List Nat × Value × Value × List S2) 0 [[], [], [0, 1], [], [], [0, 1, 2, 4], [], [0, 1, 2, 3, 4, 5, 6], [0, 1, 2, 3, 4, 5, 6, 7], [0, 1, 2, 3, 4, 5, 6, 7, 8], [0, 1, 2, 3, 4, 5, 6, 7, 8], [0, 1, 2, 3, 4, 5, 6, 7, 8], [], [0, 1, 2, 3, 4, 5, 6, 7, 8, 9, 12], [0, 1, 2, 3, 4, 5, 6, 7, 8, 9, 10, 12, 13], [0, 1, 2, 3, 4, 5, 6, 7, 8, 9, 10, 11, 12, 13, 14]] [[], [], [], [], [], [], [], [2], [], [], [], [], [], [12], [], []] [] [.v (.agg (svArr sv.no sv.sec vt)), .v _, .r (fun v => [.grp (v 2).2.1 (fun w9 => RdT w9 vt sv.tb → RdT w9 (slV (v 2).2.2.1) (expF sv.tb now))]) (fun v => (v 2).1 = .agg (svArr sv.no sv.sec (slV (v 2).2.2.1))), .v _, .v (.agg (mArr m vs)), .v (tkV 77 78 83 m vs), .v _, .r (fun v => [.grp (v 7).2.1 (fun w9 => sends (v 7).2.2.2.2 = (takH (expV sv now) fr m now).l ∧ (RdT w9 vt sv.tb → RdE w9 vs m.l → RdT w9 (slV (v 7).2.2.1) (takH (expV sv now) fr m now).s.tb ∧ RdZ w9 (v 7).2.2.2.1 139 (v 7).2.2.2.2.length (seCells (v 7).2.2.2.2) ∧ RwS (v 7).2.2.2.2 w9))]) (fun v => (v 7).1 = .tuple #[.agg (svArr (takH (expV sv now) fr m now).s.no (takH (expV sv now) fr m now).s.sec (slV (v 7).2.2.1)), (v 7).2.2.2.1, .int .i64 (takH (expV sv now) fr m now).e]), .f (fun v => (v 8).1 = .tuple #[.agg (svArr (takH (expV sv now) fr m now).s.no (takH (expV sv now) fr m now).s.sec (slV (v 7).2.2.1)), (v 7).2.2.2.1, .int .i64 (takH (expV sv now) fr m now).e]), .f (fun v => (v 9).1 = .agg (svArr (takH (expV sv now) fr m now).s.no (takH (expV sv now) fr m now).s.sec (slV (v 7).2.2.1))), .f (fun v => (v 10).1 = (v 7).2.2.2.1), .v (.int .i64 (takH (expV sv now) fr m now).e), .q (fun v => [.blk (pbk (v 12).1) (.cells (svArr 0 ByteArray.empty nilV) 24)]), .m (fun v => [.blk (pbk (v 12).1) (.cells (svArr (takH (expV sv now) fr m now).s.no (takH (expV sv now) fr m now).s.sec (slV (v 7).2.2.1)) 24)]), .f (fun v => (v 14).1 = (v 7).2.2.2.1), .v _] _ h s rfl (by kernel_rfl) (by kernel_rfl) (by kernel_rfl) (oAI ?_ (oPv hFT9 h rfl rfl rfl (oAI ?_ (oPv hFT9 h rfl rfl rfl (oAI ?_ (oAI ?_ (oPv hFT9 h rfl rfl rfl (oAI ?_ (oAI ?_ (oAI ?_ (oAI ?_ (oAI ?_ (oAI ?_ (oAI ?_ (oAI ?_ (oPv hFT9 h rfl rfl rfl (trivial))))))))))))))))) [0, 1, 3, 4, 5, 6, 7, 8, 9, 10, 11, 13, 14, 15] (by kernel_rfl) ?_
              · intro f9 w2 vl4 E9 hs9 hd9 hl hF s
                have h := f9h [(4, _)] h hs9 hd9 ⟨oc_o hl 4 (by kernel_rfl) (h.holds 4 _ rfl), trivial⟩
                refine s_load_row 2 h s row24 rfl rfl (svArr_size _ _ _) rfl fun f h => s_nil ⟨(_, default), oc_u 44 h rfl rfl, rfl, s⟩
              · intro f9 w2 vl4 E9 hs9 hd9 hl hF s
                have h := f9h [(44, _), (45, _)] h hs9 hd9 ⟨oc_g hl 44 0 (by kernel_rfl) (hF 0 (by decide)), oc_g hl 45 1 (by kernel_rfl) (hF 1 (by decide)), trivial⟩
                refine s_call h s fnc18 (slast_any sv vt now _ (hT.keep s.ext) htl (rightV_iff.1 r0).2.2.2) rfl rfl ?_; rintro f w1 v46 ⟨pl, kl, hv46, hG⟩ hE h sq; replace s := s.add hG; clear hG
                have hp9 := slV_rd ((s.getG 0 rfl) (hT.keep s.ext))
                rw [← hp9] at hv46 s
                exact s_nil ⟨(_, (kl, pl, undef, [])), oc_u 46 h rfl rfl, hv46, s⟩
              · intro f9 w2 vl4 E9 hs9 hd9 hl hF s
                have h := f9h [(6, _)] h hs9 hd9 ⟨oc_o hl 6 (by kernel_rfl) (h.holds 6 _ rfl), trivial⟩
                refine s_load_row 1 h s row31 rfl rfl (mArr_size _ _) rfl fun f h => s_nil ⟨(_, default), oc_u 48 h rfl rfl, rfl, s⟩
              · intro f9 w2 vl4 E9 hs9 hd9 hl hF s
                have h := f9h [(48, _)] h hs9 hd9 ⟨oc_g hl 48 4 (by kernel_rfl) (hF 4 (by decide)), trivial⟩
                refine s_cv h s fnc19 (sread_any m vs _ (hV.keep s.ext) hml) rfl rfl fun f w1 h s => s_nil ⟨(_, default), oc_u 49 h rfl rfl, rfl, s⟩
              · intro f9 w2 vl4 E9 hs9 hd9 hl hF s
                have h := f9h [(46, .agg (svArr sv.no sv.sec (slV (vl4 2).2.2.1))), (47, _), (49, _), (50, _)] h hs9 hd9 ⟨oc_g hl 46 2 (by kernel_rfl) (hF 2 (by decide)), oc_g hl 47 3 (by kernel_rfl) (hF 3 (by decide)), oc_g hl 49 5 (by kernel_rfl) (hF 5 (by decide)), oc_g hl 50 6 (by kernel_rfl) (hF 6 (by decide)), trivial⟩
                refine s_call h s fnc17 (stake_any (expV sv now) (slV (vl4 2).2.2.1) fr m vs now _ ((s.getG 0 rfl) (hT.keep s.ext)) hxl (hV.keep s.ext) hml (expV_right r0 now) r1 hn9 (hH.keep s.ext) (hK.keep s.ext)) rfl rfl ?_; rintro f w1 v51 ⟨tu, uu, Ku, ku, hv51, hu, hG⟩ hE h sq; replace s := s.add hG; clear hG
                have hp9 := slV_rd (((s.getG 0 rfl) ((s.getG 1 rfl) (hT.keep s.ext)) (hV.keep s.ext)).1)
                rw [← hp9] at hv51 s
                replace s := s.merge (S := fun w9 => sends Ku = (takH (expV sv now) fr m now).l ∧ (RdT w9 vt sv.tb → RdE w9 vs m.l → RdT w9 (slV tu) (takH (expV sv now) fr m now).s.tb ∧ RdZ w9 uu 139 Ku.length (seCells Ku) ∧ RwS Ku w9)) (fun w9 a b => ⟨hu, fun c d => a (b c) d⟩)
                exact s_nil ⟨(_, (ku ++ (vl4 2).2.1, tu, uu, Ku)), oc_u 51 h rfl rfl, hv51, s⟩
              · intro f9 w2 vl4 E9 hs9 hd9 hl hF s
                have h := f9h [(51, .tuple #[.agg (svArr (takH (expV sv now) fr m now).s.no (takH (expV sv now) fr m now).s.sec (slV (vl4 7).2.2.1)), (vl4 7).2.2.2.1, .int .i64 (takH (expV sv now) fr m now).e])] h hs9 hd9 ⟨oc_g hl 51 7 (by kernel_rfl) (hF 7 (by decide)), trivial⟩
                refine s_run hFT9 1 h rfl fun f h => s_nil ⟨(_, default), oc_u 43 h rfl rfl, rfl, s⟩
              · intro f9 w2 vl4 E9 hs9 hd9 hl hF s
                have h := f9h [(43, .tuple #[.agg (svArr (takH (expV sv now) fr m now).s.no (takH (expV sv now) fr m now).s.sec (slV (vl4 7).2.2.1)), (vl4 7).2.2.2.1, .int .i64 (takH (expV sv now) fr m now).e])] h hs9 hd9 ⟨oc_g hl 43 8 (by kernel_rfl) (hF 8 (by decide)), trivial⟩
                refine s_run hFT9 1 h rfl fun f h => s_nil ⟨(_, default), oc_u 52 h rfl rfl, rfl, s⟩
              · intro f9 w2 vl4 E9 hs9 hd9 hl hF s
                have h := f9h [(43, .tuple #[.agg (svArr (takH (expV sv now) fr m now).s.no (takH (expV sv now) fr m now).s.sec (slV (vl4 7).2.2.1)), (vl4 7).2.2.2.1, .int .i64 (takH (expV sv now) fr m now).e])] h hs9 hd9 ⟨oc_g hl 43 8 (by kernel_rfl) (hF 8 (by decide)), trivial⟩
                refine s_run hFT9 1 h rfl fun f h => s_nil ⟨(_, default), oc_u 53 h rfl rfl, rfl, s⟩
              · intro f9 w2 vl4 E9 hs9 hd9 hl hF s
                have h := f9h [(43, .tuple #[.agg (svArr (takH (expV sv now) fr m now).s.no (takH (expV sv now) fr m now).s.sec (slV (vl4 7).2.2.1)), (vl4 7).2.2.2.1, .int .i64 (takH (expV sv now) fr m now).e])] h hs9 hd9 ⟨oc_g hl 43 8 (by kernel_rfl) (hF 8 (by decide)), trivial⟩
                refine s_run hFT9 1 h rfl fun f h => s_nil ⟨(_, default), oc_u 54 h rfl rfl, rfl, s⟩
              · intro f9 w2 vl4 E9 hs9 hd9 hl hF s
                have h := fin_slot [] (hs9.trans h.size) (hd9.trans h.defers) (holds_lk trivial)
                refine s_alloc (svArr 0 ByteArray.empty nilV) h s zero24 rfl rfl fun f w1 b12 h s => s_nil ⟨(_, default), oc_u 12 h rfl rfl, ⟨_, rfl⟩, s⟩
              · intro f9 w2 vl4 E9 hs9 hd9 hl hF s
                obtain ⟨b12, hb12⟩ : ∃ b, (vl4 12).1 = .pointer (some ⟨b, 0, none⟩) := hF 12 (by decide)
                have e12 : f9.tmps.getD 12 undef = .pointer (some ⟨b12, 0, none⟩) := (oc_get hl 12 12 (by kernel_rfl) (by kernel_rfl)).trans hb12
                have e52 : f9.tmps.getD 52 undef = .agg (svArr (takH (expV sv now) fr m now).s.no (takH (expV sv now) fr m now).s.sec (slV (vl4 7).2.2.1)) := (oc_get hl 52 9 (by kernel_rfl) (by kernel_rfl)).trans (hF 9 (by decide))
                have h := fin_slot [(12, .pointer (some ⟨b12, 0, none⟩)), (52, .agg (svArr (takH (expV sv now) fr m now).s.no (takH (expV sv now) fr m now).s.sec (slV (vl4 7).2.2.1)))] (hs9.trans h.size) (hd9.trans h.defers) (holds_lk ⟨e12, e52, trivial⟩)
                replace s : St w (.blk (pbk (vl4 12).1) (.cells (svArr 0 ByteArray.empty nilV) 24) :: .blk b8 (.cells (svArr 0 ByteArray.empty nilV) 24) :: .blk b6 (.cells (mArr m vs) 31) :: .blk b4 (.cells (svArr sv.no sv.sec vt) 24) :: E9) _ := s
                rw [hb12] at s
                replace s : St w (.blk b12 (.cells (svArr 0 ByteArray.empty nilV) 24) :: .blk b8 (.cells (svArr 0 ByteArray.empty nilV) 24) :: .blk b6 (.cells (mArr m vs) 31) :: .blk b4 (.cells (svArr sv.no sv.sec vt) 24) :: E9) _ := s
                refine s_store_row 0 h s row24 rfl rfl rfl (svArr_size _ _ _) (svArr_size _ _ _) (svArr_ones _ _ (slV_one _)) fun w1 s => s_nil ⟨(undef, default), oc_none rfl, trivial, ?_⟩
                have z := s
                rw [← show pbk (vl4 12).1 = b12 from by rw [hb12]; rfl] at z
                exact z
              · intro f9 w2 vl4 E9 hs9 hd9 hl hF s
                have h := f9h [(53, (vl4 7).2.2.2.1)] h hs9 hd9 ⟨oc_g hl 53 10 (by kernel_rfl) (hF 10 (by decide)), trivial⟩
                refine s_run hFT9 1 h rfl fun f h => s_nil ⟨(_, default), oc_u 13 h rfl rfl, rfl, s⟩
              intro f w1 vl4 hs9 hd9 hv hr hF s
              obtain ⟨b12, hb12⟩ : ∃ b, (vl4 12).1 = .pointer (some ⟨b, 0, none⟩) := hF 12 (by kernel_rfl)
              replace h := oc_sl (ops := _) [(44, _), (45, _), (46, .agg (svArr sv.no sv.sec (slV (vl4 2).2.2.1))), (47, _), (48, _), (49, _), (50, _), (51, .tuple #[.agg (svArr (takH (expV sv now) fr m now).s.no (takH (expV sv now) fr m now).s.sec (slV (vl4 7).2.2.1)), (vl4 7).2.2.2.1, .int .i64 (takH (expV sv now) fr m now).e]), (43, .tuple #[.agg (svArr (takH (expV sv now) fr m now).s.no (takH (expV sv now) fr m now).s.sec (slV (vl4 7).2.2.1)), (vl4 7).2.2.2.1, .int .i64 (takH (expV sv now) fr m now).e]), (52, .agg (svArr (takH (expV sv now) fr m now).s.no (takH (expV sv now) fr m now).s.sec (slV (vl4 7).2.2.1))), (53, (vl4 7).2.2.2.1), (54, _), (12, .pointer (some ⟨b12, 0, none⟩)), (13, (vl4 7).2.2.2.1), (14, _)] h hs9 hd9 hr ⟨(hv 0 44 rfl).trans (hF 0 rfl), (hv 1 45 rfl).trans (hF 1 rfl), (hv 2 46 rfl).trans (hF 2 rfl), (hv 3 47 rfl).trans (hF 3 rfl), (hv 4 48 rfl).trans (hF 4 rfl), (hv 5 49 rfl).trans (hF 5 rfl), (hv 6 50 rfl).trans (hF 6 rfl), (hv 7 51 rfl).trans (hF 7 rfl), (hv 8 43 rfl).trans (hF 8 rfl), (hv 9 52 rfl).trans (hF 9 rfl), (hv 10 53 rfl).trans (hF 10 rfl), (hv 11 54 rfl).trans (hF 11 rfl), (hv 12 12 rfl).trans hb12, (hv 14 13 rfl).trans (hF 14 rfl), (hv 15 14 rfl).trans (hF 15 rfl), trivial⟩ (by kernel_rfl)
              replace s : St w [.grp (vl4 7).2.1 (fun w9 => sends (vl4 7).2.2.2.2 = (takH (expV sv now) fr m now).l ∧ (RdT w9 vt sv.tb → RdE w9 vs m.l → RdT w9 (slV (vl4 7).2.2.1) (takH (expV sv now) fr m now).s.tb ∧ RdZ w9 (vl4 7).2.2.2.1 139 (vl4 7).2.2.2.2.length (seCells (vl4 7).2.2.2.2) ∧ RwS (vl4 7).2.2.2.2 w9)), .blk (pbk (vl4 12).1) (.cells (svArr (takH (expV sv now) fr m now).s.no (takH (expV sv now) fr m now).s.sec (slV (vl4 7).2.2.1)) 24), .blk b8 (.cells (svArr 0 ByteArray.empty nilV) 24), .blk b6 (.cells (mArr m vs) 31), .blk b4 (.cells (svArr sv.no sv.sec vt) 24)] _ := s
              rw [hb12] at s
              replace s : St w [.grp (vl4 7).2.1 (fun w9 => sends (vl4 7).2.2.2.2 = (takH (expV sv now) fr m now).l ∧ (RdT w9 vt sv.tb → RdE w9 vs m.l → RdT w9 (slV (vl4 7).2.2.1) (takH (expV sv now) fr m now).s.tb ∧ RdZ w9 (vl4 7).2.2.2.1 139 (vl4 7).2.2.2.2.length (seCells (vl4 7).2.2.2.2) ∧ RwS (vl4 7).2.2.2.2 w9)), .blk b12 (.cells (svArr (takH (expV sv now) fr m now).s.no (takH (expV sv now) fr m now).s.sec (slV (vl4 7).2.2.1)) 24), .blk b8 (.cells (svArr 0 ByteArray.empty nilV) 24), .blk b6 (.cells (mArr m vs) 31), .blk b4 (.cells (svArr sv.no sv.sec vt) 24)] _ := s
              refine t_norm (c_seqN (qre hFT9 2 h rfl fun f h => c_cond h rfl (fun hc => ?_) (fun hc => ?_)))
              · have e1 := of_decide_eq_true hc
                refine qr (s_pure h (ru_build_sv0 sttSv) rfl fun f h => s_run hFT9 1 h rfl fun f h => s_store_row 2 h s row24 rfl rfl rfl (svArr_size _ _ _) (svArr_size _ _ _) (svArr_ones _ _ (rfl)) fun w1 s => e9 hFT9 2 h rfl fun f h => rt ?_)
                exact e_row_tmp2 2 rfl h s row24 rfl rfl (svArr_size _ _ _) rfl rfl (hdp_1 hbk e1 (s.pick _ (List.nil_sublist _)))
              · have e1 := of_decide_eq_false hc
                refine kt (c_seqN (qre hFT9 2 h rfl fun f h => c_cond h rfl (fun hc => ?_) (fun hc => ?_)))
                · have e0 := of_decide_eq_true hc
                  refine qrs hFT9 1 h rfl fun f h => s_load_at1 (V := vt) (cell_of_has (Has.of_own s 4 rfl) 2 (sv_v _ _ _)) h one22 rfl rfl fun f h => s_call h s fnc20 (tclone_any sv.tb htl vt _ (hT.keep s.ext)) rfl rfl ?_; intro f w1 v63 hT9 hE h sq; replace s := s.sl_new hE hT9
                  refine s_run hFT9 1 h rfl fun f h => s_store_one 5 h s one22 rfl rfl rfl (by rw [svArr_size]; omega) (own_one (s.getSl 0 rfl)) fun w1 s => ?_
                  replace s := s.recell (D := svArr sv.no sv.sec v63) 5 rfl (rfl)
                  refine nt (qr (s_load_row 5 h s row24 rfl rfl (svArr_size _ _ _) rfl fun f h => s_run hFT9 1 h rfl fun f h => s_store_row 3 h s row24 rfl rfl rfl (svArr_size _ _ _) (svArr_size _ _ _) (svArr_ones _ _ (own_one (s.getSl 0 rfl))) fun w1 s => e9 hFT9 2 h rfl fun f h => rt ?_))
                  exact e_row_tmp2 3 rfl h s row24 rfl rfl (svArr_size _ _ _) rfl rfl (hdp_e hbk e1 e0 (s.sel [0] rfl (by decide)))
                · have e0 := Decidable.of_not_not (of_decide_eq_false hc)
                  refine kt (qr (s_load_row 1 h s row24 rfl rfl (svArr_size _ _ _) rfl fun f h => s_run hFT9 1 h rfl fun f h => s_store_row 2 h s row24 rfl rfl rfl (svArr_size _ _ _) (svArr_size _ _ _) (svArr_ones _ _ (slV_one _)) fun w1 s => e9 hFT9 2 h rfl fun f h => wpIn_ret ?_))
                  exact e_row_tmp2 2 rfl h s row24 rfl rfl (svArr_size _ _ _) rfl rfl (hdp_0 hbk e0 (s.sel [0] rfl (by decide)))
            · refine e9 hFT9 1 h rfl fun f h => c_ct h rfl (qr (s_pure h (ru_build_sv0 sttSv) rfl fun f h => s_store_row 0 h s row24 rfl rfl rfl (svArr_size _ _ _) (svArr_size _ _ _) (svArr_ones _ _ (rfl)) fun w1 s => e9 hFT9 2 h rfl fun f h => rt ?_))
              exact e_row_tmp2 0 rfl h s row24 rfl rfl (svArr_size _ _ _) rfl rfl (hdp_bad (hnb fun ⟨a0, a1, a2, a3, a4, a5⟩ => by have := of_decide_eq_true r5; omega) (s.pick _ (List.nil_sublist _)))
          · refine e9 hFT9 5 h rfl fun f h => c_ct h rfl (qr (s_pure h (ru_build_sv0 sttSv) rfl fun f h => s_store_row 0 h s row24 rfl rfl rfl (svArr_size _ _ _) (svArr_size _ _ _) (svArr_ones _ _ (rfl)) fun w1 s => e9 hFT9 2 h rfl fun f h => rt ?_))
            exact e_row_tmp2 0 rfl h s row24 rfl rfl (svArr_size _ _ _) rfl rfl (hdp_bad (hnb fun ⟨a0, a1, a2, a3, a4, a5⟩ => by have := of_decide_eq_true r4; omega) (s.pick _ (List.nil_sublist _)))
end Go.Proofs.YtobfeflheaobiaaDoor
