/- What package guard answers: the map of functions, Judge, Trigger. -/
import Derived.Test.YtobfeflheaobiaaDoorXk
import Derived.Test.YtobfeflheaobiaaDoorVc
set_option linter.unusedVariables false
set_option linter.unusedSimpArgs false
set_option linter.unusedSectionVars false
namespace Go.Proofs.YtobfeflheaobiaaDoor
open Go.RowKit
theorem gonly_any (b : Bool) (x : Int) (w : World) : Calls Tryd.prog 78 [.bool b, .int .i64 x].toArray w (Ret w (is (.int .i64 (bif b then x else 4)))) := by
  refine c_en Tryd.func78 rfl Tryd.ntmps78 rfl fun f h s => qre hFT9 1 h rfl fun f h => c_seqN (qre hFT9 1 h rfl fun f h => c_cond h rfl (fun hc => ?_) (fun hc => ?_))
  · refine qre hFT9 2 h rfl fun f h => rt (e_tmp rfl h s rfl (by show _ = _; rw [hc]; rfl))
  · refine kt (qre hFT9 1 h rfl fun f h => wpIn_ret (e_tmp rfl h s rfl (by show _ = _; rw [hc]; rfl)))

theorem gnonce_any (sx : ByteArray) (m : Mg) (vs : Value) (bx : Nat) (w : World) (hsx : sx.size ≤ 64) (hbx : Tab w bx #[.string sx]) (hV : RdE w vs m.l) (hh1 : ((m.t.2.2.toNat : Nat) : Int) = m.t.2.2) (hh2 : m.t.2.2.toNat < 16) (hH : Tab w 0 (wF hTab 8)) (hK : Tab w 1 (wF kTab 64)) : Calls Tryd.prog 76 [.agg (mArr m vs), .pointer (some ⟨bx, 0, none⟩)].toArray w (Ret w (is (.string (ncG sx m)))) := by
  refine c_en Tryd.func76 rfl Tryd.ntmps76 rfl fun f h s => qr (s_box (mArr m vs) h s rfl rfl rfl fun f w1 b2 h s => e9 hFT9 1 h rfl fun f h => qr (s_load_at1 (V := .string sx) (cell_of_has (Has.of_tab (hbx.keep s.ext)) 0 (rfl)) h one9 rfl rfl fun f h => s_run hFT9 1 h rfl fun f h => s_load_at (Has.subL (Has.of_own s 0 rfl) 1 32 (D := idArr (_)) (mArr_i _ _)) h row26 rfl (by first | exact idArr_size _ | exact bytesF_size _ _) rfl fun f h => s_run hFT9 2 h rfl fun f h => s_load_at1 (V := .int .i64 ((m.t.2.2.toNat : Nat) : Int)) (cell_of_has (Has.of_own s 0 rfl) 66 ((by rw [mArr_th, hh1]))) h one3 rfl rfl fun f h => s_cv h s fnc14 (nonce_ok sx hsx m.i m.t.2.2.toNat hh2 _ (hH.keep s.ext) (hK.keep s.ext)) rfl rfl fun f w1 h s => e9 hFT9 5 h rfl fun f h => qre hFT9 2 h rfl fun f h => wpIn_ret (e_tmp rfl h s rfl (rfl))))

theorem gins_any (sx : ByteArray) (m : Mg) (vs : Value) (bx by9 : Nat) (w : World) (hk : m.k = 2) (ha : aboutM m = true) (hsx : sx.size ≤ 64) (hbx : Tab w bx #[.string sx]) (hby : Tab w by9 #[(.func (.func 76) #[] #[.pointer (some ⟨bx, 0, none⟩)])]) (hV : RdE w vs m.l) (hH : Tab w 0 (wF hTab 8)) (hK : Tab w 1 (wF kTab 64)) : Calls Tryd.prog 77 [.agg (mArr m vs), .pointer (some ⟨by9, 0, none⟩)].toArray w (Ret w (is (.tuple #[.int .i64 (judK sx m), .agg (mArr (judA sx m) nilV)]))) := by
  obtain ⟨hh1, hh2⟩ := host_t (about_t ha).1
  have hie := (about_t ha).1
  refine c_en Tryd.func77 rfl Tryd.ntmps77 rfl fun f h s => qr (s_box (mArr m vs) h s rfl rfl rfl fun f w1 b2 h s => s_run hFT9 1 h rfl fun f h => s_alloc (mArr mZ nilV) h s zero31 rfl rfl fun f w1 b4 h s => nt (c_seqN (qrs hFT9 2 h rfl fun f h => s_load_at1 (cell_of_has (Has.of_own s 1 rfl) 33 (mArr_tk _ _)) h one3 rfl rfl fun f h => e9 hFT9 1 h rfl fun f h => c_cond h rfl (fun hc => ?_) (fun hc => ?_))))
  · obtain ⟨q1, q2⟩ := jd_ask (s := sx) hk (of_decide_eq_true hc)
    refine c_seqN (c_wA 9 h (by kernel_rfl) (w_run hFT9 1 h rfl fun f h => w_load_at (Has.subL (Has.of_own s 1 rfl) 1 32 (D := idArr (_)) (mArr_i _ _)) h row26 rfl (by first | exact idArr_size _ | exact bytesF_size _ _) rfl fun f h => w_run hFT9 1 h rfl fun f h => w_load_at (Has.subL (Has.of_own s 1 rfl) 33 34 (D := eArr (_)) (mArr_t _ _)) h row28 rfl (eArr_size _) rfl fun f h => w_load_at1 (V := (.func (.func 76) #[] #[.pointer (some ⟨bx, 0, none⟩)])) (cell_of_has (Has.of_tab (hby.keep s.ext)) 0 (rfl)) h one147 rfl rfl fun f h => w_load_row 1 h s row31 rfl rfl (mArr_size _ _) rfl fun f h => w_callV [.agg (mArr m vs)] (caps := [.pointer (some ⟨bx, 0, none⟩)]) h fnc76 rfl (fun w9 h9 => gnonce_any sx m vs bx w9 hsx (hbx.keep (s.ext.trans h9)) (hV.keep (s.ext.trans h9)) hh1 hh2 (hH.keep (s.ext.trans h9)) (hK.keep (s.ext.trans h9))) rfl rfl ?_)); intro f h
    refine w_pure h (ru_build_m0125 sttM rfl (h.ev rfl) (h.ev rfl) (h.ev rfl)) rfl fun f h => w_run hFT9 1 h rfl fun f h => w_nil s fun w1 s => s_store_row 0 h s row31 rfl rfl rfl (mArr_size _ _) (mArr_size _ _) (mArr_ones _ _ rfl) fun w1 s => nt (rt ?_)
    exact e_tmp_rowG 0 rfl h s row31 rfl rfl rfl (mArr_size _ _) (by rw [q1, q2]; rfl)
  · obtain ⟨q1, q2⟩ := jd_ins (s := sx) hk hie (of_decide_eq_false hc)
    refine kt (qrs hFT9 1 h rfl fun f h => s_load_at (Has.subL (Has.of_own s 1 rfl) 1 32 (D := idArr (_)) (mArr_i _ _)) h row26 rfl (by first | exact idArr_size _ | exact bytesF_size _ _) rfl fun f h => s_run hFT9 2 h rfl fun f h => s_load_at (Has.subL (Has.of_own s 1 rfl) 34 32 (D := idArr (_)) (mArr_ti _ _)) h row26 rfl (by first | exact idArr_size _ | exact bytesF_size _ _) rfl fun f h => s_cv h s fnc13 (links_any m.i m.t.2.1 _ (hH.keep s.ext) (hK.keep s.ext)) rfl rfl fun f w1 h s => s_cv h s fnc78 (gonly_any (linksM m.i m.t.2.1) 2 _) rfl rfl fun f w1 h s => s_pure h (ru_build_m0 sttM) rfl fun f h => s_run hFT9 1 h rfl fun f h => s_store_row 0 h s row31 rfl rfl rfl (mArr_size _ _) (mArr_size _ _) (mArr_ones _ _ rfl) fun w1 s => nt (wpIn_ret ?_))
    exact e_tmp_rowG 0 rfl h s row31 rfl rfl rfl (mArr_size _ _) (by rw [q1, q2]; rfl)

theorem gechoed_any (bx : Nat) (x : Int) (w : World) : Calls Tryd.prog 79 [(.func (.func 76) #[] #[.pointer (some ⟨bx, 0, none⟩)]), .int .i64 x].toArray w (Ret w (fun v w' => St w [.grp [capk v 0, capk v 1] (Cl2 89 (.func (.func 76) #[] #[.pointer (some ⟨bx, 0, none⟩)]) (.int .i64 x) v)] w')) := by
  refine c_en Tryd.func79 rfl Tryd.ntmps79 rfl fun f h s => qr (s_box (#[(.func (.func 76) #[] #[.pointer (some ⟨bx, 0, none⟩)])]) h s rfl rfl rfl fun f w1 b2 h s => s_box (#[.int .i64 x]) h s rfl rfl rfl fun f w1 b3 h s => e9 hFT9 1 h rfl fun f h => qr (s_pure h (ru_makeFunc [.pointer (some ⟨b2, 0, none⟩), .pointer (some ⟨b3, 0, none⟩)] (evsA h rfl)) rfl fun f h => e9 hFT9 1 h rfl fun f h => wpIn_ret (e_tmp rfl h s rfl (cl2_own (s.sel [1, 0] rfl (by decide)) rfl))))

theorem gech_any (sx : ByteArray) (m : Mg) (vs : Value) (bx c1 c2 : Nat) (x : Int) (w : World) (hk : (m.k = 4 ∧ x = 2) ∨ (m.k = 6 ∧ x = 3)) (ha : aboutM m = true) (hsx : sx.size ≤ 64) (hbx : Tab w bx #[.string sx]) (hc1 : Tab w c1 #[(.func (.func 76) #[] #[.pointer (some ⟨bx, 0, none⟩)])]) (hc2 : Tab w c2 #[.int .i64 x]) (hV : RdE w vs m.l) (hH : Tab w 0 (wF hTab 8)) (hK : Tab w 1 (wF kTab 64)) : Calls Tryd.prog 89 [.agg (mArr m vs), .pointer (some ⟨c1, 0, none⟩), .pointer (some ⟨c2, 0, none⟩)].toArray w (Ret w (is (.tuple #[.int .i64 (judK sx m), .agg (mArr (judA sx m) nilV)]))) := by
  obtain ⟨hh1, hh2⟩ := host_t (about_t ha).1
  have hie := (about_t ha).1
  obtain ⟨q1, q2⟩ := jd_ech (s := sx) hk hie
  refine c_en Tryd.func89 rfl Tryd.ntmps89 rfl fun f h s => qr (s_box (mArr m vs) h s rfl rfl rfl fun f w1 b3 h s => s_run hFT9 1 h rfl fun f h => s_alloc (mArr mZ nilV) h s zero31 rfl rfl fun f w1 b5 h s => nt (c_seqN ?_))
  refine c_wA 16 h (by kernel_rfl) (w_run hFT9 2 h rfl fun f h => w_load_at1 (cell_of_has (Has.of_own s 1 rfl) 33 (mArr_tk _ _)) h one3 rfl rfl fun f h => w_ax hFT9 h rfl (fun t0 f h => ?_) (fun t0 f h => ?_))
  · refine w_run hFT9 8 h rfl fun f h => w_load_at1 (V := .int .i64 x) (cell_of_has (Has.of_tab (hc2.keep s.ext)) 0 (rfl)) h one3 rfl rfl fun f h => w_call h fnc78 (fun w9 hE9 => gonly_any false x w9) rfl rfl fun f h => w_pure h (ru_build_m0 sttM) rfl fun f h => w_run hFT9 1 h rfl fun f h => w_nil s fun w1 s => s_store_row 0 h s row31 rfl rfl rfl (mArr_size _ _) (mArr_size _ _) (mArr_ones _ _ rfl) fun w1 s => nt (wpIn_ret ?_)
    exact e_tmp_rowG 0 rfl h s row31 rfl rfl rfl (mArr_size _ _) (by rw [q1, q2, t0]; rfl)
  · refine w_run hFT9 2 h rfl fun f h => w_o h rfl (w_load_at1 (cell_of_has (Has.of_own s 1 rfl) 69 (mArr_o _ _)) h one9 rfl rfl fun f h => w_o h rfl (w_load_at1 (V := (.func (.func 76) #[] #[.pointer (some ⟨bx, 0, none⟩)])) (cell_of_has (Has.of_tab (hc1.keep s.ext)) 0 (rfl)) h one147 rfl rfl fun f h => w_o h rfl (w_load_row 1 h s row31 rfl rfl (mArr_size _ _) rfl fun f h => w_o h rfl (w_callV [.agg (mArr m vs)] (caps := [.pointer (some ⟨bx, 0, none⟩)]) h fnc76 rfl (fun w9 h9 => gnonce_any sx m vs bx w9 hsx (hbx.keep (s.ext.trans h9)) (hV.keep (s.ext.trans h9)) hh1 hh2 (hH.keep (s.ext.trans h9)) (hK.keep (s.ext.trans h9))) rfl rfl ?_)))); intro f h
    refine w_o h rfl (w_pure h (ru_eql_str (h.ev rfl) (h.ev rfl)) rfl fun f h => w_run hFT9 1 h rfl fun f h => w_load_at1 (V := .int .i64 x) (cell_of_has (Has.of_tab (hc2.keep s.ext)) 0 (rfl)) h one3 rfl rfl fun f h => w_call h fnc78 (fun w9 hE9 => gonly_any (decide (m.o = ncG sx m)) x w9) rfl rfl fun f h => w_pure h (ru_build_m0 sttM) rfl fun f h => w_run hFT9 1 h rfl fun f h => w_nil s fun w1 s => s_store_row 0 h s row31 rfl rfl rfl (mArr_size _ _) (mArr_size _ _) (mArr_ones _ _ rfl) fun w1 s => nt (wpIn_ret ?_))
    exact e_tmp_rowG 0 rfl h s row31 rfl rfl rfl (mArr_size _ _) (by rw [q1, q2, t0]; rfl)

theorem jdp_own {w w1 : World} {sx : ByteArray} {b1 b3 : Nat} {vm va vb : Value} {t1 t3 : TypeId} (s : St w [.grp [capk va 0, capk va 1] (Cl2 89 (.func (.func 76) #[] #[.pointer (some ⟨b1, 0, none⟩)]) (.int .i64 2) va), .grp [capk vb 0, capk vb 1] (Cl2 89 (.func (.func 76) #[] #[.pointer (some ⟨b1, 0, none⟩)]) (.int .i64 3) vb), ShM true true true true vm (.func (.func 77) #[] #[.pointer (some ⟨b3, 0, none⟩)]) va vb, .blk b3 (.cells #[(.func (.func 76) #[] #[.pointer (some ⟨b1, 0, none⟩)])] t3), .blk b1 (.cells #[.string sx] t1)] w1) : JdP Tryd.prog sx w (.map (some (mbk vm))) w1 := by
  refine ⟨mbk vm, _, gM true true true (.func (.func 77) #[] #[.pointer (some ⟨b3, 0, none⟩)]) va vb, rfl, (St.group (A := [.grp [capk va 0, capk va 1] (Cl2 89 (.func (.func 76) #[] #[.pointer (some ⟨b1, 0, none⟩)]) (.int .i64 2) va), .grp [capk vb 0, capk vb 1] (Cl2 89 (.func (.func 76) #[] #[.pointer (some ⟨b1, 0, none⟩)]) (.int .i64 3) vb), ShM true true true true vm (.func (.func 77) #[] #[.pointer (some ⟨b3, 0, none⟩)]) va vb, .blk b3 (.cells #[(.func (.func 76) #[] #[.pointer (some ⟨b1, 0, none⟩)])] t3), .blk b1 (.cells #[.string sx] t1)]) (B := []) s).weak fun w9 h9 => ?_⟩
  have hb1 : Tab w9 b1 #[.string sx] := ⟨t1, (0, 0), h9 (.blk b1 (.cells #[.string sx] t1)) (by simp)⟩
  have hb3 : Tab w9 b3 #[(.func (.func 76) #[] #[.pointer (some ⟨b1, 0, none⟩)])] := ⟨t3, (0, 0), h9 (.blk b3 (.cells #[(.func (.func 76) #[] #[.pointer (some ⟨b1, 0, none⟩)])] t3)) (by simp)⟩
  obtain ⟨a1, a2, hva, hA1, hA2⟩ := (h9 (.grp [capk va 0, capk va 1] (Cl2 89 (.func (.func 76) #[] #[.pointer (some ⟨b1, 0, none⟩)]) (.int .i64 2) va)) (by simp)).2 w9 fun _ _ => rfl
  obtain ⟨d1, d2, hvb, hD1, hD2⟩ := (h9 (.grp [capk vb 0, capk vb 1] (Cl2 89 (.func (.func 76) #[] #[.pointer (some ⟨b1, 0, none⟩)]) (.int .i64 3) vb)) (by simp)).2 w9 fun _ _ => rfl
  refine ⟨(h9 (ShM true true true true vm (.func (.func 77) #[] #[.pointer (some ⟨b3, 0, none⟩)]) va vb) (by simp)).2 w9 (fun _ _ => rfl) rfl, gM_no, fun k hk => ?_⟩
  rcases isJ_iff.1 hk with rfl | rfl | rfl
  · exact ⟨_, rfl, _, [.pointer (some ⟨b3, 0, none⟩)], rfl, fnc77, fun m vs h1 h2 h3 h4 h5 h6 => gins_any sx m vs b1 b3 w9 h1 h2 h3 hb1 hb3 h4 h5 h6⟩
  · exact ⟨_, rfl, _, [.pointer (some ⟨a1, 0, none⟩), .pointer (some ⟨a2, 0, none⟩)], hva, fnc89, fun m vs h1 h2 h3 h4 h5 h6 => gech_any sx m vs b1 a1 a2 2 w9 (.inl ⟨h1, rfl⟩) h2 h3 hb1 hA1 hA2 h4 h5 h6⟩
  · exact ⟨_, rfl, _, [.pointer (some ⟨d1, 0, none⟩), .pointer (some ⟨d2, 0, none⟩)], hvb, fnc89, fun m vs h1 h2 h3 h4 h5 h6 => gech_any sx m vs b1 d1 d2 3 w9 (.inr ⟨h1, rfl⟩) h2 h3 hb1 hD1 hD2 h4 h5 h6⟩

theorem gjudges_any (sx : ByteArray) (w : World) : Calls Tryd.prog 61 [.string sx].toArray w (Ret w (JdP Tryd.prog sx w)) := by
  refine c_en Tryd.func61 rfl Tryd.ntmps61 rfl fun f h s => qr (s_box (#[.string sx]) h s rfl rfl rfl fun f w1 b1 h s => e9 hFT9 1 h rfl fun f h => qr (s_pure h (ru_makeFunc [.pointer (some ⟨b1, 0, none⟩)] (evsA h rfl)) rfl fun f h => s_alloc (#[.nilFunc]) h s zero147 rfl rfl fun f w1 b3 h s => s_store_one 0 h s one147 rfl rfl rfl (by simp) (rfl) fun w1 s => nt (c_seqN ?_)))
  replace s : St w [ShM false false false false undef (.func (.func 77) #[] #[.pointer (some ⟨b3, 0, none⟩)]) undef undef, .blk b3 (.cells (#[(.func (.func 76) #[] #[.pointer (some ⟨b1, 0, none⟩)])]) 147), .blk b1 (.cells (#[.string sx]) 9)] _ := s.grp0 (fun w9 h9 => by cases h9)
  refine c_regV 0 [[], [], [0, 1], [], [3], [0, 3, 4], [], [3, 4, 6], [0, 3, 4, 6, 7], [0, 1, 2, 3, 4, 5, 6, 7, 8], [0, 1, 2, 3, 4, 5, 6, 7, 8, 9]] [[], [], [], [], [], [], [], [], [], [], []] [] [] [.f (fun v => v 0 = .map (some (mbk (v 0)))), .v (.func (.func 77) #[] #[.pointer (some ⟨b3, 0, none⟩)]), .n, .v (.func (.func 76) #[] #[.pointer (some ⟨b1, 0, none⟩)]), .m (fun v => [.grp [capk (v 4) 0, capk (v 4) 1] (Cl2 89 (.func (.func 76) #[] #[.pointer (some ⟨b1, 0, none⟩)]) (.int .i64 2) (v 4))]), .n, .v (.func (.func 76) #[] #[.pointer (some ⟨b1, 0, none⟩)]), .m (fun v => [.grp [capk (v 7) 0, capk (v 7) 1] (Cl2 89 (.func (.func 76) #[] #[.pointer (some ⟨b1, 0, none⟩)]) (.int .i64 3) (v 7))]), .n, .f (fun v => v 9 = .map (some (mbk (v 0)))), .f (fun v => v 10 = .map (some (mbk (v 0))))] (fun l v => [ShM (l 0) (l 2) (l 5) (l 8) (v 0) (.func (.func 77) #[] #[.pointer (some ⟨b3, 0, none⟩)]) (v 4) (v 7)]) _ h s rfl (by kernel_rfl) (by kernel_rfl) (by kernel_rfl) (by kernel_rfl) (oAI ?_ (oAI ?_ (oAI ?_ (oAI ?_ (oAI ?_ (oAI ?_ (oAI ?_ (oAI ?_ (oAI ?_ (oAI ?_ (oAI ?_ (trivial)))))))))))) [0, 1, 2, 3, 4, 5, 6, 7, 8, 9, 10] (by kernel_rfl) ?_
  · intro f9 w2 vl2 E9 lst9 hlo hlc hlz hs9 hd9 hl hF hR9 s
    have h := fin_slot [] (hs9.trans h.size) (hd9.trans h.defers) (holds_lk trivial)
    replace s : St w (ShM (lst9 0) (lst9 2) (lst9 5) (lst9 8) (vl2 0) (.func (.func 77) #[] #[.pointer (some ⟨b3, 0, none⟩)]) (vl2 4) (vl2 7) :: .blk b3 (.cells (#[(.func (.func 76) #[] #[.pointer (some ⟨b1, 0, none⟩)])]) 147) :: .blk b1 (.cells (#[.string sx]) 9) :: E9) _ := s
    rw [hlo] at s
    refine s_makeMapG h s rfl ?_; intro f w1 V9 hV9 h s
    have l2 := no_of hlz 0 2 hlo rfl
    have l5 := no_of hlz 0 5 hlo rfl
    have l8 := no_of hlz 0 8 hlo rfl
    replace s : St w (ShM true (lst9 2) (lst9 5) (lst9 8) V9 (.func (.func 77) #[] #[.pointer (some ⟨b3, 0, none⟩)]) (vl2 4) (vl2 7) :: .blk b3 (.cells #[(.func (.func 76) #[] #[.pointer (some ⟨b1, 0, none⟩)])] 147) :: .blk b1 (.cells #[.string sx] 9) :: E9) w1 := by rw [l2, l5, l8]; exact s
    exact s_nil ⟨_, oc_u 5 h rfl rfl, hV9, s⟩
  · intro f9 w2 vl2 E9 lst9 hlo hlc hlz hs9 hd9 hl hF hR9 s
    have h := f9h [(3, _)] h hs9 hd9 ⟨oc_o hl 3 (by kernel_rfl) (h.holds 3 _ rfl), trivial⟩
    refine s_pure h (ru_makeFunc [.pointer (some ⟨b3, 0, none⟩)] (evsA h rfl)) rfl fun f h => s_nil ⟨_, oc_u 6 h rfl rfl, rfl, s⟩
  · intro f9 w2 vl2 E9 lst9 hlo hlc hlz hs9 hd9 hl hF hR9 s
    have h := f9h [(5, .map (some (mbk (vl2 0)))), (6, _)] h hs9 hd9 ⟨oc_g hl 5 0 (by kernel_rfl) (hF 0 (by decide)), oc_g hl 6 1 (by kernel_rfl) (hF 1 (by decide)), trivial⟩
    replace s : St w (ShM (lst9 0) (lst9 2) (lst9 5) (lst9 8) (vl2 0) (.func (.func 77) #[] #[.pointer (some ⟨b3, 0, none⟩)]) (vl2 4) (vl2 7) :: .blk b3 (.cells (#[(.func (.func 76) #[] #[.pointer (some ⟨b1, 0, none⟩)])]) 147) :: .blk b1 (.cells (#[.string sx]) 9) :: E9) _ := s
    have l0 := hlc 0 (by decide)
    rw [l0, hlo] at s
    refine s_insertG (c2 := true) (c4 := (lst9 5)) (c6 := (lst9 8)) 2 h s Tryd.underlying129 Tryd.underlying3 rfl rfl rfl rfl (gM_2 _ _ _ _ _) ?_; intro w1 s
    replace s : St w (ShM (lst9 0) true (lst9 5) (lst9 8) (vl2 0) (.func (.func 77) #[] #[.pointer (some ⟨b3, 0, none⟩)]) (vl2 4) (vl2 7) :: .blk b3 (.cells #[(.func (.func 76) #[] #[.pointer (some ⟨b1, 0, none⟩)])] 147) :: .blk b1 (.cells #[.string sx] 9) :: E9) w1 := by rw [l0]; exact s
    exact s_nil ⟨undef, oc_none rfl, trivial, s⟩
  · intro f9 w2 vl2 E9 lst9 hlo hlc hlz hs9 hd9 hl hF hR9 s
    have h := f9h [(3, _)] h hs9 hd9 ⟨oc_o hl 3 (by kernel_rfl) (h.holds 3 _ rfl), trivial⟩
    refine s_load_one 1 h s one147 rfl rfl (rfl) rfl fun f h => s_nil ⟨_, oc_u 7 h rfl rfl, rfl, s⟩
  · intro f9 w2 vl2 E9 lst9 hlo hlc hlz hs9 hd9 hl hF hR9 s
    have h := f9h [(7, _)] h hs9 hd9 ⟨oc_g hl 7 3 (by kernel_rfl) (hF 3 (by decide)), trivial⟩
    replace s : St w (ShM (lst9 0) (lst9 2) (lst9 5) (lst9 8) (vl2 0) (.func (.func 77) #[] #[.pointer (some ⟨b3, 0, none⟩)]) (vl2 4) (vl2 7) :: .blk b3 (.cells (#[(.func (.func 76) #[] #[.pointer (some ⟨b1, 0, none⟩)])]) 147) :: .blk b1 (.cells (#[.string sx]) 9) :: E9) _ := s
    refine s_call h s fnc79 (gechoed_any b1 2 _) rfl rfl ?_; intro f w1 V9 hG9 hE9 h sq; replace s := s.add hG9; clear hG9
    have lb := no_of hlz 4 5 hlo rfl
    replace s : St w (.grp [capk V9 0, capk V9 1] (Cl2 89 (.func (.func 76) #[] #[.pointer (some ⟨b1, 0, none⟩)]) (.int .i64 2) V9) :: ShM (lst9 0) (lst9 2) (lst9 5) (lst9 8) (vl2 0) (.func (.func 77) #[] #[.pointer (some ⟨b3, 0, none⟩)]) V9 (vl2 7) :: .blk b3 (.cells #[(.func (.func 76) #[] #[.pointer (some ⟨b1, 0, none⟩)])] 147) :: .blk b1 (.cells #[.string sx] 9) :: E9) w1 := by rw [lb] at s ⊢; exact s
    exact s_nil ⟨_, oc_u 8 h rfl rfl, trivial, s⟩
  · intro f9 w2 vl2 E9 lst9 hlo hlc hlz hs9 hd9 hl hF hR9 s
    have e5 : f9.tmps.getD 5 undef = .map (some (mbk (vl2 0))) := (oc_get hl 5 0 (by kernel_rfl) (by kernel_rfl)).trans (hF 0 (by decide))
    have e8 : f9.tmps.getD 8 undef = (vl2 4) := oc_get hl 8 4 (by kernel_rfl) (by kernel_rfl)
    have h := fin_slot [(5, .map (some (mbk (vl2 0)))), (8, (vl2 4))] (hs9.trans h.size) (hd9.trans h.defers) (holds_lk ⟨e5, e8, trivial⟩)
    replace s : St w (ShM (lst9 0) (lst9 2) (lst9 5) (lst9 8) (vl2 0) (.func (.func 77) #[] #[.pointer (some ⟨b3, 0, none⟩)]) (vl2 4) (vl2 7) :: .blk b3 (.cells (#[(.func (.func 76) #[] #[.pointer (some ⟨b1, 0, none⟩)])]) 147) :: .blk b1 (.cells (#[.string sx]) 9) :: E9) _ := s
    have l0 := hlc 0 (by decide)
    rw [l0, hlo] at s
    refine s_insertG (c2 := (lst9 2)) (c4 := true) (c6 := (lst9 8)) 4 h s Tryd.underlying129 Tryd.underlying3 rfl rfl rfl rfl (gM_4 _ _ _ _ _) ?_; intro w1 s
    replace s : St w (ShM (lst9 0) (lst9 2) true (lst9 8) (vl2 0) (.func (.func 77) #[] #[.pointer (some ⟨b3, 0, none⟩)]) (vl2 4) (vl2 7) :: .blk b3 (.cells #[(.func (.func 76) #[] #[.pointer (some ⟨b1, 0, none⟩)])] 147) :: .blk b1 (.cells #[.string sx] 9) :: E9) w1 := by rw [l0]; exact s
    exact s_nil ⟨undef, oc_none rfl, trivial, s⟩
  · intro f9 w2 vl2 E9 lst9 hlo hlc hlz hs9 hd9 hl hF hR9 s
    have h := f9h [(3, _)] h hs9 hd9 ⟨oc_o hl 3 (by kernel_rfl) (h.holds 3 _ rfl), trivial⟩
    refine s_load_one 1 h s one147 rfl rfl (rfl) rfl fun f h => s_nil ⟨_, oc_u 9 h rfl rfl, rfl, s⟩
  · intro f9 w2 vl2 E9 lst9 hlo hlc hlz hs9 hd9 hl hF hR9 s
    have h := f9h [(9, _)] h hs9 hd9 ⟨oc_g hl 9 6 (by kernel_rfl) (hF 6 (by decide)), trivial⟩
    replace s : St w (ShM (lst9 0) (lst9 2) (lst9 5) (lst9 8) (vl2 0) (.func (.func 77) #[] #[.pointer (some ⟨b3, 0, none⟩)]) (vl2 4) (vl2 7) :: .blk b3 (.cells (#[(.func (.func 76) #[] #[.pointer (some ⟨b1, 0, none⟩)])]) 147) :: .blk b1 (.cells (#[.string sx]) 9) :: E9) _ := s
    refine s_call h s fnc79 (gechoed_any b1 3 _) rfl rfl ?_; intro f w1 V9 hG9 hE9 h sq; replace s := s.add hG9; clear hG9
    have lb := no_of hlz 7 8 hlo rfl
    replace s : St w (.grp [capk V9 0, capk V9 1] (Cl2 89 (.func (.func 76) #[] #[.pointer (some ⟨b1, 0, none⟩)]) (.int .i64 3) V9) :: ShM (lst9 0) (lst9 2) (lst9 5) (lst9 8) (vl2 0) (.func (.func 77) #[] #[.pointer (some ⟨b3, 0, none⟩)]) (vl2 4) V9 :: .blk b3 (.cells #[(.func (.func 76) #[] #[.pointer (some ⟨b1, 0, none⟩)])] 147) :: .blk b1 (.cells #[.string sx] 9) :: E9) w1 := by rw [lb] at s ⊢; exact s
    exact s_nil ⟨_, oc_u 10 h rfl rfl, trivial, s⟩
  · intro f9 w2 vl2 E9 lst9 hlo hlc hlz hs9 hd9 hl hF hR9 s
    have e5 : f9.tmps.getD 5 undef = .map (some (mbk (vl2 0))) := (oc_get hl 5 0 (by kernel_rfl) (by kernel_rfl)).trans (hF 0 (by decide))
    have e10 : f9.tmps.getD 10 undef = (vl2 7) := oc_get hl 10 7 (by kernel_rfl) (by kernel_rfl)
    have h := fin_slot [(5, .map (some (mbk (vl2 0)))), (10, (vl2 7))] (hs9.trans h.size) (hd9.trans h.defers) (holds_lk ⟨e5, e10, trivial⟩)
    replace s : St w (ShM (lst9 0) (lst9 2) (lst9 5) (lst9 8) (vl2 0) (.func (.func 77) #[] #[.pointer (some ⟨b3, 0, none⟩)]) (vl2 4) (vl2 7) :: .blk b3 (.cells (#[(.func (.func 76) #[] #[.pointer (some ⟨b1, 0, none⟩)])]) 147) :: .blk b1 (.cells (#[.string sx]) 9) :: E9) _ := s
    have l0 := hlc 0 (by decide)
    rw [l0, hlo] at s
    refine s_insertG (c2 := (lst9 2)) (c4 := (lst9 5)) (c6 := true) 6 h s Tryd.underlying129 Tryd.underlying3 rfl rfl rfl rfl (gM_6 _ _ _ _ _) ?_; intro w1 s
    replace s : St w (ShM (lst9 0) (lst9 2) (lst9 5) true (vl2 0) (.func (.func 77) #[] #[.pointer (some ⟨b3, 0, none⟩)]) (vl2 4) (vl2 7) :: .blk b3 (.cells #[(.func (.func 76) #[] #[.pointer (some ⟨b1, 0, none⟩)])] 147) :: .blk b1 (.cells #[.string sx] 9) :: E9) w1 := by rw [l0]; exact s
    exact s_nil ⟨undef, oc_none rfl, trivial, s⟩
  · intro f9 w2 vl2 E9 lst9 hlo hlc hlz hs9 hd9 hl hF hR9 s
    have h := f9h [(5, .map (some (mbk (vl2 0))))] h hs9 hd9 ⟨oc_g hl 5 0 (by kernel_rfl) (hF 0 (by decide)), trivial⟩
    refine s_run hFT9 1 h rfl fun f h => s_nil ⟨_, oc_u 11 h rfl rfl, rfl, s⟩
  · intro f9 w2 vl2 E9 lst9 hlo hlc hlz hs9 hd9 hl hF hR9 s
    have h := f9h [(11, .map (some (mbk (vl2 0))))] h hs9 hd9 ⟨oc_g hl 11 9 (by kernel_rfl) (hF 9 (by decide)), trivial⟩
    refine s_run hFT9 1 h rfl fun f h => s_nil ⟨_, oc_u 2 h rfl rfl, rfl, s⟩
  intro f w1 vl2 hs9 hd9 hv hr hF s
  replace h := oc_sl (ops := _) [(5, .map (some (mbk (vl2 0)))), (6, _), (7, _), (8, (vl2 4)), (9, _), (10, (vl2 7)), (11, .map (some (mbk (vl2 0)))), (2, .map (some (mbk (vl2 0))))] h hs9 hd9 hr ⟨(hv 0 5 rfl).trans (hF 0 rfl), (hv 1 6 rfl).trans (hF 1 rfl), (hv 3 7 rfl).trans (hF 3 rfl), hv 4 8 rfl, (hv 6 9 rfl).trans (hF 6 rfl), hv 7 10 rfl, (hv 9 11 rfl).trans (hF 9 rfl), (hv 10 2 rfl).trans (hF 10 rfl), trivial⟩ (by kernel_rfl)
  replace s : St w [.grp [capk (vl2 4) 0, capk (vl2 4) 1] (Cl2 89 (.func (.func 76) #[] #[.pointer (some ⟨b1, 0, none⟩)]) (.int .i64 2) (vl2 4)), .grp [capk (vl2 7) 0, capk (vl2 7) 1] (Cl2 89 (.func (.func 76) #[] #[.pointer (some ⟨b1, 0, none⟩)]) (.int .i64 3) (vl2 7)), ShM true true true true (vl2 0) (.func (.func 77) #[] #[.pointer (some ⟨b3, 0, none⟩)]) (vl2 4) (vl2 7), .blk b3 (.cells (#[(.func (.func 76) #[] #[.pointer (some ⟨b1, 0, none⟩)])]) 147), .blk b1 (.cells (#[.string sx]) 9)] _ := s
  refine t_norm (wpIn_ret (e_tmp rfl h s rfl (jdp_own s)))

/- fld31_0 -/
theorem gjudge_any (sx : ByteArray) (hsx : sx.size ≤ 1000) (m : Mg) (vs : Value) (w : World) (hV : RdE w vs m.l) (hml : m.l.length ≤ 1000) (hH : Tab w 0 (wF hTab 8)) (hK : Tab w 1 (wF kTab 64)) : Calls Tryd.prog 43 [.string sx, .agg (mArr m vs)].toArray w (Ret w (GdP w vs m (gdA sx m) (gdK sx m) (gdE sx m))) := by
  refine c_en Tryd.func43 rfl Tryd.ntmps43 rfl fun f h s => qr (s_box (mArr m vs) h s rfl rfl rfl fun f w1 b3 h s => s_run hFT9 1 h rfl fun f h => s_alloc (mArr mZ nilV) h s zero31 rfl rfl fun f w1 b5 h s => e9 hFT9 1 h rfl fun f h => c_seqN (c_regG (γ := List Nat × (Int → Option Value)) 0 [[], [0], [], [2], [0, 1, 2, 3], [0, 1, 2, 3, 4], [0, 1, 2, 3, 4, 5], [0, 1, 2, 3, 4, 5], [0, 1, 2, 3, 4, 5, 6], [0, 1, 2, 3, 4, 5, 6, 7, 8]] [[], [], [], [], [1], [], [], [], [], []] [] [.v _, .r (fun v => [.grp (v 1).2.1 (fun w9 => JdS Tryd.prog w9 (mbk (v 1).1) (v 1).2.2 sx)]) (fun v => (v 1).1 = .map (some (mbk (v 1).1))), .v _, .v (.int .i64 m.k), .r (fun v => [.grp (v 4).2.1 (fun w9 => isJ m.k = true → ClS Tryd.prog w9 (tup0 (v 4).1) sx m.k)]) (fun v => (v 4).1 = .tuple #[tup0 (v 4).1, .bool (isJ m.k)]), .f (fun v => (v 5).1 = .tuple #[tup0 (v 4).1, .bool (isJ m.k)]), .f (fun v => (v 6).1 = tup0 (v 4).1), .v (.bool (isJ m.k)), .f (fun v => (v 8).1 = tup0 (v 4).1), .v _] _ h s rfl (by kernel_rfl) (by kernel_rfl) (by kernel_rfl) (oPv hFT9 h rfl rfl rfl (oAI ?_ (oPv hFT9 h rfl rfl rfl (oAI ?_ (oAI ?_ (oAI ?_ (oAI ?_ (oAI ?_ (oAI ?_ (oPv hFT9 h rfl rfl rfl (trivial))))))))))) [0, 2, 3, 4, 5, 6, 7, 8, 9] (by kernel_rfl) ?_))
  · intro f9 w2 vl1 E9 hs9 hd9 hl hF s
    have h := f9h [(12, _)] h hs9 hd9 ⟨oc_g hl 12 0 (by kernel_rfl) (hF 0 (by decide)), trivial⟩
    refine s_call h s fnc61 (gjudges_any sx _) rfl rfl ?_; rintro f w1 v13 ⟨mb, kj, gj, hv13, hG⟩ hE h sq; subst hv13; replace s := s.add hG; clear hG
    exact s_nil ⟨(_, (kj, gj)), oc_u 13 h rfl rfl, rfl, s⟩
  · intro f9 w2 vl1 E9 hs9 hd9 hl hF s
    have h := f9h [(14, _)] h hs9 hd9 ⟨oc_g hl 14 2 (by kernel_rfl) (hF 2 (by decide)), trivial⟩
    refine s_load_at1 (cell_of_has (Has.of_own s 1 rfl) 0 (mArr_k _ _)) h one3 rfl rfl fun f h => s_nil ⟨(_, default), oc_u 15 h rfl rfl, rfl, s⟩
  · intro f9 w2 vl1 E9 hs9 hd9 hl hF s
    have h := f9h [(13, .map (some (mbk (vl1 1).1))), (15, _)] h hs9 hd9 ⟨oc_g hl 13 1 (by kernel_rfl) (hF 1 (by decide)), oc_g hl 15 3 (by kernel_rfl) (hF 3 (by decide)), trivial⟩
    have hJ9 := s.getG 0 rfl
    refine s_lookG (Z := .nilFunc) h hJ9.1 Tryd.underlying129 Tryd.underlying3 zero127 rfl rfl rfl ?_; intro f h
    rw [js_some hJ9 m.k] at h
    replace s := s.weak (S' := fun w9 => isJ m.k = true → ClS Tryd.prog w9 (((vl1 1).2.2 m.k).getD .nilFunc) sx m.k) (fun w9 h9 hJ => js_get h9 hJ)
    exact s_nil ⟨(_, ((vl1 1).2.1, default)), oc_u 16 h rfl rfl, rfl, s⟩
  · intro f9 w2 vl1 E9 hs9 hd9 hl hF s
    have h := f9h [(16, .tuple #[tup0 (vl1 4).1, .bool (isJ m.k)])] h hs9 hd9 ⟨oc_g hl 16 4 (by kernel_rfl) (hF 4 (by decide)), trivial⟩
    refine s_run hFT9 1 h rfl fun f h => s_nil ⟨(_, default), oc_u 11 h rfl rfl, rfl, s⟩
  · intro f9 w2 vl1 E9 hs9 hd9 hl hF s
    have h := f9h [(11, .tuple #[tup0 (vl1 4).1, .bool (isJ m.k)])] h hs9 hd9 ⟨oc_g hl 11 5 (by kernel_rfl) (hF 5 (by decide)), trivial⟩
    refine s_run hFT9 1 h rfl fun f h => s_nil ⟨(_, default), oc_u 17 h rfl rfl, rfl, s⟩
  · intro f9 w2 vl1 E9 hs9 hd9 hl hF s
    have h := f9h [(11, .tuple #[tup0 (vl1 4).1, .bool (isJ m.k)])] h hs9 hd9 ⟨oc_g hl 11 5 (by kernel_rfl) (hF 5 (by decide)), trivial⟩
    refine s_run hFT9 1 h rfl fun f h => s_nil ⟨(_, default), oc_u 18 h rfl rfl, rfl, s⟩
  · intro f9 w2 vl1 E9 hs9 hd9 hl hF s
    have h := f9h [(17, tup0 (vl1 4).1)] h hs9 hd9 ⟨oc_g hl 17 6 (by kernel_rfl) (hF 6 (by decide)), trivial⟩
    refine s_run hFT9 1 h rfl fun f h => s_nil ⟨(_, default), oc_u 7 h rfl rfl, rfl, s⟩
  intro f w1 vl1 hs9 hd9 hv hr hF s
  replace h := oc_sl (ops := _) [(12, _), (13, .map (some (mbk (vl1 1).1))), (14, _), (15, _), (16, .tuple #[tup0 (vl1 4).1, .bool (isJ m.k)]), (11, .tuple #[tup0 (vl1 4).1, .bool (isJ m.k)]), (17, tup0 (vl1 4).1), (18, _), (7, tup0 (vl1 4).1), (8, _)] h hs9 hd9 hr ⟨(hv 0 12 rfl).trans (hF 0 rfl), (hv 1 13 rfl).trans (hF 1 rfl), (hv 2 14 rfl).trans (hF 2 rfl), (hv 3 15 rfl).trans (hF 3 rfl), (hv 4 16 rfl).trans (hF 4 rfl), (hv 5 11 rfl).trans (hF 5 rfl), (hv 6 17 rfl).trans (hF 6 rfl), (hv 7 18 rfl).trans (hF 7 rfl), (hv 8 7 rfl).trans (hF 8 rfl), (hv 9 8 rfl).trans (hF 9 rfl), trivial⟩ (by kernel_rfl)
  replace s : St w [.grp (vl1 4).2.1 (fun w9 => isJ m.k = true → ClS Tryd.prog w9 (tup0 (vl1 4).1) sx m.k), .blk b5 (.cells (mArr mZ nilV) 31), .blk b3 (.cells (mArr m vs) 31)] _ := s
  refine t_norm (c_seqN (c_seqN ?_))
  refine c_region (s_ax hFT9 h rfl (fun j0 f h => ?_) (fun j0 f h => ?_))
  · refine e9 hFT9 6 h rfl fun f h => c_ct h rfl (qr (s_pure h (ru_build_m0 sttM) rfl fun f h => s_run hFT9 1 h rfl fun f h => s_store_row 1 h s row31 rfl rfl rfl (mArr_size _ _) (mArr_size _ _) (mArr_ones _ _ rfl) fun w1 s => e9 hFT9 1 h rfl fun f h => rt ?_))
    exact e_tmp_row_tmp 1 rfl h s row31 rfl rfl rfl (mArr_size _ _) rfl (by obtain ⟨q1, q2, q3⟩ := gd_no (s := sx) (m := m) (by rw [about_j, j0, Bool.and_false]); rw [q1, q2, q3]; exact gdP_nil rfl s.ext)
  · skip
    refine s_run hFT9 2 h rfl fun f h => s_o h rfl (s_load_row 2 h s row31 rfl rfl (mArr_size _ _) rfl fun f h => s_o h rfl (s_cx h s fnc11 (wright_any m vs _ (hV.keep s.ext) (by omega)) rfl rfl (fun r0 f w1 h s => ?_) (fun r0 f w1 h s => ?_)))
    · refine e9 hFT9 2 h rfl fun f h => c_ct h rfl (qr (s_pure h (ru_build_m0 sttM) rfl fun f h => s_run hFT9 1 h rfl fun f h => s_store_row 1 h s row31 rfl rfl rfl (mArr_size _ _) (mArr_size _ _) (mArr_ones _ _ rfl) fun w1 s => e9 hFT9 1 h rfl fun f h => rt ?_))
      exact e_tmp_row_tmp 1 rfl h s row31 rfl rfl rfl (mArr_size _ _) rfl (by obtain ⟨q1, q2, q3⟩ := gd_no (s := sx) (m := m) (by rw [about_j, r0, Bool.false_and]); rw [q1, q2, q3]; exact gdP_nil rfl s.ext)
    · refine e9 hFT9 2 h rfl fun f h => cfk h rfl (c_seqN (qrs hFT9 1 h rfl fun f h => s_pure h (ru_len_str Tryd.underlying9 (h.ev rfl)) rfl fun f h => e9 hFT9 1 h rfl fun f h => c_cond h rfl (fun hc => ?_) (fun hc => ?_)))
      · have hs9 := of_decide_eq_true hc
        refine qr (s_pure h (ru_build_m0 sttM) rfl fun f h => s_run hFT9 1 h rfl fun f h => s_store_row 1 h s row31 rfl rfl rfl (mArr_size _ _) (mArr_size _ _) (mArr_ones _ _ rfl) fun w1 s => e9 hFT9 1 h rfl fun f h => rt ?_)
        exact e_tmp_row_tmp 1 rfl h s row31 rfl rfl rfl (mArr_size _ _) rfl (by obtain ⟨q1, q2, q3⟩ := gd_long (s := sx) (m := m) (by rw [about_j, r0, j0]; rfl) (by omega); rw [q1, q2, q3]; exact gdP_nil rfl s.ext)
      · have hs9 := of_decide_eq_false hc
        refine kt (qrs hFT9 1 h rfl fun f h => s_load_row 2 h s row31 rfl rfl (mArr_size _ _) rfl fun f h => ?_)
        have ha : aboutM m = true := by rw [about_j, r0, j0]; rfl
        obtain ⟨f5, c5, hv5, hf5, hC5⟩ := (s.getG 0 rfl) j0
        rw [hv5] at h
        refine s_callV [.agg (mArr m vs)] (caps := c5) h s hf5 rfl (hC5 m vs rfl ha (by omega) (hV.keep s.ext) (hH.keep s.ext) (hK.keep s.ext)) rfl rfl ?_; intro f w1 v9 hT hE h s; obtain rfl := hT
        refine s_run hFT9 3 h rfl fun f h => s_alloc (mArr mZ nilV) h s zero31 rfl rfl fun f w1 b10 h s => s_run hFT9 1 h rfl fun f h => s_store_row 0 h s row31 rfl rfl rfl (mArr_size _ _) (mArr_size _ _) (mArr_ones _ _ rfl) fun w1 s => nt (c_seqN (c_wA 3 h (by kernel_rfl) (w_run hFT9 1 h rfl fun f h => w_load_row 0 h s row31 rfl rfl (mArr_size _ _) rfl fun f h => w_run hFT9 1 h rfl fun f h => w_nil s fun w1 s => s_store_row 2 h s row31 rfl rfl rfl (mArr_size _ _) (mArr_size _ _) (mArr_ones _ _ rfl) fun w1 s => e9 hFT9 1 h rfl fun f h => wpIn_ret ?_)))
        exact e_tmp_row_tmp 2 rfl h s row31 rfl rfl rfl (mArr_size _ _) rfl (by obtain ⟨q1, q2, q3⟩ := gd_ok (s := sx) ha (by omega); rw [q1, q2, q3]; exact gdP_nil (judA_l _ _).1 s.ext)

theorem gtrig_any (m : Mg) (vs : Value) (now : Int) (w : World) (hV : RdE w vs m.l) (hml : m.l.length ≤ 1000) : Calls Tryd.prog 62 [.agg (mArr m vs), .int .i64 now].toArray w (Ret w (is (.tuple #[.agg (tgArr (tgT m now)), .int .i64 (tgE m now)]))) := by
  refine c_en Tryd.func62 rfl Tryd.ntmps62 rfl fun f h s => qr (s_box (mArr m vs) h s rfl rfl rfl fun f w1 b2 h s => s_alloc (tgArr zTg) h s zero41 rfl rfl fun f w1 b4 h s => e9 hFT9 1 h rfl fun f h => c_seqN ?_)
  refine rs hFT9 1 h rfl fun f h => s_load_at1 (cell_of_has (Has.of_own s 1 rfl) 0 (mArr_k _ _)) h one3 rfl rfl fun f h => s_ax hFT9 h rfl (fun k2 f h => ?_) (fun k2 f h => ?_)
  · skip
    refine s_run hFT9 2 h rfl fun f h => s_o h rfl (s_load_at1 (cell_of_has (Has.of_own s 1 rfl) 0 (mArr_k _ _)) h one3 rfl rfl fun f h => s_o h rfl (s_ax hFT9 h rfl (fun k4 f h => ?_) (fun k4 f h => ?_)))
    · refine e9 hFT9 2 h rfl fun f h => c_seqN (qre hFT9 15 h rfl fun f h => c_ct h rfl (qr (s_pure h (ru_build_tg0 sttG) rfl fun f h => s_store_row 0 h s row41 rfl rfl rfl (tgArr_size _) (tgArr_size _) (tgArr_ones _) fun w1 s => e9 hFT9 1 h rfl fun f h => rt (e_row_tmp 0 rfl h s row41 rfl rfl (tgArr_size _) rfl (by obtain ⟨q1, q2⟩ := tg_n (m := m) (now := now) (tb_24 now k2 k4); rw [q1, q2]; rfl)))))
    · refine e9 hFT9 2 h rfl fun f h => c_seqN (c_seqN ?_)
      refine rs hFT9 3 h rfl fun f h => s_o h rfl (s_load_row 1 h s row31 rfl rfl (mArr_size _ _) rfl fun f h => s_o h rfl (s_cx h s fnc11 (wright_any m vs _ (hV.keep s.ext) (by omega)) rfl rfl (fun r0 f w1 h s => ?_) (fun r0 f w1 h s => ?_)))
      · refine e9 hFT9 10 h rfl fun f h => c_ct h rfl (qr (s_pure h (ru_build_tg0 sttG) rfl fun f h => s_store_row 0 h s row41 rfl rfl rfl (tgArr_size _) (tgArr_size _) (tgArr_ones _) fun w1 s => e9 hFT9 1 h rfl fun f h => rt (e_row_tmp 0 rfl h s row41 rfl rfl (tgArr_size _) rfl (by obtain ⟨q1, q2⟩ := tg_n (m := m) (now := now) (tb_0 now (by rw [about_j, r0]; rfl)); rw [q1, q2]; rfl))))
      · skip
        refine s_run hFT9 4 h rfl fun f h => s_o h rfl (s_ax hFT9 h rfl (fun n0 f h => ?_) (fun n0 f h => ?_))
        · skip
          refine s_run hFT9 3 h rfl fun f h => s_o h rfl (s_ax hFT9 h rfl (fun n1 f h => ?_) (fun n1 f h => ?_))
          · refine e9 hFT9 1 h rfl fun f h => cfk h rfl (qr ?_)
            obtain ⟨y1, y2⟩ := about_n (about_iff.2 ⟨r0, .inr (.inl (of_decide_eq_true k4))⟩) (decide_eq_false (by have := of_decide_eq_true k4; omega))
            have y3 := of_decide_eq_false n0
            have y4 := of_decide_eq_false n1
            refine s_run hFT9 1 h rfl fun f h => s_load_at (Has.subL (Has.of_own s 1 rfl) 1 32 (D := idArr (_)) (mArr_i _ _)) h row26 rfl (by first | exact idArr_size _ | exact bytesF_size _ _) rfl fun f h => s_run hFT9 1 h rfl fun f h => s_load_at (Has.subL (Has.of_own s 1 rfl) 33 34 (D := eArr (_)) (mArr_t _ _)) h row28 rfl (eArr_size _) rfl fun f h => s_run hFT9 2 h rfl fun f h => s_load_at1 (cell_of_has (Has.of_own s 1 rfl) 68 (mArr_n _ _)) h one3 rfl rfl fun f h => s_pure h (ru_add (h.ev rfl) (h.ev rfl) (by omega)) rfl fun f h => s_pure h (ru_val (.int .i64 (min (now + m.n) 1099511627776)) (ru_min (h.ev rfl) (h.ev rfl)) (congrArg (Value.int .i64) (by omega))) rfl fun f h => s_pure h (ru_build_tg3 sttG (h.ev rfl) (h.ev rfl) (h.ev rfl)) rfl fun f h => s_store_row 0 h s row41 rfl rfl rfl (tgArr_size _) (tgArr_size _) (tgArr_ones _) fun w1 s => e9 hFT9 1 h rfl fun f h => wpIn_ret (e_row_tmp 0 rfl h s row41 rfl rfl (tgArr_size _) rfl (by obtain ⟨q1, q2⟩ := tg_y (m := m) (now := now) (tb_y (about_iff.2 ⟨r0, .inr (.inl (of_decide_eq_true k4))⟩) (decide_eq_false (by have := of_decide_eq_true k4; omega)) n0 n1); rw [q1, q2]; rfl))
          · refine e9 hFT9 1 h rfl fun f h => c_ct h rfl (qr (s_pure h (ru_build_tg0 sttG) rfl fun f h => s_store_row 0 h s row41 rfl rfl rfl (tgArr_size _) (tgArr_size _) (tgArr_ones _) fun w1 s => e9 hFT9 1 h rfl fun f h => rt (e_row_tmp 0 rfl h s row41 rfl rfl (tgArr_size _) rfl (by obtain ⟨q1, q2⟩ := tg_n (m := m) (now := now) (tb_3 n1); rw [q1, q2]; rfl))))
        · refine e9 hFT9 5 h rfl fun f h => c_ct h rfl (qr (s_pure h (ru_build_tg0 sttG) rfl fun f h => s_store_row 0 h s row41 rfl rfl rfl (tgArr_size _) (tgArr_size _) (tgArr_ones _) fun w1 s => e9 hFT9 1 h rfl fun f h => rt (e_row_tmp 0 rfl h s row41 rfl rfl (tgArr_size _) rfl (by obtain ⟨q1, q2⟩ := tg_n (m := m) (now := now) (tb_2 n0); rw [q1, q2]; rfl))))
  · refine e9 hFT9 6 h rfl fun f h => c_seqN (c_seqN ?_)
    refine rs hFT9 3 h rfl fun f h => s_o h rfl (s_load_row 1 h s row31 rfl rfl (mArr_size _ _) rfl fun f h => s_o h rfl (s_cx h s fnc11 (wright_any m vs _ (hV.keep s.ext) (by omega)) rfl rfl (fun r0 f w1 h s => ?_) (fun r0 f w1 h s => ?_)))
    · refine e9 hFT9 10 h rfl fun f h => c_ct h rfl (qr (s_pure h (ru_build_tg0 sttG) rfl fun f h => s_store_row 0 h s row41 rfl rfl rfl (tgArr_size _) (tgArr_size _) (tgArr_ones _) fun w1 s => e9 hFT9 1 h rfl fun f h => rt (e_row_tmp 0 rfl h s row41 rfl rfl (tgArr_size _) rfl (by obtain ⟨q1, q2⟩ := tg_n (m := m) (now := now) (tb_0 now (by rw [about_j, r0]; rfl)); rw [q1, q2]; rfl))))
    · skip
      refine s_run hFT9 4 h rfl fun f h => s_o h rfl (s_ax hFT9 h rfl (fun n0 f h => ?_) (fun n0 f h => ?_))
      · skip
        refine s_run hFT9 3 h rfl fun f h => s_o h rfl (s_ax hFT9 h rfl (fun n1 f h => ?_) (fun n1 f h => ?_))
        · refine e9 hFT9 1 h rfl fun f h => cfk h rfl (qr ?_)
          obtain ⟨y1, y2⟩ := about_n (about_iff.2 ⟨r0, .inl (of_decide_eq_true k2)⟩) (decide_eq_false (by have := of_decide_eq_true k2; omega))
          have y3 := of_decide_eq_false n0
          have y4 := of_decide_eq_false n1
          refine s_run hFT9 1 h rfl fun f h => s_load_at (Has.subL (Has.of_own s 1 rfl) 1 32 (D := idArr (_)) (mArr_i _ _)) h row26 rfl (by first | exact idArr_size _ | exact bytesF_size _ _) rfl fun f h => s_run hFT9 1 h rfl fun f h => s_load_at (Has.subL (Has.of_own s 1 rfl) 33 34 (D := eArr (_)) (mArr_t _ _)) h row28 rfl (eArr_size _) rfl fun f h => s_run hFT9 2 h rfl fun f h => s_load_at1 (cell_of_has (Has.of_own s 1 rfl) 68 (mArr_n _ _)) h one3 rfl rfl fun f h => s_pure h (ru_add (h.ev rfl) (h.ev rfl) (by omega)) rfl fun f h => s_pure h (ru_val (.int .i64 (min (now + m.n) 1099511627776)) (ru_min (h.ev rfl) (h.ev rfl)) (congrArg (Value.int .i64) (by omega))) rfl fun f h => s_pure h (ru_build_tg3 sttG (h.ev rfl) (h.ev rfl) (h.ev rfl)) rfl fun f h => s_store_row 0 h s row41 rfl rfl rfl (tgArr_size _) (tgArr_size _) (tgArr_ones _) fun w1 s => e9 hFT9 1 h rfl fun f h => wpIn_ret (e_row_tmp 0 rfl h s row41 rfl rfl (tgArr_size _) rfl (by obtain ⟨q1, q2⟩ := tg_y (m := m) (now := now) (tb_y (about_iff.2 ⟨r0, .inl (of_decide_eq_true k2)⟩) (decide_eq_false (by have := of_decide_eq_true k2; omega)) n0 n1); rw [q1, q2]; rfl))
        · refine e9 hFT9 1 h rfl fun f h => c_ct h rfl (qr (s_pure h (ru_build_tg0 sttG) rfl fun f h => s_store_row 0 h s row41 rfl rfl rfl (tgArr_size _) (tgArr_size _) (tgArr_ones _) fun w1 s => e9 hFT9 1 h rfl fun f h => rt (e_row_tmp 0 rfl h s row41 rfl rfl (tgArr_size _) rfl (by obtain ⟨q1, q2⟩ := tg_n (m := m) (now := now) (tb_3 n1); rw [q1, q2]; rfl))))
      · refine e9 hFT9 5 h rfl fun f h => c_ct h rfl (qr (s_pure h (ru_build_tg0 sttG) rfl fun f h => s_store_row 0 h s row41 rfl rfl rfl (tgArr_size _) (tgArr_size _) (tgArr_ones _) fun w1 s => e9 hFT9 1 h rfl fun f h => rt (e_row_tmp 0 rfl h s row41 rfl rfl (tgArr_size _) rfl (by obtain ⟨q1, q2⟩ := tg_n (m := m) (now := now) (tb_2 n0); rw [q1, q2]; rfl))))
end Go.Proofs.YtobfeflheaobiaaDoor
