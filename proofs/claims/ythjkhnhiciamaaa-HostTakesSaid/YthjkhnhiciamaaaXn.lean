/- Rows of things: where one stands, which rows may be, those that stay; which hosts may be; copies. -/
import Derived.Test.YthjkhnhiciamaaaXk
set_option linter.unusedVariables false
set_option linter.unusedSimpArgs false
set_option linter.unusedSectionVars false
namespace Go.Proofs.Ythjkhnhiciamaaa
open Go.RowKit
theorem qtime_any (n : Int) (w : World) : Calls Try.prog 36 [.int .i64 n].toArray w (Ret w (is (.bool (inb n 0 1099511627776)))) := by
  refine c_en Try.func36 rfl Try.ntmps36 rfl fun f h s => qre hFT9 1 h rfl fun f h => c_seqN ?_
  refine rs hFT9 1 h rfl fun f h => s_ax hFT9 h rfl (fun h0 f h => ?_) (fun h0 f h => ?_)
  · refine e9 hFT9 5 h rfl fun f h => wpIn_ret (e_tmp rfl h s rfl (by show _ = _; unfold inb; rw [h0] <;> rfl))
  · refine e9 hFT9 5 h rfl fun f h => wpIn_ret (e_tmp rfl h s rfl (by show _ = _; unfold inb; rw [h0] <;> rfl))

theorem qhst_any (n : Int) (w : World) : Calls Try.prog 56 [.int .i64 n].toArray w (Ret w (is (.bool (inb n 0 15)))) := by
  refine c_en Try.func56 rfl Try.ntmps56 rfl fun f h s => qre hFT9 1 h rfl fun f h => c_seqN ?_
  refine rs hFT9 1 h rfl fun f h => s_ax hFT9 h rfl (fun h0 f h => ?_) (fun h0 f h => ?_)
  · refine e9 hFT9 5 h rfl fun f h => wpIn_ret (e_tmp rfl h s rfl (by show _ = _; unfold inb; rw [h0] <;> rfl))
  · refine s_run hFT9 2 h rfl fun f h => s_o h rfl (s_as hFT9 (.bool (decide (n ≤ 15))) h rfl (congrArg Value.bool (decide_eq_decide.2 (by omega))) rfl fun f h => e9 hFT9 2 h rfl fun f h => wpIn_ret (e_tmp rfl h s rfl (by show _ = _; unfold inb; rw [h0] <;> rfl)))

theorem qsrv_any (n : Int) (w : World) : Calls Try.prog 57 [.int .i64 n].toArray w (Ret w (is (.bool (inb n 0 15)))) := by
  refine c_en Try.func57 rfl Try.ntmps57 rfl fun f h s => qre hFT9 1 h rfl fun f h => c_seqN ?_
  refine rs hFT9 1 h rfl fun f h => s_ax hFT9 h rfl (fun h0 f h => ?_) (fun h0 f h => ?_)
  · refine e9 hFT9 5 h rfl fun f h => wpIn_ret (e_tmp rfl h s rfl (by show _ = _; unfold inb; rw [h0] <;> rfl))
  · refine s_run hFT9 2 h rfl fun f h => s_o h rfl (s_as hFT9 (.bool (decide (n ≤ 15))) h rfl (congrArg Value.bool (decide_eq_decide.2 (by omega))) rfl fun f h => e9 hFT9 2 h rfl fun f h => wpIn_ret (e_tmp rfl h s rfl (by show _ = _; unfold inb; rw [h0] <;> rfl)))

theorem nid_any (x : Id) (w : World) : Calls Try.prog 37 [idV x].toArray w (Ret w (is (idV x))) := by
  refine c_en Try.func37 rfl Try.ntmps37 rfl fun f h s => qr (s_box (idArr x) h s rfl rfl rfl fun f w1 b1 h s => s_alloc (idArr 0#256) h s zero28 rfl rfl fun f w1 b2 h s => nt (qrs hFT9 1 h rfl fun f h => s_load_at (Has.subL (Has.of_own s 1 rfl) 0 32 (D := idArr x) (id_all x)) h row28 rfl (by first | exact idArr_size _ | exact bytesF_size _ _) rfl fun f h => s_store_row 0 h s row28 rfl rfl rfl (by first | exact idArr_size _ | exact bytesF_size _ _) (by first | exact idArr_size _ | exact bytesF_size _ _) (by first | exact idArr_ones _ | exact bytesF_ones _ _) fun w1 s => nt (wpIn_ret (e_row 0 rfl h s row28 rfl rfl (by first | exact idArr_size _ | exact bytesF_size _ _) (rfl)))))

theorem qwr_any (y : Wn) (w : World) : Calls Try.prog 30 [.agg (wnArr y)].toArray w (Ret w (is (.bool (inb y.2 1 1048576)))) := by
  refine c_en Try.func30 rfl Try.ntmps30 rfl fun f h s => qr (s_box (wnArr y) h s rfl rfl rfl fun f w1 b1 h s => e9 hFT9 1 h rfl fun f h => c_seqN ?_)
  refine rs hFT9 1 h rfl fun f h => s_load_at1 (V := .int .i64 y.2) (cell_of_has (Has.of_own s 0 rfl) 32 (wnArr_life _)) h one3 rfl rfl fun f h => s_ax hFT9 h rfl (fun h0 f h => ?_) (fun h0 f h => ?_)
  · refine e9 hFT9 6 h rfl fun f h => wpIn_ret (e_tmp rfl h s rfl (by show _ = _; unfold inb; rw [h0] <;> rfl))
  · refine s_run hFT9 2 h rfl fun f h => s_o h rfl (s_load_at1 (V := .int .i64 y.2) (cell_of_has (Has.of_own s 0 rfl) 32 (wnArr_life _)) h one3 rfl rfl fun f h => e9 hFT9 3 h rfl fun f h => wpIn_ret (e_tmp rfl h s rfl (by show _ = _; unfold inb; rw [h0] <;> rfl)))

theorem qhr_any (y : Hn) (w : World) : Calls Try.prog 95 [.agg (hnArr y)].toArray w (Ret w (is (.bool (rgN y)))) := by
  refine c_en Try.func95 rfl Try.ntmps95 rfl fun f h s => qr (s_box (hnArr y) h s rfl rfl rfl fun f w1 b1 h s => e9 hFT9 1 h rfl fun f h => c_seqN ?_)
  refine rs hFT9 1 h rfl fun f h => s_load_at1 (V := .int .i64 y.2.1) (cell_of_has (Has.of_own s 0 rfl) 32 (hnArr_no _)) h one3 rfl rfl fun f h => s_cx h s fnc57 (qsrv_any y.2.1 _) rfl rfl (fun h0 f w1 h s => ?_) (fun h0 f w1 h s => ?_)
  · refine e9 hFT9 6 h rfl fun f h => wpIn_ret (e_tmp rfl h s rfl (by show _ = _; unfold rgN; rw [h0] <;> rfl))
  · refine s_run hFT9 2 h rfl fun f h => s_o h rfl (s_load_at1 (V := .int .i64 y.2.2) (cell_of_has (Has.of_own s 0 rfl) 33 (hnArr_until _)) h one3 rfl rfl fun f h => s_o h rfl (s_cv h s fnc36 (qtime_any y.2.2 _) rfl rfl fun f w1 h s => e9 hFT9 2 h rfl fun f h => wpIn_ret (e_tmp rfl h s rfl (by show _ = _; unfold rgN; rw [h0] <;> rfl))))

theorem met_rw (v : Value) : Met Try.prog 79 v "posthouse/host.right" 30 := fun w => by kernel_rfl
theorem met_iw (x : Wn) : MetV Try.prog 79 (.agg (wnArr x)) "posthouse/host.id" 37 (.agg (idArr x.1)) := fun w => by
  rw [← wnArr_id x]; generalize wnArr x = C; kernel_rfl
theorem met_rh (v : Value) : Met Try.prog 105 v "posthouse/host.right" 95 := fun w => by kernel_rfl
theorem met_ih (x : Hn) : MetV Try.prog 105 (.agg (hnArr x)) "posthouse/host.id" 37 (.agg (idArr x.1)) := fun w => by
  rw [← hnArr_id x]; generalize hnArr x = C; kernel_rfl

theorem plfw_any (y : Wn) (x : Id) (bx : Nat) (w : World) (hb : Tab w bx (idArr x)) : Calls Try.prog 62 [.agg (wnArr y), .pointer (some ⟨bx, 0, none⟩)].toArray w (Ret w (is (.bool (decide (y.1 = x))))) := by
  refine c_en Try.func62 rfl Try.ntmps62 rfl fun f h s => qr (s_box (wnArr y) h s rfl rfl rfl fun f w1 b2 h s => e9 hFT9 1 h rfl fun f h => c_seqN (c_wA 6 h (by kernel_rfl) (w_load_row 0 h s row79 rfl rfl (wnArr_size _) rfl fun f h => w_pure h (ru_makeIface Try.underlying79 rfl (h.ev rfl)) rfl fun f h => w_callP h fnc37 (met_iw _) rfl (fun w9 hE9 => nid_any y.1 w9) rfl ?_))); intro f h
  refine w_load_at (Has.subL (Has.of_tab (hb.keep s.ext)) 0 32 (D := idArr x) (id_all x)) h row28 rfl (by first | exact idArr_size _ | exact bytesF_size _ _) rfl fun f h => w_pure h (ru_eql_id idTy (h.ev rfl) (h.ev rfl)) rfl fun f h => w_run hFT9 1 h rfl fun f h => w_nil s fun w1 s => nt (wpIn_ret (e_tmp rfl h s rfl (rfl)))

theorem wofw_any (y : Wn) (x : Id) (bx : Nat) (w : World) (hb : Tab w bx (idArr x)) : Calls Try.prog 64 [.agg (wnArr y), .pointer (some ⟨bx, 0, none⟩)].toArray w (Ret w (is (.bool (decide (y.1 = x))))) := by
  refine c_en Try.func64 rfl Try.ntmps64 rfl fun f h s => qr (s_box (wnArr y) h s rfl rfl rfl fun f w1 b2 h s => e9 hFT9 1 h rfl fun f h => c_seqN (c_wA 6 h (by kernel_rfl) (w_load_row 0 h s row79 rfl rfl (wnArr_size _) rfl fun f h => w_pure h (ru_makeIface Try.underlying79 rfl (h.ev rfl)) rfl fun f h => w_callP h fnc37 (met_iw _) rfl (fun w9 hE9 => nid_any y.1 w9) rfl ?_))); intro f h
  refine w_load_at (Has.subL (Has.of_tab (hb.keep s.ext)) 0 32 (D := idArr x) (id_all x)) h row28 rfl (by first | exact idArr_size _ | exact bytesF_size _ _) rfl fun f h => w_pure h (ru_eql_id idTy (h.ev rfl) (h.ev rfl)) rfl fun f h => w_run hFT9 1 h rfl fun f h => w_nil s fun w1 s => nt (wpIn_ret (e_tmp rfl h s rfl (rfl)))

theorem ixfw_any (l : List Wn) (vh : Value) (g9 : Nat) (caps : List Value) (p : Wn → Bool) (w : World) (hR : RdZ w vh 33 l.length (wnCells l)) (hln : l.length ≤ 1000) (hg : Fnc Try.prog g9) (hp : ∀ w9, Ext w w9 → ∀ x ∈ l, Calls Try.prog g9 (.agg (wnArr x) :: caps).toArray w9 (Ret w9 (is (.bool (p x))))) : Calls Try.prog 61 [vh, .func (.func g9) #[] caps.toArray].toArray w (Ret w (fun v _ => ∃ r : Int, v = .int .i64 r ∧ ((r = -1 ∧ ∀ x ∈ l, p x = false) ∨ ∃ k : Nat, k < l.length ∧ r = (k : Int) ∧ p (l.getD k zWn) = true ∧ ∀ i, i < k → p (l.getD i zWn) = false))) := by
  refine c_en Try.func61 rfl Try.ntmps61 rfl fun f h s => qre hFT9 1 h rfl fun f h => c_seqN (qrs hFT9 1 h rfl fun f h => s_lz h (hR.keep s.ext) Try.underlying71 rfl rfl fun f h => e9 hFT9 1 h rfl fun f h => wpIn_block (wpIn_loop_ghost (fun nn aa ww => ∃ k : Nat, Sl 19 aa [(0, vh), (1, .func (.func g9) #[] caps.toArray), (6, vh), (7, .int .i64 (l.length : Int)), (8, .int .i64 (k : Int))] ∧ St w [] ww ∧ nn = l.length - k ∧ k ≤ l.length ∧ ∀ i, i < k → p (l.getD i zWn) = false) (l.length - (0)) ⟨0, h.only ⟨rfl, rfl, rfl, rfl, slot_int rfl (by omega), trivial⟩, s.as trivial, rfl, Nat.zero_le _, fun i hi => absurd hi (Nat.not_lt_zero _)⟩ ?_))
  rintro _ f w1 ⟨k, h, s, hnn, hp0, hp1⟩
  refine qre hFT9 1 h rfl fun f h => c_seqN (c_cd h rfl (fun hc => ?_) (fun hc => ?_))
  · refine kt (c_seqN (wpIn_block (qre hFT9 2 h rfl fun f h => qr ?_)))
    have hkl : k < l.length := by omega
    refine s_run hFT9 3 h rfl fun f h => s_pure h (ru_ixz (hR.keep s.ext) (k) Try.underlying71 szo79 (h.ev rfl) (h.ev rfl) (by omega) (by omega)) rfl fun f h => s_load_at ((hR.keep s.ext).el (k) (by omega) (by decide) (D := wnArr (l.getD k zWn)) (wn_el l k hkl)) h row79 rfl (wnArr_size _) rfl fun f h => s_callV [.agg (wnArr (l.getD k zWn))] (caps := caps) h s hg rfl (hp _ s.ext _ (wn_mem hkl)) rfl rfl ?_; intro f w1 v9 hT hE h s; obtain rfl := hT
    refine nt (c_cond h rfl (fun hc => ?_) (fun hc => ?_))
    · refine qre hFT9 2 h rfl fun f h => wpIn_ret (b_ret (t_ret (t_ret (b_ret (t_ret (e_tmp rfl h s rfl (⟨_, rfl, .inr ⟨k, hkl, rfl, hc, hp1⟩⟩)))))))
    · refine wpIn_skip (b_norm (t_norm (c_region (s_pure h (ru_add (h.ev rfl) (h.ev rfl) (by omega)) rfl fun f h => e9 hFT9 1 h rfl fun f h => ?_))))
      exact ⟨_, by omega, ⟨k + 1, h.only ⟨rfl, rfl, rfl, rfl, slot_int rfl (by omega), trivial⟩, St.as s trivial, rfl, by omega, qs_next (q := fun j => p (l.getD j zWn)) hp1 hc⟩⟩
  · refine wpIn_exit (t_exit (t_exit (b_exit (t_norm (qre hFT9 1 h rfl fun f h => wpIn_ret (e_tmp rfl h s rfl (⟨_, rfl, .inl ⟨rfl, fun x hx => (by obtain ⟨i, hi, rfl⟩ := wn_at hx; exact hp1 i (by omega))⟩⟩)))))))

theorem qplw_any (l : List Wn) (vh : Value) (x : Id) (w : World) (hR : RdZ w vh 33 l.length (wnCells l)) (hln : l.length ≤ 1000) : Calls Try.prog 31 [vh, idV x].toArray w (Ret w (is (.int .i64 (kyI (wk l) x)))) := by
  refine c_en Try.func31 rfl Try.ntmps31 rfl fun f h s => qr (s_box (idArr x) h s rfl rfl rfl fun f w1 b3 h s => e9 hFT9 1 h rfl fun f h => qrs hFT9 1 h rfl fun f h => s_pure h (ru_makeFunc [.pointer (some ⟨b3, 0, none⟩)] (evsA h rfl)) rfl fun f h => s_call h s fnc61 (ixfw_any l vh 62 [.pointer (some ⟨b3, 0, none⟩)] (fun y => decide (y.1 = x)) _ (hR.keep s.ext) hln fnc62 (fun w9 h9 y _ => plfw_any y x b3 w9 ((Tab.of_own s 0 rfl).keep h9))) rfl rfl ?_); rintro f w1 v9 ⟨r9, rfl, hr⟩ hE h s; obtain rfl := ky_wn hr
  refine e9 hFT9 1 h rfl fun f h => wpIn_ret (e_tmp rfl h s rfl (rfl))

set_option maxHeartbeats 1000000 in
theorem delw_any (l : List Wn) (hln : l.length ≤ 1000) (vh : Value) (g9 : Nat) (caps : List Value) (p : Wn → Bool) (B9 : List Own) (w0 w : World) (s : St w0 (.sl vh 79 33 (l).length (wnCells (l)) :: B9) w) (hg : Fnc Try.prog g9) (hp : ∀ (A9 : List Own) (w9 : World), St w0 (A9 ++ B9) w9 → ∀ x ∈ l, Calls Try.prog g9 (.agg (wnArr x) :: caps).toArray w9 (Ret w9 (is (.bool (p x))))) : Calls Try.prog 63 [vh, .func (.func g9) #[] caps.toArray].toArray w (fun e w9 => ∃ v9, e = .returned v9 ∧ St w0 (.sl v9 79 33 ((l.filter fun x => !p x)).length (wnCells ((l.filter fun x => !p x))) :: B9) w9) := by
  refine c_enterF Try.func63 rfl Try.ntmps63 rfl [(0, vh), (1, .func (.func g9) #[] caps.toArray)] (by simp) fun f h => ?_
  refine qre hFT9 1 h rfl fun f h => qrs hFT9 2 h rfl fun f h => s_call h s fnc61 (ixfw_any l vh g9 caps p _ (RdZ.of_own (s.getSl 0 rfl)) hln hg (fun w9 h9 x hx => hp [_] w9 (s.more h9) x hx)) rfl rfl ?_; rintro f w1 v9 ⟨r9, rfl, hr⟩ hE h s
  refine e9 hFT9 1 h rfl fun f h => c_seqN (qre hFT9 2 h rfl fun f h => c_cond h rfl (fun hc => ?_) (fun hc => ?_))
  · have hc := of_decide_eq_true hc
    have hn := (hr.resolve_right (fun ⟨k9, _, h9, _⟩ => by omega)).2
    refine qre hFT9 2 h rfl fun f h => rt (e_tmpF rfl h rfl (⟨_, rfl, sl_sameG (C := wnCells) (drop_noneG hn).symm s⟩))
  · obtain ⟨k9, hk9, rfl, hpk, hpf⟩ := hr.resolve_left (fun h9 => of_decide_eq_false hc h9.1)
    have hqk : (!p (l.getD k9 zWn)) = false := by rw [hpk]; rfl
    obtain ⟨hst1, hst2⟩ := stG_start zWn (q := (fun x => !p x)) hk9 (fun i hi => by rw [hpf i hi]; rfl) hqk
    refine kt (c_seqN (qrs hFT9 1 h rfl fun f h => s_pure h (ru_add (h.ev rfl) (h.ev rfl) (by omega)) rfl fun f h => e9 hFT9 1 h rfl fun f h => wpIn_block (wpIn_loop_ghost (fun nn aa ww => ∃ j : Nat, Sl 42 aa [(0, vh), (1, .func (.func g9) #[] caps.toArray), (8, vh), (5, .int .i64 (((ixG (fun x => !p x) l j) : Nat) : Int)), (6, .int .i64 (j : Int))] ∧ St w0 (.sl vh 79 33 (l).length (wnCells (stG (fun x => !p x) l j)) :: B9) ww ∧ nn = l.length - j ∧ k9 + 1 ≤ j ∧ j ≤ l.length) (l.length - (k9 + 1)) ⟨k9 + 1, h.only ⟨rfl, rfl, rfl, slot_int rfl (by omega), slot_int rfl (by omega), trivial⟩, s.as ⟨sl_eq rfl (by rw [hst1]), beq'_refl _⟩, rfl, by omega, by omega⟩ ?_)))
    rintro _ f w1 ⟨j, h, s, hnn, hp0, hp1⟩
    refine c_seqN (qrs hFT9 2 h rfl fun f h => s_len_sl 0 h s Try.underlying71 rfl rfl rfl fun f h => e9 hFT9 1 h rfl fun f h => c_cd h rfl (fun hc => ?_) (fun hc => ?_))
    · refine kt (c_seqN (wpIn_block (qr ?_)))
      have hjl : j < l.length := by omega
      have hix := ixG_le (fun x => !p x) l j
      refine s_run hFT9 2 h rfl fun f h => s_pure h (ru_ixz (RdZ.of_own (s.getSl 0 rfl)) (j) Try.underlying71 szo79 (h.ev rfl) (h.ev rfl) (rfl) (by omega)) rfl fun f h => s_load_at ((RdZ.of_own (s.getSl 0 rfl)).el (j) (by omega) (by decide) (D := wnArr (l.getD j zWn)) ((wn_el (stG (fun x => !p x) l j) j (by rw [stG_len]; omega)).trans (by rw [stG_get zWn hjl]))) h row79 rfl (wnArr_size _) rfl fun f h => s_alloc (wnArr zWn) h s zero79 rfl rfl fun f w1 b7 h s => s_store_row 0 h s row79 rfl rfl rfl (wnArr_size _) (wnArr_size _) (wnArr_ones _) fun w1 s => nt (c_seqN ?_)
      cases hq : (p (l.getD j zWn) : Bool)
      · refine rs hFT9 1 h rfl fun f h => s_load_row 0 h s row79 rfl rfl (wnArr_size _) rfl fun f h => s_callV [.agg (wnArr (l.getD j zWn))] (caps := caps) h s hg rfl (hp [_, _] _ s _ (wn_mem hjl)) rfl rfl ?_; intro f w1 v28 hT hE h s; obtain rfl := hT
        refine s_as hFT9 (.bool true) h rfl (by rw [hq]; rfl) rfl fun f h => nct h rfl (qrs hFT9 2 h rfl fun f h => s_load_row 0 h s row79 rfl rfl (wnArr_size _) rfl fun f h => s_pure h (ru_ixz (RdZ.of_own (s.getSl 1 rfl)) ((ixG (fun x => !p x) l j)) Try.underlying71 szo79 (h.ev rfl) (h.ev rfl) (rfl) (by omega)) rfl fun f h => s_store_el 1 ((ixG (fun x => !p x) l j)) h s row79 rfl rfl rfl (wnArr_size _) (by omega) (wnArr_ones _) ((wn_set (K := (stG (fun x => !p x) l j)) (by rw [stG_len]; omega) (l.getD j zWn)).trans (congrArg wnCells (stG_yes zWn (q := (fun x => !p x)) hjl (by rw [hq]; rfl)).1.symm)) fun w1 s => nt (rs hFT9 1 h rfl fun f h => s_pure h (ru_add (h.ev rfl) (h.ev rfl) (by omega)) rfl fun f h => s_run hFT9 1 h rfl fun f h => s_nil (b_norm (t_norm (rs hFT9 1 h rfl fun f h => s_pure h (ru_add (h.ev rfl) (h.ev rfl) (by omega)) rfl fun f h => e9 hFT9 1 h rfl fun f h => ?_)))))
        have h8 := (stG_yes zWn (q := (fun x => !p x)) hjl (by rw [hq]; rfl)).2
        exact ⟨_, by omega, ⟨j + 1, h.only ⟨rfl, rfl, rfl, slot_int rfl (by omega), slot_int rfl (by omega), trivial⟩, St.as (s.pick _ (List.sublist_append_right [_] _)) ⟨rfl, beq'_refl _⟩, rfl, by omega, by omega⟩⟩
      · refine rs hFT9 1 h rfl fun f h => s_load_row 0 h s row79 rfl rfl (wnArr_size _) rfl fun f h => s_callV [.agg (wnArr (l.getD j zWn))] (caps := caps) h s hg rfl (hp [_, _] _ s _ (wn_mem hjl)) rfl rfl ?_; intro f w1 v28 hT hE h s; obtain rfl := hT
        refine s_as hFT9 (.bool false) h rfl (by rw [hq]; rfl) rfl fun f h => ncf h rfl (wpIn_skip (b_norm (t_norm (rs hFT9 1 h rfl fun f h => s_pure h (ru_add (h.ev rfl) (h.ev rfl) (by omega)) rfl fun f h => e9 hFT9 1 h rfl fun f h => ?_))))
        obtain ⟨h7, h8⟩ := stG_no zWn (q := (fun x => !p x)) hjl (by rw [hq]; rfl)
        exact ⟨_, by omega, ⟨j + 1, h.only ⟨rfl, rfl, rfl, slot_int rfl (by omega), slot_int rfl (by omega), trivial⟩, St.as (s.pick _ (List.sublist_append_right [_] _)) ⟨sl_eq rfl (by rw [h7]), beq'_refl _⟩, rfl, by omega, by omega⟩⟩
    · refine wpIn_exit (t_exit (t_exit (b_exit (t_norm (qr ?_)))))
      obtain rfl : j = l.length := by omega
      have hlt := ixG_lt zWn (q := (fun x => !p x)) hk9 hqk
      have hI := ixG_end (fun x => !p x) l
      obtain ⟨b9, cap, cur, fz, hvh, hfz, hnc, hcm, hcs, hct, s2⟩ := s.open_sl (by omega)
      clear s
      subst hvh
      have s := s2
      have hz9 : (Value.agg (wnArr zWn)).cells.size = 33 := wnArr_size _
      refine s_run hFT9 2 h rfl fun f h => s_pure h (ru_val (.slice (some ⟨b9, (ixG (fun x => !p x) l l.length) * 33, none⟩) (l.length - (ixG (fun x => !p x) l l.length)) (cap - (ixG (fun x => !p x) l l.length))) (ru_slice_lo_lit (i := (ixG (fun x => !p x) l l.length)) Try.underlying71 szo79 (h.ev rfl) (h.ev rfl) rfl (by omega)) (by unfold loA; rw [if_neg (by omega)])) rfl fun f h => s_clear_blk (fz := fz) (Z := .agg (wnArr zWn)) 0 h s Try.underlying71 zero79 rfl (by omega) rfl hfz (by rw [hz9]; omega) (wnArr_ones _) ?_; intro w1 s
      refine nt (qrs hFT9 2 h rfl fun f h => s_pure h (ru_slice_hi_lit (i := (ixG (fun x => !p x) l l.length)) Try.underlying71 szo79 (h.ev rfl) (h.ev rfl) rfl (by omega)) rfl fun f h => e9 hFT9 1 h rfl fun f h => wpIn_ret (e_tmpF rfl h rfl (⟨_, rfl, (by have hzl : (Builtin.zeroCells (Value.agg (wnArr zWn)).cells (l.length - (ixG (fun x => !p x) l l.length))).toList.length = (l.length - (l.filter fun x => !p x).length) * 33 := (by rw [Array.length_toList, size_zeroCells, hz9, hI]); obtain ⟨hf1, hf2⟩ := wn_fin cur.toList _ (fun x => !p x) l hct (by have e9 := Array.length_toList (xs := cur); omega) hzl ((ixG (fun x => !p x) l l.length) * 33) (by rw [hI]) ((l.length - (ixG (fun x => !p x) l l.length)) * (Value.agg (wnArr zWn)).cells.size) (by rw [hz9, hI]); rw [← hI]; exact s.close_sl (by rw [List.size_toArray]; exact hfz.imp id fun h9 => (by rw [hf1, Array.length_toList]; exact h9)) (by omega) hcm (by rw [List.size_toArray]; exact hf1.trans hcs) hf2 (by rw [wnCells_len, hI]))⟩)))

theorem qwow_any (l : List Wn) (hln : l.length ≤ 1000) (vh : Value) (x : Id) (B9 : List Own) (w0 w : World) (s : St w0 (.sl vh 79 33 (l).length (wnCells (l)) :: B9) w) : Calls Try.prog 33 [vh, idV x].toArray w (fun e w9 => ∃ v9, e = .returned v9 ∧ St w0 (.sl v9 79 33 ((l.filter fun y => !decide (y.1 = x))).length (wnCells ((l.filter fun y => !decide (y.1 = x)))) :: B9) w9) := by
  refine c_enterF Try.func33 rfl Try.ntmps33 rfl [(0, vh), (1, idV x)] (by simp) fun f h => ?_
  refine qr (s_box (idArr x) h s rfl rfl rfl fun f w1 b3 h s => e9 hFT9 1 h rfl fun f h => qrs hFT9 1 h rfl fun f h => s_pure h (ru_makeFunc [.pointer (some ⟨b3, 0, none⟩)] (evsA h rfl)) rfl fun f h => ?_)
  replace s := s.perm (List.Perm.swap ..)
  refine s_callS [vh, .func (.func 64) #[] #[.pointer (some ⟨b3, 0, none⟩)]] h fnc63 (delw_any l hln vh 64 [.pointer (some ⟨b3, 0, none⟩)] (fun y => decide (y.1 = x)) _ _ _ s fnc64 (fun A9 w9 s9 y _ => wofw_any y x b3 w9 (Tab.of_mem (u := 28) s9 (by simp)))) rfl rfl ?_; rintro f w1 v7 s h
  refine e9 hFT9 1 h rfl fun f h => wpIn_ret (e_tmpF rfl h rfl (⟨_, rfl, s.pick _ (List.Sublist.cons_cons _ (List.sublist_cons_self _ _))⟩))

set_option maxHeartbeats 1000000 in
theorem qroww_any (l : List Wn) (vh : Value) (w : World) (hR : RdZ w vh 33 l.length (wnCells l)) (hln : l.length ≤ 1000) : Calls Try.prog 58 [vh].toArray w (Ret w (is (.bool (rwW l)))) := by
  refine c_en Try.func58 rfl Try.ntmps58 rfl fun f h s => qre hFT9 1 h rfl fun f h => c_seqN (qrs hFT9 1 h rfl fun f h => s_lz h (hR.keep s.ext) Try.underlying71 rfl rfl fun f h => e9 hFT9 1 h rfl fun f h => c_cond h rfl (fun hc => ?_) (fun hc => ?_))
  · have h8 : 8 < l.length := by have := of_decide_eq_true hc; omega
    refine qre hFT9 1 h rfl fun f h => rt (e_tmp rfl h s rfl (by show _ = _; rw [rw_len h8]))
  · have h8 : l.length ≤ 8 := by have := of_decide_eq_false hc; omega
    refine kt (c_seqN (qrs hFT9 1 h rfl fun f h => s_lz h (hR.keep s.ext) Try.underlying71 rfl rfl fun f h => e9 hFT9 1 h rfl fun f h => wpIn_block (wpIn_loop_ghost (fun nn aa ww => ∃ k : Nat, Sl 30 aa [(8, vh), (9, .int .i64 (l.length : Int)), (10, .int .i64 (k : Int)), (0, vh)] ∧ St w [] ww ∧ nn = l.length - k ∧ k ≤ l.length ∧ ∀ j, j < k → okW l j = true) (l.length - (0)) ⟨0, h.only ⟨rfl, rfl, slot_int rfl (by omega), rfl, trivial⟩, s.as trivial, rfl, Nat.zero_le _, fun j hj => absurd hj (Nat.not_lt_zero _)⟩ ?_)))
    rintro _ f w1 ⟨k, h, s, hnn, hp0, hp1⟩
    refine qre hFT9 1 h rfl fun f h => c_seqN (c_cd h rfl (fun hc => ?_) (fun hc => ?_))
    · refine kt (c_seqN (wpIn_block (qrs hFT9 1 h rfl fun f h => ?_)))
      have hkl : k < l.length := by omega
      refine s_pure h (ru_ixz (hR.keep s.ext) (k) Try.underlying71 szo79 (h.ev rfl) (h.ev rfl) (by omega) (by omega)) rfl fun f h => s_load_at ((hR.keep s.ext).el (k) (by omega) (by decide) (D := wnArr (l.getD k zWn)) (wn_el l k hkl)) h row79 rfl (wnArr_size _) rfl fun f h => s_alloc (wnArr zWn) h s zero79 rfl rfl fun f w1 b4 h s => s_run hFT9 1 h rfl fun f h => s_store_row 0 h s row79 rfl rfl rfl (wnArr_size _) (wnArr_size _) (wnArr_ones _) fun w1 s => nt (c_seqN ?_)
      cases i0 : (inb (l.getD k zWn).2 1 1048576 : Bool)
      · refine c_wA 14 h (by kernel_rfl) (w_load_row 0 h s row79 rfl rfl (wnArr_size _) rfl fun f h => w_pure h (ru_makeIface Try.underlying79 rfl (h.ev rfl)) rfl fun f h => w_callI h fnc30 (met_rw _) rfl (fun w9 hE9 => ret_val (.bool false) (qwr_any (l.getD k zWn) w9) (congrArg Value.bool i0)) rfl ?_); intro f h
        refine w_run hFT9 11 h rfl fun f h => w_nil s fun w1 s => nct h rfl (qre hFT9 1 h rfl fun f h => wpIn_ret (b_ret (t_ret (t_ret (b_ret (t_ret (e_tmp rfl h s rfl (by show _ = _; rw [rw_no hkl (okW_0 i0)]))))))))
      · skip
        cases q0 : (decide (kyI (wk l) (l.getD k zWn).1 = (k : Int)) : Bool)
        · refine c_wA 14 h (by kernel_rfl) (w_load_row 0 h s row79 rfl rfl (wnArr_size _) rfl fun f h => w_pure h (ru_makeIface Try.underlying79 rfl (h.ev rfl)) rfl fun f h => w_callI h fnc30 (met_rw _) rfl (fun w9 hE9 => ret_val (.bool true) (qwr_any (l.getD k zWn) w9) (congrArg Value.bool i0)) rfl ?_); intro f h
          refine w_run hFT9 4 h rfl fun f h => w_o h rfl (w_pure h (ru_slice_hiZ (hR.keep s.ext) (k) Try.underlying71 szo79 (h.ev rfl) (h.ev rfl) (rfl) (by omega)) rfl fun f h => w_o h rfl (w_load_row 0 h s row79 rfl rfl (wnArr_size _) rfl fun f h => w_o h rfl (w_pure h (ru_makeIface Try.underlying79 rfl (h.ev rfl)) rfl fun f h => w_o h rfl (w_callP h fnc37 (met_iw _) rfl (fun w9 hE9 => nid_any (l.getD k zWn).1 w9) rfl ?_)))); intro f h
          refine w_o h rfl (w_call h fnc31 (fun w9 hE9 => qplw_any (l.take k) (cutV vh k) (l.getD k zWn).1 w9 (wn_take (hR.keep (s.ext.trans hE9)) k (by omega)) (by rw [List.length_take]; omega)) rfl rfl fun f h => w_o h rfl (w_at hFT9 h rfl ((pl_wn hkl).trans (by rw [q0]; rfl)) fun f h => w_run hFT9 1 h rfl fun f h => w_nil s fun w1 s => nct h rfl (qre hFT9 1 h rfl fun f h => wpIn_ret (b_ret (t_ret (t_ret (b_ret (t_ret (e_tmp rfl h s rfl (by show _ = _; rw [rw_no hkl (okW_1 i0 q0)]))))))))))
        · refine c_wA 14 h (by kernel_rfl) (w_load_row 0 h s row79 rfl rfl (wnArr_size _) rfl fun f h => w_pure h (ru_makeIface Try.underlying79 rfl (h.ev rfl)) rfl fun f h => w_callI h fnc30 (met_rw _) rfl (fun w9 hE9 => ret_val (.bool true) (qwr_any (l.getD k zWn) w9) (congrArg Value.bool i0)) rfl ?_); intro f h
          refine w_run hFT9 4 h rfl fun f h => w_o h rfl (w_pure h (ru_slice_hiZ (hR.keep s.ext) (k) Try.underlying71 szo79 (h.ev rfl) (h.ev rfl) (rfl) (by omega)) rfl fun f h => w_o h rfl (w_load_row 0 h s row79 rfl rfl (wnArr_size _) rfl fun f h => w_o h rfl (w_pure h (ru_makeIface Try.underlying79 rfl (h.ev rfl)) rfl fun f h => w_o h rfl (w_callP h fnc37 (met_iw _) rfl (fun w9 hE9 => nid_any (l.getD k zWn).1 w9) rfl ?_)))); intro f h
          refine w_o h rfl (w_call h fnc31 (fun w9 hE9 => qplw_any (l.take k) (cutV vh k) (l.getD k zWn).1 w9 (wn_take (hR.keep (s.ext.trans hE9)) k (by omega)) (by rw [List.length_take]; omega)) rfl rfl fun f h => w_o h rfl (w_af hFT9 h rfl ((pl_wn hkl).trans (by rw [q0]; rfl)) fun f h => w_run hFT9 1 h rfl fun f h => w_nil s fun w1 s => ncf h rfl (wpIn_skip (b_norm (t_norm (c_region (s_pure h (ru_add (h.ev rfl) (h.ev rfl) (by omega)) rfl fun f h => e9 hFT9 1 h rfl fun f h => ?_)))))))
          exact ⟨_, by omega, ⟨k + 1, h.only ⟨rfl, rfl, slot_int rfl (by omega), rfl, trivial⟩, St.as (s.pick _ (List.sublist_append_right [_] _)) trivial, rfl, by omega, nq_next hp1 (okW_1 i0 q0)⟩⟩
    · refine wpIn_exit (t_exit (t_exit (b_exit (t_norm (qre hFT9 1 h rfl fun f h => wpIn_ret (e_tmp rfl h s rfl (by show _ = _; rw [rw_yes h8 (fun j hj => hp1 j (by omega))])))))))

theorem plfh_any (y : Hn) (x : Id) (bx : Nat) (w : World) (hb : Tab w bx (idArr x)) : Calls Try.prog 77 [.agg (hnArr y), .pointer (some ⟨bx, 0, none⟩)].toArray w (Ret w (is (.bool (decide (y.1 = x))))) := by
  refine c_en Try.func77 rfl Try.ntmps77 rfl fun f h s => qr (s_box (hnArr y) h s rfl rfl rfl fun f w1 b2 h s => e9 hFT9 1 h rfl fun f h => c_seqN (c_wA 6 h (by kernel_rfl) (w_load_row 0 h s row105 rfl rfl (hnArr_size _) rfl fun f h => w_pure h (ru_makeIface Try.underlying105 rfl (h.ev rfl)) rfl fun f h => w_callP h fnc37 (met_ih _) rfl (fun w9 hE9 => nid_any y.1 w9) rfl ?_))); intro f h
  refine w_load_at (Has.subL (Has.of_tab (hb.keep s.ext)) 0 32 (D := idArr x) (id_all x)) h row28 rfl (by first | exact idArr_size _ | exact bytesF_size _ _) rfl fun f h => w_pure h (ru_eql_id idTy (h.ev rfl) (h.ev rfl)) rfl fun f h => w_run hFT9 1 h rfl fun f h => w_nil s fun w1 s => nt (wpIn_ret (e_tmp rfl h s rfl (rfl)))

theorem wofh_any (y : Hn) (x : Id) (bx : Nat) (w : World) (hb : Tab w bx (idArr x)) : Calls Try.prog 79 [.agg (hnArr y), .pointer (some ⟨bx, 0, none⟩)].toArray w (Ret w (is (.bool (decide (y.1 = x))))) := by
  refine c_en Try.func79 rfl Try.ntmps79 rfl fun f h s => qr (s_box (hnArr y) h s rfl rfl rfl fun f w1 b2 h s => e9 hFT9 1 h rfl fun f h => c_seqN (c_wA 6 h (by kernel_rfl) (w_load_row 0 h s row105 rfl rfl (hnArr_size _) rfl fun f h => w_pure h (ru_makeIface Try.underlying105 rfl (h.ev rfl)) rfl fun f h => w_callP h fnc37 (met_ih _) rfl (fun w9 hE9 => nid_any y.1 w9) rfl ?_))); intro f h
  refine w_load_at (Has.subL (Has.of_tab (hb.keep s.ext)) 0 32 (D := idArr x) (id_all x)) h row28 rfl (by first | exact idArr_size _ | exact bytesF_size _ _) rfl fun f h => w_pure h (ru_eql_id idTy (h.ev rfl) (h.ev rfl)) rfl fun f h => w_run hFT9 1 h rfl fun f h => w_nil s fun w1 s => nt (wpIn_ret (e_tmp rfl h s rfl (rfl)))

theorem ixfh_any (l : List Hn) (vh : Value) (g9 : Nat) (caps : List Value) (p : Hn → Bool) (w : World) (hR : RdZ w vh 34 l.length (hnCells l)) (hln : l.length ≤ 1000) (hg : Fnc Try.prog g9) (hp : ∀ w9, Ext w w9 → ∀ x ∈ l, Calls Try.prog g9 (.agg (hnArr x) :: caps).toArray w9 (Ret w9 (is (.bool (p x))))) : Calls Try.prog 76 [vh, .func (.func g9) #[] caps.toArray].toArray w (Ret w (fun v _ => ∃ r : Int, v = .int .i64 r ∧ ((r = -1 ∧ ∀ x ∈ l, p x = false) ∨ ∃ k : Nat, k < l.length ∧ r = (k : Int) ∧ p (l.getD k zHn) = true ∧ ∀ i, i < k → p (l.getD i zHn) = false))) := by
  refine c_en Try.func76 rfl Try.ntmps76 rfl fun f h s => qre hFT9 1 h rfl fun f h => c_seqN (qrs hFT9 1 h rfl fun f h => s_lz h (hR.keep s.ext) Try.underlying72 rfl rfl fun f h => e9 hFT9 1 h rfl fun f h => wpIn_block (wpIn_loop_ghost (fun nn aa ww => ∃ k : Nat, Sl 19 aa [(0, vh), (1, .func (.func g9) #[] caps.toArray), (6, vh), (7, .int .i64 (l.length : Int)), (8, .int .i64 (k : Int))] ∧ St w [] ww ∧ nn = l.length - k ∧ k ≤ l.length ∧ ∀ i, i < k → p (l.getD i zHn) = false) (l.length - (0)) ⟨0, h.only ⟨rfl, rfl, rfl, rfl, slot_int rfl (by omega), trivial⟩, s.as trivial, rfl, Nat.zero_le _, fun i hi => absurd hi (Nat.not_lt_zero _)⟩ ?_))
  rintro _ f w1 ⟨k, h, s, hnn, hp0, hp1⟩
  refine qre hFT9 1 h rfl fun f h => c_seqN (c_cd h rfl (fun hc => ?_) (fun hc => ?_))
  · refine kt (c_seqN (wpIn_block (qre hFT9 2 h rfl fun f h => qr ?_)))
    have hkl : k < l.length := by omega
    refine s_run hFT9 3 h rfl fun f h => s_pure h (ru_ixz (hR.keep s.ext) (k) Try.underlying72 szo105 (h.ev rfl) (h.ev rfl) (by omega) (by omega)) rfl fun f h => s_load_at ((hR.keep s.ext).el (k) (by omega) (by decide) (D := hnArr (l.getD k zHn)) (hn_el l k hkl)) h row105 rfl (hnArr_size _) rfl fun f h => s_callV [.agg (hnArr (l.getD k zHn))] (caps := caps) h s hg rfl (hp _ s.ext _ (hn_mem hkl)) rfl rfl ?_; intro f w1 v9 hT hE h s; obtain rfl := hT
    refine nt (c_cond h rfl (fun hc => ?_) (fun hc => ?_))
    · refine qre hFT9 2 h rfl fun f h => wpIn_ret (b_ret (t_ret (t_ret (b_ret (t_ret (e_tmp rfl h s rfl (⟨_, rfl, .inr ⟨k, hkl, rfl, hc, hp1⟩⟩)))))))
    · refine wpIn_skip (b_norm (t_norm (c_region (s_pure h (ru_add (h.ev rfl) (h.ev rfl) (by omega)) rfl fun f h => e9 hFT9 1 h rfl fun f h => ?_))))
      exact ⟨_, by omega, ⟨k + 1, h.only ⟨rfl, rfl, rfl, rfl, slot_int rfl (by omega), trivial⟩, St.as s trivial, rfl, by omega, qs_next (q := fun j => p (l.getD j zHn)) hp1 hc⟩⟩
  · refine wpIn_exit (t_exit (t_exit (b_exit (t_norm (qre hFT9 1 h rfl fun f h => wpIn_ret (e_tmp rfl h s rfl (⟨_, rfl, .inl ⟨rfl, fun x hx => (by obtain ⟨i, hi, rfl⟩ := hn_at hx; exact hp1 i (by omega))⟩⟩)))))))

theorem qplh_any (l : List Hn) (vh : Value) (x : Id) (w : World) (hR : RdZ w vh 34 l.length (hnCells l)) (hln : l.length ≤ 1000) : Calls Try.prog 65 [vh, idV x].toArray w (Ret w (is (.int .i64 (kyI (hk l) x)))) := by
  refine c_en Try.func65 rfl Try.ntmps65 rfl fun f h s => qr (s_box (idArr x) h s rfl rfl rfl fun f w1 b3 h s => e9 hFT9 1 h rfl fun f h => qrs hFT9 1 h rfl fun f h => s_pure h (ru_makeFunc [.pointer (some ⟨b3, 0, none⟩)] (evsA h rfl)) rfl fun f h => s_call h s fnc76 (ixfh_any l vh 77 [.pointer (some ⟨b3, 0, none⟩)] (fun y => decide (y.1 = x)) _ (hR.keep s.ext) hln fnc77 (fun w9 h9 y _ => plfh_any y x b3 w9 ((Tab.of_own s 0 rfl).keep h9))) rfl rfl ?_); rintro f w1 v9 ⟨r9, rfl, hr⟩ hE h s; obtain rfl := ky_hn hr
  refine e9 hFT9 1 h rfl fun f h => wpIn_ret (e_tmp rfl h s rfl (rfl))

set_option maxHeartbeats 1000000 in
theorem delh_any (l : List Hn) (hln : l.length ≤ 1000) (vh : Value) (g9 : Nat) (caps : List Value) (p : Hn → Bool) (B9 : List Own) (w0 w : World) (s : St w0 (.sl vh 105 34 (l).length (hnCells (l)) :: B9) w) (hg : Fnc Try.prog g9) (hp : ∀ (A9 : List Own) (w9 : World), St w0 (A9 ++ B9) w9 → ∀ x ∈ l, Calls Try.prog g9 (.agg (hnArr x) :: caps).toArray w9 (Ret w9 (is (.bool (p x))))) : Calls Try.prog 78 [vh, .func (.func g9) #[] caps.toArray].toArray w (fun e w9 => ∃ v9, e = .returned v9 ∧ St w0 (.sl v9 105 34 ((l.filter fun x => !p x)).length (hnCells ((l.filter fun x => !p x))) :: B9) w9) := by
  refine c_enterF Try.func78 rfl Try.ntmps78 rfl [(0, vh), (1, .func (.func g9) #[] caps.toArray)] (by simp) fun f h => ?_
  refine qre hFT9 1 h rfl fun f h => qrs hFT9 2 h rfl fun f h => s_call h s fnc76 (ixfh_any l vh g9 caps p _ (RdZ.of_own (s.getSl 0 rfl)) hln hg (fun w9 h9 x hx => hp [_] w9 (s.more h9) x hx)) rfl rfl ?_; rintro f w1 v9 ⟨r9, rfl, hr⟩ hE h s
  refine e9 hFT9 1 h rfl fun f h => c_seqN (qre hFT9 2 h rfl fun f h => c_cond h rfl (fun hc => ?_) (fun hc => ?_))
  · have hc := of_decide_eq_true hc
    have hn := (hr.resolve_right (fun ⟨k9, _, h9, _⟩ => by omega)).2
    refine qre hFT9 2 h rfl fun f h => rt (e_tmpF rfl h rfl (⟨_, rfl, sl_sameG (C := hnCells) (drop_noneG hn).symm s⟩))
  · obtain ⟨k9, hk9, rfl, hpk, hpf⟩ := hr.resolve_left (fun h9 => of_decide_eq_false hc h9.1)
    have hqk : (!p (l.getD k9 zHn)) = false := by rw [hpk]; rfl
    obtain ⟨hst1, hst2⟩ := stG_start zHn (q := (fun x => !p x)) hk9 (fun i hi => by rw [hpf i hi]; rfl) hqk
    refine kt (c_seqN (qrs hFT9 1 h rfl fun f h => s_pure h (ru_add (h.ev rfl) (h.ev rfl) (by omega)) rfl fun f h => e9 hFT9 1 h rfl fun f h => wpIn_block (wpIn_loop_ghost (fun nn aa ww => ∃ j : Nat, Sl 42 aa [(0, vh), (1, .func (.func g9) #[] caps.toArray), (8, vh), (5, .int .i64 (((ixG (fun x => !p x) l j) : Nat) : Int)), (6, .int .i64 (j : Int))] ∧ St w0 (.sl vh 105 34 (l).length (hnCells (stG (fun x => !p x) l j)) :: B9) ww ∧ nn = l.length - j ∧ k9 + 1 ≤ j ∧ j ≤ l.length) (l.length - (k9 + 1)) ⟨k9 + 1, h.only ⟨rfl, rfl, rfl, slot_int rfl (by omega), slot_int rfl (by omega), trivial⟩, s.as ⟨sl_eq rfl (by rw [hst1]), beq'_refl _⟩, rfl, by omega, by omega⟩ ?_)))
    rintro _ f w1 ⟨j, h, s, hnn, hp0, hp1⟩
    refine c_seqN (qrs hFT9 2 h rfl fun f h => s_len_sl 0 h s Try.underlying72 rfl rfl rfl fun f h => e9 hFT9 1 h rfl fun f h => c_cd h rfl (fun hc => ?_) (fun hc => ?_))
    · refine kt (c_seqN (wpIn_block (qr ?_)))
      have hjl : j < l.length := by omega
      have hix := ixG_le (fun x => !p x) l j
      refine s_run hFT9 2 h rfl fun f h => s_pure h (ru_ixz (RdZ.of_own (s.getSl 0 rfl)) (j) Try.underlying72 szo105 (h.ev rfl) (h.ev rfl) (rfl) (by omega)) rfl fun f h => s_load_at ((RdZ.of_own (s.getSl 0 rfl)).el (j) (by omega) (by decide) (D := hnArr (l.getD j zHn)) ((hn_el (stG (fun x => !p x) l j) j (by rw [stG_len]; omega)).trans (by rw [stG_get zHn hjl]))) h row105 rfl (hnArr_size _) rfl fun f h => s_alloc (hnArr zHn) h s zero105 rfl rfl fun f w1 b7 h s => s_store_row 0 h s row105 rfl rfl rfl (hnArr_size _) (hnArr_size _) (hnArr_ones _) fun w1 s => nt (c_seqN ?_)
      cases hq : (p (l.getD j zHn) : Bool)
      · refine rs hFT9 1 h rfl fun f h => s_load_row 0 h s row105 rfl rfl (hnArr_size _) rfl fun f h => s_callV [.agg (hnArr (l.getD j zHn))] (caps := caps) h s hg rfl (hp [_, _] _ s _ (hn_mem hjl)) rfl rfl ?_; intro f w1 v28 hT hE h s; obtain rfl := hT
        refine s_as hFT9 (.bool true) h rfl (by rw [hq]; rfl) rfl fun f h => nct h rfl (qrs hFT9 2 h rfl fun f h => s_load_row 0 h s row105 rfl rfl (hnArr_size _) rfl fun f h => s_pure h (ru_ixz (RdZ.of_own (s.getSl 1 rfl)) ((ixG (fun x => !p x) l j)) Try.underlying72 szo105 (h.ev rfl) (h.ev rfl) (rfl) (by omega)) rfl fun f h => s_store_el 1 ((ixG (fun x => !p x) l j)) h s row105 rfl rfl rfl (hnArr_size _) (by omega) (hnArr_ones _) ((hn_set (K := (stG (fun x => !p x) l j)) (by rw [stG_len]; omega) (l.getD j zHn)).trans (congrArg hnCells (stG_yes zHn (q := (fun x => !p x)) hjl (by rw [hq]; rfl)).1.symm)) fun w1 s => nt (rs hFT9 1 h rfl fun f h => s_pure h (ru_add (h.ev rfl) (h.ev rfl) (by omega)) rfl fun f h => s_run hFT9 1 h rfl fun f h => s_nil (b_norm (t_norm (rs hFT9 1 h rfl fun f h => s_pure h (ru_add (h.ev rfl) (h.ev rfl) (by omega)) rfl fun f h => e9 hFT9 1 h rfl fun f h => ?_)))))
        have h8 := (stG_yes zHn (q := (fun x => !p x)) hjl (by rw [hq]; rfl)).2
        exact ⟨_, by omega, ⟨j + 1, h.only ⟨rfl, rfl, rfl, slot_int rfl (by omega), slot_int rfl (by omega), trivial⟩, St.as (s.pick _ (List.sublist_append_right [_] _)) ⟨rfl, beq'_refl _⟩, rfl, by omega, by omega⟩⟩
      · refine rs hFT9 1 h rfl fun f h => s_load_row 0 h s row105 rfl rfl (hnArr_size _) rfl fun f h => s_callV [.agg (hnArr (l.getD j zHn))] (caps := caps) h s hg rfl (hp [_, _] _ s _ (hn_mem hjl)) rfl rfl ?_; intro f w1 v28 hT hE h s; obtain rfl := hT
        refine s_as hFT9 (.bool false) h rfl (by rw [hq]; rfl) rfl fun f h => ncf h rfl (wpIn_skip (b_norm (t_norm (rs hFT9 1 h rfl fun f h => s_pure h (ru_add (h.ev rfl) (h.ev rfl) (by omega)) rfl fun f h => e9 hFT9 1 h rfl fun f h => ?_))))
        obtain ⟨h7, h8⟩ := stG_no zHn (q := (fun x => !p x)) hjl (by rw [hq]; rfl)
        exact ⟨_, by omega, ⟨j + 1, h.only ⟨rfl, rfl, rfl, slot_int rfl (by omega), slot_int rfl (by omega), trivial⟩, St.as (s.pick _ (List.sublist_append_right [_] _)) ⟨sl_eq rfl (by rw [h7]), beq'_refl _⟩, rfl, by omega, by omega⟩⟩
    · refine wpIn_exit (t_exit (t_exit (b_exit (t_norm (qr ?_)))))
      obtain rfl : j = l.length := by omega
      have hlt := ixG_lt zHn (q := (fun x => !p x)) hk9 hqk
      have hI := ixG_end (fun x => !p x) l
      obtain ⟨b9, cap, cur, fz, hvh, hfz, hnc, hcm, hcs, hct, s2⟩ := s.open_sl (by omega)
      clear s
      subst hvh
      have s := s2
      have hz9 : (Value.agg (hnArr zHn)).cells.size = 34 := hnArr_size _
      refine s_run hFT9 2 h rfl fun f h => s_pure h (ru_val (.slice (some ⟨b9, (ixG (fun x => !p x) l l.length) * 34, none⟩) (l.length - (ixG (fun x => !p x) l l.length)) (cap - (ixG (fun x => !p x) l l.length))) (ru_slice_lo_lit (i := (ixG (fun x => !p x) l l.length)) Try.underlying72 szo105 (h.ev rfl) (h.ev rfl) rfl (by omega)) (by unfold loA; rw [if_neg (by omega)])) rfl fun f h => s_clear_blk (fz := fz) (Z := .agg (hnArr zHn)) 0 h s Try.underlying72 zero105 rfl (by omega) rfl hfz (by rw [hz9]; omega) (hnArr_ones _) ?_; intro w1 s
      refine nt (qrs hFT9 2 h rfl fun f h => s_pure h (ru_slice_hi_lit (i := (ixG (fun x => !p x) l l.length)) Try.underlying72 szo105 (h.ev rfl) (h.ev rfl) rfl (by omega)) rfl fun f h => e9 hFT9 1 h rfl fun f h => wpIn_ret (e_tmpF rfl h rfl (⟨_, rfl, (by have hzl : (Builtin.zeroCells (Value.agg (hnArr zHn)).cells (l.length - (ixG (fun x => !p x) l l.length))).toList.length = (l.length - (l.filter fun x => !p x).length) * 34 := (by rw [Array.length_toList, size_zeroCells, hz9, hI]); obtain ⟨hf1, hf2⟩ := hn_fin cur.toList _ (fun x => !p x) l hct (by have e9 := Array.length_toList (xs := cur); omega) hzl ((ixG (fun x => !p x) l l.length) * 34) (by rw [hI]) ((l.length - (ixG (fun x => !p x) l l.length)) * (Value.agg (hnArr zHn)).cells.size) (by rw [hz9, hI]); rw [← hI]; exact s.close_sl (by rw [List.size_toArray]; exact hfz.imp id fun h9 => (by rw [hf1, Array.length_toList]; exact h9)) (by omega) hcm (by rw [List.size_toArray]; exact hf1.trans hcs) hf2 (by rw [hnCells_len, hI]))⟩)))

theorem qwoh_any (l : List Hn) (hln : l.length ≤ 1000) (vh : Value) (x : Id) (B9 : List Own) (w0 w : World) (s : St w0 (.sl vh 105 34 (l).length (hnCells (l)) :: B9) w) : Calls Try.prog 73 [vh, idV x].toArray w (fun e w9 => ∃ v9, e = .returned v9 ∧ St w0 (.sl v9 105 34 ((l.filter fun y => !decide (y.1 = x))).length (hnCells ((l.filter fun y => !decide (y.1 = x)))) :: B9) w9) := by
  refine c_enterF Try.func73 rfl Try.ntmps73 rfl [(0, vh), (1, idV x)] (by simp) fun f h => ?_
  refine qr (s_box (idArr x) h s rfl rfl rfl fun f w1 b3 h s => e9 hFT9 1 h rfl fun f h => qrs hFT9 1 h rfl fun f h => s_pure h (ru_makeFunc [.pointer (some ⟨b3, 0, none⟩)] (evsA h rfl)) rfl fun f h => ?_)
  replace s := s.perm (List.Perm.swap ..)
  refine s_callS [vh, .func (.func 79) #[] #[.pointer (some ⟨b3, 0, none⟩)]] h fnc78 (delh_any l hln vh 79 [.pointer (some ⟨b3, 0, none⟩)] (fun y => decide (y.1 = x)) _ _ _ s fnc79 (fun A9 w9 s9 y _ => wofh_any y x b3 w9 (Tab.of_mem (u := 28) s9 (by simp)))) rfl rfl ?_; rintro f w1 v7 s h
  refine e9 hFT9 1 h rfl fun f h => wpIn_ret (e_tmpF rfl h rfl (⟨_, rfl, s.pick _ (List.Sublist.cons_cons _ (List.sublist_cons_self _ _))⟩))

set_option maxHeartbeats 1000000 in
theorem qrowh_any (l : List Hn) (vh : Value) (w : World) (hR : RdZ w vh 34 l.length (hnCells l)) (hln : l.length ≤ 1000) : Calls Try.prog 59 [vh].toArray w (Ret w (is (.bool (rwH l)))) := by
  refine c_en Try.func59 rfl Try.ntmps59 rfl fun f h s => qre hFT9 1 h rfl fun f h => c_seqN (qrs hFT9 1 h rfl fun f h => s_lz h (hR.keep s.ext) Try.underlying72 rfl rfl fun f h => e9 hFT9 1 h rfl fun f h => c_cond h rfl (fun hc => ?_) (fun hc => ?_))
  · have h8 : 8 < l.length := by have := of_decide_eq_true hc; omega
    refine qre hFT9 1 h rfl fun f h => rt (e_tmp rfl h s rfl (by show _ = _; rw [rh_len h8]))
  · have h8 : l.length ≤ 8 := by have := of_decide_eq_false hc; omega
    refine kt (c_seqN (qrs hFT9 1 h rfl fun f h => s_lz h (hR.keep s.ext) Try.underlying72 rfl rfl fun f h => e9 hFT9 1 h rfl fun f h => wpIn_block (wpIn_loop_ghost (fun nn aa ww => ∃ k : Nat, Sl 30 aa [(8, vh), (9, .int .i64 (l.length : Int)), (10, .int .i64 (k : Int)), (0, vh)] ∧ St w [] ww ∧ nn = l.length - k ∧ k ≤ l.length ∧ ∀ j, j < k → okHn l j = true) (l.length - (0)) ⟨0, h.only ⟨rfl, rfl, slot_int rfl (by omega), rfl, trivial⟩, s.as trivial, rfl, Nat.zero_le _, fun j hj => absurd hj (Nat.not_lt_zero _)⟩ ?_)))
    rintro _ f w1 ⟨k, h, s, hnn, hp0, hp1⟩
    refine qre hFT9 1 h rfl fun f h => c_seqN (c_cd h rfl (fun hc => ?_) (fun hc => ?_))
    · refine kt (c_seqN (wpIn_block (qrs hFT9 1 h rfl fun f h => ?_)))
      have hkl : k < l.length := by omega
      refine s_pure h (ru_ixz (hR.keep s.ext) (k) Try.underlying72 szo105 (h.ev rfl) (h.ev rfl) (by omega) (by omega)) rfl fun f h => s_load_at ((hR.keep s.ext).el (k) (by omega) (by decide) (D := hnArr (l.getD k zHn)) (hn_el l k hkl)) h row105 rfl (hnArr_size _) rfl fun f h => s_alloc (hnArr zHn) h s zero105 rfl rfl fun f w1 b4 h s => s_run hFT9 1 h rfl fun f h => s_store_row 0 h s row105 rfl rfl rfl (hnArr_size _) (hnArr_size _) (hnArr_ones _) fun w1 s => nt (c_seqN ?_)
      cases i0 : (rgN (l.getD k zHn) : Bool)
      · refine c_wA 14 h (by kernel_rfl) (w_load_row 0 h s row105 rfl rfl (hnArr_size _) rfl fun f h => w_pure h (ru_makeIface Try.underlying105 rfl (h.ev rfl)) rfl fun f h => w_callI h fnc95 (met_rh _) rfl (fun w9 hE9 => ret_val (.bool false) (qhr_any (l.getD k zHn) w9) (congrArg Value.bool i0)) rfl ?_); intro f h
        refine w_run hFT9 11 h rfl fun f h => w_nil s fun w1 s => nct h rfl (qre hFT9 1 h rfl fun f h => wpIn_ret (b_ret (t_ret (t_ret (b_ret (t_ret (e_tmp rfl h s rfl (by show _ = _; rw [rh_no hkl (okN_0 i0)]))))))))
      · skip
        cases q0 : (decide (kyI (hk l) (l.getD k zHn).1 = (k : Int)) : Bool)
        · refine c_wA 14 h (by kernel_rfl) (w_load_row 0 h s row105 rfl rfl (hnArr_size _) rfl fun f h => w_pure h (ru_makeIface Try.underlying105 rfl (h.ev rfl)) rfl fun f h => w_callI h fnc95 (met_rh _) rfl (fun w9 hE9 => ret_val (.bool true) (qhr_any (l.getD k zHn) w9) (congrArg Value.bool i0)) rfl ?_); intro f h
          refine w_run hFT9 4 h rfl fun f h => w_o h rfl (w_pure h (ru_slice_hiZ (hR.keep s.ext) (k) Try.underlying72 szo105 (h.ev rfl) (h.ev rfl) (rfl) (by omega)) rfl fun f h => w_o h rfl (w_load_row 0 h s row105 rfl rfl (hnArr_size _) rfl fun f h => w_o h rfl (w_pure h (ru_makeIface Try.underlying105 rfl (h.ev rfl)) rfl fun f h => w_o h rfl (w_callP h fnc37 (met_ih _) rfl (fun w9 hE9 => nid_any (l.getD k zHn).1 w9) rfl ?_)))); intro f h
          refine w_o h rfl (w_call h fnc65 (fun w9 hE9 => qplh_any (l.take k) (cutV vh k) (l.getD k zHn).1 w9 (hn_take (hR.keep (s.ext.trans hE9)) k (by omega)) (by rw [List.length_take]; omega)) rfl rfl fun f h => w_o h rfl (w_at hFT9 h rfl ((pl_hn hkl).trans (by rw [q0]; rfl)) fun f h => w_run hFT9 1 h rfl fun f h => w_nil s fun w1 s => nct h rfl (qre hFT9 1 h rfl fun f h => wpIn_ret (b_ret (t_ret (t_ret (b_ret (t_ret (e_tmp rfl h s rfl (by show _ = _; rw [rh_no hkl (okN_1 i0 q0)]))))))))))
        · refine c_wA 14 h (by kernel_rfl) (w_load_row 0 h s row105 rfl rfl (hnArr_size _) rfl fun f h => w_pure h (ru_makeIface Try.underlying105 rfl (h.ev rfl)) rfl fun f h => w_callI h fnc95 (met_rh _) rfl (fun w9 hE9 => ret_val (.bool true) (qhr_any (l.getD k zHn) w9) (congrArg Value.bool i0)) rfl ?_); intro f h
          refine w_run hFT9 4 h rfl fun f h => w_o h rfl (w_pure h (ru_slice_hiZ (hR.keep s.ext) (k) Try.underlying72 szo105 (h.ev rfl) (h.ev rfl) (rfl) (by omega)) rfl fun f h => w_o h rfl (w_load_row 0 h s row105 rfl rfl (hnArr_size _) rfl fun f h => w_o h rfl (w_pure h (ru_makeIface Try.underlying105 rfl (h.ev rfl)) rfl fun f h => w_o h rfl (w_callP h fnc37 (met_ih _) rfl (fun w9 hE9 => nid_any (l.getD k zHn).1 w9) rfl ?_)))); intro f h
          refine w_o h rfl (w_call h fnc65 (fun w9 hE9 => qplh_any (l.take k) (cutV vh k) (l.getD k zHn).1 w9 (hn_take (hR.keep (s.ext.trans hE9)) k (by omega)) (by rw [List.length_take]; omega)) rfl rfl fun f h => w_o h rfl (w_af hFT9 h rfl ((pl_hn hkl).trans (by rw [q0]; rfl)) fun f h => w_run hFT9 1 h rfl fun f h => w_nil s fun w1 s => ncf h rfl (wpIn_skip (b_norm (t_norm (c_region (s_pure h (ru_add (h.ev rfl) (h.ev rfl) (by omega)) rfl fun f h => e9 hFT9 1 h rfl fun f h => ?_)))))))
          exact ⟨_, by omega, ⟨k + 1, h.only ⟨rfl, rfl, slot_int rfl (by omega), rfl, trivial⟩, St.as (s.pick _ (List.sublist_append_right [_] _)) trivial, rfl, by omega, nq_next hp1 (okN_1 i0 q0)⟩⟩
    · refine wpIn_exit (t_exit (t_exit (b_exit (t_norm (qre hFT9 1 h rfl fun f h => wpIn_ret (e_tmp rfl h s rfl (by show _ = _; rw [rh_yes h8 (fun j hj => hp1 j (by omega))])))))))

theorem qlong_any (sx : ByteArray) (w : World) : Calls Try.prog 55 [.string sx].toArray w (Ret w (is (.bool (lgS sx)))) := by
  refine c_en Try.func55 rfl Try.ntmps55 rfl fun f h s => qre hFT9 1 h rfl fun f h => qrs hFT9 1 h rfl fun f h => s_pure h (ru_len_str Try.underlying9 (h.ev rfl)) rfl fun f h => s_as hFT9 (.bool (lgS sx)) h rfl (congrArg Value.bool (decide_eq_decide.2 (by omega))) rfl fun f h => e9 hFT9 1 h rfl fun f h => wpIn_ret (e_tmp rfl h s rfl (rfl))

theorem qixt_any (l : List ByteArray) (vh : Value) (w : World) (hR : RdZ w vh 1 l.length (txC l)) (hln : l.length ≤ 1000) : Calls Try.prog 75 [vh, .func (.func 55) #[] #[]].toArray w (Ret w (fun v _ => ∃ r : Int, v = .int .i64 r ∧ ((r = -1 ∧ ∀ x ∈ l, lgS x = false) ∨ ∃ k : Nat, k < l.length ∧ r = (k : Int) ∧ lgS (l.getD k ByteArray.empty) = true))) := by
  refine c_en Try.func75 rfl Try.ntmps75 rfl fun f h s => qre hFT9 1 h rfl fun f h => c_seqN (qrs hFT9 1 h rfl fun f h => s_lz h (hR.keep s.ext) Try.underlying24 rfl rfl fun f h => e9 hFT9 1 h rfl fun f h => wpIn_block (wpIn_loop_ghost (fun nn aa ww => ∃ k : Nat, Sl 19 aa [(0, vh), (1, .func (.func 55) #[] #[]), (6, vh), (7, .int .i64 (l.length : Int)), (8, .int .i64 (k : Int))] ∧ St w [] ww ∧ nn = l.length - k ∧ k ≤ l.length ∧ ∀ i, i < k → lgS (l.getD i ByteArray.empty) = false) (l.length - (0)) ⟨0, h.only ⟨rfl, rfl, rfl, rfl, slot_int rfl (by omega), trivial⟩, s.as trivial, rfl, Nat.zero_le _, fun i hi => absurd hi (Nat.not_lt_zero _)⟩ ?_))
  rintro _ f w1 ⟨k, h, s, hnn, hp0, hp1⟩
  refine qre hFT9 1 h rfl fun f h => c_seqN (c_cd h rfl (fun hc => ?_) (fun hc => ?_))
  · refine kt (c_seqN (wpIn_block (qre hFT9 2 h rfl fun f h => qr ?_)))
    have hkl : k < l.length := by omega
    refine s_run hFT9 3 h rfl fun f h => s_pure h (ru_ixz (hR.keep s.ext) (k) Try.underlying24 szo9 (h.ev rfl) (h.ev rfl) (by omega) (by omega)) rfl fun f h => s_load_at1 ((hR.keep s.ext).el1 (k) (V := .string (l.getD k ByteArray.empty)) (txC_at hkl)) h one9 rfl rfl fun f h => s_callV [.string (l.getD k ByteArray.empty)] (caps := []) h s fnc55 rfl (qlong_any _ _) rfl rfl ?_; intro f w1 v16 hT hE h s; obtain rfl := hT
    refine nt (c_cond h rfl (fun hc => ?_) (fun hc => ?_))
    · have hc : lgS (l.getD k ByteArray.empty) = true := hc
      refine qre hFT9 2 h rfl fun f h => wpIn_ret (b_ret (t_ret (t_ret (b_ret (t_ret (e_tmp rfl h s rfl (⟨_, rfl, .inr ⟨k, hkl, rfl, hc⟩⟩)))))))
    · have hc : lgS (l.getD k ByteArray.empty) = false := hc
      refine wpIn_skip (b_norm (t_norm (c_region (s_pure h (ru_add (h.ev rfl) (h.ev rfl) (by omega)) rfl fun f h => e9 hFT9 1 h rfl fun f h => ?_))))
      exact ⟨_, by omega, ⟨k + 1, h.only ⟨rfl, rfl, rfl, rfl, slot_int rfl (by omega), trivial⟩, St.as s trivial, rfl, by omega, qs_next (q := fun j => lgS (l.getD j ByteArray.empty)) hp1 hc⟩⟩
  · refine wpIn_exit (t_exit (t_exit (b_exit (t_norm (qre hFT9 1 h rfl fun f h => wpIn_ret (e_tmp rfl h s rfl (⟨_, rfl, .inl ⟨rfl, fun x hx => (by obtain ⟨i, hi, rfl⟩ := List.mem_iff_getElem.1 hx; rw [stD hi]; exact hp1 i (by omega))⟩⟩)))))))

theorem qcts_any (l : List ByteArray) (vh : Value) (w : World) (hR : RdZ w vh 1 l.length (txC l)) (hln : l.length ≤ 1000) : Calls Try.prog 60 [vh, .func (.func 55) #[] #[]].toArray w (Ret w (is (.bool (l.any lgS)))) := by
  refine c_en Try.func60 rfl Try.ntmps60 rfl fun f h s => qre hFT9 1 h rfl fun f h => qrs hFT9 2 h rfl fun f h => s_call h s fnc75 (qixt_any l vh _ (hR.keep s.ext) hln) rfl rfl ?_; rintro f w1 v9 ⟨r9, rfl, hr⟩ hE h s
  refine s_as hFT9 (.bool (l.any lgS)) h rfl (congrArg Value.bool (lg_any hr)) rfl fun f h => e9 hFT9 1 h rfl fun f h => wpIn_ret (e_tmp rfl h s rfl (rfl))

theorem qir_any (ho : Ho) (vw vh vi : Value)  (w : World) (hHo : RdH w vw vh vi ho) (hB9 : ho.ws.length ≤ 1000 ∧ ho.hs.length ≤ 1000 ∧ ho.bx.length ≤ 1000) : Calls Try.prog 29 [.agg (hoArr ho.no ho.gt vw vh vi)].toArray w (Ret w (is (.bool (rightH ho)))) := by
  obtain ⟨hw9, hh9, hi9⟩ := hB9
  refine c_en Try.func29 rfl Try.ntmps29 rfl fun f h s => qr (s_box (hoArr ho.no ho.gt vw vh vi) h s rfl rfl rfl fun f w1 b1 h s => e9 hFT9 1 h rfl fun f h => qre hFT9 1 h rfl fun f h => c_seqN ?_)
  refine rs hFT9 1 h rfl fun f h => s_load_at1 (V := .int .i64 ho.no) (cell_of_has (Has.of_own s 0 rfl) 0 (ho_n _ _ _ _ _)) h one3 rfl rfl fun f h => s_cx h s fnc56 (qhst_any ho.no _) rfl rfl (fun b0 f w1 h s => ?_) (fun b0 f w1 h s => ?_)
  · refine e9 hFT9 29 h rfl fun f h => wpIn_ret (e_tmp rfl h s rfl (by show _ = _; rw [inR_0 b0]))
  · skip
    refine s_run hFT9 2 h rfl fun f h => s_o h rfl (s_load_at1 (V := .int .i64 ho.gt) (cell_of_has (Has.of_own s 0 rfl) 1 (ho_g _ _ _ _ _)) h one3 rfl rfl fun f h => s_o h rfl (s_cx h s fnc57 (qsrv_any ho.gt _) rfl rfl (fun b1 f w1 h s => ?_) (fun b1 f w1 h s => ?_)))
    · refine e9 hFT9 25 h rfl fun f h => wpIn_ret (e_tmp rfl h s rfl (by show _ = _; rw [inR_1 b0 b1]))
    · skip
      refine s_run hFT9 3 h rfl fun f h => s_o h rfl (s_load_at1 (V := vw) (cell_of_has (Has.of_own s 0 rfl) 2 (ho_w _ _ _ _ _)) h one71 rfl rfl fun f h => s_o h rfl (s_cx h s fnc58 (qroww_any ho.ws vw _ (hHo.1.keep s.ext) hw9) rfl rfl (fun b2 f w1 h s => ?_) (fun b2 f w1 h s => ?_)))
      · refine e9 hFT9 20 h rfl fun f h => wpIn_ret (e_tmp rfl h s rfl (by show _ = _; rw [inR_2 b0 b1 b2]))
      · skip
        refine s_run hFT9 3 h rfl fun f h => s_o h rfl (s_load_at1 (V := vh) (cell_of_has (Has.of_own s 0 rfl) 3 (ho_h _ _ _ _ _)) h one72 rfl rfl fun f h => s_o h rfl (s_cx h s fnc59 (qrowh_any ho.hs vh _ (hHo.2.1.keep s.ext) hh9) rfl rfl (fun b3 f w1 h s => ?_) (fun b3 f w1 h s => ?_)))
        · refine e9 hFT9 15 h rfl fun f h => wpIn_ret (e_tmp rfl h s rfl (by show _ = _; rw [inR_3 b0 b1 b2 b3]))
        · skip
          refine s_run hFT9 3 h rfl fun f h => s_o h rfl (s_load_at1 (V := vi) (cell_of_has (Has.of_own s 0 rfl) 4 (ho_i _ _ _ _ _)) h one24 rfl rfl fun f h => s_o h rfl (s_lz h (hHo.2.2.keep s.ext) Try.underlying24 rfl rfl fun f h => s_o h rfl (s_ay hFT9 (decide (ho.bx.length ≤ 32)) h rfl ((decide_eq_decide.2 (by omega))) (fun b4 f h => ?_) (fun b4 f h => ?_))))
          · refine e9 hFT9 9 h rfl fun f h => wpIn_ret (e_tmp rfl h s rfl (by show _ = _; rw [inR_4 b0 b1 b2 b3 b4]; rfl))
          · refine s_run hFT9 3 h rfl fun f h => s_o h rfl (s_load_at1 (V := vi) (cell_of_has (Has.of_own s 0 rfl) 4 (ho_i _ _ _ _ _)) h one24 rfl rfl fun f h => s_run hFT9 1 h rfl fun f h => s_o h rfl (s_cv h s fnc60 (qcts_any ho.bx vi _ (hHo.2.2.keep s.ext) hi9) rfl rfl fun f w1 h s => e9 hFT9 3 h rfl fun f h => wpIn_ret (e_tmp rfl h s rfl (by show _ = _; rw [inR_4 b0 b1 b2 b3 b4]; rfl))))

theorem qent_any (ho : Ho) (vw vh vi : Value)  (w : World) (h1 : vw.oneCell' = true) (h2 : vh.oneCell' = true) (h3 : vi.oneCell' = true) : Calls Try.prog 38 [.agg (hoArr ho.no ho.gt vw vh vi)].toArray w (Ret w (is (.agg (eArr (selfH ho))))) := by
  refine c_en Try.func38 rfl Try.ntmps38 rfl fun f h s => qr (s_box (hoArr ho.no ho.gt vw vh vi) h s rfl rfl rfl fun f w1 b1 h s => s_alloc (eArr (0, 0#256, 0)) h s zero47 rfl rfl fun f w1 b2 h s => nt (qrs hFT9 1 h rfl fun f h => s_load_at1 (V := .int .i64 ho.no) (cell_of_has (Has.of_own s 1 rfl) 0 (ho_n _ _ _ _ _)) h one3 rfl rfl fun f h => s_pure h (ru_build_eh sttE rfl (h.ev rfl)) rfl fun f h => s_store_row 0 h s row47 rfl rfl rfl (eArr_size _) (eArr_size _) (eArr_ones _) fun w1 s => nt (wpIn_ret (e_row 0 rfl h s row47 rfl rfl (eArr_size _) (rfl)))))

theorem qtrn_any (ho : Ho) (vw vh vi : Value) (x : Id) (now : Int) (w : World) (hHo : RdH w vw vh vi ho) (hB9 : ho.ws.length ≤ 1000 ∧ ho.hs.length ≤ 1000 ∧ ho.bx.length ≤ 1000) : Calls Try.prog 39 [.agg (hoArr ho.no ho.gt vw vh vi), idV x, .int .i64 now].toArray w (Ret w (is (.int .i64 (trnH ho x now)))) := by
  obtain ⟨hw9, hh9, hi9⟩ := hB9
  refine c_en Try.func39 rfl Try.ntmps39 rfl fun f h s => qr (s_box (hoArr ho.no ho.gt vw vh vi) h s rfl rfl rfl fun f w1 b3 h s => s_box (idArr x) h s rfl rfl rfl fun f w1 b4 h s => e9 hFT9 1 h rfl fun f h => qrs hFT9 1 h rfl fun f h => s_load_at1 (V := vh) (cell_of_has (Has.of_own s 1 rfl) 3 (ho_h _ _ _ _ _)) h one72 rfl rfl fun f h => s_load_row 0 h s row28 rfl rfl (by first | exact idArr_size _ | exact bytesF_size _ _) rfl fun f h => s_cv h s fnc65 (ret_val (.int .i64 (htI ho x)) (qplh_any ho.hs vh x _ (hHo.2.1.keep s.ext) hh9) (rfl)) rfl rfl fun f w1 h s => e9 hFT9 1 h rfl fun f h => c_seqN (c_seqN ?_))
  refine rs hFT9 1 h rfl fun f h => s_ax hFT9 h rfl (fun d0 f h => ?_) (fun d0 f h => ?_)
  · refine e9 hFT9 10 h rfl fun f h => cfk h rfl (qrs hFT9 1 h rfl fun f h => s_load_at1 (V := .int .i64 ho.gt) (cell_of_has (Has.of_own s 1 rfl) 1 (ho_g _ _ _ _ _)) h one3 rfl rfl fun f h => e9 hFT9 1 h rfl fun f h => wpIn_ret (e_tmp rfl h s rfl (by show _ = _; rw [trn_n0 d0])))
  · skip
    cases d1 : (decide (now < (ho.hs.getD (htI ho x).toNat zHn).2.2) : Bool)
    · refine s_run hFT9 1 h rfl fun f h => s_o h rfl ?_
      have hpos := (ht_get d0).2
      refine s_run hFT9 1 h rfl fun f h => s_o h rfl (s_load_at1 (V := vh) (cell_of_has (Has.of_own s 1 rfl) 3 (ho_h _ _ _ _ _)) h one72 rfl rfl fun f h => s_run hFT9 1 h rfl fun f h => s_o h rfl (s_pure h (ru_ixz (hHo.2.1.keep s.ext) ((htI ho x).toNat) Try.underlying72 szo105 (h.ev rfl) (h.ev rfl) ((ht_get d0).1) ((ht_get d0).2)) rfl fun f h => s_o h rfl (s_pure h (ru_fieldE fld105_2 (h.ev rfl) ((hHo.2.1.keep s.ext).some (by omega))) rfl fun f h => s_o h rfl (s_load_at1 (V := .int .i64 (ho.hs.getD (htI ho x).toNat zHn).2.2) (rdz_at (hHo.2.1.keep s.ext) ((htI ho x).toNat * 34 + 33) (hn_c33 _ _ (ht_get d0).2)) h one3 rfl rfl fun f h => s_run hFT9 1 h rfl fun f h => s_o h rfl (s_af hFT9 h rfl ((decide_eq_decide.2 (by omega)).trans d1) fun f h => e9 hFT9 1 h rfl fun f h => cfk h rfl (qrs hFT9 1 h rfl fun f h => s_load_at1 (V := .int .i64 ho.gt) (cell_of_has (Has.of_own s 1 rfl) 1 (ho_g _ _ _ _ _)) h one3 rfl rfl fun f h => e9 hFT9 1 h rfl fun f h => wpIn_ret (e_tmp rfl h s rfl (by show _ = _; rw [trn_n1 d1]))))))))
    · refine s_run hFT9 1 h rfl fun f h => s_o h rfl ?_
      have hpos := (ht_get d0).2
      refine s_run hFT9 1 h rfl fun f h => s_o h rfl (s_load_at1 (V := vh) (cell_of_has (Has.of_own s 1 rfl) 3 (ho_h _ _ _ _ _)) h one72 rfl rfl fun f h => s_run hFT9 1 h rfl fun f h => s_o h rfl (s_pure h (ru_ixz (hHo.2.1.keep s.ext) ((htI ho x).toNat) Try.underlying72 szo105 (h.ev rfl) (h.ev rfl) ((ht_get d0).1) ((ht_get d0).2)) rfl fun f h => s_o h rfl (s_pure h (ru_fieldE fld105_2 (h.ev rfl) ((hHo.2.1.keep s.ext).some (by omega))) rfl fun f h => s_o h rfl (s_load_at1 (V := .int .i64 (ho.hs.getD (htI ho x).toNat zHn).2.2) (rdz_at (hHo.2.1.keep s.ext) ((htI ho x).toNat * 34 + 33) (hn_c33 _ _ (ht_get d0).2)) h one3 rfl rfl fun f h => s_run hFT9 1 h rfl fun f h => s_o h rfl (s_at hFT9 h rfl ((decide_eq_decide.2 (by omega)).trans d1) fun f h => e9 hFT9 1 h rfl fun f h => c_ct h rfl (qrs hFT9 1 h rfl fun f h => s_load_at1 (V := vh) (cell_of_has (Has.of_own s 1 rfl) 3 (ho_h _ _ _ _ _)) h one72 rfl rfl fun f h => s_run hFT9 1 h rfl fun f h => s_pure h (ru_ixz (hHo.2.1.keep s.ext) ((htI ho x).toNat) Try.underlying72 szo105 (h.ev rfl) (h.ev rfl) ((ht_get d0).1) ((ht_get d0).2)) rfl fun f h => s_pure h (ru_fieldE fld105_1 (h.ev rfl) ((hHo.2.1.keep s.ext).some (by omega))) rfl fun f h => s_load_at1 (V := .int .i64 (ho.hs.getD (htI ho x).toNat zHn).2.1) (rdz_at (hHo.2.1.keep s.ext) ((htI ho x).toNat * 34 + 32) (hn_c32 _ _ (ht_get d0).2)) h one3 rfl rfl fun f h => e9 hFT9 1 h rfl fun f h => rt (e_tmp rfl h s rfl (by show _ = _; rw [trn_y d0 d1]))))))))

theorem qclt_ok (l : List ByteArray) (hln : l.length ≤ 1000) (a9 : Option Addr) (n9 c9 : Nat) (w : World) (hR : RdZ w (.slice a9 n9 c9) 1 l.length (txC l)) : Calls Try.prog 54 [.slice a9 n9 c9].toArray w (Ret w (fun v w' => Owns w' w.heap.size 9 1 v l.length (txC l))) := by
  refine c_en Try.func54 rfl Try.ntmps54 rfl fun f h s => qre hFT9 1 h rfl fun f h => c_seqN (c_seqN ?_)
  cases hn : (a9.isNone : Bool)
  · refine rs hFT9 1 h rfl fun f h => s_pure h (ru_val (.bool false) (ru_eql_nilS Try.underlying24 (h.ev rfl) (h.ev rfl)) (congrArg Value.bool hn)) rfl fun f h => ncfk h rfl (qr (s_bslice0 (base := w.heap.size) h Try.underlying24 elm9 (Nat.le_refl _) rfl fun f w2 v5 h hE3 e5 => s_run hFT9 1 h rfl fun f h => s_append_emp (base := w.heap.size) e5 (hR.keep hE3) h Try.underlying24 elm9 rfl rfl hE3.le (txC_ones _) (by unfold maxLen; omega) (by omega) rfl fun f w3 v7 h hE4 e7 => ?_))
    replace s := s.sl_new (hE3.trans hE4) e7
    refine e9 hFT9 1 h rfl fun f h => wpIn_ret (e_tmp rfl h s rfl (s.getSl 0 rfl))
  · refine rs hFT9 1 h rfl fun f h => s_pure h (ru_val (.bool true) (ru_eql_nilS Try.underlying24 (h.ev rfl) (h.ev rfl)) (congrArg Value.bool hn)) rfl fun f h => nct h rfl (qre hFT9 1 h rfl fun f h => rt (e_tmp rfl h s rfl (by obtain rfl := clone_nilG hn hR; exact owns_nil _ _ _ _)))

theorem qclt_any (l : List ByteArray) (hln : l.length ≤ 1000) (v9 : Value) (w : World) (hR : RdZ w v9 1 l.length (txC l)) : Calls Try.prog 54 [v9].toArray w (Ret w (fun v w' => Owns w' w.heap.size 9 1 v l.length (txC l))) := by
  obtain ⟨a, c, rfl⟩ := hR.len
  exact qclt_ok l hln a _ c w hR

/- fld26_0 fld26_1 fld26_4 -/
set_option maxHeartbeats 2000000 in
theorem qopen_any (ho : Ho) (vw vh vi : Value)  (w : World) (hHo : RdH w vw vh vi ho) (hB9 : ho.ws.length ≤ 1000 ∧ ho.hs.length ≤ 1000 ∧ ho.bx.length ≤ 1000) : Calls Try.prog 28 [.agg (hoArr ho.no ho.gt vw vh vi)].toArray w (Ret w (OwH w 79 105 9 ho)) := by
  obtain ⟨hw9, hh9, hi9⟩ := hB9
  refine c_en Try.func28 rfl Try.ntmps28 rfl fun f h s => qr (s_box (hoArr ho.no ho.gt vw vh vi) h s rfl rfl rfl fun f w1 b1 h s => s_alloc (hoArr 0 0 nilV nilV nilV) h s zero74 rfl rfl fun f w1 b2 h s => nt (c_seqN (c_regT 0 9 [[], [0], [], [2], [], [4], [4, 5], [0, 1, 2, 3, 4, 5, 6], [], [0, 1, 2, 3, 4, 5, 6, 7, 8]] [[], [], [], [], [], [], [], [], [], []] [] [.v _, .v (.int .i64 ho.no), .v _, .v (.int .i64 ho.gt), .v _, .v vi, .r (fun v => [.sl (v 6) 9 1 ho.bx.length (txC ho.bx)]) (fun v => (v 6).oneCell' = true), .f (fun v => v 7 = .agg (hoArr ho.no ho.gt nilV nilV (v 6))), .q (fun v => [.blk (pbk (v 8)) (.cells (hoArr 0 0 nilV nilV nilV) 74)]), .n] _ h s rfl (by kernel_rfl) (by kernel_rfl) (by kernel_rfl) (oPu hFT9 h rfl rfl rfl (oAI ?_ (oPu hFT9 h rfl rfl rfl (oAI ?_ (oPu hFT9 h rfl rfl rfl (oAI ?_ (oAI ?_ (oAI ?_ (oAI ?_ (trivial)))))))))) [0, 1, 2, 3, 4, 5, 6, 7, 8] (by kernel_rfl) ?_)))
  · intro f9 w2 vl1 E9 hs9 hd9 hl hF s
    have h := f9h [(8, _)] h hs9 hd9 ⟨oc_g hl 8 0 (by kernel_rfl) (hF 0 (by decide)), trivial⟩
    refine s_load_at1 (V := .int .i64 ho.no) (cell_of_has (Has.of_own s 1 rfl) 0 (ho_n _ _ _ _ _)) h one3 rfl rfl fun f h => s_nil ⟨_, oc_u 9 h rfl rfl, rfl, s⟩
  · intro f9 w2 vl1 E9 hs9 hd9 hl hF s
    have h := f9h [(10, _)] h hs9 hd9 ⟨oc_g hl 10 2 (by kernel_rfl) (hF 2 (by decide)), trivial⟩
    refine s_load_at1 (V := .int .i64 ho.gt) (cell_of_has (Has.of_own s 1 rfl) 1 (ho_g _ _ _ _ _)) h one3 rfl rfl fun f h => s_nil ⟨_, oc_u 11 h rfl rfl, rfl, s⟩
  · intro f9 w2 vl1 E9 hs9 hd9 hl hF s
    have h := f9h [(12, _)] h hs9 hd9 ⟨oc_g hl 12 4 (by kernel_rfl) (hF 4 (by decide)), trivial⟩
    refine s_load_at1 (V := vi) (cell_of_has (Has.of_own s 1 rfl) 4 (ho_i _ _ _ _ _)) h one24 rfl rfl fun f h => s_nil ⟨_, oc_u 13 h rfl rfl, rfl, s⟩
  · intro f9 w2 vl1 E9 hs9 hd9 hl hF s
    have h := f9h [(13, _)] h hs9 hd9 ⟨oc_g hl 13 5 (by kernel_rfl) (hF 5 (by decide)), trivial⟩
    refine s_call h s fnc54 (qclt_any ho.bx hi9 vi _ (hHo.2.2.keep s.ext)) rfl rfl ?_; intro f w3 v14 hT hE h sq; replace s := s.sl_new hE hT
    exact s_nil ⟨_, oc_u 14 h rfl rfl, own_one (s.getSl 0 rfl), s⟩
  · intro f9 w2 vl1 E9 hs9 hd9 hl hF s
    have e9 : f9.tmps.getD 9 undef = .int .i64 ho.no := (oc_get hl 9 1 (by kernel_rfl) (by kernel_rfl)).trans (hF 1 (by decide))
    have e11 : f9.tmps.getD 11 undef = .int .i64 ho.gt := (oc_get hl 11 3 (by kernel_rfl) (by kernel_rfl)).trans (hF 3 (by decide))
    have e14 : f9.tmps.getD 14 undef = (vl1 6) := oc_get hl 14 6 (by kernel_rfl) (by kernel_rfl)
    have h := fin_slot [(9, .int .i64 ho.no), (11, .int .i64 ho.gt), (14, (vl1 6))] (hs9.trans h.size) (hd9.trans h.defers) (holds_lk ⟨e9, e11, e14, trivial⟩)
    refine s_pure h (ru_build_ho5 sttIn (one_cell (hF 6 (by decide))).1 (one_cell (hF 6 (by decide))).2 (h.ev rfl) (h.ev rfl) (h.ev rfl)) rfl fun f h => s_nil ⟨_, oc_u 15 h rfl rfl, rfl, s⟩
  · intro f9 w2 vl1 E9 hs9 hd9 hl hF s
    have h := fin_slot [] (hs9.trans h.size) (hd9.trans h.defers) (holds_lk trivial)
    refine s_alloc (hoArr 0 0 nilV nilV nilV) h s zero74 rfl rfl fun f w1 b3 h s => s_nil ⟨_, oc_u 3 h rfl rfl, ⟨_, rfl⟩, s⟩
  intro f w1 vl1 hs9 hd9 hv hr hF s
  replace hv := fun i d h9 => hv i d (show Nat.blt i 9 = true from h9)
  obtain ⟨b3, hb3⟩ : ∃ b, vl1 8 = .pointer (some ⟨b, 0, none⟩) := hF 8 (by kernel_rfl)
  replace h := oc_slT 9 (ops := _) [(8, _), (9, _), (10, _), (11, _), (12, _), (13, _), (14, (vl1 6)), (15, .agg (hoArr ho.no ho.gt nilV nilV (vl1 6))), (3, .pointer (some ⟨b3, 0, none⟩))] h hs9 hd9 hr ⟨(hv 0 8 rfl rfl).trans (hF 0 rfl), (hv 1 9 rfl rfl).trans (hF 1 rfl), (hv 2 10 rfl rfl).trans (hF 2 rfl), (hv 3 11 rfl rfl).trans (hF 3 rfl), (hv 4 12 rfl rfl).trans (hF 4 rfl), (hv 5 13 rfl rfl).trans (hF 5 rfl), hv 6 14 rfl rfl, (hv 7 15 rfl rfl).trans (hF 7 rfl), (hv 8 3 rfl rfl).trans hb3, trivial⟩ (by kernel_rfl)
  replace s : St w [.sl (vl1 6) 9 1 ho.bx.length (txC ho.bx), .blk (pbk (vl1 8)) (.cells (hoArr 0 0 nilV nilV nilV) 74), .blk b2 (.cells (hoArr 0 0 nilV nilV nilV) 74), .blk b1 (.cells (hoArr ho.no ho.gt vw vh vi) 26)] _ := s
  rw [hb3] at s
  replace s : St w [.sl (vl1 6) 9 1 ho.bx.length (txC ho.bx), .blk b3 (.cells (hoArr 0 0 nilV nilV nilV) 74), .blk b2 (.cells (hoArr 0 0 nilV nilV nilV) 74), .blk b1 (.cells (hoArr ho.no ho.gt vw vh vi) 26)] _ := s
  refine s_store_row 1 h s row74 rfl rfl rfl (hoArr_size _ _ _ _ _) (hoArr_size _ _ _ _ _) (hoArr_ones _ _ (rfl) (rfl) (hF 6 (by kernel_rfl))) fun w1 s => nt (c_seqN (qrs hFT9 1 h rfl fun f h => ?_))
  replace s := s.nilSl 79 33
  refine s_load_at1 (V := vw) (cell_of_has (Has.of_own s 4 rfl) 2 (ho_w _ _ _ _ _)) h one22 rfl rfl fun f h => s_lz h (hHo.1.keep s.ext) Try.underlying22 rfl rfl fun f h => e9 hFT9 1 h rfl fun f h => wpIn_block (wpIn_loop_ghost (fun nn aa ww => ∃ k : Nat, ∃ va : Value, Sl 57 aa [(0, .agg (hoArr ho.no ho.gt vw vh vi)), (1, .pointer (some ⟨b1, 0, none⟩)), (2, .pointer (some ⟨b2, 0, none⟩)), (3, .pointer (some ⟨b3, 0, none⟩)), (14, (vl1 6)), (17, vw), (18, .int .i64 (ho.ws.length : Int)), (19, .int .i64 (k : Int))] ∧ St w [.sl va 79 33 (ho.ws.take k).length (wnCells (ho.ws.take k)), .sl (vl1 6) 9 1 ho.bx.length (txC ho.bx), .blk b3 (.cells (hoArr ho.no ho.gt va nilV (vl1 6)) 74), .blk b2 (.cells (hoArr 0 0 nilV nilV nilV) 74), .blk b1 (.cells (hoArr ho.no ho.gt vw vh vi) 26)] ww ∧ nn = ho.ws.length - k ∧ k ≤ ho.ws.length) (ho.ws.length - (0)) ⟨0, nilV, h.only ⟨rfl, rfl, rfl, rfl, rfl, rfl, rfl, slot_int rfl (by omega), trivial⟩, s.as ⟨rfl, rfl, rfl, rfl, rfl, trivial⟩, rfl, Nat.zero_le _⟩ ?_)
  rintro _ f w1 ⟨k, va, h, s, hnn, hp0⟩
  refine qre hFT9 1 h rfl fun f h => c_seqN (c_cd h rfl (fun hc => ?_) (fun hc => ?_))
  · refine kt (c_seqN (wpIn_block (qr ?_)))
    have hkl : k < ho.ws.length := by omega
    refine s_pure h (ru_ixz (hHo.1.keep s.ext) (k) Try.underlying22 szo40 (h.ev rfl) (h.ev rfl) (by omega) (by omega)) rfl fun f h => s_load_at ((hHo.1.keep s.ext).el (k) (by omega) (by decide) (D := wnArr (ho.ws.getD k zWn)) (wn_el _ k hkl)) h row40 rfl (wnArr_size _) rfl fun f h => s_alloc (wnArr zWn) h s zero40 rfl rfl fun f w1 b5 h s => s_store_row 0 h s row40 rfl rfl rfl (wnArr_size _) (wnArr_size _) (wnArr_ones _) fun w1 s => nt (rs hFT9 1 h rfl fun f h => s_load_at1 (V := va) (cell_of_has (Has.of_own s 3 rfl) 2 (ho_w _ _ _ _ _)) h one71 rfl rfl fun f h => s_run hFT9 1 h rfl fun f h => s_load_at (Has.subL (Has.of_own s 0 rfl) 0 32 (D := idArr (ho.ws.getD k zWn).1) (wnArr_id _)) h row28 rfl (by first | exact idArr_size _ | exact bytesF_size _ _) rfl fun f h => s_pure h (ru_build_nm sttNm (h.ev rfl)) rfl fun f h => s_run hFT9 1 h rfl fun f h => s_load_at1 (V := .int .i64 (ho.ws.getD k zWn).2) (cell_of_has (Has.of_own s 0 rfl) 32 (wnArr_life _)) h one3 rfl rfl fun f h => s_pure h (ru_build_wn sttWm (h.ev rfl) (h.ev rfl)) rfl fun f h => s_bslice (vs := [.agg (wnArr (ho.ws.getD k zWn))]) [.tmp 30] h s Try.underlying71 elm79 rfl rfl (wn_sz _) rfl rfl rfl fun f w1 v31 h s => s_append 2 0 h s Try.underlying71 elm79 rfl rfl rfl rfl (by decide) (by rw [one_wn]; exact wnArr_ones _) (by have h9 : (ho.ws.take k).length ≤ k := (by rw [List.length_take]; omega); unfold maxLen; omega) (by have h9 : (ho.ws.take k).length ≤ k := (by rw [List.length_take]; omega); omega) rfl fun f w1 v32 h s => ?_)
    replace s := s.pick _ (List.sublist_cons_self _ _)
    replace s := s.resl (m := (ho.ws.take (k + 1)).length) (ys := wnCells (ho.ws.take (k + 1))) 1 rfl (by rw [take_wn hkl, List.length_append]; rfl) (by rw [take_wn hkl, one_wn, wn_snoc])
    refine s_run hFT9 1 h rfl fun f h => s_store_one 3 h s one71 rfl rfl rfl (by rw [hoArr_size]; omega) (own_one (s.getSl 1 rfl)) fun w1 s => ?_
    replace s := s.recell (D := hoArr ho.no ho.gt v32 nilV (vl1 6)) 3 rfl (rfl)
    refine s_nil (b_norm (t_norm (c_region (s_pure h (ru_add (h.ev rfl) (h.ev rfl) (by omega)) rfl fun f h => e9 hFT9 1 h rfl fun f h => ?_))))
    exact ⟨_, by omega, ⟨k + 1, v32, h.only ⟨rfl, rfl, rfl, rfl, rfl, rfl, rfl, slot_int rfl (by omega), trivial⟩, St.as (s.pick _ (List.Sublist.cons _ (List.Sublist.cons_cons _ (List.Sublist.cons_cons _ (List.Sublist.cons_cons _ (List.Sublist.cons_cons _ (List.Sublist.cons_cons _ (List.nil_sublist _)))))))) ⟨rfl, rfl, rfl, rfl, rfl, trivial⟩, rfl, by omega⟩⟩
  · refine wpIn_exit (t_exit (t_exit (b_exit (t_norm (c_seqN (qrs hFT9 1 h rfl fun f h => ?_))))))
    obtain rfl : k = ho.ws.length := by omega
    rw [List.take_length] at s
    replace s := s.nilSl 105 34
    refine s_load_at1 (V := vh) (cell_of_has (Has.of_own s 5 rfl) 3 (ho_h _ _ _ _ _)) h one23 rfl rfl fun f h => s_lz h (hHo.2.1.keep s.ext) Try.underlying23 rfl rfl fun f h => e9 hFT9 1 h rfl fun f h => wpIn_block (wpIn_loop_ghost (fun nn aa ww => ∃ k : Nat, ∃ vc : Value, Sl 57 aa [(0, .agg (hoArr ho.no ho.gt vw vh vi)), (1, .pointer (some ⟨b1, 0, none⟩)), (2, .pointer (some ⟨b2, 0, none⟩)), (3, .pointer (some ⟨b3, 0, none⟩)), (14, (vl1 6)), (36, vh), (37, .int .i64 (ho.hs.length : Int)), (38, .int .i64 (k : Int))] ∧ St w [.sl vc 105 34 (ho.hs.take k).length (hnCells (ho.hs.take k)), .sl va 79 33 ho.ws.length (wnCells ho.ws), .sl (vl1 6) 9 1 ho.bx.length (txC ho.bx), .blk b3 (.cells (hoArr ho.no ho.gt va vc (vl1 6)) 74), .blk b2 (.cells (hoArr 0 0 nilV nilV nilV) 74), .blk b1 (.cells (hoArr ho.no ho.gt vw vh vi) 26)] ww ∧ nn = ho.hs.length - k ∧ k ≤ ho.hs.length) (ho.hs.length - (0)) ⟨0, nilV, h.only ⟨rfl, rfl, rfl, rfl, rfl, rfl, rfl, slot_int rfl (by omega), trivial⟩, s.as ⟨rfl, rfl, rfl, rfl, rfl, rfl, trivial⟩, rfl, Nat.zero_le _⟩ ?_)
    rintro _ f w1 ⟨k, vc, h, s, hnn, hp0⟩
    refine qre hFT9 1 h rfl fun f h => c_seqN (c_cd h rfl (fun hc => ?_) (fun hc => ?_))
    · refine kt (c_seqN (wpIn_block (qr ?_)))
      have hkl : k < ho.hs.length := by omega
      refine s_pure h (ru_ixz (hHo.2.1.keep s.ext) (k) Try.underlying23 szo84 (h.ev rfl) (h.ev rfl) (by omega) (by omega)) rfl fun f h => s_load_at ((hHo.2.1.keep s.ext).el (k) (by omega) (by decide) (D := hnArr (ho.hs.getD k zHn)) (hn_el _ k hkl)) h row84 rfl (hnArr_size _) rfl fun f h => s_alloc (hnArr zHn) h s zero84 rfl rfl fun f w1 b7 h s => s_store_row 0 h s row84 rfl rfl rfl (hnArr_size _) (hnArr_size _) (hnArr_ones _) fun w1 s => nt (rs hFT9 1 h rfl fun f h => s_load_at1 (V := vc) (cell_of_has (Has.of_own s 4 rfl) 3 (ho_h _ _ _ _ _)) h one72 rfl rfl fun f h => s_run hFT9 1 h rfl fun f h => s_load_at (Has.subL (Has.of_own s 0 rfl) 0 32 (D := idArr (ho.hs.getD k zHn).1) (hnArr_id _)) h row28 rfl (by first | exact idArr_size _ | exact bytesF_size _ _) rfl fun f h => s_pure h (ru_build_nm sttNm (h.ev rfl)) rfl fun f h => s_run hFT9 1 h rfl fun f h => s_load_at1 (V := .int .i64 (ho.hs.getD k zHn).2.1) (cell_of_has (Has.of_own s 0 rfl) 32 (hnArr_no _)) h one3 rfl rfl fun f h => s_run hFT9 1 h rfl fun f h => s_load_at1 (V := .int .i64 (ho.hs.getD k zHn).2.2) (cell_of_has (Has.of_own s 0 rfl) 33 (hnArr_until _)) h one3 rfl rfl fun f h => s_pure h (ru_build_hn sttHm (h.ev rfl) (h.ev rfl) (h.ev rfl)) rfl fun f h => s_bslice (vs := [.agg (hnArr (ho.hs.getD k zHn))]) [.tmp 51] h s Try.underlying72 elm105 rfl rfl (hn_sz _) rfl rfl rfl fun f w1 v52 h s => s_append 2 0 h s Try.underlying72 elm105 rfl rfl rfl rfl (by decide) (by rw [one_hn]; exact hnArr_ones _) (by have h9 : (ho.hs.take k).length ≤ k := (by rw [List.length_take]; omega); unfold maxLen; omega) (by have h9 : (ho.hs.take k).length ≤ k := (by rw [List.length_take]; omega); omega) rfl fun f w1 v53 h s => ?_)
      replace s := s.pick _ (List.sublist_cons_self _ _)
      replace s := s.resl (m := (ho.hs.take (k + 1)).length) (ys := hnCells (ho.hs.take (k + 1))) 1 rfl (by rw [take_hn hkl, List.length_append]; rfl) (by rw [take_hn hkl, one_hn, hn_snoc])
      refine s_run hFT9 1 h rfl fun f h => s_store_one 4 h s one72 rfl rfl rfl (by rw [hoArr_size]; omega) (own_one (s.getSl 1 rfl)) fun w1 s => ?_
      replace s := s.recell (D := hoArr ho.no ho.gt va v53 (vl1 6)) 4 rfl (rfl)
      refine s_nil (b_norm (t_norm (c_region (s_pure h (ru_add (h.ev rfl) (h.ev rfl) (by omega)) rfl fun f h => e9 hFT9 1 h rfl fun f h => ?_))))
      exact ⟨_, by omega, ⟨k + 1, v53, h.only ⟨rfl, rfl, rfl, rfl, rfl, rfl, rfl, slot_int rfl (by omega), trivial⟩, St.as (s.pick _ (List.Sublist.cons _ (List.Sublist.cons_cons _ (List.Sublist.cons_cons _ (List.Sublist.cons_cons _ (List.Sublist.cons_cons _ (List.Sublist.cons_cons _ (List.Sublist.cons_cons _ (List.nil_sublist _))))))))) ⟨rfl, rfl, rfl, rfl, rfl, rfl, trivial⟩, rfl, by omega⟩⟩
    · refine wpIn_exit (t_exit (t_exit (b_exit (t_norm (qr (s_load_row 3 h s row74 rfl rfl (hoArr_size _ _ _ _ _) rfl fun f h => s_store_row 4 h s row74 rfl rfl rfl (hoArr_size _ _ _ _ _) (hoArr_size _ _ _ _ _) (hoArr_ones _ _ (own_one (s.getSl 1 rfl)) (own_one (s.getSl 0 rfl)) (hF 6 (by kernel_rfl))) fun w1 s => nt (wpIn_ret (e_row 4 rfl h s row74 rfl rfl (hoArr_size _ _ _ _ _) (by obtain rfl : k = ho.hs.length := (by omega); rw [List.take_length] at s; exact ⟨_, _, _, rfl, s.sel [1, 0, 2] rfl (by decide)⟩)))))))))

/- fld105_0 fld105_1 fld105_2 fld26_2 fld26_3 fld79_0 fld79_1 -/
set_option maxHeartbeats 2000000 in
theorem qclose_any (ho : Ho) (vw vh vi : Value)  (w : World) (hHo : RdH w vw vh vi ho) (hB9 : ho.ws.length ≤ 1000 ∧ ho.hs.length ≤ 1000 ∧ ho.bx.length ≤ 1000) : Calls Try.prog 32 [.agg (hoArr ho.no ho.gt vw vh vi)].toArray w (Ret w (ClH w 40 84 vi ho)) := by
  obtain ⟨hw9, hh9, hi9⟩ := hB9
  refine c_en Try.func32 rfl Try.ntmps32 rfl fun f h s => qr (s_box (hoArr ho.no ho.gt vw vh vi) h s rfl rfl rfl fun f w1 b1 h s => s_alloc (hoArr 0 0 nilV nilV nilV) h s zero26 rfl rfl fun f w1 b2 h s => nt (qrs hFT9 1 h rfl fun f h => s_load_at1 (V := .int .i64 ho.no) (cell_of_has (Has.of_own s 1 rfl) 0 (ho_n _ _ _ _ _)) h one3 rfl rfl fun f h => s_run hFT9 1 h rfl fun f h => s_load_at1 (V := .int .i64 ho.gt) (cell_of_has (Has.of_own s 1 rfl) 1 (ho_g _ _ _ _ _)) h one3 rfl rfl fun f h => s_run hFT9 1 h rfl fun f h => s_load_at1 (V := vi) (cell_of_has (Has.of_own s 1 rfl) 4 (ho_i _ _ _ _ _)) h one24 rfl rfl fun f h => s_pure h (ru_build_ho5 sttHo (rd_size hHo.2.2) (rd_cells hHo.2.2) (h.ev rfl) (h.ev rfl) (h.ev rfl)) rfl fun f h => s_alloc (hoArr 0 0 nilV nilV nilV) h s zero26 rfl rfl fun f w1 b3 h s => s_store_row 0 h s row26 rfl rfl rfl (hoArr_size _ _ _ _ _) (hoArr_size _ _ _ _ _) (hoArr_ones _ _ (rfl) (rfl) (rd_one (hHo.2.2.keep s.ext))) fun w1 s => nt (c_seqN (qrs hFT9 1 h rfl fun f h => ?_))))
  replace s := s.nilSl 40 33
  refine s_load_at1 (V := vw) (cell_of_has (Has.of_own s 3 rfl) 2 (ho_w _ _ _ _ _)) h one71 rfl rfl fun f h => s_lz h (hHo.1.keep s.ext) Try.underlying71 rfl rfl fun f h => e9 hFT9 1 h rfl fun f h => wpIn_block (wpIn_loop_ghost (fun nn aa ww => ∃ k : Nat, ∃ va : Value, Sl 56 aa [(0, .agg (hoArr ho.no ho.gt vw vh vi)), (1, .pointer (some ⟨b1, 0, none⟩)), (2, .pointer (some ⟨b2, 0, none⟩)), (3, .pointer (some ⟨b3, 0, none⟩)), (16, vw), (17, .int .i64 (ho.ws.length : Int)), (18, .int .i64 (k : Int))] ∧ St w [.sl va 40 33 (ho.ws.take k).length (wnCells (ho.ws.take k)), .blk b3 (.cells (hoArr ho.no ho.gt va nilV vi) 26), .blk b2 (.cells (hoArr 0 0 nilV nilV nilV) 26), .blk b1 (.cells (hoArr ho.no ho.gt vw vh vi) 74)] ww ∧ nn = ho.ws.length - k ∧ k ≤ ho.ws.length) (ho.ws.length - (0)) ⟨0, nilV, h.only ⟨rfl, rfl, rfl, rfl, rfl, rfl, slot_int rfl (by omega), trivial⟩, s.as ⟨rfl, rfl, rfl, rfl, trivial⟩, rfl, Nat.zero_le _⟩ ?_)
  rintro _ f w1 ⟨k, va, h, s, hnn, hp0⟩
  refine qre hFT9 1 h rfl fun f h => c_seqN (c_cd h rfl (fun hc => ?_) (fun hc => ?_))
  · refine kt (c_seqN (wpIn_block (qr ?_)))
    have hkl : k < ho.ws.length := by omega
    refine s_pure h (ru_ixz (hHo.1.keep s.ext) (k) Try.underlying71 szo79 (h.ev rfl) (h.ev rfl) (by omega) (by omega)) rfl fun f h => s_load_at ((hHo.1.keep s.ext).el (k) (by omega) (by decide) (D := wnArr (ho.ws.getD k zWn)) (wn_el _ k hkl)) h row79 rfl (wnArr_size _) rfl fun f h => s_alloc (wnArr zWn) h s zero79 rfl rfl fun f w1 b5 h s => s_store_row 0 h s row79 rfl rfl rfl (wnArr_size _) (wnArr_size _) (wnArr_ones _) fun w1 s => nt ?_
    replace s := s.bring 1 rfl
    replace s : St w [.sl va 40 33 (ho.ws.take k).length (wnCells (ho.ws.take k)), .blk b5 (.cells (wnArr (ho.ws.getD k zWn)) 79), .blk b3 (.cells (hoArr ho.no ho.gt va nilV vi) 26), .blk b2 (.cells (hoArr 0 0 nilV nilV nilV) 26), .blk b1 (.cells (hoArr ho.no ho.gt vw vh vi) 74)] _ := s
    refine c_regT 1 10 [[], [0], [], [2], [2, 3], [], [5], [2, 3, 4, 5, 6], [2, 3, 4, 5, 6, 7], [0, 1, 2, 3, 4, 5, 6, 7, 8], [0, 1, 2, 3, 4, 5, 6, 7, 8, 9], [0, 1, 2, 3, 4, 5, 6, 7, 8, 9, 10]] [[], [], [], [], [], [], [], [], [], [8, 12], [], []] [[_]] [.v _, .v va, .v _, .v (.agg (idArr (ho.ws.getD k zWn).1)), .v (.agg (idArr (ho.ws.getD k zWn).1)), .v _, .v (.int .i64 (ho.ws.getD k zWn).2), .v (.agg (wnArr (ho.ws.getD k zWn))), .m (fun v => [.sl (v 8) 40 33 1 (wnCells [(ho.ws.getD k zWn)])]), .m (fun v => [.sl (v 9) 40 33 (ho.ws.take (k + 1)).length (wnCells (ho.ws.take (k + 1)))]), .n, .n] _ h s rfl (by kernel_rfl) (by kernel_rfl) (by kernel_rfl) (oPu hFT9 h rfl rfl rfl (oAI ?_ (oPu hFT9 h rfl rfl rfl (oAI ?_ (oAI ?_ (oPu hFT9 h rfl rfl rfl (oAI ?_ (oAI ?_ (oAI ?_ (oAI ?_ (trivial))))))))))) [0, 1, 2, 3, 4, 5, 6, 7, 9] (by kernel_rfl) ?_
    · intro f9 w2 vl5 E9 hs9 hd9 hl hF s
      have h := f9h [(22, _)] h hs9 hd9 ⟨oc_g hl 22 0 (by kernel_rfl) (hF 0 (by decide)), trivial⟩
      refine s_load_at1 (V := va) (cell_of_has (Has.of_own s 1 rfl) 2 (ho_w _ _ _ _ _)) h one22 rfl rfl fun f h => s_nil ⟨_, oc_u 23 h rfl rfl, rfl, s⟩
    · intro f9 w2 vl5 E9 hs9 hd9 hl hF s
      have h := f9h [(24, _)] h hs9 hd9 ⟨oc_g hl 24 2 (by kernel_rfl) (hF 2 (by decide)), trivial⟩
      refine s_load_at (Has.subL (Has.of_own s 0 rfl) 0 32 (D := idArr (ho.ws.getD k zWn).1) (wnArr_id _)) h row77 rfl (by first | exact idArr_size _ | exact bytesF_size _ _) rfl fun f h => s_nil ⟨_, oc_u 25 h rfl rfl, rfl, s⟩
    · intro f9 w2 vl5 E9 hs9 hd9 hl hF s
      have h := f9h [(25, _)] h hs9 hd9 ⟨oc_g hl 25 3 (by kernel_rfl) (hF 3 (by decide)), trivial⟩
      refine s_cv h s fnc37 (nid_any (ho.ws.getD k zWn).1 _) rfl rfl fun f w1 h s => s_nil ⟨_, oc_u 26 h rfl rfl, rfl, s⟩
    · intro f9 w2 vl5 E9 hs9 hd9 hl hF s
      have h := f9h [(27, _)] h hs9 hd9 ⟨oc_g hl 27 5 (by kernel_rfl) (hF 5 (by decide)), trivial⟩
      refine s_load_at1 (V := .int .i64 (ho.ws.getD k zWn).2) (cell_of_has (Has.of_own s 0 rfl) 32 (wnArr_life _)) h one3 rfl rfl fun f h => s_nil ⟨_, oc_u 28 h rfl rfl, rfl, s⟩
    · intro f9 w2 vl5 E9 hs9 hd9 hl hF s
      have h := f9h [(26, _), (28, _)] h hs9 hd9 ⟨oc_g hl 26 4 (by kernel_rfl) (hF 4 (by decide)), oc_g hl 28 6 (by kernel_rfl) (hF 6 (by decide)), trivial⟩
      refine s_pure h (ru_build_wn sttWn (h.ev rfl) (h.ev rfl)) rfl fun f h => s_nil ⟨_, oc_u 29 h rfl rfl, rfl, s⟩
    · intro f9 w2 vl5 E9 hs9 hd9 hl hF s
      have h := f9h [(29, _)] h hs9 hd9 ⟨oc_g hl 29 7 (by kernel_rfl) (hF 7 (by decide)), trivial⟩
      refine s_bslice (vs := [.agg (wnArr (ho.ws.getD k zWn))]) [.tmp 29] h s Try.underlying22 elm40 rfl rfl (wn_sz _) rfl rfl rfl fun f w1 v30 h s => ?_
      replace s := s.resl (m := 1) (ys := wnCells [(ho.ws.getD k zWn)]) 0 rfl rfl (by rw [one_wn, wnCells_one])
      exact s_nil ⟨_, oc_u 30 h rfl rfl, trivial, s⟩
    · intro f9 w2 vl5 E9 hs9 hd9 hl hF s
      have e23 : f9.tmps.getD 23 undef = va := (oc_get hl 23 1 (by kernel_rfl) (by kernel_rfl)).trans (hF 1 (by decide))
      have e30 : f9.tmps.getD 30 undef = (vl5 8) := oc_get hl 30 8 (by kernel_rfl) (by kernel_rfl)
      have h := fin_slot [(23, va), (30, (vl5 8))] (hs9.trans h.size) (hd9.trans h.defers) (holds_lk ⟨e23, e30, trivial⟩)
      refine s_append 1 0 h s Try.underlying22 elm40 rfl rfl rfl rfl (by decide) (wnCells_ones [(ho.ws.getD k zWn)]) (by have h9 : (ho.ws.take k).length ≤ k := (by rw [List.length_take]; omega); unfold maxLen; omega) (by have h9 : (ho.ws.take k).length ≤ k := (by rw [List.length_take]; omega); omega) rfl fun f w1 v31 h s => ?_
      replace s := s.pick _ (List.sublist_cons_self _ _)
      replace s := s.resl (m := (ho.ws.take (k + 1)).length) (ys := wnCells (ho.ws.take (k + 1))) 0 rfl (by rw [take_wn hkl, List.length_append]; rfl) (by rw [take_wn hkl, wnCells_app])
      exact s_nil ⟨_, oc_u 31 h rfl rfl, trivial, s⟩
    intro f w1 vl5 hs9 hd9 hv hr hF s
    replace hv := fun i d h9 => hv i d (show Nat.blt i 10 = true from h9)
    replace h := oc_slT 10 (ops := _) [(22, _), (23, _), (24, _), (25, _), (26, _), (27, _), (28, _), (29, _), (30, (vl5 8)), (31, (vl5 9))] h hs9 hd9 hr ⟨(hv 0 22 rfl rfl).trans (hF 0 rfl), (hv 1 23 rfl rfl).trans (hF 1 rfl), (hv 2 24 rfl rfl).trans (hF 2 rfl), (hv 3 25 rfl rfl).trans (hF 3 rfl), (hv 4 26 rfl rfl).trans (hF 4 rfl), (hv 5 27 rfl rfl).trans (hF 5 rfl), (hv 6 28 rfl rfl).trans (hF 6 rfl), (hv 7 29 rfl rfl).trans (hF 7 rfl), hv 8 30 rfl rfl, hv 9 31 rfl rfl, trivial⟩ (by kernel_rfl)
    replace s : St w [.sl (vl5 9) 40 33 (ho.ws.take (k + 1)).length (wnCells (ho.ws.take (k + 1))), .blk b5 (.cells (wnArr (ho.ws.getD k zWn)) 79), .blk b3 (.cells (hoArr ho.no ho.gt va nilV vi) 26), .blk b2 (.cells (hoArr 0 0 nilV nilV nilV) 26), .blk b1 (.cells (hoArr ho.no ho.gt vw vh vi) 74)] _ := s
    refine s_run hFT9 1 h rfl fun f h => s_store_one 2 h s one22 rfl rfl rfl (by rw [hoArr_size]; omega) (own_one (s.getSl 0 rfl)) fun w1 s => ?_
    replace s := s.recell (D := hoArr ho.no ho.gt (vl5 9) nilV vi) 2 rfl (rfl)
    refine s_nil (b_norm (t_norm (c_region (s_pure h (ru_add (h.ev rfl) (h.ev rfl) (by omega)) rfl fun f h => e9 hFT9 1 h rfl fun f h => ?_))))
    exact ⟨_, by omega, ⟨k + 1, (vl5 9), h.only ⟨rfl, rfl, rfl, rfl, rfl, rfl, slot_int rfl (by omega), trivial⟩, St.as (s.pick _ (List.Sublist.cons_cons _ (List.Sublist.cons _ (List.Sublist.cons_cons _ (List.Sublist.cons_cons _ (List.Sublist.cons_cons _ (List.nil_sublist _))))))) ⟨rfl, rfl, rfl, rfl, trivial⟩, rfl, by omega⟩⟩
  · refine wpIn_exit (t_exit (t_exit (b_exit (t_norm (c_seqN (qrs hFT9 1 h rfl fun f h => ?_))))))
    obtain rfl : k = ho.ws.length := by omega
    rw [List.take_length] at s
    replace s := s.nilSl 84 34
    refine s_load_at1 (V := vh) (cell_of_has (Has.of_own s 4 rfl) 3 (ho_h _ _ _ _ _)) h one72 rfl rfl fun f h => s_lz h (hHo.2.1.keep s.ext) Try.underlying72 rfl rfl fun f h => e9 hFT9 1 h rfl fun f h => wpIn_block (wpIn_loop_ghost (fun nn aa ww => ∃ k : Nat, ∃ vc : Value, Sl 56 aa [(0, .agg (hoArr ho.no ho.gt vw vh vi)), (1, .pointer (some ⟨b1, 0, none⟩)), (2, .pointer (some ⟨b2, 0, none⟩)), (3, .pointer (some ⟨b3, 0, none⟩)), (35, vh), (36, .int .i64 (ho.hs.length : Int)), (37, .int .i64 (k : Int))] ∧ St w [.sl vc 84 34 (ho.hs.take k).length (hnCells (ho.hs.take k)), .sl va 40 33 ho.ws.length (wnCells ho.ws), .blk b3 (.cells (hoArr ho.no ho.gt va vc vi) 26), .blk b2 (.cells (hoArr 0 0 nilV nilV nilV) 26), .blk b1 (.cells (hoArr ho.no ho.gt vw vh vi) 74)] ww ∧ nn = ho.hs.length - k ∧ k ≤ ho.hs.length) (ho.hs.length - (0)) ⟨0, nilV, h.only ⟨rfl, rfl, rfl, rfl, rfl, rfl, slot_int rfl (by omega), trivial⟩, s.as ⟨rfl, rfl, rfl, rfl, rfl, trivial⟩, rfl, Nat.zero_le _⟩ ?_)
    rintro _ f w1 ⟨k, vc, h, s, hnn, hp0⟩
    refine qre hFT9 1 h rfl fun f h => c_seqN (c_cd h rfl (fun hc => ?_) (fun hc => ?_))
    · refine kt (c_seqN (wpIn_block (qr ?_)))
      have hkl : k < ho.hs.length := by omega
      refine s_pure h (ru_ixz (hHo.2.1.keep s.ext) (k) Try.underlying72 szo105 (h.ev rfl) (h.ev rfl) (by omega) (by omega)) rfl fun f h => s_load_at ((hHo.2.1.keep s.ext).el (k) (by omega) (by decide) (D := hnArr (ho.hs.getD k zHn)) (hn_el _ k hkl)) h row105 rfl (hnArr_size _) rfl fun f h => s_alloc (hnArr zHn) h s zero105 rfl rfl fun f w1 b7 h s => s_store_row 0 h s row105 rfl rfl rfl (hnArr_size _) (hnArr_size _) (hnArr_ones _) fun w1 s => nt ?_
      replace s := s.bring 1 rfl
      replace s : St w [.sl vc 84 34 (ho.hs.take k).length (hnCells (ho.hs.take k)), .blk b7 (.cells (hnArr (ho.hs.getD k zHn)) 105), .sl va 40 33 ho.ws.length (wnCells ho.ws), .blk b3 (.cells (hoArr ho.no ho.gt va vc vi) 26), .blk b2 (.cells (hoArr 0 0 nilV nilV nilV) 26), .blk b1 (.cells (hoArr ho.no ho.gt vw vh vi) 74)] _ := s
      refine c_regT 1 12 [[], [0], [], [2], [2, 3], [], [5], [], [7], [2, 3, 4, 5, 6, 7, 8], [2, 3, 4, 5, 6, 7, 8, 9], [0, 1, 2, 3, 4, 5, 6, 7, 8, 9, 10], [0, 1, 2, 3, 4, 5, 6, 7, 8, 9, 10, 11], [0, 1, 2, 3, 4, 5, 6, 7, 8, 9, 10, 11, 12]] [[], [], [], [], [], [], [], [], [], [], [], [10, 14], [], []] [[_]] [.v _, .v vc, .v _, .v (.agg (idArr (ho.hs.getD k zHn).1)), .v (.agg (idArr (ho.hs.getD k zHn).1)), .v _, .v (.int .i64 (ho.hs.getD k zHn).2.1), .v _, .v (.int .i64 (ho.hs.getD k zHn).2.2), .v (.agg (hnArr (ho.hs.getD k zHn))), .m (fun v => [.sl (v 10) 84 34 1 (hnCells [(ho.hs.getD k zHn)])]), .m (fun v => [.sl (v 11) 84 34 (ho.hs.take (k + 1)).length (hnCells (ho.hs.take (k + 1)))]), .n, .n] _ h s rfl (by kernel_rfl) (by kernel_rfl) (by kernel_rfl) (oPu hFT9 h rfl rfl rfl (oAI ?_ (oPu hFT9 h rfl rfl rfl (oAI ?_ (oAI ?_ (oPu hFT9 h rfl rfl rfl (oAI ?_ (oPu hFT9 h rfl rfl rfl (oAI ?_ (oAI ?_ (oAI ?_ (oAI ?_ (trivial))))))))))))) [0, 1, 2, 3, 4, 5, 6, 7, 8, 9, 11] (by kernel_rfl) ?_
      · intro f9 w2 vl10 E9 hs9 hd9 hl hF s
        have h := f9h [(41, _)] h hs9 hd9 ⟨oc_g hl 41 0 (by kernel_rfl) (hF 0 (by decide)), trivial⟩
        refine s_load_at1 (V := vc) (cell_of_has (Has.of_own s 2 rfl) 3 (ho_h _ _ _ _ _)) h one23 rfl rfl fun f h => s_nil ⟨_, oc_u 42 h rfl rfl, rfl, s⟩
      · intro f9 w2 vl10 E9 hs9 hd9 hl hF s
        have h := f9h [(43, _)] h hs9 hd9 ⟨oc_g hl 43 2 (by kernel_rfl) (hF 2 (by decide)), trivial⟩
        refine s_load_at (Has.subL (Has.of_own s 0 rfl) 0 32 (D := idArr (ho.hs.getD k zHn).1) (hnArr_id _)) h row77 rfl (by first | exact idArr_size _ | exact bytesF_size _ _) rfl fun f h => s_nil ⟨_, oc_u 44 h rfl rfl, rfl, s⟩
      · intro f9 w2 vl10 E9 hs9 hd9 hl hF s
        have h := f9h [(44, _)] h hs9 hd9 ⟨oc_g hl 44 3 (by kernel_rfl) (hF 3 (by decide)), trivial⟩
        refine s_cv h s fnc37 (nid_any (ho.hs.getD k zHn).1 _) rfl rfl fun f w1 h s => s_nil ⟨_, oc_u 45 h rfl rfl, rfl, s⟩
      · intro f9 w2 vl10 E9 hs9 hd9 hl hF s
        have h := f9h [(46, _)] h hs9 hd9 ⟨oc_g hl 46 5 (by kernel_rfl) (hF 5 (by decide)), trivial⟩
        refine s_load_at1 (V := .int .i64 (ho.hs.getD k zHn).2.1) (cell_of_has (Has.of_own s 0 rfl) 32 (hnArr_no _)) h one3 rfl rfl fun f h => s_nil ⟨_, oc_u 47 h rfl rfl, rfl, s⟩
      · intro f9 w2 vl10 E9 hs9 hd9 hl hF s
        have h := f9h [(48, _)] h hs9 hd9 ⟨oc_g hl 48 7 (by kernel_rfl) (hF 7 (by decide)), trivial⟩
        refine s_load_at1 (V := .int .i64 (ho.hs.getD k zHn).2.2) (cell_of_has (Has.of_own s 0 rfl) 33 (hnArr_until _)) h one3 rfl rfl fun f h => s_nil ⟨_, oc_u 49 h rfl rfl, rfl, s⟩
      · intro f9 w2 vl10 E9 hs9 hd9 hl hF s
        have h := f9h [(45, _), (47, _), (49, _)] h hs9 hd9 ⟨oc_g hl 45 4 (by kernel_rfl) (hF 4 (by decide)), oc_g hl 47 6 (by kernel_rfl) (hF 6 (by decide)), oc_g hl 49 8 (by kernel_rfl) (hF 8 (by decide)), trivial⟩
        refine s_pure h (ru_build_hn sttHn (h.ev rfl) (h.ev rfl) (h.ev rfl)) rfl fun f h => s_nil ⟨_, oc_u 50 h rfl rfl, rfl, s⟩
      · intro f9 w2 vl10 E9 hs9 hd9 hl hF s
        have h := f9h [(50, _)] h hs9 hd9 ⟨oc_g hl 50 9 (by kernel_rfl) (hF 9 (by decide)), trivial⟩
        refine s_bslice (vs := [.agg (hnArr (ho.hs.getD k zHn))]) [.tmp 50] h s Try.underlying23 elm84 rfl rfl (hn_sz _) rfl rfl rfl fun f w1 v51 h s => ?_
        replace s := s.resl (m := 1) (ys := hnCells [(ho.hs.getD k zHn)]) 0 rfl rfl (by rw [one_hn, hnCells_one])
        exact s_nil ⟨_, oc_u 51 h rfl rfl, trivial, s⟩
      · intro f9 w2 vl10 E9 hs9 hd9 hl hF s
        have e42 : f9.tmps.getD 42 undef = vc := (oc_get hl 42 1 (by kernel_rfl) (by kernel_rfl)).trans (hF 1 (by decide))
        have e51 : f9.tmps.getD 51 undef = (vl10 10) := oc_get hl 51 10 (by kernel_rfl) (by kernel_rfl)
        have h := fin_slot [(42, vc), (51, (vl10 10))] (hs9.trans h.size) (hd9.trans h.defers) (holds_lk ⟨e42, e51, trivial⟩)
        refine s_append 1 0 h s Try.underlying23 elm84 rfl rfl rfl rfl (by decide) (hnCells_ones [(ho.hs.getD k zHn)]) (by have h9 : (ho.hs.take k).length ≤ k := (by rw [List.length_take]; omega); unfold maxLen; omega) (by have h9 : (ho.hs.take k).length ≤ k := (by rw [List.length_take]; omega); omega) rfl fun f w1 v52 h s => ?_
        replace s := s.pick _ (List.sublist_cons_self _ _)
        replace s := s.resl (m := (ho.hs.take (k + 1)).length) (ys := hnCells (ho.hs.take (k + 1))) 0 rfl (by rw [take_hn hkl, List.length_append]; rfl) (by rw [take_hn hkl, hnCells_app])
        exact s_nil ⟨_, oc_u 52 h rfl rfl, trivial, s⟩
      intro f w1 vl10 hs9 hd9 hv hr hF s
      replace hv := fun i d h9 => hv i d (show Nat.blt i 12 = true from h9)
      replace h := oc_slT 12 (ops := _) [(41, _), (42, _), (43, _), (44, _), (45, _), (46, _), (47, _), (48, _), (49, _), (50, _), (51, (vl10 10)), (52, (vl10 11))] h hs9 hd9 hr ⟨(hv 0 41 rfl rfl).trans (hF 0 rfl), (hv 1 42 rfl rfl).trans (hF 1 rfl), (hv 2 43 rfl rfl).trans (hF 2 rfl), (hv 3 44 rfl rfl).trans (hF 3 rfl), (hv 4 45 rfl rfl).trans (hF 4 rfl), (hv 5 46 rfl rfl).trans (hF 5 rfl), (hv 6 47 rfl rfl).trans (hF 6 rfl), (hv 7 48 rfl rfl).trans (hF 7 rfl), (hv 8 49 rfl rfl).trans (hF 8 rfl), (hv 9 50 rfl rfl).trans (hF 9 rfl), hv 10 51 rfl rfl, hv 11 52 rfl rfl, trivial⟩ (by kernel_rfl)
      replace s : St w [.sl (vl10 11) 84 34 (ho.hs.take (k + 1)).length (hnCells (ho.hs.take (k + 1))), .blk b7 (.cells (hnArr (ho.hs.getD k zHn)) 105), .sl va 40 33 ho.ws.length (wnCells ho.ws), .blk b3 (.cells (hoArr ho.no ho.gt va vc vi) 26), .blk b2 (.cells (hoArr 0 0 nilV nilV nilV) 26), .blk b1 (.cells (hoArr ho.no ho.gt vw vh vi) 74)] _ := s
      refine s_run hFT9 1 h rfl fun f h => s_store_one 3 h s one23 rfl rfl rfl (by rw [hoArr_size]; omega) (own_one (s.getSl 0 rfl)) fun w1 s => ?_
      replace s := s.recell (D := hoArr ho.no ho.gt va (vl10 11) vi) 3 rfl (rfl)
      refine s_nil (b_norm (t_norm (c_region (s_pure h (ru_add (h.ev rfl) (h.ev rfl) (by omega)) rfl fun f h => e9 hFT9 1 h rfl fun f h => ?_))))
      exact ⟨_, by omega, ⟨k + 1, (vl10 11), h.only ⟨rfl, rfl, rfl, rfl, rfl, rfl, slot_int rfl (by omega), trivial⟩, St.as (s.pick _ (List.Sublist.cons_cons _ (List.Sublist.cons _ (List.Sublist.cons_cons _ (List.Sublist.cons_cons _ (List.Sublist.cons_cons _ (List.Sublist.cons_cons _ (List.nil_sublist _)))))))) ⟨rfl, rfl, rfl, rfl, rfl, trivial⟩, rfl, by omega⟩⟩
    · refine wpIn_exit (t_exit (t_exit (b_exit (t_norm (qr (s_load_row 2 h s row26 rfl rfl (hoArr_size _ _ _ _ _) rfl fun f h => s_store_row 3 h s row26 rfl rfl rfl (hoArr_size _ _ _ _ _) (hoArr_size _ _ _ _ _) (hoArr_ones _ _ (own_one (s.getSl 1 rfl)) (own_one (s.getSl 0 rfl)) (rd_one (hHo.2.2.keep s.ext))) fun w1 s => nt (wpIn_ret (e_row 3 rfl h s row26 rfl rfl (hoArr_size _ _ _ _ _) (by obtain rfl : k = ho.hs.length := (by omega); rw [List.take_length] at s; exact ⟨_, _, rfl, s.sel [1, 0] rfl (by decide)⟩)))))))))
end Go.Proofs.Ythjkhnhiciamaaa
