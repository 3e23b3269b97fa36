/- Overlays, copied; an overlay opened. -/
import Derived.Test.YtndbijifgalpbaaGreatWa
set_option linter.unusedVariables false
set_option linter.unusedSimpArgs false
set_option linter.unusedSectionVars false
namespace Go.Proofs.YtndbijifgalpbaaGreat
open Go.RowKit
theorem nclone_ok (L : List N3) (hL : L.length ≤ 1000) (a9 : Option Addr) (n9 c9 : Nat) (w : World) (hR : RdZ w (.slice a9 n9 c9) 68 L.length (n3Cells L)) (ho : ∀ x ∈ L, RdN w x) : Calls Tryz.prog 85 [.slice a9 n9 c9].toArray w (Ret w (fun v w' => Owns w' w.heap.size 46 68 v L.length (n3Cells L))) := by
  refine c_enter Tryz.func85 rfl Tryz.ntmps85 rfl [(0, .slice a9 n9 c9)] (by simp) fun f h => ?_
  have s := St.start w
  refine c_seq fun K1 hK1 => ?_
  refine c_region ?_
  refine s_pure h (ru_assign (h.ev rfl)) rfl ?_; intro f h
  refine s_nil ?_
  refine hK1 _ _ ?_
  refine c_seq fun K2 hK2 => ?_
  refine c_seq fun K3 hK3 => ?_
  cases hn : (a9.isNone : Bool)
  · skip
    refine c_region ?_
    refine s_pure h (ru_move (h.ev rfl)) rfl ?_; intro f h
    refine s_pure h (ru_val (.bool false) (ru_eql_nilS Tryz.underlying22 (h.ev rfl) (h.ev rfl)) (congrArg Value.bool hn)) rfl ?_; intro f h
    refine s_nil ?_
    refine hK3 _ _ ?_
    refine wpIn_cond_false (h.ev rfl) ?_
    refine wpIn_skip ?_
    refine hK2 _ _ ?_
    refine c_seq fun K4 hK4 => ?_
    refine c_region ?_
    refine s_bslice0 (base := w.heap.size) h Tryz.underlying22 elm46 (Nat.le_refl _) rfl ?_; intro f w2 v5 h hE3 e5
    refine s_pure h (ru_move (h.ev rfl)) rfl ?_; intro f h
    refine s_append_emp (base := w.heap.size) e5 (hR.keep hE3) h Tryz.underlying22 elm46 rfl rfl hE3.le (n3Cells_ones ho) (by unfold maxLen; omega) (by omega) rfl ?_; intro f w3 v7 h hE4 e7
    replace s := s.sl_new (hE3.trans hE4) e7
    refine s_pure h (ru_assign (h.ev rfl)) rfl ?_; intro f h
    refine s_nil ?_
    refine hK4 _ _ ?_
    refine wpIn_ret ?_
    exact e_tmp rfl h s rfl (s.getSl 0 rfl)
  · skip
    refine c_region ?_
    refine s_pure h (ru_move (h.ev rfl)) rfl ?_; intro f h
    refine s_pure h (ru_val (.bool true) (ru_eql_nilS Tryz.underlying22 (h.ev rfl) (h.ev rfl)) (congrArg Value.bool hn)) rfl ?_; intro f h
    refine s_nil ?_
    refine hK3 _ _ ?_
    refine wpIn_cond_true (h.ev rfl) ?_
    refine c_seq fun K5 hK5 => ?_
    refine c_region ?_
    refine s_pure h (ru_assign (h.ev rfl)) rfl ?_; intro f h
    refine s_nil ?_
    refine hK5 _ _ ?_
    refine wpIn_ret ?_
    refine t_ret ?_
    exact e_tmp rfl h s rfl (by obtain rfl := clone_nilN hn hR; exact owns_nil _ _ _ _)

theorem nclone_any (L : List N3) (hL : L.length ≤ 1000) (v9 : Value) (w : World) (hR : RdZ w v9 68 L.length (n3Cells L)) (ho : ∀ x ∈ L, RdN w x) : Calls Tryz.prog 85 [v9].toArray w (Ret w (fun v w' => Owns w' w.heap.size 46 68 v L.length (n3Cells L))) := by
  obtain ⟨a, c, rfl⟩ := hR.len
  exact nclone_ok L hL a _ c w hR ho

set_option maxHeartbeats 1000000 in
theorem ccopied_any (L : List N3) (vo : Value) (w : World) (hO : RdO w vo L) (hL : L.length ≤ 40) (hb : RwB L) : Calls Tryz.prog 58 [.agg #[vo]].toArray w (Ret w (CpP w 46 (nds L))) := by
  refine c_enterM Tryz.func58 rfl Tryz.ntmps58 rfl [(0, .agg #[vo])] (by simp) fun f h => ?_
  have s := St.start w
  refine c_seq fun K1 hK1 => ?_
  refine c_region ?_
  refine s_box (#[vo]) h s rfl rfl rfl ?_; intro f w1 b1 h s
  refine s_alloc (#[nilV]) h s zero24 rfl rfl ?_; intro f w1 b2 h s
  refine s_nil ?_
  refine hK1 _ _ ?_
  refine c_seq fun K2 hK2 => ?_
  refine c_region ?_
  refine s_pure h (ru_field fld24_0 (h.ev rfl)) rfl ?_; intro f h
  refine s_load_at1 (V := vo) (cell_of_has (Has.of_own s 1 rfl) 0 rfl) h one22 rfl rfl ?_; intro f h
  refine s_call h s fnc85 (nclone_any L (by omega) vo _ (hO.1.keep s.ext) (fun x hx => (hO.2 x hx).keep s.ext)) rfl rfl ?_; intro f w1 v6 hT hE h sq; replace s := s.sl_new hE hT
  refine s_pure h (ru_field fld24_0 (h.ev rfl)) rfl ?_; intro f h
  refine s_store_one 2 h s one22 rfl rfl rfl (by show 0 < 1; decide) (own_one (s.getSl 0 rfl)) ?_; intro w1 s
  replace s := s.recell (D := #[v6]) 2 rfl rfl
  refine s_nil ?_
  refine hK2 _ _ ?_
  refine c_seq fun K3 hK3 => ?_
  refine c_seq fun K4 hK4 => ?_
  refine c_region ?_
  replace s := s.grp0 (S := RwL (L.take 0)) (fun _ x hx => by simp at hx)
  refine s_load_row 3 h s row24 rfl rfl (rfl) rfl ?_; intro f h
  refine s_callS [.agg #[v6]] h fnc25 (nodes_ok v6 _ _ _ s) rfl rfl ?_; rintro f w1 r ⟨bn, rfl, s⟩ h
  refine s_nil ?_
  refine hK4 _ _ ?_
  refine wpIn_block ?_
  refine c_rangeE (fun d A9 => ∃ (Kd : List N3) (kd : List Nat), (nds Kd = nds L ∧ ∀ j, d ≤ j → Kd.getD j z3 = L.getD j z3) ∧ A9 = [.grp kd (RwL (Kd.take d)), .sl v6 46 68 Kd.length (n3Cells Kd), .blk b2 (.cells (#[nilV]) 24), .blk b1 (.cells #[v6] 24)]) [.grp [] (RwL (L.take 0)), .sl v6 46 68 L.length (n3Cells L), .blk b2 (.cells (#[nilV]) 24), .blk b1 (.cells #[v6] 24)] [.blk bn (.cells #[v6] 24)] (L.length) (fun _ => false) (fun d => [Value.pointer (some (elAddr v6 (d * 68)))]) h s rfl fnc50 (List.Perm.refl _) (⟨L, [], ⟨rfl, fun j _ => rfl⟩, rfl⟩) (fun _ => rfl) ?_ ?_ ?_ ?_
  · intro lp w2 GG g0 hg0 s2 hY; exact niter_any L.length (by omega) v6 _ _ (RdZ.of_own (s.getSl 2 rfl)) lp bn (fun _ => false) GG g0 w w2 s2 hg0 hY
  · intro lp D9 d9 rc R9 A9 w2 hd9 hq9 hJ9 s
    obtain ⟨Kd, kd, ⟨hkn, hkj⟩, rfl⟩ := hJ9
    have h := Sl.round1 (p := 10) (V := .pointer (some (elAddr v6 (d9 * 68)))) h rfl
    have hdl9 := hd9
    have hlk : Kd.length = L.length := by have h9 := congrArg List.length hkn; simpa [nds] using h9
    have hdk : d9 < Kd.length := by omega
    have hxd : Kd.getD d9 z3 = L.getD d9 z3 := hkj d9 (Nat.le_refl _)
    have hx9 := hb.each _ (n3_mem hdl9)
    refine c_region ?_
    refine s_pure h (ru_assign (h.ev rfl)) rfl ?_; intro f h
    refine s_nil ?_
    refine t_norm ?_
    refine ⟨_, s, fun w3 s => ?_⟩
    refine wpIn_block ?_
    refine c_seq fun K5 hK5 => ?_
    refine c_region ?_
    refine s_pure h (ru_move (h.ev rfl)) rfl ?_; intro f h
    refine s_pure h (ru_move (h.ev rfl)) rfl ?_; intro f h
    refine s_pure h (ru_nilCheck (h.ev rfl)) rfl ?_; intro f h
    refine s_pure h (ru_fieldE fld46_2 (h.ev rfl) ((RdZ.of_own (s.getSl 3 rfl)).some (by omega))) rfl ?_; intro f h
    refine s_load_at1 (V := (Kd.getD d9 z3).2.1) (rdz_at (RdZ.of_own (s.getSl 3 rfl)) (d9 * 68 + 66) (n3_v66 Kd d9 hdk)) h one28 rfl rfl ?_; intro f h
    refine s_call h s fnc86 (mclone_any (L.getD d9 z3).1.sc (by omega) (Kd.getD d9 z3).2.1 _ (by rw [hxd]; exact (hO.2 _ (n3_mem hdl9)).1.keep s.ext)) rfl rfl ?_; intro f w1 v16 hT hE h sq; replace s := s.sl_new hE hT
    refine s_pure h (ru_nilCheck (h.ev rfl)) rfl ?_; intro f h
    refine s_pure h (ru_fieldE fld46_2 (h.ev rfl) ((RdZ.of_own (s.getSl 4 rfl)).some (by omega))) rfl ?_; intro f h
    refine s_store_el1 4 h s one28 rfl rfl rfl (by omega) (own_one (s.getSl 0 rfl)) (show (n3Cells Kd).set (d9 * 68 + 66) v16 = n3Cells (Kd.set d9 ((⟨(Kd.getD d9 z3).1.me, (Kd.getD d9 z3).1.pr, (Kd.getD d9 z3).1.sc, (Kd.getD d9 z3).1.fg⟩, v16, (Kd.getD d9 z3).2.2) : N3)) from n3_set66 hdk _ _) ?_; intro w1 s
    refine s_nil ?_
    refine hK5 _ _ ?_
    refine c_region ?_
    refine s_pure h (ru_move (h.ev rfl)) rfl ?_; intro f h
    refine s_pure h (ru_move (h.ev rfl)) rfl ?_; intro f h
    refine s_pure h (ru_nilCheck (h.ev rfl)) rfl ?_; intro f h
    refine s_pure h (ru_fieldE fld46_3 (h.ev rfl) ((RdZ.of_own (s.getSl 4 rfl)).some (by omega))) rfl ?_; intro f h
    refine s_load_at1 (V := (Kd.getD d9 z3).2.2) (rdz_at (RdZ.of_own (s.getSl 4 rfl)) (d9 * 68 + 67) ((n3_v67 _ d9 (by rw [List.length_set]; exact hdk)).trans (by rw [gd_set hdk]))) h one28 rfl rfl ?_; intro f h
    refine s_call h s fnc86 (mclone_any (L.getD d9 z3).1.fg (by omega) (Kd.getD d9 z3).2.2 _ (by rw [hxd]; exact (hO.2 _ (n3_mem hdl9)).2.keep s.ext)) rfl rfl ?_; intro f w1 v24 hT hE h sq; replace s := s.sl_new hE hT
    refine s_pure h (ru_nilCheck (h.ev rfl)) rfl ?_; intro f h
    refine s_pure h (ru_fieldE fld46_3 (h.ev rfl) ((RdZ.of_own (s.getSl 5 rfl)).some (by omega))) rfl ?_; intro f h
    refine s_store_el1 5 h s one28 rfl rfl rfl (by omega) (own_one (s.getSl 0 rfl)) (show (n3Cells (Kd.set d9 ((⟨(Kd.getD d9 z3).1.me, (Kd.getD d9 z3).1.pr, (Kd.getD d9 z3).1.sc, (Kd.getD d9 z3).1.fg⟩, v16, (Kd.getD d9 z3).2.2) : N3))).set (d9 * 68 + 67) v24 = n3Cells (Kd.set d9 ((⟨(Kd.getD d9 z3).1.me, (Kd.getD d9 z3).1.pr, (Kd.getD d9 z3).1.sc, (Kd.getD d9 z3).1.fg⟩, v16, v24) : N3)) from (n3_set67 (by rw [List.length_set]; exact hdk) _ (Kd.getD d9 z3).1.fg).trans (by rw [gd_set hdk, set_set9])) ?_; intro w1 s
    replace s := s.resl (m := (Kd.set d9 ((⟨(Kd.getD d9 z3).1.me, (Kd.getD d9 z3).1.pr, (Kd.getD d9 z3).1.sc, (Kd.getD d9 z3).1.fg⟩, v16, v24) : N3)).length) (ys := n3Cells (Kd.set d9 ((⟨(Kd.getD d9 z3).1.me, (Kd.getD d9 z3).1.pr, (Kd.getD d9 z3).1.sc, (Kd.getD d9 z3).1.fg⟩, v16, v24) : N3))) 5 rfl (by rw [List.length_set]) rfl
    refine s_nil ?_
    refine b_norm ?_
    replace s := s.bring 4 rfl
    replace s := s.bring 1 rfl
    replace s := s.bring 2 rfl
    replace s : St w (.sl v16 39 33 (L.getD d9 z3).1.sc.length (mbCells (L.getD d9 z3).1.sc) :: .sl v24 39 33 (L.getD d9 z3).1.fg.length (mbCells (L.getD d9 z3).1.fg) :: (.grp kd (RwL (Kd.take d9))) :: .blk lp (.loop (rc .busy)) :: .blk D9 (.deferred (some [])) :: .sl v6 46 68 (Kd.set d9 ((⟨(Kd.getD d9 z3).1.me, (Kd.getD d9 z3).1.pr, (Kd.getD d9 z3).1.sc, (Kd.getD d9 z3).1.fg⟩, v16, v24) : N3)).length (n3Cells (Kd.set d9 ((⟨(Kd.getD d9 z3).1.me, (Kd.getD d9 z3).1.pr, (Kd.getD d9 z3).1.sc, (Kd.getD d9 z3).1.fg⟩, v16, v24) : N3))) :: .blk b2 (.cells (#[nilV]) 24) :: .blk b1 (.cells (#[v6]) 24) :: R9) _ := s
    obtain ⟨kn, s⟩ := s.grpR (S' := RwL ((Kd.set d9 ((⟨(Kd.getD d9 z3).1.me, (Kd.getD d9 z3).1.pr, (Kd.getD d9 z3).1.sc, (Kd.getD d9 z3).1.fg⟩, v16, v24) : N3)).take (d9 + 1))) (fun w9 h1 h2 h3 => rw_take hdk h3 ⟨by rw [← hxd] at h1; exact h1, by rw [← hxd] at h2; exact h2⟩)
    replace s := s.bring 2 rfl
    replace s := s.bring 2 rfl
    replace s : St w (.blk lp (.loop (rc .busy)) :: .blk D9 (.deferred (some [])) :: (.grp kn (RwL ((Kd.set d9 ((⟨(Kd.getD d9 z3).1.me, (Kd.getD d9 z3).1.pr, (Kd.getD d9 z3).1.sc, (Kd.getD d9 z3).1.fg⟩, v16, v24) : N3)).take (d9 + 1)))) :: .sl v6 46 68 (Kd.set d9 ((⟨(Kd.getD d9 z3).1.me, (Kd.getD d9 z3).1.pr, (Kd.getD d9 z3).1.sc, (Kd.getD d9 z3).1.fg⟩, v16, v24) : N3)).length (n3Cells (Kd.set d9 ((⟨(Kd.getD d9 z3).1.me, (Kd.getD d9 z3).1.pr, (Kd.getD d9 z3).1.sc, (Kd.getD d9 z3).1.fg⟩, v16, v24) : N3))) :: .blk b2 (.cells (#[nilV]) 24) :: .blk b1 (.cells (#[v6]) 24) :: R9) _ := s
    refine ⟨rfl, _, ⟨(Kd.set d9 ((⟨(Kd.getD d9 z3).1.me, (Kd.getD d9 z3).1.pr, (Kd.getD d9 z3).1.sc, (Kd.getD d9 z3).1.fg⟩, v16, v24) : N3)), kn, ⟨nds_set hkn rfl hdk, fun j hj => (gd_ne (by omega) _).trans (hkj j (by omega))⟩, rfl⟩, s.pick _ ?_⟩
    exact List.Sublist.cons_cons _ (List.Sublist.refl _)
  · intro D9 A9 w2 hJ9 hq9 s
    obtain ⟨Kd, kd, ⟨hkn, hkj⟩, rfl⟩ := hJ9
    replace h : Sl _ { f with defers := { target := .collected D9, args := #[] } :: f.defers } _ [{ target := .collected D9, args := #[] }] := ⟨h.size, by rw [h.defers], h.holds⟩
    have hlk : Kd.length = L.length := by have h9 := congrArg List.length hkn; simpa [nds] using h9
    rw [show Kd.take L.length = Kd from List.take_of_length_le (by omega)] at s
    refine b_norm ?_
    refine hK3 _ _ ?_
    refine c_seq fun K6 hK6 => ?_
    refine c_region ?_
    refine s_load_row 5 h s row24 rfl rfl (rfl) rfl ?_; intro f h
    refine s_store_row 4 h s row24 rfl rfl rfl (rfl) (rfl) (ov_ones (own_one (s.getSl 3 rfl))) ?_; intro w1 s
    refine s_nil ?_
    refine hK6 _ _ ?_
    refine wpIn_ret ?_
    exact e_row_MS 4 0 rfl h s row24 rfl rfl rfl rfl (rfl) (fun w9 s9 => ⟨v6, Kd, kd, rfl, hkn, s9.sel [3, 2] rfl (by decide)⟩)
  · intro D9 d9 A9 w2 hd9 hqd9 hq9 hJ9 s
    cases hqd9

theorem opened_any (L : List N3) (vo : Value) (no : Int) (w : World) (hO : RdO w vo L) (hL : L.length ≤ 40) (hb : RwB L) : Calls Tryz.prog 31 [.agg #[vo], .int .i64 no].toArray w (Ret w (OpE w 46 L no)) := by
  refine c_enter Tryz.func31 rfl Tryz.ntmps31 rfl [(0, .agg #[vo]), (1, .int .i64 no)] (by simp) fun f h => ?_
  have s := St.start w
  refine c_seq fun K1 hK1 => ?_
  refine c_region ?_
  refine s_box (#[vo]) h s rfl rfl rfl ?_; intro f w1 b2 h s
  refine s_alloc (#[nilV]) h s zero24 rfl rfl ?_; intro f w1 b4 h s
  refine s_pure h (ru_assign (h.ev rfl)) rfl ?_; intro f h
  refine s_pure h (ru_assign (h.ev rfl)) rfl ?_; intro f h
  refine s_nil ?_
  refine hK1 _ _ ?_
  refine c_seq fun K2 hK2 => ?_
  refine c_seq fun K3 hK3 => ?_
  cases r0 : (ovR L : Bool)
  · skip
    refine c_region ?_
    refine s_load_row 1 h s row24 rfl rfl (rfl) rfl ?_; intro f h
    refine s_call h s fnc16 (ret_val (.bool false) (cright_any L vo _ (hO.keep s.ext) hL hb) (congrArg Value.bool r0)) rfl rfl ?_; intro f w1 v9 hT hE h s; obtain rfl := hT
    refine s_pure h (ru_val (.bool true) (ru_not (h.ev rfl)) rfl) rfl ?_; intro f h
    refine s_nil ?_
    refine hK3 _ _ ?_
    refine wpIn_cond_true (h.ev rfl) ?_
    refine c_seq fun K4 hK4 => ?_
    refine c_region ?_
    refine s_pure h (ru_build_ov0 sttO) rfl ?_; intro f h
    refine s_store_row 0 h s row24 rfl rfl rfl (rfl) (rfl) (ov_ones (rfl)) ?_; intro w1 s
    refine s_pure h (ru_assign (h.ev rfl)) rfl ?_; intro f h
    refine s_pure h (ru_assign (h.ev rfl)) rfl ?_; intro f h
    refine s_nil ?_
    refine hK4 _ _ ?_
    refine wpIn_ret ?_
    refine t_ret ?_
    exact e_row_tmp2 0 rfl h s row24 rfl rfl (rfl) rfl rfl (.inl ⟨1, ce_arg r0, by decide, rfl⟩)
  · skip
    refine c_region ?_
    refine s_load_row 1 h s row24 rfl rfl (rfl) rfl ?_; intro f h
    refine s_call h s fnc16 (ret_val (.bool true) (cright_any L vo _ (hO.keep s.ext) hL hb) (congrArg Value.bool r0)) rfl rfl ?_; intro f w1 v9 hT hE h s; obtain rfl := hT
    refine s_pure h (ru_val (.bool false) (ru_not (h.ev rfl)) rfl) rfl ?_; intro f h
    refine s_nil ?_
    refine hK3 _ _ ?_
    refine wpIn_cond_false (h.ev rfl) ?_
    refine wpIn_skip ?_
    refine hK2 _ _ ?_
    refine c_seq fun K5 hK5 => ?_
    refine c_region ?_
    refine s_load_row 1 h s row24 rfl rfl (rfl) rfl ?_; intro f h
    refine s_call h s fnc58 (ccopied_any L vo _ (hO.keep s.ext) hL hb) rfl rfl ?_; rintro f w1 v13 ⟨vq, K, ks, rfl, hnk, hS⟩ hE h sq; replace s := s.add hS; clear hS
    have hlk : K.length = L.length := by have h9 := congrArg List.length hnk; simpa [nds] using h9
    refine s_store_row 3 h s row24 rfl rfl rfl (rfl) (rfl) (ov_ones (own_one (s.getSl 0 rfl))) ?_; intro w1 s
    refine s_nil ?_
    refine hK5 _ _ ?_
    refine c_seq fun K6 hK6 => ?_
    cases l0 : (livesB (memL L) no : Bool)
    · skip
      refine c_region ?_
      have hnos := (rl_iff r0).rs.nos
      have hixe := ix_nds hnk no
      refine s_load_row 3 h s row24 rfl rfl (rfl) rfl ?_; intro f h
      refine s_pure h (ru_move (h.ev rfl)) rfl ?_; intro f h
      refine s_call h s fnc32 (ret_val (.pointer none) (cfind_any K vq no _ ⟨RdZ.of_own (s.getSl 0 rfl), s.getG 1 rfl⟩ (by omega)) (ptr_n (by rw [hixe, hlk]; exact of_decide_eq_false ((ix_lives hnos).trans l0)))) rfl rfl ?_; intro f w1 v9 hT hE h s; obtain rfl := hT
      refine s_pure h (ru_assign (h.ev rfl)) rfl ?_; intro f h
      refine s_nil ?_
      refine hK6 _ _ ?_
      refine c_seq fun K7 hK7 => ?_
      refine c_seq fun K8 hK8 => ?_
      refine c_region ?_
      refine s_pure h (ru_move (h.ev rfl)) rfl ?_; intro f h
      refine s_pure h (ru_val (.bool true) (ru_eql_ptr0 Tryz.underlying60 (h.ev rfl) (h.ev rfl)) (rfl)) rfl ?_; intro f h
      refine s_nil ?_
      refine hK8 _ _ ?_
      refine wpIn_cond_true (h.ev rfl) ?_
      refine c_seq fun K9 hK9 => ?_
      refine c_region ?_
      refine s_pure h (ru_build_ov0 sttO) rfl ?_; intro f h
      refine s_store_row 2 h s row24 rfl rfl rfl (rfl) (rfl) (ov_ones (rfl)) ?_; intro w1 s
      refine s_pure h (ru_assign (h.ev rfl)) rfl ?_; intro f h
      refine s_pure h (ru_assign (h.ev rfl)) rfl ?_; intro f h
      refine s_nil ?_
      refine hK9 _ _ ?_
      refine wpIn_ret ?_
      refine t_ret ?_
      exact e_row_tmp2 2 rfl h s row24 rfl rfl (rfl) rfl rfl (.inl ⟨10, ce_down r0 l0, by decide, rfl⟩)
    · skip
      refine c_region ?_
      have hnos := (rl_iff r0).rs.nos
      have hixe := ix_nds hnk no
      refine s_load_row 3 h s row24 rfl rfl (rfl) rfl ?_; intro f h
      refine s_pure h (ru_move (h.ev rfl)) rfl ?_; intro f h
      refine s_call h s fnc32 (ret_val (.pointer (some (elAddr vq (ixL L no * 68)))) (cfind_any K vq no _ ⟨RdZ.of_own (s.getSl 0 rfl), s.getG 1 rfl⟩ (by omega)) (by rw [← hixe]; exact ptr_y (by rw [hixe, hlk]; exact of_decide_eq_true ((ix_lives hnos).trans l0)))) rfl rfl ?_; intro f w1 v9 hT hE h s; obtain rfl := hT
      refine s_pure h (ru_assign (h.ev rfl)) rfl ?_; intro f h
      refine s_nil ?_
      refine hK6 _ _ ?_
      refine c_seq fun K10 hK10 => ?_
      refine c_seq fun K11 hK11 => ?_
      refine c_region ?_
      refine s_pure h (ru_move (h.ev rfl)) rfl ?_; intro f h
      refine s_pure h (ru_val (.bool false) (ru_eql_ptr0 Tryz.underlying60 (h.ev rfl) (h.ev rfl)) (rfl)) rfl ?_; intro f h
      refine s_nil ?_
      refine hK11 _ _ ?_
      refine wpIn_cond_false (h.ev rfl) ?_
      refine wpIn_skip ?_
      refine hK10 _ _ ?_
      refine c_seq fun K12 hK12 => ?_
      refine c_region ?_
      refine s_load_row 3 h s row24 rfl rfl (rfl) rfl ?_; intro f h
      refine s_pure h (ru_move (h.ev rfl)) rfl ?_; intro f h
      refine s_store_row 2 h s row24 rfl rfl rfl (rfl) (rfl) (ov_ones (own_one (s.getSl 0 rfl))) ?_; intro w1 s
      refine s_pure h (ru_assign (h.ev rfl)) rfl ?_; intro f h
      refine s_pure h (ru_assign (h.ev rfl)) rfl ?_; intro f h
      refine s_nil ?_
      refine hK12 _ _ ?_
      refine wpIn_ret ?_
      exact e_row_tmp2 2 rfl h s row24 rfl rfl (rfl) rfl rfl (.inr ⟨ce_ok r0 l0, vq, K, ks, rfl, hnk, s.sel [0, 1] rfl (by decide)⟩)
end Go.Proofs.YtndbijifgalpbaaGreat
