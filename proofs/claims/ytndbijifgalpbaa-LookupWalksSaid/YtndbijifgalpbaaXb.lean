/- What Walk of the reference of lookup answers. -/
import Derived.Test.YtndbijifgalpbaaXa
set_option linter.unusedVariables false
set_option linter.unusedSimpArgs false
set_option linter.unusedSectionVars false
namespace Go.Proofs.Ytndbijifgalpbaa
open Go.RowKit
set_option maxHeartbeats 2000000 in
theorem rwalk_any (L : List N3) (vo : Value) (no : Int) (x : Id) (hops : Nat) (hY : Int) (w : World) (hO : RdO w vo L) (hL : L.length ≤ 40) (hrs : RS L) (hb : RwB L) (hh : hops ≤ 17) (hhy : hY = (hops : Int)) : Calls Try.prog 11 [.agg #[vo], .int .i64 no, idV x, .int .i64 hY].toArray w (Ret w (WtP w 3 L x no hops)) := by
  refine c_enter Try.func11 rfl Try.ntmps11 rfl [(0, .agg #[vo]), (1, .int .i64 no), (2, idV x), (3, .int .i64 hY)] (by simp) fun f h => ?_
  have s := St.start w
  refine c_seq fun K1 hK1 => ?_
  refine c_region ?_
  refine s_box (#[vo]) h s rfl rfl rfl ?_; intro f w1 b4 h s
  refine s_box (idArr x) h s rfl rfl rfl ?_; intro f w1 b6 h s
  refine s_alloc (wtArr nilV zMb 0) h s zero37 rfl rfl ?_; intro f w1 b8 h s
  refine s_nil ?_
  refine hK1 _ _ ?_
  refine c_seq fun K2 hK2 => ?_
  refine c_seq fun K3 hK3 => ?_
  cases l0 : (livesB (memL L) no : Bool)
  · skip
    refine c_region ?_
    refine s_load_row 2 h s row24 rfl rfl (rfl) rfl ?_; intro f h
    refine s_pure h (ru_move (h.ev rfl)) rfl ?_; intro f h
    refine s_call h s fnc27 (ret_val (.bool false) (lives_any L vo no _ (hO.keep s.ext) hL) (congrArg Value.bool l0)) rfl rfl ?_; intro f w1 v9 hT hE h s; obtain rfl := hT
    refine s_pure h (ru_val (.bool true) (ru_not (h.ev rfl)) rfl) rfl ?_; intro f h
    refine s_nil ?_
    refine hK3 _ _ ?_
    refine wpIn_cond_true (h.ev rfl) ?_
    refine c_seq fun K4 hK4 => ?_
    refine c_region ?_
    refine s_pure h (ru_build_wt1 sttT rfl) rfl ?_; intro f h
    refine s_store_row 0 h s row37 rfl rfl rfl (wtArr_size _ _ _) (wtArr_size _ _ _) (wtArr_ones _ _ (rfl)) ?_; intro w1 s
    refine s_nil ?_
    refine hK4 _ _ ?_
    refine wpIn_ret ?_
    refine t_ret ?_
    exact e_row 0 rfl h s row37 rfl rfl (wtArr_size _ _ _) (wtP_ok (wl_down l0) ((s.nilSl 3 1).getSl 0 rfl))
  · skip
    refine c_region ?_
    refine s_load_row 2 h s row24 rfl rfl (rfl) rfl ?_; intro f h
    refine s_pure h (ru_move (h.ev rfl)) rfl ?_; intro f h
    refine s_call h s fnc27 (ret_val (.bool true) (lives_any L vo no _ (hO.keep s.ext) hL) (congrArg Value.bool l0)) rfl rfl ?_; intro f w1 v9 hT hE h s; obtain rfl := hT
    refine s_pure h (ru_val (.bool false) (ru_not (h.ev rfl)) rfl) rfl ?_; intro f h
    refine s_nil ?_
    refine hK3 _ _ ?_
    refine wpIn_cond_false (h.ev rfl) ?_
    refine wpIn_skip ?_
    refine hK2 _ _ ?_
    refine c_seq fun K5 hK5 => ?_
    refine c_region ?_
    refine s_pure h (ru_build_wt0 sttT) rfl ?_; intro f h
    refine s_alloc (wtArr nilV zMb 0) h s zero37 rfl rfl ?_; intro f w1 b9 h s
    refine s_store_row 0 h s row37 rfl rfl rfl (wtArr_size _ _ _) (wtArr_size _ _ _) (wtArr_ones _ _ (rfl)) ?_; intro w1 s
    refine s_nil ?_
    refine hK5 _ _ ?_
    refine c_seq fun K6 hK6 => ?_
    refine c_region ?_
    replace s := s.nilSl 3 1
    have hlv := l0
    refine s_pure h (ru_move (h.ev rfl)) rfl ?_; intro f h
    refine s_pure h (ru_assign (h.ev rfl)) rfl ?_; intro f h
    refine s_nil ?_
    refine hK6 _ _ ?_
    refine c_seq fun K7 hK7 => ?_
    refine wpIn_block ?_
    refine wpIn_loop_ghost (fun nn aa ww => ∃ k : Nat, ∃ vb : Value, Sl 63 aa [(0, .agg #[vo]), (1, .int .i64 no), (2, idV x), (3, .int .i64 hY), (4, .pointer (some ⟨b4, 0, none⟩)), (6, .pointer (some ⟨b6, 0, none⟩)), (8, .pointer (some ⟨b8, 0, none⟩)), (9, .pointer (some ⟨b9, 0, none⟩)), (10, .int .i64 (nowK L x no k))] ∧ St w [.sl vb 3 1 (wayK L x no k).length (intC (wayK L x no k)), .blk b9 (.cells (wtArr vb zMb 0) 37), .blk b8 (.cells (wtArr nilV zMb 0) 37), .blk b6 (.cells (idArr x) 26), .blk b4 (.cells (#[vo]) 24)] ww ∧ nn = hops + 1 - k ∧ k ≤ hops + 1 ∧ ∀ j, j < k → endK L x no j = false) (hops + 1 - (0)) ⟨0, nilV, h.only ⟨rfl, rfl, rfl, rfl, rfl, rfl, rfl, rfl, rfl, trivial⟩, s.as ⟨rfl, rfl, rfl, rfl, rfl, trivial⟩, rfl, Nat.zero_le _, fun j hj => absurd hj (Nat.not_lt_zero _)⟩ ?_
    rintro _ f w1 ⟨k, vb, h, s, hnn, hp0, hp1⟩
    refine c_seq fun K8 hK8 => ?_
    refine c_seq fun K9 hK9 => ?_
    refine c_region ?_
    refine s_pure h (ru_field fld37_0 (h.ev rfl)) rfl ?_; intro f h
    refine s_load_at1 (V := vb) (cell_of_has (Has.of_own s 1 rfl) 0 (wt_p _ _ _)) h one28 rfl rfl ?_; intro f h
    refine s_len_sl 0 h s Try.underlying28 rfl rfl rfl ?_; intro f h
    refine s_pure h (ru_move (h.ev rfl)) rfl ?_; intro f h
    refine s_pure h (ru_leq (h.ev rfl) (h.ev rfl)) rfl ?_; intro f h
    refine s_nil ?_
    refine hK9 _ _ ?_
    refine c_cond h rfl (fun hc => ?_) (fun hc => ?_)
    · have hwl := way_len L x no k
      have hkh : k ≤ hops := by have h9 := of_decide_eq_true hc; omega
      refine wpIn_skip ?_
      refine hK8 _ _ ?_
      refine wpIn_block ?_
      refine c_seq fun K10 hK10 => ?_
      refine c_region ?_
      refine s_pure h (ru_field fld37_0 (h.ev rfl)) rfl ?_; intro f h
      refine s_load_at1 (V := vb) (cell_of_has (Has.of_own s 1 rfl) 0 (wt_p _ _ _)) h one28 rfl rfl ?_; intro f h
      refine s_pure h (ru_move (h.ev rfl)) rfl ?_; intro f h
      refine s_bslice (vs := [.int .i64 (nowK L x no k)]) [.tmp 26] h s Try.underlying28 elm3 rfl rfl (by simp [Value.cells]) rfl rfl rfl ?_; intro f w1 v27 h s
      refine s_append 1 0 h s Try.underlying28 elm3 rfl rfl rfl rfl (by decide) (by simp [Value.oneCell', Value.cells]) (by rw [way_len]; unfold maxLen; omega) (by rw [way_len]; omega) rfl ?_; intro f w1 v28 h s
      replace s := s.pick _ (List.sublist_cons_self _ _)
      replace s := s.resl (m := (wayK L x no (k + 1)).length) (ys := intC (wayK L x no (k + 1))) 0 rfl (by rw [way_succ, List.length_append]; rfl) (by rw [way_succ]; simp [Value.cells])
      refine s_pure h (ru_field fld37_0 (h.ev rfl)) rfl ?_; intro f h
      refine s_store_one 1 h s one28 rfl rfl rfl (by rw [wtArr_size]; omega) (own_one (s.getSl 0 rfl)) ?_; intro w1 s
      replace s := s.recell (D := wtArr v28 zMb 0) 1 rfl (wt_setp _ _ _ _)
      refine s_nil ?_
      refine hK10 _ _ ?_
      refine c_seq fun K11 hK11 => ?_
      refine c_region ?_
      refine s_load_row 4 h s row24 rfl rfl (rfl) rfl ?_; intro f h
      refine s_pure h (ru_move (h.ev rfl)) rfl ?_; intro f h
      refine s_load_row 3 h s row26 rfl rfl (by first | exact idArr_size _ | exact bytesF_size _ _) rfl ?_; intro f h
      refine s_call h s fnc28 (answer_any L vo (nowK L x no k) x _ (hO.keep s.ext) hL hrs (now_lives hrs x hlv k) hb) rfl rfl ?_; intro f w1 v9 hT hE h s; obtain rfl := hT
      refine s_alloc (nnArr zMb false) h s zero64 rfl rfl ?_; intro f w1 b11 h s
      refine s_store_row 0 h s row64 rfl rfl rfl (nnArr_size _ _) (nnArr_size _ _) (nnArr_ones _ _) ?_; intro w1 s
      refine s_nil ?_
      refine hK11 _ _ ?_
      refine c_seq fun K12 hK12 => ?_
      refine c_seq fun K13 hK13 => ?_
      refine c_region ?_
      refine s_pure h (ru_field fld64_1 (h.ev rfl)) rfl ?_; intro f h
      refine s_load_at1 (V := .bool (lasK L x no k)) (cell_of_has (Has.of_own s 0 rfl) 33 (nnArr_b _ _)) h one4 rfl rfl ?_; intro f h
      refine s_nil ?_
      refine hK13 _ _ ?_
      refine c_cond h rfl (fun hc => ?_) (fun hc => ?_)
      · have he := hc
        refine c_seq fun K14 hK14 => ?_
        refine c_seq fun K15 hK15 => ?_
        refine c_region ?_
        refine s_pure h (ru_field fld64_0 (h.ev rfl)) rfl ?_; intro f h
        refine s_pure h (ru_field fld30_0 (h.ev rfl)) rfl ?_; intro f h
        refine s_load_at1 (V := .int .i64 (ansK L x no k).1) (cell_of_has (Has.of_own s 0 rfl) 0 (nn_no _ _)) h one3 rfl rfl ?_; intro f h
        refine s_pure h (ru_move (h.ev rfl)) rfl ?_; intro f h
        refine s_pure h (ru_neq (h.ev rfl) (h.ev rfl)) rfl ?_; intro f h
        refine s_nil ?_
        refine hK15 _ _ ?_
        refine c_cond h rfl (fun hc => ?_) (fun hc => ?_)
        · have hq : decide ((ansK L x no k).1 = (nowK L x no k)) = false := by simpa using hc
          refine c_region ?_
          refine s_pure h (ru_field fld37_0 (h.ev rfl)) rfl ?_; intro f h
          refine s_load_at1 (V := v28) (cell_of_has (Has.of_own s 2 rfl) 0 (wt_p _ _ _)) h one28 rfl rfl ?_; intro f h
          refine s_pure h (ru_field fld64_0 (h.ev rfl)) rfl ?_; intro f h
          refine s_pure h (ru_field fld30_0 (h.ev rfl)) rfl ?_; intro f h
          refine s_load_at1 (V := .int .i64 (ansK L x no k).1) (cell_of_has (Has.of_own s 0 rfl) 0 (nn_no _ _)) h one3 rfl rfl ?_; intro f h
          refine s_bslice (vs := [.int .i64 (ansK L x no k).1]) [.tmp 45] h s Try.underlying28 elm3 rfl rfl (by simp [Value.cells]) rfl rfl rfl ?_; intro f w1 v46 h s
          refine s_append 2 0 h s Try.underlying28 elm3 rfl rfl rfl rfl (by decide) (by simp [Value.oneCell', Value.cells]) (by rw [way_len]; unfold maxLen; omega) (by rw [way_len]; omega) rfl ?_; intro f w1 v47 h s
          replace s := s.pick _ (List.sublist_cons_self _ _)
          replace s := s.resl (m := ((wayK L x no (k + 1)) ++ tlK9 L x no k).length) (ys := intC ((wayK L x no (k + 1)) ++ tlK9 L x no k)) 1 rfl (by unfold tlK9; rw [hq, List.length_append]; rfl) (by unfold tlK9; rw [hq]; simp [Value.cells])
          refine s_pure h (ru_field fld37_0 (h.ev rfl)) rfl ?_; intro f h
          refine s_store_one 2 h s one28 rfl rfl rfl (by rw [wtArr_size]; omega) (own_one (s.getSl 1 rfl)) ?_; intro w1 s
          replace s := s.recell (D := wtArr v47 zMb 0) 2 rfl (wt_setp _ _ _ _)
          refine s_nil ?_
          refine hK14 _ _ ?_
          refine c_seq fun K16 hK16 => ?_
          refine c_region ?_
          refine s_pure h (ru_field fld64_0 (h.ev rfl)) rfl ?_; intro f h
          refine s_load_at (Has.subL (Has.of_own s 0 rfl) 0 33 (D := mbArr (ansK L x no k)) (nnArr_m _ _)) h row30 rfl (mbArr_size _) rfl ?_; intro f h
          refine s_pure h (ru_field fld37_1 (h.ev rfl)) rfl ?_; intro f h
          refine s_store_sub 2 h s row30 rfl rfl rfl (mbArr_size _) (by rw [wtArr_size]; omega) (mbArr_ones _) ?_; intro w1 s
          replace s := s.recell (D := wtArr v47 (ansK L x no k) 0) 2 rfl (wt_setm _ _ _ _)
          refine s_nil ?_
          refine hK16 _ _ ?_
          refine c_seq fun K17 hK17 => ?_
          refine c_region ?_
          refine s_load_row 2 h s row37 rfl rfl (wtArr_size _ _ _) rfl ?_; intro f h
          refine s_store_row 3 h s row37 rfl rfl rfl (wtArr_size _ _ _) (wtArr_size _ _ _) (wtArr_ones _ _ (own_one (s.getSl 1 rfl))) ?_; intro w1 s
          refine s_nil ?_
          refine hK17 _ _ ?_
          refine wpIn_ret ?_
          refine t_ret ?_
          refine b_ret ?_
          refine t_ret ?_
          refine b_ret ?_
          refine t_ret ?_
          exact e_row 3 rfl h s row37 rfl rfl (wtArr_size _ _ _) (wtP_ok (wl_own hlv (by omega) hp1 he) (s.getSl 1 rfl))
        · have hq : decide ((ansK L x no k).1 = (nowK L x no k)) = true := by simpa using hc
          refine wpIn_skip ?_
          refine hK14 _ _ ?_
          refine c_seq fun K18 hK18 => ?_
          refine c_region ?_
          refine s_pure h (ru_field fld64_0 (h.ev rfl)) rfl ?_; intro f h
          refine s_load_at (Has.subL (Has.of_own s 0 rfl) 0 33 (D := mbArr (ansK L x no k)) (nnArr_m _ _)) h row30 rfl (mbArr_size _) rfl ?_; intro f h
          refine s_pure h (ru_field fld37_1 (h.ev rfl)) rfl ?_; intro f h
          refine s_store_sub 2 h s row30 rfl rfl rfl (mbArr_size _) (by rw [wtArr_size]; omega) (mbArr_ones _) ?_; intro w1 s
          replace s := s.recell (D := wtArr v28 (ansK L x no k) 0) 2 rfl (wt_setm _ _ _ _)
          refine s_nil ?_
          refine hK18 _ _ ?_
          refine c_seq fun K19 hK19 => ?_
          refine c_region ?_
          refine s_load_row 2 h s row37 rfl rfl (wtArr_size _ _ _) rfl ?_; intro f h
          refine s_store_row 3 h s row37 rfl rfl rfl (wtArr_size _ _ _) (wtArr_size _ _ _) (wtArr_ones _ _ (own_one (s.getSl 1 rfl))) ?_; intro w1 s
          refine s_nil ?_
          refine hK19 _ _ ?_
          refine wpIn_ret ?_
          refine t_ret ?_
          refine b_ret ?_
          refine t_ret ?_
          refine b_ret ?_
          refine t_ret ?_
          exact e_row 3 rfl h s row37 rfl rfl (wtArr_size _ _ _) (wtP_ok (by have h9 := wl_own hlv (by omega) hp1 he; unfold tlK9 at h9; rw [hq] at h9; exact ⟨h9.1, h9.2.1, h9.2.2.trans (List.append_nil _)⟩) (s.getSl 1 rfl))
      · have he := hc
        refine wpIn_skip ?_
        refine hK12 _ _ ?_
        refine c_seq fun K20 hK20 => ?_
        refine c_seq fun K21 hK21 => ?_
        refine c_region ?_
        refine s_pure h (ru_field fld64_0 (h.ev rfl)) rfl ?_; intro f h
        refine s_pure h (ru_field fld30_0 (h.ev rfl)) rfl ?_; intro f h
        refine s_load_at1 (V := .int .i64 (ansK L x no k).1) (cell_of_has (Has.of_own s 0 rfl) 0 (nn_no _ _)) h one3 rfl rfl ?_; intro f h
        refine s_pure h (ru_move (h.ev rfl)) rfl ?_; intro f h
        refine s_pure h (ru_eql (h.ev rfl) (h.ev rfl)) rfl ?_; intro f h
        refine s_nil ?_
        refine hK21 _ _ ?_
        refine c_cond h rfl (fun hc => ?_) (fun hc => ?_)
        · have hq := hc
          refine c_seq fun K22 hK22 => ?_
          refine c_region ?_
          refine s_pure h (ru_build_wt1 sttT rfl) rfl ?_; intro f h
          refine s_store_row 3 h s row37 rfl rfl rfl (wtArr_size _ _ _) (wtArr_size _ _ _) (wtArr_ones _ _ (rfl)) ?_; intro w1 s
          refine s_nil ?_
          refine hK22 _ _ ?_
          refine wpIn_ret ?_
          refine t_ret ?_
          refine b_ret ?_
          refine t_ret ?_
          refine b_ret ?_
          refine t_ret ?_
          exact e_row 3 rfl h s row37 rfl rfl (wtArr_size _ _ _) (wtP_ok (wl_lost hlv (by omega) hp1 he hq) ((s.nilSl 3 1).getSl 0 rfl))
        · have hq := hc
          refine wpIn_skip ?_
          refine hK20 _ _ ?_
          refine c_region ?_
          refine s_pure h (ru_field fld64_0 (h.ev rfl)) rfl ?_; intro f h
          refine s_pure h (ru_field fld30_0 (h.ev rfl)) rfl ?_; intro f h
          refine s_load_at1 (V := .int .i64 (ansK L x no k).1) (cell_of_has (Has.of_own s 0 rfl) 0 (nn_no _ _)) h one3 rfl rfl ?_; intro f h
          refine s_pure h (ru_assign (h.ev rfl)) rfl ?_; intro f h
          refine s_nil ?_
          refine b_norm ?_
          refine t_norm ?_
          exact ⟨_, by omega, ⟨k + 1, v28, h.only ⟨rfl, rfl, rfl, rfl, rfl, rfl, rfl, rfl, rfl, trivial⟩, St.as (s.pick _ (List.sublist_append_right [_] _)) ⟨rfl, rfl, rfl, rfl, rfl, trivial⟩, rfl, by omega, qs_next hp1 (end_no he hq)⟩⟩
    · have hwl := way_len L x no k
      have hkh : hops < k := by have h9 := of_decide_eq_false hc; omega
      refine wpIn_exit ?_
      refine t_exit ?_
      refine t_exit ?_
      refine b_exit ?_
      refine hK7 _ _ ?_
      refine c_seq fun K23 hK23 => ?_
      refine c_region ?_
      refine s_pure h (ru_build_wt1 sttT rfl) rfl ?_; intro f h
      refine s_store_row 2 h s row37 rfl rfl rfl (wtArr_size _ _ _) (wtArr_size _ _ _) (wtArr_ones _ _ (rfl)) ?_; intro w1 s
      refine s_nil ?_
      refine hK23 _ _ ?_
      refine wpIn_ret ?_
      exact e_row 2 rfl h s row37 rfl rfl (wtArr_size _ _ _) (wtP_ok (wl_hops hlv (fun j hj => hp1 j (by omega))) ((s.nilSl 3 1).getSl 0 rfl))
end Go.Proofs.Ytndbijifgalpbaa
