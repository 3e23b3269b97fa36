/- Which overlays are stable, by package chord, and who follows whom, by package ring. -/
import Derived.Test.YtndbijifgalpbaaWa
import Derived.Test.YtndbijifgalpbaaWz
import Derived.Test.YtndbijifgalpbaaSh
set_option linter.unusedVariables false
set_option linter.unusedSimpArgs false
set_option linter.unusedSectionVars false
namespace Go.Proofs.Ytndbijifgalpbaa
open Go.RowKit
theorem find_any (l : List Mb) (vh : Value) (no : Int) (w : World) (hR : RdZ w vh 33 l.length (mbCells l)) (hln : l.length ≤ 1000) : Calls Try.prog 83 [vh, .int .i64 no].toArray w (Ret w (is (.tuple #[.agg (mbArr (finM l no)), .int .i64 (finE l no)]))) := by
  refine c_enter Try.func83 rfl Try.ntmps83 rfl [(0, vh), (1, .int .i64 no)] (by simp) fun f h => ?_
  have s := St.start w
  refine c_seq fun K1 hK1 => ?_
  refine c_region ?_
  refine s_alloc (mbArr zMb) h s zero30 rfl rfl ?_; intro f w1 b4 h s
  refine s_pure h (ru_assign (h.ev rfl)) rfl ?_; intro f h
  refine s_nil ?_
  refine hK1 _ _ ?_
  refine c_seq fun K2 hK2 => ?_
  refine c_seq fun K3 hK3 => ?_
  cases hr : (rightR l : Bool)
  · skip
    refine c_region ?_
    refine s_pure h (ru_move (h.ev rfl)) rfl ?_; intro f h
    refine s_call h s fnc32 (ret_val (.bool false) (right_any l vh _ (hR.keep s.ext) hln) (congrArg Value.bool hr)) rfl rfl ?_; intro f w1 v9 hT hE h s; obtain rfl := hT
    refine s_pure h (ru_val (.bool true) (ru_not (h.ev rfl)) rfl) rfl ?_; intro f h
    refine s_nil ?_
    refine hK3 _ _ ?_
    refine wpIn_cond_true (h.ev rfl) ?_
    refine c_seq fun K4 hK4 => ?_
    refine c_region ?_
    refine s_pure h (ru_build_mb0 sttM) rfl ?_; intro f h
    refine s_store_row 0 h s row30 rfl rfl rfl (mbArr_size _) (mbArr_size _) (mbArr_ones _) ?_; intro w1 s
    refine s_pure h (ru_assign (h.ev rfl)) rfl ?_; intro f h
    refine s_nil ?_
    refine hK4 _ _ ?_
    refine wpIn_ret ?_
    refine t_ret ?_
    exact e_row_tmp 0 rfl h s row30 rfl rfl (mbArr_size _) rfl (by show _ = _; rw [(fin_bad no hr).1, (fin_bad no hr).2] <;> rfl)
  · skip
    refine c_region ?_
    refine s_pure h (ru_move (h.ev rfl)) rfl ?_; intro f h
    refine s_call h s fnc32 (ret_val (.bool true) (right_any l vh _ (hR.keep s.ext) hln) (congrArg Value.bool hr)) rfl rfl ?_; intro f w1 v9 hT hE h s; obtain rfl := hT
    refine s_pure h (ru_val (.bool false) (ru_not (h.ev rfl)) rfl) rfl ?_; intro f h
    refine s_nil ?_
    refine hK3 _ _ ?_
    refine wpIn_cond_false (h.ev rfl) ?_
    refine wpIn_skip ?_
    refine hK2 _ _ ?_
    refine c_seq fun K5 hK5 => ?_
    refine c_seq fun K6 hK6 => ?_
    refine c_region ?_
    refine s_pure h (ru_move (h.ev rfl)) rfl ?_; intro f h
    refine s_pure h (ru_lenZ (hR.keep s.ext) Try.underlying40 (h.ev rfl)) rfl ?_; intro f h
    refine s_pure h (ru_move (h.ev rfl)) rfl ?_; intro f h
    refine s_nil ?_
    refine hK6 _ _ ?_
    refine wpIn_block ?_
    refine wpIn_loop_ghost (fun nn aa ww => ∃ k : Nat, Sl 25 aa [(0, vh), (1, .int .i64 no), (4, .pointer (some ⟨b4, 0, none⟩)), (12, vh), (13, .int .i64 (l.length : Int)), (14, .int .i64 (k : Int))] ∧ St w [.blk b4 (.cells (mbArr zMb) 30)] ww ∧ nn = l.length - k ∧ k ≤ l.length ∧ ∀ j, j < k → decide ((l.getD j zMb).1 = no) = false) (l.length - (0)) ⟨0, h.only ⟨rfl, rfl, rfl, rfl, rfl, slot_int rfl (by omega), trivial⟩, s.as ⟨rfl, trivial⟩, rfl, Nat.zero_le _, fun j hj => absurd hj (Nat.not_lt_zero _)⟩ ?_
    rintro _ f w1 ⟨k, h, s, hnn, hp0, hp1⟩
    refine c_seq fun K7 hK7 => ?_
    refine c_region ?_
    refine s_pure h (ru_lss (h.ev rfl) (h.ev rfl)) rfl ?_; intro f h
    refine s_nil ?_
    refine hK7 _ _ ?_
    refine c_seq fun K8 hK8 => ?_
    refine c_cond h rfl (fun hc => ?_) (fun hc => ?_)
    · replace hc := of_decide_eq_true hc
      refine wpIn_skip ?_
      refine hK8 _ _ ?_
      refine c_seq fun K9 hK9 => ?_
      refine wpIn_block ?_
      refine c_seq fun K10 hK10 => ?_
      refine c_region ?_
      have hkl : k < l.length := by omega
      refine s_pure h (ru_ixz (hR.keep s.ext) (k) Try.underlying40 szo30 (h.ev rfl) (h.ev rfl) (by omega) (by omega)) rfl ?_; intro f h
      refine s_load_at ((hR.keep s.ext).el (k) (by omega) (by decide) (D := mbArr (l.getD k zMb)) (mb_elD l k hkl)) h row30 rfl (mbArr_size _) rfl ?_; intro f h
      refine s_alloc (mbArr zMb) h s zero30 rfl rfl ?_; intro f w1 b7 h s
      refine s_store_row 0 h s row30 rfl rfl rfl (mbArr_size _) (mbArr_size _) (mbArr_ones _) ?_; intro w1 s
      refine s_nil ?_
      refine hK10 _ _ ?_
      refine c_seq fun K11 hK11 => ?_
      refine c_region ?_
      refine s_pure h (ru_field fld30_0 (h.ev rfl)) rfl ?_; intro f h
      refine s_load_at1 (cell_of_has (Has.of_own s 0 rfl) 0 (mbArr_no _)) h one3 rfl rfl ?_; intro f h
      refine s_pure h (ru_move (h.ev rfl)) rfl ?_; intro f h
      refine s_pure h (ru_eql (h.ev rfl) (h.ev rfl)) rfl ?_; intro f h
      refine s_nil ?_
      refine hK11 _ _ ?_
      refine c_cond h rfl (fun hc => ?_) (fun hc => ?_)
      · refine c_seq fun K12 hK12 => ?_
        refine c_region ?_
        refine s_load_row 0 h s row30 rfl rfl (mbArr_size _) rfl ?_; intro f h
        refine s_store_row 1 h s row30 rfl rfl rfl (mbArr_size _) (mbArr_size _) (mbArr_ones _) ?_; intro w1 s
        refine s_pure h (ru_assign (h.ev rfl)) rfl ?_; intro f h
        refine s_nil ?_
        refine hK12 _ _ ?_
        refine wpIn_ret ?_
        refine b_ret ?_
        refine t_ret ?_
        refine t_ret ?_
        refine b_ret ?_
        refine t_ret ?_
        exact e_row_tmp 1 rfl h s row30 rfl rfl (mbArr_size _) rfl (by show _ = _; rw [(fin_some hr (find_at hkl hp1 hc)).1, (fin_some hr (find_at hkl hp1 hc)).2] <;> rfl)
      · refine wpIn_skip ?_
        refine b_norm ?_
        refine hK9 _ _ ?_
        refine c_region ?_
        refine s_pure h (ru_add (h.ev rfl) (h.ev rfl) (by omega)) rfl ?_; intro f h
        refine s_pure h (ru_move (h.ev rfl)) rfl ?_; intro f h
        refine s_nil ?_
        refine t_norm ?_
        exact ⟨_, by omega, ⟨k + 1, h.only ⟨rfl, rfl, rfl, rfl, rfl, slot_int rfl (by omega), trivial⟩, St.as (s.pick _ (List.sublist_append_right [_] _)) ⟨rfl, trivial⟩, rfl, by omega, qs_next (q := fun j => decide ((l.getD j zMb).1 = no)) hp1 hc⟩⟩
    · replace hc := of_decide_eq_false hc
      refine wpIn_exit ?_
      refine t_exit ?_
      refine t_exit ?_
      refine b_exit ?_
      refine hK5 _ _ ?_
      refine c_seq fun K13 hK13 => ?_
      refine c_region ?_
      refine s_pure h (ru_build_mb0 sttM) rfl ?_; intro f h
      refine s_store_row 0 h s row30 rfl rfl rfl (mbArr_size _) (mbArr_size _) (mbArr_ones _) ?_; intro w1 s
      refine s_pure h (ru_assign (h.ev rfl)) rfl ?_; intro f h
      refine s_nil ?_
      refine hK13 _ _ ?_
      refine wpIn_ret ?_
      exact e_row_tmp 0 rfl h s row30 rfl rfl (mbArr_size _) rfl (by show _ = _; rw [(fin_none hr (find_no (by omega) hp1)).1, (fin_none hr (find_no (by omega) hp1)).2] <;> rfl)

theorem byway_any (x9 : Id) (w : World) : Calls Try.prog 34 [idV x9].toArray w (Ret w (fun v w9 => ∃ bx, v = .func (.func 61) #[] #[.pointer (some ⟨bx, 0, none⟩)] ∧ Tab w9 bx (idArr x9))) := by
  refine c_enter Try.func34 rfl Try.ntmps34 rfl [(0, idV x9)] (by simp) fun f h => ?_
  have s := St.start w
  refine c_seq fun K1 hK1 => ?_
  refine c_region ?_
  refine s_box (idArr x9) h s rfl rfl rfl ?_; intro f w1 b1 h s
  refine s_pure h (ru_assign (h.ev rfl)) rfl ?_; intro f h
  refine s_nil ?_
  refine hK1 _ _ ?_
  refine c_seq fun K2 hK2 => ?_
  refine c_region ?_
  refine s_pure h (ru_makeFunc [.pointer (some ⟨b1, 0, none⟩)] (evsA h rfl)) rfl ?_; intro f h
  refine s_pure h (ru_assign (h.ev rfl)) rfl ?_; intro f h
  refine s_nil ?_
  refine hK2 _ _ ?_
  refine wpIn_ret ?_
  exact e_tmp rfl h s rfl (⟨b1, rfl, Tab.of_own s 0 rfl⟩)

theorem byway1_any (x y : Mb) (x9 : Id) (bx : Nat) (w : World) (hb : Tab w bx (idArr x9)) : Calls Try.prog 61 [.agg (mbArr x), .agg (mbArr y), .pointer (some ⟨bx, 0, none⟩)].toArray w (Ret w (is (.int .i64 (cmpI (x.2 - x9) (y.2 - x9))))) := by
  refine c_enter Try.func61 rfl Try.ntmps61 rfl [(0, .agg (mbArr x)), (1, .agg (mbArr y)), (2, .pointer (some ⟨bx, 0, none⟩))] (by simp) fun f h => ?_
  have s := St.start w
  refine c_seq fun K1 hK1 => ?_
  refine c_region ?_
  refine s_box ((mbArr x)) h s rfl rfl rfl ?_; intro f w1 b3 h s
  refine s_box ((mbArr y)) h s rfl rfl rfl ?_; intro f w1 b4 h s
  refine s_pure h (ru_assign (h.ev rfl)) rfl ?_; intro f h
  refine s_nil ?_
  refine hK1 _ _ ?_
  refine c_seq fun K2 hK2 => ?_
  refine c_walkN 10 [[], [], [1], [0, 1, 2], [], [], [5], [0, 1, 2, 3, 4, 5, 6], [0, 1, 2, 3, 4, 5, 6, 7], [0, 1, 2, 3, 4, 5, 6, 7, 8]] h (by kernel_rfl) (by kernel_rfl) (by kernel_rfl) ?_
  refine w_load_at (Has.subL (Has.of_tab (hb.keep s.ext)) 0 32 (D := idArr x9) (idArr_ext _)) h row26 rfl (by first | exact idArr_size _ | exact bytesF_size _ _) rfl ?_; intro f h
  refine w_pure h (ru_field fld30_1 (h.ev rfl)) rfl ?_; intro f h
  refine w_load_at (Has.subL (Has.of_own s 1 rfl) 1 32 (D := idArr (_)) (mbArr_id _)) h row26 rfl (by first | exact idArr_size _ | exact bytesF_size _ _) rfl ?_; intro f h
  refine w_call h fnc16 (fun w9 hE9 => far_any _ _ w9) rfl rfl ?_; intro f h
  refine w_load_at (Has.subL (Has.of_tab (hb.keep s.ext)) 0 32 (D := idArr x9) (idArr_ext _)) h row26 rfl (by first | exact idArr_size _ | exact bytesF_size _ _) rfl ?_; intro f h
  refine w_pure h (ru_field fld30_1 (h.ev rfl)) rfl ?_; intro f h
  refine w_load_at (Has.subL (Has.of_own s 0 rfl) 1 32 (D := idArr (_)) (mbArr_id _)) h row26 rfl (by first | exact idArr_size _ | exact bytesF_size _ _) rfl ?_; intro f h
  refine w_call h fnc16 (fun w9 hE9 => far_any _ _ w9) rfl rfl ?_; intro f h
  refine w_call h fnc15 (fun w9 hE9 => compare_any _ _ w9) rfl rfl ?_; intro f h
  refine w_pure h (ru_assign (h.ev rfl)) rfl ?_; intro f h
  refine w_nil s fun w1 s => ?_
  refine s_nil ?_
  refine hK2 _ _ ?_
  refine wpIn_ret ?_
  exact e_tmp rfl h s rfl (rfl)

theorem maxf_any (l : List Mb) (vh : Value) (x9 : Id) (bx : Nat) (w : World) (hR : RdZ w vh 33 l.length (mbCells l)) (hln : l.length ≤ 1000) (hb : Tab w bx (idArr x9)) (h0 : 0 < l.length) : Calls Try.prog 84 [vh, .func (.func 61) #[] #[.pointer (some ⟨bx, 0, none⟩)]].toArray w (Ret w (is (.agg (mbArr (farK (wayF x9) l (l.length - 1)))))) := by
  refine c_enter Try.func84 rfl Try.ntmps84 rfl [(0, vh), (1, .func (.func 61) #[] #[.pointer (some ⟨bx, 0, none⟩)])] (by simp) fun f h => ?_
  have s := St.start w
  refine c_seq fun K1 hK1 => ?_
  refine c_region ?_
  refine s_alloc (mbArr zMb) h s zero30 rfl rfl ?_; intro f w1 b4 h s
  refine s_nil ?_
  refine hK1 _ _ ?_
  refine c_seq fun K2 hK2 => ?_
  refine c_seq fun K3 hK3 => ?_
  refine c_region ?_
  refine s_pure h (ru_move (h.ev rfl)) rfl ?_; intro f h
  refine s_pure h (ru_lenZ (hR.keep s.ext) Try.underlying40 (h.ev rfl)) rfl ?_; intro f h
  refine s_pure h (ru_lss (h.ev rfl) (h.ev rfl)) rfl ?_; intro f h
  refine s_nil ?_
  refine hK3 _ _ ?_
  refine c_cond h rfl (fun hc => ?_) (fun hc => ?_)
  · replace hc := of_decide_eq_true hc
    exfalso; omega
  · refine wpIn_skip ?_
    refine hK2 _ _ ?_
    refine c_seq fun K4 hK4 => ?_
    refine c_region ?_
    refine s_pure h (ru_move (h.ev rfl)) rfl ?_; intro f h
    refine s_pure h (ru_ixz (hR.keep s.ext) (0) Try.underlying40 szo30 (h.ev rfl) (h.ev rfl) (by omega) (by omega)) rfl ?_; intro f h
    refine s_load_at ((hR.keep s.ext).el (0) (by omega) (by decide) (D := mbArr (l.getD 0 zMb)) (mb_elD l 0 h0)) h row30 rfl (mbArr_size _) rfl ?_; intro f h
    refine s_alloc (mbArr zMb) h s zero30 rfl rfl ?_; intro f w1 b5 h s
    refine s_store_row 0 h s row30 rfl rfl rfl (mbArr_size _) (mbArr_size _) (mbArr_ones _) ?_; intro w1 s
    refine s_nil ?_
    refine hK4 _ _ ?_
    refine c_seq fun K5 hK5 => ?_
    refine c_seq fun K6 hK6 => ?_
    refine c_region ?_
    refine s_pure h (ru_assign (h.ev rfl)) rfl ?_; intro f h
    refine s_nil ?_
    refine hK6 _ _ ?_
    refine wpIn_block ?_
    refine wpIn_loop_ghost (fun nn aa ww => ∃ k : Nat, Sl 33 aa [(0, vh), (4, .pointer (some ⟨b4, 0, none⟩)), (5, .pointer (some ⟨b5, 0, none⟩)), (1, .func (.func 61) #[] #[.pointer (some ⟨bx, 0, none⟩)]), (6, .int .i64 ((k : Int) + 1))] ∧ St w [.blk b5 (.cells (mbArr (farK (wayF x9) l k)) 30), .blk b4 (.cells (mbArr zMb) 30)] ww ∧ nn = l.length - k ∧ k + 1 ≤ l.length) (l.length - (0)) ⟨0, h.only ⟨rfl, rfl, rfl, rfl, rfl, trivial⟩, s.as ⟨rfl, rfl, trivial⟩, rfl, by omega⟩ ?_
    rintro _ f w1 ⟨k, h, s, hnn, hp0⟩
    refine c_seq fun K7 hK7 => ?_
    refine c_seq fun K8 hK8 => ?_
    refine c_region ?_
    refine s_pure h (ru_move (h.ev rfl)) rfl ?_; intro f h
    refine s_pure h (ru_move (h.ev rfl)) rfl ?_; intro f h
    refine s_pure h (ru_lenZ (hR.keep s.ext) Try.underlying40 (h.ev rfl)) rfl ?_; intro f h
    refine s_pure h (ru_lss (h.ev rfl) (h.ev rfl)) rfl ?_; intro f h
    refine s_nil ?_
    refine hK8 _ _ ?_
    refine c_cond h rfl (fun hc => ?_) (fun hc => ?_)
    · replace hc := of_decide_eq_true hc
      refine wpIn_skip ?_
      refine hK7 _ _ ?_
      refine c_seq fun K9 hK9 => ?_
      refine wpIn_block ?_
      refine c_seq fun K10 hK10 => ?_
      refine c_walkN 8 [[], [], [], [1, 2], [1, 2, 3], [], [0, 1, 2, 3, 4, 5], [0, 1, 2, 3, 4, 5, 6]] h (by kernel_rfl) (by kernel_rfl) (by kernel_rfl) ?_
      refine w_pure h (ru_move (h.ev rfl)) rfl ?_; intro f h
      refine w_pure h (ru_move (h.ev rfl)) rfl ?_; intro f h
      have hkl : k + 1 < l.length := by omega
      refine w_pure h (ru_move (h.ev rfl)) rfl ?_; intro f h
      refine w_pure h (ru_ixz (hR.keep s.ext) (k + 1) Try.underlying40 szo30 (h.ev rfl) (h.ev rfl) (by omega) (by omega)) rfl ?_; intro f h
      refine w_load_at ((hR.keep s.ext).el (k + 1) (by omega) (by decide) (D := mbArr (l.getD (k + 1) zMb)) (mb_elD l (k + 1) hkl)) h row30 rfl (mbArr_size _) rfl ?_; intro f h
      refine w_load_row 0 h s row30 rfl rfl (mbArr_size _) rfl ?_; intro f h
      refine w_callV [.agg (mbArr (l.getD (k + 1) zMb)), .agg (mbArr (farK (wayF x9) l k))] (caps := [.pointer (some ⟨bx, 0, none⟩)]) h fnc61 rfl (fun w9 h9 => byway1_any _ _ x9 bx w9 (hb.keep (s.ext.trans h9))) rfl rfl ?_; intro f h
      refine w_pure h (ru_val (.bool (decide (fd x9 (farK (wayF x9) l k).2 < fd x9 (l.getD (k + 1) zMb).2))) (ru_gtr (h.ev rfl) (h.ev rfl)) (congrArg Value.bool (cmp_pos _ _ _))) rfl ?_; intro f h
      refine w_nil s fun w1 s => ?_
      refine s_nil ?_
      refine hK10 _ _ ?_
      refine c_cond h rfl (fun hc => ?_) (fun hc => ?_)
      · replace hc := of_decide_eq_true hc
        refine c_region ?_
        refine s_pure h (ru_move (h.ev rfl)) rfl ?_; intro f h
        refine s_pure h (ru_move (h.ev rfl)) rfl ?_; intro f h
        refine s_pure h (ru_ixz (hR.keep s.ext) (k + 1) Try.underlying40 szo30 (h.ev rfl) (h.ev rfl) (by omega) (by omega)) rfl ?_; intro f h
        refine s_load_at ((hR.keep s.ext).el (k + 1) (by omega) (by decide) (D := mbArr (l.getD (k + 1) zMb)) (mb_elD l (k + 1) hkl)) h row30 rfl (mbArr_size _) rfl ?_; intro f h
        refine s_store_row 0 h s row30 rfl rfl rfl (mbArr_size _) (mbArr_size _) (mbArr_ones _) ?_; intro w1 s
        refine s_nil ?_
        refine b_norm ?_
        refine hK9 _ _ ?_
        refine c_region ?_
        refine s_pure h (ru_move (h.ev rfl)) rfl ?_; intro f h
        refine s_pure h (ru_add (h.ev rfl) (h.ev rfl) (by omega)) rfl ?_; intro f h
        refine s_pure h (ru_assign (h.ev rfl)) rfl ?_; intro f h
        refine s_nil ?_
        refine t_norm ?_
        exact ⟨_, by omega, ⟨k + 1, h.only ⟨rfl, rfl, rfl, rfl, slot_int rfl (by omega), trivial⟩, St.as s ⟨cells_eq (congrArg mbArr (far_yes (f := wayF x9) hc).symm), rfl, trivial⟩, rfl, by omega⟩⟩
      · replace hc := of_decide_eq_false hc
        refine wpIn_skip ?_
        refine b_norm ?_
        refine hK9 _ _ ?_
        refine c_region ?_
        refine s_pure h (ru_move (h.ev rfl)) rfl ?_; intro f h
        refine s_pure h (ru_add (h.ev rfl) (h.ev rfl) (by omega)) rfl ?_; intro f h
        refine s_pure h (ru_assign (h.ev rfl)) rfl ?_; intro f h
        refine s_nil ?_
        refine t_norm ?_
        exact ⟨_, by omega, ⟨k + 1, h.only ⟨rfl, rfl, rfl, rfl, slot_int rfl (by omega), trivial⟩, St.as s ⟨cells_eq (congrArg mbArr (far_no (f := wayF x9) hc).symm), rfl, trivial⟩, rfl, by omega⟩⟩
    · replace hc := of_decide_eq_false hc
      refine wpIn_exit ?_
      refine t_exit ?_
      refine t_exit ?_
      refine b_exit ?_
      refine hK5 _ _ ?_
      refine c_seq fun K11 hK11 => ?_
      refine c_region ?_
      refine s_load_row 0 h s row30 rfl rfl (mbArr_size _) rfl ?_; intro f h
      refine s_store_row 1 h s row30 rfl rfl rfl (mbArr_size _) (mbArr_size _) (mbArr_ones _) ?_; intro w1 s
      refine s_nil ?_
      refine hK11 _ _ ?_
      refine wpIn_ret ?_
      exact e_row 1 rfl h s row30 rfl rfl (mbArr_size _) ((by obtain rfl : k = l.length - 1 := (by omega); exact rfl))

theorem before_any (l : List Mb) (vh : Value) (no : Int) (w : World) (hR : RdZ w vh 33 l.length (mbCells l)) (hln : l.length ≤ 1000) : Calls Try.prog 57 [vh, .int .i64 no].toArray w (Ret w (is (.tuple #[.agg (mbArr (befM l no)), .int .i64 (finE l no)]))) := by
  refine c_enter Try.func57 rfl Try.ntmps57 rfl [(0, vh), (1, .int .i64 no)] (by simp) fun f h => ?_
  have s := St.start w
  refine c_seq fun K1 hK1 => ?_
  refine c_region ?_
  refine s_alloc (mbArr zMb) h s zero30 rfl rfl ?_; intro f w1 b4 h s
  refine s_pure h (ru_assign (h.ev rfl)) rfl ?_; intro f h
  refine s_nil ?_
  refine hK1 _ _ ?_
  refine c_seq fun K2 hK2 => ?_
  refine c_region ?_
  refine s_pure h (ru_move (h.ev rfl)) rfl ?_; intro f h
  refine s_pure h (ru_move (h.ev rfl)) rfl ?_; intro f h
  refine s_call h s fnc83 (find_any l vh no _ (hR.keep s.ext) hln) rfl rfl ?_; intro f w1 v9 hT hE h s; obtain rfl := hT
  refine s_pure h (ru_move (h.ev rfl)) rfl ?_; intro f h
  refine s_pure h (ru_extract (h.ev rfl) rfl) rfl ?_; intro f h
  refine s_pure h (ru_extract (h.ev rfl) rfl) rfl ?_; intro f h
  refine s_alloc (mbArr zMb) h s zero30 rfl rfl ?_; intro f w1 b6 h s
  refine s_store_row 0 h s row30 rfl rfl rfl (mbArr_size _) (mbArr_size _) (mbArr_ones _) ?_; intro w1 s
  refine s_pure h (ru_assign (h.ev rfl)) rfl ?_; intro f h
  refine s_nil ?_
  refine hK2 _ _ ?_
  refine c_seq fun K3 hK3 => ?_
  refine c_seq fun K4 hK4 => ?_
  refine c_region ?_
  refine s_pure h (ru_move (h.ev rfl)) rfl ?_; intro f h
  refine s_pure h (ru_neq (h.ev rfl) (h.ev rfl)) rfl ?_; intro f h
  refine s_nil ?_
  refine hK4 _ _ ?_
  refine c_cond h rfl (fun hc => ?_) (fun hc => ?_)
  · have h0 : ¬ finE l no = 0 := by simpa using hc
    refine c_seq fun K5 hK5 => ?_
    refine c_region ?_
    refine s_pure h (ru_build_mb0 sttM) rfl ?_; intro f h
    refine s_pure h (ru_move (h.ev rfl)) rfl ?_; intro f h
    refine s_store_row 1 h s row30 rfl rfl rfl (mbArr_size _) (mbArr_size _) (mbArr_ones _) ?_; intro w1 s
    refine s_pure h (ru_assign (h.ev rfl)) rfl ?_; intro f h
    refine s_nil ?_
    refine hK5 _ _ ?_
    refine wpIn_ret ?_
    refine t_ret ?_
    exact e_row_tmp 1 rfl h s row30 rfl rfl (mbArr_size _) rfl (by show _ = _; rw [bef_no h0] <;> rfl)
  · have h0 : finE l no = 0 := by simpa using hc
    obtain ⟨hr, hg, hf, hm, hno⟩ := fin_ok h0
    refine wpIn_skip ?_
    refine hK3 _ _ ?_
    refine c_seq fun K6 hK6 => ?_
    refine c_region ?_
    refine s_pure h (ru_move (h.ev rfl)) rfl ?_; intro f h
    refine s_pure h (ru_field fld30_1 (h.ev rfl)) rfl ?_; intro f h
    refine s_load_at (Has.subL (Has.of_own s 0 rfl) 1 32 (D := idArr (_)) (mbArr_id _)) h row26 rfl (by first | exact idArr_size _ | exact bytesF_size _ _) rfl ?_; intro f h
    refine s_call h s fnc34 (byway_any (finM l no).2 _) rfl rfl ?_; rintro f w1 v21 ⟨bx, rfl, hbx⟩ hE h s
    refine s_call h s fnc84 (maxf_any l vh (finM l no).2 bx _ (hR.keep s.ext) hln hbx (mem_pos hm)) rfl rfl ?_; intro f w1 v9 hT hE h s; obtain rfl := hT
    refine s_store_row 1 h s row30 rfl rfl rfl (mbArr_size _) (mbArr_size _) (mbArr_ones _) ?_; intro w1 s
    refine s_pure h (ru_assign (h.ev rfl)) rfl ?_; intro f h
    refine s_nil ?_
    refine hK6 _ _ ?_
    refine wpIn_ret ?_
    exact e_row_tmp 1 rfl h s row30 rfl rfl (mbArr_size _) rfl (by show _ = _; rw [bef_ok h0, h0] <;> rfl)

theorem values_ok (a9 : Option Addr) (n9 c9 : Nat) (w : World) : Calls Try.prog 90 [.slice a9 n9 c9].toArray w (Ret w (fun v w9 => ∃ bx, v = .func (.func 100) #[] #[.pointer (some ⟨bx, 0, none⟩)] ∧ Tab w9 bx #[.slice a9 n9 c9])) := by
  refine c_enter Try.func90 rfl Try.ntmps90 rfl [(0, .slice a9 n9 c9)] (by simp) fun f h => ?_
  have s := St.start w
  refine c_seq fun K1 hK1 => ?_
  refine c_region ?_
  refine s_box (#[.slice a9 n9 c9]) h s rfl rfl rfl ?_; intro f w1 b1 h s
  refine s_pure h (ru_assign (h.ev rfl)) rfl ?_; intro f h
  refine s_nil ?_
  refine hK1 _ _ ?_
  refine c_seq fun K2 hK2 => ?_
  refine c_region ?_
  refine s_pure h (ru_makeFunc [.pointer (some ⟨b1, 0, none⟩)] (evsA h rfl)) rfl ?_; intro f h
  refine s_pure h (ru_assign (h.ev rfl)) rfl ?_; intro f h
  refine s_nil ?_
  refine hK2 _ _ ?_
  refine wpIn_ret ?_
  exact e_tmp rfl h s rfl (⟨b1, rfl, Tab.of_own s 0 rfl⟩)

theorem values_any (l : List Mb) (vh : Value) (w : World) (hR : RdZ w vh 33 l.length (mbCells l)) : Calls Try.prog 90 [vh].toArray w (Ret w (fun v w9 => ∃ bx, v = .func (.func 100) #[] #[.pointer (some ⟨bx, 0, none⟩)] ∧ Tab w9 bx #[vh])) := by
  obtain ⟨a, c, rfl⟩ := hR.len
  exact values_ok a _ c w

theorem viter_any (l : List Mb) (hln : l.length ≤ 1000) (vh : Value) (lp bx : Nat) (q : Nat → Bool) (GG : Nat → Own → Prop) (g0 : Own) (w0 w : World) (s : St w0 [g0] w) (hb : Tab w0 bx #[vh]) (hg0 : GG 0 g0) (hR : RdZ w0 vh 33 l.length (mbCells l)) (hY : ∀ (d : Nat) (B9 : List Own) (w9 : World) (i : Nat) (g : Own), d < l.length → (∀ j, j < d → q j = false) → GG d g → St w0 B9 w9 → B9[i]? = some g → Yields Try.prog lp [Value.agg (mbArr (l.getD d zMb))].toArray w9 (fun v w2 => v = .bool (!q d) ∧ ∃ g', GG (d + 1) g' ∧ St w0 (B9.set i g') w2)) : Calls Try.prog 100 [.func (.yield lp) #[] #[], .pointer (some ⟨bx, 0, none⟩)].toArray w (fun e w9 => (∃ v, e = .returned v) ∧ ∃ d g, GG d g ∧ St w0 ([] ++ [g]) w9 ∧ d ≤ l.length ∧ (∀ j, j + 1 < d → q j = false) ∧ (lq q d = false → d = l.length)) := by
  refine c_enterF Try.func100 rfl Try.ntmps100 rfl [(0, .func (.yield lp) #[] #[]), (1, .pointer (some ⟨bx, 0, none⟩))] (by simp) fun f h => ?_
  refine c_seq fun K1 hK1 => ?_
  refine c_region ?_
  refine s_load_at1 (V := vh) (cell_of_has (Has.of_tab (hb.keep s.ext)) 0 (rfl)) h one40 rfl rfl ?_; intro f h
  refine s_pure h (ru_lenZ (hR.keep s.ext) Try.underlying40 (h.ev rfl)) rfl ?_; intro f h
  refine s_pure h (ru_move (h.ev rfl)) rfl ?_; intro f h
  refine s_nil ?_
  refine hK1 _ _ ?_
  refine wpIn_block ?_
  refine wpIn_loop_ghost (fun nn aa ww => ∃ d : Nat, ∃ gg : Own, Sl 16 aa [(0, .func (.yield lp) #[] #[]), (5, vh), (6, .int .i64 (l.length : Int)), (7, .int .i64 (d : Int))] ∧ St w0 [(gg)] ww ∧ nn = l.length - d ∧ d ≤ l.length ∧ GG d gg ∧ ∀ j, j < d → q j = false) (l.length - (0)) ⟨0, g0, h.only ⟨rfl, rfl, rfl, slot_int rfl (by omega), trivial⟩, s.as ⟨rfl, trivial⟩, rfl, Nat.zero_le _, hg0, fun j hj => absurd hj (Nat.not_lt_zero _)⟩ ?_
  rintro _ f w1 ⟨d, gg, h, s, hnn, hp0, hp1, hp2⟩
  refine c_seq fun K2 hK2 => ?_
  refine c_region ?_
  refine s_pure h (ru_lss (h.ev rfl) (h.ev rfl)) rfl ?_; intro f h
  refine s_nil ?_
  refine hK2 _ _ ?_
  refine c_seq fun K3 hK3 => ?_
  refine c_cond h rfl (fun hc => ?_) (fun hc => ?_)
  · replace hc := of_decide_eq_true hc
    refine wpIn_skip ?_
    refine hK3 _ _ ?_
    refine c_seq fun K4 hK4 => ?_
    refine wpIn_block ?_
    refine c_seq fun K5 hK5 => ?_
    refine c_region ?_
    have hdl : d < l.length := by omega
    refine s_pure h (ru_ixz (hR.keep s.ext) (d) Try.underlying40 szo30 (h.ev rfl) (h.ev rfl) (by omega) (by omega)) rfl ?_; intro f h
    refine s_load_at ((hR.keep s.ext).el (d) (by omega) (by decide) (D := mbArr (l.getD d zMb)) (mb_elD l d hdl)) h row30 rfl (mbArr_size _) rfl ?_; intro f h
    refine s_alloc (mbArr zMb) h s zero30 rfl rfl ?_; intro f w1 b4 h s
    refine s_store_row 0 h s row30 rfl rfl rfl (mbArr_size _) (mbArr_size _) (mbArr_ones _) ?_; intro w1 s
    refine s_nil ?_
    refine hK5 _ _ ?_
    refine c_seq fun K6 hK6 => ?_
    cases hq : (q d : Bool)
    · skip
      refine c_region ?_
      refine s_pure h (ru_move (h.ev rfl)) rfl ?_; intro f h
      refine s_load_row 0 h s row30 rfl rfl (mbArr_size _) rfl ?_; intro f h
      refine s_yieldG (V := .bool true) (G := GG (d + 1)) [.agg (mbArr (l.getD d zMb))] 1 h rfl rfl (by have h9 := hY d _ _ 1 gg hdl hp2 hp1 s rfl; rw [hq] at h9; exact h9) rfl ?_; intro f w1 g1 hg1 h s
      refine s_pure h (ru_val (.bool false) (ru_not (h.ev rfl)) rfl) rfl ?_; intro f h
      refine s_nil ?_
      refine hK6 _ _ ?_
      refine wpIn_cond_false (h.ev rfl) ?_
      refine wpIn_skip ?_
      refine b_norm ?_
      refine hK4 _ _ ?_
      refine c_region ?_
      refine s_pure h (ru_add (h.ev rfl) (h.ev rfl) (by omega)) rfl ?_; intro f h
      refine s_pure h (ru_move (h.ev rfl)) rfl ?_; intro f h
      refine s_nil ?_
      refine t_norm ?_
      exact ⟨_, by omega, ⟨d + 1, g1, h.only ⟨rfl, rfl, rfl, slot_int rfl (by omega), trivial⟩, St.as (s.pick _ (List.sublist_append_right [_] _)) ⟨rfl, trivial⟩, rfl, by omega, hg1, qs_next hp2 hq⟩⟩
    · skip
      refine c_region ?_
      refine s_pure h (ru_move (h.ev rfl)) rfl ?_; intro f h
      refine s_load_row 0 h s row30 rfl rfl (mbArr_size _) rfl ?_; intro f h
      refine s_yieldG (V := .bool false) (G := GG (d + 1)) [.agg (mbArr (l.getD d zMb))] 1 h rfl rfl (by have h9 := hY d _ _ 1 gg hdl hp2 hp1 s rfl; rw [hq] at h9; exact h9) rfl ?_; intro f w1 g1 hg1 h s
      refine s_pure h (ru_val (.bool true) (ru_not (h.ev rfl)) rfl) rfl ?_; intro f h
      refine s_nil ?_
      refine hK6 _ _ ?_
      refine wpIn_cond_true (h.ev rfl) ?_
      refine wpIn_ret ?_
      refine b_ret ?_
      refine t_ret ?_
      refine t_ret ?_
      refine b_ret ?_
      exact e_noneF rfl h (⟨⟨_, rfl⟩, d + 1, g1, hg1, s.pick _ (List.sublist_cons_self _ _), by omega, fun j hj => hp2 j (by omega), fun h9 => absurd (hq.symm.trans h9) (by decide)⟩)
  · replace hc := of_decide_eq_false hc
    refine wpIn_exit ?_
    refine t_exit ?_
    refine t_exit ?_
    refine b_exit ?_
    exact e_noneF_end rfl h (⟨⟨_, rfl⟩, d, gg, hp1, s, hp0, fun j hj => hp2 j (by omega), fun _ => by omega⟩)

theorem appseq_any (l : List Mb) (vh : Value) (bx : Nat) (w : World) (hR : RdZ w vh 33 l.length (mbCells l)) (hln : l.length ≤ 1000) (hb : Tab w bx #[vh]) : Calls Try.prog 105 [(.slice none 0 0), .func (.func 100) #[] #[.pointer (some ⟨bx, 0, none⟩)]].toArray w (Ret w (fun v w' => Owns w' w.heap.size 30 33 v l.length (mbCells l))) := by
  refine c_enterM Try.func105 rfl Try.ntmps105 rfl [(0, (.slice none 0 0)), (1, .func (.func 100) #[] #[.pointer (some ⟨bx, 0, none⟩)])] (by simp) fun f h => ?_
  have s := St.start w
  refine c_seq fun K1 hK1 => ?_
  refine c_region ?_
  refine s_box (#[(.slice none 0 0)]) h s rfl rfl rfl ?_; intro f w1 b2 h s
  replace s := s.nilSl 30 33
  refine s_pure h (ru_assign (h.ev rfl)) rfl ?_; intro f h
  refine s_nil ?_
  refine hK1 _ _ ?_
  refine c_seq fun K2 hK2 => ?_
  refine c_seq fun K3 hK3 => ?_
  refine c_region ?_
  refine s_pure h (ru_move (h.ev rfl)) rfl ?_; intro f h
  refine s_nil ?_
  refine hK3 _ _ ?_
  refine wpIn_block ?_
  refine c_rangeE (fun d A9 => ∃ v8 : Value, A9 = [.sl v8 30 33 (l.take d).length (mbCells (l.take d)), .blk b2 (.cells #[v8] 40)]) [.sl (.slice none 0 0) 30 33 0 [], .blk b2 (.cells #[(.slice none 0 0)] 40)] [] (l.length) (fun _ => false) (fun d => [Value.agg (mbArr (l.getD d zMb))]) h s rfl fnc100 (List.Perm.refl _) (⟨_, rfl⟩) (fun _ => rfl) ?_ ?_ ?_ ?_
  · intro lp w2 GG g0 hg0 s2 hY; exact viter_any l hln vh lp bx (fun _ => false) GG g0 w w2 s2 hb hg0 hR hY
  · intro lp D9 d9 rc R9 A9 w2 hd9 hq9 hJ9 s
    obtain ⟨v8, rfl⟩ := hJ9
    have h := Sl.round1 (p := 7) (V := .agg (mbArr (l.getD d9 zMb))) h rfl
    refine c_region ?_
    refine s_alloc (mbArr zMb) h s zero30 rfl rfl ?_; intro f w1 b5 h s
    refine s_store_row 0 h s row30 rfl rfl rfl (mbArr_size _) (mbArr_size _) (mbArr_ones _) ?_; intro w1 s
    refine s_nil ?_
    refine t_norm ?_
    refine ⟨_, s.perm (List.perm_middle (l₁ := [_])), fun w3 s => ?_⟩
    refine wpIn_block ?_
    refine c_region ?_
    refine s_load_one 4 h s one40 rfl rfl (rfl) rfl ?_; intro f h
    refine s_load_row 1 h s row30 rfl rfl (mbArr_size _) rfl ?_; intro f h
    refine s_bslice (vs := [.agg (mbArr (l.getD d9 zMb))]) [.tmp 9] h s Try.underlying40 elm30 rfl rfl (mb_sz _) rfl rfl rfl ?_; intro f w1 v10 h s
    refine s_append 4 0 h s Try.underlying40 elm30 rfl rfl rfl rfl (by decide) (by rw [one_mb]; exact mbArr_ones _) (by rw [List.length_take]; unfold maxLen; omega) (by rw [List.length_take]; omega) rfl ?_; intro f w1 v11 h s
    replace s := s.pick _ (List.sublist_cons_self _ _)
    refine s_store_one 4 h s one40 rfl rfl rfl (by simp) (own_one (s.getSl 3 rfl)) ?_; intro w1 s
    refine s_nil ?_
    refine b_norm ?_
    replace s := s.resl (m := (l.take (d9 + 1)).length) (ys := mbCells (l.take (d9 + 1))) 3 rfl (by rw [takeD hd9, List.length_append]; rfl) (by rw [takeD hd9, one_mb, mb_snoc])
    refine ⟨rfl, _, ⟨v11, rfl⟩, s.pick _ ?_⟩
    exact List.Sublist.cons_cons _ (List.Sublist.cons _ (List.Sublist.refl _))
  · intro D9 A9 w2 hJ9 hq9 s
    obtain ⟨v8, rfl⟩ := hJ9
    replace h : Sl _ { f with defers := { target := .collected D9, args := #[] } :: f.defers } _ [{ target := .collected D9, args := #[] }] := ⟨h.size, by rw [h.defers], h.holds⟩
    rw [List.take_length] at s
    refine b_norm ?_
    refine hK2 _ _ ?_
    refine c_seq fun K4 hK4 => ?_
    refine c_region ?_
    refine s_load_one 2 h s one40 rfl rfl (rfl) rfl ?_; intro f h
    replace s := s.nilSl 30 33
    refine s_pure h (ru_assign (h.ev rfl)) rfl ?_; intro f h
    refine s_nil ?_
    refine hK4 _ _ ?_
    refine wpIn_ret ?_
    exact e_tmp_MS 1 rfl h s rfl rfl (fun w9 s9 => s9.getSl 2 rfl)
  · intro D9 d9 A9 w2 hd9 hqd9 hq9 hJ9 s
    cases hqd9

theorem collect_any (l : List Mb) (vh : Value) (bx : Nat) (w : World) (hR : RdZ w vh 33 l.length (mbCells l)) (hln : l.length ≤ 1000) (hb : Tab w bx #[vh]) : Calls Try.prog 102 [.func (.func 100) #[] #[.pointer (some ⟨bx, 0, none⟩)]].toArray w (Ret w (fun v w' => Owns w' w.heap.size 30 33 v l.length (mbCells l))) := by
  refine c_enter Try.func102 rfl Try.ntmps102 rfl [(0, .func (.func 100) #[] #[.pointer (some ⟨bx, 0, none⟩)])] (by simp) fun f h => ?_
  have s := St.start w
  refine c_seq fun K1 hK1 => ?_
  refine c_region ?_
  refine s_pure h (ru_assign (h.ev rfl)) rfl ?_; intro f h
  refine s_nil ?_
  refine hK1 _ _ ?_
  refine c_seq fun K2 hK2 => ?_
  refine c_region ?_
  refine s_pure h (ru_move (h.ev rfl)) rfl ?_; intro f h
  refine s_call h s fnc105 (appseq_any l vh bx _ (hR.keep s.ext) hln (hb.keep s.ext)) rfl rfl ?_; intro f w1 v4 hT hE h sq; replace s := s.sl_new hE hT
  refine s_pure h (ru_assign (h.ev rfl)) rfl ?_; intro f h
  refine s_nil ?_
  refine hK2 _ _ ?_
  refine wpIn_ret ?_
  exact e_tmp rfl h s rfl ((s.getSl 0 rfl))

theorem sortf_st (l : List Mb) (hg : Rg l) (x9 : Id) (v : Value) (bx : Nat) (B9 : List Own) (w0 w : World) (s : St w0 (.sl v 30 33 l.length (mbCells l) :: B9) w) (hb : Tab w0 bx (idArr x9)) :
    Calls Try.prog 103 [v, .func (.func 61) #[] #[.pointer (some ⟨bx, 0, none⟩)]].toArray w (fun e w' => ∃ r, e = .returned r ∧ St w0 (.sl v 30 33 l.length (mbCells (rndL x9 l)) :: B9) w') := by
  by_cases h0 : l.length = 0
  · have hl : l = [] := List.eq_nil_of_length_eq_zero h0
    subst hl
    obtain ⟨a, c, rfl⟩ := ownsRow_slice (s.getSl 0 rfl)
    refine (Go.Proofs.AnyF.slices_SortFunc_none (P := Try.prog) (ρ := Try.layG_ren) Try.layG a c (.func (.func 61) #[] #[.pointer (some ⟨bx, 0, none⟩)]) w).mono ?_
    rintro e w' ⟨rfl, rfl⟩
    refine ⟨_, rfl, ?_⟩
    rw [rnd_nil]
    exact s
  · obtain ⟨g, cap, rfl, hlt, hgo, hH, hst⟩ := sort_st s rfl (by omega)
    have hT : ∀ m os d, Tab (Go.Proofs.sortWorldK mbL 33 w g 0 m d os) bx (idArr x9) := fun m os d => by
      obtain ⟨t, fr, h1⟩ := hb
      have h2 := (Array.getElem?_eq_some_iff.1 h1).1
      have h3 := s.ext.le
      refine ⟨t, fr, ?_⟩
      rw [sortW_other w g m d os (by omega) (by omega), s.ext.block bx h2]
      exact h1
    have hcon := Go.Proofs.AnyQ.slices_SortFunc (P := Try.prog) (ρ := Try.layG_ren) Try.layG 33 Try.isAgg30 Try.sizeOf30 mbL mbL_len mbL_ones (fun x y : Mb => cmpI (x.2 - x9) (y.2 - x9)) (ord_swo x9) 61 #[.pointer (some ⟨bx, 0, none⟩)] g 0 cap l.toArray w (enters_of Try.func61 (by kernel_rfl) rfl) (fun m os dk _ x y => by
      have h9 := byway1_any x y x9 bx _ (hT m os dk)
      refine h9.mono ?_
      rintro e w' ⟨v, rfl, hv, hE⟩
      obtain rfl := hv
      exact ⟨rfl, grow_of hE⟩) hH hlt (by have := hg.len; rw [List.size_toArray]; omega)
    refine hcon.mono ?_
    rintro e w' ⟨rfl, d', n, os, hp, hs, rfl⟩
    have s2 := hst n os d' hp.1
    rw [sorted_rnd hg x9 hp hs] at s2
    exact ⟨_, rfl, s2⟩

theorem sortedf_any (l : List Mb) (vh : Value) (bv bx : Nat) (x9 : Id) (w : World) (hR : RdZ w vh 33 l.length (mbCells l)) (hln : l.length ≤ 1000) (hg : Rg l) (hv : Tab w bv #[vh]) (hb : Tab w bx (idArr x9)) : Calls Try.prog 98 [.func (.func 100) #[] #[.pointer (some ⟨bv, 0, none⟩)], .func (.func 61) #[] #[.pointer (some ⟨bx, 0, none⟩)]].toArray w (Ret w (fun v w' => Owns w' w.heap.size 30 33 v l.length (mbCells (rndL x9 l)))) := by
  refine c_enter Try.func98 rfl Try.ntmps98 rfl [(0, .func (.func 100) #[] #[.pointer (some ⟨bv, 0, none⟩)]), (1, .func (.func 61) #[] #[.pointer (some ⟨bx, 0, none⟩)])] (by simp) fun f h => ?_
  have s := St.start w
  refine c_seq fun K1 hK1 => ?_
  refine c_region ?_
  refine s_pure h (ru_assign (h.ev rfl)) rfl ?_; intro f h
  refine s_nil ?_
  refine hK1 _ _ ?_
  refine c_seq fun K2 hK2 => ?_
  refine c_region ?_
  refine s_pure h (ru_move (h.ev rfl)) rfl ?_; intro f h
  refine s_call h s fnc102 (collect_any l vh bv _ (hR.keep s.ext) hln (hv.keep s.ext)) rfl rfl ?_; intro f w1 v7 hT hE h sq; replace s := s.sl_new hE hT
  refine s_pure h (ru_assign (h.ev rfl)) rfl ?_; intro f h
  refine s_nil ?_
  refine hK2 _ _ ?_
  refine c_seq fun K3 hK3 => ?_
  refine c_region ?_
  refine s_pure h (ru_move (h.ev rfl)) rfl ?_; intro f h
  refine s_pure h (ru_move (h.ev rfl)) rfl ?_; intro f h
  refine s_callS [v7, .func (.func 61) #[] #[.pointer (some ⟨bx, 0, none⟩)]] h fnc103 (sortf_st l hg x9 v7 bx [] _ _ s hb) rfl rfl ?_; rintro f w1 v10 s h
  refine s_nil ?_
  refine hK3 _ _ ?_
  refine c_seq fun K4 hK4 => ?_
  refine c_region ?_
  refine s_pure h (ru_move (h.ev rfl)) rfl ?_; intro f h
  refine s_pure h (ru_assign (h.ev rfl)) rfl ?_; intro f h
  refine s_nil ?_
  refine hK4 _ _ ?_
  refine wpIn_ret ?_
  exact e_tmp rfl h s rfl ((s.getSl 0 rfl))

theorem rgrnd_any (x9 : Id) (l : List Mb) (vh : Value) (w : World) (hR : RdZ w vh 33 l.length (mbCells l)) (hln : l.length ≤ 1000) (hg : Rg l) : Calls Try.prog 85 [idV x9, vh].toArray w (Ret w (fun v w' => Owns w' w.heap.size 30 33 v l.length (mbCells (rndL x9 l)))) := by
  refine c_enter Try.func85 rfl Try.ntmps85 rfl [(0, idV x9), (1, vh)] (by simp) fun f h => ?_
  have s := St.start w
  refine c_seq fun K1 hK1 => ?_
  refine c_region ?_
  refine s_box (idArr x9) h s rfl rfl rfl ?_; intro f w1 b2 h s
  refine s_pure h (ru_assign (h.ev rfl)) rfl ?_; intro f h
  refine s_nil ?_
  refine hK1 _ _ ?_
  refine c_seq fun K2 hK2 => ?_
  have hbs := s.ext.le
  refine' c_reg2 4 [0] [] [[], [0], [], [0, 1, 2], [0, 1, 2, 3], [0, 1, 2, 3, 4]] (is _ :: (fun v w9 => ∃ bx, v = .func (.func 100) #[] #[.pointer (some ⟨bx, 0, none⟩)] ∧ Tab w9 bx #[vh]) :: is _ :: (fun v w9 => ∃ bx, v = .func (.func 61) #[] #[.pointer (some ⟨bx, 0, none⟩)] ∧ Tab w9 bx (idArr x9)) :: is undef :: is undef :: []) (fun _ => True) h s (by kernel_rfl) (by kernel_rfl) (by kernel_rfl) (by kernel_rfl) rfl (fun _ _ h _ => h) (trivial) ⟨⟨_, rfl⟩, trivial⟩ ⟨is_mono _, fun _ _ _ h9 hE => by obtain ⟨b9, h1, h2⟩ := h9; exact ⟨b9, h1, h2.keep hE⟩, is_mono _, fun _ _ _ h9 hE => by obtain ⟨b9, h1, h2⟩ := h9; exact ⟨b9, h1, h2.keep hE⟩, is_mono _, is_mono _, trivial⟩ (And.intro ?_ (And.intro ?_ (And.intro ?_ (And.intro ?_ (And.intro ?_ (And.intro ?_ (trivial))))))) ?_
  rotate_left 2
  · refine obH_in 5 rfl (by decide) ?_
    intro f9 w2 hE hs hl
    have e1 : f9.tmps.getD 1 undef = _ := sx_old hl 1 (by kernel_rfl) (by kernel_rfl) (h.holds 1 _ rfl)
    have h := fin_slot [(1, _)] hs rfl (holds_lk ⟨e1, trivial⟩)
    refine s_pure h (ru_move (h.ev rfl)) rfl ?_; intro f h
    refine s_nil ?_
    have e9 := h.holds 5 _ rfl
    refine ⟨?_, rfl⟩
    refine e9.trans ?_
    exact rfl
  · refine obF_in 6 rfl (by decide) (by decide) ?_
    intro f9 w2 hE hs hd9 hl
    have e5 : f9.tmps.getD 5 undef = _ := sx_get hl 5 0 (by kernel_rfl) (by kernel_rfl)
    have h := fin_slot [(5, _)] hs hd9 (holds_lk ⟨e5, trivial⟩)
    have s := s.more hE
    have z := St.start w2
    refine s_call h s fnc90 (values_any l vh _ (hR.keep s.ext)) rfl rfl ?_; intro f w3 v3 hT9 hE3 h s
    refine s_nil ?_
    exact ⟨by rw [h.holds 6 _ rfl]; exact hT9, hE3, fun h9 => absurd h9 (by decide)⟩
  · refine obF_in 7 rfl (by decide) (by decide) ?_
    intro f9 w2 hE hs hd9 hl
    have e2 : f9.tmps.getD 2 undef = _ := sx_old hl 2 (by kernel_rfl) (by kernel_rfl) (h.holds 2 _ rfl)
    have h := fin_slot [(2, _)] hs hd9 (holds_lk ⟨e2, trivial⟩)
    have s := s.more hE
    have z := St.start w2
    refine s_load_row 0 h s row26 rfl rfl (by first | exact idArr_size _ | exact bytesF_size _ _) rfl ?_; intro f h
    refine s_nil ?_
    have e9 := h.holds 7 _ rfl
    refine ⟨?_, Ext.refl _, fun h9 => absurd h9 (by decide)⟩
    refine e9.trans ?_
    exact rfl
  · refine obF_in 8 rfl (by decide) (by decide) ?_
    intro f9 w2 hE hs hd9 hl
    have e7 : f9.tmps.getD 7 undef = _ := sx_get hl 7 2 (by kernel_rfl) (by kernel_rfl)
    have h := fin_slot [(7, _)] hs hd9 (holds_lk ⟨e7, trivial⟩)
    have s := s.more hE
    have z := St.start w2
    refine s_call h s fnc34 (byway_any x9 _) rfl rfl ?_; intro f w3 v3 hT9 hE3 h s
    refine s_nil ?_
    exact ⟨by rw [h.holds 8 _ rfl]; exact hT9, hE3, fun h9 => absurd h9 (by decide)⟩
  · exact obT_in (by decide) (by decide)
  · exact obT_in (by decide) (by decide)
  · intro f9 w2 hE hs hd9 hWp hT hR hFr hDj
    obtain ⟨u6, hu6⟩ : ∃ v, f9.tmps.getD 6 undef = v := ⟨_, rfl⟩
    have e6 : (fun v w9 => ∃ bx, v = .func (.func 100) #[] #[.pointer (some ⟨bx, 0, none⟩)] ∧ Tab w9 bx #[vh]) u6 w2 := by rw [← hu6]; exact hT 1 6 (by decide) rfl
    obtain ⟨u8, hu8⟩ : ∃ v, f9.tmps.getD 8 undef = v := ⟨_, rfl⟩
    have e8 : (fun v w9 => ∃ bx, v = .func (.func 61) #[] #[.pointer (some ⟨bx, 0, none⟩)] ∧ Tab w9 bx (idArr x9)) u8 w2 := by rw [← hu8]; exact hT 3 8 (by decide) rfl
    replace h := sl_new (ops := _) [(5, _), (6, u6), (7, _), (8, u8)] h hs hd9 hR ⟨hT 0 5 (by decide) rfl, hu6, hT 2 7 (by decide) rfl, hu8, trivial⟩ (by kernel_rfl)
    replace s := s.more hE
    clear hT hR hFr hDj
    refine LstW.of ?_
    obtain ⟨bv, hbv0, hbv⟩ := e6; subst hbv0; obtain ⟨bx, hbx0, hbx⟩ := e8; subst hbx0
    refine s_call h s fnc98 (sortedf_any l vh bv bx x9 _ (hR.keep s.ext) hln hg hbv hbx) rfl rfl ?_; intro f w1 vr hT hE h sq; replace s := s.sl_new hE hT
    refine s_pure h (ru_assign (h.ev rfl)) rfl ?_; intro f h
    refine s_nil ?_
    refine hK2 _ _ ?_
    refine wpIn_ret ?_
    exact e_tmp rfl h s rfl ((s.getSl 0 rfl))

theorem after_any (l : List Mb) (vh : Value) (no many : Int) (w : World) (hR : RdZ w vh 33 l.length (mbCells l)) (hln : l.length ≤ 1000) : Calls Try.prog 58 [vh, .int .i64 no, .int .i64 many].toArray w (Ret w (fun v w' => ∃ v8, v = .tuple #[v8, .int .i64 (aftE l no many)] ∧ Owns w' w.heap.size 30 33 v8 (aftL l no many).length (mbCells (aftL l no many)))) := by
  refine c_enter Try.func58 rfl Try.ntmps58 rfl [(0, vh), (1, .int .i64 no), (2, .int .i64 many)] (by simp) fun f h => ?_
  have s := St.start w
  refine c_seq fun K1 hK1 => ?_
  refine c_region ?_
  refine s_pure h (ru_assign (h.ev rfl)) rfl ?_; intro f h
  refine s_pure h (ru_assign (h.ev rfl)) rfl ?_; intro f h
  refine s_nil ?_
  refine hK1 _ _ ?_
  refine c_seq fun K2 hK2 => ?_
  refine c_seq fun K3 hK3 => ?_
  cases m0 : (decide (many < 0) : Bool)
  · skip
    cases m1 : (decide (16 < many) : Bool)
    · skip
      refine c_region ?_
      refine s_pure h (ru_move (h.ev rfl)) rfl ?_; intro f h
      refine s_pure h (ru_val (.bool false) (ru_lss (h.ev rfl) (h.ev rfl)) (congrArg Value.bool m0)) rfl ?_; intro f h
      refine s_pure h (ru_move (h.ev rfl)) rfl ?_; intro f h
      refine s_on h rfl rfl rfl ?_
      refine s_pure h (ru_move (h.ev rfl)) rfl ?_; intro f h
      refine s_on h rfl rfl rfl ?_
      refine s_pure h (ru_val (.bool false) (ru_gtr (h.ev rfl) (h.ev rfl)) (congrArg Value.bool m1)) rfl ?_; intro f h
      refine s_pure h (ru_pick_f (h.ev rfl) (h.ev rfl)) rfl ?_; intro f h
      refine s_nil ?_
      refine hK3 _ _ ?_
      refine wpIn_cond_false (h.ev rfl) ?_
      refine wpIn_skip ?_
      refine hK2 _ _ ?_
      refine c_seq fun K4 hK4 => ?_
      refine c_region ?_
      have hm0 := of_decide_eq_false m0
      have hm1 := of_decide_eq_false m1
      obtain ⟨m9, hm9⟩ : ∃ m9 : Nat, many = (m9 : Int) := ⟨many.toNat, by omega⟩
      have hae := aft_near (l := l) (no := no) (show 0 ≤ many by omega) (show many ≤ 16 by omega)
      refine s_pure h (ru_move (h.ev rfl)) rfl ?_; intro f h
      refine s_pure h (ru_move (h.ev rfl)) rfl ?_; intro f h
      refine s_call h s fnc83 (find_any l vh no _ (hR.keep s.ext) hln) rfl rfl ?_; intro f w1 v9 hT hE h s; obtain rfl := hT
      refine s_pure h (ru_move (h.ev rfl)) rfl ?_; intro f h
      refine s_pure h (ru_extract (h.ev rfl) rfl) rfl ?_; intro f h
      refine s_pure h (ru_extract (h.ev rfl) rfl) rfl ?_; intro f h
      refine s_alloc (mbArr zMb) h s zero30 rfl rfl ?_; intro f w1 b8 h s
      refine s_store_row 0 h s row30 rfl rfl rfl (mbArr_size _) (mbArr_size _) (mbArr_ones _) ?_; intro w1 s
      refine s_pure h (ru_assign (h.ev rfl)) rfl ?_; intro f h
      refine s_nil ?_
      refine hK4 _ _ ?_
      refine c_seq fun K5 hK5 => ?_
      refine c_seq fun K6 hK6 => ?_
      refine c_region ?_
      refine s_pure h (ru_move (h.ev rfl)) rfl ?_; intro f h
      refine s_pure h (ru_neq (h.ev rfl) (h.ev rfl)) rfl ?_; intro f h
      refine s_nil ?_
      refine hK6 _ _ ?_
      refine c_cond h rfl (fun hc => ?_) (fun hc => ?_)
      · have h0 : ¬ finE l no = 0 := by simpa using hc
        refine c_seq fun K7 hK7 => ?_
        refine c_region ?_
        refine s_pure h (ru_move (h.ev rfl)) rfl ?_; intro f h
        refine s_pure h (ru_assign (h.ev rfl)) rfl ?_; intro f h
        refine s_pure h (ru_assign (h.ev rfl)) rfl ?_; intro f h
        refine s_nil ?_
        refine hK7 _ _ ?_
        refine wpIn_ret ?_
        refine t_ret ?_
        exact e_tmps rfl h s rfl rfl (two_out (aft_not (fun h9 => h0 (hae ▸ h9))) hae (owns_nil _ _ _ _))
      · have h0 : finE l no = 0 := by simpa using hc
        obtain ⟨hr, hg, hf, hm, hno⟩ := fin_ok h0
        refine wpIn_skip ?_
        refine hK5 _ _ ?_
        refine c_seq fun K8 hK8 => ?_
        refine c_region ?_
        refine s_pure h (ru_field fld30_1 (h.ev rfl)) rfl ?_; intro f h
        refine s_load_at (Has.subL (Has.of_own s 0 rfl) 1 32 (D := idArr (_)) (mbArr_id _)) h row26 rfl (by first | exact idArr_size _ | exact bytesF_size _ _) rfl ?_; intro f h
        refine s_pure h (ru_move (h.ev rfl)) rfl ?_; intro f h
        refine s_call h s fnc85 (rgrnd_any (finM l no).2 l vh _ (hR.keep s.ext) hln hg) rfl rfl ?_; intro f w1 vr hT hE h sq; replace s := s.sl_new hE (hT.seq (rnd_len (finM l no).2 l).symm rfl)
        refine s_pure h (ru_assign (h.ev rfl)) rfl ?_; intro f h
        refine s_nil ?_
        refine hK8 _ _ ?_
        refine c_seq fun K9 hK9 => ?_
        refine c_region ?_
        refine s_pure h (ru_move (h.ev rfl)) rfl ?_; intro f h
        refine s_make_sl (n := m9) (xs := mbCells (setL l (finM l no) m9 0)) h s Try.underlying40 elm30 zero30 rfl rfl (hm9) (by omega) (by unfold maxLen; omega) ((made_mb _).trans (by rw [setL_zero])) (by rw [mbCells_len, setL_len _ _ (Nat.zero_le _)]) rfl ?_; intro f w1 v33 h s
        refine s_pure h (ru_assign (h.ev rfl)) rfl ?_; intro f h
        refine s_nil ?_
        refine hK9 _ _ ?_
        refine c_seq fun K10 hK10 => ?_
        refine c_seq fun K11 hK11 => ?_
        refine c_region ?_
        refine s_pure h (ru_move (h.ev rfl)) rfl ?_; intro f h
        refine s_len_sl 0 h s Try.underlying40 rfl rfl rfl ?_; intro f h
        refine s_pure h (ru_move (h.ev rfl)) rfl ?_; intro f h
        refine s_nil ?_
        refine hK11 _ _ ?_
        refine wpIn_block ?_
        refine wpIn_loop_ghost (fun nn aa ww => ∃ k : Nat, Sl 52 aa [(0, vh), (1, .int .i64 no), (2, .int .i64 many), (8, .pointer (some ⟨b8, 0, none⟩)), (31, vr), (33, v33), (10, vr), (11, v33), (34, v33), (35, .int .i64 (m9 : Int)), (36, .int .i64 (k : Int))] ∧ St w [.sl v33 30 33 m9 (mbCells (setL l (finM l no) m9 k)), .sl vr 30 33 (rndL (finM l no).2 l).length (mbCells (rndL (finM l no).2 l)), .blk b8 (.cells (mbArr (finM l no)) 30)] ww ∧ nn = m9 - k ∧ k ≤ m9) (m9 - (0)) ⟨0, h.only ⟨rfl, rfl, rfl, rfl, rfl, rfl, rfl, rfl, rfl, rfl, rfl, trivial⟩, s.as ⟨rfl, rfl, rfl, trivial⟩, rfl, Nat.zero_le _⟩ ?_
        rintro _ f w1 ⟨k, h, s, hnn, hp0⟩
        refine c_seq fun K12 hK12 => ?_
        refine c_region ?_
        refine s_pure h (ru_lss (h.ev rfl) (h.ev rfl)) rfl ?_; intro f h
        refine s_nil ?_
        refine hK12 _ _ ?_
        refine c_seq fun K13 hK13 => ?_
        refine c_cond h rfl (fun hc => ?_) (fun hc => ?_)
        · replace hc := of_decide_eq_true hc
          refine wpIn_skip ?_
          refine hK13 _ _ ?_
          refine c_seq fun K14 hK14 => ?_
          refine wpIn_block ?_
          refine c_seq fun K15 hK15 => ?_
          refine c_region ?_
          refine s_pure h (ru_move (h.ev rfl)) rfl ?_; intro f h
          refine s_pure h (ru_assign (h.ev rfl)) rfl ?_; intro f h
          refine s_nil ?_
          refine hK15 _ _ ?_
          refine c_region ?_
          refine s_pure h (ru_move (h.ev rfl)) rfl ?_; intro f h
          refine s_pure h (ru_move (h.ev rfl)) rfl ?_; intro f h
          refine s_pure h (ru_move (h.ev rfl)) rfl ?_; intro f h
          refine s_pure h (ru_move (h.ev rfl)) rfl ?_; intro f h
          have hkl : k < m9 := by omega
          have hpos := mem_pos hm
          have hml := Nat.mod_lt (k + 1) hpos
          have hrl := rnd_len (finM l no).2 l
          refine s_pure h (ru_val (.int .i64 ((k + 1 : Nat) : Int)) (ru_add (h.ev rfl) (h.ev rfl) (by omega)) (congrArg (Value.int .i64) (by omega))) rfl ?_; intro f h
          refine s_pure h (ru_move (h.ev rfl)) rfl ?_; intro f h
          refine s_len_sl 1 h s Try.underlying40 rfl rfl rfl ?_; intro f h
          refine s_pure h (ru_val (.int .i64 (((k + 1) % l.length : Nat) : Int)) (ru_rem (h.ev rfl) (h.ev rfl) (by omega)) (congrArg (Value.int .i64) (by rw [rnd_len]; exact (Int.natCast_emod _ _).symm))) rfl ?_; intro f h
          refine s_pure h (ru_ixz (RdZ.of_own (s.getSl 1 rfl)) ((k + 1) % l.length) Try.underlying40 szo30 (h.ev rfl) (h.ev rfl) (rfl) (by omega)) rfl ?_; intro f h
          refine s_load_at ((RdZ.of_own (s.getSl 1 rfl)).el ((k + 1) % l.length) (by omega) (by decide) (D := mbArr (nxtK l (finM l no) (k + 1))) ((mb_elD _ _ (by omega)).trans (by rw [rnd_iter hg hm]))) h row30 rfl (mbArr_size _) rfl ?_; intro f h
          refine s_pure h (ru_ixz (RdZ.of_own (s.getSl 0 rfl)) (k) Try.underlying40 szo30 (h.ev rfl) (h.ev rfl) (rfl) (by omega)) rfl ?_; intro f h
          refine s_store_el 0 (k) h s row30 rfl rfl rfl (mbArr_size _) (by omega) (mbArr_ones _) ((mb_set (l := (setL l (finM l no) m9 k)) _ (by rw [setL_len _ _ (by omega)]; exact hkl)).trans (by rw [setL_next _ _ hkl])) ?_; intro w1 s
          refine s_nil ?_
          refine b_norm ?_
          refine hK14 _ _ ?_
          refine c_region ?_
          refine s_pure h (ru_add (h.ev rfl) (h.ev rfl) (by omega)) rfl ?_; intro f h
          refine s_pure h (ru_move (h.ev rfl)) rfl ?_; intro f h
          refine s_nil ?_
          refine t_norm ?_
          exact ⟨_, by omega, ⟨k + 1, h.only ⟨rfl, rfl, rfl, rfl, rfl, rfl, rfl, rfl, rfl, rfl, slot_int rfl (by omega), trivial⟩, St.as s ⟨rfl, rfl, rfl, trivial⟩, rfl, by omega⟩⟩
        · replace hc := of_decide_eq_false hc
          refine wpIn_exit ?_
          refine t_exit ?_
          refine t_exit ?_
          refine b_exit ?_
          refine hK10 _ _ ?_
          refine c_seq fun K16 hK16 => ?_
          refine c_region ?_
          refine s_pure h (ru_move (h.ev rfl)) rfl ?_; intro f h
          refine s_pure h (ru_assign (h.ev rfl)) rfl ?_; intro f h
          refine s_pure h (ru_assign (h.ev rfl)) rfl ?_; intro f h
          refine s_nil ?_
          refine hK16 _ _ ?_
          refine wpIn_ret ?_
          exact e_tmps rfl h s rfl rfl (two_out (aftL_ok hm9 hae h0) (hae.trans h0) (by obtain rfl : k = m9 := (by omega); rw [← setL_end, setL_len _ _ (Nat.le_refl _)]; exact (s.getSl 0 rfl)))
    · skip
      refine c_region ?_
      refine s_pure h (ru_move (h.ev rfl)) rfl ?_; intro f h
      refine s_pure h (ru_val (.bool false) (ru_lss (h.ev rfl) (h.ev rfl)) (congrArg Value.bool m0)) rfl ?_; intro f h
      refine s_pure h (ru_move (h.ev rfl)) rfl ?_; intro f h
      refine s_on h rfl rfl rfl ?_
      refine s_pure h (ru_move (h.ev rfl)) rfl ?_; intro f h
      refine s_on h rfl rfl rfl ?_
      refine s_pure h (ru_val (.bool true) (ru_gtr (h.ev rfl) (h.ev rfl)) (congrArg Value.bool m1)) rfl ?_; intro f h
      refine s_pure h (ru_pick_f (h.ev rfl) (h.ev rfl)) rfl ?_; intro f h
      refine s_nil ?_
      refine hK3 _ _ ?_
      refine wpIn_cond_true (h.ev rfl) ?_
      refine c_seq fun K17 hK17 => ?_
      refine c_region ?_
      refine s_pure h (ru_assign (h.ev rfl)) rfl ?_; intro f h
      refine s_pure h (ru_assign (h.ev rfl)) rfl ?_; intro f h
      refine s_nil ?_
      refine hK17 _ _ ?_
      refine wpIn_ret ?_
      refine t_ret ?_
      exact e_tmps rfl h s rfl rfl (two_out (aft_far (.inr (of_decide_eq_true m1))).2 (aft_far (.inr (of_decide_eq_true m1))).1 (owns_nil _ _ _ _))
  · skip
    refine c_region ?_
    refine s_pure h (ru_move (h.ev rfl)) rfl ?_; intro f h
    refine s_pure h (ru_val (.bool true) (ru_lss (h.ev rfl) (h.ev rfl)) (congrArg Value.bool m0)) rfl ?_; intro f h
    refine s_pure h (ru_move (h.ev rfl)) rfl ?_; intro f h
    refine s_off (b := false) h rfl rfl rfl rfl ?_; intro f h
    refine s_off (b := false) h rfl rfl rfl rfl ?_; intro f h
    refine s_pure h (ru_pick_t (h.ev rfl) (h.ev rfl)) rfl ?_; intro f h
    refine s_nil ?_
    refine hK3 _ _ ?_
    refine wpIn_cond_true (h.ev rfl) ?_
    refine c_seq fun K18 hK18 => ?_
    refine c_region ?_
    refine s_pure h (ru_assign (h.ev rfl)) rfl ?_; intro f h
    refine s_pure h (ru_assign (h.ev rfl)) rfl ?_; intro f h
    refine s_nil ?_
    refine hK18 _ _ ?_
    refine wpIn_ret ?_
    refine t_ret ?_
    exact e_tmps rfl h s rfl rfl (two_out (aft_far (.inl (of_decide_eq_true m0))).2 (aft_far (.inl (of_decide_eq_true m0))).1 (owns_nil _ _ _ _))

theorem nb_any (l : List Mb) (vh : Value) (m : Mb) (w : World) (hR : RdZ w vh 33 l.length (mbCells l)) (hln : l.length ≤ 1000) (hg : Rg l) (hm : m ∈ l) : Calls Try.prog 30 [vh, .agg (mbArr m)].toArray w (Ret w (NbP w 30 l m)) := by
  refine c_enter Try.func30 rfl Try.ntmps30 rfl [(0, vh), (1, .agg (mbArr m))] (by simp) fun f h => ?_
  have s := St.start w
  refine c_seq fun K1 hK1 => ?_
  refine c_region ?_
  refine s_box ((mbArr m)) h s rfl rfl rfl ?_; intro f w1 b3 h s
  refine s_alloc (mbArr zMb) h s zero30 rfl rfl ?_; intro f w1 b4 h s
  refine s_pure h (ru_assign (h.ev rfl)) rfl ?_; intro f h
  refine s_nil ?_
  refine hK1 _ _ ?_
  refine c_seq fun K2 hK2 => ?_
  refine c_region ?_
  refine s_pure h (ru_move (h.ev rfl)) rfl ?_; intro f h
  refine s_pure h (ru_lenZ (hR.keep s.ext) Try.underlying40 (h.ev rfl)) rfl ?_; intro f h
  refine s_pure h (ru_sub (h.ev rfl) (h.ev rfl) (by omega)) rfl ?_; intro f h
  refine s_pure h (ru_assign (h.ev rfl)) rfl ?_; intro f h
  refine s_nil ?_
  refine hK2 _ _ ?_
  refine c_seq fun K3 hK3 => ?_
  refine c_seq fun K4 hK4 => ?_
  refine c_region ?_
  refine s_pure h (ru_move (h.ev rfl)) rfl ?_; intro f h
  refine s_pure h (ru_eql (h.ev rfl) (h.ev rfl)) rfl ?_; intro f h
  refine s_nil ?_
  refine hK4 _ _ ?_
  refine c_cond h rfl (fun hc => ?_) (fun hc => ?_)
  · have h1 : l.length = 1 := by have := of_decide_eq_true hc; omega
    refine c_seq fun K5 hK5 => ?_
    refine c_regC 1 [[], [], [1], [0], [0, 1, 2, 3]] [[], [], [], [5], []] [fun _ => [], fun _ => [], fun v => [.sl (v 2) 30 33 [m].length (mbCells [m])], fun v => [.blk b4 (.cells (mbArr nMb) 30)], fun _ => []] [[.blk b4 (.cells (mbArr zMb) 30)]] [fun v => v 0 = .agg (mbArr nMb), fun v => v 1 = .agg (mbArr m), fun _ => True, fun _ => True, fun v => v 4 = (v 2)] [.blk b3 (.cells ((mbArr m)) 30)] h s rfl (by kernel_rfl) (by kernel_rfl) (by kernel_rfl) (And.intro ?_ (And.intro ?_ (And.intro ?_ (And.intro ?_ (And.intro ?_ (trivial)))))) [0, 1, 2, 3, 4] (by kernel_rfl) ?_
    · intro f9 w2 vl3 E9 hs9 hd9 hl hF s
      have h := fin_slot [] (hs9.trans h.size) (hd9.trans h.defers) (holds_lk trivial)
      replace s : St w (.blk b3 (.cells ((mbArr m)) 30) :: E9) _ := s
      refine s_call h s fnc56 (cnone_any _) rfl rfl ?_; intro f w1 v9 hT hE h s; obtain rfl := hT
      exact s_nil ⟨_, oc_out 16 rfl (h.holds 16 _ rfl), rfl, s⟩
    · intro f9 w2 vl3 E9 hs9 hd9 hl hF s
      have e3 : f9.tmps.getD 3 undef = _ := oc_old hl 3 (by kernel_rfl) (by kernel_rfl) (h.holds 3 _ rfl)
      have h := fin_slot [(3, _)] (hs9.trans h.size) (hd9.trans h.defers) (holds_lk ⟨e3, trivial⟩)
      replace s : St w (.blk b3 (.cells ((mbArr m)) 30) :: E9) _ := s
      refine s_load_row 0 h s row30 rfl rfl (mbArr_size _) rfl ?_; intro f h
      exact s_nil ⟨_, oc_out 17 rfl (h.holds 17 _ rfl), rfl, s⟩
    · intro f9 w2 vl3 E9 hs9 hd9 hl hF s
      have e17 : f9.tmps.getD 17 undef = .agg (mbArr m) := (oc_get hl 17 1 (by kernel_rfl) (by kernel_rfl)).trans (hF 1 (by decide))
      have h := fin_slot [(17, .agg (mbArr m))] (hs9.trans h.size) (hd9.trans h.defers) (holds_lk ⟨e17, trivial⟩)
      replace s : St w (.blk b3 (.cells ((mbArr m)) 30) :: E9) _ := s
      refine s_bslice (vs := [.agg (mbArr m)]) [.tmp 17] h s Try.underlying40 elm30 rfl rfl (mb_sz _) rfl rfl rfl ?_; intro f w1 v18 h s
      replace s := s.resl (m := [m].length) (ys := mbCells [m]) 0 rfl rfl (by rw [one_mb, mbCells_one])
      exact s_nil ⟨_, oc_out 18 rfl (h.holds 18 _ rfl), trivial, s⟩
    · intro f9 w2 vl3 E9 hs9 hd9 hl hF s
      have e4 : f9.tmps.getD 4 undef = _ := oc_old hl 4 (by kernel_rfl) (by kernel_rfl) (h.holds 4 _ rfl)
      have e16 : f9.tmps.getD 16 undef = .agg (mbArr nMb) := (oc_get hl 16 0 (by kernel_rfl) (by kernel_rfl)).trans (hF 0 (by decide))
      have h := fin_slot [(4, _), (16, .agg (mbArr nMb))] (hs9.trans h.size) (hd9.trans h.defers) (holds_lk ⟨e4, e16, trivial⟩)
      replace s : St w (.blk b4 (.cells (mbArr zMb) 30) :: .blk b3 (.cells ((mbArr m)) 30) :: E9) _ := s
      refine s_store_row 0 h s row30 rfl rfl rfl (mbArr_size _) (mbArr_size _) (mbArr_ones _) ?_; intro w1 s
      exact s_nil ⟨undef, oc_none rfl, trivial, s⟩
    · intro f9 w2 vl3 E9 hs9 hd9 hl hF s
      have e18 : f9.tmps.getD 18 undef = (vl3 2) := oc_get hl 18 2 (by kernel_rfl) (by kernel_rfl)
      have h := fin_slot [(18, (vl3 2))] (hs9.trans h.size) (hd9.trans h.defers) (holds_lk ⟨e18, trivial⟩)
      replace s : St w (.blk b3 (.cells ((mbArr m)) 30) :: E9) _ := s
      refine s_pure h (ru_assign (h.ev rfl)) rfl ?_; intro f h
      exact s_nil ⟨_, oc_out 5 rfl (h.holds 5 _ rfl), rfl, s⟩
    intro f w1 vl3 hs9 hd9 hv hr hF s
    replace h := oc_sl (ops := _) [(16, .agg (mbArr nMb)), (17, .agg (mbArr m)), (18, (vl3 2)), (5, (vl3 2))] h hs9 hd9 hr ⟨(hv 0 16 rfl).trans (hF 0 (by kernel_rfl)), (hv 1 17 rfl).trans (hF 1 (by kernel_rfl)), hv 2 18 rfl, (hv 4 5 rfl).trans (hF 4 (by kernel_rfl)), trivial⟩ (by kernel_rfl)
    replace s : St w [.sl (vl3 2) 30 33 [m].length (mbCells [m]), .blk b4 (.cells (mbArr nMb) 30), .blk b3 (.cells ((mbArr m)) 30)] _ := s
    refine hK5 _ _ ?_
    refine wpIn_ret ?_
    refine t_ret ?_
    exact e_row_tmp 1 rfl h s row30 rfl rfl (mbArr_size _) rfl (nb_out1 h1 (s.getSl 0 rfl))
  · have h1 : ¬ l.length = 1 := by have := of_decide_eq_false hc; omega
    have hpos := mem_pos hm
    refine wpIn_skip ?_
    refine hK3 _ _ ?_
    refine c_seq fun K6 hK6 => ?_
    refine c_region ?_
    refine s_pure h (ru_move (h.ev rfl)) rfl ?_; intro f h
    refine s_pure h (ru_field fld30_0 (h.ev rfl)) rfl ?_; intro f h
    refine s_load_at1 (cell_of_has (Has.of_own s 1 rfl) 0 (mbArr_no _)) h one3 rfl rfl ?_; intro f h
    refine s_call h s fnc57 (before_any l vh m.1 _ (hR.keep s.ext) hln) rfl rfl ?_; intro f w1 v9 hT hE h s; obtain rfl := hT
    refine s_pure h (ru_move (h.ev rfl)) rfl ?_; intro f h
    refine s_pure h (ru_extract (h.ev rfl) rfl) rfl ?_; intro f h
    refine s_pure h (ru_extract (h.ev rfl) rfl) rfl ?_; intro f h
    refine s_alloc (mbArr zMb) h s zero30 rfl rfl ?_; intro f w1 b7 h s
    refine s_store_row 0 h s row30 rfl rfl rfl (mbArr_size _) (mbArr_size _) (mbArr_ones _) ?_; intro w1 s
    refine s_pure h (ru_assign (h.ev rfl)) rfl ?_; intro f h
    refine s_nil ?_
    refine hK6 _ _ ?_
    refine c_seq fun K7 hK7 => ?_
    refine c_region ?_
    refine s_pure h (ru_move (h.ev rfl)) rfl ?_; intro f h
    refine s_pure h (ru_field fld30_0 (h.ev rfl)) rfl ?_; intro f h
    refine s_load_at1 (cell_of_has (Has.of_own s 2 rfl) 0 (mbArr_no _)) h one3 rfl rfl ?_; intro f h
    refine s_pure h (ru_move (h.ev rfl)) rfl ?_; intro f h
    refine s_pure h (ru_val (.int .i64 ((min (l.length - 1) 4 : Nat) : Int)) (ru_min (h.ev rfl) (h.ev rfl)) (congrArg (Value.int .i64) (by omega))) rfl ?_; intro f h
    have haf := aft_in hg hm (n := min (l.length - 1) 4) (by omega)
    refine s_call h s fnc58 (after_any l vh m.1 ((min (l.length - 1) 4 : Nat) : Int) _ (hR.keep s.ext) hln) rfl rfl ?_; rintro f w1 v9 ⟨va, rfl, hT⟩ hE h sq; rw [haf.2] at hT; replace s := s.sl_new hE hT
    refine s_pure h (ru_move (h.ev rfl)) rfl ?_; intro f h
    refine s_pure h (ru_extract (h.ev rfl) rfl) rfl ?_; intro f h
    refine s_pure h (ru_extract (h.ev rfl) rfl) rfl ?_; intro f h
    refine s_pure h (ru_assign (h.ev rfl)) rfl ?_; intro f h
    refine s_pure h (ru_assign (h.ev rfl)) rfl ?_; intro f h
    refine s_nil ?_
    refine hK7 _ _ ?_
    refine c_seq fun K8 hK8 => ?_
    refine c_region ?_
    refine s_load_row 1 h s row30 rfl rfl (mbArr_size _) rfl ?_; intro f h
    refine s_pure h (ru_move (h.ev rfl)) rfl ?_; intro f h
    refine s_store_row 2 h s row30 rfl rfl rfl (mbArr_size _) (mbArr_size _) (mbArr_ones _) ?_; intro w1 s
    refine s_pure h (ru_assign (h.ev rfl)) rfl ?_; intro f h
    refine s_nil ?_
    refine hK8 _ _ ?_
    refine wpIn_ret ?_
    exact e_row_tmp 2 rfl h s row30 rfl rfl (mbArr_size _) rfl ((by rw [bef_in hg hm]; exact nb_outn h1 (s.getSl 0 rfl)))

theorem cstable_any (L : List N3) (vo : Value) (w : World) (hO : RdO w vo L) (hL : L.length ≤ 40) (hb : RwB L) : Calls Try.prog 12 [.agg #[vo]].toArray w (Ret w (is (.bool (stabO L)))) := by
  have hml : (memL L).length ≤ 1000 := by rw [List.length_map]; omega
  refine c_enterM Try.func12 rfl Try.ntmps12 rfl [(0, .agg #[vo])] (by simp) fun f h => ?_
  have s := St.start w
  refine c_seq fun K1 hK1 => ?_
  refine c_region ?_
  refine s_box (#[vo]) h s rfl rfl rfl ?_; intro f w1 b1 h s
  refine s_alloc (#[.bool false]) h s zero4 rfl rfl ?_; intro f w1 b2 h s
  refine s_nil ?_
  refine hK1 _ _ ?_
  refine c_seq fun K2 hK2 => ?_
  refine c_seq fun K3 hK3 => ?_
  cases r0 : (ovR L : Bool)
  · skip
    refine c_region ?_
    refine s_load_row 1 h s row24 rfl rfl (rfl) rfl ?_; intro f h
    refine s_call h s fnc17 (ret_val (.bool false) (cright_any L vo _ (hO.keep s.ext) hL hb) (congrArg Value.bool r0)) rfl rfl ?_; intro f w1 v9 hT hE h s; obtain rfl := hT
    refine s_pure h (ru_val (.bool true) (ru_not (h.ev rfl)) rfl) rfl ?_; intro f h
    refine s_nil ?_
    refine hK3 _ _ ?_
    refine wpIn_cond_true (h.ev rfl) ?_
    refine c_seq fun K4 hK4 => ?_
    refine c_region ?_
    refine s_store_one 0 h s one4 rfl rfl rfl (by simp) (rfl) ?_; intro w1 s
    refine s_nil ?_
    refine hK4 _ _ ?_
    refine wpIn_ret ?_
    refine t_ret ?_
    exact e_one_M0 0 rfl h s one4 rfl rfl rfl (fun w9 => by show _ = _; rw [so_no r0]; rfl)
  · skip
    refine c_region ?_
    refine s_load_row 1 h s row24 rfl rfl (rfl) rfl ?_; intro f h
    refine s_call h s fnc17 (ret_val (.bool true) (cright_any L vo _ (hO.keep s.ext) hL hb) (congrArg Value.bool r0)) rfl rfl ?_; intro f w1 v9 hT hE h s; obtain rfl := hT
    refine s_pure h (ru_val (.bool false) (ru_not (h.ev rfl)) rfl) rfl ?_; intro f h
    refine s_nil ?_
    refine hK3 _ _ ?_
    refine wpIn_cond_false (h.ev rfl) ?_
    refine wpIn_skip ?_
    refine hK2 _ _ ?_
    refine c_seq fun K5 hK5 => ?_
    refine c_region ?_
    have hrg := (rl_iff r0).rs.ring
    refine s_load_row 1 h s row24 rfl rfl (rfl) rfl ?_; intro f h
    refine s_call h s fnc13 (cmembers_any L vo _ (hO.keep s.ext) hL) rfl rfl ?_; intro f w1 v11 hT hE h sq; replace s := s.sl_new hE hT
    refine s_alloc (#[.slice none 0 0]) h s zero40 rfl rfl ?_; intro f w1 b3 h s
    refine s_store_one 0 h s one40 rfl rfl rfl (by simp) (own_one (s.getSl 1 rfl)) ?_; intro w1 s
    refine s_nil ?_
    refine hK5 _ _ ?_
    refine c_seq fun K6 hK6 => ?_
    refine c_seq fun K7 hK7 => ?_
    refine c_region ?_
    refine s_load_row 3 h s row24 rfl rfl (rfl) rfl ?_; intro f h
    refine s_callS [.agg #[vo]] h fnc29 (nodes_ok vo _ _ _ s) rfl rfl ?_; rintro f w1 r ⟨bn, rfl, s⟩ h
    refine s_nil ?_
    refine hK7 _ _ ?_
    refine wpIn_block ?_
    refine c_rangeE (fun d A9 => A9 = [.blk b3 (.cells #[v11] 40), .sl v11 30 33 (memL L).length (mbCells (memL L)), .blk b2 (.cells #[.bool false] 4), .blk b1 (.cells #[vo] 24)]) [.blk b3 (.cells #[v11] 40), .sl v11 30 33 (memL L).length (mbCells (memL L)), .blk b2 (.cells #[.bool false] 4), .blk b1 (.cells #[vo] 24)] [.blk bn (.cells #[vo] 24)] (L.length) (stQ L) (fun d => [Value.pointer (some (elAddr vo (d * 68)))]) h s rfl fnc55 (List.Perm.refl _) (rfl) (fun _ => rfl) ?_ ?_ ?_ ?_
    · intro lp w2 GG g0 hg0 s2 hY; exact niter_any L.length (by omega) vo _ _ hO.1 lp bn (stQ L) GG g0 w w2 s2 hg0 hY
    · intro lp D9 d9 rc R9 A9 w2 hd9 hq9 hJ9 s
      obtain rfl := hJ9
      have h := Sl.round1 (p := 14) (V := .pointer (some (elAddr vo (d9 * 68)))) h rfl
      have hdl9 := hd9
      refine c_region ?_
      refine s_pure h (ru_assign (h.ev rfl)) rfl ?_; intro f h
      refine s_nil ?_
      refine t_norm ?_
      refine ⟨_, s, fun w3 s => ?_⟩
      refine wpIn_block ?_
      refine c_seq fun K8 hK8 => ?_
      refine c_regC 0 [[], [], [1], [1, 2], [1, 2, 3], [0, 1, 2, 3, 4], [0, 1, 2, 3, 4, 5], [0, 1, 2, 3, 4, 5, 6], [0, 1, 2, 3, 4, 5, 6], [], [0, 1, 2, 3, 4, 5, 6, 7, 9], [0, 1, 2, 3, 4, 5, 6, 7, 8, 9, 10]] [[], [], [], [], [], [], [], [], [], [], [9], []] [fun _ => [], fun _ => [], fun _ => [], fun _ => [], fun _ => [], fun v => [.sl (tup1 (v 5)) 30 33 (nbS (memL L) (L.getD d9 z3).1.me).length (mbCells (nbS (memL L) (L.getD d9 z3).1.me))], fun _ => [], fun _ => [], fun _ => [], fun v => [.blk (pbk (v 9)) (.cells (mbArr zMb) 30)], fun v => [.blk (pbk (v 9)) (.cells (mbArr (nbP (memL L) (L.getD d9 z3).1.me)) 30)], fun _ => []] [] [fun v => v 0 = v11, fun v => v 1 = .pointer (some (elAddr vo (d9 * 68))), fun v => v 2 = .pointer (some (elAddr vo (d9 * 68))), fun v => v 3 = .pointer (some (elAddr vo (d9 * 68 + 0))), fun v => v 4 = .agg (mbArr (L.getD d9 z3).1.me), fun v => v 5 = .tuple #[.agg (mbArr (nbP (memL L) (L.getD d9 z3).1.me)), (tup1 (v 5))], fun v => v 6 = .tuple #[.agg (mbArr (nbP (memL L) (L.getD d9 z3).1.me)), (tup1 (v 5))], fun v => v 7 = .agg (mbArr (nbP (memL L) (L.getD d9 z3).1.me)), fun v => v 8 = (tup1 (v 5)), fun v => ∃ b, v 9 = .pointer (some ⟨b, 0, none⟩), fun _ => True, fun v => v 11 = (tup1 (v 5))] (.blk lp (.loop (rc .busy)) :: .blk D9 (.deferred (some [])) :: .blk b3 (.cells (#[v11]) 40) :: .sl v11 30 33 (memL L).length (mbCells (memL L)) :: .blk b2 (.cells (#[.bool false]) 4) :: .blk b1 (.cells (#[vo]) 24) :: R9) h s rfl (by kernel_rfl) (by kernel_rfl) (by kernel_rfl) (And.intro ?_ (And.intro ?_ (And.intro ?_ (And.intro ?_ (And.intro ?_ (And.intro ?_ (And.intro ?_ (And.intro ?_ (And.intro ?_ (And.intro ?_ (And.intro ?_ (And.intro ?_ (trivial))))))))))))) [0, 1, 2, 3, 4, 5, 6, 7, 8, 10, 11] (by kernel_rfl) ?_
      · intro f9 w2 vl6 E9 hs9 hd9 hl hF s
        have e3 : f9.tmps.getD 3 undef = _ := oc_old hl 3 (by kernel_rfl) (by kernel_rfl) (h.holds 3 _ rfl)
        have h := fin_slot [(3, _)] (hs9.trans h.size) (hd9.trans h.defers) (holds_lk ⟨e3, trivial⟩)
        replace s : St w (.blk lp (.loop (rc .busy)) :: .blk D9 (.deferred (some [])) :: .blk b3 (.cells (#[v11]) 40) :: .sl v11 30 33 (memL L).length (mbCells (memL L)) :: .blk b2 (.cells (#[.bool false]) 4) :: .blk b1 (.cells (#[vo]) 24) :: (R9 ++ E9)) _ := s
        refine s_load_one 2 h s one40 rfl rfl (rfl) rfl ?_; intro f h
        exact s_nil ⟨_, oc_out 16 rfl (h.holds 16 _ rfl), rfl, s⟩
      · intro f9 w2 vl6 E9 hs9 hd9 hl hF s
        have e4 : f9.tmps.getD 4 undef = _ := oc_old hl 4 (by kernel_rfl) (by kernel_rfl) (h.holds 4 _ rfl)
        have h := fin_slot [(4, _)] (hs9.trans h.size) (hd9.trans h.defers) (holds_lk ⟨e4, trivial⟩)
        replace s : St w (.blk lp (.loop (rc .busy)) :: .blk D9 (.deferred (some [])) :: .blk b3 (.cells (#[v11]) 40) :: .sl v11 30 33 (memL L).length (mbCells (memL L)) :: .blk b2 (.cells (#[.bool false]) 4) :: .blk b1 (.cells (#[vo]) 24) :: (R9 ++ E9)) _ := s
        refine s_pure h (ru_move (h.ev rfl)) rfl ?_; intro f h
        exact s_nil ⟨_, oc_out 17 rfl (h.holds 17 _ rfl), rfl, s⟩
      · intro f9 w2 vl6 E9 hs9 hd9 hl hF s
        have e17 : f9.tmps.getD 17 undef = .pointer (some (elAddr vo (d9 * 68))) := (oc_get hl 17 1 (by kernel_rfl) (by kernel_rfl)).trans (hF 1 (by decide))
        have h := fin_slot [(17, .pointer (some (elAddr vo (d9 * 68))))] (hs9.trans h.size) (hd9.trans h.defers) (holds_lk ⟨e17, trivial⟩)
        replace s : St w (.blk lp (.loop (rc .busy)) :: .blk D9 (.deferred (some [])) :: .blk b3 (.cells (#[v11]) 40) :: .sl v11 30 33 (memL L).length (mbCells (memL L)) :: .blk b2 (.cells (#[.bool false]) 4) :: .blk b1 (.cells (#[vo]) 24) :: (R9 ++ E9)) _ := s
        refine s_pure h (ru_nilCheck (h.ev rfl)) rfl ?_; intro f h
        exact s_nil ⟨_, oc_out 18 rfl (h.holds 18 _ rfl), rfl, s⟩
      · intro f9 w2 vl6 E9 hs9 hd9 hl hF s
        have e18 : f9.tmps.getD 18 undef = .pointer (some (elAddr vo (d9 * 68))) := (oc_get hl 18 2 (by kernel_rfl) (by kernel_rfl)).trans (hF 2 (by decide))
        have h := fin_slot [(18, .pointer (some (elAddr vo (d9 * 68))))] (hs9.trans h.size) (hd9.trans h.defers) (holds_lk ⟨e18, trivial⟩)
        replace s : St w (.blk lp (.loop (rc .busy)) :: .blk D9 (.deferred (some [])) :: .blk b3 (.cells (#[v11]) 40) :: .sl v11 30 33 (memL L).length (mbCells (memL L)) :: .blk b2 (.cells (#[.bool false]) 4) :: .blk b1 (.cells (#[vo]) 24) :: (R9 ++ E9)) _ := s
        refine s_pure h (ru_fieldE fld46_0 (h.ev rfl) ((hO.1.keep s.ext).some (by omega))) rfl ?_; intro f h
        exact s_nil ⟨_, oc_out 19 rfl (h.holds 19 _ rfl), rfl, s⟩
      · intro f9 w2 vl6 E9 hs9 hd9 hl hF s
        have e19 : f9.tmps.getD 19 undef = .pointer (some (elAddr vo (d9 * 68 + 0))) := (oc_get hl 19 3 (by kernel_rfl) (by kernel_rfl)).trans (hF 3 (by decide))
        have h := fin_slot [(19, .pointer (some (elAddr vo (d9 * 68 + 0))))] (hs9.trans h.size) (hd9.trans h.defers) (holds_lk ⟨e19, trivial⟩)
        replace s : St w (.blk lp (.loop (rc .busy)) :: .blk D9 (.deferred (some [])) :: .blk b3 (.cells (#[v11]) 40) :: .sl v11 30 33 (memL L).length (mbCells (memL L)) :: .blk b2 (.cells (#[.bool false]) 4) :: .blk b1 (.cells (#[vo]) 24) :: (R9 ++ E9)) _ := s
        refine s_load_at (RdZ.elF (hO.1.keep s.ext) (d9) 0 33 (by omega) (by decide) (C := ndArr (L.getD d9 z3).1.me (L.getD d9 z3).1.pr (L.getD d9 z3).2.1 (L.getD d9 z3).2.2) (n3_el L d9 hdl9) (D := mbArr (L.getD d9 z3).1.me) (ndArr_me _ _ _ _)) h row30 rfl (mbArr_size _) rfl ?_; intro f h
        exact s_nil ⟨_, oc_out 20 rfl (h.holds 20 _ rfl), rfl, s⟩
      · intro f9 w2 vl6 E9 hs9 hd9 hl hF s
        have e16 : f9.tmps.getD 16 undef = v11 := (oc_get hl 16 0 (by kernel_rfl) (by kernel_rfl)).trans (hF 0 (by decide))
        have e20 : f9.tmps.getD 20 undef = .agg (mbArr (L.getD d9 z3).1.me) := (oc_get hl 20 4 (by kernel_rfl) (by kernel_rfl)).trans (hF 4 (by decide))
        have h := fin_slot [(16, v11), (20, .agg (mbArr (L.getD d9 z3).1.me))] (hs9.trans h.size) (hd9.trans h.defers) (holds_lk ⟨e16, e20, trivial⟩)
        replace s : St w (.blk lp (.loop (rc .busy)) :: .blk D9 (.deferred (some [])) :: .blk b3 (.cells (#[v11]) 40) :: .sl v11 30 33 (memL L).length (mbCells (memL L)) :: .blk b2 (.cells (#[.bool false]) 4) :: .blk b1 (.cells (#[vo]) 24) :: (R9 ++ E9)) _ := s
        refine s_call h s fnc30 (nb_any (memL L) v11 (L.getD d9 z3).1.me _ (RdZ.of_own (s.getSl 3 rfl)) hml hrg (List.mem_map.2 ⟨_, n3_mem hdl9, rfl⟩)) rfl rfl ?_; rintro f w1 v21 ⟨u9, hv9, hO9⟩ hE h sq; replace s := s.sl_new hE hO9
        have h1v : u9 = tup1 v21 := by rw [hv9]; rfl
        clear hO9
        subst h1v
        exact s_nil ⟨_, oc_out 21 rfl (h.holds 21 _ rfl), hv9, s⟩
      · intro f9 w2 vl6 E9 hs9 hd9 hl hF s
        have e21 : f9.tmps.getD 21 undef = .tuple #[.agg (mbArr (nbP (memL L) (L.getD d9 z3).1.me)), (tup1 (vl6 5))] := (oc_get hl 21 5 (by kernel_rfl) (by kernel_rfl)).trans (hF 5 (by decide))
        have h := fin_slot [(21, .tuple #[.agg (mbArr (nbP (memL L) (L.getD d9 z3).1.me)), (tup1 (vl6 5))])] (hs9.trans h.size) (hd9.trans h.defers) (holds_lk ⟨e21, trivial⟩)
        replace s : St w (.blk lp (.loop (rc .busy)) :: .blk D9 (.deferred (some [])) :: .blk b3 (.cells (#[v11]) 40) :: .sl v11 30 33 (memL L).length (mbCells (memL L)) :: .blk b2 (.cells (#[.bool false]) 4) :: .blk b1 (.cells (#[vo]) 24) :: (R9 ++ E9)) _ := s
        refine s_pure h (ru_move (h.ev rfl)) rfl ?_; intro f h
        exact s_nil ⟨_, oc_out 15 rfl (h.holds 15 _ rfl), rfl, s⟩
      · intro f9 w2 vl6 E9 hs9 hd9 hl hF s
        have e15 : f9.tmps.getD 15 undef = .tuple #[.agg (mbArr (nbP (memL L) (L.getD d9 z3).1.me)), (tup1 (vl6 5))] := (oc_get hl 15 6 (by kernel_rfl) (by kernel_rfl)).trans (hF 6 (by decide))
        have h := fin_slot [(15, .tuple #[.agg (mbArr (nbP (memL L) (L.getD d9 z3).1.me)), (tup1 (vl6 5))])] (hs9.trans h.size) (hd9.trans h.defers) (holds_lk ⟨e15, trivial⟩)
        replace s : St w (.blk lp (.loop (rc .busy)) :: .blk D9 (.deferred (some [])) :: .blk b3 (.cells (#[v11]) 40) :: .sl v11 30 33 (memL L).length (mbCells (memL L)) :: .blk b2 (.cells (#[.bool false]) 4) :: .blk b1 (.cells (#[vo]) 24) :: (R9 ++ E9)) _ := s
        refine s_pure h (ru_extract (h.ev rfl) rfl) rfl ?_; intro f h
        exact s_nil ⟨_, oc_out 22 rfl (h.holds 22 _ rfl), rfl, s⟩
      · intro f9 w2 vl6 E9 hs9 hd9 hl hF s
        have e15 : f9.tmps.getD 15 undef = .tuple #[.agg (mbArr (nbP (memL L) (L.getD d9 z3).1.me)), (tup1 (vl6 5))] := (oc_get hl 15 6 (by kernel_rfl) (by kernel_rfl)).trans (hF 6 (by decide))
        have h := fin_slot [(15, .tuple #[.agg (mbArr (nbP (memL L) (L.getD d9 z3).1.me)), (tup1 (vl6 5))])] (hs9.trans h.size) (hd9.trans h.defers) (holds_lk ⟨e15, trivial⟩)
        replace s : St w (.blk lp (.loop (rc .busy)) :: .blk D9 (.deferred (some [])) :: .blk b3 (.cells (#[v11]) 40) :: .sl v11 30 33 (memL L).length (mbCells (memL L)) :: .blk b2 (.cells (#[.bool false]) 4) :: .blk b1 (.cells (#[vo]) 24) :: (R9 ++ E9)) _ := s
        refine s_pure h (ru_extract (h.ev rfl) rfl) rfl ?_; intro f h
        exact s_nil ⟨_, oc_out 23 rfl (h.holds 23 _ rfl), rfl, s⟩
      · intro f9 w2 vl6 E9 hs9 hd9 hl hF s
        have h := fin_slot [] (hs9.trans h.size) (hd9.trans h.defers) (holds_lk trivial)
        replace s : St w (.blk lp (.loop (rc .busy)) :: .blk D9 (.deferred (some [])) :: .blk b3 (.cells (#[v11]) 40) :: .sl v11 30 33 (memL L).length (mbCells (memL L)) :: .blk b2 (.cells (#[.bool false]) 4) :: .blk b1 (.cells (#[vo]) 24) :: (R9 ++ E9)) _ := s
        refine s_alloc (mbArr zMb) h s zero30 rfl rfl ?_; intro f w1 b5 h s
        exact s_nil ⟨_, oc_out 5 rfl (h.holds 5 _ rfl), ⟨_, rfl⟩, s⟩
      · intro f9 w2 vl6 E9 hs9 hd9 hl hF s
        obtain ⟨b5, hb5⟩ : ∃ b, vl6 9 = .pointer (some ⟨b, 0, none⟩) := hF 9 (by decide)
        have e5 : f9.tmps.getD 5 undef = .pointer (some ⟨b5, 0, none⟩) := (oc_get hl 5 9 (by kernel_rfl) (by kernel_rfl)).trans hb5
        have e22 : f9.tmps.getD 22 undef = .agg (mbArr (nbP (memL L) (L.getD d9 z3).1.me)) := (oc_get hl 22 7 (by kernel_rfl) (by kernel_rfl)).trans (hF 7 (by decide))
        have h := fin_slot [(5, .pointer (some ⟨b5, 0, none⟩)), (22, .agg (mbArr (nbP (memL L) (L.getD d9 z3).1.me)))] (hs9.trans h.size) (hd9.trans h.defers) (holds_lk ⟨e5, e22, trivial⟩)
        replace s : St w (.blk (pbk (vl6 9)) (.cells (mbArr zMb) 30) :: .blk lp (.loop (rc .busy)) :: .blk D9 (.deferred (some [])) :: .blk b3 (.cells (#[v11]) 40) :: .sl v11 30 33 (memL L).length (mbCells (memL L)) :: .blk b2 (.cells (#[.bool false]) 4) :: .blk b1 (.cells (#[vo]) 24) :: (R9 ++ E9)) _ := s
        rw [hb5] at s
        replace s : St w (.blk b5 (.cells (mbArr zMb) 30) :: .blk lp (.loop (rc .busy)) :: .blk D9 (.deferred (some [])) :: .blk b3 (.cells (#[v11]) 40) :: .sl v11 30 33 (memL L).length (mbCells (memL L)) :: .blk b2 (.cells (#[.bool false]) 4) :: .blk b1 (.cells (#[vo]) 24) :: (R9 ++ E9)) _ := s
        refine s_store_row 0 h s row30 rfl rfl rfl (mbArr_size _) (mbArr_size _) (mbArr_ones _) ?_; intro w1 s
        refine s_nil ⟨undef, oc_none rfl, trivial, ?_⟩
        have z := s
        rw [← show pbk (vl6 9) = b5 from by rw [hb5]; rfl] at z
        exact z
      · intro f9 w2 vl6 E9 hs9 hd9 hl hF s
        have e23 : f9.tmps.getD 23 undef = (tup1 (vl6 5)) := (oc_get hl 23 8 (by kernel_rfl) (by kernel_rfl)).trans (hF 8 (by decide))
        have h := fin_slot [(23, (tup1 (vl6 5)))] (hs9.trans h.size) (hd9.trans h.defers) (holds_lk ⟨e23, trivial⟩)
        replace s : St w (.blk lp (.loop (rc .busy)) :: .blk D9 (.deferred (some [])) :: .blk b3 (.cells (#[v11]) 40) :: .sl v11 30 33 (memL L).length (mbCells (memL L)) :: .blk b2 (.cells (#[.bool false]) 4) :: .blk b1 (.cells (#[vo]) 24) :: (R9 ++ E9)) _ := s
        refine s_pure h (ru_assign (h.ev rfl)) rfl ?_; intro f h
        exact s_nil ⟨_, oc_out 6 rfl (h.holds 6 _ rfl), rfl, s⟩
      intro f w1 vl6 hs9 hd9 hv hr hF s
      obtain ⟨b5, hb5⟩ : ∃ b, vl6 9 = .pointer (some ⟨b, 0, none⟩) := hF 9 (by kernel_rfl)
      replace h := oc_sl (ops := _) [(16, v11), (17, .pointer (some (elAddr vo (d9 * 68)))), (18, .pointer (some (elAddr vo (d9 * 68)))), (19, .pointer (some (elAddr vo (d9 * 68 + 0)))), (20, .agg (mbArr (L.getD d9 z3).1.me)), (21, .tuple #[.agg (mbArr (nbP (memL L) (L.getD d9 z3).1.me)), (tup1 (vl6 5))]), (15, .tuple #[.agg (mbArr (nbP (memL L) (L.getD d9 z3).1.me)), (tup1 (vl6 5))]), (22, .agg (mbArr (nbP (memL L) (L.getD d9 z3).1.me))), (23, (tup1 (vl6 5))), (5, .pointer (some ⟨b5, 0, none⟩)), (6, (tup1 (vl6 5)))] h hs9 hd9 hr ⟨(hv 0 16 rfl).trans (hF 0 (by kernel_rfl)), (hv 1 17 rfl).trans (hF 1 (by kernel_rfl)), (hv 2 18 rfl).trans (hF 2 (by kernel_rfl)), (hv 3 19 rfl).trans (hF 3 (by kernel_rfl)), (hv 4 20 rfl).trans (hF 4 (by kernel_rfl)), (hv 5 21 rfl).trans (hF 5 (by kernel_rfl)), (hv 6 15 rfl).trans (hF 6 (by kernel_rfl)), (hv 7 22 rfl).trans (hF 7 (by kernel_rfl)), (hv 8 23 rfl).trans (hF 8 (by kernel_rfl)), (hv 9 5 rfl).trans hb5, (hv 11 6 rfl).trans (hF 11 (by kernel_rfl)), trivial⟩ (by kernel_rfl)
      replace s : St w (.sl (tup1 (vl6 5)) 30 33 (nbS (memL L) (L.getD d9 z3).1.me).length (mbCells (nbS (memL L) (L.getD d9 z3).1.me)) :: .blk (pbk (vl6 9)) (.cells (mbArr (nbP (memL L) (L.getD d9 z3).1.me)) 30) :: .blk lp (.loop (rc .busy)) :: .blk D9 (.deferred (some [])) :: .blk b3 (.cells (#[v11]) 40) :: .sl v11 30 33 (memL L).length (mbCells (memL L)) :: .blk b2 (.cells (#[.bool false]) 4) :: .blk b1 (.cells (#[vo]) 24) :: R9) _ := s
      rw [hb5] at s
      replace s : St w (.sl (tup1 (vl6 5)) 30 33 (nbS (memL L) (L.getD d9 z3).1.me).length (mbCells (nbS (memL L) (L.getD d9 z3).1.me)) :: .blk b5 (.cells (mbArr (nbP (memL L) (L.getD d9 z3).1.me)) 30) :: .blk lp (.loop (rc .busy)) :: .blk D9 (.deferred (some [])) :: .blk b3 (.cells (#[v11]) 40) :: .sl v11 30 33 (memL L).length (mbCells (memL L)) :: .blk b2 (.cells (#[.bool false]) 4) :: .blk b1 (.cells (#[vo]) 24) :: R9) _ := s
      refine hK8 _ _ ?_
      refine c_seq fun K9 hK9 => ?_
      cases q0 : (decide ((L.getD d9 z3).1.pr = (nbP (memL L) (L.getD d9 z3).1.me)) : Bool)
      · skip
        refine c_walkN 15 [[], [0], [0, 1], [0, 1, 2], [], [0, 1, 2, 3, 4], [0, 1, 2, 3, 4, 5], [0, 1, 2, 3, 4, 5, 6], [0, 1, 2, 3, 4, 5, 6, 7], [0, 1, 2, 3, 4, 5, 6, 7, 8], [0, 1, 2, 3, 4, 5, 6, 7, 8, 9], [0, 1, 2, 3, 4, 5, 6], [0, 1, 2, 3, 4, 5, 6, 7, 8, 9, 10, 11], [0, 1, 2, 3, 4, 5, 6, 7, 8, 9, 10, 11, 12], [0, 1, 2, 3, 4, 5, 6, 7, 8, 9, 10, 11, 12, 13]] h (by kernel_rfl) (by kernel_rfl) (by kernel_rfl) ?_
        have hx9 := hb.each _ (n3_mem hdl9)
        refine w_pure h (ru_move (h.ev rfl)) rfl ?_; intro f h
        refine w_pure h (ru_nilCheck (h.ev rfl)) rfl ?_; intro f h
        refine w_pure h (ru_fieldE fld46_1 (h.ev rfl) ((hO.1.keep s.ext).some (by omega))) rfl ?_; intro f h
        refine w_load_at (RdZ.elF (hO.1.keep s.ext) (d9) 33 33 (by omega) (by decide) (C := ndArr (L.getD d9 z3).1.me (L.getD d9 z3).1.pr (L.getD d9 z3).2.1 (L.getD d9 z3).2.2) (n3_el L d9 hdl9) (D := mbArr (L.getD d9 z3).1.pr) (ndArr_pr _ _ _ _)) h row30 rfl (mbArr_size _) rfl ?_; intro f h
        refine w_load_row 1 h s row30 rfl rfl (mbArr_size _) rfl ?_; intro f h
        refine w_pure h (ru_val (.bool true) (ru_neqW (eqM _ _) (by kernel_rfl) (by decide) (h.ev rfl) (h.ev rfl) (decide ((L.getD d9 z3).1.pr = (nbP (memL L) (L.getD d9 z3).1.me))) (mbEq _ _)) (by rw [q0]; rfl)) rfl ?_; intro f h
        refine w_pure h (ru_move (h.ev rfl)) rfl ?_; intro f h
        refine w_off (b := false) h rfl rfl rfl rfl ?_; intro f h
        refine w_off (b := false) h rfl rfl rfl rfl ?_; intro f h
        refine w_off (b := false) h rfl rfl rfl rfl ?_; intro f h
        refine w_off (b := false) h rfl rfl rfl rfl ?_; intro f h
        refine w_off (b := false) h rfl rfl rfl rfl ?_; intro f h
        refine w_off (b := false) h rfl rfl rfl rfl ?_; intro f h
        refine w_off (b := false) h rfl rfl rfl rfl ?_; intro f h
        refine w_pure h (ru_pick_t (h.ev rfl) (h.ev rfl)) rfl ?_; intro f h
        refine w_nil s fun w1 s => ?_
        refine s_nil ?_
        refine hK9 _ _ ?_
        refine wpIn_cond_true (h.ev rfl) ?_
        refine c_seq fun K10 hK10 => ?_
        refine c_region ?_
        refine s_store_one 6 h s one4 rfl rfl rfl (by simp) (rfl) ?_; intro w1 s
        refine s_nil ?_
        refine hK10 _ _ ?_
        refine wpIn_ret ?_
        refine b_ret ?_
        refine ⟨(st_q0 q0), _, rfl, s.pick _ ?_⟩
        exact List.Sublist.cons _ (List.Sublist.cons _ (List.Sublist.cons_cons _ (List.Sublist.refl _)))
      · skip
        cases q1 : (decide ((L.getD d9 z3).1.sc = (nbS (memL L) (L.getD d9 z3).1.me)) : Bool)
        · skip
          refine c_walkN 15 [[], [0], [0, 1], [0, 1, 2], [], [0, 1, 2, 3, 4], [0, 1, 2, 3, 4, 5], [0, 1, 2, 3, 4, 5, 6], [0, 1, 2, 3, 4, 5, 6, 7], [0, 1, 2, 3, 4, 5, 6, 7, 8], [0, 1, 2, 3, 4, 5, 6, 7, 8, 9], [0, 1, 2, 3, 4, 5, 6], [0, 1, 2, 3, 4, 5, 6, 7, 8, 9, 10, 11], [0, 1, 2, 3, 4, 5, 6, 7, 8, 9, 10, 11, 12], [0, 1, 2, 3, 4, 5, 6, 7, 8, 9, 10, 11, 12, 13]] h (by kernel_rfl) (by kernel_rfl) (by kernel_rfl) ?_
          have hx9 := hb.each _ (n3_mem hdl9)
          refine w_pure h (ru_move (h.ev rfl)) rfl ?_; intro f h
          refine w_pure h (ru_nilCheck (h.ev rfl)) rfl ?_; intro f h
          refine w_pure h (ru_fieldE fld46_1 (h.ev rfl) ((hO.1.keep s.ext).some (by omega))) rfl ?_; intro f h
          refine w_load_at (RdZ.elF (hO.1.keep s.ext) (d9) 33 33 (by omega) (by decide) (C := ndArr (L.getD d9 z3).1.me (L.getD d9 z3).1.pr (L.getD d9 z3).2.1 (L.getD d9 z3).2.2) (n3_el L d9 hdl9) (D := mbArr (L.getD d9 z3).1.pr) (ndArr_pr _ _ _ _)) h row30 rfl (mbArr_size _) rfl ?_; intro f h
          refine w_load_row 1 h s row30 rfl rfl (mbArr_size _) rfl ?_; intro f h
          refine w_pure h (ru_val (.bool false) (ru_neqW (eqM _ _) (by kernel_rfl) (by decide) (h.ev rfl) (h.ev rfl) (decide ((L.getD d9 z3).1.pr = (nbP (memL L) (L.getD d9 z3).1.me))) (mbEq _ _)) (by rw [q0]; rfl)) rfl ?_; intro f h
          refine w_pure h (ru_move (h.ev rfl)) rfl ?_; intro f h
          refine w_on h rfl rfl rfl ?_
          refine w_pure h (ru_move (h.ev rfl)) rfl ?_; intro f h
          refine w_on h rfl rfl rfl ?_
          refine w_pure h (ru_nilCheck (h.ev rfl)) rfl ?_; intro f h
          refine w_on h rfl rfl rfl ?_
          refine w_pure h (ru_fieldE fld46_2 (h.ev rfl) ((hO.1.keep s.ext).some (by omega))) rfl ?_; intro f h
          refine w_on h rfl rfl rfl ?_
          refine w_load_at1 (V := (L.getD d9 z3).2.1) (rdz_at (hO.1.keep s.ext) (d9 * 68 + 66) (n3_v66 L d9 hdl9)) h one40 rfl rfl ?_; intro f h
          refine w_on h rfl rfl rfl ?_
          refine w_pure h (ru_move (h.ev rfl)) rfl ?_; intro f h
          refine w_on h rfl rfl rfl ?_
          refine w_call h fnc31 (fun w9 hE9 => ret_val (.bool false) (equal_any (L.getD d9 z3).1.sc (nbS (memL L) (L.getD d9 z3).1.me) (L.getD d9 z3).2.1 (tup1 (vl6 5)) w9 ((hO.2 _ (n3_mem hdl9)).1.keep (s.ext.trans hE9)) ((RdZ.of_own (s.getSl 0 rfl)).keep hE9) (by omega) (by have := nb_le (memL L) (L.getD d9 z3).1.me; omega)) (congrArg Value.bool q1)) rfl rfl ?_; intro f h
          refine w_on h rfl rfl rfl ?_
          refine w_pure h (ru_val (.bool true) (ru_not (h.ev rfl)) rfl) rfl ?_; intro f h
          refine w_pure h (ru_pick_f (h.ev rfl) (h.ev rfl)) rfl ?_; intro f h
          refine w_nil s fun w1 s => ?_
          refine s_nil ?_
          refine hK9 _ _ ?_
          refine wpIn_cond_true (h.ev rfl) ?_
          refine c_seq fun K11 hK11 => ?_
          refine c_region ?_
          refine s_store_one 6 h s one4 rfl rfl rfl (by simp) (rfl) ?_; intro w1 s
          refine s_nil ?_
          refine hK11 _ _ ?_
          refine wpIn_ret ?_
          refine b_ret ?_
          refine ⟨((st_q1 q0).trans (by rw [q1]; rfl)), _, rfl, s.pick _ ?_⟩
          exact List.Sublist.cons _ (List.Sublist.cons _ (List.Sublist.cons_cons _ (List.Sublist.refl _)))
        · skip
          refine c_walkN 15 [[], [0], [0, 1], [0, 1, 2], [], [0, 1, 2, 3, 4], [0, 1, 2, 3, 4, 5], [0, 1, 2, 3, 4, 5, 6], [0, 1, 2, 3, 4, 5, 6, 7], [0, 1, 2, 3, 4, 5, 6, 7, 8], [0, 1, 2, 3, 4, 5, 6, 7, 8, 9], [0, 1, 2, 3, 4, 5, 6], [0, 1, 2, 3, 4, 5, 6, 7, 8, 9, 10, 11], [0, 1, 2, 3, 4, 5, 6, 7, 8, 9, 10, 11, 12], [0, 1, 2, 3, 4, 5, 6, 7, 8, 9, 10, 11, 12, 13]] h (by kernel_rfl) (by kernel_rfl) (by kernel_rfl) ?_
          have hx9 := hb.each _ (n3_mem hdl9)
          refine w_pure h (ru_move (h.ev rfl)) rfl ?_; intro f h
          refine w_pure h (ru_nilCheck (h.ev rfl)) rfl ?_; intro f h
          refine w_pure h (ru_fieldE fld46_1 (h.ev rfl) ((hO.1.keep s.ext).some (by omega))) rfl ?_; intro f h
          refine w_load_at (RdZ.elF (hO.1.keep s.ext) (d9) 33 33 (by omega) (by decide) (C := ndArr (L.getD d9 z3).1.me (L.getD d9 z3).1.pr (L.getD d9 z3).2.1 (L.getD d9 z3).2.2) (n3_el L d9 hdl9) (D := mbArr (L.getD d9 z3).1.pr) (ndArr_pr _ _ _ _)) h row30 rfl (mbArr_size _) rfl ?_; intro f h
          refine w_load_row 1 h s row30 rfl rfl (mbArr_size _) rfl ?_; intro f h
          refine w_pure h (ru_val (.bool false) (ru_neqW (eqM _ _) (by kernel_rfl) (by decide) (h.ev rfl) (h.ev rfl) (decide ((L.getD d9 z3).1.pr = (nbP (memL L) (L.getD d9 z3).1.me))) (mbEq _ _)) (by rw [q0]; rfl)) rfl ?_; intro f h
          refine w_pure h (ru_move (h.ev rfl)) rfl ?_; intro f h
          refine w_on h rfl rfl rfl ?_
          refine w_pure h (ru_move (h.ev rfl)) rfl ?_; intro f h
          refine w_on h rfl rfl rfl ?_
          refine w_pure h (ru_nilCheck (h.ev rfl)) rfl ?_; intro f h
          refine w_on h rfl rfl rfl ?_
          refine w_pure h (ru_fieldE fld46_2 (h.ev rfl) ((hO.1.keep s.ext).some (by omega))) rfl ?_; intro f h
          refine w_on h rfl rfl rfl ?_
          refine w_load_at1 (V := (L.getD d9 z3).2.1) (rdz_at (hO.1.keep s.ext) (d9 * 68 + 66) (n3_v66 L d9 hdl9)) h one40 rfl rfl ?_; intro f h
          refine w_on h rfl rfl rfl ?_
          refine w_pure h (ru_move (h.ev rfl)) rfl ?_; intro f h
          refine w_on h rfl rfl rfl ?_
          refine w_call h fnc31 (fun w9 hE9 => ret_val (.bool true) (equal_any (L.getD d9 z3).1.sc (nbS (memL L) (L.getD d9 z3).1.me) (L.getD d9 z3).2.1 (tup1 (vl6 5)) w9 ((hO.2 _ (n3_mem hdl9)).1.keep (s.ext.trans hE9)) ((RdZ.of_own (s.getSl 0 rfl)).keep hE9) (by omega) (by have := nb_le (memL L) (L.getD d9 z3).1.me; omega)) (congrArg Value.bool q1)) rfl rfl ?_; intro f h
          refine w_on h rfl rfl rfl ?_
          refine w_pure h (ru_val (.bool false) (ru_not (h.ev rfl)) rfl) rfl ?_; intro f h
          refine w_pure h (ru_pick_f (h.ev rfl) (h.ev rfl)) rfl ?_; intro f h
          refine w_nil s fun w1 s => ?_
          refine s_nil ?_
          refine hK9 _ _ ?_
          refine wpIn_cond_false (h.ev rfl) ?_
          refine wpIn_skip ?_
          refine b_norm ?_
          refine ⟨((st_q1 q0).trans (by rw [q1]; rfl)), _, rfl, s.pick _ ?_⟩
          exact List.Sublist.cons _ (List.Sublist.cons _ (List.Sublist.cons_cons _ (List.Sublist.refl _)))
    · intro D9 A9 w2 hJ9 hq9 s
      obtain rfl := hJ9
      replace h : Sl _ { f with defers := { target := .collected D9, args := #[] } :: f.defers } _ [{ target := .collected D9, args := #[] }] := ⟨h.size, by rw [h.defers], h.holds⟩
      refine b_norm ?_
      refine hK6 _ _ ?_
      refine c_seq fun K12 hK12 => ?_
      refine c_region ?_
      refine s_store_one 4 h s one4 rfl rfl rfl (by simp) (rfl) ?_; intro w1 s
      refine s_nil ?_
      refine hK12 _ _ ?_
      refine wpIn_ret ?_
      exact e_one_M 4 0 rfl h s one4 rfl rfl rfl rfl rfl (fun w9 => (congrArg Value.bool (sa_done r0 hq9)).symm)
    · intro D9 d9 A9 w2 hd9 hqd9 hq9 hJ9 s
      obtain rfl := hJ9
      replace h : Sl _ { f with defers := { target := .collected D9, args := #[] } :: f.defers } _ [{ target := .collected D9, args := #[] }] := ⟨h.size, by rw [h.defers], h.holds⟩
      refine b_ret ?_
      refine t_ret ?_
      exact e_one_M 4 0 rfl h s one4 rfl rfl rfl rfl rfl (fun w9 => (congrArg Value.bool (sa_left r0 hd9 hqd9)).symm)
end Go.Proofs.Ytndbijifgalpbaa
