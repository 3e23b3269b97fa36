/- What package table puts. -/
import Derived.Test.YtdehanjhphfanaaXt
set_option linter.unusedVariables false
set_option linter.unusedSimpArgs false
set_option linter.unusedSectionVars false
namespace Go.Proofs.Ytdehanjhphfanaa
open Go.RowKit
theorem tbsearch_any (l : List Tg) (vh : Value) (x : Tg) (w : World) (hR : RdZ w vh 67 l.length (tgCells l)) (hln : l.length ≤ 1000) (hs9 : Srt l) : Calls Try.prog 65 [vh, .agg (tgArr x), .func (.func 48) #[] #[]].toArray w (Ret w (fun v _ => ∃ n b, v = .tuple #[.int .i64 ((n : Nat) : Int), .bool b] ∧ FndT l x n b)) := by
  refine c_enter Try.func65 rfl Try.ntmps65 rfl [(0, vh), (1, .agg (tgArr x)), (2, .func (.func 48) #[] #[])] (by simp) fun f h => ?_
  have s := St.start w
  refine c_seq fun K1 hK1 => ?_
  refine c_region ?_
  refine s_box (tgArr x) h s rfl rfl rfl ?_; intro f w1 b4 h s
  refine s_pure h (ru_assign (h.ev rfl)) rfl ?_; intro f h
  refine s_pure h (ru_assign (h.ev rfl)) rfl ?_; intro f h
  refine s_nil ?_
  refine hK1 _ _ ?_
  refine c_seq fun K2 hK2 => ?_
  refine c_region ?_
  refine s_pure h (ru_move (h.ev rfl)) rfl ?_; intro f h
  refine s_pure h (ru_lenZ (hR.keep s.ext) Try.underlying22 (h.ev rfl)) rfl ?_; intro f h
  refine s_pure h (ru_assign (h.ev rfl)) rfl ?_; intro f h
  refine s_nil ?_
  refine hK2 _ _ ?_
  refine c_seq fun K3 hK3 => ?_
  refine c_region ?_
  refine s_pure h (ru_move (h.ev rfl)) rfl ?_; intro f h
  refine s_pure h (ru_assign (h.ev rfl)) rfl ?_; intro f h
  refine s_pure h (ru_assign (h.ev rfl)) rfl ?_; intro f h
  refine s_nil ?_
  refine hK3 _ _ ?_
  refine c_seq fun K4 hK4 => ?_
  refine wpIn_block ?_
  refine wpIn_loop_ghost (fun nn aa ww => ∃ i : Nat, ∃ j : Nat, Sl 49 aa [(1, .agg (tgArr x)), (4, .pointer (some ⟨b4, 0, none⟩)), (0, vh), (2, .func (.func 48) #[] #[]), (8, .int .i64 (l.length : Int)), (9, .int .i64 (i : Int)), (10, .int .i64 (j : Int))] ∧ St w [.blk b4 (.cells (tgArr x) 58)] ww ∧ nn = j - i ∧ i ≤ j ∧ j ≤ l.length ∧ (∀ q, q < i → ltT (l.getD q zTg) x = true) ∧ ∀ q, j ≤ q → q < l.length → ltT (l.getD q zTg) x = false) ((l.length) - (0)) ⟨0, l.length, h.only ⟨rfl, rfl, rfl, rfl, rfl, slot_int rfl (by omega), slot_int rfl (by omega), trivial⟩, s.as ⟨rfl, trivial⟩, rfl, Nat.zero_le _, Nat.le_refl _, fun q hq => absurd hq (Nat.not_lt_zero _), fun q h1 h2 => absurd h2 (by omega)⟩ ?_
  rintro _ f w1 ⟨i, j, h, s, hnn, hp0, hp1, hp2, hp3⟩
  refine c_seq fun K5 hK5 => ?_
  refine c_seq fun K6 hK6 => ?_
  refine c_region ?_
  refine s_pure h (ru_move (h.ev rfl)) rfl ?_; intro f h
  refine s_pure h (ru_move (h.ev rfl)) rfl ?_; intro f h
  refine s_pure h (ru_lss (h.ev rfl) (h.ev rfl)) rfl ?_; intro f h
  refine s_nil ?_
  refine hK6 _ _ ?_
  refine c_cond h rfl (fun hc => ?_) (fun hc => ?_)
  · replace hc := of_decide_eq_true hc
    refine wpIn_skip ?_
    refine hK5 _ _ ?_
    refine wpIn_block ?_
    refine c_seq fun K7 hK7 => ?_
    refine c_region ?_
    refine s_pure h (ru_move (h.ev rfl)) rfl ?_; intro f h
    refine s_pure h (ru_move (h.ev rfl)) rfl ?_; intro f h
    refine s_pure h (ru_add (h.ev rfl) (h.ev rfl) (by omega)) rfl ?_; intro f h
    refine s_pure h (ru_conv_in Try.underlying3 Try.underlying125 (h.ev rfl) (IntWalk.u64_in _ (by omega))) rfl ?_; intro f h
    refine s_pure h (ru_val (.int .u64 ((((i + j) / 2) : Nat) : Int)) (ru_shr (h.ev rfl) (h.ev rfl) (by omega)) (congrArg (Value.int .u64) (mid_shr i j))) rfl ?_; intro f h
    refine s_pure h (ru_conv_in Try.underlying125 Try.underlying3 (h.ev rfl) (IntWalk.i64_in _ (by omega))) rfl ?_; intro f h
    refine s_pure h (ru_assign (h.ev rfl)) rfl ?_; intro f h
    refine s_nil ?_
    refine hK7 _ _ ?_
    refine c_seq fun K8 hK8 => ?_
    cases hq : (ltT (l.getD ((i + j) / 2) zTg) x : Bool)
    · skip
      refine c_walkN 8 [[], [], [], [1, 2], [1, 2, 3], [], [0, 1, 2, 3, 4, 5], [0, 1, 2, 3, 4, 5, 6]] h (by kernel_rfl) (by kernel_rfl) (by kernel_rfl) ?_
      refine w_pure h (ru_move (h.ev rfl)) rfl ?_; intro f h
      refine w_pure h (ru_move (h.ev rfl)) rfl ?_; intro f h
      refine w_pure h (ru_move (h.ev rfl)) rfl ?_; intro f h
      refine w_pure h (ru_ixz (hR.keep s.ext) (((i + j) / 2)) Try.underlying22 szo58 (h.ev rfl) (h.ev rfl) (rfl) (by omega)) rfl ?_; intro f h
      refine w_load_at ((hR.keep s.ext).el (((i + j) / 2)) (by omega) (by decide) (D := tgArr (l.getD ((i + j) / 2) zTg)) (tgr_el l _ (by omega))) h row58 rfl (tgArr_size _) rfl ?_; intro f h
      refine w_load_row 0 h s row58 rfl rfl (tgArr_size _) rfl ?_; intro f h
      refine w_callV [.agg (tgArr (l.getD ((i + j) / 2) zTg)), .agg (tgArr x)] (caps := []) h fnc48 rfl (fun w9 h9 => tcompare_any _ _ w9) rfl rfl ?_; intro f h
      refine w_pure h (ru_val (.bool false) (ru_lss (h.ev rfl) (h.ev rfl)) (congrArg Value.bool ((cmT_neg _ _).trans hq))) rfl ?_; intro f h
      refine w_nil s fun w1 s => ?_
      refine s_nil ?_
      refine hK8 _ _ ?_
      refine wpIn_cond_false (h.ev rfl) ?_
      refine c_region ?_
      refine s_pure h (ru_move (h.ev rfl)) rfl ?_; intro f h
      refine s_pure h (ru_assign (h.ev rfl)) rfl ?_; intro f h
      refine s_nil ?_
      refine b_norm ?_
      refine t_norm ?_
      exact ⟨_, by omega, ⟨i, ((i + j) / 2), h.only ⟨rfl, rfl, rfl, rfl, rfl, slot_int rfl (by omega), slot_int rfl (by omega), trivial⟩, St.as s ⟨rfl, trivial⟩, rfl, by omega, by omega, hp2, bs_hi hs9 hq⟩⟩
    · skip
      refine c_walkN 8 [[], [], [], [1, 2], [1, 2, 3], [], [0, 1, 2, 3, 4, 5], [0, 1, 2, 3, 4, 5, 6]] h (by kernel_rfl) (by kernel_rfl) (by kernel_rfl) ?_
      refine w_pure h (ru_move (h.ev rfl)) rfl ?_; intro f h
      refine w_pure h (ru_move (h.ev rfl)) rfl ?_; intro f h
      refine w_pure h (ru_move (h.ev rfl)) rfl ?_; intro f h
      refine w_pure h (ru_ixz (hR.keep s.ext) (((i + j) / 2)) Try.underlying22 szo58 (h.ev rfl) (h.ev rfl) (rfl) (by omega)) rfl ?_; intro f h
      refine w_load_at ((hR.keep s.ext).el (((i + j) / 2)) (by omega) (by decide) (D := tgArr (l.getD ((i + j) / 2) zTg)) (tgr_el l _ (by omega))) h row58 rfl (tgArr_size _) rfl ?_; intro f h
      refine w_load_row 0 h s row58 rfl rfl (tgArr_size _) rfl ?_; intro f h
      refine w_callV [.agg (tgArr (l.getD ((i + j) / 2) zTg)), .agg (tgArr x)] (caps := []) h fnc48 rfl (fun w9 h9 => tcompare_any _ _ w9) rfl rfl ?_; intro f h
      refine w_pure h (ru_val (.bool true) (ru_lss (h.ev rfl) (h.ev rfl)) (congrArg Value.bool ((cmT_neg _ _).trans hq))) rfl ?_; intro f h
      refine w_nil s fun w1 s => ?_
      refine s_nil ?_
      refine hK8 _ _ ?_
      refine wpIn_cond_true (h.ev rfl) ?_
      refine c_region ?_
      refine s_pure h (ru_move (h.ev rfl)) rfl ?_; intro f h
      refine s_pure h (ru_add (h.ev rfl) (h.ev rfl) (by omega)) rfl ?_; intro f h
      refine s_pure h (ru_assign (h.ev rfl)) rfl ?_; intro f h
      refine s_nil ?_
      refine b_norm ?_
      refine t_norm ?_
      exact ⟨_, by omega, ⟨((i + j) / 2) + 1, j, h.only ⟨rfl, rfl, rfl, rfl, rfl, slot_int rfl (by omega), slot_int rfl (by omega), trivial⟩, St.as s ⟨rfl, trivial⟩, rfl, by omega, hp1, bs_lo hs9 (by omega) hq, hp3⟩⟩
  · replace hc := of_decide_eq_false hc
    refine wpIn_exit ?_
    refine t_exit ?_
    refine t_exit ?_
    refine b_exit ?_
    refine hK4 _ _ ?_
    refine c_seq fun K9 hK9 => ?_
    cases hn : (decide (i < l.length) : Bool)
    · skip
      refine c_walkN 16 [[], [], [], [1, 2], [1, 2, 3], [1, 2, 3, 4], [1, 2, 3, 4], [1, 2, 3, 4], [1, 2, 3, 4, 6, 7], [1, 2, 3, 4, 6, 7, 8], [1, 2, 3, 4], [1, 2, 3, 4, 5, 6, 7, 8, 9, 10], [1, 2, 3, 4, 5, 6, 7, 8, 9, 10, 11], [1, 2, 3, 4, 5, 6, 7, 8, 9, 10, 11, 12], [0, 1, 2, 3, 4, 5, 6, 7, 8, 9, 10, 11], [0, 1, 2, 3, 4, 5, 6, 7, 8, 9, 10, 11, 12, 13, 14]] h (by kernel_rfl) (by kernel_rfl) (by kernel_rfl) ?_
      refine w_pure h (ru_move (h.ev rfl)) rfl ?_; intro f h
      refine w_pure h (ru_move (h.ev rfl)) rfl ?_; intro f h
      refine w_pure h (ru_move (h.ev rfl)) rfl ?_; intro f h
      refine w_pure h (ru_val (.bool false) (ru_lss (h.ev rfl) (h.ev rfl)) (congrArg Value.bool ((decide_eq_decide.2 (by omega)).trans hn))) rfl ?_; intro f h
      refine w_pure h (ru_move (h.ev rfl)) rfl ?_; intro f h
      refine w_off (b := true) h rfl rfl rfl rfl ?_; intro f h
      refine w_off (b := true) h rfl rfl rfl rfl ?_; intro f h
      refine w_off (b := true) h rfl rfl rfl rfl ?_; intro f h
      refine w_off (b := true) h rfl rfl rfl rfl ?_; intro f h
      refine w_off (b := true) h rfl rfl rfl rfl ?_; intro f h
      refine w_off (b := true) h rfl rfl rfl rfl ?_; intro f h
      refine w_off (b := true) h rfl rfl rfl rfl ?_; intro f h
      refine w_off (b := true) h rfl rfl rfl rfl ?_; intro f h
      refine w_pure h (ru_pick_f (h.ev rfl) (h.ev rfl)) rfl ?_; intro f h
      refine w_pure h (ru_assign (h.ev rfl)) rfl ?_; intro f h
      refine w_pure h (ru_assign (h.ev rfl)) rfl ?_; intro f h
      refine w_nil s fun w1 s => ?_
      refine s_nil ?_
      refine hK9 _ _ ?_
      refine wpIn_ret ?_
      exact e_tmps rfl h s rfl rfl (⟨i, _, rfl, ⟨by omega, hp2, fun q h1 h2 => hp3 q (by omega) h2, by rw [hn]; rfl⟩⟩)
    · skip
      cases he : (isT x.1 x.2.1 (l.getD i zTg) : Bool)
      · skip
        refine c_walkN 16 [[], [], [], [1, 2], [1, 2, 3], [1, 2, 3, 4], [1, 2, 3, 4], [1, 2, 3, 4], [1, 2, 3, 4, 6, 7], [1, 2, 3, 4, 6, 7, 8], [1, 2, 3, 4], [1, 2, 3, 4, 5, 6, 7, 8, 9, 10], [1, 2, 3, 4, 5, 6, 7, 8, 9, 10, 11], [1, 2, 3, 4, 5, 6, 7, 8, 9, 10, 11, 12], [0, 1, 2, 3, 4, 5, 6, 7, 8, 9, 10, 11], [0, 1, 2, 3, 4, 5, 6, 7, 8, 9, 10, 11, 12, 13, 14]] h (by kernel_rfl) (by kernel_rfl) (by kernel_rfl) ?_
        refine w_pure h (ru_move (h.ev rfl)) rfl ?_; intro f h
        refine w_pure h (ru_move (h.ev rfl)) rfl ?_; intro f h
        refine w_pure h (ru_move (h.ev rfl)) rfl ?_; intro f h
        refine w_pure h (ru_val (.bool true) (ru_lss (h.ev rfl) (h.ev rfl)) (congrArg Value.bool ((decide_eq_decide.2 (by omega)).trans hn))) rfl ?_; intro f h
        refine w_pure h (ru_move (h.ev rfl)) rfl ?_; intro f h
        refine w_on h rfl rfl rfl ?_
        refine w_pure h (ru_move (h.ev rfl)) rfl ?_; intro f h
        refine w_on h rfl rfl rfl ?_
        refine w_pure h (ru_move (h.ev rfl)) rfl ?_; intro f h
        refine w_on h rfl rfl rfl ?_
        refine w_pure h (ru_move (h.ev rfl)) rfl ?_; intro f h
        refine w_on h rfl rfl rfl ?_
        have hil : i < l.length := of_decide_eq_true hn
        refine w_pure h (ru_ixz (hR.keep s.ext) (i) Try.underlying22 szo58 (h.ev rfl) (h.ev rfl) (rfl) (by omega)) rfl ?_; intro f h
        refine w_on h rfl rfl rfl ?_
        refine w_load_at ((hR.keep s.ext).el (i) (by omega) (by decide) (D := tgArr (l.getD i zTg)) (tgr_el l i hil)) h row58 rfl (tgArr_size _) rfl ?_; intro f h
        refine w_on h rfl rfl rfl ?_
        refine w_load_row 0 h s row58 rfl rfl (tgArr_size _) rfl ?_; intro f h
        refine w_on h rfl rfl rfl ?_
        refine w_callV [.agg (tgArr (l.getD i zTg)), .agg (tgArr x)] (caps := []) h fnc48 rfl (fun w9 h9 => tcompare_any _ _ w9) rfl rfl ?_; intro f h
        refine w_on h rfl rfl rfl ?_
        refine w_pure h (ru_val (.bool false) (ru_eql (h.ev rfl) (h.ev rfl)) (congrArg Value.bool ((cmT_zero _ _).trans he))) rfl ?_; intro f h
        refine w_pure h (ru_pick_t (h.ev rfl) (h.ev rfl)) rfl ?_; intro f h
        refine w_pure h (ru_assign (h.ev rfl)) rfl ?_; intro f h
        refine w_pure h (ru_assign (h.ev rfl)) rfl ?_; intro f h
        refine w_nil s fun w1 s => ?_
        refine s_nil ?_
        refine hK9 _ _ ?_
        refine wpIn_ret ?_
        exact e_tmps rfl h s rfl rfl (⟨i, _, rfl, ⟨by omega, hp2, fun q h1 h2 => hp3 q (by omega) h2, by rw [hn, he]; rfl⟩⟩)
      · skip
        refine c_walkN 16 [[], [], [], [1, 2], [1, 2, 3], [1, 2, 3, 4], [1, 2, 3, 4], [1, 2, 3, 4], [1, 2, 3, 4, 6, 7], [1, 2, 3, 4, 6, 7, 8], [1, 2, 3, 4], [1, 2, 3, 4, 5, 6, 7, 8, 9, 10], [1, 2, 3, 4, 5, 6, 7, 8, 9, 10, 11], [1, 2, 3, 4, 5, 6, 7, 8, 9, 10, 11, 12], [0, 1, 2, 3, 4, 5, 6, 7, 8, 9, 10, 11], [0, 1, 2, 3, 4, 5, 6, 7, 8, 9, 10, 11, 12, 13, 14]] h (by kernel_rfl) (by kernel_rfl) (by kernel_rfl) ?_
        refine w_pure h (ru_move (h.ev rfl)) rfl ?_; intro f h
        refine w_pure h (ru_move (h.ev rfl)) rfl ?_; intro f h
        refine w_pure h (ru_move (h.ev rfl)) rfl ?_; intro f h
        refine w_pure h (ru_val (.bool true) (ru_lss (h.ev rfl) (h.ev rfl)) (congrArg Value.bool ((decide_eq_decide.2 (by omega)).trans hn))) rfl ?_; intro f h
        refine w_pure h (ru_move (h.ev rfl)) rfl ?_; intro f h
        refine w_on h rfl rfl rfl ?_
        refine w_pure h (ru_move (h.ev rfl)) rfl ?_; intro f h
        refine w_on h rfl rfl rfl ?_
        refine w_pure h (ru_move (h.ev rfl)) rfl ?_; intro f h
        refine w_on h rfl rfl rfl ?_
        refine w_pure h (ru_move (h.ev rfl)) rfl ?_; intro f h
        refine w_on h rfl rfl rfl ?_
        have hil : i < l.length := of_decide_eq_true hn
        refine w_pure h (ru_ixz (hR.keep s.ext) (i) Try.underlying22 szo58 (h.ev rfl) (h.ev rfl) (rfl) (by omega)) rfl ?_; intro f h
        refine w_on h rfl rfl rfl ?_
        refine w_load_at ((hR.keep s.ext).el (i) (by omega) (by decide) (D := tgArr (l.getD i zTg)) (tgr_el l i hil)) h row58 rfl (tgArr_size _) rfl ?_; intro f h
        refine w_on h rfl rfl rfl ?_
        refine w_load_row 0 h s row58 rfl rfl (tgArr_size _) rfl ?_; intro f h
        refine w_on h rfl rfl rfl ?_
        refine w_callV [.agg (tgArr (l.getD i zTg)), .agg (tgArr x)] (caps := []) h fnc48 rfl (fun w9 h9 => tcompare_any _ _ w9) rfl rfl ?_; intro f h
        refine w_on h rfl rfl rfl ?_
        refine w_pure h (ru_val (.bool true) (ru_eql (h.ev rfl) (h.ev rfl)) (congrArg Value.bool ((cmT_zero _ _).trans he))) rfl ?_; intro f h
        refine w_pure h (ru_pick_t (h.ev rfl) (h.ev rfl)) rfl ?_; intro f h
        refine w_pure h (ru_assign (h.ev rfl)) rfl ?_; intro f h
        refine w_pure h (ru_assign (h.ev rfl)) rfl ?_; intro f h
        refine w_nil s fun w1 s => ?_
        refine s_nil ?_
        refine hK9 _ _ ?_
        refine wpIn_ret ?_
        exact e_tmps rfl h s rfl rfl (⟨i, _, rfl, ⟨by omega, hp2, fun q h1 h2 => hp3 q (by omega) h2, by rw [hn, he]; rfl⟩⟩)

theorem tfind_any (l : List Tg) (vh : Value) (x : Tg) (w : World) (hR : RdZ w vh 67 l.length (tgCells l)) (hln : l.length ≤ 1000) (hs9 : Srt l) : Calls Try.prog 45 [vh, .agg (tgArr x)].toArray w (Ret w (fun v _ => ∃ n b, v = .tuple #[.int .i64 ((n : Nat) : Int), .bool b] ∧ FndT l x n b)) := by
  refine c_enter Try.func45 rfl Try.ntmps45 rfl [(0, vh), (1, .agg (tgArr x))] (by simp) fun f h => ?_
  have s := St.start w
  refine c_seq fun K1 hK1 => ?_
  refine c_region ?_
  refine s_box (tgArr x) h s rfl rfl rfl ?_; intro f w1 b3 h s
  refine s_pure h (ru_assign (h.ev rfl)) rfl ?_; intro f h
  refine s_pure h (ru_assign (h.ev rfl)) rfl ?_; intro f h
  refine s_nil ?_
  refine hK1 _ _ ?_
  refine c_seq fun K2 hK2 => ?_
  refine c_region ?_
  refine s_pure h (ru_move (h.ev rfl)) rfl ?_; intro f h
  refine s_load_row 0 h s row58 rfl rfl (tgArr_size _) rfl ?_; intro f h
  refine s_call h s fnc65 (tbsearch_any l vh x _ (hR.keep s.ext) hln hs9) rfl rfl ?_; rintro f w1 v8 ⟨n, b, rfl, hf9⟩ hE h s
  refine s_pure h (ru_extract (h.ev rfl) rfl) rfl ?_; intro f h
  refine s_pure h (ru_extract (h.ev rfl) rfl) rfl ?_; intro f h
  refine s_pure h (ru_assign (h.ev rfl)) rfl ?_; intro f h
  refine s_pure h (ru_assign (h.ev rfl)) rfl ?_; intro f h
  refine s_nil ?_
  refine hK2 _ _ ?_
  refine wpIn_ret ?_
  exact e_tmps rfl h s rfl rfl (⟨n, b, rfl, hf9⟩)

theorem tgrow_any (n : Nat) (hn : n ≤ 1000) (w : World) : Calls Try.prog 66 [.slice none 0 0, .int .i64 (n : Int)].toArray w (Ret w (fun v w' => Owns w' w.heap.size 58 67 v 0 [])) := by
  refine c_enter Try.func66 rfl Try.ntmps66 rfl [(0, .slice none 0 0), (1, .int .i64 (n : Int))] (by simp) fun f h => ?_
  have s := St.start w
  refine c_seq fun K1 hK1 => ?_
  refine c_region ?_
  refine s_pure h (ru_assign (h.ev rfl)) rfl ?_; intro f h
  refine s_nil ?_
  refine hK1 _ _ ?_
  refine c_seq fun K2 hK2 => ?_
  refine c_seq fun K3 hK3 => ?_
  refine c_region ?_
  refine s_pure h (ru_move (h.ev rfl)) rfl ?_; intro f h
  refine s_pure h (ru_val (.bool false) (ru_lss (h.ev rfl) (h.ev rfl)) (congrArg Value.bool (decide_eq_false (by omega)))) rfl ?_; intro f h
  refine s_nil ?_
  refine hK3 _ _ ?_
  refine wpIn_cond_false (h.ev rfl) ?_
  refine wpIn_skip ?_
  refine hK2 _ _ ?_
  refine c_seq fun K4 hK4 => ?_
  refine c_seq fun K5 hK5 => ?_
  refine c_region ?_
  refine s_pure h (ru_move (h.ev rfl)) rfl ?_; intro f h
  refine s_pure h (ru_move (h.ev rfl)) rfl ?_; intro f h
  refine s_pure h (ru_cap_nil Try.underlying22 (h.ev rfl)) rfl ?_; intro f h
  refine s_pure h (ru_move (h.ev rfl)) rfl ?_; intro f h
  refine s_pure h (ru_len_lit Try.underlying22 (h.ev rfl)) rfl ?_; intro f h
  refine s_pure h (ru_val (.int .i64 0) (ru_sub (h.ev rfl) (h.ev rfl) (by omega)) (rfl)) rfl ?_; intro f h
  refine s_pure h (ru_val (.int .i64 (n : Int)) (ru_sub (h.ev rfl) (h.ev rfl) (by omega)) (congrArg (Value.int .i64) (by omega))) rfl ?_; intro f h
  refine s_pure h (ru_assign (h.ev rfl)) rfl ?_; intro f h
  refine s_nil ?_
  refine hK5 _ _ ?_
  refine c_seq fun K6 hK6 => ?_
  refine c_region ?_
  refine s_pure h (ru_move (h.ev rfl)) rfl ?_; intro f h
  refine s_pure h (ru_gtr (h.ev rfl) (h.ev rfl)) rfl ?_; intro f h
  refine s_nil ?_
  refine hK6 _ _ ?_
  refine c_cond h rfl (fun hc => ?_) (fun hc => ?_)
  · replace hc := of_decide_eq_true hc
    refine c_region ?_
    refine s_pure h (ru_move (h.ev rfl)) rfl ?_; intro f h
    refine s_pure h (ru_move (h.ev rfl)) rfl ?_; intro f h
    refine s_pure h (ru_cap_nil Try.underlying22 (h.ev rfl)) rfl ?_; intro f h
    refine s_pure h (ru_slice_nil Try.underlying22 szo58 (h.ev rfl) (h.ev rfl)) rfl ?_; intro f h
    refine s_pure h (ru_move (h.ev rfl)) rfl ?_; intro f h
    refine s_append_zeros (n := n) (base := w.heap.size) h Try.underlying22 Try.underlying3 elm58 rfl rfl (by omega) (by omega) (by omega) (Nat.le_refl _) rfl ?_; intro f w1 v22 xs9 h hE9 hO9
    replace s := s.sl_new hE9 hO9
    refine s_pure h (ru_move (h.ev rfl)) rfl ?_; intro f h
    refine s_pure h (ru_len_lit Try.underlying22 (h.ev rfl)) rfl ?_; intro f h
    refine s_pure h (ru_slice_own0 hO9 Try.underlying22 szo58 (h.ev rfl) (h.ev rfl)) rfl ?_; intro f h
    refine s_pure h (ru_assign (h.ev rfl)) rfl ?_; intro f h
    refine s_nil ?_
    refine hK4 _ _ ?_
    refine c_seq fun K7 hK7 => ?_
    refine c_region ?_
    refine s_pure h (ru_move (h.ev rfl)) rfl ?_; intro f h
    refine s_pure h (ru_assign (h.ev rfl)) rfl ?_; intro f h
    refine s_nil ?_
    refine hK7 _ _ ?_
    refine wpIn_ret ?_
    exact e_tmp rfl h s rfl (hO9.cut0)
  · replace hc := of_decide_eq_false hc
    refine wpIn_skip ?_
    refine hK4 _ _ ?_
    refine c_seq fun K8 hK8 => ?_
    refine c_region ?_
    refine s_pure h (ru_move (h.ev rfl)) rfl ?_; intro f h
    refine s_pure h (ru_assign (h.ev rfl)) rfl ?_; intro f h
    refine s_nil ?_
    refine hK8 _ _ ?_
    refine wpIn_ret ?_
    exact e_tmp rfl h s rfl (owns_nil _ _ _ _)

theorem tconcat_any (vh : Value) (us : List Value) (ls : List (List Tg)) (hls : us.length = ls.length) (htot : ls.flatten.length ≤ 1000) (hvn : us.length ≤ 1000) (w : World) (hv : RdZ w vh 1 us.length us) (hr : ∀ k, k < us.length → RdZ w (us.getD k undef) 67 (ls.getD k []).length (tgCells (ls.getD k []))) : Calls Try.prog 47 [vh].toArray w (Ret w (fun v w' => Owns w' w.heap.size 58 67 v ls.flatten.length (tgCells ls.flatten))) := by
  refine c_enter Try.func47 rfl Try.ntmps47 rfl [(0, vh)] (by simp) fun f h => ?_
  have s := St.start w
  refine c_seq fun K1 hK1 => ?_
  refine c_region ?_
  refine s_pure h (ru_assign (h.ev rfl)) rfl ?_; intro f h
  refine s_nil ?_
  refine hK1 _ _ ?_
  refine c_seq fun K2 hK2 => ?_
  refine c_region ?_
  refine s_pure h (ru_assign (h.ev rfl)) rfl ?_; intro f h
  refine s_nil ?_
  refine hK2 _ _ ?_
  refine c_seq fun K3 hK3 => ?_
  refine c_seq fun K4 hK4 => ?_
  refine c_region ?_
  refine s_pure h (ru_move (h.ev rfl)) rfl ?_; intro f h
  refine s_pure h (ru_lenZ (hv.keep s.ext) Try.underlying117 (h.ev rfl)) rfl ?_; intro f h
  refine s_pure h (ru_move (h.ev rfl)) rfl ?_; intro f h
  refine s_nil ?_
  refine hK4 _ _ ?_
  refine wpIn_block ?_
  refine wpIn_loop_ghost (fun nn aa ww => ∃ k : Nat, Sl 36 aa [(0, vh), (3, .int .i64 (((ls.take k).flatten.length : Nat) : Int)), (9, vh), (10, .int .i64 (us.length : Int)), (11, .int .i64 (k : Int))] ∧ St w [] ww ∧ nn = us.length - k ∧ k ≤ us.length) (us.length - (0)) ⟨0, h.only ⟨rfl, slot_int rfl rfl, rfl, rfl, slot_int rfl (by omega), trivial⟩, s.as trivial, rfl, Nat.zero_le _⟩ ?_
  rintro _ f w1 ⟨k, h, s, hnn, hp0⟩
  refine c_seq fun K5 hK5 => ?_
  refine c_region ?_
  refine s_pure h (ru_lss (h.ev rfl) (h.ev rfl)) rfl ?_; intro f h
  refine s_nil ?_
  refine hK5 _ _ ?_
  refine c_seq fun K6 hK6 => ?_
  refine c_cond h rfl (fun hc => ?_) (fun hc => ?_)
  · replace hc := of_decide_eq_true hc
    refine wpIn_skip ?_
    refine hK6 _ _ ?_
    refine c_seq fun K7 hK7 => ?_
    refine wpIn_block ?_
    refine c_seq fun K8 hK8 => ?_
    refine c_region ?_
    have hkl : k < us.length := by omega
    refine s_pure h (ru_ixz (hv.keep s.ext) (k) Try.underlying117 szo22 (h.ev rfl) (h.ev rfl) (by omega) (by omega)) rfl ?_; intro f h
    refine s_load_at1 ((hv.keep s.ext).el1 (k) (V := us.getD k undef) (getD_el hkl)) h one22 rfl rfl ?_; intro f h
    refine s_pure h (ru_assign (h.ev rfl)) rfl ?_; intro f h
    refine s_nil ?_
    refine hK8 _ _ ?_
    refine c_seq fun K9 hK9 => ?_
    refine c_region ?_
    refine s_pure h (ru_move (h.ev rfl)) rfl ?_; intro f h
    refine s_pure h (ru_move (h.ev rfl)) rfl ?_; intro f h
    refine s_pure h (ru_lenZ ((hr k hkl).keep s.ext) Try.underlying22 (h.ev rfl)) rfl ?_; intro f h
    have hk1 := catT_len ls k (by omega)
    have hk2 := catT_le ls (k + 1)
    refine s_pure h (ru_add (h.ev rfl) (h.ev rfl) (by omega)) rfl ?_; intro f h
    refine s_pure h (ru_assign (h.ev rfl)) rfl ?_; intro f h
    refine s_nil ?_
    refine hK9 _ _ ?_
    refine c_seq fun K10 hK10 => ?_
    refine c_region ?_
    refine s_pure h (ru_move (h.ev rfl)) rfl ?_; intro f h
    refine s_pure h (ru_val (.bool false) (ru_lss (h.ev rfl) (h.ev rfl)) (congrArg Value.bool (decide_eq_false (by omega)))) rfl ?_; intro f h
    refine s_nil ?_
    refine hK10 _ _ ?_
    refine wpIn_cond_false (h.ev rfl) ?_
    refine wpIn_skip ?_
    refine b_norm ?_
    refine hK7 _ _ ?_
    refine c_region ?_
    refine s_pure h (ru_add (h.ev rfl) (h.ev rfl) (by omega)) rfl ?_; intro f h
    refine s_pure h (ru_move (h.ev rfl)) rfl ?_; intro f h
    refine s_nil ?_
    refine t_norm ?_
    exact ⟨_, by omega, ⟨k + 1, h.only ⟨rfl, slot_int rfl (by omega), rfl, rfl, slot_int rfl (by omega), trivial⟩, St.as s trivial, rfl, by omega⟩⟩
  · replace hc := of_decide_eq_false hc
    refine wpIn_exit ?_
    refine t_exit ?_
    refine t_exit ?_
    refine b_exit ?_
    refine hK3 _ _ ?_
    refine c_seq fun K11 hK11 => ?_
    refine c_region ?_
    obtain rfl : k = us.length := by omega
    refine s_pure h (ru_val (.int .i64 ((ls.flatten.length : Nat) : Int)) (ru_move (h.ev rfl)) (by rw [hls, List.take_length])) rfl ?_; intro f h
    refine s_call h s fnc66 (tgrow_any ls.flatten.length (by omega) _) rfl rfl ?_; intro f w1 v24 hT hE h sq; replace s := s.sl_new hE hT
    refine s_pure h (ru_assign (h.ev rfl)) rfl ?_; intro f h
    refine s_nil ?_
    refine hK11 _ _ ?_
    refine c_seq fun K12 hK12 => ?_
    refine c_seq fun K13 hK13 => ?_
    refine c_region ?_
    refine s_pure h (ru_move (h.ev rfl)) rfl ?_; intro f h
    refine s_pure h (ru_lenZ (hv.keep s.ext) Try.underlying117 (h.ev rfl)) rfl ?_; intro f h
    refine s_pure h (ru_move (h.ev rfl)) rfl ?_; intro f h
    refine s_nil ?_
    refine hK13 _ _ ?_
    refine wpIn_block ?_
    refine wpIn_loop_ghost (fun nn aa ww => ∃ i : Nat, ∃ vb : Value, Sl 36 aa [(0, vh), (6, vb), (25, vh), (26, .int .i64 (us.length : Int)), (27, .int .i64 (i : Int))] ∧ St w [.sl vb 58 67 (ls.take i).flatten.length (tgCells (ls.take i).flatten)] ww ∧ nn = us.length - i ∧ i ≤ us.length) (us.length - (0)) ⟨0, v24, h.only ⟨rfl, rfl, rfl, rfl, slot_int rfl (by omega), trivial⟩, s.as ⟨sl_eq rfl rfl, trivial⟩, rfl, Nat.zero_le _⟩ ?_
    rintro _ f w1 ⟨i, vb, h, s, hnn, hp0⟩
    refine c_seq fun K14 hK14 => ?_
    refine c_region ?_
    refine s_pure h (ru_lss (h.ev rfl) (h.ev rfl)) rfl ?_; intro f h
    refine s_nil ?_
    refine hK14 _ _ ?_
    refine c_seq fun K15 hK15 => ?_
    refine c_cond h rfl (fun hc => ?_) (fun hc => ?_)
    · replace hc := of_decide_eq_true hc
      refine wpIn_skip ?_
      refine hK15 _ _ ?_
      refine c_seq fun K16 hK16 => ?_
      refine wpIn_block ?_
      refine c_seq fun K17 hK17 => ?_
      refine c_region ?_
      have hkl : i < us.length := by omega
      have hk1 := catT_len ls i (by omega)
      have hk2 := catT_le ls (i + 1)
      refine s_pure h (ru_ixz (hv.keep s.ext) (i) Try.underlying117 szo22 (h.ev rfl) (h.ev rfl) (by omega) (by omega)) rfl ?_; intro f h
      refine s_load_at1 ((hv.keep s.ext).el1 (i) (V := us.getD i undef) (getD_el hkl)) h one22 rfl rfl ?_; intro f h
      refine s_pure h (ru_assign (h.ev rfl)) rfl ?_; intro f h
      refine s_nil ?_
      refine hK17 _ _ ?_
      refine c_region ?_
      refine s_pure h (ru_move (h.ev rfl)) rfl ?_; intro f h
      refine s_pure h (ru_move (h.ev rfl)) rfl ?_; intro f h
      refine s_append_rd 0 ((hr i hkl).keep s.ext) h s Try.underlying22 elm58 rfl rfl rfl (tgCells_ones _) (by unfold maxLen; omega) (by omega) rfl ?_; intro f w1 v33 h s
      refine s_pure h (ru_assign (h.ev rfl)) rfl ?_; intro f h
      refine s_nil ?_
      refine b_norm ?_
      refine hK16 _ _ ?_
      refine c_region ?_
      refine s_pure h (ru_add (h.ev rfl) (h.ev rfl) (by omega)) rfl ?_; intro f h
      refine s_pure h (ru_move (h.ev rfl)) rfl ?_; intro f h
      refine s_nil ?_
      refine t_norm ?_
      exact ⟨_, by omega, ⟨i + 1, v33, h.only ⟨rfl, rfl, rfl, rfl, slot_int rfl (by omega), trivial⟩, St.as s ⟨sl_eq (catT_len ls i (by omega)) (catT_cells ls i (by omega)), trivial⟩, rfl, by omega⟩⟩
    · replace hc := of_decide_eq_false hc
      refine wpIn_exit ?_
      refine t_exit ?_
      refine t_exit ?_
      refine b_exit ?_
      refine hK12 _ _ ?_
      refine c_seq fun K18 hK18 => ?_
      refine c_region ?_
      refine s_pure h (ru_move (h.ev rfl)) rfl ?_; intro f h
      refine s_pure h (ru_assign (h.ev rfl)) rfl ?_; intro f h
      refine s_nil ?_
      refine hK18 _ _ ?_
      refine wpIn_ret ?_
      exact e_tmp rfl h s rfl (concatT_fin (by omega) (s.getSl 0 rfl))

theorem tclone_ok (l : List Tg) (hln : l.length ≤ 1000) (a9 : Option Addr) (n9 c9 : Nat) (w : World) (hR : RdZ w (.slice a9 n9 c9) 67 l.length (tgCells l)) : Calls Try.prog 46 [.slice a9 n9 c9].toArray w (Ret w (fun v w' => Owns w' w.heap.size 58 67 v l.length (tgCells l))) := by
  refine c_enter Try.func46 rfl Try.ntmps46 rfl [(0, .slice a9 n9 c9)] (by simp) fun f h => ?_
  have s := St.start w
  refine c_seq fun K1 hK1 => ?_
  refine c_region ?_
  refine s_pure h (ru_assign (h.ev rfl)) rfl ?_; intro f h
  refine s_nil ?_
  refine hK1 _ _ ?_
  refine c_seq fun K2 hK2 => ?_
  refine c_seq fun K3 hK3 => ?_
  cases hn : (a9.isNone : Bool)
  · skip
    refine c_region ?_
    refine s_pure h (ru_move (h.ev rfl)) rfl ?_; intro f h
    refine s_pure h (ru_val (.bool false) (ru_eql_nilS Try.underlying22 (h.ev rfl) (h.ev rfl)) (congrArg Value.bool hn)) rfl ?_; intro f h
    refine s_nil ?_
    refine hK3 _ _ ?_
    refine wpIn_cond_false (h.ev rfl) ?_
    refine wpIn_skip ?_
    refine hK2 _ _ ?_
    refine c_seq fun K4 hK4 => ?_
    refine c_region ?_
    refine s_bslice0 (base := w.heap.size) h Try.underlying22 elm58 (Nat.le_refl _) rfl ?_; intro f w2 v5 h hE3 e5
    refine s_pure h (ru_move (h.ev rfl)) rfl ?_; intro f h
    refine s_append_emp (base := w.heap.size) e5 (hR.keep hE3) h Try.underlying22 elm58 rfl rfl hE3.le (tgCells_ones _) (by unfold maxLen; omega) (by omega) rfl ?_; intro f w3 v7 h hE4 e7
    replace s := s.sl_new (hE3.trans hE4) e7
    refine s_pure h (ru_assign (h.ev rfl)) rfl ?_; intro f h
    refine s_nil ?_
    refine hK4 _ _ ?_
    refine wpIn_ret ?_
    exact e_tmp rfl h s rfl (s.getSl 0 rfl)
  · skip
    refine c_region ?_
    refine s_pure h (ru_move (h.ev rfl)) rfl ?_; intro f h
    refine s_pure h (ru_val (.bool true) (ru_eql_nilS Try.underlying22 (h.ev rfl) (h.ev rfl)) (congrArg Value.bool hn)) rfl ?_; intro f h
    refine s_nil ?_
    refine hK3 _ _ ?_
    refine wpIn_cond_true (h.ev rfl) ?_
    refine c_seq fun K5 hK5 => ?_
    refine c_region ?_
    refine s_pure h (ru_assign (h.ev rfl)) rfl ?_; intro f h
    refine s_nil ?_
    refine hK5 _ _ ?_
    refine wpIn_ret ?_
    refine t_ret ?_
    exact e_tmp rfl h s rfl (by obtain rfl := clone_nilT hn hR; exact owns_nil _ _ _ _)

theorem tclone_any (l : List Tg) (hln : l.length ≤ 1000) (v9 : Value) (w : World) (hR : RdZ w v9 67 l.length (tgCells l)) : Calls Try.prog 46 [v9].toArray w (Ret w (fun v w' => Owns w' w.heap.size 58 67 v l.length (tgCells l))) := by
  obtain ⟨a, c, rfl⟩ := hR.len
  exact tclone_ok l hln a _ c w hR

set_option maxHeartbeats 1000000 in
theorem tput_any (l : List Tg) (vh : Value) (x : Tg) (w : World) (hR : RdZ w vh 67 l.length (tgCells l)) (hln : l.length ≤ 1000) : Calls Try.prog 19 [vh, .agg (tgArr x)].toArray w (Ret w (TbP w vh l (putR l x) (putE l x))) := by
  refine c_enter Try.func19 rfl Try.ntmps19 rfl [(0, vh), (1, .agg (tgArr x))] (by simp) fun f h => ?_
  have s := St.start w
  refine c_seq fun K1 hK1 => ?_
  refine c_region ?_
  refine s_box (tgArr x) h s rfl rfl rfl ?_; intro f w1 b3 h s
  refine s_pure h (ru_assign (h.ev rfl)) rfl ?_; intro f h
  refine s_pure h (ru_assign (h.ev rfl)) rfl ?_; intro f h
  refine s_nil ?_
  refine hK1 _ _ ?_
  refine c_seq fun K2 hK2 => ?_
  refine c_seq fun K3 hK3 => ?_
  cases r0 : (rightT l : Bool)
  · skip
    refine c_region ?_
    refine s_pure h (ru_move (h.ev rfl)) rfl ?_; intro f h
    refine s_call h s fnc20 (ret_val (.bool false) (tright_any l vh _ (hR.keep s.ext) hln) (congrArg Value.bool r0)) rfl rfl ?_; intro f w1 v9 hT hE h s; obtain rfl := hT
    refine s_pure h (ru_val (.bool true) (ru_not (h.ev rfl)) rfl) rfl ?_; intro f h
    refine s_pure h (ru_move (h.ev rfl)) rfl ?_; intro f h
    refine s_off (b := false) h rfl rfl rfl rfl ?_; intro f h
    refine s_off (b := false) h rfl rfl rfl rfl ?_; intro f h
    refine s_off (b := false) h rfl rfl rfl rfl ?_; intro f h
    refine s_pure h (ru_pick_t (h.ev rfl) (h.ev rfl)) rfl ?_; intro f h
    refine s_nil ?_
    refine hK3 _ _ ?_
    refine wpIn_cond_true (h.ev rfl) ?_
    refine c_seq fun K4 hK4 => ?_
    refine c_region ?_
    refine s_pure h (ru_assign (h.ev rfl)) rfl ?_; intro f h
    refine s_pure h (ru_assign (h.ev rfl)) rfl ?_; intro f h
    refine s_nil ?_
    refine hK4 _ _ ?_
    refine wpIn_ret ?_
    refine t_ret ?_
    exact e_tmps rfl h s rfl rfl (tbP_nil (tb_bad r0 x).1 (tb_bad r0 x).2 (s.sel [] rfl (by decide)))
  · skip
    cases m0 : (mayT x : Bool)
    · skip
      refine c_region ?_
      refine s_pure h (ru_move (h.ev rfl)) rfl ?_; intro f h
      refine s_call h s fnc20 (ret_val (.bool true) (tright_any l vh _ (hR.keep s.ext) hln) (congrArg Value.bool r0)) rfl rfl ?_; intro f w1 v9 hT hE h s; obtain rfl := hT
      refine s_pure h (ru_val (.bool false) (ru_not (h.ev rfl)) rfl) rfl ?_; intro f h
      refine s_pure h (ru_move (h.ev rfl)) rfl ?_; intro f h
      refine s_on h rfl rfl rfl ?_
      refine s_load_row 0 h s row58 rfl rfl (tgArr_size _) rfl ?_; intro f h
      refine s_on h rfl rfl rfl ?_
      refine s_call h s fnc44 (ret_val (.bool false) (isright_any x _) (congrArg Value.bool m0)) rfl rfl ?_; intro f w1 v9 hT hE h s; obtain rfl := hT
      refine s_on h rfl rfl rfl ?_
      refine s_pure h (ru_val (.bool true) (ru_not (h.ev rfl)) rfl) rfl ?_; intro f h
      refine s_pure h (ru_pick_f (h.ev rfl) (h.ev rfl)) rfl ?_; intro f h
      refine s_nil ?_
      refine hK3 _ _ ?_
      refine wpIn_cond_true (h.ev rfl) ?_
      refine c_seq fun K5 hK5 => ?_
      refine c_region ?_
      refine s_pure h (ru_assign (h.ev rfl)) rfl ?_; intro f h
      refine s_pure h (ru_assign (h.ev rfl)) rfl ?_; intro f h
      refine s_nil ?_
      refine hK5 _ _ ?_
      refine wpIn_ret ?_
      refine t_ret ?_
      exact e_tmps rfl h s rfl rfl (tbP_nil (tb_may l m0).1 (tb_may l m0).2 (s.sel [] rfl (by decide)))
    · skip
      refine c_region ?_
      refine s_pure h (ru_move (h.ev rfl)) rfl ?_; intro f h
      refine s_call h s fnc20 (ret_val (.bool true) (tright_any l vh _ (hR.keep s.ext) hln) (congrArg Value.bool r0)) rfl rfl ?_; intro f w1 v9 hT hE h s; obtain rfl := hT
      refine s_pure h (ru_val (.bool false) (ru_not (h.ev rfl)) rfl) rfl ?_; intro f h
      refine s_pure h (ru_move (h.ev rfl)) rfl ?_; intro f h
      refine s_on h rfl rfl rfl ?_
      refine s_load_row 0 h s row58 rfl rfl (tgArr_size _) rfl ?_; intro f h
      refine s_on h rfl rfl rfl ?_
      refine s_call h s fnc44 (ret_val (.bool true) (isright_any x _) (congrArg Value.bool m0)) rfl rfl ?_; intro f w1 v9 hT hE h s; obtain rfl := hT
      refine s_on h rfl rfl rfl ?_
      refine s_pure h (ru_val (.bool false) (ru_not (h.ev rfl)) rfl) rfl ?_; intro f h
      refine s_pure h (ru_pick_f (h.ev rfl) (h.ev rfl)) rfl ?_; intro f h
      refine s_nil ?_
      refine hK3 _ _ ?_
      refine wpIn_cond_false (h.ev rfl) ?_
      refine wpIn_skip ?_
      refine hK2 _ _ ?_
      refine c_seq fun K6 hK6 => ?_
      refine c_region ?_
      have hrt := rt_iff.1 r0
      have hl32 := hrt.len
      refine s_pure h (ru_move (h.ev rfl)) rfl ?_; intro f h
      refine s_load_row 0 h s row58 rfl rfl (tgArr_size _) rfl ?_; intro f h
      refine s_call h s fnc45 (tfind_any l vh x _ (hR.keep s.ext) hln hrt.srt) rfl rfl ?_; rintro f w1 v19 ⟨n, b, rfl, hf9⟩ hE h s
      refine s_pure h (ru_move (h.ev rfl)) rfl ?_; intro f h
      refine s_pure h (ru_extract (h.ev rfl) rfl) rfl ?_; intro f h
      refine s_pure h (ru_extract (h.ev rfl) rfl) rfl ?_; intro f h
      refine s_pure h (ru_assign (h.ev rfl)) rfl ?_; intro f h
      refine s_pure h (ru_assign (h.ev rfl)) rfl ?_; intro f h
      refine s_nil ?_
      refine hK6 _ _ ?_
      refine c_seq fun K7 hK7 => ?_
      refine c_seq fun K8 hK8 => ?_
      cases b9 : (b : Bool)
      · skip
        refine c_region ?_
        refine s_pure h (ru_val (.bool false) (ru_move (h.ev rfl)) (congrArg Value.bool b9)) rfl ?_; intro f h
        refine s_nil ?_
        refine hK8 _ _ ?_
        refine wpIn_cond_false (h.ev rfl) ?_
        refine wpIn_skip ?_
        refine hK7 _ _ ?_
        refine c_seq fun K9 hK9 => ?_
        refine c_seq fun K10 hK10 => ?_
        refine c_region ?_
        rw [b9] at hf9
        have hnl := hf9.le
        refine s_pure h (ru_move (h.ev rfl)) rfl ?_; intro f h
        refine s_pure h (ru_lenZ (hR.keep s.ext) Try.underlying22 (h.ev rfl)) rfl ?_; intro f h
        refine s_pure h (ru_eql (h.ev rfl) (h.ev rfl)) rfl ?_; intro f h
        refine s_nil ?_
        refine hK10 _ _ ?_
        refine c_cond h rfl (fun hc => ?_) (fun hc => ?_)
        · have h32 : l.length = 32 := by have := of_decide_eq_true hc; omega
          refine c_seq fun K11 hK11 => ?_
          refine c_region ?_
          refine s_pure h (ru_assign (h.ev rfl)) rfl ?_; intro f h
          refine s_pure h (ru_assign (h.ev rfl)) rfl ?_; intro f h
          refine s_nil ?_
          refine hK11 _ _ ?_
          refine wpIn_ret ?_
          refine t_ret ?_
          exact e_tmps rfl h s rfl rfl (tbP_nil (pt_no hrt m0 hf9 h32).1 (pt_no hrt m0 hf9 h32).2 (s.sel [] rfl (by decide)))
        · have h32 : ¬ l.length = 32 := by have := of_decide_eq_false hc; omega
          refine wpIn_skip ?_
          refine hK9 _ _ ?_
          refine c_seq fun K12 hK12 => ?_
          refine c_regT 0 10 [[], [], [0, 1], [], [3], [], [], [5, 6], [0, 1, 2, 3, 4, 5, 6, 7], [0, 1, 2, 3, 4, 5, 6, 7, 8], [0, 1, 2, 3, 4, 5, 6, 7, 8, 9], [0, 1, 2, 3, 4, 5, 6, 7, 8, 9, 10]] [[], [], [], [], [], [], [], [], [], [8, 4], [], []] [fun _ => [], fun _ => [], fun _ => [], fun _ => [], fun v => [.sl (v 4) 58 67 [x].length (tgCells [x])], fun _ => [], fun _ => [], fun _ => [], fun v => [.sl (v 8) 22 1 3 [cutV vh n, (v 4), dropV vh 67 n]], fun v => [.sl (v 9) 58 67 (l.take n ++ ([x] ++ l.drop n)).length (tgCells (l.take n ++ ([x] ++ l.drop n)))], fun _ => [], fun _ => []] [] [fun v => v 0 = vh, fun v => v 1 = .int .i64 (n : Int), fun v => v 2 = cutV vh n, fun v => v 3 = .agg (tgArr x), fun v => (v 4).oneCell' = true, fun v => v 5 = vh, fun v => v 6 = .int .i64 (n : Int), fun v => v 7 = (dropV vh 67 n), fun _ => True, fun _ => True, fun _ => True, fun _ => True] [.blk b3 (.cells (tgArr x) 58)] h s rfl (by kernel_rfl) (by kernel_rfl) (by kernel_rfl) (And.intro ?_ (And.intro ?_ (And.intro ?_ (And.intro ?_ (And.intro ?_ (And.intro ?_ (And.intro ?_ (And.intro ?_ (And.intro ?_ (And.intro ?_ (trivial))))))))))) [0, 1, 2, 3, 5, 6, 7, 9] (by kernel_rfl) ?_
          · intro f9 w2 vl10 E9 hs9 hd9 hl hF s
            have e0 : f9.tmps.getD 0 undef = _ := oc_old hl 0 (by kernel_rfl) (by kernel_rfl) (h.holds 0 _ rfl)
            have h := fin_slot [(0, _)] (hs9.trans h.size) (hd9.trans h.defers) (holds_lk ⟨e0, trivial⟩)
            replace s : St w (.blk b3 (.cells (tgArr x) 58) :: E9) _ := s
            refine s_pure h (ru_move (h.ev rfl)) rfl ?_; intro f h
            exact s_nil ⟨_, oc_out 41 rfl (h.holds 41 _ rfl), rfl, s⟩
          · intro f9 w2 vl10 E9 hs9 hd9 hl hF s
            have e6 : f9.tmps.getD 6 undef = _ := oc_old hl 6 (by kernel_rfl) (by kernel_rfl) (h.holds 6 _ rfl)
            have h := fin_slot [(6, _)] (hs9.trans h.size) (hd9.trans h.defers) (holds_lk ⟨e6, trivial⟩)
            replace s : St w (.blk b3 (.cells (tgArr x) 58) :: E9) _ := s
            refine s_pure h (ru_move (h.ev rfl)) rfl ?_; intro f h
            exact s_nil ⟨_, oc_out 42 rfl (h.holds 42 _ rfl), rfl, s⟩
          · intro f9 w2 vl10 E9 hs9 hd9 hl hF s
            have e41 : f9.tmps.getD 41 undef = vh := (oc_get hl 41 0 (by kernel_rfl) (by kernel_rfl)).trans (hF 0 (by decide))
            have e42 : f9.tmps.getD 42 undef = .int .i64 (n : Int) := (oc_get hl 42 1 (by kernel_rfl) (by kernel_rfl)).trans (hF 1 (by decide))
            have h := fin_slot [(41, vh), (42, .int .i64 (n : Int))] (hs9.trans h.size) (hd9.trans h.defers) (holds_lk ⟨e41, e42, trivial⟩)
            replace s : St w (.blk b3 (.cells (tgArr x) 58) :: E9) _ := s
            refine s_pure h (ru_slice_hiZ (hR.keep s.ext) (n) Try.underlying22 szo58 (h.ev rfl) (h.ev rfl) (rfl) (by omega)) rfl ?_; intro f h
            exact s_nil ⟨_, oc_out 43 rfl (h.holds 43 _ rfl), rfl, s⟩
          · intro f9 w2 vl10 E9 hs9 hd9 hl hF s
            have e3 : f9.tmps.getD 3 undef = _ := oc_old hl 3 (by kernel_rfl) (by kernel_rfl) (h.holds 3 _ rfl)
            have h := fin_slot [(3, _)] (hs9.trans h.size) (hd9.trans h.defers) (holds_lk ⟨e3, trivial⟩)
            replace s : St w (.blk b3 (.cells (tgArr x) 58) :: E9) _ := s
            refine s_load_row 0 h s row58 rfl rfl (tgArr_size _) rfl ?_; intro f h
            exact s_nil ⟨_, oc_out 44 rfl (h.holds 44 _ rfl), rfl, s⟩
          · intro f9 w2 vl10 E9 hs9 hd9 hl hF s
            have e44 : f9.tmps.getD 44 undef = .agg (tgArr x) := (oc_get hl 44 3 (by kernel_rfl) (by kernel_rfl)).trans (hF 3 (by decide))
            have h := fin_slot [(44, .agg (tgArr x))] (hs9.trans h.size) (hd9.trans h.defers) (holds_lk ⟨e44, trivial⟩)
            replace s : St w (.blk b3 (.cells (tgArr x) 58) :: E9) _ := s
            refine s_bslice (vs := [.agg (tgArr x)]) [.tmp 44] h s Try.underlying22 elm58 rfl rfl (tg_sz _) rfl rfl rfl ?_; intro f w1 v45 h s
            replace s := s.resl (m := [x].length) (ys := tgCells [x]) 0 rfl rfl (by rw [one_tg, tgCells_one])
            exact s_nil ⟨_, oc_out 45 rfl (h.holds 45 _ rfl), own_one (s.getSl 0 rfl), s⟩
          · intro f9 w2 vl10 E9 hs9 hd9 hl hF s
            have e0 : f9.tmps.getD 0 undef = _ := oc_old hl 0 (by kernel_rfl) (by kernel_rfl) (h.holds 0 _ rfl)
            have h := fin_slot [(0, _)] (hs9.trans h.size) (hd9.trans h.defers) (holds_lk ⟨e0, trivial⟩)
            replace s : St w (.blk b3 (.cells (tgArr x) 58) :: E9) _ := s
            refine s_pure h (ru_move (h.ev rfl)) rfl ?_; intro f h
            exact s_nil ⟨_, oc_out 46 rfl (h.holds 46 _ rfl), rfl, s⟩
          · intro f9 w2 vl10 E9 hs9 hd9 hl hF s
            have e6 : f9.tmps.getD 6 undef = _ := oc_old hl 6 (by kernel_rfl) (by kernel_rfl) (h.holds 6 _ rfl)
            have h := fin_slot [(6, _)] (hs9.trans h.size) (hd9.trans h.defers) (holds_lk ⟨e6, trivial⟩)
            replace s : St w (.blk b3 (.cells (tgArr x) 58) :: E9) _ := s
            refine s_pure h (ru_move (h.ev rfl)) rfl ?_; intro f h
            exact s_nil ⟨_, oc_out 47 rfl (h.holds 47 _ rfl), rfl, s⟩
          · intro f9 w2 vl10 E9 hs9 hd9 hl hF s
            have e46 : f9.tmps.getD 46 undef = vh := (oc_get hl 46 5 (by kernel_rfl) (by kernel_rfl)).trans (hF 5 (by decide))
            have e47 : f9.tmps.getD 47 undef = .int .i64 (n : Int) := (oc_get hl 47 6 (by kernel_rfl) (by kernel_rfl)).trans (hF 6 (by decide))
            have h := fin_slot [(46, vh), (47, .int .i64 (n : Int))] (hs9.trans h.size) (hd9.trans h.defers) (holds_lk ⟨e46, e47, trivial⟩)
            replace s : St w (.blk b3 (.cells (tgArr x) 58) :: E9) _ := s
            refine s_pure h (ru_slice_loZ (hR.keep s.ext) (n) Try.underlying22 szo58 (h.ev rfl) (h.ev rfl) (rfl) (by omega)) rfl ?_; intro f h
            exact s_nil ⟨_, oc_out 48 rfl (h.holds 48 _ rfl), rfl, s⟩
          · intro f9 w2 vl10 E9 hs9 hd9 hl hF s
            have e43 : f9.tmps.getD 43 undef = cutV vh n := (oc_get hl 43 2 (by kernel_rfl) (by kernel_rfl)).trans (hF 2 (by decide))
            have e45 : f9.tmps.getD 45 undef = (vl10 4) := oc_get hl 45 4 (by kernel_rfl) (by kernel_rfl)
            have e48 : f9.tmps.getD 48 undef = (dropV vh 67 n) := (oc_get hl 48 7 (by kernel_rfl) (by kernel_rfl)).trans (hF 7 (by decide))
            have h := fin_slot [(43, cutV vh n), (45, (vl10 4)), (48, (dropV vh 67 n))] (hs9.trans h.size) (hd9.trans h.defers) (holds_lk ⟨e43, e45, e48, trivial⟩)
            replace s : St w (.blk b3 (.cells (tgArr x) 58) :: E9) _ := s
            refine s_bslice (vs := [cutV vh n, (vl10 4), dropV vh 67 n]) [.tmp 43, .tmp 45, .tmp 48] h s Try.underlying117 elm22 rfl rfl (by intro v hv; simp only [List.mem_cons, List.not_mem_nil, or_false] at hv; rcases hv with rfl | rfl | rfl; exact rd_size (tg_take (hR.keep s.ext) n (by omega)); exact (cell1 (hF 4 (by decide))).1; exact rd_size (tg_drop (hR.keep s.ext) n (by omega))) rfl rfl rfl ?_; intro f w1 v49 h s
            replace s := s.resl (m := 3) (ys := [cutV vh n, (vl10 4), dropV vh 67 n]) 0 rfl rfl (by simp [rd_cells (tg_take (hR.keep s.ext) n (by omega)), show (vl10 4).cells.toList = [vl10 4] from (cell1 (hF 4 (by decide))).2, rd_cells (tg_drop (hR.keep s.ext) n (by omega))])
            exact s_nil ⟨_, oc_out 49 rfl (h.holds 49 _ rfl), trivial, s⟩
          · intro f9 w2 vl10 E9 hs9 hd9 hl hF s
            have e49 : f9.tmps.getD 49 undef = (vl10 8) := oc_get hl 49 8 (by kernel_rfl) (by kernel_rfl)
            have h := fin_slot [(49, (vl10 8))] (hs9.trans h.size) (hd9.trans h.defers) (holds_lk ⟨e49, trivial⟩)
            replace s : St w (.sl (vl10 8) 22 1 3 [cutV vh n, (vl10 4), dropV vh 67 n] :: .sl (vl10 4) 58 67 [x].length (tgCells [x]) :: .blk b3 (.cells (tgArr x) 58) :: E9) _ := s
            refine s_call h s fnc47 (tconcat_any (vl10 8) [cutV vh n, (vl10 4), dropV vh 67 n] [l.take n, [x], l.drop n] rfl (by rw [threeT_flat]; simp only [List.length_append, List.length_take, List.length_drop, List.length_cons, List.length_nil]; omega) (by simp) _ (RdZ.of_own (s.getSl 0 rfl)) (threeT_rd (tg_take (hR.keep s.ext) n (by omega)) (RdZ.of_own (s.getSl 1 rfl)) (tg_drop (hR.keep s.ext) n (by omega)))) rfl rfl ?_; intro f w1 v9_ hT hE h sq
            replace s := s.sl_new hE (hT.seq (m := (l.take n ++ ([x] ++ l.drop n)).length) (ys := tgCells (l.take n ++ ([x] ++ l.drop n))) (by rw [threeT_flat]) (by rw [threeT_flat]))
            exact s_nil ⟨_, oc_out 50 rfl (h.holds 50 _ rfl), trivial, (s.pick _ (List.Sublist.cons_cons _ (List.Sublist.cons _ (List.Sublist.cons _ (List.Sublist.cons_cons _ (List.Sublist.refl _))))))⟩
          intro f w1 vl10 hs9 hd9 hv hr hF s
          replace hv := fun i d h9 => hv i d (show Nat.blt i 10 = true from h9)
          replace h := oc_slT 10 (ops := _) [(41, vh), (42, .int .i64 (n : Int)), (43, cutV vh n), (44, .agg (tgArr x)), (45, (vl10 4)), (46, vh), (47, .int .i64 (n : Int)), (48, (dropV vh 67 n)), (49, (vl10 8)), (50, (vl10 9))] h hs9 hd9 hr ⟨(hv 0 41 rfl rfl).trans (hF 0 (by kernel_rfl)), (hv 1 42 rfl rfl).trans (hF 1 (by kernel_rfl)), (hv 2 43 rfl rfl).trans (hF 2 (by kernel_rfl)), (hv 3 44 rfl rfl).trans (hF 3 (by kernel_rfl)), hv 4 45 rfl rfl, (hv 5 46 rfl rfl).trans (hF 5 (by kernel_rfl)), (hv 6 47 rfl rfl).trans (hF 6 (by kernel_rfl)), (hv 7 48 rfl rfl).trans (hF 7 (by kernel_rfl)), hv 8 49 rfl rfl, hv 9 50 rfl rfl, trivial⟩ (by kernel_rfl)
          replace s : St w [.sl (vl10 9) 58 67 (l.take n ++ ([x] ++ l.drop n)).length (tgCells (l.take n ++ ([x] ++ l.drop n))), .blk b3 (.cells (tgArr x) 58)] _ := s
          refine s_pure h (ru_assign (h.ev rfl)) rfl ?_; intro f h
          refine s_pure h (ru_assign (h.ev rfl)) rfl ?_; intro f h
          refine s_nil ?_
          refine hK12 _ _ ?_
          refine wpIn_ret ?_
          exact e_tmps rfl h s rfl rfl (tbP_own (pt_in hrt m0 hf9 h32).1 (pt_in hrt m0 hf9 h32).2 (s.sel [0] rfl (by decide)))
      · skip
        refine c_region ?_
        refine s_pure h (ru_val (.bool true) (ru_move (h.ev rfl)) (congrArg Value.bool b9)) rfl ?_; intro f h
        refine s_nil ?_
        refine hK8 _ _ ?_
        refine wpIn_cond_true (h.ev rfl) ?_
        refine c_seq fun K13 hK13 => ?_
        refine c_region ?_
        rw [b9] at hf9
        have hnl := (fdT_y hrt.srt hf9).1
        refine s_pure h (ru_move (h.ev rfl)) rfl ?_; intro f h
        refine s_call h s fnc46 (tclone_any l hln vh _ (hR.keep s.ext)) rfl rfl ?_; intro f w1 v24 hT hE h sq; replace s := s.sl_new hE hT
        refine s_pure h (ru_assign (h.ev rfl)) rfl ?_; intro f h
        refine s_nil ?_
        refine hK13 _ _ ?_
        refine c_seq fun K14 hK14 => ?_
        refine c_walkN 12 [[], [], [], [], [2, 3], [2, 3, 4], [2, 3, 4, 5], [], [7], [2, 3, 4, 5, 6, 7, 8], [0, 1, 2, 3, 4, 5, 6, 7, 8, 9], [0, 1, 2, 3, 4, 5, 6, 7, 8, 9, 10]] h (by kernel_rfl) (by kernel_rfl) (by kernel_rfl) ?_
        refine w_pure h (ru_move (h.ev rfl)) rfl ?_; intro f h
        refine w_pure h (ru_move (h.ev rfl)) rfl ?_; intro f h
        refine w_pure h (ru_move (h.ev rfl)) rfl ?_; intro f h
        refine w_pure h (ru_move (h.ev rfl)) rfl ?_; intro f h
        refine w_pure h (ru_ixz (RdZ.of_own (s.getSl 0 rfl)) (n) Try.underlying22 szo58 (h.ev rfl) (h.ev rfl) (rfl) (by omega)) rfl ?_; intro f h
        refine w_pure h (ru_fieldE fld58_2 (h.ev rfl) ((RdZ.of_own (s.getSl 0 rfl)).some (by omega))) rfl ?_; intro f h
        refine w_load_at1 (V := .int .i64 (l.getD n zTg).2.2) (rdz_at (RdZ.of_own (s.getSl 0 rfl)) (n * 67 + 66) (tgr_u l n hnl)) h one3 rfl rfl ?_; intro f h
        refine w_pure h (ru_field fld58_2 (h.ev rfl)) rfl ?_; intro f h
        refine w_load_at1 (cell_of_has (Has.of_own s 1 rfl) 66 (tgArr_until _)) h one3 rfl rfl ?_; intro f h
        refine w_pure h (ru_val (.int .i64 (max (l.getD n zTg).2.2 x.2.2)) (ru_max (h.ev rfl) (h.ev rfl)) (congrArg (Value.int .i64) (by split <;> omega))) rfl ?_; intro f h
        refine w_pure h (ru_ixz (RdZ.of_own (s.getSl 0 rfl)) (n) Try.underlying22 szo58 (h.ev rfl) (h.ev rfl) (rfl) (by omega)) rfl ?_; intro f h
        refine w_pure h (ru_fieldE fld58_2 (h.ev rfl) ((RdZ.of_own (s.getSl 0 rfl)).some (by omega))) rfl ?_; intro f h
        refine w_nil s fun w1 s => ?_
        refine s_store_el1 0 h s one3 rfl rfl rfl (by omega) (rfl) (tg_set hnl (upT l x n) 66 _ (by decide) (tg_setU _ _)) ?_; intro w1 s
        replace s := s.resl (m := (l.set n (upT l x n)).length) (ys := tgCells (l.set n (upT l x n))) 0 rfl (by rw [List.length_set]) (rfl)
        refine s_nil ?_
        refine hK14 _ _ ?_
        refine c_seq fun K15 hK15 => ?_
        refine c_region ?_
        refine s_pure h (ru_move (h.ev rfl)) rfl ?_; intro f h
        refine s_pure h (ru_assign (h.ev rfl)) rfl ?_; intro f h
        refine s_pure h (ru_assign (h.ev rfl)) rfl ?_; intro f h
        refine s_nil ?_
        refine hK15 _ _ ?_
        refine wpIn_ret ?_
        refine t_ret ?_
        exact e_tmps rfl h s rfl rfl (tbP_own (pt_y hrt m0 hf9).1 (pt_y hrt m0 hf9).2 (s.sel [0] rfl (by decide)))
end Go.Proofs.Ytdehanjhphfanaa
