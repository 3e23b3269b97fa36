/- How package table compares triggers; which tables may be, what is put, dropped, over, matched, on a way. -/
import Derived.Test.YtobfeflheaobiaaDoorVi
set_option linter.unusedVariables false
set_option linter.unusedSimpArgs false
set_option linter.unusedSectionVars false
namespace Go.Proofs.YtobfeflheaobiaaDoor
open Go.RowKit
theorem iNaN_any (x : Int) (w : World) : Calls Tryd.prog 88 [.int .i64 x].toArray w (Ret w (is (.bool false))) := by
  refine c_en Tryd.func88 rfl Tryd.ntmps88 rfl fun f h s => qre hFT9 1 h rfl fun f h => qrs hFT9 2 h rfl fun f h => s_as hFT9 (.bool false) h rfl (by simp) rfl fun f h => e9 hFT9 1 h rfl fun f h => wpIn_ret (e_tmp rfl h s rfl (rfl))

theorem icmp_any (x y : Int) (w : World) : Calls Tryd.prog 75 [.int .i64 x, .int .i64 y].toArray w (Ret w (is (.int .i64 (cmpInt x y)))) := by
  refine c_en Tryd.func75 rfl Tryd.ntmps75 rfl fun f h s => qre hFT9 1 h rfl fun f h => qrs hFT9 1 h rfl fun f h => s_cv h s fnc88 (iNaN_any _ _) rfl rfl fun f w1 h s => e9 hFT9 1 h rfl fun f h => qrs hFT9 1 h rfl fun f h => s_cv h s fnc88 (iNaN_any _ _) rfl rfl fun f w1 h s => e9 hFT9 1 h rfl fun f h => c_seqN (qre hFT9 1 h rfl fun f h => cfk h rfl (c_seqN (qre hFT9 1 h rfl fun f h => cfk h rfl (c_seqN (qre hFT9 3 h rfl fun f h => c_cond h rfl (fun hc => ?_) (fun hc => ?_))))))
  · have hc := of_decide_eq_true hc
    refine qre hFT9 1 h rfl fun f h => rt (e_tmp rfl h s rfl (by show _ = _; unfold cmpInt; rw [if_pos hc]))
  · have hc1 := of_decide_eq_false hc
    refine kt (c_seqN (qre hFT9 3 h rfl fun f h => c_cd h rfl (fun hc => ?_) (fun hc => ?_)))
    · refine qre hFT9 1 h rfl fun f h => rt (e_tmp rfl h s rfl (by show _ = _; unfold cmpInt; rw [if_neg (by omega), if_pos (by omega)]))
    · refine kt (qre hFT9 1 h rfl fun f h => wpIn_ret (e_tmp rfl h s rfl (by show _ = _; unfold cmpInt; rw [if_neg (by omega), if_neg (by omega)])))

theorem is_any (e : Ent) (w : World) : Calls Tryd.prog 24 [.agg (eArr e)].toArray w (Ret w (is (.bool (isE e)))) := by
  refine c_en Tryd.func24 rfl Tryd.ntmps24 rfl fun f h s => qr (s_box (eArr e) h s rfl rfl rfl fun f w1 b1 h s => e9 hFT9 1 h rfl fun f h => c_seqN (qrs hFT9 1 h rfl fun f h => s_load_at1 (cell_of_has (Has.of_own s 0 rfl) 0 (eArr_kind _)) h one3 rfl rfl fun f h => nt (wpIn_block (qre hFT9 2 h rfl fun f h => c_cd h rfl (fun hc => ?_) (fun hc => ?_)))))
  · refine qrs hFT9 1 h rfl fun f h => s_load_at1 (cell_of_has (Has.of_own s 0 rfl) 33 (eArr_host _)) h one3 rfl rfl fun f h => e9 hFT9 2 h rfl fun f h => wpIn_ret (b_ret (t_ret (e_tmp rfl h s rfl (by show _ = _; rw [isE_one _ hc]))))
  · have hk := hc
    refine qre hFT9 2 h rfl fun f h => c_cd h rfl (fun hc => ?_) (fun hc => ?_)
    · refine c_seqN ?_
      cases hz : (decide (e.2.1 = 0#256) : Bool)
      · refine rs hFT9 1 h rfl fun f h => s_load_at (Has.subL (Has.of_own s 0 rfl) 1 32 (D := idArr (_)) (eArr_id _)) h row26 rfl (by first | exact idArr_size _ | exact bytesF_size _ _) rfl fun f h => s_pure h (ru_build0 idTy) rfl fun f h => s_pure h (ru_val (.bool false) (ru_eql_id idTy (h.ev rfl) (h.ev rfl)) (congrArg Value.bool hz)) rfl fun f h => e9 hFT9 11 h rfl fun f h => wpIn_ret (b_ret (t_ret (e_tmp rfl h s rfl (by show _ = _; rw [isE_two _ hc, hz]; rfl))))
      · skip
        refine rs hFT9 1 h rfl fun f h => s_load_at (Has.subL (Has.of_own s 0 rfl) 1 32 (D := idArr (_)) (eArr_id _)) h row26 rfl (by first | exact idArr_size _ | exact bytesF_size _ _) rfl fun f h => s_pure h (ru_build0 idTy) rfl fun f h => s_pure h (ru_val (.bool true) (ru_eql_id idTy (h.ev rfl) (h.ev rfl)) (congrArg Value.bool hz)) rfl fun f h => s_run hFT9 2 h rfl fun f h => s_o h rfl (s_load_at1 (cell_of_has (Has.of_own s 0 rfl) 33 (eArr_host _)) h one3 rfl rfl fun f h => s_o h rfl (s_ax hFT9 h rfl (fun hg f h => ?_) (fun hg f h => ?_)))
        · refine e9 hFT9 7 h rfl fun f h => wpIn_ret (b_ret (t_ret (e_tmp rfl h s rfl (by show _ = _; rw [isE_two _ hc, hz, hg]; rfl))))
        · refine s_run hFT9 3 h rfl fun f h => s_o h rfl (s_load_at1 (cell_of_has (Has.of_own s 0 rfl) 33 (eArr_host _)) h one3 rfl rfl fun f h => e9 hFT9 3 h rfl fun f h => wpIn_ret (b_ret (t_ret (e_tmp rfl h s rfl (by show _ = _; rw [isE_two _ hc, hz, hg]; rfl)))))
    · refine wpIn_skip (b_norm (t_norm (qre hFT9 1 h rfl fun f h => wpIn_ret (e_tmp rfl h s rfl (by show _ = _; rw [isE_none _ hk hc])))))

theorem tbyid_any (x y : Tg) (w : World) : Calls Tryd.prog 57 [.agg (tgArr x), .agg (tgArr y)].toArray w (Ret w (is (.int .i64 (cmQ x y 0)))) := by
  refine c_en Tryd.func57 rfl Tryd.ntmps57 rfl fun f h s => qr (s_box (tgArr x) h s rfl rfl rfl fun f w1 b2 h s => s_box (tgArr y) h s rfl rfl rfl fun f w1 b3 h s => e9 hFT9 1 h rfl fun f h => qrs hFT9 1 h rfl fun f h => s_load_at (Has.subL (Has.of_own s 1 rfl) 0 32 (D := idArr (_)) (tgArr_id _)) h row26 rfl (by first | exact idArr_size _ | exact bytesF_size _ _) rfl fun f h => s_run hFT9 1 h rfl fun f h => s_load_at (Has.subL (Has.of_own s 0 rfl) 0 32 (D := idArr (_)) (tgArr_id _)) h row26 rfl (by first | exact idArr_size _ | exact bytesF_size _ _) rfl fun f h => s_cv h s fnc74 (compare_any x.1 y.1 _) rfl rfl fun f w1 h s => e9 hFT9 1 h rfl fun f h => wpIn_ret (e_tmp rfl h s rfl (rfl)))

theorem tbykind_any (x y : Tg) (w : World) : Calls Tryd.prog 58 [.agg (tgArr x), .agg (tgArr y)].toArray w (Ret w (is (.int .i64 (cmQ x y 1)))) := by
  refine c_en Tryd.func58 rfl Tryd.ntmps58 rfl fun f h s => qr (s_box (tgArr x) h s rfl rfl rfl fun f w1 b2 h s => s_box (tgArr y) h s rfl rfl rfl fun f w1 b3 h s => e9 hFT9 1 h rfl fun f h => qrs hFT9 2 h rfl fun f h => s_load_at1 (cell_of_has (Has.of_own s 1 rfl) 32 (tgArr_kind _)) h one3 rfl rfl fun f h => s_run hFT9 2 h rfl fun f h => s_load_at1 (cell_of_has (Has.of_own s 0 rfl) 32 (tgArr_kind _)) h one3 rfl rfl fun f h => s_cv h s fnc75 (icmp_any x.2.1.1 y.2.1.1 _) rfl rfl fun f w1 h s => e9 hFT9 1 h rfl fun f h => wpIn_ret (e_tmp rfl h s rfl (rfl)))

theorem tbytid_any (x y : Tg) (w : World) : Calls Tryd.prog 59 [.agg (tgArr x), .agg (tgArr y)].toArray w (Ret w (is (.int .i64 (cmQ x y 2)))) := by
  refine c_en Tryd.func59 rfl Tryd.ntmps59 rfl fun f h s => qr (s_box (tgArr x) h s rfl rfl rfl fun f w1 b2 h s => s_box (tgArr y) h s rfl rfl rfl fun f w1 b3 h s => e9 hFT9 1 h rfl fun f h => qrs hFT9 2 h rfl fun f h => s_load_at (Has.subL (Has.of_own s 1 rfl) 33 32 (D := idArr (_)) (tgArr_tid _)) h row26 rfl (by first | exact idArr_size _ | exact bytesF_size _ _) rfl fun f h => s_run hFT9 2 h rfl fun f h => s_load_at (Has.subL (Has.of_own s 0 rfl) 33 32 (D := idArr (_)) (tgArr_tid _)) h row26 rfl (by first | exact idArr_size _ | exact bytesF_size _ _) rfl fun f h => s_cv h s fnc74 (compare_any x.2.1.2.1 y.2.1.2.1 _) rfl rfl fun f w1 h s => e9 hFT9 1 h rfl fun f h => wpIn_ret (e_tmp rfl h s rfl (rfl)))

theorem tbyhost_any (x y : Tg) (w : World) : Calls Tryd.prog 60 [.agg (tgArr x), .agg (tgArr y)].toArray w (Ret w (is (.int .i64 (cmQ x y 3)))) := by
  refine c_en Tryd.func60 rfl Tryd.ntmps60 rfl fun f h s => qr (s_box (tgArr x) h s rfl rfl rfl fun f w1 b2 h s => s_box (tgArr y) h s rfl rfl rfl fun f w1 b3 h s => e9 hFT9 1 h rfl fun f h => qrs hFT9 2 h rfl fun f h => s_load_at1 (cell_of_has (Has.of_own s 1 rfl) 65 (tgArr_host _)) h one3 rfl rfl fun f h => s_run hFT9 2 h rfl fun f h => s_load_at1 (cell_of_has (Has.of_own s 0 rfl) 65 (tgArr_host _)) h one3 rfl rfl fun f h => s_cv h s fnc75 (icmp_any x.2.1.2.2 y.2.1.2.2 _) rfl rfl fun f w1 h s => e9 hFT9 1 h rfl fun f h => wpIn_ret (e_tmp rfl h s rfl (rfl)))

theorem by4_any (x y : Tg) (k : Nat) (hk : k < 4) (w : World) : Fnc Tryd.prog (fn4 57 58 59 60 k) ∧ Calls Tryd.prog (fn4 57 58 59 60 k) [.agg (tgArr x), .agg (tgArr y)].toArray w (Ret w (is (.int .i64 (cmQ x y k)))) := by
  match k, hk with
  | 0, _ => exact ⟨fnc57, tbyid_any x y w⟩
  | 1, _ => exact ⟨fnc58, tbykind_any x y w⟩
  | 2, _ => exact ⟨fnc59, tbytid_any x y w⟩
  | 3, _ => exact ⟨fnc60, tbyhost_any x y w⟩

theorem tcompare_any (x y : Tg) (w : World) : Calls Tryd.prog 42 [.agg (tgArr x), .agg (tgArr y)].toArray w (Ret w (is (.int .i64 (cmT x y)))) := by
  refine c_en Tryd.func42 rfl Tryd.ntmps42 rfl fun f h s => qr (s_box (tgArr x) h s rfl rfl rfl fun f w1 b2 h s => s_box (tgArr y) h s rfl rfl rfl fun f w1 b3 h s => e9 hFT9 1 h rfl fun f h => qr (s_pure h (ru_build_arr [.func 57, .func 58, .func 59, .func 60] [.func (.func 57) #[] #[], .func (.func 58) #[] #[], .func (.func 59) #[] #[], .func (.func 60) #[] #[]] Tryd.underlying125 size122 ⟨_, zero125, rfl⟩ rfl (evs h rfl) (by simp [Value.cells]) rfl) rfl fun f h => s_alloc (#[.nilFunc, .nilFunc, .nilFunc, .nilFunc]) h s zero125 rfl rfl fun f w1 b5 h s => s_store_row 0 h s row125 rfl rfl rfl (rfl) (rfl) (by decide) fun w1 s => nt (c_seqN (qr (s_load_row 0 h s row125 rfl rfl (rfl) rfl fun f h => e9 hFT9 1 h rfl fun f h => wpIn_block (wpIn_loop_ghost (fun nn aa ww => ∃ k : Nat, Sl 22 aa [(0, .agg (tgArr x)), (1, .agg (tgArr y)), (2, .pointer (some ⟨b2, 0, none⟩)), (3, .pointer (some ⟨b3, 0, none⟩)), (5, .pointer (some ⟨b5, 0, none⟩)), (10, .agg (#[.func (.func 57) #[] #[], .func (.func 58) #[] #[], .func (.func 59) #[] #[], .func (.func 60) #[] #[]])), (11, .int .i64 (k : Int))] ∧ St w [.blk b5 (.cells (#[.func (.func 57) #[] #[], .func (.func 58) #[] #[], .func (.func 59) #[] #[], .func (.func 60) #[] #[]]) 125), .blk b3 (.cells (tgArr y) 41), .blk b2 (.cells (tgArr x) 41)] ww ∧ nn = 4 - k ∧ k ≤ 4 ∧ ∀ j, j < k → cmQ x y j = 0) (4 - (0)) ⟨0, h.only ⟨rfl, rfl, rfl, rfl, rfl, rfl, slot_int rfl (by omega), trivial⟩, s.as ⟨rfl, rfl, rfl, trivial⟩, rfl, Nat.zero_le _, fun j hj => absurd hj (Nat.not_lt_zero _)⟩ ?_))))))
  rintro _ f w1 ⟨k, h, s, hnn, hp0, hp1⟩
  refine qre hFT9 1 h rfl fun f h => c_seqN (c_cd h rfl (fun hc => ?_) (fun hc => ?_))
  · refine kt (c_seqN (wpIn_block (qr ?_)))
    have hk4 : k < 4 := by omega
    obtain ⟨hfn4, _⟩ := by4_any x y k hk4 w
    refine s_pure h (ru_index_fn k Tryd.underlying125 size122 Tryd.underlying122 (h.ev rfl) (h.ev rfl) rfl (by omega) (fn4_at hk4)) rfl fun f h => e9 hFT9 1 h rfl fun f h => qrs hFT9 1 h rfl fun f h => s_load_row 2 h s row41 rfl rfl (tgArr_size _) rfl fun f h => s_load_row 1 h s row41 rfl rfl (tgArr_size _) rfl fun f h => s_callV [.agg (tgArr x), .agg (tgArr y)] (caps := []) h s hfn4 rfl (by4_any x y k hk4 _).2 rfl rfl ?_; intro f w1 v17 hT hE h s; obtain rfl := hT
    refine e9 hFT9 1 h rfl fun f h => qre hFT9 2 h rfl fun f h => c_cond h rfl (fun hc => ?_) (fun hc => ?_)
    · have hc := of_decide_eq_true hc
      refine qre hFT9 2 h rfl fun f h => wpIn_ret (b_ret (t_ret (t_ret (b_ret (t_ret (e_tmp rfl h s rfl (by show _ = _; rw [cmT_hit hk4 hp1 hc])))))))
    · have hc := Decidable.of_not_not (of_decide_eq_false hc)
      refine wpIn_skip (b_norm (t_norm (c_region (s_pure h (ru_add (h.ev rfl) (h.ev rfl) (by omega)) rfl fun f h => e9 hFT9 1 h rfl fun f h => ?_))))
      exact ⟨_, by omega, ⟨k + 1, h.only ⟨rfl, rfl, rfl, rfl, rfl, rfl, slot_int rfl (by omega), trivial⟩, St.as s ⟨rfl, rfl, rfl, trivial⟩, rfl, by omega, cq_next hp1 hc⟩⟩
  · refine wpIn_exit (t_exit (t_exit (b_exit (t_norm (qre hFT9 1 h rfl fun f h => wpIn_ret (e_tmp rfl h s rfl (by show _ = _; rw [cmT_out (fun j hj => hp1 j (by omega))])))))))

theorem isright_any (x : Tg) (w : World) : Calls Tryd.prog 41 [.agg (tgArr x)].toArray w (Ret w (is (.bool (mayT x)))) := by
  refine c_en Tryd.func41 rfl Tryd.ntmps41 rfl fun f h s => qr (s_box (tgArr x) h s rfl rfl rfl fun f w1 b1 h s => e9 hFT9 1 h rfl fun f h => c_seqN ?_)
  refine rs hFT9 1 h rfl fun f h => s_load_at (Has.subL (Has.of_own s 0 rfl) 32 34 (D := eArr (_)) (tgArr_tg _)) h row28 rfl (eArr_size _) rfl fun f h => s_cx h s fnc24 (is_any x.2.1 _) rfl rfl (fun h0 f w1 h s => ?_) (fun h0 f w1 h s => ?_)
  · refine e9 hFT9 11 h rfl fun f h => wpIn_ret (e_tmp rfl h s rfl (by show _ = _; unfold mayT; rw [h0] <;> rfl))
  · skip
    refine s_run hFT9 2 h rfl fun f h => s_o h rfl (s_load_at1 (cell_of_has (Has.of_own s 0 rfl) 66 (tgArr_until _)) h one3 rfl rfl fun f h => s_o h rfl (s_ax hFT9 h rfl (fun h1 f h => ?_) (fun h1 f h => ?_)))
    · refine e9 hFT9 7 h rfl fun f h => wpIn_ret (e_tmp rfl h s rfl (by show _ = _; unfold mayT; rw [h0, h1] <;> rfl))
    · refine s_run hFT9 3 h rfl fun f h => s_o h rfl (s_load_at1 (cell_of_has (Has.of_own s 0 rfl) 66 (tgArr_until _)) h one3 rfl rfl fun f h => e9 hFT9 3 h rfl fun f h => wpIn_ret (e_tmp rfl h s rfl (by show _ = _; unfold mayT; rw [h0, h1] <;> rfl)))

theorem tright_any (l : List Tg) (vh : Value) (w : World) (hR : RdZ w vh 67 l.length (tgCells l)) (hln : l.length ≤ 1000) : Calls Tryd.prog 31 [vh].toArray w (Ret w (is (.bool (rightT l)))) := by
  refine c_en Tryd.func31 rfl Tryd.ntmps31 rfl fun f h s => qre hFT9 1 h rfl fun f h => c_seqN (qrs hFT9 1 h rfl fun f h => s_lz h (hR.keep s.ext) Tryd.underlying22 rfl rfl fun f h => e9 hFT9 1 h rfl fun f h => c_cond h rfl (fun hc => ?_) (fun hc => ?_))
  · have h32 : ¬ l.length ≤ 32 := by have := of_decide_eq_true hc; omega
    refine qre hFT9 1 h rfl fun f h => rt (e_tmp rfl h s rfl (by first | (unfold rightT; rw [decide_eq_false h32, Bool.and_false]; rfl) | (obtain rfl : k = l.length := (by omega); show _ = _; rw [right_end hp1]; exact congrArg Value.bool (decide_eq_true h32).symm)))
  · have h32 : l.length ≤ 32 := by have := of_decide_eq_false hc; omega
    refine kt (c_seqN (qrs hFT9 1 h rfl fun f h => s_lz h (hR.keep s.ext) Tryd.underlying22 rfl rfl fun f h => e9 hFT9 1 h rfl fun f h => wpIn_block (wpIn_loop_ghost (fun nn aa ww => ∃ k : Nat, Sl 33 aa [(0, vh), (8, vh), (9, .int .i64 (l.length : Int)), (10, .int .i64 (k : Int))] ∧ St w [] ww ∧ nn = l.length - k ∧ k ≤ l.length ∧ ∀ j, j < k → okG l j = true) (l.length - (0)) ⟨0, h.only ⟨rfl, rfl, rfl, slot_int rfl (by omega), trivial⟩, s.as trivial, rfl, Nat.zero_le _, fun j hj => absurd hj (Nat.not_lt_zero _)⟩ ?_)))
    rintro _ f w1 ⟨k, h, s, hnn, hp0, hp1⟩
    refine qre hFT9 1 h rfl fun f h => c_seqN (c_cd h rfl (fun hc => ?_) (fun hc => ?_))
    · refine kt (c_seqN (wpIn_block (qrs hFT9 1 h rfl fun f h => ?_)))
      have hkl : k < l.length := by omega
      refine s_pure h (ru_ixz (hR.keep s.ext) (k) Tryd.underlying22 szo41 (h.ev rfl) (h.ev rfl) (by omega) (by omega)) rfl fun f h => s_load_at ((hR.keep s.ext).el (k) (by omega) (by decide) (D := tgArr (l.getD k zTg)) (tgr_el l k hkl)) h row41 rfl (tgArr_size _) rfl fun f h => s_alloc (tgArr zTg) h s zero41 rfl rfl fun f w1 b4 h s => s_run hFT9 1 h rfl fun f h => s_store_row 0 h s row41 rfl rfl rfl (tgArr_size _) (tgArr_size _) (tgArr_ones _) fun w1 s => nt (c_seqN ?_)
      cases h0 : (mayT (l.getD k zTg) : Bool)
      · refine c_wA 17 h (by kernel_rfl) (w_load_row 0 h s row41 rfl rfl (tgArr_size _) rfl fun f h => w_call h fnc41 (fun w9 hE9 => ret_val (.bool false) (isright_any (l.getD k zTg) w9) (congrArg Value.bool h0)) rfl rfl fun f h => w_run hFT9 15 h rfl fun f h => w_nil s fun w1 s => nct h rfl (qre hFT9 1 h rfl fun f h => wpIn_ret (b_ret (t_ret (t_ret (b_ret (t_ret (e_tmp rfl h s rfl (by show _ = _; rw [right_stop hkl (ok_0 h0)])))))))))
      · skip
        cases h1 : (decide (k = 0) : Bool)
        · skip
          cases h2 : (ltT (l.getD (k - 1) zTg) (l.getD k zTg) : Bool)
          · refine c_wA 17 h (by kernel_rfl) (w_load_row 0 h s row41 rfl rfl (tgArr_size _) rfl fun f h => w_call h fnc41 (fun w9 hE9 => ret_val (.bool true) (isright_any (l.getD k zTg) w9) (congrArg Value.bool h0)) rfl rfl fun f h => w_run hFT9 3 h rfl fun f h => w_o h rfl (w_at hFT9 h rfl (decide_eq_true (by have := of_decide_eq_false h1; omega)) fun f h => w_run hFT9 3 h rfl fun f h => w_o h rfl (w_pure h (ru_sub (h.ev rfl) (h.ev rfl) (by omega)) rfl fun f h => w_o h rfl (w_pure h (ru_ixz (hR.keep s.ext) ((k - 1)) Tryd.underlying22 szo41 (h.ev rfl) (h.ev rfl) (by have := of_decide_eq_false h1; omega) (by omega)) rfl fun f h => w_o h rfl (w_load_at ((hR.keep s.ext).el ((k - 1)) (by omega) (by decide) (D := tgArr (l.getD (k - 1) zTg)) (tgr_el l (k - 1) (by omega))) h row41 rfl (tgArr_size _) rfl fun f h => w_o h rfl (w_load_row 0 h s row41 rfl rfl (tgArr_size _) rfl fun f h => w_o h rfl (w_call h fnc42 (fun w9 hE9 => tcompare_any (l.getD (k - 1) zTg) (l.getD k zTg) w9) rfl rfl fun f h => w_o h rfl (w_at hFT9 h rfl ((cmT_ge _ _).trans (by rw [h2]; rfl)) fun f h => w_run hFT9 2 h rfl fun f h => w_nil s fun w1 s => nct h rfl (qre hFT9 1 h rfl fun f h => wpIn_ret (b_ret (t_ret (t_ret (b_ret (t_ret (e_tmp rfl h s rfl (by show _ = _; rw [right_stop hkl ((ok_2 h0 (of_decide_eq_false h1)).trans h2)]))))))))))))))))
          · refine c_wA 17 h (by kernel_rfl) (w_load_row 0 h s row41 rfl rfl (tgArr_size _) rfl fun f h => w_call h fnc41 (fun w9 hE9 => ret_val (.bool true) (isright_any (l.getD k zTg) w9) (congrArg Value.bool h0)) rfl rfl fun f h => w_run hFT9 3 h rfl fun f h => w_o h rfl (w_at hFT9 h rfl (decide_eq_true (by have := of_decide_eq_false h1; omega)) fun f h => w_run hFT9 3 h rfl fun f h => w_o h rfl (w_pure h (ru_sub (h.ev rfl) (h.ev rfl) (by omega)) rfl fun f h => w_o h rfl (w_pure h (ru_ixz (hR.keep s.ext) ((k - 1)) Tryd.underlying22 szo41 (h.ev rfl) (h.ev rfl) (by have := of_decide_eq_false h1; omega) (by omega)) rfl fun f h => w_o h rfl (w_load_at ((hR.keep s.ext).el ((k - 1)) (by omega) (by decide) (D := tgArr (l.getD (k - 1) zTg)) (tgr_el l (k - 1) (by omega))) h row41 rfl (tgArr_size _) rfl fun f h => w_o h rfl (w_load_row 0 h s row41 rfl rfl (tgArr_size _) rfl fun f h => w_o h rfl (w_call h fnc42 (fun w9 hE9 => tcompare_any (l.getD (k - 1) zTg) (l.getD k zTg) w9) rfl rfl fun f h => w_o h rfl (w_af hFT9 h rfl ((cmT_ge _ _).trans (by rw [h2]; rfl)) fun f h => w_run hFT9 2 h rfl fun f h => w_nil s fun w1 s => ncf h rfl (wpIn_skip (b_norm (t_norm (c_region (s_pure h (ru_add (h.ev rfl) (h.ev rfl) (by omega)) rfl fun f h => e9 hFT9 1 h rfl fun f h => ?_)))))))))))))
            exact ⟨_, by omega, ⟨k + 1, h.only ⟨rfl, rfl, rfl, slot_int rfl (by omega), trivial⟩, St.as (s.pick _ (List.sublist_append_right [_] _)) trivial, rfl, by omega, qs_nextT hp1 ((ok_2 h0 (of_decide_eq_false h1)).trans h2)⟩⟩
        · refine c_wA 17 h (by kernel_rfl) (w_load_row 0 h s row41 rfl rfl (tgArr_size _) rfl fun f h => w_call h fnc41 (fun w9 hE9 => ret_val (.bool true) (isright_any (l.getD k zTg) w9) (congrArg Value.bool h0)) rfl rfl fun f h => w_run hFT9 3 h rfl fun f h => w_o h rfl (w_af hFT9 h rfl (decide_eq_false (by have := of_decide_eq_true h1; omega)) fun f h => w_run hFT9 11 h rfl fun f h => w_nil s fun w1 s => ncf h rfl (wpIn_skip (b_norm (t_norm (c_region (s_pure h (ru_add (h.ev rfl) (h.ev rfl) (by omega)) rfl fun f h => e9 hFT9 1 h rfl fun f h => ?_)))))))
          exact ⟨_, by omega, ⟨k + 1, h.only ⟨rfl, rfl, rfl, slot_int rfl (by omega), trivial⟩, St.as (s.pick _ (List.sublist_append_right [_] _)) trivial, rfl, by omega, qs_nextT hp1 (ok_1 h0 (of_decide_eq_true h1))⟩⟩
    · refine wpIn_exit (t_exit (t_exit (b_exit (t_norm (qre hFT9 1 h rfl fun f h => wpIn_ret (e_tmp rfl h s rfl (by first | (unfold rightT; rw [decide_eq_false h32, Bool.and_false]; rfl) | (obtain rfl : k = l.length := (by omega); show _ = _; rw [right_end hp1]; exact congrArg Value.bool (decide_eq_true h32).symm))))))))

theorem tbsearch_any (l : List Tg) (vh : Value) (x : Tg) (w : World) (hR : RdZ w vh 67 l.length (tgCells l)) (hln : l.length ≤ 1000) (hs9 : Srt l) : Calls Tryd.prog 80 [vh, .agg (tgArr x), .func (.func 42) #[] #[]].toArray w (Ret w (fun v _ => ∃ n b, v = .tuple #[.int .i64 ((n : Nat) : Int), .bool b] ∧ FndT l x n b)) := by
  refine c_en Tryd.func80 rfl Tryd.ntmps80 rfl fun f h s => qr (s_box (tgArr x) h s rfl rfl rfl fun f w1 b4 h s => e9 hFT9 2 h rfl fun f h => qrs hFT9 1 h rfl fun f h => s_lz h (hR.keep s.ext) Tryd.underlying22 rfl rfl fun f h => e9 hFT9 1 h rfl fun f h => qre hFT9 3 h rfl fun f h => c_seqN (wpIn_block (wpIn_loop_ghost (fun nn aa ww => ∃ i : Nat, ∃ j : Nat, Sl 49 aa [(1, .agg (tgArr x)), (4, .pointer (some ⟨b4, 0, none⟩)), (0, vh), (2, .func (.func 42) #[] #[]), (8, .int .i64 (l.length : Int)), (9, .int .i64 (i : Int)), (10, .int .i64 (j : Int))] ∧ St w [.blk b4 (.cells (tgArr x) 41)] ww ∧ nn = j - i ∧ i ≤ j ∧ j ≤ l.length ∧ (∀ q, q < i → ltT (l.getD q zTg) x = true) ∧ ∀ q, j ≤ q → q < l.length → ltT (l.getD q zTg) x = false) ((l.length) - (0)) ⟨0, l.length, h.only ⟨rfl, rfl, rfl, rfl, rfl, slot_int rfl (by omega), slot_int rfl (by omega), trivial⟩, s.as ⟨rfl, trivial⟩, rfl, Nat.zero_le _, Nat.le_refl _, fun q hq => absurd hq (Nat.not_lt_zero _), fun q h1 h2 => absurd h2 (by omega)⟩ ?_)))
  rintro _ f w1 ⟨i, j, h, s, hnn, hp0, hp1, hp2, hp3⟩
  refine c_seqN (qre hFT9 3 h rfl fun f h => c_cd h rfl (fun hc => ?_) (fun hc => ?_))
  · refine kt (wpIn_block (qrs hFT9 2 h rfl fun f h => s_pure h (ru_add (h.ev rfl) (h.ev rfl) (by omega)) rfl fun f h => s_pure h (ru_conv_in Tryd.underlying3 Tryd.underlying121 (h.ev rfl) (IntWalk.u64_in _ (by omega))) rfl fun f h => s_pure h (ru_val (.int .u64 ((((i + j) / 2) : Nat) : Int)) (ru_shr (h.ev rfl) (h.ev rfl) (by omega)) (congrArg (Value.int .u64) (mid_shr i j))) rfl fun f h => s_pure h (ru_conv_in Tryd.underlying121 Tryd.underlying3 (h.ev rfl) (IntWalk.i64_in _ (by omega))) rfl fun f h => e9 hFT9 1 h rfl fun f h => c_seqN ?_))
    cases hq : (ltT (l.getD ((i + j) / 2) zTg) x : Bool)
    · refine c_wA 8 h (by kernel_rfl) (w_run hFT9 3 h rfl fun f h => w_pure h (ru_ixz (hR.keep s.ext) (((i + j) / 2)) Tryd.underlying22 szo41 (h.ev rfl) (h.ev rfl) (rfl) (by omega)) rfl fun f h => w_load_at ((hR.keep s.ext).el (((i + j) / 2)) (by omega) (by decide) (D := tgArr (l.getD ((i + j) / 2) zTg)) (tgr_el l _ (by omega))) h row41 rfl (tgArr_size _) rfl fun f h => w_load_row 0 h s row41 rfl rfl (tgArr_size _) rfl fun f h => w_callV [.agg (tgArr (l.getD ((i + j) / 2) zTg)), .agg (tgArr x)] (caps := []) h fnc42 rfl (fun w9 h9 => tcompare_any _ _ w9) rfl rfl ?_); intro f h
      refine w_af hFT9 h rfl ((cmT_neg _ _).trans hq) fun f h => w_nil s fun w1 s => ncf h rfl (rs hFT9 2 h rfl fun f h => s_nil (b_norm (t_norm ?_)))
      exact ⟨_, by omega, ⟨i, ((i + j) / 2), h.only ⟨rfl, rfl, rfl, rfl, rfl, slot_int rfl (by omega), slot_int rfl (by omega), trivial⟩, St.as s ⟨rfl, trivial⟩, rfl, by omega, by omega, hp2, bs_hi hs9 hq⟩⟩
    · refine c_wA 8 h (by kernel_rfl) (w_run hFT9 3 h rfl fun f h => w_pure h (ru_ixz (hR.keep s.ext) (((i + j) / 2)) Tryd.underlying22 szo41 (h.ev rfl) (h.ev rfl) (rfl) (by omega)) rfl fun f h => w_load_at ((hR.keep s.ext).el (((i + j) / 2)) (by omega) (by decide) (D := tgArr (l.getD ((i + j) / 2) zTg)) (tgr_el l _ (by omega))) h row41 rfl (tgArr_size _) rfl fun f h => w_load_row 0 h s row41 rfl rfl (tgArr_size _) rfl fun f h => w_callV [.agg (tgArr (l.getD ((i + j) / 2) zTg)), .agg (tgArr x)] (caps := []) h fnc42 rfl (fun w9 h9 => tcompare_any _ _ w9) rfl rfl ?_); intro f h
      refine w_at hFT9 h rfl ((cmT_neg _ _).trans hq) fun f h => w_nil s fun w1 s => nct h rfl (rs hFT9 1 h rfl fun f h => s_pure h (ru_add (h.ev rfl) (h.ev rfl) (by omega)) rfl fun f h => s_run hFT9 1 h rfl fun f h => s_nil (b_norm (t_norm ?_)))
      exact ⟨_, by omega, ⟨((i + j) / 2) + 1, j, h.only ⟨rfl, rfl, rfl, rfl, rfl, slot_int rfl (by omega), slot_int rfl (by omega), trivial⟩, St.as s ⟨rfl, trivial⟩, rfl, by omega, hp1, bs_lo hs9 (by omega) hq, hp3⟩⟩
  · refine wpIn_exit (t_exit (t_exit (b_exit (t_norm (c_seqN ?_)))))
    refine c_wA 16 h (by kernel_rfl) (w_run hFT9 3 h rfl fun f h => w_ay hFT9 (decide (i < l.length)) h rfl ((decide_eq_decide.2 (by omega))) (fun hn f h => ?_) (fun hn f h => ?_))
    · refine w_run hFT9 12 h rfl fun f h => w_nil s fun w1 s => nt (wpIn_ret (e_tmps rfl h s rfl rfl (⟨i, _, rfl, ⟨by omega, hp2, fun q h1 h2 => hp3 q (by omega) h2, by rw [hn]; rfl⟩⟩)))
    · skip
      cases he : (isT x.1 x.2.1 (l.getD i zTg) : Bool)
      · refine w_run hFT9 4 h rfl fun f h => w_o h rfl ?_
        have hil : i < l.length := of_decide_eq_true hn
        refine w_pure h (ru_ixz (hR.keep s.ext) (i) Tryd.underlying22 szo41 (h.ev rfl) (h.ev rfl) (rfl) (by omega)) rfl fun f h => w_o h rfl (w_load_at ((hR.keep s.ext).el (i) (by omega) (by decide) (D := tgArr (l.getD i zTg)) (tgr_el l i hil)) h row41 rfl (tgArr_size _) rfl fun f h => w_o h rfl (w_load_row 0 h s row41 rfl rfl (tgArr_size _) rfl fun f h => w_o h rfl (w_callV [.agg (tgArr (l.getD i zTg)), .agg (tgArr x)] (caps := []) h fnc42 rfl (fun w9 h9 => tcompare_any _ _ w9) rfl rfl ?_))); intro f h
        refine w_o h rfl (w_af hFT9 h rfl ((cmT_zero _ _).trans he) fun f h => w_run hFT9 3 h rfl fun f h => w_nil s fun w1 s => nt (wpIn_ret (e_tmps rfl h s rfl rfl (⟨i, _, rfl, ⟨by omega, hp2, fun q h1 h2 => hp3 q (by omega) h2, by rw [hn, he]; rfl⟩⟩))))
      · refine w_run hFT9 4 h rfl fun f h => w_o h rfl ?_
        have hil : i < l.length := of_decide_eq_true hn
        refine w_pure h (ru_ixz (hR.keep s.ext) (i) Tryd.underlying22 szo41 (h.ev rfl) (h.ev rfl) (rfl) (by omega)) rfl fun f h => w_o h rfl (w_load_at ((hR.keep s.ext).el (i) (by omega) (by decide) (D := tgArr (l.getD i zTg)) (tgr_el l i hil)) h row41 rfl (tgArr_size _) rfl fun f h => w_o h rfl (w_load_row 0 h s row41 rfl rfl (tgArr_size _) rfl fun f h => w_o h rfl (w_callV [.agg (tgArr (l.getD i zTg)), .agg (tgArr x)] (caps := []) h fnc42 rfl (fun w9 h9 => tcompare_any _ _ w9) rfl rfl ?_))); intro f h
        refine w_o h rfl (w_at hFT9 h rfl ((cmT_zero _ _).trans he) fun f h => w_run hFT9 3 h rfl fun f h => w_nil s fun w1 s => nt (wpIn_ret (e_tmps rfl h s rfl rfl (⟨i, _, rfl, ⟨by omega, hp2, fun q h1 h2 => hp3 q (by omega) h2, by rw [hn, he]; rfl⟩⟩))))

theorem tfind_any (l : List Tg) (vh : Value) (x : Tg) (w : World) (hR : RdZ w vh 67 l.length (tgCells l)) (hln : l.length ≤ 1000) (hs9 : Srt l) : Calls Tryd.prog 64 [vh, .agg (tgArr x)].toArray w (Ret w (fun v _ => ∃ n b, v = .tuple #[.int .i64 ((n : Nat) : Int), .bool b] ∧ FndT l x n b)) := by
  refine c_en Tryd.func64 rfl Tryd.ntmps64 rfl fun f h s => qr (s_box (tgArr x) h s rfl rfl rfl fun f w1 b3 h s => e9 hFT9 2 h rfl fun f h => qrs hFT9 1 h rfl fun f h => s_load_row 0 h s row41 rfl rfl (tgArr_size _) rfl fun f h => s_call h s fnc80 (tbsearch_any l vh x _ (hR.keep s.ext) hln hs9) rfl rfl ?_); rintro f w1 v8 ⟨n, b, rfl, hf9⟩ hE h s
  refine e9 hFT9 4 h rfl fun f h => wpIn_ret (e_tmps rfl h s rfl rfl (⟨n, b, rfl, hf9⟩))

theorem tonly_any (l : List Tg) (vh : Value) (g9 : Nat) (caps : List Value) (p : Tg → Bool) (w : World) (hR : RdZ w vh 67 l.length (tgCells l)) (hln : l.length ≤ 1000) (hg : Fnc Tryd.prog g9) (hp : ∀ w9, Ext w w9 → ∀ y ∈ l, Calls Tryd.prog g9 (.agg (tgArr y) :: caps).toArray w9 (Ret w9 (is (.bool (p y))))) : Calls Tryd.prog 52 [vh, .func (.func g9) #[] caps.toArray].toArray w (Ret w (fun v w' => Owns w' w.heap.size 41 67 v (l.filter p).length (tgCells (l.filter p)))) := by
  refine c_en Tryd.func52 rfl Tryd.ntmps52 rfl fun f h s => qre hFT9 1 h rfl fun f h => qre hFT9 1 h rfl fun f h => c_seqN (qr ?_)
  replace s := s.nilSl 41 67
  refine s_run hFT9 1 h rfl fun f h => s_lz h (hR.keep s.ext) Tryd.underlying22 rfl rfl fun f h => e9 hFT9 1 h rfl fun f h => wpIn_block (wpIn_loop_ghost (fun nn aa ww => ∃ k : Nat, ∃ vb : Value, Sl 23 aa [(0, vh), (1, .func (.func g9) #[] caps.toArray), (5, vb), (8, vh), (9, .int .i64 (l.length : Int)), (10, .int .i64 (k : Int))] ∧ St w [.sl vb 41 67 ((l.take k).filter p).length (tgCells ((l.take k).filter p))] ww ∧ nn = l.length - k ∧ k ≤ l.length) (l.length - (0)) ⟨0, nilV, h.only ⟨rfl, rfl, rfl, rfl, rfl, slot_int rfl (by omega), trivial⟩, s.as ⟨rfl, trivial⟩, rfl, Nat.zero_le _⟩ ?_)
  rintro _ f w1 ⟨k, vb, h, s, hnn, hp0⟩
  refine qre hFT9 1 h rfl fun f h => c_seqN (c_cd h rfl (fun hc => ?_) (fun hc => ?_))
  · refine kt (c_seqN (wpIn_block (qr ?_)))
    have hkl : k < l.length := by omega
    refine s_pure h (ru_ixz (hR.keep s.ext) (k) Tryd.underlying22 szo41 (h.ev rfl) (h.ev rfl) (by omega) (by omega)) rfl fun f h => s_load_at ((hR.keep s.ext).el (k) (by omega) (by decide) (D := tgArr (l.getD k zTg)) (tgr_el l k hkl)) h row41 rfl (tgArr_size _) rfl fun f h => s_alloc (tgArr zTg) h s zero41 rfl rfl fun f w1 b7 h s => s_store_row 0 h s row41 rfl rfl rfl (tgArr_size _) (tgArr_size _) (tgArr_ones _) fun w1 s => nt (qrs hFT9 1 h rfl fun f h => s_load_row 0 h s row41 rfl rfl (tgArr_size _) rfl fun f h => s_callV [.agg (tgArr (l.getD k zTg))] (caps := caps) h s hg rfl (hp _ s.ext _ (tg_mem hkl)) rfl rfl ?_); intro f w1 v16 hT hE h s; obtain rfl := hT
    refine nt (c_cond h rfl (fun hc => ?_) (fun hc => ?_))
    · have hq : p (l.getD k zTg) = true := hc
      refine rs hFT9 1 h rfl fun f h => s_load_row 0 h s row41 rfl rfl (tgArr_size _) rfl fun f h => s_bslice (vs := [.agg (tgArr (l.getD k zTg))]) [.tmp 18] h s Tryd.underlying22 elm41 rfl rfl (tg_sz _) rfl rfl rfl fun f w1 v19 h s => s_append 2 0 h s Tryd.underlying22 elm41 rfl rfl rfl rfl (by decide) (by rw [one_tg]; exact tgArr_ones _) (by have h9 := flt_le l p k; unfold maxLen; omega) (by have h9 := flt_le l p k; omega) rfl fun f w1 v20 h s => ?_
      replace s := s.pick _ (List.sublist_cons_self _ _)
      replace s := s.resl (m := ((l.take (k + 1)).filter p).length) (ys := tgCells ((l.take (k + 1)).filter p)) 1 rfl (by rw [flt_y hkl hq, List.length_append]; rfl) (by rw [flt_y hkl hq, one_tg, tg_snoc])
      refine s_run hFT9 1 h rfl fun f h => s_nil (b_norm (t_norm (c_region (s_pure h (ru_add (h.ev rfl) (h.ev rfl) (by omega)) rfl fun f h => e9 hFT9 1 h rfl fun f h => ?_))))
      exact ⟨_, by omega, ⟨k + 1, v20, h.only ⟨rfl, rfl, rfl, rfl, rfl, slot_int rfl (by omega), trivial⟩, St.as (s.pick _ (List.sublist_append_right [_] _)) ⟨rfl, trivial⟩, rfl, by omega⟩⟩
    · have hq : p (l.getD k zTg) = false := hc
      refine wpIn_skip (b_norm (t_norm (c_region (s_pure h (ru_add (h.ev rfl) (h.ev rfl) (by omega)) rfl fun f h => e9 hFT9 1 h rfl fun f h => ?_))))
      exact ⟨_, by omega, ⟨k + 1, vb, h.only ⟨rfl, rfl, rfl, rfl, rfl, slot_int rfl (by omega), trivial⟩, St.as (s.pick _ (List.sublist_append_right [_] _)) ⟨sl_eq (by rw [flt_n hkl hq]) (by rw [flt_n hkl hq]), trivial⟩, rfl, by omega⟩⟩
  · refine wpIn_exit (t_exit (t_exit (b_exit (t_norm (qre hFT9 2 h rfl fun f h => wpIn_ret (e_tmp rfl h s rfl ((by have h9 := s.getSl 0 rfl; rw [flt_end (by omega)] at h9; exact h9))))))))

theorem tfirst_any (l : List Tg) (vh : Value) (g9 : Nat) (caps : List Value) (m : Tg → Int) (le : Int) (w : World) (hR : RdZ w vh 67 l.length (tgCells l)) (hln : l.length ≤ 1000) (hg : Fnc Tryd.prog g9) (hp : ∀ w9, Ext w w9 → ∀ y ∈ l, Calls Tryd.prog g9 (.agg (tgArr y) :: caps).toArray w9 (Ret w9 (is (.int .i64 (m y))))) : Calls Tryd.prog 85 [vh, .func (.func g9) #[] caps.toArray, .int .i64 le].toArray w (Ret w (is (.tuple #[.agg (tgArr (fmS m le l l.length).1), .bool (fmS m le l l.length).2.2]))) := by
  refine c_en Tryd.func85 rfl Tryd.ntmps85 rfl fun f h s => qr (s_alloc (tgArr zTg) h s zero41 rfl rfl fun f w1 b6 h s => e9 hFT9 1 h rfl fun f h => qr (s_alloc (tgArr zTg) h s zero41 rfl rfl fun f w1 b8 h s => nt (qre hFT9 2 h rfl fun f h => c_seqN (qrs hFT9 1 h rfl fun f h => s_lz h (hR.keep s.ext) Tryd.underlying22 rfl rfl fun f h => e9 hFT9 1 h rfl fun f h => wpIn_block (wpIn_loop_ghost (fun nn aa ww => ∃ k : Nat, ∃ z : Tg, ∃ mo : Int, ∃ bi : Bool, Sl 40 aa [(0, vh), (6, .pointer (some ⟨b6, 0, none⟩)), (8, .pointer (some ⟨b8, 0, none⟩)), (1, .func (.func g9) #[] caps.toArray), (2, .int .i64 le), (9, .int .i64 mo), (10, .bool bi), (14, vh), (15, .int .i64 (l.length : Int)), (16, .int .i64 (k : Int))] ∧ St w [.blk b8 (.cells (tgArr z) 41), .blk b6 (.cells (tgArr zTg) 41)] ww ∧ nn = l.length - k ∧ k ≤ l.length ∧ (z, mo, bi) = fmS m le l k) (l.length - (0)) ⟨0, zTg, 0, false, h.only ⟨rfl, rfl, rfl, rfl, rfl, rfl, rfl, rfl, rfl, slot_int rfl (by omega), trivial⟩, s.as ⟨rfl, rfl, trivial⟩, rfl, Nat.zero_le _, rfl⟩ ?_)))))
  rintro _ f w1 ⟨k, z, mo, bi, h, s, hnn, hp0, hp1⟩
  refine qre hFT9 1 h rfl fun f h => c_seqN (c_cd h rfl (fun hc => ?_) (fun hc => ?_))
  · refine kt (c_seqN (wpIn_block (qr ?_)))
    have hkl : k < l.length := by omega
    refine s_pure h (ru_ixz (hR.keep s.ext) (k) Tryd.underlying22 szo41 (h.ev rfl) (h.ev rfl) (by omega) (by omega)) rfl fun f h => s_load_at ((hR.keep s.ext).el (k) (by omega) (by decide) (D := tgArr (l.getD k zTg)) (tgr_el l k hkl)) h row41 rfl (tgArr_size _) rfl fun f h => s_alloc (tgArr zTg) h s zero41 rfl rfl fun f w1 b12 h s => s_store_row 0 h s row41 rfl rfl rfl (tgArr_size _) (tgArr_size _) (tgArr_ones _) fun w1 s => nt (qrs hFT9 1 h rfl fun f h => s_load_row 0 h s row41 rfl rfl (tgArr_size _) rfl fun f h => s_callV [.agg (tgArr (l.getD k zTg))] (caps := caps) h s hg rfl (hp _ s.ext _ (tg_mem hkl)) rfl rfl ?_); intro f w1 v22 hT hE h s; obtain rfl := hT
    refine e9 hFT9 1 h rfl fun f h => c_seqN ?_
    refine rs hFT9 2 h rfl fun f h => s_ax hFT9 h rfl (fun h0 f h => ?_) (fun h0 f h => ?_)
    · refine s_run hFT9 4 h rfl fun f h => s_none h rfl rfl rfl rfl ?_; intro f h
      refine s_none h rfl rfl rfl rfl ?_; intro f h
      refine s_none h rfl rfl rfl rfl ?_; intro f h
      refine e9 hFT9 2 h rfl fun f h => c_cf h rfl (wpIn_skip (b_norm (t_norm (c_region (s_pure h (ru_add (h.ev rfl) (h.ev rfl) (by omega)) rfl fun f h => e9 hFT9 1 h rfl fun f h => ?_)))))
      exact ⟨_, by omega, ⟨k + 1, z, mo, bi, h.only ⟨rfl, rfl, rfl, rfl, rfl, rfl, rfl, rfl, rfl, slot_int rfl (by omega), trivial⟩, St.as (s.pick _ (List.sublist_append_right [_] _)) ⟨rfl, rfl, trivial⟩, rfl, by omega, fm_n hp1 (by rw [h0]; rfl)⟩⟩
    · skip
      refine s_run hFT9 1 h rfl fun f h => s_o h rfl (s_ax hFT9 h rfl (fun h1 f h => ?_) (fun h1 f h => ?_))
      · refine e9 hFT9 7 h rfl fun f h => c_ct h rfl (c_region (s_load_row 0 h s row41 rfl rfl (tgArr_size _) rfl fun f h => s_run hFT9 1 h rfl fun f h => s_store_row 1 h s row41 rfl rfl rfl (tgArr_size _) (tgArr_size _) (tgArr_ones _) fun w1 s => s_run hFT9 2 h rfl fun f h => s_nil (b_norm (t_norm (c_region (s_pure h (ru_add (h.ev rfl) (h.ev rfl) (by omega)) rfl fun f h => e9 hFT9 1 h rfl fun f h => ?_))))))
        exact ⟨_, by omega, ⟨k + 1, (l.getD k zTg), (m (l.getD k zTg)), true, h.only ⟨rfl, rfl, rfl, rfl, rfl, rfl, rfl, rfl, rfl, slot_int rfl (by omega), trivial⟩, St.as (s.pick _ (List.sublist_append_right [_] _)) ⟨rfl, rfl, trivial⟩, rfl, by omega, fm_y hp1 h0 (by rw [h1]; rfl)⟩⟩
      · skip
        refine s_run hFT9 4 h rfl fun f h => s_o h rfl (s_ax hFT9 h rfl (fun h2 f h => ?_) (fun h2 f h => ?_))
        · refine e9 hFT9 2 h rfl fun f h => c_cf h rfl (wpIn_skip (b_norm (t_norm (c_region (s_pure h (ru_add (h.ev rfl) (h.ev rfl) (by omega)) rfl fun f h => e9 hFT9 1 h rfl fun f h => ?_)))))
          exact ⟨_, by omega, ⟨k + 1, z, mo, bi, h.only ⟨rfl, rfl, rfl, rfl, rfl, rfl, rfl, rfl, rfl, slot_int rfl (by omega), trivial⟩, St.as (s.pick _ (List.sublist_append_right [_] _)) ⟨rfl, rfl, trivial⟩, rfl, by omega, fm_n hp1 (by rw [h0, h1, h2]; rfl)⟩⟩
        · refine e9 hFT9 2 h rfl fun f h => c_ct h rfl (c_region (s_load_row 0 h s row41 rfl rfl (tgArr_size _) rfl fun f h => s_run hFT9 1 h rfl fun f h => s_store_row 1 h s row41 rfl rfl rfl (tgArr_size _) (tgArr_size _) (tgArr_ones _) fun w1 s => s_run hFT9 2 h rfl fun f h => s_nil (b_norm (t_norm (c_region (s_pure h (ru_add (h.ev rfl) (h.ev rfl) (by omega)) rfl fun f h => e9 hFT9 1 h rfl fun f h => ?_))))))
          exact ⟨_, by omega, ⟨k + 1, (l.getD k zTg), (m (l.getD k zTg)), true, h.only ⟨rfl, rfl, rfl, rfl, rfl, rfl, rfl, rfl, rfl, slot_int rfl (by omega), trivial⟩, St.as (s.pick _ (List.sublist_append_right [_] _)) ⟨rfl, rfl, trivial⟩, rfl, by omega, fm_y hp1 h0 (by rw [h1, h2]; rfl)⟩⟩
  · refine wpIn_exit (t_exit (t_exit (b_exit (t_norm (qr (s_load_row 0 h s row41 rfl rfl (tgArr_size _) rfl fun f h => s_run hFT9 1 h rfl fun f h => s_store_row 1 h s row41 rfl rfl rfl (tgArr_size _) (tgArr_size _) (tgArr_ones _) fun w1 s => e9 hFT9 1 h rfl fun f h => wpIn_ret (e_row_tmp 1 rfl h s row41 rfl rfl (tgArr_size _) rfl (by obtain rfl : k = l.length := (by omega); show _ = _; rw [← hp1]))))))))

theorem tgrow_any (n : Nat) (hn : n ≤ 1000) (w : World) : Calls Tryd.prog 81 [.slice none 0 0, .int .i64 (n : Int)].toArray w (Ret w (fun v w' => Owns w' w.heap.size 41 67 v 0 [])) := by
  refine c_en Tryd.func81 rfl Tryd.ntmps81 rfl fun f h s => qre hFT9 1 h rfl fun f h => c_seqN (qrs hFT9 1 h rfl fun f h => s_af hFT9 h rfl (decide_eq_false (by omega)) fun f h => ncfk h rfl (c_seqN (qrs hFT9 2 h rfl fun f h => s_pure h (ru_cap_nil Tryd.underlying22 (h.ev rfl)) rfl fun f h => s_run hFT9 1 h rfl fun f h => s_pure h (ru_len_lit Tryd.underlying22 (h.ev rfl)) rfl fun f h => s_pure h (ru_val (.int .i64 0) (ru_sub (h.ev rfl) (h.ev rfl) (by omega)) (rfl)) rfl fun f h => s_pure h (ru_val (.int .i64 (n : Int)) (ru_sub (h.ev rfl) (h.ev rfl) (by omega)) (congrArg (Value.int .i64) (by omega))) rfl fun f h => e9 hFT9 1 h rfl fun f h => qre hFT9 2 h rfl fun f h => c_cd h rfl (fun hc => ?_) (fun hc => ?_))))
  · refine rs hFT9 2 h rfl fun f h => s_pure h (ru_cap_nil Tryd.underlying22 (h.ev rfl)) rfl fun f h => s_pure h (ru_slice_nil Tryd.underlying22 szo41 (h.ev rfl) (h.ev rfl)) rfl fun f h => s_run hFT9 1 h rfl fun f h => s_append_zeros (n := n) (base := w.heap.size) h Tryd.underlying22 Tryd.underlying3 elm41 rfl rfl (by omega) (by omega) (by omega) (Nat.le_refl _) rfl fun f w1 v22 xs9 h hE9 hO9 => ?_
    replace s := s.sl_new hE9 hO9
    refine s_run hFT9 1 h rfl fun f h => s_pure h (ru_len_lit Tryd.underlying22 (h.ev rfl)) rfl fun f h => s_pure h (ru_slice_own0 hO9 Tryd.underlying22 szo41 (h.ev rfl) (h.ev rfl)) rfl fun f h => e9 hFT9 1 h rfl fun f h => qre hFT9 2 h rfl fun f h => wpIn_ret (e_tmp rfl h s rfl (hO9.cut0))
  · refine kt (qre hFT9 2 h rfl fun f h => wpIn_ret (e_tmp rfl h s rfl (owns_nil _ _ _ _)))

theorem tconcat_any (vh : Value) (us : List Value) (ls : List (List Tg)) (hls : us.length = ls.length) (htot : ls.flatten.length ≤ 1000) (hvn : us.length ≤ 1000) (w : World) (hv : RdZ w vh 1 us.length us) (hr : ∀ k, k < us.length → RdZ w (us.getD k undef) 67 (ls.getD k []).length (tgCells (ls.getD k []))) : Calls Tryd.prog 65 [vh].toArray w (Ret w (fun v w' => Owns w' w.heap.size 41 67 v ls.flatten.length (tgCells ls.flatten))) := by
  refine c_en Tryd.func65 rfl Tryd.ntmps65 rfl fun f h s => qre hFT9 1 h rfl fun f h => qre hFT9 1 h rfl fun f h => c_seqN (qrs hFT9 1 h rfl fun f h => s_lz h (hv.keep s.ext) Tryd.underlying151 rfl rfl fun f h => e9 hFT9 1 h rfl fun f h => wpIn_block (wpIn_loop_ghost (fun nn aa ww => ∃ k : Nat, Sl 36 aa [(0, vh), (3, .int .i64 (((ls.take k).flatten.length : Nat) : Int)), (9, vh), (10, .int .i64 (us.length : Int)), (11, .int .i64 (k : Int))] ∧ St w [] ww ∧ nn = us.length - k ∧ k ≤ us.length) (us.length - (0)) ⟨0, h.only ⟨rfl, slot_int rfl rfl, rfl, rfl, slot_int rfl (by omega), trivial⟩, s.as trivial, rfl, Nat.zero_le _⟩ ?_))
  rintro _ f w1 ⟨k, h, s, hnn, hp0⟩
  refine qre hFT9 1 h rfl fun f h => c_seqN (c_cd h rfl (fun hc => ?_) (fun hc => ?_))
  · refine kt (c_seqN (wpIn_block (qr ?_)))
    have hkl : k < us.length := by omega
    refine s_pure h (ru_ixz (hv.keep s.ext) (k) Tryd.underlying151 szo22 (h.ev rfl) (h.ev rfl) (by omega) (by omega)) rfl fun f h => s_load_at1 ((hv.keep s.ext).el1 (k) (V := us.getD k undef) (getD_el hkl)) h one22 rfl rfl fun f h => e9 hFT9 1 h rfl fun f h => qrs hFT9 2 h rfl fun f h => s_lz h ((hr k hkl).keep s.ext) Tryd.underlying22 rfl rfl fun f h => ?_
    have hk1 := catT_len ls k (by omega)
    have hk2 := catT_le ls (k + 1)
    refine s_pure h (ru_add (h.ev rfl) (h.ev rfl) (by omega)) rfl fun f h => e9 hFT9 1 h rfl fun f h => qrs hFT9 1 h rfl fun f h => s_af hFT9 h rfl (decide_eq_false (by omega)) fun f h => ncf h rfl (wpIn_skip (b_norm (t_norm (c_region (s_pure h (ru_add (h.ev rfl) (h.ev rfl) (by omega)) rfl fun f h => e9 hFT9 1 h rfl fun f h => ?_)))))
    exact ⟨_, by omega, ⟨k + 1, h.only ⟨rfl, slot_int rfl (by omega), rfl, rfl, slot_int rfl (by omega), trivial⟩, St.as s trivial, rfl, by omega⟩⟩
  · refine wpIn_exit (t_exit (t_exit (b_exit (t_norm (qr ?_)))))
    obtain rfl : k = us.length := by omega
    refine s_as hFT9 (.int .i64 ((ls.flatten.length : Nat) : Int)) h rfl (by rw [hls, List.take_length]) rfl fun f h => s_call h s fnc81 (tgrow_any ls.flatten.length (by omega) _) rfl rfl ?_; intro f w1 v24 hT hE h sq; replace s := s.sl_new hE hT
    refine e9 hFT9 1 h rfl fun f h => c_seqN (qrs hFT9 1 h rfl fun f h => s_lz h (hv.keep s.ext) Tryd.underlying151 rfl rfl fun f h => e9 hFT9 1 h rfl fun f h => wpIn_block (wpIn_loop_ghost (fun nn aa ww => ∃ i : Nat, ∃ vb : Value, Sl 36 aa [(0, vh), (6, vb), (25, vh), (26, .int .i64 (us.length : Int)), (27, .int .i64 (i : Int))] ∧ St w [.sl vb 41 67 (ls.take i).flatten.length (tgCells (ls.take i).flatten)] ww ∧ nn = us.length - i ∧ i ≤ us.length) (us.length - (0)) ⟨0, v24, h.only ⟨rfl, rfl, rfl, rfl, slot_int rfl (by omega), trivial⟩, s.as ⟨sl_eq rfl rfl, trivial⟩, rfl, Nat.zero_le _⟩ ?_))
    rintro _ f w1 ⟨i, vb, h, s, hnn, hp0⟩
    refine qre hFT9 1 h rfl fun f h => c_seqN (c_cd h rfl (fun hc => ?_) (fun hc => ?_))
    · refine kt (c_seqN (wpIn_block (qr ?_)))
      have hkl : i < us.length := by omega
      have hk1 := catT_len ls i (by omega)
      have hk2 := catT_le ls (i + 1)
      refine s_pure h (ru_ixz (hv.keep s.ext) (i) Tryd.underlying151 szo22 (h.ev rfl) (h.ev rfl) (by omega) (by omega)) rfl fun f h => s_load_at1 ((hv.keep s.ext).el1 (i) (V := us.getD i undef) (getD_el hkl)) h one22 rfl rfl fun f h => e9 hFT9 1 h rfl fun f h => rs hFT9 2 h rfl fun f h => s_append_rd 0 ((hr i hkl).keep s.ext) h s Tryd.underlying22 elm41 rfl rfl rfl (tgCells_ones _) (by unfold maxLen; omega) (by omega) rfl fun f w1 v33 h s => s_run hFT9 1 h rfl fun f h => s_nil (b_norm (t_norm (c_region (s_pure h (ru_add (h.ev rfl) (h.ev rfl) (by omega)) rfl fun f h => e9 hFT9 1 h rfl fun f h => ?_))))
      exact ⟨_, by omega, ⟨i + 1, v33, h.only ⟨rfl, rfl, rfl, rfl, slot_int rfl (by omega), trivial⟩, St.as s ⟨sl_eq (catT_len ls i (by omega)) (catT_cells ls i (by omega)), trivial⟩, rfl, by omega⟩⟩
    · refine wpIn_exit (t_exit (t_exit (b_exit (t_norm (qre hFT9 2 h rfl fun f h => wpIn_ret (e_tmp rfl h s rfl (concatT_fin (by omega) (s.getSl 0 rfl))))))))

theorem tclone_ok (l : List Tg) (hln : l.length ≤ 1000) (a9 : Option Addr) (n9 c9 : Nat) (w : World) (hR : RdZ w (.slice a9 n9 c9) 67 l.length (tgCells l)) : Calls Tryd.prog 20 [.slice a9 n9 c9].toArray w (Ret w (fun v w' => Owns w' w.heap.size 41 67 v l.length (tgCells l))) := by
  refine c_en Tryd.func20 rfl Tryd.ntmps20 rfl fun f h s => qre hFT9 1 h rfl fun f h => c_seqN (c_seqN ?_)
  cases hn : (a9.isNone : Bool)
  · refine rs hFT9 1 h rfl fun f h => s_pure h (ru_val (.bool false) (ru_eql_nilS Tryd.underlying22 (h.ev rfl) (h.ev rfl)) (congrArg Value.bool hn)) rfl fun f h => ncfk h rfl (qr (s_bslice0 (base := w.heap.size) h Tryd.underlying22 elm41 (Nat.le_refl _) rfl fun f w2 v5 h hE3 e5 => s_run hFT9 1 h rfl fun f h => s_append_emp (base := w.heap.size) e5 (hR.keep hE3) h Tryd.underlying22 elm41 rfl rfl hE3.le (tgCells_ones _) (by unfold maxLen; omega) (by omega) rfl fun f w3 v7 h hE4 e7 => ?_))
    replace s := s.sl_new (hE3.trans hE4) e7
    refine e9 hFT9 1 h rfl fun f h => wpIn_ret (e_tmp rfl h s rfl (s.getSl 0 rfl))
  · refine rs hFT9 1 h rfl fun f h => s_pure h (ru_val (.bool true) (ru_eql_nilS Tryd.underlying22 (h.ev rfl) (h.ev rfl)) (congrArg Value.bool hn)) rfl fun f h => nct h rfl (qre hFT9 1 h rfl fun f h => rt (e_tmp rfl h s rfl (by obtain rfl := clone_nilT hn hR; exact owns_nil _ _ _ _)))

theorem tclone_any (l : List Tg) (hln : l.length ≤ 1000) (v9 : Value) (w : World) (hR : RdZ w v9 67 l.length (tgCells l)) : Calls Tryd.prog 20 [v9].toArray w (Ret w (fun v w' => Owns w' w.heap.size 41 67 v l.length (tgCells l))) := by
  obtain ⟨a, c, rfl⟩ := hR.len
  exact tclone_ok l hln a _ c w hR

set_option maxHeartbeats 1000000 in
theorem tput_any (l : List Tg) (vh : Value) (x : Tg) (w : World) (hR : RdZ w vh 67 l.length (tgCells l)) (hln : l.length ≤ 1000) : Calls Tryd.prog 63 [vh, .agg (tgArr x)].toArray w (Ret w (TbP w vh l (putR l x) (putE l x))) := by
  refine c_en Tryd.func63 rfl Tryd.ntmps63 rfl fun f h s => qr (s_box (tgArr x) h s rfl rfl rfl fun f w1 b3 h s => e9 hFT9 2 h rfl fun f h => c_seqN (c_seqN ?_))
  refine rs hFT9 1 h rfl fun f h => s_cx h s fnc31 (tright_any l vh _ (hR.keep s.ext) hln) rfl rfl (fun r0 f w1 h s => ?_) (fun r0 f w1 h s => ?_)
  · refine e9 hFT9 6 h rfl fun f h => c_ct h rfl (qre hFT9 2 h rfl fun f h => rt (e_tmps rfl h s rfl rfl (tbP_nil (tb_bad r0 x).1 (tb_bad r0 x).2 (s.sel [] rfl (by decide)))))
  · skip
    refine s_run hFT9 2 h rfl fun f h => s_o h rfl (s_load_row 0 h s row41 rfl rfl (tgArr_size _) rfl fun f h => s_o h rfl (s_cx h s fnc41 (isright_any x _) rfl rfl (fun m0 f w1 h s => ?_) (fun m0 f w1 h s => ?_)))
    · refine e9 hFT9 2 h rfl fun f h => c_ct h rfl (qre hFT9 2 h rfl fun f h => rt (e_tmps rfl h s rfl rfl (tbP_nil (tb_may l m0).1 (tb_may l m0).2 (s.sel [] rfl (by decide)))))
    · refine e9 hFT9 2 h rfl fun f h => cfk h rfl (qr ?_)
      have hrt := rt_iff.1 r0
      have hl32 := hrt.len
      refine s_run hFT9 1 h rfl fun f h => s_load_row 0 h s row41 rfl rfl (tgArr_size _) rfl fun f h => s_call h s fnc64 (tfind_any l vh x _ (hR.keep s.ext) hln hrt.srt) rfl rfl ?_; rintro f w1 v19 ⟨n, b, rfl, hf9⟩ hE h s
      refine e9 hFT9 5 h rfl fun f h => c_seqN (c_seqN ?_)
      refine c_region (s_ax hFT9 h rfl (fun b9 f h => ?_) (fun b9 f h => ?_))
      · refine ncfk h rfl (c_seqN (qr ?_))
        rw [b9] at hf9
        have hnl := hf9.le
        refine s_run hFT9 1 h rfl fun f h => s_lz h (hR.keep s.ext) Tryd.underlying22 rfl rfl fun f h => e9 hFT9 1 h rfl fun f h => c_cond h rfl (fun hc => ?_) (fun hc => ?_)
        · have h32 : l.length = 32 := by have := of_decide_eq_true hc; omega
          refine qre hFT9 2 h rfl fun f h => rt (e_tmps rfl h s rfl rfl (tbP_nil (pt_no hrt m0 hf9 h32).1 (pt_no hrt m0 hf9 h32).2 (s.sel [] rfl (by decide))))
        · have h32 : ¬ l.length = 32 := by have := of_decide_eq_false hc; omega
          refine kt (c_seqN (c_regT 0 10 [[], [], [0, 1], [], [3], [], [], [5, 6], [0, 1, 2, 3, 4, 5, 6, 7], [0, 1, 2, 3, 4, 5, 6, 7, 8], [0, 1, 2, 3, 4, 5, 6, 7, 8, 9], [0, 1, 2, 3, 4, 5, 6, 7, 8, 9, 10]] [[], [], [], [], [], [], [], [], [], [8, 4], [], []] [] [.v _, .v _, .v (cutV vh n), .v (.agg (tgArr x)), .r (fun v => [.sl (v 4) 41 67 [x].length (tgCells [x])]) (fun v => (v 4).oneCell' = true), .v _, .v _, .v (dropV vh 67 n), .m (fun v => [.sl (v 8) 22 1 3 [cutV vh n, (v 4), dropV vh 67 n]]), .m (fun v => [.sl (v 9) 41 67 (l.take n ++ ([x] ++ l.drop n)).length (tgCells (l.take n ++ ([x] ++ l.drop n)))]), .n, .n] _ h s rfl (by kernel_rfl) (by kernel_rfl) (by kernel_rfl) (oPu hFT9 h rfl rfl rfl (oPu hFT9 h rfl rfl rfl (oAI ?_ (oAI ?_ (oAI ?_ (oPu hFT9 h rfl rfl rfl (oPu hFT9 h rfl rfl rfl (oAI ?_ (oAI ?_ (oAI ?_ (trivial))))))))))) [0, 1, 2, 3, 5, 6, 7, 9] (by kernel_rfl) ?_))
          · intro f9 w2 vl10 E9 hs9 hd9 hl hF s
            have h := f9h [(41, _), (42, _)] h hs9 hd9 ⟨oc_g hl 41 0 (by kernel_rfl) (hF 0 (by decide)), oc_g hl 42 1 (by kernel_rfl) (hF 1 (by decide)), trivial⟩
            refine s_pure h (ru_slice_hiZ (hR.keep s.ext) (n) Tryd.underlying22 szo41 (h.ev rfl) (h.ev rfl) (rfl) (by omega)) rfl fun f h => s_nil ⟨_, oc_u 43 h rfl rfl, rfl, s⟩
          · intro f9 w2 vl10 E9 hs9 hd9 hl hF s
            have h := f9h [(3, _)] h hs9 hd9 ⟨oc_o hl 3 (by kernel_rfl) (h.holds 3 _ rfl), trivial⟩
            refine s_load_row 0 h s row41 rfl rfl (tgArr_size _) rfl fun f h => s_nil ⟨_, oc_u 44 h rfl rfl, rfl, s⟩
          · intro f9 w2 vl10 E9 hs9 hd9 hl hF s
            have h := f9h [(44, _)] h hs9 hd9 ⟨oc_g hl 44 3 (by kernel_rfl) (hF 3 (by decide)), trivial⟩
            refine s_bslice (vs := [.agg (tgArr x)]) [.tmp 44] h s Tryd.underlying22 elm41 rfl rfl (tg_sz _) rfl rfl rfl fun f w1 v45 h s => ?_
            replace s := s.resl (m := [x].length) (ys := tgCells [x]) 0 rfl rfl (by rw [one_tg, tgCells_one])
            exact s_nil ⟨_, oc_u 45 h rfl rfl, own_one (s.getSl 0 rfl), s⟩
          · intro f9 w2 vl10 E9 hs9 hd9 hl hF s
            have h := f9h [(46, _), (47, _)] h hs9 hd9 ⟨oc_g hl 46 5 (by kernel_rfl) (hF 5 (by decide)), oc_g hl 47 6 (by kernel_rfl) (hF 6 (by decide)), trivial⟩
            refine s_pure h (ru_slice_loZ (hR.keep s.ext) (n) Tryd.underlying22 szo41 (h.ev rfl) (h.ev rfl) (rfl) (by omega)) rfl fun f h => s_nil ⟨_, oc_u 48 h rfl rfl, rfl, s⟩
          · intro f9 w2 vl10 E9 hs9 hd9 hl hF s
            have e43 : f9.tmps.getD 43 undef = cutV vh n := (oc_get hl 43 2 (by kernel_rfl) (by kernel_rfl)).trans (hF 2 (by decide))
            have e45 : f9.tmps.getD 45 undef = (vl10 4) := oc_get hl 45 4 (by kernel_rfl) (by kernel_rfl)
            have e48 : f9.tmps.getD 48 undef = (dropV vh 67 n) := (oc_get hl 48 7 (by kernel_rfl) (by kernel_rfl)).trans (hF 7 (by decide))
            have h := fin_slot [(43, cutV vh n), (45, (vl10 4)), (48, (dropV vh 67 n))] (hs9.trans h.size) (hd9.trans h.defers) (holds_lk ⟨e43, e45, e48, trivial⟩)
            refine s_bslice (vs := [cutV vh n, (vl10 4), dropV vh 67 n]) [.tmp 43, .tmp 45, .tmp 48] h s Tryd.underlying151 elm22 rfl rfl (by intro v hv; simp only [List.mem_cons, List.not_mem_nil, or_false] at hv; rcases hv with rfl | rfl | rfl; exact rd_size (tg_take (hR.keep s.ext) n (by omega)); exact (cell1 (hF 4 (by decide))).1; exact rd_size (tg_drop (hR.keep s.ext) n (by omega))) rfl rfl rfl fun f w1 v49 h s => ?_
            replace s := s.resl (m := 3) (ys := [cutV vh n, (vl10 4), dropV vh 67 n]) 0 rfl rfl (by simp [rd_cells (tg_take (hR.keep s.ext) n (by omega)), show (vl10 4).cells.toList = [vl10 4] from (cell1 (hF 4 (by decide))).2, rd_cells (tg_drop (hR.keep s.ext) n (by omega))])
            exact s_nil ⟨_, oc_u 49 h rfl rfl, trivial, s⟩
          · intro f9 w2 vl10 E9 hs9 hd9 hl hF s
            have e49 : f9.tmps.getD 49 undef = (vl10 8) := oc_get hl 49 8 (by kernel_rfl) (by kernel_rfl)
            have h := fin_slot [(49, (vl10 8))] (hs9.trans h.size) (hd9.trans h.defers) (holds_lk ⟨e49, trivial⟩)
            refine s_call h s fnc65 (tconcat_any (vl10 8) [cutV vh n, (vl10 4), dropV vh 67 n] [l.take n, [x], l.drop n] rfl (by rw [threeT_flat]; simp only [List.length_append, List.length_take, List.length_drop, List.length_cons, List.length_nil]; omega) (by simp) _ (RdZ.of_own (s.getSl 0 rfl)) (threeT_rd (tg_take (hR.keep s.ext) n (by omega)) (RdZ.of_own (s.getSl 1 rfl)) (tg_drop (hR.keep s.ext) n (by omega)))) rfl rfl ?_; intro f w1 v9_ hT hE h sq
            replace s := s.sl_new hE (hT.seq (m := (l.take n ++ ([x] ++ l.drop n)).length) (ys := tgCells (l.take n ++ ([x] ++ l.drop n))) (by rw [threeT_flat]) (by rw [threeT_flat]))
            exact s_nil ⟨_, oc_u 50 h rfl rfl, trivial, (s.pick _ (List.Sublist.cons_cons _ (List.Sublist.cons _ (List.Sublist.cons _ (List.Sublist.cons_cons _ (List.Sublist.refl _))))))⟩
          intro f w1 vl10 hs9 hd9 hv hr hF s
          replace hv := fun i d h9 => hv i d (show Nat.blt i 10 = true from h9)
          replace h := oc_slT 10 (ops := _) [(41, _), (42, _), (43, _), (44, _), (45, (vl10 4)), (46, _), (47, _), (48, _), (49, (vl10 8)), (50, (vl10 9))] h hs9 hd9 hr ⟨(hv 0 41 rfl rfl).trans (hF 0 rfl), (hv 1 42 rfl rfl).trans (hF 1 rfl), (hv 2 43 rfl rfl).trans (hF 2 rfl), (hv 3 44 rfl rfl).trans (hF 3 rfl), hv 4 45 rfl rfl, (hv 5 46 rfl rfl).trans (hF 5 rfl), (hv 6 47 rfl rfl).trans (hF 6 rfl), (hv 7 48 rfl rfl).trans (hF 7 rfl), hv 8 49 rfl rfl, hv 9 50 rfl rfl, trivial⟩ (by kernel_rfl)
          replace s : St w [.sl (vl10 9) 41 67 (l.take n ++ ([x] ++ l.drop n)).length (tgCells (l.take n ++ ([x] ++ l.drop n))), .blk b3 (.cells (tgArr x) 41)] _ := s
          refine e9 hFT9 2 h rfl fun f h => wpIn_ret (e_tmps rfl h s rfl rfl (tbP_own (pt_in hrt m0 hf9 h32).1 (pt_in hrt m0 hf9 h32).2 (s.sel [0] rfl (by decide))))
      · refine nct h rfl (qr ?_)
        rw [b9] at hf9
        have hnl := (fdT_y hrt.srt hf9).1
        refine s_run hFT9 1 h rfl fun f h => s_call h s fnc20 (tclone_any l hln vh _ (hR.keep s.ext)) rfl rfl ?_; intro f w1 v24 hT hE h sq; replace s := s.sl_new hE hT
        refine e9 hFT9 1 h rfl fun f h => c_seqN (c_wA 12 h (by kernel_rfl) (w_run hFT9 4 h rfl fun f h => w_pure h (ru_ixz (RdZ.of_own (s.getSl 0 rfl)) (n) Tryd.underlying22 szo41 (h.ev rfl) (h.ev rfl) (rfl) (by omega)) rfl fun f h => w_pure h (ru_fieldE fld41_2 (h.ev rfl) ((RdZ.of_own (s.getSl 0 rfl)).some (by omega))) rfl fun f h => w_load_at1 (V := .int .i64 (l.getD n zTg).2.2) (rdz_at (RdZ.of_own (s.getSl 0 rfl)) (n * 67 + 66) (tgr_u l n hnl)) h one3 rfl rfl fun f h => w_run hFT9 1 h rfl fun f h => w_load_at1 (cell_of_has (Has.of_own s 1 rfl) 66 (tgArr_until _)) h one3 rfl rfl fun f h => w_pure h (ru_val (.int .i64 (max (l.getD n zTg).2.2 x.2.2)) (ru_max (h.ev rfl) (h.ev rfl)) (congrArg (Value.int .i64) (by split <;> omega))) rfl fun f h => w_pure h (ru_ixz (RdZ.of_own (s.getSl 0 rfl)) (n) Tryd.underlying22 szo41 (h.ev rfl) (h.ev rfl) (rfl) (by omega)) rfl fun f h => w_pure h (ru_fieldE fld41_2 (h.ev rfl) ((RdZ.of_own (s.getSl 0 rfl)).some (by omega))) rfl fun f h => w_nil s fun w1 s => s_store_el1 0 h s one3 rfl rfl rfl (by omega) (rfl) (tg_set hnl (upT l x n) 66 _ (by decide) (tg_setU _ _)) fun w1 s => ?_))
        replace s := s.resl (m := (l.set n (upT l x n)).length) (ys := tgCells (l.set n (upT l x n))) 0 rfl (by rw [List.length_set]) (rfl)
        refine nt (qre hFT9 3 h rfl fun f h => rt (e_tmps rfl h s rfl rfl (tbP_own (pt_y hrt m0 hf9).1 (pt_y hrt m0 hf9).2 (s.sel [0] rfl (by decide)))))

set_option maxHeartbeats 1000000 in
theorem tdrop_any (l : List Tg) (vh : Value) (i : Id) (e : Ent) (w : World) (hR : RdZ w vh 67 l.length (tgCells l)) (hln : l.length ≤ 1000) : Calls Tryd.prog 45 [vh, idV i, .agg (eArr e)].toArray w (Ret w (TbP w vh l (drpL l i e) (drpE l i e))) := by
  refine c_en Tryd.func45 rfl Tryd.ntmps45 rfl fun f h s => qr (s_box (idArr i) h s rfl rfl rfl fun f w1 b4 h s => s_box (eArr e) h s rfl rfl rfl fun f w1 b5 h s => e9 hFT9 2 h rfl fun f h => c_seqN (c_seqN ?_))
  refine rs hFT9 1 h rfl fun f h => s_cx h s fnc31 (tright_any l vh _ (hR.keep s.ext) hln) rfl rfl (fun r0 f w1 h s => ?_) (fun r0 f w1 h s => ?_)
  · refine e9 hFT9 1 h rfl fun f h => c_ct h rfl (qre hFT9 2 h rfl fun f h => rt (e_tmps rfl h s rfl rfl (tbP_nil (td_bad r0 i e).1 (td_bad r0 i e).2 (s.sel [] rfl (by decide)))))
  · refine e9 hFT9 1 h rfl fun f h => cfk h rfl (qr ?_)
    have hrt := rt_iff.1 r0
    have hl32 := hrt.len
    refine s_run hFT9 1 h rfl fun f h => s_load_row 1 h s row26 rfl rfl (by first | exact idArr_size _ | exact bytesF_size _ _) rfl fun f h => s_load_row 0 h s row28 rfl rfl (eArr_size _) rfl fun f h => s_pure h (ru_build_tg01 sttG (h.ev rfl) (h.ev rfl)) rfl fun f h => s_call h s fnc64 (tfind_any l vh (i, e, (0 : Int)) _ (hR.keep s.ext) hln hrt.srt) rfl rfl ?_; rintro f w1 v18 ⟨n, b, rfl, hf9⟩ hE h s
    refine e9 hFT9 5 h rfl fun f h => c_seqN (c_seqN ?_)
    refine c_region (s_ax hFT9 h rfl (fun b9 f h => ?_) (fun b9 f h => ?_))
    · refine e9 hFT9 1 h rfl fun f h => c_ct h rfl (qre hFT9 2 h rfl fun f h => rt (e_tmps rfl h s rfl rfl (tbP_nil (dp_n hrt (by rw [b9] at hf9; exact hf9)).1 (dp_n hrt (by rw [b9] at hf9; exact hf9)).2 (s.sel [] rfl (by decide)))))
    · refine e9 hFT9 1 h rfl fun f h => cfk h rfl (c_seqN ?_)
      rw [b9] at hf9
      have hnl := (fdT_y hrt.srt hf9).1
      refine c_regT 0 9 [[], [], [0, 1], [], [], [4], [3, 4, 5], [0, 1, 2, 3, 4, 5, 6], [0, 1, 2, 3, 4, 5, 6, 7], [0, 1, 2, 3, 4, 5, 6, 7, 8], [0, 1, 2, 3, 4, 5, 6, 7, 8, 9]] [[], [], [], [], [], [], [], [], [7], [], []] [] [.v _, .v _, .v (cutV vh n), .v _, .v _, .v (.int .i64 ((n : Int) + 1)), .v (dropV vh 67 (n + 1)), .m (fun v => [.sl (v 7) 22 1 2 [cutV vh n, dropV vh 67 (n + 1)]]), .m (fun v => [.sl (v 8) 41 67 (l.take n ++ l.drop (n + 1)).length (tgCells (l.take n ++ l.drop (n + 1)))]), .n, .n] _ h s rfl (by kernel_rfl) (by kernel_rfl) (by kernel_rfl) (oPu hFT9 h rfl rfl rfl (oPu hFT9 h rfl rfl rfl (oAI ?_ (oPu hFT9 h rfl rfl rfl (oPu hFT9 h rfl rfl rfl (oAI ?_ (oAI ?_ (oAI ?_ (oAI ?_ (trivial)))))))))) [0, 1, 2, 3, 4, 5, 6, 8] (by kernel_rfl) ?_
      · intro f9 w2 vl6 E9 hs9 hd9 hl hF s
        have h := f9h [(23, _), (24, _)] h hs9 hd9 ⟨oc_g hl 23 0 (by kernel_rfl) (hF 0 (by decide)), oc_g hl 24 1 (by kernel_rfl) (hF 1 (by decide)), trivial⟩
        refine s_pure h (ru_slice_hiZ (hR.keep s.ext) (n) Tryd.underlying22 szo41 (h.ev rfl) (h.ev rfl) (rfl) (by omega)) rfl fun f h => s_nil ⟨_, oc_u 25 h rfl rfl, rfl, s⟩
      · intro f9 w2 vl6 E9 hs9 hd9 hl hF s
        have h := f9h [(27, _)] h hs9 hd9 ⟨oc_g hl 27 4 (by kernel_rfl) (hF 4 (by decide)), trivial⟩
        refine s_pure h (ru_add (h.ev rfl) (h.ev rfl) (by omega)) rfl fun f h => s_nil ⟨_, oc_u 28 h rfl rfl, rfl, s⟩
      · intro f9 w2 vl6 E9 hs9 hd9 hl hF s
        have h := f9h [(26, _), (28, _)] h hs9 hd9 ⟨oc_g hl 26 3 (by kernel_rfl) (hF 3 (by decide)), oc_g hl 28 5 (by kernel_rfl) (hF 5 (by decide)), trivial⟩
        refine s_pure h (ru_slice_loZ (hR.keep s.ext) ((n + 1)) Tryd.underlying22 szo41 (h.ev rfl) (h.ev rfl) (by omega) (by omega)) rfl fun f h => s_nil ⟨_, oc_u 29 h rfl rfl, rfl, s⟩
      · intro f9 w2 vl6 E9 hs9 hd9 hl hF s
        have h := f9h [(25, _), (29, _)] h hs9 hd9 ⟨oc_g hl 25 2 (by kernel_rfl) (hF 2 (by decide)), oc_g hl 29 6 (by kernel_rfl) (hF 6 (by decide)), trivial⟩
        refine s_bslice (vs := [cutV vh n, dropV vh 67 (n + 1)]) [.tmp 25, .tmp 29] h s Tryd.underlying151 elm22 rfl rfl (by intro v hv; simp only [List.mem_cons, List.not_mem_nil, or_false] at hv; rcases hv with rfl | rfl; exact rd_size (tg_take (hR.keep s.ext) n (by omega)); exact rd_size (tg_drop (hR.keep s.ext) (n + 1) (by omega))) rfl rfl rfl fun f w1 v30 h s => ?_
        replace s := s.resl (m := 2) (ys := [cutV vh n, dropV vh 67 (n + 1)]) 0 rfl rfl (by simp [rd_cells (tg_take (hR.keep s.ext) n (by omega)), rd_cells (tg_drop (hR.keep s.ext) (n + 1) (by omega))])
        exact s_nil ⟨_, oc_u 30 h rfl rfl, trivial, s⟩
      · intro f9 w2 vl6 E9 hs9 hd9 hl hF s
        have e30 : f9.tmps.getD 30 undef = (vl6 7) := oc_get hl 30 7 (by kernel_rfl) (by kernel_rfl)
        have h := fin_slot [(30, (vl6 7))] (hs9.trans h.size) (hd9.trans h.defers) (holds_lk ⟨e30, trivial⟩)
        refine s_call h s fnc65 (tconcat_any (vl6 7) [cutV vh n, dropV vh 67 (n + 1)] [l.take n, l.drop (n + 1)] rfl (by rw [twoT_flat]; simp only [List.length_append, List.length_take, List.length_drop, List.length_cons, List.length_nil]; omega) (by simp) _ (RdZ.of_own (s.getSl 0 rfl)) (twoT_rd (tg_take (hR.keep s.ext) n (by omega)) (tg_drop (hR.keep s.ext) (n + 1) (by omega)))) rfl rfl ?_; intro f w1 v9_ hT hE h sq
        replace s := s.sl_new hE (hT.seq (m := (l.take n ++ l.drop (n + 1)).length) (ys := tgCells (l.take n ++ l.drop (n + 1))) (by rw [twoT_flat]) (by rw [twoT_flat]))
        exact s_nil ⟨_, oc_u 31 h rfl rfl, trivial, (s.pick _ (List.Sublist.cons_cons _ (List.Sublist.cons _ (List.Sublist.cons_cons _ (List.Sublist.cons_cons _ (List.Sublist.refl _))))))⟩
      intro f w1 vl6 hs9 hd9 hv hr hF s
      replace hv := fun i d h9 => hv i d (show Nat.blt i 9 = true from h9)
      replace h := oc_slT 9 (ops := _) [(23, _), (24, _), (25, _), (26, _), (27, _), (28, _), (29, _), (30, (vl6 7)), (31, (vl6 8))] h hs9 hd9 hr ⟨(hv 0 23 rfl rfl).trans (hF 0 rfl), (hv 1 24 rfl rfl).trans (hF 1 rfl), (hv 2 25 rfl rfl).trans (hF 2 rfl), (hv 3 26 rfl rfl).trans (hF 3 rfl), (hv 4 27 rfl rfl).trans (hF 4 rfl), (hv 5 28 rfl rfl).trans (hF 5 rfl), (hv 6 29 rfl rfl).trans (hF 6 rfl), hv 7 30 rfl rfl, hv 8 31 rfl rfl, trivial⟩ (by kernel_rfl)
      replace s : St w [.sl (vl6 8) 41 67 (l.take n ++ l.drop (n + 1)).length (tgCells (l.take n ++ l.drop (n + 1))), .blk b5 (.cells (eArr e) 28), .blk b4 (.cells (idArr i) 26)] _ := s
      refine e9 hFT9 2 h rfl fun f h => wpIn_ret (e_tmps rfl h s rfl rfl (tbP_own (dp_y hrt hf9).2.1 (dp_y hrt hf9).2.2 (s.sel [0] rfl (by decide))))

theorem texp1_any (x : Tg) (now : Int) (bx : Nat) (w : World) (hb : Tab w bx #[.int .i64 now]) : Calls Tryd.prog 53 [.agg (tgArr x), .pointer (some ⟨bx, 0, none⟩)].toArray w (Ret w (is (.bool (decide (now < x.2.2))))) := by
  refine c_en Tryd.func53 rfl Tryd.ntmps53 rfl fun f h s => qr (s_box (tgArr x) h s rfl rfl rfl fun f w1 b2 h s => e9 hFT9 1 h rfl fun f h => qrs hFT9 1 h rfl fun f h => s_load_at1 (cell_of_has (Has.of_own s 0 rfl) 66 (tgArr_until _)) h one3 rfl rfl fun f h => s_load_at1 (V := .int .i64 now) (cell_of_has (Has.of_tab (hb.keep s.ext)) 0 (rfl)) h one3 rfl rfl fun f h => e9 hFT9 2 h rfl fun f h => wpIn_ret (e_tmp rfl h s rfl (rfl)))

theorem texp_any (l : List Tg) (vh : Value) (now : Int) (w : World) (hR : RdZ w vh 67 l.length (tgCells l)) (hln : l.length ≤ 1000) : Calls Tryd.prog 34 [vh, .int .i64 now].toArray w (Ret w (TbP w vh l (expL l now) (expE l))) := by
  refine c_en Tryd.func34 rfl Tryd.ntmps34 rfl fun f h s => qr (s_box (#[.int .i64 now]) h s rfl rfl rfl fun f w1 b3 h s => e9 hFT9 2 h rfl fun f h => c_seqN (c_seqN ?_))
  cases r0 : (rightT l : Bool)
  · refine rs hFT9 1 h rfl fun f h => s_cb false h s fnc31 (tright_any l vh _ (hR.keep s.ext) hln) (r0) rfl rfl fun f w1 h s => e9 hFT9 1 h rfl fun f h => c_ct h rfl (qre hFT9 2 h rfl fun f h => rt (e_tmps rfl h s rfl rfl (tbP_nil (te_n r0 now).1 (te_n r0 now).2 (s.sel [] rfl (by decide)))))
  · refine rs hFT9 1 h rfl fun f h => s_call h s fnc31 (ret_val (.bool true) (tright_any l vh _ (hR.keep s.ext) hln) (congrArg Value.bool r0)) rfl rfl ?_; intro f w1 v9 hT hE h s; obtain rfl := hT
    refine e9 hFT9 1 h rfl fun f h => cfk h rfl (qrs hFT9 1 h rfl fun f h => s_pure h (ru_makeFunc [.pointer (some ⟨b3, 0, none⟩)] (evsA h rfl)) rfl fun f h => s_call h s fnc52 (tonly_any l vh 53 [.pointer (some ⟨b3, 0, none⟩)] ((fun y => decide (now < y.2.2))) _ (hR.keep s.ext) hln fnc53 (fun w9 h9 y _ => texp1_any y now b3 w9 ((Tab.of_own s 0 rfl).keep h9))) rfl rfl ?_); intro f w1 v11 hT hE h sq; replace s := s.sl_new hE hT
    refine e9 hFT9 2 h rfl fun f h => wpIn_ret (e_tmps rfl h s rfl rfl (tbP_own (te_y r0 now).1 (te_y r0 now).2 (s.sel [0] rfl (by decide))))

theorem tmat1_any (y : Tg) (x : Id) (bx : Nat) (w : World) (hb : Tab w bx (idArr x)) : Calls Tryd.prog 83 [.agg (tgArr y), .pointer (some ⟨bx, 0, none⟩)].toArray w (Ret w (is (.int .i64 (lkM x y)))) := by
  refine c_en Tryd.func83 rfl Tryd.ntmps83 rfl fun f h s => qr (s_box (tgArr y) h s rfl rfl rfl fun f w1 b2 h s => e9 hFT9 1 h rfl fun f h => qrs hFT9 1 h rfl fun f h => s_load_at (Has.subL (Has.of_own s 0 rfl) 0 32 (D := idArr (_)) (tgArr_id _)) h row26 rfl (by first | exact idArr_size _ | exact bytesF_size _ _) rfl fun f h => s_load_at (Has.subL (Has.of_tab (hb.keep s.ext)) 0 32 (D := idArr x) (idArr_ext _)) h row26 rfl (by first | exact idArr_size _ | exact bytesF_size _ _) rfl fun f h => s_cv h s fnc84 (common_any y.1 x _) rfl rfl fun f w1 h s => e9 hFT9 1 h rfl fun f h => wpIn_ret (e_tmp rfl h s rfl (rfl)))

theorem tmat2_any (y z : Tg) (bx : Nat) (w : World) (hb : Tab w bx (tgArr z)) : Calls Tryd.prog 86 [.agg (tgArr y), .pointer (some ⟨bx, 0, none⟩)].toArray w (Ret w (is (.bool (decide (y.1 = z.1))))) := by
  refine c_en Tryd.func86 rfl Tryd.ntmps86 rfl fun f h s => qr (s_box (tgArr y) h s rfl rfl rfl fun f w1 b2 h s => e9 hFT9 1 h rfl fun f h => qrs hFT9 1 h rfl fun f h => s_load_at (Has.subL (Has.of_own s 0 rfl) 0 32 (D := idArr (_)) (tgArr_id _)) h row26 rfl (by first | exact idArr_size _ | exact bytesF_size _ _) rfl fun f h => s_run hFT9 1 h rfl fun f h => s_load_at (Has.subL (Has.of_tab (hb.keep s.ext)) 0 32 (D := idArr z.1) (tgArr_id _)) h row26 rfl (by first | exact idArr_size _ | exact bytesF_size _ _) rfl fun f h => s_pure h (ru_eql_id idTy (h.ev rfl) (h.ev rfl)) rfl fun f h => e9 hFT9 1 h rfl fun f h => wpIn_ret (e_tmp rfl h s rfl (rfl)))

theorem tmatch_any (l : List Tg) (vh : Value) (x : Id) (w : World) (hR : RdZ w vh 67 l.length (tgCells l)) (hln : l.length ≤ 1000) : Calls Tryd.prog 69 [vh, idV x].toArray w (Ret w (TbP w vh l (mtL l x) (mtE l x))) := by
  refine c_en Tryd.func69 rfl Tryd.ntmps69 rfl fun f h s => qr (s_box (idArr x) h s rfl rfl rfl fun f w1 b3 h s => e9 hFT9 2 h rfl fun f h => c_seqN (c_seqN ?_))
  refine rs hFT9 1 h rfl fun f h => s_cx h s fnc31 (tright_any l vh _ (hR.keep s.ext) hln) rfl rfl (fun r0 f w1 h s => ?_) (fun r0 f w1 h s => ?_)
  · refine e9 hFT9 1 h rfl fun f h => c_ct h rfl (qre hFT9 2 h rfl fun f h => rt (e_tmps rfl h s rfl rfl (tbP_nil (tm_n r0 x).1 (tm_n r0 x).2 (s.sel [] rfl (by decide)))))
  · refine e9 hFT9 1 h rfl fun f h => cfk h rfl (qr (s_pure h (ru_makeFunc [.pointer (some ⟨b3, 0, none⟩)] (evsA h rfl)) rfl fun f h => e9 hFT9 1 h rfl fun f h => c_seqN ?_))
    cases hi : ((lkS l x).2.2 : Bool)
    · refine rs hFT9 2 h rfl fun f h => s_cv h s fnc85 (tfirst_any l vh 83 [.pointer (some ⟨b3, 0, none⟩)] (lkM x) 128 _ (hR.keep s.ext) hln fnc83 (fun w9 h9 y _ => tmat1_any y x b3 w9 ((Tab.of_own s 0 rfl).keep h9))) rfl rfl fun f w1 h s => s_run hFT9 2 h rfl fun f h => s_pure h (ru_val (.bool false) (ru_extract (h.ev rfl) rfl) (congrArg Value.bool hi)) rfl fun f h => s_alloc (tgArr zTg) h s zero41 rfl rfl fun f w1 b7 h s => s_store_row 0 h s row41 rfl rfl rfl (tgArr_size _) (tgArr_size _) (tgArr_ones _) fun w1 s => e9 hFT9 1 h rfl fun f h => c_seqN (qre hFT9 2 h rfl fun f h => c_ct h rfl (qre hFT9 2 h rfl fun f h => rt (e_tmps rfl h s rfl rfl (tbP_nil ((mt_like r0 x).1 hi).1 ((mt_like r0 x).1 hi).2 (s.sel [] rfl (by decide))))))
    · refine rs hFT9 2 h rfl fun f h => s_call h s fnc85 (tfirst_any l vh 83 [.pointer (some ⟨b3, 0, none⟩)] (lkM x) 128 _ (hR.keep s.ext) hln fnc83 (fun w9 h9 y _ => tmat1_any y x b3 w9 ((Tab.of_own s 0 rfl).keep h9))) rfl rfl ?_; intro f w1 v16 hT hE h s; obtain rfl := hT
      refine s_run hFT9 2 h rfl fun f h => s_pure h (ru_val (.bool true) (ru_extract (h.ev rfl) rfl) (congrArg Value.bool hi)) rfl fun f h => s_alloc (tgArr zTg) h s zero41 rfl rfl fun f w1 b7 h s => s_store_row 0 h s row41 rfl rfl rfl (tgArr_size _) (tgArr_size _) (tgArr_ones _) fun w1 s => e9 hFT9 1 h rfl fun f h => c_seqN (qre hFT9 2 h rfl fun f h => cfk h rfl (qrs hFT9 1 h rfl fun f h => s_pure h (ru_makeFunc [.pointer (some ⟨b7, 0, none⟩)] (evsA h rfl)) rfl fun f h => s_call h s fnc52 (tonly_any l vh 86 [.pointer (some ⟨b7, 0, none⟩)] ((fun y => decide (y.1 = (lkS l x).1.1))) _ (hR.keep s.ext) hln fnc86 (fun w9 h9 y _ => tmat2_any y (lkS l x).1 b7 w9 ((Tab.of_own s 0 rfl).keep h9))) rfl rfl ?_)); intro f w1 v23 hT hE h sq; replace s := s.sl_new hE hT
      refine e9 hFT9 2 h rfl fun f h => wpIn_ret (e_tmps rfl h s rfl rfl (tbP_own ((mt_like r0 x).2 hi).1 ((mt_like r0 x).2 hi).2 (s.sel [0] rfl (by decide))))
end Go.Proofs.YtobfeflheaobiaaDoor
