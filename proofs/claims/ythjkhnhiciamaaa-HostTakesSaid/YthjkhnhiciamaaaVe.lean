/- Which entries, stacks and messages may be, and which are the same, by the references; what is sent. -/
import Derived.Test.YthjkhnhiciamaaaCon
set_option linter.unusedVariables false
set_option linter.unusedSimpArgs false
set_option linter.unusedSectionVars false
namespace Go.Proofs.Ythjkhnhiciamaaa
open Go.RowKit
theorem ris_one (e : Ent) (hk : e.1 = 1) (w : World) : Calls Try.prog 68 [.agg (eArr e)].toArray w (Ret w (is (.bool (isE e)))) := by
  refine c_en Try.func68 rfl Try.ntmps68 rfl fun f h s => qr (s_box (eArr e) h s rfl rfl rfl fun f w1 b1 h s => e9 hFT9 1 h rfl fun f h => qre hFT9 1 h rfl fun f h => c_seqN (qrs hFT9 1 h rfl fun f h => s_load_at (Has.subL (Has.of_own s 0 rfl) 1 32 (D := idArr (_)) (eArr_id _)) h row28 rfl (by first | exact idArr_size _ | exact bytesF_size _ _) rfl fun f h => e9 hFT9 1 h rfl fun f h => wpIn_block (wpIn_loop_ghost (fun nn aa ww => ∃ k : Nat, Sl 43 aa [(0, .agg (eArr e)), (1, .pointer (some ⟨b1, 0, none⟩)), (3, .bool (zB e.2.1 k)), (7, .agg (idArr e.2.1)), (8, .int .i64 (k : Int))] ∧ St w [.blk b1 (.cells (eArr e) 47)] ww ∧ nn = 32 - k ∧ k ≤ 32) (32 - (0)) ⟨0, h.only ⟨rfl, rfl, rfl, rfl, slot_int rfl (by omega), trivial⟩, s.as ⟨rfl, trivial⟩, rfl, Nat.zero_le _⟩ ?_)))
  rintro _ f w1 ⟨k, h, s, hnn, hp0⟩
  refine qre hFT9 1 h rfl fun f h => c_seqN (c_cd h rfl (fun hc => ?_) (fun hc => ?_))
  · refine kt (c_seqN (wpIn_block (qr (s_pure h (ru_index_id idTy (k) (h.ev rfl) (h.ev rfl) (by omega) (by omega)) rfl fun f h => e9 hFT9 1 h rfl fun f h => ?_))))
    refine rs hFT9 1 h rfl fun f h => s_ax hFT9 h rfl (fun hz f h => ?_) (fun hz f h => ?_)
    · refine s_run hFT9 4 h rfl fun f h => s_nil (b_norm (t_norm (c_region (s_pure h (ru_add (h.ev rfl) (h.ev rfl) (by omega)) rfl fun f h => e9 hFT9 1 h rfl fun f h => ?_))))
      exact ⟨_, by omega, ⟨k + 1, h.only ⟨rfl, rfl, slot_bool rfl (by rw [zB_succ, hz]; rfl), rfl, slot_int rfl (by omega), trivial⟩, St.as s ⟨rfl, trivial⟩, rfl, by omega⟩⟩
    · refine s_run hFT9 4 h rfl fun f h => s_nil (b_norm (t_norm (c_region (s_pure h (ru_add (h.ev rfl) (h.ev rfl) (by omega)) rfl fun f h => e9 hFT9 1 h rfl fun f h => ?_))))
      exact ⟨_, by omega, ⟨k + 1, h.only ⟨rfl, rfl, slot_bool rfl (by rw [zB_succ, hz]; simp), rfl, slot_int rfl (by omega), trivial⟩, St.as s ⟨rfl, trivial⟩, rfl, by omega⟩⟩
  · refine wpIn_exit (t_exit (t_exit (b_exit (t_norm (c_seqN ?_)))))
    refine rs hFT9 1 h rfl fun f h => s_load_at1 (cell_of_has (Has.of_own s 0 rfl) 0 (eArr_kind _)) h one3 rfl rfl fun f h => s_at hFT9 h rfl (decide_eq_true (hk)) fun f h => s_run hFT9 2 h rfl fun f h => s_o h rfl (s_load_at1 (cell_of_has (Has.of_own s 0 rfl) 33 (eArr_host _)) h one3 rfl rfl fun f h => s_o h rfl (s_ax hFT9 h rfl (fun hh f h => ?_) (fun hh f h => ?_)))
    · refine s_run hFT9 3 h rfl fun f h => s_o h rfl (s_load_at1 (cell_of_has (Has.of_own s 0 rfl) 0 (eArr_kind _)) h one3 rfl rfl fun f h => s_o h rfl (s_af hFT9 h rfl (decide_eq_false (by omega)) fun f h => e9 hFT9 15 h rfl fun f h => wpIn_ret (e_tmp rfl h s rfl (by show _ = _; rw [isE_one _ hk, hh]))))
    · refine s_run hFT9 6 h rfl fun f h => s_none h rfl rfl rfl rfl ?_; intro f h
      refine s_run hFT9 2 h rfl fun f h => s_none h rfl rfl rfl rfl ?_; intro f h
      refine s_none h rfl rfl rfl rfl ?_; intro f h
      refine s_none h rfl rfl rfl rfl ?_; intro f h
      refine s_run hFT9 2 h rfl fun f h => s_none h rfl rfl rfl rfl ?_; intro f h
      refine s_none h rfl rfl rfl rfl ?_; intro f h
      refine s_none h rfl rfl rfl rfl ?_; intro f h
      refine e9 hFT9 3 h rfl fun f h => wpIn_ret (e_tmp rfl h s rfl (by show _ = _; rw [isE_one _ hk, hh]))

theorem ris_two (e : Ent) (hk : e.1 ≠ 1) (w : World) : Calls Try.prog 68 [.agg (eArr e)].toArray w (Ret w (is (.bool (isE e)))) := by
  refine c_en Try.func68 rfl Try.ntmps68 rfl fun f h s => qr (s_box (eArr e) h s rfl rfl rfl fun f w1 b1 h s => e9 hFT9 1 h rfl fun f h => qre hFT9 1 h rfl fun f h => c_seqN (qrs hFT9 1 h rfl fun f h => s_load_at (Has.subL (Has.of_own s 0 rfl) 1 32 (D := idArr (_)) (eArr_id _)) h row28 rfl (by first | exact idArr_size _ | exact bytesF_size _ _) rfl fun f h => e9 hFT9 1 h rfl fun f h => wpIn_block (wpIn_loop_ghost (fun nn aa ww => ∃ k : Nat, Sl 43 aa [(0, .agg (eArr e)), (1, .pointer (some ⟨b1, 0, none⟩)), (3, .bool (zB e.2.1 k)), (7, .agg (idArr e.2.1)), (8, .int .i64 (k : Int))] ∧ St w [.blk b1 (.cells (eArr e) 47)] ww ∧ nn = 32 - k ∧ k ≤ 32) (32 - (0)) ⟨0, h.only ⟨rfl, rfl, rfl, rfl, slot_int rfl (by omega), trivial⟩, s.as ⟨rfl, trivial⟩, rfl, Nat.zero_le _⟩ ?_)))
  rintro _ f w1 ⟨k, h, s, hnn, hp0⟩
  refine qre hFT9 1 h rfl fun f h => c_seqN (c_cd h rfl (fun hc => ?_) (fun hc => ?_))
  · refine kt (c_seqN (wpIn_block (qr (s_pure h (ru_index_id idTy (k) (h.ev rfl) (h.ev rfl) (by omega) (by omega)) rfl fun f h => e9 hFT9 1 h rfl fun f h => ?_))))
    refine rs hFT9 1 h rfl fun f h => s_ax hFT9 h rfl (fun hz f h => ?_) (fun hz f h => ?_)
    · refine s_run hFT9 4 h rfl fun f h => s_nil (b_norm (t_norm (c_region (s_pure h (ru_add (h.ev rfl) (h.ev rfl) (by omega)) rfl fun f h => e9 hFT9 1 h rfl fun f h => ?_))))
      exact ⟨_, by omega, ⟨k + 1, h.only ⟨rfl, rfl, slot_bool rfl (by rw [zB_succ, hz]; rfl), rfl, slot_int rfl (by omega), trivial⟩, St.as s ⟨rfl, trivial⟩, rfl, by omega⟩⟩
    · refine s_run hFT9 4 h rfl fun f h => s_nil (b_norm (t_norm (c_region (s_pure h (ru_add (h.ev rfl) (h.ev rfl) (by omega)) rfl fun f h => e9 hFT9 1 h rfl fun f h => ?_))))
      exact ⟨_, by omega, ⟨k + 1, h.only ⟨rfl, rfl, slot_bool rfl (by rw [zB_succ, hz]; simp), rfl, slot_int rfl (by omega), trivial⟩, St.as s ⟨rfl, trivial⟩, rfl, by omega⟩⟩
  · refine wpIn_exit (t_exit (t_exit (b_exit (t_norm (c_seqN ?_)))))
    refine rs hFT9 1 h rfl fun f h => s_load_at1 (cell_of_has (Has.of_own s 0 rfl) 0 (eArr_kind _)) h one3 rfl rfl fun f h => s_af hFT9 h rfl (decide_eq_false (hk)) fun f h => s_run hFT9 7 h rfl fun f h => s_o h rfl (s_load_at1 (cell_of_has (Has.of_own s 0 rfl) 0 (eArr_kind _)) h one3 rfl rfl fun f h => s_o h rfl (s_ax hFT9 h rfl (fun h2 f h => ?_) (fun h2 f h => ?_)))
    · refine e9 hFT9 15 h rfl fun f h => wpIn_ret ?_
      obtain rfl : k = 32 := by omega
      exact e_tmp rfl h s rfl (by show _ = _; rw [isE_none _ hk (of_decide_eq_false h2)])
    · skip
      refine s_run hFT9 1 h rfl fun f h => s_o h rfl (s_ax hFT9 h rfl (fun hz f h => ?_) (fun hz f h => ?_))
      · refine e9 hFT9 13 h rfl fun f h => wpIn_ret ?_
        obtain rfl : k = 32 := by omega
        exact e_tmp rfl h s rfl (by show _ = _; rw [isE_two _ (of_decide_eq_true h2), ← zB_end, hz]; rfl)
      · skip
        refine s_run hFT9 3 h rfl fun f h => s_o h rfl (s_load_at1 (cell_of_has (Has.of_own s 0 rfl) 33 (eArr_host _)) h one3 rfl rfl fun f h => s_o h rfl (s_ax hFT9 h rfl (fun hg f h => ?_) (fun hg f h => ?_)))
        · refine e9 hFT9 8 h rfl fun f h => wpIn_ret ?_
          obtain rfl : k = 32 := by omega
          exact e_tmp rfl h s rfl (by show _ = _; rw [isE_two _ (of_decide_eq_true h2), ← zB_end, hz, hg]; rfl)
        · refine s_run hFT9 3 h rfl fun f h => s_o h rfl (s_load_at1 (cell_of_has (Has.of_own s 0 rfl) 33 (eArr_host _)) h one3 rfl rfl fun f h => e9 hFT9 4 h rfl fun f h => wpIn_ret ?_)
          obtain rfl : k = 32 := by omega
          exact e_tmp rfl h s rfl (by show _ = _; rw [isE_two _ (of_decide_eq_true h2), ← zB_end, hz, hg]; simp; omega)

theorem ris_any (e : Ent) (w : World) : Calls Try.prog 68 [.agg (eArr e)].toArray w (Ret w (is (.bool (isE e)))) := by
  by_cases h : e.1 = 1
  · exact ris_one e h w
  · exact ris_two e h w

theorem rall_any (l : List Ent) (vh : Value) (w : World) (hv : RdZ w vh 34 l.length (eCells l)) (hln : l.length ≤ 1000000) : Calls Try.prog 45 [vh].toArray w (Ret w (is (.bool (l.all isE)))) := by
  refine c_en Try.func45 rfl Try.ntmps45 rfl fun f h s => qre hFT9 1 h rfl fun f h => c_seqN (qrs hFT9 1 h rfl fun f h => s_lz h (hv.keep s.ext) Try.underlying42 rfl rfl fun f h => e9 hFT9 1 h rfl fun f h => wpIn_block (wpIn_loop_ghost (fun nn aa ww => ∃ k : Nat, Sl 15 aa [(0, vh), (5, vh), (6, .int .i64 (l.length : Int)), (7, .int .i64 (k : Int))] ∧ St w [] ww ∧ nn = l.length - k ∧ k ≤ l.length ∧ ∀ i (hi : i < l.length), i < k → isE l[i] = true) (l.length - (0)) ⟨0, h.only ⟨rfl, rfl, rfl, slot_int rfl (by omega), trivial⟩, s.as trivial, rfl, Nat.zero_le _, fun i hi h9 => absurd h9 (Nat.not_lt_zero _)⟩ ?_))
  rintro _ f w1 ⟨k, h, s, hnn, hp0, hp1⟩
  refine qre hFT9 1 h rfl fun f h => c_seqN (c_cd h rfl (fun hc => ?_) (fun hc => ?_))
  · refine kt (c_seqN (wpIn_block (qr ?_)))
    have hkl : k < l.length := by omega
    refine s_pure h (ru_ixz (hv.keep s.ext) (k) Try.underlying42 szo47 (h.ev rfl) (h.ev rfl) (by omega) (by omega)) rfl fun f h => s_load_at ((hv.keep s.ext).el (k) (by omega) (by decide) (D := eArr l[k]) (e_el l k hkl)) h row47 rfl (eArr_size _) rfl fun f h => s_alloc (eArr (0, 0#256, 0)) h s zero47 rfl rfl fun f w1 b4 h s => s_store_row 0 h s row47 rfl rfl rfl (eArr_size _) (eArr_size _) (eArr_ones _) fun w1 s => nt (qr (s_load_row 0 h s row47 rfl rfl (eArr_size _) rfl fun f h => s_cv h s fnc68 (ris_any _ _) rfl rfl fun f w1 h s => e9 hFT9 1 h rfl fun f h => c_cond h rfl (fun hc => ?_) (fun hc => ?_)))
    · refine qre hFT9 1 h rfl fun f h => wpIn_ret (b_ret (t_ret (t_ret (b_ret (t_ret (e_tmp rfl h s rfl (congrArg Value.bool (all_no hkl hc))))))))
    · refine wpIn_skip (b_norm (t_norm (c_region (s_pure h (ru_add (h.ev rfl) (h.ev rfl) (by omega)) rfl fun f h => e9 hFT9 1 h rfl fun f h => ?_))))
      exact ⟨_, by omega, ⟨k + 1, h.only ⟨rfl, rfl, rfl, slot_int rfl (by omega), trivial⟩, St.as (s.pick _ (List.sublist_append_right [_] _)) trivial, rfl, by omega, all_next (fun y => isE y = true) hp1 hkl (by simpa using hc)⟩⟩
  · refine wpIn_exit (t_exit (t_exit (b_exit (t_norm (qre hFT9 1 h rfl fun f h => wpIn_ret (e_tmp rfl h s rfl (congrArg Value.bool (all_yes (by omega) hp1))))))))

theorem rright_any (l : List Ent) (vh : Value) (w : World) (hv : RdZ w vh 34 l.length (eCells l)) (hln : l.length ≤ 1000000) : Calls Try.prog 22 [vh].toArray w (Ret w (is (.bool (rightE l)))) := by
  refine c_en Try.func22 rfl Try.ntmps22 rfl fun f h s => qre hFT9 1 h rfl fun f h => c_seqN ?_
  refine rs hFT9 1 h rfl fun f h => s_lz h (hv.keep s.ext) Try.underlying42 rfl rfl fun f h => s_ay hFT9 (decide (0 < l.length)) h rfl ((decide_eq_decide.2 (by omega))) (fun h1 f h => ?_) (fun h1 f h => ?_)
  · refine e9 hFT9 10 h rfl fun f h => wpIn_ret (e_tmp rfl h s rfl (by show _ = _; unfold rightE; rw [h1]; rfl))
  · skip
    refine s_run hFT9 2 h rfl fun f h => s_o h rfl (s_lz h (hv.keep s.ext) Try.underlying42 rfl rfl fun f h => s_o h rfl (s_ay hFT9 (decide (l.length ≤ 4)) h rfl ((decide_eq_decide.2 (by omega))) (fun h2 f h => ?_) (fun h2 f h => ?_)))
    · refine e9 hFT9 6 h rfl fun f h => wpIn_ret (e_tmp rfl h s rfl (by show _ = _; unfold rightE; rw [h1, h2]; rfl))
    · refine s_run hFT9 3 h rfl fun f h => s_o h rfl (s_cv h s fnc45 (rall_any l vh _ (hv.keep s.ext) hln) rfl rfl fun f w1 h s => e9 hFT9 2 h rfl fun f h => wpIn_ret (e_tmp rfl h s rfl (by show _ = _; unfold rightE; rw [h1, h2]; rfl)))

theorem rsame_any (l m : List Ent) (vh vu : Value) (w : World) (hv : RdZ w vh 34 l.length (eCells l)) (hu : RdZ w vu 34 m.length (eCells m)) (hln : l.length ≤ 1000000) (hmn : m.length ≤ 1000000) : Calls Try.prog 67 [vh, vu].toArray w (Ret w (is (.bool (decide (l = m))))) := by
  refine c_en Try.func67 rfl Try.ntmps67 rfl fun f h s => qre hFT9 1 h rfl fun f h => c_seqN (qrs hFT9 1 h rfl fun f h => s_lz h (hv.keep s.ext) Try.underlying42 rfl rfl fun f h => s_run hFT9 1 h rfl fun f h => s_lz h (hu.keep s.ext) Try.underlying42 rfl rfl fun f h => e9 hFT9 1 h rfl fun f h => c_cd h rfl (fun hc => ?_) (fun hc => ?_))
  · refine qre hFT9 1 h rfl fun f h => rt (e_tmp rfl h s rfl (congrArg Value.bool (decide_eq_false (fun h9 => by rw [h9] at hc; omega)).symm))
  · have hlm : l.length = m.length := by omega
    refine kt (c_seqN (qrs hFT9 1 h rfl fun f h => s_lz h (hv.keep s.ext) Try.underlying42 rfl rfl fun f h => e9 hFT9 1 h rfl fun f h => wpIn_block (wpIn_loop_ghost (fun nn aa ww => ∃ k : Nat, Sl 26 aa [(0, vh), (1, vu), (11, vh), (12, .int .i64 (l.length : Int)), (13, .int .i64 (k : Int))] ∧ St w [] ww ∧ nn = l.length - k ∧ k ≤ l.length ∧ ∀ i (hi : i < l.length), i < k → l[i]? = m[i]?) (l.length - (0)) ⟨0, h.only ⟨rfl, rfl, rfl, rfl, slot_int rfl (by omega), trivial⟩, s.as trivial, rfl, Nat.zero_le _, fun i hi h9 => absurd h9 (Nat.not_lt_zero _)⟩ ?_)))
    rintro _ f w1 ⟨k, h, s, hnn, hp0, hp1⟩
    refine qr ?_
    skip
    refine e9 hFT9 1 h rfl fun f h => c_seqN (c_cd h rfl (fun hc => ?_) (fun hc => ?_))
    · refine kt (c_seqN (wpIn_block (qre hFT9 2 h rfl fun f h => c_seqN (c_wA 9 h (by kernel_rfl) (w_run hFT9 2 h rfl fun f h => ?_)))))
      have hkl : k < l.length := by omega
      have hkm : k < m.length := by omega
      refine w_pure h (ru_ixz (hv.keep s.ext) (k) Try.underlying42 szo47 (h.ev rfl) (h.ev rfl) (by omega) (by omega)) rfl fun f h => w_load_at ((hv.keep s.ext).el (k) (by omega) (by decide) (D := eArr l[k]) (e_el l k hkl)) h row47 rfl (eArr_size _) rfl fun f h => w_run hFT9 2 h rfl fun f h => w_pure h (ru_ixz (hu.keep s.ext) (k) Try.underlying42 szo47 (h.ev rfl) (h.ev rfl) (by omega) (by omega)) rfl fun f h => w_load_at ((hu.keep s.ext).el (k) (by omega) (by decide) (D := eArr m[k]) (e_el m k hkm)) h row47 rfl (eArr_size _) rfl fun f h => w_pure h (ru_neqW (eqE _ _) (by kernel_rfl) (by decide) (h.ev rfl) (h.ev rfl) (decide (l[k] = m[k])) (eEq _ _)) rfl fun f h => w_nil s fun w1 s => nt (c_cond h rfl (fun hc => ?_) (fun hc => ?_))
      · refine qre hFT9 1 h rfl fun f h => wpIn_ret (b_ret (t_ret (t_ret (b_ret (t_ret (e_tmp rfl h s rfl (congrArg Value.bool (same_no hkl hkm hc))))))))
      · refine wpIn_skip (b_norm (t_norm (c_region (s_pure h (ru_add (h.ev rfl) (h.ev rfl) (by omega)) rfl fun f h => e9 hFT9 1 h rfl fun f h => ?_))))
        exact ⟨_, by omega, ⟨k + 1, h.only ⟨rfl, rfl, rfl, rfl, slot_int rfl (by omega), trivial⟩, St.as s trivial, rfl, by omega, same_next hp1 hkl hkm hc⟩⟩
    · refine wpIn_exit (t_exit (t_exit (b_exit (t_norm (qre hFT9 1 h rfl fun f h => wpIn_ret (e_tmp rfl h s rfl (congrArg Value.bool (same_yes hlm (by omega) hp1))))))))

theorem has_any (k : Int) (f9 : Int) (w : World) : Calls Try.prog 74 [.int .i64 k, .int .u8 f9].toArray w (Ret w (is (.bool (hasF k f9)))) := by
  have hsz4 := fS_size k
  refine c_en Try.func74 rfl Try.ntmps74 rfl fun f h s => qre hFT9 1 h rfl fun f h => c_seqN (c_seqN ?_)
  refine rs hFT9 1 h rfl fun f h => s_ax hFT9 h rfl (fun ha f h => ?_) (fun ha f h => ?_)
  · skip
    refine s_run hFT9 2 h rfl fun f h => s_o h rfl (s_ax hFT9 h rfl (fun hb f h => ?_) (fun hb f h => ?_))
    · refine e9 hFT9 1 h rfl fun f h => cfk h rfl (qr ?_)
      have hka := of_decide_eq_false ha
      have hkb := of_decide_eq_false hb
      refine s_bslice (vs := [.string ⟨#[]⟩, .string ⟨#[115, 110, 100]⟩, .string ⟨#[105, 116, 110]⟩, .string ⟨#[105, 116, 111]⟩, .string ⟨#[105, 116, 110, 111]⟩, .string ⟨#[105, 116]⟩, .string ⟨#[105, 116, 111]⟩, .string ⟨#[105]⟩, .string ⟨#[105, 110]⟩, .string ⟨#[105, 110]⟩, .string ⟨#[105, 110]⟩]) [.const (.string ⟨#[]⟩), .const (.string ⟨#[115, 110, 100]⟩), .const (.string ⟨#[105, 116, 110]⟩), .const (.string ⟨#[105, 116, 111]⟩), .const (.string ⟨#[105, 116, 110, 111]⟩), .const (.string ⟨#[105, 116]⟩), .const (.string ⟨#[105, 116, 111]⟩), .const (.string ⟨#[105]⟩), .const (.string ⟨#[105, 110]⟩), .const (.string ⟨#[105, 110]⟩), .const (.string ⟨#[105, 110]⟩)] h s Try.underlying24 elm9 rfl rfl (by simp [Value.cells]) rfl rfl rfl fun f w1 v13 h s => ?_
      have s := s.as (B' := [.sl v13 9 1 11 (fstrs.map Value.string)]) ⟨sl_eq rfl rfl, trivial⟩
      refine s_run hFT9 1 h rfl fun f h => s_pure h (ru_ixz (RdZ.of_own (s.getSl 0 rfl)) (k.toNat) Try.underlying24 szo9 (h.ev rfl) (h.ev rfl) (by omega) (by omega)) rfl fun f h => s_load_at1 ((RdZ.of_own (s.getSl 0 rfl)).el1 (k.toNat) (V := .string (fS k)) (fS_get (by omega) (by omega))) h one9 rfl rfl fun f h => e9 hFT9 1 h rfl fun f h => c_seqN (qre hFT9 1 h rfl fun f h => wpIn_block (wpIn_loop_ghost (fun nn aa ww => ∃ j : Nat, Sl 28 aa [(0, .int .i64 k), (1, .int .u8 f9), (13, v13), (5, .string (fS k)), (6, .int .i64 (j : Int))] ∧ St w [.sl v13 9 1 11 (fstrs.map Value.string)] ww ∧ nn = (fS k).size - j ∧ j ≤ (fS k).size ∧ ∀ i, i < j → ¬ ((sb (fS k) i : Nat) : Int) = f9) ((fS k).size - (0)) ⟨0, h.only ⟨rfl, rfl, rfl, rfl, slot_int rfl rfl, trivial⟩, s.as ⟨rfl, trivial⟩, rfl, Nat.zero_le _, fun i h9 => absurd h9 (Nat.not_lt_zero _)⟩ ?_))
      rintro _ f w1 ⟨j, h, s, hnn, hp0, hp1⟩
      refine c_seqN (qrs hFT9 2 h rfl fun f h => s_pure h (ru_len_str Try.underlying9 (h.ev rfl)) rfl fun f h => e9 hFT9 1 h rfl fun f h => c_cd h rfl (fun hc => ?_) (fun hc => ?_))
      · refine kt (c_seqN (wpIn_block (qrs hFT9 2 h rfl fun f h => ?_)))
        have hjl : j < (fS k).size := by omega
        refine s_pure h (ru_ix_sb Try.underlying9 (j) (h.ev rfl) (h.ev rfl) (by omega) (by omega)) rfl fun f h => e9 hFT9 2 h rfl fun f h => c_cd h rfl (fun hc => ?_) (fun hc => ?_)
        · refine qre hFT9 1 h rfl fun f h => wpIn_ret (b_ret (t_ret (t_ret (b_ret (t_ret (e_tmp rfl h s rfl (by show _ = _; exact congrArg Value.bool (hasF_yes (by omega) (by omega) hjl hc))))))))
        · refine wpIn_skip (b_norm (t_norm (rs hFT9 1 h rfl fun f h => s_pure h (ru_add (h.ev rfl) (h.ev rfl) (by omega)) rfl fun f h => e9 hFT9 1 h rfl fun f h => ?_)))
          exact ⟨_, by omega, ⟨j + 1, h.only ⟨rfl, rfl, rfl, rfl, slot_int rfl (by omega), trivial⟩, St.as s ⟨rfl, trivial⟩, rfl, by omega, fun i h9 => (Nat.lt_succ_iff_lt_or_eq.1 h9).elim (hp1 i) (fun e => by subst e; exact hc)⟩⟩
      · refine wpIn_exit (t_exit (t_exit (b_exit (t_norm (qre hFT9 1 h rfl fun f h => wpIn_ret (e_tmp rfl h s rfl (by show _ = _; exact congrArg Value.bool (hasF_no (fun i h9 => hp1 i (by omega))))))))))
    · refine e9 hFT9 1 h rfl fun f h => c_ct h rfl (qre hFT9 1 h rfl fun f h => rt (e_tmp rfl h s rfl (by show _ = _; exact congrArg Value.bool (hasF_hi (of_decide_eq_true hb)))))
  · refine e9 hFT9 4 h rfl fun f h => c_ct h rfl (qre hFT9 1 h rfl fun f h => rt (e_tmp rfl h s rfl (by show _ = _; exact congrArg Value.bool (hasF_lo (of_decide_eq_true ha)))))

set_option maxHeartbeats 4000000 in
theorem rright5_any (m : Mg) (vs : Value) (w : World) (hv : RdZ w vs 34 m.l.length (eCells m.l)) (hln : m.l.length ≤ 1000000) : Calls Try.prog 48 [.agg (mArr m vs)].toArray w (Ret w (is (.bool (rightM m)))) := by
  refine c_en Try.func48 rfl Try.ntmps48 rfl fun f h s => qr (s_box (mArr m vs) h s rfl rfl rfl fun f w1 b1 h s => e9 hFT9 1 h rfl fun f h => c_seqN (c_seqN ?_))
  refine rs hFT9 1 h rfl fun f h => s_load_at1 (cell_of_has (Has.of_own s 0 rfl) 0 (mArr_k _ _)) h one3 rfl rfl fun f h => s_ax hFT9 h rfl (fun g1 f h => ?_) (fun g1 f h => ?_)
  · skip
    refine s_run hFT9 2 h rfl fun f h => s_o h rfl (s_load_at1 (cell_of_has (Has.of_own s 0 rfl) 0 (mArr_k _ _)) h one3 rfl rfl fun f h => s_o h rfl (s_ax hFT9 h rfl (fun g2 f h => ?_) (fun g2 f h => ?_)))
    · skip
      refine s_run hFT9 3 h rfl fun f h => s_o h rfl (s_load_at1 (cell_of_has (Has.of_own s 0 rfl) 68 (mArr_n _ _)) h one3 rfl rfl fun f h => s_o h rfl (s_ax hFT9 h rfl (fun g3 f h => ?_) (fun g3 f h => ?_)))
      · skip
        refine s_run hFT9 3 h rfl fun f h => s_o h rfl (s_load_at1 (cell_of_has (Has.of_own s 0 rfl) 68 (mArr_n _ _)) h one3 rfl rfl fun f h => s_o h rfl (s_ax hFT9 h rfl (fun g4 f h => ?_) (fun g4 f h => ?_)))
        · skip
          refine s_run hFT9 3 h rfl fun f h => s_o h rfl (s_load_at1 (cell_of_has (Has.of_own s 0 rfl) 70 (mArr_d _ _)) h one9 rfl rfl fun f h => s_o h rfl (s_pure h (ru_len_str Try.underlying9 (h.ev rfl)) rfl fun f h => s_o h rfl (s_ax hFT9 h rfl (fun g5 f h => ?_) (fun g5 f h => ?_))))
          · refine e9 hFT9 1 h rfl fun f h => cfk h rfl (qr (s_pure h (ru_build_m0 sttM) rfl fun f h => s_alloc (mArr mZ nilV) h s zero49 rfl rfl fun f w1 b3 h s => s_store_row 0 h s row49 rfl rfl rfl (mArr_size _ _) (mArr_size _ _) (mArr_ones _ _ rfl) fun w1 s => nt (c_seqN (c_seqN (c_join (fun aa ww => Sl 115 aa [(0, .agg (mArr m vs)), (1, .pointer (some ⟨b1, 0, none⟩)), (3, .pointer (some ⟨b3, 0, none⟩)), (64, .bool (bd4 m))] ∧ St w [.blk b3 (.cells (mArr mZ nilV) 49), .blk b1 (.cells (mArr m vs) 49)] ww) ?_ ?_)))))
            · skip
              refine rs hFT9 1 h rfl fun f h => s_load_at1 (cell_of_has (Has.of_own s 1 rfl) 0 (mArr_k _ _)) h one3 rfl rfl fun f h => s_cy (hasI m.k) h s fnc74 (has_any m.k 105 _) ((hasF_i m.k)) rfl rfl (fun hI f w1 h s => ?_) (fun hI f w1 h s => ?_)
              · skip
                cases xi : (decide (m.i ≠ 0#256) : Bool)
                · skip
                  refine s_run hFT9 3 h rfl fun f h => s_o h rfl (s_load_at (Has.subL (Has.of_own s 1 rfl) 1 32 (D := idArr (_)) (mArr_i _ _)) h row28 rfl (by first | exact idArr_size _ | exact bytesF_size _ _) rfl fun f h => s_run hFT9 1 h rfl fun f h => s_o h rfl (s_load_at (Has.subL (Has.of_own s 0 rfl) 1 32 (D := idArr (_)) (mArr_i _ _)) h row28 rfl (by first | exact idArr_size _ | exact bytesF_size _ _) rfl fun f h => s_o h rfl (s_pure h (ru_val (.bool false) (ru_neq_id idTy (h.ev rfl) (h.ev rfl)) (congrArg Value.bool xi)) rfl fun f h => s_run hFT9 3 h rfl fun f h => s_o h rfl (s_load_at1 (cell_of_has (Has.of_own s 1 rfl) 0 (mArr_k _ _)) h one3 rfl rfl fun f h => s_o h rfl (s_cy (hasT m.k) h s fnc74 (has_any m.k 116 _) ((hasF_t m.k)) rfl rfl (fun hT f w1 h s => ?_) (fun hT f w1 h s => ?_))))))
                  · skip
                    cases xt : (decide (m.t = (0, 0#256, 0)) : Bool)
                    · refine s_run hFT9 3 h rfl fun f h => s_o h rfl (s_load_at (Has.subL (Has.of_own s 1 rfl) 33 34 (D := eArr (_)) (mArr_t _ _)) h row47 rfl (eArr_size _) rfl fun f h => s_run hFT9 1 h rfl fun f h => s_o h rfl (s_load_at (Has.subL (Has.of_own s 0 rfl) 33 34 (D := eArr (_)) (mArr_t _ _)) h row47 rfl (eArr_size _) rfl fun f h => s_o h rfl (s_pure h (ru_val (.bool true) (ru_neqW (eqE _ _) (by kernel_rfl) (by decide) (h.ev rfl) (h.ev rfl) (decide (m.t = (0, 0#256, 0))) (eNe _ _)) (congrArg Value.bool (by rw [xt]; rfl))) rfl fun f h => s_run hFT9 8 h rfl fun f h => s_none h rfl rfl rfl rfl ?_))); intro f h
                      refine s_none h rfl rfl rfl rfl ?_; intro f h
                      refine s_none h rfl rfl rfl rfl ?_; intro f h
                      refine s_none h rfl rfl rfl rfl ?_; intro f h
                      refine e9 hFT9 2 h rfl fun f h => ?_
                      exact ⟨h.only ⟨rfl, rfl, rfl, slot_as rfl (congrArg Value.bool (by unfold bd4; rw [hI, xi, hT, xt]; rfl)), trivial⟩, St.as s ⟨rfl, rfl, trivial⟩⟩
                    · skip
                      refine s_run hFT9 3 h rfl fun f h => s_o h rfl (s_load_at (Has.subL (Has.of_own s 1 rfl) 33 34 (D := eArr (_)) (mArr_t _ _)) h row47 rfl (eArr_size _) rfl fun f h => s_run hFT9 1 h rfl fun f h => s_o h rfl (s_load_at (Has.subL (Has.of_own s 0 rfl) 33 34 (D := eArr (_)) (mArr_t _ _)) h row47 rfl (eArr_size _) rfl fun f h => s_o h rfl (s_pure h (ru_val (.bool false) (ru_neqW (eqE _ _) (by kernel_rfl) (by decide) (h.ev rfl) (h.ev rfl) (decide (m.t = (0, 0#256, 0))) (eNe _ _)) (congrArg Value.bool (by rw [xt]; rfl))) rfl fun f h => s_run hFT9 4 h rfl fun f h => s_o h rfl (s_load_at1 (cell_of_has (Has.of_own s 1 rfl) 0 (mArr_k _ _)) h one3 rfl rfl fun f h => s_o h rfl (s_cy (hasS m.k) h s fnc74 (has_any m.k 115 _) ((hasF_s m.k)) rfl rfl (fun hS f w1 h s => ?_) (fun hS f w1 h s => ?_))))))
                      · skip
                        cases xs : (decide (0 < m.l.length) : Bool)
                        · refine s_run hFT9 3 h rfl fun f h => s_o h rfl (s_load_at1 (cell_of_has (Has.of_own s 1 rfl) 67 (mArr_v _ _)) h one42 rfl rfl fun f h => s_o h rfl (s_lz h (hv.keep s.ext) Try.underlying42 rfl rfl fun f h => s_o h rfl (s_af hFT9 h rfl (Eq.trans (decide_eq_decide.2 (by omega)) xs) fun f h => e9 hFT9 2 h rfl fun f h => ?_)))
                          exact ⟨h.only ⟨rfl, rfl, rfl, slot_as rfl (congrArg Value.bool (by unfold bd4; rw [hI, xi, hT, xt, hS, xs]; rfl)), trivial⟩, St.as s ⟨rfl, rfl, trivial⟩⟩
                        · refine s_run hFT9 3 h rfl fun f h => s_o h rfl (s_load_at1 (cell_of_has (Has.of_own s 1 rfl) 67 (mArr_v _ _)) h one42 rfl rfl fun f h => s_o h rfl (s_lz h (hv.keep s.ext) Try.underlying42 rfl rfl fun f h => s_o h rfl (s_at hFT9 h rfl (Eq.trans (decide_eq_decide.2 (by omega)) xs) fun f h => e9 hFT9 2 h rfl fun f h => ?_)))
                          exact ⟨h.only ⟨rfl, rfl, rfl, slot_as rfl (congrArg Value.bool (by unfold bd4; rw [hI, xi, hT, xt, hS, xs]; rfl)), trivial⟩, St.as s ⟨rfl, rfl, trivial⟩⟩
                      · refine e9 hFT9 8 h rfl fun f h => ?_
                        exact ⟨h.only ⟨rfl, rfl, rfl, slot_as rfl (congrArg Value.bool (by unfold bd4; rw [hI, xi, hT, xt, hS]; rfl)), trivial⟩, St.as s ⟨rfl, rfl, trivial⟩⟩
                  · skip
                    refine s_run hFT9 11 h rfl fun f h => s_o h rfl (s_load_at1 (cell_of_has (Has.of_own s 1 rfl) 0 (mArr_k _ _)) h one3 rfl rfl fun f h => s_o h rfl (s_cy (hasS m.k) h s fnc74 (has_any m.k 115 _) ((hasF_s m.k)) rfl rfl (fun hS f w1 h s => ?_) (fun hS f w1 h s => ?_)))
                    · skip
                      cases xs : (decide (0 < m.l.length) : Bool)
                      · refine s_run hFT9 3 h rfl fun f h => s_o h rfl (s_load_at1 (cell_of_has (Has.of_own s 1 rfl) 67 (mArr_v _ _)) h one42 rfl rfl fun f h => s_o h rfl (s_lz h (hv.keep s.ext) Try.underlying42 rfl rfl fun f h => s_o h rfl (s_af hFT9 h rfl (Eq.trans (decide_eq_decide.2 (by omega)) xs) fun f h => e9 hFT9 2 h rfl fun f h => ?_)))
                        exact ⟨h.only ⟨rfl, rfl, rfl, slot_as rfl (congrArg Value.bool (by unfold bd4; rw [hI, xi, hT, hS, xs]; rfl)), trivial⟩, St.as s ⟨rfl, rfl, trivial⟩⟩
                      · refine s_run hFT9 3 h rfl fun f h => s_o h rfl (s_load_at1 (cell_of_has (Has.of_own s 1 rfl) 67 (mArr_v _ _)) h one42 rfl rfl fun f h => s_o h rfl (s_lz h (hv.keep s.ext) Try.underlying42 rfl rfl fun f h => s_o h rfl (s_at hFT9 h rfl (Eq.trans (decide_eq_decide.2 (by omega)) xs) fun f h => e9 hFT9 2 h rfl fun f h => ?_)))
                        exact ⟨h.only ⟨rfl, rfl, rfl, slot_as rfl (congrArg Value.bool (by unfold bd4; rw [hI, xi, hT, hS, xs]; rfl)), trivial⟩, St.as s ⟨rfl, rfl, trivial⟩⟩
                    · refine e9 hFT9 8 h rfl fun f h => ?_
                      exact ⟨h.only ⟨rfl, rfl, rfl, slot_as rfl (congrArg Value.bool (by unfold bd4; rw [hI, xi, hT, hS]; rfl)), trivial⟩, St.as s ⟨rfl, rfl, trivial⟩⟩
                · refine s_run hFT9 3 h rfl fun f h => s_o h rfl (s_load_at (Has.subL (Has.of_own s 1 rfl) 1 32 (D := idArr (_)) (mArr_i _ _)) h row28 rfl (by first | exact idArr_size _ | exact bytesF_size _ _) rfl fun f h => s_run hFT9 1 h rfl fun f h => s_o h rfl (s_load_at (Has.subL (Has.of_own s 0 rfl) 1 32 (D := idArr (_)) (mArr_i _ _)) h row28 rfl (by first | exact idArr_size _ | exact bytesF_size _ _) rfl fun f h => s_o h rfl (s_pure h (ru_val (.bool true) (ru_neq_id idTy (h.ev rfl) (h.ev rfl)) (congrArg Value.bool xi)) rfl fun f h => s_run hFT9 7 h rfl fun f h => s_none h rfl rfl rfl rfl ?_))); intro f h
                  refine s_none h rfl rfl rfl rfl ?_; intro f h
                  refine s_none h rfl rfl rfl rfl ?_; intro f h
                  refine s_none h rfl rfl rfl rfl ?_; intro f h
                  refine s_none h rfl rfl rfl rfl ?_; intro f h
                  refine s_run hFT9 8 h rfl fun f h => s_none h rfl rfl rfl rfl ?_; intro f h
                  refine s_none h rfl rfl rfl rfl ?_; intro f h
                  refine s_none h rfl rfl rfl rfl ?_; intro f h
                  refine s_none h rfl rfl rfl rfl ?_; intro f h
                  refine e9 hFT9 2 h rfl fun f h => ?_
                  exact ⟨h.only ⟨rfl, rfl, rfl, slot_as rfl (congrArg Value.bool (by unfold bd4; rw [hI, xi]; rfl)), trivial⟩, St.as s ⟨rfl, rfl, trivial⟩⟩
              · skip
                refine s_run hFT9 10 h rfl fun f h => s_o h rfl (s_load_at1 (cell_of_has (Has.of_own s 1 rfl) 0 (mArr_k _ _)) h one3 rfl rfl fun f h => s_o h rfl (s_cy (hasT m.k) h s fnc74 (has_any m.k 116 _) ((hasF_t m.k)) rfl rfl (fun hT f w1 h s => ?_) (fun hT f w1 h s => ?_)))
                · skip
                  cases xt : (decide (m.t = (0, 0#256, 0)) : Bool)
                  · refine s_run hFT9 3 h rfl fun f h => s_o h rfl (s_load_at (Has.subL (Has.of_own s 1 rfl) 33 34 (D := eArr (_)) (mArr_t _ _)) h row47 rfl (eArr_size _) rfl fun f h => s_run hFT9 1 h rfl fun f h => s_o h rfl (s_load_at (Has.subL (Has.of_own s 0 rfl) 33 34 (D := eArr (_)) (mArr_t _ _)) h row47 rfl (eArr_size _) rfl fun f h => s_o h rfl (s_pure h (ru_val (.bool true) (ru_neqW (eqE _ _) (by kernel_rfl) (by decide) (h.ev rfl) (h.ev rfl) (decide (m.t = (0, 0#256, 0))) (eNe _ _)) (congrArg Value.bool (by rw [xt]; rfl))) rfl fun f h => s_run hFT9 8 h rfl fun f h => s_none h rfl rfl rfl rfl ?_))); intro f h
                    refine s_none h rfl rfl rfl rfl ?_; intro f h
                    refine s_none h rfl rfl rfl rfl ?_; intro f h
                    refine s_none h rfl rfl rfl rfl ?_; intro f h
                    refine e9 hFT9 2 h rfl fun f h => ?_
                    exact ⟨h.only ⟨rfl, rfl, rfl, slot_as rfl (congrArg Value.bool (by unfold bd4; rw [hI, hT, xt]; rfl)), trivial⟩, St.as s ⟨rfl, rfl, trivial⟩⟩
                  · skip
                    refine s_run hFT9 3 h rfl fun f h => s_o h rfl (s_load_at (Has.subL (Has.of_own s 1 rfl) 33 34 (D := eArr (_)) (mArr_t _ _)) h row47 rfl (eArr_size _) rfl fun f h => s_run hFT9 1 h rfl fun f h => s_o h rfl (s_load_at (Has.subL (Has.of_own s 0 rfl) 33 34 (D := eArr (_)) (mArr_t _ _)) h row47 rfl (eArr_size _) rfl fun f h => s_o h rfl (s_pure h (ru_val (.bool false) (ru_neqW (eqE _ _) (by kernel_rfl) (by decide) (h.ev rfl) (h.ev rfl) (decide (m.t = (0, 0#256, 0))) (eNe _ _)) (congrArg Value.bool (by rw [xt]; rfl))) rfl fun f h => s_run hFT9 4 h rfl fun f h => s_o h rfl (s_load_at1 (cell_of_has (Has.of_own s 1 rfl) 0 (mArr_k _ _)) h one3 rfl rfl fun f h => s_o h rfl (s_cy (hasS m.k) h s fnc74 (has_any m.k 115 _) ((hasF_s m.k)) rfl rfl (fun hS f w1 h s => ?_) (fun hS f w1 h s => ?_))))))
                    · skip
                      cases xs : (decide (0 < m.l.length) : Bool)
                      · refine s_run hFT9 3 h rfl fun f h => s_o h rfl (s_load_at1 (cell_of_has (Has.of_own s 1 rfl) 67 (mArr_v _ _)) h one42 rfl rfl fun f h => s_o h rfl (s_lz h (hv.keep s.ext) Try.underlying42 rfl rfl fun f h => s_o h rfl (s_af hFT9 h rfl (Eq.trans (decide_eq_decide.2 (by omega)) xs) fun f h => e9 hFT9 2 h rfl fun f h => ?_)))
                        exact ⟨h.only ⟨rfl, rfl, rfl, slot_as rfl (congrArg Value.bool (by unfold bd4; rw [hI, hT, xt, hS, xs]; rfl)), trivial⟩, St.as s ⟨rfl, rfl, trivial⟩⟩
                      · refine s_run hFT9 3 h rfl fun f h => s_o h rfl (s_load_at1 (cell_of_has (Has.of_own s 1 rfl) 67 (mArr_v _ _)) h one42 rfl rfl fun f h => s_o h rfl (s_lz h (hv.keep s.ext) Try.underlying42 rfl rfl fun f h => s_o h rfl (s_at hFT9 h rfl (Eq.trans (decide_eq_decide.2 (by omega)) xs) fun f h => e9 hFT9 2 h rfl fun f h => ?_)))
                        exact ⟨h.only ⟨rfl, rfl, rfl, slot_as rfl (congrArg Value.bool (by unfold bd4; rw [hI, hT, xt, hS, xs]; rfl)), trivial⟩, St.as s ⟨rfl, rfl, trivial⟩⟩
                    · refine e9 hFT9 8 h rfl fun f h => ?_
                      exact ⟨h.only ⟨rfl, rfl, rfl, slot_as rfl (congrArg Value.bool (by unfold bd4; rw [hI, hT, xt, hS]; rfl)), trivial⟩, St.as s ⟨rfl, rfl, trivial⟩⟩
                · skip
                  refine s_run hFT9 11 h rfl fun f h => s_o h rfl (s_load_at1 (cell_of_has (Has.of_own s 1 rfl) 0 (mArr_k _ _)) h one3 rfl rfl fun f h => s_o h rfl (s_cy (hasS m.k) h s fnc74 (has_any m.k 115 _) ((hasF_s m.k)) rfl rfl (fun hS f w1 h s => ?_) (fun hS f w1 h s => ?_)))
                  · skip
                    cases xs : (decide (0 < m.l.length) : Bool)
                    · refine s_run hFT9 3 h rfl fun f h => s_o h rfl (s_load_at1 (cell_of_has (Has.of_own s 1 rfl) 67 (mArr_v _ _)) h one42 rfl rfl fun f h => s_o h rfl (s_lz h (hv.keep s.ext) Try.underlying42 rfl rfl fun f h => s_o h rfl (s_af hFT9 h rfl (Eq.trans (decide_eq_decide.2 (by omega)) xs) fun f h => e9 hFT9 2 h rfl fun f h => ?_)))
                      exact ⟨h.only ⟨rfl, rfl, rfl, slot_as rfl (congrArg Value.bool (by unfold bd4; rw [hI, hT, hS, xs]; rfl)), trivial⟩, St.as s ⟨rfl, rfl, trivial⟩⟩
                    · refine s_run hFT9 3 h rfl fun f h => s_o h rfl (s_load_at1 (cell_of_has (Has.of_own s 1 rfl) 67 (mArr_v _ _)) h one42 rfl rfl fun f h => s_o h rfl (s_lz h (hv.keep s.ext) Try.underlying42 rfl rfl fun f h => s_o h rfl (s_at hFT9 h rfl (Eq.trans (decide_eq_decide.2 (by omega)) xs) fun f h => e9 hFT9 2 h rfl fun f h => ?_)))
                      exact ⟨h.only ⟨rfl, rfl, rfl, slot_as rfl (congrArg Value.bool (by unfold bd4; rw [hI, hT, hS, xs]; rfl)), trivial⟩, St.as s ⟨rfl, rfl, trivial⟩⟩
                  · refine e9 hFT9 8 h rfl fun f h => ?_
                    exact ⟨h.only ⟨rfl, rfl, rfl, slot_as rfl (congrArg Value.bool (by unfold bd4; rw [hI, hT, hS]; rfl)), trivial⟩, St.as s ⟨rfl, rfl, trivial⟩⟩
            rintro f w1 ⟨h, s⟩
            refine t_norm (c_cond h rfl (fun hc => ?_) (fun hc => ?_))
            · refine qre hFT9 1 h rfl fun f h => rt (e_tmp rfl h s rfl (by show _ = _; rw [right_ref' (of_decide_eq_false g1) (of_decide_eq_false g2) (of_decide_eq_false g3) (of_decide_eq_false g4) (of_decide_eq_false g5), hc]; rfl))
            · have hb4 := hc
              refine kt (c_seqN (c_seqN (c_join (fun aa ww => Sl 115 aa [(0, .agg (mArr m vs)), (1, .pointer (some ⟨b1, 0, none⟩)), (3, .pointer (some ⟨b3, 0, none⟩)), (84, .bool (bd6 m))] ∧ St w [.blk b3 (.cells (mArr mZ nilV) 49), .blk b1 (.cells (mArr m vs) 49)] ww) ?_ ?_)))
              · skip
                refine rs hFT9 1 h rfl fun f h => s_load_at1 (cell_of_has (Has.of_own s 1 rfl) 0 (mArr_k _ _)) h one3 rfl rfl fun f h => s_cy (hasN m.k) h s fnc74 (has_any m.k 110 _) ((hasF_n m.k)) rfl rfl (fun hN f w1 h s => ?_) (fun hN f w1 h s => ?_)
                · skip
                  refine s_run hFT9 3 h rfl fun f h => s_o h rfl (s_load_at1 (cell_of_has (Has.of_own s 1 rfl) 68 (mArr_n _ _)) h one3 rfl rfl fun f h => s_o h rfl (s_ax hFT9 h rfl (fun xn f h => ?_) (fun xn f h => ?_)))
                  · skip
                    refine s_run hFT9 3 h rfl fun f h => s_o h rfl (s_load_at1 (cell_of_has (Has.of_own s 1 rfl) 0 (mArr_k _ _)) h one3 rfl rfl fun f h => s_o h rfl (s_cy (hasD m.k) h s fnc74 (has_any m.k 100 _) ((hasF_d m.k)) rfl rfl (fun hD f w1 h s => ?_) (fun hD f w1 h s => ?_)))
                    · skip
                      cases xd : (decide (m.d ≠ ⟨#[]⟩) : Bool)
                      · refine s_run hFT9 3 h rfl fun f h => s_o h rfl (s_load_at1 (cell_of_has (Has.of_own s 1 rfl) 70 (mArr_d _ _)) h one9 rfl rfl fun f h => s_o h rfl (s_pure h (ru_val (.bool false) (ru_neq_str (h.ev rfl) (h.ev rfl)) (congrArg Value.bool xd)) rfl fun f h => e9 hFT9 2 h rfl fun f h => ?_))
                        exact ⟨h.only ⟨rfl, rfl, rfl, slot_as rfl (congrArg Value.bool (by unfold bd6; rw [hN, xn, hD, xd]; rfl)), trivial⟩, St.as s ⟨rfl, rfl, trivial⟩⟩
                      · refine s_run hFT9 3 h rfl fun f h => s_o h rfl (s_load_at1 (cell_of_has (Has.of_own s 1 rfl) 70 (mArr_d _ _)) h one9 rfl rfl fun f h => s_o h rfl (s_pure h (ru_val (.bool true) (ru_neq_str (h.ev rfl) (h.ev rfl)) (congrArg Value.bool xd)) rfl fun f h => e9 hFT9 2 h rfl fun f h => ?_))
                        exact ⟨h.only ⟨rfl, rfl, rfl, slot_as rfl (congrArg Value.bool (by unfold bd6; rw [hN, xn, hD, xd]; rfl)), trivial⟩, St.as s ⟨rfl, rfl, trivial⟩⟩
                    · refine e9 hFT9 7 h rfl fun f h => ?_
                      exact ⟨h.only ⟨rfl, rfl, rfl, slot_as rfl (congrArg Value.bool (by unfold bd6; rw [hN, xn, hD]; rfl)), trivial⟩, St.as s ⟨rfl, rfl, trivial⟩⟩
                  · refine s_run hFT9 7 h rfl fun f h => s_none h rfl rfl rfl rfl ?_; intro f h
                    refine s_none h rfl rfl rfl rfl ?_; intro f h
                    refine s_none h rfl rfl rfl rfl ?_; intro f h
                    refine e9 hFT9 2 h rfl fun f h => ?_
                    exact ⟨h.only ⟨rfl, rfl, rfl, slot_as rfl (congrArg Value.bool (by unfold bd6; rw [hN, xn]; rfl)), trivial⟩, St.as s ⟨rfl, rfl, trivial⟩⟩
                · skip
                  refine s_run hFT9 8 h rfl fun f h => s_o h rfl (s_load_at1 (cell_of_has (Has.of_own s 1 rfl) 0 (mArr_k _ _)) h one3 rfl rfl fun f h => s_o h rfl (s_cy (hasD m.k) h s fnc74 (has_any m.k 100 _) ((hasF_d m.k)) rfl rfl (fun hD f w1 h s => ?_) (fun hD f w1 h s => ?_)))
                  · skip
                    cases xd : (decide (m.d ≠ ⟨#[]⟩) : Bool)
                    · refine s_run hFT9 3 h rfl fun f h => s_o h rfl (s_load_at1 (cell_of_has (Has.of_own s 1 rfl) 70 (mArr_d _ _)) h one9 rfl rfl fun f h => s_o h rfl (s_pure h (ru_val (.bool false) (ru_neq_str (h.ev rfl) (h.ev rfl)) (congrArg Value.bool xd)) rfl fun f h => e9 hFT9 2 h rfl fun f h => ?_))
                      exact ⟨h.only ⟨rfl, rfl, rfl, slot_as rfl (congrArg Value.bool (by unfold bd6; rw [hN, hD, xd]; rfl)), trivial⟩, St.as s ⟨rfl, rfl, trivial⟩⟩
                    · refine s_run hFT9 3 h rfl fun f h => s_o h rfl (s_load_at1 (cell_of_has (Has.of_own s 1 rfl) 70 (mArr_d _ _)) h one9 rfl rfl fun f h => s_o h rfl (s_pure h (ru_val (.bool true) (ru_neq_str (h.ev rfl) (h.ev rfl)) (congrArg Value.bool xd)) rfl fun f h => e9 hFT9 2 h rfl fun f h => ?_))
                      exact ⟨h.only ⟨rfl, rfl, rfl, slot_as rfl (congrArg Value.bool (by unfold bd6; rw [hN, hD, xd]; rfl)), trivial⟩, St.as s ⟨rfl, rfl, trivial⟩⟩
                  · refine e9 hFT9 7 h rfl fun f h => ?_
                    exact ⟨h.only ⟨rfl, rfl, rfl, slot_as rfl (congrArg Value.bool (by unfold bd6; rw [hN, hD]; rfl)), trivial⟩, St.as s ⟨rfl, rfl, trivial⟩⟩
              rintro f w1 ⟨h, s⟩
              refine t_norm (c_cond h rfl (fun hc => ?_) (fun hc => ?_))
              · refine qre hFT9 1 h rfl fun f h => rt (e_tmp rfl h s rfl (by show _ = _; rw [right_ref' (of_decide_eq_false g1) (of_decide_eq_false g2) (of_decide_eq_false g3) (of_decide_eq_false g4) (of_decide_eq_false g5), hb4, hc]; rfl))
              · have hb6 := hc
                refine kt (c_seqN (c_seqN (c_join (fun aa ww => Sl 115 aa [(0, .agg (mArr m vs)), (1, .pointer (some ⟨b1, 0, none⟩)), (3, .pointer (some ⟨b3, 0, none⟩)), (104, .bool (bd8 m))] ∧ St w [.blk b3 (.cells (mArr mZ nilV) 49), .blk b1 (.cells (mArr m vs) 49)] ww) ?_ ?_)))
                · skip
                  refine rs hFT9 1 h rfl fun f h => s_load_at1 (cell_of_has (Has.of_own s 1 rfl) 0 (mArr_k _ _)) h one3 rfl rfl fun f h => s_cy (hasT m.k) h s fnc74 (has_any m.k 116 _) ((hasF_t m.k)) rfl rfl (fun hT f w1 h s => ?_) (fun hT f w1 h s => ?_)
                  · skip
                    refine s_run hFT9 8 h rfl fun f h => s_o h rfl (s_load_at1 (cell_of_has (Has.of_own s 1 rfl) 0 (mArr_k _ _)) h one3 rfl rfl fun f h => s_o h rfl (s_cy (hasS m.k) h s fnc74 (has_any m.k 115 _) ((hasF_s m.k)) rfl rfl (fun hS f w1 h s => ?_) (fun hS f w1 h s => ?_)))
                    · refine e9 hFT9 7 h rfl fun f h => ?_
                      exact ⟨h.only ⟨rfl, rfl, rfl, slot_as rfl (congrArg Value.bool (by unfold bd8; rw [hT, hS]; rfl)), trivial⟩, St.as s ⟨rfl, rfl, trivial⟩⟩
                    · skip
                      refine s_run hFT9 2 h rfl fun f h => s_o h rfl (s_load_at1 (cell_of_has (Has.of_own s 1 rfl) 67 (mArr_v _ _)) h one42 rfl rfl fun f h => s_o h rfl (s_cx h s fnc22 (rright_any m.l _ _ (hv.keep s.ext) hln) rfl rfl (fun xs f w1 h s => ?_) (fun xs f w1 h s => ?_)))
                      · refine e9 hFT9 3 h rfl fun f h => ?_
                        exact ⟨h.only ⟨rfl, rfl, rfl, slot_as rfl (congrArg Value.bool (by unfold bd8; rw [hT, hS, xs]; rfl)), trivial⟩, St.as s ⟨rfl, rfl, trivial⟩⟩
                      · refine e9 hFT9 3 h rfl fun f h => ?_
                        exact ⟨h.only ⟨rfl, rfl, rfl, slot_as rfl (congrArg Value.bool (by unfold bd8; rw [hT, hS, xs]; rfl)), trivial⟩, St.as s ⟨rfl, rfl, trivial⟩⟩
                  · skip
                    refine s_run hFT9 2 h rfl fun f h => s_o h rfl (s_load_at (Has.subL (Has.of_own s 1 rfl) 33 34 (D := eArr (_)) (mArr_t _ _)) h row47 rfl (eArr_size _) rfl fun f h => s_o h rfl (s_cx h s fnc68 (ris_any _ _) rfl rfl (fun xt f w1 h s => ?_) (fun xt f w1 h s => ?_)))
                    · refine s_run hFT9 7 h rfl fun f h => s_none h rfl rfl rfl rfl ?_; intro f h
                      refine s_none h rfl rfl rfl rfl ?_; intro f h
                      refine s_none h rfl rfl rfl rfl ?_; intro f h
                      refine s_none h rfl rfl rfl rfl ?_; intro f h
                      refine e9 hFT9 2 h rfl fun f h => ?_
                      exact ⟨h.only ⟨rfl, rfl, rfl, slot_as rfl (congrArg Value.bool (by unfold bd8; rw [hT, xt]; rfl)), trivial⟩, St.as s ⟨rfl, rfl, trivial⟩⟩
                    · skip
                      refine s_run hFT9 4 h rfl fun f h => s_o h rfl (s_load_at1 (cell_of_has (Has.of_own s 1 rfl) 0 (mArr_k _ _)) h one3 rfl rfl fun f h => s_o h rfl (s_cy (hasS m.k) h s fnc74 (has_any m.k 115 _) ((hasF_s m.k)) rfl rfl (fun hS f w1 h s => ?_) (fun hS f w1 h s => ?_)))
                      · refine e9 hFT9 7 h rfl fun f h => ?_
                        exact ⟨h.only ⟨rfl, rfl, rfl, slot_as rfl (congrArg Value.bool (by unfold bd8; rw [hT, xt, hS]; rfl)), trivial⟩, St.as s ⟨rfl, rfl, trivial⟩⟩
                      · skip
                        refine s_run hFT9 2 h rfl fun f h => s_o h rfl (s_load_at1 (cell_of_has (Has.of_own s 1 rfl) 67 (mArr_v _ _)) h one42 rfl rfl fun f h => s_o h rfl (s_cx h s fnc22 (rright_any m.l _ _ (hv.keep s.ext) hln) rfl rfl (fun xs f w1 h s => ?_) (fun xs f w1 h s => ?_)))
                        · refine e9 hFT9 3 h rfl fun f h => ?_
                          exact ⟨h.only ⟨rfl, rfl, rfl, slot_as rfl (congrArg Value.bool (by unfold bd8; rw [hT, xt, hS, xs]; rfl)), trivial⟩, St.as s ⟨rfl, rfl, trivial⟩⟩
                        · refine e9 hFT9 3 h rfl fun f h => ?_
                          exact ⟨h.only ⟨rfl, rfl, rfl, slot_as rfl (congrArg Value.bool (by unfold bd8; rw [hT, xt, hS, xs]; rfl)), trivial⟩, St.as s ⟨rfl, rfl, trivial⟩⟩
                rintro f w1 ⟨h, s⟩
                refine t_norm (c_cond h rfl (fun hc => ?_) (fun hc => ?_))
                · refine qre hFT9 1 h rfl fun f h => rt (e_tmp rfl h s rfl (by show _ = _; rw [right_ref' (of_decide_eq_false g1) (of_decide_eq_false g2) (of_decide_eq_false g3) (of_decide_eq_false g4) (of_decide_eq_false g5), hb4, hb6, hc]; rfl))
                · have hb8 := hc
                  refine kt (c_seqN (qrs hFT9 1 h rfl fun f h => s_load_at1 (cell_of_has (Has.of_own s 1 rfl) 0 (mArr_k _ _)) h one3 rfl rfl fun f h => s_cv h s fnc74 (ret_val (.bool (hasO m.k)) (has_any m.k 111 _) (congrArg Value.bool (hasF_o m.k))) rfl rfl fun f w1 h s => nt (c_cond h rfl (fun hc => ?_) (fun hc => ?_))))
                  · refine qrs hFT9 1 h rfl fun f h => s_load_at1 (cell_of_has (Has.of_own s 1 rfl) 69 (mArr_o _ _)) h one9 rfl rfl fun f h => s_pure h (ru_len_str Try.underlying9 (h.ev rfl)) rfl fun f h => s_as hFT9 (.bool (decide (m.o.size = 16))) h rfl (congrArg Value.bool (decide_eq_decide.2 (by omega))) rfl fun f h => e9 hFT9 1 h rfl fun f h => rt (e_tmp rfl h s rfl (by show _ = _; rw [right_ref' (of_decide_eq_false g1) (of_decide_eq_false g2) (of_decide_eq_false g3) (of_decide_eq_false g4) (of_decide_eq_false g5), hb4, hb6, hb8]; show _ = Value.bool (c5 m); unfold c5; rw [hc]; rfl))
                  · refine kt (qrs hFT9 1 h rfl fun f h => s_load_at1 (cell_of_has (Has.of_own s 1 rfl) 69 (mArr_o _ _)) h one9 rfl rfl fun f h => s_pure h (ru_eql_str (h.ev rfl) (h.ev rfl)) rfl fun f h => e9 hFT9 1 h rfl fun f h => wpIn_ret (e_tmp rfl h s rfl (by show _ = _; rw [right_ref' (of_decide_eq_false g1) (of_decide_eq_false g2) (of_decide_eq_false g3) (of_decide_eq_false g4) (of_decide_eq_false g5), hb4, hb6, hb8]; show _ = Value.bool (c5 m); unfold c5; rw [hc]; rfl)))
          · refine e9 hFT9 1 h rfl fun f h => c_ct h rfl (qre hFT9 1 h rfl fun f h => rt (e_tmp rfl h s rfl (by show _ = _; exact congrArg Value.bool (right_d (of_decide_eq_true g5)))))
        · refine e9 hFT9 7 h rfl fun f h => c_ct h rfl (qre hFT9 1 h rfl fun f h => rt (e_tmp rfl h s rfl (by show _ = _; exact congrArg Value.bool (right_n2 (of_decide_eq_true g4)))))
      · refine e9 hFT9 12 h rfl fun f h => c_ct h rfl (qre hFT9 1 h rfl fun f h => rt (e_tmp rfl h s rfl (by show _ = _; exact congrArg Value.bool (right_n1 (of_decide_eq_true g3)))))
    · refine e9 hFT9 17 h rfl fun f h => c_ct h rfl (qre hFT9 1 h rfl fun f h => rt (e_tmp rfl h s rfl (by show _ = _; exact congrArg Value.bool (right_k2 (of_decide_eq_true g2)))))
  · refine e9 hFT9 21 h rfl fun f h => c_ct h rfl (qre hFT9 1 h rfl fun f h => rt (e_tmp rfl h s rfl (by show _ = _; exact congrArg Value.bool (right_k1 (of_decide_eq_true g1)))))

set_option maxHeartbeats 2000000 in
theorem rlike_any (a b : Mg) (va vb : Value) (w : World) (hva : RdZ w va 34 a.l.length (eCells a.l)) (hvb : RdZ w vb 34 b.l.length (eCells b.l)) (hla : a.l.length ≤ 1000000) (hlb : b.l.length ≤ 1000000) : Calls Try.prog 42 [.agg (mArr a va), .agg (mArr b vb)].toArray w (Ret w (is (.bool (mEqB a b)))) := by
  refine c_en Try.func42 rfl Try.ntmps42 rfl fun f h s => qr (s_box (mArr a va) h s rfl rfl rfl fun f w1 b2 h s => s_box (mArr b vb) h s rfl rfl rfl fun f w1 b3 h s => e9 hFT9 1 h rfl fun f h => c_seqN ?_)
  refine rs hFT9 1 h rfl fun f h => s_load_at1 (cell_of_has (Has.of_own s 1 rfl) 0 (mArr_k _ _)) h one3 rfl rfl fun f h => s_run hFT9 1 h rfl fun f h => s_load_at1 (cell_of_has (Has.of_own s 0 rfl) 0 (mArr_k _ _)) h one3 rfl rfl fun f h => s_ax hFT9 h rfl (fun e1 f h => ?_) (fun e1 f h => ?_)
  · refine e9 hFT9 43 h rfl fun f h => wpIn_ret (e_tmp rfl h s rfl (congrArg Value.bool (like_1 e1)))
  · skip
    cases e2 : (decide (a.i = b.i) : Bool)
    · refine s_run hFT9 2 h rfl fun f h => s_o h rfl (s_load_at (Has.subL (Has.of_own s 1 rfl) 1 32 (D := idArr (_)) (mArr_i _ _)) h row28 rfl (by first | exact idArr_size _ | exact bytesF_size _ _) rfl fun f h => s_run hFT9 1 h rfl fun f h => s_o h rfl (s_load_at (Has.subL (Has.of_own s 0 rfl) 1 32 (D := idArr (_)) (mArr_i _ _)) h row28 rfl (by first | exact idArr_size _ | exact bytesF_size _ _) rfl fun f h => s_o h rfl (s_pure h (ru_val (.bool false) (ru_eql_id idTy (h.ev rfl) (h.ev rfl)) (congrArg Value.bool e2)) rfl fun f h => e9 hFT9 37 h rfl fun f h => wpIn_ret (e_tmp rfl h s rfl (congrArg Value.bool (like_2 e2))))))
    · skip
      cases e3 : (decide (a.t = b.t) : Bool)
      · refine s_run hFT9 2 h rfl fun f h => s_o h rfl (s_load_at (Has.subL (Has.of_own s 1 rfl) 1 32 (D := idArr (_)) (mArr_i _ _)) h row28 rfl (by first | exact idArr_size _ | exact bytesF_size _ _) rfl fun f h => s_run hFT9 1 h rfl fun f h => s_o h rfl (s_load_at (Has.subL (Has.of_own s 0 rfl) 1 32 (D := idArr (_)) (mArr_i _ _)) h row28 rfl (by first | exact idArr_size _ | exact bytesF_size _ _) rfl fun f h => s_o h rfl (s_pure h (ru_val (.bool true) (ru_eql_id idTy (h.ev rfl) (h.ev rfl)) (congrArg Value.bool e2)) rfl fun f h => s_run hFT9 3 h rfl fun f h => s_o h rfl (s_load_at (Has.subL (Has.of_own s 1 rfl) 33 34 (D := eArr (_)) (mArr_t _ _)) h row47 rfl (eArr_size _) rfl fun f h => s_run hFT9 1 h rfl fun f h => s_o h rfl (s_load_at (Has.subL (Has.of_own s 0 rfl) 33 34 (D := eArr (_)) (mArr_t _ _)) h row47 rfl (eArr_size _) rfl fun f h => s_o h rfl (s_pure h (ru_val (.bool false) (ru_eqlW (eqE _ _) (by kernel_rfl) (by decide) (h.ev rfl) (h.ev rfl) (decide (a.t = b.t)) (eEq _ _)) (congrArg Value.bool e3)) rfl fun f h => e9 hFT9 30 h rfl fun f h => wpIn_ret (e_tmp rfl h s rfl (congrArg Value.bool (like_3 e3)))))))))
      · skip
        refine s_run hFT9 2 h rfl fun f h => s_o h rfl (s_load_at (Has.subL (Has.of_own s 1 rfl) 1 32 (D := idArr (_)) (mArr_i _ _)) h row28 rfl (by first | exact idArr_size _ | exact bytesF_size _ _) rfl fun f h => s_run hFT9 1 h rfl fun f h => s_o h rfl (s_load_at (Has.subL (Has.of_own s 0 rfl) 1 32 (D := idArr (_)) (mArr_i _ _)) h row28 rfl (by first | exact idArr_size _ | exact bytesF_size _ _) rfl fun f h => s_o h rfl (s_pure h (ru_val (.bool true) (ru_eql_id idTy (h.ev rfl) (h.ev rfl)) (congrArg Value.bool e2)) rfl fun f h => s_run hFT9 3 h rfl fun f h => s_o h rfl (s_load_at (Has.subL (Has.of_own s 1 rfl) 33 34 (D := eArr (_)) (mArr_t _ _)) h row47 rfl (eArr_size _) rfl fun f h => s_run hFT9 1 h rfl fun f h => s_o h rfl (s_load_at (Has.subL (Has.of_own s 0 rfl) 33 34 (D := eArr (_)) (mArr_t _ _)) h row47 rfl (eArr_size _) rfl fun f h => s_o h rfl (s_pure h (ru_val (.bool true) (ru_eqlW (eqE _ _) (by kernel_rfl) (by decide) (h.ev rfl) (h.ev rfl) (decide (a.t = b.t)) (eEq _ _)) (congrArg Value.bool e3)) rfl fun f h => s_run hFT9 3 h rfl fun f h => s_o h rfl (s_load_at1 (cell_of_has (Has.of_own s 1 rfl) 67 (mArr_v _ _)) h one42 rfl rfl fun f h => s_run hFT9 1 h rfl fun f h => s_o h rfl (s_load_at1 (cell_of_has (Has.of_own s 0 rfl) 67 (mArr_v _ _)) h one42 rfl rfl fun f h => s_o h rfl (s_cx h s fnc67 (rsame_any a.l b.l _ _ _ (hva.keep s.ext) (hvb.keep s.ext) hla hlb) rfl rfl (fun e4 f w1 h s => ?_) (fun e4 f w1 h s => ?_))))))))))
        · refine e9 hFT9 23 h rfl fun f h => wpIn_ret (e_tmp rfl h s rfl (congrArg Value.bool (like_4 e4)))
        · skip
          refine s_run hFT9 3 h rfl fun f h => s_o h rfl (s_load_at1 (cell_of_has (Has.of_own s 1 rfl) 68 (mArr_n _ _)) h one3 rfl rfl fun f h => s_run hFT9 1 h rfl fun f h => s_o h rfl (s_load_at1 (cell_of_has (Has.of_own s 0 rfl) 68 (mArr_n _ _)) h one3 rfl rfl fun f h => s_o h rfl (s_ax hFT9 h rfl (fun e5 f h => ?_) (fun e5 f h => ?_))))
          · refine e9 hFT9 16 h rfl fun f h => wpIn_ret (e_tmp rfl h s rfl (congrArg Value.bool (like_5 e5)))
          · skip
            cases e6 : (decide (a.o = b.o) : Bool)
            · refine s_run hFT9 3 h rfl fun f h => s_o h rfl (s_load_at1 (cell_of_has (Has.of_own s 1 rfl) 69 (mArr_o _ _)) h one9 rfl rfl fun f h => s_run hFT9 1 h rfl fun f h => s_o h rfl (s_load_at1 (cell_of_has (Has.of_own s 0 rfl) 69 (mArr_o _ _)) h one9 rfl rfl fun f h => s_o h rfl (s_pure h (ru_val (.bool false) (ru_eql_str (h.ev rfl) (h.ev rfl)) (congrArg Value.bool e6)) rfl fun f h => e9 hFT9 9 h rfl fun f h => wpIn_ret (e_tmp rfl h s rfl (congrArg Value.bool (like_6 e6))))))
            · skip
              cases e7 : (decide (a.d = b.d) : Bool)
              · refine s_run hFT9 3 h rfl fun f h => s_o h rfl (s_load_at1 (cell_of_has (Has.of_own s 1 rfl) 69 (mArr_o _ _)) h one9 rfl rfl fun f h => s_run hFT9 1 h rfl fun f h => s_o h rfl (s_load_at1 (cell_of_has (Has.of_own s 0 rfl) 69 (mArr_o _ _)) h one9 rfl rfl fun f h => s_o h rfl (s_pure h (ru_val (.bool true) (ru_eql_str (h.ev rfl) (h.ev rfl)) (congrArg Value.bool e6)) rfl fun f h => s_run hFT9 3 h rfl fun f h => s_o h rfl (s_load_at1 (cell_of_has (Has.of_own s 1 rfl) 70 (mArr_d _ _)) h one9 rfl rfl fun f h => s_run hFT9 1 h rfl fun f h => s_o h rfl (s_load_at1 (cell_of_has (Has.of_own s 0 rfl) 70 (mArr_d _ _)) h one9 rfl rfl fun f h => s_o h rfl (s_pure h (ru_val (.bool false) (ru_eql_str (h.ev rfl) (h.ev rfl)) (congrArg Value.bool e7)) rfl fun f h => e9 hFT9 2 h rfl fun f h => wpIn_ret (e_tmp rfl h s rfl (congrArg Value.bool (like_7 e7)))))))))
              · refine s_run hFT9 3 h rfl fun f h => s_o h rfl (s_load_at1 (cell_of_has (Has.of_own s 1 rfl) 69 (mArr_o _ _)) h one9 rfl rfl fun f h => s_run hFT9 1 h rfl fun f h => s_o h rfl (s_load_at1 (cell_of_has (Has.of_own s 0 rfl) 69 (mArr_o _ _)) h one9 rfl rfl fun f h => s_o h rfl (s_pure h (ru_val (.bool true) (ru_eql_str (h.ev rfl) (h.ev rfl)) (congrArg Value.bool e6)) rfl fun f h => s_run hFT9 3 h rfl fun f h => s_o h rfl (s_load_at1 (cell_of_has (Has.of_own s 1 rfl) 70 (mArr_d _ _)) h one9 rfl rfl fun f h => s_run hFT9 1 h rfl fun f h => s_o h rfl (s_load_at1 (cell_of_has (Has.of_own s 0 rfl) 70 (mArr_d _ _)) h one9 rfl rfl fun f h => s_o h rfl (s_pure h (ru_val (.bool true) (ru_eql_str (h.ev rfl) (h.ev rfl)) (congrArg Value.bool e7)) rfl fun f h => e9 hFT9 2 h rfl fun f h => wpIn_ret (e_tmp rfl h s rfl (congrArg Value.bool (like_all e1 e2 e3 e4 e5 e6 e7)))))))))

set_option maxHeartbeats 2000000 in
theorem rsends_any (K M : List S2) (va vb : Value) (w : World) (hK : RdS w va K) (hM : RdS w vb M) (hKl : K.length ≤ 1000) (hMl : M.length ≤ 1000) (hKs : ∀ x ∈ K, x.1.2.1.l.length ≤ 1000) (hMs : ∀ x ∈ M, x.1.2.1.l.length ≤ 1000) : Calls Try.prog 20 [va, vb].toArray w (Ret w (is (.bool (decide (sends K = sends M))))) := by
  refine c_en Try.func20 rfl Try.ntmps20 rfl fun f h s => qre hFT9 1 h rfl fun f h => c_seqN (qrs hFT9 1 h rfl fun f h => s_lz h (hK.1.keep s.ext) Try.underlying43 rfl rfl fun f h => s_run hFT9 1 h rfl fun f h => s_lz h (hM.1.keep s.ext) Try.underlying43 rfl rfl fun f h => e9 hFT9 1 h rfl fun f h => c_cond h rfl (fun hc => ?_) (fun hc => ?_))
  · replace hc := hc
    refine qre hFT9 1 h rfl fun f h => rt (e_tmp rfl h s rfl (by show _ = _; rw [sd_nl (fun e9 => by rw [e9] at hc; simp at hc)]))
  · have hl9 : K.length = M.length := by have := hc; simp at this; omega
    refine kt (c_seqN (qrs hFT9 1 h rfl fun f h => s_lz h (hK.1.keep s.ext) Try.underlying43 rfl rfl fun f h => e9 hFT9 1 h rfl fun f h => wpIn_block (wpIn_loop_ghost (fun nn aa ww => ∃ k : Nat, Sl 55 aa [(0, va), (1, vb), (12, .int .i64 (K.length : Int)), (13, .int .i64 (k : Int))] ∧ St w [] ww ∧ nn = K.length - k ∧ k ≤ K.length ∧ ∀ j, j < k → (K.getD j zS2).1 = (M.getD j zS2).1) (K.length - (0)) ⟨0, h.only ⟨rfl, rfl, rfl, slot_int rfl (by omega), trivial⟩, s.as trivial, rfl, Nat.zero_le _, fun j hj => absurd hj (Nat.not_lt_zero _)⟩ ?_)))
    rintro _ f w1 ⟨k, h, s, hnn, hp0, hp1⟩
    refine qre hFT9 1 h rfl fun f h => c_seqN (c_cd h rfl (fun hc => ?_) (fun hc => ?_))
    · refine kt (c_seqN (wpIn_block (qr ?_)))
      have hkl : k < K.length := by omega
      have hkm : k < M.length := by omega
      refine e9 hFT9 2 h rfl fun f h => c_seqN ?_
      cases k0 : (decide ((K.getD k zS2).1.1 = (M.getD k zS2).1.1) : Bool)
      · refine c_wA 38 h (by kernel_rfl) (w_run hFT9 2 h rfl fun f h => w_pure h (ru_ixz (hK.1.keep s.ext) (k) Try.underlying43 szo53 (h.ev rfl) (h.ev rfl) (by omega) (by omega)) rfl fun f h => w_pure h (ru_fieldE fld53_0 (h.ev rfl) ((hK.1.keep s.ext).some (by omega))) rfl fun f h => w_load_at1 (V := .int .i64 (K.getD k zS2).1.1) (rdz_at (hK.1.keep s.ext) (k * 139 + 0) (se_c0 K k hkl)) h one3 rfl rfl fun f h => w_run hFT9 2 h rfl fun f h => w_pure h (ru_ixz (hM.1.keep s.ext) (k) Try.underlying43 szo53 (h.ev rfl) (h.ev rfl) (by omega) (by omega)) rfl fun f h => w_pure h (ru_fieldE fld53_0 (h.ev rfl) ((hM.1.keep s.ext).some (by omega))) rfl fun f h => w_load_at1 (V := .int .i64 (M.getD k zS2).1.1) (rdz_at (hM.1.keep s.ext) (k * 139 + 0) (se_c0 M k hkm)) h one3 rfl rfl fun f h => w_at hFT9 h rfl (by simpa using k0) fun f h => w_run hFT9 27 h rfl fun f h => w_nil s fun w1 s => nct h rfl (qre hFT9 1 h rfl fun f h => wpIn_ret (b_ret (t_ret (t_ret (b_ret (t_ret (e_tmp rfl h s rfl (by show _ = _; rw [sd_ne hkl hkm (se_ne (·.1) k0)])))))))))
      · skip
        cases k1 : (decide ((K.getD k zS2).1.2.2 = (M.getD k zS2).1.2.2) : Bool)
        · refine c_wA 38 h (by kernel_rfl) (w_run hFT9 2 h rfl fun f h => w_pure h (ru_ixz (hK.1.keep s.ext) (k) Try.underlying43 szo53 (h.ev rfl) (h.ev rfl) (by omega) (by omega)) rfl fun f h => w_pure h (ru_fieldE fld53_0 (h.ev rfl) ((hK.1.keep s.ext).some (by omega))) rfl fun f h => w_load_at1 (V := .int .i64 (K.getD k zS2).1.1) (rdz_at (hK.1.keep s.ext) (k * 139 + 0) (se_c0 K k hkl)) h one3 rfl rfl fun f h => w_run hFT9 2 h rfl fun f h => w_pure h (ru_ixz (hM.1.keep s.ext) (k) Try.underlying43 szo53 (h.ev rfl) (h.ev rfl) (by omega) (by omega)) rfl fun f h => w_pure h (ru_fieldE fld53_0 (h.ev rfl) ((hM.1.keep s.ext).some (by omega))) rfl fun f h => w_load_at1 (V := .int .i64 (M.getD k zS2).1.1) (rdz_at (hM.1.keep s.ext) (k * 139 + 0) (se_c0 M k hkm)) h one3 rfl rfl fun f h => w_af hFT9 h rfl (by simpa using k0) fun f h => w_run hFT9 3 h rfl fun f h => w_o h rfl (w_pure h (ru_ixz (hK.1.keep s.ext) (k) Try.underlying43 szo53 (h.ev rfl) (h.ev rfl) (by omega) (by omega)) rfl fun f h => w_o h rfl (w_pure h (ru_fieldE fld53_2 (h.ev rfl) ((hK.1.keep s.ext).some (by omega))) rfl fun f h => w_o h rfl (w_load_at (RdZ.elF (hK.1.keep s.ext) (k) 72 67 (by omega) (by decide) (C := seArr (K.getD k zS2).1.1 (K.getD k zS2).1.2.1 (K.getD k zS2).2 (K.getD k zS2).1.2.2) (s2_el K k hkl) (D := tgArr (K.getD k zS2).1.2.2) (se_t _ _ _ _)) h row51 rfl (tgArr_size _) rfl fun f h => w_run hFT9 2 h rfl fun f h => w_o h rfl (w_pure h (ru_ixz (hM.1.keep s.ext) (k) Try.underlying43 szo53 (h.ev rfl) (h.ev rfl) (by omega) (by omega)) rfl fun f h => w_o h rfl (w_pure h (ru_fieldE fld53_2 (h.ev rfl) ((hM.1.keep s.ext).some (by omega))) rfl fun f h => w_o h rfl (w_load_at (RdZ.elF (hM.1.keep s.ext) (k) 72 67 (by omega) (by decide) (C := seArr (M.getD k zS2).1.1 (M.getD k zS2).1.2.1 (M.getD k zS2).2 (M.getD k zS2).1.2.2) (s2_el M k hkm) (D := tgArr (M.getD k zS2).1.2.2) (se_t _ _ _ _)) h row51 rfl (tgArr_size _) rfl fun f h => w_o h rfl (w_pure h (ru_val (.bool true) (ru_neqW (eqG _ _) (by kernel_rfl) (by decide) (h.ev rfl) (h.ev rfl) (decide ((K.getD k zS2).1.2.2 = (M.getD k zS2).1.2.2)) (tgEq _ _)) (congrArg Value.bool (by simpa using k1))) rfl fun f h => w_run hFT9 15 h rfl fun f h => w_nil s fun w1 s => nct h rfl (qre hFT9 1 h rfl fun f h => wpIn_ret (b_ret (t_ret (t_ret (b_ret (t_ret (e_tmp rfl h s rfl (by show _ = _; rw [sd_ne hkl hkm (se_ne (·.2.2) k1)]))))))))))))))))
        · skip
          cases k2 : (mEqB (K.getD k zS2).1.2.1 (M.getD k zS2).1.2.1 : Bool)
          · refine c_wA 38 h (by kernel_rfl) (w_run hFT9 2 h rfl fun f h => w_pure h (ru_ixz (hK.1.keep s.ext) (k) Try.underlying43 szo53 (h.ev rfl) (h.ev rfl) (by omega) (by omega)) rfl fun f h => w_pure h (ru_fieldE fld53_0 (h.ev rfl) ((hK.1.keep s.ext).some (by omega))) rfl fun f h => w_load_at1 (V := .int .i64 (K.getD k zS2).1.1) (rdz_at (hK.1.keep s.ext) (k * 139 + 0) (se_c0 K k hkl)) h one3 rfl rfl fun f h => w_run hFT9 2 h rfl fun f h => w_pure h (ru_ixz (hM.1.keep s.ext) (k) Try.underlying43 szo53 (h.ev rfl) (h.ev rfl) (by omega) (by omega)) rfl fun f h => w_pure h (ru_fieldE fld53_0 (h.ev rfl) ((hM.1.keep s.ext).some (by omega))) rfl fun f h => w_load_at1 (V := .int .i64 (M.getD k zS2).1.1) (rdz_at (hM.1.keep s.ext) (k * 139 + 0) (se_c0 M k hkm)) h one3 rfl rfl fun f h => w_af hFT9 h rfl (by simpa using k0) fun f h => w_run hFT9 3 h rfl fun f h => w_o h rfl (w_pure h (ru_ixz (hK.1.keep s.ext) (k) Try.underlying43 szo53 (h.ev rfl) (h.ev rfl) (by omega) (by omega)) rfl fun f h => w_o h rfl (w_pure h (ru_fieldE fld53_2 (h.ev rfl) ((hK.1.keep s.ext).some (by omega))) rfl fun f h => w_o h rfl (w_load_at (RdZ.elF (hK.1.keep s.ext) (k) 72 67 (by omega) (by decide) (C := seArr (K.getD k zS2).1.1 (K.getD k zS2).1.2.1 (K.getD k zS2).2 (K.getD k zS2).1.2.2) (s2_el K k hkl) (D := tgArr (K.getD k zS2).1.2.2) (se_t _ _ _ _)) h row51 rfl (tgArr_size _) rfl fun f h => w_run hFT9 2 h rfl fun f h => w_o h rfl (w_pure h (ru_ixz (hM.1.keep s.ext) (k) Try.underlying43 szo53 (h.ev rfl) (h.ev rfl) (by omega) (by omega)) rfl fun f h => w_o h rfl (w_pure h (ru_fieldE fld53_2 (h.ev rfl) ((hM.1.keep s.ext).some (by omega))) rfl fun f h => w_o h rfl (w_load_at (RdZ.elF (hM.1.keep s.ext) (k) 72 67 (by omega) (by decide) (C := seArr (M.getD k zS2).1.1 (M.getD k zS2).1.2.1 (M.getD k zS2).2 (M.getD k zS2).1.2.2) (s2_el M k hkm) (D := tgArr (M.getD k zS2).1.2.2) (se_t _ _ _ _)) h row51 rfl (tgArr_size _) rfl fun f h => w_o h rfl (w_pure h (ru_val (.bool false) (ru_neqW (eqG _ _) (by kernel_rfl) (by decide) (h.ev rfl) (h.ev rfl) (decide ((K.getD k zS2).1.2.2 = (M.getD k zS2).1.2.2)) (tgEq _ _)) (congrArg Value.bool (by simpa using k1))) rfl fun f h => w_run hFT9 4 h rfl fun f h => w_o h rfl (w_pure h (ru_ixz (hK.1.keep s.ext) (k) Try.underlying43 szo53 (h.ev rfl) (h.ev rfl) (by omega) (by omega)) rfl fun f h => w_o h rfl (w_pure h (ru_fieldE fld53_1 (h.ev rfl) ((hK.1.keep s.ext).some (by omega))) rfl fun f h => w_o h rfl (w_load_at (RdZ.elF (hK.1.keep s.ext) (k) 1 71 (by omega) (by decide) (C := seArr (K.getD k zS2).1.1 (K.getD k zS2).1.2.1 (K.getD k zS2).2 (K.getD k zS2).1.2.2) (s2_el K k hkl) (D := mArr (K.getD k zS2).1.2.1 (K.getD k zS2).2) (se_m _ _ _ _)) h row49 rfl (mArr_size _ _) rfl fun f h => w_run hFT9 2 h rfl fun f h => w_o h rfl (w_pure h (ru_ixz (hM.1.keep s.ext) (k) Try.underlying43 szo53 (h.ev rfl) (h.ev rfl) (by omega) (by omega)) rfl fun f h => w_o h rfl (w_pure h (ru_fieldE fld53_1 (h.ev rfl) ((hM.1.keep s.ext).some (by omega))) rfl fun f h => w_o h rfl (w_load_at (RdZ.elF (hM.1.keep s.ext) (k) 1 71 (by omega) (by decide) (C := seArr (M.getD k zS2).1.1 (M.getD k zS2).1.2.1 (M.getD k zS2).2 (M.getD k zS2).1.2.2) (s2_el M k hkm) (D := mArr (M.getD k zS2).1.2.1 (M.getD k zS2).2) (se_m _ _ _ _)) h row49 rfl (mArr_size _ _) rfl fun f h => w_o h rfl (w_call h fnc42 (fun w9 hE9 => ret_val (.bool false) (rlike_any (K.getD k zS2).1.2.1 (M.getD k zS2).1.2.1 (K.getD k zS2).2 (M.getD k zS2).2 w9 ((hK.2 _ (s2_mem hkl)).keep (s.ext.trans hE9)) ((hM.2 _ (s2_mem hkm)).keep (s.ext.trans hE9)) (Nat.le_trans (hKs _ (s2_mem hkl)) (by decide)) (Nat.le_trans (hMs _ (s2_mem hkm)) (by decide))) (congrArg Value.bool k2)) rfl rfl fun f h => w_run hFT9 2 h rfl fun f h => w_nil s fun w1 s => nct h rfl (qre hFT9 1 h rfl fun f h => wpIn_ret (b_ret (t_ret (t_ret (b_ret (t_ret (e_tmp rfl h s rfl (by show _ = _; rw [sd_ne hkl hkm (se_neM k2)])))))))))))))))))))))))
          · refine c_wA 38 h (by kernel_rfl) (w_run hFT9 2 h rfl fun f h => w_pure h (ru_ixz (hK.1.keep s.ext) (k) Try.underlying43 szo53 (h.ev rfl) (h.ev rfl) (by omega) (by omega)) rfl fun f h => w_pure h (ru_fieldE fld53_0 (h.ev rfl) ((hK.1.keep s.ext).some (by omega))) rfl fun f h => w_load_at1 (V := .int .i64 (K.getD k zS2).1.1) (rdz_at (hK.1.keep s.ext) (k * 139 + 0) (se_c0 K k hkl)) h one3 rfl rfl fun f h => w_run hFT9 2 h rfl fun f h => w_pure h (ru_ixz (hM.1.keep s.ext) (k) Try.underlying43 szo53 (h.ev rfl) (h.ev rfl) (by omega) (by omega)) rfl fun f h => w_pure h (ru_fieldE fld53_0 (h.ev rfl) ((hM.1.keep s.ext).some (by omega))) rfl fun f h => w_load_at1 (V := .int .i64 (M.getD k zS2).1.1) (rdz_at (hM.1.keep s.ext) (k * 139 + 0) (se_c0 M k hkm)) h one3 rfl rfl fun f h => w_af hFT9 h rfl (by simpa using k0) fun f h => w_run hFT9 3 h rfl fun f h => w_o h rfl (w_pure h (ru_ixz (hK.1.keep s.ext) (k) Try.underlying43 szo53 (h.ev rfl) (h.ev rfl) (by omega) (by omega)) rfl fun f h => w_o h rfl (w_pure h (ru_fieldE fld53_2 (h.ev rfl) ((hK.1.keep s.ext).some (by omega))) rfl fun f h => w_o h rfl (w_load_at (RdZ.elF (hK.1.keep s.ext) (k) 72 67 (by omega) (by decide) (C := seArr (K.getD k zS2).1.1 (K.getD k zS2).1.2.1 (K.getD k zS2).2 (K.getD k zS2).1.2.2) (s2_el K k hkl) (D := tgArr (K.getD k zS2).1.2.2) (se_t _ _ _ _)) h row51 rfl (tgArr_size _) rfl fun f h => w_run hFT9 2 h rfl fun f h => w_o h rfl (w_pure h (ru_ixz (hM.1.keep s.ext) (k) Try.underlying43 szo53 (h.ev rfl) (h.ev rfl) (by omega) (by omega)) rfl fun f h => w_o h rfl (w_pure h (ru_fieldE fld53_2 (h.ev rfl) ((hM.1.keep s.ext).some (by omega))) rfl fun f h => w_o h rfl (w_load_at (RdZ.elF (hM.1.keep s.ext) (k) 72 67 (by omega) (by decide) (C := seArr (M.getD k zS2).1.1 (M.getD k zS2).1.2.1 (M.getD k zS2).2 (M.getD k zS2).1.2.2) (s2_el M k hkm) (D := tgArr (M.getD k zS2).1.2.2) (se_t _ _ _ _)) h row51 rfl (tgArr_size _) rfl fun f h => w_o h rfl (w_pure h (ru_val (.bool false) (ru_neqW (eqG _ _) (by kernel_rfl) (by decide) (h.ev rfl) (h.ev rfl) (decide ((K.getD k zS2).1.2.2 = (M.getD k zS2).1.2.2)) (tgEq _ _)) (congrArg Value.bool (by simpa using k1))) rfl fun f h => w_run hFT9 4 h rfl fun f h => w_o h rfl (w_pure h (ru_ixz (hK.1.keep s.ext) (k) Try.underlying43 szo53 (h.ev rfl) (h.ev rfl) (by omega) (by omega)) rfl fun f h => w_o h rfl (w_pure h (ru_fieldE fld53_1 (h.ev rfl) ((hK.1.keep s.ext).some (by omega))) rfl fun f h => w_o h rfl (w_load_at (RdZ.elF (hK.1.keep s.ext) (k) 1 71 (by omega) (by decide) (C := seArr (K.getD k zS2).1.1 (K.getD k zS2).1.2.1 (K.getD k zS2).2 (K.getD k zS2).1.2.2) (s2_el K k hkl) (D := mArr (K.getD k zS2).1.2.1 (K.getD k zS2).2) (se_m _ _ _ _)) h row49 rfl (mArr_size _ _) rfl fun f h => w_run hFT9 2 h rfl fun f h => w_o h rfl (w_pure h (ru_ixz (hM.1.keep s.ext) (k) Try.underlying43 szo53 (h.ev rfl) (h.ev rfl) (by omega) (by omega)) rfl fun f h => w_o h rfl (w_pure h (ru_fieldE fld53_1 (h.ev rfl) ((hM.1.keep s.ext).some (by omega))) rfl fun f h => w_o h rfl (w_load_at (RdZ.elF (hM.1.keep s.ext) (k) 1 71 (by omega) (by decide) (C := seArr (M.getD k zS2).1.1 (M.getD k zS2).1.2.1 (M.getD k zS2).2 (M.getD k zS2).1.2.2) (s2_el M k hkm) (D := mArr (M.getD k zS2).1.2.1 (M.getD k zS2).2) (se_m _ _ _ _)) h row49 rfl (mArr_size _ _) rfl fun f h => w_o h rfl (w_call h fnc42 (fun w9 hE9 => ret_val (.bool true) (rlike_any (K.getD k zS2).1.2.1 (M.getD k zS2).1.2.1 (K.getD k zS2).2 (M.getD k zS2).2 w9 ((hK.2 _ (s2_mem hkl)).keep (s.ext.trans hE9)) ((hM.2 _ (s2_mem hkm)).keep (s.ext.trans hE9)) (Nat.le_trans (hKs _ (s2_mem hkl)) (by decide)) (Nat.le_trans (hMs _ (s2_mem hkm)) (by decide))) (congrArg Value.bool k2)) rfl rfl fun f h => w_run hFT9 2 h rfl fun f h => w_nil s fun w1 s => ncf h rfl (wpIn_skip (b_norm (t_norm (c_region (s_pure h (ru_add (h.ev rfl) (h.ev rfl) (by omega)) rfl fun f h => e9 hFT9 1 h rfl fun f h => ?_))))))))))))))))))))
            exact ⟨_, by omega, ⟨k + 1, h.only ⟨rfl, rfl, rfl, slot_int rfl (by omega), trivial⟩, St.as s trivial, rfl, by omega, sd_next hp1 (se_eq k0 k1 k2)⟩⟩
    · refine wpIn_exit (t_exit (t_exit (b_exit (t_norm (qre hFT9 1 h rfl fun f h => wpIn_ret (e_tmp rfl h s rfl (by show _ = _; rw [sd_all hl9 fun j hj => hp1 j (by omega)])))))))
end Go.Proofs.Ythjkhnhiciamaaa
