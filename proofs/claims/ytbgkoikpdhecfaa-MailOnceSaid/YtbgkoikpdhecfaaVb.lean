/- What the laws of mails call of their own: few, right, like, alive. -/
import Derived.Test.YtbgkoikpdhecfaaVa
set_option linter.unusedVariables false
set_option linter.unusedSimpArgs false
set_option linter.unusedSectionVars false
namespace Go.Proofs.Ytbgkoikpdhecfaa
open Go.RowKit
theorem few_any (m : Ml) (v9 : Value) (w : World) (hR : RdZ w v9 4 m.l.length (ltCells m.l)) : Calls Try.prog 7 [.agg (mlArr m v9)].toArray w (Ret w (OneP 35 w.heap.size (fewM m))) := by
  have hlv := lt_take hR (min m.l.length 66) (by omega)
  obtain ⟨ls, hls⟩ : ∃ x9, x9 = m.l.take (min m.l.length 66) := ⟨_, rfl⟩
  rw [← hls] at hlv
  have hll : ls.length ≤ 66 := by rw [hls, List.length_take]; omega
  have hlk : (min m.l.length 66) = ls.length := by rw [hls, List.length_take]; omega
  refine c_enter Try.func7 rfl Try.ntmps7 rfl [(0, .agg (mlArr m v9))] (by simp) fun f h => ?_
  have s := St.start w
  refine c_seq fun K1 hK1 => ?_
  refine c_region ?_
  refine s_box ((mlArr m v9)) h s rfl rfl rfl ?_; intro f w1 b1 h s
  refine s_alloc (mlArr zMl (.slice none 0 0)) h s zero24 rfl rfl ?_; intro f w1 b2 h s
  refine s_nil ?_
  refine hK1 _ _ ?_
  refine c_seq fun K2 hK2 => ?_
  refine c_region ?_
  refine s_pure h (ru_assign (h.ev rfl)) rfl ?_; intro f h
  replace s := s.nilSl 35 4
  refine s_nil ?_
  refine hK2 _ _ ?_
  refine c_seq fun K3 hK3 => ?_
  refine c_seq fun K4 hK4 => ?_
  refine c_region ?_
  refine s_pure h (ru_field fld24_0 (h.ev rfl)) rfl ?_; intro f h
  refine s_load_at1 (cell_of_has (Has.of_own s 2 rfl) 0 (rfl)) h one22 rfl rfl ?_; intro f h
  refine s_pure h (ru_field fld24_0 (h.ev rfl)) rfl ?_; intro f h
  refine s_load_at1 (cell_of_has (Has.of_own s 2 rfl) 0 (rfl)) h one22 rfl rfl ?_; intro f h
  refine s_pure h (ru_lenZ (hR.keep s.ext) Try.underlying22 (h.ev rfl)) rfl ?_; intro f h
  refine s_pure h (ru_val (.int .i64 (((min m.l.length 66) : Nat) : Int)) (ru_min (h.ev rfl) (h.ev rfl)) (congrArg (Value.int .i64) (by omega))) rfl ?_; intro f h
  refine s_pure h (ru_slice_hiZ (hR.keep s.ext) ((min m.l.length 66)) Try.underlying22 szo35 (h.ev rfl) (h.ev rfl) (rfl) (by omega)) rfl ?_; intro f h
  refine s_pure h (ru_lenZ (hlv.keep s.ext) Try.underlying22 (h.ev rfl)) rfl ?_; intro f h
  refine s_pure h (ru_move (h.ev rfl)) rfl ?_; intro f h
  refine s_nil ?_
  refine hK4 _ _ ?_
  refine wpIn_block ?_
  refine wpIn_loop_ghost (fun nn aa ww => ∃ k : Nat, ∃ vl : Value, Sl 34 aa [(0, .agg (mlArr m v9)), (1, .pointer (some ⟨b1, 0, none⟩)), (2, .pointer (some ⟨b2, 0, none⟩)), (3, vl), (12, cutV v9 (min m.l.length 66)), (13, .int .i64 (ls.length : Int)), (14, .int .i64 (k : Int))] ∧ St w [.sl vl 35 4 (fwK ls k).length (ltCells (fwK ls k)), .blk b2 (.cells (mlArr zMl (.slice none 0 0)) 24), .blk b1 (.cells (mlArr m v9) 24)] ww ∧ nn = ls.length - k ∧ k ≤ ls.length) (ls.length - (0)) ⟨0, (Value.slice none 0 0), h.only ⟨rfl, rfl, rfl, rfl, rfl, rfl, slot_int rfl (by omega), trivial⟩, s.as ⟨rfl, rfl, rfl, trivial⟩, rfl, Nat.zero_le _⟩ ?_
  rintro _ f w1 ⟨k, vl, h, s, hnn, hp0⟩
  refine c_seq fun K5 hK5 => ?_
  refine c_region ?_
  refine s_pure h (ru_lss (h.ev rfl) (h.ev rfl)) rfl ?_; intro f h
  refine s_nil ?_
  refine hK5 _ _ ?_
  refine c_seq fun K6 hK6 => ?_
  refine c_cond h rfl (fun hc => ?_) (fun hc => ?_)
  · replace hc := of_decide_eq_true hc
    refine wpIn_skip ?_
    refine hK6 _ _ ?_
    refine c_seq fun K7 hK7 => ?_
    refine wpIn_block ?_
    refine c_seq fun K8 hK8 => ?_
    refine c_region ?_
    have hkl : k < ls.length := by omega
    refine s_pure h (ru_ixz (hlv.keep s.ext) (k) Try.underlying22 szo35 (h.ev rfl) (h.ev rfl) (by omega) (by omega)) rfl ?_; intro f h
    refine s_load_at ((hlv.keep s.ext).el (k) (by omega) (by decide) (D := ltArr ls[k]) (lt_el ls k hkl)) h row35 rfl (rfl) rfl ?_; intro f h
    refine s_alloc (ltArr zLt) h s zero35 rfl rfl ?_; intro f w1 b5 h s
    refine s_store_row 0 h s row35 rfl rfl rfl (rfl) (rfl) (ltArr_ones _) ?_; intro w1 s
    refine s_nil ?_
    refine hK8 _ _ ?_
    refine c_seq fun K9 hK9 => ?_
    refine c_region ?_
    refine s_pure h (ru_field fld35_3 (h.ev rfl)) rfl ?_; intro f h
    refine s_load_at1 (cell_of_has (Has.of_own s 0 rfl) 3 (rfl)) h one9 rfl rfl ?_; intro f h
    refine s_pure h (ru_field fld35_3 (h.ev rfl)) rfl ?_; intro f h
    refine s_load_at1 (cell_of_has (Has.of_own s 0 rfl) 3 (rfl)) h one9 rfl rfl ?_; intro f h
    refine s_pure h (ru_len_str Try.underlying9 (h.ev rfl)) rfl ?_; intro f h
    refine s_pure h (ru_val (.int .i64 ((min ls[k].2.2.2.size 305 : Nat) : Int)) (ru_min (h.ev rfl) (h.ev rfl)) (congrArg (Value.int .i64) (by omega))) rfl ?_; intro f h
    refine s_pure h (ru_slice_str (min ls[k].2.2.2.size 305) Try.underlying9 (h.ev rfl) (h.ev rfl) (rfl) (by omega)) rfl ?_; intro f h
    refine s_pure h (ru_field fld35_3 (h.ev rfl)) rfl ?_; intro f h
    refine s_store_one 0 h s one9 rfl rfl rfl (by show _ < 4; decide) (rfl) ?_; intro w1 s
    replace s := s.recell (D := ltArr (cutLt ls[k])) 0 rfl (cut_set _)
    refine s_nil ?_
    refine hK9 _ _ ?_
    refine c_region ?_
    refine s_pure h (ru_move (h.ev rfl)) rfl ?_; intro f h
    refine s_load_row 0 h s row35 rfl rfl (rfl) rfl ?_; intro f h
    refine s_bslice (vs := [.agg (ltArr (cutLt ls[k]))]) [.tmp 27] h s Try.underlying22 elm35 rfl rfl (one_lt_size _) rfl rfl rfl ?_; intro f w1 v28 h s
    refine s_append 2 0 h s Try.underlying22 elm35 rfl rfl rfl rfl (by decide) (one_lt_ones _) (by rw [fwK_len (by omega)]; unfold maxLen; omega) (by rw [fwK_len (by omega)]; omega) rfl ?_; intro f w1 v29 h s
    replace s := s.pick _ (List.sublist_cons_self _ _)
    replace s := s.resl (m := (fwK ls (k + 1)).length) (ys := ltCells (fwK ls (k + 1))) 1 rfl (by rw [fwK_succ hkl, List.length_append]; rfl) (by rw [fwK_succ hkl, one_lt, cells_snoc])
    refine s_pure h (ru_assign (h.ev rfl)) rfl ?_; intro f h
    refine s_nil ?_
    refine b_norm ?_
    refine hK7 _ _ ?_
    refine c_region ?_
    refine s_pure h (ru_add (h.ev rfl) (h.ev rfl) (by omega)) rfl ?_; intro f h
    refine s_pure h (ru_move (h.ev rfl)) rfl ?_; intro f h
    refine s_nil ?_
    refine t_norm ?_
    exact ⟨_, by omega, ⟨k + 1, v29, h.only ⟨rfl, rfl, rfl, rfl, rfl, rfl, slot_int rfl (by omega), trivial⟩, St.as (s.pick _ (List.Sublist.cons _ (List.Sublist.cons_cons _ (List.Sublist.cons_cons _ (List.Sublist.cons_cons _ (List.nil_sublist _)))))) ⟨rfl, rfl, rfl, trivial⟩, rfl, by omega⟩⟩
  · replace hc := of_decide_eq_false hc
    refine wpIn_exit ?_
    refine t_exit ?_
    refine t_exit ?_
    refine b_exit ?_
    refine hK3 _ _ ?_
    refine c_seq fun K10 hK10 => ?_
    refine c_region ?_
    obtain rfl : k = ls.length := by omega
    replace s := s.resl (m := (fewM m).l.length) (ys := ltCells (fewM m).l) 0 rfl (by rw [few_end hls]) (by rw [few_end hls])
    refine s_pure h (ru_move (h.ev rfl)) rfl ?_; intro f h
    refine s_pure h (ru_field fld24_0 (h.ev rfl)) rfl ?_; intro f h
    refine s_store_one 2 h s one22 rfl rfl rfl (by show _ < 3; decide) (own_one (s.getSl 0 rfl)) ?_; intro w1 s
    replace s := s.recell (D := mlArr (fewM m) vl) 2 rfl rfl
    refine s_nil ?_
    refine hK10 _ _ ?_
    refine c_seq fun K11 hK11 => ?_
    refine c_region ?_
    refine s_load_row 2 h s row24 rfl rfl (rfl) rfl ?_; intro f h
    refine s_store_row 1 h s row24 rfl rfl rfl (rfl) (rfl) (mlArr_ones _ _ (own_one (s.getSl 0 rfl))) ?_; intro w1 s
    refine s_nil ?_
    refine hK11 _ _ ?_
    refine wpIn_ret ?_
    exact e_row 1 rfl h s row24 rfl rfl (rfl) (⟨vl, rfl, (s.getSl 0 rfl)⟩)

theorem lright_any (m : Ml) (v9 : Value) (w : World) (hR : RdZ w v9 4 m.l.length (ltCells m.l)) (hln : m.l.length ≤ 1000) : Calls Try.prog 11 [.agg (mlArr m v9)].toArray w (Ret w (is (.bool (rightL m)))) := by
  refine c_enter Try.func11 rfl Try.ntmps11 rfl [(0, .agg (mlArr m v9))] (by simp) fun f h => ?_
  have s := St.start w
  refine c_seq fun K1 hK1 => ?_
  refine c_region ?_
  refine s_box ((mlArr m v9)) h s rfl rfl rfl ?_; intro f w1 b1 h s
  refine s_pure h (ru_assign (h.ev rfl)) rfl ?_; intro f h
  refine s_nil ?_
  refine hK1 _ _ ?_
  refine c_seq fun K2 hK2 => ?_
  refine c_seq fun K3 hK3 => ?_
  refine c_region ?_
  refine s_pure h (ru_field fld24_0 (h.ev rfl)) rfl ?_; intro f h
  refine s_load_at1 (cell_of_has (Has.of_own s 0 rfl) 0 (rfl)) h one22 rfl rfl ?_; intro f h
  refine s_pure h (ru_lenZ (hR.keep s.ext) Try.underlying22 (h.ev rfl)) rfl ?_; intro f h
  refine s_pure h (ru_move (h.ev rfl)) rfl ?_; intro f h
  refine s_nil ?_
  refine hK3 _ _ ?_
  refine wpIn_block ?_
  refine wpIn_loop_ghost (fun nn aa ww => ∃ k : Nat, Sl 73 aa [(0, .agg (mlArr m v9)), (1, .pointer (some ⟨b1, 0, none⟩)), (6, v9), (7, .int .i64 (m.l.length : Int)), (8, .int .i64 (k : Int))] ∧ St w [.blk b1 (.cells (mlArr m v9) 24)] ww ∧ nn = m.l.length - k ∧ k ≤ m.l.length ∧ ∀ j, j < k → badQ m j = false) (m.l.length - (0)) ⟨0, h.only ⟨rfl, rfl, rfl, rfl, slot_int rfl (by omega), trivial⟩, s.as ⟨rfl, trivial⟩, rfl, Nat.zero_le _, fun j hj => absurd hj (Nat.not_lt_zero _)⟩ ?_
  rintro _ f w1 ⟨k, h, s, hnn, hp0, hp1⟩
  refine c_seq fun K4 hK4 => ?_
  refine c_region ?_
  refine s_pure h (ru_lss (h.ev rfl) (h.ev rfl)) rfl ?_; intro f h
  refine s_nil ?_
  refine hK4 _ _ ?_
  refine c_seq fun K5 hK5 => ?_
  refine c_cond h rfl (fun hc => ?_) (fun hc => ?_)
  · replace hc := of_decide_eq_true hc
    refine wpIn_skip ?_
    refine hK5 _ _ ?_
    refine c_seq fun K6 hK6 => ?_
    refine wpIn_block ?_
    refine c_seq fun K7 hK7 => ?_
    refine c_region ?_
    have hkl : k < m.l.length := by omega
    refine s_pure h (ru_ixz (hR.keep s.ext) (k) Try.underlying22 szo35 (h.ev rfl) (h.ev rfl) (by omega) (by omega)) rfl ?_; intro f h
    refine s_load_at ((hR.keep s.ext).el (k) (by omega) (by decide) (D := ltArr (m.l.getD k zLt)) ((lt_el m.l k hkl).trans (ltD hkl))) h row35 rfl (rfl) rfl ?_; intro f h
    refine s_alloc (ltArr zLt) h s zero35 rfl rfl ?_; intro f w1 b4 h s
    refine s_store_row 0 h s row35 rfl rfl rfl (rfl) (rfl) (ltArr_ones _) ?_; intro w1 s
    refine s_nil ?_
    refine hK7 _ _ ?_
    refine c_seq fun K8 hK8 => ?_
    cases k0 : (decide ((m.l.getD k zLt).1 < 1) : Bool)
    · skip
      cases k1 : (decide (m.last < (m.l.getD k zLt).1) : Bool)
      · skip
        cases f0 : (decide ((m.l.getD k zLt).2.1 < 0) : Bool)
        · skip
          cases f1 : (decide (31 < (m.l.getD k zLt).2.1) : Bool)
          · skip
            cases t0 : (decide ((m.l.getD k zLt).2.2.1 < 0) : Bool)
            · skip
              cases t1 : (decide (31 < (m.l.getD k zLt).2.2.1) : Bool)
              · skip
                cases k4 : (decide (300 < (m.l.getD k zLt).2.2.2.size) : Bool)
                · skip
                  refine c_region ?_
                  refine s_pure h (ru_field fld35_0 (h.ev rfl)) rfl ?_; intro f h
                  refine s_load_at1 (cell_of_has (Has.of_own s 0 rfl) 0 (rfl)) h one3 rfl rfl ?_; intro f h
                  refine s_pure h (ru_val (.bool false) (ru_lss (h.ev rfl) (h.ev rfl)) (congrArg Value.bool k0)) rfl ?_; intro f h
                  refine s_pure h (ru_move (h.ev rfl)) rfl ?_; intro f h
                  refine s_on h rfl rfl rfl ?_
                  refine s_pure h (ru_field fld35_0 (h.ev rfl)) rfl ?_; intro f h
                  refine s_on h rfl rfl rfl ?_
                  refine s_load_at1 (cell_of_has (Has.of_own s 0 rfl) 0 (rfl)) h one3 rfl rfl ?_; intro f h
                  refine s_on h rfl rfl rfl ?_
                  refine s_pure h (ru_field fld24_1 (h.ev rfl)) rfl ?_; intro f h
                  refine s_on h rfl rfl rfl ?_
                  refine s_load_at1 (cell_of_has (Has.of_own s 1 rfl) 1 (rfl)) h one3 rfl rfl ?_; intro f h
                  refine s_on h rfl rfl rfl ?_
                  refine s_pure h (ru_val (.bool false) (ru_gtr (h.ev rfl) (h.ev rfl)) (congrArg Value.bool k1)) rfl ?_; intro f h
                  refine s_pure h (ru_pick_f (h.ev rfl) (h.ev rfl)) rfl ?_; intro f h
                  refine s_pure h (ru_move (h.ev rfl)) rfl ?_; intro f h
                  refine s_on h rfl rfl rfl ?_
                  refine s_pure h (ru_field fld35_1 (h.ev rfl)) rfl ?_; intro f h
                  refine s_on h rfl rfl rfl ?_
                  refine s_load_at1 (cell_of_has (Has.of_own s 0 rfl) 1 (rfl)) h one3 rfl rfl ?_; intro f h
                  refine s_on h rfl rfl rfl ?_
                  refine s_pure h (ru_val (.bool false) (ru_lss (h.ev rfl) (h.ev rfl)) (congrArg Value.bool f0)) rfl ?_; intro f h
                  refine s_pure h (ru_pick_f (h.ev rfl) (h.ev rfl)) rfl ?_; intro f h
                  refine s_pure h (ru_move (h.ev rfl)) rfl ?_; intro f h
                  refine s_on h rfl rfl rfl ?_
                  refine s_pure h (ru_field fld35_1 (h.ev rfl)) rfl ?_; intro f h
                  refine s_on h rfl rfl rfl ?_
                  refine s_load_at1 (cell_of_has (Has.of_own s 0 rfl) 1 (rfl)) h one3 rfl rfl ?_; intro f h
                  refine s_on h rfl rfl rfl ?_
                  refine s_pure h (ru_val (.bool false) (ru_gtr (h.ev rfl) (h.ev rfl)) (congrArg Value.bool f1)) rfl ?_; intro f h
                  refine s_pure h (ru_pick_f (h.ev rfl) (h.ev rfl)) rfl ?_; intro f h
                  refine s_pure h (ru_move (h.ev rfl)) rfl ?_; intro f h
                  refine s_on h rfl rfl rfl ?_
                  refine s_pure h (ru_field fld35_2 (h.ev rfl)) rfl ?_; intro f h
                  refine s_on h rfl rfl rfl ?_
                  refine s_load_at1 (cell_of_has (Has.of_own s 0 rfl) 2 (rfl)) h one3 rfl rfl ?_; intro f h
                  refine s_on h rfl rfl rfl ?_
                  refine s_pure h (ru_val (.bool false) (ru_lss (h.ev rfl) (h.ev rfl)) (congrArg Value.bool t0)) rfl ?_; intro f h
                  refine s_pure h (ru_pick_f (h.ev rfl) (h.ev rfl)) rfl ?_; intro f h
                  refine s_pure h (ru_move (h.ev rfl)) rfl ?_; intro f h
                  refine s_on h rfl rfl rfl ?_
                  refine s_pure h (ru_field fld35_2 (h.ev rfl)) rfl ?_; intro f h
                  refine s_on h rfl rfl rfl ?_
                  refine s_load_at1 (cell_of_has (Has.of_own s 0 rfl) 2 (rfl)) h one3 rfl rfl ?_; intro f h
                  refine s_on h rfl rfl rfl ?_
                  refine s_pure h (ru_val (.bool false) (ru_gtr (h.ev rfl) (h.ev rfl)) (congrArg Value.bool t1)) rfl ?_; intro f h
                  refine s_pure h (ru_pick_f (h.ev rfl) (h.ev rfl)) rfl ?_; intro f h
                  refine s_pure h (ru_move (h.ev rfl)) rfl ?_; intro f h
                  refine s_on h rfl rfl rfl ?_
                  refine s_pure h (ru_field fld35_3 (h.ev rfl)) rfl ?_; intro f h
                  refine s_on h rfl rfl rfl ?_
                  refine s_load_at1 (cell_of_has (Has.of_own s 0 rfl) 3 (rfl)) h one9 rfl rfl ?_; intro f h
                  refine s_on h rfl rfl rfl ?_
                  refine s_pure h (ru_len_str Try.underlying9 (h.ev rfl)) rfl ?_; intro f h
                  refine s_on h rfl rfl rfl ?_
                  refine s_pure h (ru_val (.bool false) (ru_gtr (h.ev rfl) (h.ev rfl)) (congrArg Value.bool (decide_eq_false (by have := of_decide_eq_false k4; omega)))) rfl ?_; intro f h
                  refine s_pure h (ru_pick_f (h.ev rfl) (h.ev rfl)) rfl ?_; intro f h
                  refine s_nil ?_
                  refine hK8 _ _ ?_
                  refine wpIn_cond_false (h.ev rfl) ?_
                  refine wpIn_skip ?_
                  refine b_norm ?_
                  refine hK6 _ _ ?_
                  refine c_region ?_
                  have hb9 : badQ m k = false := by show badL _ _ = _; unfold badL; simp only [k0, k1, adr_y _ f0 f1, adr_y _ t0 t1, k4, Bool.true_or, Bool.false_or, Bool.or_true, Bool.not_false, Bool.not_true]
                  refine s_pure h (ru_add (h.ev rfl) (h.ev rfl) (by omega)) rfl ?_; intro f h
                  refine s_pure h (ru_move (h.ev rfl)) rfl ?_; intro f h
                  refine s_nil ?_
                  refine t_norm ?_
                  exact ⟨_, by omega, ⟨k + 1, h.only ⟨rfl, rfl, rfl, rfl, slot_int rfl (by omega), trivial⟩, St.as (s.pick _ (List.sublist_append_right [_] _)) ⟨rfl, trivial⟩, rfl, by omega, qs_next hp1 hb9⟩⟩
                · skip
                  refine c_region ?_
                  refine s_pure h (ru_field fld35_0 (h.ev rfl)) rfl ?_; intro f h
                  refine s_load_at1 (cell_of_has (Has.of_own s 0 rfl) 0 (rfl)) h one3 rfl rfl ?_; intro f h
                  refine s_pure h (ru_val (.bool false) (ru_lss (h.ev rfl) (h.ev rfl)) (congrArg Value.bool k0)) rfl ?_; intro f h
                  refine s_pure h (ru_move (h.ev rfl)) rfl ?_; intro f h
                  refine s_on h rfl rfl rfl ?_
                  refine s_pure h (ru_field fld35_0 (h.ev rfl)) rfl ?_; intro f h
                  refine s_on h rfl rfl rfl ?_
                  refine s_load_at1 (cell_of_has (Has.of_own s 0 rfl) 0 (rfl)) h one3 rfl rfl ?_; intro f h
                  refine s_on h rfl rfl rfl ?_
                  refine s_pure h (ru_field fld24_1 (h.ev rfl)) rfl ?_; intro f h
                  refine s_on h rfl rfl rfl ?_
                  refine s_load_at1 (cell_of_has (Has.of_own s 1 rfl) 1 (rfl)) h one3 rfl rfl ?_; intro f h
                  refine s_on h rfl rfl rfl ?_
                  refine s_pure h (ru_val (.bool false) (ru_gtr (h.ev rfl) (h.ev rfl)) (congrArg Value.bool k1)) rfl ?_; intro f h
                  refine s_pure h (ru_pick_f (h.ev rfl) (h.ev rfl)) rfl ?_; intro f h
                  refine s_pure h (ru_move (h.ev rfl)) rfl ?_; intro f h
                  refine s_on h rfl rfl rfl ?_
                  refine s_pure h (ru_field fld35_1 (h.ev rfl)) rfl ?_; intro f h
                  refine s_on h rfl rfl rfl ?_
                  refine s_load_at1 (cell_of_has (Has.of_own s 0 rfl) 1 (rfl)) h one3 rfl rfl ?_; intro f h
                  refine s_on h rfl rfl rfl ?_
                  refine s_pure h (ru_val (.bool false) (ru_lss (h.ev rfl) (h.ev rfl)) (congrArg Value.bool f0)) rfl ?_; intro f h
                  refine s_pure h (ru_pick_f (h.ev rfl) (h.ev rfl)) rfl ?_; intro f h
                  refine s_pure h (ru_move (h.ev rfl)) rfl ?_; intro f h
                  refine s_on h rfl rfl rfl ?_
                  refine s_pure h (ru_field fld35_1 (h.ev rfl)) rfl ?_; intro f h
                  refine s_on h rfl rfl rfl ?_
                  refine s_load_at1 (cell_of_has (Has.of_own s 0 rfl) 1 (rfl)) h one3 rfl rfl ?_; intro f h
                  refine s_on h rfl rfl rfl ?_
                  refine s_pure h (ru_val (.bool false) (ru_gtr (h.ev rfl) (h.ev rfl)) (congrArg Value.bool f1)) rfl ?_; intro f h
                  refine s_pure h (ru_pick_f (h.ev rfl) (h.ev rfl)) rfl ?_; intro f h
                  refine s_pure h (ru_move (h.ev rfl)) rfl ?_; intro f h
                  refine s_on h rfl rfl rfl ?_
                  refine s_pure h (ru_field fld35_2 (h.ev rfl)) rfl ?_; intro f h
                  refine s_on h rfl rfl rfl ?_
                  refine s_load_at1 (cell_of_has (Has.of_own s 0 rfl) 2 (rfl)) h one3 rfl rfl ?_; intro f h
                  refine s_on h rfl rfl rfl ?_
                  refine s_pure h (ru_val (.bool false) (ru_lss (h.ev rfl) (h.ev rfl)) (congrArg Value.bool t0)) rfl ?_; intro f h
                  refine s_pure h (ru_pick_f (h.ev rfl) (h.ev rfl)) rfl ?_; intro f h
                  refine s_pure h (ru_move (h.ev rfl)) rfl ?_; intro f h
                  refine s_on h rfl rfl rfl ?_
                  refine s_pure h (ru_field fld35_2 (h.ev rfl)) rfl ?_; intro f h
                  refine s_on h rfl rfl rfl ?_
                  refine s_load_at1 (cell_of_has (Has.of_own s 0 rfl) 2 (rfl)) h one3 rfl rfl ?_; intro f h
                  refine s_on h rfl rfl rfl ?_
                  refine s_pure h (ru_val (.bool false) (ru_gtr (h.ev rfl) (h.ev rfl)) (congrArg Value.bool t1)) rfl ?_; intro f h
                  refine s_pure h (ru_pick_f (h.ev rfl) (h.ev rfl)) rfl ?_; intro f h
                  refine s_pure h (ru_move (h.ev rfl)) rfl ?_; intro f h
                  refine s_on h rfl rfl rfl ?_
                  refine s_pure h (ru_field fld35_3 (h.ev rfl)) rfl ?_; intro f h
                  refine s_on h rfl rfl rfl ?_
                  refine s_load_at1 (cell_of_has (Has.of_own s 0 rfl) 3 (rfl)) h one9 rfl rfl ?_; intro f h
                  refine s_on h rfl rfl rfl ?_
                  refine s_pure h (ru_len_str Try.underlying9 (h.ev rfl)) rfl ?_; intro f h
                  refine s_on h rfl rfl rfl ?_
                  refine s_pure h (ru_val (.bool true) (ru_gtr (h.ev rfl) (h.ev rfl)) (congrArg Value.bool (decide_eq_true (by have := of_decide_eq_true k4; omega)))) rfl ?_; intro f h
                  refine s_pure h (ru_pick_f (h.ev rfl) (h.ev rfl)) rfl ?_; intro f h
                  refine s_nil ?_
                  refine hK8 _ _ ?_
                  refine wpIn_cond_true (h.ev rfl) ?_
                  refine c_seq fun K9 hK9 => ?_
                  refine c_region ?_
                  refine s_pure h (ru_assign (h.ev rfl)) rfl ?_; intro f h
                  refine s_nil ?_
                  refine hK9 _ _ ?_
                  refine wpIn_ret ?_
                  refine b_ret ?_
                  refine t_ret ?_
                  refine t_ret ?_
                  refine b_ret ?_
                  refine t_ret ?_
                  exact e_tmp rfl h s rfl (by show _ = _; rw [right_left (d := k) hkl (by show badL _ _ = _; unfold badL; simp only [k0, k1, adr_y _ f0 f1, adr_y _ t0 t1, k4, Bool.true_or, Bool.false_or, Bool.or_true, Bool.not_false, Bool.not_true])] <;> rfl)
              · skip
                refine c_region ?_
                refine s_pure h (ru_field fld35_0 (h.ev rfl)) rfl ?_; intro f h
                refine s_load_at1 (cell_of_has (Has.of_own s 0 rfl) 0 (rfl)) h one3 rfl rfl ?_; intro f h
                refine s_pure h (ru_val (.bool false) (ru_lss (h.ev rfl) (h.ev rfl)) (congrArg Value.bool k0)) rfl ?_; intro f h
                refine s_pure h (ru_move (h.ev rfl)) rfl ?_; intro f h
                refine s_on h rfl rfl rfl ?_
                refine s_pure h (ru_field fld35_0 (h.ev rfl)) rfl ?_; intro f h
                refine s_on h rfl rfl rfl ?_
                refine s_load_at1 (cell_of_has (Has.of_own s 0 rfl) 0 (rfl)) h one3 rfl rfl ?_; intro f h
                refine s_on h rfl rfl rfl ?_
                refine s_pure h (ru_field fld24_1 (h.ev rfl)) rfl ?_; intro f h
                refine s_on h rfl rfl rfl ?_
                refine s_load_at1 (cell_of_has (Has.of_own s 1 rfl) 1 (rfl)) h one3 rfl rfl ?_; intro f h
                refine s_on h rfl rfl rfl ?_
                refine s_pure h (ru_val (.bool false) (ru_gtr (h.ev rfl) (h.ev rfl)) (congrArg Value.bool k1)) rfl ?_; intro f h
                refine s_pure h (ru_pick_f (h.ev rfl) (h.ev rfl)) rfl ?_; intro f h
                refine s_pure h (ru_move (h.ev rfl)) rfl ?_; intro f h
                refine s_on h rfl rfl rfl ?_
                refine s_pure h (ru_field fld35_1 (h.ev rfl)) rfl ?_; intro f h
                refine s_on h rfl rfl rfl ?_
                refine s_load_at1 (cell_of_has (Has.of_own s 0 rfl) 1 (rfl)) h one3 rfl rfl ?_; intro f h
                refine s_on h rfl rfl rfl ?_
                refine s_pure h (ru_val (.bool false) (ru_lss (h.ev rfl) (h.ev rfl)) (congrArg Value.bool f0)) rfl ?_; intro f h
                refine s_pure h (ru_pick_f (h.ev rfl) (h.ev rfl)) rfl ?_; intro f h
                refine s_pure h (ru_move (h.ev rfl)) rfl ?_; intro f h
                refine s_on h rfl rfl rfl ?_
                refine s_pure h (ru_field fld35_1 (h.ev rfl)) rfl ?_; intro f h
                refine s_on h rfl rfl rfl ?_
                refine s_load_at1 (cell_of_has (Has.of_own s 0 rfl) 1 (rfl)) h one3 rfl rfl ?_; intro f h
                refine s_on h rfl rfl rfl ?_
                refine s_pure h (ru_val (.bool false) (ru_gtr (h.ev rfl) (h.ev rfl)) (congrArg Value.bool f1)) rfl ?_; intro f h
                refine s_pure h (ru_pick_f (h.ev rfl) (h.ev rfl)) rfl ?_; intro f h
                refine s_pure h (ru_move (h.ev rfl)) rfl ?_; intro f h
                refine s_on h rfl rfl rfl ?_
                refine s_pure h (ru_field fld35_2 (h.ev rfl)) rfl ?_; intro f h
                refine s_on h rfl rfl rfl ?_
                refine s_load_at1 (cell_of_has (Has.of_own s 0 rfl) 2 (rfl)) h one3 rfl rfl ?_; intro f h
                refine s_on h rfl rfl rfl ?_
                refine s_pure h (ru_val (.bool false) (ru_lss (h.ev rfl) (h.ev rfl)) (congrArg Value.bool t0)) rfl ?_; intro f h
                refine s_pure h (ru_pick_f (h.ev rfl) (h.ev rfl)) rfl ?_; intro f h
                refine s_pure h (ru_move (h.ev rfl)) rfl ?_; intro f h
                refine s_on h rfl rfl rfl ?_
                refine s_pure h (ru_field fld35_2 (h.ev rfl)) rfl ?_; intro f h
                refine s_on h rfl rfl rfl ?_
                refine s_load_at1 (cell_of_has (Has.of_own s 0 rfl) 2 (rfl)) h one3 rfl rfl ?_; intro f h
                refine s_on h rfl rfl rfl ?_
                refine s_pure h (ru_val (.bool true) (ru_gtr (h.ev rfl) (h.ev rfl)) (congrArg Value.bool t1)) rfl ?_; intro f h
                refine s_pure h (ru_pick_f (h.ev rfl) (h.ev rfl)) rfl ?_; intro f h
                refine s_pure h (ru_move (h.ev rfl)) rfl ?_; intro f h
                refine s_off (b := false) h rfl rfl rfl rfl ?_; intro f h
                refine s_off (b := false) h rfl rfl rfl rfl ?_; intro f h
                refine s_off (b := false) h rfl rfl rfl rfl ?_; intro f h
                refine s_off (b := false) h rfl rfl rfl rfl ?_; intro f h
                refine s_pure h (ru_pick_t (h.ev rfl) (h.ev rfl)) rfl ?_; intro f h
                refine s_nil ?_
                refine hK8 _ _ ?_
                refine wpIn_cond_true (h.ev rfl) ?_
                refine c_seq fun K10 hK10 => ?_
                refine c_region ?_
                refine s_pure h (ru_assign (h.ev rfl)) rfl ?_; intro f h
                refine s_nil ?_
                refine hK10 _ _ ?_
                refine wpIn_ret ?_
                refine b_ret ?_
                refine t_ret ?_
                refine t_ret ?_
                refine b_ret ?_
                refine t_ret ?_
                exact e_tmp rfl h s rfl (by show _ = _; rw [right_left (d := k) hkl (by show badL _ _ = _; unfold badL; simp only [k0, k1, adr_y _ f0 f1, adr_c _ t1, Bool.true_or, Bool.false_or, Bool.or_true, Bool.not_false, Bool.not_true])] <;> rfl)
            · skip
              refine c_region ?_
              refine s_pure h (ru_field fld35_0 (h.ev rfl)) rfl ?_; intro f h
              refine s_load_at1 (cell_of_has (Has.of_own s 0 rfl) 0 (rfl)) h one3 rfl rfl ?_; intro f h
              refine s_pure h (ru_val (.bool false) (ru_lss (h.ev rfl) (h.ev rfl)) (congrArg Value.bool k0)) rfl ?_; intro f h
              refine s_pure h (ru_move (h.ev rfl)) rfl ?_; intro f h
              refine s_on h rfl rfl rfl ?_
              refine s_pure h (ru_field fld35_0 (h.ev rfl)) rfl ?_; intro f h
              refine s_on h rfl rfl rfl ?_
              refine s_load_at1 (cell_of_has (Has.of_own s 0 rfl) 0 (rfl)) h one3 rfl rfl ?_; intro f h
              refine s_on h rfl rfl rfl ?_
              refine s_pure h (ru_field fld24_1 (h.ev rfl)) rfl ?_; intro f h
              refine s_on h rfl rfl rfl ?_
              refine s_load_at1 (cell_of_has (Has.of_own s 1 rfl) 1 (rfl)) h one3 rfl rfl ?_; intro f h
              refine s_on h rfl rfl rfl ?_
              refine s_pure h (ru_val (.bool false) (ru_gtr (h.ev rfl) (h.ev rfl)) (congrArg Value.bool k1)) rfl ?_; intro f h
              refine s_pure h (ru_pick_f (h.ev rfl) (h.ev rfl)) rfl ?_; intro f h
              refine s_pure h (ru_move (h.ev rfl)) rfl ?_; intro f h
              refine s_on h rfl rfl rfl ?_
              refine s_pure h (ru_field fld35_1 (h.ev rfl)) rfl ?_; intro f h
              refine s_on h rfl rfl rfl ?_
              refine s_load_at1 (cell_of_has (Has.of_own s 0 rfl) 1 (rfl)) h one3 rfl rfl ?_; intro f h
              refine s_on h rfl rfl rfl ?_
              refine s_pure h (ru_val (.bool false) (ru_lss (h.ev rfl) (h.ev rfl)) (congrArg Value.bool f0)) rfl ?_; intro f h
              refine s_pure h (ru_pick_f (h.ev rfl) (h.ev rfl)) rfl ?_; intro f h
              refine s_pure h (ru_move (h.ev rfl)) rfl ?_; intro f h
              refine s_on h rfl rfl rfl ?_
              refine s_pure h (ru_field fld35_1 (h.ev rfl)) rfl ?_; intro f h
              refine s_on h rfl rfl rfl ?_
              refine s_load_at1 (cell_of_has (Has.of_own s 0 rfl) 1 (rfl)) h one3 rfl rfl ?_; intro f h
              refine s_on h rfl rfl rfl ?_
              refine s_pure h (ru_val (.bool false) (ru_gtr (h.ev rfl) (h.ev rfl)) (congrArg Value.bool f1)) rfl ?_; intro f h
              refine s_pure h (ru_pick_f (h.ev rfl) (h.ev rfl)) rfl ?_; intro f h
              refine s_pure h (ru_move (h.ev rfl)) rfl ?_; intro f h
              refine s_on h rfl rfl rfl ?_
              refine s_pure h (ru_field fld35_2 (h.ev rfl)) rfl ?_; intro f h
              refine s_on h rfl rfl rfl ?_
              refine s_load_at1 (cell_of_has (Has.of_own s 0 rfl) 2 (rfl)) h one3 rfl rfl ?_; intro f h
              refine s_on h rfl rfl rfl ?_
              refine s_pure h (ru_val (.bool true) (ru_lss (h.ev rfl) (h.ev rfl)) (congrArg Value.bool t0)) rfl ?_; intro f h
              refine s_pure h (ru_pick_f (h.ev rfl) (h.ev rfl)) rfl ?_; intro f h
              refine s_pure h (ru_move (h.ev rfl)) rfl ?_; intro f h
              refine s_off (b := false) h rfl rfl rfl rfl ?_; intro f h
              refine s_off (b := false) h rfl rfl rfl rfl ?_; intro f h
              refine s_off (b := false) h rfl rfl rfl rfl ?_; intro f h
              refine s_pure h (ru_pick_t (h.ev rfl) (h.ev rfl)) rfl ?_; intro f h
              refine s_pure h (ru_move (h.ev rfl)) rfl ?_; intro f h
              refine s_off (b := false) h rfl rfl rfl rfl ?_; intro f h
              refine s_off (b := false) h rfl rfl rfl rfl ?_; intro f h
              refine s_off (b := false) h rfl rfl rfl rfl ?_; intro f h
              refine s_off (b := false) h rfl rfl rfl rfl ?_; intro f h
              refine s_pure h (ru_pick_t (h.ev rfl) (h.ev rfl)) rfl ?_; intro f h
              refine s_nil ?_
              refine hK8 _ _ ?_
              refine wpIn_cond_true (h.ev rfl) ?_
              refine c_seq fun K11 hK11 => ?_
              refine c_region ?_
              refine s_pure h (ru_assign (h.ev rfl)) rfl ?_; intro f h
              refine s_nil ?_
              refine hK11 _ _ ?_
              refine wpIn_ret ?_
              refine b_ret ?_
              refine t_ret ?_
              refine t_ret ?_
              refine b_ret ?_
              refine t_ret ?_
              exact e_tmp rfl h s rfl (by show _ = _; rw [right_left (d := k) hkl (by show badL _ _ = _; unfold badL; simp only [k0, k1, adr_y _ f0 f1, adr_b _ t0, Bool.true_or, Bool.false_or, Bool.or_true, Bool.not_false, Bool.not_true])] <;> rfl)
          · skip
            refine c_region ?_
            refine s_pure h (ru_field fld35_0 (h.ev rfl)) rfl ?_; intro f h
            refine s_load_at1 (cell_of_has (Has.of_own s 0 rfl) 0 (rfl)) h one3 rfl rfl ?_; intro f h
            refine s_pure h (ru_val (.bool false) (ru_lss (h.ev rfl) (h.ev rfl)) (congrArg Value.bool k0)) rfl ?_; intro f h
            refine s_pure h (ru_move (h.ev rfl)) rfl ?_; intro f h
            refine s_on h rfl rfl rfl ?_
            refine s_pure h (ru_field fld35_0 (h.ev rfl)) rfl ?_; intro f h
            refine s_on h rfl rfl rfl ?_
            refine s_load_at1 (cell_of_has (Has.of_own s 0 rfl) 0 (rfl)) h one3 rfl rfl ?_; intro f h
            refine s_on h rfl rfl rfl ?_
            refine s_pure h (ru_field fld24_1 (h.ev rfl)) rfl ?_; intro f h
            refine s_on h rfl rfl rfl ?_
            refine s_load_at1 (cell_of_has (Has.of_own s 1 rfl) 1 (rfl)) h one3 rfl rfl ?_; intro f h
            refine s_on h rfl rfl rfl ?_
            refine s_pure h (ru_val (.bool false) (ru_gtr (h.ev rfl) (h.ev rfl)) (congrArg Value.bool k1)) rfl ?_; intro f h
            refine s_pure h (ru_pick_f (h.ev rfl) (h.ev rfl)) rfl ?_; intro f h
            refine s_pure h (ru_move (h.ev rfl)) rfl ?_; intro f h
            refine s_on h rfl rfl rfl ?_
            refine s_pure h (ru_field fld35_1 (h.ev rfl)) rfl ?_; intro f h
            refine s_on h rfl rfl rfl ?_
            refine s_load_at1 (cell_of_has (Has.of_own s 0 rfl) 1 (rfl)) h one3 rfl rfl ?_; intro f h
            refine s_on h rfl rfl rfl ?_
            refine s_pure h (ru_val (.bool false) (ru_lss (h.ev rfl) (h.ev rfl)) (congrArg Value.bool f0)) rfl ?_; intro f h
            refine s_pure h (ru_pick_f (h.ev rfl) (h.ev rfl)) rfl ?_; intro f h
            refine s_pure h (ru_move (h.ev rfl)) rfl ?_; intro f h
            refine s_on h rfl rfl rfl ?_
            refine s_pure h (ru_field fld35_1 (h.ev rfl)) rfl ?_; intro f h
            refine s_on h rfl rfl rfl ?_
            refine s_load_at1 (cell_of_has (Has.of_own s 0 rfl) 1 (rfl)) h one3 rfl rfl ?_; intro f h
            refine s_on h rfl rfl rfl ?_
            refine s_pure h (ru_val (.bool true) (ru_gtr (h.ev rfl) (h.ev rfl)) (congrArg Value.bool f1)) rfl ?_; intro f h
            refine s_pure h (ru_pick_f (h.ev rfl) (h.ev rfl)) rfl ?_; intro f h
            refine s_pure h (ru_move (h.ev rfl)) rfl ?_; intro f h
            refine s_off (b := false) h rfl rfl rfl rfl ?_; intro f h
            refine s_off (b := false) h rfl rfl rfl rfl ?_; intro f h
            refine s_off (b := false) h rfl rfl rfl rfl ?_; intro f h
            refine s_pure h (ru_pick_t (h.ev rfl) (h.ev rfl)) rfl ?_; intro f h
            refine s_pure h (ru_move (h.ev rfl)) rfl ?_; intro f h
            refine s_off (b := false) h rfl rfl rfl rfl ?_; intro f h
            refine s_off (b := false) h rfl rfl rfl rfl ?_; intro f h
            refine s_off (b := false) h rfl rfl rfl rfl ?_; intro f h
            refine s_pure h (ru_pick_t (h.ev rfl) (h.ev rfl)) rfl ?_; intro f h
            refine s_pure h (ru_move (h.ev rfl)) rfl ?_; intro f h
            refine s_off (b := false) h rfl rfl rfl rfl ?_; intro f h
            refine s_off (b := false) h rfl rfl rfl rfl ?_; intro f h
            refine s_off (b := false) h rfl rfl rfl rfl ?_; intro f h
            refine s_off (b := false) h rfl rfl rfl rfl ?_; intro f h
            refine s_pure h (ru_pick_t (h.ev rfl) (h.ev rfl)) rfl ?_; intro f h
            refine s_nil ?_
            refine hK8 _ _ ?_
            refine wpIn_cond_true (h.ev rfl) ?_
            refine c_seq fun K12 hK12 => ?_
            refine c_region ?_
            refine s_pure h (ru_assign (h.ev rfl)) rfl ?_; intro f h
            refine s_nil ?_
            refine hK12 _ _ ?_
            refine wpIn_ret ?_
            refine b_ret ?_
            refine t_ret ?_
            refine t_ret ?_
            refine b_ret ?_
            refine t_ret ?_
            exact e_tmp rfl h s rfl (by show _ = _; rw [right_left (d := k) hkl (by show badL _ _ = _; unfold badL; simp only [k0, k1, adr_c _ f1, Bool.true_or, Bool.false_or, Bool.or_true, Bool.not_false, Bool.not_true])] <;> rfl)
        · skip
          refine c_region ?_
          refine s_pure h (ru_field fld35_0 (h.ev rfl)) rfl ?_; intro f h
          refine s_load_at1 (cell_of_has (Has.of_own s 0 rfl) 0 (rfl)) h one3 rfl rfl ?_; intro f h
          refine s_pure h (ru_val (.bool false) (ru_lss (h.ev rfl) (h.ev rfl)) (congrArg Value.bool k0)) rfl ?_; intro f h
          refine s_pure h (ru_move (h.ev rfl)) rfl ?_; intro f h
          refine s_on h rfl rfl rfl ?_
          refine s_pure h (ru_field fld35_0 (h.ev rfl)) rfl ?_; intro f h
          refine s_on h rfl rfl rfl ?_
          refine s_load_at1 (cell_of_has (Has.of_own s 0 rfl) 0 (rfl)) h one3 rfl rfl ?_; intro f h
          refine s_on h rfl rfl rfl ?_
          refine s_pure h (ru_field fld24_1 (h.ev rfl)) rfl ?_; intro f h
          refine s_on h rfl rfl rfl ?_
          refine s_load_at1 (cell_of_has (Has.of_own s 1 rfl) 1 (rfl)) h one3 rfl rfl ?_; intro f h
          refine s_on h rfl rfl rfl ?_
          refine s_pure h (ru_val (.bool false) (ru_gtr (h.ev rfl) (h.ev rfl)) (congrArg Value.bool k1)) rfl ?_; intro f h
          refine s_pure h (ru_pick_f (h.ev rfl) (h.ev rfl)) rfl ?_; intro f h
          refine s_pure h (ru_move (h.ev rfl)) rfl ?_; intro f h
          refine s_on h rfl rfl rfl ?_
          refine s_pure h (ru_field fld35_1 (h.ev rfl)) rfl ?_; intro f h
          refine s_on h rfl rfl rfl ?_
          refine s_load_at1 (cell_of_has (Has.of_own s 0 rfl) 1 (rfl)) h one3 rfl rfl ?_; intro f h
          refine s_on h rfl rfl rfl ?_
          refine s_pure h (ru_val (.bool true) (ru_lss (h.ev rfl) (h.ev rfl)) (congrArg Value.bool f0)) rfl ?_; intro f h
          refine s_pure h (ru_pick_f (h.ev rfl) (h.ev rfl)) rfl ?_; intro f h
          refine s_pure h (ru_move (h.ev rfl)) rfl ?_; intro f h
          refine s_off (b := false) h rfl rfl rfl rfl ?_; intro f h
          refine s_off (b := false) h rfl rfl rfl rfl ?_; intro f h
          refine s_off (b := false) h rfl rfl rfl rfl ?_; intro f h
          refine s_pure h (ru_pick_t (h.ev rfl) (h.ev rfl)) rfl ?_; intro f h
          refine s_pure h (ru_move (h.ev rfl)) rfl ?_; intro f h
          refine s_off (b := false) h rfl rfl rfl rfl ?_; intro f h
          refine s_off (b := false) h rfl rfl rfl rfl ?_; intro f h
          refine s_off (b := false) h rfl rfl rfl rfl ?_; intro f h
          refine s_pure h (ru_pick_t (h.ev rfl) (h.ev rfl)) rfl ?_; intro f h
          refine s_pure h (ru_move (h.ev rfl)) rfl ?_; intro f h
          refine s_off (b := false) h rfl rfl rfl rfl ?_; intro f h
          refine s_off (b := false) h rfl rfl rfl rfl ?_; intro f h
          refine s_off (b := false) h rfl rfl rfl rfl ?_; intro f h
          refine s_pure h (ru_pick_t (h.ev rfl) (h.ev rfl)) rfl ?_; intro f h
          refine s_pure h (ru_move (h.ev rfl)) rfl ?_; intro f h
          refine s_off (b := false) h rfl rfl rfl rfl ?_; intro f h
          refine s_off (b := false) h rfl rfl rfl rfl ?_; intro f h
          refine s_off (b := false) h rfl rfl rfl rfl ?_; intro f h
          refine s_off (b := false) h rfl rfl rfl rfl ?_; intro f h
          refine s_pure h (ru_pick_t (h.ev rfl) (h.ev rfl)) rfl ?_; intro f h
          refine s_nil ?_
          refine hK8 _ _ ?_
          refine wpIn_cond_true (h.ev rfl) ?_
          refine c_seq fun K13 hK13 => ?_
          refine c_region ?_
          refine s_pure h (ru_assign (h.ev rfl)) rfl ?_; intro f h
          refine s_nil ?_
          refine hK13 _ _ ?_
          refine wpIn_ret ?_
          refine b_ret ?_
          refine t_ret ?_
          refine t_ret ?_
          refine b_ret ?_
          refine t_ret ?_
          exact e_tmp rfl h s rfl (by show _ = _; rw [right_left (d := k) hkl (by show badL _ _ = _; unfold badL; simp only [k0, k1, adr_b _ f0, Bool.true_or, Bool.false_or, Bool.or_true, Bool.not_false, Bool.not_true])] <;> rfl)
      · skip
        refine c_region ?_
        refine s_pure h (ru_field fld35_0 (h.ev rfl)) rfl ?_; intro f h
        refine s_load_at1 (cell_of_has (Has.of_own s 0 rfl) 0 (rfl)) h one3 rfl rfl ?_; intro f h
        refine s_pure h (ru_val (.bool false) (ru_lss (h.ev rfl) (h.ev rfl)) (congrArg Value.bool k0)) rfl ?_; intro f h
        refine s_pure h (ru_move (h.ev rfl)) rfl ?_; intro f h
        refine s_on h rfl rfl rfl ?_
        refine s_pure h (ru_field fld35_0 (h.ev rfl)) rfl ?_; intro f h
        refine s_on h rfl rfl rfl ?_
        refine s_load_at1 (cell_of_has (Has.of_own s 0 rfl) 0 (rfl)) h one3 rfl rfl ?_; intro f h
        refine s_on h rfl rfl rfl ?_
        refine s_pure h (ru_field fld24_1 (h.ev rfl)) rfl ?_; intro f h
        refine s_on h rfl rfl rfl ?_
        refine s_load_at1 (cell_of_has (Has.of_own s 1 rfl) 1 (rfl)) h one3 rfl rfl ?_; intro f h
        refine s_on h rfl rfl rfl ?_
        refine s_pure h (ru_val (.bool true) (ru_gtr (h.ev rfl) (h.ev rfl)) (congrArg Value.bool k1)) rfl ?_; intro f h
        refine s_pure h (ru_pick_f (h.ev rfl) (h.ev rfl)) rfl ?_; intro f h
        refine s_pure h (ru_move (h.ev rfl)) rfl ?_; intro f h
        refine s_off (b := false) h rfl rfl rfl rfl ?_; intro f h
        refine s_off (b := false) h rfl rfl rfl rfl ?_; intro f h
        refine s_off (b := false) h rfl rfl rfl rfl ?_; intro f h
        refine s_pure h (ru_pick_t (h.ev rfl) (h.ev rfl)) rfl ?_; intro f h
        refine s_pure h (ru_move (h.ev rfl)) rfl ?_; intro f h
        refine s_off (b := false) h rfl rfl rfl rfl ?_; intro f h
        refine s_off (b := false) h rfl rfl rfl rfl ?_; intro f h
        refine s_off (b := false) h rfl rfl rfl rfl ?_; intro f h
        refine s_pure h (ru_pick_t (h.ev rfl) (h.ev rfl)) rfl ?_; intro f h
        refine s_pure h (ru_move (h.ev rfl)) rfl ?_; intro f h
        refine s_off (b := false) h rfl rfl rfl rfl ?_; intro f h
        refine s_off (b := false) h rfl rfl rfl rfl ?_; intro f h
        refine s_off (b := false) h rfl rfl rfl rfl ?_; intro f h
        refine s_pure h (ru_pick_t (h.ev rfl) (h.ev rfl)) rfl ?_; intro f h
        refine s_pure h (ru_move (h.ev rfl)) rfl ?_; intro f h
        refine s_off (b := false) h rfl rfl rfl rfl ?_; intro f h
        refine s_off (b := false) h rfl rfl rfl rfl ?_; intro f h
        refine s_off (b := false) h rfl rfl rfl rfl ?_; intro f h
        refine s_pure h (ru_pick_t (h.ev rfl) (h.ev rfl)) rfl ?_; intro f h
        refine s_pure h (ru_move (h.ev rfl)) rfl ?_; intro f h
        refine s_off (b := false) h rfl rfl rfl rfl ?_; intro f h
        refine s_off (b := false) h rfl rfl rfl rfl ?_; intro f h
        refine s_off (b := false) h rfl rfl rfl rfl ?_; intro f h
        refine s_off (b := false) h rfl rfl rfl rfl ?_; intro f h
        refine s_pure h (ru_pick_t (h.ev rfl) (h.ev rfl)) rfl ?_; intro f h
        refine s_nil ?_
        refine hK8 _ _ ?_
        refine wpIn_cond_true (h.ev rfl) ?_
        refine c_seq fun K14 hK14 => ?_
        refine c_region ?_
        refine s_pure h (ru_assign (h.ev rfl)) rfl ?_; intro f h
        refine s_nil ?_
        refine hK14 _ _ ?_
        refine wpIn_ret ?_
        refine b_ret ?_
        refine t_ret ?_
        refine t_ret ?_
        refine b_ret ?_
        refine t_ret ?_
        exact e_tmp rfl h s rfl (by show _ = _; rw [right_left (d := k) hkl (by show badL _ _ = _; unfold badL; simp only [k0, k1, Bool.true_or, Bool.false_or, Bool.or_true, Bool.not_false, Bool.not_true])] <;> rfl)
    · skip
      refine c_region ?_
      refine s_pure h (ru_field fld35_0 (h.ev rfl)) rfl ?_; intro f h
      refine s_load_at1 (cell_of_has (Has.of_own s 0 rfl) 0 (rfl)) h one3 rfl rfl ?_; intro f h
      refine s_pure h (ru_val (.bool true) (ru_lss (h.ev rfl) (h.ev rfl)) (congrArg Value.bool k0)) rfl ?_; intro f h
      refine s_pure h (ru_move (h.ev rfl)) rfl ?_; intro f h
      refine s_off (b := false) h rfl rfl rfl rfl ?_; intro f h
      refine s_off (b := false) h rfl rfl rfl rfl ?_; intro f h
      refine s_off (b := false) h rfl rfl rfl rfl ?_; intro f h
      refine s_off (b := false) h rfl rfl rfl rfl ?_; intro f h
      refine s_off (b := false) h rfl rfl rfl rfl ?_; intro f h
      refine s_pure h (ru_pick_t (h.ev rfl) (h.ev rfl)) rfl ?_; intro f h
      refine s_pure h (ru_move (h.ev rfl)) rfl ?_; intro f h
      refine s_off (b := false) h rfl rfl rfl rfl ?_; intro f h
      refine s_off (b := false) h rfl rfl rfl rfl ?_; intro f h
      refine s_off (b := false) h rfl rfl rfl rfl ?_; intro f h
      refine s_pure h (ru_pick_t (h.ev rfl) (h.ev rfl)) rfl ?_; intro f h
      refine s_pure h (ru_move (h.ev rfl)) rfl ?_; intro f h
      refine s_off (b := false) h rfl rfl rfl rfl ?_; intro f h
      refine s_off (b := false) h rfl rfl rfl rfl ?_; intro f h
      refine s_off (b := false) h rfl rfl rfl rfl ?_; intro f h
      refine s_pure h (ru_pick_t (h.ev rfl) (h.ev rfl)) rfl ?_; intro f h
      refine s_pure h (ru_move (h.ev rfl)) rfl ?_; intro f h
      refine s_off (b := false) h rfl rfl rfl rfl ?_; intro f h
      refine s_off (b := false) h rfl rfl rfl rfl ?_; intro f h
      refine s_off (b := false) h rfl rfl rfl rfl ?_; intro f h
      refine s_pure h (ru_pick_t (h.ev rfl) (h.ev rfl)) rfl ?_; intro f h
      refine s_pure h (ru_move (h.ev rfl)) rfl ?_; intro f h
      refine s_off (b := false) h rfl rfl rfl rfl ?_; intro f h
      refine s_off (b := false) h rfl rfl rfl rfl ?_; intro f h
      refine s_off (b := false) h rfl rfl rfl rfl ?_; intro f h
      refine s_pure h (ru_pick_t (h.ev rfl) (h.ev rfl)) rfl ?_; intro f h
      refine s_pure h (ru_move (h.ev rfl)) rfl ?_; intro f h
      refine s_off (b := false) h rfl rfl rfl rfl ?_; intro f h
      refine s_off (b := false) h rfl rfl rfl rfl ?_; intro f h
      refine s_off (b := false) h rfl rfl rfl rfl ?_; intro f h
      refine s_off (b := false) h rfl rfl rfl rfl ?_; intro f h
      refine s_pure h (ru_pick_t (h.ev rfl) (h.ev rfl)) rfl ?_; intro f h
      refine s_nil ?_
      refine hK8 _ _ ?_
      refine wpIn_cond_true (h.ev rfl) ?_
      refine c_seq fun K15 hK15 => ?_
      refine c_region ?_
      refine s_pure h (ru_assign (h.ev rfl)) rfl ?_; intro f h
      refine s_nil ?_
      refine hK15 _ _ ?_
      refine wpIn_ret ?_
      refine b_ret ?_
      refine t_ret ?_
      refine t_ret ?_
      refine b_ret ?_
      refine t_ret ?_
      exact e_tmp rfl h s rfl (by show _ = _; rw [right_left (d := k) hkl (by show badL _ _ = _; unfold badL; simp only [k0, Bool.true_or, Bool.false_or, Bool.or_true, Bool.not_false, Bool.not_true])] <;> rfl)
  · replace hc := of_decide_eq_false hc
    refine wpIn_exit ?_
    refine t_exit ?_
    refine t_exit ?_
    refine b_exit ?_
    refine hK2 _ _ ?_
    refine c_seq fun K16 hK16 => ?_
    cases h0 : (decide (m.l.length ≤ 64) : Bool)
    · skip
      refine c_region ?_
      refine s_pure h (ru_field fld24_0 (h.ev rfl)) rfl ?_; intro f h
      refine s_load_at1 (cell_of_has (Has.of_own s 0 rfl) 0 (rfl)) h one22 rfl rfl ?_; intro f h
      refine s_pure h (ru_lenZ (hR.keep s.ext) Try.underlying22 (h.ev rfl)) rfl ?_; intro f h
      refine s_pure h (ru_val (.bool false) (ru_leq (h.ev rfl) (h.ev rfl)) (congrArg Value.bool (decide_eq_false (by have := of_decide_eq_false h0; omega)))) rfl ?_; intro f h
      refine s_pure h (ru_move (h.ev rfl)) rfl ?_; intro f h
      refine s_off (b := true) h rfl rfl rfl rfl ?_; intro f h
      refine s_off (b := true) h rfl rfl rfl rfl ?_; intro f h
      refine s_off (b := true) h rfl rfl rfl rfl ?_; intro f h
      refine s_pure h (ru_pick_f (h.ev rfl) (h.ev rfl)) rfl ?_; intro f h
      refine s_pure h (ru_move (h.ev rfl)) rfl ?_; intro f h
      refine s_off (b := true) h rfl rfl rfl rfl ?_; intro f h
      refine s_off (b := true) h rfl rfl rfl rfl ?_; intro f h
      refine s_off (b := true) h rfl rfl rfl rfl ?_; intro f h
      refine s_pure h (ru_pick_f (h.ev rfl) (h.ev rfl)) rfl ?_; intro f h
      refine s_pure h (ru_move (h.ev rfl)) rfl ?_; intro f h
      refine s_off (b := true) h rfl rfl rfl rfl ?_; intro f h
      refine s_off (b := true) h rfl rfl rfl rfl ?_; intro f h
      refine s_off (b := true) h rfl rfl rfl rfl ?_; intro f h
      refine s_pure h (ru_pick_f (h.ev rfl) (h.ev rfl)) rfl ?_; intro f h
      refine s_pure h (ru_move (h.ev rfl)) rfl ?_; intro f h
      refine s_off (b := true) h rfl rfl rfl rfl ?_; intro f h
      refine s_off (b := true) h rfl rfl rfl rfl ?_; intro f h
      refine s_off (b := true) h rfl rfl rfl rfl ?_; intro f h
      refine s_pure h (ru_pick_f (h.ev rfl) (h.ev rfl)) rfl ?_; intro f h
      refine s_pure h (ru_assign (h.ev rfl)) rfl ?_; intro f h
      refine s_nil ?_
      refine hK16 _ _ ?_
      refine wpIn_ret ?_
      exact e_tmp rfl h s rfl (by have hal := right_all (k := k) (m := m) (by omega) hp1; show _ = _; unfold rightL tck; rw [hal, h0] <;> rfl)
    · skip
      cases h1 : (decide (0 ≤ m.last) : Bool)
      · skip
        refine c_region ?_
        refine s_pure h (ru_field fld24_0 (h.ev rfl)) rfl ?_; intro f h
        refine s_load_at1 (cell_of_has (Has.of_own s 0 rfl) 0 (rfl)) h one22 rfl rfl ?_; intro f h
        refine s_pure h (ru_lenZ (hR.keep s.ext) Try.underlying22 (h.ev rfl)) rfl ?_; intro f h
        refine s_pure h (ru_val (.bool true) (ru_leq (h.ev rfl) (h.ev rfl)) (congrArg Value.bool (decide_eq_true (by have := of_decide_eq_true h0; omega)))) rfl ?_; intro f h
        refine s_pure h (ru_move (h.ev rfl)) rfl ?_; intro f h
        refine s_on h rfl rfl rfl ?_
        refine s_pure h (ru_field fld24_1 (h.ev rfl)) rfl ?_; intro f h
        refine s_on h rfl rfl rfl ?_
        refine s_load_at1 (cell_of_has (Has.of_own s 0 rfl) 1 (rfl)) h one3 rfl rfl ?_; intro f h
        refine s_on h rfl rfl rfl ?_
        refine s_pure h (ru_val (.bool false) (ru_geq (h.ev rfl) (h.ev rfl)) (congrArg Value.bool h1)) rfl ?_; intro f h
        refine s_pure h (ru_pick_t (h.ev rfl) (h.ev rfl)) rfl ?_; intro f h
        refine s_pure h (ru_move (h.ev rfl)) rfl ?_; intro f h
        refine s_off (b := true) h rfl rfl rfl rfl ?_; intro f h
        refine s_off (b := true) h rfl rfl rfl rfl ?_; intro f h
        refine s_off (b := true) h rfl rfl rfl rfl ?_; intro f h
        refine s_pure h (ru_pick_f (h.ev rfl) (h.ev rfl)) rfl ?_; intro f h
        refine s_pure h (ru_move (h.ev rfl)) rfl ?_; intro f h
        refine s_off (b := true) h rfl rfl rfl rfl ?_; intro f h
        refine s_off (b := true) h rfl rfl rfl rfl ?_; intro f h
        refine s_off (b := true) h rfl rfl rfl rfl ?_; intro f h
        refine s_pure h (ru_pick_f (h.ev rfl) (h.ev rfl)) rfl ?_; intro f h
        refine s_pure h (ru_move (h.ev rfl)) rfl ?_; intro f h
        refine s_off (b := true) h rfl rfl rfl rfl ?_; intro f h
        refine s_off (b := true) h rfl rfl rfl rfl ?_; intro f h
        refine s_off (b := true) h rfl rfl rfl rfl ?_; intro f h
        refine s_pure h (ru_pick_f (h.ev rfl) (h.ev rfl)) rfl ?_; intro f h
        refine s_pure h (ru_assign (h.ev rfl)) rfl ?_; intro f h
        refine s_nil ?_
        refine hK16 _ _ ?_
        refine wpIn_ret ?_
        exact e_tmp rfl h s rfl (by have hal := right_all (k := k) (m := m) (by omega) hp1; show _ = _; unfold rightL tck; rw [hal, h0, h1] <;> rfl)
      · skip
        cases h2 : (decide (m.last ≤ 1099511627776) : Bool)
        · skip
          refine c_region ?_
          refine s_pure h (ru_field fld24_0 (h.ev rfl)) rfl ?_; intro f h
          refine s_load_at1 (cell_of_has (Has.of_own s 0 rfl) 0 (rfl)) h one22 rfl rfl ?_; intro f h
          refine s_pure h (ru_lenZ (hR.keep s.ext) Try.underlying22 (h.ev rfl)) rfl ?_; intro f h
          refine s_pure h (ru_val (.bool true) (ru_leq (h.ev rfl) (h.ev rfl)) (congrArg Value.bool (decide_eq_true (by have := of_decide_eq_true h0; omega)))) rfl ?_; intro f h
          refine s_pure h (ru_move (h.ev rfl)) rfl ?_; intro f h
          refine s_on h rfl rfl rfl ?_
          refine s_pure h (ru_field fld24_1 (h.ev rfl)) rfl ?_; intro f h
          refine s_on h rfl rfl rfl ?_
          refine s_load_at1 (cell_of_has (Has.of_own s 0 rfl) 1 (rfl)) h one3 rfl rfl ?_; intro f h
          refine s_on h rfl rfl rfl ?_
          refine s_pure h (ru_val (.bool true) (ru_geq (h.ev rfl) (h.ev rfl)) (congrArg Value.bool h1)) rfl ?_; intro f h
          refine s_pure h (ru_pick_t (h.ev rfl) (h.ev rfl)) rfl ?_; intro f h
          refine s_pure h (ru_move (h.ev rfl)) rfl ?_; intro f h
          refine s_on h rfl rfl rfl ?_
          refine s_pure h (ru_field fld24_1 (h.ev rfl)) rfl ?_; intro f h
          refine s_on h rfl rfl rfl ?_
          refine s_load_at1 (cell_of_has (Has.of_own s 0 rfl) 1 (rfl)) h one3 rfl rfl ?_; intro f h
          refine s_on h rfl rfl rfl ?_
          refine s_pure h (ru_val (.bool false) (ru_leq (h.ev rfl) (h.ev rfl)) (congrArg Value.bool h2)) rfl ?_; intro f h
          refine s_pure h (ru_pick_t (h.ev rfl) (h.ev rfl)) rfl ?_; intro f h
          refine s_pure h (ru_move (h.ev rfl)) rfl ?_; intro f h
          refine s_off (b := true) h rfl rfl rfl rfl ?_; intro f h
          refine s_off (b := true) h rfl rfl rfl rfl ?_; intro f h
          refine s_off (b := true) h rfl rfl rfl rfl ?_; intro f h
          refine s_pure h (ru_pick_f (h.ev rfl) (h.ev rfl)) rfl ?_; intro f h
          refine s_pure h (ru_move (h.ev rfl)) rfl ?_; intro f h
          refine s_off (b := true) h rfl rfl rfl rfl ?_; intro f h
          refine s_off (b := true) h rfl rfl rfl rfl ?_; intro f h
          refine s_off (b := true) h rfl rfl rfl rfl ?_; intro f h
          refine s_pure h (ru_pick_f (h.ev rfl) (h.ev rfl)) rfl ?_; intro f h
          refine s_pure h (ru_assign (h.ev rfl)) rfl ?_; intro f h
          refine s_nil ?_
          refine hK16 _ _ ?_
          refine wpIn_ret ?_
          exact e_tmp rfl h s rfl (by have hal := right_all (k := k) (m := m) (by omega) hp1; show _ = _; unfold rightL tck; rw [hal, h0, h1, h2] <;> rfl)
        · skip
          cases h3 : (decide (0 ≤ m.now) : Bool)
          · skip
            refine c_region ?_
            refine s_pure h (ru_field fld24_0 (h.ev rfl)) rfl ?_; intro f h
            refine s_load_at1 (cell_of_has (Has.of_own s 0 rfl) 0 (rfl)) h one22 rfl rfl ?_; intro f h
            refine s_pure h (ru_lenZ (hR.keep s.ext) Try.underlying22 (h.ev rfl)) rfl ?_; intro f h
            refine s_pure h (ru_val (.bool true) (ru_leq (h.ev rfl) (h.ev rfl)) (congrArg Value.bool (decide_eq_true (by have := of_decide_eq_true h0; omega)))) rfl ?_; intro f h
            refine s_pure h (ru_move (h.ev rfl)) rfl ?_; intro f h
            refine s_on h rfl rfl rfl ?_
            refine s_pure h (ru_field fld24_1 (h.ev rfl)) rfl ?_; intro f h
            refine s_on h rfl rfl rfl ?_
            refine s_load_at1 (cell_of_has (Has.of_own s 0 rfl) 1 (rfl)) h one3 rfl rfl ?_; intro f h
            refine s_on h rfl rfl rfl ?_
            refine s_pure h (ru_val (.bool true) (ru_geq (h.ev rfl) (h.ev rfl)) (congrArg Value.bool h1)) rfl ?_; intro f h
            refine s_pure h (ru_pick_t (h.ev rfl) (h.ev rfl)) rfl ?_; intro f h
            refine s_pure h (ru_move (h.ev rfl)) rfl ?_; intro f h
            refine s_on h rfl rfl rfl ?_
            refine s_pure h (ru_field fld24_1 (h.ev rfl)) rfl ?_; intro f h
            refine s_on h rfl rfl rfl ?_
            refine s_load_at1 (cell_of_has (Has.of_own s 0 rfl) 1 (rfl)) h one3 rfl rfl ?_; intro f h
            refine s_on h rfl rfl rfl ?_
            refine s_pure h (ru_val (.bool true) (ru_leq (h.ev rfl) (h.ev rfl)) (congrArg Value.bool h2)) rfl ?_; intro f h
            refine s_pure h (ru_pick_t (h.ev rfl) (h.ev rfl)) rfl ?_; intro f h
            refine s_pure h (ru_move (h.ev rfl)) rfl ?_; intro f h
            refine s_on h rfl rfl rfl ?_
            refine s_pure h (ru_field fld24_2 (h.ev rfl)) rfl ?_; intro f h
            refine s_on h rfl rfl rfl ?_
            refine s_load_at1 (cell_of_has (Has.of_own s 0 rfl) 2 (rfl)) h one3 rfl rfl ?_; intro f h
            refine s_on h rfl rfl rfl ?_
            refine s_pure h (ru_val (.bool false) (ru_geq (h.ev rfl) (h.ev rfl)) (congrArg Value.bool h3)) rfl ?_; intro f h
            refine s_pure h (ru_pick_t (h.ev rfl) (h.ev rfl)) rfl ?_; intro f h
            refine s_pure h (ru_move (h.ev rfl)) rfl ?_; intro f h
            refine s_off (b := true) h rfl rfl rfl rfl ?_; intro f h
            refine s_off (b := true) h rfl rfl rfl rfl ?_; intro f h
            refine s_off (b := true) h rfl rfl rfl rfl ?_; intro f h
            refine s_pure h (ru_pick_f (h.ev rfl) (h.ev rfl)) rfl ?_; intro f h
            refine s_pure h (ru_assign (h.ev rfl)) rfl ?_; intro f h
            refine s_nil ?_
            refine hK16 _ _ ?_
            refine wpIn_ret ?_
            exact e_tmp rfl h s rfl (by have hal := right_all (k := k) (m := m) (by omega) hp1; show _ = _; unfold rightL tck; rw [hal, h0, h1, h2, h3] <;> rfl)
          · skip
            cases h4 : (decide (m.now ≤ 1099511627776) : Bool)
            · skip
              refine c_region ?_
              refine s_pure h (ru_field fld24_0 (h.ev rfl)) rfl ?_; intro f h
              refine s_load_at1 (cell_of_has (Has.of_own s 0 rfl) 0 (rfl)) h one22 rfl rfl ?_; intro f h
              refine s_pure h (ru_lenZ (hR.keep s.ext) Try.underlying22 (h.ev rfl)) rfl ?_; intro f h
              refine s_pure h (ru_val (.bool true) (ru_leq (h.ev rfl) (h.ev rfl)) (congrArg Value.bool (decide_eq_true (by have := of_decide_eq_true h0; omega)))) rfl ?_; intro f h
              refine s_pure h (ru_move (h.ev rfl)) rfl ?_; intro f h
              refine s_on h rfl rfl rfl ?_
              refine s_pure h (ru_field fld24_1 (h.ev rfl)) rfl ?_; intro f h
              refine s_on h rfl rfl rfl ?_
              refine s_load_at1 (cell_of_has (Has.of_own s 0 rfl) 1 (rfl)) h one3 rfl rfl ?_; intro f h
              refine s_on h rfl rfl rfl ?_
              refine s_pure h (ru_val (.bool true) (ru_geq (h.ev rfl) (h.ev rfl)) (congrArg Value.bool h1)) rfl ?_; intro f h
              refine s_pure h (ru_pick_t (h.ev rfl) (h.ev rfl)) rfl ?_; intro f h
              refine s_pure h (ru_move (h.ev rfl)) rfl ?_; intro f h
              refine s_on h rfl rfl rfl ?_
              refine s_pure h (ru_field fld24_1 (h.ev rfl)) rfl ?_; intro f h
              refine s_on h rfl rfl rfl ?_
              refine s_load_at1 (cell_of_has (Has.of_own s 0 rfl) 1 (rfl)) h one3 rfl rfl ?_; intro f h
              refine s_on h rfl rfl rfl ?_
              refine s_pure h (ru_val (.bool true) (ru_leq (h.ev rfl) (h.ev rfl)) (congrArg Value.bool h2)) rfl ?_; intro f h
              refine s_pure h (ru_pick_t (h.ev rfl) (h.ev rfl)) rfl ?_; intro f h
              refine s_pure h (ru_move (h.ev rfl)) rfl ?_; intro f h
              refine s_on h rfl rfl rfl ?_
              refine s_pure h (ru_field fld24_2 (h.ev rfl)) rfl ?_; intro f h
              refine s_on h rfl rfl rfl ?_
              refine s_load_at1 (cell_of_has (Has.of_own s 0 rfl) 2 (rfl)) h one3 rfl rfl ?_; intro f h
              refine s_on h rfl rfl rfl ?_
              refine s_pure h (ru_val (.bool true) (ru_geq (h.ev rfl) (h.ev rfl)) (congrArg Value.bool h3)) rfl ?_; intro f h
              refine s_pure h (ru_pick_t (h.ev rfl) (h.ev rfl)) rfl ?_; intro f h
              refine s_pure h (ru_move (h.ev rfl)) rfl ?_; intro f h
              refine s_on h rfl rfl rfl ?_
              refine s_pure h (ru_field fld24_2 (h.ev rfl)) rfl ?_; intro f h
              refine s_on h rfl rfl rfl ?_
              refine s_load_at1 (cell_of_has (Has.of_own s 0 rfl) 2 (rfl)) h one3 rfl rfl ?_; intro f h
              refine s_on h rfl rfl rfl ?_
              refine s_pure h (ru_val (.bool false) (ru_leq (h.ev rfl) (h.ev rfl)) (congrArg Value.bool h4)) rfl ?_; intro f h
              refine s_pure h (ru_pick_t (h.ev rfl) (h.ev rfl)) rfl ?_; intro f h
              refine s_pure h (ru_assign (h.ev rfl)) rfl ?_; intro f h
              refine s_nil ?_
              refine hK16 _ _ ?_
              refine wpIn_ret ?_
              exact e_tmp rfl h s rfl (by have hal := right_all (k := k) (m := m) (by omega) hp1; show _ = _; unfold rightL tck; rw [hal, h0, h1, h2, h3, h4] <;> rfl)
            · skip
              refine c_region ?_
              refine s_pure h (ru_field fld24_0 (h.ev rfl)) rfl ?_; intro f h
              refine s_load_at1 (cell_of_has (Has.of_own s 0 rfl) 0 (rfl)) h one22 rfl rfl ?_; intro f h
              refine s_pure h (ru_lenZ (hR.keep s.ext) Try.underlying22 (h.ev rfl)) rfl ?_; intro f h
              refine s_pure h (ru_val (.bool true) (ru_leq (h.ev rfl) (h.ev rfl)) (congrArg Value.bool (decide_eq_true (by have := of_decide_eq_true h0; omega)))) rfl ?_; intro f h
              refine s_pure h (ru_move (h.ev rfl)) rfl ?_; intro f h
              refine s_on h rfl rfl rfl ?_
              refine s_pure h (ru_field fld24_1 (h.ev rfl)) rfl ?_; intro f h
              refine s_on h rfl rfl rfl ?_
              refine s_load_at1 (cell_of_has (Has.of_own s 0 rfl) 1 (rfl)) h one3 rfl rfl ?_; intro f h
              refine s_on h rfl rfl rfl ?_
              refine s_pure h (ru_val (.bool true) (ru_geq (h.ev rfl) (h.ev rfl)) (congrArg Value.bool h1)) rfl ?_; intro f h
              refine s_pure h (ru_pick_t (h.ev rfl) (h.ev rfl)) rfl ?_; intro f h
              refine s_pure h (ru_move (h.ev rfl)) rfl ?_; intro f h
              refine s_on h rfl rfl rfl ?_
              refine s_pure h (ru_field fld24_1 (h.ev rfl)) rfl ?_; intro f h
              refine s_on h rfl rfl rfl ?_
              refine s_load_at1 (cell_of_has (Has.of_own s 0 rfl) 1 (rfl)) h one3 rfl rfl ?_; intro f h
              refine s_on h rfl rfl rfl ?_
              refine s_pure h (ru_val (.bool true) (ru_leq (h.ev rfl) (h.ev rfl)) (congrArg Value.bool h2)) rfl ?_; intro f h
              refine s_pure h (ru_pick_t (h.ev rfl) (h.ev rfl)) rfl ?_; intro f h
              refine s_pure h (ru_move (h.ev rfl)) rfl ?_; intro f h
              refine s_on h rfl rfl rfl ?_
              refine s_pure h (ru_field fld24_2 (h.ev rfl)) rfl ?_; intro f h
              refine s_on h rfl rfl rfl ?_
              refine s_load_at1 (cell_of_has (Has.of_own s 0 rfl) 2 (rfl)) h one3 rfl rfl ?_; intro f h
              refine s_on h rfl rfl rfl ?_
              refine s_pure h (ru_val (.bool true) (ru_geq (h.ev rfl) (h.ev rfl)) (congrArg Value.bool h3)) rfl ?_; intro f h
              refine s_pure h (ru_pick_t (h.ev rfl) (h.ev rfl)) rfl ?_; intro f h
              refine s_pure h (ru_move (h.ev rfl)) rfl ?_; intro f h
              refine s_on h rfl rfl rfl ?_
              refine s_pure h (ru_field fld24_2 (h.ev rfl)) rfl ?_; intro f h
              refine s_on h rfl rfl rfl ?_
              refine s_load_at1 (cell_of_has (Has.of_own s 0 rfl) 2 (rfl)) h one3 rfl rfl ?_; intro f h
              refine s_on h rfl rfl rfl ?_
              refine s_pure h (ru_val (.bool true) (ru_leq (h.ev rfl) (h.ev rfl)) (congrArg Value.bool h4)) rfl ?_; intro f h
              refine s_pure h (ru_pick_t (h.ev rfl) (h.ev rfl)) rfl ?_; intro f h
              refine s_pure h (ru_assign (h.ev rfl)) rfl ?_; intro f h
              refine s_nil ?_
              refine hK16 _ _ ?_
              refine wpIn_ret ?_
              exact e_tmp rfl h s rfl (by have hal := right_all (k := k) (m := m) (by omega) hp1; show _ = _; unfold rightL tck; rw [hal, h0, h1, h2, h3, h4] <;> rfl)

theorem like_any (a b : Ml) (v1 v2 : Value) (w : World) (hR : RdZ w v1 4 a.l.length (ltCells a.l)) (hS : RdZ w v2 4 b.l.length (ltCells b.l)) (hln : a.l.length ≤ 1000) (hln2 : b.l.length ≤ 1000) : Calls Try.prog 13 [.agg (mlArr a v1), .agg (mlArr b v2)].toArray w (Ret w (is (.bool (mlLike a b)))) := by
  refine c_enter Try.func13 rfl Try.ntmps13 rfl [(0, .agg (mlArr a v1)), (1, .agg (mlArr b v2))] (by simp) fun f h => ?_
  have s := St.start w
  refine c_seq fun K1 hK1 => ?_
  refine c_region ?_
  refine s_box ((mlArr a v1)) h s rfl rfl rfl ?_; intro f w1 b2 h s
  refine s_box ((mlArr b v2)) h s rfl rfl rfl ?_; intro f w1 b3 h s
  refine s_pure h (ru_assign (h.ev rfl)) rfl ?_; intro f h
  refine s_nil ?_
  refine hK1 _ _ ?_
  refine c_seq fun K2 hK2 => ?_
  refine c_seq fun K3 hK3 => ?_
  cases n0 : (decide (a.l.length = b.l.length) : Bool)
  · skip
    refine c_region ?_
    refine s_pure h (ru_field fld24_0 (h.ev rfl)) rfl ?_; intro f h
    refine s_load_at1 (cell_of_has (Has.of_own s 1 rfl) 0 (rfl)) h one22 rfl rfl ?_; intro f h
    refine s_pure h (ru_lenZ (hR.keep s.ext) Try.underlying22 (h.ev rfl)) rfl ?_; intro f h
    refine s_pure h (ru_field fld24_0 (h.ev rfl)) rfl ?_; intro f h
    refine s_load_at1 (cell_of_has (Has.of_own s 0 rfl) 0 (rfl)) h one22 rfl rfl ?_; intro f h
    refine s_pure h (ru_lenZ (hS.keep s.ext) Try.underlying22 (h.ev rfl)) rfl ?_; intro f h
    refine s_pure h (ru_val (.bool true) (ru_neq (h.ev rfl) (h.ev rfl)) (congrArg Value.bool (decide_eq_true (by have := of_decide_eq_false n0; omega)))) rfl ?_; intro f h
    refine s_pure h (ru_move (h.ev rfl)) rfl ?_; intro f h
    refine s_off (b := false) h rfl rfl rfl rfl ?_; intro f h
    refine s_off (b := false) h rfl rfl rfl rfl ?_; intro f h
    refine s_off (b := false) h rfl rfl rfl rfl ?_; intro f h
    refine s_off (b := false) h rfl rfl rfl rfl ?_; intro f h
    refine s_off (b := false) h rfl rfl rfl rfl ?_; intro f h
    refine s_pure h (ru_pick_t (h.ev rfl) (h.ev rfl)) rfl ?_; intro f h
    refine s_pure h (ru_move (h.ev rfl)) rfl ?_; intro f h
    refine s_off (b := false) h rfl rfl rfl rfl ?_; intro f h
    refine s_off (b := false) h rfl rfl rfl rfl ?_; intro f h
    refine s_off (b := false) h rfl rfl rfl rfl ?_; intro f h
    refine s_off (b := false) h rfl rfl rfl rfl ?_; intro f h
    refine s_off (b := false) h rfl rfl rfl rfl ?_; intro f h
    refine s_pure h (ru_pick_t (h.ev rfl) (h.ev rfl)) rfl ?_; intro f h
    refine s_nil ?_
    refine hK3 _ _ ?_
    refine wpIn_cond_true (h.ev rfl) ?_
    refine c_seq fun K4 hK4 => ?_
    refine c_region ?_
    refine s_pure h (ru_assign (h.ev rfl)) rfl ?_; intro f h
    refine s_nil ?_
    refine hK4 _ _ ?_
    refine wpIn_ret ?_
    refine t_ret ?_
    exact e_tmp rfl h s rfl (by show _ = _; rw [like_no0 n0] <;> rfl)
  · skip
    cases n1 : (decide (a.last = b.last) : Bool)
    · skip
      refine c_region ?_
      refine s_pure h (ru_field fld24_0 (h.ev rfl)) rfl ?_; intro f h
      refine s_load_at1 (cell_of_has (Has.of_own s 1 rfl) 0 (rfl)) h one22 rfl rfl ?_; intro f h
      refine s_pure h (ru_lenZ (hR.keep s.ext) Try.underlying22 (h.ev rfl)) rfl ?_; intro f h
      refine s_pure h (ru_field fld24_0 (h.ev rfl)) rfl ?_; intro f h
      refine s_load_at1 (cell_of_has (Has.of_own s 0 rfl) 0 (rfl)) h one22 rfl rfl ?_; intro f h
      refine s_pure h (ru_lenZ (hS.keep s.ext) Try.underlying22 (h.ev rfl)) rfl ?_; intro f h
      refine s_pure h (ru_val (.bool false) (ru_neq (h.ev rfl) (h.ev rfl)) (congrArg Value.bool (decide_eq_false (by have := of_decide_eq_true n0; omega)))) rfl ?_; intro f h
      refine s_pure h (ru_move (h.ev rfl)) rfl ?_; intro f h
      refine s_on h rfl rfl rfl ?_
      refine s_pure h (ru_field fld24_1 (h.ev rfl)) rfl ?_; intro f h
      refine s_on h rfl rfl rfl ?_
      refine s_load_at1 (cell_of_has (Has.of_own s 1 rfl) 1 (rfl)) h one3 rfl rfl ?_; intro f h
      refine s_on h rfl rfl rfl ?_
      refine s_pure h (ru_field fld24_1 (h.ev rfl)) rfl ?_; intro f h
      refine s_on h rfl rfl rfl ?_
      refine s_load_at1 (cell_of_has (Has.of_own s 0 rfl) 1 (rfl)) h one3 rfl rfl ?_; intro f h
      refine s_on h rfl rfl rfl ?_
      refine s_pure h (ru_val (.bool true) (ru_neq (h.ev rfl) (h.ev rfl)) (congrArg Value.bool (decide_eq_true (of_decide_eq_false n1)))) rfl ?_; intro f h
      refine s_pure h (ru_pick_f (h.ev rfl) (h.ev rfl)) rfl ?_; intro f h
      refine s_pure h (ru_move (h.ev rfl)) rfl ?_; intro f h
      refine s_off (b := false) h rfl rfl rfl rfl ?_; intro f h
      refine s_off (b := false) h rfl rfl rfl rfl ?_; intro f h
      refine s_off (b := false) h rfl rfl rfl rfl ?_; intro f h
      refine s_off (b := false) h rfl rfl rfl rfl ?_; intro f h
      refine s_off (b := false) h rfl rfl rfl rfl ?_; intro f h
      refine s_pure h (ru_pick_t (h.ev rfl) (h.ev rfl)) rfl ?_; intro f h
      refine s_nil ?_
      refine hK3 _ _ ?_
      refine wpIn_cond_true (h.ev rfl) ?_
      refine c_seq fun K5 hK5 => ?_
      refine c_region ?_
      refine s_pure h (ru_assign (h.ev rfl)) rfl ?_; intro f h
      refine s_nil ?_
      refine hK5 _ _ ?_
      refine wpIn_ret ?_
      refine t_ret ?_
      exact e_tmp rfl h s rfl (by show _ = _; rw [like_no1 n1] <;> rfl)
    · skip
      cases n2 : (decide (a.now = b.now) : Bool)
      · skip
        refine c_region ?_
        refine s_pure h (ru_field fld24_0 (h.ev rfl)) rfl ?_; intro f h
        refine s_load_at1 (cell_of_has (Has.of_own s 1 rfl) 0 (rfl)) h one22 rfl rfl ?_; intro f h
        refine s_pure h (ru_lenZ (hR.keep s.ext) Try.underlying22 (h.ev rfl)) rfl ?_; intro f h
        refine s_pure h (ru_field fld24_0 (h.ev rfl)) rfl ?_; intro f h
        refine s_load_at1 (cell_of_has (Has.of_own s 0 rfl) 0 (rfl)) h one22 rfl rfl ?_; intro f h
        refine s_pure h (ru_lenZ (hS.keep s.ext) Try.underlying22 (h.ev rfl)) rfl ?_; intro f h
        refine s_pure h (ru_val (.bool false) (ru_neq (h.ev rfl) (h.ev rfl)) (congrArg Value.bool (decide_eq_false (by have := of_decide_eq_true n0; omega)))) rfl ?_; intro f h
        refine s_pure h (ru_move (h.ev rfl)) rfl ?_; intro f h
        refine s_on h rfl rfl rfl ?_
        refine s_pure h (ru_field fld24_1 (h.ev rfl)) rfl ?_; intro f h
        refine s_on h rfl rfl rfl ?_
        refine s_load_at1 (cell_of_has (Has.of_own s 1 rfl) 1 (rfl)) h one3 rfl rfl ?_; intro f h
        refine s_on h rfl rfl rfl ?_
        refine s_pure h (ru_field fld24_1 (h.ev rfl)) rfl ?_; intro f h
        refine s_on h rfl rfl rfl ?_
        refine s_load_at1 (cell_of_has (Has.of_own s 0 rfl) 1 (rfl)) h one3 rfl rfl ?_; intro f h
        refine s_on h rfl rfl rfl ?_
        refine s_pure h (ru_val (.bool false) (ru_neq (h.ev rfl) (h.ev rfl)) (congrArg Value.bool (decide_eq_false (fun h9 => h9 (of_decide_eq_true n1))))) rfl ?_; intro f h
        refine s_pure h (ru_pick_f (h.ev rfl) (h.ev rfl)) rfl ?_; intro f h
        refine s_pure h (ru_move (h.ev rfl)) rfl ?_; intro f h
        refine s_on h rfl rfl rfl ?_
        refine s_pure h (ru_field fld24_2 (h.ev rfl)) rfl ?_; intro f h
        refine s_on h rfl rfl rfl ?_
        refine s_load_at1 (cell_of_has (Has.of_own s 1 rfl) 2 (rfl)) h one3 rfl rfl ?_; intro f h
        refine s_on h rfl rfl rfl ?_
        refine s_pure h (ru_field fld24_2 (h.ev rfl)) rfl ?_; intro f h
        refine s_on h rfl rfl rfl ?_
        refine s_load_at1 (cell_of_has (Has.of_own s 0 rfl) 2 (rfl)) h one3 rfl rfl ?_; intro f h
        refine s_on h rfl rfl rfl ?_
        refine s_pure h (ru_val (.bool true) (ru_neq (h.ev rfl) (h.ev rfl)) (congrArg Value.bool (decide_eq_true (of_decide_eq_false n2)))) rfl ?_; intro f h
        refine s_pure h (ru_pick_f (h.ev rfl) (h.ev rfl)) rfl ?_; intro f h
        refine s_nil ?_
        refine hK3 _ _ ?_
        refine wpIn_cond_true (h.ev rfl) ?_
        refine c_seq fun K6 hK6 => ?_
        refine c_region ?_
        refine s_pure h (ru_assign (h.ev rfl)) rfl ?_; intro f h
        refine s_nil ?_
        refine hK6 _ _ ?_
        refine wpIn_ret ?_
        refine t_ret ?_
        exact e_tmp rfl h s rfl (by show _ = _; rw [like_no2 n2] <;> rfl)
      · skip
        refine c_region ?_
        refine s_pure h (ru_field fld24_0 (h.ev rfl)) rfl ?_; intro f h
        refine s_load_at1 (cell_of_has (Has.of_own s 1 rfl) 0 (rfl)) h one22 rfl rfl ?_; intro f h
        refine s_pure h (ru_lenZ (hR.keep s.ext) Try.underlying22 (h.ev rfl)) rfl ?_; intro f h
        refine s_pure h (ru_field fld24_0 (h.ev rfl)) rfl ?_; intro f h
        refine s_load_at1 (cell_of_has (Has.of_own s 0 rfl) 0 (rfl)) h one22 rfl rfl ?_; intro f h
        refine s_pure h (ru_lenZ (hS.keep s.ext) Try.underlying22 (h.ev rfl)) rfl ?_; intro f h
        refine s_pure h (ru_val (.bool false) (ru_neq (h.ev rfl) (h.ev rfl)) (congrArg Value.bool (decide_eq_false (by have := of_decide_eq_true n0; omega)))) rfl ?_; intro f h
        refine s_pure h (ru_move (h.ev rfl)) rfl ?_; intro f h
        refine s_on h rfl rfl rfl ?_
        refine s_pure h (ru_field fld24_1 (h.ev rfl)) rfl ?_; intro f h
        refine s_on h rfl rfl rfl ?_
        refine s_load_at1 (cell_of_has (Has.of_own s 1 rfl) 1 (rfl)) h one3 rfl rfl ?_; intro f h
        refine s_on h rfl rfl rfl ?_
        refine s_pure h (ru_field fld24_1 (h.ev rfl)) rfl ?_; intro f h
        refine s_on h rfl rfl rfl ?_
        refine s_load_at1 (cell_of_has (Has.of_own s 0 rfl) 1 (rfl)) h one3 rfl rfl ?_; intro f h
        refine s_on h rfl rfl rfl ?_
        refine s_pure h (ru_val (.bool false) (ru_neq (h.ev rfl) (h.ev rfl)) (congrArg Value.bool (decide_eq_false (fun h9 => h9 (of_decide_eq_true n1))))) rfl ?_; intro f h
        refine s_pure h (ru_pick_f (h.ev rfl) (h.ev rfl)) rfl ?_; intro f h
        refine s_pure h (ru_move (h.ev rfl)) rfl ?_; intro f h
        refine s_on h rfl rfl rfl ?_
        refine s_pure h (ru_field fld24_2 (h.ev rfl)) rfl ?_; intro f h
        refine s_on h rfl rfl rfl ?_
        refine s_load_at1 (cell_of_has (Has.of_own s 1 rfl) 2 (rfl)) h one3 rfl rfl ?_; intro f h
        refine s_on h rfl rfl rfl ?_
        refine s_pure h (ru_field fld24_2 (h.ev rfl)) rfl ?_; intro f h
        refine s_on h rfl rfl rfl ?_
        refine s_load_at1 (cell_of_has (Has.of_own s 0 rfl) 2 (rfl)) h one3 rfl rfl ?_; intro f h
        refine s_on h rfl rfl rfl ?_
        refine s_pure h (ru_val (.bool false) (ru_neq (h.ev rfl) (h.ev rfl)) (congrArg Value.bool (decide_eq_false (fun h9 => h9 (of_decide_eq_true n2))))) rfl ?_; intro f h
        refine s_pure h (ru_pick_f (h.ev rfl) (h.ev rfl)) rfl ?_; intro f h
        refine s_nil ?_
        refine hK3 _ _ ?_
        refine wpIn_cond_false (h.ev rfl) ?_
        refine wpIn_skip ?_
        refine hK2 _ _ ?_
        refine c_seq fun K7 hK7 => ?_
        refine c_seq fun K8 hK8 => ?_
        refine c_region ?_
        refine s_pure h (ru_field fld24_0 (h.ev rfl)) rfl ?_; intro f h
        refine s_load_at1 (cell_of_has (Has.of_own s 1 rfl) 0 (rfl)) h one22 rfl rfl ?_; intro f h
        refine s_pure h (ru_lenZ (hR.keep s.ext) Try.underlying22 (h.ev rfl)) rfl ?_; intro f h
        refine s_pure h (ru_move (h.ev rfl)) rfl ?_; intro f h
        refine s_nil ?_
        refine hK8 _ _ ?_
        refine wpIn_block ?_
        refine wpIn_loop_ghost (fun nn aa ww => ∃ k : Nat, Sl 45 aa [(0, .agg (mlArr a v1)), (1, .agg (mlArr b v2)), (2, .pointer (some ⟨b2, 0, none⟩)), (3, .pointer (some ⟨b3, 0, none⟩)), (29, .int .i64 (a.l.length : Int)), (30, .int .i64 (k : Int))] ∧ St w [.blk b3 (.cells (mlArr b v2) 24), .blk b2 (.cells (mlArr a v1) 24)] ww ∧ nn = a.l.length - k ∧ k ≤ a.l.length ∧ ∀ j, j < k → a.l.getD j zLt = b.l.getD j zLt) (a.l.length - (0)) ⟨0, h.only ⟨rfl, rfl, rfl, rfl, rfl, slot_int rfl (by omega), trivial⟩, s.as ⟨rfl, rfl, trivial⟩, rfl, Nat.zero_le _, fun j hj => absurd hj (Nat.not_lt_zero _)⟩ ?_
        rintro _ f w1 ⟨k, h, s, hnn, hp0, hp1⟩
        refine c_seq fun K9 hK9 => ?_
        refine c_region ?_
        refine s_pure h (ru_lss (h.ev rfl) (h.ev rfl)) rfl ?_; intro f h
        refine s_nil ?_
        refine hK9 _ _ ?_
        refine c_seq fun K10 hK10 => ?_
        refine c_cond h rfl (fun hc => ?_) (fun hc => ?_)
        · replace hc := of_decide_eq_true hc
          refine wpIn_skip ?_
          refine hK10 _ _ ?_
          refine c_seq fun K11 hK11 => ?_
          refine wpIn_block ?_
          refine c_seq fun K12 hK12 => ?_
          refine c_region ?_
          have hka : k < a.l.length := by omega
          have hkb : k < b.l.length := by have := of_decide_eq_true n0; omega
          refine s_pure h (ru_move (h.ev rfl)) rfl ?_; intro f h
          refine s_pure h (ru_assign (h.ev rfl)) rfl ?_; intro f h
          refine s_nil ?_
          refine hK12 _ _ ?_
          refine c_seq fun K13 hK13 => ?_
          refine c_walkN 11 [[], [0], [], [0, 1, 2], [0, 1, 2, 3], [], [5], [], [5, 6, 7], [5, 6, 7, 8], [0, 1, 2, 3, 4, 5, 6, 7, 8, 9]] h (by kernel_rfl) (by kernel_rfl) (by kernel_rfl) ?_
          refine w_pure h (ru_field fld24_0 (h.ev rfl)) rfl ?_; intro f h
          refine w_load_at1 (cell_of_has (Has.of_own s 1 rfl) 0 (rfl)) h one22 rfl rfl ?_; intro f h
          refine w_pure h (ru_move (h.ev rfl)) rfl ?_; intro f h
          refine w_pure h (ru_ixz (hR.keep s.ext) (k) Try.underlying22 szo35 (h.ev rfl) (h.ev rfl) (by omega) (by omega)) rfl ?_; intro f h
          refine w_load_at ((hR.keep s.ext).el (k) (by omega) (by decide) (D := ltArr a.l[k]) (lt_el a.l k hka)) h row35 rfl (rfl) rfl ?_; intro f h
          refine w_pure h (ru_field fld24_0 (h.ev rfl)) rfl ?_; intro f h
          refine w_load_at1 (cell_of_has (Has.of_own s 0 rfl) 0 (rfl)) h one22 rfl rfl ?_; intro f h
          refine w_pure h (ru_move (h.ev rfl)) rfl ?_; intro f h
          refine w_pure h (ru_ixz (hS.keep s.ext) (k) Try.underlying22 szo35 (h.ev rfl) (h.ev rfl) (by omega) (by omega)) rfl ?_; intro f h
          refine w_load_at ((hS.keep s.ext).el (k) (by omega) (by decide) (D := ltArr b.l[k]) (lt_el b.l k hkb)) h row35 rfl (rfl) rfl ?_; intro f h
          refine w_pure h (ru_neqW (eqL _ _) (by kernel_rfl) (by decide) (h.ev rfl) (h.ev rfl) (decide (a.l[k] = b.l[k])) (ltEq _ _)) rfl ?_; intro f h
          refine w_nil s fun w1 s => ?_
          refine s_nil ?_
          refine hK13 _ _ ?_
          refine c_cond h rfl (fun hc => ?_) (fun hc => ?_)
          · have hn9 : a.l[k] ≠ b.l[k] := by simpa using hc
            refine c_seq fun K14 hK14 => ?_
            refine c_region ?_
            refine s_pure h (ru_assign (h.ev rfl)) rfl ?_; intro f h
            refine s_nil ?_
            refine hK14 _ _ ?_
            refine wpIn_ret ?_
            refine b_ret ?_
            refine t_ret ?_
            refine t_ret ?_
            refine b_ret ?_
            refine t_ret ?_
            exact e_tmp rfl h s rfl (by show _ = _; rw [like_noL hka hkb hn9] <;> rfl)
          · have he9 : a.l[k] = b.l[k] := by simpa using hc
            refine wpIn_skip ?_
            refine b_norm ?_
            refine hK11 _ _ ?_
            refine c_region ?_
            refine s_pure h (ru_add (h.ev rfl) (h.ev rfl) (by omega)) rfl ?_; intro f h
            refine s_pure h (ru_move (h.ev rfl)) rfl ?_; intro f h
            refine s_nil ?_
            refine t_norm ?_
            exact ⟨_, by omega, ⟨k + 1, h.only ⟨rfl, rfl, rfl, rfl, rfl, slot_int rfl (by omega), trivial⟩, St.as s ⟨rfl, rfl, trivial⟩, rfl, by omega, eqs_next hp1 hka hkb he9⟩⟩
        · replace hc := of_decide_eq_false hc
          refine wpIn_exit ?_
          refine t_exit ?_
          refine t_exit ?_
          refine b_exit ?_
          refine hK7 _ _ ?_
          refine c_seq fun K15 hK15 => ?_
          refine c_region ?_
          refine s_pure h (ru_assign (h.ev rfl)) rfl ?_; intro f h
          refine s_nil ?_
          refine hK15 _ _ ?_
          refine wpIn_ret ?_
          exact e_tmp rfl h s rfl (by show _ = _; rw [like_yes n0 n1 n2 (fun j hj => hp1 j (by omega))] <;> rfl)

theorem alive_any  (w : World) : Calls Try.prog 12 [].toArray w (Ret w (is (.bool true))) := by
  refine c_enter Try.func12 rfl Try.ntmps12 rfl [] (by simp) fun f h => ?_
  have s := St.start w
  refine c_seq fun K1 hK1 => ?_
  refine c_region ?_
  refine s_pure h (ru_assign (h.ev rfl)) rfl ?_; intro f h
  refine s_nil ?_
  refine hK1 _ _ ?_
  refine c_seq fun K2 hK2 => ?_
  refine c_region ?_
  refine s_pure h (ru_build_ml0 sttM) rfl ?_; intro f h
  refine s_call h s fnc8 (post_any zMl (.slice none 0 0) 1 17 ⟨#[120]⟩ _ (rd_nil4 _) (by decide)) rfl rfl ?_; rintro f w1 v9 ⟨vx, rfl, hvx⟩ hE h sq
  replace s := s.sl_new hE hvx
  refine s_pure h (ru_move (h.ev rfl)) rfl ?_; intro f h
  refine s_pure h (ru_extract (h.ev rfl) rfl) rfl ?_; intro f h
  refine s_pure h (ru_extract (h.ev rfl) rfl) rfl ?_; intro f h
  refine s_pure h (ru_extract (h.ev rfl) rfl) rfl ?_; intro f h
  refine s_alloc (mlArr zMl (.slice none 0 0)) h s zero24 rfl rfl ?_; intro f w1 b1 h s
  refine s_store_row 0 h s row24 rfl rfl rfl (rfl) (rfl) (mlArr_ones _ _ (own_one (s.getSl 1 rfl))) ?_; intro w1 s
  refine s_pure h (ru_assign (h.ev rfl)) rfl ?_; intro f h
  refine s_pure h (ru_assign (h.ev rfl)) rfl ?_; intro f h
  refine s_nil ?_
  refine hK2 _ _ ?_
  refine c_seq fun K3 hK3 => ?_
  refine c_region ?_
  refine s_load_row 0 h s row24 rfl rfl (rfl) rfl ?_; intro f h
  refine s_call h s fnc14 (take_any zA vx 0 _ (RdZ.of_own (s.getSl 1 rfl)) aliveL) rfl rfl ?_; rintro f w1 v15 ⟨vy, rfl, hvy⟩ hE h sq
  replace s := s.sl_new hE hvy
  refine s_pure h (ru_move (h.ev rfl)) rfl ?_; intro f h
  refine s_pure h (ru_extract (h.ev rfl) rfl) rfl ?_; intro f h
  refine s_pure h (ru_extract (h.ev rfl) rfl) rfl ?_; intro f h
  refine s_pure h (ru_extract (h.ev rfl) rfl) rfl ?_; intro f h
  refine s_alloc (mlArr zMl (.slice none 0 0)) h s zero24 rfl rfl ?_; intro f w1 b4 h s
  refine s_alloc (ltArr zLt) h s zero35 rfl rfl ?_; intro f w1 b5 h s
  refine s_store_row 1 h s row24 rfl rfl rfl (rfl) (rfl) (mlArr_ones _ _ (own_one (s.getSl 2 rfl))) ?_; intro w1 s
  refine s_store_row 0 h s row35 rfl rfl rfl (rfl) (rfl) (ltArr_ones _) ?_; intro w1 s
  refine s_pure h (ru_assign (h.ev rfl)) rfl ?_; intro f h
  refine s_nil ?_
  refine hK3 _ _ ?_
  refine c_seq fun K4 hK4 => ?_
  refine c_region ?_
  refine s_pure h (ru_move (h.ev rfl)) rfl ?_; intro f h
  refine s_pure h (ru_val (.bool true) (ru_eql (h.ev rfl) (h.ev rfl)) (congrArg Value.bool (decide_eq_true (alive0)))) rfl ?_; intro f h
  refine s_pure h (ru_move (h.ev rfl)) rfl ?_; intro f h
  refine s_on h rfl rfl rfl ?_
  refine s_pure h (ru_move (h.ev rfl)) rfl ?_; intro f h
  refine s_on h rfl rfl rfl ?_
  refine s_pure h (ru_val (.bool true) (ru_eql (h.ev rfl) (h.ev rfl)) (congrArg Value.bool (decide_eq_true (alive1)))) rfl ?_; intro f h
  refine s_pure h (ru_pick_t (h.ev rfl) (h.ev rfl)) rfl ?_; intro f h
  refine s_pure h (ru_move (h.ev rfl)) rfl ?_; intro f h
  refine s_on h rfl rfl rfl ?_
  refine s_pure h (ru_move (h.ev rfl)) rfl ?_; intro f h
  refine s_on h rfl rfl rfl ?_
  refine s_pure h (ru_val (.bool true) (ru_eql (h.ev rfl) (h.ev rfl)) (congrArg Value.bool (decide_eq_true (aliveN)))) rfl ?_; intro f h
  refine s_pure h (ru_pick_t (h.ev rfl) (h.ev rfl)) rfl ?_; intro f h
  refine s_pure h (ru_move (h.ev rfl)) rfl ?_; intro f h
  refine s_on h rfl rfl rfl ?_
  refine s_load_row 0 h s row35 rfl rfl (rfl) rfl ?_; intro f h
  refine s_on h rfl rfl rfl ?_
  refine s_pure h (ru_build_lt sttL (h.ev rfl) (h.ev rfl) (h.ev rfl) (h.ev rfl)) rfl ?_; intro f h
  refine s_on h rfl rfl rfl ?_
  refine s_pure h (ru_val (.bool true) (ru_eqlW (eqL _ _) (by kernel_rfl) (by decide) (h.ev rfl) (h.ev rfl) (decide (atL zA 0 = (1, 1, 17, ⟨#[120]⟩))) (ltEq _ _)) (congrArg Value.bool (decide_eq_true (alive2)))) rfl ?_; intro f h
  refine s_pure h (ru_pick_t (h.ev rfl) (h.ev rfl)) rfl ?_; intro f h
  refine s_pure h (ru_assign (h.ev rfl)) rfl ?_; intro f h
  refine s_nil ?_
  refine hK4 _ _ ?_
  refine wpIn_ret ?_
  exact e_tmp rfl h s rfl (rfl)
end Go.Proofs.Ytbgkoikpdhecfaa
