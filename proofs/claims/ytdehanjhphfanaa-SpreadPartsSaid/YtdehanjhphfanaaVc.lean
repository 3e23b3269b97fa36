/- Where a packet comes to in the end, by the reference. -/
import Derived.Test.YtdehanjhphfanaaVb
set_option linter.unusedVariables false
set_option linter.unusedSimpArgs false
set_option linter.unusedSectionVars false
namespace Go.Proofs.Ytdehanjhphfanaa
open Go.RowKit
theorem rlinks_any (t : List Tg) (vh : Value) (w : World) (hR : RdZ w vh 67 t.length (tgCells t)) (hln : t.length ≤ 1000) : Calls Try.prog 14 [vh].toArray w (Ret w (fun v w' => Owns w' w.heap.size 44 64 v (lnkT t).length (lCells (lnkT t)))) := by
  refine c_enter Try.func14 rfl Try.ntmps14 rfl [(0, vh)] (by simp) fun f h => ?_
  have s := St.start w
  refine c_seq fun K1 hK1 => ?_
  refine c_region ?_
  refine s_pure h (ru_assign (h.ev rfl)) rfl ?_; intro f h
  refine s_nil ?_
  refine hK1 _ _ ?_
  refine c_seq fun K2 hK2 => ?_
  refine c_region ?_
  refine s_bslice (vs := []) [] h s Try.underlying34 elm44 rfl rfl (by simp) rfl rfl rfl ?_; intro f w1 v6 h s
  replace s := s.resl (m := (lnkK t 0).length) (ys := lCells (lnkK t 0)) 0 rfl rfl rfl
  refine s_pure h (ru_assign (h.ev rfl)) rfl ?_; intro f h
  refine s_nil ?_
  refine hK2 _ _ ?_
  refine c_seq fun K3 hK3 => ?_
  refine c_seq fun K4 hK4 => ?_
  refine c_region ?_
  refine s_pure h (ru_move (h.ev rfl)) rfl ?_; intro f h
  refine s_pure h (ru_lenZ (hR.keep s.ext) Try.underlying22 (h.ev rfl)) rfl ?_; intro f h
  refine s_pure h (ru_move (h.ev rfl)) rfl ?_; intro f h
  refine s_nil ?_
  refine hK4 _ _ ?_
  refine wpIn_block ?_
  refine wpIn_loop_ghost (fun nn aa ww => ∃ k : Nat, ∃ vb : Value, Sl 28 aa [(0, vh), (3, vb), (7, vh), (8, .int .i64 (t.length : Int)), (9, .int .i64 (k : Int))] ∧ St w [.sl vb 44 64 (lnkK t k).length (lCells (lnkK t k))] ww ∧ nn = t.length - k ∧ k ≤ t.length) (t.length - (0)) ⟨0, v6, h.only ⟨rfl, rfl, rfl, rfl, slot_int rfl (by omega), trivial⟩, s.as ⟨rfl, trivial⟩, rfl, Nat.zero_le _⟩ ?_
  rintro _ f w1 ⟨k, vb, h, s, hnn, hp0⟩
  refine c_seq fun K5 hK5 => ?_
  refine c_region ?_
  refine s_pure h (ru_lss (h.ev rfl) (h.ev rfl)) rfl ?_; intro f h
  refine s_nil ?_
  refine hK5 _ _ ?_
  refine c_seq fun K6 hK6 => ?_
  refine c_cond h rfl (fun hc => ?_) (fun hc => ?_)
  · replace hc := of_decide_eq_true hc
    refine wpIn_skip ?_
    refine hK6 _ _ ?_
    refine c_seq fun K7 hK7 => ?_
    refine wpIn_block ?_
    refine c_seq fun K8 hK8 => ?_
    refine c_region ?_
    have hkt : k < t.length := by omega
    refine s_pure h (ru_ixz (hR.keep s.ext) (k) Try.underlying22 szo58 (h.ev rfl) (h.ev rfl) (by omega) (by omega)) rfl ?_; intro f h
    refine s_load_at ((hR.keep s.ext).el (k) (by omega) (by decide) (D := tgArr (t.getD k zTg)) (tgr_el t k hkt)) h row58 rfl (tgArr_size _) rfl ?_; intro f h
    refine s_alloc (tgArr zTg) h s zero58 rfl rfl ?_; intro f w1 b5 h s
    refine s_store_row 0 h s row58 rfl rfl rfl (tgArr_size _) (tgArr_size _) (tgArr_ones _) ?_; intro w1 s
    refine s_nil ?_
    refine hK8 _ _ ?_
    refine c_seq fun K9 hK9 => ?_
    refine c_region ?_
    refine s_pure h (ru_field fld58_1 (h.ev rfl)) rfl ?_; intro f h
    refine s_pure h (ru_field fld53_0 (h.ev rfl)) rfl ?_; intro f h
    refine s_load_at1 (cell_of_has (Has.of_own s 0 rfl) 32 (tgArr_kind _)) h one3 rfl rfl ?_; intro f h
    refine s_pure h (ru_eql (h.ev rfl) (h.ev rfl)) rfl ?_; intro f h
    refine s_nil ?_
    refine hK9 _ _ ?_
    refine c_cond h rfl (fun hc => ?_) (fun hc => ?_)
    · have c0 := hc
      refine c_region ?_
      refine s_pure h (ru_move (h.ev rfl)) rfl ?_; intro f h
      refine s_pure h (ru_field fld58_0 (h.ev rfl)) rfl ?_; intro f h
      refine s_load_at (Has.subL (Has.of_own s 0 rfl) 0 32 (D := idArr (_)) (tgArr_id _)) h row42 rfl (by first | exact idArr_size _ | exact bytesF_size _ _) rfl ?_; intro f h
      refine s_pure h (ru_field fld58_1 (h.ev rfl)) rfl ?_; intro f h
      refine s_pure h (ru_field fld53_1 (h.ev rfl)) rfl ?_; intro f h
      refine s_load_at (Has.subL (Has.of_own s 0 rfl) 33 32 (D := idArr (_)) (tgArr_tid _)) h row42 rfl (by first | exact idArr_size _ | exact bytesF_size _ _) rfl ?_; intro f h
      refine s_pure h (ru_build_lk sttLk (h.ev rfl) (h.ev rfl)) rfl ?_; intro f h
      refine s_bslice (vs := [.agg (lArr ((t.getD k zTg).1, (t.getD k zTg).2.1.2.1))]) [.tmp 23] h s Try.underlying34 elm44 rfl rfl (lk_sz _) rfl rfl rfl ?_; intro f w1 v24 h s
      refine s_append 2 0 h s Try.underlying34 elm44 rfl rfl rfl rfl (by decide) (by rw [one_lk]; exact lArr_ones _) (by have h9 := lnkK_le t k; unfold maxLen; omega) (by have h9 := lnkK_le t k; omega) rfl ?_; intro f w1 v25 h s
      replace s := s.pick _ (List.sublist_cons_self _ _)
      replace s := s.resl (m := (lnkK t (k + 1)).length) (ys := lCells (lnkK t (k + 1))) 1 rfl (by rw [lnkK_y hkt c0, List.length_append]; rfl) (by rw [lnkK_y hkt c0, one_lk, lk_snoc])
      refine s_pure h (ru_assign (h.ev rfl)) rfl ?_; intro f h
      refine s_nil ?_
      refine b_norm ?_
      refine hK7 _ _ ?_
      refine c_region ?_
      refine s_pure h (ru_add (h.ev rfl) (h.ev rfl) (by omega)) rfl ?_; intro f h
      refine s_pure h (ru_move (h.ev rfl)) rfl ?_; intro f h
      refine s_nil ?_
      refine t_norm ?_
      exact ⟨_, by omega, ⟨k + 1, v25, h.only ⟨rfl, rfl, rfl, rfl, slot_int rfl (by omega), trivial⟩, St.as (s.pick _ (List.sublist_append_right [_] _)) ⟨rfl, trivial⟩, rfl, by omega⟩⟩
    · have c0 := hc
      refine wpIn_skip ?_
      refine b_norm ?_
      refine hK7 _ _ ?_
      refine c_region ?_
      refine s_pure h (ru_add (h.ev rfl) (h.ev rfl) (by omega)) rfl ?_; intro f h
      refine s_pure h (ru_move (h.ev rfl)) rfl ?_; intro f h
      refine s_nil ?_
      refine t_norm ?_
      exact ⟨_, by omega, ⟨k + 1, vb, h.only ⟨rfl, rfl, rfl, rfl, slot_int rfl (by omega), trivial⟩, St.as (s.pick _ (List.sublist_append_right [_] _)) ⟨sl_eq (by rw [lnkK_n hkt c0]) (by rw [lnkK_n hkt c0]), trivial⟩, rfl, by omega⟩⟩
  · replace hc := of_decide_eq_false hc
    refine wpIn_exit ?_
    refine t_exit ?_
    refine t_exit ?_
    refine b_exit ?_
    refine hK3 _ _ ?_
    refine c_seq fun K10 hK10 => ?_
    refine c_region ?_
    refine s_pure h (ru_move (h.ev rfl)) rfl ?_; intro f h
    refine s_pure h (ru_assign (h.ev rfl)) rfl ?_; intro f h
    refine s_nil ?_
    refine hK10 _ _ ?_
    refine wpIn_ret ?_
    exact e_tmp rfl h s rfl ((by have h9 := s.getSl 0 rfl; rw [show lnkK t k = lnkT t by unfold lnkK; rw [List.take_of_length_le (by omega)]] at h9; exact h9))

theorem rsames_any (x y : Sd) (va vb : Value) (w : World) (hX : RdZ w va 1 x.hosts.length (intC x.hosts)) (hY : RdZ w vb 1 y.hosts.length (intC y.hosts)) (hxl : x.hosts.length ≤ 100000) (hyl : y.hosts.length ≤ 100000) : Calls Try.prog 13 [.agg (ssArr va x.lost x.hops x.work), .agg (ssArr vb y.lost y.hops y.work)].toArray w (Ret w (is (.bool (decide (x = y))))) := by
  refine c_enter Try.func13 rfl Try.ntmps13 rfl [(0, .agg (ssArr va x.lost x.hops x.work)), (1, .agg (ssArr vb y.lost y.hops y.work))] (by simp) fun f h => ?_
  have s := St.start w
  refine c_seq fun K1 hK1 => ?_
  refine c_region ?_
  refine s_box (ssArr va x.lost x.hops x.work) h s rfl rfl rfl ?_; intro f w1 b2 h s
  refine s_box (ssArr vb y.lost y.hops y.work) h s rfl rfl rfl ?_; intro f w1 b3 h s
  refine s_pure h (ru_assign (h.ev rfl)) rfl ?_; intro f h
  refine s_nil ?_
  refine hK1 _ _ ?_
  refine c_seq fun K2 hK2 => ?_
  refine c_seq fun K3 hK3 => ?_
  cases l0 : (decide (x.hosts.length = y.hosts.length) : Bool)
  · skip
    refine c_region ?_
    refine s_pure h (ru_field fld30_0 (h.ev rfl)) rfl ?_; intro f h
    refine s_load_at1 (V := va) (cell_of_has (Has.of_own s 1 rfl) 0 (ss_v _ _ _ _)) h one28 rfl rfl ?_; intro f h
    refine s_pure h (ru_lenZ (hX.keep s.ext) Try.underlying28 (h.ev rfl)) rfl ?_; intro f h
    refine s_pure h (ru_field fld30_0 (h.ev rfl)) rfl ?_; intro f h
    refine s_load_at1 (V := vb) (cell_of_has (Has.of_own s 0 rfl) 0 (ss_v _ _ _ _)) h one28 rfl rfl ?_; intro f h
    refine s_pure h (ru_lenZ (hY.keep s.ext) Try.underlying28 (h.ev rfl)) rfl ?_; intro f h
    refine s_pure h (ru_val (.bool true) (ru_neq (h.ev rfl) (h.ev rfl)) (congrArg Value.bool (by have h9 := of_decide_eq_false l0; simp; omega))) rfl ?_; intro f h
    refine s_pure h (ru_move (h.ev rfl)) rfl ?_; intro f h
    refine s_off (b := false) h rfl rfl rfl rfl ?_; intro f h
    refine s_off (b := false) h rfl rfl rfl rfl ?_; intro f h
    refine s_off (b := false) h rfl rfl rfl rfl ?_; intro f h
    refine s_off (b := false) h rfl rfl rfl rfl ?_; intro f h
    refine s_off (b := false) h rfl rfl rfl rfl ?_; intro f h
    refine s_pure h (ru_pick_t (h.ev rfl) (h.ev rfl)) rfl ?_; intro f h
    refine s_pure h (ru_move (h.ev rfl)) rfl ?_; intro f h
    refine s_off (b := false) h rfl rfl rfl rfl ?_; intro f h
    refine s_off (b := false) h rfl rfl rfl rfl ?_; intro f h
    refine s_off (b := false) h rfl rfl rfl rfl ?_; intro f h
    refine s_off (b := false) h rfl rfl rfl rfl ?_; intro f h
    refine s_off (b := false) h rfl rfl rfl rfl ?_; intro f h
    refine s_pure h (ru_pick_t (h.ev rfl) (h.ev rfl)) rfl ?_; intro f h
    refine s_pure h (ru_move (h.ev rfl)) rfl ?_; intro f h
    refine s_off (b := false) h rfl rfl rfl rfl ?_; intro f h
    refine s_off (b := false) h rfl rfl rfl rfl ?_; intro f h
    refine s_off (b := false) h rfl rfl rfl rfl ?_; intro f h
    refine s_off (b := false) h rfl rfl rfl rfl ?_; intro f h
    refine s_off (b := false) h rfl rfl rfl rfl ?_; intro f h
    refine s_pure h (ru_pick_t (h.ev rfl) (h.ev rfl)) rfl ?_; intro f h
    refine s_nil ?_
    refine hK3 _ _ ?_
    refine wpIn_cond_true (h.ev rfl) ?_
    refine c_seq fun K4 hK4 => ?_
    refine c_region ?_
    refine s_pure h (ru_assign (h.ev rfl)) rfl ?_; intro f h
    refine s_nil ?_
    refine hK4 _ _ ?_
    refine wpIn_ret ?_
    refine t_ret ?_
    exact e_tmp rfl h s rfl (by show _ = _; rw [sd_no (·.hosts.length) l0])
  · skip
    cases l1 : (decide (x.lost = y.lost) : Bool)
    · skip
      refine c_region ?_
      refine s_pure h (ru_field fld30_0 (h.ev rfl)) rfl ?_; intro f h
      refine s_load_at1 (V := va) (cell_of_has (Has.of_own s 1 rfl) 0 (ss_v _ _ _ _)) h one28 rfl rfl ?_; intro f h
      refine s_pure h (ru_lenZ (hX.keep s.ext) Try.underlying28 (h.ev rfl)) rfl ?_; intro f h
      refine s_pure h (ru_field fld30_0 (h.ev rfl)) rfl ?_; intro f h
      refine s_load_at1 (V := vb) (cell_of_has (Has.of_own s 0 rfl) 0 (ss_v _ _ _ _)) h one28 rfl rfl ?_; intro f h
      refine s_pure h (ru_lenZ (hY.keep s.ext) Try.underlying28 (h.ev rfl)) rfl ?_; intro f h
      refine s_pure h (ru_val (.bool false) (ru_neq (h.ev rfl) (h.ev rfl)) (congrArg Value.bool (by have h9 := of_decide_eq_true l0; simp; omega))) rfl ?_; intro f h
      refine s_pure h (ru_move (h.ev rfl)) rfl ?_; intro f h
      refine s_on h rfl rfl rfl ?_
      refine s_pure h (ru_field fld30_1 (h.ev rfl)) rfl ?_; intro f h
      refine s_on h rfl rfl rfl ?_
      refine s_load_at1 (V := .int .i64 x.lost) (cell_of_has (Has.of_own s 1 rfl) 1 (ss_l _ _ _ _)) h one3 rfl rfl ?_; intro f h
      refine s_on h rfl rfl rfl ?_
      refine s_pure h (ru_field fld30_1 (h.ev rfl)) rfl ?_; intro f h
      refine s_on h rfl rfl rfl ?_
      refine s_load_at1 (V := .int .i64 y.lost) (cell_of_has (Has.of_own s 0 rfl) 1 (ss_l _ _ _ _)) h one3 rfl rfl ?_; intro f h
      refine s_on h rfl rfl rfl ?_
      refine s_pure h (ru_val (.bool true) (ru_neq (h.ev rfl) (h.ev rfl)) (congrArg Value.bool (by simpa using l1))) rfl ?_; intro f h
      refine s_pure h (ru_pick_f (h.ev rfl) (h.ev rfl)) rfl ?_; intro f h
      refine s_pure h (ru_move (h.ev rfl)) rfl ?_; intro f h
      refine s_off (b := false) h rfl rfl rfl rfl ?_; intro f h
      refine s_off (b := false) h rfl rfl rfl rfl ?_; intro f h
      refine s_off (b := false) h rfl rfl rfl rfl ?_; intro f h
      refine s_off (b := false) h rfl rfl rfl rfl ?_; intro f h
      refine s_off (b := false) h rfl rfl rfl rfl ?_; intro f h
      refine s_pure h (ru_pick_t (h.ev rfl) (h.ev rfl)) rfl ?_; intro f h
      refine s_pure h (ru_move (h.ev rfl)) rfl ?_; intro f h
      refine s_off (b := false) h rfl rfl rfl rfl ?_; intro f h
      refine s_off (b := false) h rfl rfl rfl rfl ?_; intro f h
      refine s_off (b := false) h rfl rfl rfl rfl ?_; intro f h
      refine s_off (b := false) h rfl rfl rfl rfl ?_; intro f h
      refine s_off (b := false) h rfl rfl rfl rfl ?_; intro f h
      refine s_pure h (ru_pick_t (h.ev rfl) (h.ev rfl)) rfl ?_; intro f h
      refine s_nil ?_
      refine hK3 _ _ ?_
      refine wpIn_cond_true (h.ev rfl) ?_
      refine c_seq fun K5 hK5 => ?_
      refine c_region ?_
      refine s_pure h (ru_assign (h.ev rfl)) rfl ?_; intro f h
      refine s_nil ?_
      refine hK5 _ _ ?_
      refine wpIn_ret ?_
      refine t_ret ?_
      exact e_tmp rfl h s rfl (by show _ = _; rw [sd_no (·.lost) l1])
    · skip
      cases l2 : (decide (x.hops = y.hops) : Bool)
      · skip
        refine c_region ?_
        refine s_pure h (ru_field fld30_0 (h.ev rfl)) rfl ?_; intro f h
        refine s_load_at1 (V := va) (cell_of_has (Has.of_own s 1 rfl) 0 (ss_v _ _ _ _)) h one28 rfl rfl ?_; intro f h
        refine s_pure h (ru_lenZ (hX.keep s.ext) Try.underlying28 (h.ev rfl)) rfl ?_; intro f h
        refine s_pure h (ru_field fld30_0 (h.ev rfl)) rfl ?_; intro f h
        refine s_load_at1 (V := vb) (cell_of_has (Has.of_own s 0 rfl) 0 (ss_v _ _ _ _)) h one28 rfl rfl ?_; intro f h
        refine s_pure h (ru_lenZ (hY.keep s.ext) Try.underlying28 (h.ev rfl)) rfl ?_; intro f h
        refine s_pure h (ru_val (.bool false) (ru_neq (h.ev rfl) (h.ev rfl)) (congrArg Value.bool (by have h9 := of_decide_eq_true l0; simp; omega))) rfl ?_; intro f h
        refine s_pure h (ru_move (h.ev rfl)) rfl ?_; intro f h
        refine s_on h rfl rfl rfl ?_
        refine s_pure h (ru_field fld30_1 (h.ev rfl)) rfl ?_; intro f h
        refine s_on h rfl rfl rfl ?_
        refine s_load_at1 (V := .int .i64 x.lost) (cell_of_has (Has.of_own s 1 rfl) 1 (ss_l _ _ _ _)) h one3 rfl rfl ?_; intro f h
        refine s_on h rfl rfl rfl ?_
        refine s_pure h (ru_field fld30_1 (h.ev rfl)) rfl ?_; intro f h
        refine s_on h rfl rfl rfl ?_
        refine s_load_at1 (V := .int .i64 y.lost) (cell_of_has (Has.of_own s 0 rfl) 1 (ss_l _ _ _ _)) h one3 rfl rfl ?_; intro f h
        refine s_on h rfl rfl rfl ?_
        refine s_pure h (ru_val (.bool false) (ru_neq (h.ev rfl) (h.ev rfl)) (congrArg Value.bool (by simpa using l1))) rfl ?_; intro f h
        refine s_pure h (ru_pick_f (h.ev rfl) (h.ev rfl)) rfl ?_; intro f h
        refine s_pure h (ru_move (h.ev rfl)) rfl ?_; intro f h
        refine s_on h rfl rfl rfl ?_
        refine s_pure h (ru_field fld30_2 (h.ev rfl)) rfl ?_; intro f h
        refine s_on h rfl rfl rfl ?_
        refine s_load_at1 (V := .int .i64 x.hops) (cell_of_has (Has.of_own s 1 rfl) 2 (ss_h _ _ _ _)) h one3 rfl rfl ?_; intro f h
        refine s_on h rfl rfl rfl ?_
        refine s_pure h (ru_field fld30_2 (h.ev rfl)) rfl ?_; intro f h
        refine s_on h rfl rfl rfl ?_
        refine s_load_at1 (V := .int .i64 y.hops) (cell_of_has (Has.of_own s 0 rfl) 2 (ss_h _ _ _ _)) h one3 rfl rfl ?_; intro f h
        refine s_on h rfl rfl rfl ?_
        refine s_pure h (ru_val (.bool true) (ru_neq (h.ev rfl) (h.ev rfl)) (congrArg Value.bool (by simpa using l2))) rfl ?_; intro f h
        refine s_pure h (ru_pick_f (h.ev rfl) (h.ev rfl)) rfl ?_; intro f h
        refine s_pure h (ru_move (h.ev rfl)) rfl ?_; intro f h
        refine s_off (b := false) h rfl rfl rfl rfl ?_; intro f h
        refine s_off (b := false) h rfl rfl rfl rfl ?_; intro f h
        refine s_off (b := false) h rfl rfl rfl rfl ?_; intro f h
        refine s_off (b := false) h rfl rfl rfl rfl ?_; intro f h
        refine s_off (b := false) h rfl rfl rfl rfl ?_; intro f h
        refine s_pure h (ru_pick_t (h.ev rfl) (h.ev rfl)) rfl ?_; intro f h
        refine s_nil ?_
        refine hK3 _ _ ?_
        refine wpIn_cond_true (h.ev rfl) ?_
        refine c_seq fun K6 hK6 => ?_
        refine c_region ?_
        refine s_pure h (ru_assign (h.ev rfl)) rfl ?_; intro f h
        refine s_nil ?_
        refine hK6 _ _ ?_
        refine wpIn_ret ?_
        refine t_ret ?_
        exact e_tmp rfl h s rfl (by show _ = _; rw [sd_no (·.hops) l2])
      · skip
        cases l3 : (decide (x.work = y.work) : Bool)
        · skip
          refine c_region ?_
          refine s_pure h (ru_field fld30_0 (h.ev rfl)) rfl ?_; intro f h
          refine s_load_at1 (V := va) (cell_of_has (Has.of_own s 1 rfl) 0 (ss_v _ _ _ _)) h one28 rfl rfl ?_; intro f h
          refine s_pure h (ru_lenZ (hX.keep s.ext) Try.underlying28 (h.ev rfl)) rfl ?_; intro f h
          refine s_pure h (ru_field fld30_0 (h.ev rfl)) rfl ?_; intro f h
          refine s_load_at1 (V := vb) (cell_of_has (Has.of_own s 0 rfl) 0 (ss_v _ _ _ _)) h one28 rfl rfl ?_; intro f h
          refine s_pure h (ru_lenZ (hY.keep s.ext) Try.underlying28 (h.ev rfl)) rfl ?_; intro f h
          refine s_pure h (ru_val (.bool false) (ru_neq (h.ev rfl) (h.ev rfl)) (congrArg Value.bool (by have h9 := of_decide_eq_true l0; simp; omega))) rfl ?_; intro f h
          refine s_pure h (ru_move (h.ev rfl)) rfl ?_; intro f h
          refine s_on h rfl rfl rfl ?_
          refine s_pure h (ru_field fld30_1 (h.ev rfl)) rfl ?_; intro f h
          refine s_on h rfl rfl rfl ?_
          refine s_load_at1 (V := .int .i64 x.lost) (cell_of_has (Has.of_own s 1 rfl) 1 (ss_l _ _ _ _)) h one3 rfl rfl ?_; intro f h
          refine s_on h rfl rfl rfl ?_
          refine s_pure h (ru_field fld30_1 (h.ev rfl)) rfl ?_; intro f h
          refine s_on h rfl rfl rfl ?_
          refine s_load_at1 (V := .int .i64 y.lost) (cell_of_has (Has.of_own s 0 rfl) 1 (ss_l _ _ _ _)) h one3 rfl rfl ?_; intro f h
          refine s_on h rfl rfl rfl ?_
          refine s_pure h (ru_val (.bool false) (ru_neq (h.ev rfl) (h.ev rfl)) (congrArg Value.bool (by simpa using l1))) rfl ?_; intro f h
          refine s_pure h (ru_pick_f (h.ev rfl) (h.ev rfl)) rfl ?_; intro f h
          refine s_pure h (ru_move (h.ev rfl)) rfl ?_; intro f h
          refine s_on h rfl rfl rfl ?_
          refine s_pure h (ru_field fld30_2 (h.ev rfl)) rfl ?_; intro f h
          refine s_on h rfl rfl rfl ?_
          refine s_load_at1 (V := .int .i64 x.hops) (cell_of_has (Has.of_own s 1 rfl) 2 (ss_h _ _ _ _)) h one3 rfl rfl ?_; intro f h
          refine s_on h rfl rfl rfl ?_
          refine s_pure h (ru_field fld30_2 (h.ev rfl)) rfl ?_; intro f h
          refine s_on h rfl rfl rfl ?_
          refine s_load_at1 (V := .int .i64 y.hops) (cell_of_has (Has.of_own s 0 rfl) 2 (ss_h _ _ _ _)) h one3 rfl rfl ?_; intro f h
          refine s_on h rfl rfl rfl ?_
          refine s_pure h (ru_val (.bool false) (ru_neq (h.ev rfl) (h.ev rfl)) (congrArg Value.bool (by simpa using l2))) rfl ?_; intro f h
          refine s_pure h (ru_pick_f (h.ev rfl) (h.ev rfl)) rfl ?_; intro f h
          refine s_pure h (ru_move (h.ev rfl)) rfl ?_; intro f h
          refine s_on h rfl rfl rfl ?_
          refine s_pure h (ru_field fld30_3 (h.ev rfl)) rfl ?_; intro f h
          refine s_on h rfl rfl rfl ?_
          refine s_load_at1 (V := .int .i64 x.work) (cell_of_has (Has.of_own s 1 rfl) 3 (ss_k _ _ _ _)) h one3 rfl rfl ?_; intro f h
          refine s_on h rfl rfl rfl ?_
          refine s_pure h (ru_field fld30_3 (h.ev rfl)) rfl ?_; intro f h
          refine s_on h rfl rfl rfl ?_
          refine s_load_at1 (V := .int .i64 y.work) (cell_of_has (Has.of_own s 0 rfl) 3 (ss_k _ _ _ _)) h one3 rfl rfl ?_; intro f h
          refine s_on h rfl rfl rfl ?_
          refine s_pure h (ru_val (.bool true) (ru_neq (h.ev rfl) (h.ev rfl)) (congrArg Value.bool (by simpa using l3))) rfl ?_; intro f h
          refine s_pure h (ru_pick_f (h.ev rfl) (h.ev rfl)) rfl ?_; intro f h
          refine s_nil ?_
          refine hK3 _ _ ?_
          refine wpIn_cond_true (h.ev rfl) ?_
          refine c_seq fun K7 hK7 => ?_
          refine c_region ?_
          refine s_pure h (ru_assign (h.ev rfl)) rfl ?_; intro f h
          refine s_nil ?_
          refine hK7 _ _ ?_
          refine wpIn_ret ?_
          refine t_ret ?_
          exact e_tmp rfl h s rfl (by show _ = _; rw [sd_no (·.work) l3])
        · skip
          refine c_region ?_
          refine s_pure h (ru_field fld30_0 (h.ev rfl)) rfl ?_; intro f h
          refine s_load_at1 (V := va) (cell_of_has (Has.of_own s 1 rfl) 0 (ss_v _ _ _ _)) h one28 rfl rfl ?_; intro f h
          refine s_pure h (ru_lenZ (hX.keep s.ext) Try.underlying28 (h.ev rfl)) rfl ?_; intro f h
          refine s_pure h (ru_field fld30_0 (h.ev rfl)) rfl ?_; intro f h
          refine s_load_at1 (V := vb) (cell_of_has (Has.of_own s 0 rfl) 0 (ss_v _ _ _ _)) h one28 rfl rfl ?_; intro f h
          refine s_pure h (ru_lenZ (hY.keep s.ext) Try.underlying28 (h.ev rfl)) rfl ?_; intro f h
          refine s_pure h (ru_val (.bool false) (ru_neq (h.ev rfl) (h.ev rfl)) (congrArg Value.bool (by have h9 := of_decide_eq_true l0; simp; omega))) rfl ?_; intro f h
          refine s_pure h (ru_move (h.ev rfl)) rfl ?_; intro f h
          refine s_on h rfl rfl rfl ?_
          refine s_pure h (ru_field fld30_1 (h.ev rfl)) rfl ?_; intro f h
          refine s_on h rfl rfl rfl ?_
          refine s_load_at1 (V := .int .i64 x.lost) (cell_of_has (Has.of_own s 1 rfl) 1 (ss_l _ _ _ _)) h one3 rfl rfl ?_; intro f h
          refine s_on h rfl rfl rfl ?_
          refine s_pure h (ru_field fld30_1 (h.ev rfl)) rfl ?_; intro f h
          refine s_on h rfl rfl rfl ?_
          refine s_load_at1 (V := .int .i64 y.lost) (cell_of_has (Has.of_own s 0 rfl) 1 (ss_l _ _ _ _)) h one3 rfl rfl ?_; intro f h
          refine s_on h rfl rfl rfl ?_
          refine s_pure h (ru_val (.bool false) (ru_neq (h.ev rfl) (h.ev rfl)) (congrArg Value.bool (by simpa using l1))) rfl ?_; intro f h
          refine s_pure h (ru_pick_f (h.ev rfl) (h.ev rfl)) rfl ?_; intro f h
          refine s_pure h (ru_move (h.ev rfl)) rfl ?_; intro f h
          refine s_on h rfl rfl rfl ?_
          refine s_pure h (ru_field fld30_2 (h.ev rfl)) rfl ?_; intro f h
          refine s_on h rfl rfl rfl ?_
          refine s_load_at1 (V := .int .i64 x.hops) (cell_of_has (Has.of_own s 1 rfl) 2 (ss_h _ _ _ _)) h one3 rfl rfl ?_; intro f h
          refine s_on h rfl rfl rfl ?_
          refine s_pure h (ru_field fld30_2 (h.ev rfl)) rfl ?_; intro f h
          refine s_on h rfl rfl rfl ?_
          refine s_load_at1 (V := .int .i64 y.hops) (cell_of_has (Has.of_own s 0 rfl) 2 (ss_h _ _ _ _)) h one3 rfl rfl ?_; intro f h
          refine s_on h rfl rfl rfl ?_
          refine s_pure h (ru_val (.bool false) (ru_neq (h.ev rfl) (h.ev rfl)) (congrArg Value.bool (by simpa using l2))) rfl ?_; intro f h
          refine s_pure h (ru_pick_f (h.ev rfl) (h.ev rfl)) rfl ?_; intro f h
          refine s_pure h (ru_move (h.ev rfl)) rfl ?_; intro f h
          refine s_on h rfl rfl rfl ?_
          refine s_pure h (ru_field fld30_3 (h.ev rfl)) rfl ?_; intro f h
          refine s_on h rfl rfl rfl ?_
          refine s_load_at1 (V := .int .i64 x.work) (cell_of_has (Has.of_own s 1 rfl) 3 (ss_k _ _ _ _)) h one3 rfl rfl ?_; intro f h
          refine s_on h rfl rfl rfl ?_
          refine s_pure h (ru_field fld30_3 (h.ev rfl)) rfl ?_; intro f h
          refine s_on h rfl rfl rfl ?_
          refine s_load_at1 (V := .int .i64 y.work) (cell_of_has (Has.of_own s 0 rfl) 3 (ss_k _ _ _ _)) h one3 rfl rfl ?_; intro f h
          refine s_on h rfl rfl rfl ?_
          refine s_pure h (ru_val (.bool false) (ru_neq (h.ev rfl) (h.ev rfl)) (congrArg Value.bool (by simpa using l3))) rfl ?_; intro f h
          refine s_pure h (ru_pick_f (h.ev rfl) (h.ev rfl)) rfl ?_; intro f h
          refine s_nil ?_
          refine hK3 _ _ ?_
          refine wpIn_cond_false (h.ev rfl) ?_
          refine wpIn_skip ?_
          refine hK2 _ _ ?_
          refine c_seq fun K8 hK8 => ?_
          refine c_seq fun K9 hK9 => ?_
          refine c_region ?_
          refine s_pure h (ru_field fld30_0 (h.ev rfl)) rfl ?_; intro f h
          refine s_load_at1 (V := va) (cell_of_has (Has.of_own s 1 rfl) 0 (ss_v _ _ _ _)) h one28 rfl rfl ?_; intro f h
          refine s_pure h (ru_lenZ (hX.keep s.ext) Try.underlying28 (h.ev rfl)) rfl ?_; intro f h
          refine s_pure h (ru_move (h.ev rfl)) rfl ?_; intro f h
          refine s_nil ?_
          refine hK9 _ _ ?_
          refine wpIn_block ?_
          refine wpIn_loop_ghost (fun nn aa ww => ∃ k : Nat, Sl 52 aa [(0, .agg (ssArr va x.lost x.hops x.work)), (1, .agg (ssArr vb y.lost y.hops y.work)), (2, .pointer (some ⟨b2, 0, none⟩)), (3, .pointer (some ⟨b3, 0, none⟩)), (36, .int .i64 (x.hosts.length : Int)), (37, .int .i64 (k : Int))] ∧ St w [.blk b3 (.cells (ssArr vb y.lost y.hops y.work) 30), .blk b2 (.cells (ssArr va x.lost x.hops x.work) 30)] ww ∧ nn = x.hosts.length - k ∧ k ≤ x.hosts.length ∧ ∀ j, j < k → x.hosts.getD j 0 = y.hosts.getD j 0) (x.hosts.length - (0)) ⟨0, h.only ⟨rfl, rfl, rfl, rfl, rfl, slot_int rfl (by omega), trivial⟩, s.as ⟨rfl, rfl, trivial⟩, rfl, Nat.zero_le _, fun j hj => absurd hj (Nat.not_lt_zero _)⟩ ?_
          rintro _ f w1 ⟨k, h, s, hnn, hp0, hp1⟩
          refine c_seq fun K10 hK10 => ?_
          refine c_region ?_
          refine s_pure h (ru_lss (h.ev rfl) (h.ev rfl)) rfl ?_; intro f h
          refine s_nil ?_
          refine hK10 _ _ ?_
          refine c_seq fun K11 hK11 => ?_
          refine c_cond h rfl (fun hc => ?_) (fun hc => ?_)
          · replace hc := of_decide_eq_true hc
            refine wpIn_skip ?_
            refine hK11 _ _ ?_
            refine c_seq fun K12 hK12 => ?_
            refine wpIn_block ?_
            refine c_seq fun K13 hK13 => ?_
            refine c_region ?_
            have hkx : k < x.hosts.length := by omega
            have hky : k < y.hosts.length := by have := of_decide_eq_true l0; omega
            refine s_pure h (ru_move (h.ev rfl)) rfl ?_; intro f h
            refine s_pure h (ru_assign (h.ev rfl)) rfl ?_; intro f h
            refine s_nil ?_
            refine hK13 _ _ ?_
            refine c_seq fun K14 hK14 => ?_
            cases q0 : (decide (x.hosts.getD k 0 = y.hosts.getD k 0) : Bool)
            · skip
              refine c_walkN 11 [[], [0], [], [0, 1, 2], [0, 1, 2, 3], [], [5], [], [5, 6, 7], [5, 6, 7, 8], [0, 1, 2, 3, 4, 5, 6, 7, 8, 9]] h (by kernel_rfl) (by kernel_rfl) (by kernel_rfl) ?_
              refine w_pure h (ru_field fld30_0 (h.ev rfl)) rfl ?_; intro f h
              refine w_load_at1 (V := va) (cell_of_has (Has.of_own s 1 rfl) 0 (ss_v _ _ _ _)) h one28 rfl rfl ?_; intro f h
              refine w_pure h (ru_move (h.ev rfl)) rfl ?_; intro f h
              refine w_pure h (ru_ixz (hX.keep s.ext) (k) Try.underlying28 szo3 (h.ev rfl) (h.ev rfl) (by omega) (by omega)) rfl ?_; intro f h
              refine w_load_at1 ((hX.keep s.ext).el1 (k) (V := .int .i64 (x.hosts.getD k 0)) (int_at hkx)) h one3 rfl rfl ?_; intro f h
              refine w_pure h (ru_field fld30_0 (h.ev rfl)) rfl ?_; intro f h
              refine w_load_at1 (V := vb) (cell_of_has (Has.of_own s 0 rfl) 0 (ss_v _ _ _ _)) h one28 rfl rfl ?_; intro f h
              refine w_pure h (ru_move (h.ev rfl)) rfl ?_; intro f h
              refine w_pure h (ru_ixz (hY.keep s.ext) (k) Try.underlying28 szo3 (h.ev rfl) (h.ev rfl) (by omega) (by omega)) rfl ?_; intro f h
              refine w_load_at1 ((hY.keep s.ext).el1 (k) (V := .int .i64 (y.hosts.getD k 0)) (int_at hky)) h one3 rfl rfl ?_; intro f h
              refine w_pure h (ru_val (.bool true) (ru_neq (h.ev rfl) (h.ev rfl)) (congrArg Value.bool (by simpa using q0))) rfl ?_; intro f h
              refine w_nil s fun w1 s => ?_
              refine s_nil ?_
              refine hK14 _ _ ?_
              refine wpIn_cond_true (h.ev rfl) ?_
              refine c_seq fun K15 hK15 => ?_
              refine c_region ?_
              refine s_pure h (ru_assign (h.ev rfl)) rfl ?_; intro f h
              refine s_nil ?_
              refine hK15 _ _ ?_
              refine wpIn_ret ?_
              refine b_ret ?_
              refine t_ret ?_
              refine t_ret ?_
              refine b_ret ?_
              refine t_ret ?_
              exact e_tmp rfl h s rfl (by show _ = _; rw [sd_nk (of_decide_eq_false q0)])
            · skip
              refine c_walkN 11 [[], [0], [], [0, 1, 2], [0, 1, 2, 3], [], [5], [], [5, 6, 7], [5, 6, 7, 8], [0, 1, 2, 3, 4, 5, 6, 7, 8, 9]] h (by kernel_rfl) (by kernel_rfl) (by kernel_rfl) ?_
              refine w_pure h (ru_field fld30_0 (h.ev rfl)) rfl ?_; intro f h
              refine w_load_at1 (V := va) (cell_of_has (Has.of_own s 1 rfl) 0 (ss_v _ _ _ _)) h one28 rfl rfl ?_; intro f h
              refine w_pure h (ru_move (h.ev rfl)) rfl ?_; intro f h
              refine w_pure h (ru_ixz (hX.keep s.ext) (k) Try.underlying28 szo3 (h.ev rfl) (h.ev rfl) (by omega) (by omega)) rfl ?_; intro f h
              refine w_load_at1 ((hX.keep s.ext).el1 (k) (V := .int .i64 (x.hosts.getD k 0)) (int_at hkx)) h one3 rfl rfl ?_; intro f h
              refine w_pure h (ru_field fld30_0 (h.ev rfl)) rfl ?_; intro f h
              refine w_load_at1 (V := vb) (cell_of_has (Has.of_own s 0 rfl) 0 (ss_v _ _ _ _)) h one28 rfl rfl ?_; intro f h
              refine w_pure h (ru_move (h.ev rfl)) rfl ?_; intro f h
              refine w_pure h (ru_ixz (hY.keep s.ext) (k) Try.underlying28 szo3 (h.ev rfl) (h.ev rfl) (by omega) (by omega)) rfl ?_; intro f h
              refine w_load_at1 ((hY.keep s.ext).el1 (k) (V := .int .i64 (y.hosts.getD k 0)) (int_at hky)) h one3 rfl rfl ?_; intro f h
              refine w_pure h (ru_val (.bool false) (ru_neq (h.ev rfl) (h.ev rfl)) (congrArg Value.bool (by simpa using q0))) rfl ?_; intro f h
              refine w_nil s fun w1 s => ?_
              refine s_nil ?_
              refine hK14 _ _ ?_
              refine wpIn_cond_false (h.ev rfl) ?_
              refine wpIn_skip ?_
              refine b_norm ?_
              refine hK12 _ _ ?_
              refine c_region ?_
              refine s_pure h (ru_add (h.ev rfl) (h.ev rfl) (by omega)) rfl ?_; intro f h
              refine s_pure h (ru_move (h.ev rfl)) rfl ?_; intro f h
              refine s_nil ?_
              refine t_norm ?_
              exact ⟨_, by omega, ⟨k + 1, h.only ⟨rfl, rfl, rfl, rfl, rfl, slot_int rfl (by omega), trivial⟩, St.as s ⟨rfl, rfl, trivial⟩, rfl, by omega, int_next hp1 (of_decide_eq_true q0)⟩⟩
          · replace hc := of_decide_eq_false hc
            refine wpIn_exit ?_
            refine t_exit ?_
            refine t_exit ?_
            refine b_exit ?_
            refine hK8 _ _ ?_
            refine c_seq fun K16 hK16 => ?_
            refine c_region ?_
            refine s_pure h (ru_assign (h.ev rfl)) rfl ?_; intro f h
            refine s_nil ?_
            refine hK16 _ _ ?_
            refine wpIn_ret ?_
            exact e_tmp rfl h s rfl (by show _ = _; rw [sd_yes (of_decide_eq_true l0) (of_decide_eq_true l1) (of_decide_eq_true l2) (of_decide_eq_true l3) (fun j hj => hp1 j (by omega))])

set_option maxHeartbeats 2000000 in
theorem rgo_step (n : Nat) (t : List Tg) (vh : Value) (p : Pk) (vs : Value) (c : Cn) (vo : Value) (B9 : List Own) (w0 w : World) (s : St w0 (.sl vo 3 1 16 (hsC c) :: B9) w) (hR : RdZ w0 vh 67 t.length (tgCells t)) (hln : t.length ≤ 1000) (hr9 : rightT t = true) (hP : ∀ (A9 : List Own) (w9 : World), St w0 (A9 ++ B9) w9 → RdE w9 vs p.1) (hr : rightP p = true) (hn : p.2.1 < (n : Int) + 1) (hc9 : COk c) (ih : ∀ (p : Pk) (vs : Value) (c : Cn) (B9 : List Own) (w : World), St w0 (.sl vo 3 1 16 (hsC c) :: B9) w → (∀ (A9 : List Own) (w9 : World), St w0 (A9 ++ B9) w9 → RdE w9 vs p.1) → rightP p = true → p.2.1 < (n : Int) → COk c → Calls Try.prog 31 [.agg (ssArr vo (c.lost : Int) (c.hops : Int) (c.work : Int)), vh, .agg (pkArr vs p.2.1 p.2.2)].toArray w (fun e w9 => ∃ r, e = .returned r ∧ r = .agg (ssArr vo ((goF t n c p).lost : Int) ((goF t n c p).hops : Int) ((goF t n c p).work : Int)) ∧ St w0 (.sl vo 3 1 16 (hsC (goF t n c p)) :: B9) w9)) : Calls Try.prog 31 [.agg (ssArr vo (c.lost : Int) (c.hops : Int) (c.work : Int)), vh, .agg (pkArr vs p.2.1 p.2.2)].toArray w (fun e w9 => ∃ r, e = .returned r ∧ r = .agg (ssArr vo ((goF t (n + 1) c p).lost : Int) ((goF t (n + 1) c p).hops : Int) ((goF t (n + 1) c p).work : Int)) ∧ St w0 (.sl vo 3 1 16 (hsC (goF t (n + 1) c p)) :: B9) w9) := by
  refine c_enterF Try.func31 rfl Try.ntmps31 rfl [(0, .agg (ssArr vo (c.lost : Int) (c.hops : Int) (c.work : Int))), (1, vh), (2, .agg (pkArr vs p.2.1 p.2.2))] (by simp) fun f h => ?_
  refine c_seq fun K1 hK1 => ?_
  refine c_region ?_
  refine s_box (ssArr vo (c.lost : Int) (c.hops : Int) (c.work : Int)) h s rfl rfl rfl ?_; intro f w1 b3 h s
  refine s_box (pkArr vs p.2.1 p.2.2) h s rfl rfl rfl ?_; intro f w1 b5 h s
  refine s_alloc (ssArr nilV 0 0 0) h s zero79 rfl rfl ?_; intro f w1 b6 h s
  refine s_nil ?_
  refine hK1 _ _ ?_
  refine c_seq fun K2 hK2 => ?_
  refine c_seq fun K3 hK3 => ?_
  refine c_region ?_
  refine s_pure h (ru_field fld79_3 (h.ev rfl)) rfl ?_; intro f h
  refine s_load_at1 (V := .int .i64 (c.work : Int)) (cell_of_has (Has.of_own s 2 rfl) 3 (ss_k _ _ _ _)) h one3 rfl rfl ?_; intro f h
  refine s_pure h (ru_gtr (h.ev rfl) (h.ev rfl)) rfl ?_; intro f h
  refine s_nil ?_
  refine hK3 _ _ ?_
  refine c_cond h rfl (fun hc => ?_) (fun hc => ?_)
  · have hw : 1000 < c.work := by have := of_decide_eq_true hc; omega
    refine c_seq fun K4 hK4 => ?_
    refine c_region ?_
    refine s_load_row 2 h s row79 rfl rfl (ssArr_size _ _ _ _) rfl ?_; intro f h
    refine s_store_row 0 h s row79 rfl rfl rfl (ssArr_size _ _ _ _) (ssArr_size _ _ _ _) (ssArr_ones _ _ _ (own_one (s.getSl 3 rfl))) ?_; intro w1 s
    refine s_nil ?_
    refine hK4 _ _ ?_
    refine wpIn_ret ?_
    refine t_ret ?_
    exact e_rowF 0 rfl h s row79 rfl rfl (ssArr_size _ _ _ _) (⟨_, rfl, by rw [go_big hw], by rw [go_big hw]; exact s.pick _ (List.sublist_append_right [_, _, _] _)⟩)
  · have hw : ¬ 1000 < c.work := fun e9 => of_decide_eq_false hc (by omega)
    refine wpIn_skip ?_
    refine hK2 _ _ ?_
    refine c_seq fun K5 hK5 => ?_
    refine c_region ?_
    refine s_pure h (ru_field fld79_3 (h.ev rfl)) rfl ?_; intro f h
    refine s_load_at1 (V := .int .i64 (c.work : Int)) (cell_of_has (Has.of_own s 2 rfl) 3 (ss_k _ _ _ _)) h one3 rfl rfl ?_; intro f h
    have hwk := hc9.work
    refine s_pure h (ru_add (h.ev rfl) (h.ev rfl) (by omega)) rfl ?_; intro f h
    refine s_pure h (ru_field fld79_3 (h.ev rfl)) rfl ?_; intro f h
    refine s_store_one 2 h s one3 rfl rfl rfl (by rw [ssArr_size]; omega) (rfl) ?_; intro w1 s
    replace s := s.recell (D := ssArr vo (c.lost : Int) (c.hops : Int) (((c.work : Int) + 1))) 2 rfl (rfl)
    refine s_nil ?_
    refine hK5 _ _ ?_
    refine c_seq fun K6 hK6 => ?_
    refine c_seq fun K7 hK7 => ?_
    refine c_region ?_
    obtain ⟨hr1, hr2, hr3, hr4⟩ := rightP_iff.1 hr
    refine s_pure h (ru_move (h.ev rfl)) rfl ?_; intro f h
    refine s_load_row 1 h s row25 rfl rfl (pkArr_size _ _ _) rfl ?_; intro f h
    refine s_call h s fnc58 (rstep_any t vh p vs _ (hR.keep s.ext) hln (hP [_, _, _, _] _ s) (by omega) hr1.1 ⟨hr2, hr3⟩) rfl rfl ?_; rintro f w1 v19 ⟨K, ks, hK, hG⟩ hE h sq; replace s := s.add hG; clear hG
    have hKb : K.length ≤ 1001 := by rw [← outs_len, hK]; have := (step_len (t := t) (p := p)).2; omega
    refine s_len_sl 0 h s Try.underlying67 rfl rfl rfl ?_; intro f h
    refine s_pure h (ru_move (h.ev rfl)) rfl ?_; intro f h
    refine s_nil ?_
    refine hK7 _ _ ?_
    refine wpIn_block ?_
    refine wpIn_loop_ghost (fun nn aa ww => ∃ k : Nat, Sl 61 aa [(0, .agg (ssArr vo (c.lost : Int) (c.hops : Int) (c.work : Int))), (2, .agg (pkArr vs p.2.1 p.2.2)), (3, .pointer (some ⟨b3, 0, none⟩)), (5, .pointer (some ⟨b5, 0, none⟩)), (6, .pointer (some ⟨b6, 0, none⟩)), (1, vh), (19, v19), (20, .int .i64 (K.length : Int)), (21, .int .i64 (k : Int))] ∧ St w0 (.sl v19 72 73 K.length (ouCells K) :: (.grp ks (fun w9 => RdE w9 vs p.1 → RwU K w9)) :: .blk b6 (.cells (ssArr nilV 0 0 0) 79) :: .blk b5 (.cells (pkArr vs p.2.1 p.2.2) 25) :: .blk b3 (.cells (ssArr vo ((goK t n c p k).lost : Int) ((goK t n c p k).hops : Int) ((goK t n c p k).work : Int)) 79) :: .sl vo 3 1 16 (hsC (goK t n c p k)) :: B9) ww ∧ nn = K.length - k ∧ k ≤ K.length) (K.length - (0)) ⟨0, h.only ⟨rfl, rfl, rfl, rfl, rfl, rfl, rfl, rfl, slot_int rfl (by omega), trivial⟩, s.as ⟨rfl, rfl, rfl, rfl, rfl, rfl, beq'_refl _⟩, rfl, Nat.zero_le _⟩ ?_
    rintro _ f w1 ⟨k, h, s, hnn, hp0⟩
    refine c_seq fun K8 hK8 => ?_
    refine c_region ?_
    refine s_pure h (ru_lss (h.ev rfl) (h.ev rfl)) rfl ?_; intro f h
    refine s_nil ?_
    refine hK8 _ _ ?_
    refine c_seq fun K9 hK9 => ?_
    refine c_cond h rfl (fun hc => ?_) (fun hc => ?_)
    · replace hc := of_decide_eq_true hc
      refine wpIn_skip ?_
      refine hK9 _ _ ?_
      refine c_seq fun K10 hK10 => ?_
      refine wpIn_block ?_
      refine c_seq fun K11 hK11 => ?_
      refine c_region ?_
      have hkl : k < K.length := by omega
      have hkr : k < (stepO t p).length := by rw [← hK, outs_len]; exact hkl
      have hxm := outs_mem hK hkl
      have hG1 := goK_x (n := n) (c := c) hK hkl
      have hgo := goK_ok (n := n) hc9 hw hkr
      have hg1 := hgo.work
      have hg2 := hgo.lost
      have hg3 := hgo.hops
      refine s_pure h (ru_ixz (RdZ.of_own (s.getSl 0 rfl)) (k) Try.underlying67 szo72 (h.ev rfl) (h.ev rfl) (by omega) (by omega)) rfl ?_; intro f h
      refine s_load_at ((RdZ.of_own (s.getSl 0 rfl)).el (k) (by omega) (by decide) (D := otArr (K.getD k zO2).1.k (K.getD k zO2).1.h (K.getD k zO2).2 (K.getD k zO2).1.p.2.1 (K.getD k zO2).1.p.2.2 (K.getD k zO2).1.t (K.getD k zO2).1.y) (ou_el K k hkl)) h row72 rfl (otArr_size _ _ _ _ _ _ _) rfl ?_; intro f h
      refine s_alloc (otArr 0 0 nilV 0 ByteArray.empty zTg 0) h s zero72 rfl rfl ?_; intro f w1 b8 h s
      refine s_store_row 0 h s row72 rfl rfl rfl (otArr_size _ _ _ _ _ _ _) (otArr_size _ _ _ _ _ _ _) (otArr_ones _ _ _ _ _ _ (rd_one (((s.getG 2 rfl) (hP [_, _, _, _, _, _, _] _ s) _ (ou_mem hkl))))) ?_; intro w1 s
      refine s_nil ?_
      refine hK11 _ _ ?_
      refine c_seq fun K12 hK12 => ?_
      refine c_region ?_
      refine s_pure h (ru_field fld72_0 (h.ev rfl)) rfl ?_; intro f h
      refine s_load_at1 (V := .int .i64 (K.getD k zO2).1.k) (cell_of_has (Has.of_own s 0 rfl) 0 (ot_k _ _ _ _ _ _ _)) h one3 rfl rfl ?_; intro f h
      refine s_pure h (ru_eql (h.ev rfl) (h.ev rfl)) rfl ?_; intro f h
      refine s_nil ?_
      refine hK12 _ _ ?_
      refine c_cond h rfl (fun hc => ?_) (fun hc => ?_)
      · have k1 := hc
        have hk1 := of_decide_eq_true hc
        obtain ⟨j1, j2⟩ := step_hostB hr hxm hk1
        refine c_walkN 12 [[], [0], [], [2], [], [4], [], [6], [4, 5, 6, 7], [4, 5, 6, 7, 8], [4, 5, 6, 7, 8, 9], [0, 1, 2, 3, 4, 5, 6, 7, 8, 9, 10]] h (by kernel_rfl) (by kernel_rfl) (by kernel_rfl) ?_
        refine w_pure h (ru_field fld79_0 (h.ev rfl)) rfl ?_; intro f h
        refine w_load_at1 (V := vo) (cell_of_has (Has.of_own s 5 rfl) 0 (ss_v _ _ _ _)) h one28 rfl rfl ?_; intro f h
        refine w_pure h (ru_field fld72_1 (h.ev rfl)) rfl ?_; intro f h
        refine w_load_at1 (V := .int .i64 (K.getD k zO2).1.h) (cell_of_has (Has.of_own s 0 rfl) 1 (ot_h _ _ _ _ _ _ _)) h one3 rfl rfl ?_; intro f h
        refine w_pure h (ru_field fld79_0 (h.ev rfl)) rfl ?_; intro f h
        refine w_load_at1 (V := vo) (cell_of_has (Has.of_own s 5 rfl) 0 (ss_v _ _ _ _)) h one28 rfl rfl ?_; intro f h
        refine w_pure h (ru_field fld72_1 (h.ev rfl)) rfl ?_; intro f h
        refine w_load_at1 (V := .int .i64 (K.getD k zO2).1.h) (cell_of_has (Has.of_own s 0 rfl) 1 (ot_h _ _ _ _ _ _ _)) h one3 rfl rfl ?_; intro f h
        refine w_pure h (ru_ixz (RdZ.of_own (s.getSl 6 rfl)) ((K.getD k zO2).1.h.toNat) Try.underlying28 szo3 (h.ev rfl) (h.ev rfl) (by omega) (by omega)) rfl ?_; intro f h
        refine w_load_at1 ((RdZ.of_own (s.getSl 6 rfl)).el1 ((K.getD k zO2).1.h.toNat) (V := .int .i64 ((goK t n c p k).hs (K.getD k zO2).1.h.toNat : Int)) (hs_at (by omega))) h one3 rfl rfl ?_; intro f h
        have hg4 := hgo.hs (K.getD k zO2).1.h.toNat
        refine w_pure h (ru_add (h.ev rfl) (h.ev rfl) (by omega)) rfl ?_; intro f h
        refine w_pure h (ru_ixz (RdZ.of_own (s.getSl 6 rfl)) ((K.getD k zO2).1.h.toNat) Try.underlying28 szo3 (h.ev rfl) (h.ev rfl) (by omega) (by omega)) rfl ?_; intro f h
        refine w_nil s fun w1 s => ?_
        refine s_store_el1 (V := .int .i64 (((goK t n c p k).hs (K.getD k zO2).1.h.toNat : Int) + 1)) 6 h s one3 rfl rfl rfl (by omega) (rfl) ((show (hsC (goK t n c p k)).set ((K.getD k zO2).1.h.toNat * 1) (.int .i64 (((goK t n c p k).hs (K.getD k zO2).1.h.toNat : Int) + 1)) = hsC ((goK t n c p k).add (hostC (K.getD k zO2).1.h.toNat)) from (by rw [Nat.mul_one]; exact hs_set))) ?_; intro w1 s
        refine s_nil ?_
        refine b_norm ?_
        refine hK10 _ _ ?_
        refine c_region ?_
        refine s_pure h (ru_add (h.ev rfl) (h.ev rfl) (by omega)) rfl ?_; intro f h
        refine s_pure h (ru_move (h.ev rfl)) rfl ?_; intro f h
        refine s_nil ?_
        refine t_norm ?_
        have e9 := hG1.trans (st_1 k1)
        exact ⟨_, by omega, ⟨k + 1, h.only ⟨rfl, rfl, rfl, rfl, rfl, rfl, rfl, rfl, slot_int rfl (by omega), trivial⟩, St.as (s.pick _ (List.Sublist.cons _ (List.Sublist.cons_cons _ (List.Sublist.cons_cons _ (List.Sublist.cons_cons _ (List.Sublist.cons_cons _ (List.Sublist.cons_cons _ (List.Sublist.cons_cons _ (List.Sublist.refl _))))))))) ⟨rfl, rfl, rfl, rfl, (by rw [e9] <;> rfl), sl_eq rfl (by rw [e9] <;> rfl), beq'_refl _⟩, rfl, by omega⟩⟩
      · have k1 := hc
        refine c_seq fun K13 hK13 => ?_
        refine c_region ?_
        refine s_pure h (ru_field fld72_0 (h.ev rfl)) rfl ?_; intro f h
        refine s_load_at1 (V := .int .i64 (K.getD k zO2).1.k) (cell_of_has (Has.of_own s 0 rfl) 0 (ot_k _ _ _ _ _ _ _)) h one3 rfl rfl ?_; intro f h
        refine s_pure h (ru_eql (h.ev rfl) (h.ev rfl)) rfl ?_; intro f h
        refine s_nil ?_
        refine hK13 _ _ ?_
        refine c_cond h rfl (fun hc => ?_) (fun hc => ?_)
        · have k2 := hc
          have hk2 := of_decide_eq_true hc
          refine c_region ?_
          refine s_load_row 5 h s row79 rfl rfl (ssArr_size _ _ _ _) rfl ?_; intro f h
          refine s_pure h (ru_move (h.ev rfl)) rfl ?_; intro f h
          refine s_pure h (ru_field fld72_2 (h.ev rfl)) rfl ?_; intro f h
          refine s_load_at (Has.subL (Has.of_own s 0 rfl) 2 3 (D := pkArr (K.getD k zO2).2 (K.getD k zO2).1.p.2.1 (K.getD k zO2).1.p.2.2) (ot_p _ _ _ _ _ _ _)) h row25 rfl (pkArr_size _ _ _) rfl ?_; intro f h
          have sp := s.perm (List.perm_middle (l₁ := [_, _, _, _, _, _]))
          refine s_callS [.agg (ssArr vo ((goK t n c p k).lost : Int) ((goK t n c p k).hops : Int) ((goK t n c p k).work : Int)), vh, .agg (pkArr (K.getD k zO2).2 (K.getD k zO2).1.p.2.1 (K.getD k zO2).1.p.2.2)] h fnc31 (ih (K.getD k zO2).1.p (K.getD k zO2).2 (goK t n c p k) _ _ sp (fun A9 w9 h9 => (h9.getG (ks := ks) (S := fun w9 => RdE w9 vs p.1 → RwU K w9) (A9.length + 2) (by simp)) (hP (A9 ++ [_, _, _, _, _, _]) w9 (by simpa using h9)) _ (ou_mem hkl)) (step_on hr hr9 hxm hk2).1 (by have := (step_less hxm hk2).2.2; omega) (goK_ok hc9 hw hkr)) rfl rfl ?_; rintro f w1 v47 ⟨rfl, s⟩ h; clear sp
          replace s := s.perm (List.perm_middle (l₁ := [_, _, _, _, _, _])).symm
          refine s_store_row 5 h s row79 rfl rfl rfl (ssArr_size _ _ _ _) (ssArr_size _ _ _ _) (ssArr_ones _ _ _ (own_one (s.getSl 6 rfl))) ?_; intro w1 s
          refine s_nil ?_
          refine b_norm ?_
          refine hK10 _ _ ?_
          refine c_region ?_
          refine s_pure h (ru_add (h.ev rfl) (h.ev rfl) (by omega)) rfl ?_; intro f h
          refine s_pure h (ru_move (h.ev rfl)) rfl ?_; intro f h
          refine s_nil ?_
          refine t_norm ?_
          have e9 := hG1.trans (st_2 k2)
          exact ⟨_, by omega, ⟨k + 1, h.only ⟨rfl, rfl, rfl, rfl, rfl, rfl, rfl, rfl, slot_int rfl (by omega), trivial⟩, St.as (s.pick _ (List.Sublist.cons _ (List.Sublist.cons_cons _ (List.Sublist.cons_cons _ (List.Sublist.cons_cons _ (List.Sublist.cons_cons _ (List.Sublist.cons_cons _ (List.Sublist.cons_cons _ (List.Sublist.refl _))))))))) ⟨rfl, rfl, rfl, rfl, (by rw [e9] <;> rfl), sl_eq rfl (by rw [e9] <;> rfl), beq'_refl _⟩, rfl, by omega⟩⟩
        · have k2 := hc
          refine c_seq fun K14 hK14 => ?_
          refine c_region ?_
          refine s_pure h (ru_field fld72_4 (h.ev rfl)) rfl ?_; intro f h
          refine s_load_at1 (V := .int .i64 (K.getD k zO2).1.y) (cell_of_has (Has.of_own s 0 rfl) 72 (ot_y _ _ _ _ _ _ _)) h one31 rfl rfl ?_; intro f h
          refine s_pure h (ru_eql (h.ev rfl) (h.ev rfl)) rfl ?_; intro f h
          refine s_nil ?_
          refine hK14 _ _ ?_
          refine c_cond h rfl (fun hc => ?_) (fun hc => ?_)
          · have k3 := hc
            refine c_region ?_
            refine s_pure h (ru_field fld79_2 (h.ev rfl)) rfl ?_; intro f h
            refine s_load_at1 (V := .int .i64 ((goK t n c p k).hops : Int)) (cell_of_has (Has.of_own s 5 rfl) 2 (ss_h _ _ _ _)) h one3 rfl rfl ?_; intro f h
            refine s_pure h (ru_add (h.ev rfl) (h.ev rfl) (by omega)) rfl ?_; intro f h
            refine s_pure h (ru_field fld79_2 (h.ev rfl)) rfl ?_; intro f h
            refine s_store_one 5 h s one3 rfl rfl rfl (by rw [ssArr_size]; omega) (rfl) ?_; intro w1 s
            replace s := s.recell (D := ssArr vo ((goK t n c p k).lost : Int) ((((goK t n c p k).hops : Int) + 1)) ((goK t n c p k).work : Int)) 5 rfl (rfl)
            refine s_nil ?_
            refine b_norm ?_
            refine hK10 _ _ ?_
            refine c_region ?_
            refine s_pure h (ru_add (h.ev rfl) (h.ev rfl) (by omega)) rfl ?_; intro f h
            refine s_pure h (ru_move (h.ev rfl)) rfl ?_; intro f h
            refine s_nil ?_
            refine t_norm ?_
            have e9 := hG1.trans (st_9 k1 k2 k3)
            exact ⟨_, by omega, ⟨k + 1, h.only ⟨rfl, rfl, rfl, rfl, rfl, rfl, rfl, rfl, slot_int rfl (by omega), trivial⟩, St.as (s.pick _ (List.Sublist.cons _ (List.Sublist.cons_cons _ (List.Sublist.cons_cons _ (List.Sublist.cons_cons _ (List.Sublist.cons_cons _ (List.Sublist.cons_cons _ (List.Sublist.cons_cons _ (List.Sublist.refl _))))))))) ⟨rfl, rfl, rfl, rfl, (by rw [e9] <;> rfl), sl_eq rfl (by rw [e9] <;> rfl), beq'_refl _⟩, rfl, by omega⟩⟩
          · have k3 := hc
            refine c_region ?_
            refine s_pure h (ru_field fld79_1 (h.ev rfl)) rfl ?_; intro f h
            refine s_load_at1 (V := .int .i64 ((goK t n c p k).lost : Int)) (cell_of_has (Has.of_own s 5 rfl) 1 (ss_l _ _ _ _)) h one3 rfl rfl ?_; intro f h
            refine s_pure h (ru_add (h.ev rfl) (h.ev rfl) (by omega)) rfl ?_; intro f h
            refine s_pure h (ru_field fld79_1 (h.ev rfl)) rfl ?_; intro f h
            refine s_store_one 5 h s one3 rfl rfl rfl (by rw [ssArr_size]; omega) (rfl) ?_; intro w1 s
            replace s := s.recell (D := ssArr vo ((((goK t n c p k).lost : Int) + 1)) ((goK t n c p k).hops : Int) ((goK t n c p k).work : Int)) 5 rfl (rfl)
            refine s_nil ?_
            refine b_norm ?_
            refine hK10 _ _ ?_
            refine c_region ?_
            refine s_pure h (ru_add (h.ev rfl) (h.ev rfl) (by omega)) rfl ?_; intro f h
            refine s_pure h (ru_move (h.ev rfl)) rfl ?_; intro f h
            refine s_nil ?_
            refine t_norm ?_
            have e9 := hG1.trans (st_6 k1 k2 k3)
            exact ⟨_, by omega, ⟨k + 1, h.only ⟨rfl, rfl, rfl, rfl, rfl, rfl, rfl, rfl, slot_int rfl (by omega), trivial⟩, St.as (s.pick _ (List.Sublist.cons _ (List.Sublist.cons_cons _ (List.Sublist.cons_cons _ (List.Sublist.cons_cons _ (List.Sublist.cons_cons _ (List.Sublist.cons_cons _ (List.Sublist.cons_cons _ (List.Sublist.refl _))))))))) ⟨rfl, rfl, rfl, rfl, (by rw [e9] <;> rfl), sl_eq rfl (by rw [e9] <;> rfl), beq'_refl _⟩, rfl, by omega⟩⟩
    · replace hc := of_decide_eq_false hc
      refine wpIn_exit ?_
      refine t_exit ?_
      refine t_exit ?_
      refine b_exit ?_
      refine hK6 _ _ ?_
      refine c_seq fun K15 hK15 => ?_
      refine c_region ?_
      obtain rfl : k = K.length := by omega
      have hge : goK t n c p K.length = goF t (n + 1) c p := by rw [← goK_end hw, ← hK, outs_len]
      refine s_load_row 4 h s row79 rfl rfl (ssArr_size _ _ _ _) rfl ?_; intro f h
      refine s_store_row 2 h s row79 rfl rfl rfl (ssArr_size _ _ _ _) (ssArr_size _ _ _ _) (ssArr_ones _ _ _ (own_one (s.getSl 5 rfl))) ?_; intro w1 s
      refine s_nil ?_
      refine hK15 _ _ ?_
      refine wpIn_ret ?_
      exact e_rowF 2 rfl h s row79 rfl rfl (ssArr_size _ _ _ _) (⟨_, rfl, by rw [← hge], by rw [← hge]; exact s.pick _ (List.sublist_append_right [_, _, _, _, _] _)⟩)

theorem rgo_any (t : List Tg) (vh vo : Value) (w0 : World) (hR : RdZ w0 vh 67 t.length (tgCells t)) (hln : t.length ≤ 1000) (hr9 : rightT t = true) : ∀ (n : Nat) (p : Pk) (vs : Value) (c : Cn) (B9 : List Own) (w : World), St w0 (.sl vo 3 1 16 (hsC c) :: B9) w → (∀ (A9 : List Own) (w9 : World), St w0 (A9 ++ B9) w9 → RdE w9 vs p.1) → rightP p = true → p.2.1 < (n : Int) → COk c → Calls Try.prog 31 [.agg (ssArr vo (c.lost : Int) (c.hops : Int) (c.work : Int)), vh, .agg (pkArr vs p.2.1 p.2.2)].toArray w (fun e w9 => ∃ r, e = .returned r ∧ r = .agg (ssArr vo ((goF t n c p).lost : Int) ((goF t n c p).hops : Int) ((goF t n c p).work : Int)) ∧ St w0 (.sl vo 3 1 16 (hsC (goF t n c p)) :: B9) w9)
  | 0, p, _, _, _, _, _, _, hr, hn, _ => by have := (rightP_iff.1 hr).2.1; omega
  | n + 1, p, vs, c, B9, w, s, hP, hr, hn, hc => rgo_step n t vh p vs c vo B9 w0 w s hR hln hr9 hP hr (by omega) hc (rgo_any t vh vo w0 hR hln hr9 n)

set_option maxHeartbeats 2000000 in
theorem rdeliver_any (t : List Tg) (vh : Value) (p : Pk) (vs : Value) (w : World) (hR : RdZ w vh 67 t.length (tgCells t)) (hln : t.length ≤ 1000) (hP : RdZ w vs 34 p.1.length (eCells p.1)) (hpl : p.1.length ≤ 1000) (hr9 : rightT t = true) (hr : rightP p = true) : Calls Try.prog 16 [vh, .agg (pkArr vs p.2.1 p.2.2)].toArray w (Ret w (DvP w 3 (delD t p) (delB t p))) := by
  obtain ⟨⟨hr1, _, _⟩, hr2, hr3, hr4⟩ := rightP_iff.1 hr
  refine c_enter Try.func16 rfl Try.ntmps16 rfl [(0, vh), (1, .agg (pkArr vs p.2.1 p.2.2))] (by simp) fun f h => ?_
  have s := St.start w
  refine c_seq fun K1 hK1 => ?_
  refine c_region ?_
  refine s_box (pkArr vs p.2.1 p.2.2) h s rfl rfl rfl ?_; intro f w1 b3 h s
  refine s_alloc (ssArr nilV 0 0 0) h s zero30 rfl rfl ?_; intro f w1 b4 h s
  refine s_pure h (ru_assign (h.ev rfl)) rfl ?_; intro f h
  refine s_nil ?_
  refine hK1 _ _ ?_
  refine c_seq fun K2 hK2 => ?_
  refine c_regT 0 6 [[], [0], [], [], [0, 1, 2, 3], [], [0, 1, 2, 3, 4, 5]] [[], [], [], [], [0], [], []] [fun v => [.sl (v 0) 3 1 16 (hsC .zero)], fun _ => [], fun _ => [], fun _ => [], fun v => [.sl (v 0) 3 1 16 (hsC (goF t (p.2.1.toNat + 1) .zero p))], fun v => [.blk (pbk (v 5)) (.cells (ssArr nilV 0 0 0) 79)], fun _ => []] [] [fun v => (v 0).oneCell' = true, fun v => v 1 = .agg (ssArr (v 0) 0 0 0), fun v => v 2 = vh, fun v => v 3 = .agg (pkArr vs p.2.1 p.2.2), fun v => v 4 = .agg (ssArr (v 0) ((goF t (p.2.1.toNat + 1) .zero p).lost : Int) ((goF t (p.2.1.toNat + 1) .zero p).hops : Int) ((goF t (p.2.1.toNat + 1) .zero p).work : Int)), fun v => ∃ b, v 5 = .pointer (some ⟨b, 0, none⟩), fun _ => True] [.blk b4 (.cells (ssArr nilV 0 0 0) 30), .blk b3 (.cells (pkArr vs p.2.1 p.2.2) 25)] h s rfl (by kernel_rfl) (by kernel_rfl) (by kernel_rfl) (And.intro ?_ (And.intro ?_ (And.intro ?_ (And.intro ?_ (And.intro ?_ (And.intro ?_ (trivial))))))) [1, 2, 3, 4, 5] (by kernel_rfl) ?_
  · intro f9 w2 vl1 E9 hs9 hd9 hl hF s
    have h := fin_slot [] (hs9.trans h.size) (hd9.trans h.defers) (holds_lk trivial)
    replace s : St w (.blk b4 (.cells (ssArr nilV 0 0 0) 30) :: .blk b3 (.cells (pkArr vs p.2.1 p.2.2) 25) :: E9) _ := s
    refine s_make_sl (n := 16) (xs := hsC .zero) h s Try.underlying28 elm3 zero3 rfl rfl (rfl) (by omega) (by unfold maxLen; omega) (by kernel_rfl) (rfl) rfl ?_; intro f w1 v11 h s
    exact s_nil ⟨_, oc_out 11 rfl (h.holds 11 _ rfl), own_one (s.getSl 0 rfl), s⟩
  · intro f9 w2 vl1 E9 hs9 hd9 hl hF s
    have e11 : f9.tmps.getD 11 undef = (vl1 0) := oc_get hl 11 0 (by kernel_rfl) (by kernel_rfl)
    have h := fin_slot [(11, (vl1 0))] (hs9.trans h.size) (hd9.trans h.defers) (holds_lk ⟨e11, trivial⟩)
    replace s : St w (.blk b4 (.cells (ssArr nilV 0 0 0) 30) :: .blk b3 (.cells (pkArr vs p.2.1 p.2.2) 25) :: E9) _ := s
    refine s_pure h (ru_build_ss1 sttS14 (one_cell (hF 0 (by decide))).1 (one_cell (hF 0 (by decide))).2 (h.ev rfl)) rfl ?_; intro f h
    exact s_nil ⟨_, oc_out 12 rfl (h.holds 12 _ rfl), rfl, s⟩
  · intro f9 w2 vl1 E9 hs9 hd9 hl hF s
    have e0 : f9.tmps.getD 0 undef = _ := oc_old hl 0 (by kernel_rfl) (by kernel_rfl) (h.holds 0 _ rfl)
    have h := fin_slot [(0, _)] (hs9.trans h.size) (hd9.trans h.defers) (holds_lk ⟨e0, trivial⟩)
    replace s : St w (.blk b4 (.cells (ssArr nilV 0 0 0) 30) :: .blk b3 (.cells (pkArr vs p.2.1 p.2.2) 25) :: E9) _ := s
    refine s_pure h (ru_move (h.ev rfl)) rfl ?_; intro f h
    exact s_nil ⟨_, oc_out 13 rfl (h.holds 13 _ rfl), rfl, s⟩
  · intro f9 w2 vl1 E9 hs9 hd9 hl hF s
    have e3 : f9.tmps.getD 3 undef = _ := oc_old hl 3 (by kernel_rfl) (by kernel_rfl) (h.holds 3 _ rfl)
    have h := fin_slot [(3, _)] (hs9.trans h.size) (hd9.trans h.defers) (holds_lk ⟨e3, trivial⟩)
    replace s : St w (.blk b4 (.cells (ssArr nilV 0 0 0) 30) :: .blk b3 (.cells (pkArr vs p.2.1 p.2.2) 25) :: E9) _ := s
    refine s_load_row 1 h s row25 rfl rfl (pkArr_size _ _ _) rfl ?_; intro f h
    exact s_nil ⟨_, oc_out 14 rfl (h.holds 14 _ rfl), rfl, s⟩
  · intro f9 w2 vl1 E9 hs9 hd9 hl hF s
    have e12 : f9.tmps.getD 12 undef = .agg (ssArr (vl1 0) 0 0 0) := (oc_get hl 12 1 (by kernel_rfl) (by kernel_rfl)).trans (hF 1 (by decide))
    have e13 : f9.tmps.getD 13 undef = vh := (oc_get hl 13 2 (by kernel_rfl) (by kernel_rfl)).trans (hF 2 (by decide))
    have e14 : f9.tmps.getD 14 undef = .agg (pkArr vs p.2.1 p.2.2) := (oc_get hl 14 3 (by kernel_rfl) (by kernel_rfl)).trans (hF 3 (by decide))
    have h := fin_slot [(12, .agg (ssArr (vl1 0) 0 0 0)), (13, vh), (14, .agg (pkArr vs p.2.1 p.2.2))] (hs9.trans h.size) (hd9.trans h.defers) (holds_lk ⟨e12, e13, e14, trivial⟩)
    replace s : St w (.sl (vl1 0) 3 1 16 (hsC .zero) :: .blk b4 (.cells (ssArr nilV 0 0 0) 30) :: .blk b3 (.cells (pkArr vs p.2.1 p.2.2) 25) :: E9) _ := s
    refine s_callS [.agg (ssArr (vl1 0) 0 0 0), vh, .agg (pkArr vs p.2.1 p.2.2)] h fnc31 (rgo_any t vh (vl1 0) w (hR.keep (Ext.refl w)) hln hr9 (p.2.1.toNat + 1) p vs .zero _ _ s (fun A9 w9 h9 => hP.keep h9.ext) hr (by omega) zero_ok) rfl rfl ?_; rintro f w1 v15 ⟨rfl, s⟩ h
    exact s_nil ⟨_, oc_out 15 rfl (h.holds 15 _ rfl), rfl, s⟩
  · intro f9 w2 vl1 E9 hs9 hd9 hl hF s
    have h := fin_slot [] (hs9.trans h.size) (hd9.trans h.defers) (holds_lk trivial)
    replace s : St w (.blk b4 (.cells (ssArr nilV 0 0 0) 30) :: .blk b3 (.cells (pkArr vs p.2.1 p.2.2) 25) :: E9) _ := s
    refine s_alloc (ssArr nilV 0 0 0) h s zero79 rfl rfl ?_; intro f w1 b6 h s
    exact s_nil ⟨_, oc_out 6 rfl (h.holds 6 _ rfl), ⟨_, rfl⟩, s⟩
  intro f w1 vl1 hs9 hd9 hv hr hF s
  replace hv := fun i d h9 => hv i d (show Nat.blt i 6 = true from h9)
  obtain ⟨b6, hb6⟩ : ∃ b, vl1 5 = .pointer (some ⟨b, 0, none⟩) := hF 5 (by kernel_rfl)
  replace h := oc_slT 6 (ops := _) [(11, (vl1 0)), (12, .agg (ssArr (vl1 0) 0 0 0)), (13, vh), (14, .agg (pkArr vs p.2.1 p.2.2)), (15, .agg (ssArr (vl1 0) ((goF t (p.2.1.toNat + 1) .zero p).lost : Int) ((goF t (p.2.1.toNat + 1) .zero p).hops : Int) ((goF t (p.2.1.toNat + 1) .zero p).work : Int))), (6, .pointer (some ⟨b6, 0, none⟩))] h hs9 hd9 hr ⟨hv 0 11 rfl rfl, (hv 1 12 rfl rfl).trans (hF 1 (by kernel_rfl)), (hv 2 13 rfl rfl).trans (hF 2 (by kernel_rfl)), (hv 3 14 rfl rfl).trans (hF 3 (by kernel_rfl)), (hv 4 15 rfl rfl).trans (hF 4 (by kernel_rfl)), (hv 5 6 rfl rfl).trans hb6, trivial⟩ (by kernel_rfl)
  replace s : St w [.sl (vl1 0) 3 1 16 (hsC (goF t (p.2.1.toNat + 1) .zero p)), .blk (pbk (vl1 5)) (.cells (ssArr nilV 0 0 0) 79), .blk b4 (.cells (ssArr nilV 0 0 0) 30), .blk b3 (.cells (pkArr vs p.2.1 p.2.2) 25)] _ := s
  rw [hb6] at s
  replace s : St w [.sl (vl1 0) 3 1 16 (hsC (goF t (p.2.1.toNat + 1) .zero p)), .blk b6 (.cells (ssArr nilV 0 0 0) 79), .blk b4 (.cells (ssArr nilV 0 0 0) 30), .blk b3 (.cells (pkArr vs p.2.1 p.2.2) 25)] _ := s
  refine s_store_row 1 h s row79 rfl rfl rfl (ssArr_size _ _ _ _) (ssArr_size _ _ _ _) (ssArr_ones _ _ _ (own_one (s.getSl 0 rfl))) ?_; intro w1 s
  refine s_nil ?_
  refine hK2 _ _ ?_
  refine c_seq fun K3 hK3 => ?_
  refine c_seq fun K4 hK4 => ?_
  refine c_region ?_
  obtain ⟨c, hc0⟩ : ∃ x9, x9 = (goF t (p.2.1.toNat + 1) .zero p) := ⟨_, rfl⟩
  rw [← hc0] at h s
  have hcok : COk c := by rw [hc0]; exact go_ok _ _ _ zero_ok
  refine s_pure h (ru_field fld79_3 (h.ev rfl)) rfl ?_; intro f h
  refine s_load_at1 (V := .int .i64 (c.work : Int)) (cell_of_has (Has.of_own s 1 rfl) 3 (ss_k _ _ _ _)) h one3 rfl rfl ?_; intro f h
  refine s_pure h (ru_gtr (h.ev rfl) (h.ev rfl)) rfl ?_; intro f h
  refine s_nil ?_
  refine hK4 _ _ ?_
  refine c_cond h rfl (fun hc => ?_) (fun hc => ?_)
  · have hw : 1000 < c.work := by have := of_decide_eq_true hc; omega
    refine c_seq fun K5 hK5 => ?_
    refine c_region ?_
    refine s_pure h (ru_build_ss0 sttSd) rfl ?_; intro f h
    refine s_store_row 2 h s row30 rfl rfl rfl (ssArr_size _ _ _ _) (ssArr_size _ _ _ _) (ssArr_ones _ _ _ (rfl)) ?_; intro w1 s
    refine s_pure h (ru_assign (h.ev rfl)) rfl ?_; intro f h
    refine s_nil ?_
    refine hK5 _ _ ?_
    refine wpIn_ret ?_
    refine t_ret ?_
    exact e_row_tmp 2 rfl h s row30 rfl rfl (ssArr_size _ _ _ _) rfl ((dv_no (by exact (go_full hr2).1 (by rw [← hc0]; exact hw)) (s.sel [] rfl (by decide))))
  · have hw : ¬ 1000 < c.work := fun e9 => of_decide_eq_false hc (by omega)
    refine wpIn_skip ?_
    refine hK3 _ _ ?_
    refine c_seq fun K6 hK6 => ?_
    refine c_region ?_
    refine s_pure h (ru_field fld79_1 (h.ev rfl)) rfl ?_; intro f h
    refine s_load_at1 (V := .int .i64 (c.lost : Int)) (cell_of_has (Has.of_own s 1 rfl) 1 (ss_l _ _ _ _)) h one3 rfl rfl ?_; intro f h
    refine s_pure h (ru_field fld79_2 (h.ev rfl)) rfl ?_; intro f h
    refine s_load_at1 (V := .int .i64 (c.hops : Int)) (cell_of_has (Has.of_own s 1 rfl) 2 (ss_h _ _ _ _)) h one3 rfl rfl ?_; intro f h
    refine s_pure h (ru_field fld79_3 (h.ev rfl)) rfl ?_; intro f h
    refine s_load_at1 (V := .int .i64 (c.work : Int)) (cell_of_has (Has.of_own s 1 rfl) 3 (ss_k _ _ _ _)) h one3 rfl rfl ?_; intro f h
    refine s_pure h (ru_build_ss3 sttSd (h.ev rfl) (h.ev rfl) (h.ev rfl)) rfl ?_; intro f h
    refine s_alloc (ssArr nilV 0 0 0) h s zero30 rfl rfl ?_; intro f w1 b7 h s
    refine s_store_row 0 h s row30 rfl rfl rfl (ssArr_size _ _ _ _) (ssArr_size _ _ _ _) (ssArr_ones _ _ _ (rfl)) ?_; intro w1 s
    refine s_nil ?_
    refine hK6 _ _ ?_
    refine c_seq fun K7 hK7 => ?_
    refine c_seq fun K8 hK8 => ?_
    refine c_region ?_
    replace s := s.nilSl 3 1
    refine s_pure h (ru_field fld79_0 (h.ev rfl)) rfl ?_; intro f h
    refine s_load_at1 (V := (vl1 0)) (cell_of_has (Has.of_own s 3 rfl) 0 (ss_v _ _ _ _)) h one28 rfl rfl ?_; intro f h
    refine s_len_sl 2 h s Try.underlying28 rfl rfl rfl ?_; intro f h
    refine s_pure h (ru_move (h.ev rfl)) rfl ?_; intro f h
    refine s_nil ?_
    refine hK8 _ _ ?_
    refine wpIn_block ?_
    refine wpIn_loop_ghost (fun nn aa ww => ∃ k : Nat, ∃ vb : Value, Sl 48 aa [(0, vh), (1, .agg (pkArr vs p.2.1 p.2.2)), (3, .pointer (some ⟨b3, 0, none⟩)), (4, .pointer (some ⟨b4, 0, none⟩)), (6, .pointer (some ⟨b6, 0, none⟩)), (7, .pointer (some ⟨b7, 0, none⟩)), (11, (vl1 0)), (28, (vl1 0)), (29, .int .i64 16), (30, .int .i64 (k : Int))] ∧ St w [.sl vb 3 1 (hostK c k).length (intC (hostK c k)), .blk b7 (.cells (ssArr vb (c.lost : Int) (c.hops : Int) (c.work : Int)) 30), .sl (vl1 0) 3 1 16 (hsC c), .blk b6 (.cells (ssArr (vl1 0) (c.lost : Int) (c.hops : Int) (c.work : Int)) 79), .blk b4 (.cells (ssArr nilV 0 0 0) 30), .blk b3 (.cells (pkArr vs p.2.1 p.2.2) 25)] ww ∧ nn = 16 - k ∧ k ≤ 16) (16 - (0)) ⟨0, nilV, h.only ⟨rfl, rfl, rfl, rfl, rfl, rfl, rfl, rfl, rfl, slot_int rfl (by omega), trivial⟩, s.as ⟨rfl, rfl, rfl, rfl, rfl, rfl, trivial⟩, rfl, Nat.zero_le _⟩ ?_
    rintro _ f w1 ⟨k, vb, h, s, hnn, hp0⟩
    refine c_seq fun K9 hK9 => ?_
    refine c_region ?_
    refine s_pure h (ru_lss (h.ev rfl) (h.ev rfl)) rfl ?_; intro f h
    refine s_nil ?_
    refine hK9 _ _ ?_
    refine c_seq fun K10 hK10 => ?_
    refine c_cond h rfl (fun hc => ?_) (fun hc => ?_)
    · replace hc := of_decide_eq_true hc
      refine wpIn_skip ?_
      refine hK10 _ _ ?_
      refine c_seq fun K11 hK11 => ?_
      refine wpIn_block ?_
      refine c_seq fun K12 hK12 => ?_
      refine c_region ?_
      have hk16 : k < 16 := by omega
      have hck := hcok.hs k
      have hcw := hcok.work
      have hkl := hostK_le hcok k
      refine s_pure h (ru_move (h.ev rfl)) rfl ?_; intro f h
      refine s_pure h (ru_ixz (RdZ.of_own (s.getSl 2 rfl)) (k) Try.underlying28 szo3 (h.ev rfl) (h.ev rfl) (by omega) (by omega)) rfl ?_; intro f h
      refine s_load_at1 ((RdZ.of_own (s.getSl 2 rfl)).el1 (k) (V := .int .i64 (c.hs k : Int)) (hs_at (by omega))) h one3 rfl rfl ?_; intro f h
      refine s_pure h (ru_assign (h.ev rfl)) rfl ?_; intro f h
      refine s_pure h (ru_assign (h.ev rfl)) rfl ?_; intro f h
      refine s_nil ?_
      refine hK12 _ _ ?_
      refine c_seq fun K13 hK13 => ?_
      refine c_region ?_
      refine s_pure h (ru_assign (h.ev rfl)) rfl ?_; intro f h
      refine s_nil ?_
      refine hK13 _ _ ?_
      refine wpIn_block ?_
      refine wpIn_loop_ghost (fun nn aa ww => ∃ j : Nat, ∃ vc : Value, Sl 48 aa [(0, vh), (1, .agg (pkArr vs p.2.1 p.2.2)), (3, .pointer (some ⟨b3, 0, none⟩)), (4, .pointer (some ⟨b4, 0, none⟩)), (6, .pointer (some ⟨b6, 0, none⟩)), (7, .pointer (some ⟨b7, 0, none⟩)), (11, (vl1 0)), (8, .int .i64 (k : Int)), (9, .int .i64 (c.hs k : Int)), (10, .int .i64 (j : Int)), (28, (vl1 0)), (29, .int .i64 16), (30, .int .i64 (k : Int))] ∧ St w [.sl vc 3 1 (hostK c k ++ List.replicate j (k : Int)).length (intC (hostK c k ++ List.replicate j (k : Int))), .blk b7 (.cells (ssArr vc (c.lost : Int) (c.hops : Int) (c.work : Int)) 30), .sl (vl1 0) 3 1 16 (hsC c), .blk b6 (.cells (ssArr (vl1 0) (c.lost : Int) (c.hops : Int) (c.work : Int)) 79), .blk b4 (.cells (ssArr nilV 0 0 0) 30), .blk b3 (.cells (pkArr vs p.2.1 p.2.2) 25)] ww ∧ nn = c.hs k - j ∧ j ≤ c.hs k) (c.hs k - (0)) ⟨0, vb, h.only ⟨rfl, rfl, rfl, rfl, rfl, rfl, rfl, rfl, rfl, slot_int rfl (by omega), rfl, rfl, rfl, trivial⟩, s.as ⟨sl_eq (by simp) (by simp), rfl, rfl, rfl, rfl, rfl, trivial⟩, rfl, Nat.zero_le _⟩ ?_
      rintro _ f w1 ⟨j, vc, h, s, hnn, hp0⟩
      refine c_seq fun K14 hK14 => ?_
      refine c_seq fun K15 hK15 => ?_
      refine c_region ?_
      refine s_pure h (ru_move (h.ev rfl)) rfl ?_; intro f h
      refine s_pure h (ru_move (h.ev rfl)) rfl ?_; intro f h
      refine s_pure h (ru_lss (h.ev rfl) (h.ev rfl)) rfl ?_; intro f h
      refine s_nil ?_
      refine hK15 _ _ ?_
      refine c_cond h rfl (fun hc => ?_) (fun hc => ?_)
      · replace hc := of_decide_eq_true hc
        refine wpIn_skip ?_
        refine hK14 _ _ ?_
        refine c_seq fun K16 hK16 => ?_
        refine wpIn_block ?_
        refine c_region ?_
        refine s_pure h (ru_field fld30_0 (h.ev rfl)) rfl ?_; intro f h
        refine s_load_at1 (V := vc) (cell_of_has (Has.of_own s 1 rfl) 0 (ss_v _ _ _ _)) h one28 rfl rfl ?_; intro f h
        refine s_pure h (ru_move (h.ev rfl)) rfl ?_; intro f h
        refine s_bslice (vs := [.int .i64 (k : Int)]) [.tmp 42] h s Try.underlying28 elm3 rfl rfl (by simp [Value.cells]) rfl rfl rfl ?_; intro f w1 v43 h s
        refine s_append 1 0 h s Try.underlying28 elm3 rfl rfl rfl rfl (by decide) (by intro u hu; simp [Value.cells] at hu; subst hu; rfl) (by rw [List.length_append, List.length_replicate]; unfold maxLen; omega) (by rw [List.length_append, List.length_replicate]; omega) rfl ?_; intro f w1 v44 h s
        replace s := s.pick _ (List.sublist_cons_self _ _)
        replace s := s.resl (m := (hostK c k ++ List.replicate (j + 1) (k : Int)).length) (ys := intC (hostK c k ++ List.replicate (j + 1) (k : Int))) 0 rfl (by rw [← rep_s]; exact len_one _ _) (by rw [← rep_s, int_put])
        refine s_pure h (ru_field fld30_0 (h.ev rfl)) rfl ?_; intro f h
        refine s_store_one 1 h s one28 rfl rfl rfl (by rw [ssArr_size]; omega) (own_one (s.getSl 0 rfl)) ?_; intro w1 s
        replace s := s.recell (D := ssArr v44 (c.lost : Int) (c.hops : Int) (c.work : Int)) 1 rfl (rfl)
        refine s_nil ?_
        refine b_norm ?_
        refine hK16 _ _ ?_
        refine c_region ?_
        refine s_pure h (ru_move (h.ev rfl)) rfl ?_; intro f h
        refine s_pure h (ru_add (h.ev rfl) (h.ev rfl) (by omega)) rfl ?_; intro f h
        refine s_pure h (ru_assign (h.ev rfl)) rfl ?_; intro f h
        refine s_nil ?_
        refine t_norm ?_
        exact ⟨_, by omega, ⟨j + 1, v44, h.only ⟨rfl, rfl, rfl, rfl, rfl, rfl, rfl, rfl, rfl, slot_int rfl (by omega), rfl, rfl, rfl, trivial⟩, St.as s ⟨rfl, rfl, rfl, rfl, rfl, rfl, trivial⟩, rfl, by omega⟩⟩
      · replace hc := of_decide_eq_false hc
        refine wpIn_exit ?_
        refine t_exit ?_
        refine t_exit ?_
        refine b_exit ?_
        refine b_norm ?_
        refine hK11 _ _ ?_
        refine c_region ?_
        obtain rfl : j = c.hs k := by omega
        refine s_pure h (ru_add (h.ev rfl) (h.ev rfl) (by omega)) rfl ?_; intro f h
        refine s_pure h (ru_move (h.ev rfl)) rfl ?_; intro f h
        refine s_nil ?_
        refine t_norm ?_
        exact ⟨_, by omega, ⟨k + 1, vc, h.only ⟨rfl, rfl, rfl, rfl, rfl, rfl, rfl, rfl, rfl, slot_int rfl (by omega), trivial⟩, St.as s ⟨sl_eq (by rw [hostK_s]) (by rw [hostK_s]), rfl, rfl, rfl, rfl, rfl, trivial⟩, rfl, by omega⟩⟩
    · replace hc := of_decide_eq_false hc
      refine wpIn_exit ?_
      refine t_exit ?_
      refine t_exit ?_
      refine b_exit ?_
      refine hK7 _ _ ?_
      refine c_seq fun K17 hK17 => ?_
      refine c_region ?_
      refine s_load_row 1 h s row30 rfl rfl (ssArr_size _ _ _ _) rfl ?_; intro f h
      refine s_store_row 4 h s row30 rfl rfl rfl (ssArr_size _ _ _ _) (ssArr_size _ _ _ _) (ssArr_ones _ _ _ (own_one (s.getSl 0 rfl))) ?_; intro w1 s
      refine s_pure h (ru_assign (h.ev rfl)) rfl ?_; intro f h
      refine s_nil ?_
      refine hK17 _ _ ?_
      refine wpIn_ret ?_
      exact e_row_tmp 4 rfl h s row30 rfl rfl (ssArr_size _ _ _ _) rfl ((by obtain rfl : k = 16 := (by omega); exact dv_ok (by have h9 := (go_full (t := t) hr2).2 (by rw [← hc0]; exact hw); rw [← hc0] at h9; exact h9) (s.getSl 0 rfl)))
end Go.Proofs.Ytdehanjhphfanaa
