/- What SpreadEnds answers: for all arguments. -/
import Derived.Test.YtdehanjhphfanaaVc
import Derived.Test.YtdehanjhphfanaaXl
set_option linter.unusedVariables false
set_option linter.unusedSimpArgs false
set_option linter.unusedSectionVars false
namespace Go.Proofs.Ytdehanjhphfanaa
open Go.RowKit
set_option maxHeartbeats 4000000 in
theorem lsends_any (l : List Tg) (vh : Value) (p0 : Pk) (vs : Value) (w : World) (hR : RdZ w vh 67 l.length (tgCells l)) (hP0 : RdZ w vs 34 p0.1.length (eCells p0.1)) : Calls Try.prog 3 [vh, .agg (pkArr vs p0.2.1 p0.2.2)].toArray w (Ret w (is (.bool true))) := by
  have hT := tg_take hR (min l.length 34) (by omega)
  obtain ⟨t, ht⟩ : ∃ x9, x9 = l.take (min l.length 34) := ⟨_, rfl⟩
  rw [← ht] at hT
  have htl : t.length ≤ 34 := by rw [ht, List.length_take]; omega
  have hP : RdE w (cutV vs (min p0.1.length 6)) (cutP p0).1 := cutP_rd hP0
  have hpl := cutP_len p0
  refine c_enter Try.func3 rfl Try.ntmps3 rfl [(0, vh), (1, .agg (pkArr vs p0.2.1 p0.2.2))] (by simp) fun f h => ?_
  have s := St.start w
  refine c_seq fun K1 hK1 => ?_
  refine c_region ?_
  refine s_box (pkArr vs p0.2.1 p0.2.2) h s rfl rfl rfl ?_; intro f w1 b3 h s
  refine s_pure h (ru_assign (h.ev rfl)) rfl ?_; intro f h
  refine s_nil ?_
  refine hK1 _ _ ?_
  refine c_seq fun K2 hK2 => ?_
  refine c_walkN 5 [[], [0], [], [0, 1, 2], [0, 1, 2, 3]] h (by kernel_rfl) (by kernel_rfl) (by kernel_rfl) ?_
  refine w_pure h (ru_move (h.ev rfl)) rfl ?_; intro f h
  refine w_call h fnc7 (fun w9 hE9 => sfew_any vh l w9 (hR.keep (s.ext.trans hE9))) rfl rfl ?_; intro f h
  refine w_load_row 0 h s row25 rfl rfl (pkArr_size _ _ _) rfl ?_; intro f h
  refine w_call h fnc8 (fun w9 hE9 => scut_any p0 vs w9 (hP0.keep (s.ext.trans hE9))) rfl rfl ?_; intro f h
  refine w_pure h (ru_assign (h.ev rfl)) rfl ?_; intro f h
  refine w_nil s fun w1 s => ?_
  refine s_store_row 0 h s row25 rfl rfl rfl (pkArr_size _ _ _) (pkArr_size _ _ _) (pkArr_ones _ _ (rd_one (hP.keep s.ext))) ?_; intro w1 s
  refine s_nil ?_
  refine hK2 _ _ ?_
  refine c_seq fun K3 hK3 => ?_
  refine c_region ?_
  refine s_pure h (ru_move (h.ev rfl)) rfl ?_; intro f h
  refine s_load_row 0 h s row25 rfl rfl (pkArr_size _ _ _) rfl ?_; intro f h
  refine s_call h s fnc9 (spdel_any t (cutV vh (min l.length 34)) (cutP p0) (cutV vs (min p0.1.length 6)) _ (hT.keep s.ext) (by first | omega | decide | exact (show 1 ≤ 1000 by decide) | simp) (hP.keep s.ext) (by first | omega | decide | exact (show 1 ≤ 1000 by decide) | simp)) rfl rfl ?_; rintro f w1 v20 ⟨va, kva, rfl, hG⟩ hE h sq; replace s := s.add hG; clear hG
  refine s_pure h (ru_move (h.ev rfl)) rfl ?_; intro f h
  refine s_pure h (ru_extract (h.ev rfl) rfl) rfl ?_; intro f h
  refine s_pure h (ru_extract (h.ev rfl) rfl) rfl ?_; intro f h
  refine s_alloc (ssArr nilV 0 0 0) h s zero30 rfl rfl ?_; intro f w1 b5 h s
  refine s_store_row 0 h s row30 rfl rfl rfl (ssArr_size _ _ _ _) (ssArr_size _ _ _ _) (ssArr_ones _ _ _ (rd_one ((s.getG 1 rfl)))) ?_; intro w1 s
  refine s_pure h (ru_assign (h.ev rfl)) rfl ?_; intro f h
  refine s_nil ?_
  refine hK3 _ _ ?_
  refine c_seq fun K4 hK4 => ?_
  refine c_region ?_
  refine s_pure h (ru_move (h.ev rfl)) rfl ?_; intro f h
  refine s_call h s fnc10 (splnk_any t (cutV vh (min l.length 34)) _ (hT.keep s.ext) (by omega)) rfl rfl ?_; rintro f w1 v25 ⟨vl, kvl, rfl, hG⟩ hE h sq; replace s := s.add hG; clear hG
  refine s_pure h (ru_move (h.ev rfl)) rfl ?_; intro f h
  refine s_pure h (ru_extract (h.ev rfl) rfl) rfl ?_; intro f h
  refine s_pure h (ru_extract (h.ev rfl) rfl) rfl ?_; intro f h
  refine s_pure h (ru_assign (h.ev rfl)) rfl ?_; intro f h
  refine s_pure h (ru_assign (h.ev rfl)) rfl ?_; intro f h
  refine s_nil ?_
  refine hK4 _ _ ?_
  refine c_seq fun K5 hK5 => ?_
  refine c_seq fun K6 hK6 => ?_
  refine c_region ?_
  refine s_call h s fnc11 (ret_val (.bool true) (salive_any _) (congrArg Value.bool (rfl))) rfl rfl ?_; intro f w1 v9 hT hE h s; obtain rfl := hT
  refine s_pure h (ru_val (.bool false) (ru_not (h.ev rfl)) rfl) rfl ?_; intro f h
  refine s_nil ?_
  refine hK6 _ _ ?_
  refine wpIn_cond_false (h.ev rfl) ?_
  refine wpIn_skip ?_
  refine hK5 _ _ ?_
  refine c_seq fun K7 hK7 => ?_
  refine c_seq fun K8 hK8 => ?_
  cases t0 : (rightT t : Bool)
  · skip
    refine c_region ?_
    refine s_pure h (ru_move (h.ev rfl)) rfl ?_; intro f h
    refine s_call h s fnc12 (ret_val (.bool false) (rrightt_any t (cutV vh (min l.length 34)) _ (hT.keep s.ext) (by omega)) (congrArg Value.bool t0)) rfl rfl ?_; intro f w1 v9 hT hE h s; obtain rfl := hT
    refine s_pure h (ru_val (.bool true) (ru_not (h.ev rfl)) rfl) rfl ?_; intro f h
    refine s_nil ?_
    refine hK8 _ _ ?_
    refine wpIn_cond_true (h.ev rfl) ?_
    refine c_seq fun K9 hK9 => ?_
    refine c_region ?_
    obtain ⟨y1, y2⟩ := sp_n0 (cutP p0) t0
    obtain ⟨y3, y4⟩ := sl_n t0
    refine s_pure h (ru_move (h.ev rfl)) rfl ?_; intro f h
    refine s_pure h (ru_val (.bool true) (ru_eql (h.ev rfl) (h.ev rfl)) (congrArg Value.bool (by rw [y1]; rfl))) rfl ?_; intro f h
    refine s_pure h (ru_move (h.ev rfl)) rfl ?_; intro f h
    refine s_on h rfl rfl rfl ?_
    refine s_pure h (ru_move (h.ev rfl)) rfl ?_; intro f h
    refine s_on h rfl rfl rfl ?_
    refine s_pure h (ru_val (.bool true) (ru_eql (h.ev rfl) (h.ev rfl)) (congrArg Value.bool (by rw [y3]; rfl))) rfl ?_; intro f h
    refine s_pure h (ru_pick_t (h.ev rfl) (h.ev rfl)) rfl ?_; intro f h
    refine s_pure h (ru_move (h.ev rfl)) rfl ?_; intro f h
    refine s_on h rfl rfl rfl ?_
    refine s_pure h (ru_move (h.ev rfl)) rfl ?_; intro f h
    refine s_on h rfl rfl rfl ?_
    refine s_pure h (ru_lenZ ((s.getG 0 rfl)) Try.underlying34 (h.ev rfl)) rfl ?_; intro f h
    refine s_on h rfl rfl rfl ?_
    refine s_pure h (ru_val (.bool true) (ru_eql (h.ev rfl) (h.ev rfl)) (congrArg Value.bool (by rw [y4]; rfl))) rfl ?_; intro f h
    refine s_pure h (ru_pick_t (h.ev rfl) (h.ev rfl)) rfl ?_; intro f h
    refine s_pure h (ru_move (h.ev rfl)) rfl ?_; intro f h
    refine s_on h rfl rfl rfl ?_
    refine s_load_row 1 h s row30 rfl rfl (ssArr_size _ _ _ _) rfl ?_; intro f h
    refine s_on h rfl rfl rfl ?_
    refine s_pure h (ru_build_ss0 sttSd) rfl ?_; intro f h
    refine s_on h rfl rfl rfl ?_
    refine s_call h s fnc13 (ret_val (.bool true) (rsames_any (spD t (cutP p0)) zSd va nilV _ (s.getG 2 rfl) ⟨rfl, .inl ⟨rfl, rfl⟩⟩ (by have := sp_len (t := t) (p := (cutP p0)); omega) (by decide)) (congrArg Value.bool (by rw [y2]; simp))) rfl rfl ?_; intro f w1 v9 hT hE h s; obtain rfl := hT
    refine s_pure h (ru_pick_t (h.ev rfl) (h.ev rfl)) rfl ?_; intro f h
    refine s_pure h (ru_assign (h.ev rfl)) rfl ?_; intro f h
    refine s_nil ?_
    refine hK9 _ _ ?_
    refine wpIn_ret ?_
    refine t_ret ?_
    exact e_tmp rfl h s rfl (rfl)
  · skip
    refine c_region ?_
    refine s_pure h (ru_move (h.ev rfl)) rfl ?_; intro f h
    refine s_call h s fnc12 (ret_val (.bool true) (rrightt_any t (cutV vh (min l.length 34)) _ (hT.keep s.ext) (by omega)) (congrArg Value.bool t0)) rfl rfl ?_; intro f w1 v9 hT hE h s; obtain rfl := hT
    refine s_pure h (ru_val (.bool false) (ru_not (h.ev rfl)) rfl) rfl ?_; intro f h
    refine s_nil ?_
    refine hK8 _ _ ?_
    refine wpIn_cond_false (h.ev rfl) ?_
    refine wpIn_skip ?_
    refine hK7 _ _ ?_
    refine c_seq fun K10 hK10 => ?_
    refine c_region ?_
    obtain ⟨y3, y4⟩ := sl_y t0
    have hll := lnk_le t
    refine s_pure h (ru_move (h.ev rfl)) rfl ?_; intro f h
    refine s_call h s fnc14 (rlinks_any t (cutV vh (min l.length 34)) _ (hT.keep s.ext) (by omega)) rfl rfl ?_; intro f w1 v50 hOw hE h sq; replace s := s.sl_new hE hOw; clear hOw
    refine s_pure h (ru_assign (h.ev rfl)) rfl ?_; intro f h
    refine s_nil ?_
    refine hK10 _ _ ?_
    refine c_seq fun K11 hK11 => ?_
    refine c_seq fun K12 hK12 => ?_
    refine c_region ?_
    refine s_pure h (ru_move (h.ev rfl)) rfl ?_; intro f h
    refine s_pure h (ru_val (.bool false) (ru_neq (h.ev rfl) (h.ev rfl)) (congrArg Value.bool (by rw [y3]; rfl))) rfl ?_; intro f h
    refine s_pure h (ru_move (h.ev rfl)) rfl ?_; intro f h
    refine s_on h rfl rfl rfl ?_
    refine s_pure h (ru_move (h.ev rfl)) rfl ?_; intro f h
    refine s_on h rfl rfl rfl ?_
    refine s_pure h (ru_lenZ ((s.getG 1 rfl)) Try.underlying34 (h.ev rfl)) rfl ?_; intro f h
    refine s_on h rfl rfl rfl ?_
    refine s_pure h (ru_move (h.ev rfl)) rfl ?_; intro f h
    refine s_on h rfl rfl rfl ?_
    refine s_len_sl 0 h s Try.underlying34 rfl rfl rfl ?_; intro f h
    refine s_on h rfl rfl rfl ?_
    refine s_pure h (ru_val (.bool false) (ru_neq (h.ev rfl) (h.ev rfl)) (congrArg Value.bool (by rw [y4]; simp))) rfl ?_; intro f h
    refine s_pure h (ru_pick_f (h.ev rfl) (h.ev rfl)) rfl ?_; intro f h
    refine s_nil ?_
    refine hK12 _ _ ?_
    refine wpIn_cond_false (h.ev rfl) ?_
    refine wpIn_skip ?_
    refine hK11 _ _ ?_
    refine c_seq fun K13 hK13 => ?_
    refine c_seq fun K14 hK14 => ?_
    refine c_region ?_
    refine s_pure h (ru_move (h.ev rfl)) rfl ?_; intro f h
    refine s_pure h (ru_lenZ ((s.getG 1 rfl)) Try.underlying34 (h.ev rfl)) rfl ?_; intro f h
    refine s_pure h (ru_move (h.ev rfl)) rfl ?_; intro f h
    refine s_nil ?_
    refine hK14 _ _ ?_
    refine wpIn_block ?_
    refine wpIn_loop_ghost (fun nn aa ww => ∃ k : Nat, Sl 107 aa [(1, .agg (pkArr vs p0.2.1 p0.2.2)), (3, .pointer (some ⟨b3, 0, none⟩)), (5, .pointer (some ⟨b5, 0, none⟩)), (50, v50), (56, v50), (0, (cutV vh (min l.length 34))), (6, .int .i64 (spE t (cutP p0))), (7, vl), (9, v50), (61, .int .i64 ((slL t).length : Int)), (62, .int .i64 (k : Int))] ∧ St w [.sl v50 44 64 (lnkT t).length (lCells (lnkT t)), (.grp kvl (fun w9 => RdZ w9 vl 64 (slL t).length (lCells (slL t)))), .blk b5 (.cells (ssArr va (spD t (cutP p0)).lost (spD t (cutP p0)).hops (spD t (cutP p0)).work) 30), (.grp kva (fun w9 => RdZ w9 va 1 (spD t (cutP p0)).hosts.length (intC (spD t (cutP p0)).hosts))), .blk b3 (.cells (pkArr (cutV vs (min p0.1.length 6)) (cutP p0).2.1 (cutP p0).2.2) 25)] ww ∧ nn = (slL t).length - k ∧ k ≤ (slL t).length) ((slL t).length - (0)) ⟨0, h.only ⟨rfl, rfl, rfl, rfl, rfl, rfl, rfl, rfl, rfl, rfl, slot_int rfl (by omega), trivial⟩, s.as ⟨rfl, rfl, rfl, rfl, rfl, trivial⟩, rfl, Nat.zero_le _⟩ ?_
    rintro _ f w1 ⟨k, h, s, hnn, hp0⟩
    refine c_seq fun K15 hK15 => ?_
    refine c_region ?_
    refine s_pure h (ru_lss (h.ev rfl) (h.ev rfl)) rfl ?_; intro f h
    refine s_nil ?_
    refine hK15 _ _ ?_
    refine c_seq fun K16 hK16 => ?_
    refine c_cond h rfl (fun hc => ?_) (fun hc => ?_)
    · replace hc := of_decide_eq_true hc
      refine wpIn_skip ?_
      refine hK16 _ _ ?_
      refine c_seq fun K17 hK17 => ?_
      refine wpIn_block ?_
      refine c_seq fun K18 hK18 => ?_
      refine c_region ?_
      refine s_pure h (ru_move (h.ev rfl)) rfl ?_; intro f h
      refine s_pure h (ru_assign (h.ev rfl)) rfl ?_; intro f h
      refine s_nil ?_
      refine hK18 _ _ ?_
      refine c_seq fun K19 hK19 => ?_
      refine c_walkN 9 [[], [], [0, 1], [0, 1, 2], [], [], [4, 5], [4, 5, 6], [0, 1, 2, 3, 4, 5, 6, 7]] h (by kernel_rfl) (by kernel_rfl) (by kernel_rfl) ?_
      have hkl : k < (slL t).length := by omega
      have hkm : k < (lnkT t).length := by rw [← y4]; exact hkl
      refine w_pure h (ru_move (h.ev rfl)) rfl ?_; intro f h
      refine w_pure h (ru_move (h.ev rfl)) rfl ?_; intro f h
      refine w_pure h (ru_ixz ((s.getG 1 rfl)) (k) Try.underlying34 szo44 (h.ev rfl) (h.ev rfl) (by omega) (by omega)) rfl ?_; intro f h
      refine w_load_at (((s.getG 1 rfl)).el (k) (by omega) (by decide) (D := lArr ((slL t).getD k (0#256, 0#256))) (lk_el _ k hkl)) h row44 rfl (lArr_size _) rfl ?_; intro f h
      refine w_pure h (ru_move (h.ev rfl)) rfl ?_; intro f h
      refine w_pure h (ru_move (h.ev rfl)) rfl ?_; intro f h
      refine w_pure h (ru_ixz (RdZ.of_own (s.getSl 0 rfl)) (k) Try.underlying34 szo44 (h.ev rfl) (h.ev rfl) (by omega) (by omega)) rfl ?_; intro f h
      refine w_load_at ((RdZ.of_own (s.getSl 0 rfl)).el (k) (by omega) (by decide) (D := lArr ((lnkT t).getD k (0#256, 0#256))) (lk_el _ k hkm)) h row44 rfl (lArr_size _) rfl ?_; intro f h
      refine w_pure h (ru_val (.bool false) (ru_neqW (eqLk _ _) (by kernel_rfl) (by decide) (h.ev rfl) (h.ev rfl) (decide ((slL t).getD k (0#256, 0#256) = (lnkT t).getD k (0#256, 0#256))) (lkEq _ _)) (congrArg Value.bool (by rw [y4]; simp))) rfl ?_; intro f h
      refine w_nil s fun w1 s => ?_
      refine s_nil ?_
      refine hK19 _ _ ?_
      refine wpIn_cond_false (h.ev rfl) ?_
      refine wpIn_skip ?_
      refine b_norm ?_
      refine hK17 _ _ ?_
      refine c_region ?_
      refine s_pure h (ru_add (h.ev rfl) (h.ev rfl) (by omega)) rfl ?_; intro f h
      refine s_pure h (ru_move (h.ev rfl)) rfl ?_; intro f h
      refine s_nil ?_
      refine t_norm ?_
      exact ⟨_, by omega, ⟨k + 1, h.only ⟨rfl, rfl, rfl, rfl, rfl, rfl, rfl, rfl, rfl, rfl, slot_int rfl (by omega), trivial⟩, St.as s ⟨rfl, rfl, rfl, rfl, rfl, trivial⟩, rfl, by omega⟩⟩
    · replace hc := of_decide_eq_false hc
      refine wpIn_exit ?_
      refine t_exit ?_
      refine t_exit ?_
      refine b_exit ?_
      refine hK13 _ _ ?_
      refine c_seq fun K20 hK20 => ?_
      refine c_seq fun K21 hK21 => ?_
      cases r0 : (rightP (cutP p0) : Bool)
      · skip
        refine c_region ?_
        refine s_load_row 4 h s row25 rfl rfl (pkArr_size _ _ _) rfl ?_; intro f h
        refine s_call h s fnc15 (ret_val (.bool false) (rrightp_any (cutP p0) (cutV vs (min p0.1.length 6)) _ (hP.keep s.ext) (by omega)) (congrArg Value.bool r0)) rfl rfl ?_; intro f w1 v9 hT hE h s; obtain rfl := hT
        refine s_pure h (ru_val (.bool true) (ru_not (h.ev rfl)) rfl) rfl ?_; intro f h
        refine s_nil ?_
        refine hK21 _ _ ?_
        refine wpIn_cond_true (h.ev rfl) ?_
        refine c_seq fun K22 hK22 => ?_
        refine c_region ?_
        obtain ⟨y1, y2⟩ := sp_n1 t r0
        refine s_pure h (ru_move (h.ev rfl)) rfl ?_; intro f h
        refine s_pure h (ru_val (.bool true) (ru_eql (h.ev rfl) (h.ev rfl)) (congrArg Value.bool (by rw [y1]; rfl))) rfl ?_; intro f h
        refine s_pure h (ru_move (h.ev rfl)) rfl ?_; intro f h
        refine s_on h rfl rfl rfl ?_
        refine s_load_row 2 h s row30 rfl rfl (ssArr_size _ _ _ _) rfl ?_; intro f h
        refine s_on h rfl rfl rfl ?_
        refine s_pure h (ru_build_ss0 sttSd) rfl ?_; intro f h
        refine s_on h rfl rfl rfl ?_
        refine s_call h s fnc13 (ret_val (.bool true) (rsames_any (spD t (cutP p0)) zSd va nilV _ (s.getG 3 rfl) ⟨rfl, .inl ⟨rfl, rfl⟩⟩ (by have := sp_len (t := t) (p := (cutP p0)); omega) (by decide)) (congrArg Value.bool (by rw [y2]; simp))) rfl rfl ?_; intro f w1 v9 hT hE h s; obtain rfl := hT
        refine s_pure h (ru_pick_t (h.ev rfl) (h.ev rfl)) rfl ?_; intro f h
        refine s_pure h (ru_assign (h.ev rfl)) rfl ?_; intro f h
        refine s_nil ?_
        refine hK22 _ _ ?_
        refine wpIn_ret ?_
        refine t_ret ?_
        exact e_tmp rfl h s rfl (rfl)
      · skip
        refine c_region ?_
        refine s_load_row 4 h s row25 rfl rfl (pkArr_size _ _ _) rfl ?_; intro f h
        refine s_call h s fnc15 (ret_val (.bool true) (rrightp_any (cutP p0) (cutV vs (min p0.1.length 6)) _ (hP.keep s.ext) (by omega)) (congrArg Value.bool r0)) rfl rfl ?_; intro f w1 v9 hT hE h s; obtain rfl := hT
        refine s_pure h (ru_val (.bool false) (ru_not (h.ev rfl)) rfl) rfl ?_; intro f h
        refine s_nil ?_
        refine hK21 _ _ ?_
        refine wpIn_cond_false (h.ev rfl) ?_
        refine wpIn_skip ?_
        refine hK20 _ _ ?_
        refine c_seq fun K23 hK23 => ?_
        refine c_region ?_
        obtain ⟨_, hr2, hr3, hr4⟩ := rightP_iff.1 r0
        refine s_pure h (ru_move (h.ev rfl)) rfl ?_; intro f h
        refine s_load_row 4 h s row25 rfl rfl (pkArr_size _ _ _) rfl ?_; intro f h
        refine s_call h s fnc16 (rdeliver_any t (cutV vh (min l.length 34)) (cutP p0) (cutV vs (min p0.1.length 6)) _ (hT.keep s.ext) (by omega) (hP.keep s.ext) (by omega) t0 r0) rfl rfl ?_; rintro f w1 v88 ⟨vu, rfl, hOw⟩ hE h sq; replace s := s.sl_new hE hOw; clear hOw
        refine s_pure h (ru_move (h.ev rfl)) rfl ?_; intro f h
        refine s_pure h (ru_extract (h.ev rfl) rfl) rfl ?_; intro f h
        refine s_pure h (ru_extract (h.ev rfl) rfl) rfl ?_; intro f h
        refine s_alloc (ssArr nilV 0 0 0) h s zero30 rfl rfl ?_; intro f w1 b11 h s
        refine s_store_row 0 h s row30 rfl rfl rfl (ssArr_size _ _ _ _) (ssArr_size _ _ _ _) (ssArr_ones _ _ _ (own_one (s.getSl 1 rfl))) ?_; intro w1 s
        refine s_pure h (ru_assign (h.ev rfl)) rfl ?_; intro f h
        refine s_nil ?_
        refine hK23 _ _ ?_
        refine c_seq fun K24 hK24 => ?_
        refine c_seq fun K25 hK25 => ?_
        cases d0 : (delB t (cutP p0) : Bool)
        · skip
          refine c_region ?_
          refine s_pure h (ru_val (.bool false) (ru_move (h.ev rfl)) (congrArg Value.bool d0)) rfl ?_; intro f h
          refine s_pure h (ru_val (.bool true) (ru_not (h.ev rfl)) rfl) rfl ?_; intro f h
          refine s_nil ?_
          refine hK25 _ _ ?_
          refine wpIn_cond_true (h.ev rfl) ?_
          refine c_seq fun K26 hK26 => ?_
          refine c_region ?_
          obtain ⟨y1, y2⟩ := sp_ok t0 r0
          rw [d0] at y1
          rw [del_no d0] at y2
          refine s_pure h (ru_move (h.ev rfl)) rfl ?_; intro f h
          refine s_pure h (ru_val (.bool true) (ru_eql (h.ev rfl) (h.ev rfl)) (congrArg Value.bool (by rw [y1]; rfl))) rfl ?_; intro f h
          refine s_pure h (ru_move (h.ev rfl)) rfl ?_; intro f h
          refine s_on h rfl rfl rfl ?_
          refine s_load_row 4 h s row30 rfl rfl (ssArr_size _ _ _ _) rfl ?_; intro f h
          refine s_on h rfl rfl rfl ?_
          refine s_pure h (ru_build_ss0 sttSd) rfl ?_; intro f h
          refine s_on h rfl rfl rfl ?_
          refine s_call h s fnc13 (ret_val (.bool true) (rsames_any (spD t (cutP p0)) zSd va nilV _ (s.getG 5 rfl) ⟨rfl, .inl ⟨rfl, rfl⟩⟩ (by have := sp_len (t := t) (p := (cutP p0)); omega) (by decide)) (congrArg Value.bool (by rw [y2]; simp))) rfl rfl ?_; intro f w1 v9 hT hE h s; obtain rfl := hT
          refine s_pure h (ru_pick_t (h.ev rfl) (h.ev rfl)) rfl ?_; intro f h
          refine s_pure h (ru_assign (h.ev rfl)) rfl ?_; intro f h
          refine s_nil ?_
          refine hK26 _ _ ?_
          refine wpIn_ret ?_
          refine t_ret ?_
          exact e_tmp rfl h s rfl (rfl)
        · skip
          refine c_region ?_
          refine s_pure h (ru_val (.bool true) (ru_move (h.ev rfl)) (congrArg Value.bool d0)) rfl ?_; intro f h
          refine s_pure h (ru_val (.bool false) (ru_not (h.ev rfl)) rfl) rfl ?_; intro f h
          refine s_nil ?_
          refine hK25 _ _ ?_
          refine wpIn_cond_false (h.ev rfl) ?_
          refine wpIn_skip ?_
          refine hK24 _ _ ?_
          refine c_seq fun K27 hK27 => ?_
          refine c_region ?_
          obtain ⟨y1, y2⟩ := sp_ok t0 r0
          rw [d0] at y1
          refine s_pure h (ru_move (h.ev rfl)) rfl ?_; intro f h
          refine s_pure h (ru_val (.bool true) (ru_eql (h.ev rfl) (h.ev rfl)) (congrArg Value.bool (by rw [y1]; rfl))) rfl ?_; intro f h
          refine s_pure h (ru_move (h.ev rfl)) rfl ?_; intro f h
          refine s_on h rfl rfl rfl ?_
          refine s_load_row 4 h s row30 rfl rfl (ssArr_size _ _ _ _) rfl ?_; intro f h
          refine s_on h rfl rfl rfl ?_
          refine s_load_row 0 h s row30 rfl rfl (ssArr_size _ _ _ _) rfl ?_; intro f h
          refine s_on h rfl rfl rfl ?_
          refine s_call h s fnc13 (ret_val (.bool true) (rsames_any (spD t (cutP p0)) (delD t (cutP p0)) va vu _ (s.getG 5 rfl) (RdZ.of_own (s.getSl 1 rfl)) (by have := sp_len (t := t) (p := (cutP p0)); omega) (by have := del_len (t := t) (p := (cutP p0)) hr2; omega)) (congrArg Value.bool (by rw [y2]; simp))) rfl rfl ?_; intro f w1 v9 hT hE h s; obtain rfl := hT
          refine s_pure h (ru_pick_t (h.ev rfl) (h.ev rfl)) rfl ?_; intro f h
          refine s_pure h (ru_assign (h.ev rfl)) rfl ?_; intro f h
          refine s_nil ?_
          refine hK27 _ _ ?_
          refine wpIn_ret ?_
          exact e_tmp rfl h s rfl (rfl)
end Go.Proofs.Ytdehanjhphfanaa
