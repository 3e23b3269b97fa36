/- What SpreadAdds answers: for all arguments. -/
import Derived.Test.YtdehanjhphfanaaVc
import Derived.Test.YtdehanjhphfanaaXl
import Derived.Test.YtdehanjhphfanaaXp
set_option linter.unusedVariables false
set_option linter.unusedSimpArgs false
set_option linter.unusedSectionVars false
namespace Go.Proofs.Ytdehanjhphfanaa
open Go.RowKit
set_option maxHeartbeats 6000000 in
theorem lsadds_any (l : List Tg) (vh : Value) (i : Id) (ho : Int) (w : World) (hR : RdZ w vh 67 l.length (tgCells l)) : Calls Try.prog 6 [vh, idV i, .int .i64 ho].toArray w (Ret w (is (.bool true))) := by
  have hT := tg_take hR (min l.length 34) (by omega)
  obtain ⟨t, ht⟩ : ∃ x9, x9 = l.take (min l.length 34) := ⟨_, rfl⟩
  rw [← ht] at hT
  have htl : t.length ≤ 34 := by rw [ht, List.length_take]; omega
  refine c_enter Try.func6 rfl Try.ntmps6 rfl [(0, vh), (1, idV i), (2, .int .i64 ho)] (by simp) fun f h => ?_
  have s := St.start w
  refine c_seq fun K1 hK1 => ?_
  refine c_region ?_
  refine s_box (idArr i) h s rfl rfl rfl ?_; intro f w1 b4 h s
  refine s_pure h (ru_assign (h.ev rfl)) rfl ?_; intro f h
  refine s_nil ?_
  refine hK1 _ _ ?_
  refine c_seq fun K2 hK2 => ?_
  refine c_region ?_
  refine s_pure h (ru_move (h.ev rfl)) rfl ?_; intro f h
  refine s_call h s fnc7 (sfew_any vh l _ (hR.keep s.ext)) rfl rfl ?_; intro f w1 v9 hT hE h s; obtain rfl := hT
  refine s_pure h (ru_assign (h.ev rfl)) rfl ?_; intro f h
  refine s_nil ?_
  refine hK2 _ _ ?_
  refine c_seq fun K3 hK3 => ?_
  refine c_region ?_
  refine s_pure h (ru_move (h.ev rfl)) rfl ?_; intro f h
  have hm9 := tm_N ho (show (1 : Int) ≤ 16 by decide)
  refine s_pure h (ru_remt (h.ev rfl) (h.ev rfl) (by omega)) rfl ?_; intro f h
  refine s_pure h (ru_add (h.ev rfl) (h.ev rfl) (by omega)) rfl ?_; intro f h
  obtain ⟨h9, hh9, hh0, hh1⟩ := hm_16 ho
  refine s_pure h (ru_val (.int .i64 h9) (ru_remt (h.ev rfl) (h.ev rfl) (by omega)) (congrArg (Value.int .i64) hh9)) rfl ?_; intro f h
  refine s_pure h (ru_assign (h.ev rfl)) rfl ?_; intro f h
  refine s_nil ?_
  refine hK3 _ _ ?_
  refine c_seq fun K4 hK4 => ?_
  refine c_region ?_
  refine s_load_row 0 h s row42 rfl rfl (by first | exact idArr_size _ | exact bytesF_size _ _) rfl ?_; intro f h
  refine s_pure h (ru_build_ei sttE rfl (h.ev rfl)) rfl ?_; intro f h
  refine s_bslice (vs := [.agg (eArr (1, i, 0))]) [.tmp 29] h s Try.underlying23 elm53 rfl rfl (e_szE _) rfl rfl rfl ?_; intro f w1 v30 h s
  replace s := s.resl (m := (pkI i).1.length) (ys := eCells (pkI i).1) 0 rfl rfl ((e_one _).trans (eCells_one _).symm)
  refine s_pure h (ru_build_pk01 sttP (rd_size (RdZ.of_own (s.getSl 0 rfl) : RdE _ v30 (pkI i).1)) (rd_cells (RdZ.of_own (s.getSl 0 rfl) : RdE _ v30 (pkI i).1)) (h.ev rfl) rfl) rfl ?_; intro f h
  refine s_alloc (pkArr nilV 0 ByteArray.empty) h s zero25 rfl rfl ?_; intro f w1 b7 h s
  refine s_store_row 0 h s row25 rfl rfl rfl (pkArr_size _ _ _) (pkArr_size _ _ _) (pkArr_ones _ _ (own_one (s.getSl 1 rfl))) ?_; intro w1 s
  refine s_nil ?_
  refine hK4 _ _ ?_
  refine c_seq fun K5 hK5 => ?_
  refine c_region ?_
  refine s_pure h (ru_move (h.ev rfl)) rfl ?_; intro f h
  refine s_load_row 0 h s row25 rfl rfl (pkArr_size _ _ _) rfl ?_; intro f h
  refine s_call h s fnc9 (spdel_any t (cutV vh (min l.length 34)) (pkI i) v30 _ (hT.keep s.ext) (by first | omega | decide | exact (show 1 ≤ 1000 by decide) | simp) (RdZ.of_own (s.getSl 1 rfl) : RdE _ v30 (pkI i).1) (by first | omega | decide | exact (show 1 ≤ 1000 by decide) | simp)) rfl rfl ?_; rintro f w1 v35 ⟨va, kva, rfl, hG⟩ hE h sq; replace s := s.add hG; clear hG
  refine s_pure h (ru_move (h.ev rfl)) rfl ?_; intro f h
  refine s_pure h (ru_extract (h.ev rfl) rfl) rfl ?_; intro f h
  refine s_pure h (ru_extract (h.ev rfl) rfl) rfl ?_; intro f h
  refine s_alloc (ssArr nilV 0 0 0) h s zero30 rfl rfl ?_; intro f w1 b8 h s
  refine s_store_row 0 h s row30 rfl rfl rfl (ssArr_size _ _ _ _) (ssArr_size _ _ _ _) (ssArr_ones _ _ _ (rd_one ((s.getG 1 rfl)))) ?_; intro w1 s
  refine s_pure h (ru_assign (h.ev rfl)) rfl ?_; intro f h
  refine s_nil ?_
  refine hK5 _ _ ?_
  refine c_seq fun K6 hK6 => ?_
  refine c_region ?_
  refine s_pure h (ru_move (h.ev rfl)) rfl ?_; intro f h
  refine s_pure h (ru_build_eh sttE rfl (h.ev rfl)) rfl ?_; intro f h
  refine s_alloc (eArr (0, 0#256, 0)) h s zero53 rfl rfl ?_; intro f w1 b10 h s
  refine s_store_row 0 h s row53 rfl rfl rfl (eArr_size _) (eArr_size _) (eArr_ones _) ?_; intro w1 s
  refine s_nil ?_
  refine hK6 _ _ ?_
  refine c_seq fun K7 hK7 => ?_
  refine c_seq fun K8 hK8 => ?_
  cases e0 : (decide (spE t (pkI i) = 0) : Bool)
  · skip
    refine c_region ?_
    refine s_pure h (ru_move (h.ev rfl)) rfl ?_; intro f h
    refine s_pure h (ru_val (.bool true) (ru_neq (h.ev rfl) (h.ev rfl)) (congrArg Value.bool (by simpa using e0))) rfl ?_; intro f h
    refine s_nil ?_
    refine hK8 _ _ ?_
    refine wpIn_cond_true (h.ev rfl) ?_
    refine c_seq fun K9 hK9 => ?_
    refine c_region ?_
    have y1 := sp_no (of_decide_eq_false e0)
    refine s_call h s fnc11 (ret_val (.bool true) (salive_any _) (congrArg Value.bool (rfl))) rfl rfl ?_; intro f w1 v9 hT hE h s; obtain rfl := hT
    refine s_pure h (ru_move (h.ev rfl)) rfl ?_; intro f h
    refine s_on h rfl rfl rfl ?_
    refine s_pure h (ru_field fld30_3 (h.ev rfl)) rfl ?_; intro f h
    refine s_on h rfl rfl rfl ?_
    refine s_load_at1 (V := .int .i64 (spD t (pkI i)).work) (cell_of_has (Has.of_own s 1 rfl) 3 (ss_k _ _ _ _)) h one3 rfl rfl ?_; intro f h
    refine s_on h rfl rfl rfl ?_
    refine s_pure h (ru_val (.bool true) (ru_eql (h.ev rfl) (h.ev rfl)) (congrArg Value.bool (by rw [y1]; rfl))) rfl ?_; intro f h
    refine s_pure h (ru_pick_t (h.ev rfl) (h.ev rfl)) rfl ?_; intro f h
    refine s_pure h (ru_assign (h.ev rfl)) rfl ?_; intro f h
    refine s_nil ?_
    refine hK9 _ _ ?_
    refine wpIn_ret ?_
    refine t_ret ?_
    exact e_tmp rfl h s rfl (rfl)
  · skip
    refine c_region ?_
    refine s_pure h (ru_move (h.ev rfl)) rfl ?_; intro f h
    refine s_pure h (ru_val (.bool false) (ru_neq (h.ev rfl) (h.ev rfl)) (congrArg Value.bool (by simpa using e0))) rfl ?_; intro f h
    refine s_nil ?_
    refine hK8 _ _ ?_
    refine wpIn_cond_false (h.ev rfl) ?_
    refine wpIn_skip ?_
    refine hK7 _ _ ?_
    refine c_seq fun K10 hK10 => ?_
    refine c_region ?_
    refine s_pure h (ru_move (h.ev rfl)) rfl ?_; intro f h
    refine s_load_row 5 h s row42 rfl rfl (by first | exact idArr_size _ | exact bytesF_size _ _) rfl ?_; intro f h
    refine s_load_row 0 h s row53 rfl rfl (eArr_size _) rfl ?_; intro f h
    refine s_pure h (ru_build_tg3 sttG (h.ev rfl) (h.ev rfl) rfl) rfl ?_; intro f h
    refine s_call h s fnc19 (tput_any t (cutV vh (min l.length 34)) (tgI i h9) _ (hT.keep s.ext) (by omega)) rfl rfl ?_; rintro f w1 v53 ⟨vm, kvm, rfl, hG⟩ hE h sq; replace s := s.add hG; clear hG
    have hpm := putR_le t (tgI i h9)
    refine s_pure h (ru_move (h.ev rfl)) rfl ?_; intro f h
    refine s_pure h (ru_extract (h.ev rfl) rfl) rfl ?_; intro f h
    refine s_pure h (ru_extract (h.ev rfl) rfl) rfl ?_; intro f h
    refine s_pure h (ru_assign (h.ev rfl)) rfl ?_; intro f h
    refine s_pure h (ru_assign (h.ev rfl)) rfl ?_; intro f h
    refine s_nil ?_
    refine hK10 _ _ ?_
    refine c_seq fun K11 hK11 => ?_
    refine c_seq fun K12 hK12 => ?_
    cases w0 : (decide (putE t (tgI i h9) = 0) : Bool)
    · skip
      refine c_region ?_
      refine s_pure h (ru_move (h.ev rfl)) rfl ?_; intro f h
      refine s_pure h (ru_val (.bool true) (ru_neq (h.ev rfl) (h.ev rfl)) (congrArg Value.bool (by simpa using w0))) rfl ?_; intro f h
      refine s_pure h (ru_move (h.ev rfl)) rfl ?_; intro f h
      refine s_off (b := false) h rfl rfl rfl rfl ?_; intro f h
      refine s_off (b := false) h rfl rfl rfl rfl ?_; intro f h
      refine s_off (b := false) h rfl rfl rfl rfl ?_; intro f h
      refine s_off (b := false) h rfl rfl rfl rfl ?_; intro f h
      refine s_off (b := false) h rfl rfl rfl rfl ?_; intro f h
      refine s_pure h (ru_pick_t (h.ev rfl) (h.ev rfl)) rfl ?_; intro f h
      refine s_nil ?_
      refine hK12 _ _ ?_
      refine wpIn_cond_true (h.ev rfl) ?_
      refine c_seq fun K13 hK13 => ?_
      refine c_region ?_
      refine s_call h s fnc11 (ret_val (.bool true) (salive_any _) (congrArg Value.bool (rfl))) rfl rfl ?_; intro f w1 v9 hT hE h s; obtain rfl := hT
      refine s_pure h (ru_assign (h.ev rfl)) rfl ?_; intro f h
      refine s_nil ?_
      refine hK13 _ _ ?_
      refine wpIn_ret ?_
      refine t_ret ?_
      exact e_tmp rfl h s rfl (rfl)
    · skip
      cases q0 : (decide ((putR t (tgI i h9)).length = t.length) : Bool)
      · skip
        refine c_region ?_
        refine s_pure h (ru_move (h.ev rfl)) rfl ?_; intro f h
        refine s_pure h (ru_val (.bool false) (ru_neq (h.ev rfl) (h.ev rfl)) (congrArg Value.bool (by simpa using w0))) rfl ?_; intro f h
        refine s_pure h (ru_move (h.ev rfl)) rfl ?_; intro f h
        refine s_on h rfl rfl rfl ?_
        refine s_pure h (ru_move (h.ev rfl)) rfl ?_; intro f h
        refine s_on h rfl rfl rfl ?_
        refine s_pure h (ru_lenZ (((s.getG 0 rfl) (hT.keep s.ext))) Try.underlying22 (h.ev rfl)) rfl ?_; intro f h
        refine s_on h rfl rfl rfl ?_
        refine s_pure h (ru_move (h.ev rfl)) rfl ?_; intro f h
        refine s_on h rfl rfl rfl ?_
        refine s_pure h (ru_lenZ (hT.keep s.ext) Try.underlying22 (h.ev rfl)) rfl ?_; intro f h
        refine s_on h rfl rfl rfl ?_
        refine s_pure h (ru_val (.bool false) (ru_eql (h.ev rfl) (h.ev rfl)) (congrArg Value.bool ((decide_eq_decide.2 (by omega)).trans q0))) rfl ?_; intro f h
        refine s_pure h (ru_pick_f (h.ev rfl) (h.ev rfl)) rfl ?_; intro f h
        refine s_nil ?_
        refine hK12 _ _ ?_
        refine wpIn_cond_false (h.ev rfl) ?_
        refine wpIn_skip ?_
        refine hK11 _ _ ?_
        refine c_seq fun K14 hK14 => ?_
        refine c_region ?_
        refine s_load_row 6 h s row42 rfl rfl (by first | exact idArr_size _ | exact bytesF_size _ _) rfl ?_; intro f h
        refine s_load_row 1 h s row53 rfl rfl (eArr_size _) rfl ?_; intro f h
        refine s_pure h (ru_build_tg3 sttG (h.ev rfl) (h.ev rfl) rfl) rfl ?_; intro f h
        refine s_bslice (vs := [.agg (tgArr (tgI i h9))]) [.tmp 69] h s Try.underlying22 elm58 rfl rfl (tg_sz _) rfl rfl rfl ?_; intro f w1 v70 h s
        replace s := s.resl (m := [(tgI i h9)].length) (ys := tgCells [(tgI i h9)]) 0 rfl rfl (by rw [one_tg, tgCells_one])
        refine s_load_row 5 h s row25 rfl rfl (pkArr_size _ _ _) rfl ?_; intro f h
        refine s_call h s fnc9 (spdel_any [(tgI i h9)] v70 (pkI i) v30 _ (RdZ.of_own (s.getSl 0 rfl) : RdT _ v70 [(tgI i h9)]) (by first | omega | decide | exact (show 1 ≤ 1000 by decide) | simp) (RdZ.of_own (s.getSl 6 rfl) : RdE _ v30 (pkI i).1) (by first | omega | decide | exact (show 1 ≤ 1000 by decide) | simp)) rfl rfl ?_; rintro f w1 v72 ⟨vc, kvc, rfl, hG⟩ hE h sq; replace s := s.add hG; clear hG
        refine s_pure h (ru_move (h.ev rfl)) rfl ?_; intro f h
        refine s_pure h (ru_extract (h.ev rfl) rfl) rfl ?_; intro f h
        refine s_pure h (ru_extract (h.ev rfl) rfl) rfl ?_; intro f h
        refine s_alloc (ssArr nilV 0 0 0) h s zero30 rfl rfl ?_; intro f w1 b13 h s
        refine s_store_row 0 h s row30 rfl rfl rfl (ssArr_size _ _ _ _) (ssArr_size _ _ _ _) (ssArr_ones _ _ _ (rd_one ((s.getG 1 rfl)))) ?_; intro w1 s
        refine s_pure h (ru_assign (h.ev rfl)) rfl ?_; intro f h
        refine s_nil ?_
        refine hK14 _ _ ?_
        refine c_seq fun K15 hK15 => ?_
        refine c_region ?_
        refine s_load_row 9 h s row42 rfl rfl (by first | exact idArr_size _ | exact bytesF_size _ _) rfl ?_; intro f h
        refine s_alloc (idArr 0#256) h s zero42 rfl rfl ?_; intro f w1 b15 h s
        refine s_store_row 0 h s row42 rfl rfl rfl (by first | exact idArr_size _ | exact bytesF_size _ _) (by first | exact idArr_size _ | exact bytesF_size _ _) (by first | exact idArr_ones _ | exact bytesF_ones _ _) ?_; intro w1 s
        refine s_nil ?_
        refine hK15 _ _ ?_
        refine c_seq fun K16 hK16 => ?_
        refine c_region ?_
        refine s_pure h (ru_ix (0) Try.underlying42 size5 (h.ev rfl) (h.ev rfl) (by omega) (by omega)) rfl ?_; intro f h
        refine s_load_one 0 h s one5 rfl rfl (idArr_get _ _ (by omega)) rfl ?_; intro f h
        have hbt := byteAt_lt i 0
        refine s_pure h (ru_xor_u8 (b := 255) (h.ev rfl) (h.ev rfl) (by omega) (by decide)) rfl ?_; intro f h
        refine s_pure h (ru_ix (0) Try.underlying42 size5 (h.ev rfl) (h.ev rfl) (by omega) (by omega)) rfl ?_; intro f h
        refine s_store_one 0 h s one5 rfl rfl rfl (by simp) (rfl) ?_; intro w1 s
        replace s := s.recell (D := idArr (farI i)) 0 rfl (farI_set i)
        refine s_nil ?_
        refine hK16 _ _ ?_
        refine c_seq fun K17 hK17 => ?_
        refine c_seq fun K18 hK18 => ?_
        refine c_region ?_
        refine s_pure h (ru_move (h.ev rfl)) rfl ?_; intro f h
        refine s_pure h (ru_lenZ (hT.keep s.ext) Try.underlying22 (h.ev rfl)) rfl ?_; intro f h
        refine s_pure h (ru_move (h.ev rfl)) rfl ?_; intro f h
        refine s_nil ?_
        refine hK18 _ _ ?_
        refine wpIn_block ?_
        refine wpIn_loop_ghost (fun nn aa ww => ∃ k : Nat, Sl 160 aa [(1, idV i), (4, .pointer (some ⟨b4, 0, none⟩)), (7, .pointer (some ⟨b7, 0, none⟩)), (8, .pointer (some ⟨b8, 0, none⟩)), (10, .pointer (some ⟨b10, 0, none⟩)), (13, .pointer (some ⟨b13, 0, none⟩)), (15, .pointer (some ⟨b15, 0, none⟩)), (30, v30), (70, v70), (0, (cutV vh (min l.length 34))), (2, .int .i64 h9), (9, .int .i64 (spE t (pkI i))), (14, .int .i64 (spE [(tgI i h9)] (pkI i))), (80, (cutV vh (min l.length 34))), (81, .int .i64 (t.length : Int)), (82, .int .i64 (k : Int))] ∧ St w [.blk b15 (.cells (idArr (farI i)) 42), .blk b13 (.cells (ssArr vc (spD [(tgI i h9)] (pkI i)).lost (spD [(tgI i h9)] (pkI i)).hops (spD [(tgI i h9)] (pkI i)).work) 30), (.grp kvc (fun w9 => RdZ w9 vc 1 (spD [(tgI i h9)] (pkI i)).hosts.length (intC (spD [(tgI i h9)] (pkI i)).hosts))), .sl v70 58 67 [(tgI i h9)].length (tgCells [(tgI i h9)]), (.grp kvm (fun w9 => RdT w9 (cutV vh (min l.length 34)) t → RdT w9 vm (putR t (tgI i h9)))), .blk b10 (.cells (eArr (2, 0#256, h9)) 53), .blk b8 (.cells (ssArr va (spD t (pkI i)).lost (spD t (pkI i)).hops (spD t (pkI i)).work) 30), (.grp kva (fun w9 => RdZ w9 va 1 (spD t (pkI i)).hosts.length (intC (spD t (pkI i)).hosts))), .blk b7 (.cells (pkArr v30 64 ByteArray.empty) 25), .sl v30 53 34 (pkI i).1.length (eCells (pkI i).1), .blk b4 (.cells (idArr i) 42)] ww ∧ nn = t.length - k ∧ k ≤ t.length ∧ ∀ j, j < k → farQ (farI i) (t.getD j zTg) = false) (t.length - (0)) ⟨0, h.only ⟨rfl, rfl, rfl, rfl, rfl, rfl, rfl, rfl, rfl, rfl, rfl, rfl, rfl, rfl, rfl, slot_int rfl (by omega), trivial⟩, s.as ⟨rfl, rfl, rfl, rfl, rfl, rfl, rfl, rfl, rfl, rfl, rfl, trivial⟩, rfl, Nat.zero_le _, fun j hj => absurd hj (Nat.not_lt_zero _)⟩ ?_
        rintro _ f w1 ⟨k, h, s, hnn, hp0, hp1⟩
        refine c_seq fun K19 hK19 => ?_
        refine c_region ?_
        refine s_pure h (ru_lss (h.ev rfl) (h.ev rfl)) rfl ?_; intro f h
        refine s_nil ?_
        refine hK19 _ _ ?_
        refine c_seq fun K20 hK20 => ?_
        refine c_cond h rfl (fun hc => ?_) (fun hc => ?_)
        · replace hc := of_decide_eq_true hc
          refine wpIn_skip ?_
          refine hK20 _ _ ?_
          refine c_seq fun K21 hK21 => ?_
          refine wpIn_block ?_
          refine c_seq fun K22 hK22 => ?_
          refine c_region ?_
          have hkt : k < t.length := by omega
          have hbf := byteAt_lt (farI i) 0
          refine s_pure h (ru_ixz (hT.keep s.ext) (k) Try.underlying22 szo58 (h.ev rfl) (h.ev rfl) (by omega) (by omega)) rfl ?_; intro f h
          refine s_load_at ((hT.keep s.ext).el (k) (by omega) (by decide) (D := tgArr (t.getD k zTg)) (tgr_el t k hkt)) h row58 rfl (tgArr_size _) rfl ?_; intro f h
          refine s_alloc (tgArr zTg) h s zero58 rfl rfl ?_; intro f w1 b17 h s
          refine s_store_row 0 h s row58 rfl rfl rfl (tgArr_size _) (tgArr_size _) (tgArr_ones _) ?_; intro w1 s
          refine s_nil ?_
          refine hK22 _ _ ?_
          refine c_seq fun K23 hK23 => ?_
          cases f0 : (decide (byteAt (t.getD k zTg).1 0 = byteAt (farI i) 0) : Bool)
          · skip
            cases f1 : (decide ((t.getD k zTg).2.1.1 = 1) : Bool)
            · skip
              refine c_region ?_
              refine s_pure h (ru_field fld58_0 (h.ev rfl)) rfl ?_; intro f h
              refine s_pure h (ru_ix_at (0) Try.underlying42 size5 (h.ev rfl) (h.ev rfl) (by omega) (by omega)) rfl ?_; intro f h
              refine s_load_one 0 h s one5 rfl rfl (tg_b0 _) rfl ?_; intro f h
              refine s_pure h (ru_ix (0) Try.underlying42 size5 (h.ev rfl) (h.ev rfl) (by omega) (by omega)) rfl ?_; intro f h
              refine s_load_one 1 h s one5 rfl rfl (idArr_get _ _ (by omega)) rfl ?_; intro f h
              refine s_pure h (ru_val (.bool false) (ru_eql (h.ev rfl) (h.ev rfl)) (congrArg Value.bool ((decide_eq_decide.2 (by omega)).trans f0))) rfl ?_; intro f h
              refine s_pure h (ru_move (h.ev rfl)) rfl ?_; intro f h
              refine s_on h rfl rfl rfl ?_
              refine s_pure h (ru_field fld58_1 (h.ev rfl)) rfl ?_; intro f h
              refine s_on h rfl rfl rfl ?_
              refine s_pure h (ru_field fld53_0 (h.ev rfl)) rfl ?_; intro f h
              refine s_on h rfl rfl rfl ?_
              refine s_load_at1 (cell_of_has (Has.of_own s 0 rfl) 32 (tgArr_kind _)) h one3 rfl rfl ?_; intro f h
              refine s_on h rfl rfl rfl ?_
              refine s_pure h (ru_val (.bool false) (ru_eql (h.ev rfl) (h.ev rfl)) (congrArg Value.bool f1)) rfl ?_; intro f h
              refine s_on h rfl rfl rfl ?_
              refine s_pure h (ru_move (h.ev rfl)) rfl ?_; intro f h
              refine s_off (b := true) h rfl rfl rfl rfl ?_; intro f h
              refine s_off (b := true) h rfl rfl rfl rfl ?_; intro f h
              refine s_off (b := true) h rfl rfl rfl rfl ?_; intro f h
              refine s_off (b := true) h rfl rfl rfl rfl ?_; intro f h
              refine s_off (b := true) h rfl rfl rfl rfl ?_; intro f h
              refine s_off (b := true) h rfl rfl rfl rfl ?_; intro f h
              refine s_off (b := true) h rfl rfl rfl rfl ?_; intro f h
              refine s_on h rfl rfl rfl ?_
              refine s_pure h (ru_pick_f (h.ev rfl) (h.ev rfl)) rfl ?_; intro f h
              refine s_pure h (ru_pick_f (h.ev rfl) (h.ev rfl)) rfl ?_; intro f h
              refine s_nil ?_
              refine hK23 _ _ ?_
              refine wpIn_cond_false (h.ev rfl) ?_
              refine wpIn_skip ?_
              refine b_norm ?_
              refine hK21 _ _ ?_
              refine c_region ?_
              refine s_pure h (ru_add (h.ev rfl) (h.ev rfl) (by omega)) rfl ?_; intro f h
              refine s_pure h (ru_move (h.ev rfl)) rfl ?_; intro f h
              refine s_nil ?_
              refine t_norm ?_
              exact ⟨_, by omega, ⟨k + 1, h.only ⟨rfl, rfl, rfl, rfl, rfl, rfl, rfl, rfl, rfl, rfl, rfl, rfl, rfl, rfl, rfl, slot_int rfl (by omega), trivial⟩, St.as (s.pick _ (List.sublist_append_right [_] _)) ⟨rfl, rfl, rfl, rfl, rfl, rfl, rfl, rfl, rfl, rfl, rfl, trivial⟩, rfl, by omega, qs_next hp1 (farQ_n0 f0 f1)⟩⟩
            · skip
              cases f2 : (decide (byteAt (t.getD k zTg).2.1.2.1 0 = byteAt (farI i) 0) : Bool)
              · skip
                refine c_region ?_
                refine s_pure h (ru_field fld58_0 (h.ev rfl)) rfl ?_; intro f h
                refine s_pure h (ru_ix_at (0) Try.underlying42 size5 (h.ev rfl) (h.ev rfl) (by omega) (by omega)) rfl ?_; intro f h
                refine s_load_one 0 h s one5 rfl rfl (tg_b0 _) rfl ?_; intro f h
                refine s_pure h (ru_ix (0) Try.underlying42 size5 (h.ev rfl) (h.ev rfl) (by omega) (by omega)) rfl ?_; intro f h
                refine s_load_one 1 h s one5 rfl rfl (idArr_get _ _ (by omega)) rfl ?_; intro f h
                refine s_pure h (ru_val (.bool false) (ru_eql (h.ev rfl) (h.ev rfl)) (congrArg Value.bool ((decide_eq_decide.2 (by omega)).trans f0))) rfl ?_; intro f h
                refine s_pure h (ru_move (h.ev rfl)) rfl ?_; intro f h
                refine s_on h rfl rfl rfl ?_
                refine s_pure h (ru_field fld58_1 (h.ev rfl)) rfl ?_; intro f h
                refine s_on h rfl rfl rfl ?_
                refine s_pure h (ru_field fld53_0 (h.ev rfl)) rfl ?_; intro f h
                refine s_on h rfl rfl rfl ?_
                refine s_load_at1 (cell_of_has (Has.of_own s 0 rfl) 32 (tgArr_kind _)) h one3 rfl rfl ?_; intro f h
                refine s_on h rfl rfl rfl ?_
                refine s_pure h (ru_val (.bool true) (ru_eql (h.ev rfl) (h.ev rfl)) (congrArg Value.bool f1)) rfl ?_; intro f h
                refine s_on h rfl rfl rfl ?_
                refine s_pure h (ru_move (h.ev rfl)) rfl ?_; intro f h
                refine s_on h rfl rfl rfl ?_
                refine s_pure h (ru_field fld58_1 (h.ev rfl)) rfl ?_; intro f h
                refine s_on h rfl rfl rfl ?_
                refine s_pure h (ru_field fld53_1 (h.ev rfl)) rfl ?_; intro f h
                refine s_on h rfl rfl rfl ?_
                refine s_pure h (ru_ix_at (0) Try.underlying42 size5 (h.ev rfl) (h.ev rfl) (by omega) (by omega)) rfl ?_; intro f h
                refine s_on h rfl rfl rfl ?_
                refine s_load_one 0 h s one5 rfl rfl (tg_b33 _) rfl ?_; intro f h
                refine s_on h rfl rfl rfl ?_
                refine s_pure h (ru_ix (0) Try.underlying42 size5 (h.ev rfl) (h.ev rfl) (by omega) (by omega)) rfl ?_; intro f h
                refine s_on h rfl rfl rfl ?_
                refine s_load_one 1 h s one5 rfl rfl (idArr_get _ _ (by omega)) rfl ?_; intro f h
                refine s_on h rfl rfl rfl ?_
                refine s_pure h (ru_val (.bool false) (ru_eql (h.ev rfl) (h.ev rfl)) (congrArg Value.bool ((decide_eq_decide.2 (by omega)).trans f2))) rfl ?_; intro f h
                refine s_on h rfl rfl rfl ?_
                refine s_pure h (ru_pick_t (h.ev rfl) (h.ev rfl)) rfl ?_; intro f h
                refine s_pure h (ru_pick_f (h.ev rfl) (h.ev rfl)) rfl ?_; intro f h
                refine s_nil ?_
                refine hK23 _ _ ?_
                refine wpIn_cond_false (h.ev rfl) ?_
                refine wpIn_skip ?_
                refine b_norm ?_
                refine hK21 _ _ ?_
                refine c_region ?_
                refine s_pure h (ru_add (h.ev rfl) (h.ev rfl) (by omega)) rfl ?_; intro f h
                refine s_pure h (ru_move (h.ev rfl)) rfl ?_; intro f h
                refine s_nil ?_
                refine t_norm ?_
                exact ⟨_, by omega, ⟨k + 1, h.only ⟨rfl, rfl, rfl, rfl, rfl, rfl, rfl, rfl, rfl, rfl, rfl, rfl, rfl, rfl, rfl, slot_int rfl (by omega), trivial⟩, St.as (s.pick _ (List.sublist_append_right [_] _)) ⟨rfl, rfl, rfl, rfl, rfl, rfl, rfl, rfl, rfl, rfl, rfl, trivial⟩, rfl, by omega, qs_next hp1 (farQ_n1 f0 f1 f2)⟩⟩
              · skip
                refine c_region ?_
                refine s_pure h (ru_field fld58_0 (h.ev rfl)) rfl ?_; intro f h
                refine s_pure h (ru_ix_at (0) Try.underlying42 size5 (h.ev rfl) (h.ev rfl) (by omega) (by omega)) rfl ?_; intro f h
                refine s_load_one 0 h s one5 rfl rfl (tg_b0 _) rfl ?_; intro f h
                refine s_pure h (ru_ix (0) Try.underlying42 size5 (h.ev rfl) (h.ev rfl) (by omega) (by omega)) rfl ?_; intro f h
                refine s_load_one 1 h s one5 rfl rfl (idArr_get _ _ (by omega)) rfl ?_; intro f h
                refine s_pure h (ru_val (.bool false) (ru_eql (h.ev rfl) (h.ev rfl)) (congrArg Value.bool ((decide_eq_decide.2 (by omega)).trans f0))) rfl ?_; intro f h
                refine s_pure h (ru_move (h.ev rfl)) rfl ?_; intro f h
                refine s_on h rfl rfl rfl ?_
                refine s_pure h (ru_field fld58_1 (h.ev rfl)) rfl ?_; intro f h
                refine s_on h rfl rfl rfl ?_
                refine s_pure h (ru_field fld53_0 (h.ev rfl)) rfl ?_; intro f h
                refine s_on h rfl rfl rfl ?_
                refine s_load_at1 (cell_of_has (Has.of_own s 0 rfl) 32 (tgArr_kind _)) h one3 rfl rfl ?_; intro f h
                refine s_on h rfl rfl rfl ?_
                refine s_pure h (ru_val (.bool true) (ru_eql (h.ev rfl) (h.ev rfl)) (congrArg Value.bool f1)) rfl ?_; intro f h
                refine s_on h rfl rfl rfl ?_
                refine s_pure h (ru_move (h.ev rfl)) rfl ?_; intro f h
                refine s_on h rfl rfl rfl ?_
                refine s_pure h (ru_field fld58_1 (h.ev rfl)) rfl ?_; intro f h
                refine s_on h rfl rfl rfl ?_
                refine s_pure h (ru_field fld53_1 (h.ev rfl)) rfl ?_; intro f h
                refine s_on h rfl rfl rfl ?_
                refine s_pure h (ru_ix_at (0) Try.underlying42 size5 (h.ev rfl) (h.ev rfl) (by omega) (by omega)) rfl ?_; intro f h
                refine s_on h rfl rfl rfl ?_
                refine s_load_one 0 h s one5 rfl rfl (tg_b33 _) rfl ?_; intro f h
                refine s_on h rfl rfl rfl ?_
                refine s_pure h (ru_ix (0) Try.underlying42 size5 (h.ev rfl) (h.ev rfl) (by omega) (by omega)) rfl ?_; intro f h
                refine s_on h rfl rfl rfl ?_
                refine s_load_one 1 h s one5 rfl rfl (idArr_get _ _ (by omega)) rfl ?_; intro f h
                refine s_on h rfl rfl rfl ?_
                refine s_pure h (ru_val (.bool true) (ru_eql (h.ev rfl) (h.ev rfl)) (congrArg Value.bool ((decide_eq_decide.2 (by omega)).trans f2))) rfl ?_; intro f h
                refine s_on h rfl rfl rfl ?_
                refine s_pure h (ru_pick_t (h.ev rfl) (h.ev rfl)) rfl ?_; intro f h
                refine s_pure h (ru_pick_f (h.ev rfl) (h.ev rfl)) rfl ?_; intro f h
                refine s_nil ?_
                refine hK23 _ _ ?_
                refine wpIn_cond_true (h.ev rfl) ?_
                refine c_seq fun K24 hK24 => ?_
                refine c_region ?_
                refine s_call h s fnc11 (ret_val (.bool true) (salive_any _) (congrArg Value.bool (rfl))) rfl rfl ?_; intro f w1 v9 hT hE h s; obtain rfl := hT
                refine s_pure h (ru_assign (h.ev rfl)) rfl ?_; intro f h
                refine s_nil ?_
                refine hK24 _ _ ?_
                refine wpIn_ret ?_
                refine b_ret ?_
                refine t_ret ?_
                refine t_ret ?_
                refine b_ret ?_
                refine t_ret ?_
                exact e_tmp rfl h s rfl (rfl)
          · skip
            refine c_region ?_
            refine s_pure h (ru_field fld58_0 (h.ev rfl)) rfl ?_; intro f h
            refine s_pure h (ru_ix_at (0) Try.underlying42 size5 (h.ev rfl) (h.ev rfl) (by omega) (by omega)) rfl ?_; intro f h
            refine s_load_one 0 h s one5 rfl rfl (tg_b0 _) rfl ?_; intro f h
            refine s_pure h (ru_ix (0) Try.underlying42 size5 (h.ev rfl) (h.ev rfl) (by omega) (by omega)) rfl ?_; intro f h
            refine s_load_one 1 h s one5 rfl rfl (idArr_get _ _ (by omega)) rfl ?_; intro f h
            refine s_pure h (ru_val (.bool true) (ru_eql (h.ev rfl) (h.ev rfl)) (congrArg Value.bool ((decide_eq_decide.2 (by omega)).trans f0))) rfl ?_; intro f h
            refine s_pure h (ru_move (h.ev rfl)) rfl ?_; intro f h
            refine s_off (b := false) h rfl rfl rfl rfl ?_; intro f h
            refine s_off (b := false) h rfl rfl rfl rfl ?_; intro f h
            refine s_off (b := false) h rfl rfl rfl rfl ?_; intro f h
            refine s_off (b := false) h rfl rfl rfl rfl ?_; intro f h
            refine s_off (b := false) h rfl rfl rfl rfl ?_; intro f h
            refine s_none h rfl rfl rfl rfl ?_; intro f h
            refine s_none h rfl rfl rfl rfl ?_; intro f h
            refine s_none h rfl rfl rfl rfl ?_; intro f h
            refine s_none h rfl rfl rfl rfl ?_; intro f h
            refine s_none h rfl rfl rfl rfl ?_; intro f h
            refine s_none h rfl rfl rfl rfl ?_; intro f h
            refine s_none h rfl rfl rfl rfl ?_; intro f h
            refine s_off (b := false) h rfl rfl rfl rfl ?_; intro f h
            refine s_pure h (ru_pick_t (h.ev rfl) (h.ev rfl)) rfl ?_; intro f h
            refine s_nil ?_
            refine hK23 _ _ ?_
            refine wpIn_cond_true (h.ev rfl) ?_
            refine c_seq fun K25 hK25 => ?_
            refine c_region ?_
            refine s_call h s fnc11 (ret_val (.bool true) (salive_any _) (congrArg Value.bool (rfl))) rfl rfl ?_; intro f w1 v9 hT hE h s; obtain rfl := hT
            refine s_pure h (ru_assign (h.ev rfl)) rfl ?_; intro f h
            refine s_nil ?_
            refine hK25 _ _ ?_
            refine wpIn_ret ?_
            refine b_ret ?_
            refine t_ret ?_
            refine t_ret ?_
            refine b_ret ?_
            refine t_ret ?_
            exact e_tmp rfl h s rfl (rfl)
        · replace hc := of_decide_eq_false hc
          refine wpIn_exit ?_
          refine t_exit ?_
          refine t_exit ?_
          refine b_exit ?_
          refine hK17 _ _ ?_
          refine c_seq fun K26 hK26 => ?_
          refine c_region ?_
          refine s_pure h (ru_move (h.ev rfl)) rfl ?_; intro f h
          refine s_load_row 0 h s row42 rfl rfl (by first | exact idArr_size _ | exact bytesF_size _ _) rfl ?_; intro f h
          refine s_load_row 5 h s row53 rfl rfl (eArr_size _) rfl ?_; intro f h
          refine s_pure h (ru_build_tg3 sttG (h.ev rfl) (h.ev rfl) rfl) rfl ?_; intro f h
          refine s_call h s fnc19 (tput_any t (cutV vh (min l.length 34)) (tgI (farI i) h9) _ (hT.keep s.ext) (by omega)) rfl rfl ?_; rintro f w1 v114 ⟨vo, kvo, rfl, hG⟩ hE h sq; replace s := s.add hG; clear hG
          have hpo := putR_le t (tgI (farI i) h9)
          refine s_pure h (ru_move (h.ev rfl)) rfl ?_; intro f h
          refine s_pure h (ru_extract (h.ev rfl) rfl) rfl ?_; intro f h
          refine s_pure h (ru_extract (h.ev rfl) rfl) rfl ?_; intro f h
          refine s_pure h (ru_assign (h.ev rfl)) rfl ?_; intro f h
          refine s_pure h (ru_assign (h.ev rfl)) rfl ?_; intro f h
          refine s_nil ?_
          refine hK26 _ _ ?_
          refine c_seq fun K27 hK27 => ?_
          refine c_region ?_
          refine s_pure h (ru_move (h.ev rfl)) rfl ?_; intro f h
          refine s_load_row 9 h s row25 rfl rfl (pkArr_size _ _ _) rfl ?_; intro f h
          refine s_call h s fnc9 (spdel_any (putR t (tgI (farI i) h9)) vo (pkI i) v30 _ ((s.getG 0 rfl) (hT.keep s.ext)) (by first | omega | decide | exact (show 1 ≤ 1000 by decide) | simp) (RdZ.of_own (s.getSl 10 rfl) : RdE _ v30 (pkI i).1) (by first | omega | decide | exact (show 1 ≤ 1000 by decide) | simp)) rfl rfl ?_; rintro f w1 v120 ⟨vx, kvx, rfl, hG⟩ hE h sq; replace s := s.add hG; clear hG
          refine s_pure h (ru_move (h.ev rfl)) rfl ?_; intro f h
          refine s_pure h (ru_extract (h.ev rfl) rfl) rfl ?_; intro f h
          refine s_pure h (ru_extract (h.ev rfl) rfl) rfl ?_; intro f h
          refine s_alloc (ssArr nilV 0 0 0) h s zero30 rfl rfl ?_; intro f w1 b20 h s
          refine s_store_row 0 h s row30 rfl rfl rfl (ssArr_size _ _ _ _) (ssArr_size _ _ _ _) (ssArr_ones _ _ _ (rd_one ((s.getG 1 rfl)))) ?_; intro w1 s
          refine s_pure h (ru_assign (h.ev rfl)) rfl ?_; intro f h
          refine s_nil ?_
          refine hK27 _ _ ?_
          refine c_seq fun K28 hK28 => ?_
          cases o0 : (decide (putE t (tgI (farI i) h9) = 0) : Bool)
          · skip
            refine c_region ?_
            obtain ⟨u1, u2⟩ := sp_alone (i := i) hh0 hh1
            refine s_call h s fnc11 (ret_val (.bool true) (salive_any _) (congrArg Value.bool (rfl))) rfl rfl ?_; intro f w1 v9 hT hE h s; obtain rfl := hT
            refine s_pure h (ru_move (h.ev rfl)) rfl ?_; intro f h
            refine s_on h rfl rfl rfl ?_
            refine s_pure h (ru_move (h.ev rfl)) rfl ?_; intro f h
            refine s_on h rfl rfl rfl ?_
            refine s_pure h (ru_val (.bool true) (ru_eql (h.ev rfl) (h.ev rfl)) (congrArg Value.bool (by rw [u1]; rfl))) rfl ?_; intro f h
            refine s_pure h (ru_pick_t (h.ev rfl) (h.ev rfl)) rfl ?_; intro f h
            refine s_pure h (ru_move (h.ev rfl)) rfl ?_; intro f h
            refine s_on h rfl rfl rfl ?_
            refine s_pure h (ru_field fld30_0 (h.ev rfl)) rfl ?_; intro f h
            refine s_on h rfl rfl rfl ?_
            refine s_load_at1 (V := vc) (cell_of_has (Has.of_own s 4 rfl) 0 (ss_v _ _ _ _)) h one28 rfl rfl ?_; intro f h
            refine s_on h rfl rfl rfl ?_
            refine s_pure h (ru_lenZ ((s.getG 5 rfl)) Try.underlying28 (h.ev rfl)) rfl ?_; intro f h
            refine s_on h rfl rfl rfl ?_
            refine s_pure h (ru_val (.bool true) (ru_eql (h.ev rfl) (h.ev rfl)) (congrArg Value.bool (by rw [u2]; rfl))) rfl ?_; intro f h
            refine s_pure h (ru_pick_t (h.ev rfl) (h.ev rfl)) rfl ?_; intro f h
            refine s_pure h (ru_move (h.ev rfl)) rfl ?_; intro f h
            refine s_on h rfl rfl rfl ?_
            refine s_pure h (ru_field fld30_0 (h.ev rfl)) rfl ?_; intro f h
            refine s_on h rfl rfl rfl ?_
            refine s_load_at1 (V := vc) (cell_of_has (Has.of_own s 4 rfl) 0 (ss_v _ _ _ _)) h one28 rfl rfl ?_; intro f h
            refine s_on h rfl rfl rfl ?_
            refine s_pure h (ru_ixz ((s.getG 5 rfl)) (0) Try.underlying28 szo3 (h.ev rfl) (h.ev rfl) (rfl) (by rw [u2]; exact Nat.lt_succ_self 0)) rfl ?_; intro f h
            refine s_on h rfl rfl rfl ?_
            refine s_load_at1 (((s.getG 5 rfl)).el1 (0) (V := .int .i64 h9) (by rw [u2]; rfl)) h one3 rfl rfl ?_; intro f h
            refine s_on h rfl rfl rfl ?_
            refine s_pure h (ru_move (h.ev rfl)) rfl ?_; intro f h
            refine s_on h rfl rfl rfl ?_
            refine s_pure h (ru_val (.bool true) (ru_eql (h.ev rfl) (h.ev rfl)) (congrArg Value.bool (by simp))) rfl ?_; intro f h
            refine s_pure h (ru_pick_t (h.ev rfl) (h.ev rfl)) rfl ?_; intro f h
            refine s_pure h (ru_move (h.ev rfl)) rfl ?_; intro f h
            refine s_on h rfl rfl rfl ?_
            refine s_pure h (ru_field fld30_3 (h.ev rfl)) rfl ?_; intro f h
            refine s_on h rfl rfl rfl ?_
            refine s_load_at1 (V := .int .i64 (spD [(tgI i h9)] (pkI i)).work) (cell_of_has (Has.of_own s 4 rfl) 3 (ss_k _ _ _ _)) h one3 rfl rfl ?_; intro f h
            refine s_on h rfl rfl rfl ?_
            refine s_pure h (ru_val (.bool true) (ru_eql (h.ev rfl) (h.ev rfl)) (congrArg Value.bool (by rw [u2]; rfl))) rfl ?_; intro f h
            refine s_pure h (ru_pick_t (h.ev rfl) (h.ev rfl)) rfl ?_; intro f h
            refine s_pure h (ru_move (h.ev rfl)) rfl ?_; intro f h
            refine s_on h rfl rfl rfl ?_
            refine s_pure h (ru_move (h.ev rfl)) rfl ?_; intro f h
            refine s_on h rfl rfl rfl ?_
            refine s_pure h (ru_val (.bool true) (ru_neq (h.ev rfl) (h.ev rfl)) (congrArg Value.bool (by simpa using o0))) rfl ?_; intro f h
            refine s_on h rfl rfl rfl ?_
            refine s_pure h (ru_move (h.ev rfl)) rfl ?_; intro f h
            refine s_off (b := false) h rfl rfl rfl rfl ?_; intro f h
            refine s_off (b := false) h rfl rfl rfl rfl ?_; intro f h
            refine s_off (b := false) h rfl rfl rfl rfl ?_; intro f h
            refine s_none h rfl rfl rfl rfl ?_; intro f h
            refine s_none h rfl rfl rfl rfl ?_; intro f h
            refine s_none h rfl rfl rfl rfl ?_; intro f h
            refine s_off (b := false) h rfl rfl rfl rfl ?_; intro f h
            refine s_on h rfl rfl rfl ?_
            refine s_pure h (ru_pick_t (h.ev rfl) (h.ev rfl)) rfl ?_; intro f h
            refine s_pure h (ru_pick_t (h.ev rfl) (h.ev rfl)) rfl ?_; intro f h
            refine s_pure h (ru_assign (h.ev rfl)) rfl ?_; intro f h
            refine s_nil ?_
            refine hK28 _ _ ?_
            refine wpIn_ret ?_
            exact e_tmp rfl h s rfl (rfl)
          · skip
            refine c_region ?_
            obtain ⟨u1, u2⟩ := sp_alone (i := i) hh0 hh1
            obtain ⟨u3, u4⟩ := sp_adds (of_decide_eq_true e0) (farI_ne i) (of_decide_eq_true o0) (farQ_all (by omega) hp1)
            refine s_call h s fnc11 (ret_val (.bool true) (salive_any _) (congrArg Value.bool (rfl))) rfl rfl ?_; intro f w1 v9 hT hE h s; obtain rfl := hT
            refine s_pure h (ru_move (h.ev rfl)) rfl ?_; intro f h
            refine s_on h rfl rfl rfl ?_
            refine s_pure h (ru_move (h.ev rfl)) rfl ?_; intro f h
            refine s_on h rfl rfl rfl ?_
            refine s_pure h (ru_val (.bool true) (ru_eql (h.ev rfl) (h.ev rfl)) (congrArg Value.bool (by rw [u1]; rfl))) rfl ?_; intro f h
            refine s_pure h (ru_pick_t (h.ev rfl) (h.ev rfl)) rfl ?_; intro f h
            refine s_pure h (ru_move (h.ev rfl)) rfl ?_; intro f h
            refine s_on h rfl rfl rfl ?_
            refine s_pure h (ru_field fld30_0 (h.ev rfl)) rfl ?_; intro f h
            refine s_on h rfl rfl rfl ?_
            refine s_load_at1 (V := vc) (cell_of_has (Has.of_own s 4 rfl) 0 (ss_v _ _ _ _)) h one28 rfl rfl ?_; intro f h
            refine s_on h rfl rfl rfl ?_
            refine s_pure h (ru_lenZ ((s.getG 5 rfl)) Try.underlying28 (h.ev rfl)) rfl ?_; intro f h
            refine s_on h rfl rfl rfl ?_
            refine s_pure h (ru_val (.bool true) (ru_eql (h.ev rfl) (h.ev rfl)) (congrArg Value.bool (by rw [u2]; rfl))) rfl ?_; intro f h
            refine s_pure h (ru_pick_t (h.ev rfl) (h.ev rfl)) rfl ?_; intro f h
            refine s_pure h (ru_move (h.ev rfl)) rfl ?_; intro f h
            refine s_on h rfl rfl rfl ?_
            refine s_pure h (ru_field fld30_0 (h.ev rfl)) rfl ?_; intro f h
            refine s_on h rfl rfl rfl ?_
            refine s_load_at1 (V := vc) (cell_of_has (Has.of_own s 4 rfl) 0 (ss_v _ _ _ _)) h one28 rfl rfl ?_; intro f h
            refine s_on h rfl rfl rfl ?_
            refine s_pure h (ru_ixz ((s.getG 5 rfl)) (0) Try.underlying28 szo3 (h.ev rfl) (h.ev rfl) (rfl) (by rw [u2]; exact Nat.lt_succ_self 0)) rfl ?_; intro f h
            refine s_on h rfl rfl rfl ?_
            refine s_load_at1 (((s.getG 5 rfl)).el1 (0) (V := .int .i64 h9) (by rw [u2]; rfl)) h one3 rfl rfl ?_; intro f h
            refine s_on h rfl rfl rfl ?_
            refine s_pure h (ru_move (h.ev rfl)) rfl ?_; intro f h
            refine s_on h rfl rfl rfl ?_
            refine s_pure h (ru_val (.bool true) (ru_eql (h.ev rfl) (h.ev rfl)) (congrArg Value.bool (by simp))) rfl ?_; intro f h
            refine s_pure h (ru_pick_t (h.ev rfl) (h.ev rfl)) rfl ?_; intro f h
            refine s_pure h (ru_move (h.ev rfl)) rfl ?_; intro f h
            refine s_on h rfl rfl rfl ?_
            refine s_pure h (ru_field fld30_3 (h.ev rfl)) rfl ?_; intro f h
            refine s_on h rfl rfl rfl ?_
            refine s_load_at1 (V := .int .i64 (spD [(tgI i h9)] (pkI i)).work) (cell_of_has (Has.of_own s 4 rfl) 3 (ss_k _ _ _ _)) h one3 rfl rfl ?_; intro f h
            refine s_on h rfl rfl rfl ?_
            refine s_pure h (ru_val (.bool true) (ru_eql (h.ev rfl) (h.ev rfl)) (congrArg Value.bool (by rw [u2]; rfl))) rfl ?_; intro f h
            refine s_pure h (ru_pick_t (h.ev rfl) (h.ev rfl)) rfl ?_; intro f h
            refine s_pure h (ru_move (h.ev rfl)) rfl ?_; intro f h
            refine s_on h rfl rfl rfl ?_
            refine s_pure h (ru_move (h.ev rfl)) rfl ?_; intro f h
            refine s_on h rfl rfl rfl ?_
            refine s_pure h (ru_val (.bool false) (ru_neq (h.ev rfl) (h.ev rfl)) (congrArg Value.bool (by simpa using o0))) rfl ?_; intro f h
            refine s_on h rfl rfl rfl ?_
            refine s_pure h (ru_move (h.ev rfl)) rfl ?_; intro f h
            refine s_on h rfl rfl rfl ?_
            refine s_pure h (ru_move (h.ev rfl)) rfl ?_; intro f h
            refine s_on h rfl rfl rfl ?_
            refine s_pure h (ru_val (.bool true) (ru_eql (h.ev rfl) (h.ev rfl)) (congrArg Value.bool (by rw [u3]; rfl))) rfl ?_; intro f h
            refine s_on h rfl rfl rfl ?_
            refine s_pure h (ru_move (h.ev rfl)) rfl ?_; intro f h
            refine s_on h rfl rfl rfl ?_
            refine s_load_row 0 h s row30 rfl rfl (ssArr_size _ _ _ _) rfl ?_; intro f h
            refine s_on h rfl rfl rfl ?_
            refine s_load_row 9 h s row30 rfl rfl (ssArr_size _ _ _ _) rfl ?_; intro f h
            refine s_on h rfl rfl rfl ?_
            refine s_call h s fnc13 (ret_val (.bool true) (rsames_any (spD (putR t (tgI (farI i) h9)) (pkI i)) (spD t (pkI i)) vx va _ (s.getG 1 rfl) (s.getG 10 rfl) (by have := sp_len (t := (putR t (tgI (farI i) h9))) (p := (pkI i)); omega) (by have := sp_len (t := t) (p := (pkI i)); omega)) (congrArg Value.bool (by rw [u4]; simp))) rfl rfl ?_; intro f w1 v9 hT hE h s; obtain rfl := hT
            refine s_on h rfl rfl rfl ?_
            refine s_pure h (ru_pick_t (h.ev rfl) (h.ev rfl)) rfl ?_; intro f h
            refine s_on h rfl rfl rfl ?_
            refine s_pure h (ru_pick_f (h.ev rfl) (h.ev rfl)) rfl ?_; intro f h
            refine s_pure h (ru_pick_t (h.ev rfl) (h.ev rfl)) rfl ?_; intro f h
            refine s_pure h (ru_assign (h.ev rfl)) rfl ?_; intro f h
            refine s_nil ?_
            refine hK28 _ _ ?_
            refine wpIn_ret ?_
            exact e_tmp rfl h s rfl (rfl)
      · skip
        refine c_region ?_
        refine s_pure h (ru_move (h.ev rfl)) rfl ?_; intro f h
        refine s_pure h (ru_val (.bool false) (ru_neq (h.ev rfl) (h.ev rfl)) (congrArg Value.bool (by simpa using w0))) rfl ?_; intro f h
        refine s_pure h (ru_move (h.ev rfl)) rfl ?_; intro f h
        refine s_on h rfl rfl rfl ?_
        refine s_pure h (ru_move (h.ev rfl)) rfl ?_; intro f h
        refine s_on h rfl rfl rfl ?_
        refine s_pure h (ru_lenZ (((s.getG 0 rfl) (hT.keep s.ext))) Try.underlying22 (h.ev rfl)) rfl ?_; intro f h
        refine s_on h rfl rfl rfl ?_
        refine s_pure h (ru_move (h.ev rfl)) rfl ?_; intro f h
        refine s_on h rfl rfl rfl ?_
        refine s_pure h (ru_lenZ (hT.keep s.ext) Try.underlying22 (h.ev rfl)) rfl ?_; intro f h
        refine s_on h rfl rfl rfl ?_
        refine s_pure h (ru_val (.bool true) (ru_eql (h.ev rfl) (h.ev rfl)) (congrArg Value.bool ((decide_eq_decide.2 (by omega)).trans q0))) rfl ?_; intro f h
        refine s_pure h (ru_pick_f (h.ev rfl) (h.ev rfl)) rfl ?_; intro f h
        refine s_nil ?_
        refine hK12 _ _ ?_
        refine wpIn_cond_true (h.ev rfl) ?_
        refine c_seq fun K29 hK29 => ?_
        refine c_region ?_
        refine s_call h s fnc11 (ret_val (.bool true) (salive_any _) (congrArg Value.bool (rfl))) rfl rfl ?_; intro f w1 v9 hT hE h s; obtain rfl := hT
        refine s_pure h (ru_assign (h.ev rfl)) rfl ?_; intro f h
        refine s_nil ?_
        refine hK29 _ _ ?_
        refine wpIn_ret ?_
        refine t_ret ?_
        exact e_tmp rfl h s rfl (rfl)
end Go.Proofs.Ytdehanjhphfanaa
