/- What GuardLinks answers: for all arguments. -/
import Derived.Test.YtcnnlakcpcofkaaDoorXl
set_option linter.unusedVariables false
set_option linter.unusedSimpArgs false
set_option linter.unusedSectionVars false
namespace Go.Proofs.YtcnnlakcpcofkaaDoor
open Go.RowKit
set_option maxHeartbeats 6000000 in
theorem lglinks_any (sa sb : ByteArray) (i to : Id) (li : Int) (w : World) (hH : Tab w 0 (wF hTab 8)) (hK : Tab w 1 (wF kTab 64)) : Calls Tryd.prog 5 [.string sa, .string sb, idV i, idV to, .int .i64 li].toArray w (Ret w (is (.bool true))) := by
  have hslsa : (sa.extract 0 (min sa.size 64)).size ≤ 64 := by rw [ByteArray.size_extract]; omega
  have hslsb : (sb.extract 0 (min sb.size 64)).size ≤ 64 := by rw [ByteArray.size_extract]; omega
  refine c_enter Tryd.func5 rfl Tryd.ntmps5 rfl [(0, .string sa), (1, .string sb), (2, idV i), (3, idV to), (4, .int .i64 li)] (by simp) fun f h => ?_
  have s := St.start w
  refine c_seq fun K1 hK1 => ?_
  refine c_region ?_
  refine s_box (idArr i) h s rfl rfl rfl ?_; intro f w1 b7 h s
  refine s_box (idArr to) h s rfl rfl rfl ?_; intro f w1 b8 h s
  refine s_pure h (ru_assign (h.ev rfl)) rfl ?_; intro f h
  refine s_nil ?_
  refine hK1 _ _ ?_
  refine c_seq fun K2 hK2 => ?_
  have hbs := s.ext.le
  refine' c_reg2 0 [0, 1, 5, 6, 7, 8, 9, 11] [] [[], [], [1], [1, 2], [0, 1, 2, 3], [], [], [6], [6, 7], [5, 6, 7, 8], [0, 1, 2, 3, 4], [0, 1, 2, 3, 4, 5, 6, 7, 8, 9, 10]] (is _ :: is _ :: is undef :: is undef :: is undef :: is _ :: is _ :: is _ :: is _ :: is _ :: is undef :: is _ :: []) (fun _ => True) h s (by kernel_rfl) (by kernel_rfl) (by kernel_rfl) (by kernel_rfl) rfl (fun _ _ h _ => h) (trivial) ⟨⟨_, rfl⟩, ⟨_, rfl⟩, ⟨_, rfl⟩, ⟨_, rfl⟩, ⟨_, rfl⟩, ⟨_, rfl⟩, ⟨_, rfl⟩, ⟨_, rfl⟩, trivial⟩ ⟨is_mono _, is_mono _, is_mono _, is_mono _, is_mono _, is_mono _, is_mono _, is_mono _, is_mono _, is_mono _, is_mono _, is_mono _, trivial⟩ (And.intro ?_ (And.intro ?_ (And.intro ?_ (And.intro ?_ (And.intro ?_ (And.intro ?_ (And.intro ?_ (And.intro ?_ (And.intro ?_ (And.intro ?_ (And.intro ?_ (And.intro ?_ (trivial))))))))))))) ?_
  rotate_left 8
  · refine obH_in 22 rfl (by decide) ?_
    intro f9 w2 hE hs hl
    have e0 : f9.tmps.getD 0 undef = _ := sx_old hl 0 (by kernel_rfl) (by kernel_rfl) (h.holds 0 _ rfl)
    have h := fin_slot [(0, _)] hs rfl (holds_lk ⟨e0, trivial⟩)
    refine s_pure h (ru_move (h.ev rfl)) rfl ?_; intro f h
    refine s_nil ?_
    have e9 := h.holds 22 _ rfl
    refine ⟨?_, rfl⟩
    refine e9.trans ?_
    exact rfl
  · refine obH_in 23 rfl (by decide) ?_
    intro f9 w2 hE hs hl
    have e0 : f9.tmps.getD 0 undef = _ := sx_old hl 0 (by kernel_rfl) (by kernel_rfl) (h.holds 0 _ rfl)
    have h := fin_slot [(0, _)] hs rfl (holds_lk ⟨e0, trivial⟩)
    refine s_pure h (ru_move (h.ev rfl)) rfl ?_; intro f h
    refine s_nil ?_
    have e9 := h.holds 23 _ rfl
    refine ⟨?_, rfl⟩
    refine e9.trans ?_
    exact rfl
  · exact obT_in (by decide) (by decide)
  · exact obT_in (by decide) (by decide)
  · exact obT_in (by decide) (by decide)
  · refine obH_in 27 rfl (by decide) ?_
    intro f9 w2 hE hs hl
    have e1 : f9.tmps.getD 1 undef = _ := sx_old hl 1 (by kernel_rfl) (by kernel_rfl) (h.holds 1 _ rfl)
    have h := fin_slot [(1, _)] hs rfl (holds_lk ⟨e1, trivial⟩)
    refine s_pure h (ru_move (h.ev rfl)) rfl ?_; intro f h
    refine s_nil ?_
    have e9 := h.holds 27 _ rfl
    refine ⟨?_, rfl⟩
    refine e9.trans ?_
    exact rfl
  · refine obH_in 28 rfl (by decide) ?_
    intro f9 w2 hE hs hl
    have e1 : f9.tmps.getD 1 undef = _ := sx_old hl 1 (by kernel_rfl) (by kernel_rfl) (h.holds 1 _ rfl)
    have h := fin_slot [(1, _)] hs rfl (holds_lk ⟨e1, trivial⟩)
    refine s_pure h (ru_move (h.ev rfl)) rfl ?_; intro f h
    refine s_nil ?_
    have e9 := h.holds 28 _ rfl
    refine ⟨?_, rfl⟩
    refine e9.trans ?_
    exact rfl
  · refine obH_in 29 rfl (by decide) ?_
    intro f9 w2 hE hs hl
    have e28 : f9.tmps.getD 28 undef = _ := sx_get hl 28 6 (by kernel_rfl) (by kernel_rfl)
    have h := fin_slot [(28, _)] hs rfl (holds_lk ⟨e28, trivial⟩)
    refine s_pure h (ru_len_str Tryd.underlying9 (h.ev rfl)) rfl ?_; intro f h
    refine s_nil ?_
    have e9 := h.holds 29 _ rfl
    refine ⟨?_, rfl⟩
    refine e9.trans ?_
    exact rfl
  · refine obH_in 30 rfl (by decide) ?_
    intro f9 w2 hE hs hl
    have e29 : f9.tmps.getD 29 undef = _ := sx_get hl 29 7 (by kernel_rfl) (by kernel_rfl)
    have h := fin_slot [(29, _)] hs rfl (holds_lk ⟨e29, trivial⟩)
    refine s_pure h (ru_min (h.ev rfl) (h.ev rfl)) rfl ?_; intro f h
    refine s_nil ?_
    have e9 := h.holds 30 _ rfl
    refine ⟨?_, rfl⟩
    refine e9.trans ?_
    exact rfl
  · refine obH_in 31 rfl (by decide) ?_
    intro f9 w2 hE hs hl
    have e27 : f9.tmps.getD 27 undef = _ := sx_get hl 27 5 (by kernel_rfl) (by kernel_rfl)
    have e30 : f9.tmps.getD 30 undef = _ := sx_get hl 30 8 (by kernel_rfl) (by kernel_rfl)
    have h := fin_slot [(27, _), (30, _)] hs rfl (holds_lk ⟨e27, e30, trivial⟩)
    refine s_pure h (ru_slice_str (min sb.size 64) Tryd.underlying9 (h.ev rfl) (h.ev rfl) (by split <;> omega) (by omega)) rfl ?_; intro f h
    refine s_nil ?_
    have e9 := h.holds 31 _ rfl
    refine ⟨?_, rfl⟩
    refine e9.trans ?_
    exact rfl
  · exact obT_in (by decide) (by decide)
  · refine obH_in 1 rfl (by decide) ?_
    intro f9 w2 hE hs hl
    have e31 : f9.tmps.getD 31 undef = _ := sx_get hl 31 9 (by kernel_rfl) (by kernel_rfl)
    have h := fin_slot [(31, _)] hs rfl (holds_lk ⟨e31, trivial⟩)
    refine s_pure h (ru_assign (h.ev rfl)) rfl ?_; intro f h
    refine s_nil ?_
    have e9 := h.holds 1 _ rfl
    refine ⟨?_, rfl⟩
    refine e9.trans ?_
    exact rfl
  · intro f9 w2 hE hs hd9 hWp hT hR hFr hDj
    replace h := sl_new (ops := _) [(22, _), (23, _), (27, _), (28, _), (29, _), (30, _), (31, _), (1, _)] h hs hd9 hR ⟨hT 0 22 (by decide) rfl, hT 1 23 (by decide) rfl, hT 5 27 (by decide) rfl, hT 6 28 (by decide) rfl, hT 7 29 (by decide) rfl, hT 8 30 (by decide) rfl, hT 9 31 (by decide) rfl, hT 11 1 (by decide) rfl, trivial⟩ (by kernel_rfl)
    replace s := s.more hE
    clear hT hR hFr hDj
    refine LstW.of ?_
    refine s_pure h (ru_len_str Tryd.underlying9 (h.ev rfl)) rfl ?_; intro f h
    refine s_pure h (ru_min (h.ev rfl) (h.ev rfl)) rfl ?_; intro f h
    refine s_pure h (ru_slice_str (min sa.size 64) Tryd.underlying9 (h.ev rfl) (h.ev rfl) (by split <;> omega) (by omega)) rfl ?_; intro f h
    refine s_pure h (ru_assign (h.ev rfl)) rfl ?_; intro f h
    refine s_nil ?_
    refine hK2 _ _ ?_
    refine c_seq fun K3 hK3 => ?_
    refine c_region ?_
    refine s_pure h (ru_move (h.ev rfl)) rfl ?_; intro f h
    have hm9 := tm_N li (show (1 : Int) ≤ 1000 by decide)
    refine s_pure h (ru_remt (h.ev rfl) (h.ev rfl) (by omega)) rfl ?_; intro f h
    refine s_pure h (ru_add (h.ev rfl) (h.ev rfl) (by omega)) rfl ?_; intro f h
    obtain ⟨l9, hl9, hl1⟩ := hm_1000 li
    refine s_pure h (ru_val (.int .i64 (l9 : Int)) (ru_remt (h.ev rfl) (h.ev rfl) (by omega)) (congrArg (Value.int .i64) hl9)) rfl ?_; intro f h
    refine s_pure h (ru_assign (h.ev rfl)) rfl ?_; intro f h
    refine s_nil ?_
    refine hK3 _ _ ?_
    refine c_seq fun K4 hK4 => ?_
    refine c_region ?_
    refine s_load_row 1 h s row23 rfl rfl (by first | exact idArr_size _ | exact bytesF_size _ _) rfl ?_; intro f h
    refine s_load_row 0 h s row23 rfl rfl (by first | exact idArr_size _ | exact bytesF_size _ _) rfl ?_; intro f h
    refine s_pure h (ru_build_ei sttE rfl (h.ev rfl)) rfl ?_; intro f h
    refine s_pure h (ru_move (h.ev rfl)) rfl ?_; intro f h
    refine s_pure h (ru_build_m0124 sttM rfl (h.ev rfl) (h.ev rfl) (h.ev rfl)) rfl ?_; intro f h
    refine s_alloc (mArr mZ nilV) h s zero28 rfl rfl ?_; intro f w1 b11 h s
    refine s_store_row 0 h s row28 rfl rfl rfl (mArr_size _ _) (mArr_size _ _) (mArr_ones _ _ rfl) ?_; intro w1 s
    refine s_nil ?_
    refine hK4 _ _ ?_
    refine c_seq fun K5 hK5 => ?_
    refine c_region ?_
    refine s_pure h (ru_move (h.ev rfl)) rfl ?_; intro f h
    refine s_load_row 0 h s row28 rfl rfl (mArr_size _ _) rfl ?_; intro f h
    refine s_call h s fnc8 (gjudge_any (sa.extract 0 (min sa.size 64)) (by omega) (Mg.mk 2 i (1, to, 0) [] (l9 : Int) ⟨#[]⟩ ⟨#[]⟩) nilV _ (re_nil _) (by first | omega | decide | exact Nat.zero_le _) (hH.keep s.ext) (hK.keep s.ext)) rfl rfl ?_; rintro f w1 v44 ⟨ua, kua, rfl, hG⟩ hE h sq; replace s := s.add hG; clear hG
    refine s_pure h (ru_move (h.ev rfl)) rfl ?_; intro f h
    refine s_pure h (ru_extract (h.ev rfl) rfl) rfl ?_; intro f h
    refine s_pure h (ru_extract (h.ev rfl) rfl) rfl ?_; intro f h
    refine s_pure h (ru_extract (h.ev rfl) rfl) rfl ?_; intro f h
    refine s_alloc (mArr mZ nilV) h s zero28 rfl rfl ?_; intro f w1 b13 h s
    refine s_pure h (ru_assign (h.ev rfl)) rfl ?_; intro f h
    refine s_store_row 0 h s row28 rfl rfl rfl (mArr_size _ _) (mArr_size _ _) (mArr_ones _ _ (rd_one ((s.getG 1 rfl) (re_nil _)))) ?_; intro w1 s
    refine s_pure h (ru_assign (h.ev rfl)) rfl ?_; intro f h
    refine s_nil ?_
    refine hK5 _ _ ?_
    refine c_seq fun K6 hK6 => ?_
    refine c_region ?_
    refine s_pure h (ru_move (h.ev rfl)) rfl ?_; intro f h
    refine s_load_row 2 h s row28 rfl rfl (mArr_size _ _) rfl ?_; intro f h
    refine s_call h s fnc8 (gjudge_any (sb.extract 0 (min sb.size 64)) (by omega) (Mg.mk 2 i (1, to, 0) [] (l9 : Int) ⟨#[]⟩ ⟨#[]⟩) nilV _ (re_nil _) (by first | omega | decide | exact Nat.zero_le _) (hH.keep s.ext) (hK.keep s.ext)) rfl rfl ?_; rintro f w1 v51 ⟨ub, kub, rfl, hG⟩ hE h sq; replace s := s.add hG; clear hG
    refine s_pure h (ru_move (h.ev rfl)) rfl ?_; intro f h
    refine s_pure h (ru_extract (h.ev rfl) rfl) rfl ?_; intro f h
    refine s_pure h (ru_extract (h.ev rfl) rfl) rfl ?_; intro f h
    refine s_pure h (ru_extract (h.ev rfl) rfl) rfl ?_; intro f h
    refine s_alloc (mArr mZ nilV) h s zero28 rfl rfl ?_; intro f w1 b16 h s
    refine s_pure h (ru_assign (h.ev rfl)) rfl ?_; intro f h
    refine s_store_row 0 h s row28 rfl rfl rfl (mArr_size _ _) (mArr_size _ _) (mArr_ones _ _ (rd_one ((s.getG 1 rfl) (re_nil _)))) ?_; intro w1 s
    refine s_pure h (ru_assign (h.ev rfl)) rfl ?_; intro f h
    refine s_nil ?_
    refine hK6 _ _ ?_
    refine c_seq fun K7 hK7 => ?_
    refine c_region ?_
    refine s_load_row 4 h s row28 rfl rfl (mArr_size _ _) rfl ?_; intro f h
    refine s_alloc (mArr mZ nilV) h s zero28 rfl rfl ?_; intro f w1 b18 h s
    refine s_store_row 0 h s row28 rfl rfl rfl (mArr_size _ _) (mArr_size _ _) (mArr_ones _ _ rfl) ?_; intro w1 s
    refine s_nil ?_
    refine hK7 _ _ ?_
    refine c_seq fun K8 hK8 => ?_
    refine c_region ?_
    refine s_load_row 7 h s row23 rfl rfl (by first | exact idArr_size _ | exact bytesF_size _ _) rfl ?_; intro f h
    refine s_call h s fnc16 (left_any i _ (hH.keep s.ext) (hK.keep s.ext)) rfl rfl ?_; intro f w1 v9 hT hE h s; obtain rfl := hT
    refine s_pure h (ru_field fld28_2 (h.ev rfl)) rfl ?_; intro f h
    refine s_pure h (ru_field fld25_1 (h.ev rfl)) rfl ?_; intro f h
    refine s_store_sub 0 h s row23 rfl rfl rfl (by first | exact idArr_size _ | exact bytesF_size _ _) (by rw [mArr_size]; omega) (by first | exact idArr_ones _ | exact bytesF_ones _ _) ?_; intro w1 s
    replace s := s.recell (D := mArr (Mg.mk 2 i (1, madeM leftB (keyOf i), 0) [] (l9 : Int) ⟨#[]⟩ ⟨#[]⟩) nilV) 0 rfl (mArr_splTi _ _ _ _ _ _ _ _ _ _ _)
    refine s_nil ?_
    refine hK8 _ _ ?_
    refine c_seq fun K9 hK9 => ?_
    refine c_region ?_
    refine s_pure h (ru_move (h.ev rfl)) rfl ?_; intro f h
    refine s_load_row 0 h s row28 rfl rfl (mArr_size _ _) rfl ?_; intro f h
    refine s_call h s fnc8 (gjudge_any (sa.extract 0 (min sa.size 64)) (by omega) (Mg.mk 2 i (1, madeM leftB (keyOf i), 0) [] (l9 : Int) ⟨#[]⟩ ⟨#[]⟩) nilV _ (re_nil _) (by first | omega | decide | exact Nat.zero_le _) (hH.keep s.ext) (hK.keep s.ext)) rfl rfl ?_; rintro f w1 v63 ⟨uc, kuc, rfl, hG⟩ hE h sq; replace s := s.add hG; clear hG
    refine s_pure h (ru_move (h.ev rfl)) rfl ?_; intro f h
    refine s_pure h (ru_extract (h.ev rfl) rfl) rfl ?_; intro f h
    refine s_pure h (ru_extract (h.ev rfl) rfl) rfl ?_; intro f h
    refine s_pure h (ru_extract (h.ev rfl) rfl) rfl ?_; intro f h
    refine s_alloc (mArr mZ nilV) h s zero28 rfl rfl ?_; intro f w1 b20 h s
    refine s_pure h (ru_assign (h.ev rfl)) rfl ?_; intro f h
    refine s_store_row 0 h s row28 rfl rfl rfl (mArr_size _ _) (mArr_size _ _) (mArr_ones _ _ (rd_one ((s.getG 1 rfl) (re_nil _)))) ?_; intro w1 s
    refine s_pure h (ru_assign (h.ev rfl)) rfl ?_; intro f h
    refine s_nil ?_
    refine hK9 _ _ ?_
    refine c_seq fun K10 hK10 => ?_
    cases w0 : (linksM i to : Bool)
    · skip
      refine c_region ?_
      obtain ⟨p1, p2⟩ := gd_ins (i := i) (to := to) (n := (l9 : Int)) hslsa (by omega) (by omega)
      obtain ⟨q1, q2⟩ := gd_ins (i := i) (to := to) (n := (l9 : Int)) hslsb (by omega) (by omega)
      obtain ⟨r1, r2⟩ := gd_ins (i := i) (to := madeM leftB (keyOf i)) (n := (l9 : Int)) hslsa (by omega) (by omega)
      rw [links_left] at r2
      refine s_call h s fnc10 (ret_val (.bool true) (galive_any _ (hH.keep s.ext) (hK.keep s.ext)) (congrArg Value.bool (rfl))) rfl rfl ?_; intro f w1 v9 hT hE h s; obtain rfl := hT
      refine s_pure h (ru_move (h.ev rfl)) rfl ?_; intro f h
      refine s_on h rfl rfl rfl ?_
      refine s_pure h (ru_move (h.ev rfl)) rfl ?_; intro f h
      refine s_on h rfl rfl rfl ?_
      refine s_pure h (ru_val (.bool true) (ru_eql (h.ev rfl) (h.ev rfl)) (congrArg Value.bool (by rw [p1]; rfl))) rfl ?_; intro f h
      refine s_pure h (ru_pick_t (h.ev rfl) (h.ev rfl)) rfl ?_; intro f h
      refine s_pure h (ru_move (h.ev rfl)) rfl ?_; intro f h
      refine s_on h rfl rfl rfl ?_
      refine s_pure h (ru_move (h.ev rfl)) rfl ?_; intro f h
      refine s_on h rfl rfl rfl ?_
      refine s_pure h (ru_val (.bool true) (ru_eql (h.ev rfl) (h.ev rfl)) (congrArg Value.bool (by rw [q1]; rfl))) rfl ?_; intro f h
      refine s_pure h (ru_pick_t (h.ev rfl) (h.ev rfl)) rfl ?_; intro f h
      refine s_pure h (ru_move (h.ev rfl)) rfl ?_; intro f h
      refine s_on h rfl rfl rfl ?_
      refine s_pure h (ru_move (h.ev rfl)) rfl ?_; intro f h
      refine s_on h rfl rfl rfl ?_
      refine s_pure h (ru_move (h.ev rfl)) rfl ?_; intro f h
      refine s_on h rfl rfl rfl ?_
      refine s_pure h (ru_val (.bool true) (ru_eql (h.ev rfl) (h.ev rfl)) (congrArg Value.bool (by rw [p2, q2]; simp))) rfl ?_; intro f h
      refine s_pure h (ru_pick_t (h.ev rfl) (h.ev rfl)) rfl ?_; intro f h
      refine s_pure h (ru_move (h.ev rfl)) rfl ?_; intro f h
      refine s_on h rfl rfl rfl ?_
      refine s_pure h (ru_move (h.ev rfl)) rfl ?_; intro f h
      refine s_on h rfl rfl rfl ?_
      refine s_pure h (ru_val (.bool false) (ru_eql (h.ev rfl) (h.ev rfl)) (congrArg Value.bool (by rw [p2, w0]; rfl))) rfl ?_; intro f h
      refine s_on h rfl rfl rfl ?_
      refine s_load_row 9 h s row23 rfl rfl (by first | exact idArr_size _ | exact bytesF_size _ _) rfl ?_; intro f h
      refine s_on h rfl rfl rfl ?_
      refine s_load_row 8 h s row23 rfl rfl (by first | exact idArr_size _ | exact bytesF_size _ _) rfl ?_; intro f h
      refine s_on h rfl rfl rfl ?_
      refine s_call h s fnc17 (ret_val (.bool false) (links_any i to _ (hH.keep s.ext) (hK.keep s.ext)) (congrArg Value.bool w0)) rfl rfl ?_; intro f w1 v9 hT hE h s; obtain rfl := hT
      refine s_on h rfl rfl rfl ?_
      refine s_pure h (ru_val (.bool true) (ru_eql_bool Tryd.underlying4 (h.ev rfl) (h.ev rfl)) (congrArg Value.bool (rfl))) rfl ?_; intro f h
      refine s_pure h (ru_pick_t (h.ev rfl) (h.ev rfl)) rfl ?_; intro f h
      refine s_pure h (ru_move (h.ev rfl)) rfl ?_; intro f h
      refine s_on h rfl rfl rfl ?_
      refine s_pure h (ru_move (h.ev rfl)) rfl ?_; intro f h
      refine s_on h rfl rfl rfl ?_
      refine s_pure h (ru_val (.bool false) (ru_eql (h.ev rfl) (h.ev rfl)) (congrArg Value.bool (by rw [p2, w0]; rfl))) rfl ?_; intro f h
      refine s_on h rfl rfl rfl ?_
      refine s_pure h (ru_move (h.ev rfl)) rfl ?_; intro f h
      refine s_on h rfl rfl rfl ?_
      refine s_pure h (ru_move (h.ev rfl)) rfl ?_; intro f h
      refine s_on h rfl rfl rfl ?_
      refine s_pure h (ru_val (.bool true) (ru_eql (h.ev rfl) (h.ev rfl)) (congrArg Value.bool (by rw [p2, w0]; rfl))) rfl ?_; intro f h
      refine s_on h rfl rfl rfl ?_
      refine s_pure h (ru_pick_f (h.ev rfl) (h.ev rfl)) rfl ?_; intro f h
      refine s_pure h (ru_pick_t (h.ev rfl) (h.ev rfl)) rfl ?_; intro f h
      refine s_pure h (ru_move (h.ev rfl)) rfl ?_; intro f h
      refine s_on h rfl rfl rfl ?_
      refine s_pure h (ru_move (h.ev rfl)) rfl ?_; intro f h
      refine s_on h rfl rfl rfl ?_
      refine s_pure h (ru_val (.bool true) (ru_eql (h.ev rfl) (h.ev rfl)) (congrArg Value.bool (by rw [r1]; rfl))) rfl ?_; intro f h
      refine s_pure h (ru_pick_t (h.ev rfl) (h.ev rfl)) rfl ?_; intro f h
      refine s_pure h (ru_move (h.ev rfl)) rfl ?_; intro f h
      refine s_on h rfl rfl rfl ?_
      refine s_pure h (ru_move (h.ev rfl)) rfl ?_; intro f h
      refine s_on h rfl rfl rfl ?_
      refine s_pure h (ru_val (.bool true) (ru_eql (h.ev rfl) (h.ev rfl)) (congrArg Value.bool (by rw [r2]; rfl))) rfl ?_; intro f h
      refine s_pure h (ru_pick_t (h.ev rfl) (h.ev rfl)) rfl ?_; intro f h
      refine s_pure h (ru_assign (h.ev rfl)) rfl ?_; intro f h
      refine s_nil ?_
      refine hK10 _ _ ?_
      refine wpIn_ret ?_
      exact e_tmp rfl h s rfl (rfl)
    · skip
      refine c_region ?_
      obtain ⟨p1, p2⟩ := gd_ins (i := i) (to := to) (n := (l9 : Int)) hslsa (by omega) (by omega)
      obtain ⟨q1, q2⟩ := gd_ins (i := i) (to := to) (n := (l9 : Int)) hslsb (by omega) (by omega)
      obtain ⟨r1, r2⟩ := gd_ins (i := i) (to := madeM leftB (keyOf i)) (n := (l9 : Int)) hslsa (by omega) (by omega)
      rw [links_left] at r2
      refine s_call h s fnc10 (ret_val (.bool true) (galive_any _ (hH.keep s.ext) (hK.keep s.ext)) (congrArg Value.bool (rfl))) rfl rfl ?_; intro f w1 v9 hT hE h s; obtain rfl := hT
      refine s_pure h (ru_move (h.ev rfl)) rfl ?_; intro f h
      refine s_on h rfl rfl rfl ?_
      refine s_pure h (ru_move (h.ev rfl)) rfl ?_; intro f h
      refine s_on h rfl rfl rfl ?_
      refine s_pure h (ru_val (.bool true) (ru_eql (h.ev rfl) (h.ev rfl)) (congrArg Value.bool (by rw [p1]; rfl))) rfl ?_; intro f h
      refine s_pure h (ru_pick_t (h.ev rfl) (h.ev rfl)) rfl ?_; intro f h
      refine s_pure h (ru_move (h.ev rfl)) rfl ?_; intro f h
      refine s_on h rfl rfl rfl ?_
      refine s_pure h (ru_move (h.ev rfl)) rfl ?_; intro f h
      refine s_on h rfl rfl rfl ?_
      refine s_pure h (ru_val (.bool true) (ru_eql (h.ev rfl) (h.ev rfl)) (congrArg Value.bool (by rw [q1]; rfl))) rfl ?_; intro f h
      refine s_pure h (ru_pick_t (h.ev rfl) (h.ev rfl)) rfl ?_; intro f h
      refine s_pure h (ru_move (h.ev rfl)) rfl ?_; intro f h
      refine s_on h rfl rfl rfl ?_
      refine s_pure h (ru_move (h.ev rfl)) rfl ?_; intro f h
      refine s_on h rfl rfl rfl ?_
      refine s_pure h (ru_move (h.ev rfl)) rfl ?_; intro f h
      refine s_on h rfl rfl rfl ?_
      refine s_pure h (ru_val (.bool true) (ru_eql (h.ev rfl) (h.ev rfl)) (congrArg Value.bool (by rw [p2, q2]; simp))) rfl ?_; intro f h
      refine s_pure h (ru_pick_t (h.ev rfl) (h.ev rfl)) rfl ?_; intro f h
      refine s_pure h (ru_move (h.ev rfl)) rfl ?_; intro f h
      refine s_on h rfl rfl rfl ?_
      refine s_pure h (ru_move (h.ev rfl)) rfl ?_; intro f h
      refine s_on h rfl rfl rfl ?_
      refine s_pure h (ru_val (.bool true) (ru_eql (h.ev rfl) (h.ev rfl)) (congrArg Value.bool (by rw [p2, w0]; rfl))) rfl ?_; intro f h
      refine s_on h rfl rfl rfl ?_
      refine s_load_row 9 h s row23 rfl rfl (by first | exact idArr_size _ | exact bytesF_size _ _) rfl ?_; intro f h
      refine s_on h rfl rfl rfl ?_
      refine s_load_row 8 h s row23 rfl rfl (by first | exact idArr_size _ | exact bytesF_size _ _) rfl ?_; intro f h
      refine s_on h rfl rfl rfl ?_
      refine s_call h s fnc17 (ret_val (.bool true) (links_any i to _ (hH.keep s.ext) (hK.keep s.ext)) (congrArg Value.bool w0)) rfl rfl ?_; intro f w1 v9 hT hE h s; obtain rfl := hT
      refine s_on h rfl rfl rfl ?_
      refine s_pure h (ru_val (.bool true) (ru_eql_bool Tryd.underlying4 (h.ev rfl) (h.ev rfl)) (congrArg Value.bool (rfl))) rfl ?_; intro f h
      refine s_pure h (ru_pick_t (h.ev rfl) (h.ev rfl)) rfl ?_; intro f h
      refine s_pure h (ru_move (h.ev rfl)) rfl ?_; intro f h
      refine s_on h rfl rfl rfl ?_
      refine s_pure h (ru_move (h.ev rfl)) rfl ?_; intro f h
      refine s_on h rfl rfl rfl ?_
      refine s_pure h (ru_val (.bool true) (ru_eql (h.ev rfl) (h.ev rfl)) (congrArg Value.bool (by rw [p2, w0]; rfl))) rfl ?_; intro f h
      refine s_on h rfl rfl rfl ?_
      refine s_pure h (ru_move (h.ev rfl)) rfl ?_; intro f h
      refine s_off (b := false) h rfl rfl rfl rfl ?_; intro f h
      refine s_off (b := false) h rfl rfl rfl rfl ?_; intro f h
      refine s_on h rfl rfl rfl ?_
      refine s_pure h (ru_pick_t (h.ev rfl) (h.ev rfl)) rfl ?_; intro f h
      refine s_pure h (ru_pick_t (h.ev rfl) (h.ev rfl)) rfl ?_; intro f h
      refine s_pure h (ru_move (h.ev rfl)) rfl ?_; intro f h
      refine s_on h rfl rfl rfl ?_
      refine s_pure h (ru_move (h.ev rfl)) rfl ?_; intro f h
      refine s_on h rfl rfl rfl ?_
      refine s_pure h (ru_val (.bool true) (ru_eql (h.ev rfl) (h.ev rfl)) (congrArg Value.bool (by rw [r1]; rfl))) rfl ?_; intro f h
      refine s_pure h (ru_pick_t (h.ev rfl) (h.ev rfl)) rfl ?_; intro f h
      refine s_pure h (ru_move (h.ev rfl)) rfl ?_; intro f h
      refine s_on h rfl rfl rfl ?_
      refine s_pure h (ru_move (h.ev rfl)) rfl ?_; intro f h
      refine s_on h rfl rfl rfl ?_
      refine s_pure h (ru_val (.bool true) (ru_eql (h.ev rfl) (h.ev rfl)) (congrArg Value.bool (by rw [r2]; rfl))) rfl ?_; intro f h
      refine s_pure h (ru_pick_t (h.ev rfl) (h.ev rfl)) rfl ?_; intro f h
      refine s_pure h (ru_assign (h.ev rfl)) rfl ?_; intro f h
      refine s_nil ?_
      refine hK10 _ _ ?_
      refine wpIn_ret ?_
      exact e_tmp rfl h s rfl (rfl)
end Go.Proofs.YtcnnlakcpcofkaaDoor
