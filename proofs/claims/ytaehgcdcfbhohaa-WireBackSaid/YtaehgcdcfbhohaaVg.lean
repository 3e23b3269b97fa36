/- What is read of the bytes of a stack: package stack (texts of at most 100000 bytes). -/
import Derived.Test.YtaehgcdcfbhohaaVa
set_option linter.unusedVariables false
set_option linter.unusedSimpArgs false
set_option linter.unusedSectionVars false
namespace Go.Proofs.Ytaehgcdcfbhohaa
open Go.RowKit
theorem entry_any (t9 : ByteArray) (ht9 : t9.size ≤ 1000000) (w : World) : Calls Try.prog 51 [.string t9].toArray w (Ret w (is (.tuple #[.agg (eArr (entM t9).2.1), .int .i64 (((entM t9).2.2 : Nat) : Int), .int .i64 (entM t9).1]))) := by
  have hb0 := sb_lt t9 0
  have hts := tail_size t9
  refine c_enter Try.func51 rfl Try.ntmps51 rfl [(0, .string t9)] (by simp) fun f h => ?_
  have s := St.start w
  refine c_seq fun K1 hK1 => ?_
  refine c_region ?_
  refine s_alloc (eArr (0, 0#256, 0)) h s zero25 rfl rfl ?_; intro f w1 b2 h s
  refine s_pure h (ru_assign (h.ev rfl)) rfl ?_; intro f h
  refine s_pure h (ru_assign (h.ev rfl)) rfl ?_; intro f h
  refine s_nil ?_
  refine hK1 _ _ ?_
  refine c_seq fun K2 hK2 => ?_
  refine c_seq fun K3 hK3 => ?_
  refine c_region ?_
  refine s_pure h (ru_move (h.ev rfl)) rfl ?_; intro f h
  refine s_pure h (ru_eql_str (h.ev rfl) (h.ev rfl)) rfl ?_; intro f h
  refine s_nil ?_
  refine hK3 _ _ ?_
  refine c_cond h rfl (fun hc => ?_) (fun hc => ?_)
  · replace hc := of_decide_eq_true hc
    refine c_seq fun K4 hK4 => ?_
    refine c_region ?_
    refine s_pure h (ru_build_e0 sttE) rfl ?_; intro f h
    refine s_store_row 0 h s row25 rfl rfl rfl (eArr_size _) (eArr_size _) (eArr_ones _) ?_; intro w1 s
    refine s_pure h (ru_assign (h.ev rfl)) rfl ?_; intro f h
    refine s_pure h (ru_assign (h.ev rfl)) rfl ?_; intro f h
    refine s_nil ?_
    refine hK4 _ _ ?_
    refine wpIn_ret ?_
    refine t_ret ?_
    exact e_row_tmp2 0 rfl h s row25 rfl rfl (eArr_size _) rfl rfl (by show _ = _; rw [entM_0 hc]; rfl)
  · replace hc := of_decide_eq_false hc
    have h0 := ba_pos hc
    refine wpIn_skip ?_
    refine hK2 _ _ ?_
    refine c_seq fun K5 hK5 => ?_
    refine c_seq fun K6 hK6 => ?_
    refine c_region ?_
    refine s_pure h (ru_move (h.ev rfl)) rfl ?_; intro f h
    refine s_pure h (ru_slice_str_lo (1) Try.underlying9 (h.ev rfl) (h.ev rfl) (rfl) (by omega)) rfl ?_; intro f h
    refine s_pure h (ru_assign (h.ev rfl)) rfl ?_; intro f h
    refine s_nil ?_
    refine hK6 _ _ ?_
    refine c_seq fun K7 hK7 => ?_
    refine c_region ?_
    refine s_pure h (ru_move (h.ev rfl)) rfl ?_; intro f h
    refine s_pure h (ru_ix_sb Try.underlying9 (0) (h.ev rfl) (h.ev rfl) (by omega) (by omega)) rfl ?_; intro f h
    refine s_nil ?_
    refine hK7 _ _ ?_
    refine wpIn_block ?_
    refine c_seq fun K8 hK8 => ?_
    refine c_region ?_
    refine s_pure h (ru_eql (h.ev rfl) (h.ev rfl)) rfl ?_; intro f h
    refine s_pure h (ru_assign (h.ev rfl)) rfl ?_; intro f h
    refine s_nil ?_
    refine hK8 _ _ ?_
    refine c_cond h rfl (fun hc => ?_) (fun hc => ?_)
    · replace hc := of_decide_eq_true hc
      have hk1 := hc
      refine c_seq fun K9 hK9 => ?_
      refine c_seq fun K10 hK10 => ?_
      refine c_region ?_
      refine s_pure h (ru_move (h.ev rfl)) rfl ?_; intro f h
      refine s_pure h (ru_len_str Try.underlying9 (h.ev rfl)) rfl ?_; intro f h
      refine s_pure h (ru_lss (h.ev rfl) (h.ev rfl)) rfl ?_; intro f h
      refine s_nil ?_
      refine hK10 _ _ ?_
      refine c_cond h rfl (fun hc => ?_) (fun hc => ?_)
      · replace hc := of_decide_eq_true hc
        have hk2 := hc
        refine c_seq fun K11 hK11 => ?_
        refine c_region ?_
        refine s_pure h (ru_build_e0 sttE) rfl ?_; intro f h
        refine s_store_row 0 h s row25 rfl rfl rfl (eArr_size _) (eArr_size _) (eArr_ones _) ?_; intro w1 s
        refine s_pure h (ru_assign (h.ev rfl)) rfl ?_; intro f h
        refine s_pure h (ru_assign (h.ev rfl)) rfl ?_; intro f h
        refine s_nil ?_
        refine hK11 _ _ ?_
        refine wpIn_ret ?_
        refine t_ret ?_
        refine b_ret ?_
        refine t_ret ?_
        exact e_row_tmp2 0 rfl h s row25 rfl rfl (eArr_size _) rfl rfl (by show _ = _; rw [entM_1s h0 hk1 hk2]; rfl)
      · replace hc := of_decide_eq_false hc
        have hk2 := hc
        refine wpIn_skip ?_
        refine hK9 _ _ ?_
        refine c_seq fun K12 hK12 => ?_
        refine c_region ?_
        refine s_pure h (ru_move (h.ev rfl)) rfl ?_; intro f h
        refine s_pure h (ru_slice_str (32) Try.underlying9 (h.ev rfl) (h.ev rfl) (rfl) (by omega)) rfl ?_; intro f h
        refine s_bytes h s Try.underlying9 Try.underlying47 Try.underlying5 rfl (by rw [ByteArray.size_extract]; omega) rfl ?_; intro f w1 v21 h s
        have hx32 : ((t9.extract 1 t9.size).extract 0 32).size = 32 := by rw [ByteArray.size_extract, hts]; omega
        refine s_pure h (ru_toarrZ (RdZ.of_own (s.getSl 0 rfl)) Try.underlying23 (h.ev rfl) (by omega) (by omega)) rfl ?_; intro f h
        refine s_load_at (RdZ.has0 (RdZ.of_own (s.getSl 0 rfl)) (by omega) (D := idArr (idOf fun i => sb t9 (1 + i))) (strL_id (by omega))) h row23 rfl (by first | exact idArr_size _ | exact bytesF_size _ _) rfl ?_; intro f h
        refine s_pure h (ru_build_ei sttE (h.ev rfl) (h.ev rfl)) rfl ?_; intro f h
        refine s_store_row 1 h s row25 rfl rfl rfl (eArr_size _) (eArr_size _) (eArr_ones _) ?_; intro w1 s
        refine s_pure h (ru_assign (h.ev rfl)) rfl ?_; intro f h
        refine s_pure h (ru_assign (h.ev rfl)) rfl ?_; intro f h
        refine s_nil ?_
        refine hK12 _ _ ?_
        refine wpIn_ret ?_
        refine b_ret ?_
        refine t_ret ?_
        exact e_row_tmp2 1 rfl h s row25 rfl rfl (eArr_size _) rfl rfl (by show _ = _; rw [entM_1 h0 hk1 hk2]; rfl)
    · replace hc := of_decide_eq_false hc
      have hk1 := hc
      refine c_seq fun K13 hK13 => ?_
      refine c_region ?_
      refine s_pure h (ru_eql (h.ev rfl) (h.ev rfl)) rfl ?_; intro f h
      refine s_pure h (ru_assign (h.ev rfl)) rfl ?_; intro f h
      refine s_nil ?_
      refine hK13 _ _ ?_
      refine c_cond h rfl (fun hc => ?_) (fun hc => ?_)
      · replace hc := of_decide_eq_true hc
        have hk2 := hc
        refine c_seq fun K14 hK14 => ?_
        refine c_seq fun K15 hK15 => ?_
        refine c_region ?_
        refine s_pure h (ru_move (h.ev rfl)) rfl ?_; intro f h
        refine s_pure h (ru_eql_str (h.ev rfl) (h.ev rfl)) rfl ?_; intro f h
        refine s_nil ?_
        refine hK15 _ _ ?_
        refine c_cond h rfl (fun hc => ?_) (fun hc => ?_)
        · replace hc := of_decide_eq_true hc
          have hk3 := hc
          refine c_seq fun K16 hK16 => ?_
          refine c_region ?_
          refine s_pure h (ru_build_e0 sttE) rfl ?_; intro f h
          refine s_store_row 0 h s row25 rfl rfl rfl (eArr_size _) (eArr_size _) (eArr_ones _) ?_; intro w1 s
          refine s_pure h (ru_assign (h.ev rfl)) rfl ?_; intro f h
          refine s_pure h (ru_assign (h.ev rfl)) rfl ?_; intro f h
          refine s_nil ?_
          refine hK16 _ _ ?_
          refine wpIn_ret ?_
          refine t_ret ?_
          refine b_ret ?_
          refine t_ret ?_
          exact e_row_tmp2 0 rfl h s row25 rfl rfl (eArr_size _) rfl rfl (by show _ = _; rw [entM_2s h0 hk2 hk3]; rfl)
        · replace hc := of_decide_eq_false hc
          have hk3 := ba_pos hc
          refine wpIn_skip ?_
          refine hK14 _ _ ?_
          refine c_seq fun K17 hK17 => ?_
          refine c_seq fun K18 hK18 => ?_
          refine c_region ?_
          refine s_pure h (ru_move (h.ev rfl)) rfl ?_; intro f h
          refine s_pure h (ru_ix_sb Try.underlying9 (0) (h.ev rfl) (h.ev rfl) (by omega) (by omega)) rfl ?_; intro f h
          refine s_pure h (ru_geq (h.ev rfl) (h.ev rfl)) rfl ?_; intro f h
          refine s_nil ?_
          refine hK18 _ _ ?_
          refine c_cond h rfl (fun hc => ?_) (fun hc => ?_)
          · replace hc := of_decide_eq_true hc
            have hk4 := hc
            refine c_seq fun K19 hK19 => ?_
            refine c_region ?_
            refine s_pure h (ru_build_e0 sttE) rfl ?_; intro f h
            refine s_store_row 0 h s row25 rfl rfl rfl (eArr_size _) (eArr_size _) (eArr_ones _) ?_; intro w1 s
            refine s_pure h (ru_assign (h.ev rfl)) rfl ?_; intro f h
            refine s_pure h (ru_assign (h.ev rfl)) rfl ?_; intro f h
            refine s_nil ?_
            refine hK19 _ _ ?_
            refine wpIn_ret ?_
            refine t_ret ?_
            refine b_ret ?_
            refine t_ret ?_
            exact e_row_tmp2 0 rfl h s row25 rfl rfl (eArr_size _) rfl rfl (by show _ = _; rw [entM_2h h0 hk2 hk3 hk4]; rfl)
          · replace hc := of_decide_eq_false hc
            have hk4 := hc
            refine wpIn_skip ?_
            refine hK17 _ _ ?_
            refine c_seq fun K20 hK20 => ?_
            refine c_region ?_
            refine s_pure h (ru_move (h.ev rfl)) rfl ?_; intro f h
            refine s_pure h (ru_ix_sb Try.underlying9 (0) (h.ev rfl) (h.ev rfl) (by omega) (by omega)) rfl ?_; intro f h
            have hb1 := sb_lt (t9.extract 1 t9.size) 0
            refine s_pure h (ru_conv_in Try.underlying5 Try.underlying3 (h.ev rfl) (IntWalk.i64_in _ (by omega))) rfl ?_; intro f h
            refine s_pure h (ru_build_eh sttE (h.ev rfl) (h.ev rfl)) rfl ?_; intro f h
            refine s_store_row 0 h s row25 rfl rfl rfl (eArr_size _) (eArr_size _) (eArr_ones _) ?_; intro w1 s
            refine s_pure h (ru_assign (h.ev rfl)) rfl ?_; intro f h
            refine s_pure h (ru_assign (h.ev rfl)) rfl ?_; intro f h
            refine s_nil ?_
            refine hK20 _ _ ?_
            refine wpIn_ret ?_
            refine b_ret ?_
            refine t_ret ?_
            exact e_row_tmp2 0 rfl h s row25 rfl rfl (eArr_size _) rfl rfl (by show _ = _; rw [entM_2 h0 hk2 hk3 hk4]; rfl)
      · replace hc := of_decide_eq_false hc
        have hk2 := hc
        refine wpIn_skip ?_
        refine b_norm ?_
        refine hK5 _ _ ?_
        refine c_seq fun K21 hK21 => ?_
        refine c_region ?_
        refine s_pure h (ru_build_e0 sttE) rfl ?_; intro f h
        refine s_store_row 0 h s row25 rfl rfl rfl (eArr_size _) (eArr_size _) (eArr_ones _) ?_; intro w1 s
        refine s_pure h (ru_assign (h.ev rfl)) rfl ?_; intro f h
        refine s_pure h (ru_assign (h.ev rfl)) rfl ?_; intro f h
        refine s_nil ?_
        refine hK21 _ _ ?_
        refine wpIn_ret ?_
        exact e_row_tmp2 0 rfl h s row25 rfl rfl (eArr_size _) rfl rfl (by show _ = _; rw [entM_n h0 hk1 hk2]; rfl)

theorem reader_any (sx : ByteArray) (at9 : Int) (w : World) : Calls Try.prog 48 [.string sx, .int .i64 at9].toArray w (Ret w (fun v w' => ∃ bs bt, v = .func (.func 50) #[] #[.pointer (some ⟨bs, 0, none⟩), .pointer (some ⟨bt, 0, none⟩)] ∧ St w [.blk bs (.cells #[.string sx] 9), .blk bt (.cells #[.int .i64 at9] 3)] w')) := by
  refine c_enter Try.func48 rfl Try.ntmps48 rfl [(0, .string sx), (1, .int .i64 at9)] (by simp) fun f h => ?_
  have s := St.start w
  refine c_seq fun K1 hK1 => ?_
  refine c_region ?_
  refine s_box (#[.string sx]) h s rfl rfl rfl ?_; intro f w1 b2 h s
  refine s_box (#[.int .i64 at9]) h s rfl rfl rfl ?_; intro f w1 b3 h s
  refine s_pure h (ru_assign (h.ev rfl)) rfl ?_; intro f h
  refine s_nil ?_
  refine hK1 _ _ ?_
  refine c_seq fun K2 hK2 => ?_
  refine c_region ?_
  refine s_pure h (ru_makeFunc [.pointer (some ⟨b2, 0, none⟩), .pointer (some ⟨b3, 0, none⟩)] (evsA h rfl)) rfl ?_; intro f h
  refine s_pure h (ru_assign (h.ev rfl)) rfl ?_; intro f h
  refine s_nil ?_
  refine hK2 _ _ ?_
  refine wpIn_ret ?_
  exact e_tmp rfl h s rfl (⟨b2, b3, rfl, s.perm (List.Perm.swap _ _ _)⟩)

theorem reader1_any (sx : ByteArray) (hsx : sx.size ≤ 100000) (n9 : Nat) (hn9 : n9 ≤ sx.size) (bs bt : Nat) (B9 : List Own) (w0 w : World) (s : St w0 (.blk bs (.cells #[.string sx] 9) :: .blk bt (.cells #[.int .i64 (n9 : Int)] 3) :: B9) w) : Calls Try.prog 50 [.pointer (some ⟨bs, 0, none⟩), .pointer (some ⟨bt, 0, none⟩)].toArray w (fun e w9 => ∃ v, e = .returned v ∧ v = .tuple #[.agg (eArr (entM (sufS sx n9)).2.1), .int .i64 ((n9 : Int) + (((entM (sufS sx n9)).2.2 : Nat) : Int)), .int .i64 (entM (sufS sx n9)).1] ∧ St w0 (.blk bs (.cells #[.string sx] 9) :: .blk bt (.cells #[.int .i64 ((n9 : Int) + (((entM (sufS sx n9)).2.2 : Nat) : Int))] 3) :: B9) w9) := by
  have hsu : (sufS sx n9).size = sx.size - n9 := suf_size sx n9
  have hel := entM_le (sufS sx n9)
  refine c_enterF Try.func50 rfl Try.ntmps50 rfl [(0, .pointer (some ⟨bs, 0, none⟩)), (1, .pointer (some ⟨bt, 0, none⟩))] (by simp) fun f h => ?_
  refine c_seq fun K1 hK1 => ?_
  refine c_region ?_
  refine s_alloc (eArr (0, 0#256, 0)) h s zero25 rfl rfl ?_; intro f w1 b2 h s
  refine s_pure h (ru_assign (h.ev rfl)) rfl ?_; intro f h
  refine s_pure h (ru_assign (h.ev rfl)) rfl ?_; intro f h
  refine s_nil ?_
  refine hK1 _ _ ?_
  refine c_seq fun K2 hK2 => ?_
  refine c_region ?_
  refine s_load_one 1 h s one9 rfl rfl (rfl) rfl ?_; intro f h
  refine s_load_one 2 h s one3 rfl rfl (rfl) rfl ?_; intro f h
  refine s_pure h (ru_slice_str_lo (n9) Try.underlying9 (h.ev rfl) (h.ev rfl) (rfl) (by omega)) rfl ?_; intro f h
  refine s_call h s fnc51 (entry_any (sufS sx n9) (by omega) _) rfl rfl ?_; intro f w1 v9 hT hE h s; obtain rfl := hT
  refine s_pure h (ru_move (h.ev rfl)) rfl ?_; intro f h
  refine s_pure h (ru_extract (h.ev rfl) rfl) rfl ?_; intro f h
  refine s_pure h (ru_extract (h.ev rfl) rfl) rfl ?_; intro f h
  refine s_pure h (ru_extract (h.ev rfl) rfl) rfl ?_; intro f h
  refine s_alloc (eArr (0, 0#256, 0)) h s zero25 rfl rfl ?_; intro f w1 b5 h s
  refine s_store_row 0 h s row25 rfl rfl rfl (eArr_size _) (eArr_size _) (eArr_ones _) ?_; intro w1 s
  refine s_pure h (ru_assign (h.ev rfl)) rfl ?_; intro f h
  refine s_pure h (ru_assign (h.ev rfl)) rfl ?_; intro f h
  refine s_nil ?_
  refine hK2 _ _ ?_
  refine c_seq fun K3 hK3 => ?_
  refine c_region ?_
  refine s_load_one 3 h s one3 rfl rfl (rfl) rfl ?_; intro f h
  refine s_pure h (ru_move (h.ev rfl)) rfl ?_; intro f h
  refine s_pure h (ru_add (h.ev rfl) (h.ev rfl) (by omega)) rfl ?_; intro f h
  refine s_store_one 3 h s one3 rfl rfl rfl (by simp) (rfl) ?_; intro w1 s
  refine s_nil ?_
  refine hK3 _ _ ?_
  refine c_seq fun K4 hK4 => ?_
  have hbs := s.ext.le
  refine' c_reg2 0 [1, 2, 4, 5] [] [[], [], [], [0], [0, 1, 3], [0, 1, 2, 3, 4]] (is undef :: is _ :: is _ :: is undef :: is _ :: is _ :: []) (fun w9 => w9.heap[bt]? = some (.cells #[.int .i64 ((n9 : Int) + (((entM (sufS sx n9)).2.2 : Nat) : Int))] 3)) h s (by kernel_rfl) (by kernel_rfl) (by kernel_rfl) (by kernel_rfl) rfl (fun _ _ h9 hE => heap_keep h9 hE) (s.get 3 rfl) ⟨⟨_, rfl⟩, ⟨_, rfl⟩, ⟨_, rfl⟩, ⟨_, rfl⟩, trivial⟩ ⟨is_mono _, is_mono _, is_mono _, is_mono _, is_mono _, is_mono _, trivial⟩ (And.intro ?_ (And.intro ?_ (And.intro ?_ (And.intro ?_ (And.intro ?_ (And.intro ?_ (trivial))))))) ?_
  rotate_left 4
  · exact obT_in (by decide) (by decide)
  · refine obH_in 20 rfl (by decide) ?_
    intro f9 w2 hE hs hl
    have e1 : f9.tmps.getD 1 undef = _ := sx_old hl 1 (by kernel_rfl) (by kernel_rfl) (h.holds 1 _ rfl)
    have h := fin_slot [(1, _)] hs rfl (holds_lk ⟨e1, trivial⟩)
    refine s_load_at1 (V := .int .i64 ((n9 : Int) + (((entM (sufS sx n9)).2.2 : Nat) : Int))) (cell_of_row w2 bt 0 _ _ _ hE) h one3 rfl rfl ?_; intro f h
    refine s_nil ?_
    have e9 := h.holds 20 _ rfl
    refine ⟨?_, rfl⟩
    refine e9.trans ?_
    exact rfl
  · refine obH_in 21 rfl (by decide) ?_
    intro f9 w2 hE hs hl
    have e7 : f9.tmps.getD 7 undef = _ := sx_old hl 7 (by kernel_rfl) (by kernel_rfl) (h.holds 7 _ rfl)
    have h := fin_slot [(7, _)] hs rfl (holds_lk ⟨e7, trivial⟩)
    refine s_pure h (ru_move (h.ev rfl)) rfl ?_; intro f h
    refine s_nil ?_
    have e9 := h.holds 21 _ rfl
    refine ⟨?_, rfl⟩
    refine e9.trans ?_
    exact rfl
  · exact obT_in (by decide) (by decide)
  · refine obH_in 3 rfl (by decide) ?_
    intro f9 w2 hE hs hl
    have e20 : f9.tmps.getD 20 undef = _ := sx_get hl 20 1 (by kernel_rfl) (by kernel_rfl)
    have h := fin_slot [(20, _)] hs rfl (holds_lk ⟨e20, trivial⟩)
    refine s_pure h (ru_assign (h.ev rfl)) rfl ?_; intro f h
    refine s_nil ?_
    have e9 := h.holds 3 _ rfl
    refine ⟨?_, rfl⟩
    refine e9.trans ?_
    exact rfl
  · refine obH_in 4 rfl (by decide) ?_
    intro f9 w2 hE hs hl
    have e21 : f9.tmps.getD 21 undef = _ := sx_get hl 21 2 (by kernel_rfl) (by kernel_rfl)
    have h := fin_slot [(21, _)] hs rfl (holds_lk ⟨e21, trivial⟩)
    refine s_pure h (ru_assign (h.ev rfl)) rfl ?_; intro f h
    refine s_nil ?_
    have e9 := h.holds 4 _ rfl
    refine ⟨?_, rfl⟩
    refine e9.trans ?_
    exact rfl
  · intro f9 w2 hE hs hd9 hWp hT hR hFr hDj
    replace h := sl_new (ops := _) [(20, _), (21, _), (3, _), (4, _)] h hs hd9 hR ⟨hT 1 20 (by decide) rfl, hT 2 21 (by decide) rfl, hT 4 3 (by decide) rfl, hT 5 4 (by decide) rfl, trivial⟩ (by kernel_rfl)
    replace s := s.more hE
    clear hT hR hFr hDj
    refine LstW.cons ?_
    refine s_load_row 0 h s row25 rfl rfl (eArr_size _) rfl ?_; intro f h
    refine s_nil ⟨s.get 3 rfl, ?_⟩
    refine LstW.cons ?_
    refine s_store_row 1 h s row25 rfl rfl rfl (eArr_size _) (eArr_size _) (eArr_ones _) ?_; intro w1 s
    refine s_nil ⟨s.get 3 rfl, ?_⟩
    refine LstW.nil ?_
    refine hK4 _ _ ?_
    refine wpIn_ret ?_
    exact e_row_tmp2F 1 rfl h s row25 rfl rfl (eArr_size _) rfl rfl (⟨_, rfl, rfl, s.pick _ (.cons _ (.cons _ (List.Sublist.refl _)))⟩)

theorem read_any (sx : ByteArray) (hsx : sx.size ≤ 100000) (w : World) : Calls Try.prog 45 [.string sx].toArray w (Ret w (fun v w' => ∃ vs, v = .tuple #[vs, .int .i64 (((readM sx).2.2 : Nat) : Int), .int .i64 (readM sx).1] ∧ Owns w' w.heap.size 25 34 vs (readM sx).2.1.length (eCells (readM sx).2.1))) := by
  have hb0 := sb_lt sx 0
  refine c_enter Try.func45 rfl Try.ntmps45 rfl [(0, .string sx)] (by simp) fun f h => ?_
  have s := St.start w
  refine c_seq fun K1 hK1 => ?_
  refine c_region ?_
  refine s_pure h (ru_assign (h.ev rfl)) rfl ?_; intro f h
  refine s_pure h (ru_assign (h.ev rfl)) rfl ?_; intro f h
  refine s_pure h (ru_assign (h.ev rfl)) rfl ?_; intro f h
  refine s_nil ?_
  refine hK1 _ _ ?_
  refine c_seq fun K2 hK2 => ?_
  refine c_seq fun K3 hK3 => ?_
  refine c_region ?_
  refine s_pure h (ru_move (h.ev rfl)) rfl ?_; intro f h
  refine s_pure h (ru_eql_str (h.ev rfl) (h.ev rfl)) rfl ?_; intro f h
  refine s_nil ?_
  refine hK3 _ _ ?_
  refine c_cond h rfl (fun hc => ?_) (fun hc => ?_)
  · replace hc := of_decide_eq_true hc
    refine c_seq fun K4 hK4 => ?_
    refine c_region ?_
    refine s_pure h (ru_assign (h.ev rfl)) rfl ?_; intro f h
    refine s_pure h (ru_assign (h.ev rfl)) rfl ?_; intro f h
    refine s_pure h (ru_assign (h.ev rfl)) rfl ?_; intro f h
    refine s_nil ?_
    refine hK4 _ _ ?_
    refine wpIn_ret ?_
    refine t_ret ?_
    exact e_tmps3 rfl h s rfl rfl rfl (rd_out (readM_0 hc) rfl (owns_nil _ _ _ _))
  · replace hc := of_decide_eq_false hc
    have h0 := ba_pos hc
    refine wpIn_skip ?_
    refine hK2 _ _ ?_
    refine c_seq fun K5 hK5 => ?_
    refine c_region ?_
    refine s_pure h (ru_move (h.ev rfl)) rfl ?_; intro f h
    refine s_pure h (ru_ix_sb Try.underlying9 (0) (h.ev rfl) (h.ev rfl) (by omega) (by omega)) rfl ?_; intro f h
    refine s_pure h (ru_conv_in Try.underlying5 Try.underlying3 (h.ev rfl) (IntWalk.i64_in _ (by omega))) rfl ?_; intro f h
    refine s_pure h (ru_assign (h.ev rfl)) rfl ?_; intro f h
    refine s_nil ?_
    refine hK5 _ _ ?_
    refine c_seq fun K6 hK6 => ?_
    refine c_seq fun K7 hK7 => ?_
    cases hq : (decide (((sb sx 0 : Nat) : Int) < 1) : Bool)
    · skip
      refine c_region ?_
      refine s_pure h (ru_move (h.ev rfl)) rfl ?_; intro f h
      refine s_pure h (ru_val (.bool false) (ru_lss (h.ev rfl) (h.ev rfl)) (congrArg Value.bool hq)) rfl ?_; intro f h
      refine s_pure h (ru_move (h.ev rfl)) rfl ?_; intro f h
      refine s_on h rfl rfl rfl ?_
      refine s_pure h (ru_move (h.ev rfl)) rfl ?_; intro f h
      refine s_on h rfl rfl rfl ?_
      refine s_pure h (ru_gtr (h.ev rfl) (h.ev rfl)) rfl ?_; intro f h
      refine s_pure h (ru_pick_f (h.ev rfl) (h.ev rfl)) rfl ?_; intro f h
      refine s_nil ?_
      refine hK7 _ _ ?_
      refine c_cond h rfl (fun hc => ?_) (fun hc => ?_)
      · replace hc := of_decide_eq_true hc
        have h4 := hc
        refine c_seq fun K8 hK8 => ?_
        refine c_region ?_
        refine s_pure h (ru_assign (h.ev rfl)) rfl ?_; intro f h
        refine s_pure h (ru_assign (h.ev rfl)) rfl ?_; intro f h
        refine s_pure h (ru_assign (h.ev rfl)) rfl ?_; intro f h
        refine s_nil ?_
        refine hK8 _ _ ?_
        refine wpIn_ret ?_
        refine t_ret ?_
        exact e_tmps3 rfl h s rfl rfl rfl (rd_out (readM_5 h0 (.inr h4)) rfl (owns_nil _ _ _ _))
      · replace hc := of_decide_eq_false hc
        have h4 := hc
        refine wpIn_skip ?_
        refine hK6 _ _ ?_
        refine c_seq fun K9 hK9 => ?_
        refine c_region ?_
        refine s_pure h (ru_move (h.ev rfl)) rfl ?_; intro f h
        have hx9 := s.ext
        refine s_call h s fnc48 (reader_any sx 1 _) rfl rfl ?_; rintro f w1 v24 ⟨bs, bt, rfl, sq⟩ hE h s
        replace s := sq.rebase hx9
        replace hq := of_decide_eq_false hq
        refine s_pure h (ru_assign (h.ev rfl)) rfl ?_; intro f h
        refine s_nil ?_
        refine hK9 _ _ ?_
        refine c_seq fun K10 hK10 => ?_
        refine c_region ?_
        refine s_pure h (ru_assign (h.ev rfl)) rfl ?_; intro f h
        replace s := s.nilSl 25 34
        refine s_nil ?_
        refine hK10 _ _ ?_
        refine c_seq fun K11 hK11 => ?_
        refine c_region ?_
        refine s_pure h (ru_assign (h.ev rfl)) rfl ?_; intro f h
        refine s_nil ?_
        refine hK11 _ _ ?_
        refine c_seq fun K12 hK12 => ?_
        refine c_seq fun K13 hK13 => ?_
        refine c_region ?_
        refine s_pure h (ru_move (h.ev rfl)) rfl ?_; intro f h
        refine s_pure h (ru_move (h.ev rfl)) rfl ?_; intro f h
        refine s_nil ?_
        refine hK13 _ _ ?_
        refine wpIn_block ?_
        refine wpIn_loop_ghost (fun nn aa ww => ∃ k : Nat, ∃ vl : Value, Sl 45 aa [(0, .string sx), (6, .func (.func 50) #[] #[.pointer (some ⟨bs, 0, none⟩), .pointer (some ⟨bt, 0, none⟩)]), (7, vl), (8, .int .i64 (endM sx k)), (25, .int .i64 ((sb sx 0 : Nat) : Int)), (26, .int .i64 (k : Int))] ∧ St w [.sl vl 25 34 k (eCells (rdS sx k).2.1), .blk bs (.cells (#[.string sx]) 9), .blk bt (.cells (#[.int .i64 (((rdS sx k).2.2 : Nat) : Int)]) 3)] ww ∧ nn = sb sx 0 - k ∧ k ≤ sb sx 0 ∧ (rdS sx k).1 = 0) (sb sx 0 - (0)) ⟨0, (Value.slice none 0 0), h.only ⟨rfl, rfl, rfl, slot_int rfl rfl, rfl, slot_int rfl (by omega), trivial⟩, s.as ⟨rfl, rfl, rfl, trivial⟩, rfl, Nat.zero_le _, rfl⟩ ?_
        rintro _ f w1 ⟨k, vl, h, s, hnn, hp0, hp1⟩
        refine c_seq fun K14 hK14 => ?_
        refine c_region ?_
        refine s_pure h (ru_lss (h.ev rfl) (h.ev rfl)) rfl ?_; intro f h
        refine s_nil ?_
        refine hK14 _ _ ?_
        refine c_seq fun K15 hK15 => ?_
        refine c_cond h rfl (fun hc => ?_) (fun hc => ?_)
        · replace hc := of_decide_eq_true hc
          refine wpIn_skip ?_
          refine hK15 _ _ ?_
          refine c_seq fun K16 hK16 => ?_
          refine wpIn_block ?_
          refine c_seq fun K17 hK17 => ?_
          refine c_region ?_
          refine s_pure h (ru_move (h.ev rfl)) rfl ?_; intro f h
          have hkl : k < sb sx 0 := by omega
          obtain ⟨hro1, hro2, hro3, hro4, hro5⟩ := rd_ok sx (by omega) k hp1
          have hel := entM_le (sufS sx (rdS sx k).2.2)
          have hsu := suf_size sx (rdS sx k).2.2
          refine s_callVS [] (caps := [.pointer (some ⟨bs, 0, none⟩), .pointer (some ⟨bt, 0, none⟩)]) h fnc50 rfl (reader1_any sx hsx (rdS sx k).2.2 (by omega) bs bt _ _ _ (s.sel [1, 2, 0] rfl (by decide))) rfl rfl ?_; rintro f w1 v30 ⟨rfl, s⟩ h
          refine s_pure h (ru_move (h.ev rfl)) rfl ?_; intro f h
          refine s_pure h (ru_extract (h.ev rfl) rfl) rfl ?_; intro f h
          refine s_pure h (ru_extract (h.ev rfl) rfl) rfl ?_; intro f h
          refine s_pure h (ru_extract (h.ev rfl) rfl) rfl ?_; intro f h
          refine s_alloc (eArr (0, 0#256, 0)) h s zero25 rfl rfl ?_; intro f w1 b9 h s
          refine s_store_row 0 h s row25 rfl rfl rfl (eArr_size _) (eArr_size _) (eArr_ones _) ?_; intro w1 s
          refine s_pure h (ru_assign (h.ev rfl)) rfl ?_; intro f h
          refine s_pure h (ru_assign (h.ev rfl)) rfl ?_; intro f h
          refine s_nil ?_
          refine hK17 _ _ ?_
          refine c_seq fun K18 hK18 => ?_
          refine c_seq fun K19 hK19 => ?_
          refine c_region ?_
          refine s_pure h (ru_move (h.ev rfl)) rfl ?_; intro f h
          refine s_pure h (ru_neq (h.ev rfl) (h.ev rfl)) rfl ?_; intro f h
          refine s_nil ?_
          refine hK19 _ _ ?_
          refine c_cond h rfl (fun hc => ?_) (fun hc => ?_)
          · have he1 := of_decide_eq_true hc
            refine c_seq fun K20 hK20 => ?_
            refine c_region ?_
            refine s_pure h (ru_move (h.ev rfl)) rfl ?_; intro f h
            refine s_pure h (ru_assign (h.ev rfl)) rfl ?_; intro f h
            refine s_pure h (ru_assign (h.ev rfl)) rfl ?_; intro f h
            refine s_pure h (ru_assign (h.ev rfl)) rfl ?_; intro f h
            refine s_nil ?_
            refine hK20 _ _ ?_
            refine wpIn_ret ?_
            refine t_ret ?_
            refine b_ret ?_
            refine t_ret ?_
            refine t_ret ?_
            refine b_ret ?_
            refine t_ret ?_
            exact e_tmps3 rfl h s rfl rfl rfl (rd_out (rd_bad' h0 hq h4 hp1 hkl he1) rfl (owns_nil _ _ _ _))
          · have he0 : (entM (sufS sx (rdS sx k).2.2)).1 = 0 := by have := of_decide_eq_false hc; omega
            refine wpIn_skip ?_
            refine hK18 _ _ ?_
            refine c_region ?_
            refine s_pure h (ru_move (h.ev rfl)) rfl ?_; intro f h
            refine s_load_row 0 h s row25 rfl rfl (eArr_size _) rfl ?_; intro f h
            refine s_bslice (vs := [.agg (eArr (entM (sufS sx (rdS sx k).2.2)).2.1)]) [.tmp 38] h s Try.underlying26 elm25 rfl rfl (by intro v hv; rw [List.mem_singleton] at hv; subst hv; exact eArr_size _) rfl rfl rfl ?_; intro f w1 v39 h s
            refine s_append 4 0 h s Try.underlying26 elm25 rfl rfl rfl rfl (by decide) (by simp only [List.flatMap_cons, List.flatMap_nil, List.append_nil]; exact eArr_ones _) (by unfold maxLen; omega) (by omega) rfl ?_; intro f w1 v40 h s
            replace s := s.pick _ (List.sublist_cons_self _ _)
            refine s_pure h (ru_move (h.ev rfl)) rfl ?_; intro f h
            refine s_pure h (ru_assign (h.ev rfl)) rfl ?_; intro f h
            refine s_pure h (ru_assign (h.ev rfl)) rfl ?_; intro f h
            refine s_nil ?_
            refine b_norm ?_
            refine hK16 _ _ ?_
            refine c_region ?_
            refine s_pure h (ru_add (h.ev rfl) (h.ev rfl) (by omega)) rfl ?_; intro f h
            refine s_pure h (ru_move (h.ev rfl)) rfl ?_; intro f h
            refine s_nil ?_
            refine t_norm ?_
            exact ⟨_, by omega, ⟨k + 1, v40, h.only ⟨rfl, rfl, rfl, slot_int rfl (endM_ok hp1 he0), slot_int rfl (by omega), slot_int rfl (by omega), trivial⟩, St.as (s.sel [3, 1, 2] rfl (by decide)) ⟨sl_eq rfl (eCells_next hp1 he0), rfl, cells_eq (by rw [rdS_ok hp1 he0]; exact congrArg (fun x => #[Value.int .i64 x]) (Int.natCast_add _ _).symm), trivial⟩, rfl, by omega, by rw [rdS_ok hp1 he0]⟩⟩
        · replace hc := of_decide_eq_false hc
          refine wpIn_exit ?_
          refine t_exit ?_
          refine t_exit ?_
          refine b_exit ?_
          refine hK12 _ _ ?_
          refine c_seq fun K21 hK21 => ?_
          refine c_region ?_
          obtain ⟨hlen, _⟩ := rd_ok sx (by omega) k hp1
          have hend : endM sx k = (((rdS sx k).2.2 : Nat) : Int) := by unfold endM; rw [if_neg (by omega)]
          refine s_pure h (ru_move (h.ev rfl)) rfl ?_; intro f h
          refine s_pure h (ru_move (h.ev rfl)) rfl ?_; intro f h
          refine s_pure h (ru_assign (h.ev rfl)) rfl ?_; intro f h
          refine s_pure h (ru_assign (h.ev rfl)) rfl ?_; intro f h
          refine s_pure h (ru_assign (h.ev rfl)) rfl ?_; intro f h
          refine s_nil ?_
          refine hK21 _ _ ?_
          refine wpIn_ret ?_
          exact e_tmps3 rfl h s rfl rfl rfl (rd_out (rd_end h0 hq h4 hp1 (by omega)) hend (by rw [hlen]; exact s.getSl 0 rfl))
    · skip
      refine c_region ?_
      refine s_pure h (ru_move (h.ev rfl)) rfl ?_; intro f h
      refine s_pure h (ru_val (.bool true) (ru_lss (h.ev rfl) (h.ev rfl)) (congrArg Value.bool hq)) rfl ?_; intro f h
      refine s_pure h (ru_move (h.ev rfl)) rfl ?_; intro f h
      refine s_off (b := false) h rfl rfl rfl rfl ?_; intro f h
      refine s_off (b := false) h rfl rfl rfl rfl ?_; intro f h
      refine s_pure h (ru_pick_t (h.ev rfl) (h.ev rfl)) rfl ?_; intro f h
      refine s_nil ?_
      refine hK7 _ _ ?_
      refine wpIn_cond_true (h.ev rfl) ?_
      refine c_seq fun K22 hK22 => ?_
      refine c_region ?_
      refine s_pure h (ru_assign (h.ev rfl)) rfl ?_; intro f h
      refine s_pure h (ru_assign (h.ev rfl)) rfl ?_; intro f h
      refine s_pure h (ru_assign (h.ev rfl)) rfl ?_; intro f h
      refine s_nil ?_
      refine hK22 _ _ ?_
      refine wpIn_ret ?_
      refine t_ret ?_
      exact e_tmps3 rfl h s rfl rfl rfl (rd_out (readM_5 h0 (.inl (of_decide_eq_true hq))) rfl (owns_nil _ _ _ _))
end Go.Proofs.Ytaehgcdcfbhohaa
