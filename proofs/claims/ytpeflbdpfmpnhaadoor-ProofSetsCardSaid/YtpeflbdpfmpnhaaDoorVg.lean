/- What ProofKeys answers: for all arguments. -/
import Derived.Test.YtpeflbdpfmpnhaaDoorVf
set_option linter.unusedVariables false
set_option linter.unusedSimpArgs false
set_option linter.unusedSectionVars false
namespace Go.Proofs.YtpeflbdpfmpnhaaDoor
open Go.RowKit
set_option maxHeartbeats 4000000 in
theorem pkeys_any (a b tl : Id) (v9 : Value) (ls : List Lnk) (w : World) (hv : RdZ w v9 64 ls.length (lCells ls)) (hH : Tab w 0 (wF hTab 8)) (hK : Tab w 1 (wF kTab 64)) : Calls Tryd.prog 5 [idV a, idV b, idV tl, v9].toArray w (Ret w (is (.bool true))) := by
  have hmv := rz_take hv (min ls.length 60) (by omega)
  obtain ⟨ms, hms⟩ : ∃ ms, ms = (ls.take (min ls.length 60)) := ⟨_, rfl⟩
  rw [← hms] at hmv
  have hml : ms.length ≤ 60 := by rw [hms, List.length_take]; omega
  have hs2 := rz_take hmv (ms.length / 2) (by omega)
  have hsl : (ms.take (ms.length / 2)).length ≤ 60 := by rw [List.length_take]; omega
  refine c_enter Tryd.func5 rfl Tryd.ntmps5 rfl [(0, idV a), (1, idV b), (2, idV tl), (3, v9)] (by simp) fun f h => ?_
  have s := St.start w
  refine c_seq fun K1 hK1 => ?_
  refine c_region ?_
  refine s_box (idArr a) h s rfl rfl rfl ?_; intro f w1 b4 h s
  refine s_box (idArr b) h s rfl rfl rfl ?_; intro f w1 b5 h s
  refine s_box (idArr tl) h s rfl rfl rfl ?_; intro f w1 b6 h s
  refine s_pure h (ru_assign (h.ev rfl)) rfl ?_; intro f h
  refine s_nil ?_
  refine hK1 _ _ ?_
  refine c_seq fun K2 hK2 => ?_
  have hbs := s.ext.le
  refine' c_reg2 4 [0, 1] [2, 3] [[], [], [], [], [0, 2, 3], [0, 1, 2, 3, 4]] (is _ :: is _ :: (PtrT (idArr 0#256) 23) :: (PtrT (idArr 0#256) 23) :: is undef :: is undef :: []) (fun w9 => w9.heap[b4]? = some (.cells (idArr a) 23) ∧ w9.heap[b5]? = some (.cells (idArr b) 23)) h s (by kernel_rfl) (by kernel_rfl) (by kernel_rfl) (by kernel_rfl) rfl (fun _ _ h9 hE => ⟨heap_keep h9.1 hE, heap_keep h9.2 hE⟩) (⟨s.get 2 rfl, s.get 1 rfl⟩) ⟨⟨_, rfl⟩, ⟨_, rfl⟩, trivial⟩ ⟨is_mono _, is_mono _, PtrT.mono _ _, PtrT.mono _ _, is_mono _, is_mono _, trivial⟩ (And.intro ?_ (And.intro ?_ (And.intro ?_ (And.intro ?_ (And.intro ?_ (And.intro ?_ (trivial))))))) ?_
  rotate_left 2
  · refine obH_in 19 rfl (by decide) ?_
    intro f9 w2 hE hs hl
    have e4 : f9.tmps.getD 4 undef = _ := sx_old hl 4 (by kernel_rfl) (by kernel_rfl) (h.holds 4 _ rfl)
    have h := fin_slot [(4, _)] hs rfl (holds_lk ⟨e4, trivial⟩)
    refine s_load_at (Has.of_blk hE.1) h row23 rfl (idArr_size _) rfl ?_; intro f h
    refine s_nil ?_
    have e9 := h.holds 19 _ rfl
    refine ⟨?_, rfl⟩
    refine e9.trans ?_
    exact rfl
  · refine obH_in 20 rfl (by decide) ?_
    intro f9 w2 hE hs hl
    have e5 : f9.tmps.getD 5 undef = _ := sx_old hl 5 (by kernel_rfl) (by kernel_rfl) (h.holds 5 _ rfl)
    have h := fin_slot [(5, _)] hs rfl (holds_lk ⟨e5, trivial⟩)
    refine s_load_at (Has.of_blk hE.2) h row23 rfl (idArr_size _) rfl ?_; intro f h
    refine s_nil ?_
    have e9 := h.holds 20 _ rfl
    refine ⟨?_, rfl⟩
    refine e9.trans ?_
    exact rfl
  · refine obF_in 9 rfl (by decide) (by decide) ?_
    intro f9 w2 hE hs hd9 hl
    have h := fin_slot [] hs hd9 (holds_lk trivial)
    have s := s.more hE
    have z := St.start w2
    refine s_alloc (idArr 0#256) h z zero23 rfl rfl ?_; intro f w1 b9 h z
    refine s_nil ?_
    exact kf_ptr (h.holds 9 _ rfl) z
  · refine obF_in 10 rfl (by decide) (by decide) ?_
    intro f9 w2 hE hs hd9 hl
    have h := fin_slot [] hs hd9 (holds_lk trivial)
    have s := s.more hE
    have z := St.start w2
    refine s_alloc (idArr 0#256) h z zero23 rfl rfl ?_; intro f w1 b9 h z
    refine s_nil ?_
    exact kf_ptr (h.holds 10 _ rfl) z
  · exact obT_in (by decide) (by decide)
  · exact obT_in (by decide) (by decide)
  · intro f9 w2 hE hs hd9 hWp hT hR hFr hDj
    obtain ⟨u9, hu9⟩ : ∃ v, f9.tmps.getD 9 undef = v := ⟨_, rfl⟩
    have e9 : (PtrT (idArr 0#256) 23) u9 w2 := by rw [← hu9]; exact hT 2 9 (by decide) rfl
    have k9 := hFr 2 9 (by decide) rfl; rw [hu9] at k9
    obtain ⟨u10, hu10⟩ : ∃ v, f9.tmps.getD 10 undef = v := ⟨_, rfl⟩
    have e10 : (PtrT (idArr 0#256) 23) u10 w2 := by rw [← hu10]; exact hT 3 10 (by decide) rfl
    have k10 := hFr 3 10 (by decide) rfl; rw [hu10] at k10
    replace h := sl_new (ops := _) [(19, _), (20, _), (9, u9), (10, u10)] h hs hd9 hR ⟨hT 0 19 (by decide) rfl, hT 1 20 (by decide) rfl, hu9, hu10, trivial⟩ (by kernel_rfl)
    obtain ⟨b9, b10, hb9, hb10, s⟩ := ptr_join2 s hE e9 k9 e10 k10 (by have := hDj 2 3 9 10 (by decide) (by decide) (by decide) rfl rfl; rw [hu9, hu10] at this; exact this); subst hb9; subst hb10
    clear hT hR hFr hDj
    refine LstW.cons ?_
    refine s_store_row 0 h s row23 rfl rfl rfl (by first | exact idArr_size _ | exact bytesF_size _ _) (by first | exact idArr_size _ | exact bytesF_size _ _) (by first | exact idArr_ones _ | exact bytesF_ones _ _) ?_; intro w1 s
    refine s_nil ⟨⟨s.get 4 rfl, s.get 3 rfl⟩, ?_⟩
    refine LstW.cons ?_
    refine s_store_row 1 h s row23 rfl rfl rfl (by first | exact idArr_size _ | exact bytesF_size _ _) (by first | exact idArr_size _ | exact bytesF_size _ _) (by first | exact idArr_ones _ | exact bytesF_ones _ _) ?_; intro w1 s
    refine s_nil ⟨⟨s.get 4 rfl, s.get 3 rfl⟩, ?_⟩
    refine LstW.nil ?_
    refine hK2 _ _ ?_
    refine c_seq fun K3 hK3 => ?_
    refine c_seq fun K4 hK4 => ?_
    refine c_region ?_
    refine s_pure h (ru_assign (h.ev rfl)) rfl ?_; intro f h
    refine s_nil ?_
    refine hK4 _ _ ?_
    refine wpIn_block ?_
    refine wpIn_loop_ghost (fun nn aa ww => ∃ k : Nat, Sl 125 aa [(0, idV a), (1, idV b), (2, idV tl), (3, v9), (4, .pointer (some ⟨b4, 0, none⟩)), (5, .pointer (some ⟨b5, 0, none⟩)), (6, .pointer (some ⟨b6, 0, none⟩)), (9, .pointer (some ⟨b9, 0, none⟩)), (10, .pointer (some ⟨b10, 0, none⟩)), (11, .int .i64 ((k + 16 : Nat) : Int))] ∧ St w [.blk b9 (.cells (bytesF (xF a tl k) 32) 23), .blk b10 (.cells (bytesF (yF b tl k) 32) 23), .blk b6 (.cells (idArr tl) 23), .blk b5 (.cells (idArr b) 23), .blk b4 (.cells (idArr a) 23)] ww ∧ nn = 16 - k ∧ k ≤ 16) (16 - (0)) ⟨0, h.only ⟨rfl, rfl, rfl, rfl, rfl, rfl, rfl, rfl, rfl, slot_int rfl rfl, trivial⟩, s.as ⟨cells_eq (xF_zero _ _), cells_eq (yF_zero _ _), rfl, rfl, rfl, trivial⟩, rfl, Nat.zero_le _⟩ ?_
    rintro _ f w1 ⟨k, h, s, hnn, hp0⟩
    refine c_seq fun K5 hK5 => ?_
    refine c_seq fun K6 hK6 => ?_
    refine c_region ?_
    refine s_pure h (ru_move (h.ev rfl)) rfl ?_; intro f h
    refine s_pure h (ru_lss (h.ev rfl) (h.ev rfl)) rfl ?_; intro f h
    refine s_nil ?_
    refine hK6 _ _ ?_
    refine c_cond h rfl (fun hc => ?_) (fun hc => ?_)
    · replace hc := of_decide_eq_true hc
      refine wpIn_skip ?_
      refine hK5 _ _ ?_
      refine c_seq fun K7 hK7 => ?_
      refine wpIn_block ?_
      have hbs := s.ext.le
      refine' c_reg2 0 [0, 1, 2, 3, 4, 5, 6, 7, 8, 9, 10, 12] [] [[], [], [], [2], [2, 3], [], [5], [5, 6], [5, 6, 7], [5, 6, 7, 8], [0, 2, 3, 4], [0, 2, 3, 4, 10], [0, 1, 2, 3, 4, 5, 6, 7, 8, 9, 10, 11], [0, 1, 2, 3, 4, 5, 6, 7, 8, 9, 10, 11, 12]] (is _ :: is _ :: is _ :: is _ :: is _ :: is _ :: is _ :: is _ :: is _ :: is _ :: is _ :: is undef :: is _ :: is undef :: []) (fun w9 => w9.heap[b6]? = some (.cells (idArr tl) 23)) h s (by kernel_rfl) (by kernel_rfl) (by kernel_rfl) (by kernel_rfl) rfl (fun _ _ h9 hE => heap_keep h9 hE) (s.get 2 rfl) ⟨⟨_, rfl⟩, ⟨_, rfl⟩, ⟨_, rfl⟩, ⟨_, rfl⟩, ⟨_, rfl⟩, ⟨_, rfl⟩, ⟨_, rfl⟩, ⟨_, rfl⟩, ⟨_, rfl⟩, ⟨_, rfl⟩, ⟨_, rfl⟩, ⟨_, rfl⟩, trivial⟩ ⟨is_mono _, is_mono _, is_mono _, is_mono _, is_mono _, is_mono _, is_mono _, is_mono _, is_mono _, is_mono _, is_mono _, is_mono _, is_mono _, is_mono _, trivial⟩ (And.intro ?_ (And.intro ?_ (And.intro ?_ (And.intro ?_ (And.intro ?_ (And.intro ?_ (And.intro ?_ (And.intro ?_ (And.intro ?_ (And.intro ?_ (And.intro ?_ (And.intro ?_ (And.intro ?_ (And.intro ?_ (trivial))))))))))))))) ?_
      rotate_left 12
      · refine obH_in 25 rfl (by decide) ?_
        intro f9 w2 hE hs hl
        have e11 : f9.tmps.getD 11 undef = _ := sx_old hl 11 (by kernel_rfl) (by kernel_rfl) (h.holds 11 _ rfl)
        have h := fin_slot [(11, _)] hs rfl (holds_lk ⟨e11, trivial⟩)
        refine s_pure h (ru_move (h.ev rfl)) rfl ?_; intro f h
        refine s_nil ?_
        have e9 := h.holds 25 _ rfl
        refine ⟨?_, rfl⟩
        refine e9.trans ?_
        exact rfl
      · refine obH_in 26 rfl (by decide) ?_
        intro f9 w2 hE hs hl
        have e11 : f9.tmps.getD 11 undef = _ := sx_old hl 11 (by kernel_rfl) (by kernel_rfl) (h.holds 11 _ rfl)
        have h := fin_slot [(11, _)] hs rfl (holds_lk ⟨e11, trivial⟩)
        refine s_pure h (ru_move (h.ev rfl)) rfl ?_; intro f h
        refine s_nil ?_
        have e9 := h.holds 26 _ rfl
        refine ⟨?_, rfl⟩
        refine e9.trans ?_
        exact rfl
      · refine obH_in 27 rfl (by decide) ?_
        intro f9 w2 hE hs hl
        have e11 : f9.tmps.getD 11 undef = _ := sx_old hl 11 (by kernel_rfl) (by kernel_rfl) (h.holds 11 _ rfl)
        have h := fin_slot [(11, _)] hs rfl (holds_lk ⟨e11, trivial⟩)
        refine s_pure h (ru_move (h.ev rfl)) rfl ?_; intro f h
        refine s_nil ?_
        have e9 := h.holds 27 _ rfl
        refine ⟨?_, rfl⟩
        refine e9.trans ?_
        exact rfl
      · refine obH_in 28 rfl (by decide) ?_
        intro f9 w2 hE hs hl
        have e6 : f9.tmps.getD 6 undef = _ := sx_old hl 6 (by kernel_rfl) (by kernel_rfl) (h.holds 6 _ rfl)
        have e27 : f9.tmps.getD 27 undef = _ := sx_get hl 27 2 (by kernel_rfl) (by kernel_rfl)
        have h := fin_slot [(6, _), (27, _)] hs rfl (holds_lk ⟨e6, e27, trivial⟩)
        refine s_pure h (ru_ix (k + 16) Tryd.underlying23 size5 (h.ev rfl) (h.ev rfl) (by omega) (by omega)) rfl ?_; intro f h
        refine s_nil ?_
        have e9 := h.holds 28 _ rfl
        refine ⟨?_, rfl⟩
        refine e9.trans ?_
        exact rfl
      · refine obH_in 29 rfl (by decide) ?_
        intro f9 w2 hE hs hl
        have e28 : f9.tmps.getD 28 undef = _ := sx_get hl 28 3 (by kernel_rfl) (by kernel_rfl)
        have h := fin_slot [(28, _)] hs rfl (holds_lk ⟨e28, trivial⟩)
        refine s_load_at1 (V := .int .u8 (byteAt tl (k + 16) : Int)) ((cell_of_row w2 b6 (k + 16) _ _ _ hE).trans (idArr_get _ _ (by omega))) h one5 rfl rfl ?_; intro f h
        refine s_nil ?_
        have e9 := h.holds 29 _ rfl
        refine ⟨?_, rfl⟩
        refine e9.trans ?_
        exact rfl
      · refine obH_in 30 rfl (by decide) ?_
        intro f9 w2 hE hs hl
        have e11 : f9.tmps.getD 11 undef = _ := sx_old hl 11 (by kernel_rfl) (by kernel_rfl) (h.holds 11 _ rfl)
        have h := fin_slot [(11, _)] hs rfl (holds_lk ⟨e11, trivial⟩)
        refine s_pure h (ru_move (h.ev rfl)) rfl ?_; intro f h
        refine s_nil ?_
        have e9 := h.holds 30 _ rfl
        refine ⟨?_, rfl⟩
        refine e9.trans ?_
        exact rfl
      · refine obH_in 31 rfl (by decide) ?_
        intro f9 w2 hE hs hl
        have e30 : f9.tmps.getD 30 undef = _ := sx_get hl 30 5 (by kernel_rfl) (by kernel_rfl)
        have h := fin_slot [(30, _)] hs rfl (holds_lk ⟨e30, trivial⟩)
        refine s_pure h (ru_sub (h.ev rfl) (h.ev rfl) (by omega)) rfl ?_; intro f h
        refine s_nil ?_
        have e9 := h.holds 31 _ rfl
        refine ⟨?_, rfl⟩
        refine e9.trans ?_
        exact rfl
      · refine obH_in 32 rfl (by decide) ?_
        intro f9 w2 hE hs hl
        have e31 : f9.tmps.getD 31 undef = _ := sx_get hl 31 6 (by kernel_rfl) (by kernel_rfl)
        have h := fin_slot [(31, _)] hs rfl (holds_lk ⟨e31, trivial⟩)
        refine s_pure h (ru_add (h.ev rfl) (h.ev rfl) (by omega)) rfl ?_; intro f h
        refine s_nil ?_
        have e9 := h.holds 32 _ rfl
        refine ⟨?_, rfl⟩
        refine e9.trans ?_
        exact rfl
      · refine obH_in 33 rfl (by decide) ?_
        intro f9 w2 hE hs hl
        have e6 : f9.tmps.getD 6 undef = _ := sx_old hl 6 (by kernel_rfl) (by kernel_rfl) (h.holds 6 _ rfl)
        have e32 : f9.tmps.getD 32 undef = _ := sx_get hl 32 7 (by kernel_rfl) (by kernel_rfl)
        have h := fin_slot [(6, _), (32, _)] hs rfl (holds_lk ⟨e6, e32, trivial⟩)
        refine s_pure h (ru_ix (31 - k) Tryd.underlying23 size5 (h.ev rfl) (h.ev rfl) (by omega) (by omega)) rfl ?_; intro f h
        refine s_nil ?_
        have e9 := h.holds 33 _ rfl
        refine ⟨?_, rfl⟩
        refine e9.trans ?_
        exact rfl
      · refine obH_in 34 rfl (by decide) ?_
        intro f9 w2 hE hs hl
        have e33 : f9.tmps.getD 33 undef = _ := sx_get hl 33 8 (by kernel_rfl) (by kernel_rfl)
        have h := fin_slot [(33, _)] hs rfl (holds_lk ⟨e33, trivial⟩)
        refine s_load_at1 (V := .int .u8 (byteAt tl (31 - k) : Int)) ((cell_of_row w2 b6 (31 - k) _ _ _ hE).trans (idArr_get _ _ (by omega))) h one5 rfl rfl ?_; intro f h
        refine s_nil ?_
        have e9 := h.holds 34 _ rfl
        refine ⟨?_, rfl⟩
        refine e9.trans ?_
        exact rfl
      · refine obH_in 35 rfl (by decide) ?_
        intro f9 w2 hE hs hl
        have e9 : f9.tmps.getD 9 undef = _ := sx_old hl 9 (by kernel_rfl) (by kernel_rfl) (h.holds 9 _ rfl)
        have e25 : f9.tmps.getD 25 undef = _ := sx_get hl 25 0 (by kernel_rfl) (by kernel_rfl)
        have h := fin_slot [(9, _), (25, _)] hs rfl (holds_lk ⟨e9, e25, trivial⟩)
        refine s_pure h (ru_ix (k + 16) Tryd.underlying23 size5 (h.ev rfl) (h.ev rfl) (by omega) (by omega)) rfl ?_; intro f h
        refine s_nil ?_
        have e9 := h.holds 35 _ rfl
        refine ⟨?_, rfl⟩
        refine e9.trans ?_
        exact rfl
      · exact obT_in (by decide) (by decide)
      · refine obH_in 36 rfl (by decide) ?_
        intro f9 w2 hE hs hl
        have e10 : f9.tmps.getD 10 undef = _ := sx_old hl 10 (by kernel_rfl) (by kernel_rfl) (h.holds 10 _ rfl)
        have e26 : f9.tmps.getD 26 undef = _ := sx_get hl 26 1 (by kernel_rfl) (by kernel_rfl)
        have h := fin_slot [(10, _), (26, _)] hs rfl (holds_lk ⟨e10, e26, trivial⟩)
        refine s_pure h (ru_ix (k + 16) Tryd.underlying23 size5 (h.ev rfl) (h.ev rfl) (by omega) (by omega)) rfl ?_; intro f h
        refine s_nil ?_
        have e9 := h.holds 36 _ rfl
        refine ⟨?_, rfl⟩
        refine e9.trans ?_
        exact rfl
      · exact obT_in (by decide) (by decide)
      · intro f9 w2 hE hs hd9 hWp hT hR hFr hDj
        replace h := sl_new (ops := _) [(25, _), (26, _), (27, _), (28, _), (29, _), (30, _), (31, _), (32, _), (33, _), (34, _), (35, _), (36, _)] h hs hd9 hR ⟨hT 0 25 (by decide) rfl, hT 1 26 (by decide) rfl, hT 2 27 (by decide) rfl, hT 3 28 (by decide) rfl, hT 4 29 (by decide) rfl, hT 5 30 (by decide) rfl, hT 6 31 (by decide) rfl, hT 7 32 (by decide) rfl, hT 8 33 (by decide) rfl, hT 9 34 (by decide) rfl, hT 10 35 (by decide) rfl, hT 12 36 (by decide) rfl, trivial⟩ (by kernel_rfl)
        replace s := s.more hE
        clear hT hR hFr hDj
        refine LstW.cons ?_
        refine s_store_one 0 h s one5 rfl rfl rfl (by simp; omega) (rfl) ?_; intro w1 s
        refine s_nil ⟨s.get 2 rfl, ?_⟩
        refine LstW.cons ?_
        refine s_store_one 1 h s one5 rfl rfl rfl (by simp; omega) (rfl) ?_; intro w1 s
        refine s_nil ⟨s.get 2 rfl, ?_⟩
        refine LstW.nil ?_
        refine b_norm ?_
        refine hK7 _ _ ?_
        refine c_region ?_
        refine s_pure h (ru_move (h.ev rfl)) rfl ?_; intro f h
        refine s_pure h (ru_add (h.ev rfl) (h.ev rfl) (by omega)) rfl ?_; intro f h
        refine s_pure h (ru_assign (h.ev rfl)) rfl ?_; intro f h
        refine s_nil ?_
        refine t_norm ?_
        exact ⟨_, by omega, ⟨k + 1, h.only ⟨rfl, rfl, rfl, rfl, rfl, rfl, rfl, rfl, rfl, slot_int rfl (by omega), trivial⟩, St.as s ⟨cells_eq (xF_next _ _ _), cells_eq (yF_next _ _ _), rfl, rfl, rfl, trivial⟩, rfl, by omega⟩⟩
    · replace hc := of_decide_eq_false hc
      refine wpIn_exit ?_
      refine t_exit ?_
      refine t_exit ?_
      refine b_exit ?_
      refine hK3 _ _ ?_
      refine c_seq fun K8 hK8 => ?_
      refine c_seq fun K9 hK9 => ?_
      refine c_walkN 32 [[], [], [0, 1], [], [], [0, 1, 2, 3, 4], [0, 1, 2, 3, 4, 5], [0, 1, 2, 3, 4, 5, 6], [0, 1, 2, 3, 4, 5, 6, 7], [0, 1, 2, 3, 4, 5, 6, 7, 8], [0, 1, 2, 3, 4, 5, 6, 7], [0, 1, 2, 3, 4, 5, 6, 7, 8, 9, 10], [0, 1, 2, 3, 4, 5, 6, 7, 8, 9, 10, 11], [0, 1, 2, 3, 4, 5, 6, 7, 8, 9, 10, 11, 12], [0, 1, 2, 3, 4, 5, 6, 7, 8, 9, 10, 11, 12, 13], [0, 1, 2, 3, 4, 5, 6, 7, 8, 9, 10, 11, 12, 13, 14], [0, 1, 2, 3, 4, 5, 6, 7, 8, 9, 10, 11, 12, 13, 14], [0, 1, 2, 3, 4, 5, 6, 7, 8, 9, 10, 11, 12, 13, 14, 16], [0, 1, 2, 3, 4, 5, 6, 7, 8, 9, 10, 11, 12, 13, 14, 15, 16, 17], [0, 1, 2, 3, 4, 5, 6, 7, 8, 9, 10, 11, 12, 13, 14, 15, 16, 17, 18], [0, 1, 2, 3, 4, 5, 6, 7, 8, 9, 10, 11, 12, 13, 14, 15, 16, 17, 18, 19], [0, 1, 2, 3, 4, 5, 6, 7, 8, 9, 10, 11, 12, 13, 14, 15, 16, 17, 18, 19, 20], [0, 1, 2, 3, 4, 5, 6, 7, 8, 9, 10, 11, 12, 13, 14, 15, 16, 17, 18, 19, 20, 21], [0, 1, 2, 3, 4, 5, 6, 7, 8, 9, 10, 11, 12, 13, 14, 15, 16, 17, 18, 19, 20, 21, 22], [0, 1, 2, 3, 4, 5, 6, 7, 8, 9, 10, 11, 12, 13, 14, 15, 16, 17, 18, 19, 20, 21], [0, 1, 2, 3, 4, 5, 6, 7, 8, 9, 10, 11, 12, 13, 14, 15, 16, 17, 18, 19, 20, 21, 22, 23, 24], [0, 1, 2, 3, 4, 5, 6, 7, 8, 9, 10, 11, 12, 13, 14, 15, 16, 17, 18, 19, 20, 21, 22, 23, 24, 25], [0, 1, 2, 3, 4, 5, 6, 7, 8, 9, 10, 11, 12, 13, 14, 15, 16, 17, 18, 19, 20, 21, 22, 23, 24, 25, 26], [0, 1, 2, 3, 4, 5, 6, 7, 8, 9, 10, 11, 12, 13, 14, 15, 16, 17, 18, 19, 20, 21, 22, 23, 24, 25, 26, 27], [0, 1, 2, 3, 4, 5, 6, 7, 8, 9, 10, 11, 12, 13, 14, 15, 16, 17, 18, 19, 20, 21, 22, 23, 24, 25, 26, 27, 28], [0, 1, 2, 3, 4, 5, 6, 7, 8, 9, 10, 11, 12, 13, 14, 15, 16, 17, 18, 19, 20, 21, 22, 23, 24, 25, 26, 27, 28, 29], [0, 1, 2, 3, 4, 5, 6, 7, 8, 9, 10, 11, 12, 13, 14, 15, 16, 17, 18, 19, 20, 21, 22, 23, 24, 25, 26, 27, 28, 29, 30]] h (by kernel_rfl) (by kernel_rfl) (by kernel_rfl) ?_
      obtain rfl : k = 16 := by omega
      have s := s.as (B' := [.blk b9 (.cells (idArr (xm a tl)) 23), .blk b10 (.cells (idArr (ym b tl)) 23), .blk b6 (.cells (idArr tl) 23), .blk b5 (.cells (idArr b) 23), .blk b4 (.cells (idArr a) 23)]) ⟨cells_eq (xF_end _ _), cells_eq (yF_end _ _), rfl, rfl, rfl, trivial⟩
      refine w_load_row 4 h s row23 rfl rfl (by first | exact idArr_size _ | exact bytesF_size _ _) rfl ?_; intro f h
      refine w_load_row 3 h s row23 rfl rfl (by first | exact idArr_size _ | exact bytesF_size _ _) rfl ?_; intro f h
      refine w_call h fnc11 (fun w9 hE9 => links_any _ _ w9 (hH.keep (s.ext.trans hE9)) (hK.keep (s.ext.trans hE9))) rfl rfl ?_; intro f h
      refine w_load_row 0 h s row23 rfl rfl (by first | exact idArr_size _ | exact bytesF_size _ _) rfl ?_; intro f h
      refine w_load_row 1 h s row23 rfl rfl (by first | exact idArr_size _ | exact bytesF_size _ _) rfl ?_; intro f h
      refine w_call h fnc11 (fun w9 hE9 => ret_val (.bool (linksM a b)) (links_any _ _ w9 (hH.keep (s.ext.trans hE9)) (hK.keep (s.ext.trans hE9))) (congrArg Value.bool (links_keys (keyX _ _) (keyY _ _)))) rfl rfl ?_; intro f h
      refine w_pure h (ru_val (.bool false) (ru_neq_bool Tryd.underlying4 (h.ev rfl) (h.ev rfl)) (congrArg Value.bool (bne_self_eq_false _))) rfl ?_; intro f h
      refine w_pure h (ru_move (h.ev rfl)) rfl ?_; intro f h
      refine w_on h rfl rfl rfl ?_
      refine w_load_row 4 h s row23 rfl rfl (by first | exact idArr_size _ | exact bytesF_size _ _) rfl ?_; intro f h
      refine w_on h rfl rfl rfl ?_
      refine w_call h fnc8 (fun w9 hE9 => left_any _ w9 (hH.keep (s.ext.trans hE9)) (hK.keep (s.ext.trans hE9))) rfl rfl ?_; intro f h
      refine w_on h rfl rfl rfl ?_
      refine w_load_row 0 h s row23 rfl rfl (by first | exact idArr_size _ | exact bytesF_size _ _) rfl ?_; intro f h
      refine w_on h rfl rfl rfl ?_
      refine w_call h fnc8 (fun w9 hE9 => ret_val (idV (madeM leftB (keyOf a))) (left_any _ w9 (hH.keep (s.ext.trans hE9)) (hK.keep (s.ext.trans hE9))) (congrArg (fun k => idV (madeM leftB k)) (keyX _ _))) rfl rfl ?_; intro f h
      refine w_on h rfl rfl rfl ?_
      refine w_pure h (ru_val (.bool false) (ru_neq_id idTy (h.ev rfl) (h.ev rfl)) (congrArg Value.bool (decide_eq_false (fun h9 => h9 rfl)))) rfl ?_; intro f h
      refine w_pure h (ru_pick_f (h.ev rfl) (h.ev rfl)) rfl ?_; intro f h
      refine w_pure h (ru_move (h.ev rfl)) rfl ?_; intro f h
      refine w_on h rfl rfl rfl ?_
      refine w_load_row 4 h s row23 rfl rfl (by first | exact idArr_size _ | exact bytesF_size _ _) rfl ?_; intro f h
      refine w_on h rfl rfl rfl ?_
      refine w_load_row 0 h s row23 rfl rfl (by first | exact idArr_size _ | exact bytesF_size _ _) rfl ?_; intro f h
      refine w_on h rfl rfl rfl ?_
      refine w_call h fnc8 (fun w9 hE9 => ret_val (idV (madeM leftB (keyOf a))) (left_any _ w9 (hH.keep (s.ext.trans hE9)) (hK.keep (s.ext.trans hE9))) (congrArg (fun k => idV (madeM leftB k)) (keyX _ _))) rfl rfl ?_; intro f h
      refine w_on h rfl rfl rfl ?_
      refine w_call h fnc11 (fun w9 hE9 => ret_val (.bool true) (links_any _ _ w9 (hH.keep (s.ext.trans hE9)) (hK.keep (s.ext.trans hE9))) (congrArg Value.bool (links_left _))) rfl rfl ?_; intro f h
      refine w_on h rfl rfl rfl ?_
      refine w_pure h (ru_val (.bool false) (ru_not (h.ev rfl)) rfl) rfl ?_; intro f h
      refine w_pure h (ru_pick_f (h.ev rfl) (h.ev rfl)) rfl ?_; intro f h
      refine w_pure h (ru_move (h.ev rfl)) rfl ?_; intro f h
      refine w_on h rfl rfl rfl ?_
      refine w_load_row 1 h s row23 rfl rfl (by first | exact idArr_size _ | exact bytesF_size _ _) rfl ?_; intro f h
      refine w_on h rfl rfl rfl ?_
      refine w_call h fnc10 (fun w9 hE9 => ret_val (idV (madeM rightB (keyOf b))) (right_any _ w9 (hH.keep (s.ext.trans hE9)) (hK.keep (s.ext.trans hE9))) (congrArg (fun k => idV (madeM rightB k)) (keyY _ _))) rfl rfl ?_; intro f h
      refine w_on h rfl rfl rfl ?_
      refine w_load_row 3 h s row23 rfl rfl (by first | exact idArr_size _ | exact bytesF_size _ _) rfl ?_; intro f h
      refine w_on h rfl rfl rfl ?_
      refine w_call h fnc11 (fun w9 hE9 => ret_val (.bool true) (links_any _ _ w9 (hH.keep (s.ext.trans hE9)) (hK.keep (s.ext.trans hE9))) (congrArg Value.bool (links_right _))) rfl rfl ?_; intro f h
      refine w_on h rfl rfl rfl ?_
      refine w_pure h (ru_val (.bool false) (ru_not (h.ev rfl)) rfl) rfl ?_; intro f h
      refine w_pure h (ru_pick_f (h.ev rfl) (h.ev rfl)) rfl ?_; intro f h
      refine w_pure h (ru_move (h.ev rfl)) rfl ?_; intro f h
      refine w_on h rfl rfl rfl ?_
      refine w_call h fnc13 (fun w9 hE9 => alive_any w9 (hH.keep (s.ext.trans hE9)) (hK.keep (s.ext.trans hE9))) rfl rfl ?_; intro f h
      refine w_on h rfl rfl rfl ?_
      refine w_pure h (ru_val (.bool false) (ru_not (h.ev rfl)) rfl) rfl ?_; intro f h
      refine w_pure h (ru_pick_f (h.ev rfl) (h.ev rfl)) rfl ?_; intro f h
      refine w_nil s fun w1 s => ?_
      refine s_nil ?_
      refine hK9 _ _ ?_
      refine wpIn_cond_false (h.ev rfl) ?_
      refine wpIn_skip ?_
      refine hK8 _ _ ?_
      refine c_seq fun K10 hK10 => ?_
      refine c_region ?_
      refine s_pure h (ru_move (h.ev rfl)) rfl ?_; intro f h
      refine s_pure h (ru_move (h.ev rfl)) rfl ?_; intro f h
      refine s_pure h (ru_lenZ (hv.keep s.ext) Tryd.underlying33 (h.ev rfl)) rfl ?_; intro f h
      refine s_pure h (ru_min (h.ev rfl) (h.ev rfl)) rfl ?_; intro f h
      refine s_pure h (ru_slice_hiZ (hv.keep s.ext) (min ls.length 60) Tryd.underlying33 szo38 (h.ev rfl) (h.ev rfl) (by split <;> omega) (by omega)) rfl ?_; intro f h
      refine s_pure h (ru_assign (h.ev rfl)) rfl ?_; intro f h
      refine s_nil ?_
      refine hK10 _ _ ?_
      refine c_seq fun K11 hK11 => ?_
      refine c_region ?_
      refine s_pure h (ru_move (h.ev rfl)) rfl ?_; intro f h
      refine s_call h s fnc15 (acyclic_ok ms (by omega) _ _ (hmv.keep s.ext)) rfl rfl ?_; intro f w1 v9 hT hE h s; obtain rfl := hT
      refine s_pure h (ru_move (h.ev rfl)) rfl ?_; intro f h
      refine s_pure h (ru_extract (h.ev rfl) rfl) rfl ?_; intro f h
      refine s_pure h (ru_extract (h.ev rfl) rfl) rfl ?_; intro f h
      refine s_pure h (ru_assign (h.ev rfl)) rfl ?_; intro f h
      refine s_pure h (ru_assign (h.ev rfl)) rfl ?_; intro f h
      refine s_nil ?_
      refine hK11 _ _ ?_
      refine c_seq fun K12 hK12 => ?_
      have hbs := s.ext.le
      refine' c_reg2 10 [1] [] [[], [], [0, 1], [], [], [3, 4], [], [], [6, 7], [3, 4, 5, 6, 7, 8], [0, 1, 2, 3, 4, 5, 6, 7, 8, 9], [0, 1, 2, 3, 4, 5, 6, 7, 8, 9, 10]] ((Emp w1.heap.size 38) :: is _ :: (fun v w9 => Owns w9 w1.heap.size 38 64 v ms.length (lCells ms)) :: is _ :: is _ :: is _ :: is _ :: is _ :: is _ :: (fun v w9 => RdZ w9 v 64 2 ((lArr (a, b)).toList ++ (lArr (b, a)).toList)) :: is undef :: is undef :: []) (fun _ => True) h s (by kernel_rfl) (by kernel_rfl) (by kernel_rfl) (by kernel_rfl) rfl (fun _ _ h _ => h) (trivial) ⟨⟨_, rfl⟩, trivial⟩ ⟨Emp.mono _ _, is_mono _, ownsM _ _ _ _ _, is_mono _, is_mono _, is_mono _, is_mono _, is_mono _, is_mono _, RdZ.mono, is_mono _, is_mono _, trivial⟩ (And.intro ?_ (And.intro ?_ (And.intro ?_ (And.intro ?_ (And.intro ?_ (And.intro ?_ (And.intro ?_ (And.intro ?_ (And.intro ?_ (And.intro ?_ (And.intro ?_ (And.intro ?_ (trivial))))))))))))) ?_
      rotate_left 7
      · refine obF_in 79 rfl (by decide) (by decide) ?_
        intro f9 w2 hE hs hd9 hl
        have h := fin_slot [] hs hd9 (holds_lk trivial)
        have s := s.more hE
        have z := St.start w2
        refine s_bslice0 (base := w1.heap.size) h Tryd.underlying33 elm38 hE.le rfl ?_; intro f w3 v3 h hE3 hm3
        refine s_nil ?_
        exact ⟨by rw [h.holds 79 _ rfl]; exact hm3, hE3, fun h9 => absurd h9 (by decide)⟩
      · refine obH_in 80 rfl (by decide) ?_
        intro f9 w2 hE hs hl
        have e3 : f9.tmps.getD 3 undef = _ := sx_old hl 3 (by kernel_rfl) (by kernel_rfl) (h.holds 3 _ rfl)
        have h := fin_slot [(3, _)] hs rfl (holds_lk ⟨e3, trivial⟩)
        refine s_pure h (ru_move (h.ev rfl)) rfl ?_; intro f h
        refine s_nil ?_
        have e9 := h.holds 80 _ rfl
        refine ⟨?_, rfl⟩
        refine e9.trans ?_
        exact rfl
      · refine obF_in 81 rfl (by decide) (by decide) ?_
        intro f9 w2 hE hs hd9 hl
        obtain ⟨u79, hu79⟩ : ∃ v, f9.tmps.getD 79 undef = v := ⟨_, rfl⟩
        have e79 : (Emp w1.heap.size 38) u79 w2 := by rw [← hu79]; exact sx_get hl 79 0 (by kernel_rfl) (by kernel_rfl)
        have e80 : f9.tmps.getD 80 undef = _ := sx_get hl 80 1 (by kernel_rfl) (by kernel_rfl)
        have h := fin_slot [(79, u79), (80, _)] hs hd9 (holds_lk ⟨hu79, e80, trivial⟩)
        have s := s.more hE
        have z := St.start w2
        refine s_append_emp (base := w1.heap.size) e79 (hmv.keep s.ext) h Tryd.underlying33 elm38 rfl rfl hE.le (lCells_ones ms) (by unfold maxLen; omega) (by omega) rfl ?_; intro f w3 v3 h hE3 hO
        refine s_nil ?_
        exact ⟨by rw [h.holds 81 _ rfl]; exact hO, hE3, fun h9 => absurd h9 (by decide)⟩
      · refine obF_in 82 rfl (by decide) (by decide) ?_
        intro f9 w2 hE hs hd9 hl
        have e4 : f9.tmps.getD 4 undef = _ := sx_old hl 4 (by kernel_rfl) (by kernel_rfl) (h.holds 4 _ rfl)
        have h := fin_slot [(4, _)] hs hd9 (holds_lk ⟨e4, trivial⟩)
        have s := s.more hE
        have z := St.start w2
        refine s_load_row 4 h s row23 rfl rfl (by first | exact idArr_size _ | exact bytesF_size _ _) rfl ?_; intro f h
        refine s_nil ?_
        have e9 := h.holds 82 _ rfl
        refine ⟨?_, Ext.refl _, fun h9 => absurd h9 (by decide)⟩
        refine e9.trans ?_
        exact rfl
      · refine obF_in 83 rfl (by decide) (by decide) ?_
        intro f9 w2 hE hs hd9 hl
        have e5 : f9.tmps.getD 5 undef = _ := sx_old hl 5 (by kernel_rfl) (by kernel_rfl) (h.holds 5 _ rfl)
        have h := fin_slot [(5, _)] hs hd9 (holds_lk ⟨e5, trivial⟩)
        have s := s.more hE
        have z := St.start w2
        refine s_load_row 3 h s row23 rfl rfl (by first | exact idArr_size _ | exact bytesF_size _ _) rfl ?_; intro f h
        refine s_nil ?_
        have e9 := h.holds 83 _ rfl
        refine ⟨?_, Ext.refl _, fun h9 => absurd h9 (by decide)⟩
        refine e9.trans ?_
        exact rfl
      · refine obF_in 84 rfl (by decide) (by decide) ?_
        intro f9 w2 hE hs hd9 hl
        have e82 : f9.tmps.getD 82 undef = _ := sx_get hl 82 3 (by kernel_rfl) (by kernel_rfl)
        have e83 : f9.tmps.getD 83 undef = _ := sx_get hl 83 4 (by kernel_rfl) (by kernel_rfl)
        have h := fin_slot [(82, _), (83, _)] hs hd9 (holds_lk ⟨e82, e83, trivial⟩)
        have s := s.more hE
        have z := St.start w2
        refine s_pure h (ru_build2 stt38 (lArr (a, b)) (h.ev rfl) (h.ev rfl) (idArr_size _) (idArr_size _) (lArr_cat _ _)) rfl ?_; intro f h
        refine s_nil ?_
        have e9 := h.holds 84 _ rfl
        refine ⟨?_, Ext.refl _, fun h9 => absurd h9 (by decide)⟩
        refine e9.trans ?_
        exact rfl
      · refine obF_in 85 rfl (by decide) (by decide) ?_
        intro f9 w2 hE hs hd9 hl
        have e5 : f9.tmps.getD 5 undef = _ := sx_old hl 5 (by kernel_rfl) (by kernel_rfl) (h.holds 5 _ rfl)
        have h := fin_slot [(5, _)] hs hd9 (holds_lk ⟨e5, trivial⟩)
        have s := s.more hE
        have z := St.start w2
        refine s_load_row 3 h s row23 rfl rfl (by first | exact idArr_size _ | exact bytesF_size _ _) rfl ?_; intro f h
        refine s_nil ?_
        have e9 := h.holds 85 _ rfl
        refine ⟨?_, Ext.refl _, fun h9 => absurd h9 (by decide)⟩
        refine e9.trans ?_
        exact rfl
      · refine obF_in 86 rfl (by decide) (by decide) ?_
        intro f9 w2 hE hs hd9 hl
        have e4 : f9.tmps.getD 4 undef = _ := sx_old hl 4 (by kernel_rfl) (by kernel_rfl) (h.holds 4 _ rfl)
        have h := fin_slot [(4, _)] hs hd9 (holds_lk ⟨e4, trivial⟩)
        have s := s.more hE
        have z := St.start w2
        refine s_load_row 4 h s row23 rfl rfl (by first | exact idArr_size _ | exact bytesF_size _ _) rfl ?_; intro f h
        refine s_nil ?_
        have e9 := h.holds 86 _ rfl
        refine ⟨?_, Ext.refl _, fun h9 => absurd h9 (by decide)⟩
        refine e9.trans ?_
        exact rfl
      · refine obF_in 87 rfl (by decide) (by decide) ?_
        intro f9 w2 hE hs hd9 hl
        have e85 : f9.tmps.getD 85 undef = _ := sx_get hl 85 6 (by kernel_rfl) (by kernel_rfl)
        have e86 : f9.tmps.getD 86 undef = _ := sx_get hl 86 7 (by kernel_rfl) (by kernel_rfl)
        have h := fin_slot [(85, _), (86, _)] hs hd9 (holds_lk ⟨e85, e86, trivial⟩)
        have s := s.more hE
        have z := St.start w2
        refine s_pure h (ru_build2 stt38 (lArr (b, a)) (h.ev rfl) (h.ev rfl) (idArr_size _) (idArr_size _) (lArr_cat _ _)) rfl ?_; intro f h
        refine s_nil ?_
        have e9 := h.holds 87 _ rfl
        refine ⟨?_, Ext.refl _, fun h9 => absurd h9 (by decide)⟩
        refine e9.trans ?_
        exact rfl
      · refine obF_in 88 rfl (by decide) (by decide) ?_
        intro f9 w2 hE hs hd9 hl
        have e84 : f9.tmps.getD 84 undef = _ := sx_get hl 84 5 (by kernel_rfl) (by kernel_rfl)
        have e87 : f9.tmps.getD 87 undef = _ := sx_get hl 87 8 (by kernel_rfl) (by kernel_rfl)
        have h := fin_slot [(84, _), (87, _)] hs hd9 (holds_lk ⟨e84, e87, trivial⟩)
        have s := s.more hE
        have z := St.start w2
        refine s_bslice (vs := [.agg (lArr (a, b)), .agg (lArr (b, a))]) [.tmp 84, .tmp 87] h z Tryd.underlying33 elm38 rfl rfl (by intro v hv9; simp only [List.mem_cons, List.not_mem_nil, or_false] at hv9; rcases hv9 with rfl | rfl <;> exact lArr_size _) rfl rfl rfl ?_; intro f w1 v9 h z
        refine s_nil ?_
        exact kf_rd (h.holds 88 _ rfl) z _ (by simp [Value.cells])
      · exact obT_in (by decide) (by decide)
      · exact obT_in (by decide) (by decide)
      · intro f9 w2 hE hs hd9 hWp hT hR hFr hDj
        obtain ⟨u79, hu79⟩ : ∃ v, f9.tmps.getD 79 undef = v := ⟨_, rfl⟩
        have e79 : (Emp w1.heap.size 38) u79 w2 := by rw [← hu79]; exact hT 0 79 (by decide) rfl
        obtain ⟨u81, hu81⟩ : ∃ v, f9.tmps.getD 81 undef = v := ⟨_, rfl⟩
        have e81 : (fun v w9 => Owns w9 w1.heap.size 38 64 v ms.length (lCells ms)) u81 w2 := by rw [← hu81]; exact hT 2 81 (by decide) rfl
        obtain ⟨u88, hu88⟩ : ∃ v, f9.tmps.getD 88 undef = v := ⟨_, rfl⟩
        have e88 : (fun v w9 => RdZ w9 v 64 2 ((lArr (a, b)).toList ++ (lArr (b, a)).toList)) u88 w2 := by rw [← hu88]; exact hT 9 88 (by decide) rfl
        replace h := sl_new (ops := _) [(79, u79), (80, _), (81, u81), (82, _), (83, _), (84, _), (85, _), (86, _), (87, _), (88, u88)] h hs hd9 hR ⟨hu79, hT 1 80 (by decide) rfl, hu81, hT 3 82 (by decide) rfl, hT 4 83 (by decide) rfl, hT 5 84 (by decide) rfl, hT 6 85 (by decide) rfl, hT 7 86 (by decide) rfl, hT 8 87 (by decide) rfl, hu88, trivial⟩ (by kernel_rfl)
        replace s := s.sl_new hE e81
        clear hT hR hFr hDj
        refine LstW.of ?_
        refine s_append_rd 0 (e88) h s Tryd.underlying33 elm38 rfl rfl rfl (by intro u hu; rcases List.mem_append.1 hu with h9 | h9 <;> exact lArr_ones _ u h9) (by unfold maxLen; omega) (by omega) rfl ?_; intro f w1 v89 h s
        refine s_pure h (ru_assign (h.ev rfl)) rfl ?_; intro f h
        refine s_nil ?_
        refine hK12 _ _ ?_
        refine c_seq fun K13 hK13 => ?_
        refine c_region ?_
        refine s_pure h (ru_move (h.ev rfl)) rfl ?_; intro f h
        refine s_call h s fnc15 (acyclic_ok (ms ++ [(a, b), (b, a)]) (by simp; omega) _ _ (rz_two (RdZ.of_own (s.getSl 0 rfl)))) rfl rfl ?_; intro f w1 v9 hT hE h s; obtain rfl := hT
        refine s_pure h (ru_move (h.ev rfl)) rfl ?_; intro f h
        refine s_pure h (ru_val (.bool false) (ru_extract (h.ev rfl) rfl) (congrArg Value.bool (acyc_two (ms ++ [(a, b), (b, a)]) a b (by simp) (by simp)))) rfl ?_; intro f h
        refine s_pure h (ru_extract (h.ev rfl) rfl) rfl ?_; intro f h
        refine s_pure h (ru_assign (h.ev rfl)) rfl ?_; intro f h
        refine s_pure h (ru_assign (h.ev rfl)) rfl ?_; intro f h
        refine s_nil ?_
        refine hK13 _ _ ?_
        refine c_seq fun K14 hK14 => ?_
        refine c_region ?_
        refine s_pure h (ru_move (h.ev rfl)) rfl ?_; intro f h
        refine s_pure h (ru_move (h.ev rfl)) rfl ?_; intro f h
        refine s_pure h (ru_lenZ (hmv.keep s.ext) Tryd.underlying33 (h.ev rfl)) rfl ?_; intro f h
        refine s_pure h (ru_quo (h.ev rfl) (h.ev rfl) (by omega)) rfl ?_; intro f h
        refine s_pure h (ru_slice_hiZ (hmv.keep s.ext) (ms.length / 2) Tryd.underlying33 szo38 (h.ev rfl) (h.ev rfl) (by omega) (by omega)) rfl ?_; intro f h
        refine s_call h s fnc15 (acyclic_ok (ms.take (ms.length / 2)) (by omega) _ _ (hs2.keep s.ext)) rfl rfl ?_; intro f w1 v9 hT hE h s; obtain rfl := hT
        refine s_pure h (ru_move (h.ev rfl)) rfl ?_; intro f h
        refine s_pure h (ru_extract (h.ev rfl) rfl) rfl ?_; intro f h
        refine s_pure h (ru_extract (h.ev rfl) rfl) rfl ?_; intro f h
        refine s_pure h (ru_assign (h.ev rfl)) rfl ?_; intro f h
        refine s_pure h (ru_assign (h.ev rfl)) rfl ?_; intro f h
        refine s_nil ?_
        refine hK14 _ _ ?_
        refine c_seq fun K15 hK15 => ?_
        cases hy : (acycB ms : Bool)
        · skip
          refine c_region ?_
          refine s_pure h (ru_move (h.ev rfl)) rfl ?_; intro f h
          refine s_pure h (ru_val (.bool true) (ru_eql (h.ev rfl) (h.ev rfl)) (congrArg Value.bool (decide_eq_true (rfl)))) rfl ?_; intro f h
          refine s_pure h (ru_move (h.ev rfl)) rfl ?_; intro f h
          refine s_on h rfl rfl rfl ?_
          refine s_pure h (ru_move (h.ev rfl)) rfl ?_; intro f h
          refine s_on h rfl rfl rfl ?_
          refine s_pure h (ru_val (.bool true) (ru_eql (h.ev rfl) (h.ev rfl)) (congrArg Value.bool (decide_eq_true (rfl)))) rfl ?_; intro f h
          refine s_pure h (ru_pick_t (h.ev rfl) (h.ev rfl)) rfl ?_; intro f h
          refine s_pure h (ru_move (h.ev rfl)) rfl ?_; intro f h
          refine s_on h rfl rfl rfl ?_
          refine s_pure h (ru_move (h.ev rfl)) rfl ?_; intro f h
          refine s_on h rfl rfl rfl ?_
          refine s_pure h (ru_val (.bool true) (ru_eql (h.ev rfl) (h.ev rfl)) (congrArg Value.bool (decide_eq_true (rfl)))) rfl ?_; intro f h
          refine s_pure h (ru_pick_t (h.ev rfl) (h.ev rfl)) rfl ?_; intro f h
          refine s_pure h (ru_move (h.ev rfl)) rfl ?_; intro f h
          refine s_on h rfl rfl rfl ?_
          refine s_pure h (ru_move (h.ev rfl)) rfl ?_; intro f h
          refine s_on h rfl rfl rfl ?_
          refine s_pure h (ru_val (.bool true) (ru_not (h.ev rfl)) rfl) rfl ?_; intro f h
          refine s_pure h (ru_pick_t (h.ev rfl) (h.ev rfl)) rfl ?_; intro f h
          refine s_pure h (ru_move (h.ev rfl)) rfl ?_; intro f h
          refine s_on h rfl rfl rfl ?_
          refine s_pure h (ru_val (.bool false) (ru_move (h.ev rfl)) (congrArg Value.bool hy)) rfl ?_; intro f h
          refine s_on h rfl rfl rfl ?_
          refine s_pure h (ru_val (.bool true) (ru_not (h.ev rfl)) rfl) rfl ?_; intro f h
          refine s_on h rfl rfl rfl ?_
          refine s_pure h (ru_move (h.ev rfl)) rfl ?_; intro f h
          refine s_off (b := false) h rfl rfl rfl rfl ?_; intro f h
          refine s_on h rfl rfl rfl ?_
          refine s_pure h (ru_pick_t (h.ev rfl) (h.ev rfl)) rfl ?_; intro f h
          refine s_pure h (ru_pick_t (h.ev rfl) (h.ev rfl)) rfl ?_; intro f h
          refine s_pure h (ru_assign (h.ev rfl)) rfl ?_; intro f h
          refine s_nil ?_
          refine hK15 _ _ ?_
          refine wpIn_ret ?_
          exact e_tmp rfl h s rfl (rfl)
        · skip
          refine c_region ?_
          refine s_pure h (ru_move (h.ev rfl)) rfl ?_; intro f h
          refine s_pure h (ru_val (.bool true) (ru_eql (h.ev rfl) (h.ev rfl)) (congrArg Value.bool (decide_eq_true (rfl)))) rfl ?_; intro f h
          refine s_pure h (ru_move (h.ev rfl)) rfl ?_; intro f h
          refine s_on h rfl rfl rfl ?_
          refine s_pure h (ru_move (h.ev rfl)) rfl ?_; intro f h
          refine s_on h rfl rfl rfl ?_
          refine s_pure h (ru_val (.bool true) (ru_eql (h.ev rfl) (h.ev rfl)) (congrArg Value.bool (decide_eq_true (rfl)))) rfl ?_; intro f h
          refine s_pure h (ru_pick_t (h.ev rfl) (h.ev rfl)) rfl ?_; intro f h
          refine s_pure h (ru_move (h.ev rfl)) rfl ?_; intro f h
          refine s_on h rfl rfl rfl ?_
          refine s_pure h (ru_move (h.ev rfl)) rfl ?_; intro f h
          refine s_on h rfl rfl rfl ?_
          refine s_pure h (ru_val (.bool true) (ru_eql (h.ev rfl) (h.ev rfl)) (congrArg Value.bool (decide_eq_true (rfl)))) rfl ?_; intro f h
          refine s_pure h (ru_pick_t (h.ev rfl) (h.ev rfl)) rfl ?_; intro f h
          refine s_pure h (ru_move (h.ev rfl)) rfl ?_; intro f h
          refine s_on h rfl rfl rfl ?_
          refine s_pure h (ru_move (h.ev rfl)) rfl ?_; intro f h
          refine s_on h rfl rfl rfl ?_
          refine s_pure h (ru_val (.bool true) (ru_not (h.ev rfl)) rfl) rfl ?_; intro f h
          refine s_pure h (ru_pick_t (h.ev rfl) (h.ev rfl)) rfl ?_; intro f h
          refine s_pure h (ru_move (h.ev rfl)) rfl ?_; intro f h
          refine s_on h rfl rfl rfl ?_
          refine s_pure h (ru_val (.bool true) (ru_move (h.ev rfl)) (congrArg Value.bool hy)) rfl ?_; intro f h
          refine s_on h rfl rfl rfl ?_
          refine s_pure h (ru_val (.bool false) (ru_not (h.ev rfl)) rfl) rfl ?_; intro f h
          refine s_on h rfl rfl rfl ?_
          refine s_pure h (ru_move (h.ev rfl)) rfl ?_; intro f h
          refine s_on h rfl rfl rfl ?_
          refine s_pure h (ru_val (.bool true) (ru_move (h.ev rfl)) (congrArg Value.bool (acyc_sub (fun l hl => List.mem_of_mem_take hl) hy))) rfl ?_; intro f h
          refine s_on h rfl rfl rfl ?_
          refine s_pure h (ru_pick_f (h.ev rfl) (h.ev rfl)) rfl ?_; intro f h
          refine s_pure h (ru_pick_t (h.ev rfl) (h.ev rfl)) rfl ?_; intro f h
          refine s_pure h (ru_assign (h.ev rfl)) rfl ?_; intro f h
          refine s_nil ?_
          refine hK15 _ _ ?_
          refine wpIn_ret ?_
          exact e_tmp rfl h s rfl (rfl)
end Go.Proofs.YtpeflbdpfmpnhaaDoor
