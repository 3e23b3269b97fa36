/- What is cut; a host is asked. -/
import Derived.Test.YtobfeflheaobiaaDoorXs
set_option linter.unusedVariables false
set_option linter.unusedSimpArgs false
set_option linter.unusedSectionVars false
namespace Go.Proofs.YtobfeflheaobiaaDoor
open Go.RowKit
theorem sfew_any (sv : Sv) (vt : Value) (w : World) (hT0 : RdT w vt sv.tb) : Calls Tryd.prog 6 [.agg (svArr sv.no sv.sec vt)].toArray w (Ret w (is (.agg (svArr (fewV sv).no (fewV sv).sec (cutV vt (min sv.tb.length 34)))))) := by
  refine c_en Tryd.func6 rfl Tryd.ntmps6 rfl fun f h s => qr (s_box (svArr sv.no sv.sec vt) h s rfl rfl rfl fun f w1 b1 h s => s_alloc (svArr 0 ByteArray.empty nilV) h s zero24 rfl rfl fun f w1 b2 h s => nt (c_seqN (c_wA 17 h (by kernel_rfl) (w_run hFT9 1 h rfl fun f h => w_load_at1 (V := .int .i64 sv.no) (cell_of_has (Has.of_own s 1 rfl) 0 (sv_n _ _ _)) h one3 rfl rfl fun f h => w_run hFT9 1 h rfl fun f h => w_load_at1 (V := .string sv.sec) (cell_of_has (Has.of_own s 1 rfl) 1 (sv_s _ _ _)) h one9 rfl rfl fun f h => w_run hFT9 1 h rfl fun f h => w_load_at1 (V := .string sv.sec) (cell_of_has (Has.of_own s 1 rfl) 1 (sv_s _ _ _)) h one9 rfl rfl fun f h => w_pure h (ru_len_str Tryd.underlying9 (h.ev rfl)) rfl fun f h => w_pure h (ru_min (h.ev rfl) (h.ev rfl)) rfl fun f h => w_pure h (ru_slice_str (min sv.sec.size 70) Tryd.underlying9 (h.ev rfl) (h.ev rfl) (by split <;> omega) (by omega)) rfl fun f h => w_run hFT9 1 h rfl fun f h => w_load_at1 (V := vt) (cell_of_has (Has.of_own s 1 rfl) 2 (sv_v _ _ _)) h one22 rfl rfl fun f h => w_run hFT9 1 h rfl fun f h => w_load_at1 (V := vt) (cell_of_has (Has.of_own s 1 rfl) 2 (sv_v _ _ _)) h one22 rfl rfl fun f h => w_pure h (ru_lenZ (hT0.keep s.ext) Tryd.underlying22 (h.ev rfl)) rfl fun f h => w_pure h (ru_min (h.ev rfl) (h.ev rfl)) rfl fun f h => w_pure h (ru_slice_hiZ (hT0.keep s.ext) (min sv.tb.length 34) Tryd.underlying22 szo41 (h.ev rfl) (h.ev rfl) (by split <;> omega) (by omega)) rfl fun f h => w_pure h (ru_build_sv3 sttSv (rd_size (fewV_rd (hT0.keep s.ext))) (rd_cells (fewV_rd (hT0.keep s.ext))) (h.ev rfl) (h.ev rfl) (h.ev rfl)) rfl fun f h => w_nil s fun w1 s => s_store_row 0 h s row24 rfl rfl rfl (svArr_size _ _ _) (svArr_size _ _ _) (svArr_ones _ _ (rd_one (fewV_rd (hT0.keep s.ext)))) fun w1 s => nt (wpIn_ret (e_row 0 rfl h s row24 rfl rfl (svArr_size _ _ _) (rfl)))))))

set_option maxHeartbeats 2000000 in
theorem scut_any (m : Mg) (vs : Value) (w : World) (hv : RdZ w vs 34 m.l.length (eCells m.l)) : Calls Tryd.prog 7 [.agg (mArr m vs)].toArray w (Ret w (is (.agg (mArr (cutM m) (cutV vs (min m.l.length 6)))))) := by
  refine c_en Tryd.func7 rfl Tryd.ntmps7 rfl fun f h s => qr (s_box (mArr m vs) h s rfl rfl rfl fun f w1 b1 h s => s_alloc (mArr mZ nilV) h s zero31 rfl rfl fun f w1 b2 h s => nt (c_seqN ?_))
  have hbs := s.ext.le
  refine' c_reg3 18 [0, 2, 7, 9, 11, 12, 13, 14, 16, 18, 19, 20, 21, 23, 25] [8, 10, 15, 17] [] [[], [0], [], [2], [2, 3], [2, 3, 4], [0, 1, 2, 3, 4, 5], [], [7], [], [9], [9, 10], [9, 10, 11], [7, 8, 9, 10, 11, 12], [], [14], [], [16], [16, 17], [16, 17, 18], [14, 15, 16, 17, 18, 19], [0, 1, 2, 3, 4, 5, 6, 7, 8, 9, 10, 14, 15, 16, 17], [0, 1, 2, 3, 4, 5, 6, 7, 8, 9, 10, 14, 15, 16, 17, 21], [0, 1, 2, 3, 4, 5, 6, 7, 8, 9, 10, 11, 12, 13, 14, 15, 16, 17, 21, 22], [0, 1, 2, 3, 4, 5, 6, 7, 8, 9, 10, 11, 12, 13, 14, 15, 16, 17, 21, 22, 23], [0, 1, 2, 3, 4, 5, 6, 7, 8, 9, 10, 11, 12, 13, 14, 15, 16, 17, 18, 19, 20, 21, 22, 23, 24], [0, 1, 2, 3, 4, 5, 6, 7, 8, 9, 10, 11, 12, 13, 14, 15, 16, 17, 18, 19, 20, 21, 22, 23, 24, 25]] (is _ :: is _ :: is _ :: is _ :: is _ :: is _ :: is _ :: is _ :: (is (.string m.o)) :: is _ :: (is (.string m.o)) :: is _ :: is _ :: is _ :: is _ :: (is (.string m.d)) :: is _ :: (is (.string m.d)) :: is _ :: is _ :: is _ :: is _ :: is undef :: is _ :: is undef :: is _ :: is undef :: []) (fun _ => True) h s (by kernel_rfl) (by kernel_rfl) (by kernel_rfl) (by kernel_rfl) rfl (fun _ _ h _ => h) (trivial) ⟨⟨_, rfl⟩, ⟨_, rfl⟩, ⟨_, rfl⟩, ⟨_, rfl⟩, ⟨_, rfl⟩, ⟨_, rfl⟩, ⟨_, rfl⟩, ⟨_, rfl⟩, ⟨_, rfl⟩, ⟨_, rfl⟩, ⟨_, rfl⟩, ⟨_, rfl⟩, ⟨_, rfl⟩, ⟨_, rfl⟩, ⟨_, rfl⟩, trivial⟩ ⟨⟨_, rfl⟩, ⟨_, rfl⟩, ⟨_, rfl⟩, ⟨_, rfl⟩, trivial⟩ ⟨is_mono _, is_mono _, is_mono _, is_mono _, is_mono _, is_mono _, is_mono _, is_mono _, is_mono _, is_mono _, is_mono _, is_mono _, is_mono _, is_mono _, is_mono _, is_mono _, is_mono _, is_mono _, is_mono _, is_mono _, is_mono _, is_mono _, is_mono _, is_mono _, is_mono _, is_mono _, is_mono _, trivial⟩ (And.intro ?_ (And.intro ?_ (And.intro ?_ (And.intro ?_ (And.intro ?_ (And.intro ?_ (And.intro ?_ (And.intro ?_ (And.intro ?_ (And.intro ?_ (And.intro ?_ (And.intro ?_ (And.intro ?_ (And.intro ?_ (And.intro ?_ (And.intro ?_ (And.intro ?_ (And.intro ?_ (And.intro ?_ (And.intro ?_ (And.intro ?_ (And.intro ?_ (And.intro ?_ (And.intro ?_ (And.intro ?_ (And.intro ?_ (And.intro ?_ (trivial)))))))))))))))))))))))))))) ?_
  rotate_left 20
  · refine obH_in 3 rfl (by decide) ?_
    intro f9 w2 hE hs hl
    have e1 : f9.tmps.getD 1 undef = _ := sx_old hl 1 (by kernel_rfl) (by kernel_rfl) (h.holds 1 _ rfl)
    have h := fin_slot [(1, _)] hs rfl (holds_lk ⟨e1, trivial⟩)
    refine s_run hFT9 1 h rfl fun f h => s_nil ?_
    have e9 := h.holds 3 _ rfl
    refine ⟨?_, rfl⟩
    refine e9.trans ?_
    exact rfl
  · refine obF_in 4 rfl (by decide) (by decide) ?_
    intro f9 w2 hE hs hd9 hl
    have e3 : f9.tmps.getD 3 undef = _ := sx_get hl 3 0 (by kernel_rfl) (by kernel_rfl)
    have h := fin_slot [(3, _)] hs hd9 (holds_lk ⟨e3, trivial⟩)
    have s := s.more hE
    have z := St.start w2
    refine s_load_at1 (cell_of_has (Has.of_own s 1 rfl) 67 (mArr_v _ _)) h one29 rfl rfl fun f h => s_nil ?_
    have e9 := h.holds 4 _ rfl
    refine ⟨?_, Ext.refl _, fun h9 => absurd h9 (by decide)⟩
    refine e9.trans ?_
    exact rfl
  · refine obH_in 5 rfl (by decide) ?_
    intro f9 w2 hE hs hl
    have e1 : f9.tmps.getD 1 undef = _ := sx_old hl 1 (by kernel_rfl) (by kernel_rfl) (h.holds 1 _ rfl)
    have h := fin_slot [(1, _)] hs rfl (holds_lk ⟨e1, trivial⟩)
    refine s_run hFT9 1 h rfl fun f h => s_nil ?_
    have e9 := h.holds 5 _ rfl
    refine ⟨?_, rfl⟩
    refine e9.trans ?_
    exact rfl
  · refine obF_in 6 rfl (by decide) (by decide) ?_
    intro f9 w2 hE hs hd9 hl
    have e5 : f9.tmps.getD 5 undef = _ := sx_get hl 5 2 (by kernel_rfl) (by kernel_rfl)
    have h := fin_slot [(5, _)] hs hd9 (holds_lk ⟨e5, trivial⟩)
    have s := s.more hE
    have z := St.start w2
    refine s_load_at1 (cell_of_has (Has.of_own s 1 rfl) 67 (mArr_v _ _)) h one29 rfl rfl fun f h => s_nil ?_
    have e9 := h.holds 6 _ rfl
    refine ⟨?_, Ext.refl _, fun h9 => absurd h9 (by decide)⟩
    refine e9.trans ?_
    exact rfl
  · refine obF_in 7 rfl (by decide) (by decide) ?_
    intro f9 w2 hE hs hd9 hl
    have e6 : f9.tmps.getD 6 undef = _ := sx_get hl 6 3 (by kernel_rfl) (by kernel_rfl)
    have h := fin_slot [(6, _)] hs hd9 (holds_lk ⟨e6, trivial⟩)
    have s := s.more hE
    have z := St.start w2
    refine s_lz h (hv.keep s.ext) Tryd.underlying29 rfl rfl fun f h => s_nil ?_
    have e9 := h.holds 7 _ rfl
    refine ⟨?_, Ext.refl _, fun h9 => absurd h9 (by decide)⟩
    refine e9.trans ?_
    exact rfl
  · refine obF_in 8 rfl (by decide) (by decide) ?_
    intro f9 w2 hE hs hd9 hl
    have e7 : f9.tmps.getD 7 undef = _ := sx_get hl 7 4 (by kernel_rfl) (by kernel_rfl)
    have h := fin_slot [(7, _)] hs hd9 (holds_lk ⟨e7, trivial⟩)
    have s := s.more hE
    have z := St.start w2
    refine s_pure h (ru_min (h.ev rfl) (h.ev rfl)) rfl fun f h => s_nil ?_
    have e9 := h.holds 8 _ rfl
    refine ⟨?_, Ext.refl _, fun h9 => absurd h9 (by decide)⟩
    refine e9.trans ?_
    exact rfl
  · refine obF_in 9 rfl (by decide) (by decide) ?_
    intro f9 w2 hE hs hd9 hl
    have e4 : f9.tmps.getD 4 undef = _ := sx_get hl 4 1 (by kernel_rfl) (by kernel_rfl)
    have e8 : f9.tmps.getD 8 undef = _ := sx_get hl 8 5 (by kernel_rfl) (by kernel_rfl)
    have h := fin_slot [(4, _), (8, _)] hs hd9 (holds_lk ⟨e4, e8, trivial⟩)
    have s := s.more hE
    have z := St.start w2
    refine s_pure h (ru_slice_hiZ (hv.keep s.ext) (min m.l.length 6) Tryd.underlying29 szo28 (h.ev rfl) (h.ev rfl) (by split <;> omega) (by omega)) rfl fun f h => s_nil ?_
    have e9 := h.holds 9 _ rfl
    refine ⟨?_, Ext.refl _, fun h9 => absurd h9 (by decide)⟩
    refine e9.trans ?_
    exact rfl
  · refine obH_in 10 rfl (by decide) ?_
    intro f9 w2 hE hs hl
    have e1 : f9.tmps.getD 1 undef = _ := sx_old hl 1 (by kernel_rfl) (by kernel_rfl) (h.holds 1 _ rfl)
    have h := fin_slot [(1, _)] hs rfl (holds_lk ⟨e1, trivial⟩)
    refine s_run hFT9 1 h rfl fun f h => s_nil ?_
    have e9 := h.holds 10 _ rfl
    refine ⟨?_, rfl⟩
    refine e9.trans ?_
    exact rfl
  · refine obF_in 11 rfl (by decide) (by decide) ?_
    intro f9 w2 hE hs hd9 hl
    have e10 : f9.tmps.getD 10 undef = _ := sx_get hl 10 7 (by kernel_rfl) (by kernel_rfl)
    have h := fin_slot [(10, _)] hs hd9 (holds_lk ⟨e10, trivial⟩)
    have s := s.more hE
    have z := St.start w2
    refine s_load_at1 (cell_of_has (Has.of_own s 1 rfl) 69 (mArr_o _ _)) h one9 rfl rfl fun f h => s_nil ?_
    have e9 := h.holds 11 _ rfl
    refine ⟨?_, Ext.refl _, fun h9 => absurd h9 (by decide)⟩
    refine e9.trans ?_
    exact rfl
  · refine obH_in 12 rfl (by decide) ?_
    intro f9 w2 hE hs hl
    have e1 : f9.tmps.getD 1 undef = _ := sx_old hl 1 (by kernel_rfl) (by kernel_rfl) (h.holds 1 _ rfl)
    have h := fin_slot [(1, _)] hs rfl (holds_lk ⟨e1, trivial⟩)
    refine s_run hFT9 1 h rfl fun f h => s_nil ?_
    have e9 := h.holds 12 _ rfl
    refine ⟨?_, rfl⟩
    refine e9.trans ?_
    exact rfl
  · refine obF_in 13 rfl (by decide) (by decide) ?_
    intro f9 w2 hE hs hd9 hl
    have e12 : f9.tmps.getD 12 undef = _ := sx_get hl 12 9 (by kernel_rfl) (by kernel_rfl)
    have h := fin_slot [(12, _)] hs hd9 (holds_lk ⟨e12, trivial⟩)
    have s := s.more hE
    have z := St.start w2
    refine s_load_at1 (cell_of_has (Has.of_own s 1 rfl) 69 (mArr_o _ _)) h one9 rfl rfl fun f h => s_nil ?_
    have e9 := h.holds 13 _ rfl
    refine ⟨?_, Ext.refl _, fun h9 => absurd h9 (by decide)⟩
    refine e9.trans ?_
    exact rfl
  · refine obH_in 14 rfl (by decide) ?_
    intro f9 w2 hE hs hl
    have e13 : f9.tmps.getD 13 undef = _ := sx_get hl 13 10 (by kernel_rfl) (by kernel_rfl)
    have h := fin_slot [(13, _)] hs rfl (holds_lk ⟨e13, trivial⟩)
    refine s_pure h (ru_len_str Tryd.underlying9 (h.ev rfl)) rfl fun f h => s_nil ?_
    have e9 := h.holds 14 _ rfl
    refine ⟨?_, rfl⟩
    refine e9.trans ?_
    exact rfl
  · refine obH_in 15 rfl (by decide) ?_
    intro f9 w2 hE hs hl
    have e14 : f9.tmps.getD 14 undef = _ := sx_get hl 14 11 (by kernel_rfl) (by kernel_rfl)
    have h := fin_slot [(14, _)] hs rfl (holds_lk ⟨e14, trivial⟩)
    refine s_pure h (ru_min (h.ev rfl) (h.ev rfl)) rfl fun f h => s_nil ?_
    have e9 := h.holds 15 _ rfl
    refine ⟨?_, rfl⟩
    refine e9.trans ?_
    exact rfl
  · refine obH_in 16 rfl (by decide) ?_
    intro f9 w2 hE hs hl
    have e11 : f9.tmps.getD 11 undef = _ := sx_get hl 11 8 (by kernel_rfl) (by kernel_rfl)
    have e15 : f9.tmps.getD 15 undef = _ := sx_get hl 15 12 (by kernel_rfl) (by kernel_rfl)
    have h := fin_slot [(11, _), (15, _)] hs rfl (holds_lk ⟨e11, e15, trivial⟩)
    refine s_pure h (ru_slice_str (min m.o.size 20) Tryd.underlying9 (h.ev rfl) (h.ev rfl) (by split <;> omega) (by omega)) rfl fun f h => s_nil ?_
    have e9 := h.holds 16 _ rfl
    refine ⟨?_, rfl⟩
    refine e9.trans ?_
    exact rfl
  · refine obH_in 17 rfl (by decide) ?_
    intro f9 w2 hE hs hl
    have e1 : f9.tmps.getD 1 undef = _ := sx_old hl 1 (by kernel_rfl) (by kernel_rfl) (h.holds 1 _ rfl)
    have h := fin_slot [(1, _)] hs rfl (holds_lk ⟨e1, trivial⟩)
    refine s_run hFT9 1 h rfl fun f h => s_nil ?_
    have e9 := h.holds 17 _ rfl
    refine ⟨?_, rfl⟩
    refine e9.trans ?_
    exact rfl
  · refine obF_in 18 rfl (by decide) (by decide) ?_
    intro f9 w2 hE hs hd9 hl
    have e17 : f9.tmps.getD 17 undef = _ := sx_get hl 17 14 (by kernel_rfl) (by kernel_rfl)
    have h := fin_slot [(17, _)] hs hd9 (holds_lk ⟨e17, trivial⟩)
    have s := s.more hE
    have z := St.start w2
    refine s_load_at1 (cell_of_has (Has.of_own s 1 rfl) 70 (mArr_d _ _)) h one9 rfl rfl fun f h => s_nil ?_
    have e9 := h.holds 18 _ rfl
    refine ⟨?_, Ext.refl _, fun h9 => absurd h9 (by decide)⟩
    refine e9.trans ?_
    exact rfl
  · refine obH_in 19 rfl (by decide) ?_
    intro f9 w2 hE hs hl
    have e1 : f9.tmps.getD 1 undef = _ := sx_old hl 1 (by kernel_rfl) (by kernel_rfl) (h.holds 1 _ rfl)
    have h := fin_slot [(1, _)] hs rfl (holds_lk ⟨e1, trivial⟩)
    refine s_run hFT9 1 h rfl fun f h => s_nil ?_
    have e9 := h.holds 19 _ rfl
    refine ⟨?_, rfl⟩
    refine e9.trans ?_
    exact rfl
  · refine obF_in 20 rfl (by decide) (by decide) ?_
    intro f9 w2 hE hs hd9 hl
    have e19 : f9.tmps.getD 19 undef = _ := sx_get hl 19 16 (by kernel_rfl) (by kernel_rfl)
    have h := fin_slot [(19, _)] hs hd9 (holds_lk ⟨e19, trivial⟩)
    have s := s.more hE
    have z := St.start w2
    refine s_load_at1 (cell_of_has (Has.of_own s 1 rfl) 70 (mArr_d _ _)) h one9 rfl rfl fun f h => s_nil ?_
    have e9 := h.holds 20 _ rfl
    refine ⟨?_, Ext.refl _, fun h9 => absurd h9 (by decide)⟩
    refine e9.trans ?_
    exact rfl
  · refine obH_in 21 rfl (by decide) ?_
    intro f9 w2 hE hs hl
    have e20 : f9.tmps.getD 20 undef = _ := sx_get hl 20 17 (by kernel_rfl) (by kernel_rfl)
    have h := fin_slot [(20, _)] hs rfl (holds_lk ⟨e20, trivial⟩)
    refine s_pure h (ru_len_str Tryd.underlying9 (h.ev rfl)) rfl fun f h => s_nil ?_
    have e9 := h.holds 21 _ rfl
    refine ⟨?_, rfl⟩
    refine e9.trans ?_
    exact rfl
  · refine obH_in 22 rfl (by decide) ?_
    intro f9 w2 hE hs hl
    have e21 : f9.tmps.getD 21 undef = _ := sx_get hl 21 18 (by kernel_rfl) (by kernel_rfl)
    have h := fin_slot [(21, _)] hs rfl (holds_lk ⟨e21, trivial⟩)
    refine s_pure h (ru_min (h.ev rfl) (h.ev rfl)) rfl fun f h => s_nil ?_
    have e9 := h.holds 22 _ rfl
    refine ⟨?_, rfl⟩
    refine e9.trans ?_
    exact rfl
  · refine obH_in 23 rfl (by decide) ?_
    intro f9 w2 hE hs hl
    have e18 : f9.tmps.getD 18 undef = _ := sx_get hl 18 15 (by kernel_rfl) (by kernel_rfl)
    have e22 : f9.tmps.getD 22 undef = _ := sx_get hl 22 19 (by kernel_rfl) (by kernel_rfl)
    have h := fin_slot [(18, _), (22, _)] hs rfl (holds_lk ⟨e18, e22, trivial⟩)
    refine s_pure h (ru_slice_str (min m.d.size 70) Tryd.underlying9 (h.ev rfl) (h.ev rfl) (by split <;> omega) (by omega)) rfl fun f h => s_nil ?_
    have e9 := h.holds 23 _ rfl
    refine ⟨?_, rfl⟩
    refine e9.trans ?_
    exact rfl
  · refine obH_in 24 rfl (by decide) ?_
    intro f9 w2 hE hs hl
    have e1 : f9.tmps.getD 1 undef = _ := sx_old hl 1 (by kernel_rfl) (by kernel_rfl) (h.holds 1 _ rfl)
    have h := fin_slot [(1, _)] hs rfl (holds_lk ⟨e1, trivial⟩)
    refine s_run hFT9 1 h rfl fun f h => s_nil ?_
    have e9 := h.holds 24 _ rfl
    refine ⟨?_, rfl⟩
    refine e9.trans ?_
    exact rfl
  · exact obT_in (by decide) (by decide)
  · refine obH_in 25 rfl (by decide) ?_
    intro f9 w2 hE hs hl
    have e1 : f9.tmps.getD 1 undef = _ := sx_old hl 1 (by kernel_rfl) (by kernel_rfl) (h.holds 1 _ rfl)
    have h := fin_slot [(1, _)] hs rfl (holds_lk ⟨e1, trivial⟩)
    refine s_run hFT9 1 h rfl fun f h => s_nil ?_
    have e9 := h.holds 25 _ rfl
    refine ⟨?_, rfl⟩
    refine e9.trans ?_
    exact rfl
  · exact obT_in (by decide) (by decide)
  · refine obH_in 26 rfl (by decide) ?_
    intro f9 w2 hE hs hl
    have e1 : f9.tmps.getD 1 undef = _ := sx_old hl 1 (by kernel_rfl) (by kernel_rfl) (h.holds 1 _ rfl)
    have h := fin_slot [(1, _)] hs rfl (holds_lk ⟨e1, trivial⟩)
    refine s_run hFT9 1 h rfl fun f h => s_nil ?_
    have e9 := h.holds 26 _ rfl
    refine ⟨?_, rfl⟩
    refine e9.trans ?_
    exact rfl
  · exact obT_in (by decide) (by decide)
  · intro f9 w2 hE hs hd9 hWp hT hR hFr hDj
    replace h := sl_new (ops := _) [(3, _), (4, _), (5, _), (6, _), (7, _), (8, _), (9, _), (10, _), (11, _), (12, _), (13, _), (14, _), (15, _), (16, _), (17, _), (18, _), (19, _), (20, _), (21, _), (22, _), (23, _), (24, _), (25, _), (26, _)] h hs hd9 hR ⟨hT 0 3 (by decide) rfl, hT 1 4 (by decide) rfl, hT 2 5 (by decide) rfl, hT 3 6 (by decide) rfl, hT 4 7 (by decide) rfl, hT 5 8 (by decide) rfl, hT 6 9 (by decide) rfl, hT 7 10 (by decide) rfl, hT 8 11 (by decide) rfl, hT 9 12 (by decide) rfl, hT 10 13 (by decide) rfl, hT 11 14 (by decide) rfl, hT 12 15 (by decide) rfl, hT 13 16 (by decide) rfl, hT 14 17 (by decide) rfl, hT 15 18 (by decide) rfl, hT 16 19 (by decide) rfl, hT 17 20 (by decide) rfl, hT 18 21 (by decide) rfl, hT 19 22 (by decide) rfl, hT 20 23 (by decide) rfl, hT 21 24 (by decide) rfl, hT 23 25 (by decide) rfl, hT 25 26 (by decide) rfl, trivial⟩ (by kernel_rfl)
    replace s := s.more hE
    clear hT hR hFr hDj
    refine LstV.cons ?_
    refine s_store_one 1 h s one29 rfl rfl rfl (by rw [mArr_size]; omega) (rdz_one (re_take hv _ (by omega))) fun w1 s => ?_
    replace s := s.recell 1 rfl (mArr_setV _ _ _ (m.l.take (min m.l.length 6)))
    refine s_nil ⟨trivial, VOk.no (by kernel_rfl), ?_⟩
    refine LstV.cons ?_
    refine s_store_one 1 h s one9 rfl rfl rfl (by rw [mArr_size]; omega) (rfl) fun w1 s => ?_
    replace s := s.recell 1 rfl (mArr_setO _ _ _)
    refine s_nil ⟨trivial, VOk.no (by kernel_rfl), ?_⟩
    refine LstV.cons ?_
    refine s_store_one 1 h s one9 rfl rfl rfl (by rw [mArr_size]; omega) (rfl) fun w1 s => ?_
    replace s := s.recell 1 rfl (mArr_setD _ _ _)
    refine s_nil ⟨trivial, VOk.no (by kernel_rfl), ?_⟩
    refine LstV.nil ?_
    refine t_norm (qr (s_load_row 1 h s row31 rfl rfl (mArr_size _ _) rfl fun f h => s_store_row 0 h s row31 rfl rfl rfl (mArr_size _ _) (mArr_size _ _) (mArr_ones _ _ (rdz_one (re_take hv _ (by omega)))) fun w1 s => nt (wpIn_ret (e_row 0 rfl h s row31 rfl rfl (mArr_size _ _) (rfl)))))

theorem salive_any  (w : World) (hH : Tab w 0 (wF hTab 8)) (hK : Tab w 1 (wF kTab 64)) : Calls Tryd.prog 9 [].toArray w (Ret w (is (.bool true))) := by
  refine c_en Tryd.func9 rfl Tryd.ntmps9 rfl fun f h s => qre hFT9 1 h rfl fun f h => qr (s_pure h (ru_build_sv1 sttSv rfl) rfl fun f h => s_pure h (ru_build_eh sttE rfl rfl) rfl fun f h => s_pure h (ru_build_m024 sttM rfl (h.ev rfl) rfl) rfl fun f h => s_call h s fnc8 (shandle_any sv1 nilV 18 mI5 nilV 0 _ (rt_nilT _) (by decide) (re_nil _) (by decide) (hH.keep s.ext) (hK.keep s.ext)) rfl rfl ?_); rintro f w1 v8 ⟨tua, ua, Kua, kua, rfl, hua, hG⟩ hE h sq; replace s := s.add hG; clear hG
  rw [al16] at hua
  obtain ⟨q1, q2⟩ := sends_one hua
  refine s_run hFT9 4 h rfl fun f h => s_alloc (svArr 0 ByteArray.empty nilV) h s zero24 rfl rfl fun f w1 b1 h s => s_store_row 0 h s row24 rfl rfl rfl (svArr_size _ _ _) (svArr_size _ _ _) (svArr_ones _ _ (rd_one ((s.getG 1 rfl) (rt_nilT _) (re_nil _)).1)) fun w1 s => e9 hFT9 2 h rfl fun f h => qrs hFT9 1 h rfl fun f h => s_at hFT9 h rfl (by rw [al16]; rfl) fun f h => s_run hFT9 2 h rfl fun f h => s_o h rfl (s_lz h (((s.getG 1 rfl) (rt_nilT _) (re_nil _)).2.1) Tryd.underlying34 rfl rfl fun f h => s_o h rfl (s_at hFT9 h rfl (by rw [q1]; rfl) fun f h => s_run hFT9 3 h rfl fun f h => s_o h rfl (s_pure h (ru_ixz (((s.getG 1 rfl) (rt_nilT _) (re_nil _)).2.1) (0) Tryd.underlying34 szo43 (h.ev rfl) (h.ev rfl) (rfl) (by omega)) rfl fun f h => s_o h rfl (s_pure h (ru_fieldE fld43_0 (h.ev rfl) ((((s.getG 1 rfl) (rt_nilT _) (re_nil _)).2.1).some (by omega))) rfl fun f h => s_o h rfl (s_load_at1 (V := .int .i64 19) (rdz_at (((s.getG 1 rfl) (rt_nilT _) (re_nil _)).2.1) (0 * 139 + 0) ((se_c0 Kua 0 (by omega)).trans (by rw [q2]))) h one3 rfl rfl fun f h => s_o h rfl (s_at hFT9 h rfl (rfl) fun f h => s_run hFT9 3 h rfl fun f h => s_o h rfl (s_pure h (ru_ixz (((s.getG 1 rfl) (rt_nilT _) (re_nil _)).2.1) (0) Tryd.underlying34 szo43 (h.ev rfl) (h.ev rfl) (rfl) (by omega)) rfl fun f h => s_o h rfl (s_pure h (ru_fieldE fld43_1 (h.ev rfl) ((((s.getG 1 rfl) (rt_nilT _) (re_nil _)).2.1).some (by omega))) rfl fun f h => s_o h rfl (s_pure h (ru_fieldE fld31_0 (h.ev rfl) ((((s.getG 1 rfl) (rt_nilT _) (re_nil _)).2.1).some (by omega))) rfl fun f h => s_o h rfl (s_load_at1 (V := .int .i64 3) (rdz_at (((s.getG 1 rfl) (rt_nilT _) (re_nil _)).2.1) (0 * 139 + 1) ((se_c1 Kua 0 (by omega)).trans (by rw [q2]; rfl))) h one3 rfl rfl fun f h => s_o h rfl (s_at hFT9 h rfl (rfl) fun f h => e9 hFT9 2 h rfl fun f h => wpIn_ret (e_tmp rfl h s rfl (rfl)))))))))))))
end Go.Proofs.YtobfeflheaobiaaDoor
