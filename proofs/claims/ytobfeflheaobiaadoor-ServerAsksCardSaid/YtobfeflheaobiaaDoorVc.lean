/- What may lead where, and nonces: package proof and its reference, for all arguments of their types (a nonce of each kind: made, refused). -/
import Derived.Test.YtobfeflheaobiaaDoorVb
set_option linter.unusedVariables false
set_option linter.unusedSimpArgs false
set_option linter.unusedSectionVars false
namespace Go.Proofs.YtobfeflheaobiaaDoor
open Go.RowKit
theorem keyOf_any (a : Id) (w : World) : Calls Tryd.prog 27 [idV a].toArray w (Ret w (is (.agg (kArr (keyOf a))))) := by
  refine c_en Tryd.func27 rfl Tryd.ntmps27 rfl fun f h s => qr (s_box (idArr a) h s rfl rfl rfl fun f w1 b1 h s => s_alloc (bytesF (fun _ => 0) 16) h s zero70 rfl rfl fun f w1 b2 h s => nt (qr (s_pure h (ru_slice_arr_hi 16 Tryd.underlying26 size5 (h.ev rfl) (h.ev rfl) rfl (by decide)) rfl fun f h => s_pure h (ru_toarr Tryd.underlying70 (h.ev rfl) (by decide)) rfl fun f h => s_load_at (Has.subL (Has.of_own s 1 rfl) 0 16 (D := kArr (keyOf a)) (idArr_key a)) h row70 rfl (by first | exact kArr_size _ | exact bytesF_size _ _) rfl fun f h => s_store_row 0 h s row70 rfl rfl rfl (by first | exact kArr_size _ | exact bytesF_size _ _) (by first | exact kArr_size _ | exact bytesF_size _ _) (by first | exact kArr_ones _ | exact bytesF_ones _ _) fun w1 s => nt (wpIn_ret (e_row 0 rfl h s row70 rfl rfl (by first | exact kArr_size _ | exact bytesF_size _ _) (rfl))))))

theorem summed_any (word : ByteArray) (hwd : word.size ≤ 100) (k : Key) (w : World) (hH : Tab w 0 (wF hTab 8)) (hK : Tab w 1 (wF kTab 64)) : Calls Tryd.prog 36 [.string word, .agg (kArr k)].toArray w (Ret w (is (idV (madeM word k)))) := by
  have hks := kStr_size k
  have hcs : (word ++ kStr k).size < 2147483648 := by rw [ByteArray.size_append]; omega
  refine c_en Tryd.func36 rfl Tryd.ntmps36 rfl fun f h s => qr (s_box ((kArr k)) h s rfl rfl rfl fun f w1 b3 h s => s_alloc (idArr 0#256) h s zero26 rfl rfl fun f w1 b4 h s => nt (qrs hFT9 1 h rfl fun f h => s_pure h (ru_slice_arr Tryd.underlying70 size5 (h.ev rfl)) rfl fun f h => s_str 1 h s Tryd.underlying74 Tryd.underlying5 Tryd.underlying9 rfl rfl rfl ?_)); intro f h
  refine s_bslice (vs := [.string word, .string (kStr k)]) [.tmp 6, .tmp 8] h s Tryd.underlying86 elm9 rfl rfl (by simp [Value.cells]) rfl rfl rfl fun f w1 v9 h s => s_cv h s fnc30 (sum_rd (word ++ kStr k) [word, kStr k] (cat2 _ _) hcs (by simp) _ _ (Rd.of_own (s.getSl 0 rfl)) (hH.keep s.ext) (hK.keep s.ext)) rfl rfl fun f w1 h s => s_alloc (idArr 0#256) h s zero26 rfl rfl fun f w1 b5 h s => s_store_row 0 h s row26 rfl rfl rfl (by first | exact idArr_size _ | exact bytesF_size _ _) (by first | exact idArr_size _ | exact bytesF_size _ _) (by first | exact idArr_ones _ | exact bytesF_ones _ _) fun w1 s => ?_
  have s := s.as (B' := [.blk b5 (.cells (bytesF (byteAt (sumB (word ++ kStr k))) 32) 26), .sl v9 9 1 2 ([Value.string word, Value.string (kStr k)].flatMap fun v => v.cells.toList), .blk b4 (.cells (idArr 0#256) 26), .blk b3 (.cells (kArr k) 70)]) ⟨cells_eq (idArr_bytes _), rfl, rfl, rfl, trivial⟩
  refine nt (qr (s_pure h (ru_slice_arr_lo (16) Tryd.underlying26 size5 (h.ev rfl) (h.ev rfl) (rfl) (by decide)) rfl fun f h => s_clear 0 h s Tryd.underlying74 zcell5 rfl rfl (by decide) ?_)); intro w1 s
  have s := s.as (B' := [.blk b5 (.cells (idArr (half (sumB (word ++ kStr k)))) 26), .sl v9 9 1 2 ([Value.string word, Value.string (kStr k)].flatMap fun v => v.cells.toList), .blk b4 (.cells (idArr 0#256) 26), .blk b3 (.cells (kArr k) 70)]) ⟨cells_eq (half_clear _), rfl, rfl, rfl, trivial⟩
  refine nt (qr (s_load_row 0 h s row26 rfl rfl (by first | exact idArr_size _ | exact bytesF_size _ _) rfl fun f h => s_store_row 2 h s row26 rfl rfl rfl (by first | exact idArr_size _ | exact bytesF_size _ _) (by first | exact idArr_size _ | exact bytesF_size _ _) (by first | exact idArr_ones _ | exact bytesF_ones _ _) fun w1 s => nt (wpIn_ret (e_row 2 rfl h s row26 rfl rfl (by first | exact idArr_size _ | exact bytesF_size _ _) (rfl)))))

theorem left_any (a : Id) (w : World) (hH : Tab w 0 (wF hTab 8)) (hK : Tab w 1 (wF kTab 64)) : Calls Tryd.prog 28 [idV a].toArray w (Ret w (is (idV (madeM leftB (keyOf a))))) := by
  refine c_en Tryd.func28 rfl Tryd.ntmps28 rfl fun f h s => qr (s_box (idArr a) h s rfl rfl rfl fun f w1 b1 h s => s_alloc (idArr 0#256) h s zero26 rfl rfl fun f w1 b2 h s => nt (qr (s_load_row 1 h s row26 rfl rfl (by first | exact idArr_size _ | exact bytesF_size _ _) rfl fun f h => s_cv h s fnc27 (keyOf_any _ _) rfl rfl fun f w1 h s => s_cv h s fnc36 (summed_any leftB (by decide) _ _ (hH.keep s.ext) (hK.keep s.ext)) rfl rfl fun f w1 h s => s_store_row 0 h s row26 rfl rfl rfl (by first | exact idArr_size _ | exact bytesF_size _ _) (by first | exact idArr_size _ | exact bytesF_size _ _) (by first | exact idArr_ones _ | exact bytesF_ones _ _) fun w1 s => nt (wpIn_ret (e_row 0 rfl h s row26 rfl rfl (by first | exact idArr_size _ | exact bytesF_size _ _) (rfl))))))

theorem right_any (a : Id) (w : World) (hH : Tab w 0 (wF hTab 8)) (hK : Tab w 1 (wF kTab 64)) : Calls Tryd.prog 29 [idV a].toArray w (Ret w (is (idV (madeM rightB (keyOf a))))) := by
  refine c_en Tryd.func29 rfl Tryd.ntmps29 rfl fun f h s => qr (s_box (idArr a) h s rfl rfl rfl fun f w1 b1 h s => s_alloc (idArr 0#256) h s zero26 rfl rfl fun f w1 b2 h s => nt (qr (s_load_row 1 h s row26 rfl rfl (by first | exact idArr_size _ | exact bytesF_size _ _) rfl fun f h => s_cv h s fnc27 (keyOf_any _ _) rfl rfl fun f w1 h s => s_cv h s fnc36 (summed_any rightB (by decide) _ _ (hH.keep s.ext) (hK.keep s.ext)) rfl rfl fun f w1 h s => s_store_row 0 h s row26 rfl rfl rfl (by first | exact idArr_size _ | exact bytesF_size _ _) (by first | exact idArr_size _ | exact bytesF_size _ _) (by first | exact idArr_ones _ | exact bytesF_ones _ _) fun w1 s => nt (wpIn_ret (e_row 0 rfl h s row26 rfl rfl (by first | exact idArr_size _ | exact bytesF_size _ _) (rfl))))))

theorem links_any (a b : Id) (w : World) (hH : Tab w 0 (wF hTab 8)) (hK : Tab w 1 (wF kTab 64)) : Calls Tryd.prog 13 [idV a, idV b].toArray w (Ret w (is (.bool (linksM a b)))) := by
  refine c_en Tryd.func13 rfl Tryd.ntmps13 rfl fun f h s => qr (s_box (idArr a) h s rfl rfl rfl fun f w1 b2 h s => s_box (idArr b) h s rfl rfl rfl fun f w1 b3 h s => e9 hFT9 1 h rfl fun f h => c_seqN ?_)
  cases hx : (decide (keyOf b = keyOf (madeM leftB (keyOf a))) : Bool)
  · refine c_wA 15 h (by kernel_rfl) (w_load_row 0 h s row26 rfl rfl (by first | exact idArr_size _ | exact bytesF_size _ _) rfl fun f h => w_call h fnc27 (fun w9 hE9 => keyOf_any _ w9) rfl rfl fun f h => w_load_row 1 h s row26 rfl rfl (by first | exact idArr_size _ | exact bytesF_size _ _) rfl fun f h => w_call h fnc28 (fun w9 hE9 => left_any _ w9 (hH.keep (s.ext.trans hE9)) (hK.keep (s.ext.trans hE9))) rfl rfl fun f h => w_call h fnc27 (fun w9 hE9 => keyOf_any _ w9) rfl rfl fun f h => w_pure h (ru_val (.bool false) (ru_eqlW (eqK _ _) (by kernel_rfl) (by decide) (h.ev rfl) (h.ev rfl) (decide (keyOf b = keyOf (madeM leftB (keyOf a)))) (kEq _ _)) (congrArg Value.bool hx)) rfl fun f h => w_run hFT9 1 h rfl fun f h => w_o h rfl (w_load_row 1 h s row26 rfl rfl (by first | exact idArr_size _ | exact bytesF_size _ _) rfl fun f h => w_o h rfl (w_call h fnc27 (fun w9 hE9 => keyOf_any _ w9) rfl rfl fun f h => w_o h rfl (w_load_row 0 h s row26 rfl rfl (by first | exact idArr_size _ | exact bytesF_size _ _) rfl fun f h => w_o h rfl (w_call h fnc29 (fun w9 hE9 => right_any _ w9 (hH.keep (s.ext.trans hE9)) (hK.keep (s.ext.trans hE9))) rfl rfl fun f h => w_o h rfl (w_call h fnc27 (fun w9 hE9 => keyOf_any _ w9) rfl rfl fun f h => w_o h rfl (w_pure h (ru_eqlW (eqK _ _) (by kernel_rfl) (by decide) (h.ev rfl) (h.ev rfl) (decide (keyOf a = keyOf (madeM rightB (keyOf b)))) (kEq _ _)) rfl fun f h => w_run hFT9 2 h rfl fun f h => w_nil s fun w1 s => nt (wpIn_ret (e_tmp rfl h s rfl (by show _ = _; unfold linksM; rw [hx]; rfl))))))))))
  · refine c_wA 15 h (by kernel_rfl) (w_load_row 0 h s row26 rfl rfl (by first | exact idArr_size _ | exact bytesF_size _ _) rfl fun f h => w_call h fnc27 (fun w9 hE9 => keyOf_any _ w9) rfl rfl fun f h => w_load_row 1 h s row26 rfl rfl (by first | exact idArr_size _ | exact bytesF_size _ _) rfl fun f h => w_call h fnc28 (fun w9 hE9 => left_any _ w9 (hH.keep (s.ext.trans hE9)) (hK.keep (s.ext.trans hE9))) rfl rfl fun f h => w_call h fnc27 (fun w9 hE9 => keyOf_any _ w9) rfl rfl fun f h => w_pure h (ru_val (.bool true) (ru_eqlW (eqK _ _) (by kernel_rfl) (by decide) (h.ev rfl) (h.ev rfl) (decide (keyOf b = keyOf (madeM leftB (keyOf a)))) (kEq _ _)) (congrArg Value.bool hx)) rfl fun f h => w_run hFT9 9 h rfl fun f h => w_nil s fun w1 s => nt (wpIn_ret (e_tmp rfl h s rfl (by show _ = _; unfold linksM; rw [hx]; rfl))))

theorem nonce_ok (sx : ByteArray) (hsx : sx.size ≤ 64) (id : Id) (n : Nat) (hn : n < 16) (w : World) (hH : Tab w 0 (wF hTab 8)) (hK : Tab w 1 (wF kTab 64)) : Calls Tryd.prog 14 [.string sx, idV id, .int .i64 (n : Int)].toArray w (Ret w (is (.tuple #[.string (nonceM sx id n), .int .i64 (0)]))) := by
  have hnt := nonceT_size sx id n
  refine c_en Tryd.func14 rfl Tryd.ntmps14 rfl fun f h s => qr (s_box (idArr id) h s rfl rfl rfl fun f w1 b4 h s => e9 hFT9 2 h rfl fun f h => c_seqN (qrs hFT9 1 h rfl fun f h => s_af hFT9 h rfl (decide_eq_false (by omega)) fun f h => s_run hFT9 2 h rfl fun f h => s_o h rfl (s_af hFT9 h rfl (decide_eq_false (by omega)) fun f h => e9 hFT9 1 h rfl fun f h => cfk h rfl (c_seqN (qrs hFT9 1 h rfl fun f h => s_pure h (ru_len_str Tryd.underlying9 (h.ev rfl)) rfl fun f h => s_af hFT9 h rfl (decide_eq_false (by omega)) fun f h => ncfk h rfl (c_seqN ?_))))))
  have hbs := s.ext.le
  refine' c_reg2 10 [0, 1, 3, 4] [9] [[], [], [1], [], [3], [3, 4], [3, 4, 5], [0, 1, 2, 3, 4, 5, 6], [0, 1, 2, 3, 4, 5, 6, 7], [], [0, 1, 2, 3, 4, 5, 6, 7, 8, 9]] (is _ :: is _ :: is _ :: is _ :: is _ :: (fun v w9 => RdZ w9 v 1 1 ([n].map fun (m : Nat) => Value.int .u8 (m : Int))) :: is _ :: (fun v w9 => RdZ w9 v 1 4 ([Value.string nonceB, Value.string sx, Value.string (idStr id), Value.string (strF (fun _ => n) 1)])) :: is _ :: (PtrT (idArr 0#256) 26) :: is undef :: []) (fun _ => True) h s (by kernel_rfl) (by kernel_rfl) (by kernel_rfl) (by kernel_rfl) rfl (fun _ _ h _ => h) (trivial) ⟨⟨_, rfl⟩, ⟨_, rfl⟩, ⟨_, rfl⟩, ⟨_, rfl⟩, trivial⟩ ⟨is_mono _, is_mono _, is_mono _, is_mono _, is_mono _, RdZ.mono, is_mono _, RdZ.mono, is_mono _, PtrT.mono _ _, is_mono _, trivial⟩ (And.intro ?_ (And.intro ?_ (And.intro ?_ (And.intro ?_ (And.intro ?_ (And.intro ?_ (And.intro ?_ (And.intro ?_ (And.intro ?_ (And.intro ?_ (And.intro ?_ (trivial)))))))))))) ?_
  rotate_left 7
  · refine obH_in 18 rfl (by decide) ?_
    intro f9 w2 hE hs hl
    have e0 : f9.tmps.getD 0 undef = _ := sx_old hl 0 (by kernel_rfl) (by kernel_rfl) (h.holds 0 _ rfl)
    have h := fin_slot [(0, _)] hs rfl (holds_lk ⟨e0, trivial⟩)
    refine s_run hFT9 1 h rfl fun f h => s_nil ?_
    have e9 := h.holds 18 _ rfl
    refine ⟨?_, rfl⟩
    refine e9.trans ?_
    exact rfl
  · refine obH_in 19 rfl (by decide) ?_
    intro f9 w2 hE hs hl
    have e4 : f9.tmps.getD 4 undef = _ := sx_old hl 4 (by kernel_rfl) (by kernel_rfl) (h.holds 4 _ rfl)
    have h := fin_slot [(4, _)] hs rfl (holds_lk ⟨e4, trivial⟩)
    refine s_pure h (ru_slice_arr Tryd.underlying26 size5 (h.ev rfl)) rfl fun f h => s_nil ?_
    have e9 := h.holds 19 _ rfl
    refine ⟨?_, rfl⟩
    refine e9.trans ?_
    exact rfl
  · refine obF_in 20 rfl (by decide) (by decide) ?_
    intro f9 w2 hE hs hd9 hl
    have e19 : f9.tmps.getD 19 undef = _ := sx_get hl 19 1 (by kernel_rfl) (by kernel_rfl)
    have h := fin_slot [(19, _)] hs hd9 (holds_lk ⟨e19, trivial⟩)
    have s := s.more hE
    have z := St.start w2
    refine s_str 0 h s Tryd.underlying74 Tryd.underlying5 Tryd.underlying9 rfl rfl rfl ?_; intro f h
    refine s_nil ?_
    have e9 := h.holds 20 _ rfl
    refine ⟨?_, Ext.refl _, fun h9 => absurd h9 (by decide)⟩
    refine e9.trans ?_
    exact rfl
  · refine obH_in 21 rfl (by decide) ?_
    intro f9 w2 hE hs hl
    have e2 : f9.tmps.getD 2 undef = _ := sx_old hl 2 (by kernel_rfl) (by kernel_rfl) (h.holds 2 _ rfl)
    have h := fin_slot [(2, _)] hs rfl (holds_lk ⟨e2, trivial⟩)
    refine s_run hFT9 1 h rfl fun f h => s_nil ?_
    have e9 := h.holds 21 _ rfl
    refine ⟨?_, rfl⟩
    refine e9.trans ?_
    exact rfl
  · refine obH_in 22 rfl (by decide) ?_
    intro f9 w2 hE hs hl
    have e21 : f9.tmps.getD 21 undef = _ := sx_get hl 21 3 (by kernel_rfl) (by kernel_rfl)
    have h := fin_slot [(21, _)] hs rfl (holds_lk ⟨e21, trivial⟩)
    refine s_pure h (ru_val (.int .u8 (n : Int)) (ru_conv_u8 Tryd.underlying3 Tryd.underlying5 (h.ev rfl)) (congrArg (Value.int .u8) (by omega))) rfl fun f h => s_nil ?_
    have e9 := h.holds 22 _ rfl
    refine ⟨?_, rfl⟩
    refine e9.trans ?_
    exact rfl
  · refine obF_in 23 rfl (by decide) (by decide) ?_
    intro f9 w2 hE hs hd9 hl
    have e22 : f9.tmps.getD 22 undef = _ := sx_get hl 22 4 (by kernel_rfl) (by kernel_rfl)
    have h := fin_slot [(22, _)] hs hd9 (holds_lk ⟨e22, trivial⟩)
    have s := s.more hE
    have z := St.start w2
    refine s_bslice (vs := [.int .u8 (n : Int)]) [.tmp 22] h z Tryd.underlying74 elm5 rfl rfl (by simp [Value.cells]) rfl rfl rfl fun f w1 v9 h z => s_nil ?_
    exact kf_rd (h.holds 23 _ rfl) z _ (rfl)
  · refine obF_in 24 rfl (by decide) (by decide) ?_
    intro f9 w2 hE hs hd9 hl
    obtain ⟨u23, hu23⟩ : ∃ v, f9.tmps.getD 23 undef = v := ⟨_, rfl⟩
    have e23 : (fun v w9 => RdZ w9 v 1 1 ([n].map fun (m : Nat) => Value.int .u8 (m : Int))) u23 w2 := by rw [← hu23]; exact sx_get hl 23 5 (by kernel_rfl) (by kernel_rfl)
    have h := fin_slot [(23, u23)] hs hd9 (holds_lk ⟨hu23, trivial⟩)
    have s := s.more hE
    have z := St.start w2
    refine s_str_rd (ns := [n]) (e23) h Tryd.underlying74 Tryd.underlying5 Tryd.underlying9 rfl rfl ?_; intro f h
    refine s_nil ?_
    have e9 := h.holds 24 _ rfl
    refine ⟨?_, Ext.refl _, fun h9 => absurd h9 (by decide)⟩
    refine e9.trans ?_
    exact rfl
  · refine obF_in 25 rfl (by decide) (by decide) ?_
    intro f9 w2 hE hs hd9 hl
    have e18 : f9.tmps.getD 18 undef = _ := sx_get hl 18 0 (by kernel_rfl) (by kernel_rfl)
    have e20 : f9.tmps.getD 20 undef = _ := sx_get hl 20 2 (by kernel_rfl) (by kernel_rfl)
    have e24 : f9.tmps.getD 24 undef = _ := sx_get hl 24 6 (by kernel_rfl) (by kernel_rfl)
    have h := fin_slot [(18, _), (20, _), (24, _)] hs hd9 (holds_lk ⟨e18, e20, e24, trivial⟩)
    have s := s.more hE
    have z := St.start w2
    refine s_bslice (vs := [.string nonceB, .string sx, .string (idStr id), .string (strF (fun _ => n) 1)]) [.const (.string ⟨#[110, 111, 110, 99, 101]⟩), .tmp 18, .tmp 20, .tmp 24] h z Tryd.underlying86 elm9 rfl rfl (by simp [Value.cells]) rfl rfl rfl fun f w1 v9 h z => s_nil ?_
    exact kf_rd (h.holds 25 _ rfl) z _ (rfl)
  · refine obF_in 26 rfl (by decide) (by decide) ?_
    intro f9 w2 hE hs hd9 hl
    obtain ⟨u25, hu25⟩ : ∃ v, f9.tmps.getD 25 undef = v := ⟨_, rfl⟩
    have e25 : (fun v w9 => RdZ w9 v 1 4 ([Value.string nonceB, Value.string sx, Value.string (idStr id), Value.string (strF (fun _ => n) 1)])) u25 w2 := by rw [← hu25]; exact sx_get hl 25 7 (by kernel_rfl) (by kernel_rfl)
    have h := fin_slot [(25, u25)] hs hd9 (holds_lk ⟨hu25, trivial⟩)
    have s := s.more hE
    have z := St.start w2
    refine s_call h s fnc30 (sum_rd (nonceT sx id n) [nonceB, sx, idStr id, strF (fun _ => n) 1] (cat4 _ _ _ _) (by omega) (by simp) _ _ (RdZ.toRd e25) (hH.keep s.ext) (hK.keep s.ext)) rfl rfl ?_; intro f w1 v9 hT hE h s; obtain rfl := hT
    refine s_nil ?_
    have e9 := h.holds 26 _ rfl
    refine ⟨?_, hE, fun h9 => absurd h9 (by decide)⟩
    refine e9.trans ?_
    exact rfl
  · refine obF_in 8 rfl (by decide) (by decide) ?_
    intro f9 w2 hE hs hd9 hl
    have h := fin_slot [] hs hd9 (holds_lk trivial)
    have s := s.more hE
    have z := St.start w2
    refine s_alloc (idArr 0#256) h z zero26 rfl rfl fun f w1 b9 h z => s_nil ?_
    exact kf_ptr (h.holds 8 _ rfl) z
  · exact obT_in (by decide) (by decide)
  · intro f9 w2 hE hs hd9 hWp hT hR hFr hDj
    obtain ⟨u23, hu23⟩ : ∃ v, f9.tmps.getD 23 undef = v := ⟨_, rfl⟩
    have e23 : (fun v w9 => RdZ w9 v 1 1 ([n].map fun (m : Nat) => Value.int .u8 (m : Int))) u23 w2 := by rw [← hu23]; exact hT 5 23 (by decide) rfl
    obtain ⟨u25, hu25⟩ : ∃ v, f9.tmps.getD 25 undef = v := ⟨_, rfl⟩
    have e25 : (fun v w9 => RdZ w9 v 1 4 ([Value.string nonceB, Value.string sx, Value.string (idStr id), Value.string (strF (fun _ => n) 1)])) u25 w2 := by rw [← hu25]; exact hT 7 25 (by decide) rfl
    obtain ⟨u8, hu8⟩ : ∃ v, f9.tmps.getD 8 undef = v := ⟨_, rfl⟩
    have e8 : (PtrT (idArr 0#256) 26) u8 w2 := by rw [← hu8]; exact hT 9 8 (by decide) rfl
    have k8 := hFr 9 8 (by decide) rfl; rw [hu8] at k8
    replace h := sl_new (ops := _) [(18, _), (19, _), (20, _), (21, _), (22, _), (23, u23), (24, _), (25, u25), (26, _), (8, u8)] h hs hd9 hR ⟨hT 0 18 (by decide) rfl, hT 1 19 (by decide) rfl, hT 2 20 (by decide) rfl, hT 3 21 (by decide) rfl, hT 4 22 (by decide) rfl, hu23, hT 6 24 (by decide) rfl, hu25, hT 8 26 (by decide) rfl, hu8, trivial⟩ (by kernel_rfl)
    obtain ⟨b8, hb8, s⟩ := ptr_join s hE e8 k8; subst hb8
    clear hT hR hFr hDj
    refine LstW.of ?_
    refine s_store_row 0 h s row26 rfl rfl rfl (by first | exact idArr_size _ | exact bytesF_size _ _) (by first | exact idArr_size _ | exact bytesF_size _ _) (by first | exact idArr_ones _ | exact bytesF_ones _ _) fun w1 s => nt (qr (s_pure h (ru_slice_arr_hi 16 Tryd.underlying26 size5 (h.ev rfl) (h.ev rfl) rfl (by decide)) rfl fun f h => s_str_at (Has.subL (o := 0) (Has.of_own s 0 rfl) 0 16 (D := kArr (keyOf (sumB (nonceT sx id n)))) (idArr_key _)) h Tryd.underlying74 Tryd.underlying5 Tryd.underlying9 rfl rfl ?_)); intro f h
    refine e9 hFT9 2 h rfl fun f h => wpIn_ret (e_tmps rfl h s rfl rfl (rfl))

theorem nonce_bad (sx : ByteArray) (id : Id) (k : Int) (hk : k < 0 ∨ 16 ≤ k) (w : World) : Calls Tryd.prog 14 [.string sx, idV id, .int .i64 k].toArray w (Ret w (is (.tuple #[.string (⟨#[]⟩), .int .i64 (1)]))) := by
  refine c_en Tryd.func14 rfl Tryd.ntmps14 rfl fun f h s => qr (s_box (idArr id) h s rfl rfl rfl fun f w1 b4 h s => e9 hFT9 2 h rfl fun f h => c_seqN (c_seqN ?_))
  refine rs hFT9 1 h rfl fun f h => s_ax hFT9 h rfl (fun hx f h => ?_) (fun hx f h => ?_)
  · refine s_run hFT9 2 h rfl fun f h => s_o h rfl (s_at hFT9 h rfl (decide_eq_true (by have := of_decide_eq_false hx; omega)) fun f h => e9 hFT9 1 h rfl fun f h => c_ct h rfl (qre hFT9 2 h rfl fun f h => rt (e_tmps rfl h s rfl rfl (rfl))))
  · refine e9 hFT9 4 h rfl fun f h => c_ct h rfl (qre hFT9 2 h rfl fun f h => rt (e_tmps rfl h s rfl rfl (rfl)))

theorem nonce_long (sx : ByteArray) (hsx : 64 < sx.size) (id : Id) (n : Nat) (hn : n < 16) (w : World) : Calls Tryd.prog 14 [.string sx, idV id, .int .i64 (n : Int)].toArray w (Ret w (is (.tuple #[.string (⟨#[]⟩), .int .i64 (2)]))) := by
  refine c_en Tryd.func14 rfl Tryd.ntmps14 rfl fun f h s => qr (s_box (idArr id) h s rfl rfl rfl fun f w1 b4 h s => e9 hFT9 2 h rfl fun f h => c_seqN (qrs hFT9 1 h rfl fun f h => s_af hFT9 h rfl (decide_eq_false (by omega)) fun f h => s_run hFT9 2 h rfl fun f h => s_o h rfl (s_af hFT9 h rfl (decide_eq_false (by omega)) fun f h => e9 hFT9 1 h rfl fun f h => cfk h rfl (c_seqN (qrs hFT9 1 h rfl fun f h => s_pure h (ru_len_str Tryd.underlying9 (h.ev rfl)) rfl fun f h => s_at hFT9 h rfl (decide_eq_true (by omega)) fun f h => nct h rfl (qre hFT9 2 h rfl fun f h => rt (e_tmps rfl h s rfl rfl (rfl))))))))
end Go.Proofs.YtobfeflheaobiaaDoor
