/- What may lead where, and nonces: package proof and its reference, for all arguments of their types (a nonce of each kind: made, refused). -/
import Derived.Test.YtcnnlakcpcofkaaDoorVb
set_option linter.unusedVariables false
set_option linter.unusedSimpArgs false
set_option linter.unusedSectionVars false
namespace Go.Proofs.YtcnnlakcpcofkaaDoor
open Go.RowKit
theorem keyOf_any (a : Id) (w : World) : Calls Tryd.prog 26 [idV a].toArray w (Ret w (is (.agg (kArr (keyOf a))))) := by
  refine c_enter Tryd.func26 rfl Tryd.ntmps26 rfl [(0, idV a)] (by simp) fun f h => ?_
  have s := St.start w
  refine c_seq fun K1 hK1 => ?_
  refine c_region ?_
  refine s_box (idArr a) h s rfl rfl rfl ?_; intro f w1 b1 h s
  refine s_alloc (bytesF (fun _ => 0) 16) h s zero64 rfl rfl ?_; intro f w1 b2 h s
  refine s_nil ?_
  refine hK1 _ _ ?_
  refine c_seq fun K2 hK2 => ?_
  refine c_region ?_
  refine s_pure h (ru_slice_arr_hi 16 Tryd.underlying23 size5 (h.ev rfl) (h.ev rfl) rfl (by decide)) rfl ?_; intro f h
  refine s_pure h (ru_toarr Tryd.underlying64 (h.ev rfl) (by decide)) rfl ?_; intro f h
  refine s_load_at (Has.subL (Has.of_own s 1 rfl) 0 16 (D := kArr (keyOf a)) (idArr_key a)) h row64 rfl (by first | exact kArr_size _ | exact bytesF_size _ _) rfl ?_; intro f h
  refine s_store_row 0 h s row64 rfl rfl rfl (by first | exact kArr_size _ | exact bytesF_size _ _) (by first | exact kArr_size _ | exact bytesF_size _ _) (by first | exact kArr_ones _ | exact bytesF_ones _ _) ?_; intro w1 s
  refine s_nil ?_
  refine hK2 _ _ ?_
  refine wpIn_ret ?_
  exact e_row 0 rfl h s row64 rfl rfl (by first | exact kArr_size _ | exact bytesF_size _ _) (rfl)

theorem key_any (a : Id) (w : World) : Calls Tryd.prog 39 [idV a].toArray w (Ret w (is (.string (kStr (keyOf a))))) := by
  refine c_enter Tryd.func39 rfl Tryd.ntmps39 rfl [(0, idV a)] (by simp) fun f h => ?_
  have s := St.start w
  refine c_seq fun K1 hK1 => ?_
  refine c_region ?_
  refine s_box (idArr a) h s rfl rfl rfl ?_; intro f w1 b1 h s
  refine s_pure h (ru_assign (h.ev rfl)) rfl ?_; intro f h
  refine s_nil ?_
  refine hK1 _ _ ?_
  refine c_seq fun K2 hK2 => ?_
  refine c_region ?_
  refine s_pure h (ru_slice_arr_hi 16 Tryd.underlying23 size5 (h.ev rfl) (h.ev rfl) rfl (by decide)) rfl ?_; intro f h
  refine s_str_at (Has.subL (o := 0) (Has.of_own s 0 rfl) 0 16 (D := kArr (keyOf a)) (idArr_key a)) h Tryd.underlying61 Tryd.underlying5 Tryd.underlying9 rfl rfl ?_; intro f h
  refine s_pure h (ru_assign (h.ev rfl)) rfl ?_; intro f h
  refine s_nil ?_
  refine hK2 _ _ ?_
  refine wpIn_ret ?_
  exact e_tmp rfl h s rfl (rfl)

theorem summed_any (word : ByteArray) (hwd : word.size ≤ 100) (k : Key) (w : World) (hH : Tab w 0 (wF hTab 8)) (hK : Tab w 1 (wF kTab 64)) : Calls Tryd.prog 25 [.string word, .agg (kArr k)].toArray w (Ret w (is (idV (madeM word k)))) := by
  have hks := kStr_size k
  have hcs : (word ++ kStr k).size < 2147483648 := by rw [ByteArray.size_append]; omega
  refine c_enter Tryd.func25 rfl Tryd.ntmps25 rfl [(0, .string word), (1, .agg (kArr k))] (by simp) fun f h => ?_
  have s := St.start w
  refine c_seq fun K1 hK1 => ?_
  refine c_region ?_
  refine s_box ((kArr k)) h s rfl rfl rfl ?_; intro f w1 b3 h s
  refine s_alloc (idArr 0#256) h s zero23 rfl rfl ?_; intro f w1 b4 h s
  refine s_nil ?_
  refine hK1 _ _ ?_
  refine c_seq fun K2 hK2 => ?_
  refine c_region ?_
  refine s_pure h (ru_move (h.ev rfl)) rfl ?_; intro f h
  refine s_pure h (ru_slice_arr Tryd.underlying64 size5 (h.ev rfl)) rfl ?_; intro f h
  refine s_str 1 h s Tryd.underlying61 Tryd.underlying5 Tryd.underlying9 rfl rfl rfl ?_; intro f h
  refine s_bslice (vs := [.string word, .string (kStr k)]) [.tmp 6, .tmp 8] h s Tryd.underlying80 elm9 rfl rfl (by simp [Value.cells]) rfl rfl rfl ?_; intro f w1 v9 h s
  refine s_call h s fnc24 (sum_rd (word ++ kStr k) [word, kStr k] (cat2 _ _) hcs (by simp) _ _ (Rd.of_own (s.getSl 0 rfl)) (hH.keep s.ext) (hK.keep s.ext)) rfl rfl ?_; intro f w1 v9 hT hE h s; obtain rfl := hT
  refine s_alloc (idArr 0#256) h s zero23 rfl rfl ?_; intro f w1 b5 h s
  refine s_store_row 0 h s row23 rfl rfl rfl (by first | exact idArr_size _ | exact bytesF_size _ _) (by first | exact idArr_size _ | exact bytesF_size _ _) (by first | exact idArr_ones _ | exact bytesF_ones _ _) ?_; intro w1 s
  have s := s.as (B' := [.blk b5 (.cells (bytesF (byteAt (sumB (word ++ kStr k))) 32) 23), .sl v9 9 1 2 ([Value.string word, Value.string (kStr k)].flatMap fun v => v.cells.toList), .blk b4 (.cells (idArr 0#256) 23), .blk b3 (.cells (kArr k) 64)]) ⟨cells_eq (idArr_bytes _), rfl, rfl, rfl, trivial⟩
  refine s_nil ?_
  refine hK2 _ _ ?_
  refine c_seq fun K3 hK3 => ?_
  refine c_region ?_
  refine s_pure h (ru_slice_arr_lo (16) Tryd.underlying23 size5 (h.ev rfl) (h.ev rfl) (rfl) (by decide)) rfl ?_; intro f h
  refine s_clear 0 h s Tryd.underlying61 zcell5 rfl rfl (by decide) ?_; intro w1 s
  have s := s.as (B' := [.blk b5 (.cells (idArr (half (sumB (word ++ kStr k)))) 23), .sl v9 9 1 2 ([Value.string word, Value.string (kStr k)].flatMap fun v => v.cells.toList), .blk b4 (.cells (idArr 0#256) 23), .blk b3 (.cells (kArr k) 64)]) ⟨cells_eq (half_clear _), rfl, rfl, rfl, trivial⟩
  refine s_nil ?_
  refine hK3 _ _ ?_
  refine c_seq fun K4 hK4 => ?_
  refine c_region ?_
  refine s_load_row 0 h s row23 rfl rfl (by first | exact idArr_size _ | exact bytesF_size _ _) rfl ?_; intro f h
  refine s_store_row 2 h s row23 rfl rfl rfl (by first | exact idArr_size _ | exact bytesF_size _ _) (by first | exact idArr_size _ | exact bytesF_size _ _) (by first | exact idArr_ones _ | exact bytesF_ones _ _) ?_; intro w1 s
  refine s_nil ?_
  refine hK4 _ _ ?_
  refine wpIn_ret ?_
  exact e_row 2 rfl h s row23 rfl rfl (by first | exact idArr_size _ | exact bytesF_size _ _) (rfl)

theorem left_any (a : Id) (w : World) (hH : Tab w 0 (wF hTab 8)) (hK : Tab w 1 (wF kTab 64)) : Calls Tryd.prog 16 [idV a].toArray w (Ret w (is (idV (madeM leftB (keyOf a))))) := by
  refine c_enter Tryd.func16 rfl Tryd.ntmps16 rfl [(0, idV a)] (by simp) fun f h => ?_
  have s := St.start w
  refine c_seq fun K1 hK1 => ?_
  refine c_region ?_
  refine s_box (idArr a) h s rfl rfl rfl ?_; intro f w1 b1 h s
  refine s_alloc (idArr 0#256) h s zero23 rfl rfl ?_; intro f w1 b2 h s
  refine s_nil ?_
  refine hK1 _ _ ?_
  refine c_seq fun K2 hK2 => ?_
  refine c_region ?_
  refine s_load_row 1 h s row23 rfl rfl (by first | exact idArr_size _ | exact bytesF_size _ _) rfl ?_; intro f h
  refine s_call h s fnc26 (keyOf_any _ _) rfl rfl ?_; intro f w1 v9 hT hE h s; obtain rfl := hT
  refine s_call h s fnc25 (summed_any leftB (by decide) _ _ (hH.keep s.ext) (hK.keep s.ext)) rfl rfl ?_; intro f w1 v9 hT hE h s; obtain rfl := hT
  refine s_store_row 0 h s row23 rfl rfl rfl (by first | exact idArr_size _ | exact bytesF_size _ _) (by first | exact idArr_size _ | exact bytesF_size _ _) (by first | exact idArr_ones _ | exact bytesF_ones _ _) ?_; intro w1 s
  refine s_nil ?_
  refine hK2 _ _ ?_
  refine wpIn_ret ?_
  exact e_row 0 rfl h s row23 rfl rfl (by first | exact idArr_size _ | exact bytesF_size _ _) (rfl)

theorem right_any (a : Id) (w : World) (hH : Tab w 0 (wF hTab 8)) (hK : Tab w 1 (wF kTab 64)) : Calls Tryd.prog 27 [idV a].toArray w (Ret w (is (idV (madeM rightB (keyOf a))))) := by
  refine c_enter Tryd.func27 rfl Tryd.ntmps27 rfl [(0, idV a)] (by simp) fun f h => ?_
  have s := St.start w
  refine c_seq fun K1 hK1 => ?_
  refine c_region ?_
  refine s_box (idArr a) h s rfl rfl rfl ?_; intro f w1 b1 h s
  refine s_alloc (idArr 0#256) h s zero23 rfl rfl ?_; intro f w1 b2 h s
  refine s_nil ?_
  refine hK1 _ _ ?_
  refine c_seq fun K2 hK2 => ?_
  refine c_region ?_
  refine s_load_row 1 h s row23 rfl rfl (by first | exact idArr_size _ | exact bytesF_size _ _) rfl ?_; intro f h
  refine s_call h s fnc26 (keyOf_any _ _) rfl rfl ?_; intro f w1 v9 hT hE h s; obtain rfl := hT
  refine s_call h s fnc25 (summed_any rightB (by decide) _ _ (hH.keep s.ext) (hK.keep s.ext)) rfl rfl ?_; intro f w1 v9 hT hE h s; obtain rfl := hT
  refine s_store_row 0 h s row23 rfl rfl rfl (by first | exact idArr_size _ | exact bytesF_size _ _) (by first | exact idArr_size _ | exact bytesF_size _ _) (by first | exact idArr_ones _ | exact bytesF_ones _ _) ?_; intro w1 s
  refine s_nil ?_
  refine hK2 _ _ ?_
  refine wpIn_ret ?_
  exact e_row 0 rfl h s row23 rfl rfl (by first | exact idArr_size _ | exact bytesF_size _ _) (rfl)

theorem links_any (a b : Id) (w : World) (hH : Tab w 0 (wF hTab 8)) (hK : Tab w 1 (wF kTab 64)) : Calls Tryd.prog 17 [idV a, idV b].toArray w (Ret w (is (.bool (linksM a b)))) := by
  refine c_enter Tryd.func17 rfl Tryd.ntmps17 rfl [(0, idV a), (1, idV b)] (by simp) fun f h => ?_
  have s := St.start w
  refine c_seq fun K1 hK1 => ?_
  refine c_region ?_
  refine s_box (idArr a) h s rfl rfl rfl ?_; intro f w1 b2 h s
  refine s_box (idArr b) h s rfl rfl rfl ?_; intro f w1 b3 h s
  refine s_pure h (ru_assign (h.ev rfl)) rfl ?_; intro f h
  refine s_nil ?_
  refine hK1 _ _ ?_
  refine c_seq fun K2 hK2 => ?_
  cases hx : (decide (keyOf b = keyOf (madeM leftB (keyOf a))) : Bool)
  · skip
    refine c_walkN 15 [[], [0], [], [0, 1, 2], [0, 1, 2, 3], [0, 1, 2, 3, 4], [0, 1, 2, 3, 4, 5], [0, 1, 2, 3, 4, 5, 6], [0, 1, 2, 3, 4, 5, 6, 7], [0, 1, 2, 3, 4, 5, 6], [0, 1, 2, 3, 4, 5, 6, 7, 8, 9], [0, 1, 2, 3, 4, 5, 6, 7, 8, 9, 10], [0, 1, 2, 3, 4, 5, 6, 7, 8, 9, 10, 11], [0, 1, 2, 3, 4, 5, 6, 7, 8, 9, 10, 11, 12], [0, 1, 2, 3, 4, 5, 6, 7, 8, 9, 10, 11, 12, 13]] h (by kernel_rfl) (by kernel_rfl) (by kernel_rfl) ?_
    refine w_load_row 0 h s row23 rfl rfl (by first | exact idArr_size _ | exact bytesF_size _ _) rfl ?_; intro f h
    refine w_call h fnc26 (fun w9 hE9 => keyOf_any _ w9) rfl rfl ?_; intro f h
    refine w_load_row 1 h s row23 rfl rfl (by first | exact idArr_size _ | exact bytesF_size _ _) rfl ?_; intro f h
    refine w_call h fnc16 (fun w9 hE9 => left_any _ w9 (hH.keep (s.ext.trans hE9)) (hK.keep (s.ext.trans hE9))) rfl rfl ?_; intro f h
    refine w_call h fnc26 (fun w9 hE9 => keyOf_any _ w9) rfl rfl ?_; intro f h
    refine w_pure h (ru_val (.bool false) (ru_eqlW (eqK _ _) (by kernel_rfl) (by decide) (h.ev rfl) (h.ev rfl) (decide (keyOf b = keyOf (madeM leftB (keyOf a)))) (kEq _ _)) (congrArg Value.bool hx)) rfl ?_; intro f h
    refine w_pure h (ru_move (h.ev rfl)) rfl ?_; intro f h
    refine w_on h rfl rfl rfl ?_
    refine w_load_row 1 h s row23 rfl rfl (by first | exact idArr_size _ | exact bytesF_size _ _) rfl ?_; intro f h
    refine w_on h rfl rfl rfl ?_
    refine w_call h fnc26 (fun w9 hE9 => keyOf_any _ w9) rfl rfl ?_; intro f h
    refine w_on h rfl rfl rfl ?_
    refine w_load_row 0 h s row23 rfl rfl (by first | exact idArr_size _ | exact bytesF_size _ _) rfl ?_; intro f h
    refine w_on h rfl rfl rfl ?_
    refine w_call h fnc27 (fun w9 hE9 => right_any _ w9 (hH.keep (s.ext.trans hE9)) (hK.keep (s.ext.trans hE9))) rfl rfl ?_; intro f h
    refine w_on h rfl rfl rfl ?_
    refine w_call h fnc26 (fun w9 hE9 => keyOf_any _ w9) rfl rfl ?_; intro f h
    refine w_on h rfl rfl rfl ?_
    refine w_pure h (ru_eqlW (eqK _ _) (by kernel_rfl) (by decide) (h.ev rfl) (h.ev rfl) (decide (keyOf a = keyOf (madeM rightB (keyOf b)))) (kEq _ _)) rfl ?_; intro f h
    refine w_pure h (ru_pick_f (h.ev rfl) (h.ev rfl)) rfl ?_; intro f h
    refine w_pure h (ru_assign (h.ev rfl)) rfl ?_; intro f h
    refine w_nil s fun w1 s => ?_
    refine s_nil ?_
    refine hK2 _ _ ?_
    refine wpIn_ret ?_
    exact e_tmp rfl h s rfl (by show _ = _; unfold linksM; rw [hx]; rfl)
  · skip
    refine c_walkN 15 [[], [0], [], [0, 1, 2], [0, 1, 2, 3], [0, 1, 2, 3, 4], [0, 1, 2, 3, 4, 5], [0, 1, 2, 3, 4, 5, 6], [0, 1, 2, 3, 4, 5, 6, 7], [0, 1, 2, 3, 4, 5, 6], [0, 1, 2, 3, 4, 5, 6, 7, 8, 9], [0, 1, 2, 3, 4, 5, 6, 7, 8, 9, 10], [0, 1, 2, 3, 4, 5, 6, 7, 8, 9, 10, 11], [0, 1, 2, 3, 4, 5, 6, 7, 8, 9, 10, 11, 12], [0, 1, 2, 3, 4, 5, 6, 7, 8, 9, 10, 11, 12, 13]] h (by kernel_rfl) (by kernel_rfl) (by kernel_rfl) ?_
    refine w_load_row 0 h s row23 rfl rfl (by first | exact idArr_size _ | exact bytesF_size _ _) rfl ?_; intro f h
    refine w_call h fnc26 (fun w9 hE9 => keyOf_any _ w9) rfl rfl ?_; intro f h
    refine w_load_row 1 h s row23 rfl rfl (by first | exact idArr_size _ | exact bytesF_size _ _) rfl ?_; intro f h
    refine w_call h fnc16 (fun w9 hE9 => left_any _ w9 (hH.keep (s.ext.trans hE9)) (hK.keep (s.ext.trans hE9))) rfl rfl ?_; intro f h
    refine w_call h fnc26 (fun w9 hE9 => keyOf_any _ w9) rfl rfl ?_; intro f h
    refine w_pure h (ru_val (.bool true) (ru_eqlW (eqK _ _) (by kernel_rfl) (by decide) (h.ev rfl) (h.ev rfl) (decide (keyOf b = keyOf (madeM leftB (keyOf a)))) (kEq _ _)) (congrArg Value.bool hx)) rfl ?_; intro f h
    refine w_pure h (ru_move (h.ev rfl)) rfl ?_; intro f h
    refine w_off (b := false) h rfl rfl rfl rfl ?_; intro f h
    refine w_off (b := false) h rfl rfl rfl rfl ?_; intro f h
    refine w_off (b := false) h rfl rfl rfl rfl ?_; intro f h
    refine w_off (b := false) h rfl rfl rfl rfl ?_; intro f h
    refine w_off (b := false) h rfl rfl rfl rfl ?_; intro f h
    refine w_off (b := false) h rfl rfl rfl rfl ?_; intro f h
    refine w_pure h (ru_pick_t (h.ev rfl) (h.ev rfl)) rfl ?_; intro f h
    refine w_pure h (ru_assign (h.ev rfl)) rfl ?_; intro f h
    refine w_nil s fun w1 s => ?_
    refine s_nil ?_
    refine hK2 _ _ ?_
    refine wpIn_ret ?_
    exact e_tmp rfl h s rfl (by show _ = _; unfold linksM; rw [hx]; rfl)

theorem made_any (word : ByteArray) (hwd : word.size ≤ 100) (a : Id) (w : World) : Calls Tryd.prog 40 [.string word, idV a].toArray w (Ret w (is (idV (madeM word (keyOf a))))) := by
  have hks := kStr_size (keyOf a)
  have hcs : (word ++ kStr (keyOf a)).size < 2147483648 := by rw [ByteArray.size_append]; omega
  refine c_enter Tryd.func40 rfl Tryd.ntmps40 rfl [(0, .string word), (1, idV a)] (by simp) fun f h => ?_
  have s := St.start w
  refine c_seq fun K1 hK1 => ?_
  refine c_region ?_
  refine s_box (idArr a) h s rfl rfl rfl ?_; intro f w1 b3 h s
  refine s_alloc (idArr 0#256) h s zero23 rfl rfl ?_; intro f w1 b4 h s
  refine s_nil ?_
  refine hK1 _ _ ?_
  refine c_seq fun K2 hK2 => ?_
  refine c_region ?_
  refine s_pure h (ru_move (h.ev rfl)) rfl ?_; intro f h
  refine s_load_row 1 h s row23 rfl rfl (by first | exact idArr_size _ | exact bytesF_size _ _) rfl ?_; intro f h
  refine s_call h s fnc39 (key_any _ _) rfl rfl ?_; intro f w1 v9 hT hE h s; obtain rfl := hT
  refine s_pure h (ru_cat_str (h.ev rfl) (h.ev rfl) (by omega)) rfl ?_; intro f h
  refine s_call h s fnc41 (rsum_any _ hcs _) rfl rfl ?_; intro f w1 v9 hT hE h s; obtain rfl := hT
  refine s_alloc (idArr 0#256) h s zero23 rfl rfl ?_; intro f w1 b5 h s
  refine s_store_row 0 h s row23 rfl rfl rfl (by first | exact idArr_size _ | exact bytesF_size _ _) (by first | exact idArr_size _ | exact bytesF_size _ _) (by first | exact idArr_ones _ | exact bytesF_ones _ _) ?_; intro w1 s
  refine s_nil ?_
  refine hK2 _ _ ?_
  refine c_seq fun K3 hK3 => ?_
  refine c_region ?_
  refine s_pure h (ru_build0 idTy) rfl ?_; intro f h
  refine s_alloc (idArr 0#256) h s zero23 rfl rfl ?_; intro f w1 b6 h s
  refine s_store_row 0 h s row23 rfl rfl rfl (by first | exact idArr_size _ | exact bytesF_size _ _) (by first | exact idArr_size _ | exact bytesF_size _ _) (by first | exact idArr_ones _ | exact bytesF_ones _ _) ?_; intro w1 s
  refine s_nil ?_
  refine hK3 _ _ ?_
  refine c_seq fun K4 hK4 => ?_
  refine c_seq fun K5 hK5 => ?_
  refine c_region ?_
  refine s_pure h (ru_assign (h.ev rfl)) rfl ?_; intro f h
  refine s_nil ?_
  refine hK5 _ _ ?_
  refine wpIn_block ?_
  refine wpIn_loop_ghost (fun nn aa ww => ∃ k : Nat, Sl 24 aa [(0, .string word), (1, idV a), (3, .pointer (some ⟨b3, 0, none⟩)), (4, .pointer (some ⟨b4, 0, none⟩)), (5, .pointer (some ⟨b5, 0, none⟩)), (6, .pointer (some ⟨b6, 0, none⟩)), (7, .int .i64 (k : Int))] ∧ St w [.blk b6 (.cells (bytesF (halfF (sumB (word ++ kStr (keyOf a))) k) 32) 23), .blk b5 (.cells (idArr (sumB (word ++ kStr (keyOf a)))) 23), .blk b4 (.cells (idArr 0#256) 23), .blk b3 (.cells (idArr a) 23)] ww ∧ nn = 16 - k ∧ k ≤ 16) (16 - (0)) ⟨0, h.only ⟨rfl, rfl, rfl, rfl, rfl, rfl, slot_int rfl (by omega), trivial⟩, s.as ⟨cells_eq (halfF_zero _), rfl, rfl, rfl, trivial⟩, rfl, Nat.zero_le _⟩ ?_
  rintro _ f w1 ⟨k, h, s, hnn, hp0⟩
  refine c_seq fun K6 hK6 => ?_
  refine c_seq fun K7 hK7 => ?_
  refine c_region ?_
  refine s_pure h (ru_move (h.ev rfl)) rfl ?_; intro f h
  refine s_pure h (ru_lss (h.ev rfl) (h.ev rfl)) rfl ?_; intro f h
  refine s_nil ?_
  refine hK7 _ _ ?_
  refine c_cond h rfl (fun hc => ?_) (fun hc => ?_)
  · replace hc := of_decide_eq_true hc
    refine wpIn_skip ?_
    refine hK6 _ _ ?_
    refine c_seq fun K8 hK8 => ?_
    refine wpIn_block ?_
    refine c_region ?_
    refine s_pure h (ru_move (h.ev rfl)) rfl ?_; intro f h
    refine s_pure h (ru_move (h.ev rfl)) rfl ?_; intro f h
    refine s_pure h (ru_ix (k) Tryd.underlying23 size5 (h.ev rfl) (h.ev rfl) (by omega) (by omega)) rfl ?_; intro f h
    refine s_load_one 1 h s one5 rfl rfl (idArr_get _ _ (by omega)) rfl ?_; intro f h
    refine s_pure h (ru_ix (k) Tryd.underlying23 size5 (h.ev rfl) (h.ev rfl) (by omega) (by omega)) rfl ?_; intro f h
    refine s_store_one 0 h s one5 rfl rfl rfl (by simp; omega) (rfl) ?_; intro w1 s
    refine s_nil ?_
    refine b_norm ?_
    refine hK8 _ _ ?_
    refine c_region ?_
    refine s_pure h (ru_move (h.ev rfl)) rfl ?_; intro f h
    refine s_pure h (ru_add (h.ev rfl) (h.ev rfl) (by omega)) rfl ?_; intro f h
    refine s_pure h (ru_assign (h.ev rfl)) rfl ?_; intro f h
    refine s_nil ?_
    refine t_norm ?_
    exact ⟨_, by omega, ⟨k + 1, h.only ⟨rfl, rfl, rfl, rfl, rfl, rfl, slot_int rfl (by omega), trivial⟩, St.as s ⟨cells_eq (halfF_next _ _), rfl, rfl, rfl, trivial⟩, rfl, by omega⟩⟩
  · replace hc := of_decide_eq_false hc
    refine wpIn_exit ?_
    refine t_exit ?_
    refine t_exit ?_
    refine b_exit ?_
    refine hK4 _ _ ?_
    refine c_seq fun K9 hK9 => ?_
    refine c_region ?_
    refine s_load_row 0 h s row23 rfl rfl (by first | exact idArr_size _ | exact bytesF_size _ _) rfl ?_; intro f h
    refine s_store_row 2 h s row23 rfl rfl rfl (by first | exact idArr_size _ | exact bytesF_size _ _) (by first | exact idArr_size _ | exact bytesF_size _ _) (by first | exact idArr_ones _ | exact bytesF_ones _ _) ?_; intro w1 s
    refine s_nil ?_
    refine hK9 _ _ ?_
    refine wpIn_ret ?_
    exact e_row 2 rfl h s row23 rfl rfl (by first | exact idArr_size _ | exact bytesF_size _ _) (by show _ = _; rw [show k = 16 from by omega, halfF_end]; rfl)

theorem rlinks_any (a b : Id) (w : World) : Calls Tryd.prog 22 [idV a, idV b].toArray w (Ret w (is (.bool (linksM a b)))) := by
  refine c_enter Tryd.func22 rfl Tryd.ntmps22 rfl [(0, idV a), (1, idV b)] (by simp) fun f h => ?_
  have s := St.start w
  refine c_seq fun K1 hK1 => ?_
  refine c_region ?_
  refine s_box (idArr a) h s rfl rfl rfl ?_; intro f w1 b2 h s
  refine s_box (idArr b) h s rfl rfl rfl ?_; intro f w1 b3 h s
  refine s_pure h (ru_assign (h.ev rfl)) rfl ?_; intro f h
  refine s_nil ?_
  refine hK1 _ _ ?_
  refine c_seq fun K2 hK2 => ?_
  cases hx : (decide (keyOf b = keyOf (madeM leftB (keyOf a))) : Bool)
  · skip
    refine c_walkN 15 [[], [0], [], [0, 1, 2], [0, 1, 2, 3], [0, 1, 2, 3, 4], [0, 1, 2, 3, 4, 5], [0, 1, 2, 3, 4, 5, 6], [0, 1, 2, 3, 4, 5, 6, 7], [0, 1, 2, 3, 4, 5, 6], [0, 1, 2, 3, 4, 5, 6, 7, 8, 9], [0, 1, 2, 3, 4, 5, 6, 7, 8, 9, 10], [0, 1, 2, 3, 4, 5, 6, 7, 8, 9, 10, 11], [0, 1, 2, 3, 4, 5, 6, 7, 8, 9, 10, 11, 12], [0, 1, 2, 3, 4, 5, 6, 7, 8, 9, 10, 11, 12, 13]] h (by kernel_rfl) (by kernel_rfl) (by kernel_rfl) ?_
    refine w_load_row 0 h s row23 rfl rfl (by first | exact idArr_size _ | exact bytesF_size _ _) rfl ?_; intro f h
    refine w_call h fnc39 (fun w9 hE9 => key_any _ w9) rfl rfl ?_; intro f h
    refine w_load_row 1 h s row23 rfl rfl (by first | exact idArr_size _ | exact bytesF_size _ _) rfl ?_; intro f h
    refine w_call h fnc40 (fun w9 hE9 => made_any leftB (by decide) _ w9) rfl rfl ?_; intro f h
    refine w_call h fnc39 (fun w9 hE9 => key_any _ w9) rfl rfl ?_; intro f h
    refine w_pure h (ru_val (.bool false) (ru_eql_str (h.ev rfl) (h.ev rfl)) (congrArg Value.bool ((kSq _ _).trans hx))) rfl ?_; intro f h
    refine w_pure h (ru_move (h.ev rfl)) rfl ?_; intro f h
    refine w_on h rfl rfl rfl ?_
    refine w_load_row 1 h s row23 rfl rfl (by first | exact idArr_size _ | exact bytesF_size _ _) rfl ?_; intro f h
    refine w_on h rfl rfl rfl ?_
    refine w_call h fnc39 (fun w9 hE9 => key_any _ w9) rfl rfl ?_; intro f h
    refine w_on h rfl rfl rfl ?_
    refine w_load_row 0 h s row23 rfl rfl (by first | exact idArr_size _ | exact bytesF_size _ _) rfl ?_; intro f h
    refine w_on h rfl rfl rfl ?_
    refine w_call h fnc40 (fun w9 hE9 => made_any rightB (by decide) _ w9) rfl rfl ?_; intro f h
    refine w_on h rfl rfl rfl ?_
    refine w_call h fnc39 (fun w9 hE9 => key_any _ w9) rfl rfl ?_; intro f h
    refine w_on h rfl rfl rfl ?_
    refine w_pure h (ru_val (.bool (decide (keyOf a = keyOf (madeM rightB (keyOf b))))) (ru_eql_str (h.ev rfl) (h.ev rfl)) (congrArg Value.bool (kSq _ _))) rfl ?_; intro f h
    refine w_pure h (ru_pick_f (h.ev rfl) (h.ev rfl)) rfl ?_; intro f h
    refine w_pure h (ru_assign (h.ev rfl)) rfl ?_; intro f h
    refine w_nil s fun w1 s => ?_
    refine s_nil ?_
    refine hK2 _ _ ?_
    refine wpIn_ret ?_
    exact e_tmp rfl h s rfl (by show _ = _; unfold linksM; rw [hx]; rfl)
  · skip
    refine c_walkN 15 [[], [0], [], [0, 1, 2], [0, 1, 2, 3], [0, 1, 2, 3, 4], [0, 1, 2, 3, 4, 5], [0, 1, 2, 3, 4, 5, 6], [0, 1, 2, 3, 4, 5, 6, 7], [0, 1, 2, 3, 4, 5, 6], [0, 1, 2, 3, 4, 5, 6, 7, 8, 9], [0, 1, 2, 3, 4, 5, 6, 7, 8, 9, 10], [0, 1, 2, 3, 4, 5, 6, 7, 8, 9, 10, 11], [0, 1, 2, 3, 4, 5, 6, 7, 8, 9, 10, 11, 12], [0, 1, 2, 3, 4, 5, 6, 7, 8, 9, 10, 11, 12, 13]] h (by kernel_rfl) (by kernel_rfl) (by kernel_rfl) ?_
    refine w_load_row 0 h s row23 rfl rfl (by first | exact idArr_size _ | exact bytesF_size _ _) rfl ?_; intro f h
    refine w_call h fnc39 (fun w9 hE9 => key_any _ w9) rfl rfl ?_; intro f h
    refine w_load_row 1 h s row23 rfl rfl (by first | exact idArr_size _ | exact bytesF_size _ _) rfl ?_; intro f h
    refine w_call h fnc40 (fun w9 hE9 => made_any leftB (by decide) _ w9) rfl rfl ?_; intro f h
    refine w_call h fnc39 (fun w9 hE9 => key_any _ w9) rfl rfl ?_; intro f h
    refine w_pure h (ru_val (.bool true) (ru_eql_str (h.ev rfl) (h.ev rfl)) (congrArg Value.bool ((kSq _ _).trans hx))) rfl ?_; intro f h
    refine w_pure h (ru_move (h.ev rfl)) rfl ?_; intro f h
    refine w_off (b := false) h rfl rfl rfl rfl ?_; intro f h
    refine w_off (b := false) h rfl rfl rfl rfl ?_; intro f h
    refine w_off (b := false) h rfl rfl rfl rfl ?_; intro f h
    refine w_off (b := false) h rfl rfl rfl rfl ?_; intro f h
    refine w_off (b := false) h rfl rfl rfl rfl ?_; intro f h
    refine w_off (b := false) h rfl rfl rfl rfl ?_; intro f h
    refine w_pure h (ru_pick_t (h.ev rfl) (h.ev rfl)) rfl ?_; intro f h
    refine w_pure h (ru_assign (h.ev rfl)) rfl ?_; intro f h
    refine w_nil s fun w1 s => ?_
    refine s_nil ?_
    refine hK2 _ _ ?_
    refine wpIn_ret ?_
    exact e_tmp rfl h s rfl (by show _ = _; unfold linksM; rw [hx]; rfl)

theorem nonce_ok (sx : ByteArray) (hsx : sx.size ≤ 64) (id : Id) (n : Nat) (hn : n < 16) (w : World) (hH : Tab w 0 (wF hTab 8)) (hK : Tab w 1 (wF kTab 64)) : Calls Tryd.prog 15 [.string sx, idV id, .int .i64 (n : Int)].toArray w (Ret w (is (.tuple #[.string (nonceM sx id n), .int .i64 (0)]))) := by
  have hnt := nonceT_size sx id n
  refine c_enter Tryd.func15 rfl Tryd.ntmps15 rfl [(0, .string sx), (1, idV id), (2, .int .i64 (n : Int))] (by simp) fun f h => ?_
  have s := St.start w
  refine c_seq fun K1 hK1 => ?_
  refine c_region ?_
  refine s_box (idArr id) h s rfl rfl rfl ?_; intro f w1 b4 h s
  refine s_pure h (ru_assign (h.ev rfl)) rfl ?_; intro f h
  refine s_pure h (ru_assign (h.ev rfl)) rfl ?_; intro f h
  refine s_nil ?_
  refine hK1 _ _ ?_
  refine c_seq fun K2 hK2 => ?_
  refine c_seq fun K3 hK3 => ?_
  refine c_region ?_
  refine s_pure h (ru_move (h.ev rfl)) rfl ?_; intro f h
  refine s_pure h (ru_val (.bool false) (ru_lss (h.ev rfl) (h.ev rfl)) (congrArg Value.bool (decide_eq_false (by omega)))) rfl ?_; intro f h
  refine s_pure h (ru_move (h.ev rfl)) rfl ?_; intro f h
  refine s_on h rfl rfl rfl ?_
  refine s_pure h (ru_move (h.ev rfl)) rfl ?_; intro f h
  refine s_on h rfl rfl rfl ?_
  refine s_pure h (ru_val (.bool false) (ru_geq (h.ev rfl) (h.ev rfl)) (congrArg Value.bool (decide_eq_false (by omega)))) rfl ?_; intro f h
  refine s_pure h (ru_pick_f (h.ev rfl) (h.ev rfl)) rfl ?_; intro f h
  refine s_nil ?_
  refine hK3 _ _ ?_
  refine wpIn_cond_false (h.ev rfl) ?_
  refine wpIn_skip ?_
  refine hK2 _ _ ?_
  refine c_seq fun K4 hK4 => ?_
  refine c_seq fun K5 hK5 => ?_
  refine c_region ?_
  refine s_pure h (ru_move (h.ev rfl)) rfl ?_; intro f h
  refine s_pure h (ru_len_str Tryd.underlying9 (h.ev rfl)) rfl ?_; intro f h
  refine s_pure h (ru_val (.bool false) (ru_gtr (h.ev rfl) (h.ev rfl)) (congrArg Value.bool (decide_eq_false (by omega)))) rfl ?_; intro f h
  refine s_nil ?_
  refine hK5 _ _ ?_
  refine wpIn_cond_false (h.ev rfl) ?_
  refine wpIn_skip ?_
  refine hK4 _ _ ?_
  refine c_seq fun K6 hK6 => ?_
  have hbs := s.ext.le
  refine' c_reg2 10 [0, 1, 3, 4] [9] [[], [], [1], [], [3], [3, 4], [3, 4, 5], [0, 1, 2, 3, 4, 5, 6], [0, 1, 2, 3, 4, 5, 6, 7], [], [0, 1, 2, 3, 4, 5, 6, 7, 8, 9]] (is _ :: is _ :: is _ :: is _ :: is _ :: (fun v w9 => RdZ w9 v 1 1 ([n].map fun (m : Nat) => Value.int .u8 (m : Int))) :: is _ :: (fun v w9 => RdZ w9 v 1 4 ([Value.string nonceB, Value.string sx, Value.string (idStr id), Value.string (strF (fun _ => n) 1)])) :: is _ :: (PtrT (idArr 0#256) 23) :: is undef :: []) (fun _ => True) h s (by kernel_rfl) (by kernel_rfl) (by kernel_rfl) (by kernel_rfl) rfl (fun _ _ h _ => h) (trivial) ⟨⟨_, rfl⟩, ⟨_, rfl⟩, ⟨_, rfl⟩, ⟨_, rfl⟩, trivial⟩ ⟨is_mono _, is_mono _, is_mono _, is_mono _, is_mono _, RdZ.mono, is_mono _, RdZ.mono, is_mono _, PtrT.mono _ _, is_mono _, trivial⟩ (And.intro ?_ (And.intro ?_ (And.intro ?_ (And.intro ?_ (And.intro ?_ (And.intro ?_ (And.intro ?_ (And.intro ?_ (And.intro ?_ (And.intro ?_ (And.intro ?_ (trivial)))))))))))) ?_
  rotate_left 7
  · refine obH_in 18 rfl (by decide) ?_
    intro f9 w2 hE hs hl
    have e0 : f9.tmps.getD 0 undef = _ := sx_old hl 0 (by kernel_rfl) (by kernel_rfl) (h.holds 0 _ rfl)
    have h := fin_slot [(0, _)] hs rfl (holds_lk ⟨e0, trivial⟩)
    refine s_pure h (ru_move (h.ev rfl)) rfl ?_; intro f h
    refine s_nil ?_
    have e9 := h.holds 18 _ rfl
    refine ⟨?_, rfl⟩
    refine e9.trans ?_
    exact rfl
  · refine obH_in 19 rfl (by decide) ?_
    intro f9 w2 hE hs hl
    have e4 : f9.tmps.getD 4 undef = _ := sx_old hl 4 (by kernel_rfl) (by kernel_rfl) (h.holds 4 _ rfl)
    have h := fin_slot [(4, _)] hs rfl (holds_lk ⟨e4, trivial⟩)
    refine s_pure h (ru_slice_arr Tryd.underlying23 size5 (h.ev rfl)) rfl ?_; intro f h
    refine s_nil ?_
    have e9 := h.holds 19 _ rfl
    refine ⟨?_, rfl⟩
    refine e9.trans ?_
    exact rfl
  · refine obF_in 20 rfl (by decide) (by decide) ?_
    intro f9 w2 hE hs hd9 hl
    have e19 : f9.tmps.getD 19 undef = _ := sx_get hl 19 1 (by kernel_rfl) (by kernel_rfl)
    have h := fin_slot [(19, _)] hs hd9 (holds_lk ⟨e19, trivial⟩)
    have s := s.more hE
    have z := St.start w2
    refine s_str 0 h s Tryd.underlying61 Tryd.underlying5 Tryd.underlying9 rfl rfl rfl ?_; intro f h
    refine s_nil ?_
    have e9 := h.holds 20 _ rfl
    refine ⟨?_, Ext.refl _, fun h9 => absurd h9 (by decide)⟩
    refine e9.trans ?_
    exact rfl
  · refine obH_in 21 rfl (by decide) ?_
    intro f9 w2 hE hs hl
    have e2 : f9.tmps.getD 2 undef = _ := sx_old hl 2 (by kernel_rfl) (by kernel_rfl) (h.holds 2 _ rfl)
    have h := fin_slot [(2, _)] hs rfl (holds_lk ⟨e2, trivial⟩)
    refine s_pure h (ru_move (h.ev rfl)) rfl ?_; intro f h
    refine s_nil ?_
    have e9 := h.holds 21 _ rfl
    refine ⟨?_, rfl⟩
    refine e9.trans ?_
    exact rfl
  · refine obH_in 22 rfl (by decide) ?_
    intro f9 w2 hE hs hl
    have e21 : f9.tmps.getD 21 undef = _ := sx_get hl 21 3 (by kernel_rfl) (by kernel_rfl)
    have h := fin_slot [(21, _)] hs rfl (holds_lk ⟨e21, trivial⟩)
    refine s_pure h (ru_val (.int .u8 (n : Int)) (ru_conv_u8 Tryd.underlying3 Tryd.underlying5 (h.ev rfl)) (congrArg (Value.int .u8) (by omega))) rfl ?_; intro f h
    refine s_nil ?_
    have e9 := h.holds 22 _ rfl
    refine ⟨?_, rfl⟩
    refine e9.trans ?_
    exact rfl
  · refine obF_in 23 rfl (by decide) (by decide) ?_
    intro f9 w2 hE hs hd9 hl
    have e22 : f9.tmps.getD 22 undef = _ := sx_get hl 22 4 (by kernel_rfl) (by kernel_rfl)
    have h := fin_slot [(22, _)] hs hd9 (holds_lk ⟨e22, trivial⟩)
    have s := s.more hE
    have z := St.start w2
    refine s_bslice (vs := [.int .u8 (n : Int)]) [.tmp 22] h z Tryd.underlying61 elm5 rfl rfl (by simp [Value.cells]) rfl rfl rfl ?_; intro f w1 v9 h z
    refine s_nil ?_
    exact kf_rd (h.holds 23 _ rfl) z _ (rfl)
  · refine obF_in 24 rfl (by decide) (by decide) ?_
    intro f9 w2 hE hs hd9 hl
    obtain ⟨u23, hu23⟩ : ∃ v, f9.tmps.getD 23 undef = v := ⟨_, rfl⟩
    have e23 : (fun v w9 => RdZ w9 v 1 1 ([n].map fun (m : Nat) => Value.int .u8 (m : Int))) u23 w2 := by rw [← hu23]; exact sx_get hl 23 5 (by kernel_rfl) (by kernel_rfl)
    have h := fin_slot [(23, u23)] hs hd9 (holds_lk ⟨hu23, trivial⟩)
    have s := s.more hE
    have z := St.start w2
    refine s_str_rd (ns := [n]) (e23) h Tryd.underlying61 Tryd.underlying5 Tryd.underlying9 rfl rfl ?_; intro f h
    refine s_nil ?_
    have e9 := h.holds 24 _ rfl
    refine ⟨?_, Ext.refl _, fun h9 => absurd h9 (by decide)⟩
    refine e9.trans ?_
    exact rfl
  · refine obF_in 25 rfl (by decide) (by decide) ?_
    intro f9 w2 hE hs hd9 hl
    have e18 : f9.tmps.getD 18 undef = _ := sx_get hl 18 0 (by kernel_rfl) (by kernel_rfl)
    have e20 : f9.tmps.getD 20 undef = _ := sx_get hl 20 2 (by kernel_rfl) (by kernel_rfl)
    have e24 : f9.tmps.getD 24 undef = _ := sx_get hl 24 6 (by kernel_rfl) (by kernel_rfl)
    have h := fin_slot [(18, _), (20, _), (24, _)] hs hd9 (holds_lk ⟨e18, e20, e24, trivial⟩)
    have s := s.more hE
    have z := St.start w2
    refine s_bslice (vs := [.string nonceB, .string sx, .string (idStr id), .string (strF (fun _ => n) 1)]) [.const (.string ⟨#[110, 111, 110, 99, 101]⟩), .tmp 18, .tmp 20, .tmp 24] h z Tryd.underlying80 elm9 rfl rfl (by simp [Value.cells]) rfl rfl rfl ?_; intro f w1 v9 h z
    refine s_nil ?_
    exact kf_rd (h.holds 25 _ rfl) z _ (rfl)
  · refine obF_in 26 rfl (by decide) (by decide) ?_
    intro f9 w2 hE hs hd9 hl
    obtain ⟨u25, hu25⟩ : ∃ v, f9.tmps.getD 25 undef = v := ⟨_, rfl⟩
    have e25 : (fun v w9 => RdZ w9 v 1 4 ([Value.string nonceB, Value.string sx, Value.string (idStr id), Value.string (strF (fun _ => n) 1)])) u25 w2 := by rw [← hu25]; exact sx_get hl 25 7 (by kernel_rfl) (by kernel_rfl)
    have h := fin_slot [(25, u25)] hs hd9 (holds_lk ⟨hu25, trivial⟩)
    have s := s.more hE
    have z := St.start w2
    refine s_call h s fnc24 (sum_rd (nonceT sx id n) [nonceB, sx, idStr id, strF (fun _ => n) 1] (cat4 _ _ _ _) (by omega) (by simp) _ _ (RdZ.toRd e25) (hH.keep s.ext) (hK.keep s.ext)) rfl rfl ?_; intro f w1 v9 hT hE h s; obtain rfl := hT
    refine s_nil ?_
    have e9 := h.holds 26 _ rfl
    refine ⟨?_, hE, fun h9 => absurd h9 (by decide)⟩
    refine e9.trans ?_
    exact rfl
  · refine obF_in 8 rfl (by decide) (by decide) ?_
    intro f9 w2 hE hs hd9 hl
    have h := fin_slot [] hs hd9 (holds_lk trivial)
    have s := s.more hE
    have z := St.start w2
    refine s_alloc (idArr 0#256) h z zero23 rfl rfl ?_; intro f w1 b9 h z
    refine s_nil ?_
    exact kf_ptr (h.holds 8 _ rfl) z
  · exact obT_in (by decide) (by decide)
  · intro f9 w2 hE hs hd9 hWp hT hR hFr hDj
    obtain ⟨u23, hu23⟩ : ∃ v, f9.tmps.getD 23 undef = v := ⟨_, rfl⟩
    have e23 : (fun v w9 => RdZ w9 v 1 1 ([n].map fun (m : Nat) => Value.int .u8 (m : Int))) u23 w2 := by rw [← hu23]; exact hT 5 23 (by decide) rfl
    obtain ⟨u25, hu25⟩ : ∃ v, f9.tmps.getD 25 undef = v := ⟨_, rfl⟩
    have e25 : (fun v w9 => RdZ w9 v 1 4 ([Value.string nonceB, Value.string sx, Value.string (idStr id), Value.string (strF (fun _ => n) 1)])) u25 w2 := by rw [← hu25]; exact hT 7 25 (by decide) rfl
    obtain ⟨u8, hu8⟩ : ∃ v, f9.tmps.getD 8 undef = v := ⟨_, rfl⟩
    have e8 : (PtrT (idArr 0#256) 23) u8 w2 := by rw [← hu8]; exact hT 9 8 (by decide) rfl
    have k8 := hFr 9 8 (by decide) rfl; rw [hu8] at k8
    replace h := sl_new (ops := _) [(18, _), (19, _), (20, _), (21, _), (22, _), (23, u23), (24, _), (25, u25), (26, _), (8, u8)] h hs hd9 hR ⟨hT 0 18 (by decide) rfl, hT 1 19 (by decide) rfl, hT 2 20 (by decide) rfl, hT 3 21 (by decide) rfl, hT 4 22 (by decide) rfl, hu23, hT 6 24 (by decide) rfl, hu25, hT 8 26 (by decide) rfl, hu8, trivial⟩ (by kernel_rfl)
    obtain ⟨b8, hb8, s⟩ := ptr_join s hE e8 k8; subst hb8
    clear hT hR hFr hDj
    refine LstW.of ?_
    refine s_store_row 0 h s row23 rfl rfl rfl (by first | exact idArr_size _ | exact bytesF_size _ _) (by first | exact idArr_size _ | exact bytesF_size _ _) (by first | exact idArr_ones _ | exact bytesF_ones _ _) ?_; intro w1 s
    refine s_nil ?_
    refine hK6 _ _ ?_
    refine c_seq fun K7 hK7 => ?_
    refine c_region ?_
    refine s_pure h (ru_slice_arr_hi 16 Tryd.underlying23 size5 (h.ev rfl) (h.ev rfl) rfl (by decide)) rfl ?_; intro f h
    refine s_str_at (Has.subL (o := 0) (Has.of_own s 0 rfl) 0 16 (D := kArr (keyOf (sumB (nonceT sx id n)))) (idArr_key _)) h Tryd.underlying61 Tryd.underlying5 Tryd.underlying9 rfl rfl ?_; intro f h
    refine s_pure h (ru_assign (h.ev rfl)) rfl ?_; intro f h
    refine s_pure h (ru_assign (h.ev rfl)) rfl ?_; intro f h
    refine s_nil ?_
    refine hK7 _ _ ?_
    refine wpIn_ret ?_
    exact e_tmps rfl h s rfl rfl (rfl)

theorem nonce_bad (sx : ByteArray) (id : Id) (k : Int) (hk : k < 0 ∨ 16 ≤ k) (w : World) : Calls Tryd.prog 15 [.string sx, idV id, .int .i64 k].toArray w (Ret w (is (.tuple #[.string (⟨#[]⟩), .int .i64 (1)]))) := by
  refine c_enter Tryd.func15 rfl Tryd.ntmps15 rfl [(0, .string sx), (1, idV id), (2, .int .i64 k)] (by simp) fun f h => ?_
  have s := St.start w
  refine c_seq fun K1 hK1 => ?_
  refine c_region ?_
  refine s_box (idArr id) h s rfl rfl rfl ?_; intro f w1 b4 h s
  refine s_pure h (ru_assign (h.ev rfl)) rfl ?_; intro f h
  refine s_pure h (ru_assign (h.ev rfl)) rfl ?_; intro f h
  refine s_nil ?_
  refine hK1 _ _ ?_
  refine c_seq fun K2 hK2 => ?_
  refine c_seq fun K3 hK3 => ?_
  cases hx : (decide (k < 0) : Bool)
  · skip
    refine c_region ?_
    refine s_pure h (ru_move (h.ev rfl)) rfl ?_; intro f h
    refine s_pure h (ru_val (.bool false) (ru_lss (h.ev rfl) (h.ev rfl)) (congrArg Value.bool hx)) rfl ?_; intro f h
    refine s_pure h (ru_move (h.ev rfl)) rfl ?_; intro f h
    refine s_on h rfl rfl rfl ?_
    refine s_pure h (ru_move (h.ev rfl)) rfl ?_; intro f h
    refine s_on h rfl rfl rfl ?_
    refine s_pure h (ru_val (.bool true) (ru_geq (h.ev rfl) (h.ev rfl)) (congrArg Value.bool (decide_eq_true (by have := of_decide_eq_false hx; omega)))) rfl ?_; intro f h
    refine s_pure h (ru_pick_f (h.ev rfl) (h.ev rfl)) rfl ?_; intro f h
    refine s_nil ?_
    refine hK3 _ _ ?_
    refine wpIn_cond_true (h.ev rfl) ?_
    refine c_seq fun K4 hK4 => ?_
    refine c_region ?_
    refine s_pure h (ru_assign (h.ev rfl)) rfl ?_; intro f h
    refine s_pure h (ru_assign (h.ev rfl)) rfl ?_; intro f h
    refine s_nil ?_
    refine hK4 _ _ ?_
    refine wpIn_ret ?_
    refine t_ret ?_
    exact e_tmps rfl h s rfl rfl (rfl)
  · skip
    refine c_region ?_
    refine s_pure h (ru_move (h.ev rfl)) rfl ?_; intro f h
    refine s_pure h (ru_val (.bool true) (ru_lss (h.ev rfl) (h.ev rfl)) (congrArg Value.bool hx)) rfl ?_; intro f h
    refine s_pure h (ru_move (h.ev rfl)) rfl ?_; intro f h
    refine s_off (b := false) h rfl rfl rfl rfl ?_; intro f h
    refine s_off (b := false) h rfl rfl rfl rfl ?_; intro f h
    refine s_pure h (ru_pick_t (h.ev rfl) (h.ev rfl)) rfl ?_; intro f h
    refine s_nil ?_
    refine hK3 _ _ ?_
    refine wpIn_cond_true (h.ev rfl) ?_
    refine c_seq fun K5 hK5 => ?_
    refine c_region ?_
    refine s_pure h (ru_assign (h.ev rfl)) rfl ?_; intro f h
    refine s_pure h (ru_assign (h.ev rfl)) rfl ?_; intro f h
    refine s_nil ?_
    refine hK5 _ _ ?_
    refine wpIn_ret ?_
    refine t_ret ?_
    exact e_tmps rfl h s rfl rfl (rfl)

theorem nonce_long (sx : ByteArray) (hsx : 64 < sx.size) (id : Id) (n : Nat) (hn : n < 16) (w : World) : Calls Tryd.prog 15 [.string sx, idV id, .int .i64 (n : Int)].toArray w (Ret w (is (.tuple #[.string (⟨#[]⟩), .int .i64 (2)]))) := by
  refine c_enter Tryd.func15 rfl Tryd.ntmps15 rfl [(0, .string sx), (1, idV id), (2, .int .i64 (n : Int))] (by simp) fun f h => ?_
  have s := St.start w
  refine c_seq fun K1 hK1 => ?_
  refine c_region ?_
  refine s_box (idArr id) h s rfl rfl rfl ?_; intro f w1 b4 h s
  refine s_pure h (ru_assign (h.ev rfl)) rfl ?_; intro f h
  refine s_pure h (ru_assign (h.ev rfl)) rfl ?_; intro f h
  refine s_nil ?_
  refine hK1 _ _ ?_
  refine c_seq fun K2 hK2 => ?_
  refine c_seq fun K3 hK3 => ?_
  refine c_region ?_
  refine s_pure h (ru_move (h.ev rfl)) rfl ?_; intro f h
  refine s_pure h (ru_val (.bool false) (ru_lss (h.ev rfl) (h.ev rfl)) (congrArg Value.bool (decide_eq_false (by omega)))) rfl ?_; intro f h
  refine s_pure h (ru_move (h.ev rfl)) rfl ?_; intro f h
  refine s_on h rfl rfl rfl ?_
  refine s_pure h (ru_move (h.ev rfl)) rfl ?_; intro f h
  refine s_on h rfl rfl rfl ?_
  refine s_pure h (ru_val (.bool false) (ru_geq (h.ev rfl) (h.ev rfl)) (congrArg Value.bool (decide_eq_false (by omega)))) rfl ?_; intro f h
  refine s_pure h (ru_pick_f (h.ev rfl) (h.ev rfl)) rfl ?_; intro f h
  refine s_nil ?_
  refine hK3 _ _ ?_
  refine wpIn_cond_false (h.ev rfl) ?_
  refine wpIn_skip ?_
  refine hK2 _ _ ?_
  refine c_seq fun K4 hK4 => ?_
  refine c_seq fun K5 hK5 => ?_
  refine c_region ?_
  refine s_pure h (ru_move (h.ev rfl)) rfl ?_; intro f h
  refine s_pure h (ru_len_str Tryd.underlying9 (h.ev rfl)) rfl ?_; intro f h
  refine s_pure h (ru_val (.bool true) (ru_gtr (h.ev rfl) (h.ev rfl)) (congrArg Value.bool (decide_eq_true (by omega)))) rfl ?_; intro f h
  refine s_nil ?_
  refine hK5 _ _ ?_
  refine wpIn_cond_true (h.ev rfl) ?_
  refine c_seq fun K6 hK6 => ?_
  refine c_region ?_
  refine s_pure h (ru_assign (h.ev rfl)) rfl ?_; intro f h
  refine s_pure h (ru_assign (h.ev rfl)) rfl ?_; intro f h
  refine s_nil ?_
  refine hK6 _ _ ?_
  refine wpIn_ret ?_
  refine t_ret ?_
  exact e_tmps rfl h s rfl rfl (rfl)

theorem rnonce_ok (sx : ByteArray) (hsx : sx.size ≤ 64) (id : Id) (n : Nat) (hn : n < 16) (w : World) : Calls Tryd.prog 23 [.string sx, idV id, .int .i64 (n : Int)].toArray w (Ret w (is (.string (nonceM sx id n)))) := by
  have hnt := nonceT_size sx id n
  refine c_enter Tryd.func23 rfl Tryd.ntmps23 rfl [(0, .string sx), (1, idV id), (2, .int .i64 (n : Int))] (by simp) fun f h => ?_
  have s := St.start w
  refine c_seq fun K1 hK1 => ?_
  refine c_region ?_
  refine s_box (idArr id) h s rfl rfl rfl ?_; intro f w1 b4 h s
  refine s_pure h (ru_assign (h.ev rfl)) rfl ?_; intro f h
  refine s_nil ?_
  refine hK1 _ _ ?_
  refine c_seq fun K2 hK2 => ?_
  have hbs := s.ext.le
  refine' c_reg2 12 [0, 1, 2, 5, 6] [11] [[], [0], [], [2], [0, 1, 2, 3], [], [5], [5, 6], [5, 6, 7], [0, 1, 2, 3, 4, 5, 6, 7, 8], [0, 1, 2, 3, 4, 5, 6, 7, 8, 9], [], [0, 1, 2, 3, 4, 5, 6, 7, 8, 9, 10, 11]] (is _ :: is _ :: is _ :: is _ :: is _ :: is _ :: is _ :: (fun v w9 => RdZ w9 v 1 1 ([n].map fun (m : Nat) => Value.int .u8 (m : Int))) :: is _ :: is _ :: is _ :: (PtrT (idArr 0#256) 23) :: is undef :: []) (fun _ => True) h s (by kernel_rfl) (by kernel_rfl) (by kernel_rfl) (by kernel_rfl) rfl (fun _ _ h _ => h) (trivial) ⟨⟨_, rfl⟩, ⟨_, rfl⟩, ⟨_, rfl⟩, ⟨_, rfl⟩, ⟨_, rfl⟩, trivial⟩ ⟨is_mono _, is_mono _, is_mono _, is_mono _, is_mono _, is_mono _, is_mono _, RdZ.mono, is_mono _, is_mono _, is_mono _, PtrT.mono _ _, is_mono _, trivial⟩ (And.intro ?_ (And.intro ?_ (And.intro ?_ (And.intro ?_ (And.intro ?_ (And.intro ?_ (And.intro ?_ (And.intro ?_ (And.intro ?_ (And.intro ?_ (And.intro ?_ (And.intro ?_ (And.intro ?_ (trivial)))))))))))))) ?_
  rotate_left 10
  · refine obH_in 8 rfl (by decide) ?_
    intro f9 w2 hE hs hl
    have e0 : f9.tmps.getD 0 undef = _ := sx_old hl 0 (by kernel_rfl) (by kernel_rfl) (h.holds 0 _ rfl)
    have h := fin_slot [(0, _)] hs rfl (holds_lk ⟨e0, trivial⟩)
    refine s_pure h (ru_move (h.ev rfl)) rfl ?_; intro f h
    refine s_nil ?_
    have e9 := h.holds 8 _ rfl
    refine ⟨?_, rfl⟩
    refine e9.trans ?_
    exact rfl
  · refine obH_in 9 rfl (by decide) ?_
    intro f9 w2 hE hs hl
    have e8 : f9.tmps.getD 8 undef = _ := sx_get hl 8 0 (by kernel_rfl) (by kernel_rfl)
    have h := fin_slot [(8, _)] hs rfl (holds_lk ⟨e8, trivial⟩)
    refine s_pure h (ru_cat_str (h.ev rfl) (h.ev rfl) (by show 5 + _ ≤ _; omega)) rfl ?_; intro f h
    refine s_nil ?_
    have e9 := h.holds 9 _ rfl
    refine ⟨?_, rfl⟩
    refine e9.trans ?_
    exact rfl
  · refine obH_in 10 rfl (by decide) ?_
    intro f9 w2 hE hs hl
    have e4 : f9.tmps.getD 4 undef = _ := sx_old hl 4 (by kernel_rfl) (by kernel_rfl) (h.holds 4 _ rfl)
    have h := fin_slot [(4, _)] hs rfl (holds_lk ⟨e4, trivial⟩)
    refine s_pure h (ru_slice_arr Tryd.underlying23 size5 (h.ev rfl)) rfl ?_; intro f h
    refine s_nil ?_
    have e9 := h.holds 10 _ rfl
    refine ⟨?_, rfl⟩
    refine e9.trans ?_
    exact rfl
  · refine obF_in 11 rfl (by decide) (by decide) ?_
    intro f9 w2 hE hs hd9 hl
    have e10 : f9.tmps.getD 10 undef = _ := sx_get hl 10 2 (by kernel_rfl) (by kernel_rfl)
    have h := fin_slot [(10, _)] hs hd9 (holds_lk ⟨e10, trivial⟩)
    have s := s.more hE
    have z := St.start w2
    refine s_str 0 h s Tryd.underlying61 Tryd.underlying5 Tryd.underlying9 rfl rfl rfl ?_; intro f h
    refine s_nil ?_
    have e9 := h.holds 11 _ rfl
    refine ⟨?_, Ext.refl _, fun h9 => absurd h9 (by decide)⟩
    refine e9.trans ?_
    exact rfl
  · refine obF_in 12 rfl (by decide) (by decide) ?_
    intro f9 w2 hE hs hd9 hl
    have e9 : f9.tmps.getD 9 undef = _ := sx_get hl 9 1 (by kernel_rfl) (by kernel_rfl)
    have e11 : f9.tmps.getD 11 undef = _ := sx_get hl 11 3 (by kernel_rfl) (by kernel_rfl)
    have h := fin_slot [(9, _), (11, _)] hs hd9 (holds_lk ⟨e9, e11, trivial⟩)
    have s := s.more hE
    have z := St.start w2
    refine s_pure h (ru_cat_str (h.ev rfl) (h.ev rfl) (by rw [ByteArray.size_append, strF_size]; show 5 + _ + _ ≤ _; omega)) rfl ?_; intro f h
    refine s_nil ?_
    have e9 := h.holds 12 _ rfl
    refine ⟨?_, Ext.refl _, fun h9 => absurd h9 (by decide)⟩
    refine e9.trans ?_
    exact rfl
  · refine obH_in 13 rfl (by decide) ?_
    intro f9 w2 hE hs hl
    have e2 : f9.tmps.getD 2 undef = _ := sx_old hl 2 (by kernel_rfl) (by kernel_rfl) (h.holds 2 _ rfl)
    have h := fin_slot [(2, _)] hs rfl (holds_lk ⟨e2, trivial⟩)
    refine s_pure h (ru_move (h.ev rfl)) rfl ?_; intro f h
    refine s_nil ?_
    have e9 := h.holds 13 _ rfl
    refine ⟨?_, rfl⟩
    refine e9.trans ?_
    exact rfl
  · refine obH_in 14 rfl (by decide) ?_
    intro f9 w2 hE hs hl
    have e13 : f9.tmps.getD 13 undef = _ := sx_get hl 13 5 (by kernel_rfl) (by kernel_rfl)
    have h := fin_slot [(13, _)] hs rfl (holds_lk ⟨e13, trivial⟩)
    refine s_pure h (ru_val (.int .u8 (n : Int)) (ru_conv_u8 Tryd.underlying3 Tryd.underlying5 (h.ev rfl)) (congrArg (Value.int .u8) (by omega))) rfl ?_; intro f h
    refine s_nil ?_
    have e9 := h.holds 14 _ rfl
    refine ⟨?_, rfl⟩
    refine e9.trans ?_
    exact rfl
  · refine obF_in 15 rfl (by decide) (by decide) ?_
    intro f9 w2 hE hs hd9 hl
    have e14 : f9.tmps.getD 14 undef = _ := sx_get hl 14 6 (by kernel_rfl) (by kernel_rfl)
    have h := fin_slot [(14, _)] hs hd9 (holds_lk ⟨e14, trivial⟩)
    have s := s.more hE
    have z := St.start w2
    refine s_bslice (vs := [.int .u8 (n : Int)]) [.tmp 14] h z Tryd.underlying61 elm5 rfl rfl (by simp [Value.cells]) rfl rfl rfl ?_; intro f w1 v9 h z
    refine s_nil ?_
    exact kf_rd (h.holds 15 _ rfl) z _ (rfl)
  · refine obF_in 16 rfl (by decide) (by decide) ?_
    intro f9 w2 hE hs hd9 hl
    obtain ⟨u15, hu15⟩ : ∃ v, f9.tmps.getD 15 undef = v := ⟨_, rfl⟩
    have e15 : (fun v w9 => RdZ w9 v 1 1 ([n].map fun (m : Nat) => Value.int .u8 (m : Int))) u15 w2 := by rw [← hu15]; exact sx_get hl 15 7 (by kernel_rfl) (by kernel_rfl)
    have h := fin_slot [(15, u15)] hs hd9 (holds_lk ⟨hu15, trivial⟩)
    have s := s.more hE
    have z := St.start w2
    refine s_str_rd (ns := [n]) (e15) h Tryd.underlying61 Tryd.underlying5 Tryd.underlying9 rfl rfl ?_; intro f h
    refine s_nil ?_
    have e9 := h.holds 16 _ rfl
    refine ⟨?_, Ext.refl _, fun h9 => absurd h9 (by decide)⟩
    refine e9.trans ?_
    exact rfl
  · refine obF_in 17 rfl (by decide) (by decide) ?_
    intro f9 w2 hE hs hd9 hl
    have e12 : f9.tmps.getD 12 undef = _ := sx_get hl 12 4 (by kernel_rfl) (by kernel_rfl)
    have e16 : f9.tmps.getD 16 undef = _ := sx_get hl 16 8 (by kernel_rfl) (by kernel_rfl)
    have h := fin_slot [(12, _), (16, _)] hs hd9 (holds_lk ⟨e12, e16, trivial⟩)
    have s := s.more hE
    have z := St.start w2
    refine s_pure h (ru_cat_str (h.ev rfl) (h.ev rfl) (by rw [ByteArray.size_append, ByteArray.size_append, strF_size]; show 5 + _ + _ + 1 ≤ _; omega)) rfl ?_; intro f h
    refine s_nil ?_
    have e9 := h.holds 17 _ rfl
    refine ⟨?_, Ext.refl _, fun h9 => absurd h9 (by decide)⟩
    refine e9.trans ?_
    exact rfl
  · refine obF_in 18 rfl (by decide) (by decide) ?_
    intro f9 w2 hE hs hd9 hl
    have e17 : f9.tmps.getD 17 undef = _ := sx_get hl 17 9 (by kernel_rfl) (by kernel_rfl)
    have h := fin_slot [(17, _)] hs hd9 (holds_lk ⟨e17, trivial⟩)
    have s := s.more hE
    have z := St.start w2
    refine s_call h s fnc41 (rsum_any (nonceT sx id n) (by omega) _) rfl rfl ?_; intro f w1 v9 hT hE h s; obtain rfl := hT
    refine s_nil ?_
    have e9 := h.holds 18 _ rfl
    refine ⟨?_, hE, fun h9 => absurd h9 (by decide)⟩
    refine e9.trans ?_
    exact rfl
  · refine obF_in 7 rfl (by decide) (by decide) ?_
    intro f9 w2 hE hs hd9 hl
    have h := fin_slot [] hs hd9 (holds_lk trivial)
    have s := s.more hE
    have z := St.start w2
    refine s_alloc (idArr 0#256) h z zero23 rfl rfl ?_; intro f w1 b9 h z
    refine s_nil ?_
    exact kf_ptr (h.holds 7 _ rfl) z
  · exact obT_in (by decide) (by decide)
  · intro f9 w2 hE hs hd9 hWp hT hR hFr hDj
    obtain ⟨u15, hu15⟩ : ∃ v, f9.tmps.getD 15 undef = v := ⟨_, rfl⟩
    have e15 : (fun v w9 => RdZ w9 v 1 1 ([n].map fun (m : Nat) => Value.int .u8 (m : Int))) u15 w2 := by rw [← hu15]; exact hT 7 15 (by decide) rfl
    obtain ⟨u7, hu7⟩ : ∃ v, f9.tmps.getD 7 undef = v := ⟨_, rfl⟩
    have e7 : (PtrT (idArr 0#256) 23) u7 w2 := by rw [← hu7]; exact hT 11 7 (by decide) rfl
    have k7 := hFr 11 7 (by decide) rfl; rw [hu7] at k7
    replace h := sl_new (ops := _) [(8, _), (9, _), (10, _), (11, _), (12, _), (13, _), (14, _), (15, u15), (16, _), (17, _), (18, _), (7, u7)] h hs hd9 hR ⟨hT 0 8 (by decide) rfl, hT 1 9 (by decide) rfl, hT 2 10 (by decide) rfl, hT 3 11 (by decide) rfl, hT 4 12 (by decide) rfl, hT 5 13 (by decide) rfl, hT 6 14 (by decide) rfl, hu15, hT 8 16 (by decide) rfl, hT 9 17 (by decide) rfl, hT 10 18 (by decide) rfl, hu7, trivial⟩ (by kernel_rfl)
    obtain ⟨b7, hb7, s⟩ := ptr_join s hE e7 k7; subst hb7
    clear hT hR hFr hDj
    refine LstW.of ?_
    refine s_store_row 0 h s row23 rfl rfl rfl (by first | exact idArr_size _ | exact bytesF_size _ _) (by first | exact idArr_size _ | exact bytesF_size _ _) (by first | exact idArr_ones _ | exact bytesF_ones _ _) ?_; intro w1 s
    refine s_nil ?_
    refine hK2 _ _ ?_
    refine c_seq fun K3 hK3 => ?_
    refine c_region ?_
    refine s_pure h (ru_slice_arr_hi 16 Tryd.underlying23 size5 (h.ev rfl) (h.ev rfl) rfl (by decide)) rfl ?_; intro f h
    refine s_str_at (Has.subL (o := 0) (Has.of_own s 0 rfl) 0 16 (D := kArr (keyOf (sumB (nonceT sx id n)))) (idArr_key _)) h Tryd.underlying61 Tryd.underlying5 Tryd.underlying9 rfl rfl ?_; intro f h
    refine s_pure h (ru_assign (h.ev rfl)) rfl ?_; intro f h
    refine s_nil ?_
    refine hK3 _ _ ?_
    refine wpIn_ret ?_
    exact e_tmp rfl h s rfl (rfl)
end Go.Proofs.YtcnnlakcpcofkaaDoor
