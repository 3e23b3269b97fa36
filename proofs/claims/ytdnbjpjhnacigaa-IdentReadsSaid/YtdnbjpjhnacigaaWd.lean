/- Texts of identifiers, and what is read of any text: for all arguments. -/
import Derived.Test.YtdnbjpjhnacigaaWc
set_option linter.unusedVariables false
set_option linter.unusedSimpArgs false
namespace Go.Proofs.Ytdnbjpjhnacigaa
open Go.RowKit
theorem digit_any (n : Nat) (hn : n < 16) (w : World) : Calls Try.prog 32 [.int .u8 (n : Int)].toArray w (Ret w (is (.int .u8 (hexD n : Int)))) := by
  refine c_enter Try.func32 rfl Try.ntmps32 rfl [(0, .int .u8 (n : Int))] (by simp) fun f h => ?_
  have s := St.start w
  refine c_seq fun K1 hK1 => ?_
  refine c_region ?_
  refine s_pure h (ru_assign (h.ev rfl)) rfl ?_; intro f h
  refine s_nil ?_
  refine hK1 _ _ ?_
  refine c_seq fun K2 hK2 => ?_
  refine c_seq fun K3 hK3 => ?_
  refine c_region ?_
  refine s_pure h (ru_move (h.ev rfl)) rfl ?_; intro f h
  refine s_pure h (ru_lss (h.ev rfl) (h.ev rfl)) rfl ?_; intro f h
  refine s_nil ?_
  refine hK3 _ _ ?_
  refine c_cond h rfl (fun hc => ?_) (fun hc => ?_)
  · replace hc := of_decide_eq_true hc
    refine c_seq fun K4 hK4 => ?_
    refine c_region ?_
    refine s_pure h (ru_move (h.ev rfl)) rfl ?_; intro f h
    refine s_pure h (ru_val (.int .u8 ((48 + n : Nat) : Int)) (ru_addw (h.ev rfl) (h.ev rfl)) (congrArg (Value.int .u8) ((IntWalk.u8_in _ (by omega)).trans (by omega)))) rfl ?_; intro f h
    refine s_pure h (ru_assign (h.ev rfl)) rfl ?_; intro f h
    refine s_nil ?_
    refine hK4 _ _ ?_
    refine wp_ret ?_
    refine t_ret ?_
    exact e_tmp rfl h s rfl (by show _ = _; unfold hexD; rw [if_pos (by omega)])
  · replace hc := of_decide_eq_false hc
    refine wp_skip ?_
    refine hK2 _ _ ?_
    refine c_seq fun K5 hK5 => ?_
    refine c_region ?_
    refine s_pure h (ru_move (h.ev rfl)) rfl ?_; intro f h
    refine s_pure h (ru_val (.int .u8 ((97 + n : Nat) : Int)) (ru_addw (h.ev rfl) (h.ev rfl)) (congrArg (Value.int .u8) ((IntWalk.u8_in _ (by omega)).trans (by omega)))) rfl ?_; intro f h
    refine s_pure h (ru_val (.int .u8 ((87 + n : Nat) : Int)) (ru_subw (h.ev rfl) (h.ev rfl)) (congrArg (Value.int .u8) ((IntWalk.u8_in _ (by omega)).trans (by omega)))) rfl ?_; intro f h
    refine s_pure h (ru_assign (h.ev rfl)) rfl ?_; intro f h
    refine s_nil ?_
    refine hK5 _ _ ?_
    refine wp_ret ?_
    exact e_tmp rfl h s rfl (by show _ = _; unfold hexD; rw [if_neg (by omega)])

theorem half_any (c : Nat) (hc : c < 256) (w : World) : Calls Try.prog 31 [.int .u8 (c : Int)].toArray w (Ret w (is (.int .i64 (hv c : Int)))) := by
  refine c_enter Try.func31 rfl Try.ntmps31 rfl [(0, .int .u8 (c : Int))] (by simp) fun f h => ?_
  have s := St.start w
  refine c_seq fun K1 hK1 => ?_
  refine c_region ?_
  refine s_pure h (ru_assign (h.ev rfl)) rfl ?_; intro f h
  refine s_nil ?_
  refine hK1 _ _ ?_
  refine c_seq fun K2 hK2 => ?_
  refine c_seq fun K3 hK3 => ?_
  refine c_region ?_
  refine s_pure h (ru_assign (h.ev rfl)) rfl ?_; intro f h
  refine s_nil ?_
  refine hK3 _ _ ?_
  refine wp_block ?_
  refine wp_loop_ghost (fun nn aa ww => ∃ k : Nat, Sl 14 aa [(0, .int .u8 (c : Int)), (3, .int .i64 (k : Int))] ∧ St w [] ww ∧ nn = 16 - k ∧ k ≤ 16 ∧ ∀ m, m < k → hexD m ≠ c) (16 - (0)) ⟨0, h.only ⟨rfl, slot_int rfl (by omega), trivial⟩, s.as trivial, rfl, by omega, by intro m hm; omega⟩ ?_
  rintro _ f w1 ⟨k, h, s, hnn, hp0, hp1⟩
  refine c_seq fun K4 hK4 => ?_
  refine c_seq fun K5 hK5 => ?_
  refine c_region ?_
  refine s_pure h (ru_move (h.ev rfl)) rfl ?_; intro f h
  refine s_pure h (ru_lss (h.ev rfl) (h.ev rfl)) rfl ?_; intro f h
  refine s_nil ?_
  refine hK5 _ _ ?_
  refine c_cond h rfl (fun hc => ?_) (fun hc => ?_)
  · replace hc := of_decide_eq_true hc
    refine wp_skip ?_
    refine hK4 _ _ ?_
    refine c_seq fun K6 hK6 => ?_
    refine wp_block ?_
    refine c_seq fun K7 hK7 => ?_
    refine c_region ?_
    refine s_pure h (ru_move (h.ev rfl)) rfl ?_; intro f h
    refine s_pure h (ru_val (.int .u8 (k : Int)) (ru_conv_u8 Try.underlying3 Try.underlying5 (h.ev rfl)) (congrArg (Value.int .u8) (by omega))) rfl ?_; intro f h
    refine s_call h s fnc32 (digit_any _ (by omega) _) rfl rfl ?_; intro f w1 v9 hT hE h s; obtain rfl := hT
    refine s_pure h (ru_move (h.ev rfl)) rfl ?_; intro f h
    refine s_pure h (ru_eql (h.ev rfl) (h.ev rfl)) rfl ?_; intro f h
    refine s_nil ?_
    refine hK7 _ _ ?_
    refine c_cond h rfl (fun hc => ?_) (fun hc => ?_)
    · have he := of_decide_eq_true hc
      refine c_seq fun K8 hK8 => ?_
      refine c_region ?_
      refine s_pure h (ru_move (h.ev rfl)) rfl ?_; intro f h
      refine s_pure h (ru_assign (h.ev rfl)) rfl ?_; intro f h
      refine s_nil ?_
      refine hK8 _ _ ?_
      refine wp_ret ?_
      refine b_ret ?_
      refine t_ret ?_
      refine t_ret ?_
      refine b_ret ?_
      refine t_ret ?_
      exact e_tmp rfl h s rfl (by show _ = _; rw [show c = hexD k from by omega, hv_hexD k (by omega)])
    · have he := of_decide_eq_false hc
      refine wp_skip ?_
      refine b_norm ?_
      refine hK6 _ _ ?_
      refine c_region ?_
      refine s_pure h (ru_move (h.ev rfl)) rfl ?_; intro f h
      refine s_pure h (ru_add (h.ev rfl) (h.ev rfl) (by omega)) rfl ?_; intro f h
      refine s_pure h (ru_assign (h.ev rfl)) rfl ?_; intro f h
      refine s_nil ?_
      refine t_norm ?_
      exact ⟨_, by omega, ⟨k + 1, h.only ⟨rfl, slot_int rfl (by omega), trivial⟩, St.as s trivial, rfl, by omega, by intro m hm; rcases Nat.lt_or_ge m k with h9 | h9; exact hp1 m h9; have h8 : m = k := (by omega); rw [h8]; omega⟩⟩
  · replace hc := of_decide_eq_false hc
    refine wp_exit ?_
    refine t_exit ?_
    refine t_exit ?_
    refine b_exit ?_
    refine hK2 _ _ ?_
    refine c_seq fun K9 hK9 => ?_
    refine c_region ?_
    refine s_pure h (ru_assign (h.ev rfl)) rfl ?_; intro f h
    refine s_nil ?_
    refine hK9 _ _ ?_
    refine wp_ret ?_
    exact e_tmp rfl h s rfl (by show _ = _; rw [show hv c = 16 from by have h1 := hv_le c; have h2 : ¬ hv c < 16 := fun h9 => hp1 (hv c) (by omega) (hexD_hv c h9); omega]; rfl)

theorem ixl_any (c : Nat) (hc : c < 256) (w : World) : Calls Try.prog 35 [.string hexS, .int .u8 (c : Int)].toArray w (Ret w (is (.int .i64 (if hv c < 16 then (hv c : Int) else -1)))) := by
  refine c_enter Try.func35 rfl Try.ntmps35 rfl [(0, .string hexS), (1, .int .u8 (c : Int))] (by simp) fun f h => ?_
  have s := St.start w
  refine c_seq fun K1 hK1 => ?_
  refine c_region ?_
  refine s_pure h (ru_assign (h.ev rfl)) rfl ?_; intro f h
  refine s_nil ?_
  refine hK1 _ _ ?_
  refine c_seq fun K2 hK2 => ?_
  refine c_region ?_
  refine s_pure h (ru_move (h.ev rfl)) rfl ?_; intro f h
  refine s_pure h (ru_move (h.ev rfl)) rfl ?_; intro f h
  refine s_pure h (ru_ixbyte ext36 rfl (h.ev rfl) (h.ev rfl)) rfl ?_; intro f h
  refine s_pure h (ru_assign (h.ev rfl)) rfl ?_; intro f h
  refine s_nil ?_
  refine hK2 _ _ ?_
  refine wp_ret ?_
  exact e_tmp rfl h s rfl (by show _ = _; rw [ix_hex c hc])

theorem ix_any (c : Nat) (hc : c < 256) (w : World) : Calls Try.prog 30 [.string hexS, .int .u8 (c : Int)].toArray w (Ret w (is (.int .i64 (if hv c < 16 then (hv c : Int) else -1)))) := by
  refine c_enter Try.func30 rfl Try.ntmps30 rfl [(0, .string hexS), (1, .int .u8 (c : Int))] (by simp) fun f h => ?_
  have s := St.start w
  refine c_seq fun K1 hK1 => ?_
  refine c_region ?_
  refine s_pure h (ru_assign (h.ev rfl)) rfl ?_; intro f h
  refine s_nil ?_
  refine hK1 _ _ ?_
  refine c_seq fun K2 hK2 => ?_
  refine c_region ?_
  refine s_pure h (ru_move (h.ev rfl)) rfl ?_; intro f h
  refine s_pure h (ru_move (h.ev rfl)) rfl ?_; intro f h
  refine s_call h s fnc35 (ixl_any _ (by omega) _) rfl rfl ?_; intro f w1 v9 hT hE h s; obtain rfl := hT
  refine s_pure h (ru_assign (h.ev rfl)) rfl ?_; intro f h
  refine s_nil ?_
  refine hK2 _ _ ?_
  refine wp_ret ?_
  exact e_tmp rfl h s rfl (rfl)

theorem rtext_any (a : Id) (w : World) : Calls Try.prog 25 [idV a].toArray w (Ret w (is (.string (textS a)))) := by
  refine c_enter Try.func25 rfl Try.ntmps25 rfl [(0, idV a)] (by simp) fun f h => ?_
  have s := St.start w
  refine c_seq fun K1 hK1 => ?_
  refine c_region ?_
  refine s_box (idArr a) h s rfl rfl rfl ?_; intro f w1 b1 h s
  refine s_pure h (ru_assign (h.ev rfl)) rfl ?_; intro f h
  refine s_nil ?_
  refine hK1 _ _ ?_
  refine c_seq fun K2 hK2 => ?_
  refine c_region ?_
  refine s_bslice (vs := []) [] h s Try.underlying46 elm5 rfl rfl (by simp) rfl rfl rfl ?_; intro f w1 v6 h s
  have s := s.as (B' := [.sl v6 5 1 0 (dgL a 0), .blk b1 (.cells (idArr a) 23)]) ⟨rfl, rfl, trivial⟩
  refine s_pure h (ru_assign (h.ev rfl)) rfl ?_; intro f h
  refine s_nil ?_
  refine hK2 _ _ ?_
  refine c_seq fun K3 hK3 => ?_
  refine c_seq fun K4 hK4 => ?_
  refine c_region ?_
  refine s_load_row 1 h s row23 rfl rfl (idArr_size _) rfl ?_; intro f h
  refine s_pure h (ru_move (h.ev rfl)) rfl ?_; intro f h
  refine s_nil ?_
  refine hK4 _ _ ?_
  refine wp_block ?_
  refine wp_loop_ghost (fun nn aa ww => ∃ k : Nat, ∃ vb : Value, Sl 23 aa [(0, idV a), (1, .pointer (some ⟨b1, 0, none⟩)), (3, vb), (7, idV a), (8, .int .i64 (k : Int))] ∧ St w [.sl vb 5 1 (2 * k) (dgL a k), .blk b1 (.cells (idArr a) 23)] ww ∧ nn = 32 - k ∧ k ≤ 32) (32 - (0)) ⟨0, v6, h.only ⟨rfl, rfl, rfl, rfl, slot_int rfl (by omega), trivial⟩, s.as ⟨rfl, rfl, trivial⟩, rfl, by omega⟩ ?_
  rintro _ f w1 ⟨k, vb, h, s, hnn, hp0⟩
  have ha := byteAt_lt a k
  refine c_seq fun K5 hK5 => ?_
  refine c_region ?_
  refine s_pure h (ru_lss (h.ev rfl) (h.ev rfl)) rfl ?_; intro f h
  refine s_nil ?_
  refine hK5 _ _ ?_
  refine c_seq fun K6 hK6 => ?_
  refine c_cond h rfl (fun hc => ?_) (fun hc => ?_)
  · replace hc := of_decide_eq_true hc
    refine wp_skip ?_
    refine hK6 _ _ ?_
    refine c_seq fun K7 hK7 => ?_
    refine wp_block ?_
    refine c_seq fun K8 hK8 => ?_
    refine c_region ?_
    refine s_pure h (ru_index_id idTy (k) (h.ev rfl) (h.ev rfl) (by omega) (by omega)) rfl ?_; intro f h
    refine s_pure h (ru_assign (h.ev rfl)) rfl ?_; intro f h
    refine s_nil ?_
    refine hK8 _ _ ?_
    refine c_region ?_
    refine s_pure h (ru_move (h.ev rfl)) rfl ?_; intro f h
    refine s_pure h (ru_move (h.ev rfl)) rfl ?_; intro f h
    refine s_pure h (ru_val (.int .u8 ((byteAt a k / 16 : Nat) : Int)) (ru_quo_u8 (h.ev rfl) (h.ev rfl) (by omega)) (congrArg (Value.int .u8) (by omega))) rfl ?_; intro f h
    refine s_call h s fnc32 (digit_any _ (by omega) _) rfl rfl ?_; intro f w1 v9 hT hE h s; obtain rfl := hT
    refine s_pure h (ru_move (h.ev rfl)) rfl ?_; intro f h
    refine s_pure h (ru_val (.int .u8 ((byteAt a k % 16 : Nat) : Int)) (ru_rem (h.ev rfl) (h.ev rfl) (by omega)) (congrArg (Value.int .u8) (by omega))) rfl ?_; intro f h
    refine s_call h s fnc32 (digit_any _ (by omega) _) rfl rfl ?_; intro f w1 v9 hT hE h s; obtain rfl := hT
    refine s_bslice (vs := [.int .u8 (hexD (byteAt a k / 16) : Int), .int .u8 (hexD (byteAt a k % 16) : Int)]) [.tmp 14, .tmp 17] h s Try.underlying46 elm5 rfl rfl (by simp [Value.cells]) rfl rfl rfl ?_; intro f w1 v18 h s
    refine s_append 1 0 h s Try.underlying46 elm5 rfl rfl rfl rfl (by decide) (by simp [Value.oneCell', Value.cells]) (by unfold maxLen; omega) (by omega) rfl ?_; intro f w1 v19 h s
    refine s_pure h (ru_assign (h.ev rfl)) rfl ?_; intro f h
    refine s_nil ?_
    refine b_norm ?_
    refine hK7 _ _ ?_
    refine c_region ?_
    refine s_pure h (ru_add (h.ev rfl) (h.ev rfl) (by omega)) rfl ?_; intro f h
    refine s_pure h (ru_move (h.ev rfl)) rfl ?_; intro f h
    refine s_nil ?_
    refine t_norm ?_
    exact ⟨_, by omega, ⟨k + 1, v19, h.only ⟨rfl, rfl, rfl, rfl, slot_int rfl (by omega), trivial⟩, St.as (s.pick _ (List.sublist_append_right [_] _)) ⟨sl_eq (by omega) (dgL_next a k), rfl, trivial⟩, rfl, by omega⟩⟩
  · replace hc := of_decide_eq_false hc
    refine wp_exit ?_
    refine t_exit ?_
    refine t_exit ?_
    refine b_exit ?_
    refine hK3 _ _ ?_
    refine c_seq fun K9 hK9 => ?_
    refine c_region ?_
    refine s_pure h (ru_move (h.ev rfl)) rfl ?_; intro f h
    refine s_str_sl 0 h s Try.underlying46 Try.underlying5 Try.underlying9 rfl rfl rfl ?_; intro f h
    refine s_pure h (ru_assign (h.ev rfl)) rfl ?_; intro f h
    refine s_nil ?_
    refine hK9 _ _ ?_
    refine wp_ret ?_
    exact e_tmp rfl h s rfl (by show _ = _; rw [dgL_end a k (by omega)])

theorem parse_any (sx : ByteArray) (w : World) : Calls Try.prog 22 [.string sx].toArray w (Ret w (is (.tuple #[idV (if pok sx then pid sx else 0#256), .int .i64 (if pok sx then 0 else 4)]))) := by
  refine c_enter Try.func22 rfl Try.ntmps22 rfl [(0, .string sx)] (by simp) fun f h => ?_
  have s := St.start w
  refine c_seq fun K1 hK1 => ?_
  refine c_region ?_
  refine s_alloc (idArr 0#256) h s zero23 rfl rfl ?_; intro f w1 b2 h s
  refine s_pure h (ru_assign (h.ev rfl)) rfl ?_; intro f h
  refine s_nil ?_
  refine hK1 _ _ ?_
  refine c_seq fun K2 hK2 => ?_
  refine c_seq fun K3 hK3 => ?_
  refine c_region ?_
  refine s_pure h (ru_move (h.ev rfl)) rfl ?_; intro f h
  refine s_pure h (ru_len_str Try.underlying9 (h.ev rfl)) rfl ?_; intro f h
  refine s_pure h (ru_neq (h.ev rfl) (h.ev rfl)) rfl ?_; intro f h
  refine s_nil ?_
  refine hK3 _ _ ?_
  refine c_cond h rfl (fun hc => ?_) (fun hc => ?_)
  · replace hc := of_decide_eq_true hc
    refine c_seq fun K4 hK4 => ?_
    refine c_region ?_
    refine s_pure h (ru_build0 idTy) rfl ?_; intro f h
    refine s_store_row 0 h s row23 rfl rfl rfl (idArr_size _) (idArr_size _) (idArr_ones _) ?_; intro w1 s
    refine s_pure h (ru_assign (h.ev rfl)) rfl ?_; intro f h
    refine s_nil ?_
    refine hK4 _ _ ?_
    refine wp_ret ?_
    refine t_ret ?_
    exact e_row_tmp 0 rfl h s row23 rfl rfl (idArr_size _) rfl (by show _ = _; rw [pok_len sx hc]; first | done | rfl)
  · have hs : sx.size = 64 := by have := of_decide_eq_false hc; omega
    refine wp_skip ?_
    refine hK2 _ _ ?_
    refine c_seq fun K5 hK5 => ?_
    refine c_region ?_
    refine s_alloc (idArr 0#256) h s zero23 rfl rfl ?_; intro f w1 b4 h s
    refine s_nil ?_
    refine hK5 _ _ ?_
    refine c_seq fun K6 hK6 => ?_
    refine c_seq fun K7 hK7 => ?_
    refine c_region ?_
    refine s_pure h (ru_move (h.ev rfl)) rfl ?_; intro f h
    refine s_nil ?_
    refine hK7 _ _ ?_
    refine wp_block ?_
    refine wp_loop_ghost (fun nn aa ww => ∃ k : Nat, Sl 42 aa [(0, .string sx), (2, .pointer (some ⟨b2, 0, none⟩)), (4, .pointer (some ⟨b4, 0, none⟩)), (12, .int .i64 (k : Int))] ∧ St w [.blk b4 (.cells (idArr (pk sx k)) 23), .blk b2 (.cells (idArr 0#256) 23)] ww ∧ nn = 32 - k ∧ k ≤ 32 ∧ dgs sx k) (32 - (0)) ⟨0, h.only ⟨rfl, rfl, rfl, slot_int rfl (by omega), trivial⟩, s.as ⟨cells_eq (by rw [pk_zero]), rfl, trivial⟩, rfl, by omega, dgs_zero sx⟩ ?_
    rintro _ f w1 ⟨k, h, s, hnn, hp0, hp1⟩
    have hva := hv_le (sb sx (2 * k))
    have hvb := hv_le (sb sx (2 * k + 1))
    refine c_seq fun K8 hK8 => ?_
    refine c_region ?_
    refine s_pure h (ru_lss (h.ev rfl) (h.ev rfl)) rfl ?_; intro f h
    refine s_nil ?_
    refine hK8 _ _ ?_
    refine c_seq fun K9 hK9 => ?_
    refine c_cond h rfl (fun hc => ?_) (fun hc => ?_)
    · replace hc := of_decide_eq_true hc
      refine wp_skip ?_
      refine hK9 _ _ ?_
      refine c_seq fun K10 hK10 => ?_
      refine wp_block ?_
      refine c_seq fun K11 hK11 => ?_
      refine c_region ?_
      refine s_pure h (ru_move (h.ev rfl)) rfl ?_; intro f h
      refine s_pure h (ru_assign (h.ev rfl)) rfl ?_; intro f h
      refine s_nil ?_
      refine hK11 _ _ ?_
      refine c_seq fun K12 hK12 => ?_
      refine c_region ?_
      refine s_pure h (ru_move (h.ev rfl)) rfl ?_; intro f h
      refine s_pure h (ru_move (h.ev rfl)) rfl ?_; intro f h
      refine s_pure h (ru_mul (h.ev rfl) (h.ev rfl) (by omega)) rfl ?_; intro f h
      refine s_pure h (ru_ix_sb Try.underlying9 (2 * k) (h.ev rfl) (h.ev rfl) (by omega) (by omega)) rfl ?_; intro f h
      refine s_call h s fnc30 (ix_any _ (sb_lt _ _) _) rfl rfl ?_; intro f w1 v9 hT hE h s; obtain rfl := hT
      refine s_pure h (ru_assign (h.ev rfl)) rfl ?_; intro f h
      refine s_nil ?_
      refine hK12 _ _ ?_
      refine c_seq fun K13 hK13 => ?_
      refine c_region ?_
      refine s_pure h (ru_move (h.ev rfl)) rfl ?_; intro f h
      refine s_pure h (ru_move (h.ev rfl)) rfl ?_; intro f h
      refine s_pure h (ru_mul (h.ev rfl) (h.ev rfl) (by omega)) rfl ?_; intro f h
      refine s_pure h (ru_add (h.ev rfl) (h.ev rfl) (by omega)) rfl ?_; intro f h
      refine s_pure h (ru_ix_sb Try.underlying9 (2 * k + 1) (h.ev rfl) (h.ev rfl) (by omega) (by omega)) rfl ?_; intro f h
      refine s_call h s fnc30 (ix_any _ (sb_lt _ _) _) rfl rfl ?_; intro f w1 v9 hT hE h s; obtain rfl := hT
      refine s_pure h (ru_assign (h.ev rfl)) rfl ?_; intro f h
      refine s_nil ?_
      refine hK13 _ _ ?_
      refine c_seq fun K14 hK14 => ?_
      refine c_seq fun K15 hK15 => ?_
      cases hx : (decide (hv (sb sx (2 * k)) < 16) : Bool)
      · skip
        refine c_region ?_
        refine s_pure h (ru_move (h.ev rfl)) rfl ?_; intro f h
        refine s_pure h (ru_val (.bool true) (ru_lss (h.ev rfl) (h.ev rfl)) (congrArg Value.bool (decide_eq_true (by rw [if_neg (of_decide_eq_false hx)]; omega)))) rfl ?_; intro f h
        refine s_pure h (ru_move (h.ev rfl)) rfl ?_; intro f h
        refine s_off (b := false) h rfl rfl rfl rfl ?_; intro f h
        refine s_off (b := false) h rfl rfl rfl rfl ?_; intro f h
        refine s_pure h (ru_pick_t (h.ev rfl) (h.ev rfl)) rfl ?_; intro f h
        refine s_nil ?_
        refine hK15 _ _ ?_
        refine wp_cond_true (h.ev rfl) ?_
        refine c_seq fun K16 hK16 => ?_
        refine c_region ?_
        refine s_pure h (ru_build0 idTy) rfl ?_; intro f h
        refine s_store_row 1 h s row23 rfl rfl rfl (idArr_size _) (idArr_size _) (idArr_ones _) ?_; intro w1 s
        refine s_pure h (ru_assign (h.ev rfl)) rfl ?_; intro f h
        refine s_nil ?_
        refine hK16 _ _ ?_
        refine wp_ret ?_
        refine t_ret ?_
        refine b_ret ?_
        refine t_ret ?_
        refine t_ret ?_
        refine b_ret ?_
        refine t_ret ?_
        exact e_row_tmp 1 rfl h s row23 rfl rfl (idArr_size _) rfl (by show _ = _; rw [pok_not sx (2 * k) (by omega) (of_decide_eq_false hx)]; rfl)
      · skip
        cases hy : (decide (hv (sb sx (2 * k + 1)) < 16) : Bool)
        · skip
          refine c_region ?_
          refine s_pure h (ru_move (h.ev rfl)) rfl ?_; intro f h
          refine s_pure h (ru_val (.bool false) (ru_lss (h.ev rfl) (h.ev rfl)) (congrArg Value.bool (decide_eq_false (by rw [if_pos (of_decide_eq_true hx)]; omega)))) rfl ?_; intro f h
          refine s_pure h (ru_move (h.ev rfl)) rfl ?_; intro f h
          refine s_on h rfl rfl rfl ?_
          refine s_pure h (ru_move (h.ev rfl)) rfl ?_; intro f h
          refine s_on h rfl rfl rfl ?_
          refine s_pure h (ru_val (.bool true) (ru_lss (h.ev rfl) (h.ev rfl)) (congrArg Value.bool (decide_eq_true (by rw [if_neg (of_decide_eq_false hy)]; omega)))) rfl ?_; intro f h
          refine s_pure h (ru_pick_f (h.ev rfl) (h.ev rfl)) rfl ?_; intro f h
          refine s_nil ?_
          refine hK15 _ _ ?_
          refine wp_cond_true (h.ev rfl) ?_
          refine c_seq fun K17 hK17 => ?_
          refine c_region ?_
          refine s_pure h (ru_build0 idTy) rfl ?_; intro f h
          refine s_store_row 1 h s row23 rfl rfl rfl (idArr_size _) (idArr_size _) (idArr_ones _) ?_; intro w1 s
          refine s_pure h (ru_assign (h.ev rfl)) rfl ?_; intro f h
          refine s_nil ?_
          refine hK17 _ _ ?_
          refine wp_ret ?_
          refine t_ret ?_
          refine b_ret ?_
          refine t_ret ?_
          refine t_ret ?_
          refine b_ret ?_
          refine t_ret ?_
          exact e_row_tmp 1 rfl h s row23 rfl rfl (idArr_size _) rfl (by show _ = _; rw [pok_not sx (2 * k + 1) (by omega) (of_decide_eq_false hy)]; rfl)
        · skip
          refine c_region ?_
          refine s_pure h (ru_move (h.ev rfl)) rfl ?_; intro f h
          refine s_pure h (ru_val (.bool false) (ru_lss (h.ev rfl) (h.ev rfl)) (congrArg Value.bool (decide_eq_false (by rw [if_pos (of_decide_eq_true hx)]; omega)))) rfl ?_; intro f h
          refine s_pure h (ru_move (h.ev rfl)) rfl ?_; intro f h
          refine s_on h rfl rfl rfl ?_
          refine s_pure h (ru_move (h.ev rfl)) rfl ?_; intro f h
          refine s_on h rfl rfl rfl ?_
          refine s_pure h (ru_val (.bool false) (ru_lss (h.ev rfl) (h.ev rfl)) (congrArg Value.bool (decide_eq_false (by rw [if_pos (of_decide_eq_true hy)]; omega)))) rfl ?_; intro f h
          refine s_pure h (ru_pick_f (h.ev rfl) (h.ev rfl)) rfl ?_; intro f h
          refine s_nil ?_
          refine hK15 _ _ ?_
          refine wp_cond_false (h.ev rfl) ?_
          refine wp_skip ?_
          refine hK14 _ _ ?_
          refine c_region ?_
          refine s_pure h (ru_move (h.ev rfl)) rfl ?_; intro f h
          refine s_pure h (ru_val (.int .i64 (hv (sb sx (2 * k)) : Int)) (ru_move (h.ev rfl)) (congrArg (Value.int .i64) (if_pos (of_decide_eq_true hx)))) rfl ?_; intro f h
          refine s_pure h (ru_val (.int .i64 ((16 * hv (sb sx (2 * k)) : Nat) : Int)) (ru_shl (h.ev rfl) (h.ev rfl) (by omega)) (congrArg (Value.int .i64) (shl_4 _ (of_decide_eq_true hx)))) rfl ?_; intro f h
          refine s_pure h (ru_val (.int .i64 (hv (sb sx (2 * k + 1)) : Int)) (ru_move (h.ev rfl)) (congrArg (Value.int .i64) (if_pos (of_decide_eq_true hy)))) rfl ?_; intro f h
          refine s_pure h (ru_val (.int .i64 ((16 * hv (sb sx (2 * k)) + hv (sb sx (2 * k + 1)) : Nat) : Int)) (ru_or_i64 (h.ev rfl) (h.ev rfl) (by omega) (by omega)) (congrArg (Value.int .i64) (by rw [or_hex _ _ (of_decide_eq_true hy)]))) rfl ?_; intro f h
          refine s_pure h (ru_conv_u8 Try.underlying3 Try.underlying5 (h.ev rfl)) rfl ?_; intro f h
          refine s_pure h (ru_ix (k) Try.underlying23 size5 (h.ev rfl) (h.ev rfl) (by omega) (by omega)) rfl ?_; intro f h
          refine s_store_one 0 h s one5 rfl rfl rfl (by simp; omega) rfl ?_; intro w1 s
          refine s_nil ?_
          refine b_norm ?_
          refine hK10 _ _ ?_
          refine c_region ?_
          refine s_pure h (ru_add (h.ev rfl) (h.ev rfl) (by omega)) rfl ?_; intro f h
          refine s_pure h (ru_move (h.ev rfl)) rfl ?_; intro f h
          refine s_nil ?_
          refine t_norm ?_
          exact ⟨_, by omega, ⟨k + 1, h.only ⟨rfl, rfl, rfl, slot_int rfl (by omega), trivial⟩, St.as s ⟨cells_eq (pk_box sx k (by omega) _ (by have hx1 := of_decide_eq_true hx; have hy1 := of_decide_eq_true hy; unfold pb; omega)), rfl, trivial⟩, rfl, by omega, dgs_next sx k hp1 (of_decide_eq_true hx) (of_decide_eq_true hy)⟩⟩
    · replace hc := of_decide_eq_false hc
      refine wp_exit ?_
      refine t_exit ?_
      refine t_exit ?_
      refine b_exit ?_
      refine hK6 _ _ ?_
      refine c_seq fun K18 hK18 => ?_
      refine c_region ?_
      refine s_load_row 0 h s row23 rfl rfl (idArr_size _) rfl ?_; intro f h
      refine s_store_row 1 h s row23 rfl rfl rfl (idArr_size _) (idArr_size _) (idArr_ones _) ?_; intro w1 s
      refine s_pure h (ru_assign (h.ev rfl)) rfl ?_; intro f h
      refine s_nil ?_
      refine hK18 _ _ ?_
      refine wp_ret ?_
      exact e_row_tmp 1 rfl h s row23 rfl rfl (idArr_size _) rfl (by show _ = _; rw [pok_yes sx k (by omega) hs hp1, pk_end sx k (by omega)]; rfl)

theorem rparse_any (sx : ByteArray) (w : World) : Calls Try.prog 23 [.string sx].toArray w (Ret w (is (.tuple #[idV (if pok sx then pid sx else 0#256), .bool (pok sx)]))) := by
  refine c_enter Try.func23 rfl Try.ntmps23 rfl [(0, .string sx)] (by simp) fun f h => ?_
  have s := St.start w
  refine c_seq fun K1 hK1 => ?_
  refine c_region ?_
  refine s_alloc (idArr 0#256) h s zero23 rfl rfl ?_; intro f w1 b2 h s
  refine s_pure h (ru_assign (h.ev rfl)) rfl ?_; intro f h
  refine s_nil ?_
  refine hK1 _ _ ?_
  refine c_seq fun K2 hK2 => ?_
  refine c_region ?_
  refine s_pure h (ru_build0 idTy) rfl ?_; intro f h
  refine s_alloc (idArr 0#256) h s zero23 rfl rfl ?_; intro f w1 b4 h s
  refine s_store_row 0 h s row23 rfl rfl rfl (idArr_size _) (idArr_size _) (idArr_ones _) ?_; intro w1 s
  refine s_nil ?_
  refine hK2 _ _ ?_
  refine c_seq fun K3 hK3 => ?_
  refine c_seq fun K4 hK4 => ?_
  refine c_region ?_
  refine s_pure h (ru_move (h.ev rfl)) rfl ?_; intro f h
  refine s_pure h (ru_len_str Try.underlying9 (h.ev rfl)) rfl ?_; intro f h
  refine s_pure h (ru_neq (h.ev rfl) (h.ev rfl)) rfl ?_; intro f h
  refine s_nil ?_
  refine hK4 _ _ ?_
  refine c_cond h rfl (fun hc => ?_) (fun hc => ?_)
  · replace hc := of_decide_eq_true hc
    refine c_seq fun K5 hK5 => ?_
    refine c_region ?_
    refine s_load_row 0 h s row23 rfl rfl (idArr_size _) rfl ?_; intro f h
    refine s_store_row 1 h s row23 rfl rfl rfl (idArr_size _) (idArr_size _) (idArr_ones _) ?_; intro w1 s
    refine s_pure h (ru_assign (h.ev rfl)) rfl ?_; intro f h
    refine s_nil ?_
    refine hK5 _ _ ?_
    refine wp_ret ?_
    refine t_ret ?_
    exact e_row_tmp 1 rfl h s row23 rfl rfl (idArr_size _) rfl (by show _ = _; rw [pok_len sx hc]; first | done | rfl)
  · have hs : sx.size = 64 := by have := of_decide_eq_false hc; omega
    refine wp_skip ?_
    refine hK3 _ _ ?_
    refine c_seq fun K6 hK6 => ?_
    refine c_seq fun K7 hK7 => ?_
    refine c_region ?_
    refine s_pure h (ru_assign (h.ev rfl)) rfl ?_; intro f h
    refine s_nil ?_
    refine hK7 _ _ ?_
    refine wp_block ?_
    refine wp_loop_ghost (fun nn aa ww => ∃ k : Nat, Sl 48 aa [(0, .string sx), (2, .pointer (some ⟨b2, 0, none⟩)), (4, .pointer (some ⟨b4, 0, none⟩)), (5, .int .i64 (k : Int))] ∧ St w [.blk b4 (.cells (idArr (pk sx k)) 23), .blk b2 (.cells (idArr 0#256) 23)] ww ∧ nn = 32 - k ∧ k ≤ 32 ∧ dgs sx k) (32 - (0)) ⟨0, h.only ⟨rfl, rfl, rfl, slot_int rfl (by omega), trivial⟩, s.as ⟨cells_eq (by rw [pk_zero]), rfl, trivial⟩, rfl, by omega, dgs_zero sx⟩ ?_
    rintro _ f w1 ⟨k, h, s, hnn, hp0, hp1⟩
    have hva := hv_le (sb sx (2 * k))
    have hvb := hv_le (sb sx (2 * k + 1))
    refine c_seq fun K8 hK8 => ?_
    refine c_seq fun K9 hK9 => ?_
    refine c_region ?_
    refine s_pure h (ru_move (h.ev rfl)) rfl ?_; intro f h
    refine s_pure h (ru_lss (h.ev rfl) (h.ev rfl)) rfl ?_; intro f h
    refine s_nil ?_
    refine hK9 _ _ ?_
    refine c_cond h rfl (fun hc => ?_) (fun hc => ?_)
    · replace hc := of_decide_eq_true hc
      refine wp_skip ?_
      refine hK8 _ _ ?_
      refine c_seq fun K10 hK10 => ?_
      refine wp_block ?_
      refine c_seq fun K11 hK11 => ?_
      refine c_seq fun K12 hK12 => ?_
      cases hx : (decide (hv (sb sx (2 * k)) < 16) : Bool)
      · skip
        refine c_region ?_
        refine s_pure h (ru_move (h.ev rfl)) rfl ?_; intro f h
        refine s_pure h (ru_move (h.ev rfl)) rfl ?_; intro f h
        refine s_pure h (ru_mul (h.ev rfl) (h.ev rfl) (by omega)) rfl ?_; intro f h
        refine s_pure h (ru_ix_sb Try.underlying9 (2 * k) (h.ev rfl) (h.ev rfl) (by omega) (by omega)) rfl ?_; intro f h
        refine s_call h s fnc31 (half_any _ (sb_lt _ _) _) rfl rfl ?_; intro f w1 v9 hT hE h s; obtain rfl := hT
        refine s_pure h (ru_val (.bool true) (ru_gtr (h.ev rfl) (h.ev rfl)) (congrArg Value.bool (decide_eq_true (by have := of_decide_eq_false hx; omega)))) rfl ?_; intro f h
        refine s_pure h (ru_move (h.ev rfl)) rfl ?_; intro f h
        refine s_off (b := false) h rfl rfl rfl rfl ?_; intro f h
        refine s_off (b := false) h rfl rfl rfl rfl ?_; intro f h
        refine s_off (b := false) h rfl rfl rfl rfl ?_; intro f h
        refine s_off (b := false) h rfl rfl rfl rfl ?_; intro f h
        refine s_off (b := false) h rfl rfl rfl rfl ?_; intro f h
        refine s_off (b := false) h rfl rfl rfl rfl ?_; intro f h
        refine s_off (b := false) h rfl rfl rfl rfl ?_; intro f h
        refine s_pure h (ru_pick_t (h.ev rfl) (h.ev rfl)) rfl ?_; intro f h
        refine s_nil ?_
        refine hK12 _ _ ?_
        refine wp_cond_true (h.ev rfl) ?_
        refine c_seq fun K13 hK13 => ?_
        refine c_region ?_
        refine s_pure h (ru_build0 idTy) rfl ?_; intro f h
        refine s_store_row 1 h s row23 rfl rfl rfl (idArr_size _) (idArr_size _) (idArr_ones _) ?_; intro w1 s
        refine s_pure h (ru_assign (h.ev rfl)) rfl ?_; intro f h
        refine s_nil ?_
        refine hK13 _ _ ?_
        refine wp_ret ?_
        refine t_ret ?_
        refine b_ret ?_
        refine t_ret ?_
        refine t_ret ?_
        refine b_ret ?_
        refine t_ret ?_
        exact e_row_tmp 1 rfl h s row23 rfl rfl (idArr_size _) rfl (by show _ = _; rw [pok_not sx (2 * k) (by omega) (of_decide_eq_false hx)]; rfl)
      · skip
        cases hy : (decide (hv (sb sx (2 * k + 1)) < 16) : Bool)
        · skip
          refine c_region ?_
          refine s_pure h (ru_move (h.ev rfl)) rfl ?_; intro f h
          refine s_pure h (ru_move (h.ev rfl)) rfl ?_; intro f h
          refine s_pure h (ru_mul (h.ev rfl) (h.ev rfl) (by omega)) rfl ?_; intro f h
          refine s_pure h (ru_ix_sb Try.underlying9 (2 * k) (h.ev rfl) (h.ev rfl) (by omega) (by omega)) rfl ?_; intro f h
          refine s_call h s fnc31 (half_any _ (sb_lt _ _) _) rfl rfl ?_; intro f w1 v9 hT hE h s; obtain rfl := hT
          refine s_pure h (ru_val (.bool false) (ru_gtr (h.ev rfl) (h.ev rfl)) (congrArg Value.bool (decide_eq_false (by have := of_decide_eq_true hx; omega)))) rfl ?_; intro f h
          refine s_pure h (ru_move (h.ev rfl)) rfl ?_; intro f h
          refine s_on h rfl rfl rfl ?_
          refine s_pure h (ru_move (h.ev rfl)) rfl ?_; intro f h
          refine s_on h rfl rfl rfl ?_
          refine s_pure h (ru_move (h.ev rfl)) rfl ?_; intro f h
          refine s_on h rfl rfl rfl ?_
          refine s_pure h (ru_mul (h.ev rfl) (h.ev rfl) (by omega)) rfl ?_; intro f h
          refine s_on h rfl rfl rfl ?_
          refine s_pure h (ru_add (h.ev rfl) (h.ev rfl) (by omega)) rfl ?_; intro f h
          refine s_on h rfl rfl rfl ?_
          refine s_pure h (ru_ix_sb Try.underlying9 (2 * k + 1) (h.ev rfl) (h.ev rfl) (by omega) (by omega)) rfl ?_; intro f h
          refine s_on h rfl rfl rfl ?_
          refine s_call h s fnc31 (half_any _ (sb_lt _ _) _) rfl rfl ?_; intro f w1 v9 hT hE h s; obtain rfl := hT
          refine s_on h rfl rfl rfl ?_
          refine s_pure h (ru_val (.bool true) (ru_gtr (h.ev rfl) (h.ev rfl)) (congrArg Value.bool (decide_eq_true (by have := of_decide_eq_false hy; omega)))) rfl ?_; intro f h
          refine s_pure h (ru_pick_f (h.ev rfl) (h.ev rfl)) rfl ?_; intro f h
          refine s_nil ?_
          refine hK12 _ _ ?_
          refine wp_cond_true (h.ev rfl) ?_
          refine c_seq fun K14 hK14 => ?_
          refine c_region ?_
          refine s_pure h (ru_build0 idTy) rfl ?_; intro f h
          refine s_store_row 1 h s row23 rfl rfl rfl (idArr_size _) (idArr_size _) (idArr_ones _) ?_; intro w1 s
          refine s_pure h (ru_assign (h.ev rfl)) rfl ?_; intro f h
          refine s_nil ?_
          refine hK14 _ _ ?_
          refine wp_ret ?_
          refine t_ret ?_
          refine b_ret ?_
          refine t_ret ?_
          refine t_ret ?_
          refine b_ret ?_
          refine t_ret ?_
          exact e_row_tmp 1 rfl h s row23 rfl rfl (idArr_size _) rfl (by show _ = _; rw [pok_not sx (2 * k + 1) (by omega) (of_decide_eq_false hy)]; rfl)
        · skip
          refine c_region ?_
          refine s_pure h (ru_move (h.ev rfl)) rfl ?_; intro f h
          refine s_pure h (ru_move (h.ev rfl)) rfl ?_; intro f h
          refine s_pure h (ru_mul (h.ev rfl) (h.ev rfl) (by omega)) rfl ?_; intro f h
          refine s_pure h (ru_ix_sb Try.underlying9 (2 * k) (h.ev rfl) (h.ev rfl) (by omega) (by omega)) rfl ?_; intro f h
          refine s_call h s fnc31 (half_any _ (sb_lt _ _) _) rfl rfl ?_; intro f w1 v9 hT hE h s; obtain rfl := hT
          refine s_pure h (ru_val (.bool false) (ru_gtr (h.ev rfl) (h.ev rfl)) (congrArg Value.bool (decide_eq_false (by have := of_decide_eq_true hx; omega)))) rfl ?_; intro f h
          refine s_pure h (ru_move (h.ev rfl)) rfl ?_; intro f h
          refine s_on h rfl rfl rfl ?_
          refine s_pure h (ru_move (h.ev rfl)) rfl ?_; intro f h
          refine s_on h rfl rfl rfl ?_
          refine s_pure h (ru_move (h.ev rfl)) rfl ?_; intro f h
          refine s_on h rfl rfl rfl ?_
          refine s_pure h (ru_mul (h.ev rfl) (h.ev rfl) (by omega)) rfl ?_; intro f h
          refine s_on h rfl rfl rfl ?_
          refine s_pure h (ru_add (h.ev rfl) (h.ev rfl) (by omega)) rfl ?_; intro f h
          refine s_on h rfl rfl rfl ?_
          refine s_pure h (ru_ix_sb Try.underlying9 (2 * k + 1) (h.ev rfl) (h.ev rfl) (by omega) (by omega)) rfl ?_; intro f h
          refine s_on h rfl rfl rfl ?_
          refine s_call h s fnc31 (half_any _ (sb_lt _ _) _) rfl rfl ?_; intro f w1 v9 hT hE h s; obtain rfl := hT
          refine s_on h rfl rfl rfl ?_
          refine s_pure h (ru_val (.bool false) (ru_gtr (h.ev rfl) (h.ev rfl)) (congrArg Value.bool (decide_eq_false (by have := of_decide_eq_true hy; omega)))) rfl ?_; intro f h
          refine s_pure h (ru_pick_f (h.ev rfl) (h.ev rfl)) rfl ?_; intro f h
          refine s_nil ?_
          refine hK12 _ _ ?_
          refine wp_cond_false (h.ev rfl) ?_
          refine wp_skip ?_
          refine hK11 _ _ ?_
          refine c_walkN 16 [[], [], [], [2], [1, 2, 3], [1, 2, 3, 4], [1, 2, 3, 4, 5], [], [], [8], [8, 9], [7, 8, 9, 10], [1, 2, 3, 4, 5, 7, 8, 9, 10, 11], [1, 2, 3, 4, 5, 6, 7, 8, 9, 10, 11, 12], [1, 2, 3, 4, 5, 6, 7, 8, 9, 10, 11, 12, 13], [0, 1, 2, 3, 4, 5, 6, 7, 8, 9, 10, 11, 12, 13, 14]] h (by kernel_rfl) (by kernel_rfl) (by kernel_rfl) ?_
          refine w_pure h (ru_move (h.ev rfl)) rfl ?_; intro f h
          refine w_pure h (ru_move (h.ev rfl)) rfl ?_; intro f h
          refine w_pure h (ru_move (h.ev rfl)) rfl ?_; intro f h
          refine w_pure h (ru_mul (h.ev rfl) (h.ev rfl) (by omega)) rfl ?_; intro f h
          refine w_pure h (ru_ix_sb Try.underlying9 (2 * k) (h.ev rfl) (h.ev rfl) (by omega) (by omega)) rfl ?_; intro f h
          refine w_call h fnc31 (half_any _ (sb_lt _ _)) rfl rfl ?_; intro f h
          refine w_pure h (ru_mul (h.ev rfl) (h.ev rfl) (by omega)) rfl ?_; intro f h
          refine w_pure h (ru_move (h.ev rfl)) rfl ?_; intro f h
          refine w_pure h (ru_move (h.ev rfl)) rfl ?_; intro f h
          refine w_pure h (ru_mul (h.ev rfl) (h.ev rfl) (by omega)) rfl ?_; intro f h
          refine w_pure h (ru_add (h.ev rfl) (h.ev rfl) (by omega)) rfl ?_; intro f h
          refine w_pure h (ru_ix_sb Try.underlying9 (2 * k + 1) (h.ev rfl) (h.ev rfl) (by omega) (by omega)) rfl ?_; intro f h
          refine w_call h fnc31 (half_any _ (sb_lt _ _)) rfl rfl ?_; intro f h
          refine w_pure h (ru_add (h.ev rfl) (h.ev rfl) (by omega)) rfl ?_; intro f h
          refine w_pure h (ru_conv_u8 Try.underlying3 Try.underlying5 (h.ev rfl)) rfl ?_; intro f h
          refine w_pure h (ru_ix (k) Try.underlying23 size5 (h.ev rfl) (h.ev rfl) (by omega) (by omega)) rfl ?_; intro f h
          refine w_nil s fun w1 s => ?_
          refine s_store_one 0 h s one5 rfl rfl rfl (by simp; omega) rfl ?_; intro w1 s
          refine s_nil ?_
          refine b_norm ?_
          refine hK10 _ _ ?_
          refine c_region ?_
          refine s_pure h (ru_move (h.ev rfl)) rfl ?_; intro f h
          refine s_pure h (ru_add (h.ev rfl) (h.ev rfl) (by omega)) rfl ?_; intro f h
          refine s_pure h (ru_assign (h.ev rfl)) rfl ?_; intro f h
          refine s_nil ?_
          refine t_norm ?_
          exact ⟨_, by omega, ⟨k + 1, h.only ⟨rfl, rfl, rfl, slot_int rfl (by omega), trivial⟩, St.as s ⟨cells_eq (pk_box sx k (by omega) _ (by have hx1 := of_decide_eq_true hx; have hy1 := of_decide_eq_true hy; unfold pb; omega)), rfl, trivial⟩, rfl, by omega, dgs_next sx k hp1 (of_decide_eq_true hx) (of_decide_eq_true hy)⟩⟩
    · replace hc := of_decide_eq_false hc
      refine wp_exit ?_
      refine t_exit ?_
      refine t_exit ?_
      refine b_exit ?_
      refine hK6 _ _ ?_
      refine c_seq fun K15 hK15 => ?_
      refine c_region ?_
      refine s_load_row 0 h s row23 rfl rfl (idArr_size _) rfl ?_; intro f h
      refine s_store_row 1 h s row23 rfl rfl rfl (idArr_size _) (idArr_size _) (idArr_ones _) ?_; intro w1 s
      refine s_pure h (ru_assign (h.ev rfl)) rfl ?_; intro f h
      refine s_nil ?_
      refine hK15 _ _ ?_
      refine wp_ret ?_
      exact e_row_tmp 1 rfl h s row23 rfl rfl (idArr_size _) rfl (by show _ = _; rw [pok_yes sx k (by omega) hs hp1, pk_end sx k (by omega)]; rfl)

theorem reads_any (a : Id) (sx : ByteArray) (w : World) : Calls Try.prog 5 [idV a, .string sx].toArray w (Ret w (is (.bool true))) := by
  refine c_enter Try.func5 rfl Try.ntmps5 rfl [(0, idV a), (1, .string sx)] (by simp) fun f h => ?_
  have s := St.start w
  refine c_seq fun K1 hK1 => ?_
  refine c_region ?_
  refine s_box (idArr a) h s rfl rfl rfl ?_; intro f w1 b2 h s
  refine s_pure h (ru_assign (h.ev rfl)) rfl ?_; intro f h
  refine s_nil ?_
  refine hK1 _ _ ?_
  refine c_seq fun K2 hK2 => ?_
  refine c_region ?_
  refine s_pure h (ru_move (h.ev rfl)) rfl ?_; intro f h
  refine s_pure h (ru_move (h.ev rfl)) rfl ?_; intro f h
  refine s_pure h (ru_len_str Try.underlying9 (h.ev rfl)) rfl ?_; intro f h
  refine s_pure h (ru_min (h.ev rfl) (h.ev rfl)) rfl ?_; intro f h
  refine s_pure h (ru_slice_str (min sx.size 70) Try.underlying9 (h.ev rfl) (h.ev rfl) (by split <;> omega) (by omega)) rfl ?_; intro f h
  refine s_pure h (ru_assign (h.ev rfl)) rfl ?_; intro f h
  refine s_nil ?_
  refine hK2 _ _ ?_
  refine c_seq fun K3 hK3 => ?_
  refine c_region ?_
  refine s_pure h (ru_move (h.ev rfl)) rfl ?_; intro f h
  refine s_call h s fnc22 (parse_any _ _) rfl rfl ?_; intro f w1 v9 hT hE h s; obtain rfl := hT
  refine s_pure h (ru_move (h.ev rfl)) rfl ?_; intro f h
  refine s_pure h (ru_extract (h.ev rfl) rfl) rfl ?_; intro f h
  refine s_pure h (ru_extract (h.ev rfl) rfl) rfl ?_; intro f h
  refine s_alloc (idArr 0#256) h s zero23 rfl rfl ?_; intro f w1 b5 h s
  refine s_store_row 0 h s row23 rfl rfl rfl (idArr_size _) (idArr_size _) (idArr_ones _) ?_; intro w1 s
  refine s_pure h (ru_assign (h.ev rfl)) rfl ?_; intro f h
  refine s_nil ?_
  refine hK3 _ _ ?_
  refine c_seq fun K4 hK4 => ?_
  refine c_region ?_
  refine s_pure h (ru_move (h.ev rfl)) rfl ?_; intro f h
  refine s_call h s fnc23 (rparse_any _ _) rfl rfl ?_; intro f w1 v9 hT hE h s; obtain rfl := hT
  refine s_pure h (ru_move (h.ev rfl)) rfl ?_; intro f h
  refine s_pure h (ru_extract (h.ev rfl) rfl) rfl ?_; intro f h
  refine s_pure h (ru_extract (h.ev rfl) rfl) rfl ?_; intro f h
  refine s_alloc (idArr 0#256) h s zero23 rfl rfl ?_; intro f w1 b7 h s
  refine s_store_row 0 h s row23 rfl rfl rfl (idArr_size _) (idArr_size _) (idArr_ones _) ?_; intro w1 s
  refine s_pure h (ru_assign (h.ev rfl)) rfl ?_; intro f h
  refine s_nil ?_
  refine hK4 _ _ ?_
  refine c_seq fun K5 hK5 => ?_
  refine c_seq fun K6 hK6 => ?_
  cases hx : (pok (sx.extract 0 (min sx.size 70)) : Bool)
  · skip
    refine c_region ?_
    refine s_load_row 1 h s row23 rfl rfl (idArr_size _) rfl ?_; intro f h
    refine s_load_row 0 h s row23 rfl rfl (idArr_size _) rfl ?_; intro f h
    refine s_pure h (ru_val (.bool false) (ru_neq_id idTy (h.ev rfl) (h.ev rfl)) (congrArg Value.bool (decide_eq_false (not_not_intro rfl)))) rfl ?_; intro f h
    refine s_pure h (ru_move (h.ev rfl)) rfl ?_; intro f h
    refine s_on h rfl rfl rfl ?_
    refine s_pure h (ru_move (h.ev rfl)) rfl ?_; intro f h
    refine s_on h rfl rfl rfl ?_
    refine s_pure h (ru_eql (h.ev rfl) (h.ev rfl)) rfl ?_; intro f h
    refine s_on h rfl rfl rfl ?_
    refine s_pure h (ru_move (h.ev rfl)) rfl ?_; intro f h
    refine s_on h rfl rfl rfl ?_
    refine s_pure h (ru_val (.bool false) (ru_neq_bool Try.underlying4 (h.ev rfl) (h.ev rfl)) (congrArg Value.bool (by simp [hx]))) rfl ?_; intro f h
    refine s_pure h (ru_pick_f (h.ev rfl) (h.ev rfl)) rfl ?_; intro f h
    refine s_pure h (ru_move (h.ev rfl)) rfl ?_; intro f h
    refine s_on h rfl rfl rfl ?_
    refine s_pure h (ru_val (.bool false) (ru_move (h.ev rfl)) (congrArg Value.bool hx)) rfl ?_; intro f h
    refine s_on h rfl rfl rfl ?_
    refine s_pure h (ru_val (.bool true) (ru_not (h.ev rfl)) rfl) rfl ?_; intro f h
    refine s_on h rfl rfl rfl ?_
    refine s_pure h (ru_move (h.ev rfl)) rfl ?_; intro f h
    refine s_on h rfl rfl rfl ?_
    refine s_pure h (ru_move (h.ev rfl)) rfl ?_; intro f h
    refine s_on h rfl rfl rfl ?_
    refine s_pure h (ru_val (.bool false) (ru_neq (h.ev rfl) (h.ev rfl)) (congrArg Value.bool (by simp [hx]))) rfl ?_; intro f h
    refine s_on h rfl rfl rfl ?_
    refine s_pure h (ru_pick_t (h.ev rfl) (h.ev rfl)) rfl ?_; intro f h
    refine s_pure h (ru_pick_f (h.ev rfl) (h.ev rfl)) rfl ?_; intro f h
    refine s_pure h (ru_move (h.ev rfl)) rfl ?_; intro f h
    refine s_on h rfl rfl rfl ?_
    refine s_pure h (ru_val (.bool false) (ru_move (h.ev rfl)) (congrArg Value.bool hx)) rfl ?_; intro f h
    refine s_on h rfl rfl rfl ?_
    refine s_pure h (ru_move (h.ev rfl)) rfl ?_; intro f h
    refine s_off (b := true) h rfl rfl rfl rfl ?_; intro f h
    refine s_off (b := true) h rfl rfl rfl rfl ?_; intro f h
    refine s_off (b := true) h rfl rfl rfl rfl ?_; intro f h
    refine s_off (b := true) h rfl rfl rfl rfl ?_; intro f h
    refine s_on h rfl rfl rfl ?_
    refine s_pure h (ru_pick_f (h.ev rfl) (h.ev rfl)) rfl ?_; intro f h
    refine s_pure h (ru_pick_f (h.ev rfl) (h.ev rfl)) rfl ?_; intro f h
    refine s_pure h (ru_move (h.ev rfl)) rfl ?_; intro f h
    refine s_on h rfl rfl rfl ?_
    refine s_call h s fnc15 (alive_any _) rfl rfl ?_; intro f w1 v9 hT hE h s; obtain rfl := hT
    refine s_on h rfl rfl rfl ?_
    refine s_pure h (ru_val (.bool false) (ru_not (h.ev rfl)) rfl) rfl ?_; intro f h
    refine s_pure h (ru_pick_f (h.ev rfl) (h.ev rfl)) rfl ?_; intro f h
    refine s_nil ?_
    refine hK6 _ _ ?_
    refine wp_cond_false (h.ev rfl) ?_
    refine wp_skip ?_
    refine hK5 _ _ ?_
    refine c_seq fun K7 hK7 => ?_
    refine c_region ?_
    refine s_load_row 2 h s row23 rfl rfl (idArr_size _) rfl ?_; intro f h
    refine s_call h s fnc24 (text_any _ _) rfl rfl ?_; intro f w1 v9 hT hE h s; obtain rfl := hT
    refine s_call h s fnc22 (parse_any _ _) rfl rfl ?_; intro f w1 v9 hT hE h s; obtain rfl := hT
    refine s_pure h (ru_move (h.ev rfl)) rfl ?_; intro f h
    refine s_pure h (ru_extract (h.ev rfl) rfl) rfl ?_; intro f h
    refine s_pure h (ru_extract (h.ev rfl) rfl) rfl ?_; intro f h
    refine s_alloc (idArr 0#256) h s zero23 rfl rfl ?_; intro f w1 b9 h s
    refine s_store_row 0 h s row23 rfl rfl rfl (idArr_size _) (idArr_size _) (idArr_ones _) ?_; intro w1 s
    refine s_pure h (ru_assign (h.ev rfl)) rfl ?_; intro f h
    refine s_nil ?_
    refine hK7 _ _ ?_
    refine c_seq fun K8 hK8 => ?_
    refine c_walkN 15 [[], [0], [], [0, 1, 2], [0, 1, 2, 3], [0, 1, 2, 3, 4], [0, 1, 2, 3, 4, 5], [0, 1, 2, 3, 4, 5, 6], [0, 1, 2, 3, 4, 5, 6, 7], [0, 1, 2, 3, 4, 5, 6, 7, 8], [0, 1, 2, 3, 4, 5, 6, 7, 8, 9], [0, 1, 2, 3, 4, 5, 6, 7, 8, 9], [0, 1, 2, 3, 4, 5, 6, 7, 8, 9, 10, 11], [0, 1, 2, 3, 4, 5, 6, 7, 8, 9, 10, 11, 12], [0, 1, 2, 3, 4, 5, 6, 7, 8, 9, 10, 11, 12, 13]] h (by kernel_rfl) (by kernel_rfl) (by kernel_rfl) ?_
    refine w_load_row 3 h s row23 rfl rfl (idArr_size _) rfl ?_; intro f h
    refine w_call h fnc24 (text_any _) rfl rfl ?_; intro f h
    refine w_load_row 3 h s row23 rfl rfl (idArr_size _) rfl ?_; intro f h
    refine w_call h fnc25 (rtext_any _) rfl rfl ?_; intro f h
    refine w_pure h (ru_val (.bool true) (ru_eql_str (h.ev rfl) (h.ev rfl)) (congrArg Value.bool (decide_eq_true (rfl)))) rfl ?_; intro f h
    refine w_pure h (ru_move (h.ev rfl)) rfl ?_; intro f h
    refine w_on h rfl rfl rfl ?_
    refine w_pure h (ru_move (h.ev rfl)) rfl ?_; intro f h
    refine w_on h rfl rfl rfl ?_
    refine w_pure h (ru_val (.bool true) (ru_eql (h.ev rfl) (h.ev rfl)) (congrArg Value.bool (by simp [pok_text]))) rfl ?_; intro f h
    refine w_pure h (ru_pick_t (h.ev rfl) (h.ev rfl)) rfl ?_; intro f h
    refine w_pure h (ru_move (h.ev rfl)) rfl ?_; intro f h
    refine w_on h rfl rfl rfl ?_
    refine w_load_row 0 h s row23 rfl rfl (idArr_size _) rfl ?_; intro f h
    refine w_on h rfl rfl rfl ?_
    refine w_load_row 3 h s row23 rfl rfl (idArr_size _) rfl ?_; intro f h
    refine w_on h rfl rfl rfl ?_
    refine w_pure h (ru_val (.bool true) (ru_eql_id idTy (h.ev rfl) (h.ev rfl)) (congrArg Value.bool (decide_eq_true (by rw [if_pos (pok_text a), pid_text])))) rfl ?_; intro f h
    refine w_pure h (ru_pick_t (h.ev rfl) (h.ev rfl)) rfl ?_; intro f h
    refine w_pure h (ru_assign (h.ev rfl)) rfl ?_; intro f h
    refine w_nil s fun w1 s => ?_
    refine s_nil ?_
    refine hK8 _ _ ?_
    refine wp_ret ?_
    exact e_tmp rfl h s rfl (rfl)
  · skip
    refine c_region ?_
    refine s_load_row 1 h s row23 rfl rfl (idArr_size _) rfl ?_; intro f h
    refine s_load_row 0 h s row23 rfl rfl (idArr_size _) rfl ?_; intro f h
    refine s_pure h (ru_val (.bool false) (ru_neq_id idTy (h.ev rfl) (h.ev rfl)) (congrArg Value.bool (decide_eq_false (not_not_intro rfl)))) rfl ?_; intro f h
    refine s_pure h (ru_move (h.ev rfl)) rfl ?_; intro f h
    refine s_on h rfl rfl rfl ?_
    refine s_pure h (ru_move (h.ev rfl)) rfl ?_; intro f h
    refine s_on h rfl rfl rfl ?_
    refine s_pure h (ru_eql (h.ev rfl) (h.ev rfl)) rfl ?_; intro f h
    refine s_on h rfl rfl rfl ?_
    refine s_pure h (ru_move (h.ev rfl)) rfl ?_; intro f h
    refine s_on h rfl rfl rfl ?_
    refine s_pure h (ru_val (.bool false) (ru_neq_bool Try.underlying4 (h.ev rfl) (h.ev rfl)) (congrArg Value.bool (by simp [hx]))) rfl ?_; intro f h
    refine s_pure h (ru_pick_f (h.ev rfl) (h.ev rfl)) rfl ?_; intro f h
    refine s_pure h (ru_move (h.ev rfl)) rfl ?_; intro f h
    refine s_on h rfl rfl rfl ?_
    refine s_pure h (ru_val (.bool true) (ru_move (h.ev rfl)) (congrArg Value.bool hx)) rfl ?_; intro f h
    refine s_on h rfl rfl rfl ?_
    refine s_pure h (ru_val (.bool false) (ru_not (h.ev rfl)) rfl) rfl ?_; intro f h
    refine s_on h rfl rfl rfl ?_
    refine s_pure h (ru_move (h.ev rfl)) rfl ?_; intro f h
    refine s_off (b := true) h rfl rfl rfl rfl ?_; intro f h
    refine s_off (b := true) h rfl rfl rfl rfl ?_; intro f h
    refine s_on h rfl rfl rfl ?_
    refine s_pure h (ru_pick_f (h.ev rfl) (h.ev rfl)) rfl ?_; intro f h
    refine s_pure h (ru_pick_f (h.ev rfl) (h.ev rfl)) rfl ?_; intro f h
    refine s_pure h (ru_move (h.ev rfl)) rfl ?_; intro f h
    refine s_on h rfl rfl rfl ?_
    refine s_pure h (ru_val (.bool true) (ru_move (h.ev rfl)) (congrArg Value.bool hx)) rfl ?_; intro f h
    refine s_on h rfl rfl rfl ?_
    refine s_pure h (ru_move (h.ev rfl)) rfl ?_; intro f h
    refine s_on h rfl rfl rfl ?_
    refine s_load_row 1 h s row23 rfl rfl (idArr_size _) rfl ?_; intro f h
    refine s_on h rfl rfl rfl ?_
    refine s_call h s fnc24 (text_any _ _) rfl rfl ?_; intro f w1 v9 hT hE h s; obtain rfl := hT
    refine s_on h rfl rfl rfl ?_
    refine s_pure h (ru_move (h.ev rfl)) rfl ?_; intro f h
    refine s_on h rfl rfl rfl ?_
    refine s_pure h (ru_val (.bool false) (ru_neq_str (h.ev rfl) (h.ev rfl)) (congrArg Value.bool (decide_eq_false (not_not_intro (by rw [if_pos hx, text_pid _ hx]))))) rfl ?_; intro f h
    refine s_on h rfl rfl rfl ?_
    refine s_pure h (ru_pick_t (h.ev rfl) (h.ev rfl)) rfl ?_; intro f h
    refine s_pure h (ru_pick_f (h.ev rfl) (h.ev rfl)) rfl ?_; intro f h
    refine s_pure h (ru_move (h.ev rfl)) rfl ?_; intro f h
    refine s_on h rfl rfl rfl ?_
    refine s_call h s fnc15 (alive_any _) rfl rfl ?_; intro f w1 v9 hT hE h s; obtain rfl := hT
    refine s_on h rfl rfl rfl ?_
    refine s_pure h (ru_val (.bool false) (ru_not (h.ev rfl)) rfl) rfl ?_; intro f h
    refine s_pure h (ru_pick_f (h.ev rfl) (h.ev rfl)) rfl ?_; intro f h
    refine s_nil ?_
    refine hK6 _ _ ?_
    refine wp_cond_false (h.ev rfl) ?_
    refine wp_skip ?_
    refine hK5 _ _ ?_
    refine c_seq fun K9 hK9 => ?_
    refine c_region ?_
    refine s_load_row 2 h s row23 rfl rfl (idArr_size _) rfl ?_; intro f h
    refine s_call h s fnc24 (text_any _ _) rfl rfl ?_; intro f w1 v9 hT hE h s; obtain rfl := hT
    refine s_call h s fnc22 (parse_any _ _) rfl rfl ?_; intro f w1 v9 hT hE h s; obtain rfl := hT
    refine s_pure h (ru_move (h.ev rfl)) rfl ?_; intro f h
    refine s_pure h (ru_extract (h.ev rfl) rfl) rfl ?_; intro f h
    refine s_pure h (ru_extract (h.ev rfl) rfl) rfl ?_; intro f h
    refine s_alloc (idArr 0#256) h s zero23 rfl rfl ?_; intro f w1 b9 h s
    refine s_store_row 0 h s row23 rfl rfl rfl (idArr_size _) (idArr_size _) (idArr_ones _) ?_; intro w1 s
    refine s_pure h (ru_assign (h.ev rfl)) rfl ?_; intro f h
    refine s_nil ?_
    refine hK9 _ _ ?_
    refine c_seq fun K10 hK10 => ?_
    refine c_walkN 15 [[], [0], [], [0, 1, 2], [0, 1, 2, 3], [0, 1, 2, 3, 4], [0, 1, 2, 3, 4, 5], [0, 1, 2, 3, 4, 5, 6], [0, 1, 2, 3, 4, 5, 6, 7], [0, 1, 2, 3, 4, 5, 6, 7, 8], [0, 1, 2, 3, 4, 5, 6, 7, 8, 9], [0, 1, 2, 3, 4, 5, 6, 7, 8, 9], [0, 1, 2, 3, 4, 5, 6, 7, 8, 9, 10, 11], [0, 1, 2, 3, 4, 5, 6, 7, 8, 9, 10, 11, 12], [0, 1, 2, 3, 4, 5, 6, 7, 8, 9, 10, 11, 12, 13]] h (by kernel_rfl) (by kernel_rfl) (by kernel_rfl) ?_
    refine w_load_row 3 h s row23 rfl rfl (idArr_size _) rfl ?_; intro f h
    refine w_call h fnc24 (text_any _) rfl rfl ?_; intro f h
    refine w_load_row 3 h s row23 rfl rfl (idArr_size _) rfl ?_; intro f h
    refine w_call h fnc25 (rtext_any _) rfl rfl ?_; intro f h
    refine w_pure h (ru_val (.bool true) (ru_eql_str (h.ev rfl) (h.ev rfl)) (congrArg Value.bool (decide_eq_true (rfl)))) rfl ?_; intro f h
    refine w_pure h (ru_move (h.ev rfl)) rfl ?_; intro f h
    refine w_on h rfl rfl rfl ?_
    refine w_pure h (ru_move (h.ev rfl)) rfl ?_; intro f h
    refine w_on h rfl rfl rfl ?_
    refine w_pure h (ru_val (.bool true) (ru_eql (h.ev rfl) (h.ev rfl)) (congrArg Value.bool (by simp [pok_text]))) rfl ?_; intro f h
    refine w_pure h (ru_pick_t (h.ev rfl) (h.ev rfl)) rfl ?_; intro f h
    refine w_pure h (ru_move (h.ev rfl)) rfl ?_; intro f h
    refine w_on h rfl rfl rfl ?_
    refine w_load_row 0 h s row23 rfl rfl (idArr_size _) rfl ?_; intro f h
    refine w_on h rfl rfl rfl ?_
    refine w_load_row 3 h s row23 rfl rfl (idArr_size _) rfl ?_; intro f h
    refine w_on h rfl rfl rfl ?_
    refine w_pure h (ru_val (.bool true) (ru_eql_id idTy (h.ev rfl) (h.ev rfl)) (congrArg Value.bool (decide_eq_true (by rw [if_pos (pok_text a), pid_text])))) rfl ?_; intro f h
    refine w_pure h (ru_pick_t (h.ev rfl) (h.ev rfl)) rfl ?_; intro f h
    refine w_pure h (ru_assign (h.ev rfl)) rfl ?_; intro f h
    refine w_nil s fun w1 s => ?_
    refine s_nil ?_
    refine hK10 _ _ ?_
    refine wp_ret ?_
    exact e_tmp rfl h s rfl (rfl)
end Go.Proofs.Ytdnbjpjhnacigaa
