/- What DigestCuts answers: for all arguments. -/
import Derived.Test.YtgibljbfepaniaaDoorVb
import Derived.Test.YtgibljbfepaniaaDoorSh
set_option linter.unusedVariables false
set_option linter.unusedSimpArgs false
namespace Go.Proofs.YtgibljbfepaniaaDoor
open Go.RowKit
theorem sum_rd (sx : ByteArray) (ps : List ByteArray) (hcat : catB ps = sx) (hsz : sx.size < 2147483648) (hln : ps.length < 2147483648) (v9 : Value) (w : World) (hR : Rd w v9 ps.length (ps.map Value.string)) (hH : Tab w 0 (wF hTab 8)) (hK : Tab w 1 (wF kTab 64)) :
    Calls Tryd.prog 9 [v9].toArray w (Ret w (is (idV (sumB sx)))) := by
  obtain ⟨a, c, rfl⟩ := hR.len
  exact sum_any sx ps hcat hsz hln a _ c w hR hH hK
theorem join_any (xs : List ByteArray) (v9 : Value) (base : Nat) (e9 : TypeId) (w : World) (hO : Owns w base e9 1 v9 xs.length (xs.map Value.string)) (hln : xs.length ≤ 140737488355328) (hsz : (catB xs).size ≤ 140737488355328) :
    Calls Tryd.prog 8 [v9, .string ⟨#[]⟩].toArray w (Ret w (is (.string (catB xs)))) := by
  rcases hO.2 with ⟨rfl, h0⟩ | ⟨g, cap, cur, fz, rfl, hb, hg, _, hnc, hcm, _, _⟩
  · obtain rfl : xs = [] := List.eq_nil_of_length_eq_zero h0
    refine (Any.strings_Join_none Tryd.lays156 Tryd.Builder_Extra_156 none 0 ⟨#[]⟩ w).mono ?_
    rintro e w' ⟨rfl, rfl⟩
    exact ⟨_, rfl, rfl, Ext.refl _⟩
  · have hlen : (Lib.join (xs.map (·.data.toList)) (⟨#[]⟩ : ByteArray).data.toList).length ≤ 140737488355328 := by
      have : (⟨#[]⟩ : ByteArray).data.toList = [] := rfl
      rw [this, join_cat, Array.length_toList]
      exact hsz
    refine (Any.strings_Join Tryd.lays156 Tryd.Builder_Extra_156 g 0 cap xs ⟨#[]⟩ w (fun j x hx => ?_) (Array.getElem?_eq_some_iff.1 hg).1 hln hnc hlen).mono ?_
    · have h2 := hO.cells (g := g) rfl j (.string x) (by rw [List.getElem?_map, hx]; rfl)
      have hadd : (⟨g, 0, none⟩ : Addr).add j = ⟨g, 0 + j, none⟩ := by unfold Addr.add; split <;> simp_all
      rw [hadd] at h2; exact h2
    · rintro e w' ⟨rfl, hB⟩
      have : (⟨#[]⟩ : ByteArray).data.toList = [] := rfl
      rw [this, join_cat']
      exact ⟨_, rfl, rfl, hB⟩

theorem dcuts_any (v9 : Value) (qs : List ByteArray) (w : World) (hR9 : Rd w v9 qs.length (qs.map Value.string)) (hH : Tab w 0 (wF hTab 8)) (hK : Tab w 1 (wF kTab 64)) : Calls Tryd.prog 4 [v9].toArray w (Ret w (is (.bool true))) := by
  obtain ⟨k8, hk8⟩ : ∃ k8, k8 = min qs.length 8 := ⟨_, rfl⟩
  have hRc := hR9.cut k8 (by omega)
  refine c_enter Tryd.func4 rfl Tryd.ntmps4 rfl [(0, v9)] (by simp) fun f h => ?_
  have s := St.start w
  refine c_seq fun K1 hK1 => ?_
  refine c_region ?_
  refine s_pure h (ru_assign (h.ev rfl)) rfl ?_; intro f h
  refine s_nil ?_
  refine hK1 _ _ ?_
  refine c_seq fun K2 hK2 => ?_
  refine c_region ?_
  refine s_pure h (ru_assign (h.ev rfl)) rfl ?_; intro f h
  replace s := s.nilSl 9 1
  obtain ⟨v3, hv3⟩ : ∃ v3, v3 = Value.slice none 0 0 := ⟨_, rfl⟩
  rw [← hv3] at h s
  refine s_nil ?_
  refine hK2 _ _ ?_
  refine c_seq fun K3 hK3 => ?_
  refine c_seq fun K4 hK4 => ?_
  refine c_region ?_
  refine s_pure h (ru_move (h.ev rfl)) rfl ?_; intro f h
  refine s_pure h (ru_move (h.ev rfl)) rfl ?_; intro f h
  refine s_pure h (ru_lenR hR9 Tryd.underlying28 (h.ev rfl)) rfl ?_; intro f h
  refine s_pure h (ru_min (h.ev rfl) (h.ev rfl)) rfl ?_; intro f h
  refine s_pure h (ru_slice_sl_hi hR9 (k8) Tryd.underlying28 size9 (h.ev rfl) (h.ev rfl) (by split <;> omega) (by omega)) rfl ?_; intro f h
  refine s_pure h (ru_lenR hRc Tryd.underlying28 (h.ev rfl)) rfl ?_; intro f h
  refine s_pure h (ru_move (h.ev rfl)) rfl ?_; intro f h
  refine s_nil ?_
  refine hK4 _ _ ?_
  refine wpIn_block ?_
  refine wpIn_loop_ghost (fun nn aa ww => ∃ i : Nat, ∃ vb : Value, Sl 55 aa [(0, v9), (3, vb), (12, cutV v9 k8), (13, .int .i64 (k8 : Int)), (14, .int .i64 (i : Int))] ∧ St w [.sl vb 9 1 (cutL qs i).length ((cutL qs i).map Value.string)] ww ∧ nn = k8 - i ∧ i ≤ k8) (k8 - (0)) ⟨0, v3, h.only ⟨rfl, rfl, rfl, rfl, slot_int rfl (by omega), trivial⟩, s.as ⟨sl_eq rfl rfl, trivial⟩, rfl, Nat.zero_le _⟩ ?_
  rintro _ f w1 ⟨i, vb, h, s, hnn, hp0⟩
  have hcl := cutL_len qs i (by omega)
  refine c_seq fun K5 hK5 => ?_
  refine c_region ?_
  refine s_pure h (ru_lss (h.ev rfl) (h.ev rfl)) rfl ?_; intro f h
  refine s_nil ?_
  refine hK5 _ _ ?_
  refine c_seq fun K6 hK6 => ?_
  refine c_cond h rfl (fun hc => ?_) (fun hc => ?_)
  · replace hc := of_decide_eq_true hc
    refine wpIn_skip ?_
    refine hK6 _ _ ?_
    refine c_seq fun K7 hK7 => ?_
    refine wpIn_block ?_
    refine c_seq fun K8 hK8 => ?_
    refine c_region ?_
    refine s_pure h (ru_ixs hRc (i) Tryd.underlying28 size9 (h.ev rfl) (h.ev rfl) (by omega) (by omega)) rfl ?_; intro f h
    refine s_load_ext (V := .string (pt qs i)) hRc h s one9 rfl (taken qs k8 i (by omega) (by omega)) rfl ?_; intro f h
    refine s_pure h (ru_assign (h.ev rfl)) rfl ?_; intro f h
    refine s_nil ?_
    refine hK8 _ _ ?_
    refine c_region ?_
    refine s_pure h (ru_move (h.ev rfl)) rfl ?_; intro f h
    refine s_pure h (ru_move (h.ev rfl)) rfl ?_; intro f h
    refine s_pure h (ru_move (h.ev rfl)) rfl ?_; intro f h
    refine s_pure h (ru_len_str Tryd.underlying9 (h.ev rfl)) rfl ?_; intro f h
    refine s_pure h (ru_min (h.ev rfl) (h.ev rfl)) rfl ?_; intro f h
    refine s_pure h (ru_val (.string (cut90 (pt qs i))) (ru_slice_str (min (pt qs i).size 90) Tryd.underlying9 (h.ev rfl) (h.ev rfl) (by split <;> omega) (by omega)) (rfl)) rfl ?_; intro f h
    refine s_bslice (vs := [.string (cut90 (pt qs i))]) [.tmp 23] h s Tryd.underlying28 elm9 rfl rfl (by simp [Value.cells]) rfl rfl rfl ?_; intro f w1 v24 h s
    refine s_append 1 0 h s Tryd.underlying28 elm9 rfl rfl rfl rfl (by decide) (by simp [Value.oneCell', Value.cells]) (by unfold maxLen; omega) (by omega) rfl ?_; intro f w1 v25 h s
    replace s := s.pick _ (List.sublist_cons_self _ _)
    refine s_pure h (ru_assign (h.ev rfl)) rfl ?_; intro f h
    refine s_nil ?_
    refine b_norm ?_
    refine hK7 _ _ ?_
    refine c_region ?_
    refine s_pure h (ru_add (h.ev rfl) (h.ev rfl) (by omega)) rfl ?_; intro f h
    refine s_pure h (ru_move (h.ev rfl)) rfl ?_; intro f h
    refine s_nil ?_
    refine t_norm ?_
    have hcn := cutL_next qs i (by omega)
    exact ⟨_, by omega, ⟨i + 1, v25, h.only ⟨rfl, rfl, rfl, rfl, slot_int rfl (by omega), trivial⟩, St.as s ⟨sl_eq (by rw [hcn, List.length_append]; rfl) (by rw [hcn, List.map_append]; rfl), trivial⟩, rfl, by omega⟩⟩
  · replace hc := of_decide_eq_false hc
    refine wpIn_exit ?_
    refine t_exit ?_
    refine t_exit ?_
    refine b_exit ?_
    refine hK3 _ _ ?_
    refine c_seq fun K9 hK9 => ?_
    refine c_region ?_
    have hcl := cutL_len qs i (by omega)
    have hcs := cutL_size qs i (by omega) (by omega)
    obtain ⟨al, hal⟩ : ∃ al, al = catB (cutL qs i) := ⟨_, rfl⟩
    have hs9 : al.size < 2147483648 := by rw [hal]; omega
    have hsl := al.size
    refine s_pure h (ru_move (h.ev rfl)) rfl ?_; intro f h
    refine s_call h s fnc8 (ret_val (.string al) (join_any (cutL qs i) _ _ _ _ (s.getSl 0 rfl) (by omega) (by omega)) (by rw [hal])) rfl rfl ?_; intro f w1 v9 hT hE h s; obtain rfl := hT
    refine s_pure h (ru_assign (h.ev rfl)) rfl ?_; intro f h
    refine s_nil ?_
    refine hK9 _ _ ?_
    refine c_seq fun K10 hK10 => ?_
    refine c_region ?_
    refine s_pure h (ru_move (h.ev rfl)) rfl ?_; intro f h
    refine s_pure h (ru_len_str Tryd.underlying9 (h.ev rfl)) rfl ?_; intro f h
    refine s_pure h (ru_val (.int .i64 ((al.size / 2 : Nat) : Int)) (ru_quo (h.ev rfl) (h.ev rfl) (by omega)) (congrArg (Value.int .i64) (by omega))) rfl ?_; intro f h
    refine s_pure h (ru_assign (h.ev rfl)) rfl ?_; intro f h
    refine s_nil ?_
    refine hK10 _ _ ?_
    refine c_seq fun K11 hK11 => ?_
    have hRv := Rd.of_own (s.getSl 0 rfl)
    refine c_obs 24 [[], [0], [0, 1], [0, 1, 2], [0, 1], [0, 1, 4], [0, 1, 2, 3, 4, 5], [0, 1, 2, 3, 4, 5, 6], [0, 1, 2, 3, 4, 5, 6, 7], [0, 1, 2, 3, 4, 5, 6, 7, 8], [0, 1, 2, 3, 4, 5, 6, 7, 8, 9], [0, 1, 2, 3, 4, 5, 6, 7, 8, 9], [0, 1, 2, 3, 4, 5, 6, 7, 8, 9, 10, 11], [0, 1, 2, 3, 4, 5, 6, 7, 8, 9], [0, 1, 2, 3, 4, 5, 6, 7, 8, 9], [0, 1, 2, 3, 4, 5, 6, 7, 8, 9, 13, 14], [0, 1, 2, 3, 4, 5, 6, 7, 8, 9, 10, 11, 12, 13, 14, 15], [0, 1, 2, 3, 4, 5, 6, 7, 8, 9, 10, 11, 12, 13, 14, 15, 16], [0, 1, 2, 3, 4, 5, 6, 7, 8, 9], [0, 1, 2, 3, 4, 5, 6, 7, 8, 9, 18], [0, 1, 2, 3, 4, 5, 6, 7, 8, 9, 10, 11, 12, 13, 14, 15, 16, 17, 18, 19], [0, 1, 2, 3, 4, 5, 6, 7, 8, 9, 10, 11, 12, 13, 14, 15, 16, 17, 18, 19, 20], [0, 1, 2, 3, 4, 5, 6, 7, 8, 9, 10, 11, 12, 13, 14, 15, 16, 17, 18, 19, 20, 21], [0, 1, 2, 3, 4, 5, 6, 7, 8, 9, 10, 11, 12, 13, 14, 15, 16, 17, 18, 19, 20, 21, 22]] [is (.bool true), is (.bool true), is vb, is (idV (sumB al)), is (.string al), fun v w => Rd w v 1 ([al].map Value.string), is (idV (sumB al)), is (.bool true), is (.bool true), is (.bool true), is (.string al), is (.int .i64 ((al.size / 2 : Nat) : Int)), is (.string (al.extract 0 (al.size / 2))), is (.string al), is (.int .i64 ((al.size / 2 : Nat) : Int)), is (.string (al.extract (al.size / 2) al.size)), fun v w => Rd w v 3 ([al.extract 0 (al.size / 2), ⟨#[]⟩, al.extract (al.size / 2) al.size].map Value.string), is (idV (sumB al)), is (.string al), fun v w => Rd w v 1 ([al].map Value.string), is (idV (sumB al)), is (.bool true), is (.bool true), is (.bool true)] [(2, .bool true)] h s (by kernel_rfl) (by kernel_rfl) rfl ⟨is_mono _, is_mono _, is_mono _, is_mono _, is_mono _, Rd.mono, is_mono _, is_mono _, is_mono _, is_mono _, is_mono _, is_mono _, is_mono _, is_mono _, is_mono _, is_mono _, Rd.mono, is_mono _, is_mono _, Rd.mono, is_mono _, is_mono _, is_mono _, is_mono _, trivial⟩ (And.intro ?_ (And.intro ?_ (And.intro ?_ (And.intro ?_ (And.intro ?_ (And.intro ?_ (And.intro ?_ (And.intro ?_ (And.intro ?_ (And.intro ?_ (And.intro ?_ (And.intro ?_ (And.intro ?_ (And.intro ?_ (And.intro ?_ (And.intro ?_ (And.intro ?_ (And.intro ?_ (And.intro ?_ (And.intro ?_ (And.intro ?_ (And.intro ?_ (And.intro ?_ (And.intro ?_ (trivial))))))))))))))))))))))))) ?_ ?_
    · intro f9 w2 hE hs hl
      refine want_pos rfl ?_
      exact does_ret [] fnc7 rfl (by simp) (alive_any w2 (hH.keep (s.ext.trans hE)) (hK.keep (s.ext.trans hE)))
    · intro f9 w2 hE hs hl
      have e32 : (is (.bool true)) (f9.tmps.getD 32 undef) w2 := ob_get hl 32 0 (by kernel_rfl) (by kernel_rfl)
      refine want_pos rfl ?_
      exact (ru_move (X := f9.eval (.tmp 32)) rfl).does ⟨e32, Ext.refl _⟩
    · intro f9 w2 hE hs hl
      have e3 : f9.tmps.getD 3 undef = _ := (ob_old hl 3 (by kernel_rfl) (by kernel_rfl)).trans (h.holds 3 _ rfl)
      have e33 : (is (.bool true)) (f9.tmps.getD 33 undef) w2 := ob_get hl 33 1 (by kernel_rfl) (by kernel_rfl)
      refine want_pos ((wanted_of (c := true) (b := true) rfl rfl rfl e33).trans rfl) ?_
      exact (ru_move (X := f9.eval (.tmp 3)) rfl).does ⟨e3, Ext.refl _⟩
    · intro f9 w2 hE hs hl
      have e34 : (is vb) (f9.tmps.getD 34 undef) w2 := ob_get hl 34 2 (by kernel_rfl) (by kernel_rfl)
      have e33 : (is (.bool true)) (f9.tmps.getD 33 undef) w2 := ob_get hl 33 1 (by kernel_rfl) (by kernel_rfl)
      refine want_pos ((wanted_of (c := true) (b := true) rfl rfl rfl e33).trans rfl) ?_
      exact does_ret [vb] fnc9 rfl (arr1 e34) (sum_rd al (cutL qs i) hal.symm hs9 (by omega) vb w2 (hRv.keep hE) (hH.keep (s.ext.trans hE)) (hK.keep (s.ext.trans hE)))
    · intro f9 w2 hE hs hl
      have e6 : f9.tmps.getD 6 undef = _ := (ob_old hl 6 (by kernel_rfl) (by kernel_rfl)).trans (h.holds 6 _ rfl)
      have e33 : (is (.bool true)) (f9.tmps.getD 33 undef) w2 := ob_get hl 33 1 (by kernel_rfl) (by kernel_rfl)
      refine want_pos ((wanted_of (c := true) (b := true) rfl rfl rfl e33).trans rfl) ?_
      exact (ru_move (X := f9.eval (.tmp 6)) rfl).does ⟨e6, Ext.refl _⟩
    · intro f9 w2 hE hs hl
      have e36 : (is (.string al)) (f9.tmps.getD 36 undef) w2 := ob_get hl 36 4 (by kernel_rfl) (by kernel_rfl)
      have e33 : (is (.bool true)) (f9.tmps.getD 33 undef) w2 := ob_get hl 33 1 (by kernel_rfl) (by kernel_rfl)
      refine want_pos ((wanted_of (c := true) (b := true) rfl rfl rfl e33).trans rfl) ?_
      exact does_bslice [.tmp 36] [.string al] Tryd.underlying28 elm9 rfl (map1 e36) (by simp [Value.cells]) rfl rfl
    · intro f9 w2 hE hs hl
      have e37 : (fun v w => Rd w v 1 ([al].map Value.string)) (f9.tmps.getD 37 undef) w2 := ob_get hl 37 5 (by kernel_rfl) (by kernel_rfl)
      have e33 : (is (.bool true)) (f9.tmps.getD 33 undef) w2 := ob_get hl 33 1 (by kernel_rfl) (by kernel_rfl)
      refine want_pos ((wanted_of (c := true) (b := true) rfl rfl rfl e33).trans rfl) ?_
      exact does_ret [_] fnc9 rfl (arr1 rfl) (sum_rd al [al] (catB_one al) hs9 (by simp) _ w2 (e37) (hH.keep (s.ext.trans hE)) (hK.keep (s.ext.trans hE)))
    · intro f9 w2 hE hs hl
      have e35 : (is (idV (sumB al))) (f9.tmps.getD 35 undef) w2 := ob_get hl 35 3 (by kernel_rfl) (by kernel_rfl)
      have e38 : (is (idV (sumB al))) (f9.tmps.getD 38 undef) w2 := ob_get hl 38 6 (by kernel_rfl) (by kernel_rfl)
      have e33 : (is (.bool true)) (f9.tmps.getD 33 undef) w2 := ob_get hl 33 1 (by kernel_rfl) (by kernel_rfl)
      refine want_pos ((wanted_of (c := true) (b := true) rfl rfl rfl e33).trans rfl) ?_
      exact Does.is (ru_val (.bool true) (ru_eql_id idTy e35 e38) (congrArg Value.bool (decide_eq_true rfl)))
    · intro f9 w2 hE hs hl
      have e33 : (is (.bool true)) (f9.tmps.getD 33 undef) w2 := ob_get hl 33 1 (by kernel_rfl) (by kernel_rfl)
      have e39 : (is (.bool true)) (f9.tmps.getD 39 undef) w2 := ob_get hl 39 7 (by kernel_rfl) (by kernel_rfl)
      refine want_pos rfl ?_
      exact Does.is (ru_pick_t e33 e39)
    · intro f9 w2 hE hs hl
      have e40 : (is (.bool true)) (f9.tmps.getD 40 undef) w2 := ob_get hl 40 8 (by kernel_rfl) (by kernel_rfl)
      refine want_pos rfl ?_
      exact (ru_move (X := f9.eval (.tmp 40)) rfl).does ⟨e40, Ext.refl _⟩
    · intro f9 w2 hE hs hl
      have e6 : f9.tmps.getD 6 undef = _ := (ob_old hl 6 (by kernel_rfl) (by kernel_rfl)).trans (h.holds 6 _ rfl)
      have e41 : (is (.bool true)) (f9.tmps.getD 41 undef) w2 := ob_get hl 41 9 (by kernel_rfl) (by kernel_rfl)
      refine want_pos ((wanted_of (c := true) (b := true) rfl rfl rfl e41).trans rfl) ?_
      exact (ru_move (X := f9.eval (.tmp 6)) rfl).does ⟨e6, Ext.refl _⟩
    · intro f9 w2 hE hs hl
      have e7 : f9.tmps.getD 7 undef = _ := (ob_old hl 7 (by kernel_rfl) (by kernel_rfl)).trans (h.holds 7 _ rfl)
      have e41 : (is (.bool true)) (f9.tmps.getD 41 undef) w2 := ob_get hl 41 9 (by kernel_rfl) (by kernel_rfl)
      refine want_pos ((wanted_of (c := true) (b := true) rfl rfl rfl e41).trans rfl) ?_
      exact (ru_move (X := f9.eval (.tmp 7)) rfl).does ⟨e7, Ext.refl _⟩
    · intro f9 w2 hE hs hl
      have e42 : (is (.string al)) (f9.tmps.getD 42 undef) w2 := ob_get hl 42 10 (by kernel_rfl) (by kernel_rfl)
      have e43 : (is (.int .i64 ((al.size / 2 : Nat) : Int))) (f9.tmps.getD 43 undef) w2 := ob_get hl 43 11 (by kernel_rfl) (by kernel_rfl)
      have e41 : (is (.bool true)) (f9.tmps.getD 41 undef) w2 := ob_get hl 41 9 (by kernel_rfl) (by kernel_rfl)
      refine want_pos ((wanted_of (c := true) (b := true) rfl rfl rfl e41).trans rfl) ?_
      exact Does.is (ru_slice_str (al.size / 2) Tryd.underlying9 e42 e43 rfl (by omega))
    · intro f9 w2 hE hs hl
      have e6 : f9.tmps.getD 6 undef = _ := (ob_old hl 6 (by kernel_rfl) (by kernel_rfl)).trans (h.holds 6 _ rfl)
      have e41 : (is (.bool true)) (f9.tmps.getD 41 undef) w2 := ob_get hl 41 9 (by kernel_rfl) (by kernel_rfl)
      refine want_pos ((wanted_of (c := true) (b := true) rfl rfl rfl e41).trans rfl) ?_
      exact (ru_move (X := f9.eval (.tmp 6)) rfl).does ⟨e6, Ext.refl _⟩
    · intro f9 w2 hE hs hl
      have e7 : f9.tmps.getD 7 undef = _ := (ob_old hl 7 (by kernel_rfl) (by kernel_rfl)).trans (h.holds 7 _ rfl)
      have e41 : (is (.bool true)) (f9.tmps.getD 41 undef) w2 := ob_get hl 41 9 (by kernel_rfl) (by kernel_rfl)
      refine want_pos ((wanted_of (c := true) (b := true) rfl rfl rfl e41).trans rfl) ?_
      exact (ru_move (X := f9.eval (.tmp 7)) rfl).does ⟨e7, Ext.refl _⟩
    · intro f9 w2 hE hs hl
      have e45 : (is (.string al)) (f9.tmps.getD 45 undef) w2 := ob_get hl 45 13 (by kernel_rfl) (by kernel_rfl)
      have e46 : (is (.int .i64 ((al.size / 2 : Nat) : Int))) (f9.tmps.getD 46 undef) w2 := ob_get hl 46 14 (by kernel_rfl) (by kernel_rfl)
      have e41 : (is (.bool true)) (f9.tmps.getD 41 undef) w2 := ob_get hl 41 9 (by kernel_rfl) (by kernel_rfl)
      refine want_pos ((wanted_of (c := true) (b := true) rfl rfl rfl e41).trans rfl) ?_
      exact Does.is (ru_slice_str_lo (al.size / 2) Tryd.underlying9 e45 e46 rfl (by omega))
    · intro f9 w2 hE hs hl
      have e44 : (is (.string (al.extract 0 (al.size / 2)))) (f9.tmps.getD 44 undef) w2 := ob_get hl 44 12 (by kernel_rfl) (by kernel_rfl)
      have e47 : (is (.string (al.extract (al.size / 2) al.size))) (f9.tmps.getD 47 undef) w2 := ob_get hl 47 15 (by kernel_rfl) (by kernel_rfl)
      have e41 : (is (.bool true)) (f9.tmps.getD 41 undef) w2 := ob_get hl 41 9 (by kernel_rfl) (by kernel_rfl)
      refine want_pos ((wanted_of (c := true) (b := true) rfl rfl rfl e41).trans rfl) ?_
      exact does_bslice [.tmp 44, .const (.string ⟨#[]⟩), .tmp 47] [.string (al.extract 0 (al.size / 2)), .string ⟨#[]⟩, .string (al.extract (al.size / 2) al.size)] Tryd.underlying28 elm9 rfl (map3 e44 rfl e47) (by simp [Value.cells]) rfl rfl
    · intro f9 w2 hE hs hl
      have e48 : (fun v w => Rd w v 3 ([al.extract 0 (al.size / 2), ⟨#[]⟩, al.extract (al.size / 2) al.size].map Value.string)) (f9.tmps.getD 48 undef) w2 := ob_get hl 48 16 (by kernel_rfl) (by kernel_rfl)
      have e41 : (is (.bool true)) (f9.tmps.getD 41 undef) w2 := ob_get hl 41 9 (by kernel_rfl) (by kernel_rfl)
      refine want_pos ((wanted_of (c := true) (b := true) rfl rfl rfl e41).trans rfl) ?_
      exact does_ret [_] fnc9 rfl (arr1 rfl) (sum_rd al [al.extract 0 (al.size / 2), ⟨#[]⟩, al.extract (al.size / 2) al.size] (cat_three al _ (by omega)) hs9 (by simp) _ w2 (e48) (hH.keep (s.ext.trans hE)) (hK.keep (s.ext.trans hE)))
    · intro f9 w2 hE hs hl
      have e6 : f9.tmps.getD 6 undef = _ := (ob_old hl 6 (by kernel_rfl) (by kernel_rfl)).trans (h.holds 6 _ rfl)
      have e41 : (is (.bool true)) (f9.tmps.getD 41 undef) w2 := ob_get hl 41 9 (by kernel_rfl) (by kernel_rfl)
      refine want_pos ((wanted_of (c := true) (b := true) rfl rfl rfl e41).trans rfl) ?_
      exact (ru_move (X := f9.eval (.tmp 6)) rfl).does ⟨e6, Ext.refl _⟩
    · intro f9 w2 hE hs hl
      have e50 : (is (.string al)) (f9.tmps.getD 50 undef) w2 := ob_get hl 50 18 (by kernel_rfl) (by kernel_rfl)
      have e41 : (is (.bool true)) (f9.tmps.getD 41 undef) w2 := ob_get hl 41 9 (by kernel_rfl) (by kernel_rfl)
      refine want_pos ((wanted_of (c := true) (b := true) rfl rfl rfl e41).trans rfl) ?_
      exact does_bslice [.tmp 50] [.string al] Tryd.underlying28 elm9 rfl (map1 e50) (by simp [Value.cells]) rfl rfl
    · intro f9 w2 hE hs hl
      have e51 : (fun v w => Rd w v 1 ([al].map Value.string)) (f9.tmps.getD 51 undef) w2 := ob_get hl 51 19 (by kernel_rfl) (by kernel_rfl)
      have e41 : (is (.bool true)) (f9.tmps.getD 41 undef) w2 := ob_get hl 41 9 (by kernel_rfl) (by kernel_rfl)
      refine want_pos ((wanted_of (c := true) (b := true) rfl rfl rfl e41).trans rfl) ?_
      exact does_ret [_] fnc9 rfl (arr1 rfl) (sum_rd al [al] (catB_one al) hs9 (by simp) _ w2 (e51) (hH.keep (s.ext.trans hE)) (hK.keep (s.ext.trans hE)))
    · intro f9 w2 hE hs hl
      have e49 : (is (idV (sumB al))) (f9.tmps.getD 49 undef) w2 := ob_get hl 49 17 (by kernel_rfl) (by kernel_rfl)
      have e52 : (is (idV (sumB al))) (f9.tmps.getD 52 undef) w2 := ob_get hl 52 20 (by kernel_rfl) (by kernel_rfl)
      have e41 : (is (.bool true)) (f9.tmps.getD 41 undef) w2 := ob_get hl 41 9 (by kernel_rfl) (by kernel_rfl)
      refine want_pos ((wanted_of (c := true) (b := true) rfl rfl rfl e41).trans rfl) ?_
      exact Does.is (ru_val (.bool true) (ru_eql_id idTy e49 e52) (congrArg Value.bool (decide_eq_true rfl)))
    · intro f9 w2 hE hs hl
      have e41 : (is (.bool true)) (f9.tmps.getD 41 undef) w2 := ob_get hl 41 9 (by kernel_rfl) (by kernel_rfl)
      have e53 : (is (.bool true)) (f9.tmps.getD 53 undef) w2 := ob_get hl 53 21 (by kernel_rfl) (by kernel_rfl)
      refine want_pos rfl ?_
      exact Does.is (ru_pick_t e41 e53)
    · intro f9 w2 hE hs hl
      have e54 : (is (.bool true)) (f9.tmps.getD 54 undef) w2 := ob_get hl 54 22 (by kernel_rfl) (by kernel_rfl)
      refine want_pos rfl ?_
      exact (ru_assign (X := f9.eval (.tmp 54)) rfl).does ⟨e54, Ext.refl _⟩
    · intro f9 w2 hT
      exact ⟨hT 23 _ 2 (by decide) rfl rfl, trivial⟩
    · intro f w1 h s
      refine s_nil ?_
      refine hK11 _ _ ?_
      refine wpIn_ret ?_
      exact e_tmp rfl h s rfl (rfl)
end Go.Proofs.YtgibljbfepaniaaDoor
