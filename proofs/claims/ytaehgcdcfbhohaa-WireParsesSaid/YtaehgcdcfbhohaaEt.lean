/- Entries, stacks and their bytes: what may be, what is written, what is read; slices of entries; no Go in it. -/
import Derived.Lib.AppendZeros
import Derived.Deep.Slices
import Derived.Test.YtaehgcdcfbhohaaPr
set_option linter.unusedVariables false
set_option linter.unusedSimpArgs false
set_option linter.unusedSectionVars false
namespace Go.Proofs.Ytaehgcdcfbhohaa
open Go.RowKit
/-! ### entries: a kind, an identifier, a host -/
abbrev Ent := Int × Id × Int
def eArr (e : Ent) : Array Value := (Value.int .i64 e.1 :: ((idArr e.2.1).toList ++ [.int .i64 e.2.2])).toArray
theorem eArr_size (e : Ent) : (eArr e).size = 34 := by simp [eArr]
theorem eArr_list (e : Ent) : (eArr e).toList = Value.int .i64 e.1 :: ((idArr e.2.1).toList ++ [.int .i64 e.2.2]) := rfl
theorem eArr_ones (e : Ent) : ∀ v ∈ (eArr e).toList, v.oneCell' = true := fun v hv => by
  rw [eArr_list] at hv
  rcases List.mem_cons.1 hv with rfl | hv
  · simp [Value.oneCell', Value.cells]
  · rcases List.mem_append.1 hv with hv | hv
    · rw [idArr_bytes] at hv; exact bytesF_ones _ _ v hv
    · rw [List.mem_singleton] at hv; subst hv; simp [Value.oneCell', Value.cells]
theorem eArr_kind (e : Ent) : (eArr e)[0]? = some (.int .i64 e.1) := rfl
theorem eArr_host (e : Ent) : (eArr e)[33]? = some (.int .i64 e.2.2) := by
  rw [← Array.getElem?_toList, eArr_list, List.getElem?_cons_succ, List.getElem?_append_right (by simp)]
  simp
theorem eArr_id (e : Ent) : (eArr e).extract 1 (1 + 32) = idArr e.2.1 := by
  apply Array.ext'
  rw [Array.toList_extract, List.extract_eq_take_drop, eArr_list]
  simp
theorem eArr_inj {x y : Ent} (h : (eArr x).toList = (eArr y).toList) : x = y := by
  have h' := Array.toList_inj.1 h
  have h0 := eArr_kind x; rw [h', eArr_kind] at h0
  have h1 := eArr_host x; rw [h', eArr_host] at h1
  have h2 := eArr_id x; rw [h', eArr_id] at h2
  simp at h0 h1
  have h3 := idArr_inj h2
  exact Prod.ext h0.symm (Prod.ext h3.symm h1.symm)
theorem eEq (x y : Ent) : decide (x = y) = true ↔ (eArr x).toList = (eArr y).toList := by
  rw [decide_eq_true_eq]; exact ⟨fun h => by rw [h], eArr_inj⟩
theorem eNe (x y : Ent) : decide (x = y) = true ↔ (eArr x).toList = (eArr y).toList := eEq x y
def eCells (l : List Ent) : List Value := l.flatMap fun e => (eArr e).toList
theorem eCells_len (l : List Ent) : (eCells l).length = l.length * 34 := cells_len _ 34 (fun x => by rw [Array.length_toList, eArr_size]) l
theorem eCells_app (l r : List Ent) : eCells (l ++ r) = eCells l ++ eCells r := List.flatMap_append
theorem eCells_one (e : Ent) : eCells [e] = (eArr e).toList := by simp [eCells]
theorem eCells_ones (l : List Ent) : ∀ u ∈ eCells l, u.oneCell' = true := fun u hu => by
  obtain ⟨x, _, hx⟩ := List.mem_flatMap.1 hu
  exact eArr_ones x u hx
theorem e_el (l : List Ent) (j : Nat) (hj : j < l.length) : (((eCells l).drop (j * 34)).take 34).toArray = eArr l[j] := by
  unfold eCells
  rw [cells_el _ 34 (fun x => by rw [Array.length_toList, eArr_size]) l j hj]
theorem re_take {w : World} {v : Value} {ls : List Ent} (h : RdZ w v 34 ls.length (eCells ls)) (k : Nat) (hk : k ≤ ls.length) : RdZ w (cutV v k) 34 (ls.take k).length (eCells (ls.take k)) := by
  have := h.cut k hk
  unfold eCells at this
  rw [cells_take _ 34 (fun x => by rw [Array.length_toList, eArr_size])] at this
  rw [List.length_take, Nat.min_eq_left hk]
  exact this
/-! ### which may be -/
def isE (e : Ent) : Bool := (decide (e.1 = 1) && decide (e.2.2 = 0)) || (decide (e.1 = 2) && decide (e.2.1 = 0#256) && decide (0 ≤ e.2.2) && decide (e.2.2 < 16))
def rightE (l : List Ent) : Bool := decide (0 < l.length) && decide (l.length ≤ 4) && l.all isE
theorem isE_iff (e : Ent) : isE e = true ↔ (e.1 = 1 ∧ e.2.2 = 0) ∨ (e.1 = 2 ∧ e.2.1 = 0#256 ∧ 0 ≤ e.2.2 ∧ e.2.2 < 16) := by
  unfold isE; simp [and_assoc]
theorem rightE_iff (l : List Ent) : rightE l = true ↔ 0 < l.length ∧ l.length ≤ 4 ∧ ∀ e ∈ l, isE e = true := by
  unfold rightE; rw [Bool.and_eq_true, Bool.and_eq_true, decide_eq_true_eq, decide_eq_true_eq, List.all_eq_true, and_assoc]
def zB (a : Id) (k : Nat) : Bool := (List.range k).all fun i => decide (byteAt a i = 0)
theorem zB_succ (a : Id) (k : Nat) : zB a (k + 1) = (zB a k && decide (byteAt a k = 0)) := by
  unfold zB; rw [List.range_succ, List.all_append]; simp
theorem byteAt_z (i : Nat) : byteAt 0#256 i = 0 := by unfold byteAt byteN; simp
theorem zB_end (a : Id) : zB a 32 = decide (a = 0#256) := by
  rw [Bool.eq_iff_iff, decide_eq_true_eq]
  unfold zB
  rw [List.all_eq_true]
  constructor
  · intro h
    refine id_ext fun i hi => ?_
    rw [byteAt_z]
    exact of_decide_eq_true (h i (List.mem_range.2 hi))
  · intro h i _
    rw [h, byteAt_z]; rfl
/-! ### bytes -/
def idL (a : Id) : List Nat := (List.range 32).map (byteAt a)
theorem idL_length (a : Id) : (idL a).length = 32 := by simp [idL]
def entL (e : Ent) : List Nat := if e.1 = 1 then 1 :: idL e.2.1 else [2, e.2.2.toNat]
def bstr (ns : List Nat) : ByteArray := ⟨(ns.map UInt8.ofNat).toArray⟩
def textL (l : List Ent) : List Nat := l.length :: l.flatMap entL
def textE (l : List Ent) : ByteArray := bstr (textL l)
theorem bstr_size (ns : List Nat) : (bstr ns).size = ns.length := by simp [bstr, ByteArray.size]
theorem bstr_app (a b : List Nat) : bstr (a ++ b) = bstr a ++ bstr b := by
  apply ByteArray.ext
  rw [ByteArray.data_append]
  simp [bstr]
theorem entL_length (e : Ent) : (entL e).length ≤ 33 ∧ 2 ≤ (entL e).length := by
  unfold entL; split
  · simp [idL]
  · simp
theorem flatE_len (l : List Ent) : (l.flatMap entL).length ≤ 33 * l.length := by
  induction l with
  | nil => simp
  | cons e l ih => have := (entL_length e).1; rw [List.flatMap_cons, List.length_append, List.length_cons]; omega
theorem textE_size (l : List Ent) : (textE l).size = 1 + (l.flatMap entL).length := by
  rw [textE, bstr_size, textL, List.length_cons]; omega
theorem idStr_bstr (a : Id) : idStr a = bstr (idL a) := by
  apply ByteArray.ext
  unfold idStr strF bstr idL
  rw [List.map_map]; rfl
theorem idArr_byL (a : Id) : (idArr a).toList = byL (idL a) := by
  unfold byL idL idArr idCells
  rw [List.map_map]; rfl
/-- what the bytes of the first k are -/
def textK (l : List Ent) (k : Nat) : List Nat := l.length :: (l.take k).flatMap entL
theorem textK_end (l : List Ent) : textK l l.length = textL l := by unfold textK; rw [List.take_length]; rfl
theorem textK_succ (l : List Ent) (k : Nat) (hk : k < l.length) : textK l (k + 1) = textK l k ++ entL l[k] := by
  unfold textK
  rw [List.take_succ_eq_append_getElem hk, List.flatMap_append]
  simp
theorem textK_len (l : List Ent) (k : Nat) : (textK l k).length ≤ 1 + 33 * k := by
  unfold textK
  have h1 := flatE_len (l.take k)
  have h2 : (l.take k).length ≤ k := by rw [List.length_take]; omega
  rw [List.length_cons]
  omega
/-! ### reading -/
def entM (t : ByteArray) : Int × Ent × Nat :=
  if t.size = 0 then (3, (0, 0#256, 0), 0)
  else if sb t 0 = 1 then
    if t.size < 33 then (3, (0, 0#256, 0), 0) else (0, (1, idOf fun i => sb t (1 + i), 0), 33)
  else if sb t 0 = 2 then
    if t.size < 2 then (3, (0, 0#256, 0), 0) else if 16 ≤ sb t 1 then (5, (0, 0#256, 0), 0) else (0, (2, 0#256, (sb t 1 : Int)), 2)
  else (5, (0, 0#256, 0), 0)
def sufS (s : ByteArray) (n : Nat) : ByteArray := s.extract n s.size
def rdS (s : ByteArray) : Nat → Int × List Ent × Nat
  | 0 => (0, [], 1)
  | k + 1 => if (rdS s k).1 = 0 then
      if (entM (sufS s (rdS s k).2.2)).1 = 0 then (0, (rdS s k).2.1 ++ [(entM (sufS s (rdS s k).2.2)).2.1], (rdS s k).2.2 + (entM (sufS s (rdS s k).2.2)).2.2)
      else ((entM (sufS s (rdS s k).2.2)).1, [], 0)
    else rdS s k
def readM (s : ByteArray) : Int × List Ent × Nat :=
  if s.size = 0 then (3, [], 0) else if sb s 0 < 1 ∨ 4 < sb s 0 then (5, [], 0) else rdS s (sb s 0)
end Go.Proofs.Ytaehgcdcfbhohaa

namespace Go.Proofs.Ytaehgcdcfbhohaa
/-! ### what is written is read -/
theorem ba_ext {x y : ByteArray} (hs : x.size = y.size) (h : ∀ i, i < x.size → sb x i = sb y i) : x = y := by
  apply ByteArray.ext
  apply Array.ext
  · exact hs
  · intro i h1 h2
    have h3 := h i h1
    unfold sb at h3
    rw [List.getD_eq_getElem?_getD, List.getD_eq_getElem?_getD, Array.getElem?_toList, Array.getElem?_toList, Array.getElem?_eq_getElem h1, Array.getElem?_eq_getElem h2] at h3
    exact UInt8.toNat.inj h3
theorem sb_bstr (ns : List Nat) (i : Nat) (hi : i < ns.length) (hb : ∀ n ∈ ns, n < 256) : sb (bstr ns) i = ns[i] := by
  unfold sb bstr
  simp only [List.getD_eq_getElem?_getD, List.getElem?_map, List.getElem?_eq_getElem hi, Option.map_some, Option.getD_some]
  have := hb _ (List.getElem_mem hi)
  rw [UInt8.toNat_ofNat']
  omega
theorem bz_all (s : ByteArray) : s.extract 0 s.size = s := ByteArray.extract_zero_size
theorem bz_size (s : ByteArray) (a b : Nat) (h : b ≤ s.size) : (s.extract a b).size = b - a := by rw [ByteArray.size_extract]; omega
theorem bz_sb (s : ByteArray) (a b i : Nat) (hb : b ≤ s.size) (h : a + i < b) : sb (s.extract a b) i = sb s (a + i) := sb_cut s a b i hb h
theorem suf_size (s : ByteArray) (n : Nat) : (sufS s n).size = s.size - n := by unfold sufS; rw [bz_size _ _ _ (Nat.le_refl _)]
theorem suf_app (x y : ByteArray) : sufS (x ++ y) x.size = y := by
  refine ba_ext (by rw [suf_size, ByteArray.size_append]; omega) fun i hi => ?_
  rw [suf_size, ByteArray.size_append] at hi
  unfold sufS
  rw [bz_sb _ _ _ _ (Nat.le_refl _) (by rw [ByteArray.size_append]; omega), sb_append_right]
theorem entL_lt (e : Ent) (h : isE e = true) : ∀ n ∈ entL e, n < 256 := fun n hn => by
  unfold entL at hn
  rcases (isE_iff e).1 h with ⟨h1, h2⟩ | ⟨h1, h2, h3, h4⟩
  · rw [if_pos h1] at hn
    rcases List.mem_cons.1 hn with rfl | hn
    · decide
    · obtain ⟨i, _, rfl⟩ := List.mem_map.1 hn; exact byteAt_lt _ _
  · rw [if_neg (by omega)] at hn
    simp only [List.mem_cons, List.not_mem_nil, or_false] at hn
    rcases hn with rfl | rfl <;> omega
theorem entM_entL (e : Ent) (h : isE e = true) (u : ByteArray) : entM (bstr (entL e) ++ u) = (0, e, (entL e).length) := by
  have hlt := entL_lt e h
  have hsz := bstr_size (entL e)
  have hl := (entL_length e).2
  have hne : ¬ (bstr (entL e) ++ u).size = 0 := by rw [ByteArray.size_append]; omega
  unfold entM
  rw [if_neg hne]
  have h0 : sb (bstr (entL e) ++ u) 0 = (entL e)[0]'(by omega) := by rw [sb_append_left _ _ _ (by omega), sb_bstr _ _ (by omega) hlt]
  have h1 : sb (bstr (entL e) ++ u) 1 = (entL e)[1]'(by omega) := by rw [sb_append_left _ _ _ (by omega), sb_bstr _ _ (by omega) hlt]
  rcases (isE_iff e).1 h with ⟨hk, hh⟩ | ⟨hk, hz, h3, h4⟩
  · have hE : entL e = 1 :: idL e.2.1 := by unfold entL; rw [if_pos hk]
    have hlen : (entL e).length = 33 := by rw [hE, List.length_cons, idL_length]
    rw [h0, if_pos (by simp [hE]), if_neg (by rw [ByteArray.size_append]; omega), hlen]
    refine congrArg (fun x => ((0 : Int), x, 33)) (Prod.ext hk.symm (Prod.ext ?_ hh.symm))
    refine id_ext fun i hi => ?_
    show byteAt (idOf _) i = _
    rw [byteAt_idOf _ (fun i => sb_lt _ _) i hi]
    rw [sb_append_left _ _ _ (by omega), sb_bstr _ _ (by omega) hlt]
    have : (entL e)[1 + i]'(by omega) = (1 :: idL e.2.1)[1 + i]'(by rw [List.length_cons, idL_length]; omega) := by simp only [hE]
    rw [this]
    have h9 : 1 + i = i + 1 := Nat.add_comm _ _
    simp only [h9, List.getElem_cons_succ]
    simp [idL]
  · have hE : entL e = [2, e.2.2.toNat] := by unfold entL; rw [if_neg (by omega)]
    have hlen : (entL e).length = 2 := by rw [hE]; rfl
    have hg1 : (entL e)[1]'(by omega) = e.2.2.toNat := by simp [hE]
    rw [h0, if_neg (by simp [hE]), if_pos (by simp [hE]), if_neg (by rw [ByteArray.size_append]; omega), h1, hg1, if_neg (by omega), hlen]
    exact congrArg (fun x => ((0 : Int), x, 2)) (Prod.ext hk.symm (Prod.ext hz.symm (by show ((e.2.2.toNat : Nat) : Int) = _; omega)))
theorem rd_text (l : List Ent) (h : ∀ e ∈ l, isE e = true) (s : ByteArray) : ∀ k, k ≤ l.length → rdS (textE l ++ s) k = (0, l.take k, 1 + ((l.take k).flatMap entL).length)
  | 0, _ => rfl
  | k + 1, hk => by
    have ih := rd_text l h s k (by omega)
    have hk' : k < l.length := by omega
    have hsuf : sufS (textE l ++ s) (1 + ((l.take k).flatMap entL).length) = bstr (entL l[k]) ++ (bstr ((l.drop (k + 1)).flatMap entL) ++ s) := by
      have e1 : textE l = bstr (l.length :: (l.take k).flatMap entL) ++ (bstr (entL l[k]) ++ bstr ((l.drop (k + 1)).flatMap entL)) := by
        unfold textE textL
        rw [← bstr_app, ← bstr_app, List.cons_append]
        refine congrArg (fun x => bstr (l.length :: x)) ?_
        rw [show entL l[k] ++ (l.drop (k + 1)).flatMap entL = (l.drop k).flatMap entL from by rw [List.drop_eq_getElem_cons hk', List.flatMap_cons], ← List.flatMap_append, List.take_append_drop]
      have e2 : 1 + ((l.take k).flatMap entL).length = (bstr (l.length :: (l.take k).flatMap entL)).size := by rw [bstr_size, List.length_cons]; omega
      rw [e1, e2, ByteArray.append_assoc, suf_app, ByteArray.append_assoc]
    have hent := entM_entL l[k] (h _ (List.getElem_mem hk')) (bstr ((l.drop (k + 1)).flatMap entL) ++ s)
    rw [rdS, ih]
    simp only [hsuf, hent, if_true]
    rw [List.take_succ_eq_append_getElem hk', List.flatMap_append, List.length_append]
    simp only [List.flatMap_cons, List.flatMap_nil, List.append_nil]
    rw [Nat.add_assoc]
theorem read_text (l : List Ent) (h : rightE l = true) (s : ByteArray) : readM (textE l ++ s) = (0, l, (textE l).size) := by
  obtain ⟨h1, h2, h3⟩ := (rightE_iff l).1 h
  have hsz := textE_size l
  have h0 : sb (textE l ++ s) 0 = l.length := by
    rw [sb_append_left _ _ _ (by omega)]
    show sb (bstr (textL l)) 0 = _
    unfold sb bstr textL
    simp
    omega
  unfold readM
  rw [if_neg (by rw [ByteArray.size_append]; omega), h0, if_neg (by omega), rd_text l h3 s l.length (Nat.le_refl _), List.take_length, hsz]
/-! ### what is read, written, is what was there -/
theorem entM_ok (t : ByteArray) (h : (entM t).1 = 0) : isE (entM t).2.1 = true ∧ (entM t).2.2 ≤ t.size ∧ 2 ≤ (entM t).2.2 ∧ t.extract 0 (entM t).2.2 = bstr (entL (entM t).2.1) := by
  unfold entM at h ⊢
  by_cases c0 : t.size = 0
  · rw [if_pos c0] at h; exact absurd h (by decide)
  rw [if_neg c0] at h ⊢
  by_cases c1 : sb t 0 = 1
  · rw [if_pos c1] at h ⊢
    by_cases c2 : t.size < 33
    · rw [if_pos c2] at h; exact absurd h (by decide)
    rw [if_neg c2]
    refine ⟨(isE_iff _).2 (.inl ⟨rfl, rfl⟩), by show 33 ≤ _; omega, by show 2 ≤ 33; decide, ?_⟩
    show t.extract 0 33 = bstr (entL (1, idOf fun i => sb t (1 + i), 0))
    have hE : entL (1, idOf fun i => sb t (1 + i), 0) = 1 :: idL (idOf fun i => sb t (1 + i)) := by unfold entL; rw [if_pos rfl]
    rw [hE]
    refine ba_ext (by rw [bz_size _ _ _ (by omega), bstr_size, List.length_cons, idL_length]) fun i hi => ?_
    rw [bz_size _ _ _ (by omega)] at hi
    rw [bz_sb _ _ _ _ (by omega) (by omega), Nat.zero_add, sb_bstr _ _ (by rw [List.length_cons, idL_length]; omega) (fun n hn => by
      rcases List.mem_cons.1 hn with rfl | hn
      · decide
      · obtain ⟨i, _, rfl⟩ := List.mem_map.1 hn; exact byteAt_lt _ _)]
    cases i with
    | zero => simpa using c1
    | succ i =>
      simp only [List.getElem_cons_succ]
      simp only [idL, List.getElem_map, List.getElem_range]
      rw [byteAt_idOf _ (fun i => sb_lt _ _) i (by omega), Nat.add_comm]
  rw [if_neg c1] at h ⊢
  by_cases c2 : sb t 0 = 2
  · rw [if_pos c2] at h ⊢
    by_cases c3 : t.size < 2
    · rw [if_pos c3] at h; exact absurd h (by decide)
    rw [if_neg c3] at h ⊢
    by_cases c4 : 16 ≤ sb t 1
    · rw [if_pos c4] at h; exact absurd h (by decide)
    rw [if_neg c4]
    refine ⟨(isE_iff _).2 (.inr ⟨rfl, rfl, by show (0 : Int) ≤ (sb t 1 : Int); omega, by show (sb t 1 : Int) < 16; omega⟩), by show 2 ≤ _; omega, by show 2 ≤ 2; decide, ?_⟩
    show t.extract 0 2 = bstr (entL (2, 0#256, (sb t 1 : Int)))
    have hE : entL (2, 0#256, (sb t 1 : Int)) = [2, sb t 1] := by unfold entL; rw [if_neg (by show ¬ (2 : Int) = 1; decide)]; rfl
    rw [hE]
    refine ba_ext (by rw [bz_size _ _ _ (by omega), bstr_size]; rfl) fun i hi => ?_
    rw [bz_size _ _ _ (by omega)] at hi
    rw [bz_sb _ _ _ _ (by omega) (by omega), Nat.zero_add, sb_bstr _ _ (by show i < 2; omega) (fun n hn => by
      simp only [List.mem_cons, List.not_mem_nil, or_false] at hn
      rcases hn with rfl | rfl
      · decide
      · exact sb_lt _ _)]
    match i, hi with
    | 0, _ => simpa using c2
    | 1, _ => rfl
  rw [if_neg c2] at h; exact absurd h (by decide)
theorem bz_suf (s : ByteArray) (a n : Nat) (h : a + n ≤ s.size) : (sufS s a).extract 0 n = s.extract a (a + n) := by
  refine ba_ext (by rw [bz_size _ _ _ (by rw [suf_size]; omega), bz_size _ _ _ h]; omega) fun i hi => ?_
  rw [bz_size _ _ _ (by rw [suf_size]; omega)] at hi
  rw [bz_sb _ _ _ _ (by rw [suf_size]; omega) (by omega), bz_sb _ _ _ _ h (by omega)]
  unfold sufS
  rw [bz_sb _ _ _ _ (Nat.le_refl _) (by omega), Nat.zero_add]
theorem bz_cat (s : ByteArray) (a b c : Nat) (h1 : a ≤ b) (h2 : b ≤ c) (h3 : c ≤ s.size) : s.extract a c = s.extract a b ++ s.extract b c := by
  refine ba_ext (by rw [ByteArray.size_append, bz_size _ _ _ h3, bz_size _ _ _ (by omega), bz_size _ _ _ h3]; omega) fun i hi => ?_
  rw [bz_size _ _ _ h3] at hi
  rw [bz_sb _ _ _ _ h3 (by omega)]
  by_cases h : i < b - a
  · rw [sb_append_left _ _ _ (by rw [bz_size _ _ _ (by omega)]; exact h), bz_sb _ _ _ _ (by omega) (by omega)]
  · have e : i = (s.extract a b).size + (i - (b - a)) := by rw [bz_size _ _ _ (by omega)]; omega
    have : sb (s.extract a b ++ s.extract b c) i = sb (s.extract b c) (i - (b - a)) := by
      rw [show sb (s.extract a b ++ s.extract b c) i = sb (s.extract a b ++ s.extract b c) ((s.extract a b).size + (i - (b - a))) from by rw [← e]]
      exact sb_append_right _ _ _
    rw [this, bz_sb _ _ _ _ h3 (by omega), show b + (i - (b - a)) = a + i from by omega]
theorem rd_ok (s : ByteArray) (hs : 1 ≤ s.size) : ∀ k, (rdS s k).1 = 0 → (rdS s k).2.1.length = k ∧ (∀ e ∈ (rdS s k).2.1, isE e = true) ∧ 1 ≤ (rdS s k).2.2 ∧ (rdS s k).2.2 ≤ s.size ∧ s.extract 1 (rdS s k).2.2 = bstr ((rdS s k).2.1.flatMap entL)
  | 0, _ => by
    refine ⟨rfl, fun e he => absurd he (List.not_mem_nil), Nat.le_refl _, hs, ?_⟩
    show s.extract 1 1 = bstr []
    exact ba_ext (by rw [bz_size _ _ _ hs, bstr_size]; rfl) fun i hi => by rw [bz_size _ _ _ hs] at hi; omega
  | k + 1, h => by
    rw [rdS] at h ⊢
    by_cases c1 : (rdS s k).1 = 0
    · rw [if_pos c1] at h ⊢
      by_cases c2 : (entM (sufS s (rdS s k).2.2)).1 = 0
      · rw [if_pos c2]
        obtain ⟨i1, i2, i3, i4, i5⟩ := rd_ok s hs k c1
        obtain ⟨j1, j2, _, j3⟩ := entM_ok _ c2
        rw [suf_size] at j2
        refine ⟨by simp [i1], fun e he => ?_, by show 1 ≤ _ + _; omega, by show _ + _ ≤ _; omega, ?_⟩
        · rcases List.mem_append.1 he with he | he
          · exact i2 e he
          · rw [List.mem_singleton] at he; rw [he]; exact j1
        · show s.extract 1 ((rdS s k).2.2 + (entM (sufS s (rdS s k).2.2)).2.2) = bstr (((rdS s k).2.1 ++ [(entM (sufS s (rdS s k).2.2)).2.1]).flatMap entL)
          rw [List.flatMap_append, bstr_app, ← i5, bz_cat s 1 (rdS s k).2.2 _ i3 (by omega) (by omega), ← bz_suf _ _ _ (by omega), j3]
          simp
      · rw [if_neg c2] at h; exact absurd h c2
    · rw [if_neg c1] at h; exact absurd h c1
theorem text_read (s : ByteArray) (h : (readM s).1 = 0) : rightE (readM s).2.1 = true ∧ (readM s).2.2 ≤ s.size ∧ textE (readM s).2.1 = s.extract 0 (readM s).2.2 := by
  unfold readM at h ⊢
  by_cases c0 : s.size = 0
  · rw [if_pos c0] at h; exact absurd h (by decide)
  rw [if_neg c0] at h ⊢
  by_cases c1 : sb s 0 < 1 ∨ 4 < sb s 0
  · rw [if_pos c1] at h; exact absurd h (by decide)
  rw [if_neg c1] at h ⊢
  obtain ⟨h1, h2, h3, h4, h5⟩ := rd_ok s (by omega) _ h
  refine ⟨(rightE_iff _).2 ⟨by omega, by omega, h2⟩, h4, ?_⟩
  rw [bz_cat s 0 1 _ (by omega) h3 h4, h5]
  show bstr (_ :: _) = _
  rw [show (rdS s (sb s 0)).2.1.length :: (rdS s (sb s 0)).2.1.flatMap entL = [(rdS s (sb s 0)).2.1.length] ++ (rdS s (sb s 0)).2.1.flatMap entL from rfl, bstr_app, h1]
  congr 1
  refine ba_ext (by rw [bz_size _ _ _ (by omega)]; rfl) fun i hi => ?_
  have : i < 1 := hi
  obtain rfl : i = 0 := by omega
  rw [bz_sb _ _ _ _ (by omega) (by omega), sb_bstr _ _ (by show 0 < 1; decide) (fun n hn => by rw [List.mem_singleton] at hn; rw [hn]; exact sb_lt _ _)]
  rfl
/-- once refused, refused -/
theorem rd_stay (s : ByteArray) (k : Nat) (h : (rdS s k).1 ≠ 0) : ∀ n, k ≤ n → rdS s n = rdS s k
  | 0, hn => by
    have e : k = 0 := by omega
    rw [e]
  | n + 1, hn => by
    by_cases e : k = n + 1
    · rw [e]
    · have ih := rd_stay s k h n (by omega)
      rw [rdS, if_neg (by rw [ih]; exact h), ih]
theorem rd_err (s : ByteArray) : ∀ k, (rdS s k).1 ≠ 0 → (rdS s k).2 = ([], 0)
  | 0, h => absurd rfl h
  | k + 1, h => by
    rw [rdS] at h ⊢
    by_cases c1 : (rdS s k).1 = 0
    · rw [if_pos c1] at h ⊢
      by_cases c2 : (entM (sufS s (rdS s k).2.2)).1 = 0
      · rw [if_pos c2] at h; exact absurd rfl h
      · rw [if_neg c2]
    · rw [if_neg c1]; exact rd_err s k c1
theorem read_err (s : ByteArray) (h : (readM s).1 ≠ 0) : (readM s).2 = ([], 0) := by
  unfold readM at h ⊢
  split
  · rfl
  · rename_i c0
    rw [if_neg c0] at h
    split
    · rfl
    · rename_i c1
      rw [if_neg c1] at h
      exact rd_err _ _ h
end Go.Proofs.Ytaehgcdcfbhohaa

namespace Go.Proofs.Ytaehgcdcfbhohaa
open Go.RowKit Go.ChangeShapes Go.WideShapes Go.ChangeAt
/-! ### entries in the program -/
theorem EqV.up {P : Program} {D : Nat} {e : TypeId} {sz : Nat} {V : List Value → Prop} {vl : List Value → Value} (E : EqV P D e sz V vl) : EqV P (D + 1) e sz V vl :=
  ⟨E.len, E.size, E.part, fun d xs ys w hx hy => by
    have := E.eq (d + 1) xs ys w hx hy
    rwa [show d + (D + 1) = d + 1 + D from by omega]⟩
theorem eArr_f0 (e : Ent) : ((eArr e).toList.drop 0).take 1 = [Value.int .i64 e.1] := rfl
theorem eArr_f1 (e : Ent) : ((eArr e).toList.drop 1).take 32 = (bytesF (byteAt e.2.1) 32).toList := by
  rw [eArr_list, List.drop_succ_cons, List.drop_zero, List.take_append_of_le_length (by simp), List.take_of_length_le (by simp), idArr_bytes]
theorem eArr_f2 (e : Ent) : ((eArr e).toList.drop 33).take 1 = [Value.int .i64 e.2.2] := by
  rw [eArr_list, List.drop_succ_cons, List.drop_append, List.drop_eq_nil_of_le (by simp)]
  simp
theorem eArr_zero : eArr (0, 0#256, 0) = (Value.int .i64 0 :: (List.replicate 32 (Value.int .u8 0) ++ [.int .i64 0])).toArray := by
  unfold eArr; rw [idArr_zero]; rfl
section
variable {P : Program} {a : Act} {w w0 : World} {N : Nat} {L : List (Nat × Value)} {B : List Own} {fn : Func} {T : Asrt}
theorem e_tmps3 {t u v : Tmp} {V U X : Value} (hr : fn.results = #[.tmp t, .tmp u, .tmp v]) (h : Sl N a L) (s : St w0 B w) (hv : lk L t = some V) (hu : lk L u = some U) (hx : lk L v = some X) (hT : T (.tuple #[V, U, X]) w) : bodyPost P fn (Ret w0 T) .ret a w :=
  ⟨h.defers, .tuple #[V, U, X], by rw [results_tmp3 hr, h.holds t V hv, h.holds u U hu, h.holds v X hx], _, rfl, hT, s.ext⟩
theorem e_row_tmp2 {p q r t : Tmp} {b n : Nat} {C : Array Value} {u : TypeId} {V U : Value} (i : Nat) (hres : fn.results = #[.cell p t, .tmp q, .tmp r]) (h : Sl N a L) (s : St w0 B w) (hr : Row P t n) (hp : lk L p = some (.pointer (some ⟨b, 0, none⟩))) (hi : B[i]? = some (.blk b (.cells C u))) (hn : C.size = n)
    (hq : lk L q = some V) (hu : lk L r = some U) (hT : T (.tuple #[.agg C, V, U]) w) : bodyPost P fn (Ret w0 T) .ret a w := by
  refine ⟨h.defers, .tuple #[.agg C, V, U], ?_, _, rfl, hT, s.ext⟩
  have hp' : a.tmps[p]?.getD undef = .pointer (some ⟨b, 0, none⟩) := by simpa using h.holds p _ hp
  have hq' : a.tmps[q]?.getD undef = V := by simpa using h.holds q _ hq
  have hu' : a.tmps[r]?.getD undef = U := by simpa using h.holds r _ hu
  simp [results, hres, hp', hq', hu', asAddr, run_load_row hr w b C u (0, 0) (s.get i hi) hn]
theorem e_row_tmp2F {R : Ending → World → Prop} {p q r t : Tmp} {b n : Nat} {C : Array Value} {u : TypeId} {V U : Value} (i : Nat) (hres : fn.results = #[.cell p t, .tmp q, .tmp r]) (h : Sl N a L) (s : St w0 B w) (hr : Row P t n) (hp : lk L p = some (.pointer (some ⟨b, 0, none⟩))) (hi : B[i]? = some (.blk b (.cells C u))) (hn : C.size = n)
    (hq : lk L q = some V) (hu : lk L r = some U) (hR : R (.returned (.tuple #[.agg C, V, U])) w) : bodyPost P fn R .ret a w := by
  refine ⟨h.defers, .tuple #[.agg C, V, U], ?_, hR⟩
  have hp' : a.tmps[p]?.getD undef = .pointer (some ⟨b, 0, none⟩) := by simpa using h.holds p _ hp
  have hq' : a.tmps[q]?.getD undef = V := by simpa using h.holds q _ hq
  have hu' : a.tmps[r]?.getD undef = U := by simpa using h.holds r _ hu
  simp [results, hres, hp', hq', hu', asAddr, run_load_row hr w b C u (0, 0) (s.get i hi) hn]
end
section
variable {P : Program} {ρ : Operand → Value} {d : Option Tmp} {ty : TypeId} {pos : String} {af : Array Edge} {g : Option (Nat × Bool)} {x y : Operand} {t t' e : TypeId} {k : IntKind} {m n : Int}
def eZ : List (List Value) := [[.int .i64 0], List.replicate 32 (.int .u8 0), [.int .i64 0]]
theorem ru_build_e0 (S : Stt P t eZ) : RunsTo P ⟨d, .build t #[], ty, pos, af, g⟩ ρ (.agg (eArr (0, 0#256, 0))) := by
  have := ru_build_st (P := P) (ρ := ρ) (d := d) (ty := ty) (pos := pos) (af := af) (g := g) (parts := #[]) S [] (by simp) (fun i v hm => by simp at hm) (D := (eArr (0, 0#256, 0)).toList) (by rw [eArr_zero]; rfl)
  simpa using this
theorem ru_build_e1 {q : Int} (S : Stt P t eZ) (hx : ρ x = .int .i64 q) : RunsTo P ⟨d, .build t #[(0, x)], ty, pos, af, g⟩ ρ (.agg (eArr (q, 0#256, 0))) := by
  have := ru_build_st (P := P) (ρ := ρ) (d := d) (ty := ty) (pos := pos) (af := af) (g := g) (parts := #[(0, x)]) S [(0, .int .i64 q)] (by simp [hx]) (fun i v hm => by simp at hm; rcases hm with ⟨rfl, rfl⟩; exact ⟨_, rfl, rfl⟩) (D := (eArr (q, 0#256, 0)).toList) (by rw [eArr_list, idArr_zero]; rfl)
  simpa using this
theorem ru_build_ei {q : Int} {b : Id} (S : Stt P t eZ) (hx : ρ x = .int .i64 q) (hy : ρ y = .agg (idArr b)) : RunsTo P ⟨d, .build t #[(0, x), (1, y)], ty, pos, af, g⟩ ρ (.agg (eArr (q, b, 0))) := by
  have := ru_build_st (P := P) (ρ := ρ) (d := d) (ty := ty) (pos := pos) (af := af) (g := g) (parts := #[(0, x), (1, y)]) S [(0, .int .i64 q), (1, .agg (idArr b))] (by simp [hx, hy]) (fun i v hm => by
    simp at hm
    rcases hm with ⟨rfl, rfl⟩ | ⟨rfl, rfl⟩
    · exact ⟨_, rfl, rfl⟩
    · exact ⟨_, rfl, by show (idArr b).size = _; rw [idArr_size]; rfl⟩) (D := (eArr (q, b, 0)).toList) (by rw [eArr_list]; rfl)
  simpa using this
theorem ru_build_eh {q r : Int} (S : Stt P t eZ) (hx : ρ x = .int .i64 q) (hy : ρ y = .int .i64 r) : RunsTo P ⟨d, .build t #[(0, x), (2, y)], ty, pos, af, g⟩ ρ (.agg (eArr (q, 0#256, r))) := by
  have := ru_build_st (P := P) (ρ := ρ) (d := d) (ty := ty) (pos := pos) (af := af) (g := g) (parts := #[(0, x), (2, y)]) S [(0, .int .i64 q), (2, .int .i64 r)] (by simp [hx, hy]) (fun i v hm => by
    simp at hm
    rcases hm with ⟨rfl, rfl⟩ | ⟨rfl, rfl⟩
    · exact ⟨_, rfl, rfl⟩
    · exact ⟨_, rfl, rfl⟩) (D := (eArr (q, 0#256, r)).toList) (by rw [eArr_list, idArr_zero]; rfl)
  simpa using this
theorem ru_slice_arr_at {b o len : Nat} (ht : P.underlying t = some (.array len e)) (he : (P.info? e).map (·.size) = some 1) (hx : ρ x = .pointer (some ⟨b, o, none⟩)) : RunsTo P ⟨d, .slice t x none none none, ty, pos, af, g⟩ ρ (.slice (some ⟨b, o, none⟩) len len) := fun w => by
  cases hi : P.info? e with
  | none => simp [hi] at he
  | some i =>
    have h1 : i.size = 1 := by simpa [hi] using he
    have ha : (⟨b, o, none⟩ : Addr).add 0 = ⟨b, o, none⟩ := by simp [Addr.add]
    simp [execOp, hx, Instr.sliceAt, Instr.sliceBounds, Sem.run_bind, run_underlying ht, Instr.sureAddr, sizeOf, typeInfo, hi, h1, ha]
theorem ru_toarrZ {w0 : World} {v : Value} {n z : Nat} {xs : List Value} (hR : RdZ w0 v 1 n xs) (ht : P.underlying t = some (.array z e)) (hx : ρ x = v) (hz : z ≤ n) (h0 : 0 < n) : RunsTo P ⟨d, .sliceToArrayPointer t x, ty, pos, af, g⟩ ρ (.pointer (some (elAddr v 0))) := by
  rcases hR.2 with ⟨_, h9⟩ | ⟨p, c, rfl, _, _⟩
  · omega
  · have := ru_toarr (P := P) (ρ := ρ) (d := d) (ty := ty) (pos := pos) (af := af) (g := g) (x := x) ht hx hz
    have e : elAddr (.slice (Option.some p) n c) 0 = p := by simp [elAddr, Addr.add]
    rw [e]; exact this
theorem RdZ.has0 {w : World} {v : Value} {n : Nat} {xs : List Value} (h : RdZ w v 1 n xs) (h0 : 0 < n) {D : Array Value} (hD : xs.toArray = D) : Has w (elAddr v 0) D := by
  rcases h.2 with ⟨_, h9⟩ | ⟨p, c, rfl, _, hH⟩
  · omega
  · have e : elAddr (.slice (Option.some p) n c) 0 = p := by simp [elAddr, Addr.add]
    rw [e, ← hD]; exact hH
theorem RdZ.of_has {w : World} {b o n c : Nat} {C : Array Value} (h : Has w ⟨b, o, none⟩ C) (hn : C.size = n) (hc : n ≤ c) : RdZ w (.slice (Option.some ⟨b, o, none⟩) n c) 1 n C.toList :=
  ⟨by rw [Array.length_toList]; omega, .inr ⟨⟨b, o, none⟩, c, rfl, hc, by simpa using h⟩⟩
theorem ru_ix_at {b o len : Nat} (j : Nat) (ht : P.underlying t = some (.array len e)) (he : (P.info? e).map (·.size) = some 1) (hx : ρ x = .pointer (some ⟨b, o, none⟩)) (hy : ρ y = .int k m)
    (hj : m = (j : Int)) (hm : j < len) : RunsTo P ⟨d, .indexAddr t x y, ty, pos, af, g⟩ ρ (.pointer (some ⟨b, o + j, none⟩)) := fun w => by
  subst hj
  cases hi : P.info? e with
  | none => simp [hi] at he
  | some i =>
    have h1 : i.size = 1 := by simpa [hi] using he
    have ha : (⟨b, o, none⟩ : Addr).add j = ⟨b, o + j, none⟩ := by unfold Addr.add; split <;> simp_all
    have h2 : (0 : Int) ≤ (j : Int) ∧ (j : Int) < (len : Int) := by omega
    simp [execOp, hx, hy, Instr.indexAt, asIntOf, Sem.run_bind, run_underlying ht, Instr.sureAddr, hm, sizeOf, typeInfo, hi, h1, ha]
end
section
variable {P : Program} {ops : Array Oper} {Q : Act → World → Prop} {l : List Oper} {a : Act} {w w0 : World} {N : Nat} {L : List (Nat × Value)} {Df : List Deferred} {B : List Own} {d : Tmp} {ty : TypeId} {pos : String} {af : Array Edge} {x y : Operand} {t t' e : TypeId}
end
/-! ### entries that come in -/
theorem open_entL {H : Type} {enc : TypeId × Value → H} {P : Program} {w : World} {base : Nat} {spare : Nat → Bool} {held : Bool} {t tn ti e : TypeId} {f0 f1 f2 : Field} {fuel : Nat} {cs : List Value} {x : DataW H × List MemPlace} (T : IdTy P ti e) (hc : P.cellsOf ti = 32) (hce : P.cellsOf e = 1) (hn : P.underlying tn = some (.int .i64)) (hcn : P.cellsOf tn = 1)
    (ht : P.underlying t = some (.struct #[f0, f1, f2])) (h0 : f0.type = tn) (h1 : f1.type = ti) (h2 : f2.type = tn) (o0 : f0.offset = 0) (o1 : f1.offset = 1) (o2 : f2.offset = 33) (hct : P.cellsOf t = 34) (h : DataW.trod enc P w base spare held fuel t cs = some x) : ∃ l : Ent, cs = (eArr l).toList := by
  obtain ⟨xs, n, rfl, _, hl, hxl, hel⟩ := DataW.trod_struct ht h
  rw [hct] at hl
  have hx2 : xs.length = 3 := by simpa using hxl
  have e0 := hel 0 f0 rfl
  have e1 := hel 1 f1 rfl
  have e2 := hel 2 f2 rfl
  rw [h0, o0, hcn, List.getElem?_eq_getElem (by omega)] at e0
  rw [h1, o1, hc, List.getElem?_eq_getElem (by omega)] at e1
  rw [h2, o2, hcn, List.getElem?_eq_getElem (by omega)] at e2
  obtain ⟨k, hk, _⟩ := DataW.trod_int hn e0
  obtain ⟨a, ha⟩ := open_idL T hc hce e1
  obtain ⟨h9, hh, _⟩ := DataW.trod_int hn e2
  refine ⟨(k, a, h9), ?_⟩
  rw [eArr_list, ← ha]
  have hdrop : cs.drop 33 = [Value.int .i64 h9] := by
    rw [List.take_of_length_le (by rw [List.length_drop]; omega)] at hh
    exact hh
  have hsplit : cs = (cs.drop 0).take 1 ++ ((cs.drop 1).take 32 ++ cs.drop 33) := by
    rw [List.drop_zero, show cs.drop 33 = (cs.drop 1).drop 32 from by rw [List.drop_drop], List.take_append_drop, List.take_append_drop]
  rw [hk, hdrop] at hsplit
  exact hsplit
theorem open_ent {H : Type} {enc : TypeId × Value → H} {P : Program} {W : World} {r : Reach} {b0 : Nat} {t tn ti e : TypeId} {f0 f1 f2 : Field} {v : Value} {d : DataW H} {ps : List MemPlace} (T : IdTy P ti e) (hc : P.cellsOf ti = 32) (hce : P.cellsOf e = 1) (hn : P.underlying tn = some (.int .i64)) (hcn : P.cellsOf tn = 1)
    (ht : P.underlying t = some (.struct #[f0, f1, f2])) (h0 : f0.type = tn) (h1 : f1.type = ti) (h2 : f2.type = tn) (o0 : f0.offset = 0) (o1 : f1.offset = 1) (o2 : f2.offset = 33) (hct : P.cellsOf t = 34)
    (hval : Value.okWide P W r b0 t v) (h : DataW.Trod enc P W 0 (fun _ => true) true t v d ps) : ∃ l : Ent, v = .agg (eArr l) := by
  have hv : ∃ cs, v = .agg cs := by
    unfold Value.okWide at hval
    simp only [ht] at hval
    obtain ⟨cs, h9, _⟩ := hval
    exact ⟨cs, h9⟩
  obtain ⟨cs, rfl⟩ := hv
  obtain ⟨fuel, hf⟩ := h
  obtain ⟨l, hl⟩ := open_entL T hc hce hn hcn ht h0 h1 h2 o0 o1 o2 hct hf
  refine ⟨l, ?_⟩
  have : cs.toList = (eArr l).toList := by simpa [Value.cells] using hl
  rw [Array.toList_inj.1 this]
theorem open_ents {H : Type} {enc : TypeId × Value → H} {P : Program} {W : World} {r : Reach} {b0 : Nat} {ts t tn ti e : TypeId} {f0 f1 f2 : Field} {v : Value} {d : DataW H} {ps : List MemPlace} (T : IdTy P ti e) (hc : P.cellsOf ti = 32) (hce : P.cellsOf e = 1) (hn : P.underlying tn = some (.int .i64)) (hcn : P.cellsOf tn = 1)
    (hts : P.underlying ts = some (.slice t)) (ht : P.underlying t = some (.struct #[f0, f1, f2])) (h0 : f0.type = tn) (h1 : f1.type = ti) (h2 : f2.type = tn) (o0 : f0.offset = 0) (o1 : f1.offset = 1) (o2 : f2.offset = 33) (hct : P.cellsOf t = 34)
    (hval : Value.okWide P W r b0 ts v) (h : DataW.Trod enc P W 0 (fun _ => true) true ts v d ps) : ∃ ls : List Ent, RdZ W v 34 ls.length (eCells ls) := by
  obtain ⟨a, n, c, rfl⟩ := okWide_slice hts hval
  obtain ⟨fuel, hf⟩ := h
  rcases Go.Deep.open_slice hts hf with ⟨hcs, _⟩ | ⟨a', len, cap, m, k, D, Pl, hcs, _, hl, _, hm, _, hel⟩
  · have : Value.slice a n c = .slice none 0 0 := by simpa [Value.cells] using hcs
    exact ⟨[], rfl, .inl ⟨this, rfl⟩⟩
  · have hv : Value.slice a n c = .slice (some a') len cap := by simpa [Value.cells] using hcs
    have hml : len ≤ m := by rw [hm]; split <;> omega
    have each : ∀ i, ∃ l : Ent, i < len → Has W (a'.add (i * 34)) (eArr l) := fun i => by
      by_cases hi : i < len
      · obtain ⟨cs', hc1, hc2⟩ := hel i (by omega)
        obtain ⟨l, rfl⟩ := open_entL T hc hce hn hcn ht h0 h1 h2 o0 o1 o2 hct hc2
        refine ⟨l, fun _ j u hj => ?_⟩
        rw [hct] at hc1
        obtain ⟨_, hlen, hall⟩ := World.cells?_some hc1
        have hj34 : j < 34 := by have := (Array.getElem?_eq_some_iff.1 hj).1; rw [eArr_size] at this; exact this
        have := hall j hj34
        rw [this, Array.getElem?_toList]; exact hj
      · exact ⟨(0, 0#256, 0), fun h9 => absurd h9 hi⟩
    obtain ⟨L, hL⟩ := Classical.axiomOfChoice each
    refine ⟨(List.range len).map L, ?_, .inr ⟨a', cap, by rw [hv]; simp, by simpa using hl, ?_⟩⟩
    · rw [eCells_len]
    · refine has_flat _ 34 (by decide) (fun x => by rw [Array.length_toList, eArr_size]) _ fun i hi => ?_
      have hi' : i < len := by simpa using hi
      have := hL i hi'
      simpa using this
end Go.Proofs.Ytaehgcdcfbhohaa

namespace Go.Proofs.Ytaehgcdcfbhohaa
/-! ### what the walks of entries want -/
theorem isE_one (e : Ent) (h : e.1 = 1) : isE e = decide (e.2.2 = 0) := by
  unfold isE; rw [h]; simp
theorem isE_two (e : Ent) (h : e.1 = 2) : isE e = (decide (e.2.1 = 0#256) && decide (0 ≤ e.2.2) && decide (e.2.2 < 16)) := by
  unfold isE; rw [h]; simp
theorem isE_none (e : Ent) (h : ¬ e.1 = 1) (h2 : ¬ e.1 = 2) : isE e = false := by
  unfold isE; simp [h, h2]
theorem slot_bool {x : Option Value} {a b : Bool} (h : x = some (.bool a)) (e : a = b) : x = some (.bool b) := e ▸ h
theorem all_no {l : List Ent} {k : Nat} (hk : k < l.length) (hc : (!isE l[k]) = true) : false = l.all isE := by
  symm
  rw [List.all_eq_false]
  exact ⟨l[k], List.getElem_mem hk, by simpa using hc⟩
theorem all_yes {l : List Ent} {k : Nat} (hk : l.length ≤ k) (h : ∀ i (hi : i < l.length), i < k → isE l[i] = true) : true = l.all isE := by
  symm
  rw [List.all_eq_true]
  intro x hx
  obtain ⟨i, hi, e⟩ := List.getElem_of_mem hx
  rw [← e]; exact h i hi (by omega)
theorem same_next {l m : List Ent} {k : Nat} (h : ∀ i (_ : i < l.length), i < k → l[i]? = m[i]?) (hk : k < l.length) (hm : k < m.length) (hc : (!decide (l[k] = m[k])) = false) : ∀ i (_ : i < l.length), i < k + 1 → l[i]? = m[i]? := fun i hi h9 => by
  by_cases e : i = k
  · subst e
    rw [List.getElem?_eq_getElem hk, List.getElem?_eq_getElem hm]
    have : l[i] = m[i] := by simpa using hc
    rw [this]
  · exact h i hi (by omega)
theorem same_no {l m : List Ent} {k : Nat} (hk : k < l.length) (hm : k < m.length) (hc : (!decide (l[k] = m[k])) = true) : false = decide (l = m) := by
  symm
  refine decide_eq_false fun h => ?_
  subst h
  simp at hc
theorem same_yes {l m : List Ent} {k : Nat} (hlm : l.length = m.length) (hk : l.length ≤ k) (h : ∀ i (_ : i < l.length), i < k → l[i]? = m[i]?) : true = decide (l = m) := by
  symm
  refine decide_eq_true (List.ext_getElem? fun i => ?_)
  by_cases hi : i < l.length
  · exact h i hi (by omega)
  · rw [List.getElem?_eq_none (by omega), List.getElem?_eq_none (by omega)]
/-! ### the reference's record -/
def tZ : List (List Value) := [[.slice none 0 0], [.int .i64 0], [.int .i64 0]]
theorem t_ones (v : Value) (m n : Int) (h : v.oneCell' = true) : ∀ u ∈ (#[v, .int .i64 m, .int .i64 n] : Array Value).toList, u.oneCell' = true := fun u hu => by
  simp only [List.mem_cons, List.not_mem_nil, or_false] at hu
  rcases hu with rfl | rfl | rfl
  · exact h
  · rfl
  · rfl
theorem isE_kind {e : Ent} (h : isE e = true) : e.1 = 1 ∨ e.1 = 2 := by
  rcases (isE_iff e).1 h with h | h
  · exact .inl h.1
  · exact .inr h.1
theorem isE_host {e : Ent} (h : isE e = true) (h1 : ¬ e.1 = 1) : e.1 = 2 ∧ e.2.1 = 0#256 ∧ 0 ≤ e.2.2 ∧ e.2.2 < 16 := by
  rcases (isE_iff e).1 h with h | h
  · exact absurd h.1 h1
  · exact h
theorem textN1 {l : List Ent} {k : Nat} (hk : k < l.length) (h1 : l[k].1 = 1) : byL (textK l k) ++ [Value.int .u8 ((l[k].1.toNat : Nat) : Int)].flatMap (fun v => v.cells.toList) ++ (idArr l[k].2.1).toList = byL (textK l (k + 1)) := by
  rw [textK_succ l k hk, ← byL_append, List.append_assoc]
  refine congrArg (byL (textK l k) ++ ·) ?_
  unfold entL
  rw [if_pos h1, h1, idArr_byL]
  rfl
theorem textM1 {l : List Ent} {k : Nat} (hk : k < l.length) (h1 : l[k].1 = 1) : (textK l k).length + 1 + 32 = (textK l (k + 1)).length := by
  rw [textK_succ l k hk, List.length_append]
  unfold entL
  rw [if_pos h1, List.length_cons, idL_length]
theorem textN2 {l : List Ent} {k : Nat} (hk : k < l.length) (h1 : l[k].1 = 2) : byL (textK l k) ++ [Value.int .u8 ((l[k].1.toNat : Nat) : Int)].flatMap (fun v => v.cells.toList) ++ [Value.int .u8 ((l[k].2.2.toNat : Nat) : Int)].flatMap (fun v => v.cells.toList) = byL (textK l (k + 1)) := by
  rw [textK_succ l k hk, ← byL_append, List.append_assoc]
  refine congrArg (byL (textK l k) ++ ·) ?_
  unfold entL
  rw [if_neg (by omega), h1]
  rfl
theorem textM2 {l : List Ent} {k : Nat} (hk : k < l.length) (h1 : l[k].1 = 2) : (textK l k).length + 1 + 1 = (textK l (k + 1)).length := by
  rw [textK_succ l k hk, List.length_append]
  unfold entL
  rw [if_neg (by omega)]
  rfl
def textW (l : List Ent) : ByteArray := if rightE l = true then textE l else ⟨#[]⟩
def textR (l : List Ent) : Int := if rightE l = true then 0 else 1
theorem bstr_id (a : Id) : (⟨#[1]⟩ : ByteArray) ++ strF (byteAt a) 32 = bstr (1 :: idL a) := by
  rw [show 1 :: idL a = [1] ++ idL a from rfl, bstr_app, ← idStr_bstr]; rfl
theorem entL_1 {e : Ent} (h : e.1 = 1) : entL e = 1 :: idL e.2.1 := by unfold entL; rw [if_pos h]
theorem entL_2 {e : Ent} (h : e.1 = 2) : entL e = [2, e.2.2.toNat] := by unfold entL; rw [if_neg (by omega)]
theorem slot_s {L : List (Nat × Value)} {t : Nat} {a b : ByteArray} (h : lk L t = some (.string a)) (e : a = b) : lk L t = some (.string b) := e ▸ h
/-! ### one entry is read -/
theorem ba_pos {t : ByteArray} (h : ¬ t = (⟨#[]⟩ : ByteArray)) : 0 < t.size := by
  rcases Nat.eq_zero_or_pos t.size with h0 | h0
  · refine absurd (ByteArray.ext ?_) h
    exact Array.eq_empty_of_size_eq_zero h0
  · exact h0
theorem tail_size (t : ByteArray) : (t.extract 1 t.size).size = t.size - 1 := by rw [ByteArray.size_extract]; omega
theorem entM_0 {t : ByteArray} (h : t = (⟨#[]⟩ : ByteArray)) : entM t = (3, (0, 0#256, 0), 0) := by rw [h]; rfl
theorem entM_1s {t : ByteArray} (h0 : 0 < t.size) (h1 : ((sb t 0 : Nat) : Int) = 1) (h2 : (((t.extract 1 t.size).size : Nat) : Int) < 32) : entM t = (3, (0, 0#256, 0), 0) := by
  rw [tail_size] at h2
  unfold entM; rw [if_neg (by omega), if_pos (by omega), if_pos (by omega)]
theorem entM_1 {t : ByteArray} (h0 : 0 < t.size) (h1 : ((sb t 0 : Nat) : Int) = 1) (h2 : ¬ (((t.extract 1 t.size).size : Nat) : Int) < 32) : entM t = (0, (1, idOf fun i => sb t (1 + i), 0), 33) := by
  rw [tail_size] at h2
  unfold entM; rw [if_neg (by omega), if_pos (by omega), if_neg (by omega)]
theorem entM_2s {t : ByteArray} (h0 : 0 < t.size) (h1 : ((sb t 0 : Nat) : Int) = 2) (h2 : (t.extract 1 t.size) = (⟨#[]⟩ : ByteArray)) : entM t = (3, (0, 0#256, 0), 0) := by
  have := tail_size t
  rw [h2] at this
  have : t.size - 1 = 0 := this.symm
  unfold entM; rw [if_neg (by omega), if_neg (by omega), if_pos (by omega), if_pos (by omega)]
theorem entM_2h {t : ByteArray} (h0 : 0 < t.size) (h1 : ((sb t 0 : Nat) : Int) = 2) (h2 : 0 < (t.extract 1 t.size).size) (h3 : (16 : Int) ≤ ((sb (t.extract 1 t.size) 0 : Nat) : Int)) : entM t = (5, (0, 0#256, 0), 0) := by
  have h9 := tail_size t
  rw [sb_extract _ _ _ (by omega), Nat.add_zero] at h3
  unfold entM; rw [if_neg (by omega), if_neg (by omega), if_pos (by omega), if_neg (by omega), if_pos (by omega)]
theorem entM_2 {t : ByteArray} (h0 : 0 < t.size) (h1 : ((sb t 0 : Nat) : Int) = 2) (h2 : 0 < (t.extract 1 t.size).size) (h3 : ¬ (16 : Int) ≤ ((sb (t.extract 1 t.size) 0 : Nat) : Int)) : entM t = (0, (2, 0#256, ((sb (t.extract 1 t.size) 0 : Nat) : Int)), 2) := by
  have h9 := tail_size t
  rw [sb_extract _ _ _ (by omega), Nat.add_zero] at h3 ⊢
  unfold entM; rw [if_neg (by omega), if_neg (by omega), if_pos (by omega), if_neg (by omega), if_neg (by omega)]
theorem entM_n {t : ByteArray} (h0 : 0 < t.size) (h1 : ¬ ((sb t 0 : Nat) : Int) = 1) (h2 : ¬ ((sb t 0 : Nat) : Int) = 2) : entM t = (5, (0, 0#256, 0), 0) := by
  unfold entM; rw [if_neg (by omega), if_neg (by omega), if_neg (by omega)]
theorem strL_get (x : ByteArray) (i : Nat) (h : i < x.size) : (strL x)[i]? = some (sb x i) := by
  unfold strL sb
  rw [List.getElem?_map, Array.getElem?_toList, List.getD_eq_getElem?_getD, Array.getElem?_toList]
  have h' : i < x.data.size := h
  rw [Array.getElem?_eq_getElem h']; rfl
theorem strL_id {t : ByteArray} (h : 33 ≤ t.size) : (byL (strL ((t.extract 1 t.size).extract 0 32))).toArray = idArr (idOf fun i => sb t (1 + i)) := by
  have hs1 := tail_size t
  have hs2 : ((t.extract 1 t.size).extract 0 32).size = 32 := by rw [ByteArray.size_extract, hs1]; omega
  apply Array.ext_getElem?
  intro i
  by_cases hi : i < 32
  · rw [idArr_get _ i hi, byteAt_idOf _ (fun i => sb_lt _ _) i hi, List.getElem?_toArray, byL, List.getElem?_map, strL_get _ _ (by omega), sb_cut _ _ _ _ (by omega) (by omega), Nat.zero_add, sb_extract _ _ _ (by omega)]
    rfl
  · rw [Array.getElem?_eq_none (by simp [hs2]; omega), Array.getElem?_eq_none (by simp; omega)]
/-! ### a stack is read -/
def endM (sx : ByteArray) (k : Nat) : Int := if k = 0 then 0 else (((rdS sx k).2.2 : Nat) : Int)
theorem owns_nil (w : World) (base : Nat) (e : TypeId) (sz : Nat) : Owns w base e sz (.slice none 0 0) 0 [] := ⟨by simp, .inl ⟨rfl, rfl⟩⟩
theorem rd_out {w : World} {base : Nat} {e : TypeId} {sx : ByteArray} {err n : Int} {m : Nat} {l : List Ent} {vs : Value} (h : readM sx = (err, l, m)) (hn : n = (m : Int)) (hO : Owns w base e 34 vs l.length (eCells l)) :
    ∃ v', Value.tuple #[vs, .int .i64 n, .int .i64 err] = .tuple #[v', .int .i64 (((readM sx).2.2 : Nat) : Int), .int .i64 (readM sx).1] ∧ Owns w base e 34 v' (readM sx).2.1.length (eCells (readM sx).2.1) := by
  subst hn; rw [h]; exact ⟨vs, rfl, hO⟩
theorem readM_0 {sx : ByteArray} (h : sx = (⟨#[]⟩ : ByteArray)) : readM sx = (3, [], 0) := by rw [h]; rfl
theorem readM_5 {sx : ByteArray} (h0 : 0 < sx.size) (h : ((sb sx 0 : Nat) : Int) < 1 ∨ (4 : Int) < ((sb sx 0 : Nat) : Int)) : readM sx = (5, [], 0) := by
  unfold readM; rw [if_neg (by omega), if_pos (by omega)]
theorem readM_in {sx : ByteArray} (h0 : 0 < sx.size) (h : ¬ ((sb sx 0 : Nat) : Int) < 1) (h' : ¬ (4 : Int) < ((sb sx 0 : Nat) : Int)) : readM sx = rdS sx (sb sx 0) := by
  unfold readM; rw [if_neg (by omega), if_neg (by omega)]
theorem rdS_ok {sx : ByteArray} {k : Nat} (h : (rdS sx k).1 = 0) (h2 : (entM (sufS sx (rdS sx k).2.2)).1 = 0) : rdS sx (k + 1) = (0, (rdS sx k).2.1 ++ [(entM (sufS sx (rdS sx k).2.2)).2.1], (rdS sx k).2.2 + (entM (sufS sx (rdS sx k).2.2)).2.2) := by
  rw [rdS, if_pos h, if_pos h2]
theorem rdS_no {sx : ByteArray} {k n : Nat} (h : (rdS sx k).1 = 0) (h2 : ¬ (entM (sufS sx (rdS sx k).2.2)).1 = 0) (hk : k < n) : rdS sx n = ((entM (sufS sx (rdS sx k).2.2)).1, [], 0) := by
  have e : rdS sx (k + 1) = ((entM (sufS sx (rdS sx k).2.2)).1, [], 0) := by rw [rdS, if_pos h, if_neg h2]
  rw [rd_stay sx (k + 1) (by rw [e]; exact h2) n (by omega), e]
theorem entM_le (t : ByteArray) : (entM t).2.2 ≤ t.size := by
  unfold entM
  repeat' split
  all_goals first | exact Nat.zero_le _ | (show 33 ≤ _; omega) | (show 2 ≤ _; omega)
theorem endM_ok {sx : ByteArray} {k : Nat} (h : (rdS sx k).1 = 0) (h2 : (entM (sufS sx (rdS sx k).2.2)).1 = 0) : (((rdS sx k).2.2 : Nat) : Int) + (((entM (sufS sx (rdS sx k).2.2)).2.2 : Nat) : Int) = endM sx (k + 1) := by
  unfold endM; rw [if_neg (by omega), rdS_ok h h2]; exact (Int.natCast_add _ _).symm
theorem eCells_next {sx : ByteArray} {k : Nat} (h : (rdS sx k).1 = 0) (h2 : (entM (sufS sx (rdS sx k).2.2)).1 = 0) : eCells (rdS sx k).2.1 ++ [Value.agg (eArr (entM (sufS sx (rdS sx k).2.2)).2.1)].flatMap (fun v => v.cells.toList) = eCells (rdS sx (k + 1)).2.1 := by
  rw [rdS_ok h h2, eCells_app, eCells_one]; simp [Value.cells]
theorem rd_bad {sx : ByteArray} {k : Nat} {err : Int} {z : Ent} (h0 : 0 < sx.size) (h : ¬ ((sb sx 0 : Nat) : Int) < 1) (h' : ¬ (4 : Int) < ((sb sx 0 : Nat) : Int)) (h1 : (rdS sx k).1 = 0) (hk : k < sb sx 0) (he : entM (sufS sx (rdS sx k).2.2) = (err, z, 0)) (hne : err ≠ 0) : readM sx = (err, [], 0) := by
  rw [readM_in h0 h h', rdS_no h1 (by rw [he]; exact hne) hk, he]
theorem rd_bad' {sx : ByteArray} {k : Nat} (h0 : 0 < sx.size) (h : ¬ ((sb sx 0 : Nat) : Int) < 1) (h' : ¬ (4 : Int) < ((sb sx 0 : Nat) : Int)) (h1 : (rdS sx k).1 = 0) (hk : k < sb sx 0) (hne : (entM (sufS sx (rdS sx k).2.2)).1 ≠ 0) : readM sx = ((entM (sufS sx (rdS sx k).2.2)).1, [], 0) := by
  rw [readM_in h0 h h', rdS_no h1 hne hk]
theorem rd_end {sx : ByteArray} {k : Nat} (h0 : 0 < sx.size) (h : ¬ ((sb sx 0 : Nat) : Int) < 1) (h' : ¬ (4 : Int) < ((sb sx 0 : Nat) : Int)) (h1 : (rdS sx k).1 = 0) (hk : k = sb sx 0) : readM sx = (0, (rdS sx k).2.1, (rdS sx k).2.2) := by
  subst hk
  rw [readM_in h0 h h', ← h1]
theorem rdS_to {sx : ByteArray} {k n : Nat} {e : Ent} (h : (rdS sx k).1 = 0) (he : entM (sufS sx (rdS sx k).2.2) = (0, e, n)) : rdS sx (k + 1) = (0, (rdS sx k).2.1 ++ [e], (rdS sx k).2.2 + n) := by
  rw [rdS_ok h (by rw [he]), he]
theorem eCells_to {sx : ByteArray} {k n : Nat} {e : Ent} (h : (rdS sx k).1 = 0) (he : entM (sufS sx (rdS sx k).2.2) = (0, e, n)) : eCells (rdS sx k).2.1 ++ [Value.agg (eArr e)].flatMap (fun v => v.cells.toList) = eCells (rdS sx (k + 1)).2.1 := by
  rw [rdS_to h he, eCells_app, eCells_one]; simp [Value.cells]
theorem rec_to {sx : ByteArray} {k n : Nat} {e : Ent} {v u : Value} (h : (rdS sx k).1 = 0) (he : entM (sufS sx (rdS sx k).2.2) = (0, e, n)) :
    ((#[v, .int .i64 (((rdS sx k).2.2 : Nat) : Int), .int .i64 0] : Array Value).setIfInBounds 0 u).setIfInBounds 1 (.int .i64 ((((rdS sx k).2.2 : Nat) : Int) + (n : Int))) = #[u, .int .i64 (((rdS sx (k + 1)).2.2 : Nat) : Int), .int .i64 0] := by
  rw [rdS_to h he]
  show (#[u, .int .i64 ((((rdS sx k).2.2 : Nat) : Int) + (n : Int)), .int .i64 0] : Array Value) = _
  rw [Int.natCast_add]
theorem rd_outT {w : World} {base : Nat} {e : TypeId} {sx : ByteArray} {err n : Int} {m : Nat} {l : List Ent} {vs : Value} (h : readM sx = (err, l, m)) (hn : n = (m : Int)) (hO : Owns w base e 34 vs l.length (eCells l)) :
    ∃ v', Value.agg #[vs, .int .i64 n, .int .i64 err] = .agg #[v', .int .i64 (((readM sx).2.2 : Nat) : Int), .int .i64 (readM sx).1] ∧ Owns w base e 34 v' (readM sx).2.1.length (eCells (readM sx).2.1) := by
  subst hn; rw [h]; exact ⟨vs, rfl, hO⟩
section
variable {t : ByteArray}
theorem entR_0 (h : ((t.size : Nat) : Int) = 0) : entM t = (3, (0, 0#256, 0), 0) := by unfold entM; rw [if_pos (by omega)]
theorem entR_1s (h0 : ¬ ((t.size : Nat) : Int) = 0) (h1 : ((sb t 0 : Nat) : Int) = 1) (h2 : ((t.size : Nat) : Int) < 33) : entM t = (3, (0, 0#256, 0), 0) := by
  unfold entM; rw [if_neg (by omega), if_pos (by omega), if_pos (by omega)]
theorem entR_1 (h0 : ¬ ((t.size : Nat) : Int) = 0) (h1 : ((sb t 0 : Nat) : Int) = 1) (h2 : ¬ ((t.size : Nat) : Int) < 33) : entM t = (0, (1, idOf fun i => sb t (1 + i), 0), 33) := by
  unfold entM; rw [if_neg (by omega), if_pos (by omega), if_neg (by omega)]
theorem entR_n (h0 : ¬ ((t.size : Nat) : Int) = 0) (h1 : ¬ ((sb t 0 : Nat) : Int) = 1) (h2 : ((sb t 0 : Nat) : Int) < 1 ∨ (2 : Int) < ((sb t 0 : Nat) : Int)) : entM t = (5, (0, 0#256, 0), 0) := by
  unfold entM; rw [if_neg (by omega), if_neg (by omega), if_neg (by omega)]
theorem entR_2s (h0 : ¬ ((t.size : Nat) : Int) = 0) (h1 : ((sb t 0 : Nat) : Int) = 2) (h2 : ((t.size : Nat) : Int) < 2) : entM t = (3, (0, 0#256, 0), 0) := by
  unfold entM; rw [if_neg (by omega), if_neg (by omega), if_pos (by omega), if_pos (by omega)]
theorem entR_2h (h0 : ¬ ((t.size : Nat) : Int) = 0) (h1 : ((sb t 0 : Nat) : Int) = 2) (h2 : ¬ ((t.size : Nat) : Int) < 2) (h3 : (15 : Int) < ((sb t 1 : Nat) : Int)) : entM t = (5, (0, 0#256, 0), 0) := by
  unfold entM; rw [if_neg (by omega), if_neg (by omega), if_pos (by omega), if_neg (by omega), if_pos (by omega)]
theorem entR_2 (h0 : ¬ ((t.size : Nat) : Int) = 0) (h1 : ((sb t 0 : Nat) : Int) = 2) (h2 : ¬ ((t.size : Nat) : Int) < 2) (h3 : ¬ (15 : Int) < ((sb t 1 : Nat) : Int)) : entM t = (0, (2, 0#256, ((sb t 1 : Nat) : Int)), 2) := by
  unfold entM; rw [if_neg (by omega), if_neg (by omega), if_pos (by omega), if_neg (by omega), if_neg (by omega)]
def ptd (t : ByteArray) (j : Nat) : Id := idOf fun i => if i < j then sb t (1 + i) else 0
theorem ptd_lt (j : Nat) : ∀ i, (if i < j then sb t (1 + i) else 0) < 256 := fun i => by split; exact sb_lt _ _; decide
theorem ptd_zero : (0#256 : Id) = ptd t 0 := id_ext fun i hi => by
  unfold ptd; rw [byteAt_idOf _ (ptd_lt 0) i hi, byteAt_z]; rfl
theorem ptd_end : ptd t 32 = idOf fun i => sb t (1 + i) := id_ext fun i hi => by
  unfold ptd; rw [byteAt_idOf _ (ptd_lt 32) i hi, byteAt_idOf _ (fun i => sb_lt _ _) i hi, if_pos hi]
theorem ptd_next {j : Nat} (hj : j < 32) : (idArr (ptd t j)).setIfInBounds j (.int .u8 ((sb t (1 + j) : Nat) : Int)) = idArr (ptd t (j + 1)) := by
  rw [idArr_bytes, idArr_bytes, bytesF_set]
  refine bytesF_congr fun i hi => ?_
  unfold ptd
  rw [byteAt_idOf _ (ptd_lt j) i hi, byteAt_idOf _ (ptd_lt (j + 1)) i hi]
  by_cases e : i = j
  · subst e; rw [if_pos rfl, if_pos (by omega)]
  · rw [if_neg e]
    by_cases h : i < j
    · rw [if_pos h, if_pos (by omega)]
    · rw [if_neg h, if_neg (by omega)]
end
theorem eArr_setH (a h h' : Int) (b : Id) : (eArr (a, b, h)).setIfInBounds 33 (.int .i64 h') = eArr (a, b, h') := by
  apply Array.ext_getElem?
  intro i
  by_cases e : i = 33
  · subst e; rw [Array.getElem?_setIfInBounds_self_of_lt (by rw [eArr_size]; decide)]; exact (eArr_host (a, b, h')).symm
  · rw [Array.getElem?_setIfInBounds_ne (fun e' => e e'.symm), ← Array.getElem?_toList, ← Array.getElem?_toList, eArr_list, eArr_list]
    cases i with
    | zero => rfl
    | succ i =>
      rw [List.getElem?_cons_succ, List.getElem?_cons_succ]
      by_cases hi : i < 32
      · rw [List.getElem?_append_left (by simpa using hi), List.getElem?_append_left (by simpa using hi)]
      · rw [List.getElem?_eq_none (by simp; omega), List.getElem?_eq_none (by simp; omega)]
theorem eArr_setB (a h : Int) (b b' : Id) (j : Nat) (v : Value) (hj : j < 32) (hb : (idArr b).setIfInBounds j v = idArr b') : (eArr (a, b, h)).setIfInBounds (1 + j) v = eArr (a, b', h) := by
  apply Array.ext'
  rw [Array.toList_setIfInBounds, eArr_list, eArr_list, Nat.add_comm, List.set_cons_succ, List.set_append_left _ _ (by simpa using hj), ← Array.toList_setIfInBounds, hb]
theorem St.recell {w0 w : World} {B : List Own} {b : Nat} {C D : Array Value} {u : TypeId} (s : St w0 B w) (i : Nat) (hi : B[i]? = some (.blk b (.cells C u))) (e : C = D) : St w0 (B.set i (.blk b (.cells D u))) w := by
  subst e
  have : B.set i (.blk b (.cells C u)) = B := by
    apply List.ext_getElem?
    intro j
    by_cases h : i = j
    · subst h
      have hl := (List.getElem?_eq_some_iff.1 hi).1
      rw [List.getElem?_set_self hl, hi]
    · rw [List.getElem?_set_ne h]
  rw [this]; exact s
theorem ba_nil {t : ByteArray} (h : ((t.size : Nat) : Int) = 0) : t = (⟨#[]⟩ : ByteArray) := by
  refine ByteArray.ext ?_
  exact Array.eq_empty_of_size_eq_zero (by show t.size = 0; omega)
section
variable {P : Program} {ρ : Operand → Value} {d : Option Tmp} {ty : TypeId} {pos : String} {af : Array Edge} {g : Option (Nat × Bool)} {x y : Operand} {t : TypeId}
theorem ru_build_t3 {q : Int} (S : Stt P t tZ) (hx : ρ x = .int .i64 q) : RunsTo P ⟨d, .build t #[(2, x)], ty, pos, af, g⟩ ρ (.agg #[.slice none 0 0, .int .i64 0, .int .i64 q]) := by
  have := ru_build_st (P := P) (ρ := ρ) (d := d) (ty := ty) (pos := pos) (af := af) (g := g) (parts := #[(2, x)]) S [(2, .int .i64 q)] (by simp [hx]) (fun i v hm => by simp at hm; rcases hm with ⟨rfl, rfl⟩; exact ⟨_, rfl, rfl⟩) (D := [.slice none 0 0, .int .i64 0, .int .i64 q]) rfl
  simpa using this
theorem ru_build_t2 {q : Int} (S : Stt P t tZ) (hx : ρ x = .int .i64 q) : RunsTo P ⟨d, .build t #[(1, x)], ty, pos, af, g⟩ ρ (.agg #[.slice none 0 0, .int .i64 q, .int .i64 0]) := by
  have := ru_build_st (P := P) (ρ := ρ) (d := d) (ty := ty) (pos := pos) (af := af) (g := g) (parts := #[(1, x)]) S [(1, .int .i64 q)] (by simp [hx]) (fun i v hm => by simp at hm; rcases hm with ⟨rfl, rfl⟩; exact ⟨_, rfl, rfl⟩) (D := [.slice none 0 0, .int .i64 q, .int .i64 0]) rfl
  simpa using this
end
/-! ### pushes -/
/-! ### what the laws want -/
theorem textW_t {l : List Ent} (h : rightE l = true) : textW l = textE l := by unfold textW; rw [if_pos h]
theorem textE_le {l : List Ent} (h : rightE l = true) : (textE l).size ≤ 133 := by
  obtain ⟨_, h2, _⟩ := (rightE_iff l).1 h
  have := flatE_len l
  rw [textE_size]; omega
theorem readM_len (s : ByteArray) : (readM s).2.1.length ≤ 4 := by
  by_cases h : (readM s).1 = 0
  · obtain ⟨h1, _⟩ := text_read s h
    exact ((rightE_iff _).1 h1).2.1
  · rw [read_err s h]; exact Nat.zero_le _
theorem rd_nil (w : World) : RdZ w (.slice none 0 0) 34 ([] : List Ent).length (eCells []) := ⟨rfl, .inl ⟨rfl, rfl⟩⟩
theorem bne_self_f (b : Bool) : (b != b) = false := by cases b <;> rfl
end Go.Proofs.Ytaehgcdcfbhohaa
