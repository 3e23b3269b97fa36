/- Messages: which may be, their parts and bytes; no Go in it. -/
import Derived.Test.YthjkhnhiciamaaaSp
set_option linter.unusedVariables false
set_option linter.unusedSimpArgs false
set_option linter.unusedSectionVars false
namespace Go.Proofs.Ythjkhnhiciamaaa
/-! ### messages: what they hold, their bytes, what is read -/
structure Mg where
  k : Int
  i : Id
  t : Ent
  l : List Ent
  n : Int
  o : ByteArray
  d : ByteArray
theorem mg_ext {a b : Mg} (hk : a.k = b.k) (hi : a.i = b.i) (ht : a.t = b.t) (hl : a.l = b.l) (hn : a.n = b.n) (ho : a.o = b.o) (hd : a.d = b.d) : a = b := by
  cases a; cases b; simp_all
def mEqB (a b : Mg) : Bool := decide (a.k = b.k) && decide (a.i = b.i) && decide (a.t = b.t) && decide (a.l = b.l) && decide (a.n = b.n) && decide (a.o = b.o) && decide (a.d = b.d)
theorem mEqB_iff (a b : Mg) : mEqB a b = true ↔ a = b := by
  unfold mEqB
  simp only [Bool.and_eq_true, decide_eq_true_eq]
  constructor
  · rintro ⟨⟨⟨⟨⟨⟨h1, h2⟩, h3⟩, h4⟩, h5⟩, h6⟩, h7⟩; exact mg_ext h1 h2 h3 h4 h5 h6 h7
  · rintro rfl; simp
def mZ : Mg := ⟨0, 0#256, (0, 0#256, 0), [], 0, ⟨#[]⟩, ⟨#[]⟩⟩
def mArr (m : Mg) (v : Value) : Array Value := (Value.int .i64 m.k :: ((idArr m.i).toList ++ ((eArr m.t).toList ++ [v, .int .i64 m.n, .string m.o, .string m.d]))).toArray
theorem idL32 (a : Id) : (idArr a).toList.length = 32 := by rw [Array.length_toList, idArr_size]
theorem eL34 (e : Ent) : (eArr e).toList.length = 34 := by rw [Array.length_toList, eArr_size]
@[simp] theorem mArr_size (m : Mg) (v : Value) : (mArr m v).size = 71 := by
  simp only [mArr, List.size_toArray, List.length_cons, List.length_append, idL32, eL34, List.length_nil]
theorem mArr_list (m : Mg) (v : Value) : (mArr m v).toList = Value.int .i64 m.k :: ((idArr m.i).toList ++ ((eArr m.t).toList ++ [v, .int .i64 m.n, .string m.o, .string m.d])) := rfl
theorem mArr_k (m : Mg) (v : Value) : (mArr m v)[0]? = some (.int .i64 m.k) := rfl
theorem mArr_tail (m : Mg) (v : Value) (j : Nat) : (mArr m v)[67 + j]? = ([v, .int .i64 m.n, .string m.o, .string m.d] : List Value)[j]? := by
  rw [← Array.getElem?_toList, mArr_list, show 67 + j = (66 + j) + 1 from by omega, List.getElem?_cons_succ, List.getElem?_append_right (by rw [idL32]; omega), idL32, List.getElem?_append_right (by rw [eL34]; omega), eL34]
  congr 1; omega
theorem mArr_v (m : Mg) (v : Value) : (mArr m v)[67]? = some v := mArr_tail m v 0
theorem mArr_n (m : Mg) (v : Value) : (mArr m v)[68]? = some (.int .i64 m.n) := mArr_tail m v 1
theorem mArr_o (m : Mg) (v : Value) : (mArr m v)[69]? = some (.string m.o) := mArr_tail m v 2
theorem mArr_d (m : Mg) (v : Value) : (mArr m v)[70]? = some (.string m.d) := mArr_tail m v 3
theorem ext_listW {C : Array Value} {a n : Nat} {D : Array Value} (h : (C.toList.drop a).take n = D.toList) : C.extract a (a + n) = D := by
  apply Array.ext'
  rw [← h, Array.toList_extract, List.extract_eq_take_drop, Nat.add_sub_cancel_left]
theorem mArr_i (m : Mg) (v : Value) : (mArr m v).extract 1 (1 + 32) = idArr m.i := ext_listW (by
  rw [mArr_list, List.drop_succ_cons, List.drop_zero, List.take_append_of_le_length (by rw [idL32]; omega), List.take_of_length_le (by rw [idL32]; omega)])
theorem mArr_t (m : Mg) (v : Value) : (mArr m v).extract 33 (33 + 34) = eArr m.t := ext_listW (by
  rw [mArr_list, show (33 : Nat) = 32 + 1 from rfl, List.drop_succ_cons, List.drop_append_of_le_length (by rw [idL32]; omega), List.drop_of_length_le (by rw [idL32]; omega), List.nil_append, List.take_append_of_le_length (by rw [eL34]; omega), List.take_of_length_le (by rw [eL34]; omega)])
theorem mArr_ones (m : Mg) (v : Value) (hv : v.oneCell' = true) : ∀ u ∈ (mArr m v).toList, u.oneCell' = true := by
  intro u hu
  rw [mArr_list] at hu
  simp only [List.mem_cons, List.mem_append, List.not_mem_nil, or_false] at hu
  rcases hu with rfl | hu | hu | rfl | rfl | rfl | rfl
  · rfl
  · exact idArr_ones _ _ hu
  · exact eArr_ones _ _ hu
  · exact hv
  · rfl
  · rfl
  · rfl
theorem set_list {C : Array Value} {j : Nat} {x : Value} {D : Array Value} (h : C.toList.set j x = D.toList) : C.setIfInBounds j x = D := by
  apply Array.ext'; rw [← h, Array.toList_setIfInBounds]
theorem mArr_setTail (m : Mg) (v : Value) (j : Nat) (x : Value) : (mArr m v).setIfInBounds (67 + j) x = (Value.int .i64 m.k :: ((idArr m.i).toList ++ ((eArr m.t).toList ++ ([v, .int .i64 m.n, .string m.o, .string m.d] : List Value).set j x))).toArray := set_list (by
  rw [mArr_list, show 67 + j = (66 + j) + 1 from by omega, List.set_cons_succ, List.set_append_right _ _ (by rw [idL32]; omega), idL32, List.set_append_right _ _ (by rw [eL34]; omega), eL34, show 66 + j - 32 - 34 = j from by omega])
theorem mArr_setV (m : Mg) (v u : Value) (l : List Ent) : (mArr m v).setIfInBounds 67 u = mArr { m with l := l } u := mArr_setTail m v 0 u
theorem mArr_setO (m : Mg) (v : Value) (q : ByteArray) : (mArr m v).setIfInBounds 69 (.string q) = mArr { m with o := q } v := mArr_setTail m v 2 _
theorem mArr_setD (m : Mg) (v : Value) (q : ByteArray) : (mArr m v).setIfInBounds 70 (.string q) = mArr { m with d := q } v := mArr_setTail m v 3 _
/-! ### which fields a kind has -/
def isK (k : Int) : Bool := decide (1 ≤ k) && decide (k ≤ 10)
def hasI (k : Int) : Bool := decide (2 ≤ k) && decide (k ≤ 10)
def hasT (k : Int) : Bool := decide (2 ≤ k) && decide (k ≤ 6)
def hasS (k : Int) : Bool := decide (k = 1)
def hasN (k : Int) : Bool := decide (k = 1) || decide (k = 2) || decide (k = 4) || (decide (8 ≤ k) && decide (k ≤ 10))
def hasO (k : Int) : Bool := decide (k = 3) || decide (k = 4) || decide (k = 6)
def hasD (k : Int) : Bool := decide (k = 1)
def fArr (k : Int) : Array Value := #[.bool (hasI k), .bool (hasT k), .bool (hasS k), .bool (hasN k), .bool (hasO k), .bool (hasD k)]
def c1 (m : Mg) : Bool := bif hasI m.k then true else decide (m.i = 0#256)
def c2 (m : Mg) : Bool := bif hasT m.k then isE m.t else decide (m.t = (0, 0#256, 0))
def c3 (m : Mg) : Bool := bif hasS m.k then rightE m.l else decide (m.l.length = 0)
def c4 (m : Mg) : Bool := bif hasN m.k then (decide (0 ≤ m.n) && decide (m.n ≤ 1099511627776)) else decide (m.n = 0)
def c5 (m : Mg) : Bool := bif hasO m.k then decide (m.o.size = 16) else decide (m.o = ⟨#[]⟩)
def c6 (m : Mg) : Bool := bif hasD m.k then decide (m.d.size ≤ 64) else decide (m.d = ⟨#[]⟩)
def rightM (m : Mg) : Bool := isK m.k && c1 m && c2 m && c3 m && c4 m && c5 m && c6 m
/-! ### numbers -/
def numL (n : Int) : List Nat := (List.range 8).map fun i => n.toNat / 256 ^ i % 256
theorem numL_length (n : Int) : (numL n).length = 8 := by simp [numL]
/-! ### the fields' bytes, and what is read of a text -/
def segI (k : Int) (i : Id) : List Nat := bif hasI k then idL i else []
def segT (k : Int) (t : Ent) : List Nat := bif hasT k then 1 :: entL t else []
def segS (k : Int) (l : List Ent) : List Nat := bif hasS k then textL l else []
def segN (k : Int) (n : Int) : List Nat := bif hasN k then numL n else []
def vI (k : Int) (r : ByteArray) : Id := bif hasI k then idOf (sb r) else 0#256
def rI (k : Int) (r : ByteArray) : ByteArray := bif hasI k then sufS r 32 else r
def rT (k : Int) (r : ByteArray) : ByteArray := bif hasT k then sufS r (readM r).2.2 else r
def kS (s : ByteArray) : Int := ((sb s 0 : Nat) : Int)
def q0 (s : ByteArray) : ByteArray := sufS s 1
def q1 (s : ByteArray) : ByteArray := rI (kS s) (q0 s)
def q2 (s : ByteArray) : ByteArray := rT (kS s) (q1 s)
end Go.Proofs.Ythjkhnhiciamaaa

namespace Go.Proofs.Ythjkhnhiciamaaa
/-! ### Id -/
/-! ### Target -/
/-! ### Stack -/
/-! ### N -/
/-! ### Nonce, Data -/
/-! ### the whole -/
theorem right_parts {m : Mg} (h : rightM m = true) : isK m.k = true ∧ c1 m = true ∧ c2 m = true ∧ c3 m = true ∧ c4 m = true ∧ c5 m = true ∧ c6 m = true := by
  unfold rightM at h
  simp only [Bool.and_eq_true] at h
  obtain ⟨⟨⟨⟨⟨⟨h0, h1⟩, h2⟩, h3⟩, h4⟩, h5⟩, h6⟩ := h
  exact ⟨h0, h1, h2, h3, h4, h5, h6⟩
theorem isK_iff (k : Int) : isK k = true ↔ 1 ≤ k ∧ k ≤ 10 := by simp [isK]
end Go.Proofs.Ythjkhnhiciamaaa

namespace Go.Proofs.Ythjkhnhiciamaaa
/-! ### what the walks want: kinds -/
theorem fArr_ones (k : Int) : ∀ v ∈ (fArr k).toList, v.oneCell' = true := by
  intro v hv
  simp only [fArr, List.mem_cons, List.not_mem_nil, or_false] at hv
  rcases hv with rfl | rfl | rfl | rfl | rfl | rfl <;> rfl
theorem isK_no {k : Int} (h : isK k = false) : ¬ (1 ≤ k ∧ k ≤ 10) := fun hk => by
  rw [(isK_iff k).2 hk] at h; cases h
theorem fArr_no {k : Int} (h : isK k = false) : fArr k = fArr 0 := by
  have hk := isK_no h
  have h1 : hasI k = false := by unfold hasI; simp; omega
  have h2 : hasT k = false := by unfold hasT; simp; omega
  have h3 : hasS k = false := by unfold hasS; simp; omega
  have h4 : hasN k = false := by unfold hasN; simp; omega
  have h5 : hasO k = false := by unfold hasO; simp; omega
  have h6 : hasD k = false := by unfold hasD; simp; omega
  unfold fArr; rw [h1, h2, h3, h4, h5, h6]; rfl
theorem find_cons (k : Int) (n : Int) (v : Value) (b : Nat) (r : List MapEntry) (i : Nat) : Instr.findNow (.int .i64) (.int .i64 k) ({ key := .int .i64 n, val := v, born := b } :: r) i = if k = n then some (some (i, v)) else Instr.findNow (.int .i64) (.int .i64 k) r (i + 1) := by
  rw [Instr.findNow]
  show (match (if IntKind.i64 = IntKind.i64 then some (k == n) else none) with | some true => some (some (i, v)) | some false => Instr.findNow (.int .i64) (.int .i64 k) r (i + 1) | none => none) = _
  rw [if_pos rfl]
  by_cases h : k = n
  · subst h; simp
  · have : (k == n) = false := by simpa using h
    rw [this, if_neg h]
def fEnts : List MapEntry := [⟨.int .i64 1, .agg (fArr 1), 0⟩, ⟨.int .i64 2, .agg (fArr 2), 1⟩, ⟨.int .i64 3, .agg (fArr 3), 2⟩, ⟨.int .i64 4, .agg (fArr 4), 3⟩, ⟨.int .i64 5, .agg (fArr 5), 4⟩, ⟨.int .i64 6, .agg (fArr 6), 5⟩, ⟨.int .i64 7, .agg (fArr 7), 6⟩, ⟨.int .i64 8, .agg (fArr 8), 7⟩, ⟨.int .i64 9, .agg (fArr 9), 8⟩, ⟨.int .i64 10, .agg (fArr 10), 9⟩]
theorem find_fields (k : Int) : Instr.findNow (.int .i64) (.int .i64 k) fEnts 0 = if k = 1 then some (some (0, .agg (fArr 1))) else if k = 2 then some (some (1, .agg (fArr 2))) else if k = 3 then some (some (2, .agg (fArr 3))) else if k = 4 then some (some (3, .agg (fArr 4))) else if k = 5 then some (some (4, .agg (fArr 5)))
    else if k = 6 then some (some (5, .agg (fArr 6))) else if k = 7 then some (some (6, .agg (fArr 7))) else if k = 8 then some (some (7, .agg (fArr 8))) else if k = 9 then some (some (8, .agg (fArr 9))) else if k = 10 then some (some (9, .agg (fArr 10))) else some none := by
  unfold fEnts
  rw [find_cons, find_cons, find_cons, find_cons, find_cons, find_cons, find_cons, find_cons, find_cons, find_cons, Instr.findNow]
theorem look_fields (k : Int) : (∃ j, Instr.findNow (.int .i64) (.int .i64 k) fEnts 0 = some (some (j, .agg (fArr k))) ∧ isK k = true) ∨ (Instr.findNow (.int .i64) (.int .i64 k) fEnts 0 = some none ∧ Value.agg (fArr k) = .agg (fArr 0) ∧ isK k = false) := by
  rw [find_fields]
  cases h : isK k
  · have hk := isK_no h
    refine .inr ⟨?_, congrArg Value.agg (fArr_no h), rfl⟩
    rw [if_neg (by omega), if_neg (by omega), if_neg (by omega), if_neg (by omega), if_neg (by omega), if_neg (by omega), if_neg (by omega), if_neg (by omega), if_neg (by omega), if_neg (by omega)]
  · have hk := (isK_iff k).1 h
    have : k = 1 ∨ k = 2 ∨ k = 3 ∨ k = 4 ∨ k = 5 ∨ k = 6 ∨ k = 7 ∨ k = 8 ∨ k = 9 ∨ k = 10 := by omega
    rcases this with rfl | rfl | rfl | rfl | rfl | rfl | rfl | rfl | rfl | rfl
    · exact .inl ⟨0, by simp, rfl⟩
    · exact .inl ⟨1, by simp, rfl⟩
    · exact .inl ⟨2, by simp, rfl⟩
    · exact .inl ⟨3, by simp, rfl⟩
    · exact .inl ⟨4, by simp, rfl⟩
    · exact .inl ⟨5, by simp, rfl⟩
    · exact .inl ⟨6, by simp, rfl⟩
    · exact .inl ⟨7, by simp, rfl⟩
    · exact .inl ⟨8, by simp, rfl⟩
    · exact .inl ⟨9, by simp, rfl⟩
theorem mArr_zero : mArr mZ (.slice none 0 0) = (Value.int .i64 0 :: (List.replicate 32 (Value.int .u8 0) ++ (Value.int .i64 0 :: (List.replicate 32 (Value.int .u8 0) ++ [Value.int .i64 0]) ++ [Value.slice none 0 0, .int .i64 0, .string ⟨#[]⟩, .string ⟨#[]⟩]))).toArray := by
  unfold mArr
  show (Value.int .i64 0 :: ((idArr 0#256).toList ++ ((eArr (0, 0#256, 0)).toList ++ _))).toArray = _
  rw [eArr_zero]
  have : (idArr 0#256).toList = List.replicate 32 (Value.int .u8 0) := by
    have := eArr_zero
    unfold eArr at this
    have h2 := congrArg Array.toList this
    simp only [List.cons.injEq, true_and] at h2
    exact List.append_cancel_right h2
  rw [this]; rfl
def fZ : List (List Value) := [[.bool false], [.bool false], [.bool false], [.bool false], [.bool false], [.bool false]]
theorem c4_n {m : Mg} (h : c4 m = true) : 0 ≤ m.n := by
  unfold c4 at h
  cases hk : hasN m.k
  · rw [hk] at h; have := of_decide_eq_true h; omega
  · rw [hk] at h; simp only [cond_true, Bool.and_eq_true, decide_eq_true_eq] at h; exact h.1
/-! ### numbers' bytes -/
/-! ### like -/
theorem like_1 {a b : Mg} (h : decide (a.k = b.k) = false) : false = mEqB a b := by unfold mEqB; rw [h]; rfl
theorem like_2 {a b : Mg} (h : decide (a.i = b.i) = false) : false = mEqB a b := by unfold mEqB; rw [h]; simp
theorem like_3 {a b : Mg} (h : decide (a.t = b.t) = false) : false = mEqB a b := by unfold mEqB; rw [h]; simp
theorem like_4 {a b : Mg} (h : decide (a.l = b.l) = false) : false = mEqB a b := by unfold mEqB; rw [h]; simp
theorem like_5 {a b : Mg} (h : decide (a.n = b.n) = false) : false = mEqB a b := by unfold mEqB; rw [h]; simp
theorem like_6 {a b : Mg} (h : decide (a.o = b.o) = false) : false = mEqB a b := by unfold mEqB; rw [h]; simp
theorem like_7 {a b : Mg} (h : decide (a.d = b.d) = false) : false = mEqB a b := by unfold mEqB; rw [h]; simp
theorem like_all {a b : Mg} (h1 : decide (a.k = b.k) = true) (h2 : decide (a.i = b.i) = true) (h3 : decide (a.t = b.t) = true) (h4 : decide (a.l = b.l) = true) (h5 : decide (a.n = b.n) = true) (h6 : decide (a.o = b.o) = true) (h7 : decide (a.d = b.d) = true) : true = mEqB a b := by
  unfold mEqB; rw [h1, h2, h3, h4, h5, h6, h7]; rfl
/-! ### text -/
def hq0 (m : Mg) : List Nat := [m.k.toNat]
def hq1 (m : Mg) : List Nat := hq0 m ++ segI m.k m.i
def hq2 (m : Mg) : List Nat := hq1 m ++ segT m.k m.t
def hq3 (m : Mg) : List Nat := hq2 m ++ segS m.k m.l
def hq4 (m : Mg) : List Nat := hq3 m ++ segN m.k m.n
theorem segI_len (k : Int) (i : Id) : (segI k i).length ≤ 32 := by unfold segI; cases hasI k <;> simp [idL_length]
theorem segT_len (k : Int) (t : Ent) : (segT k t).length ≤ 34 := by
  unfold segT; have := (entL_length t).1
  cases hasT k
  · simp
  · simp only [cond_true, List.length_cons]; omega
theorem segN_len (k n : Int) : (segN k n).length ≤ 8 := by unfold segN; cases hasN k <;> simp [numL_length]
theorem segS_len (k : Int) (l : List Ent) (h : l.length ≤ 4) : (segS k l).length ≤ 133 := by
  unfold segS; have := flatE_len l
  cases hasS k
  · simp
  · simp only [cond_true, textL, List.length_cons]; omega
theorem c3_len {m : Mg} (h : c3 m = true) : m.l.length ≤ 4 := by
  unfold c3 at h
  cases hk : hasS m.k
  · rw [hk] at h; have := of_decide_eq_true h; omega
  · rw [hk] at h; exact ((rightE_iff _).1 h).2.1
theorem head_len {m : Mg} (h : rightM m = true) : (hq4 m).length ≤ 208 ∧ (hq3 m).length ≤ 200 ∧ (hq2 m).length ≤ 67 ∧ (hq1 m).length ≤ 33 ∧ m.o.size ≤ 16 ∧ m.d.size ≤ 64 := by
  obtain ⟨h0, h1, h2, h3, h4, h5, h6⟩ := right_parts h
  have a1 := segI_len m.k m.i; have a2 := segT_len m.k m.t; have a3 := segS_len m.k m.l (c3_len h3); have a4 := segN_len m.k m.n
  refine ⟨?_, ?_, ?_, ?_, ?_, ?_⟩
  · simp only [hq4, hq3, hq2, hq1, hq0, List.length_append, List.length_cons, List.length_nil]; omega
  · simp only [hq3, hq2, hq1, hq0, List.length_append, List.length_cons, List.length_nil]; omega
  · simp only [hq2, hq1, hq0, List.length_append, List.length_cons, List.length_nil]; omega
  · simp only [hq1, hq0, List.length_append, List.length_cons, List.length_nil]; omega
  · unfold c5 at h5
    cases hk : hasO m.k
    · rw [hk] at h5; rw [of_decide_eq_true h5]; decide
    · rw [hk] at h5; have := of_decide_eq_true h5; omega
  · unfold c6 at h6
    cases hk : hasD m.k
    · rw [hk] at h6; rw [of_decide_eq_true h6]; decide
    · rw [hk] at h6; exact of_decide_eq_true h6
def mZs : List (List Value) := [[.int .i64 0], List.replicate 32 (.int .u8 0), .int .i64 0 :: (List.replicate 32 (.int .u8 0) ++ [.int .i64 0]), [.slice none 0 0], [.int .i64 0], [.string ⟨#[]⟩], [.string ⟨#[]⟩]]
theorem z34 : (Value.int .i64 0 :: (List.replicate 32 (Value.int .u8 0) ++ [Value.int .i64 0])) = (eArr (0, 0#256, 0)).toList := by rw [eArr_zero]
variable {P : Program} {ρ : Operand → Value} {d : Option Tmp} {ty : TypeId} {pos : String} {af : Array Edge} {g : Option (Nat × Bool)} {x y : Operand} {t : TypeId}
theorem ru_build_m0 (S : Stt P t mZs) : RunsTo P ⟨d, .build t #[], ty, pos, af, g⟩ ρ (.agg (mArr mZ (.slice none 0 0))) := by
  rw [mArr_zero]
  exact ru_build_st S [] rfl (fun _ _ h => by cases h) rfl
/-! ### the reference's fields -/
def fstrs : List ByteArray := [⟨#[]⟩, ⟨#[115, 110, 100]⟩, ⟨#[105, 116, 110]⟩, ⟨#[105, 116, 111]⟩, ⟨#[105, 116, 110, 111]⟩, ⟨#[105, 116]⟩, ⟨#[105, 116, 111]⟩, ⟨#[105]⟩, ⟨#[105, 110]⟩, ⟨#[105, 110]⟩, ⟨#[105, 110]⟩]
def fS (k : Int) : ByteArray := fstrs.getD k.toNat ⟨#[]⟩
def anyB (s : ByteArray) (f : Int) : Bool := (List.range s.size).any fun i => decide (((sb s i : Nat) : Int) = f)
def hasF (k f : Int) : Bool := decide (1 ≤ k) && decide (k ≤ 10) && anyB (fS k) f
theorem fS_get {k : Int} (h1 : 1 ≤ k) (h2 : k ≤ 10) : (fstrs.map Value.string)[k.toNat]? = some (.string (fS k)) := by
  have h : k.toNat < fstrs.length := by show k.toNat < 11; omega
  rw [List.getElem?_map, List.getElem?_eq_getElem h, fS, List.getD_eq_getElem?_getD, List.getElem?_eq_getElem h]; rfl
theorem hasF_lo {k f : Int} (h : k < 1) : false = hasF k f := by unfold hasF; rw [decide_eq_false (by omega)]; rfl
theorem hasF_hi {k f : Int} (h : 10 < k) : false = hasF k f := by unfold hasF; rw [decide_eq_false (show ¬ k ≤ 10 by omega)]; simp
theorem hasF_yes {k f : Int} (h1 : 1 ≤ k) (h2 : k ≤ 10) {j : Nat} (hj : j < (fS k).size) (h : ((sb (fS k) j : Nat) : Int) = f) : true = hasF k f := by
  unfold hasF anyB
  rw [decide_eq_true h1, decide_eq_true h2]
  symm
  show (List.any _ _) = true
  rw [List.any_eq_true]
  exact ⟨j, List.mem_range.2 hj, decide_eq_true h⟩
theorem hasF_no {k f : Int} (h : ∀ i, i < (fS k).size → ¬ ((sb (fS k) i : Nat) : Int) = f) : false = hasF k f := by
  unfold hasF anyB
  have : ((List.range (fS k).size).any fun i => decide (((sb (fS k) i : Nat) : Int) = f)) = false := by
    rw [List.any_eq_false]; intro i hi; simpa using h i (List.mem_range.1 hi)
  rw [this, Bool.and_false]
theorem hasF_all (f : Int) (g : Int → Bool) (h : ∀ k : Nat, k < 11 → 1 ≤ k → anyB (fS k) f = g k) (h0 : ∀ k, isK k = false → g k = false) (k : Int) : hasF k f = g k := by
  unfold hasF
  cases hk : isK k
  · rw [h0 k hk]
    unfold isK at hk
    rw [hk]; rfl
  · have hk2 := (isK_iff k).1 hk
    rw [decide_eq_true hk2.1, decide_eq_true hk2.2]
    have e : k = ((k.toNat : Nat) : Int) := by omega
    have := h k.toNat (by omega) (by omega)
    rw [← e] at this
    rw [this]; rfl
theorem has0 {k : Int} (h : isK k = false) : hasI k = false ∧ hasT k = false ∧ hasS k = false ∧ hasN k = false ∧ hasO k = false ∧ hasD k = false := by
  have := fArr_no h
  unfold fArr at this
  simp only [Array.mk.injEq, List.cons.injEq, Value.bool.injEq, and_true] at this
  exact this
theorem hasF_i (k : Int) : hasF k 105 = hasI k := hasF_all 105 hasI (by decide) (fun k h => (has0 h).1) k
theorem hasF_t (k : Int) : hasF k 116 = hasT k := hasF_all 116 hasT (by decide) (fun k h => (has0 h).2.1) k
theorem hasF_s (k : Int) : hasF k 115 = hasS k := hasF_all 115 hasS (by decide) (fun k h => (has0 h).2.2.1) k
theorem hasF_n (k : Int) : hasF k 110 = hasN k := hasF_all 110 hasN (by decide) (fun k h => (has0 h).2.2.2.1) k
theorem hasF_o (k : Int) : hasF k 111 = hasO k := hasF_all 111 hasO (by decide) (fun k h => (has0 h).2.2.2.2.1) k
theorem hasF_d (k : Int) : hasF k 100 = hasD k := hasF_all 100 hasD (by decide) (fun k h => (has0 h).2.2.2.2.2) k
/-! ### the reference's Right -/
def bd4 (m : Mg) : Bool := (!hasI m.k && decide (m.i ≠ 0#256)) || (!hasT m.k && !decide (m.t = (0, 0#256, 0))) || (!hasS m.k && decide (0 < m.l.length))
def bd6 (m : Mg) : Bool := (!hasN m.k && decide (m.n ≠ 0)) || (!hasD m.k && decide (m.d ≠ ⟨#[]⟩))
def bd8 (m : Mg) : Bool := (hasT m.k && !isE m.t) || (hasS m.k && !rightE m.l)
theorem right_ref {m : Mg} (h1 : 1 ≤ m.k) (h2 : m.k ≤ 10) (h3 : 0 ≤ m.n) (h4 : m.n ≤ 1099511627776) (h5 : m.d.size ≤ 64) : rightM m = (!bd4 m && (!bd6 m && (!bd8 m && c5 m))) := by
  have hk : isK m.k = true := (isK_iff _).2 ⟨h1, h2⟩
  have e1 : c1 m = !(!hasI m.k && decide (m.i ≠ 0#256)) := by unfold c1; cases hasI m.k <;> simp
  have e2 : c2 m = (!(!hasT m.k && !decide (m.t = (0, 0#256, 0))) && !(hasT m.k && !isE m.t)) := by unfold c2; cases hasT m.k <;> simp
  have e3 : c3 m = (!(!hasS m.k && decide (0 < m.l.length)) && !(hasS m.k && !rightE m.l)) := by
    unfold c3
    cases hasS m.k
    · simp only [cond_false, Bool.not_false, Bool.true_and, Bool.false_and, Bool.and_true]
      rw [Bool.eq_iff_iff]; simp
    · simp
  have e4 : c4 m = !(!hasN m.k && decide (m.n ≠ 0)) := by
    unfold c4; cases hasN m.k
    · simp
    · simp only [cond_true, Bool.not_true, Bool.false_and, Bool.not_false]; rw [decide_eq_true h3, decide_eq_true h4]; rfl
  have e6 : c6 m = !(!hasD m.k && decide (m.d ≠ ⟨#[]⟩)) := by
    unfold c6; cases hasD m.k
    · simp
    · simp only [cond_true, Bool.not_true, Bool.false_and, Bool.not_false]; exact decide_eq_true h5
  unfold rightM bd4 bd6 bd8
  rw [hk, e1, e2, e3, e4, e6]
  generalize (!hasI m.k && decide (m.i ≠ 0#256)) = x1
  generalize (!hasT m.k && !decide (m.t = (0, 0#256, 0))) = x2
  generalize (!hasS m.k && decide (0 < m.l.length)) = x3
  generalize (hasT m.k && !isE m.t) = x4
  generalize (hasS m.k && !rightE m.l) = x5
  generalize (!hasN m.k && decide (m.n ≠ 0)) = x6
  generalize (!hasD m.k && decide (m.d ≠ ⟨#[]⟩)) = x7
  generalize c5 m = x8
  revert x1 x2 x3 x4 x5 x6 x7 x8
  decide
theorem c4_in {m : Mg} (h : c4 m = true) : 0 ≤ m.n ∧ m.n ≤ 1099511627776 := by
  unfold c4 at h
  cases hk : hasN m.k
  · rw [hk] at h; have := of_decide_eq_true h; omega
  · rw [hk] at h; simpa using h
theorem right_k1 {m : Mg} (h : m.k < 1) : false = rightM m := by
  cases hr : rightM m
  · rfl
  · have := (isK_iff _).1 (right_parts hr).1; omega
theorem right_k2 {m : Mg} (h : 10 < m.k) : false = rightM m := by
  cases hr : rightM m
  · rfl
  · have := (isK_iff _).1 (right_parts hr).1; omega
theorem right_n1 {m : Mg} (h : m.n < 0) : false = rightM m := by
  cases hr : rightM m
  · rfl
  · have := c4_in (right_parts hr).2.2.2.2.1; omega
theorem right_n2 {m : Mg} (h : 1099511627776 < m.n) : false = rightM m := by
  cases hr : rightM m
  · rfl
  · have := c4_in (right_parts hr).2.2.2.2.1; omega
theorem right_d {m : Mg} (h : (64 : Int) < ((m.d.size : Nat) : Int)) : false = rightM m := by
  cases hr : rightM m
  · rfl
  · have := (head_len hr).2.2.2.2.2; omega
theorem right_ref' {m : Mg} (h1 : ¬ m.k < 1) (h2 : ¬ 10 < m.k) (h3 : ¬ m.n < 0) (h4 : ¬ 1099511627776 < m.n) (h5 : ¬ (64 : Int) < ((m.d.size : Nat) : Int)) : rightM m = (!bd4 m && (!bd6 m && (!bd8 m && c5 m))) := right_ref (by omega) (by omega) (by omega) (by omega) (by omega)
theorem fS_size (k : Int) : (fS k).size ≤ 4 := by
  unfold fS
  by_cases h : k.toNat < 11
  · have : ∀ n, n < 11 → (fstrs.getD n ⟨#[]⟩).size ≤ 4 := by decide
    exact this _ h
  · rw [List.getD_eq_getElem?_getD, List.getElem?_eq_none (by show 11 ≤ _; omega)]; decide
theorem rdz_one {w : World} {v : Value} {sz n : Nat} {xs : List Value} (h : RdZ w v sz n xs) : v.oneCell' = true := by
  rcases h.2 with ⟨rfl, _⟩ | ⟨p, c, rfl, _⟩ <;> rfl
def cutM (m : Mg) : Mg := { m with l := m.l.take (min m.l.length 6), o := m.o.extract 0 (min m.o.size 20), d := m.d.extract 0 (min m.d.size 70) }
theorem cutM_l (m : Mg) : (cutM m).l.length ≤ 6 := by show (m.l.take _).length ≤ 6; rw [List.length_take]; omega
/-! ### methods that panic -/
def Pch (t : TypeId) : List PanicEntry := [{ v := .iface t (.int .i64 5), recovered := false }]
def MR (t : TypeId) (ok : Bool) (T : Value → World → Prop) (F : World → Prop) : Ending → World → Prop := fun e w => (ok = true ∧ ∃ v, e = .returned v ∧ T v w) ∨ (ok = false ∧ ∃ ch, e = .panicked ch ∧ ch = Pch t ∧ F w)
theorem MR.no {t : TypeId} {ok : Bool} {T : Value → World → Prop} {F : World → Prop} {f : FuncId} {a : Array Value} {w : World} (h : Calls P f a w (MR t ok T F)) (hok : ok = false) : Calls P f a w (fun e w' => ∃ ch, e = .panicked ch ∧ (ch = Pch t ∧ F w')) :=
  h.mono fun e w' hx => by
    rcases hx with ⟨h0, _⟩ | ⟨_, ch, r⟩
    · rw [hok] at h0; cases h0
    · exact ⟨ch, r⟩
/-! ### Parse -/
def p1 (s : ByteArray) : Mg := { mZ with k := kS s }
def p2 (s : ByteArray) : Mg := { p1 s with i := vI (kS s) (q0 s) }
section
variable {s : ByteArray}
end
end Go.Proofs.Ythjkhnhiciamaaa

namespace Go.Proofs.Ythjkhnhiciamaaa
/-! ### what the reference reads -/
def t5 (m : Mg) (v : Value) (r : ByteArray) (ok : Bool) : Array Value := ((mArr m v).toList ++ ([.string r, .bool ok] : List Value)).toArray
theorem mL71 (m : Mg) (v : Value) : (mArr m v).toList.length = 71 := by rw [Array.length_toList, mArr_size]
@[simp] theorem t5_size (m : Mg) (v : Value) (r : ByteArray) (ok : Bool) : (t5 m v r ok).size = 73 := by
  simp only [t5, List.size_toArray, List.length_append, mL71, List.length_cons, List.length_nil]
section
variable {P : Program} {ρ : Operand → Value} {d : Option Tmp} {ty : TypeId} {pos : String} {af : Array Edge} {g : Option (Nat × Bool)} {x y : Operand} {t : TypeId}
end
/-! ### head -/
section
variable {s : ByteArray}
end
/-! ### the reference's Parse -/
def hN (r : ByteArray) : Nat → Nat
  | 0 => 0
  | d + 1 => 256 * hN r d + sb r (5 - d)
def nd (s : ByteArray) : Nat := (bif hasN (kS s) then 8 else 0) + (bif hasO (kS s) then 16 else 0)
section
variable {s : ByteArray}
end
section
variable {s : ByteArray}
end
section
variable {s : ByteArray}
end
/-! ### the laws -/
theorem mEqB_refl (m : Mg) : mEqB m m = true := (mEqB_iff m m).2 rfl
/-! ### sizes -/
end Go.Proofs.Ythjkhnhiciamaaa

namespace Go.Proofs.Ythjkhnhiciamaaa
open Go.RowKit Go.ChangeShapes Go.WideShapes Go.ChangeAt
/-! ### messages that come in -/
theorem open_entsL {H : Type} {enc : TypeId × Value → H} {P : Program} {W : World} {ts t tn ti e : TypeId} {f0 f1 f2 : Field} {fuel : Nat} {cs : List Value} {x : DataW H × List MemPlace} (T : IdTy P ti e) (hc : P.cellsOf ti = 32) (hce : P.cellsOf e = 1) (hn : P.underlying tn = some (.int .i64)) (hcn : P.cellsOf tn = 1)
    (hts : P.underlying ts = some (.slice t)) (ht : P.underlying t = some (.struct #[f0, f1, f2])) (h0 : f0.type = tn) (h1 : f1.type = ti) (h2 : f2.type = tn) (o0 : f0.offset = 0) (o1 : f1.offset = 1) (o2 : f2.offset = 33) (hct : P.cellsOf t = 34)
    (hf : DataW.trod enc P W 0 (fun _ => true) true fuel ts cs = some x) : ∃ (v : Value) (ls : List Ent), cs = [v] ∧ RdZ W v 34 ls.length (eCells ls) := by
  rcases Go.Deep.open_slice hts hf with ⟨hcs, _⟩ | ⟨a', len, cap, m, k, D, Pl, hcs, _, hl, _, hm, _, hel⟩
  · exact ⟨_, [], hcs, rfl, .inl ⟨rfl, rfl⟩⟩
  · have hml : len ≤ m := by rw [hm]; split <;> omega
    have each : ∀ i, ∃ l : Ent, i < len → Has W (a'.add (i * 34)) (eArr l) := fun i => by
      by_cases hi : i < len
      · obtain ⟨cs', hc1, hc2⟩ := hel i (by omega)
        obtain ⟨l, rfl⟩ := open_entL T hc hce hn hcn ht h0 h1 h2 o0 o1 o2 hct hc2
        refine ⟨l, fun _ j u hj => ?_⟩
        rw [hct] at hc1
        obtain ⟨_, hlen, hall⟩ := World.cells?_some hc1
        have hj34 : j < 34 := by have := (Array.getElem?_eq_some_iff.1 hj).1; rw [eArr_size] at this; exact this
        have := hall j hj34
        rw [this, Array.getElem?_toList]; exact hj
      · exact ⟨(0, 0#256, 0), fun h9 => absurd h9 hi⟩
    obtain ⟨L, hL⟩ := Classical.axiomOfChoice each
    refine ⟨_, (List.range len).map L, hcs, ?_, .inr ⟨a', cap, by simp, by simpa using hl, ?_⟩⟩
    · rw [eCells_len]
    · refine has_flat _ 34 (by decide) (fun x => by rw [Array.length_toList, eArr_size]) _ fun i hi => ?_
      have hi' : i < len := by simpa using hi
      have := hL i hi'
      simpa using this
theorem open_msg {H : Type} {enc : TypeId × Value → H} {P : Program} {W : World} {r : Reach} {b0 : Nat} {tm tz ts t tn ti e : TypeId} {g0 g1 g2 g3 g4 g5 g6 f0 f1 f2 : Field} {v : Value} {d : DataW H} {ps : List MemPlace} (T : IdTy P ti e) (hc : P.cellsOf ti = 32) (hce : P.cellsOf e = 1) (hn : P.underlying tn = some (.int .i64)) (hcn : P.cellsOf tn = 1)
    (hz : P.underlying tz = some .string) (hcz : P.cellsOf tz = 1) (hcs : P.cellsOf ts = 1)
    (hts : P.underlying ts = some (.slice t)) (ht : P.underlying t = some (.struct #[f0, f1, f2])) (h0 : f0.type = tn) (h1 : f1.type = ti) (h2 : f2.type = tn) (o0 : f0.offset = 0) (o1 : f1.offset = 1) (o2 : f2.offset = 33) (hct : P.cellsOf t = 34)
    (htm : P.underlying tm = some (.struct #[g0, g1, g2, g3, g4, g5, g6])) (ht0 : g0.type = tn) (ht1 : g1.type = ti) (ht2 : g2.type = t) (ht3 : g3.type = ts) (ht4 : g4.type = tn) (ht5 : g5.type = tz) (ht6 : g6.type = tz)
    (ho0 : g0.offset = 0) (ho1 : g1.offset = 1) (ho2 : g2.offset = 33) (ho3 : g3.offset = 67) (ho4 : g4.offset = 68) (ho5 : g5.offset = 69) (ho6 : g6.offset = 70) (hctm : P.cellsOf tm = 71)
    (hval : Value.okWide P W r b0 tm v) (h : DataW.Trod enc P W 0 (fun _ => true) true tm v d ps) : ∃ (m : Mg) (u : Value), v = .agg (mArr m u) ∧ RdZ W u 34 m.l.length (eCells m.l) := by
  have hv : ∃ cs, v = .agg cs := by
    unfold Value.okWide at hval
    simp only [htm] at hval
    obtain ⟨cs, h9, _⟩ := hval
    exact ⟨cs, h9⟩
  obtain ⟨cs, rfl⟩ := hv
  obtain ⟨fuel, hf⟩ := h
  obtain ⟨xs, n, hcells, _, hl, hxl, hel⟩ := DataW.trod_struct htm hf
  have hcl : cs.toList.length = 71 := by rw [← hctm]; simpa [Value.cells] using hl
  have hx7 : xs.length = 7 := by simpa using hxl
  have e0 := hel 0 g0 rfl
  have e1 := hel 1 g1 rfl
  have e2 := hel 2 g2 rfl
  have e3 := hel 3 g3 rfl
  have e4 := hel 4 g4 rfl
  have e5 := hel 5 g5 rfl
  have e6 := hel 6 g6 rfl
  rw [ht0, ho0, hcn, List.getElem?_eq_getElem (by omega)] at e0
  rw [ht1, ho1, hc, List.getElem?_eq_getElem (by omega)] at e1
  rw [ht2, ho2, hct, List.getElem?_eq_getElem (by omega)] at e2
  rw [ht3, ho3, hcs, List.getElem?_eq_getElem (by omega)] at e3
  rw [ht4, ho4, hcn, List.getElem?_eq_getElem (by omega)] at e4
  rw [ht5, ho5, hcz, List.getElem?_eq_getElem (by omega)] at e5
  rw [ht6, ho6, hcz, List.getElem?_eq_getElem (by omega)] at e6
  obtain ⟨k, hk, _⟩ := DataW.trod_int hn e0
  obtain ⟨i, hi⟩ := open_idL T hc hce e1
  obtain ⟨t9, h9t⟩ := open_entL T hc hce hn hcn ht h0 h1 h2 o0 o1 o2 hct e2
  obtain ⟨u, ls, hu, hls⟩ := open_entsL T hc hce hn hcn hts ht h0 h1 h2 o0 o1 o2 hct e3
  obtain ⟨n9, hn9, _⟩ := DataW.trod_int hn e4
  obtain ⟨o9, ho9, _⟩ := DataW.trod_string hz e5
  obtain ⟨d9, hd9, _⟩ := DataW.trod_string hz e6
  refine ⟨⟨k, i, t9, ls, n9, o9, d9⟩, u, ?_, hls⟩
  have key : cs.toList = (mArr ⟨k, i, t9, ls, n9, o9, d9⟩ u).toList := by
    rw [mArr_list, ← hi, ← h9t]
    simp only [Value.cells] at hk hi h9t hu hn9 ho9 hd9 ⊢
    have hd6 : cs.toList.drop 70 = [.string d9] := by
      rw [List.take_of_length_le (by rw [List.length_drop, hcl]; omega)] at hd9; exact hd9
    have hsplit : cs.toList = cs.toList.take 1 ++ ((cs.toList.drop 1).take 32 ++ ((cs.toList.drop 33).take 34 ++ ((cs.toList.drop 67).take 1 ++ ((cs.toList.drop 68).take 1 ++ ((cs.toList.drop 69).take 1 ++ cs.toList.drop 70))))) := by
      rw [show cs.toList.drop 70 = (cs.toList.drop 69).drop 1 from by rw [List.drop_drop], List.take_append_drop, show cs.toList.drop 69 = (cs.toList.drop 68).drop 1 from by rw [List.drop_drop], List.take_append_drop, show cs.toList.drop 68 = (cs.toList.drop 67).drop 1 from by rw [List.drop_drop], List.take_append_drop,
        show cs.toList.drop 67 = (cs.toList.drop 33).drop 34 from by rw [List.drop_drop], List.take_append_drop, show cs.toList.drop 33 = (cs.toList.drop 1).drop 32 from by rw [List.drop_drop], List.take_append_drop, List.take_append_drop]
    rw [hd6, hu, hn9, ho9, show cs.toList.take 1 = [.int .i64 k] from hk] at hsplit
    exact hsplit
  rw [Array.toList_inj.1 key]
end Go.Proofs.Ythjkhnhiciamaaa
