/- Messages and their bytes: what may be, what is written, what is read; no Go in it. -/
import Derived.Test.YtaehgcdcfbhohaaWp
set_option linter.unusedVariables false
set_option linter.unusedSimpArgs false
set_option linter.unusedSectionVars false
namespace Go.Proofs.Ytaehgcdcfbhohaa
/-! ### messages: what they hold, their bytes, what is read -/
structure Mg where
  k : Int
  i : Id
  t : Ent
  l : List Ent
  n : Int
  o : ByteArray
  d : ByteArray
theorem mg_ext {a b : Mg} (hk : a.k = b.k) (hi : a.i = b.i) (ht : a.t = b.t) (hl : a.l = b.l) (hn : a.n = b.n) (ho : a.o = b.o) (hd : a.d = b.d) : a = b := by
  cases a; cases b; simp_all
def mEqB (a b : Mg) : Bool := decide (a.k = b.k) && decide (a.i = b.i) && decide (a.t = b.t) && decide (a.l = b.l) && decide (a.n = b.n) && decide (a.o = b.o) && decide (a.d = b.d)
theorem mEqB_iff (a b : Mg) : mEqB a b = true ↔ a = b := by
  unfold mEqB
  simp only [Bool.and_eq_true, decide_eq_true_eq]
  constructor
  · rintro ⟨⟨⟨⟨⟨⟨h1, h2⟩, h3⟩, h4⟩, h5⟩, h6⟩, h7⟩; exact mg_ext h1 h2 h3 h4 h5 h6 h7
  · rintro rfl; simp
def mZ : Mg := ⟨0, 0#256, (0, 0#256, 0), [], 0, ⟨#[]⟩, ⟨#[]⟩⟩
def mArr (m : Mg) (v : Value) : Array Value := (Value.int .i64 m.k :: ((idArr m.i).toList ++ ((eArr m.t).toList ++ [v, .int .i64 m.n, .string m.o, .string m.d]))).toArray
theorem idL32 (a : Id) : (idArr a).toList.length = 32 := by rw [Array.length_toList, idArr_size]
theorem eL34 (e : Ent) : (eArr e).toList.length = 34 := by rw [Array.length_toList, eArr_size]
@[simp] theorem mArr_size (m : Mg) (v : Value) : (mArr m v).size = 71 := by
  simp only [mArr, List.size_toArray, List.length_cons, List.length_append, idL32, eL34, List.length_nil]
theorem mArr_list (m : Mg) (v : Value) : (mArr m v).toList = Value.int .i64 m.k :: ((idArr m.i).toList ++ ((eArr m.t).toList ++ [v, .int .i64 m.n, .string m.o, .string m.d])) := rfl
theorem mArr_k (m : Mg) (v : Value) : (mArr m v)[0]? = some (.int .i64 m.k) := rfl
theorem mArr_tail (m : Mg) (v : Value) (j : Nat) : (mArr m v)[67 + j]? = ([v, .int .i64 m.n, .string m.o, .string m.d] : List Value)[j]? := by
  rw [← Array.getElem?_toList, mArr_list, show 67 + j = (66 + j) + 1 from by omega, List.getElem?_cons_succ, List.getElem?_append_right (by rw [idL32]; omega), idL32, List.getElem?_append_right (by rw [eL34]; omega), eL34]
  congr 1; omega
theorem mArr_v (m : Mg) (v : Value) : (mArr m v)[67]? = some v := mArr_tail m v 0
theorem mArr_n (m : Mg) (v : Value) : (mArr m v)[68]? = some (.int .i64 m.n) := mArr_tail m v 1
theorem mArr_o (m : Mg) (v : Value) : (mArr m v)[69]? = some (.string m.o) := mArr_tail m v 2
theorem mArr_d (m : Mg) (v : Value) : (mArr m v)[70]? = some (.string m.d) := mArr_tail m v 3
theorem ext_list {C : Array Value} {a n : Nat} {D : Array Value} (h : (C.toList.drop a).take n = D.toList) : C.extract a (a + n) = D := by
  apply Array.ext'
  rw [← h, Array.toList_extract, List.extract_eq_take_drop, Nat.add_sub_cancel_left]
theorem mArr_i (m : Mg) (v : Value) : (mArr m v).extract 1 (1 + 32) = idArr m.i := ext_list (by
  rw [mArr_list, List.drop_succ_cons, List.drop_zero, List.take_append_of_le_length (by rw [idL32]; omega), List.take_of_length_le (by rw [idL32]; omega)])
theorem mArr_t (m : Mg) (v : Value) : (mArr m v).extract 33 (33 + 34) = eArr m.t := ext_list (by
  rw [mArr_list, show (33 : Nat) = 32 + 1 from rfl, List.drop_succ_cons, List.drop_append_of_le_length (by rw [idL32]; omega), List.drop_of_length_le (by rw [idL32]; omega), List.nil_append, List.take_append_of_le_length (by rw [eL34]; omega), List.take_of_length_le (by rw [eL34]; omega)])
theorem mArr_ones (m : Mg) (v : Value) (hv : v.oneCell' = true) : ∀ u ∈ (mArr m v).toList, u.oneCell' = true := by
  intro u hu
  rw [mArr_list] at hu
  simp only [List.mem_cons, List.mem_append, List.not_mem_nil, or_false] at hu
  rcases hu with rfl | hu | hu | rfl | rfl | rfl | rfl
  · rfl
  · exact idArr_ones _ _ hu
  · exact eArr_ones _ _ hu
  · exact hv
  · rfl
  · rfl
  · rfl
theorem set_list {C : Array Value} {j : Nat} {x : Value} {D : Array Value} (h : C.toList.set j x = D.toList) : C.setIfInBounds j x = D := by
  apply Array.ext'; rw [← h, Array.toList_setIfInBounds]
theorem mArr_setK (m : Mg) (v : Value) (q : Int) : (mArr m v).setIfInBounds 0 (.int .i64 q) = mArr { m with k := q } v := rfl
theorem mArr_setTail (m : Mg) (v : Value) (j : Nat) (x : Value) : (mArr m v).setIfInBounds (67 + j) x = (Value.int .i64 m.k :: ((idArr m.i).toList ++ ((eArr m.t).toList ++ ([v, .int .i64 m.n, .string m.o, .string m.d] : List Value).set j x))).toArray := set_list (by
  rw [mArr_list, show 67 + j = (66 + j) + 1 from by omega, List.set_cons_succ, List.set_append_right _ _ (by rw [idL32]; omega), idL32, List.set_append_right _ _ (by rw [eL34]; omega), eL34, show 66 + j - 32 - 34 = j from by omega])
theorem mArr_setV (m : Mg) (v u : Value) (l : List Ent) : (mArr m v).setIfInBounds 67 u = mArr { m with l := l } u := mArr_setTail m v 0 u
theorem mArr_setN (m : Mg) (v : Value) (q : Int) : (mArr m v).setIfInBounds 68 (.int .i64 q) = mArr { m with n := q } v := mArr_setTail m v 1 _
theorem mArr_setO (m : Mg) (v : Value) (q : ByteArray) : (mArr m v).setIfInBounds 69 (.string q) = mArr { m with o := q } v := mArr_setTail m v 2 _
theorem mArr_setD (m : Mg) (v : Value) (q : ByteArray) : (mArr m v).setIfInBounds 70 (.string q) = mArr { m with d := q } v := mArr_setTail m v 3 _
def spl (C : Array Value) (off : Nat) (D : Array Value) : Array Value := (C.toList.take off ++ D.toList ++ C.toList.drop (off + D.size)).toArray
theorem mArr_splI (m : Mg) (v : Value) (q : Id) : spl (mArr m v) 1 (idArr q) = mArr { m with i := q } v := by
  unfold spl mArr
  rw [idArr_size]
  have e : 1 + 32 = 32 + 1 := rfl
  rw [e, List.drop_succ_cons, List.take_succ_cons, List.take_zero, List.drop_append_of_le_length (by rw [idL32]; omega), List.drop_of_length_le (by rw [idL32]; omega)]
  rfl
theorem mArr_splT (m : Mg) (v : Value) (q : Ent) : spl (mArr m v) 33 (eArr q) = mArr { m with t := q } v := by
  unfold spl mArr
  rw [eArr_size]
  have e : 33 + 34 = 66 + 1 := rfl
  have e2 : 33 = 32 + 1 := rfl
  rw [e, e2, List.drop_succ_cons, List.take_succ_cons, List.take_append_of_le_length (by rw [idL32]; omega), List.take_of_length_le (by rw [idL32]; omega), List.drop_append, List.drop_of_length_le (by rw [idL32]; omega), idL32, List.drop_append_of_le_length (by rw [eL34]; omega), List.drop_of_length_le (by rw [eL34]; omega)]
  simp
/-! ### which fields a kind has -/
def isK (k : Int) : Bool := decide (1 ≤ k) && decide (k ≤ 10)
def hasI (k : Int) : Bool := decide (2 ≤ k) && decide (k ≤ 10)
def hasT (k : Int) : Bool := decide (2 ≤ k) && decide (k ≤ 6)
def hasS (k : Int) : Bool := decide (k = 1)
def hasN (k : Int) : Bool := decide (k = 1) || decide (k = 2) || decide (k = 4) || (decide (8 ≤ k) && decide (k ≤ 10))
def hasO (k : Int) : Bool := decide (k = 3) || decide (k = 4) || decide (k = 6)
def hasD (k : Int) : Bool := decide (k = 1)
def fArr (k : Int) : Array Value := #[.bool (hasI k), .bool (hasT k), .bool (hasS k), .bool (hasN k), .bool (hasO k), .bool (hasD k)]
def c1 (m : Mg) : Bool := bif hasI m.k then true else decide (m.i = 0#256)
def c2 (m : Mg) : Bool := bif hasT m.k then isE m.t else decide (m.t = (0, 0#256, 0))
def c3 (m : Mg) : Bool := bif hasS m.k then rightE m.l else decide (m.l.length = 0)
def c4 (m : Mg) : Bool := bif hasN m.k then (decide (0 ≤ m.n) && decide (m.n ≤ 1099511627776)) else decide (m.n = 0)
def c5 (m : Mg) : Bool := bif hasO m.k then decide (m.o.size = 16) else decide (m.o = ⟨#[]⟩)
def c6 (m : Mg) : Bool := bif hasD m.k then decide (m.d.size ≤ 64) else decide (m.d = ⟨#[]⟩)
def rightM (m : Mg) : Bool := isK m.k && c1 m && c2 m && c3 m && c4 m && c5 m && c6 m
/-! ### numbers -/
def numL (n : Int) : List Nat := (List.range 8).map fun i => n.toNat / 256 ^ i % 256
theorem numL_length (n : Int) : (numL n).length = 8 := by simp [numL]
theorem numL_lt (n : Int) : ∀ x ∈ numL n, x < 256 := fun x hx => by
  obtain ⟨i, _, rfl⟩ := List.mem_map.1 hx; exact Nat.mod_lt _ (by omega)
def numK (r : ByteArray) : Nat → Nat
  | 0 => 0
  | k + 1 => numK r k + sb r k * 256 ^ k
def numS (r : ByteArray) : Nat := numK r 8
theorem numK_lt (r : ByteArray) : ∀ k, numK r k < 256 ^ k
  | 0 => by simp [numK]
  | k + 1 => by
    have ih := numK_lt r k
    have hb := sb_lt r k
    have h1 : sb r k * 256 ^ k ≤ 255 * 256 ^ k := Nat.mul_le_mul_right _ (by omega)
    rw [numK, Nat.pow_succ]
    omega
theorem numK_mod (r : ByteArray) (n : Nat) : ∀ k, (∀ i, i < k → sb r i = n / 256 ^ i % 256) → numK r k = n % 256 ^ k
  | 0, _ => by simp [numK, Nat.mod_one]
  | k + 1, h => by
    rw [numK, numK_mod r n k (fun i hi => h i (by omega)), h k (by omega), Nat.mod_pow_succ, Nat.mul_comm]
/-! ### the fields' bytes, and what is read of a text -/
def segI (k : Int) (i : Id) : List Nat := bif hasI k then idL i else []
def segT (k : Int) (t : Ent) : List Nat := bif hasT k then 1 :: entL t else []
def segS (k : Int) (l : List Ent) : List Nat := bif hasS k then textL l else []
def segN (k : Int) (n : Int) : List Nat := bif hasN k then numL n else []
def headL (m : Mg) : List Nat := [m.k.toNat] ++ segI m.k m.i ++ segT m.k m.t ++ segS m.k m.l ++ segN m.k m.n
def textM (m : Mg) : ByteArray := bstr (headL m) ++ m.o ++ m.d
def okI (k : Int) (r : ByteArray) : Bool := !hasI k || decide (32 ≤ r.size)
def vI (k : Int) (r : ByteArray) : Id := bif hasI k then idOf (sb r) else 0#256
def rI (k : Int) (r : ByteArray) : ByteArray := bif hasI k then sufS r 32 else r
def okT (k : Int) (r : ByteArray) : Bool := !hasT k || (decide ((readM r).1 = 0) && decide ((readM r).2.1.length = 1))
def vT (k : Int) (r : ByteArray) : Ent := bif hasT k then (readM r).2.1.getD 0 (0, 0#256, 0) else (0, 0#256, 0)
def rT (k : Int) (r : ByteArray) : ByteArray := bif hasT k then sufS r (readM r).2.2 else r
def okS (k : Int) (r : ByteArray) : Bool := !hasS k || decide ((readM r).1 = 0)
def vS (k : Int) (r : ByteArray) : List Ent := bif hasS k then (readM r).2.1 else []
def rS (k : Int) (r : ByteArray) : ByteArray := bif hasS k then sufS r (readM r).2.2 else r
def okN (k : Int) (r : ByteArray) : Bool := !hasN k || (decide (8 ≤ r.size) && decide (numS r ≤ 1099511627776))
def vN (k : Int) (r : ByteArray) : Int := bif hasN k then (numS r : Int) else 0
def rN (k : Int) (r : ByteArray) : ByteArray := bif hasN k then sufS r 8 else r
def okO (k : Int) (r : ByteArray) : Bool := !hasO k || decide (16 ≤ r.size)
def vO (k : Int) (r : ByteArray) : ByteArray := bif hasO k then r.extract 0 16 else ⟨#[]⟩
def rO (k : Int) (r : ByteArray) : ByteArray := bif hasO k then sufS r 16 else r
def okD (k : Int) (r : ByteArray) : Bool := !hasD k || decide (r.size ≤ 64)
def vD (k : Int) (r : ByteArray) : ByteArray := bif hasD k then r else ⟨#[]⟩
def rD (k : Int) (r : ByteArray) : ByteArray := bif hasD k then ⟨#[]⟩ else r
def kS (s : ByteArray) : Int := ((sb s 0 : Nat) : Int)
def q0 (s : ByteArray) : ByteArray := sufS s 1
def q1 (s : ByteArray) : ByteArray := rI (kS s) (q0 s)
def q2 (s : ByteArray) : ByteArray := rT (kS s) (q1 s)
def q3 (s : ByteArray) : ByteArray := rS (kS s) (q2 s)
def q4 (s : ByteArray) : ByteArray := rN (kS s) (q3 s)
def q5 (s : ByteArray) : ByteArray := rO (kS s) (q4 s)
def q6 (s : ByteArray) : ByteArray := rD (kS s) (q5 s)
def okP (s : ByteArray) : Bool := decide (1 ≤ s.size) && isK (kS s) && okI (kS s) (q0 s) && okT (kS s) (q1 s) && okS (kS s) (q2 s) && okN (kS s) (q3 s) && okO (kS s) (q4 s) && okD (kS s) (q5 s) && decide (q6 s = ⟨#[]⟩)
def mP (s : ByteArray) : Mg := ⟨kS s, vI (kS s) (q0 s), vT (kS s) (q1 s), vS (kS s) (q2 s), vN (kS s) (q3 s), vO (kS s) (q4 s), vD (kS s) (q5 s)⟩
def parM (s : ByteArray) : Mg := bif okP s then mP s else mZ
def parE (s : ByteArray) : Int := bif okP s then 0 else 5
end Go.Proofs.Ytaehgcdcfbhohaa

namespace Go.Proofs.Ytaehgcdcfbhohaa
theorem ba_nil_size {s : ByteArray} : s = (⟨#[]⟩ : ByteArray) ↔ s.size = 0 := by
  constructor
  · rintro rfl; rfl
  · intro h; exact ba_ext (by rw [h]; rfl) fun i hi => by omega
theorem nil_app (u : ByteArray) : (⟨#[]⟩ : ByteArray) ++ u = u := ByteArray.empty_append
theorem suf_bstr (ns : List Nat) (u : ByteArray) (n : Nat) (h : ns.length = n) : sufS (bstr ns ++ u) n = u := by
  rw [← h, ← bstr_size ns]; exact suf_app _ _
theorem sb_pre (ns : List Nat) (u : ByteArray) (i : Nat) (hi : i < ns.length) (hb : ∀ n ∈ ns, n < 256) : sb (bstr ns ++ u) i = ns[i] := by
  rw [sb_append_left _ _ _ (by rw [bstr_size]; exact hi), sb_bstr _ _ hi hb]
theorem idL_lt (a : Id) : ∀ n ∈ idL a, n < 256 := fun n hn => by
  obtain ⟨i, _, rfl⟩ := List.mem_map.1 hn; exact byteAt_lt _ _
theorem suf_self (r : ByteArray) (n : Nat) (h : n ≤ r.size) : r = r.extract 0 n ++ sufS r n := by
  unfold sufS; rw [← bz_cat r 0 n r.size (by omega) h (Nat.le_refl _), bz_all]
/-! ### Id -/
theorem segI_ok (k : Int) (i : Id) (u : ByteArray) : okI k (bstr (segI k i) ++ u) = true := by
  unfold okI segI
  cases hasI k
  · rfl
  · simp only [cond_true, Bool.not_true, Bool.false_or, decide_eq_true_eq]
    rw [ByteArray.size_append, bstr_size, idL_length]; omega
theorem segI_v (k : Int) (i : Id) (u : ByteArray) (h : (bif hasI k then true else decide (i = 0#256)) = true) : vI k (bstr (segI k i) ++ u) = i := by
  unfold vI segI
  cases hk : hasI k
  · rw [hk] at h; exact (of_decide_eq_true h).symm
  · show idOf _ = i
    refine id_ext fun j hj => ?_
    rw [byteAt_idOf _ (fun i => sb_lt _ _) j hj]
    show sb (bstr (idL i) ++ u) j = _
    rw [sb_pre _ _ _ (by rw [idL_length]; exact hj) (idL_lt i)]
    simp [idL]
theorem segI_r (k : Int) (i : Id) (u : ByteArray) : rI k (bstr (segI k i) ++ u) = u := by
  unfold rI segI
  cases hasI k
  · exact nil_app u
  · exact suf_bstr _ _ _ (idL_length i)
theorem backI (k : Int) (r : ByteArray) (h : okI k r = true) : r = bstr (segI k (vI k r)) ++ rI k r ∧ (bif hasI k then true else decide (vI k r = 0#256)) = true := by
  unfold okI at h; unfold segI rI vI
  cases hk : hasI k
  · exact ⟨(nil_app r).symm, by simp⟩
  · rw [hk] at h
    have h32 : 32 ≤ r.size := by simpa using h
    refine ⟨?_, rfl⟩
    show r = bstr (idL (idOf (sb r))) ++ sufS r 32
    have e : bstr (idL (idOf (sb r))) = r.extract 0 32 := by
      refine ba_ext (by rw [bstr_size, idL_length, bz_size _ _ _ h32]) fun i hi => ?_
      rw [bstr_size, idL_length] at hi
      rw [sb_bstr _ _ (by rw [idL_length]; exact hi) (idL_lt _), bz_sb _ _ _ _ h32 (by omega), Nat.zero_add]
      simp [idL, byteAt_idOf _ (fun i => sb_lt r i) i hi]
    rw [e]; exact suf_self r 32 h32
/-! ### Target -/
theorem t_read (t : Ent) (h : isE t = true) (u : ByteArray) : readM (bstr (1 :: entL t) ++ u) = (0, [t], (1 :: entL t).length) := by
  have hr : rightE [t] = true := (rightE_iff _).2 ⟨by simp, by simp, by simpa using h⟩
  have e : bstr (1 :: entL t) = textE [t] := by simp [textE, textL]
  rw [e, read_text [t] hr u, ← e, bstr_size]
theorem segT_ok (k : Int) (t : Ent) (u : ByteArray) (h : (bif hasT k then isE t else decide (t = (0, 0#256, 0))) = true) : okT k (bstr (segT k t) ++ u) = true := by
  unfold okT segT
  cases hk : hasT k
  · rfl
  · rw [hk] at h
    show (_ : Bool) = true
    simp only [cond_true, t_read t h u]; rfl
theorem segT_v (k : Int) (t : Ent) (u : ByteArray) (h : (bif hasT k then isE t else decide (t = (0, 0#256, 0))) = true) : vT k (bstr (segT k t) ++ u) = t := by
  unfold vT segT
  cases hk : hasT k
  · rw [hk] at h; exact (of_decide_eq_true h).symm
  · rw [hk] at h
    simp only [cond_true, t_read t h u]; rfl
theorem segT_r (k : Int) (t : Ent) (u : ByteArray) (h : (bif hasT k then isE t else decide (t = (0, 0#256, 0))) = true) : rT k (bstr (segT k t) ++ u) = u := by
  unfold rT segT
  cases hk : hasT k
  · exact nil_app u
  · rw [hk] at h
    simp only [cond_true, t_read t h u]; exact suf_bstr _ _ _ rfl
theorem backT (k : Int) (r : ByteArray) (h : okT k r = true) : r = bstr (segT k (vT k r)) ++ rT k r ∧ (bif hasT k then isE (vT k r) else decide (vT k r = (0, 0#256, 0))) = true := by
  unfold okT at h; unfold segT rT vT
  cases hk : hasT k
  · exact ⟨(nil_app r).symm, by simp⟩
  · rw [hk] at h
    simp only [Bool.not_true, Bool.false_or, Bool.and_eq_true, decide_eq_true_eq] at h
    obtain ⟨h1, h2⟩ := h
    obtain ⟨hr, hle, ht⟩ := text_read r h1
    obtain ⟨e, he⟩ := List.length_eq_one_iff.1 h2
    rw [he] at hr ht
    have hE : isE e = true := by have := ((rightE_iff _).1 hr).2.2 e (by simp); exact this
    simp only [cond_true, he, List.getD_cons_zero]
    refine ⟨?_, hE⟩
    have e9 : bstr (1 :: entL e) = textE [e] := by simp [textE, textL]
    rw [e9, ht]; exact suf_self r _ hle
/-! ### Stack -/
theorem s_read (l : List Ent) (h : rightE l = true) (u : ByteArray) : readM (bstr (textL l) ++ u) = (0, l, (textL l).length) := by
  have := read_text l h u
  unfold textE at this
  rw [this, bstr_size]
theorem segS_ok (k : Int) (l : List Ent) (u : ByteArray) (h : (bif hasS k then rightE l else decide (l.length = 0)) = true) : okS k (bstr (segS k l) ++ u) = true := by
  unfold okS segS
  cases hk : hasS k
  · rfl
  · rw [hk] at h
    simp only [cond_true, s_read l h u]; rfl
theorem segS_v (k : Int) (l : List Ent) (u : ByteArray) (h : (bif hasS k then rightE l else decide (l.length = 0)) = true) : vS k (bstr (segS k l) ++ u) = l := by
  unfold vS segS
  cases hk : hasS k
  · rw [hk] at h; exact (List.length_eq_zero_iff.1 (of_decide_eq_true h)).symm
  · rw [hk] at h
    simp only [cond_true, s_read l h u]
theorem segS_r (k : Int) (l : List Ent) (u : ByteArray) (h : (bif hasS k then rightE l else decide (l.length = 0)) = true) : rS k (bstr (segS k l) ++ u) = u := by
  unfold rS segS
  cases hk : hasS k
  · exact nil_app u
  · rw [hk] at h
    simp only [cond_true, s_read l h u]; exact suf_bstr _ _ _ rfl
theorem backS (k : Int) (r : ByteArray) (h : okS k r = true) : r = bstr (segS k (vS k r)) ++ rS k r ∧ (bif hasS k then rightE (vS k r) else decide ((vS k r).length = 0)) = true := by
  unfold okS at h; unfold segS rS vS
  cases hk : hasS k
  · exact ⟨(nil_app r).symm, by simp⟩
  · rw [hk] at h
    simp only [Bool.not_true, Bool.false_or, decide_eq_true_eq] at h
    obtain ⟨hr, hle, ht⟩ := text_read r h
    simp only [cond_true]
    refine ⟨?_, hr⟩
    show r = textE (readM r).2.1 ++ _
    rw [ht]; exact suf_self r _ hle
/-! ### N -/
theorem numS_numL (n : Int) (h0 : 0 ≤ n) (h : n ≤ 1099511627776) (u : ByteArray) : ((numS (bstr (numL n) ++ u) : Nat) : Int) = n := by
  have hk := numK_mod (bstr (numL n) ++ u) n.toNat 8 (fun i hi => by
    rw [sb_pre _ _ _ (by rw [numL_length]; exact hi) (numL_lt n)]; simp [numL])
  unfold numS
  rw [hk]
  omega
theorem segN_ok (k n : Int) (u : ByteArray) (h : (bif hasN k then (decide (0 ≤ n) && decide (n ≤ 1099511627776)) else decide (n = 0)) = true) : okN k (bstr (segN k n) ++ u) = true := by
  unfold okN segN
  cases hk : hasN k
  · rfl
  · rw [hk] at h
    simp only [cond_true, Bool.and_eq_true, decide_eq_true_eq] at h
    have := numS_numL n h.1 h.2 u
    simp only [cond_true, Bool.not_true, Bool.false_or, Bool.and_eq_true, decide_eq_true_eq]
    exact ⟨by rw [ByteArray.size_append, bstr_size, numL_length]; omega, by omega⟩
theorem segN_v (k n : Int) (u : ByteArray) (h : (bif hasN k then (decide (0 ≤ n) && decide (n ≤ 1099511627776)) else decide (n = 0)) = true) : vN k (bstr (segN k n) ++ u) = n := by
  unfold vN segN
  cases hk : hasN k
  · rw [hk] at h; exact (of_decide_eq_true h).symm
  · rw [hk] at h
    simp only [cond_true, Bool.and_eq_true, decide_eq_true_eq] at h
    exact numS_numL n h.1 h.2 u
theorem segN_r (k n : Int) (u : ByteArray) : rN k (bstr (segN k n) ++ u) = u := by
  unfold rN segN
  cases hasN k
  · exact nil_app u
  · exact suf_bstr _ _ _ (numL_length n)
theorem numK_digit (r : ByteArray) : ∀ k i, i < k → numK r k / 256 ^ i % 256 = sb r i
  | 0, _, h => by omega
  | k + 1, i, h => by
    have hb := sb_lt r k
    rw [numK]
    have hp : ∀ x, 0 < 256 ^ x := fun x => Nat.pow_pos (by omega)
    by_cases e : i = k
    · subst e
      rw [Nat.add_mul_div_right _ _ (hp _), Nat.div_eq_of_lt (numK_lt r i), Nat.zero_add, Nat.mod_eq_of_lt hb]
    · have hik : i < k := by omega
      have e1 : sb r k * 256 ^ k = (sb r k * 256 ^ (k - i - 1) * 256) * 256 ^ i := by
        have e2 : 256 ^ k = 256 ^ (k - i - 1) * 256 * 256 ^ i := by
          rw [← Nat.pow_succ, ← Nat.pow_add]; congr 1; omega
        rw [e2]; simp only [Nat.mul_assoc]
      rw [e1, Nat.add_mul_div_right _ _ (hp _), Nat.add_mul_mod_self_right]
      exact numK_digit r k i hik
theorem numS_digit (r : ByteArray) (i : Nat) (hi : i < 8) : numS r / 256 ^ i % 256 = sb r i := by unfold numS; exact numK_digit r 8 i hi
theorem backN_t (r : ByteArray) (h8 : 8 ≤ r.size) : bstr (numL ((numS r : Nat) : Int)) = r.extract 0 8 := by
  refine ba_ext (by rw [bstr_size, numL_length, bz_size _ _ _ h8]) fun i hi => ?_
  rw [bstr_size, numL_length] at hi
  rw [sb_bstr _ _ (by rw [numL_length]; exact hi) (numL_lt _), bz_sb _ _ _ _ h8 (by omega), Nat.zero_add]
  simp [numL, numS_digit r i hi]
theorem nB (x : Nat) (hn : x ≤ 1099511627776) : (decide (0 ≤ ((x : Nat) : Int)) && decide (((x : Nat) : Int) ≤ 1099511627776)) = true := by
  rw [Bool.and_eq_true]; exact ⟨decide_eq_true (by omega), decide_eq_true (by omega)⟩
theorem backN (k : Int) (r : ByteArray) (h : okN k r = true) : r = bstr (segN k (vN k r)) ++ rN k r ∧ (bif hasN k then (decide (0 ≤ vN k r) && decide (vN k r ≤ 1099511627776)) else decide (vN k r = 0)) = true := by
  unfold okN at h; unfold segN rN vN
  cases hk : hasN k
  · exact ⟨(nil_app r).symm, by simp⟩
  · rw [hk, Bool.not_true, Bool.false_or, Bool.and_eq_true] at h
    have h8 := of_decide_eq_true h.1
    have hn := of_decide_eq_true h.2
    rw [cond_true, cond_true, cond_true, cond_true]
    refine ⟨?_, nB _ hn⟩
    rw [backN_t r h8]; exact suf_self r 8 h8
/-! ### Nonce, Data -/
theorem segO_ok (k : Int) (o u : ByteArray) (h : (bif hasO k then decide (o.size = 16) else decide (o = ⟨#[]⟩)) = true) : okO k (o ++ u) = true ∧ vO k (o ++ u) = o ∧ rO k (o ++ u) = u := by
  unfold okO vO rO
  cases hk : hasO k
  · rw [hk] at h
    have := of_decide_eq_true h
    subst this
    exact ⟨rfl, rfl, nil_app u⟩
  · rw [hk] at h
    have h16 : o.size = 16 := of_decide_eq_true h
    refine ⟨by simp [ByteArray.size_append, h16], ?_, ?_⟩
    · show (o ++ u).extract 0 16 = o
      refine ba_ext (by rw [bz_size _ _ _ (by rw [ByteArray.size_append]; omega), h16]) fun i hi => ?_
      rw [bz_size _ _ _ (by rw [ByteArray.size_append]; omega)] at hi
      rw [bz_sb _ _ _ _ (by rw [ByteArray.size_append]; omega) (by omega), Nat.zero_add, sb_append_left _ _ _ (by omega)]
    · show sufS (o ++ u) 16 = u
      rw [← h16]; exact suf_app o u
theorem backO (k : Int) (r : ByteArray) (h : okO k r = true) : r = vO k r ++ rO k r ∧ (bif hasO k then decide ((vO k r).size = 16) else decide (vO k r = ⟨#[]⟩)) = true := by
  unfold okO at h; unfold vO rO
  cases hk : hasO k
  · exact ⟨(nil_app r).symm, by simp⟩
  · rw [hk] at h
    have h16 : 16 ≤ r.size := by simpa using h
    exact ⟨suf_self r 16 h16, by simp [bz_size _ _ _ h16]⟩
theorem segD_ok (k : Int) (d : ByteArray) (h : (bif hasD k then decide (d.size ≤ 64) else decide (d = ⟨#[]⟩)) = true) : okD k d = true ∧ vD k d = d ∧ rD k d = ⟨#[]⟩ := by
  unfold okD vD rD
  cases hk : hasD k
  · rw [hk] at h
    have := of_decide_eq_true h
    subst this
    exact ⟨rfl, rfl, rfl⟩
  · rw [hk] at h
    exact ⟨by simpa using h, rfl, rfl⟩
theorem backD (k : Int) (r : ByteArray) (h : okD k r = true) (he : rD k r = ⟨#[]⟩) : r = vD k r ∧ (bif hasD k then decide ((vD k r).size ≤ 64) else decide (vD k r = ⟨#[]⟩)) = true := by
  unfold okD at h; unfold vD; unfold rD at he
  cases hk : hasD k
  · rw [hk] at he
    exact ⟨he, by simp⟩
  · rw [hk] at h
    exact ⟨rfl, by simpa using h⟩
/-! ### the whole -/
theorem right_parts {m : Mg} (h : rightM m = true) : isK m.k = true ∧ c1 m = true ∧ c2 m = true ∧ c3 m = true ∧ c4 m = true ∧ c5 m = true ∧ c6 m = true := by
  unfold rightM at h
  simp only [Bool.and_eq_true] at h
  obtain ⟨⟨⟨⟨⟨⟨h0, h1⟩, h2⟩, h3⟩, h4⟩, h5⟩, h6⟩ := h
  exact ⟨h0, h1, h2, h3, h4, h5, h6⟩
theorem isK_iff (k : Int) : isK k = true ↔ 1 ≤ k ∧ k ≤ 10 := by simp [isK]
theorem text_parts (m : Mg) : textM m = bstr [m.k.toNat] ++ (bstr (segI m.k m.i) ++ (bstr (segT m.k m.t) ++ (bstr (segS m.k m.l) ++ (bstr (segN m.k m.n) ++ (m.o ++ m.d))))) := by
  unfold textM headL
  simp only [bstr_app, ByteArray.append_assoc]
theorem parse_text {m : Mg} (h : rightM m = true) : okP (textM m) = true ∧ mP (textM m) = m := by
  obtain ⟨h0, h1, h2, h3, h4, h5, h6⟩ := right_parts h
  have hk := (isK_iff _).1 h0
  have e := text_parts m
  have hkS : kS (textM m) = m.k := by
    unfold kS; rw [e, sb_pre _ _ _ (by simp) (by intro n hn; rw [List.mem_singleton] at hn; subst hn; omega)]
    simp; omega
  have e0 : q0 (textM m) = bstr (segI m.k m.i) ++ (bstr (segT m.k m.t) ++ (bstr (segS m.k m.l) ++ (bstr (segN m.k m.n) ++ (m.o ++ m.d)))) := by
    unfold q0; rw [e]; exact suf_bstr _ _ _ rfl
  have e1 : q1 (textM m) = bstr (segT m.k m.t) ++ (bstr (segS m.k m.l) ++ (bstr (segN m.k m.n) ++ (m.o ++ m.d))) := by
    unfold q1; rw [hkS, e0]; exact segI_r _ _ _
  have e2 : q2 (textM m) = bstr (segS m.k m.l) ++ (bstr (segN m.k m.n) ++ (m.o ++ m.d)) := by
    unfold q2; rw [hkS, e1]; exact segT_r _ _ _ h2
  have e3 : q3 (textM m) = bstr (segN m.k m.n) ++ (m.o ++ m.d) := by
    unfold q3; rw [hkS, e2]; exact segS_r _ _ _ h3
  have e4 : q4 (textM m) = m.o ++ m.d := by
    unfold q4; rw [hkS, e3]; exact segN_r _ _ _
  have e5 : q5 (textM m) = m.d := by
    unfold q5; rw [hkS, e4]; exact (segO_ok _ _ _ h5).2.2
  have e6 : q6 (textM m) = ⟨#[]⟩ := by
    unfold q6; rw [hkS, e5]; exact (segD_ok _ _ h6).2.2
  have hs : 1 ≤ (textM m).size := by rw [e, ByteArray.size_append, bstr_size]; simp
  constructor
  · unfold okP
    rw [hkS, e0, e1, e2, e3, e4, e5, e6, h0, segI_ok, segT_ok _ _ _ h2, segS_ok _ _ _ h3, segN_ok _ _ _ h4, (segO_ok _ _ _ h5).1, (segD_ok _ _ h6).1]
    simp [hs]
  · unfold mP
    rw [hkS, e0, e1, e2, e3, e4, e5]
    exact mg_ext rfl (segI_v _ _ _ h1) (segT_v _ _ _ h2) (segS_v _ _ _ h3) (segN_v _ _ _ h4) (segO_ok _ _ _ h5).2.1 (segD_ok _ _ h6).2.1
theorem text_parse {s : ByteArray} (h : okP s = true) : rightM (mP s) = true ∧ textM (mP s) = s := by
  unfold okP at h
  simp only [Bool.and_eq_true, decide_eq_true_eq] at h
  obtain ⟨⟨⟨⟨⟨⟨⟨⟨hs, h0⟩, h1⟩, h2⟩, h3⟩, h4⟩, h5⟩, h6⟩, he⟩ := h
  obtain ⟨b1, d1⟩ := backI _ _ h1
  obtain ⟨b2, d2⟩ := backT _ _ h2
  obtain ⟨b3, d3⟩ := backS _ _ h3
  obtain ⟨b4, d4⟩ := backN _ _ h4
  obtain ⟨b5, d5⟩ := backO _ _ h5
  obtain ⟨b6, d6⟩ := backD _ _ h6 he
  constructor
  · unfold rightM
    have e0 : isK (mP s).k = true := h0
    have e1 : c1 (mP s) = true := d1
    have e2 : c2 (mP s) = true := d2
    have e3 : c3 (mP s) = true := d3
    have e4 : c4 (mP s) = true := d4
    have e5 : c5 (mP s) = true := d5
    have e6 : c6 (mP s) = true := d6
    rw [e0, e1, e2, e3, e4, e5, e6]; rfl
  · rw [text_parts]
    show bstr [(kS s).toNat] ++ (bstr (segI (kS s) (vI (kS s) (q0 s))) ++ (bstr (segT (kS s) (vT (kS s) (q1 s))) ++ (bstr (segS (kS s) (vS (kS s) (q2 s))) ++ (bstr (segN (kS s) (vN (kS s) (q3 s))) ++ (vO (kS s) (q4 s) ++ vD (kS s) (q5 s)))))) = s
    rw [← b6]
    show _ ++ (_ ++ (_ ++ (_ ++ (_ ++ (vO (kS s) (q4 s) ++ rO (kS s) (q4 s)))))) = s
    rw [← b5]
    show _ ++ (_ ++ (_ ++ (_ ++ (bstr (segN (kS s) (vN (kS s) (q3 s))) ++ rN (kS s) (q3 s))))) = s
    rw [← b4]
    show _ ++ (_ ++ (_ ++ (bstr (segS (kS s) (vS (kS s) (q2 s))) ++ rS (kS s) (q2 s)))) = s
    rw [← b3]
    show _ ++ (_ ++ (bstr (segT (kS s) (vT (kS s) (q1 s))) ++ rT (kS s) (q1 s))) = s
    rw [← b2]
    show _ ++ (bstr (segI (kS s) (vI (kS s) (q0 s))) ++ rI (kS s) (q0 s)) = s
    rw [← b1]
    have e : bstr [(kS s).toNat] = s.extract 0 1 := by
      refine ba_ext (by rw [bstr_size, bz_size _ _ _ hs]; rfl) fun i hi => ?_
      rw [bstr_size] at hi
      have : i = 0 := by simpa using hi
      subst this
      have hb := sb_lt s 0
      rw [sb_bstr _ _ (by simp) (by intro n hn; rw [List.mem_singleton] at hn; subst hn; unfold kS; omega), bz_sb _ _ _ _ hs (by omega)]
      simp [kS]
    rw [e]; exact (suf_self s 1 hs).symm
end Go.Proofs.Ytaehgcdcfbhohaa

namespace Go.Proofs.Ytaehgcdcfbhohaa
/-! ### what the walks want: kinds -/
theorem fArr_ones (k : Int) : ∀ v ∈ (fArr k).toList, v.oneCell' = true := by
  intro v hv
  simp only [fArr, List.mem_cons, List.not_mem_nil, or_false] at hv
  rcases hv with rfl | rfl | rfl | rfl | rfl | rfl <;> rfl
theorem isK_no {k : Int} (h : isK k = false) : ¬ (1 ≤ k ∧ k ≤ 10) := fun hk => by
  rw [(isK_iff k).2 hk] at h; cases h
theorem fArr_no {k : Int} (h : isK k = false) : fArr k = fArr 0 := by
  have hk := isK_no h
  have h1 : hasI k = false := by unfold hasI; simp; omega
  have h2 : hasT k = false := by unfold hasT; simp; omega
  have h3 : hasS k = false := by unfold hasS; simp; omega
  have h4 : hasN k = false := by unfold hasN; simp; omega
  have h5 : hasO k = false := by unfold hasO; simp; omega
  have h6 : hasD k = false := by unfold hasD; simp; omega
  unfold fArr; rw [h1, h2, h3, h4, h5, h6]; rfl
theorem find_cons (k : Int) (n : Int) (v : Value) (b : Nat) (r : List MapEntry) (i : Nat) : Instr.findNow (.int .i64) (.int .i64 k) ({ key := .int .i64 n, val := v, born := b } :: r) i = if k = n then some (some (i, v)) else Instr.findNow (.int .i64) (.int .i64 k) r (i + 1) := by
  rw [Instr.findNow]
  show (match (if IntKind.i64 = IntKind.i64 then some (k == n) else none) with | some true => some (some (i, v)) | some false => Instr.findNow (.int .i64) (.int .i64 k) r (i + 1) | none => none) = _
  rw [if_pos rfl]
  by_cases h : k = n
  · subst h; simp
  · have : (k == n) = false := by simpa using h
    rw [this, if_neg h]
def fEnts : List MapEntry := [⟨.int .i64 1, .agg (fArr 1), 0⟩, ⟨.int .i64 2, .agg (fArr 2), 1⟩, ⟨.int .i64 3, .agg (fArr 3), 2⟩, ⟨.int .i64 4, .agg (fArr 4), 3⟩, ⟨.int .i64 5, .agg (fArr 5), 4⟩, ⟨.int .i64 6, .agg (fArr 6), 5⟩, ⟨.int .i64 7, .agg (fArr 7), 6⟩, ⟨.int .i64 8, .agg (fArr 8), 7⟩, ⟨.int .i64 9, .agg (fArr 9), 8⟩, ⟨.int .i64 10, .agg (fArr 10), 9⟩]
theorem find_fields (k : Int) : Instr.findNow (.int .i64) (.int .i64 k) fEnts 0 = if k = 1 then some (some (0, .agg (fArr 1))) else if k = 2 then some (some (1, .agg (fArr 2))) else if k = 3 then some (some (2, .agg (fArr 3))) else if k = 4 then some (some (3, .agg (fArr 4))) else if k = 5 then some (some (4, .agg (fArr 5)))
    else if k = 6 then some (some (5, .agg (fArr 6))) else if k = 7 then some (some (6, .agg (fArr 7))) else if k = 8 then some (some (7, .agg (fArr 8))) else if k = 9 then some (some (8, .agg (fArr 9))) else if k = 10 then some (some (9, .agg (fArr 10))) else some none := by
  unfold fEnts
  rw [find_cons, find_cons, find_cons, find_cons, find_cons, find_cons, find_cons, find_cons, find_cons, find_cons, Instr.findNow]
theorem look_fields (k : Int) : (∃ j, Instr.findNow (.int .i64) (.int .i64 k) fEnts 0 = some (some (j, .agg (fArr k))) ∧ isK k = true) ∨ (Instr.findNow (.int .i64) (.int .i64 k) fEnts 0 = some none ∧ Value.agg (fArr k) = .agg (fArr 0) ∧ isK k = false) := by
  rw [find_fields]
  cases h : isK k
  · have hk := isK_no h
    refine .inr ⟨?_, congrArg Value.agg (fArr_no h), rfl⟩
    rw [if_neg (by omega), if_neg (by omega), if_neg (by omega), if_neg (by omega), if_neg (by omega), if_neg (by omega), if_neg (by omega), if_neg (by omega), if_neg (by omega), if_neg (by omega)]
  · have hk := (isK_iff k).1 h
    have : k = 1 ∨ k = 2 ∨ k = 3 ∨ k = 4 ∨ k = 5 ∨ k = 6 ∨ k = 7 ∨ k = 8 ∨ k = 9 ∨ k = 10 := by omega
    rcases this with rfl | rfl | rfl | rfl | rfl | rfl | rfl | rfl | rfl | rfl
    · exact .inl ⟨0, by simp, rfl⟩
    · exact .inl ⟨1, by simp, rfl⟩
    · exact .inl ⟨2, by simp, rfl⟩
    · exact .inl ⟨3, by simp, rfl⟩
    · exact .inl ⟨4, by simp, rfl⟩
    · exact .inl ⟨5, by simp, rfl⟩
    · exact .inl ⟨6, by simp, rfl⟩
    · exact .inl ⟨7, by simp, rfl⟩
    · exact .inl ⟨8, by simp, rfl⟩
    · exact .inl ⟨9, by simp, rfl⟩
theorem mArr_zero : mArr mZ (.slice none 0 0) = (Value.int .i64 0 :: (List.replicate 32 (Value.int .u8 0) ++ (Value.int .i64 0 :: (List.replicate 32 (Value.int .u8 0) ++ [Value.int .i64 0]) ++ [Value.slice none 0 0, .int .i64 0, .string ⟨#[]⟩, .string ⟨#[]⟩]))).toArray := by
  unfold mArr
  show (Value.int .i64 0 :: ((idArr 0#256).toList ++ ((eArr (0, 0#256, 0)).toList ++ _))).toArray = _
  rw [eArr_zero]
  have : (idArr 0#256).toList = List.replicate 32 (Value.int .u8 0) := by
    have := eArr_zero
    unfold eArr at this
    have h2 := congrArg Array.toList this
    simp only [List.cons.injEq, true_and] at h2
    exact List.append_cancel_right h2
  rw [this]; rfl
def fZ : List (List Value) := [[.bool false], [.bool false], [.bool false], [.bool false], [.bool false], [.bool false]]
def cZ : List (List Value) := [[.string ⟨#[]⟩]]
theorem one_str (s : ByteArray) : ∀ u ∈ (#[Value.string s] : Array Value).toList, u.oneCell' = true := by
  intro u hu
  simp only [List.mem_singleton] at hu
  subst hu; rfl
theorem c4_n {m : Mg} (h : c4 m = true) : 0 ≤ m.n := by
  unfold c4 at h
  cases hk : hasN m.k
  · rw [hk] at h; have := of_decide_eq_true h; omega
  · rw [hk] at h; simp only [cond_true, Bool.and_eq_true, decide_eq_true_eq] at h; exact h.1
/-! ### numbers' bytes -/
def numF (n : Int) (k i : Nat) : Nat := if i < k then n.toNat / 256 ^ i % 256 else 0
theorem numF_zero (n : Int) : bytesF (fun _ => 0) 8 = bytesF (numF n 0) 8 := rfl
theorem num_shr (n : Int) (h0 : 0 ≤ n) (k : Nat) (hk : k < 8) : (n.fdiv (2 ^ (min (8 * (k : Int)).toNat IntKind.i64.bits))) % 256 = ((n.toNat / 256 ^ k % 256 : Nat) : Int) := by
  have e : min (8 * (k : Int)).toNat IntKind.i64.bits = 8 * k := by
    have h64 : IntKind.i64.bits = 64 := rfl
    rw [h64]; omega
  obtain ⟨m, rfl⟩ := Int.eq_ofNat_of_zero_le h0
  rw [e, show (2 : Int) ^ (8 * k) = ((256 ^ k : Nat) : Int) from by rw [Int.pow_mul, Int.natCast_pow]; rfl, Int.toNat_natCast, Int.fdiv_eq_ediv_of_nonneg _ (Int.natCast_nonneg _)]
  omega
theorem numF_next (n : Int) (k : Nat) : (bytesF (numF n k) 8).setIfInBounds k (.int .u8 ((n.toNat / 256 ^ k % 256 : Nat) : Int)) = bytesF (numF n (k + 1)) 8 := by
  rw [bytesF_set]
  refine bytesF_congr fun i hi => ?_
  unfold numF
  by_cases h : i = k
  · subst h; simp
  · by_cases h2 : i < k
    · rw [if_neg h, if_pos h2, if_pos (by omega)]
    · rw [if_neg h, if_neg h2, if_neg (by omega)]
theorem numF_end (n : Int) : strF (numF n 8) 8 = bstr (numL n) := by
  unfold strF bstr numL
  rw [List.map_map]
  congr 2
/-! ### like -/
theorem like_1 {a b : Mg} (h : decide (a.k = b.k) = false) : false = mEqB a b := by unfold mEqB; rw [h]; rfl
theorem like_2 {a b : Mg} (h : decide (a.i = b.i) = false) : false = mEqB a b := by unfold mEqB; rw [h]; simp
theorem like_3 {a b : Mg} (h : decide (a.t = b.t) = false) : false = mEqB a b := by unfold mEqB; rw [h]; simp
theorem like_4 {a b : Mg} (h : decide (a.l = b.l) = false) : false = mEqB a b := by unfold mEqB; rw [h]; simp
theorem like_5 {a b : Mg} (h : decide (a.n = b.n) = false) : false = mEqB a b := by unfold mEqB; rw [h]; simp
theorem like_6 {a b : Mg} (h : decide (a.o = b.o) = false) : false = mEqB a b := by unfold mEqB; rw [h]; simp
theorem like_7 {a b : Mg} (h : decide (a.d = b.d) = false) : false = mEqB a b := by unfold mEqB; rw [h]; simp
theorem like_all {a b : Mg} (h1 : decide (a.k = b.k) = true) (h2 : decide (a.i = b.i) = true) (h3 : decide (a.t = b.t) = true) (h4 : decide (a.l = b.l) = true) (h5 : decide (a.n = b.n) = true) (h6 : decide (a.o = b.o) = true) (h7 : decide (a.d = b.d) = true) : true = mEqB a b := by
  unfold mEqB; rw [h1, h2, h3, h4, h5, h6, h7]; rfl
/-! ### text -/
def mtW (m : Mg) : ByteArray := bif rightM m then textM m else ⟨#[]⟩
def mtR (m : Mg) : Int := bif rightM m then 0 else 1
def hq0 (m : Mg) : List Nat := [m.k.toNat]
def hq1 (m : Mg) : List Nat := hq0 m ++ segI m.k m.i
def hq2 (m : Mg) : List Nat := hq1 m ++ segT m.k m.t
def hq3 (m : Mg) : List Nat := hq2 m ++ segS m.k m.l
def hq4 (m : Mg) : List Nat := hq3 m ++ segN m.k m.n
theorem segI_len (k : Int) (i : Id) : (segI k i).length ≤ 32 := by unfold segI; cases hasI k <;> simp [idL_length]
theorem segT_len (k : Int) (t : Ent) : (segT k t).length ≤ 34 := by
  unfold segT; have := (entL_length t).1
  cases hasT k
  · simp
  · simp only [cond_true, List.length_cons]; omega
theorem segN_len (k n : Int) : (segN k n).length ≤ 8 := by unfold segN; cases hasN k <;> simp [numL_length]
theorem segS_len (k : Int) (l : List Ent) (h : l.length ≤ 4) : (segS k l).length ≤ 133 := by
  unfold segS; have := flatE_len l
  cases hasS k
  · simp
  · simp only [cond_true, textL, List.length_cons]; omega
theorem c3_len {m : Mg} (h : c3 m = true) : m.l.length ≤ 4 := by
  unfold c3 at h
  cases hk : hasS m.k
  · rw [hk] at h; have := of_decide_eq_true h; omega
  · rw [hk] at h; exact ((rightE_iff _).1 h).2.1
theorem head_len {m : Mg} (h : rightM m = true) : (hq4 m).length ≤ 208 ∧ (hq3 m).length ≤ 200 ∧ (hq2 m).length ≤ 67 ∧ (hq1 m).length ≤ 33 ∧ m.o.size ≤ 16 ∧ m.d.size ≤ 64 := by
  obtain ⟨h0, h1, h2, h3, h4, h5, h6⟩ := right_parts h
  have a1 := segI_len m.k m.i; have a2 := segT_len m.k m.t; have a3 := segS_len m.k m.l (c3_len h3); have a4 := segN_len m.k m.n
  refine ⟨?_, ?_, ?_, ?_, ?_, ?_⟩
  · simp only [hq4, hq3, hq2, hq1, hq0, List.length_append, List.length_cons, List.length_nil]; omega
  · simp only [hq3, hq2, hq1, hq0, List.length_append, List.length_cons, List.length_nil]; omega
  · simp only [hq2, hq1, hq0, List.length_append, List.length_cons, List.length_nil]; omega
  · simp only [hq1, hq0, List.length_append, List.length_cons, List.length_nil]; omega
  · unfold c5 at h5
    cases hk : hasO m.k
    · rw [hk] at h5; rw [of_decide_eq_true h5]; decide
    · rw [hk] at h5; have := of_decide_eq_true h5; omega
  · unfold c6 at h6
    cases hk : hasD m.k
    · rw [hk] at h6; rw [of_decide_eq_true h6]; decide
    · rw [hk] at h6; exact of_decide_eq_true h6
theorem str_byL (ns : List Nat) (h : ∀ n ∈ ns, n < 256) : Lib.strCells (bstr ns) = byL ns := by
  unfold Lib.strCells bstr byL
  simp only [List.map_map]
  refine List.map_congr_left fun n hn => ?_
  have := h n hn
  show Value.int .u8 ((UInt8.ofNat n).toNat : Int) = _
  rw [UInt8.toNat_ofNat', Nat.mod_eq_of_lt (by omega)]
theorem hq1_t {m : Mg} (h : hasI m.k = true) : byL (hq0 m) ++ (bytesF (byteAt m.i) 32).toList = byL (hq1 m) ∧ (hq0 m).length + 32 = (hq1 m).length := by
  have e : (bytesF (byteAt m.i) 32).toList = byL (idL m.i) := by rw [← idArr_bytes, idArr_byL]
  unfold hq1 segI; rw [h, e, byL_append]; exact ⟨rfl, by simp [idL_length]⟩
theorem hq1_f {m : Mg} (h : hasI m.k = false) : hq0 m = hq1 m := by unfold hq1 segI; rw [h]; simp
theorem hq2_t {m : Mg} (h : hasT m.k = true) : byL (hq1 m) ++ byL (1 :: entL m.t) = byL (hq2 m) ∧ (hq1 m).length + (1 :: entL m.t).length = (hq2 m).length := by
  unfold hq2 segT; rw [h, byL_append]; exact ⟨rfl, by simp⟩
theorem hq2_f {m : Mg} (h : hasT m.k = false) : hq1 m = hq2 m := by unfold hq2 segT; rw [h]; simp
theorem hq3_t {m : Mg} (h : hasS m.k = true) : byL (hq2 m) ++ byL (textL m.l) = byL (hq3 m) ∧ (hq2 m).length + (textL m.l).length = (hq3 m).length := by
  unfold hq3 segS; rw [h, byL_append]; exact ⟨rfl, by simp⟩
theorem hq3_f {m : Mg} (h : hasS m.k = false) : hq2 m = hq3 m := by unfold hq3 segS; rw [h]; simp
theorem hq4_t {m : Mg} (h : hasN m.k = true) : byL (hq3 m) ++ byL (numL m.n) = byL (hq4 m) ∧ (hq3 m).length + (numL m.n).length = (hq4 m).length := by
  unfold hq4 segN; rw [h, byL_append]; exact ⟨rfl, by simp⟩
theorem hq4_f {m : Mg} (h : hasN m.k = false) : hq3 m = hq4 m := by unfold hq4 segN; rw [h]; simp
theorem c2_e {m : Mg} (h : c2 m = true) (hk : hasT m.k = true) : isE m.t = true := by unfold c2 at h; rw [hk] at h; exact h
theorem c3_r {m : Mg} (h : c3 m = true) (hk : hasS m.k = true) : rightE m.l = true := by unfold c3 at h; rw [hk] at h; exact h
theorem c4_r {m : Mg} (h : c4 m = true) (hk : hasN m.k = true) : 0 ≤ m.n ∧ m.n ≤ 1099511627776 := by unfold c4 at h; rw [hk] at h; simpa using h
theorem textW_one {t : Ent} (h : isE t = true) : textW [t] = bstr (1 :: entL t) := by
  have hr : rightE [t] = true := (rightE_iff _).2 ⟨by simp, by simp, by simpa using h⟩
  rw [textW_t hr]; simp [textE, textL]
theorem ent1_lt {t : Ent} (h : isE t = true) : ∀ n ∈ (1 :: entL t), n < 256 := fun n hn => by
  rcases List.mem_cons.1 hn with rfl | hn
  · decide
  · exact entL_lt t h n hn
theorem textL_lt {l : List Ent} (h : rightE l = true) : ∀ n ∈ textL l, n < 256 := fun n hn => by
  obtain ⟨h1, h2, h3⟩ := (rightE_iff l).1 h
  rcases List.mem_cons.1 hn with rfl | hn
  · omega
  · obtain ⟨e, he, hn⟩ := List.mem_flatMap.1 hn; exact entL_lt e (h3 e he) n hn
def mZs : List (List Value) := [[.int .i64 0], List.replicate 32 (.int .u8 0), .int .i64 0 :: (List.replicate 32 (.int .u8 0) ++ [.int .i64 0]), [.slice none 0 0], [.int .i64 0], [.string ⟨#[]⟩], [.string ⟨#[]⟩]]
theorem z34 : (Value.int .i64 0 :: (List.replicate 32 (Value.int .u8 0) ++ [Value.int .i64 0])) = (eArr (0, 0#256, 0)).toList := by rw [eArr_zero]
variable {P : Program} {ρ : Operand → Value} {d : Option Tmp} {ty : TypeId} {pos : String} {af : Array Edge} {g : Option (Nat × Bool)} {x y : Operand} {t : TypeId}
theorem ru_build_m0 (S : Stt P t mZs) : RunsTo P ⟨d, .build t #[], ty, pos, af, g⟩ ρ (.agg (mArr mZ (.slice none 0 0))) := by
  rw [mArr_zero]
  exact ru_build_st S [] rfl (fun _ _ h => by cases h) rfl
theorem ru_build_mk {q : Int} (S : Stt P t mZs) (hx : ρ x = .int .i64 q) : RunsTo P ⟨d, .build t #[(0, x)], ty, pos, af, g⟩ ρ (.agg (mArr { mZ with k := q } (.slice none 0 0))) := by
  have e : mArr { mZ with k := q } (.slice none 0 0) = (([Value.int .i64 q] :: mZs.tail).flatten).toArray := by
    rw [← mArr_setK, mArr_zero]; rfl
  rw [e]
  exact ru_build_st S [(0, .int .i64 q)] (by simp [hx]) (by
    intro i v hiv; simp only [List.mem_cons, Prod.mk.injEq, List.not_mem_nil, or_false] at hiv; obtain ⟨rfl, rfl⟩ := hiv; exact ⟨_, rfl, rfl⟩) rfl
theorem ru_build_mi {q : Int} {b : Id} (S : Stt P t mZs) (hx : ρ x = .int .i64 q) (hy : ρ y = idV b) : RunsTo P ⟨d, .build t #[(0, x), (1, y)], ty, pos, af, g⟩ ρ (.agg (mArr { mZ with k := q, i := b } (.slice none 0 0))) := by
  have e : mArr { mZ with k := q, i := b } (.slice none 0 0) = (([Value.int .i64 q] :: (idArr b).toList :: mZs.tail.tail).flatten).toArray := by
    unfold mArr mZs
    show (Value.int .i64 q :: ((idArr b).toList ++ ((eArr (0, 0#256, 0)).toList ++ _))).toArray = _
    rw [← z34]; rfl
  rw [e]
  exact ru_build_st S [(0, .int .i64 q), (1, idV b)] (by simp [hx, hy]) (by
    intro i v hiv; simp only [List.mem_cons, Prod.mk.injEq, List.not_mem_nil, or_false] at hiv; rcases hiv with ⟨rfl, rfl⟩ | ⟨rfl, rfl⟩
    · exact ⟨_, rfl, rfl⟩
    · exact ⟨_, rfl, by simp [idV, Value.cells, idArr_size]⟩) rfl
/-! ### the reference's fields -/
def fstrs : List ByteArray := [⟨#[]⟩, ⟨#[115, 110, 100]⟩, ⟨#[105, 116, 110]⟩, ⟨#[105, 116, 111]⟩, ⟨#[105, 116, 110, 111]⟩, ⟨#[105, 116]⟩, ⟨#[105, 116, 111]⟩, ⟨#[105]⟩, ⟨#[105, 110]⟩, ⟨#[105, 110]⟩, ⟨#[105, 110]⟩]
def fS (k : Int) : ByteArray := fstrs.getD k.toNat ⟨#[]⟩
def anyB (s : ByteArray) (f : Int) : Bool := (List.range s.size).any fun i => decide (((sb s i : Nat) : Int) = f)
def hasF (k f : Int) : Bool := decide (1 ≤ k) && decide (k ≤ 10) && anyB (fS k) f
theorem fS_get {k : Int} (h1 : 1 ≤ k) (h2 : k ≤ 10) : (fstrs.map Value.string)[k.toNat]? = some (.string (fS k)) := by
  have h : k.toNat < fstrs.length := by show k.toNat < 11; omega
  rw [List.getElem?_map, List.getElem?_eq_getElem h, fS, List.getD_eq_getElem?_getD, List.getElem?_eq_getElem h]; rfl
theorem hasF_lo {k f : Int} (h : k < 1) : false = hasF k f := by unfold hasF; rw [decide_eq_false (by omega)]; rfl
theorem hasF_hi {k f : Int} (h : 10 < k) : false = hasF k f := by unfold hasF; rw [decide_eq_false (show ¬ k ≤ 10 by omega)]; simp
theorem hasF_yes {k f : Int} (h1 : 1 ≤ k) (h2 : k ≤ 10) {j : Nat} (hj : j < (fS k).size) (h : ((sb (fS k) j : Nat) : Int) = f) : true = hasF k f := by
  unfold hasF anyB
  rw [decide_eq_true h1, decide_eq_true h2]
  symm
  show (List.any _ _) = true
  rw [List.any_eq_true]
  exact ⟨j, List.mem_range.2 hj, decide_eq_true h⟩
theorem hasF_no {k f : Int} (h : ∀ i, i < (fS k).size → ¬ ((sb (fS k) i : Nat) : Int) = f) : false = hasF k f := by
  unfold hasF anyB
  have : ((List.range (fS k).size).any fun i => decide (((sb (fS k) i : Nat) : Int) = f)) = false := by
    rw [List.any_eq_false]; intro i hi; simpa using h i (List.mem_range.1 hi)
  rw [this, Bool.and_false]
theorem hasF_all (f : Int) (g : Int → Bool) (h : ∀ k : Nat, k < 11 → 1 ≤ k → anyB (fS k) f = g k) (h0 : ∀ k, isK k = false → g k = false) (k : Int) : hasF k f = g k := by
  unfold hasF
  cases hk : isK k
  · rw [h0 k hk]
    unfold isK at hk
    rw [hk]; rfl
  · have hk2 := (isK_iff k).1 hk
    rw [decide_eq_true hk2.1, decide_eq_true hk2.2]
    have e : k = ((k.toNat : Nat) : Int) := by omega
    have := h k.toNat (by omega) (by omega)
    rw [← e] at this
    rw [this]; rfl
theorem has0 {k : Int} (h : isK k = false) : hasI k = false ∧ hasT k = false ∧ hasS k = false ∧ hasN k = false ∧ hasO k = false ∧ hasD k = false := by
  have := fArr_no h
  unfold fArr at this
  simp only [Array.mk.injEq, List.cons.injEq, Value.bool.injEq, and_true] at this
  exact this
theorem hasF_i (k : Int) : hasF k 105 = hasI k := hasF_all 105 hasI (by decide) (fun k h => (has0 h).1) k
theorem hasF_t (k : Int) : hasF k 116 = hasT k := hasF_all 116 hasT (by decide) (fun k h => (has0 h).2.1) k
theorem hasF_s (k : Int) : hasF k 115 = hasS k := hasF_all 115 hasS (by decide) (fun k h => (has0 h).2.2.1) k
theorem hasF_n (k : Int) : hasF k 110 = hasN k := hasF_all 110 hasN (by decide) (fun k h => (has0 h).2.2.2.1) k
theorem hasF_o (k : Int) : hasF k 111 = hasO k := hasF_all 111 hasO (by decide) (fun k h => (has0 h).2.2.2.2.1) k
theorem hasF_d (k : Int) : hasF k 100 = hasD k := hasF_all 100 hasD (by decide) (fun k h => (has0 h).2.2.2.2.2) k
/-! ### the reference's Right -/
def bd4 (m : Mg) : Bool := (!hasI m.k && decide (m.i ≠ 0#256)) || (!hasT m.k && !decide (m.t = (0, 0#256, 0))) || (!hasS m.k && decide (0 < m.l.length))
def bd6 (m : Mg) : Bool := (!hasN m.k && decide (m.n ≠ 0)) || (!hasD m.k && decide (m.d ≠ ⟨#[]⟩))
def bd8 (m : Mg) : Bool := (hasT m.k && !isE m.t) || (hasS m.k && !rightE m.l)
theorem right_ref {m : Mg} (h1 : 1 ≤ m.k) (h2 : m.k ≤ 10) (h3 : 0 ≤ m.n) (h4 : m.n ≤ 1099511627776) (h5 : m.d.size ≤ 64) : rightM m = (!bd4 m && (!bd6 m && (!bd8 m && c5 m))) := by
  have hk : isK m.k = true := (isK_iff _).2 ⟨h1, h2⟩
  have e1 : c1 m = !(!hasI m.k && decide (m.i ≠ 0#256)) := by unfold c1; cases hasI m.k <;> simp
  have e2 : c2 m = (!(!hasT m.k && !decide (m.t = (0, 0#256, 0))) && !(hasT m.k && !isE m.t)) := by unfold c2; cases hasT m.k <;> simp
  have e3 : c3 m = (!(!hasS m.k && decide (0 < m.l.length)) && !(hasS m.k && !rightE m.l)) := by
    unfold c3
    cases hasS m.k
    · simp only [cond_false, Bool.not_false, Bool.true_and, Bool.false_and, Bool.and_true]
      rw [Bool.eq_iff_iff]; simp
    · simp
  have e4 : c4 m = !(!hasN m.k && decide (m.n ≠ 0)) := by
    unfold c4; cases hasN m.k
    · simp
    · simp only [cond_true, Bool.not_true, Bool.false_and, Bool.not_false]; rw [decide_eq_true h3, decide_eq_true h4]; rfl
  have e6 : c6 m = !(!hasD m.k && decide (m.d ≠ ⟨#[]⟩)) := by
    unfold c6; cases hasD m.k
    · simp
    · simp only [cond_true, Bool.not_true, Bool.false_and, Bool.not_false]; exact decide_eq_true h5
  unfold rightM bd4 bd6 bd8
  rw [hk, e1, e2, e3, e4, e6]
  generalize (!hasI m.k && decide (m.i ≠ 0#256)) = x1
  generalize (!hasT m.k && !decide (m.t = (0, 0#256, 0))) = x2
  generalize (!hasS m.k && decide (0 < m.l.length)) = x3
  generalize (hasT m.k && !isE m.t) = x4
  generalize (hasS m.k && !rightE m.l) = x5
  generalize (!hasN m.k && decide (m.n ≠ 0)) = x6
  generalize (!hasD m.k && decide (m.d ≠ ⟨#[]⟩)) = x7
  generalize c5 m = x8
  revert x1 x2 x3 x4 x5 x6 x7 x8
  decide
theorem c4_in {m : Mg} (h : c4 m = true) : 0 ≤ m.n ∧ m.n ≤ 1099511627776 := by
  unfold c4 at h
  cases hk : hasN m.k
  · rw [hk] at h; have := of_decide_eq_true h; omega
  · rw [hk] at h; simpa using h
theorem right_k1 {m : Mg} (h : m.k < 1) : false = rightM m := by
  cases hr : rightM m
  · rfl
  · have := (isK_iff _).1 (right_parts hr).1; omega
theorem right_k2 {m : Mg} (h : 10 < m.k) : false = rightM m := by
  cases hr : rightM m
  · rfl
  · have := (isK_iff _).1 (right_parts hr).1; omega
theorem right_n1 {m : Mg} (h : m.n < 0) : false = rightM m := by
  cases hr : rightM m
  · rfl
  · have := c4_in (right_parts hr).2.2.2.2.1; omega
theorem right_n2 {m : Mg} (h : 1099511627776 < m.n) : false = rightM m := by
  cases hr : rightM m
  · rfl
  · have := c4_in (right_parts hr).2.2.2.2.1; omega
theorem right_d {m : Mg} (h : (64 : Int) < ((m.d.size : Nat) : Int)) : false = rightM m := by
  cases hr : rightM m
  · rfl
  · have := (head_len hr).2.2.2.2.2; omega
theorem right_ref' {m : Mg} (h1 : ¬ m.k < 1) (h2 : ¬ 10 < m.k) (h3 : ¬ m.n < 0) (h4 : ¬ 1099511627776 < m.n) (h5 : ¬ (64 : Int) < ((m.d.size : Nat) : Int)) : rightM m = (!bd4 m && (!bd6 m && (!bd8 m && c5 m))) := right_ref (by omega) (by omega) (by omega) (by omega) (by omega)
theorem fS_size (k : Int) : (fS k).size ≤ 4 := by
  unfold fS
  by_cases h : k.toNat < 11
  · have : ∀ n, n < 11 → (fstrs.getD n ⟨#[]⟩).size ≤ 4 := by decide
    exact this _ h
  · rw [List.getD_eq_getElem?_getD, List.getElem?_eq_none (by show 11 ≤ _; omega)]; decide
theorem rdz_one {w : World} {v : Value} {sz n : Nat} {xs : List Value} (h : RdZ w v sz n xs) : v.oneCell' = true := by
  rcases h.2 with ⟨rfl, _⟩ | ⟨p, c, rfl, _⟩ <;> rfl
def cutM (m : Mg) : Mg := { m with l := m.l.take (min m.l.length 6), o := m.o.extract 0 (min m.o.size 20), d := m.d.extract 0 (min m.d.size 70) }
theorem cutM_l (m : Mg) : (cutM m).l.length ≤ 6 := by show (m.l.take _).length ≤ 6; rw [List.length_take]; omega
theorem cutM_o (m : Mg) : (cutM m).o.size ≤ 20 := by show (m.o.extract _ _).size ≤ 20; rw [ByteArray.size_extract]; omega
theorem cutM_d (m : Mg) : (cutM m).d.size ≤ 70 := by show (m.d.extract _ _).size ≤ 70; rw [ByteArray.size_extract]; omega
theorem numL_take (n : Int) (j : Nat) (hj : j < 8) : (numL n).take j ++ [n.toNat / 256 ^ j % 256] = (numL n).take (j + 1) := by
  rw [List.take_add_one]
  congr 1
  unfold numL
  simp [List.getElem?_map, List.getElem?_range hj]
theorem numL_step (n : Int) (j : Nat) (hj : j < 8) : byL ((numL n).take j) ++ [Value.int .u8 ((n.toNat / 256 ^ j % 256 : Nat) : Int)].flatMap (fun v => v.cells.toList) = byL ((numL n).take (j + 1)) := by
  rw [← numL_take n j hj, ← byL_append]; rfl
theorem numL_quo (x j : Nat) : ((x / 256 ^ j : Nat) : Int) / 256 = ((x / 256 ^ (j + 1) : Nat) : Int) := by
  rw [Nat.pow_succ, ← Nat.div_div_eq_div_mul]; rfl
theorem hq1_bt {m : Mg} (h : hasI m.k = true) : bstr (hq0 m) ++ strF (byteAt m.i) 32 = bstr (hq1 m) := by
  unfold hq1 segI; rw [h, bstr_app]; rfl
theorem hq2_bt {m : Mg} (h : hasT m.k = true) : bstr (hq1 m) ++ (⟨#[1]⟩ : ByteArray) ++ bstr (entL m.t) = bstr (hq2 m) := by
  unfold hq2 segT; rw [h, bstr_app, ByteArray.append_assoc]
  show _ ++ (bstr [1] ++ _) = _ ++ bstr (1 :: entL m.t)
  rw [← bstr_app]; rfl
theorem hq3_bt {m : Mg} (h : hasS m.k = true) : bstr (hq2 m) ++ textE m.l = bstr (hq3 m) := by
  unfold hq3 segS; rw [h, bstr_app]; rfl
theorem hq4_bt {m : Mg} (h : hasN m.k = true) : bstr (hq3 m) ++ bstr (numL m.n) = bstr (hq4 m) := by
  unfold hq4 segN; rw [h, bstr_app]; rfl
/-! ### methods that panic -/
def Pch (t : TypeId) : List PanicEntry := [{ v := .iface t (.int .i64 5), recovered := false }]
def MR (t : TypeId) (ok : Bool) (T : Value → World → Prop) (F : World → Prop) : Ending → World → Prop := fun e w => (ok = true ∧ ∃ v, e = .returned v ∧ T v w) ∨ (ok = false ∧ ∃ ch, e = .panicked ch ∧ ch = Pch t ∧ F w)
theorem MR.yes {t : TypeId} {ok : Bool} {T : Value → World → Prop} {F : World → Prop} {f : FuncId} {a : Array Value} {w : World} (h : Calls P f a w (MR t ok T F)) (hok : ok = true) : Calls P f a w (fun e w' => ∃ v, e = .returned v ∧ T v w') :=
  h.mono fun e w' hx => by
    rcases hx with ⟨_, r⟩ | ⟨h0, _⟩
    · exact r
    · rw [hok] at h0; cases h0
theorem MR.no {t : TypeId} {ok : Bool} {T : Value → World → Prop} {F : World → Prop} {f : FuncId} {a : Array Value} {w : World} (h : Calls P f a w (MR t ok T F)) (hok : ok = false) : Calls P f a w (fun e w' => ∃ ch, e = .panicked ch ∧ (ch = Pch t ∧ F w')) :=
  h.mono fun e w' hx => by
    rcases hx with ⟨h0, _⟩ | ⟨_, ch, r⟩
    · rw [hok] at h0; cases h0
    · exact ⟨ch, r⟩
theorem strF_bstr (f : Nat → Nat) (n : Nat) : strF f n = bstr ((List.range n).map f) := by unfold strF bstr; rw [List.map_map]; rfl
theorem sb_strF (f : Nat → Nat) (n i : Nat) (hi : i < n) (hf : ∀ i, i < n → f i < 256) : sb (strF f n) i = f i := by
  rw [strF_bstr, sb_bstr _ _ (by simpa using hi) (by intro x hx; obtain ⟨j, hj, rfl⟩ := List.mem_map.1 hx; exact hf j (List.mem_range.1 hj))]
  simp
theorem clone_lt (s : ByteArray) (i : Nat) (_ : i < s.size) : cpF (fun _ => 0) 0 s s.size i < 256 := by
  unfold cpF; split
  · exact sb_lt _ _
  · show 0 < 256; omega
theorem clone_eq (s : ByteArray) : strF (cpF (fun _ => 0) 0 s s.size) s.size = s := by
  refine ba_ext (strF_size _ _) fun i hi => ?_
  rw [strF_size] at hi
  rw [sb_strF _ _ _ hi (clone_lt s)]
  unfold cpF
  rw [if_pos (by omega), Nat.sub_zero]
theorem strL_id0 {r : ByteArray} (h : 32 ≤ r.size) : (byL (strL (r.extract 0 32))).toArray = idArr (idOf (sb r)) := by
  have e : (r.extract 0 32).size = 32 := bz_size _ _ _ h
  apply Array.ext_getElem?
  intro i
  by_cases hi : i < 32
  · rw [idArr_get _ i hi, byteAt_idOf _ (fun i => sb_lt _ _) i hi, List.getElem?_toArray, byL, List.getElem?_map, strL_get _ _ (by omega), bz_sb _ _ _ _ h (by omega), Nat.zero_add]
    rfl
  · rw [Array.getElem?_eq_none (by rw [List.size_toArray, byL_length, strL_length]; omega), Array.getElem?_eq_none (by rw [idArr_size]; omega)]
theorem sb_ext0 (r : ByteArray) (n i : Nat) (hn : n ≤ r.size) (hi : i < n) : sb (r.extract 0 n) i = sb r i := by rw [bz_sb _ _ _ _ hn (by omega), Nat.zero_add]
def okK (r : ByteArray) : Bool := decide (1 ≤ r.size) && isK (kS r)
theorem okK_no1 {r : ByteArray} (h : decide (1 ≤ r.size) = false) : okK r = false := by unfold okK; rw [h]; rfl
theorem okK_no2 {r : ByteArray} (h : isK (kS r) = false) : okK r = false := by unfold okK; rw [h, Bool.and_false]
theorem okK_yes {r : ByteArray} (h : decide (1 ≤ r.size) = true) (h2 : isK (kS r) = true) : okK r = true := by unfold okK; rw [h, h2]; rfl
def okTg (r : ByteArray) : Bool := decide ((readM r).1 = 0) && decide ((readM r).2.1.length = 1)
def tgV (r : ByteArray) : Ent := (readM r).2.1.getD 0 (0, 0#256, 0)
theorem okTg_no1 {r : ByteArray} (h : decide ((readM r).1 = 0) = false) : okTg r = false := by unfold okTg; rw [h]; rfl
theorem okTg_no2 {r : ByteArray} (h : ¬ (readM r).2.1.length = 1) : okTg r = false := by unfold okTg; rw [decide_eq_false h, Bool.and_false]
theorem okTg_yes {r : ByteArray} (h : decide ((readM r).1 = 0) = true) (h2 : (readM r).2.1.length = 1) : okTg r = true := by unfold okTg; rw [h, decide_eq_true h2]; rfl
theorem read_in {r : ByteArray} (h : decide ((readM r).1 = 0) = true) : (readM r).2.2 ≤ r.size := (text_read r (of_decide_eq_true h)).2.1
def okNm (r : ByteArray) : Bool := decide (8 ≤ r.size) && decide (numS r ≤ 1099511627776)
theorem num_or (r : ByteArray) (k : Nat) (hk : k < 8) : IntKind.u64.wrap ((BitVec.ofInt IntKind.u64.bits ((numK r k : Nat) : Int) ||| BitVec.ofInt IntKind.u64.bits (IntKind.u64.wrap (((sb r k : Nat) : Int) * 2 ^ (min (8 * (k : Int)).toNat IntKind.u64.bits)))).toNat : Int) = ((numK r (k + 1) : Nat) : Int) := by
  have hb := sb_lt r k
  have hlt := numK_lt r k
  have e : min (8 * (k : Int)).toNat IntKind.u64.bits = 8 * k := by
    have h64 : IntKind.u64.bits = 64 := rfl
    rw [h64]; omega
  have e256 : 256 ^ k = 2 ^ (8 * k) := by rw [Nat.pow_mul]
  have hpow : 2 ^ (8 * k) * 256 ≤ 2 ^ 64 := by
    rw [show 256 = 2 ^ 8 from rfl, ← Nat.pow_add]; exact Nat.pow_le_pow_right (by omega) (by omega)
  have hsum : numK r (k + 1) < 2 ^ 64 := by
    have h1 := numK_lt r (k + 1)
    rw [Nat.pow_succ, e256] at h1
    omega
  have hw : ∀ x : Nat, x < 2 ^ 64 → IntKind.u64.wrap (x : Int) = (x : Int) := fun x hx => by
    have h2 : (2 : Nat) ^ 64 = 18446744073709551616 := rfl
    exact IntWalk.u64_in _ ⟨by omega, by omega⟩
  have hs : sb r k * 2 ^ (8 * k) < 2 ^ 64 := by
    have : sb r k * 2 ^ (8 * k) ≤ 255 * 2 ^ (8 * k) := Nat.mul_le_mul_right _ (by omega)
    have hp : 0 < 2 ^ (8 * k) := Nat.pow_pos (by omega)
    omega
  rw [e, show ((sb r k : Nat) : Int) * 2 ^ (8 * k) = ((sb r k * 2 ^ (8 * k) : Nat) : Int) from by rw [Int.natCast_mul, Int.natCast_pow]; rfl, hw _ hs]
  have hbits : IntKind.u64.bits = 64 := rfl
  rw [hbits, BitVec.ofInt_natCast, BitVec.ofInt_natCast, BitVec.toNat_or, BitVec.toNat_ofNat, BitVec.toNat_ofNat, Nat.mod_eq_of_lt hs, Nat.mod_eq_of_lt (by rw [e256] at hlt; omega)]
  have hor : numK r k ||| sb r k * 2 ^ (8 * k) = numK r (k + 1) := by
    rw [numK, e256, Nat.or_comm, Nat.mul_comm (sb r k), Nat.add_comm]
    exact (Nat.two_pow_add_eq_or_of_lt (by rw [← e256]; exact hlt) _).symm
  rw [hor]
  exact hw _ hsum
theorem tg_el {r : ByteArray} (h : (readM r).2.1.length = 1) : (((eCells (readM r).2.1).drop (0 * 34)).take 34).toArray = eArr (tgV r) := by
  rw [e_el _ 0 (by omega)]
  unfold tgV
  rw [List.getD_eq_getElem?_getD, List.getElem?_eq_getElem (by omega)]; rfl
theorem okNm_no1 {r : ByteArray} (h : decide (8 ≤ r.size) = false) : okNm r = false := by unfold okNm; rw [h]; rfl
theorem okNm_no2 {r : ByteArray} (h : (1099511627776 : Int) < ((numK r 8 : Nat) : Int)) : okNm r = false := by
  unfold okNm numS; rw [decide_eq_false (show ¬ numK r 8 ≤ 1099511627776 by omega), Bool.and_false]
theorem okNm_yes {r : ByteArray} (h : decide (8 ≤ r.size) = true) (h2 : ¬ (1099511627776 : Int) < ((numK r 8 : Nat) : Int)) : okNm r = true := by
  unfold okNm numS; rw [h, decide_eq_true (show numK r 8 ≤ 1099511627776 by omega)]; rfl
/-! ### Parse -/
def p1 (s : ByteArray) : Mg := { mZ with k := kS s }
def p2 (s : ByteArray) : Mg := { p1 s with i := vI (kS s) (q0 s) }
def p3 (s : ByteArray) : Mg := { p2 s with t := vT (kS s) (q1 s) }
def p4 (s : ByteArray) : Mg := { p3 s with l := vS (kS s) (q2 s) }
def p5 (s : ByteArray) : Mg := { p4 s with n := vN (kS s) (q3 s) }
def p6 (s : ByteArray) : Mg := { p5 s with o := vO (kS s) (q4 s) }
def p7 (s : ByteArray) : Mg := { p6 s with d := vD (kS s) (q5 s) }
section
variable {s : ByteArray}
theorem p2_t (h : hasI (kS s) = true) : { p1 s with i := idOf (sb (q0 s)) } = p2 s := by unfold p2 vI; rw [h]; rfl
theorem p2_f (h : hasI (kS s) = false) : p1 s = p2 s := by unfold p2 vI; rw [h]; rfl
theorem p3_t (h : hasT (kS s) = true) : { p2 s with t := tgV (q1 s) } = p3 s := by unfold p3 vT; rw [h]; rfl
theorem p3_f (h : hasT (kS s) = false) : p2 s = p3 s := by unfold p3 vT; rw [h]; rfl
theorem p4_t (h : hasS (kS s) = true) : { p3 s with l := (readM (q2 s)).2.1 } = p4 s := by unfold p4 vS; rw [h]; rfl
theorem p4_f (h : hasS (kS s) = false) : p3 s = p4 s := by unfold p4 vS; rw [h]; rfl
theorem p5_t (h : hasN (kS s) = true) : { p4 s with n := ((numS (q3 s) : Nat) : Int) } = p5 s := by unfold p5 vN; rw [h]; rfl
theorem p5_f (h : hasN (kS s) = false) : p4 s = p5 s := by unfold p5 vN; rw [h]; rfl
theorem p6_t (h : hasO (kS s) = true) : { p5 s with o := (q4 s).extract 0 16 } = p6 s := by unfold p6 vO; rw [h]; rfl
theorem p6_f (h : hasO (kS s) = false) : p5 s = p6 s := by unfold p6 vO; rw [h]; rfl
theorem p7_t (h : hasD (kS s) = true) : { p6 s with d := q5 s } = p7 s := by unfold p7 vD; rw [h]; rfl
theorem p7_f (h : hasD (kS s) = false) : p6 s = p7 s := by unfold p7 vD; rw [h]; rfl
theorem q1_t (h : hasI (kS s) = true) : sufS (q0 s) 32 = q1 s := by unfold q1 rI; rw [h]; rfl
theorem q1_f (h : hasI (kS s) = false) : q0 s = q1 s := by unfold q1 rI; rw [h]; rfl
theorem q2_t (h : hasT (kS s) = true) : sufS (q1 s) (readM (q1 s)).2.2 = q2 s := by unfold q2 rT; rw [h]; rfl
theorem q2_f (h : hasT (kS s) = false) : q1 s = q2 s := by unfold q2 rT; rw [h]; rfl
theorem q3_t (h : hasS (kS s) = true) : sufS (q2 s) (readM (q2 s)).2.2 = q3 s := by unfold q3 rS; rw [h]; rfl
theorem q3_f (h : hasS (kS s) = false) : q2 s = q3 s := by unfold q3 rS; rw [h]; rfl
theorem q4_t (h : hasN (kS s) = true) : sufS (q3 s) 8 = q4 s := by unfold q4 rN; rw [h]; rfl
theorem q4_f (h : hasN (kS s) = false) : q3 s = q4 s := by unfold q4 rN; rw [h]; rfl
theorem q5_t (h : hasO (kS s) = true) : sufS (q4 s) 16 = q5 s := by unfold q5 rO; rw [h]; rfl
theorem q5_f (h : hasO (kS s) = false) : q4 s = q5 s := by unfold q5 rO; rw [h]; rfl
theorem suf_all (r : ByteArray) : sufS r r.size = ⟨#[]⟩ := ba_nil_size.2 (by rw [suf_size]; omega)
theorem q6_t (h : hasD (kS s) = true) : sufS (q5 s) (q5 s).size = q6 s := by rw [suf_all]; unfold q6 rD; rw [h]; rfl
theorem q6_f (h : hasD (kS s) = false) : q5 s = q6 s := by unfold q6 rD; rw [h]; rfl
theorem suf_le (r : ByteArray) (n : Nat) : (sufS r n).size ≤ r.size := by rw [suf_size]; omega
theorem q_le (s : ByteArray) : (q0 s).size ≤ s.size ∧ (q1 s).size ≤ s.size ∧ (q2 s).size ≤ s.size ∧ (q3 s).size ≤ s.size ∧ (q4 s).size ≤ s.size ∧ (q5 s).size ≤ s.size := by
  have h0 : (q0 s).size ≤ s.size := suf_le _ _
  have h1 : (q1 s).size ≤ (q0 s).size := by unfold q1 rI; cases hasI (kS s); exact Nat.le_refl _; exact suf_le _ _
  have h2 : (q2 s).size ≤ (q1 s).size := by unfold q2 rT; cases hasT (kS s); exact Nat.le_refl _; exact suf_le _ _
  have h3 : (q3 s).size ≤ (q2 s).size := by unfold q3 rS; cases hasS (kS s); exact Nat.le_refl _; exact suf_le _ _
  have h4 : (q4 s).size ≤ (q3 s).size := by unfold q4 rN; cases hasN (kS s); exact Nat.le_refl _; exact suf_le _ _
  have h5 : (q5 s).size ≤ (q4 s).size := by unfold q5 rO; cases hasO (kS s); exact Nat.le_refl _; exact suf_le _ _
  omega
theorem okP_eq (s : ByteArray) : okP s = (okK s && okI (kS s) (q0 s) && okT (kS s) (q1 s) && okS (kS s) (q2 s) && okN (kS s) (q3 s) && okO (kS s) (q4 s) && okD (kS s) (q5 s) && decide (q6 s = ⟨#[]⟩)) := rfl
theorem bad_K (h : okK s = false) : okP s = false := by rw [okP_eq, h]; simp
theorem bad_I (hk : hasI (kS s) = true) (h : decide (32 ≤ (q0 s).size) = false) : okP s = false := by
  have : okI (kS s) (q0 s) = false := by unfold okI; rw [hk, h]; rfl
  rw [okP_eq, this]; simp
theorem bad_T (hk : hasT (kS s) = true) (h : okTg (q1 s) = false) : okP s = false := by
  have : okT (kS s) (q1 s) = false := by unfold okT; rw [hk]; unfold okTg at h; rw [h]; rfl
  rw [okP_eq, this]; simp
theorem bad_S (hk : hasS (kS s) = true) (h : decide ((readM (q2 s)).1 = 0) = false) : okP s = false := by
  have : okS (kS s) (q2 s) = false := by unfold okS; rw [hk, h]; rfl
  rw [okP_eq, this]; simp
theorem bad_N (hk : hasN (kS s) = true) (h : okNm (q3 s) = false) : okP s = false := by
  have : okN (kS s) (q3 s) = false := by unfold okN; rw [hk]; unfold okNm at h; rw [h]; rfl
  rw [okP_eq, this]; simp
theorem bad_O (hk : hasO (kS s) = true) (h : decide (16 ≤ (q4 s).size) = false) : okP s = false := by
  have : okO (kS s) (q4 s) = false := by unfold okO; rw [hk, h]; rfl
  rw [okP_eq, this]; simp
theorem bad_D (hk : hasD (kS s) = true) (h : decide ((q5 s).size ≤ 64) = false) : okP s = false := by
  have : okD (kS s) (q5 s) = false := by unfold okD; rw [hk, h]; rfl
  rw [okP_eq, this]; simp
theorem bad_E (h : decide (q6 s = ⟨#[]⟩) = false) : okP s = false := by rw [okP_eq, h]; simp
theorem good_I (hk : hasI (kS s) = true) (h : decide (32 ≤ (q0 s).size) = true) : okI (kS s) (q0 s) = true := by unfold okI; rw [hk, h]; rfl
theorem good_I' (hk : hasI (kS s) = false) : okI (kS s) (q0 s) = true := by unfold okI; rw [hk]; rfl
theorem good_T (hk : hasT (kS s) = true) (h : okTg (q1 s) = true) : okT (kS s) (q1 s) = true := by unfold okT; rw [hk]; unfold okTg at h; rw [h]; rfl
theorem good_T' (hk : hasT (kS s) = false) : okT (kS s) (q1 s) = true := by unfold okT; rw [hk]; rfl
theorem good_S (hk : hasS (kS s) = true) (h : decide ((readM (q2 s)).1 = 0) = true) : okS (kS s) (q2 s) = true := by unfold okS; rw [hk, h]; rfl
theorem good_S' (hk : hasS (kS s) = false) : okS (kS s) (q2 s) = true := by unfold okS; rw [hk]; rfl
theorem good_N (hk : hasN (kS s) = true) (h : okNm (q3 s) = true) : okN (kS s) (q3 s) = true := by unfold okN; rw [hk]; unfold okNm at h; rw [h]; rfl
theorem good_N' (hk : hasN (kS s) = false) : okN (kS s) (q3 s) = true := by unfold okN; rw [hk]; rfl
theorem good_O (hk : hasO (kS s) = true) (h : decide (16 ≤ (q4 s).size) = true) : okO (kS s) (q4 s) = true := by unfold okO; rw [hk, h]; rfl
theorem good_O' (hk : hasO (kS s) = false) : okO (kS s) (q4 s) = true := by unfold okO; rw [hk]; rfl
theorem good_D (hk : hasD (kS s) = true) (h : decide ((q5 s).size ≤ 64) = true) : okD (kS s) (q5 s) = true := by unfold okD; rw [hk, h]; rfl
theorem good_D' (hk : hasD (kS s) = false) : okD (kS s) (q5 s) = true := by unfold okD; rw [hk]; rfl
theorem good_P (h0 : okK s = true) (h1 : okI (kS s) (q0 s) = true) (h2 : okT (kS s) (q1 s) = true) (h3 : okS (kS s) (q2 s) = true) (h4 : okN (kS s) (q3 s) = true) (h5 : okO (kS s) (q4 s) = true) (h6 : okD (kS s) (q5 s) = true) (h7 : decide (q6 s = ⟨#[]⟩) = true) : okP s = true := by
  rw [okP_eq, h0, h1, h2, h3, h4, h5, h6, h7]; rfl
theorem parM_t (h : okP s = true) : parM s = mP s := by unfold parM; rw [h]; rfl
theorem parM_f (h : okP s = false) : parM s = mZ := by unfold parM; rw [h]; rfl
theorem parE_t (h : okP s = true) : parE s = 0 := by unfold parE; rw [h]; rfl
theorem parE_f (h : okP s = false) : parE s = 5 := by unfold parE; rw [h]; rfl
theorem par_bad {w : World} {base : Nat} {e : TypeId} (h : okP s = false) : ∃ vs, Value.tuple #[.agg (mArr mZ (.slice none 0 0)), .int .i64 5] = .tuple #[.agg (mArr (parM s) vs), .int .i64 (parE s)] ∧ Owns w base e 34 vs (parM s).l.length (eCells (parM s).l) := by
  rw [parM_f h, parE_f h]; exact ⟨_, rfl, owns_nil _ _ _ _⟩
theorem par_good {w : World} {base : Nat} {e : TypeId} {v : Value} (h : okP s = true) (hO : Owns w base e 34 v (vS (kS s) (q2 s)).length (eCells (vS (kS s) (q2 s)))) : ∃ vs, Value.tuple #[.agg (mArr (p7 s) v), .int .i64 0] = .tuple #[.agg (mArr (parM s) vs), .int .i64 (parE s)] ∧ Owns w base e 34 vs (parM s).l.length (eCells (parM s).l) := by
  rw [parM_t h, parE_t h]; exact ⟨_, rfl, hO⟩
end
theorem vS_t {s : ByteArray} (h : hasS (kS s) = true) : (readM (q2 s)).2.1 = vS (kS s) (q2 s) := by unfold vS; rw [h]; rfl
theorem vS_f {s : ByteArray} (h : hasS (kS s) = false) : [] = vS (kS s) (q2 s) := by unfold vS; rw [h]; rfl
end Go.Proofs.Ytaehgcdcfbhohaa

namespace Go.Proofs.Ytaehgcdcfbhohaa
/-! ### what the reference reads -/
def t5 (m : Mg) (v : Value) (r : ByteArray) (ok : Bool) : Array Value := ((mArr m v).toList ++ ([.string r, .bool ok] : List Value)).toArray
theorem mL71 (m : Mg) (v : Value) : (mArr m v).toList.length = 71 := by rw [Array.length_toList, mArr_size]
@[simp] theorem t5_size (m : Mg) (v : Value) (r : ByteArray) (ok : Bool) : (t5 m v r ok).size = 73 := by
  simp only [t5, List.size_toArray, List.length_append, mL71, List.length_cons, List.length_nil]
theorem t5_list (m : Mg) (v : Value) (r : ByteArray) (ok : Bool) : (t5 m v r ok).toList = (mArr m v).toList ++ ([.string r, .bool ok] : List Value) := rfl
theorem t5_get (m : Mg) (v : Value) (r : ByteArray) (ok : Bool) (i : Nat) (hi : i < 71) : (t5 m v r ok)[i]? = (mArr m v)[i]? := by
  rw [← Array.getElem?_toList, t5_list, List.getElem?_append_left (by rw [mL71]; exact hi), Array.getElem?_toList]
theorem t5_k (m : Mg) (v : Value) (r : ByteArray) (ok : Bool) : (t5 m v r ok)[0]? = some (.int .i64 m.k) := t5_get m v r ok 0 (by omega)
theorem t5_tail (m : Mg) (v : Value) (r : ByteArray) (ok : Bool) (j : Nat) : (t5 m v r ok)[71 + j]? = ([.string r, .bool ok] : List Value)[j]? := by
  rw [← Array.getElem?_toList, t5_list, List.getElem?_append_right (by rw [mL71]; omega), mL71, Nat.add_sub_cancel_left]
theorem t5_r (m : Mg) (v : Value) (r : ByteArray) (ok : Bool) : (t5 m v r ok)[71]? = some (.string r) := t5_tail m v r ok 0
theorem t5_ok (m : Mg) (v : Value) (r : ByteArray) (ok : Bool) : (t5 m v r ok)[72]? = some (.bool ok) := t5_tail m v r ok 1
theorem t5_ext (m : Mg) (v : Value) (r : ByteArray) (ok : Bool) (a n : Nat) (h : a + n ≤ 71) {D : Array Value} (hD : (mArr m v).extract a (a + n) = D) : (t5 m v r ok).extract a (a + n) = D := by
  apply Array.ext'
  rw [← hD, Array.toList_extract, Array.toList_extract, List.extract_eq_take_drop, List.extract_eq_take_drop, t5_list, Nat.add_sub_cancel_left, List.drop_append_of_le_length (by rw [mL71]; omega), List.take_append_of_le_length (by rw [List.length_drop, mL71]; omega)]
theorem t5_m (m : Mg) (v : Value) (r : ByteArray) (ok : Bool) : (t5 m v r ok).extract 0 (0 + 71) = mArr m v := t5_ext m v r ok 0 71 (by omega) (by
  rw [Nat.zero_add, ← mArr_size m v, Array.extract_size])
theorem t5_ones (m : Mg) (v : Value) (r : ByteArray) (ok : Bool) (hv : v.oneCell' = true) : ∀ u ∈ (t5 m v r ok).toList, u.oneCell' = true := by
  intro u hu
  rw [t5_list] at hu
  simp only [List.mem_append, List.mem_cons, List.not_mem_nil, or_false] at hu
  rcases hu with hu | rfl | rfl
  · exact mArr_ones m v hv u hu
  · rfl
  · rfl
theorem t5_setR (m : Mg) (v : Value) (r q : ByteArray) (ok : Bool) : (t5 m v r ok).setIfInBounds 71 (.string q) = t5 m v q ok := set_list (by
  rw [t5_list, List.set_append_right _ _ (by rw [mL71]; omega), mL71]; rfl)
theorem t5_set (m m' : Mg) (v v' : Value) (r : ByteArray) (ok : Bool) (i : Nat) (x : Value) (hi : i < 71) (h : (mArr m v).setIfInBounds i x = mArr m' v') : (t5 m v r ok).setIfInBounds i x = t5 m' v' r ok := set_list (by
  rw [t5_list, List.set_append_left _ _ (by rw [mL71]; exact hi), ← Array.toList_setIfInBounds, h]; rfl)
theorem t5_splT (m : Mg) (v : Value) (r : ByteArray) (ok : Bool) (q : Ent) : spl (t5 m v r ok) 33 (eArr q) = t5 { m with t := q } v r ok := by
  have h := mArr_splT m v q
  unfold spl at h ⊢
  rw [eArr_size] at h ⊢
  have h2 := congrArg Array.toList h
  simp only at h2
  unfold t5
  rw [← h2]
  simp only
  rw [List.take_append_of_le_length (by rw [mL71]; omega), List.drop_append_of_le_length (by rw [mL71]; omega)]
  simp only [List.append_assoc]
theorem mArr_setB (m : Mg) (v : Value) (b b' : Id) (j : Nat) (x : Value) (hj : j < 32) (hb : (idArr b).setIfInBounds j x = idArr b') : (mArr { m with i := b } v).setIfInBounds (1 + j) x = mArr { m with i := b' } v := set_list (by
  rw [mArr_list, mArr_list, Nat.add_comm, List.set_cons_succ, List.set_append_left _ _ (by rw [idL32]; exact hj), ← Array.toList_setIfInBounds, hb])
theorem t5_zero : t5 mZ (.slice none 0 0) ⟨#[]⟩ false = ((Value.int .i64 0 :: (List.replicate 32 (Value.int .u8 0) ++ (Value.int .i64 0 :: (List.replicate 32 (Value.int .u8 0) ++ [Value.int .i64 0]) ++ [Value.slice none 0 0, .int .i64 0, .string ⟨#[]⟩, .string ⟨#[]⟩]))) ++ ([.string ⟨#[]⟩, .bool false] : List Value)).toArray := by
  unfold t5; rw [mArr_zero]
def tZs : List (List Value) := [Value.int .i64 0 :: (List.replicate 32 (Value.int .u8 0) ++ (Value.int .i64 0 :: (List.replicate 32 (Value.int .u8 0) ++ [Value.int .i64 0]) ++ [Value.slice none 0 0, .int .i64 0, .string ⟨#[]⟩, .string ⟨#[]⟩])), [.string ⟨#[]⟩], [.bool false]]
section
variable {P : Program} {ρ : Operand → Value} {d : Option Tmp} {ty : TypeId} {pos : String} {af : Array Edge} {g : Option (Nat × Bool)} {x y : Operand} {t : TypeId}
theorem ru_build_t50 (S : Stt P t tZs) : RunsTo P ⟨d, .build t #[], ty, pos, af, g⟩ ρ (.agg (t5 mZ (.slice none 0 0) ⟨#[]⟩ false)) := by
  rw [t5_zero]
  exact ru_build_st S [] rfl (fun _ _ h => by cases h) rfl
theorem ru_build_t5 {m : Mg} {v : Value} {r : ByteArray} (S : Stt P t tZs) (hx : ρ x = .agg (mArr m v)) (hy : ρ y = .string r) (hz : ρ (.const (.bool true)) = .bool true) : RunsTo P ⟨d, .build t #[(0, x), (1, y), (2, .const (.bool true))], ty, pos, af, g⟩ ρ (.agg (t5 m v r true)) := by
  exact ru_build_st S [(0, .agg (mArr m v)), (1, .string r), (2, .bool true)] (by simp [hx, hy, hz]) (by
    intro i v hiv; simp only [List.mem_cons, Prod.mk.injEq, List.not_mem_nil, or_false] at hiv; rcases hiv with ⟨rfl, rfl⟩ | ⟨rfl, rfl⟩ | ⟨rfl, rfl⟩
    · exact ⟨_, rfl, by simp [Value.cells]⟩
    · exact ⟨_, rfl, rfl⟩
    · exact ⟨_, rfl, rfl⟩) (D := (t5 m v r true).toList) (by
    rw [t5_list]; rfl)
end
/-! ### head -/
def pidX (r : ByteArray) (j : Nat) : Id := idOf fun i => if i < j then sb r i else 0
theorem pidX_lt (r : ByteArray) (j : Nat) : ∀ i, (if i < j then sb r i else 0) < 256 := fun i => by
  split
  · exact sb_lt _ _
  · omega
theorem pidX_zero (r : ByteArray) : (0#256 : Id) = pidX r 0 := id_ext fun i hi => by
  unfold pidX; rw [byteAt_idOf _ (pidX_lt r 0) i hi, byteAt_zero]; rfl
theorem pidX_end (r : ByteArray) : pidX r 32 = idOf (sb r) := id_ext fun i hi => by
  unfold pidX; rw [byteAt_idOf _ (pidX_lt r 32) i hi, byteAt_idOf _ (fun i => sb_lt _ _) i hi, if_pos hi]
theorem pidX_next (r : ByteArray) {j : Nat} (hj : j < 32) : (idArr (pidX r j)).setIfInBounds j (.int .u8 ((sb r j : Nat) : Int)) = idArr (pidX r (j + 1)) := by
  rw [idArr_bytes, idArr_bytes, bytesF_set]
  refine bytesF_congr fun i hi => ?_
  unfold pidX
  rw [byteAt_idOf _ (pidX_lt r j) i hi, byteAt_idOf _ (pidX_lt r (j + 1)) i hi]
  by_cases h : i = j
  · subst h; simp
  · by_cases h2 : i < j
    · rw [if_neg h, if_pos h2, if_pos (by omega)]
    · rw [if_neg h, if_neg h2, if_neg (by omega)]
def hdO (s : ByteArray) : Bool := okK s && okI (kS s) (q0 s) && okT (kS s) (q1 s) && okS (kS s) (q2 s)
def hdM (s : ByteArray) : Mg := bif hdO s then p4 s else mZ
def hdR (s : ByteArray) : ByteArray := bif hdO s then q3 s else ⟨#[]⟩
def bdT (s : ByteArray) : Bool := !decide ((readM (q1 s)).1 = 0) || (hasT (kS s) && !decide ((readM (q1 s)).2.1.length = 1))
section
variable {s : ByteArray}
theorem isK_or (k : Int) : isK k = (hasI k || hasS k) := by
  unfold isK hasI hasS; rw [Bool.eq_iff_iff]; simp; omega
theorem hd_out {w : World} {base : Nat} {e : TypeId} (h : hdO s = false) : ∃ vs, Value.agg (t5 mZ (.slice none 0 0) ⟨#[]⟩ false) = .agg (t5 (hdM s) vs (hdR s) (hdO s)) ∧ Owns w base e 34 vs (hdM s).l.length (eCells (hdM s).l) := by
  unfold hdM hdR; rw [h]; exact ⟨_, rfl, owns_nil _ _ _ _⟩
theorem hd_in {w : World} {base : Nat} {e : TypeId} {v : Value} (h : hdO s = true) (hO : Owns w base e 34 v (vS (kS s) (q2 s)).length (eCells (vS (kS s) (q2 s)))) : ∃ vs, Value.agg (t5 (p4 s) v (q3 s) true) = .agg (t5 (hdM s) vs (hdR s) (hdO s)) ∧ Owns w base e 34 vs (hdM s).l.length (eCells (hdM s).l) := by
  unfold hdM hdR; rw [h]; exact ⟨_, rfl, hO⟩
theorem hdO_K (h : okK s = false) : hdO s = false := by unfold hdO; rw [h]; rfl
theorem hdO_I (hk : hasI (kS s) = true) (h : ¬ 32 ≤ (q0 s).size) : hdO s = false := by
  have : okI (kS s) (q0 s) = false := by unfold okI; rw [hk, decide_eq_false h]; rfl
  unfold hdO; rw [this]; simp
theorem hasTS {k : Int} (h : hasT k = true) : hasS k = false := by unfold hasT at h; unfold hasS; simp at h ⊢; omega
theorem hasSI {k : Int} (h : hasS k = true) : hasT k = false := by unfold hasS at h; unfold hasT; simp at h ⊢; omega
theorem hdO_T (h : (hasT (kS s) || hasS (kS s)) = true) (hb : bdT s = true) : hdO s = false := by
  unfold bdT at hb
  cases hT : hasT (kS s)
  · rw [hT, Bool.false_or] at h
    rw [hT, Bool.false_and, Bool.or_false] at hb
    have e : q1 s = q2 s := q2_f hT
    rw [e] at hb
    have : okS (kS s) (q2 s) = false := by unfold okS; rw [h]; simpa using hb
    unfold hdO; rw [this]; simp
  · have : okT (kS s) (q1 s) = false := by
      unfold okT; rw [hT]; rw [hT, Bool.true_and] at hb
      simp only [Bool.not_true, Bool.false_or]
      revert hb
      cases decide ((readM (q1 s)).1 = 0) <;> cases decide ((readM (q1 s)).2.1.length = 1) <;> simp
    unfold hdO; rw [this]; simp
theorem hdO_yes (h0 : okK s = true) (h1 : okI (kS s) (q0 s) = true) (h2 : okT (kS s) (q1 s) = true) (h3 : okS (kS s) (q2 s) = true) : hdO s = true := by unfold hdO; rw [h0, h1, h2, h3]; rfl
theorem bdT_ok (h : bdT s = false) : (readM (q1 s)).1 = 0 := by
  unfold bdT at h; simp only [Bool.or_eq_false_iff] at h; simpa using h.1
theorem bdT_one (h : bdT s = false) (hT : hasT (kS s) = true) : (readM (q1 s)).2.1.length = 1 := by
  unfold bdT at h; rw [hT] at h; simp only [Bool.or_eq_false_iff, Bool.true_and] at h; simpa using h.2
end
/-! ### the reference's Parse -/
def hN (r : ByteArray) : Nat → Nat
  | 0 => 0
  | d + 1 => 256 * hN r d + sb r (5 - d)
theorem hN_lt (r : ByteArray) : ∀ d, hN r d < 256 ^ d
  | 0 => by simp [hN]
  | d + 1 => by
    have ih := hN_lt r d
    have hb := sb_lt r (5 - d)
    rw [hN, Nat.pow_succ]; omega
theorem hN_6 (r : ByteArray) (h6 : sb r 6 = 0) (h7 : sb r 7 = 0) : hN r 6 = numS r := by
  unfold numS
  simp only [hN, numK, h6, h7, Nat.reducePow, Nat.reduceSub]
  omega
def nd (s : ByteArray) : Nat := (bif hasN (kS s) then 8 else 0) + (bif hasO (kS s) then 16 else 0)
def bdL (s : ByteArray) : Bool := decide ((q3 s).size < nd s) || (decide (nd s < (q3 s).size) && !hasD (kS s))
def bdZ (s : ByteArray) : Bool := decide (0 < sb (q3 s) 7) || decide (0 < sb (q3 s) 6)
def nR (s : ByteArray) : Int := bif hasN (kS s) then ((hN (q3 s) 6 : Nat) : Int) else 0
def oR (s : ByteArray) : ByteArray := bif hasO (kS s) then q4 s else ⟨#[]⟩
def dR (s : ByteArray) : ByteArray := bif hasO (kS s) then ⟨#[]⟩ else q4 s
def p5R (s : ByteArray) : Mg := { p4 s with n := nR s }
def mR (s : ByteArray) : Mg := { p5R s with o := oR s, d := dR s }
section
variable {s : ByteArray}
theorem hdO_parts (h : hdO s = true) : okK s = true ∧ okI (kS s) (q0 s) = true ∧ okT (kS s) (q1 s) = true ∧ okS (kS s) (q2 s) = true := by
  unfold hdO at h; simp only [Bool.and_eq_true] at h; exact ⟨h.1.1.1, h.1.1.2, h.1.2, h.2⟩
theorem okP_hd (h : okP s = true) : hdO s = true := by
  rw [okP_eq] at h; simp only [Bool.and_eq_true] at h
  exact hdO_yes h.1.1.1.1.1.1.1 h.1.1.1.1.1.1.2 h.1.1.1.1.1.2 h.1.1.1.1.2
theorem okP_parts (h : okP s = true) : okN (kS s) (q3 s) = true ∧ okO (kS s) (q4 s) = true ∧ okD (kS s) (q5 s) = true ∧ q6 s = ⟨#[]⟩ := by
  rw [okP_eq] at h; simp only [Bool.and_eq_true, decide_eq_true_eq] at h
  exact ⟨h.1.1.1.2, h.1.1.2, h.1.2, h.2⟩
theorem hasD_1 {k : Int} (h : hasD k = true) : k = 1 := by unfold hasD at h; simpa using h
theorem q3_N (h : hasN (kS s) = true) : (q4 s).size = (q3 s).size - 8 := by rw [← q4_t h, suf_size]
/-- a text that may be a message's: as many bytes as are needed -/
theorem okP_len (h : okP s = true) : bdL s = false := by
  obtain ⟨hN1, hO1, hD1, hE⟩ := okP_parts h
  unfold bdL nd
  cases hD : hasD (kS s)
  · have e6 : (q5 s).size = 0 := by rw [q6_f hD, hE]; rfl
    cases hO : hasO (kS s)
    · have e5 : (q4 s).size = 0 := by rw [q5_f hO]; exact e6
      cases hN : hasN (kS s)
      · have e4 : (q3 s).size = 0 := by rw [q4_f hN]; exact e5
        simp [e4]
      · have e4 := q3_N hN
        unfold okN at hN1; rw [hN] at hN1
        simp only [Bool.not_true, Bool.false_or, Bool.and_eq_true, decide_eq_true_eq] at hN1
        simp only [cond_true, cond_false, Bool.not_false, Bool.and_true, Bool.or_eq_false_iff, decide_eq_false_iff_not]; omega
    · unfold okO at hO1; rw [hO] at hO1
      have h16 : 16 ≤ (q4 s).size := by simpa using hO1
      have e5 : (q4 s).size = 16 := by have : (q5 s).size = (q4 s).size - 16 := by rw [← q5_t hO, suf_size]
                                       omega
      cases hN : hasN (kS s)
      · have e4 : (q3 s).size = 16 := by rw [q4_f hN]; exact e5
        simp [e4]
      · have e4 := q3_N hN
        unfold okN at hN1; rw [hN] at hN1
        simp only [Bool.not_true, Bool.false_or, Bool.and_eq_true, decide_eq_true_eq] at hN1
        simp only [cond_true, Bool.not_false, Bool.and_true, Bool.or_eq_false_iff, decide_eq_false_iff_not]; omega
  · have hk := hasD_1 hD
    have hN : hasN (kS s) = true := by rw [hk]; rfl
    have hO : hasO (kS s) = false := by rw [hk]; rfl
    unfold okN at hN1; rw [hN] at hN1
    simp only [Bool.not_true, Bool.false_or, Bool.and_eq_true, decide_eq_true_eq] at hN1
    rw [hN, hO]
    simp only [cond_true, cond_false, Bool.not_true, Bool.and_false, Bool.or_false, decide_eq_false_iff_not]; omega
theorem rp_L (h : bdL s = true) : okP s = false := by
  cases hp : okP s
  · rfl
  · rw [okP_len hp] at h; cases h
theorem rp_Z (hN : hasN (kS s) = true) (h : bdZ s = true) : okP s = false := by
  cases hp : okP s
  · rfl
  · have h1 := (okP_parts hp).1
    unfold okN at h1; rw [hN] at h1
    simp only [Bool.not_true, Bool.false_or, Bool.and_eq_true, decide_eq_true_eq] at h1
    have h2 := h1.2
    have hk : numS (q3 s) = sb (q3 s) 0 + sb (q3 s) 1 * 256 + sb (q3 s) 2 * 65536 + sb (q3 s) 3 * 16777216 + sb (q3 s) 4 * 4294967296 + sb (q3 s) 5 * 1099511627776 + sb (q3 s) 6 * 281474976710656 + sb (q3 s) 7 * 72057594037927936 := by
      unfold numS; simp only [numK, Nat.reducePow]; omega
    unfold bdZ at h
    simp only [Bool.or_eq_true, decide_eq_true_eq] at h
    exfalso
    omega
theorem len_of (h : bdL s = false) : nd s ≤ (q3 s).size ∧ (hasD (kS s) = false → (q3 s).size = nd s) := by
  unfold bdL at h
  simp only [Bool.or_eq_false_iff, decide_eq_false_iff_not] at h
  refine ⟨by omega, fun hD => ?_⟩
  have h2 := h.2
  rw [hD, Bool.not_false, Bool.and_true, decide_eq_false_iff_not] at h2
  omega
theorem nd_N (h : hasN (kS s) = true) : 8 ≤ nd s := by unfold nd; rw [h]; simp
theorem nd_O (h : hasO (kS s) = true) : nd s = (bif hasN (kS s) then 8 else 0) + 16 := by unfold nd; rw [h]; rfl
theorem nd_O' (h : hasO (kS s) = false) : nd s = (bif hasN (kS s) then 8 else 0) := by unfold nd; rw [h]; rfl
theorem q4_size (h : bdL s = false) : (q4 s).size = (q3 s).size - (bif hasN (kS s) then 8 else 0) := by
  cases hN : hasN (kS s)
  · rw [← q4_f hN]; rfl
  · rw [q3_N hN]; rfl
theorem rest_len (h : bdL s = false) (hD : hasD (kS s) = false) : (q4 s).size = bif hasO (kS s) then 16 else 0 := by
  have h1 := q4_size h
  have h2 := (len_of h).2 hD
  cases hO : hasO (kS s)
  · rw [nd_O' hO] at h2; rw [h1, h2]; simp
  · rw [nd_O hO] at h2; rw [h1, h2]; simp
theorem nat_int {a b : Nat} (h : a = b) : (a : Int) = (b : Int) := by rw [h]
theorem nR_vN (hZ : hasN (kS s) = true → bdZ s = false) : nR s = vN (kS s) (q3 s) := by
  unfold nR vN
  cases hN : hasN (kS s)
  · rw [cond_false, cond_false]
  · have := hZ hN
    unfold bdZ at this
    rw [Bool.or_eq_false_iff] at this
    have h7 := of_decide_eq_false this.1
    have h6 := of_decide_eq_false this.2
    rw [cond_true, cond_true]
    exact nat_int (hN_6 _ (by omega) (by omega))
theorem mR_mP (hL : bdL s = false) (hZ : hasN (kS s) = true → bdZ s = false) : mR s = mP s := by
  refine mg_ext rfl rfl rfl rfl (nR_vN hZ) ?_ ?_
  · show oR s = vO (kS s) (q4 s)
    unfold oR vO
    cases hO : hasO (kS s)
    · rfl
    · have hD : hasD (kS s) = false := by
        cases hD : hasD (kS s)
        · rfl
        · rw [hasD_1 hD] at hO; cases hO
      have h16 : (q4 s).size = 16 := by rw [rest_len hL hD, hO]; rfl
      show q4 s = (q4 s).extract 0 16
      rw [← h16, bz_all]
  · show dR s = vD (kS s) (q5 s)
    unfold dR vD
    cases hO : hasO (kS s)
    · cases hD : hasD (kS s)
      · have h0 : (q4 s).size = 0 := by rw [rest_len hL hD, hO]; rfl
        exact ba_nil_size.2 h0
      · exact q5_f hO
    · have hD : hasD (kS s) = false := by
        cases hD : hasD (kS s)
        · rfl
        · rw [hasD_1 hD] at hO; cases hO
      rw [hD]; rfl
theorem rp_right (hO : hdO s = true) (hL : bdL s = false) : rightM (mP s) = okP s := by
  cases hp : okP s
  · cases hr : rightM (mP s)
    · rfl
    · exfalso
      obtain ⟨h0, h1, h2, h3, h4, h5, h6⟩ := right_parts hr
      obtain ⟨k0, k1, k2, k3⟩ := hdO_parts hO
      have hl := len_of hL
      have kN : okN (kS s) (q3 s) = true := by
        cases hN : hasN (kS s)
        · exact good_N' hN
        · have hc := (c4_r (m := mP s) h4 hN).2
          have e : (mP s).n = ((numS (q3 s) : Nat) : Int) := by
            show vN (kS s) (q3 s) = _
            unfold vN; rw [hN]; rfl
          rw [e] at hc
          have := nd_N hN
          unfold okN; rw [hN, decide_eq_true (show 8 ≤ (q3 s).size by omega), decide_eq_true (show numS (q3 s) ≤ 1099511627776 by omega)]; rfl
      have kO : okO (kS s) (q4 s) = true := by
        cases hO9 : hasO (kS s)
        · exact good_O' hO9
        · have h1 := q4_size hL
          have h2 := nd_O hO9
          exact good_O hO9 (decide_eq_true (by omega))
      have kD : okD (kS s) (q5 s) = true := by
        cases hD : hasD (kS s)
        · exact good_D' hD
        · have h9 : c6 (mP s) = true := h6
          unfold c6 at h9
          rw [show (mP s).k = kS s from rfl, hD] at h9
          have h8 := of_decide_eq_true h9
          rw [show (mP s).d = vD (kS s) (q5 s) from rfl] at h8
          unfold vD at h8; rw [hD] at h8
          exact good_D hD (decide_eq_true h8)
      have kE : q6 s = ⟨#[]⟩ := by
        cases hD : hasD (kS s)
        · rw [← q6_f hD]
          have h9 := rest_len hL hD
          cases hO9 : hasO (kS s)
          · rw [← q5_f hO9]; rw [hO9] at h9; exact ba_nil_size.2 h9
          · rw [← q5_t hO9]; rw [hO9] at h9; exact ba_nil_size.2 (by rw [suf_size, h9]; rfl)
        · unfold q6 rD; rw [hD]; rfl
      have := good_P k0 k1 k2 k3 kN kO kD (decide_eq_true kE)
      rw [hp] at this; cases this
  · exact (text_parse hp).1
end
section
variable {s : ByteArray}
theorem okK_eq (s : ByteArray) : okK s = (!decide (((s.size : Nat) : Int) = 0) && (hasI (kS s) || hasS (kS s))) := by
  unfold okK; rw [isK_or]
  congr 1
  by_cases h : s.size = 0
  · rw [decide_eq_false (show ¬ 1 ≤ s.size by omega), decide_eq_true (show ((s.size : Nat) : Int) = 0 by omega)]; rfl
  · rw [decide_eq_true (show 1 ≤ s.size by omega), decide_eq_false (show ¬ ((s.size : Nat) : Int) = 0 by omega)]; rfl
theorem okK_1 (h : okK s = true) : 1 ≤ s.size := by unfold okK at h; simp only [Bool.and_eq_true, decide_eq_true_eq] at h; exact h.1
theorem hdI_t (v : Value) (h : hasI (kS s) = true) : t5 { p1 s with i := pidX (q0 s) 32 } v (sufS (q0 s) 32) true = t5 (p2 s) v (q1 s) true := by rw [pidX_end, p2_t h, q1_t h]
theorem hdI_f (v : Value) (h : hasI (kS s) = false) : t5 (p1 s) v (q0 s) true = t5 (p2 s) v (q1 s) true := by rw [p2_f h, q1_f h]
theorem hdT_t (v : Value) (h : hasT (kS s) = true) : t5 { p2 s with t := tgV (q1 s) } v (q1 s) true = t5 (p4 s) v (q1 s) true := by rw [p3_t h, p4_f (hasTS h)]
theorem vS_q1 (hT : hasT (kS s) = false) (hS : hasS (kS s) = true) : (readM (q1 s)).2.1 = vS (kS s) (q2 s) := by rw [← vS_t hS, q2_f hT]
theorem vS_T (h : hasT (kS s) = true) : [] = vS (kS s) (q2 s) := vS_f (hasTS h)
theorem hdS_t (v : Value) (hT : hasT (kS s) = false) (hS : hasS (kS s) = true) : t5 { p2 s with l := (readM (q1 s)).2.1 } v (q1 s) true = t5 (p4 s) v (q1 s) true := by
  have : { p2 s with l := (readM (q1 s)).2.1 } = p4 s := by
    unfold p4; rw [← p3_f hT, vS_q1 hT hS]
  rw [this]
theorem hdR_t (h : (hasT (kS s) || hasS (kS s)) = true) : sufS (q1 s) (readM (q1 s)).2.2 = q3 s := by
  cases hT : hasT (kS s)
  · rw [hT, Bool.false_or] at h
    rw [← q3_t h, q2_f hT]
  · rw [q2_t hT, q3_f (hasTS hT)]
theorem hd_no (h : (hasT (kS s) || hasS (kS s)) = false) : hasT (kS s) = false ∧ hasS (kS s) = false := by simpa using h
theorem hd4_none (v : Value) (h : (hasT (kS s) || hasS (kS s)) = false) : t5 (p2 s) v (q1 s) true = t5 (p4 s) v (q3 s) true := by
  obtain ⟨h1, h2⟩ := hd_no h
  rw [p3_f h1, p4_f h2, q2_f h1, q3_f h2]
theorem hdT_ok (hb : bdT s = false) : okT (kS s) (q1 s) = true := by
  cases hT : hasT (kS s)
  · exact good_T' hT
  · refine good_T hT ?_
    unfold okTg; rw [decide_eq_true (bdT_ok hb), decide_eq_true (bdT_one hb hT)]; rfl
theorem hdS_ok (hb : bdT s = false) : okS (kS s) (q2 s) = true := by
  cases hS : hasS (kS s)
  · exact good_S' hS
  · refine good_S hS (decide_eq_true ?_)
    rw [← q2_f (hasSI hS)]; exact bdT_ok hb
theorem bdT_le (hb : bdT s = false) : (readM (q1 s)).2.2 ≤ (q1 s).size := (text_read _ (bdT_ok hb)).2.1
end
section
variable {s : ByteArray}
theorem rp_O (h : hdO s = false) : okP s = false := by
  cases hp : okP s
  · rfl
  · rw [okP_hd hp] at h; cases h
theorem hd_t (h : hdO s = true) (v : Value) : t5 (hdM s) v (hdR s) (hdO s) = t5 (p4 s) v (q3 s) true := by unfold hdM hdR; rw [h]; rfl
theorem hd_f (h : hdO s = false) (v : Value) : t5 (hdM s) v (hdR s) (hdO s) = t5 mZ v ⟨#[]⟩ false := by unfold hdM hdR; rw [h]; rfl
theorem hdM_t (h : hdO s = true) : hdM s = p4 s := by unfold hdM; rw [h]; rfl
theorem p5R_t (h : hasN (kS s) = true) : { p4 s with n := ((hN (q3 s) 6 : Nat) : Int) } = p5R s := by unfold p5R nR; rw [h, cond_true]
theorem p5R_f (h : hasN (kS s) = false) : p4 s = p5R s := by unfold p5R nR; rw [h, cond_false]; rfl
theorem mR_t (h : hasO (kS s) = true) : { p5R s with o := q4 s } = mR s := by unfold mR oR dR; rw [h]; rfl
theorem mR_f (h : hasO (kS s) = false) : { p5R s with d := q4 s } = mR s := by unfold mR oR dR; rw [h]; rfl
theorem rp_no (hO : hdO s = true) (hL : bdL s = false) (hZ : hasN (kS s) = true → bdZ s = false) (h : rightM (mR s) = false) : okP s = false := by rw [← rp_right hO hL, ← mR_mP hL hZ]; exact h
theorem rp_yes (hO : hdO s = true) (hL : bdL s = false) (hZ : hasN (kS s) = true → bdZ s = false) (h : rightM (mR s) = true) : okP s = true := by rw [← rp_right hO hL, ← mR_mP hL hZ]; exact h
theorem rpar_bad {w : World} {base : Nat} {e : TypeId} (h : okP s = false) : ∃ vs, Value.tuple #[.agg (mArr mZ (.slice none 0 0)), .bool false] = .tuple #[.agg (mArr (parM s) vs), .bool (okP s)] ∧ Owns w base e 34 vs (parM s).l.length (eCells (parM s).l) := by
  rw [parM_f h, h]; exact ⟨_, rfl, owns_nil _ _ _ _⟩
theorem rpar_good {w : World} {base : Nat} {e : TypeId} {v : Value} (h : okP s = true) (he : mR s = mP s) (hO : Owns w base e 34 v (p4 s).l.length (eCells (p4 s).l)) : ∃ vs, Value.tuple #[.agg (mArr (mR s) v), .bool true] = .tuple #[.agg (mArr (parM s) vs), .bool (okP s)] ∧ Owns w base e 34 vs (parM s).l.length (eCells (parM s).l) := by
  rw [parM_t h, h, he]; exact ⟨_, rfl, hO⟩
theorem vS_len (s : ByteArray) : (p4 s).l.length ≤ 4 := by
  show (vS (kS s) (q2 s)).length ≤ 4
  unfold vS
  cases hasS (kS s)
  · exact Nat.zero_le _
  · exact readM_len _
theorem hN_lt5 (r : ByteArray) (d : Nat) (h : d ≤ 5) : hN r d < 1099511627776 := Nat.lt_of_lt_of_le (hN_lt r d) (Nat.pow_le_pow_right (by omega) h)
theorem hN_step (r : ByteArray) (d : Nat) : 256 * ((hN r d : Nat) : Int) + ((sb r (5 - d) : Nat) : Int) = ((hN r (d + 1) : Nat) : Int) := by
  have : hN r (d + 1) = 256 * hN r d + sb r (5 - d) := rfl
  rw [this]; omega
theorem n8_in (hN9 : hasN (kS s) = true) (hL : bdL s = false) : 8 ≤ (q3 s).size := Nat.le_trans (nd_N hN9) (len_of hL).1
end
/-! ### the laws -/
def alM : Mg := { mZ with k := 7, i := setB 0#256 31 9 }
theorem al_r : rightM alM = true := by decide +kernel
theorem al_w : mtW alM = bstr (7 :: idL (setB 0#256 31 9)) := by decide +kernel
theorem al_size : (mtW alM).size = 33 := by rw [al_w, bstr_size, List.length_cons, idL_length]
theorem al_0 : sb (mtW alM) 0 = 7 := by decide +kernel
theorem al_32 : sb (mtW alM) 32 = 9 := by decide +kernel
theorem al_e : mtR alM = 0 := by unfold mtR; rw [al_r]; rfl
theorem mtW_t {m : Mg} (h : rightM m = true) : mtW m = textM m := by unfold mtW; rw [h]; rfl
theorem mtW_f {m : Mg} (h : rightM m = false) : mtW m = ⟨#[]⟩ := by unfold mtW; rw [h]; rfl
theorem mtR_t {m : Mg} (h : rightM m = true) : mtR m = 0 := by unfold mtR; rw [h]; rfl
theorem mtR_f {m : Mg} (h : rightM m = false) : mtR m = 1 := by unfold mtR; rw [h]; rfl
theorem mEqB_refl (m : Mg) : mEqB m m = true := (mEqB_iff m m).2 rfl
theorem par_textM {m : Mg} (h : rightM m = true) : parM (textM m) = m := by rw [parM_t (parse_text h).1, (parse_text h).2]
theorem par_textE {m : Mg} (h : rightM m = true) : parE (textM m) = 0 := parE_t (parse_text h).1
theorem text_like {m n : Mg} (hm : rightM m = true) (hn : rightM n = true) : (decide (mtW m = mtW n) != mEqB m n) = false := by
  have : decide (mtW m = mtW n) = mEqB m n := by
    rw [Bool.eq_iff_iff, decide_eq_true_eq, mEqB_iff]
    refine ⟨fun h => ?_, fun h => by rw [h]⟩
    rw [mtW_t hm, mtW_t hn] at h
    rw [← par_textM hm, h, par_textM hn]
  rw [this]; exact bne_self_f _
theorem par_right {s : ByteArray} (h : okP s = true) : rightM (parM s) = true := by rw [parM_t h]; exact (text_parse h).1
theorem par_text {s : ByteArray} (h : okP s = true) : mtW (parM s) = s := by rw [mtW_t (par_right h), parM_t h]; exact (text_parse h).2
theorem mp_len (s : ByteArray) : (parM s).l.length ≤ 4 := by
  unfold parM
  cases okP s
  · exact Nat.zero_le _
  · exact vS_len s
theorem text_size {m : Mg} (h : rightM m = true) : (textM m).size ≤ 300 := by
  obtain ⟨h4, _, _, _, ho, hd⟩ := head_len h
  unfold textM; rw [ByteArray.size_append, ByteArray.size_append, bstr_size]
  have : (headL m).length ≤ 208 := h4
  omega
theorem mtW_size (m : Mg) : (mtW m).size ≤ 300 := by
  cases h : rightM m
  · rw [mtW_f h]; decide
  · rw [mtW_t h]; exact text_size h
/-! ### sizes -/
def eSz (e : Ent) : Nat := if e.1 = 1 then 33 else 2
def ents (m : Mg) : List Ent := m.l ++ bif decide (m.t.1 ≠ 0) then [m.t] else []
def szA (m : Mg) : Nat := 1 + m.o.size + m.d.size
def szB (m : Mg) : Nat := szA m + bif decide (m.k ≠ 1) then 32 else 0
def szK (m : Mg) (k : Nat) : Nat := szB m + (((ents m).take k).map eSz).sum
def szD (m : Mg) : Nat := szK m (ents m).length + bif decide (0 < (ents m).length) then 1 else 0
def szE (m : Mg) : Nat := szD m + bif hasN m.k then 8 else 0
theorem szK_succ (m : Mg) (k : Nat) (hk : k < (ents m).length) : szK m (k + 1) = szK m k + eSz ((ents m)[k]) := by
  unfold szK
  rw [List.take_add_one, List.getElem?_eq_getElem hk, List.map_append, List.sum_append]
  simp; omega
theorem szK_1 (m : Mg) (k : Nat) (hk : k < (ents m).length) (h : (ents m)[k].1 = 1) : ((szK m k : Nat) : Int) + 2 + 31 = ((szK m (k + 1) : Nat) : Int) := by
  rw [szK_succ m k hk, eSz, if_pos h]; omega
theorem szK_2 (m : Mg) (k : Nat) (hk : k < (ents m).length) (h : ¬ (ents m)[k].1 = 1) : ((szK m k : Nat) : Int) + 2 = ((szK m (k + 1) : Nat) : Int) := by
  rw [szK_succ m k hk, eSz, if_neg h]; omega
theorem ents_len {m : Mg} (h : m.l.length ≤ 6) : (ents m).length ≤ 7 := by
  unfold ents; cases decide (m.t.1 ≠ 0) <;> simp <;> omega
theorem szK_le {m : Mg} (k : Nat) : szK m k ≤ szB m + 33 * k := by
  unfold szK
  have : ∀ l : List Ent, (l.map eSz).sum ≤ 33 * l.length := fun l => by
    induction l with
    | nil => simp
    | cons e l ih =>
      have : eSz e ≤ 33 := by unfold eSz; split <;> omega
      simp only [List.map_cons, List.sum_cons, List.length_cons]; omega
  have h1 := this ((ents m).take k)
  have h2 : ((ents m).take k).length ≤ k := by rw [List.length_take]; omega
  omega
theorem szB_le {m : Mg} (ho : m.o.size ≤ 20) (hd : m.d.size ≤ 70) : szB m ≤ 123 := by
  unfold szB szA; cases decide (m.k ≠ 1) <;> simp <;> omega
theorem entL_eSz {e : Ent} (h : isE e = true) : (entL e).length = eSz e := by
  unfold entL eSz
  split
  · simp [idL_length]
  · rfl
theorem flat_eSz : ∀ (l : List Ent), (∀ e ∈ l, isE e = true) → (l.flatMap entL).length = (l.map eSz).sum
  | [], _ => rfl
  | e :: l, h => by
    rw [List.flatMap_cons, List.length_append, flat_eSz l (fun x hx => h x (List.mem_cons_of_mem _ hx)), entL_eSz (h e List.mem_cons_self)]; rfl
theorem size_E {m : Mg} (h : rightM m = true) : (textM m).size = szE m := by
  obtain ⟨h0, h1, h2, h3, h4, h5, h6⟩ := right_parts h
  have hk := (isK_iff _).1 h0
  have hI : hasI m.k = decide (m.k ≠ 1) := by unfold hasI; rw [Bool.eq_iff_iff]; simp; omega
  have e1 : (segI m.k m.i).length = bif decide (m.k ≠ 1) then 32 else 0 := by
    unfold segI; rw [hI]; cases decide (m.k ≠ 1) <;> simp [idL_length]
  have e4 : (segN m.k m.n).length = bif hasN m.k then 8 else 0 := by
    unfold segN; cases hasN m.k <;> simp [numL_length]
  have e23 : (segT m.k m.t).length + (segS m.k m.l).length = ((ents m).map eSz).sum + bif decide (0 < (ents m).length) then 1 else 0 := by
    unfold segT segS ents
    cases hT : hasT m.k
    · have ht : m.t = (0, 0#256, 0) := by unfold c2 at h2; rw [hT] at h2; exact of_decide_eq_true h2
      have hn : decide (m.t.1 ≠ 0) = false := by rw [ht]; rfl
      rw [hn]
      cases hS : hasS m.k
      · have hl : m.l.length = 0 := by unfold c3 at h3; rw [hS] at h3; exact of_decide_eq_true h3
        rw [List.length_eq_zero_iff.1 hl]; rfl
      · have hr := c3_r h3 hS
        obtain ⟨r1, r2, r3⟩ := (rightE_iff _).1 hr
        simp only [cond_false, cond_true, List.append_nil, List.length_nil, Nat.zero_add]
        rw [decide_eq_true r1]
        simp only [textL, List.length_cons, cond_true, flat_eSz _ r3]
    · have hE := c2_e h2 hT
      have hS := hasTS hT
      have hl : m.l.length = 0 := by unfold c3 at h3; rw [hS] at h3; exact of_decide_eq_true h3
      have hn : decide (m.t.1 ≠ 0) = true := by
        rcases isE_kind hE with h9 | h9 <;> rw [h9] <;> rfl
      rw [hn, hS, List.length_eq_zero_iff.1 hl]
      simp [entL_eSz hE]
  unfold textM szE szD szK szB szA
  rw [ByteArray.size_append, ByteArray.size_append, bstr_size, headL, List.length_append, List.length_append, List.length_append, List.length_append, List.length_singleton, List.take_length]
  rw [e1, e4]
  omega
theorem more_right {m : Mg} (h : rightM m = true) (x : ByteArray) (hx : x.size = 1) : rightM { m with d := m.d ++ x } = (decide (m.k = 1) && decide (m.d.size < 64)) := by
  obtain ⟨h0, h1, h2, h3, h4, h5, h6⟩ := right_parts h
  have e : rightM { m with d := m.d ++ x } = c6 { m with d := m.d ++ x } := by
    unfold rightM
    have a0 : isK m.k = true := h0
    have a1 : c1 { m with d := m.d ++ x } = true := h1
    have a2 : c2 { m with d := m.d ++ x } = true := h2
    have a3 : c3 { m with d := m.d ++ x } = true := h3
    have a4 : c4 { m with d := m.d ++ x } = true := h4
    have a5 : c5 { m with d := m.d ++ x } = true := h5
    rw [a1, a2, a3, a4, a5]
    show (isK m.k && _ && _ && _ && _ && _ && _) = _
    rw [a0]; rfl
  rw [e]
  unfold c6
  show (bif hasD m.k then decide ((m.d ++ x).size ≤ 64) else decide (m.d ++ x = ⟨#[]⟩)) = _
  have hs : (m.d ++ x).size = m.d.size + 1 := by rw [ByteArray.size_append, hx]
  cases hD : hasD m.k
  · have hk : ¬ m.k = 1 := by unfold hasD at hD; exact of_decide_eq_false hD
    have hne : ¬ m.d ++ x = ⟨#[]⟩ := fun h9 => by have := ba_nil_size.1 h9; omega
    rw [cond_false, decide_eq_false hne, decide_eq_false hk]; rfl
  · rw [cond_true, hs, decide_eq_true (hasD_1 hD), Bool.true_and, decide_eq_decide]; omega
theorem more_text (m : Mg) (x : ByteArray) : textM { m with d := m.d ++ x } = textM m ++ x := by
  show bstr (headL m) ++ m.o ++ (m.d ++ x) = bstr (headL m) ++ m.o ++ m.d ++ x
  rw [ByteArray.append_assoc, ByteArray.append_assoc, ByteArray.append_assoc]
theorem mArr_tk (m : Mg) (v : Value) : (mArr m v)[33]? = some (.int .i64 m.t.1) := by
  have h := congrArg (fun D : Array Value => D[0]?) (mArr_t m v)
  simp only [eArr_kind] at h
  rw [← h, Array.getElem?_extract, if_pos (by rw [mArr_size]; omega)]
theorem hasN_or {k : Int} (h : k ≤ 10) : hasN k = (decide (k = 1) || decide (k = 2) || decide (k = 4) || decide (8 ≤ k)) := by
  unfold hasN; rw [decide_eq_true h, Bool.and_true]
theorem ents_t {m : Mg} (h : m.t.1 ≠ 0) : eCells m.l ++ [Value.agg (eArr m.t)].flatMap (fun v => v.cells.toList) = eCells (ents m) ∧ m.l.length + 1 = (ents m).length := by
  unfold ents; rw [decide_eq_true h, cond_true, eCells_app, eCells_one]
  exact ⟨by simp [Value.cells], by simp⟩
theorem ents_f {m : Mg} (h : ¬ m.t.1 ≠ 0) : m.l = ents m := by unfold ents; rw [decide_eq_false h]; simp
end Go.Proofs.Ytaehgcdcfbhohaa

namespace Go.Proofs.Ytaehgcdcfbhohaa
open Go.RowKit Go.ChangeShapes Go.WideShapes Go.ChangeAt
/-! ### messages that come in -/
theorem open_entsL {H : Type} {enc : TypeId × Value → H} {P : Program} {W : World} {ts t tn ti e : TypeId} {f0 f1 f2 : Field} {fuel : Nat} {cs : List Value} {x : DataW H × List MemPlace} (T : IdTy P ti e) (hc : P.cellsOf ti = 32) (hce : P.cellsOf e = 1) (hn : P.underlying tn = some (.int .i64)) (hcn : P.cellsOf tn = 1)
    (hts : P.underlying ts = some (.slice t)) (ht : P.underlying t = some (.struct #[f0, f1, f2])) (h0 : f0.type = tn) (h1 : f1.type = ti) (h2 : f2.type = tn) (o0 : f0.offset = 0) (o1 : f1.offset = 1) (o2 : f2.offset = 33) (hct : P.cellsOf t = 34)
    (hf : DataW.trod enc P W 0 (fun _ => true) true fuel ts cs = some x) : ∃ (v : Value) (ls : List Ent), cs = [v] ∧ RdZ W v 34 ls.length (eCells ls) := by
  rcases Go.Deep.open_slice hts hf with ⟨hcs, _⟩ | ⟨a', len, cap, m, k, D, Pl, hcs, _, hl, _, hm, _, hel⟩
  · exact ⟨_, [], hcs, rfl, .inl ⟨rfl, rfl⟩⟩
  · have hml : len ≤ m := by rw [hm]; split <;> omega
    have each : ∀ i, ∃ l : Ent, i < len → Has W (a'.add (i * 34)) (eArr l) := fun i => by
      by_cases hi : i < len
      · obtain ⟨cs', hc1, hc2⟩ := hel i (by omega)
        obtain ⟨l, rfl⟩ := open_entL T hc hce hn hcn ht h0 h1 h2 o0 o1 o2 hct hc2
        refine ⟨l, fun _ j u hj => ?_⟩
        rw [hct] at hc1
        obtain ⟨_, hlen, hall⟩ := World.cells?_some hc1
        have hj34 : j < 34 := by have := (Array.getElem?_eq_some_iff.1 hj).1; rw [eArr_size] at this; exact this
        have := hall j hj34
        rw [this, Array.getElem?_toList]; exact hj
      · exact ⟨(0, 0#256, 0), fun h9 => absurd h9 hi⟩
    obtain ⟨L, hL⟩ := Classical.axiomOfChoice each
    refine ⟨_, (List.range len).map L, hcs, ?_, .inr ⟨a', cap, by simp, by simpa using hl, ?_⟩⟩
    · rw [eCells_len]
    · refine has_flat _ 34 (by decide) (fun x => by rw [Array.length_toList, eArr_size]) _ fun i hi => ?_
      have hi' : i < len := by simpa using hi
      have := hL i hi'
      simpa using this
theorem open_msg {H : Type} {enc : TypeId × Value → H} {P : Program} {W : World} {r : Reach} {b0 : Nat} {tm tz ts t tn ti e : TypeId} {g0 g1 g2 g3 g4 g5 g6 f0 f1 f2 : Field} {v : Value} {d : DataW H} {ps : List MemPlace} (T : IdTy P ti e) (hc : P.cellsOf ti = 32) (hce : P.cellsOf e = 1) (hn : P.underlying tn = some (.int .i64)) (hcn : P.cellsOf tn = 1)
    (hz : P.underlying tz = some .string) (hcz : P.cellsOf tz = 1) (hcs : P.cellsOf ts = 1)
    (hts : P.underlying ts = some (.slice t)) (ht : P.underlying t = some (.struct #[f0, f1, f2])) (h0 : f0.type = tn) (h1 : f1.type = ti) (h2 : f2.type = tn) (o0 : f0.offset = 0) (o1 : f1.offset = 1) (o2 : f2.offset = 33) (hct : P.cellsOf t = 34)
    (htm : P.underlying tm = some (.struct #[g0, g1, g2, g3, g4, g5, g6])) (ht0 : g0.type = tn) (ht1 : g1.type = ti) (ht2 : g2.type = t) (ht3 : g3.type = ts) (ht4 : g4.type = tn) (ht5 : g5.type = tz) (ht6 : g6.type = tz)
    (ho0 : g0.offset = 0) (ho1 : g1.offset = 1) (ho2 : g2.offset = 33) (ho3 : g3.offset = 67) (ho4 : g4.offset = 68) (ho5 : g5.offset = 69) (ho6 : g6.offset = 70) (hctm : P.cellsOf tm = 71)
    (hval : Value.okWide P W r b0 tm v) (h : DataW.Trod enc P W 0 (fun _ => true) true tm v d ps) : ∃ (m : Mg) (u : Value), v = .agg (mArr m u) ∧ RdZ W u 34 m.l.length (eCells m.l) := by
  have hv : ∃ cs, v = .agg cs := by
    unfold Value.okWide at hval
    simp only [htm] at hval
    obtain ⟨cs, h9, _⟩ := hval
    exact ⟨cs, h9⟩
  obtain ⟨cs, rfl⟩ := hv
  obtain ⟨fuel, hf⟩ := h
  obtain ⟨xs, n, hcells, _, hl, hxl, hel⟩ := DataW.trod_struct htm hf
  have hcl : cs.toList.length = 71 := by rw [← hctm]; simpa [Value.cells] using hl
  have hx7 : xs.length = 7 := by simpa using hxl
  have e0 := hel 0 g0 rfl
  have e1 := hel 1 g1 rfl
  have e2 := hel 2 g2 rfl
  have e3 := hel 3 g3 rfl
  have e4 := hel 4 g4 rfl
  have e5 := hel 5 g5 rfl
  have e6 := hel 6 g6 rfl
  rw [ht0, ho0, hcn, List.getElem?_eq_getElem (by omega)] at e0
  rw [ht1, ho1, hc, List.getElem?_eq_getElem (by omega)] at e1
  rw [ht2, ho2, hct, List.getElem?_eq_getElem (by omega)] at e2
  rw [ht3, ho3, hcs, List.getElem?_eq_getElem (by omega)] at e3
  rw [ht4, ho4, hcn, List.getElem?_eq_getElem (by omega)] at e4
  rw [ht5, ho5, hcz, List.getElem?_eq_getElem (by omega)] at e5
  rw [ht6, ho6, hcz, List.getElem?_eq_getElem (by omega)] at e6
  obtain ⟨k, hk, _⟩ := DataW.trod_int hn e0
  obtain ⟨i, hi⟩ := open_idL T hc hce e1
  obtain ⟨t9, h9t⟩ := open_entL T hc hce hn hcn ht h0 h1 h2 o0 o1 o2 hct e2
  obtain ⟨u, ls, hu, hls⟩ := open_entsL T hc hce hn hcn hts ht h0 h1 h2 o0 o1 o2 hct e3
  obtain ⟨n9, hn9, _⟩ := DataW.trod_int hn e4
  obtain ⟨o9, ho9, _⟩ := DataW.trod_string hz e5
  obtain ⟨d9, hd9, _⟩ := DataW.trod_string hz e6
  refine ⟨⟨k, i, t9, ls, n9, o9, d9⟩, u, ?_, hls⟩
  have key : cs.toList = (mArr ⟨k, i, t9, ls, n9, o9, d9⟩ u).toList := by
    rw [mArr_list, ← hi, ← h9t]
    simp only [Value.cells] at hk hi h9t hu hn9 ho9 hd9 ⊢
    have hd6 : cs.toList.drop 70 = [.string d9] := by
      rw [List.take_of_length_le (by rw [List.length_drop, hcl]; omega)] at hd9; exact hd9
    have hsplit : cs.toList = cs.toList.take 1 ++ ((cs.toList.drop 1).take 32 ++ ((cs.toList.drop 33).take 34 ++ ((cs.toList.drop 67).take 1 ++ ((cs.toList.drop 68).take 1 ++ ((cs.toList.drop 69).take 1 ++ cs.toList.drop 70))))) := by
      rw [show cs.toList.drop 70 = (cs.toList.drop 69).drop 1 from by rw [List.drop_drop], List.take_append_drop, show cs.toList.drop 69 = (cs.toList.drop 68).drop 1 from by rw [List.drop_drop], List.take_append_drop, show cs.toList.drop 68 = (cs.toList.drop 67).drop 1 from by rw [List.drop_drop], List.take_append_drop,
        show cs.toList.drop 67 = (cs.toList.drop 33).drop 34 from by rw [List.drop_drop], List.take_append_drop, show cs.toList.drop 33 = (cs.toList.drop 1).drop 32 from by rw [List.drop_drop], List.take_append_drop, List.take_append_drop]
    rw [hd6, hu, hn9, ho9, show cs.toList.take 1 = [.int .i64 k] from hk] at hsplit
    exact hsplit
  rw [Array.toList_inj.1 key]
end Go.Proofs.Ytaehgcdcfbhohaa
