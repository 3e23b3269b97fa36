/- Triggers and tables: which may be, which is below which, what is put, dropped, over, matched and cut; what may be stays such, parts put together, and in whatever order; triggers that come in; no Go in it. -/
import Derived.Test.YtobfeflheaobiaaDoorLk
set_option linter.unusedVariables false
set_option linter.unusedSimpArgs false
set_option linter.unusedSectionVars false
namespace Go.Proofs.YtobfeflheaobiaaDoor
open Go.RowKit
/-! ### triggers: an identifier, an entry, a time -/
abbrev Tg := Id × Ent × Int
def tgL (t : Tg) : List Value := (idArr t.1).toList ++ ((eArr t.2.1).toList ++ [.int .i64 t.2.2])
def tgArr (t : Tg) : Array Value := (tgL t).toArray
def zTg : Tg := (0#256, (0, 0#256, 0), 0)
theorem tgL_len (t : Tg) : (tgL t).length = 67 := by simp [tgL, eArr_size]
theorem tgArr_size (t : Tg) : (tgArr t).size = 67 := by simp [tgArr, tgL_len]
theorem tgL_ones (t : Tg) : ∀ v ∈ tgL t, v.oneCell' = true := fun v hv => by
  unfold tgL at hv
  rcases List.mem_append.1 hv with hv | hv
  · rw [idArr_bytes] at hv; exact bytesF_ones _ _ v hv
  · rcases List.mem_append.1 hv with hv | hv
    · exact eArr_ones _ v hv
    · rw [List.mem_singleton] at hv; subst hv; rfl
theorem tgArr_ones (t : Tg) : ∀ v ∈ (tgArr t).toList, v.oneCell' = true := tgL_ones t
theorem idA_len (x : Id) : (idArr x).toList.length = 32 := by simp
theorem eA_len (e : Ent) : (eArr e).toList.length = 34 := by rw [Array.length_toList, eArr_size]
theorem tg_f0 (t : Tg) : ((tgArr t).toList.drop 0).take 32 = (idArr t.1).toList := by
  show ((tgL t).drop 0).take 32 = _
  unfold tgL
  rw [List.drop_zero, List.take_left' (idA_len _)]
theorem tg_f1 (t : Tg) : ((tgArr t).toList.drop 32).take 34 = (eArr t.2.1).toList := by
  show ((tgL t).drop 32).take 34 = _
  unfold tgL
  rw [List.drop_left' (idA_len _), List.take_left' (eA_len _)]
theorem tg_f2 (t : Tg) : ((tgArr t).toList.drop 66).take 1 = [Value.int .i64 t.2.2] := by
  show ((tgL t).drop 66).take 1 = _
  unfold tgL
  rw [← List.append_assoc, List.drop_left' (by rw [List.length_append, idA_len, eA_len])]; rfl
theorem ext_lt9 (L : List Value) (C : Array Value) (a n : Nat) (h : (L.drop a).take n = C.toList) : L.toArray.extract a (a + n) = C := by
  apply Array.ext'
  rw [Array.toList_extract, List.extract_eq_take_drop, Nat.add_sub_cancel_left]
  exact h
theorem tgArr_id (t : Tg) : (tgArr t).extract 0 (0 + 32) = idArr t.1 := ext_lt9 _ _ _ _ (tg_f0 t)
theorem tgArr_tg (t : Tg) : (tgArr t).extract 32 (32 + 34) = eArr t.2.1 := ext_lt9 _ _ _ _ (tg_f1 t)
theorem tgArr_tid (t : Tg) : (tgArr t).extract 33 (33 + 32) = idArr t.2.1.2.1 := ext_lt9 _ _ _ _ (by
  show ((tgL t).drop 33).take 32 = _
  unfold tgL
  rw [show 33 = 32 + 1 from rfl, ← List.drop_drop, List.drop_left' (idA_len _), eArr_list, List.cons_append, List.drop_succ_cons, List.drop_zero, List.append_assoc, List.take_left' (idA_len _)])
theorem tgArr_kind (t : Tg) : (tgArr t)[32]? = some (.int .i64 t.2.1.1) := by
  unfold tgArr tgL
  rw [List.getElem?_toArray, List.getElem?_append_right (by rw [idA_len]; exact Nat.le_refl _), idA_len, eArr_list]; rfl
theorem tgArr_host (t : Tg) : (tgArr t)[65]? = some (.int .i64 t.2.1.2.2) := by
  unfold tgArr tgL
  rw [List.getElem?_toArray, List.getElem?_append_right (by rw [idA_len]; omega), idA_len, List.getElem?_append_left (by rw [eA_len]; omega)]
  have := eArr_host t.2.1
  rw [← Array.getElem?_toList] at this
  exact this
theorem tgArr_until (t : Tg) : (tgArr t)[66]? = some (.int .i64 t.2.2) := by
  unfold tgArr tgL
  rw [List.getElem?_toArray, ← List.append_assoc, List.getElem?_append_right (by rw [List.length_append, idA_len, eA_len]; exact Nat.le_refl _), List.length_append, idA_len, eA_len]; rfl
theorem tgArr_inj {x y : Tg} (h : (tgArr x).toList = (tgArr y).toList) : x = y := by
  have h0 := tg_f0 x; rw [h, tg_f0] at h0
  have h1 := tg_f1 x; rw [h, tg_f1] at h1
  have h2 := tg_f2 x; rw [h, tg_f2] at h2
  refine Prod.ext (idArr_inj (Array.toList_inj.1 h0)).symm (Prod.ext (eArr_inj h1).symm ?_)
  simpa using h2.symm
theorem tgEq (x y : Tg) : decide (x = y) = true ↔ (tgArr x).toList = (tgArr y).toList := by
  rw [decide_eq_true_eq]; exact ⟨fun h => by rw [h], tgArr_inj⟩
def tgZ : List (List Value) := [List.replicate 32 (.int .u8 0), .int .i64 0 :: (List.replicate 32 (.int .u8 0) ++ [.int .i64 0]), [.int .i64 0]]
theorem tg_zero : tgArr zTg = tgZ.flatten.toArray := by
  unfold tgArr tgL zTg; rw [eArr_zero, idArr_zero]; rfl
def tgCells (l : List Tg) : List Value := l.flatMap tgL
theorem tgCells_len (l : List Tg) : (tgCells l).length = l.length * 67 := cells_len _ 67 tgL_len l
theorem tgCells_app (l r : List Tg) : tgCells (l ++ r) = tgCells l ++ tgCells r := List.flatMap_append
theorem tgCells_one (t : Tg) : tgCells [t] = (tgArr t).toList := by simp [tgCells, tgArr]
theorem tgCells_ones (l : List Tg) : ∀ u ∈ tgCells l, u.oneCell' = true := fun u hu => by
  obtain ⟨x, _, hx⟩ := List.mem_flatMap.1 hu
  exact tgL_ones x u hx
theorem tg_sz (m : Tg) : ∀ v ∈ ([.agg (tgArr m)] : List Value), v.cells.size = 67 := fun v hv => by
  rw [List.mem_singleton] at hv; subst hv; exact tgArr_size m
theorem one_tg (m : Tg) : ([Value.agg (tgArr m)].flatMap fun v => v.cells.toList) = (tgArr m).toList := by simp [Value.cells]
theorem tg_snoc (l : List Tg) (x : Tg) : tgCells l ++ (tgArr x).toList = tgCells (l ++ [x]) := by rw [tgCells_app, tgCells_one]
theorem tgD {l : List Tg} {j : Nat} (hj : j < l.length) : l[j] = l.getD j zTg := by
  rw [List.getD_eq_getElem?_getD, List.getElem?_eq_getElem hj]; rfl
theorem tgr_el (l : List Tg) (j : Nat) (hj : j < l.length) : (((tgCells l).drop (j * 67)).take 67).toArray = tgArr (l.getD j zTg) := by
  unfold tgCells
  rw [cells_el _ 67 tgL_len l j hj, tgD hj]; rfl
theorem tg_mem {l : List Tg} {j : Nat} (hj : j < l.length) : l.getD j zTg ∈ l := by rw [← tgD hj]; exact List.getElem_mem hj
theorem tg_at {l : List Tg} {x : Tg} (h : x ∈ l) : ∃ j, j < l.length ∧ l.getD j zTg = x := by
  obtain ⟨j, hj, rfl⟩ := List.mem_iff_getElem.1 h
  exact ⟨j, hj, (tgD hj).symm⟩
theorem tg_take {w : World} {v : Value} {l : List Tg} (h : RdZ w v 67 l.length (tgCells l)) (k : Nat) (hk : k ≤ l.length) : RdZ w (cutV v k) 67 (l.take k).length (tgCells (l.take k)) := by
  have := h.cut k hk
  unfold tgCells at this
  rw [cells_take _ 67 tgL_len] at this
  rw [List.length_take, Nat.min_eq_left hk]
  exact this
theorem take_tg {l : List Tg} {d : Nat} (hd : d < l.length) : l.take (d + 1) = l.take d ++ [l.getD d zTg] := by rw [List.take_succ_eq_append_getElem hd, tgD hd]
end Go.Proofs.YtobfeflheaobiaaDoor

namespace Go.Proofs.YtobfeflheaobiaaDoor
open Go.RowKit
/-! ### which may be; which is below which -/
def mayT (t : Tg) : Bool := isE t.2.1 && (decide (0 ≤ t.2.2) && decide (t.2.2 ≤ 1099511627776))
def LtT (a b : Tg) : Prop := a.1.toNat < b.1.toNat ∨ (a.1 = b.1 ∧ (a.2.1.1 < b.2.1.1 ∨ (a.2.1.1 = b.2.1.1 ∧ (a.2.1.2.1.toNat < b.2.1.2.1.toNat ∨ (a.2.1.2.1 = b.2.1.2.1 ∧ a.2.1.2.2 < b.2.1.2.2)))))
instance (a b : Tg) : Decidable (LtT a b) := by unfold LtT; infer_instance
def ltT (a b : Tg) : Bool := decide (LtT a b)
def SmT (a b : Tg) : Prop := a.1 = b.1 ∧ a.2.1 = b.2.1
instance (a b : Tg) : Decidable (SmT a b) := by unfold SmT; infer_instance
theorem id_eq {a b : Id} : a = b ↔ a.toNat = b.toNat := BitVec.toNat_inj.symm
theorem ent_eq {a b : Ent} : a = b ↔ a.1 = b.1 ∧ a.2.1 = b.2.1 ∧ a.2.2 = b.2.2 := ⟨fun h => by rw [h]; exact ⟨rfl, rfl, rfl⟩, fun ⟨h1, h2, h3⟩ => Prod.ext h1 (Prod.ext h2 h3)⟩
theorem lt_irr (a : Tg) : ¬ LtT a a := by unfold LtT; omega
theorem lt_trans {a b c : Tg} (h : LtT a b) (g : LtT b c) : LtT a c := by
  unfold LtT at *
  simp only [id_eq] at *
  omega
theorem lt_tri (a b : Tg) : LtT a b ∨ SmT a b ∨ LtT b a := by
  unfold LtT SmT
  simp only [ent_eq, id_eq]
  omega
theorem lt_sm {a b : Tg} (h : LtT a b) : ¬ SmT a b := by
  unfold LtT at h; unfold SmT
  simp only [ent_eq, id_eq] at *
  omega
theorem lt_sm' {a b : Tg} (h : LtT a b) : ¬ SmT b a := fun g => lt_sm h ⟨g.1.symm, g.2.symm⟩
theorem sm_lt {a b c : Tg} (h : SmT a b) : (LtT a c ↔ LtT b c) ∧ (LtT c a ↔ LtT c b) := by
  unfold LtT
  rw [h.1, h.2]; exact ⟨Iff.rfl, Iff.rfl⟩
theorem sm_refl (a : Tg) : SmT a a := ⟨rfl, rfl⟩
theorem SmT.symm {a b : Tg} (h : SmT a b) : SmT b a := ⟨h.1.symm, h.2.symm⟩
theorem SmT.trans {a b c : Tg} (h : SmT a b) (g : SmT b c) : SmT a c := ⟨h.1.trans g.1, h.2.trans g.2⟩
def Srt (l : List Tg) : Prop := l.Pairwise LtT
theorem srt_sm {l : List Tg} (h : Srt l) {a b : Tg} (ha : a ∈ l) (hb : b ∈ l) (e : SmT a b) : a = b := by
  obtain ⟨i, hi, rfl⟩ := List.mem_iff_getElem.1 ha
  obtain ⟨j, hj, rfl⟩ := List.mem_iff_getElem.1 hb
  rcases Nat.lt_trichotomy i j with g | g | g
  · exact absurd e (lt_sm (List.pairwise_iff_getElem.1 h i j hi hj g))
  · subst g; rfl
  · exact absurd e (lt_sm' (List.pairwise_iff_getElem.1 h j i hj hi g))
theorem Srt.filter {l : List Tg} (h : Srt l) (p : Tg → Bool) : Srt (l.filter p) := List.Pairwise.filter p h
/-- as the program asks: each above the one ahead -/
def stp (l : List Tg) (k : Nat) : Bool := decide (k = 0) || ltT (l.getD (k - 1) zTg) (l.getD k zTg)
def okG (l : List Tg) (k : Nat) : Bool := mayT (l.getD k zTg) && stp l k
def rightT (l : List Tg) : Bool := (List.range l.length).all (okG l) && decide (l.length ≤ 32)
structure RT (l : List Tg) : Prop where
  may : ∀ y ∈ l, mayT y = true
  srt : Srt l
  len : l.length ≤ 32
theorem rt_iff {l : List Tg} : rightT l = true ↔ RT l := by
  unfold rightT
  rw [Bool.and_eq_true, List.all_eq_true, decide_eq_true_eq]
  constructor
  · rintro ⟨h1, h2⟩
    have hok : ∀ k, k < l.length → okG l k = true := fun k hk => h1 k (List.mem_range.2 hk)
    refine ⟨fun y hy => ?_, ?_, h2⟩
    · obtain ⟨j, hj, rfl⟩ := tg_at hy
      have := hok j hj
      unfold okG at this
      exact (Bool.and_eq_true _ _ ▸ this : _ ∧ _).1
    · have hs : ∀ k, k + 1 < l.length → LtT (l.getD k zTg) (l.getD (k + 1) zTg) := fun k hk => by
        have := hok (k + 1) hk
        unfold okG stp at this
        rw [Bool.and_eq_true, decide_eq_false (by omega), Bool.false_or] at this
        exact of_decide_eq_true this.2
      have key : ∀ d i, i + d + 1 < l.length → LtT (l.getD i zTg) (l.getD (i + d + 1) zTg) := fun d => by
        induction d with
        | zero => intro i hi; exact hs i hi
        | succ d ih => intro i hi; exact lt_trans (ih i (by omega)) (hs (i + d + 1) hi)
      unfold Srt
      rw [List.pairwise_iff_getElem]
      intro i j hi hj hij
      have := key (j - i - 1) i (by omega)
      rw [show i + (j - i - 1) + 1 = j by omega] at this
      rw [tgD hi, tgD hj]; exact this
  · rintro ⟨h1, h2, h3⟩
    refine ⟨fun k hk => ?_, h3⟩
    have hk := List.mem_range.1 hk
    unfold okG stp
    rw [h1 _ (tg_mem hk), Bool.true_and]
    by_cases h0 : k = 0
    · rw [decide_eq_true h0]; rfl
    · rw [decide_eq_false h0, Bool.false_or]
      have := List.pairwise_iff_getElem.1 h2 (k - 1) k (by omega) hk (by omega)
      rw [tgD (by omega), tgD hk] at this
      exact decide_eq_true this
theorem right_stop {l : List Tg} {k : Nat} (hk : k < l.length) (h : okG l k = false) : rightT l = false := by
  unfold rightT
  rw [Bool.and_eq_false_iff]
  exact .inl (List.all_eq_false.2 ⟨k, List.mem_range.2 hk, by rw [h]; decide⟩)
theorem right_end {l : List Tg} (h : ∀ k, k < l.length → okG l k = true) : rightT l = decide (l.length ≤ 32) := by
  unfold rightT
  rw [List.all_eq_true.2 fun k hk => h k (List.mem_range.1 hk), Bool.true_and]
/-! ### triggers of an identifier and a target -/
def isT (i : Id) (e : Ent) (y : Tg) : Bool := decide (y.1 = i) && decide (y.2.1 = e)
theorem isT_iff {x y : Tg} : isT x.1 x.2.1 y = true ↔ SmT y x := by
  unfold isT; rw [Bool.and_eq_true, decide_eq_true_eq, decide_eq_true_eq]; exact Iff.rfl
def nTg : Tg := (0#256, (0, 0#256, 0), -1)
def findT (l : List Tg) (i : Id) (e : Ent) : Tg := (l.find? (isT i e)).getD nTg
def wosT (l : List Tg) (i : Id) (e : Ent) : List Tg := l.filter fun y => !isT i e y
theorem find_is' {l : List Tg} (h : Srt l) {x y : Tg} (hy : y ∈ l) (hs : SmT y x) : findT l x.1 x.2.1 = y := by
  unfold findT
  cases hf : l.find? (isT x.1 x.2.1) with
  | none =>
    have := List.find?_eq_none.1 hf y hy
    rw [isT_iff.2 hs] at this; exact absurd rfl this
  | some z =>
    have h1 := List.mem_of_find?_eq_some hf
    have h2 : isT x.1 x.2.1 z = true := List.find?_some hf
    exact srt_sm h h1 hy ((isT_iff.1 h2).trans hs.symm)
theorem find_non {l : List Tg} {x : Tg} (h : ∀ y ∈ l, ¬ SmT y x) : findT l x.1 x.2.1 = nTg := by
  unfold findT
  rw [List.find?_eq_none.2 fun y hy => by rw [isT_iff]; exact h y hy]; rfl
theorem find_cases {l : List Tg} (h : Srt l) (x : Tg) : (∃ y ∈ l, SmT y x ∧ findT l x.1 x.2.1 = y) ∨ ((∀ y ∈ l, ¬ SmT y x) ∧ findT l x.1 x.2.1 = nTg) := by
  by_cases h9 : ∃ y ∈ l, SmT y x
  · obtain ⟨y, hy, hs⟩ := h9
    exact .inl ⟨y, hy, hs, find_is' h hy hs⟩
  · have : ∀ y ∈ l, ¬ SmT y x := fun y hy hs => h9 ⟨y, hy, hs⟩
    exact .inr ⟨this, find_non this⟩
/-! ### put in its place -/
def bigT (l : List Tg) (x : Tg) : Tg := bif decide (x.2.2 < (findT l x.1 x.2.1).2.2) then (x.1, x.2.1, (findT l x.1 x.2.1).2.2) else x
def insT (l : List Tg) (x : Tg) : List Tg := l.takeWhile (fun y => !ltT x y) ++ x :: l.dropWhile (fun y => !ltT x y)
def putT (l : List Tg) (x : Tg) : List Tg := insT (wosT l x.1 x.2.1) (bigT l x)
def putE (l : List Tg) (x : Tg) : Int := bif rightT l && mayT x then (bif decide ((putT l x).length ≤ 32) then 0 else 8) else 1
def putR (l : List Tg) (x : Tg) : List Tg := bif decide (putE l x = 0) then putT l x else []
theorem big_sm (l : List Tg) (x : Tg) : SmT (bigT l x) x := by unfold bigT; cases decide (x.2.2 < (findT l x.1 x.2.1).2.2) <;> exact ⟨rfl, rfl⟩
theorem big_un (l : List Tg) (x : Tg) : (bigT l x).2.2 = max (findT l x.1 x.2.1).2.2 x.2.2 := by
  unfold bigT
  by_cases h : x.2.2 < (findT l x.1 x.2.1).2.2
  · rw [decide_eq_true h]; show (findT l x.1 x.2.1).2.2 = _; omega
  · rw [decide_eq_false h]; show x.2.2 = _; omega
theorem ins_mem {l : List Tg} {x y : Tg} : y ∈ insT l x ↔ y ∈ l ∨ y = x := by
  unfold insT
  have e : l.takeWhile (fun y => !ltT x y) ++ l.dropWhile (fun y => !ltT x y) = l := List.takeWhile_append_dropWhile
  rw [List.mem_append, List.mem_cons]
  constructor
  · rintro (h | h | h)
    · exact .inl (by rw [← e]; exact List.mem_append_left _ h)
    · exact .inr h
    · exact .inl (by rw [← e]; exact List.mem_append_right _ h)
  · rintro (h | h)
    · rw [← e] at h
      rcases List.mem_append.1 h with h | h
      · exact .inl h
      · exact .inr (.inr h)
    · exact .inr (.inl h)
theorem ins_srt : ∀ {l : List Tg} {x : Tg}, Srt l → (∀ y ∈ l, ¬ SmT y x) → Srt (insT l x)
  | [], x, _, _ => by unfold insT; exact List.pairwise_singleton _ _
  | a :: l, x, hl, hn => by
    have h1 := List.pairwise_cons.1 hl
    by_cases h : LtT x a
    · have hb : ltT x a = true := decide_eq_true h
      have e : insT (a :: l) x = x :: a :: l := by unfold insT; rw [List.takeWhile_cons, List.dropWhile_cons, hb]; rfl
      rw [e]
      refine List.pairwise_cons.2 ⟨fun y hy => ?_, hl⟩
      rcases List.mem_cons.1 hy with rfl | hy
      · exact h
      · exact lt_trans h (h1.1 y hy)
    · have hb : ltT x a = false := decide_eq_false h
      have e : insT (a :: l) x = a :: insT l x := by unfold insT; rw [List.takeWhile_cons, List.dropWhile_cons, hb]; rfl
      rw [e]
      refine List.pairwise_cons.2 ⟨fun y hy => ?_, ins_srt h1.2 fun y hy => hn y (List.mem_cons_of_mem _ hy)⟩
      rcases ins_mem.1 hy with hy | rfl
      · exact h1.1 y hy
      · rcases lt_tri a y with g | g | g
        · exact g
        · exact absurd g (hn a (List.mem_cons_self ..))
        · exact absurd g h
theorem wos_mem {l : List Tg} {x y : Tg} : y ∈ wosT l x.1 x.2.1 ↔ y ∈ l ∧ ¬ SmT y x := by
  unfold wosT
  rw [List.mem_filter, Bool.not_eq_true', ← Bool.not_eq_true, isT_iff]
theorem putT_mem {l : List Tg} {x y : Tg} : y ∈ putT l x ↔ (y ∈ l ∧ ¬ SmT y x) ∨ y = bigT l x := by
  unfold putT
  rw [ins_mem, wos_mem]
theorem putT_srt {l : List Tg} (h : Srt l) (x : Tg) : Srt (putT l x) := ins_srt (h.filter _) fun y hy hs => (wos_mem.1 hy).2 (hs.trans (big_sm l x))
theorem may_iff' {t : Tg} : mayT t = true ↔ isE t.2.1 = true ∧ 0 ≤ t.2.2 ∧ t.2.2 ≤ 1099511627776 := by
  unfold mayT; rw [Bool.and_eq_true, Bool.and_eq_true, decide_eq_true_eq, decide_eq_true_eq]
theorem big_may {l : List Tg} (h : RT l) {x : Tg} (hx : mayT x = true) : mayT (bigT l x) = true := by
  have hx9 := may_iff'.1 hx
  rw [may_iff', (big_sm l x).2, big_un]
  refine ⟨hx9.1, by omega, ?_⟩
  rcases find_cases h.srt x with ⟨y, hy, _, e⟩ | ⟨_, e⟩
  · have := (may_iff'.1 (h.may y hy)).2.2
    rw [e]; omega
  · rw [e]; show max (-1 : Int) _ ≤ _; omega
theorem putT_right {l : List Tg} (h : RT l) {x : Tg} (hx : mayT x = true) (hl : (putT l x).length ≤ 32) : RT (putT l x) := by
  refine ⟨fun y hy => ?_, putT_srt h.srt x, hl⟩
  rcases putT_mem.1 hy with ⟨h1, _⟩ | rfl
  · exact h.may y h1
  · exact big_may h hx
end Go.Proofs.YtobfeflheaobiaaDoor

namespace Go.Proofs.YtobfeflheaobiaaDoor
open Go.RowKit
/-! ### dropped, over, matched, cut -/
def drpE (l : List Tg) (i : Id) (e : Ent) : Int := bif rightT l then (bif l.any (isT i e) then 0 else 6) else 1
def drpL (l : List Tg) (i : Id) (e : Ent) : List Tg := bif decide (drpE l i e = 0) then wosT l i e else []
def expE (l : List Tg) : Int := bif rightT l then 0 else 1
def expF (l : List Tg) (now : Int) : List Tg := l.filter fun y => decide (now < y.2.2)
def expL (l : List Tg) (now : Int) : List Tg := bif rightT l then expF l now else []
/-- those that have just so much in common, of the first one's identifier -/
noncomputable def mtK (l : List Tg) (x : Id) (n : Nat) : List Tg := match l.find? fun y => decide (com y.1 x = n) with | none => [] | some z => l.filter fun y => decide (com y.1 x = n) && decide (y.1 = z.1)
/-- the likest, of those with j more than 128 at most -/
noncomputable def mtN (l : List Tg) (x : Id) : Nat → List Tg | 0 => [] | j + 1 => bif decide (mtK l x (128 + j) = []) then mtN l x j else mtK l x (128 + j)
noncomputable def mtF (l : List Tg) (x : Id) : List Tg := mtN l x 129
noncomputable def mtE (l : List Tg) (x : Id) : Int := bif rightT l then (bif decide ((mtF l x).length = 0) then 6 else 0) else 1
noncomputable def mtL (l : List Tg) (x : Id) : List Tg := bif rightT l then mtF l x else []
theorem mtk_nil {l : List Tg} {x : Id} {n : Nat} : mtK l x n = [] ↔ ∀ y ∈ l, com y.1 x ≠ n := by
  unfold mtK
  cases hf : l.find? (fun y => decide (com y.1 x = n)) with
  | none =>
    refine ⟨fun _ y hy => ?_, fun _ => rfl⟩
    have := List.find?_eq_none.1 hf y hy
    simpa using this
  | some z =>
    have h1 := List.mem_of_find?_eq_some hf
    have h2 : com z.1 x = n := by have := List.find?_some hf; exact of_decide_eq_true this
    refine ⟨fun h => ?_, fun h => absurd h2 (h z h1)⟩
    have : z ∈ l.filter fun y => decide (com y.1 x = n) && decide (y.1 = z.1) := List.mem_filter.2 ⟨h1, by rw [decide_eq_true h2, decide_eq_true rfl]; rfl⟩
    have h : (l.filter fun y => decide (com y.1 x = n) && decide (y.1 = z.1)) = [] := h
    rw [h] at this; cases this
theorem mtk_mem {l : List Tg} {x : Id} {n : Nat} {y : Tg} (h : y ∈ mtK l x n) : y ∈ l ∧ com y.1 x = n := by
  unfold mtK at h
  cases hf : l.find? (fun y => decide (com y.1 x = n)) with
  | none => rw [hf] at h; cases h
  | some z =>
    rw [hf] at h
    obtain ⟨h1, h2⟩ := List.mem_filter.1 h
    rw [Bool.and_eq_true] at h2
    exact ⟨h1, of_decide_eq_true h2.1⟩
theorem mtn_at (l : List Tg) (x : Id) : ∀ j, (mtN l x j = [] ∧ ∀ i, i < j → mtK l x (128 + i) = []) ∨ ∃ i, i < j ∧ mtN l x j = mtK l x (128 + i) ∧ mtK l x (128 + i) ≠ [] ∧ ∀ k, i < k → k < j → mtK l x (128 + k) = []
  | 0 => .inl ⟨rfl, fun i hi => absurd hi (Nat.not_lt_zero _)⟩
  | j + 1 => by
    by_cases h : mtK l x (128 + j) = []
    · have e : mtN l x (j + 1) = mtN l x j := by show (bif decide (mtK l x (128 + j) = []) then _ else _) = _; rw [decide_eq_true h]; rfl
      rw [e]
      rcases mtn_at l x j with ⟨h1, h2⟩ | ⟨i, h1, h2, h3, h4⟩
      · refine .inl ⟨h1, fun i hi => ?_⟩
        rcases Nat.lt_or_ge i j with g | g
        · exact h2 i g
        · obtain rfl : i = j := by omega
          exact h
      · refine .inr ⟨i, by omega, h2, h3, fun k hk hkj => ?_⟩
        rcases Nat.lt_or_ge k j with g | g
        · exact h4 k hk g
        · obtain rfl : k = j := by omega
          exact h
    · have e : mtN l x (j + 1) = mtK l x (128 + j) := by show (bif decide (mtK l x (128 + j) = []) then _ else _) = _; rw [decide_eq_false h]; rfl
      exact .inr ⟨j, Nat.lt_succ_self j, e, h, fun k h1 h2 => absurd h2 (by omega)⟩
theorem mtf_at (l : List Tg) (x : Id) : (mtF l x = [] ∧ ∀ y ∈ l, com y.1 x < 128) ∨ ∃ n, 128 ≤ n ∧ n ≤ 256 ∧ mtF l x = mtK l x n ∧ mtK l x n ≠ [] ∧ ∀ y ∈ l, com y.1 x ≤ n := by
  rcases mtn_at l x 129 with ⟨h1, h2⟩ | ⟨i, h1, h2, h3, h4⟩
  · refine .inl ⟨h1, fun y hy => ?_⟩
    have hc := com_le y.1 x
    rcases Nat.lt_or_ge (com y.1 x) 128 with g | g
    · exact g
    · have := mtk_nil.1 (h2 (com y.1 x - 128) (by omega)) y hy
      omega
  · refine .inr ⟨128 + i, by omega, by omega, h2, h3, fun y hy => ?_⟩
    have hc := com_le y.1 x
    rcases Nat.lt_or_ge (128 + i) (com y.1 x) with g | g
    · have := mtk_nil.1 (h4 (com y.1 x - 128) (by omega) (by omega)) y hy
      omega
    · exact g
/-! ### what may be stays such -/
theorem RT.filter {l : List Tg} (h : RT l) (p : Tg → Bool) : RT (l.filter p) := ⟨fun y hy => h.may y (List.mem_filter.1 hy).1, h.srt.filter p, Nat.le_trans (List.length_filter_le _ _) h.len⟩
theorem putT_y {l : List Tg} {x : Tg} (h : RT l) (hx : mayT x = true) (h3 : (putT l x).length ≤ 32) : putE l x = 0 ∧ putR l x = putT l x := by
  have e : putE l x = 0 := by unfold putE; rw [rt_iff.2 h, hx, decide_eq_true h3]; rfl
  unfold putR; rw [e]; exact ⟨rfl, rfl⟩
theorem putT_no {l : List Tg} {x : Tg} (h : putE l x ≠ 0) : putR l x = [] := by unfold putR; rw [decide_eq_false h]; rfl
end Go.Proofs.YtobfeflheaobiaaDoor

namespace Go.Proofs.YtobfeflheaobiaaDoor
open Go.RowKit
/-! ### what the walks want of tables -/
theorem ok_0 {l : List Tg} {k : Nat} (h : mayT (l.getD k zTg) = false) : okG l k = false := by unfold okG; rw [h]; rfl
theorem ok_1 {l : List Tg} {k : Nat} (h : mayT (l.getD k zTg) = true) (h1 : k = 0) : okG l k = true := by unfold okG stp; rw [h, decide_eq_true h1]; rfl
theorem ok_2 {l : List Tg} {k : Nat} (h : mayT (l.getD k zTg) = true) (h1 : ¬ k = 0) : okG l k = ltT (l.getD (k - 1) zTg) (l.getD k zTg) := by unfold okG stp; rw [h, decide_eq_false h1]; rfl
theorem qs_nextT {q : Nat → Bool} {k : Nat} (h : ∀ j, j < k → q j = true) (hk : q k = true) : ∀ j, j < k + 1 → q j = true := fun j hj => by
  rcases Nat.lt_or_ge j k with g | g
  · exact h j g
  · obtain rfl : j = k := by omega
    exact hk
theorem eqT_next {l r : List Tg} {k : Nat} (h : ∀ j, j < k → l.getD j zTg = r.getD j zTg) (he : l.getD k zTg = r.getD k zTg) : ∀ j, j < k + 1 → l.getD j zTg = r.getD j zTg := fun j hj => by
  rcases Nat.lt_or_ge j k with g | g
  · exact h j g
  · obtain rfl : j = k := by omega
    exact he
theorem eqT_yes {l r : List Tg} (hl : l.length = r.length) (h : ∀ j, j < l.length → l.getD j zTg = r.getD j zTg) : l = r := by
  refine List.ext_getElem hl fun j h1 h2 => ?_
  rw [tgD h1, tgD h2]; exact h j h1
theorem fnd_hit {l : List Tg} {p : Tg → Bool} {k : Nat} (hk : k < l.length) (h : ∀ j, j < k → p (l.getD j zTg) = false) (he : p (l.getD k zTg) = true) : l.find? p = some (l.getD k zTg) := by
  rw [List.find?_eq_some_iff_getElem]
  refine ⟨he, k, hk, tgD hk, fun j hj => ?_⟩
  rw [tgD (by omega), h j hj]; rfl
theorem fnd_out {l : List Tg} {p : Tg → Bool} (h : ∀ j, j < l.length → p (l.getD j zTg) = false) : l.find? p = none := by
  rw [List.find?_eq_none]
  intro y hy
  obtain ⟨j, hj, rfl⟩ := tg_at hy
  rw [h j hj]; decide
theorem flt_y {l : List Tg} {p : Tg → Bool} {k : Nat} (hk : k < l.length) (h : p (l.getD k zTg) = true) : (l.take (k + 1)).filter p = (l.take k).filter p ++ [l.getD k zTg] := by
  rw [take_tg hk, List.filter_append, List.filter_cons, h]; rfl
theorem flt_n {l : List Tg} {p : Tg → Bool} {k : Nat} (hk : k < l.length) (h : p (l.getD k zTg) = false) : (l.take (k + 1)).filter p = (l.take k).filter p := by
  rw [take_tg hk, List.filter_append, List.filter_cons, h]
  simp
theorem flt_le (l : List Tg) (p : Tg → Bool) (k : Nat) : ((l.take k).filter p).length ≤ l.length := Nat.le_trans (List.length_filter_le _ _) (by rw [List.length_take]; omega)
theorem flt_end {l : List Tg} {p : Tg → Bool} {k : Nat} (h : l.length ≤ k) : (l.take k).filter p = l.filter p := by rw [List.take_of_length_le h]
section
variable {P : Program} {ρ : Operand → Value} {d : Option Tmp} {ty : TypeId} {pos : String} {af : Array Edge} {g : Option (Nat × Bool)} {x y z : Operand} {t : TypeId}
theorem ru_build_tg0 (S : Stt P t tgZ) : RunsTo P ⟨d, .build t #[], ty, pos, af, g⟩ ρ (.agg (tgArr zTg)) := by
  have := ru_build_st (P := P) (ρ := ρ) (d := d) (ty := ty) (pos := pos) (af := af) (g := g) (parts := #[]) S [] (by simp) (fun i v hm => by simp at hm) (D := (tgArr zTg).toList) (by rw [tg_zero]; rfl)
  simpa using this
theorem ru_build_tg2 {u : Int} (S : Stt P t tgZ) (hx : ρ x = .int .i64 u) : RunsTo P ⟨d, .build t #[(2, x)], ty, pos, af, g⟩ ρ (.agg (tgArr (0#256, (0, 0#256, 0), u))) := by
  have := ru_build_st (P := P) (ρ := ρ) (d := d) (ty := ty) (pos := pos) (af := af) (g := g) (parts := #[(2, x)]) S [(2, .int .i64 u)] (by simp [hx]) (fun i v hm => by
    simp only [List.mem_cons, Prod.mk.injEq, List.not_mem_nil, or_false] at hm
    obtain ⟨rfl, rfl⟩ := hm
    exact ⟨_, rfl, rfl⟩) (D := tgL (0#256, (0, 0#256, 0), u)) (by unfold tgL; rw [eArr_zero, idArr_zero]; rfl)
  exact this
theorem ru_build_tg3 {i : Id} {e : Ent} {u : Int} (S : Stt P t tgZ) (hx : ρ x = .agg (idArr i)) (hy : ρ y = .agg (eArr e)) (hz : ρ z = .int .i64 u) : RunsTo P ⟨d, .build t #[(0, x), (1, y), (2, z)], ty, pos, af, g⟩ ρ (.agg (tgArr (i, e, u))) := by
  have := ru_build_st (P := P) (ρ := ρ) (d := d) (ty := ty) (pos := pos) (af := af) (g := g) (parts := #[(0, x), (1, y), (2, z)]) S [(0, .agg (idArr i)), (1, .agg (eArr e)), (2, .int .i64 u)] (by simp [hx, hy, hz]) (fun j v hm => by
    simp only [List.mem_cons, Prod.mk.injEq, List.not_mem_nil, or_false] at hm
    rcases hm with ⟨rfl, rfl⟩ | ⟨rfl, rfl⟩ | ⟨rfl, rfl⟩
    · exact ⟨_, rfl, by show (idArr i).size = _; rw [idArr_size]; rfl⟩
    · exact ⟨_, rfl, by show (eArr e).size = _; rw [eArr_size]; rfl⟩
    · exact ⟨_, rfl, rfl⟩) (D := tgL (i, e, u)) (by unfold tgL; rfl)
  exact this
end
theorem tg_setU (t : Tg) (u : Int) : (tgArr t).setIfInBounds 66 (.int .i64 u) = tgArr (t.1, t.2.1, u) := by
  apply Array.ext'
  rw [Array.toList_setIfInBounds]
  show (tgL t).set 66 _ = tgL _
  unfold tgL
  rw [← List.append_assoc, ← List.append_assoc, List.set_append_right _ _ (by rw [List.length_append, idA_len, eA_len]; exact Nat.le_refl _), List.length_append, idA_len, eA_len]; rfl
/-! put in its place, one by one -/
theorem tw_app {A B : List Tg} {y : Tg} (h : A.any (fun z => ltT y z) = false) : (A ++ B).takeWhile (fun z => !ltT y z) = A ++ B.takeWhile (fun z => !ltT y z) ∧ (A ++ B).dropWhile (fun z => !ltT y z) = B.dropWhile (fun z => !ltT y z) := by
  induction A with
  | nil => exact ⟨rfl, rfl⟩
  | cons a A ih =>
    rw [List.any_cons, Bool.or_eq_false_iff] at h
    obtain ⟨h1, h2⟩ := ih h.2
    rw [List.cons_append, List.takeWhile_cons, List.dropWhile_cons, h.1]
    show (a :: _) = _ ∧ _
    rw [h1]; exact ⟨rfl, h2⟩
/-! the likest, one by one -/
theorem mtk_none {l : List Tg} {x : Id} {n : Nat} (h : l.find? (fun y => decide (com y.1 x = n)) = none) : mtK l x n = [] := by unfold mtK; rw [h]
theorem mtk_some {l : List Tg} {x : Id} {n : Nat} {z : Tg} (h : l.find? (fun y => decide (com y.1 x = n)) = some z) : mtK l x n = l.filter fun y => decide (com y.1 x = n) && decide (y.1 = z.1) := by unfold mtK; rw [h]
theorem mtk_le (l : List Tg) (x : Id) (n k : Nat) : (mtK (l.take k) x n).length ≤ l.length := by
  have : (l.take k).length ≤ l.length := by rw [List.length_take]; omega
  cases hf : (l.take k).find? (fun y => decide (com y.1 x = n)) with
  | none => rw [mtk_none hf]; exact Nat.zero_le _
  | some z => rw [mtk_some hf]; exact Nat.le_trans (List.length_filter_le _ _) this
end Go.Proofs.YtobfeflheaobiaaDoor

namespace Go.Proofs.YtobfeflheaobiaaDoor
open Go.RowKit
/-! ### what the package's calls hand out: rows that can be read wherever what came in can -/
abbrev RdT (w : World) (v : Value) (l : List Tg) : Prop := RdZ w v 67 l.length (tgCells l)
def TbP (w : World) (vh : Value) (l K : List Tg) (E : Int) : Asrt := fun v w' => ∃ p ks, v = .tuple #[p, .int .i64 E] ∧ St w [.grp ks fun w9 => RdT w9 vh l → RdT w9 p K] w'
theorem rt_nilT (w : World) : RdT w nilV [] := ⟨rfl, .inl ⟨rfl, rfl⟩⟩
/-! what they come to -/
theorem tb_bad {t : List Tg} (h : rightT t = false) (x : Tg) : putE t x = 1 ∧ putR t x = [] := by
  have e : putE t x = 1 := by unfold putE; rw [h]; rfl
  exact ⟨e, putT_no (by rw [e]; decide)⟩
theorem tb_may (t : List Tg) {x : Tg} (h : mayT x = false) : putE t x = 1 ∧ putR t x = [] := by
  have e : putE t x = 1 := by unfold putE; rw [h, Bool.and_false]; rfl
  exact ⟨e, putT_no (by rw [e]; decide)⟩
theorem tb_ok {t : List Tg} {x : Tg} (h : rightT t = true) (hx : mayT x = true) (hf : decide ((putT t x).length ≤ 32) = true) : putE t x = 0 ∧ putR t x = putT t x := putT_y (rt_iff.1 h) hx (of_decide_eq_true hf)
theorem tb_full {t : List Tg} {x : Tg} (h : rightT t = true) (hx : mayT x = true) (hf : decide ((putT t x).length ≤ 32) = false) : putE t x = 8 ∧ putR t x = [] := by
  have e : putE t x = 8 := by unfold putE; rw [h, hx, hf]; rfl
  exact ⟨e, putT_no (by rw [e]; decide)⟩
theorem td_bad {t : List Tg} (h : rightT t = false) (i : Id) (e : Ent) : drpE t i e = 1 ∧ drpL t i e = [] := by
  have h1 : drpE t i e = 1 := by unfold drpE; rw [h]; rfl
  refine ⟨h1, ?_⟩
  unfold drpL; rw [h1]; rfl
theorem td_any {t : List Tg} (h : rightT t = true) (i : Id) (e : Ent) : decide ((findT t i e).2.2 < 0) = !t.any (isT i e) := by
  have hr := rt_iff.1 h
  unfold findT
  cases hf : t.find? (isT i e) with
  | none =>
    have : t.any (isT i e) = false := List.any_eq_false.2 fun y hy => List.find?_eq_none.1 hf y hy
    rw [this]; rfl
  | some y =>
    have hy := List.mem_of_find?_eq_some hf
    have : t.any (isT i e) = true := List.any_eq_true.2 ⟨y, hy, List.find?_some hf⟩
    rw [this]
    exact decide_eq_false (by have := (may_iff'.1 (hr.may y hy)).2.1; show ¬ y.2.2 < 0; omega)
theorem td_non {t : List Tg} (h : rightT t = true) {i : Id} {e : Ent} (hg : decide ((findT t i e).2.2 < 0) = true) : drpE t i e = 6 ∧ drpL t i e = [] := by
  rw [td_any h] at hg
  have h1 : drpE t i e = 6 := by
    unfold drpE
    rw [h, show t.any (isT i e) = false by cases hb : t.any (isT i e) with | false => rfl | true => rw [hb] at hg; cases hg]; rfl
  refine ⟨h1, ?_⟩
  unfold drpL; rw [h1]; rfl
theorem td_is {t : List Tg} (h : rightT t = true) {i : Id} {e : Ent} (hg : decide ((findT t i e).2.2 < 0) = false) : drpE t i e = 0 ∧ drpL t i e = wosT t i e := by
  rw [td_any h] at hg
  have h1 : drpE t i e = 0 := by
    unfold drpE
    rw [h, show t.any (isT i e) = true by cases hb : t.any (isT i e) with | true => rfl | false => rw [hb] at hg; cases hg]; rfl
  refine ⟨h1, ?_⟩
  unfold drpL; rw [h1]; rfl
theorem te_y {t : List Tg} (h : rightT t = true) (now : Int) : expE t = 0 ∧ expL t now = expF t now := by unfold expE expL; rw [h]; exact ⟨rfl, rfl⟩
theorem te_n {t : List Tg} (h : rightT t = false) (now : Int) : expE t = 1 ∧ expL t now = [] := by unfold expE expL; rw [h]; exact ⟨rfl, rfl⟩
theorem tm_n {t : List Tg} (h : rightT t = false) (x : Id) : mtE t x = 1 ∧ mtL t x = [] := by unfold mtE mtL; rw [h]; exact ⟨rfl, rfl⟩
theorem tm_y {t : List Tg} (h : rightT t = true) (x : Id) : mtE t x = (bif decide ((mtF t x).length = 0) then 6 else 0) ∧ mtL t x = mtF t x := by unfold mtE mtL; rw [h]; exact ⟨rfl, rfl⟩
theorem mtf_le (t : List Tg) (x : Id) : (mtF t x).length ≤ t.length := by
  rcases mtf_at t x with ⟨h, _⟩ | ⟨n, _, _, h, _, _⟩
  · rw [h]; exact Nat.zero_le _
  · rw [h]
    have := mtk_le t x n t.length
    rw [List.take_length] at this; exact this
/-! what is put is matched -/
end Go.Proofs.YtobfeflheaobiaaDoor

namespace Go.Proofs.YtobfeflheaobiaaDoor
open Go.RowKit
/-! ### package table's own functions: how one stands to another, where one is, what is put there, the likest -/
def cmQ (a b : Tg) (k : Nat) : Int := match k with
  | 0 => cmpI a.1 b.1
  | 1 => cmpInt a.2.1.1 b.2.1.1
  | 2 => cmpI a.2.1.2.1 b.2.1.2.1
  | _ => cmpInt a.2.1.2.2 b.2.1.2.2
def cmT (a b : Tg) : Int := if LtT a b then -1 else if SmT a b then 0 else 1
theorem cmT_neg (a b : Tg) : decide (cmT a b < 0) = ltT a b := by
  unfold cmT ltT
  by_cases h : LtT a b
  · rw [if_pos h]; simp [h]
  · rw [if_neg h]
    by_cases g : SmT a b
    · rw [if_pos g]; simp [h]
    · rw [if_neg g]; simp [h]
theorem cmT_zero (a b : Tg) : decide (cmT a b = 0) = isT b.1 b.2.1 a := by
  have hb : isT b.1 b.2.1 a = decide (SmT a b) := by
    cases hh : isT b.1 b.2.1 a with
    | true => exact (decide_eq_true (isT_iff.1 hh)).symm
    | false => exact (decide_eq_false fun g => by rw [isT_iff.2 g] at hh; cases hh).symm
  rw [hb]; unfold cmT
  by_cases h : LtT a b
  · rw [if_pos h]; simp [lt_sm h]
  · rw [if_neg h]
    by_cases g : SmT a b
    · rw [if_pos g]; simp [g]
    · rw [if_neg g]; simp [g]
theorem cmT_ge (a b : Tg) : decide (cmT a b ≥ 0) = !ltT a b := by
  rw [← cmT_neg, ← decide_not]; exact decide_eq_decide.2 (by omega)
theorem cmpI_0 {a b : Id} : cmpI a b = 0 ↔ a = b := by
  rw [id_eq]; unfold cmpI; split
  · simp; omega
  · split
    · simp; omega
    · simp; omega
theorem cmpI_v (a b : Id) : (cmpI a b = -1 ∧ a.toNat < b.toNat) ∨ (cmpI a b = 0 ∧ a = b) ∨ (cmpI a b = 1 ∧ b.toNat < a.toNat) := by
  rw [id_eq]; unfold cmpI; split
  · exact .inl ⟨rfl, by assumption⟩
  · split
    · exact .inr (.inr ⟨rfl, by assumption⟩)
    · exact .inr (.inl ⟨rfl, by omega⟩)
theorem cmpInt_v (a b : Int) : (cmpInt a b = -1 ∧ a < b) ∨ (cmpInt a b = 0 ∧ a = b) ∨ (cmpInt a b = 1 ∧ b < a) := by
  unfold cmpInt; split
  · exact .inl ⟨rfl, by assumption⟩
  · split
    · exact .inr (.inr ⟨rfl, by assumption⟩)
    · exact .inr (.inl ⟨rfl, by omega⟩)
theorem cmT_at {a b : Tg} : (cmQ a b 0 ≠ 0 → cmQ a b 0 = cmT a b) ∧ (cmQ a b 0 = 0 → cmQ a b 1 ≠ 0 → cmQ a b 1 = cmT a b) ∧ (cmQ a b 0 = 0 → cmQ a b 1 = 0 → cmQ a b 2 ≠ 0 → cmQ a b 2 = cmT a b) ∧ (cmQ a b 0 = 0 → cmQ a b 1 = 0 → cmQ a b 2 = 0 → cmQ a b 3 = cmT a b) := by
  have h0 : _ ∨ _ ∨ _ := cmpI_v a.1 b.1
  have h1 : _ ∨ _ ∨ _ := cmpInt_v a.2.1.1 b.2.1.1
  have h2 : _ ∨ _ ∨ _ := cmpI_v a.2.1.2.1 b.2.1.2.1
  have h3 : _ ∨ _ ∨ _ := cmpInt_v a.2.1.2.2 b.2.1.2.2
  show (cmpI a.1 b.1 ≠ 0 → cmpI a.1 b.1 = cmT a b) ∧ (cmpI a.1 b.1 = 0 → cmpInt a.2.1.1 b.2.1.1 ≠ 0 → cmpInt a.2.1.1 b.2.1.1 = cmT a b) ∧ (cmpI a.1 b.1 = 0 → cmpInt a.2.1.1 b.2.1.1 = 0 → cmpI a.2.1.2.1 b.2.1.2.1 ≠ 0 → cmpI a.2.1.2.1 b.2.1.2.1 = cmT a b) ∧ (cmpI a.1 b.1 = 0 → cmpInt a.2.1.1 b.2.1.1 = 0 → cmpI a.2.1.2.1 b.2.1.2.1 = 0 → cmpInt a.2.1.2.2 b.2.1.2.2 = cmT a b)
  have key : ∀ c : Int, ((c = -1 ∧ LtT a b) ∨ (c = 0 ∧ SmT a b) ∨ (c = 1 ∧ LtT b a)) → c = cmT a b := by
    rintro c (⟨rfl, h⟩ | ⟨rfl, h⟩ | ⟨rfl, h⟩)
    · unfold cmT; rw [if_pos h]
    · unfold cmT; rw [if_neg fun g => lt_sm g h, if_pos h]
    · unfold cmT; rw [if_neg fun g => lt_irr a (lt_trans g h), if_neg fun g => lt_sm' h g]
  have z0 : cmpI a.1 b.1 = 0 → a.1 = b.1 := cmpI_0.1
  have z2 : cmpI a.2.1.2.1 b.2.1.2.1 = 0 → a.2.1.2.1 = b.2.1.2.1 := cmpI_0.1
  have z1 : cmpInt a.2.1.1 b.2.1.1 = 0 → a.2.1.1 = b.2.1.1 := fun g => by
    rcases h1 with ⟨c, h⟩ | ⟨c, h⟩ | ⟨c, h⟩
    · rw [c] at g; cases g
    · exact h
    · rw [c] at g; cases g
  refine ⟨fun n0 => key _ ?_, fun n0 n1 => key _ ?_, fun n0 n1 n2 => key _ ?_, fun n0 n1 n2 => key _ ?_⟩
  · rcases h0 with ⟨c, h⟩ | ⟨c, h⟩ | ⟨c, h⟩
    · exact .inl ⟨c, .inl h⟩
    · exact absurd c n0
    · exact .inr (.inr ⟨c, .inl h⟩)
  · rcases h1 with ⟨c, h⟩ | ⟨c, h⟩ | ⟨c, h⟩
    · exact .inl ⟨c, .inr ⟨z0 n0, .inl h⟩⟩
    · exact absurd c n1
    · exact .inr (.inr ⟨c, .inr ⟨(z0 n0).symm, .inl h⟩⟩)
  · rcases h2 with ⟨c, h⟩ | ⟨c, h⟩ | ⟨c, h⟩
    · exact .inl ⟨c, .inr ⟨z0 n0, .inr ⟨z1 n1, .inl h⟩⟩⟩
    · exact absurd c n2
    · exact .inr (.inr ⟨c, .inr ⟨(z0 n0).symm, .inr ⟨(z1 n1).symm, .inl h⟩⟩⟩)
  · rcases h3 with ⟨c, h⟩ | ⟨c, h⟩ | ⟨c, h⟩
    · exact .inl ⟨c, .inr ⟨z0 n0, .inr ⟨z1 n1, .inr ⟨z2 n2, h⟩⟩⟩⟩
    · exact .inr (.inl ⟨c, z0 n0, ent_eq.2 ⟨z1 n1, z2 n2, h⟩⟩)
    · exact .inr (.inr ⟨c, .inr ⟨(z0 n0).symm, .inr ⟨(z1 n1).symm, .inr ⟨(z2 n2).symm, h⟩⟩⟩⟩)
theorem cmT_hit {a b : Tg} {k : Nat} (hk : k < 4) (h : ∀ j, j < k → cmQ a b j = 0) (h0 : cmQ a b k ≠ 0) : cmQ a b k = cmT a b := by
  have H := cmT_at (a := a) (b := b)
  match k, hk with
  | 0, _ => exact H.1 h0
  | 1, _ => exact H.2.1 (h 0 (by omega)) h0
  | 2, _ => exact H.2.2.1 (h 0 (by omega)) (h 1 (by omega)) h0
  | 3, _ => exact H.2.2.2 (h 0 (by omega)) (h 1 (by omega)) (h 2 (by omega))
theorem cmT_out {a b : Tg} (h : ∀ j, j < 4 → cmQ a b j = 0) : cmT a b = 0 :=
  (cmT_at.2.2.2 (h 0 (by omega)) (h 1 (by omega)) (h 2 (by omega))).symm.trans (h 3 (by omega))
theorem cq_next {a b : Tg} {k : Nat} (h : ∀ j, j < k → cmQ a b j = 0) (hk : cmQ a b k = 0) : ∀ j, j < k + 1 → cmQ a b j = 0 := fun j hj => by
  rcases Nat.lt_or_ge j k with g | g
  · exact h j g
  · obtain rfl : j = k := by omega
    exact hk
/-! where one is -/
theorem srt_at {l : List Tg} (h : Srt l) {j k : Nat} (hjk : j < k) (hk : k < l.length) : LtT (l.getD j zTg) (l.getD k zTg) := by
  have := List.pairwise_iff_getElem.1 h j k (by omega) hk hjk
  rw [tgD (by omega), tgD hk] at this; exact this
structure FndT (l : List Tg) (x : Tg) (n : Nat) (b : Bool) : Prop where
  le : n ≤ l.length
  lo : ∀ j, j < n → ltT (l.getD j zTg) x = true
  hi : ∀ j, n ≤ j → j < l.length → ltT (l.getD j zTg) x = false
  is : b = (decide (n < l.length) && isT x.1 x.2.1 (l.getD n zTg))
theorem bs_lo {l : List Tg} (h : Srt l) {x : Tg} {k : Nat} (hk : k < l.length) (hc : ltT (l.getD k zTg) x = true) : ∀ j, j < k + 1 → ltT (l.getD j zTg) x = true := fun j hj => by
  rcases Nat.lt_or_ge j k with g | g
  · exact decide_eq_true (lt_trans (srt_at h g hk) (of_decide_eq_true hc))
  · obtain rfl : j = k := by omega
    exact hc
theorem bs_hi {l : List Tg} (h : Srt l) {x : Tg} {k : Nat} (hc : ltT (l.getD k zTg) x = false) : ∀ j, k ≤ j → j < l.length → ltT (l.getD j zTg) x = false := fun j hj hl => by
  rcases Nat.lt_or_ge k j with g | g
  · exact decide_eq_false fun h9 => of_decide_eq_false hc (lt_trans (srt_at h g hl) h9)
  · obtain rfl : j = k := by omega
    exact hc
theorem mem_takeD {l : List Tg} {n : Nat} {y : Tg} (h : y ∈ l.take n) : ∃ j, j < n ∧ j < l.length ∧ l.getD j zTg = y := by
  obtain ⟨j, hj, rfl⟩ := List.mem_iff_getElem.1 h
  rw [List.length_take] at hj
  refine ⟨j, by omega, by omega, ?_⟩
  rw [← tgD (by omega), List.getElem_take]
theorem mem_dropD {l : List Tg} {n : Nat} {y : Tg} (h : y ∈ l.drop n) : ∃ j, n ≤ j ∧ j < l.length ∧ l.getD j zTg = y := by
  obtain ⟨j, hj, rfl⟩ := List.mem_iff_getElem.1 h
  rw [List.length_drop] at hj
  refine ⟨n + j, by omega, by omega, ?_⟩
  rw [← tgD (by omega), List.getElem_drop]
theorem ins_at {A B : List Tg} {y : Tg} (h1 : ∀ a ∈ A, ltT y a = false) (h2 : ∀ b ∈ B, ltT y b = true) : insT (A ++ B) y = A ++ y :: B := by
  have hA : A.any (fun z => ltT y z) = false := List.any_eq_false.2 fun z hz => by rw [h1 z hz]; decide
  have h9 := tw_app (B := B) hA
  have h8 : B.takeWhile (fun z => !ltT y z) = [] ∧ B.dropWhile (fun z => !ltT y z) = B := by
    cases B with
    | nil => exact ⟨rfl, rfl⟩
    | cons b B =>
      have hb := h2 b (List.mem_cons_self ..)
      exact ⟨by rw [List.takeWhile_cons_of_neg (by rw [hb]; decide)], by rw [List.dropWhile_cons_of_neg (by rw [hb]; decide)]⟩
  unfold insT
  rw [h9.1, h9.2, h8.1, h8.2, List.append_nil]
theorem isT_f {x y : Tg} (h : ¬ SmT y x) : isT x.1 x.2.1 y = false := by
  cases hh : isT x.1 x.2.1 y with
  | false => rfl
  | true => exact absurd (isT_iff.1 hh) h
theorem wos_all {L : List Tg} {x : Tg} (h : ∀ y ∈ L, ¬ SmT y x) : wosT L x.1 x.2.1 = L := List.filter_eq_self.2 fun y hy => by rw [isT_f (h y hy)]; rfl
theorem split_n {l : List Tg} {n : Nat} (h : n < l.length) : l = l.take n ++ l.getD n zTg :: l.drop (n + 1) := by
  rw [← tgD h, List.getElem_cons_drop, List.take_append_drop]
/-- there is one: the parts ahead of it and behind it -/
theorem fdT_y {l : List Tg} {x : Tg} {n : Nat} (h : Srt l) (hf : FndT l x n true) : n < l.length ∧ SmT (l.getD n zTg) x ∧ (∀ y ∈ l.take n, LtT y x) ∧ ∀ y ∈ l.drop (n + 1), LtT x y := by
  have h9 := hf.is.symm
  rw [Bool.and_eq_true] at h9
  have hn := of_decide_eq_true h9.1
  have hs := isT_iff.1 h9.2
  refine ⟨hn, hs, fun y hy => ?_, fun y hy => ?_⟩
  · obtain ⟨j, h1, h2, rfl⟩ := mem_takeD hy
    exact of_decide_eq_true (hf.lo j h1)
  · obtain ⟨j, h1, h2, rfl⟩ := mem_dropD hy
    exact (sm_lt hs).1.1 (srt_at h (by omega) h2)
theorem fdT_n {l : List Tg} {x : Tg} {n : Nat} (h : Srt l) (hf : FndT l x n false) : (∀ y ∈ l.take n, LtT y x) ∧ (∀ y ∈ l.drop n, LtT x y) ∧ ∀ y ∈ l, ¬ SmT y x := by
  have h1 : ∀ y ∈ l.take n, LtT y x := fun y hy => by
    obtain ⟨j, h1, h2, rfl⟩ := mem_takeD hy
    exact of_decide_eq_true (hf.lo j h1)
  have h2 : ∀ y ∈ l.drop n, LtT x y := fun y hy => by
    obtain ⟨j, h1, h2, rfl⟩ := mem_dropD hy
    have hn : ¬ SmT (l.getD n zTg) x := fun g => by
      have h9 := hf.is
      rw [decide_eq_true (show n < l.length by omega), isT_iff.2 g] at h9; cases h9
    have hl : ∀ i, n ≤ i → i < l.length → ¬ LtT (l.getD i zTg) x := fun i g1 g2 => of_decide_eq_false (hf.hi i g1 g2)
    have h0 : LtT x (l.getD n zTg) := by
      rcases lt_tri (l.getD n zTg) x with g | g | g
      · exact absurd g (hl n (Nat.le_refl _) (by omega))
      · exact absurd g hn
      · exact g
    rcases Nat.lt_or_ge n j with g | g
    · exact lt_trans h0 (srt_at h g h2)
    · obtain rfl : j = n := by omega
      exact h0
  refine ⟨h1, h2, fun y hy => ?_⟩
  rw [← List.take_append_drop n l] at hy
  rcases List.mem_append.1 hy with g | g
  · exact lt_sm (h1 y g)
  · exact fun e => lt_sm' (h2 y g) e
theorem fnd_any {l : List Tg} {x : Tg} {n : Nat} {b : Bool} (h : Srt l) (hf : FndT l x n b) : l.any (isT x.1 x.2.1) = b := by
  cases b with
  | true =>
    have h9 := fdT_y h hf
    exact List.any_eq_true.2 ⟨_, tg_mem h9.1, isT_iff.2 h9.2.1⟩
  | false => exact List.any_eq_false.2 fun y hy => by rw [isT_f ((fdT_n h hf).2.2 y hy)]; decide
/-! what is put there -/
def upT (l : List Tg) (x : Tg) (n : Nat) : Tg := ((l.getD n zTg).1, (l.getD n zTg).2.1, max (l.getD n zTg).2.2 x.2.2)
theorem pt_y {l : List Tg} {x : Tg} {n : Nat} (h : RT l) (hx : mayT x = true) (hf : FndT l x n true) : putE l x = 0 ∧ putR l x = l.set n (upT l x n) := by
  obtain ⟨hn, hs, h1, h2⟩ := fdT_y h.srt hf
  have hfd : findT l x.1 x.2.1 = l.getD n zTg := find_is' h.srt (tg_mem hn) hs
  have hw : wosT l x.1 x.2.1 = l.take n ++ l.drop (n + 1) := by
    conv => lhs; rw [split_n hn]
    unfold wosT
    rw [List.filter_append, List.filter_cons_of_neg (by rw [isT_iff.2 hs]; decide)]
    rw [List.filter_eq_self.2 fun y hy => by rw [isT_f (lt_sm (h1 y hy))]; rfl, List.filter_eq_self.2 fun y hy => by rw [isT_f fun g => lt_sm' (h2 y hy) g]; rfl]
  have hb : bigT l x = upT l x n := by
    refine Prod.ext ?_ (Prod.ext ?_ ?_)
    · exact (big_sm l x).1.trans hs.1.symm
    · exact (big_sm l x).2.trans hs.2.symm
    · rw [big_un, hfd]; rfl
  have hbs := big_sm l x
  have hp : putT l x = l.set n (upT l x n) := by
    show insT (wosT l x.1 x.2.1) (bigT l x) = _
    rw [hw, ins_at (fun a ha => decide_eq_false fun g => lt_irr _ (lt_trans (h1 a ha) ((sm_lt hbs).1.1 g))) (fun b hb => decide_eq_true ((sm_lt hbs).1.2 (h2 b hb))), hb]
    rw [List.set_eq_take_append_cons_drop, if_pos hn]
  have hl : (putT l x).length ≤ 32 := by rw [hp, List.length_set]; exact h.len
  have := putT_y h hx hl
  rw [this.1, this.2, hp]; exact ⟨rfl, rfl⟩
theorem pt_n {l : List Tg} {x : Tg} {n : Nat} (h : RT l) (hx : mayT x = true) (hf : FndT l x n false) : putT l x = l.take n ++ ([x] ++ l.drop n) ∧ (putT l x).length = l.length + 1 := by
  obtain ⟨h1, h2, h3⟩ := fdT_n h.srt hf
  have hb : bigT l x = x := by
    unfold bigT
    rw [find_non h3, decide_eq_false (by have := (may_iff'.1 hx).2.1; show ¬ x.2.2 < -1; omega)]; rfl
  have hp : putT l x = l.take n ++ ([x] ++ l.drop n) := by
    show insT (wosT l x.1 x.2.1) (bigT l x) = _
    rw [wos_all h3, hb]
    conv => lhs; rw [← List.take_append_drop n l]
    exact ins_at (fun a ha => decide_eq_false fun g => lt_irr _ (lt_trans (h1 a ha) g)) (fun b hb => decide_eq_true (h2 b hb))
  refine ⟨hp, ?_⟩
  rw [hp, List.length_append, List.length_append, List.length_take, List.length_drop, List.length_singleton]
  have := hf.le
  omega
theorem pt_no {l : List Tg} {x : Tg} {n : Nat} (h : RT l) (hx : mayT x = true) (hf : FndT l x n false) (hl : l.length = 32) : putE l x = 8 ∧ putR l x = [] :=
  tb_full (rt_iff.2 h) hx (decide_eq_false (by rw [(pt_n h hx hf).2]; omega))
theorem pt_in {l : List Tg} {x : Tg} {n : Nat} (h : RT l) (hx : mayT x = true) (hf : FndT l x n false) (hl : ¬ l.length = 32) : putE l x = 0 ∧ putR l x = l.take n ++ ([x] ++ l.drop n) := by
  have h9 := tb_ok (rt_iff.2 h) hx (decide_eq_true (show (putT l x).length ≤ 32 by rw [(pt_n h hx hf).2]; have := h.len; omega))
  rw [h9.1, h9.2, (pt_n h hx hf).1]; exact ⟨rfl, rfl⟩
theorem dp_y {l : List Tg} {i : Id} {e : Ent} {u : Int} {n : Nat} (h : RT l) (hf : FndT l (i, e, u) n true) : n < l.length ∧ drpE l i e = 0 ∧ drpL l i e = l.take n ++ l.drop (n + 1) := by
  obtain ⟨hn, hs, h1, h2⟩ := fdT_y h.srt hf
  have ha := fnd_any h.srt hf
  have h0 : drpE l i e = 0 := by unfold drpE; rw [rt_iff.2 h, show l.any (isT i e) = true from ha]; rfl
  refine ⟨hn, h0, ?_⟩
  unfold drpL; rw [h0]
  show wosT l i e = _
  conv => lhs; rw [split_n hn]
  unfold wosT
  rw [List.filter_append, List.filter_cons_of_neg (by rw [show isT i e (l.getD n zTg) = true from isT_iff.2 hs]; decide)]
  rw [List.filter_eq_self.2 fun y hy => by rw [show isT i e y = false from isT_f (lt_sm (h1 y hy))]; rfl, List.filter_eq_self.2 fun y hy => by rw [show isT i e y = false from isT_f fun g => lt_sm' (h2 y hy) g]; rfl]
theorem dp_n {l : List Tg} {i : Id} {e : Ent} {u : Int} {n : Nat} (h : RT l) (hf : FndT l (i, e, u) n false) : drpE l i e = 6 ∧ drpL l i e = [] := by
  have ha := fnd_any h.srt hf
  have h0 : drpE l i e = 6 := by unfold drpE; rw [rt_iff.2 h, show l.any (isT i e) = false from ha]; rfl
  exact ⟨h0, by unfold drpL; rw [h0]; rfl⟩
/-! the likest -/
def fmS (m : Tg → Int) (le : Int) (l : List Tg) : Nat → Tg × Int × Bool
  | 0 => (zTg, 0, false)
  | k + 1 => bif decide (le ≤ m (l.getD k zTg)) && (!(fmS m le l k).2.2 || decide ((fmS m le l k).2.1 < m (l.getD k zTg))) then (l.getD k zTg, m (l.getD k zTg), true) else fmS m le l k
theorem fm_is (m : Tg → Int) (le : Int) (l : List Tg) : ∀ k, ((fmS m le l k).2.2 = false ∧ (fmS m le l k).1 = zTg ∧ ∀ j, j < k → m (l.getD j zTg) < le) ∨ ((fmS m le l k).2.2 = true ∧ ∃ j, j < k ∧ (fmS m le l k).1 = l.getD j zTg ∧ (fmS m le l k).2.1 = m (l.getD j zTg) ∧ le ≤ m (l.getD j zTg) ∧ (∀ i, i < k → le ≤ m (l.getD i zTg) → m (l.getD i zTg) ≤ m (l.getD j zTg)) ∧ ∀ i, i < j → m (l.getD i zTg) < m (l.getD j zTg))
  | 0 => .inl ⟨rfl, rfl, fun j hj => absurd hj (Nat.not_lt_zero _)⟩
  | k + 1 => by
    have ih := fm_is m le l k
    show (_ ∨ _)
    unfold fmS
    by_cases hle : le ≤ m (l.getD k zTg)
    · rcases ih with ⟨h1, h0, h2⟩ | ⟨h1, j, hj, h2, h3, h4, h5, h6⟩
      · rw [h1, decide_eq_true hle]
        refine .inr ⟨rfl, k, by omega, rfl, rfl, hle, fun i hi g => ?_, fun i hi => ?_⟩
        · rcases Nat.lt_or_ge i k with g9 | g9
          · exact absurd g (by have := h2 i g9; omega)
          · obtain rfl : i = k := by omega
            exact Int.le_refl _
        · have := h2 i hi; show m (l.getD i zTg) < m (l.getD k zTg); omega
      · rw [h1, h3, decide_eq_true hle]
        by_cases hm : m (l.getD j zTg) < m (l.getD k zTg)
        · rw [decide_eq_true hm]
          refine .inr ⟨rfl, k, by omega, rfl, rfl, hle, fun i hi g => ?_, fun i hi => ?_⟩
          · rcases Nat.lt_or_ge i k with g9 | g9
            · have := h5 i g9 g; show m (l.getD i zTg) ≤ m (l.getD k zTg); omega
            · obtain rfl : i = k := by omega
              exact Int.le_refl _
          · show m (l.getD i zTg) < m (l.getD k zTg)
            by_cases g : le ≤ m (l.getD i zTg)
            · have := h5 i hi g; omega
            · omega
        · rw [decide_eq_false hm]
          refine .inr ⟨h1, j, by omega, h2, h3, h4, fun i hi g => ?_, h6⟩
          rcases Nat.lt_or_ge i k with g9 | g9
          · exact h5 i g9 g
          · obtain rfl : i = k := by omega
            omega
    · rw [decide_eq_false hle]
      rcases ih with ⟨h1, h0, h2⟩ | ⟨h1, j, hj, h2, h3, h4, h5, h6⟩
      · refine .inl ⟨h1, h0, fun i hi => ?_⟩
        rcases Nat.lt_or_ge i k with g9 | g9
        · exact h2 i g9
        · obtain rfl : i = k := by omega
          omega
      · refine .inr ⟨h1, j, by omega, h2, h3, h4, fun i hi g => ?_, h6⟩
        rcases Nat.lt_or_ge i k with g9 | g9
        · exact h5 i g9 g
        · obtain rfl : i = k := by omega
          exact absurd g hle
noncomputable def lkM (x : Id) (y : Tg) : Int := (com y.1 x : Int)
noncomputable def lkS (l : List Tg) (x : Id) : Tg × Int × Bool := fmS (lkM x) 128 l l.length
theorem find_at9 {l : List Tg} {p : Tg → Bool} {j : Nat} (hj : j < l.length) (h : ∀ i, i < j → p (l.getD i zTg) = false) (hp : p (l.getD j zTg) = true) : l.find? p = some (l.getD j zTg) := fnd_hit hj h hp
theorem mt_like {l : List Tg} (h : rightT l = true) (x : Id) : ((lkS l x).2.2 = false → mtE l x = 6 ∧ mtL l x = []) ∧ ((lkS l x).2.2 = true → mtE l x = 0 ∧ mtL l x = l.filter fun y => decide (y.1 = (lkS l x).1.1)) := by
  have hm := tm_y h x
  rcases fm_is (lkM x) 128 l l.length with ⟨h1, _, h2⟩ | ⟨h1, j, hj, h2, h3, h4, h5, h6⟩
  · refine ⟨fun _ => ?_, fun g => (by unfold lkS at g; rw [h1] at g; cases g)⟩
    have hn : mtF l x = [] := by
      rcases mtf_at l x with ⟨g, _⟩ | ⟨n, g1, g2, g3, g4, g5⟩
      · exact g
      · exfalso
        obtain ⟨y, hy⟩ := List.exists_mem_of_ne_nil _ g4
        obtain ⟨hy1, hy2⟩ := mtk_mem hy
        obtain ⟨i, hi, rfl⟩ := tg_at hy1
        have := h2 i hi
        unfold lkM at this
        omega
    rw [hm.1, hm.2, hn]; exact ⟨rfl, rfl⟩
  · refine ⟨fun g => (by unfold lkS at g; rw [h1] at g; cases g), fun _ => ?_⟩
    have e : (lkS l x).1 = l.getD j zTg := h2
    rw [e]
    unfold lkM at h4 h5 h6
    have hf : mtF l x = l.filter fun y => decide (y.1 = (l.getD j zTg).1) := by
      rcases mtf_at l x with ⟨_, g⟩ | ⟨n, g1, g2, g3, g4, g5⟩
      · have := g _ (tg_mem hj); omega
      · have hn : com (l.getD j zTg).1 x = n := by
          obtain ⟨y, hy⟩ := List.exists_mem_of_ne_nil _ g4
          obtain ⟨hy1, hy2⟩ := mtk_mem hy
          obtain ⟨i, hi, rfl⟩ := tg_at hy1
          have := h5 i hi (by omega)
          have := g5 _ (tg_mem hj)
          omega
        rw [g3, mtk_some (z := l.getD j zTg) (find_at9 hj (fun i hi => decide_eq_false (by have := h6 i hi; omega)) (decide_eq_true hn))]
        refine List.filter_congr fun y hy => ?_
        by_cases g : y.1 = (l.getD j zTg).1
        · rw [decide_eq_true (show com y.1 x = n by rw [g]; exact hn)]; simp
        · rw [decide_eq_false g]; simp
    have hl : (mtF l x).length ≠ 0 := by
      rw [hf]
      have : l.getD j zTg ∈ l.filter fun y => decide (y.1 = (l.getD j zTg).1) := List.mem_filter.2 ⟨tg_mem hj, by simp⟩
      have := List.length_pos_of_mem this
      omega
    rw [hm.1, hm.2, decide_eq_false hl]
    exact ⟨rfl, hf⟩
theorem St.grp1 {w0 w : World} {a : Value} {M : TypeId} {sa n : Nat} {xs : List Value} {ks : List Nat} {S S' : World → Prop} {B : List Own} (s : St w0 (.sl a M sa n xs :: .grp ks S :: B) w) (h : ∀ w9, RdZ w9 a sa n xs → S w9 → S' w9) : ∃ kn, St w0 (.grp kn S' :: B) w :=
  ⟨_, (St.group (A := [.sl a M sa n xs, .grp ks S]) (B := B) s).weak fun w9 h9 => h w9 (RdZ.of_own (h9 (.sl a M sa n xs) (by simp))) ((h9 (.grp ks S) (by simp)).2 w9 fun _ _ => rfl)⟩
/-! rows put together, in memory -/
theorem catT_succ (ls : List (List Tg)) (k : Nat) (h : k < ls.length) : (ls.take (k + 1)).flatten = (ls.take k).flatten ++ ls.getD k [] := by
  rw [List.take_succ_eq_append_getElem h, List.flatten_append, List.getD_eq_getElem?_getD, List.getElem?_eq_getElem h]; simp
theorem catT_len (ls : List (List Tg)) (k : Nat) (h : k < ls.length) : (ls.take k).flatten.length + (ls.getD k []).length = (ls.take (k + 1)).flatten.length := by
  rw [catT_succ ls k h, List.length_append]
theorem catT_cells (ls : List (List Tg)) (k : Nat) (h : k < ls.length) : tgCells (ls.take k).flatten ++ tgCells (ls.getD k []) = tgCells (ls.take (k + 1)).flatten := by
  rw [catT_succ ls k h, tgCells_app]
theorem catT_le (ls : List (List Tg)) (k : Nat) : (ls.take k).flatten.length ≤ ls.flatten.length := by
  have := congrArg (fun x => x.flatten.length) (List.take_append_drop k ls)
  simp only [List.flatten_append, List.length_append] at this
  omega
theorem concatT_fin {w : World} {base : Nat} {e : TypeId} {v : Value} {ls : List (List Tg)} {i : Nat} (hi : ls.length ≤ i) (h : Owns w base e 67 v (ls.take i).flatten.length (tgCells (ls.take i).flatten)) : Owns w base e 67 v ls.flatten.length (tgCells ls.flatten) := by
  rwa [List.take_of_length_le hi] at h
theorem twoT_rd {w : World} {l r : List Tg} {vl vr : Value} (h1 : RdT w vl l) (h2 : RdT w vr r) : ∀ k, k < [vl, vr].length → RdZ w ([vl, vr].getD k undef) 67 (([l, r].getD k []).length) (tgCells ([l, r].getD k [])) := fun k hk => by
  match k, hk with
  | 0, _ => exact h1
  | 1, _ => exact h2
theorem threeT_rd {w : World} {u v x : Value} {a b c : List Tg} (h1 : RdT w u a) (h2 : RdT w v b) (h3 : RdT w x c) : ∀ k, k < [u, v, x].length → RdZ w ([u, v, x].getD k undef) 67 ([a, b, c].getD k []).length (tgCells ([a, b, c].getD k [])) := fun k hk => by
  match k, hk with
  | 0, _ => exact h1
  | 1, _ => exact h2
  | 2, _ => exact h3
theorem twoT_flat (l r : List Tg) : [l, r].flatten = l ++ r := by simp
theorem threeT_flat (a b c : List Tg) : [a, b, c].flatten = a ++ (b ++ c) := by simp
theorem clone_nilT {w : World} {a : Option Addr} {n c : Nat} {l : List Tg} (ha : a.isNone = true) (h : RdZ w (.slice a n c) 67 l.length (tgCells l)) : l = [] := by
  cases a with
  | some p => cases ha
  | none =>
    rcases h.2 with ⟨h1, h2⟩ | ⟨p, cap, h1, _⟩
    · exact List.eq_nil_of_length_eq_zero h2
    · cases h1
theorem tg_drop {w : World} {v : Value} {l : List Tg} (h : RdT w v l) (k : Nat) (hk : k ≤ l.length) : RdT w (dropV v 67 k) (l.drop k) := by
  have := h.drop k hk
  unfold tgCells at this
  rw [cells_drop _ 67 tgL_len] at this
  unfold RdT tgCells
  rw [List.length_drop]; exact this
section
variable {P : Program} {ρ : Operand → Value} {d : Option Tmp} {ty : TypeId} {pos : String} {af : Array Edge} {g : Option (Nat × Bool)} {x y z : Operand} {t : TypeId}
theorem ru_max {k : IntKind} {m n : Int} {tys : Array TypeId} (hx : ρ x = .int k m) (hy : ρ y = .int k n) : RunsTo P ⟨d, .call { callee := .builtin .max, args := #[x, y], argTypes := tys }, ty, pos, af, g⟩ ρ (.int k (if n > m then n else m)) := fun w => by
  simp [execOp, resolve, hx, hy, invoke, builtin, Builtin.max_, Builtin.max2, Sem.run_bind]
/-- an array of functions: one of them, by value -/
theorem ru_index_fn {C : Array Value} {V : Value} {len : Nat} {e : TypeId} {ps rs : Array TypeId} {vr : Bool} {k : IntKind} {m : Int} (j : Nat) (hd : P.underlying t = some (.array len e)) (he : (P.info? e).map (·.size) = some 1) (ha : P.underlying e = some (.func ps rs vr)) (hx : ρ x = .agg C) (hy : ρ y = .int k m) (hj : m = (j : Int)) (hlt : j < len) (hC : C[j]? = some V) : RunsTo P ⟨d, .index t x y, ty, pos, af, g⟩ ρ V := fun w => by
  subst hj
  cases hi : P.info? e with
  | none => simp [hi] at he
  | some i =>
    have h1 : i.size = 1 := by simpa [hi] using he
    have h2 : (0 : Int) ≤ (j : Int) ∧ (j : Int) < (len : Int) := by omega
    simp only [execOp, hx, hy, Instr.index, asIntOf, Sem.run_bind, Sem.run_pure, Result.andThen_ok, run_underlying hd w]
    rw [if_pos h2]
    have h3 : (isAgg e).run P w = .ok false w := by unfold isAgg; rw [Sem.run_bind, run_underlying ha w]; rfl
    simp [Sem.run_bind, sizeOf, typeInfo, hi, h1, part, h3, hC]
end
/-! the four functions' numbers; what is called -/
def fn4 (a b c d k : Nat) : Nat := match k with | 0 => a | 1 => b | 2 => c | _ => d
theorem fn4_at {a b c d k : Nat} (hk : k < 4) : (#[Value.func (.func a) #[] #[], .func (.func b) #[] #[], .func (.func c) #[] #[], .func (.func d) #[] #[]] : Array Value)[k]? = some (.func (.func (fn4 a b c d k)) #[] #[]) := by
  match k, hk with
  | 0, _ => rfl
  | 1, _ => rfl
  | 2, _ => rfl
  | 3, _ => rfl
theorem mid_shr (i j : Nat) : ((i : Int) + (j : Int)).fdiv (2 ^ (min (1 : Int).toNat IntKind.u64.bits)) = (((i + j) / 2 : Nat) : Int) := by
  rw [show (2 : Int) ^ (min (1 : Int).toNat IntKind.u64.bits) = 2 from rfl, Int.fdiv_eq_ediv_of_nonneg _ (by decide)]
  omega
theorem fm_y {m : Tg → Int} {le : Int} {l : List Tg} {k : Nat} {z : Tg} {mo : Int} {bi : Bool} (hp : (z, mo, bi) = fmS m le l k) (h0 : decide (le ≤ m (l.getD k zTg)) = true) (h : (!bi || decide (mo < m (l.getD k zTg))) = true) : (l.getD k zTg, m (l.getD k zTg), true) = fmS m le l (k + 1) := by
  show _ = (bif _ then _ else _)
  rw [← hp, h0, h]; rfl
theorem fm_n {m : Tg → Int} {le : Int} {l : List Tg} {k : Nat} {z : Tg} {mo : Int} {bi : Bool} (hp : (z, mo, bi) = fmS m le l k) (h : (decide (le ≤ m (l.getD k zTg)) && (!bi || decide (mo < m (l.getD k zTg)))) = false) : (z, mo, bi) = fmS m le l (k + 1) := by
  show _ = (bif _ then _ else _)
  rw [← hp, h]; rfl
section
variable {P : Program} {ρ : Operand → Value} {d : Option Tmp} {ty : TypeId} {pos : String} {af : Array Edge} {g : Option (Nat × Bool)} {x y z : Operand} {t : TypeId}
theorem ru_build_tg01 {i : Id} {e : Ent} (S : Stt P t tgZ) (hx : ρ x = .agg (idArr i)) (hy : ρ y = .agg (eArr e)) : RunsTo P ⟨d, .build t #[(0, x), (1, y)], ty, pos, af, g⟩ ρ (.agg (tgArr (i, e, 0))) := by
  have := ru_build_st (P := P) (ρ := ρ) (d := d) (ty := ty) (pos := pos) (af := af) (g := g) (parts := #[(0, x), (1, y)]) S [(0, .agg (idArr i)), (1, .agg (eArr e))] (by simp [hx, hy]) (fun j u hm => by
    simp only [List.mem_cons, Prod.mk.injEq, List.not_mem_nil, or_false] at hm
    rcases hm with ⟨rfl, rfl⟩ | ⟨rfl, rfl⟩
    · exact ⟨_, rfl, by simp [Value.cells]⟩
    · exact ⟨_, rfl, by show (eArr e).size = 34; exact eArr_size e⟩) (D := tgL (i, e, 0)) (by
      show (idArr i).toList ++ ((eArr e).toList ++ ([Value.int .i64 0] ++ [])) = _
      rfl)
  exact this
end
theorem cell1 {v : Value} (h : v.oneCell' = true) : v.cells.size = 1 ∧ v.cells.toList = [v] := by cases v <;> first | exact ⟨rfl, rfl⟩ | cases h
/-! what is handed out -/
theorem tbP_own {w w' : World} {vh v : Value} {N : TypeId} {l K L : List Tg} {E e : Int} (hE : E = e) (hK : K = L) (s : St w [.sl v N 67 L.length (tgCells L)] w') : TbP w vh l K E (.tuple #[v, .int .i64 e]) w' := by
  subst hE; subst hK
  obtain ⟨kn, s⟩ := ((s.grp0 (S := fun _ => True) (fun _ => trivial)).perm (List.Perm.swap ..)).grp1 (S' := fun w9 => RdT w9 vh l → RdT w9 v K) (fun w9 h _ _ => h)
  exact ⟨v, kn, rfl, s⟩
theorem tbP_nil {w w' : World} {vh : Value} {l K : List Tg} {E e : Int} (hE : E = e) (hK : K = []) (s : St w [] w') : TbP w vh l K E (.tuple #[.slice none 0 0, .int .i64 e]) w' := by
  subst hE; subst hK
  exact ⟨_, [], rfl, s.grp0 (S := fun w9 => RdT w9 vh l → RdT w9 nilV []) (fun w9 _ => rt_nilT w9)⟩
theorem tgr_u (l : List Tg) (n : Nat) (hn : n < l.length) : (tgCells l)[n * 67 + 66]? = some (.int .i64 (l.getD n zTg).2.2) := by
  have h := tgr_el l n hn
  have h1 := congrArg (fun a => a[66]?) h
  simp only [List.getElem?_toArray] at h1
  rw [tgArr_until, List.getElem?_take_of_lt (by decide), List.getElem?_drop] at h1
  exact h1
/-! one cell of one of them set -/
theorem tg_set {l : List Tg} {n : Nat} (hn : n < l.length) (y : Tg) (off : Nat) (V : Value) (hoff : off < 67) (h : (tgArr (l.getD n zTg)).setIfInBounds off V = tgArr y) : (tgCells l).set (n * 67 + off) V = tgCells (l.set n y) := by
  have hl : tgCells l = tgCells (l.take n) ++ ((tgArr (l.getD n zTg)).toList ++ tgCells (l.drop (n + 1))) := by
    conv => lhs; rw [split_n hn]
    rw [tgCells_app, show l.getD n zTg :: l.drop (n + 1) = [l.getD n zTg] ++ l.drop (n + 1) from rfl, tgCells_app, tgCells_one]
  have h1 : (tgCells (l.take n)).length = n * 67 := by rw [tgCells_len, List.length_take, Nat.min_eq_left (by omega)]
  have h2 : ((tgArr (l.getD n zTg)).toList.set off V) = (tgArr y).toList := by rw [← h, Array.toList_setIfInBounds]
  rw [hl, List.set_append_right _ _ (by omega), h1, Nat.add_sub_cancel_left, List.set_append_left _ _ (by rw [Array.length_toList, tgArr_size]; exact hoff), h2]
  rw [List.set_eq_take_append_cons_drop, if_pos hn, tgCells_app, show y :: l.drop (n + 1) = [y] ++ l.drop (n + 1) from rfl, tgCells_app, tgCells_one]
end Go.Proofs.YtobfeflheaobiaaDoor

namespace Go.Proofs.YtobfeflheaobiaaDoor
open Go.RowKit
/-! ### the parts of a cut, put together -/
/-! ### what is put, and stays -/
/-! ### in whatever order -/
end Go.Proofs.YtobfeflheaobiaaDoor

namespace Go.Proofs.YtobfeflheaobiaaDoor
open Go.RowKit Go.ChangeShapes Go.WideShapes Go.ChangeAt
/-! ### triggers that come in -/
theorem open_tgL {H : Type} {enc : TypeId × Value → H} {P : Program} {w : World} {base : Nat} {spare : Nat → Bool} {held : Bool} {t te tn ti e : TypeId} {f0 f1 f2 g0 g1 g2 : Field} {fuel : Nat} {cs : List Value} {x : DataW H × List MemPlace} (T : IdTy P ti e) (hc : P.cellsOf ti = 32) (hce : P.cellsOf e = 1) (hn : P.underlying tn = some (.int .i64)) (hcn : P.cellsOf tn = 1)
    (hte : P.underlying te = some (.struct #[f0, f1, f2])) (h0 : f0.type = tn) (h1 : f1.type = ti) (h2 : f2.type = tn) (o0 : f0.offset = 0) (o1 : f1.offset = 1) (o2 : f2.offset = 33) (hcte : P.cellsOf te = 34)
    (ht : P.underlying t = some (.struct #[g0, g1, g2])) (k0 : g0.type = ti) (k1 : g1.type = te) (k2 : g2.type = tn) (p0 : g0.offset = 0) (p1 : g1.offset = 32) (p2 : g2.offset = 66) (hct : P.cellsOf t = 67)
    (h : DataW.trod enc P w base spare held fuel t cs = some x) : ∃ l : Tg, cs = (tgArr l).toList := by
  obtain ⟨xs, n, rfl, _, hl, hxl, hel⟩ := DataW.trod_struct ht h
  rw [hct] at hl
  have hx2 : xs.length = 3 := by simpa using hxl
  have e0 := hel 0 g0 rfl
  have e1 := hel 1 g1 rfl
  have e2 := hel 2 g2 rfl
  rw [k0, p0, hc, List.getElem?_eq_getElem (by omega)] at e0
  rw [k1, p1, hcte, List.getElem?_eq_getElem (by omega)] at e1
  rw [k2, p2, hcn, List.getElem?_eq_getElem (by omega)] at e2
  obtain ⟨a, ha⟩ := open_idL T hc hce e0
  obtain ⟨b, hb⟩ := open_entL T hc hce hn hcn hte h0 h1 h2 o0 o1 o2 hcte e1
  obtain ⟨u, hu, _⟩ := DataW.trod_int hn e2
  refine ⟨(a, b, u), ?_⟩
  show cs = (idArr a).toList ++ ((eArr b).toList ++ [.int .i64 u])
  rw [← ha, ← hb, ← hu, List.drop_zero]
  have s1 : (cs.drop 66).take 1 = cs.drop 66 := List.take_of_length_le (by rw [List.length_drop]; omega)
  have s2 : (cs.drop 32).take 34 ++ cs.drop 66 = cs.drop 32 := by
    have := List.take_append_drop 34 (cs.drop 32)
    rw [List.drop_drop] at this
    exact this
  rw [s1, s2, List.take_append_drop]
theorem open_tg {H : Type} {enc : TypeId × Value → H} {P : Program} {W : World} {r : Reach} {b0 : Nat} {t te tn ti e : TypeId} {f0 f1 f2 g0 g1 g2 : Field} {v : Value} {d : DataW H} {ps : List MemPlace} (T : IdTy P ti e) (hc : P.cellsOf ti = 32) (hce : P.cellsOf e = 1) (hn : P.underlying tn = some (.int .i64)) (hcn : P.cellsOf tn = 1)
    (hte : P.underlying te = some (.struct #[f0, f1, f2])) (h0 : f0.type = tn) (h1 : f1.type = ti) (h2 : f2.type = tn) (o0 : f0.offset = 0) (o1 : f1.offset = 1) (o2 : f2.offset = 33) (hcte : P.cellsOf te = 34)
    (ht : P.underlying t = some (.struct #[g0, g1, g2])) (k0 : g0.type = ti) (k1 : g1.type = te) (k2 : g2.type = tn) (p0 : g0.offset = 0) (p1 : g1.offset = 32) (p2 : g2.offset = 66) (hct : P.cellsOf t = 67)
    (hval : Value.okWide P W r b0 t v) (h : DataW.Trod enc P W 0 (fun _ => true) true t v d ps) : ∃ l : Tg, v = .agg (tgArr l) := by
  have hv : ∃ cs, v = .agg cs := by
    unfold Value.okWide at hval
    simp only [ht] at hval
    obtain ⟨cs, h9, _⟩ := hval
    exact ⟨cs, h9⟩
  obtain ⟨cs, rfl⟩ := hv
  obtain ⟨fuel, hf⟩ := h
  obtain ⟨l, hl⟩ := open_tgL T hc hce hn hcn hte h0 h1 h2 o0 o1 o2 hcte ht k0 k1 k2 p0 p1 p2 hct hf
  refine ⟨l, ?_⟩
  have : cs.toList = (tgArr l).toList := by simpa [Value.cells] using hl
  rw [Array.toList_inj.1 this]
theorem open_tgs {H : Type} {enc : TypeId × Value → H} {P : Program} {W : World} {r : Reach} {b0 : Nat} {ts t te tn ti e : TypeId} {f0 f1 f2 g0 g1 g2 : Field} {v : Value} {d : DataW H} {ps : List MemPlace} (T : IdTy P ti e) (hc : P.cellsOf ti = 32) (hce : P.cellsOf e = 1) (hn : P.underlying tn = some (.int .i64)) (hcn : P.cellsOf tn = 1)
    (hte : P.underlying te = some (.struct #[f0, f1, f2])) (h0 : f0.type = tn) (h1 : f1.type = ti) (h2 : f2.type = tn) (o0 : f0.offset = 0) (o1 : f1.offset = 1) (o2 : f2.offset = 33) (hcte : P.cellsOf te = 34)
    (hts : P.underlying ts = some (.slice t)) (ht : P.underlying t = some (.struct #[g0, g1, g2])) (k0 : g0.type = ti) (k1 : g1.type = te) (k2 : g2.type = tn) (p0 : g0.offset = 0) (p1 : g1.offset = 32) (p2 : g2.offset = 66) (hct : P.cellsOf t = 67)
    (hval : Value.okWide P W r b0 ts v) (h : DataW.Trod enc P W 0 (fun _ => true) true ts v d ps) : ∃ ls : List Tg, RdZ W v 67 ls.length (tgCells ls) := by
  obtain ⟨a, n, c, rfl⟩ := okWide_slice hts hval
  obtain ⟨fuel, hf⟩ := h
  rcases Go.Deep.open_slice hts hf with ⟨hcs, _⟩ | ⟨a', len, cap, m, k, D, Pl, hcs, _, hl, _, hm, _, hel⟩
  · have : Value.slice a n c = .slice none 0 0 := by simpa [Value.cells] using hcs
    exact ⟨[], rfl, .inl ⟨this, rfl⟩⟩
  · have hv : Value.slice a n c = .slice (some a') len cap := by simpa [Value.cells] using hcs
    have hml : len ≤ m := by rw [hm]; split <;> omega
    have each : ∀ i, ∃ l : Tg, i < len → Has W (a'.add (i * 67)) (tgArr l) := fun i => by
      by_cases hi : i < len
      · obtain ⟨cs', hc1, hc2⟩ := hel i (by omega)
        obtain ⟨l, rfl⟩ := open_tgL T hc hce hn hcn hte h0 h1 h2 o0 o1 o2 hcte ht k0 k1 k2 p0 p1 p2 hct hc2
        refine ⟨l, fun _ j u hj => ?_⟩
        rw [hct] at hc1
        obtain ⟨_, hlen, hall⟩ := World.cells?_some hc1
        have hj67 : j < 67 := by have := (Array.getElem?_eq_some_iff.1 hj).1; rw [tgArr_size] at this; exact this
        have := hall j hj67
        rw [this, Array.getElem?_toList]; exact hj
      · exact ⟨zTg, fun h9 => absurd h9 hi⟩
    obtain ⟨L, hL⟩ := Classical.axiomOfChoice each
    refine ⟨(List.range len).map L, ?_, .inr ⟨a', cap, by rw [hv]; simp, by simpa using hl, ?_⟩⟩
    · rw [tgCells_len]
    · refine has_flat _ 67 (by decide) tgL_len _ fun i hi => ?_
      have hi' : i < len := by simpa using hi
      have h9 : ((List.range len).map L)[i] = L i := by simp
      rw [h9]
      exact hL i hi'
end Go.Proofs.YtobfeflheaobiaaDoor
