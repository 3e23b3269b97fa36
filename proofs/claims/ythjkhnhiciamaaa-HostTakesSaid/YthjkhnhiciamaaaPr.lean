/- Drawn regions in general; slices of elements of several cells; equality of such; links that lead back; the reference of the sum; keys and links; no Go in it. -/
import Derived.Deep.Slices
import Derived.Test.YthjkhnhiciamaaaDg
set_option linter.unusedVariables false
set_option linter.unusedSimpArgs false
set_option linter.unusedSectionVars false
namespace Go.Proofs.Ythjkhnhiciamaaa
open Go.RowKit
/-! ### A region that draws its order: THE LAW, with operations that may come at any time (pure ones, and loads that nothing of the region turns), first operations in whatever order, and last ones -/
def dstOf (ops : List Oper) (j : Nat) : Option Tmp := (ops[j]?).bind (·.dst)
/-- the blocks that a value bears -/
def vks : Value → List Nat
  | .pointer (some a) => [a.block]
  | .slice (some a) _ _ => [a.block]
  | _ => []
section
variable (ops : List Oper) (m : Nat) (Hs : List Nat) (cls : List (List Nat))
def okOne (size i : Nat) (o : Oper) : Bool :=
  (direct o).all (fun j => decide (j < i)) &&
  (cls.getD i []).all (fun j => (direct o).contains j || (direct o).any fun k => (cls.getD k []).contains j) &&
  (if Hs.contains i then
    (match o.dst with | some d => decide (d < size) && (List.range ops.length).all (fun j => j == i || decide (dstOf ops j ≠ some d)) | none => false) && o.guard.isNone &&
    (o.looksAt ops.toArray).all fun t => (List.range ops.length).all fun j => decide (dstOf ops j ≠ some t) || ((cls.getD i []).contains j && Hs.contains j) || (cls.getD j []).contains i
  else if i < m then
    (match o.dst with | some d => decide (d < size) && (List.range m).all (fun j => j == i || decide (dstOf ops j ≠ some d)) | none => false) &&
    (o.looksAt ops.toArray).all fun t => (List.range ops.length).all fun j => !(decide (j < m) || Hs.contains j) || decide (dstOf ops j ≠ some t) || (cls.getD i []).contains j || (cls.getD j []).contains i
  else
    (List.range i).all (fun j => Hs.contains j || (cls.getD i []).contains j) &&
    (o.looksAt ops.toArray).all fun t => Hs.all fun j => decide (dstOf ops j ≠ some t) || (cls.getD i []).contains j)
def okReg2 (size : Nat) : Bool := (List.range ops.length).all fun i => match ops[i]? with | some o => okOne ops m Hs cls size i o | none => false
def tailIx : List Nat := (List.range ops.length).filter fun i => !(decide (i < m)) && !Hs.contains i
end
theorem okReg2_at {ops : List Oper} {m : Nat} {Hs : List Nat} {cls : List (List Nat)} {size : Nat} (h : okReg2 ops m Hs cls size = true) {i : Nat} {o : Oper} (hi : ops[i]? = some o) : okOne ops m Hs cls size i o = true := by
  unfold okReg2 at h
  have hlt : i < ops.length := (List.getElem?_eq_some_iff.1 hi).1
  have := List.all_eq_true.1 h i (List.mem_range.2 hlt)
  simpa [hi] using this
theorem ok2_H {ops : List Oper} {m : Nat} {Hs : List Nat} {cls : List (List Nat)} {size : Nat} (h : okReg2 ops m Hs cls size = true) {i : Nat} {o : Oper} (hi : ops[i]? = some o) (hH : i ∈ Hs) :
    (∃ d, o.dst = some d ∧ d < size ∧ ∀ j, dstOf ops j = some d → j = i) ∧ o.guard = none ∧
    ∀ t ∈ o.looksAt ops.toArray, ∀ j, dstOf ops j = some t → (j ∈ cls.getD i [] ∧ j ∈ Hs) ∨ i ∈ cls.getD j [] := by
  have := okReg2_at h hi
  unfold okOne at this
  rw [if_pos (List.contains_iff_mem.2 hH)] at this
  simp only [Bool.and_eq_true] at this
  obtain ⟨_, ⟨h1, h2⟩, h3⟩ := this
  have hj : ∀ j t, dstOf ops j = some t → j < ops.length := fun j t hd => by
    unfold dstOf at hd
    rcases Nat.lt_or_ge j ops.length with h' | h'
    · exact h'
    · rw [List.getElem?_eq_none h'] at hd; cases hd
  refine ⟨?_, by simpa using h2, fun t ht j hd => ?_⟩
  · cases hdo : o.dst with
    | none => simp [hdo] at h1
    | some d =>
      simp only [hdo, Bool.and_eq_true, decide_eq_true_eq] at h1
      refine ⟨d, rfl, h1.1, fun j hd => ?_⟩
      have := List.all_eq_true.1 h1.2 j (List.mem_range.2 (hj j d hd))
      simpa [hd] using this
  · have h4 := List.all_eq_true.1 (List.all_eq_true.1 h3 t ht) j (List.mem_range.2 (hj j t hd))
    simp only [hd, ne_eq, not_true_eq_false, decide_false, Bool.false_or, Bool.or_eq_true, Bool.and_eq_true, List.contains_iff_mem] at h4
    exact h4
/-- the last ones, with what must hold of the world between them -/
def LstW (P : Program) (ops : Array Oper) (Wp : World → Prop) (K : Act → World → Prop) : List Oper → Act → World → Prop
  | [], a, w => K a w
  | o :: l, a, w => Lst P ops (fun a w => Wp w ∧ LstW P ops Wp K l a w) [o] a w
theorem LstW.of {P : Program} {ops : Array Oper} {K : Act → World → Prop} : ∀ {l : List Oper} {a : Act} {w : World}, Lst P ops K l a w → LstW P ops (fun _ => True) K l a w
  | [], _, _, h => Lst.nil.1 h
  | o :: l, a, w, h => by
    have h2 : Lst P ops (Lst P ops K l) [o] a w := (Lst.append (l := [o])).1 h
    exact Lst.mono (fun a w h => ⟨trivial, LstW.of h⟩) h2

section law
variable {P : Program} {ro : Option Nat} {ops : List Oper} {m : Nat} {Hs : List Nat} {cls : List (List Nat)} {X : Nat → Value} {Wp : World → Prop} {a0 : Act} {Q : Exit → Act → World → Prop}
/-- an operation that may come at any time -/
def ObH (P : Program) (ops : List Oper) (cls : List (List Nat)) (X : Nat → Value) (Wp : World → Prop) (a0 : Act) (i : Nat) (o : Oper) : Prop :=
  ∀ (a : Act) (w : World), Wp w → a.tmps.size = a0.tmps.size → (∀ t ∈ o.looksAt ops.toArray, SlotOk ops (fun j => is (X j)) (cls.getD i []) a0 a w t) → Does P o a.eval w fun v w' => v = X i ∧ w' = w
structure J2 (ops : List Oper) (Hs : List Nat) (cls : List (List Nat)) (X : Nat → Value) (a0 : Act) (listed : Array Bool) (a : Act) : Prop where
  size : a.tmps.size = a0.tmps.size
  lsize : listed.size = ops.length
  doneH : ∀ i d, i ∈ Hs → dstOf ops i = some d → listed.getD i false = true → a.tmps.getD d undef = X i
  rest : ∀ t, (∀ j, dstOf ops j = some t → listed.getD j false = false) → a.tmps.getD t undef = a0.tmps.getD t undef
  closed : ∀ i, listed.getD i false = true → ∀ j ∈ cls.getD i [], listed.getD j false = true
theorem set_iff {listed : Array Bool} {i : Nat} (hi : i < listed.size) (j : Nat) : (listed.setIfInBounds i true).getD j false = true ↔ (j = i ∨ listed.getD j false = true) := by
  by_cases hji : i = j
  · subst hji; simp [hi]
  · have : ¬ j = i := fun e => hji e.symm
    simp [Array.getElem?_setIfInBounds_ne hji, this]
theorem count_set {listed : Array Bool} {i : Nat} (hi : i < listed.size) (hu : listed.getD i false = false) : (listed.setIfInBounds i true).toList.count false + 1 = listed.toList.count false := by
  rw [Array.toList_setIfInBounds]
  exact count_set_false listed.toList i (by simp [hi] at hu ⊢; exact hu)
theorem dst_of {o : Oper} {i : Nat} (hi : ops[i]? = some o) : dstOf ops i = o.dst := by unfold dstOf; rw [hi]; rfl
theorem J2.stepH (hok : okReg2 ops m Hs cls a0.tmps.size = true) {listed : Array Bool} {a : Act} (J : J2 ops Hs cls X a0 listed a) {i d : Nat} {o : Oper} (hi : ops[i]? = some o) (hH : i ∈ Hs) (hd : o.dst = some d)
    (hcl : ∀ j ∈ cls.getD i [], listed.getD j false = true) : J2 ops Hs cls X a0 (listed.setIfInBounds i true) (a.put o.dst (X i)) := by
  have hil : i < ops.length := (List.getElem?_eq_some_iff.1 hi).1
  have hils : i < listed.size := by rw [J.lsize]; exact hil
  obtain ⟨⟨d', hd', hds, huniq⟩, _, _⟩ := ok2_H hok hi hH
  rw [hd] at hd'; cases hd'
  have hput : ∀ t, (a.put o.dst (X i)).tmps.getD t undef = if d = t then X i else a.tmps.getD t undef := fun t => by
    rw [hd, put_getD]
    by_cases e : d = t
    · rw [if_pos ⟨e, by rw [J.size]; exact hds⟩, if_pos e]
    · rw [if_neg (fun h => e h.1), if_neg e]
  refine ⟨by rw [Act.tmps_put_size]; exact J.size, by simp [J.lsize], fun j dj hj hdj hl => ?_, fun t ht => ?_, fun j hj k hk => ?_⟩
  · rw [hput]
    by_cases e : d = dj
    · subst e; rw [if_pos rfl, huniq j hdj]
    · rw [if_neg e]
      rcases (set_iff hils j).1 hl with e2 | e2
      · subst e2; rw [dst_of hi, hd] at hdj; cases hdj; exact absurd rfl e
      · exact J.doneH j dj hj hdj e2
  · rw [hput]
    have hne : d ≠ t := fun e => by
      have := ht i (by rw [dst_of hi, hd, e])
      have h2 := (set_iff hils i).2 (.inl rfl)
      rw [this] at h2; cases h2
    rw [if_neg hne]
    refine J.rest t fun j hj => ?_
    have := ht j hj
    cases hb : listed.getD j false with
    | false => rfl
    | true => rw [(set_iff hils j).2 (.inr hb)] at this; cases this
  · rcases (set_iff hils j).1 hj with e | e
    · subst e; exact (set_iff hils k).2 (.inr (hcl k hk))
    · exact (set_iff hils k).2 (.inr (J.closed j e k hk))
/-- any other one -/
theorem J2.stepT (hok : okReg2 ops m Hs cls a0.tmps.size = true) {listed : Array Bool} {a : Act} (J : J2 ops Hs cls X a0 listed a) {i : Nat} {o : Oper} (hi : ops[i]? = some o) (hH : i ∉ Hs) (v : Value)
    (hcl : ∀ j ∈ cls.getD i [], listed.getD j false = true) : J2 ops Hs cls X a0 (listed.setIfInBounds i true) (a.put o.dst v) := by
  have hil : i < ops.length := (List.getElem?_eq_some_iff.1 hi).1
  have hils : i < listed.size := by rw [J.lsize]; exact hil
  have hput : ∀ t, o.dst ≠ some t → (a.put o.dst v).tmps.getD t undef = a.tmps.getD t undef := fun t ht => by
    cases hd : o.dst with
    | none => rfl
    | some d => rw [put_getD, if_neg (fun h => ht (by rw [hd, h.1]))]
  refine ⟨by rw [Act.tmps_put_size]; exact J.size, by simp [J.lsize], fun j dj hj hdj hl => ?_, fun t ht => ?_, fun j hj k hk => ?_⟩
  · have hji : j ≠ i := fun e => hH (e ▸ hj)
    have hjo : ∃ oj, ops[j]? = some oj := by
      unfold dstOf at hdj
      cases hq : ops[j]? with
      | none => rw [hq] at hdj; cases hdj
      | some oj => exact ⟨oj, rfl⟩
    obtain ⟨oj, hjo⟩ := hjo
    obtain ⟨⟨d', hd', _, huniq⟩, _, _⟩ := ok2_H hok hjo hj
    have hdd : d' = dj := by rw [dst_of hjo, hd'] at hdj; exact Option.some.inj hdj
    subst hdd
    rw [hput]
    · exact J.doneH j _ hj hdj (((set_iff hils j).1 hl).resolve_left hji)
    · intro e
      exact hji (huniq i (by rw [dst_of hi, e])).symm
  · rw [hput]
    · refine J.rest t fun j hj => ?_
      have := ht j hj
      cases hb : listed.getD j false with
      | false => rfl
      | true => rw [(set_iff hils j).2 (.inr hb)] at this; cases this
    · intro e
      have := ht i (by rw [dst_of hi, e])
      have h2 := (set_iff hils i).2 (.inl rfl)
      rw [this] at h2; cases h2
  · rcases (set_iff hils j).1 hj with e | e
    · subst e; exact (set_iff hils k).2 (.inr (hcl k hk))
    · exact (set_iff hils k).2 (.inr (J.closed j e k hk))
theorem count_pos {listed : Array Bool} {i : Nat} (hi : i < listed.size) (hb : listed.getD i false = false) : 0 < listed.toList.count false := by
  refine List.count_pos_iff.2 ?_
  simp [hi] at hb
  exact List.mem_of_getElem? (i := i) (by simp [hi, hb])
theorem count_zero {listed : Array Bool} (h : listed.toList.count false = 0) (i : Nat) (hi : i < listed.size) : listed.getD i false = true := by
  cases hb : listed.getD i false with
  | true => rfl
  | false => have := count_pos hi hb; omega
variable {Fr : List Nat} {T : Nat → Asrt} {w1 : World}
/-- one of the first -/
def ObF (P : Program) (ops : List Oper) (cls : List (List Nat)) (T : Nat → Asrt) (Fr : List Nat) (a0 : Act) (w1 : World) (i : Nat) (o : Oper) : Prop :=
  ∀ (a : Act) (w : World), Ext w1 w → a.tmps.size = a0.tmps.size → a.defers = a0.defers → (∀ t ∈ o.looksAt ops.toArray, SlotOk ops T (cls.getD i []) a0 a w t) →
    if Region.wanted o (yielded ops.toArray a.tmps) then Does P o a.eval w (fun v w' => T i v w' ∧ Ext w w' ∧ (i ∈ Fr → ∀ k ∈ vks v, w.heap.size ≤ k ∧ k < w'.heap.size)) else T i undef w
structure J1 (ops : List Oper) (m : Nat) (Hs : List Nat) (cls : List (List Nat)) (X : Nat → Value) (Fr : List Nat) (T : Nat → Asrt) (a0 : Act) (w1 : World) (listed : Array Bool) (a : Act) (w : World) : Prop where
  J : J2 ops Hs cls X a0 listed a
  ext : Ext w1 w
  defers : a.defers = a0.defers
  tail : ∀ i, m ≤ i → i ∉ Hs → listed.getD i false = false
  done : ∀ i d, i < m → i ∉ Hs → dstOf ops i = some d → listed.getD i false = true → T i (a.tmps.getD d undef) w
  fresh : ∀ i ∈ Fr, ∀ d, dstOf ops i = some d → listed.getD i false = true → ∀ k ∈ vks (a.tmps.getD d undef), w1.heap.size ≤ k ∧ k < w.heap.size
  disj : ∀ i ∈ Fr, ∀ j ∈ Fr, i ≠ j → ∀ d e, dstOf ops i = some d → dstOf ops j = some e → listed.getD i false = true → listed.getD j false = true → ∀ k ∈ vks (a.tmps.getD d undef), k ∉ vks (a.tmps.getD e undef)
def fillH (ops : List Oper) (X : Nat → Value) : List Nat → Act → Act
  | [], a => a
  | i :: l, a => fillH ops X l (a.put (dstOf ops i) (X i))
theorem fillH_size (l : List Nat) : ∀ a : Act, (fillH ops X l a).tmps.size = a.tmps.size := by
  induction l with
  | nil => intro a; rfl
  | cons i l ih => intro a; rw [fillH, ih, Act.tmps_put_size]
theorem fillH_defers (l : List Nat) : ∀ a : Act, (fillH ops X l a).defers = a.defers := by
  induction l with
  | nil => intro a; rfl
  | cons i l ih => intro a; rw [fillH, ih]; cases dstOf ops i <;> rfl
theorem fillH_none (l : List Nat) (t : Nat) (h : ∀ i ∈ l, dstOf ops i ≠ some t) : ∀ a : Act, (fillH ops X l a).tmps.getD t undef = a.tmps.getD t undef := by
  induction l with
  | nil => intro a; rfl
  | cons i l ih =>
    intro a
    rw [fillH]
    rw [ih (fun j hj => h j (List.mem_cons_of_mem _ hj))]
    cases hd : dstOf ops i with
    | none => rfl
    | some d => rw [put_getD, if_neg (fun e => h i List.mem_cons_self (by rw [hd, e.1]))]
theorem fillH_some (l : List Nat) (t : Nat) (i : Nat) (hi : i ∈ l) (hd : dstOf ops i = some t) (hu : ∀ j ∈ l, dstOf ops j = some t → j = i) : ∀ a : Act, t < a.tmps.size → (fillH ops X l a).tmps.getD t undef = X i := by
  induction l with
  | nil => cases hi
  | cons j l ih =>
    intro a hs
    rw [fillH]
    by_cases hm : i ∈ l
    · exact ih hm (fun k hk => hu k (List.mem_cons_of_mem _ hk)) _ (by rw [Act.tmps_put_size]; exact hs)
    · have hij : i = j := (List.mem_cons.1 hi).resolve_right hm
      subst hij
      rw [fillH_none l t (fun k hk e => hm (hu k (List.mem_cons_of_mem _ hk) e ▸ hk)), hd, put_getD, if_pos ⟨rfl, hs⟩]
theorem getD_lt {i : Nat} {t : Tmp} (h : dstOf ops i = some t) : ∃ o, ops[i]? = some o ∧ o.dst = some t := by
  unfold dstOf at h
  cases hq : ops[i]? with
  | none => rw [hq] at h; cases h
  | some o => rw [hq] at h; exact ⟨o, rfl, h⟩
end law
end Go.Proofs.Ythjkhnhiciamaaa

namespace Go.Proofs.Ythjkhnhiciamaaa
open Go.RowKit
/-! ### the law, with frames -/
section
variable {P : Program} {ops : List Oper} {cls : List (List Nat)} {Ts : List Asrt} {a0 : Act}
def KF (T : Asrt) (fr : Bool) (d : Tmp) (w : World) : Act → World → Prop := fun a' w' => T (a'.tmps.getD d undef) w' ∧ Ext w w' ∧ (fr = true → ∀ k ∈ vks (a'.tmps.getD d undef), w.heap.size ≤ k ∧ k < w'.heap.size)
def KH (T : Asrt) (d : Tmp) (w : World) : Act → World → Prop := fun a' w' => T (a'.tmps.getD d undef) w' ∧ w' = w
def TsF (Ts : List Asrt) (j : Nat) : Asrt := Ts.getD j (is undef)
/-- what is asked of one operation -/
def ObX (P : Program) (ops : List Oper) (m : Nat) (Hs Fr : List Nat) (cls : List (List Nat)) (Ts : List Asrt) (Wp : World → Prop) (N : Nat) (Df : List Deferred) (a0 : Act) (w1 : World) (i : Nat) (o : Oper) : Prop :=
  if Hs.contains i then ∀ (a : Act) (w : World) (d : Tmp), o.dst = some d → Wp w → a.tmps.size = N → (∀ t ∈ o.looksAt ops.toArray, SlotOk ops (TsF Ts) (cls.getD i []) a0 a w t) → Lst P ops.toArray (KH (TsF Ts i) d w) [o] a w
  else if i < m then ∀ (a : Act) (w : World) (d : Tmp), o.dst = some d → Ext w1 w → a.tmps.size = N → a.defers = Df → (∀ t ∈ o.looksAt ops.toArray, SlotOk ops (TsF Ts) (cls.getD i []) a0 a w t) → Lst P ops.toArray (KF (TsF Ts i) (Fr.contains i) d w) [o] a w
  else True
def AllX (P : Program) (ops : List Oper) (m : Nat) (Hs Fr : List Nat) (cls : List (List Nat)) (Ts : List Asrt) (Wp : World → Prop) (N : Nat) (Df : List Deferred) (a0 : Act) (w1 : World) : List Oper → Nat → Prop
  | [], _ => True
  | o :: r, i => ObX P ops m Hs Fr cls Ts Wp N Df a0 w1 i o ∧ AllX P ops m Hs Fr cls Ts Wp N Df a0 w1 r (i + 1)
theorem allX_get {P : Program} {ops : List Oper} {m : Nat} {Hs Fr : List Nat} {cls : List (List Nat)} {Ts : List Asrt} {Wp : World → Prop} {N : Nat} {Df : List Deferred} {a0 : Act} {w1 : World} : ∀ {l : List Oper} {k : Nat}, AllX P ops m Hs Fr cls Ts Wp N Df a0 w1 l k → ∀ i o, l[i]? = some o → ObX P ops m Hs Fr cls Ts Wp N Df a0 w1 (k + i) o
  | [], _, _, i, o, h => by simp at h
  | x :: r, k, H, 0, o, h => by simp at h; subst h; exact H.1
  | x :: r, k, H, i + 1, o, h => by
    have := allX_get H.2 i o (by simpa using h)
    rwa [show k + 1 + i = k + (i + 1) from by omega] at this
/-- those that may come at any time yield values -/
def isX (Ts : List Asrt) : List Nat → Prop
  | [] => True
  | i :: r => (∃ x, TsF Ts i = is x) ∧ isX Ts r
theorem isX_mem {Ts : List Asrt} : ∀ {l : List Nat}, isX Ts l → ∀ i ∈ l, ∃ x, TsF Ts i = is x
  | [], _, i, hi => by cases hi
  | j :: r, h, i, hi => by
    rcases List.mem_cons.1 hi with e | e
    · subst e; exact h.1
    · exact isX_mem h.2 i e
def frOk (m : Nat) (Hs Fr : List Nat) : Bool := Fr.all fun i => decide (i < m) && !Hs.contains i
theorem obH_in {m : Nat} {Hs Fr : List Nat} {Wp : World → Prop} {N : Nat} {Df : List Deferred} {w1 : World} {i : Nat} {o : Oper} (d : Tmp) (hd : o.dst = some d) (hc : Hs.contains i = true)
    (h : ∀ (a : Act) (w : World), Wp w → a.tmps.size = N → (∀ t ∈ o.looksAt ops.toArray, SlotOk ops (TsF Ts) (cls.getD i []) a0 a w t) → Lst P ops.toArray (KH (TsF Ts i) d w) [o] a w) : ObX P ops m Hs Fr cls Ts Wp N Df a0 w1 i o := by
  unfold ObX
  rw [if_pos hc]
  intro a w d' hd'
  rw [hd] at hd'; cases hd'
  exact h a w
theorem obF_in {m : Nat} {Hs Fr : List Nat} {Wp : World → Prop} {N : Nat} {Df : List Deferred} {w1 : World} {i : Nat} {o : Oper} (d : Tmp) (hd : o.dst = some d) (hc : Hs.contains i = false) (hm : Nat.blt i m = true)
    (h : ∀ (a : Act) (w : World), Ext w1 w → a.tmps.size = N → a.defers = Df → (∀ t ∈ o.looksAt ops.toArray, SlotOk ops (TsF Ts) (cls.getD i []) a0 a w t) → Lst P ops.toArray (KF (TsF Ts i) (Fr.contains i) d w) [o] a w) : ObX P ops m Hs Fr cls Ts Wp N Df a0 w1 i o := by
  have hm' : i < m := Nat.le_of_ble_eq_true hm
  unfold ObX
  rw [if_neg (by rw [hc]; decide), if_pos hm']
  intro a w d' hd'
  rw [hd] at hd'; cases hd'
  exact h a w
theorem obT_in {m : Nat} {Hs Fr : List Nat} {Wp : World → Prop} {N : Nat} {Df : List Deferred} {w1 : World} {i : Nat} {o : Oper} (hc : Hs.contains i = false) (hm : Nat.blt i m = false) : ObX P ops m Hs Fr cls Ts Wp N Df a0 w1 i o := by
  have hm' : ¬ i < m := fun h9 => by rw [show Nat.blt i m = true from Nat.ble_eq_true_of_le h9] at hm; cases hm
  unfold ObX
  rw [if_neg (by rw [hc]; decide), if_neg hm']
  trivial
theorem sx_get {cl : List Nat} {a : Act} {w : World} {lk9 : List Tmp} (hl : ∀ t ∈ lk9, SlotOk ops (TsF Ts) cl a0 a w t) (t j : Nat) (hm : lk9.contains t = true) (hw : writer ops cl t = some j) : TsF Ts j (a.tmps.getD t undef) w := by
  have := hl t (List.contains_iff_mem.1 hm)
  unfold SlotOk at this
  rw [hw] at this
  exact this
theorem sx_old {cl : List Nat} {a : Act} {w : World} {lk9 : List Tmp} (hl : ∀ t ∈ lk9, SlotOk ops (TsF Ts) cl a0 a w t) (t : Nat) (hm : lk9.contains t = true) (hw : writer ops cl t = none) {v : Value} (hv : a0.tmps.getD t undef = v) : a.tmps.getD t undef = v := by
  have := hl t (List.contains_iff_mem.1 hm)
  unfold SlotOk at this
  rw [hw] at this
  exact this.trans hv
/-- behind a region: what was written, and what was known -/
theorem sl_new {N : Nat} {L : List (Nat × Value)} {Df : List Deferred} {b : Act} {mH : Nat → Bool} (news : List (Nat × Value)) (h : Sl N a0 L Df) (hs : b.tmps.size = N) (hd : b.defers = Df)
    (hR : ∀ t, ((List.range ops.length).all fun i => !(mH i) || decide (dstOf ops i ≠ some t)) = true → b.tmps.getD t undef = a0.tmps.getD t undef) (hn : Holds b news)
    (hc : ((List.range ops.length).all fun i => !(mH i) || match dstOf ops i with | some t => news.any (fun p => Nat.beq p.1 t) | none => true) = true) : Sl N b (news ++ L) Df := by
  refine ⟨hs, hd, fun t v ht => ?_⟩
  have key : ∀ (news : List (Nat × Value)), Holds b news → lk (news ++ L) t = some v → b.tmps.getD t undef = v ∨ (lk L t = some v ∧ news.any (fun p => Nat.beq p.1 t) = false) := by
    intro news
    induction news with
    | nil => intro _ h1; exact .inr ⟨h1, rfl⟩
    | cons p r ih =>
      obtain ⟨k, u⟩ := p
      intro hh h1
      rw [List.cons_append] at h1
      unfold lk at h1
      cases hb : Nat.beq k t with
      | true =>
        rw [hb] at h1
        simp at h1
        have e : k = t := by simpa using hb
        subst e; subst h1
        exact .inl hh.1
      | false =>
        rw [hb] at h1
        rcases ih hh.2 h1 with h2 | ⟨h2, h3⟩
        · exact .inl h2
        · exact .inr ⟨h2, by simp [hb, h3]⟩
  rcases key news hn ht with h1 | ⟨h1, h2⟩
  · exact h1
  · rw [hR t (List.all_eq_true.2 fun i hi => ?_)]
    · exact h.holds t v h1
    · have h3 := List.all_eq_true.1 hc i hi
      cases hmi : mH i with
      | false => simp
      | true =>
        rw [hmi] at h3
        simp only [Bool.not_true, Bool.false_or, decide_eq_true_eq, ne_eq]
        intro e
        rw [e] at h3
        simp only [Bool.not_true, Bool.false_or] at h3
        rw [h3] at h2; cases h2
end
/-- behind a region: new blocks -/
theorem St.join {w0 w1 w : World} {B : List Own} (s : St w0 B w1) (hE : Ext w1 w) (F : List Own) (hF : ∀ p ∈ F, p.holds w0 w) (hk : ∀ p ∈ F, ∀ k, p.at k → w1.heap.size ≤ k) (hnd : F.Pairwise fun p q => ∀ k, p.at k → ¬ q.at k) : St w0 (F ++ B) w := by
  have s2 := s.more hE
  refine ⟨s2.ext, fun p hp => ?_, fun p hp k hpk => ?_, List.pairwise_append.2 ⟨hnd, s2.nd, fun p hp q hq k hpk hqk => ?_⟩⟩
  · rcases List.mem_append.1 hp with h | h
    · exact hF p h
    · exact s2.has p h
  · rcases List.mem_append.1 hp with h | h
    · exact Nat.le_trans s.ext.le (hk p h k hpk)
    · exact s2.own p h k hpk
  · have h1 := hk p hp k hpk
    have h2 := Own.lt (s.has q hq) hqk
    omega
theorem St.join1 {w0 w1 w : World} {B : List Own} (s : St w0 B w1) (hE : Ext w1 w) (p : Own) (hF : p.holds w0 w) (hk : ∀ k, p.at k → w1.heap.size ≤ k) : St w0 (p :: B) w :=
  s.join hE [p] (fun q hq => by rw [List.mem_singleton] at hq; subst hq; exact hF) (fun q hq => by rw [List.mem_singleton] at hq; subst hq; exact hk) (List.pairwise_singleton _ _)
end Go.Proofs.Ythjkhnhiciamaaa

namespace Go.Proofs.Ythjkhnhiciamaaa
open Go.RowKit
/-! ### equality of values of several cells -/
structure EqV (P : Program) (D : Nat) (e : TypeId) (sz : Nat) (V : List Value → Prop) (vl : List Value → Value) : Prop where
  len : ∀ xs, V xs → xs.length = sz
  size : (P.info? e).map (·.size) = some sz
  part : ∀ (cs : Array Value) (off : Nat) (w : World), V ((cs.toList.drop off).take sz) → (part e cs off).run P w = .ok (vl ((cs.toList.drop off).take sz)) w
  eq : ∀ (d : Nat) (xs ys : List Value) (w : World), V xs → V ys → ∃ r : Bool, (Op.equalIn (d + D) e (vl xs) (vl ys)).run P w = .ok r w ∧ (r = true ↔ xs = ys)
theorem run_sizeOf {P : Program} {e : TypeId} {sz : Nat} (h : (P.info? e).map (·.size) = some sz) (w : World) : (sizeOf e).run P w = .ok sz w := by
  cases hi : P.info? e with
  | none => simp [hi] at h
  | some i => simp [hi] at h; simp [sizeOf, typeInfo, Sem.run_bind, hi, h]
def hd1 (xs : List Value) : Value := xs.headD undef
def agV (xs : List Value) : Value := .agg xs.toArray
theorem EqV.int {P : Program} {e : TypeId} (k : IntKind) (he : P.underlying e = some (.int k)) (hs : (P.info? e).map (·.size) = some 1) : EqV P 1 e 1 (fun xs => ∃ n, xs = [.int k n]) hd1 := by
  refine ⟨fun xs ⟨n, h⟩ => by rw [h]; rfl, hs, fun cs off w ⟨n, h⟩ => ?_, fun d xs ys w ⟨m, hx⟩ ⟨n, hy⟩ => ?_⟩
  · have h1 : (isAgg e).run P w = .ok false w := by
      unfold isAgg; rw [Sem.run_bind, run_underlying he w]; rfl
    have h2 : cs[off]? = some (.int k n) := by
      have := congrArg (fun l => l[0]?) h
      simpa [List.getElem?_take, List.getElem?_drop] using this
    simp only [Go.part, Sem.run_bind, h1, Result.andThen_ok, Bool.false_eq_true, if_false, h2, h]
    rfl
  · subst hx; subst hy
    exact ⟨m == n, run_equalIn_int w d e k k m n he, by simp⟩
theorem EqV.str {P : Program} {e : TypeId} (he : P.underlying e = some .string) (hs : (P.info? e).map (·.size) = some 1) : EqV P 1 e 1 (fun xs => ∃ n, xs = [.string n]) hd1 := by
  refine ⟨fun xs ⟨n, h⟩ => by rw [h]; rfl, hs, fun cs off w ⟨n, h⟩ => ?_, fun d xs ys w ⟨m, hx⟩ ⟨n, hy⟩ => ?_⟩
  · have h1 : (isAgg e).run P w = .ok false w := by
      unfold isAgg; rw [Sem.run_bind, run_underlying he w]; rfl
    have h2 : cs[off]? = some (.string n) := by
      have := congrArg (fun l => l[0]?) h
      simpa [List.getElem?_take, List.getElem?_drop] using this
    simp only [Go.part, Sem.run_bind, h1, Result.andThen_ok, Bool.false_eq_true, if_false, h2, h]
    rfl
  · subst hx; subst hy
    refine ⟨m == n, by rw [beq_toListBytes]; exact run_equalIn_string w d e m n he, ?_⟩
    rw [beq_toListBytes, ByteArray.toList_eq, ByteArray.toList_eq, beq_iff_eq]
    simp only [List.cons.injEq, Value.string.injEq, and_true]
    exact ⟨fun h => ByteArray.ext (Array.toList_inj.1 h), fun h => by rw [h]⟩
theorem EqV.bool {P : Program} {e : TypeId} (he : P.underlying e = some .bool) (hs : (P.info? e).map (·.size) = some 1) : EqV P 1 e 1 (fun xs => ∃ n, xs = [.bool n]) hd1 := by
  refine ⟨fun xs ⟨n, h⟩ => by rw [h]; rfl, hs, fun cs off w ⟨n, h⟩ => ?_, fun d xs ys w ⟨m, hx⟩ ⟨n, hy⟩ => ?_⟩
  · have h1 : (isAgg e).run P w = .ok false w := by
      unfold isAgg; rw [Sem.run_bind, run_underlying he w]; rfl
    have h2 : cs[off]? = some (.bool n) := by
      have := congrArg (fun l => l[0]?) h
      simpa [List.getElem?_take, List.getElem?_drop] using this
    simp only [Go.part, Sem.run_bind, h1, Result.andThen_ok, Bool.false_eq_true, if_false, h2, h]
    rfl
  · subst hx; subst hy
    exact ⟨m == n, run_equalIn_bool w d e m n he, by simp⟩
theorem run_part_agg {P : Program} {t : TypeId} {sz : Nat} (hd : ∃ dsc, P.underlying t = some dsc ∧ rowB dsc = true) (hs : (P.info? t).map (·.size) = some sz) (cs : Array Value) (off : Nat) (w : World) (hl : ((cs.toList.drop off).take sz).length = sz) :
    (part t cs off).run P w = .ok (agV ((cs.toList.drop off).take sz)) w := by
  obtain ⟨dsc, h1, h2⟩ := hd
  have h3 : (isAgg t).run P w = .ok true w := by
    unfold isAgg; rw [Sem.run_bind, run_underlying h1 w]
    cases dsc <;> first | rfl | cases h2
  simp only [Go.part, Sem.run_bind, h3, Result.andThen_ok, if_true, run_sizeOf hs w, Sem.run_pure]
  congr 1
  unfold agV
  congr 1
  apply Array.ext'
  rw [Array.toList_extract, List.extract_eq_take_drop]
  rw [show off + sz - off = sz from by omega]
theorem EqV.arr {P : Program} {t e : TypeId} {D n sz : Nat} {V : List Value → Prop} {vl : List Value → Value} (E : EqV P D e sz V vl) (ht : P.underlying t = some (.array n e)) (hs : (P.info? t).map (·.size) = some (n * sz)) :
    EqV P (D + 1) t (n * sz) (fun xs => xs.length = n * sz ∧ ∀ i, i < n → V ((xs.drop (i * sz)).take sz)) agV := by
  refine ⟨fun xs h => h.1, hs, fun cs off w h => run_part_agg ⟨_, ht, rfl⟩ hs cs off w h.1, fun d xs ys w ⟨hxl, hx⟩ ⟨hyl, hy⟩ => ?_⟩
  have hc : ∀ i, ∃ r : Bool, i < n → (Op.equalIn (d + D) e (vl ((xs.drop (i * sz)).take sz)) (vl ((ys.drop (i * sz)).take sz))).run P w = .ok r w ∧ (r = true ↔ (xs.drop (i * sz)).take sz = (ys.drop (i * sz)).take sz) := fun i => by
    by_cases hi : i < n
    · obtain ⟨r, h1, h2⟩ := E.eq d _ _ w (hx i hi) (hy i hi)
      exact ⟨r, fun _ => ⟨h1, h2⟩⟩
    · exact ⟨true, fun h => absurd h hi⟩
  obtain ⟨c, hc⟩ := Classical.axiomOfChoice hc
  have hloop : ∀ (F : Nat → Option Bool × Unit → Sem (ForInStep (Option Bool × Unit))), (∀ i, i < n → ∀ r, (F i r).run P w = if c i = true then .ok (.yield (none, ())) w else .ok (.done (some false, ())) w) →
      ∀ k s, s + k ≤ n → (forIn (List.range' s k) ((none, ()) : Option Bool × Unit) F).run P w = .ok (if (List.range' s k).all c = true then none else some false, ()) w := by
    intro F hF k
    induction k with
    | zero => intro s _; simp
    | succ k ih =>
      intro s hs
      simp only [List.range'_succ, List.forIn_cons, Sem.run_bind, hF s (by omega)]
      by_cases h : c s = true
      · rw [if_pos h]
        simp only [Result.andThen_ok]
        rw [ih (s + 1) (by omega)]
        simp only [List.all_cons, h, Bool.true_and]
      · rw [if_neg h]
        simp [h]
  have hrun : (Op.equalIn (d + D + 1) t (.agg xs.toArray) (.agg ys.toArray)).run P w = .ok ((List.range' 0 n).all c) w := by
    unfold Op.equalIn
    simp only [Sem.run_bind, run_underlying ht w, Result.andThen_ok, run_sizeOf E.size w]
    simp only [Std.Legacy.Range.forIn_eq_forIn_range']
    rw [hloop _ (fun i hi r => by
      have h1 := E.part xs.toArray (i * sz) w (by simpa using hx i hi)
      have h2 := E.part ys.toArray (i * sz) w (by simpa using hy i hi)
      simp only [] at h1 h2
      simp only [Sem.run_bind, h1, h2, Result.andThen_ok, (hc i hi).1]
      by_cases h : c i = true <;> simp [h]) _ 0 (by simp [Std.Legacy.Range.size])]
    simp only [Result.andThen_ok]
    have e : [:n].size = n := by simp [Std.Legacy.Range.size]
    rw [e]
    by_cases h : (List.range' 0 n).all c = true
    · rw [if_pos h, h]; rfl
    · rw [if_neg h]
      simp only [Bool.not_eq_true] at h
      rw [h]; rfl
  refine ⟨_, hrun, ?_⟩
  constructor
  · intro g
    have key : ∀ k, k ≤ n → xs.take (k * sz) = ys.take (k * sz) := by
      intro k
      induction k with
      | zero => intro _; simp
      | succ k ih =>
        intro hk
        have h1 := ih (by omega)
        have h2 := (hc k (by omega)).2.1 (List.all_eq_true.1 g k (by simp [List.mem_range']; omega))
        rw [Nat.succ_mul, List.take_add, List.take_add, h1, h2]
    have h3 := key n (Nat.le_refl _)
    rw [List.take_of_length_le (by omega), List.take_of_length_le (by omega)] at h3
    exact h3
  · intro e
    subst e
    refine List.all_eq_true.2 fun i hi => ?_
    exact (hc i (by simp [List.mem_range'] at hi; omega)).2.2 rfl
/-- the fields of a struct: how far, of what type, how many cells -/
def FsV (P : Program) (D : Nat) : List Field → List (Nat × (List Value → Prop)) → Prop
  | [], [] => True
  | f :: fs, (sz, V) :: r => f.name ≠ "_" ∧ (∃ vl, EqV P D f.type sz V vl) ∧ FsV P D fs r
  | _, _ => False
def cutF (xs : List Value) (f : Field) (sz : Nat) : List Value := (xs.drop f.offset).take sz
def FsHas (xs : List Value) : List Field → List (Nat × (List Value → Prop)) → Prop
  | f :: fs, (sz, V) :: r => V (cutF xs f sz) ∧ FsHas xs fs r
  | _, _ => True
def FsSame (xs ys : List Value) : List Field → List (Nat × (List Value → Prop)) → Prop
  | f :: fs, (sz, _) :: r => cutF xs f sz = cutF ys f sz ∧ FsSame xs ys fs r
  | _, _ => True
theorem run_eqFieldsV {P : Program} {D : Nat} (d : Nat) (xs ys : List Value) (w : World) : ∀ (fs : List Field) (r : List (Nat × (List Value → Prop))), FsV P D fs r → FsHas xs fs r → FsHas ys fs r →
    ∃ b : Bool, (Op.eqFields (d + D) xs.toArray ys.toArray fs).run P w = .ok b w ∧ (b = true ↔ FsSame xs ys fs r)
  | [], [], _, _, _ => ⟨true, by simp [Op.eqFields], by simp [FsSame]⟩
  | [], _ :: _, h, _, _ => h.elim
  | f :: fs, [], h, _, _ => h.elim
  | f :: fs, (sz, V) :: r, ⟨hn, ⟨vl, E⟩, hr⟩, ⟨hx, hxr⟩, ⟨hy, hyr⟩ => by
    obtain ⟨b, h1, h2⟩ := run_eqFieldsV d xs ys w fs r hr hxr hyr
    obtain ⟨c, h3, h4⟩ := E.eq d _ _ w hx hy
    have p1 := E.part xs.toArray f.offset w (by simpa [cutF] using hx)
    have p2 := E.part ys.toArray f.offset w (by simpa [cutF] using hy)
    simp only [] at p1 p2
    unfold cutF at h3 h4
    simp only [Op.eqFields, hn, ne_eq, not_false_eq_true, if_true, Sem.run_bind, p1, p2, Result.andThen_ok, h3]
    cases c
    · refine ⟨false, by simp, ?_⟩
      simp only [Bool.false_eq_true, false_iff]
      intro h
      exact absurd (h4.2 h.1) (by simp)
    · refine ⟨b, by simpa using h1, ?_⟩
      rw [h2]
      exact ⟨fun h => ⟨h4.1 rfl, h⟩, fun h => h.2⟩
/-- the fields lie one behind the other, and there is nothing else -/
def FsCover : Nat → List Field → List (Nat × (List Value → Prop)) → Nat → Prop
  | k, f :: fs, (sz, _) :: r, n => f.offset = k ∧ FsCover (k + sz) fs r n
  | k, [], [], n => k = n
  | _, _, _, _ => False
theorem cover_same {xs ys : List Value} {n : Nat} (hx : xs.length = n) (hy : ys.length = n) : ∀ (fs : List Field) (r : List (Nat × (List Value → Prop))) (k : Nat), FsCover k fs r n → xs.take k = ys.take k → FsSame xs ys fs r → xs = ys
  | [], [], k, h, e, _ => by
    have h' : k = n := h
    subst h'
    rw [List.take_of_length_le (by omega), List.take_of_length_le (by omega)] at e
    exact e
  | [], _ :: _, _, h, _, _ => h.elim
  | _ :: _, [], _, h, _, _ => h.elim
  | f :: fs, (sz, V) :: r, k, h, e, hs => by
    obtain ⟨h1, h2⟩ := h
    refine cover_same hx hy fs r (k + sz) h2 ?_ hs.2
    have h3 := hs.1
    unfold cutF at h3
    rw [h1] at h3
    rw [List.take_add, List.take_add, e, h3]
theorem fsSame_refl (xs : List Value) : ∀ (fs : List Field) (r : List (Nat × (List Value → Prop))), FsSame xs xs fs r
  | [], _ => by simp [FsSame]
  | _ :: _, [] => by simp [FsSame]
  | f :: fs, (sz, V) :: r => ⟨rfl, fsSame_refl xs fs r⟩
theorem EqV.struct {P : Program} {t : TypeId} {D n : Nat} (r : List (Nat × (List Value → Prop))) (ht : P.underlying t = some (.struct (P.fieldsOf t))) (hp : P.stoodInHeld t = false) (hs : (P.info? t).map (·.size) = some n)
    (hf : FsV P D (P.fieldsOf t).toList r) (hc : FsCover 0 (P.fieldsOf t).toList r n) :
    EqV P (D + 1) t n (fun xs => xs.length = n ∧ FsHas xs (P.fieldsOf t).toList r) agV := by
  refine ⟨fun xs h => h.1, hs, fun cs off w h => run_part_agg ⟨_, ht, rfl⟩ hs cs off w h.1, fun d xs ys w ⟨hxl, hx⟩ ⟨hyl, hy⟩ => ?_⟩
  obtain ⟨b, h1, h2⟩ := run_eqFieldsV d xs ys w _ r hf hx hy
  refine ⟨b, ?_, h2.trans ⟨fun h => cover_same hxl hyl _ r 0 hc (by simp) h, fun e => by subst e; exact fsSame_refl _ _ _⟩⟩
  rw [← h1]
  exact run_equalIn_struct w (d + D) t xs.toArray ys.toArray ht hp
section
variable {P : Program} {ρ : Operand → Value} {d : Option Tmp} {ty : TypeId} {pos : String} {af : Array Edge} {g : Option (Nat × Bool)} {a b : Operand} {t t' : TypeId} {D n : Nat} {V : List Value → Prop}
theorem ru_eqlV (E : EqV P D t n V agV) (hg : P.eqGuardType P.depth t = false) (hD : Nat.ble D 10000 = true) {X Y : Array Value} (hx : ρ a = .agg X) (hy : ρ b = .agg Y) (hX : V X.toList) (hY : V Y.toList) (p : Bool) (hp : p = true ↔ X.toList = Y.toList) :
    RunsTo P ⟨d, .binOp .eql t a b t', ty, pos, af, g⟩ ρ (.bool p) := fun w => by
  obtain ⟨r, h1, h2⟩ := E.eq (10000 - D) _ _ w hX hY
  have hD' : 10000 - D + D = 10000 := by have : D ≤ 10000 := by simpa using hD
                                         omega
  rw [hD'] at h1
  have hr : r = p := by rw [Bool.eq_iff_iff, h2, hp]
  have h3 : (Op.equalIn 10000 t (.agg X) (.agg Y)).run P w = .ok r w := by simpa [agV] using h1
  simp only [execOp, hx, hy, Sem.run_bind, run_eqGuard_agg w .eql t a b _ _ hg, Result.andThen_ok, run_eql_struct, h3, hr, Sem.run_pure]
theorem ru_neqV (E : EqV P D t n V agV) (hg : P.eqGuardType P.depth t = false) (hD : Nat.ble D 10000 = true) {X Y : Array Value} (hx : ρ a = .agg X) (hy : ρ b = .agg Y) (hX : V X.toList) (hY : V Y.toList) (p : Bool) (hp : p = true ↔ X.toList = Y.toList) :
    RunsTo P ⟨d, .binOp .neq t a b t', ty, pos, af, g⟩ ρ (.bool (!p)) := fun w => by
  obtain ⟨r, h1, h2⟩ := E.eq (10000 - D) _ _ w hX hY
  have hD' : 10000 - D + D = 10000 := by have : D ≤ 10000 := by simpa using hD
                                         omega
  rw [hD'] at h1
  have hr : r = p := by rw [Bool.eq_iff_iff, h2, hp]
  have h3 : (Op.equalIn 10000 t (.agg X) (.agg Y)).run P w = .ok r w := by simpa [agV] using h1
  simp only [execOp, hx, hy, Sem.run_bind, run_eqGuard_agg w .neq t a b _ _ hg, Result.andThen_ok, run_neq_struct, h3, hr, Sem.run_pure]
end
end Go.Proofs.Ythjkhnhiciamaaa

namespace Go.Proofs.Ythjkhnhiciamaaa
open Go.RowKit
/-! ### what lies at an address -/
theorem add_add (p : Addr) (i j : Nat) : (p.add i).add j = p.add (i + j) := by
  unfold Addr.add
  by_cases hi : i = 0
  · subst hi; simp
  · by_cases hj : j = 0
    · subst hj; simp [hi]
    · simp [hi, hj, Nat.add_assoc]
def Has (w : World) (p : Addr) (C : Array Value) : Prop := ∀ j v, C[j]? = some v → w.cell? (p.add j) = some v
theorem Has.ext {w w' : World} {p : Addr} {C : Array Value} (h : Has w p C) (e : Ext w w') : Has w' p C := fun j v hv => by
  have := h j v hv
  rw [e.cell (cell_lt this)]; exact this
theorem Has.sub {w : World} {p : Addr} {C : Array Value} (h : Has w p C) (o n : Nat) {D : Array Value} (hD : C.extract o (o + n) = D) : Has w (p.add o) D := fun j v hv => by
  subst hD
  rw [add_add]
  refine h (o + j) v ?_
  rw [Array.getElem?_extract] at hv
  split at hv
  · exact hv
  · cases hv
theorem Has.of_blk {w : World} {b : Nat} {C : Array Value} {u : TypeId} {fr : Nat × Nat} (h : w.heap[b]? = some (.cells C u fr)) : Has w ⟨b, 0, none⟩ C := fun j v hv => by
  have hadd : (⟨b, 0, none⟩ : Addr).add j = ⟨b, j, none⟩ := by unfold Addr.add; split <;> simp_all
  rw [hadd, cell_of_row w b j C u fr h]; exact hv
theorem Has.of_tab {w : World} {g : Nat} {C : Array Value} (h : Tab w g C) : Has w ⟨g, 0, none⟩ C := by
  obtain ⟨t, fr, h⟩ := h
  exact Has.of_blk h
theorem Has.of_own {w0 w : World} {B : List Own} (s : St w0 B w) (i : Nat) {b : Nat} {C : Array Value} {u : TypeId} (hi : B[i]? = some (.blk b (.cells C u))) : Has w ⟨b, 0, none⟩ C := Has.of_blk (s.get i hi)
theorem Tab.of_own {w0 w : World} {B : List Own} (s : St w0 B w) (i : Nat) {b : Nat} {C : Array Value} {u : TypeId} (hi : B[i]? = some (.blk b (.cells C u))) : Tab w b C := ⟨u, (0, 0), s.get i hi⟩
theorem run_load_at {P : Program} {t : TypeId} {n : Nat} (hr : Row P t n) (w : World) (p : Addr) (C : Array Value) (h : Has w p C) (hn : C.size = n) : (loadVar t p).run P w = .ok (.agg C) w := by
  obtain ⟨dsc, h1, h2⟩ := hr.desc
  have h3 : (isAgg t).run P w = .ok true w := by
    unfold isAgg; rw [Sem.run_bind, run_underlying h1 w]
    cases dsc <;> first | rfl | cases h2
  have h4 := run_loadCells_list (P := P) w p C.toList (fun j v hv => h j v (by simpa using hv))
  rw [Array.length_toList, hn] at h4
  simp [loadVar, Sem.run_bind, h3, run_sizeOf hr.size w, h4]
section
variable {P : Program} {ops : Array Oper} {Q : Act → World → Prop} {l : List Oper} {a : Act} {w w0 : World} {N : Nat} {L : List (Nat × Value)} {Df : List Deferred} {B : List Own} {d : Tmp} {ty : TypeId} {pos : String} {af : Array Edge} {x y : Operand} {t t' e : TypeId}
/-- a variable of several cells is read, wherever it lies -/
theorem s_load_at {n : Nat} {p : Addr} {C : Array Value} (hH : Has w p C) (h : Sl N a L Df) (hr : Row P t n) (hx : evo L x = some (.pointer (some p))) (hn : C.size = n) (hd : Nat.blt d N = true)
    (k : ∀ a', Sl N a' ((d, .agg C) :: L) Df → Lst P ops Q l a' w) : Lst P ops Q (⟨some d, .load t x, ty, pos, af, none⟩ :: l) a w :=
  s_does (R := fun v w' => v = .agg C ∧ w' = w) h (by
    unfold Does
    simp only [execOp, h.ev hx, Instr.loadAt, Instr.sureAddr, Sem.run_bind, Sem.run_pure, Result.andThen_ok, run_load_at hr w p C hH hn]
    first | exact ⟨rfl, rfl⟩ | exact ⟨trivial, rfl⟩ | exact ⟨trivial, trivial⟩ | trivial) hd fun a' w' v ⟨h1, h2⟩ hs => by subst h1; subst h2; exact k a' hs
theorem s_load_at1 {p : Addr} {V : Value} (hH : w.cell? p = some V) (h : Sl N a L Df) (ho : One P t) (hx : evo L x = some (.pointer (some p))) (hd : Nat.blt d N = true)
    (k : ∀ a', Sl N a' ((d, V) :: L) Df → Lst P ops Q l a' w) : Lst P ops Q (⟨some d, .load t x, ty, pos, af, none⟩ :: l) a w :=
  s_does (R := fun u w' => u = V ∧ w' = w) h (does_load_one ho (h.ev hx) hH ⟨rfl, rfl⟩) hd fun a' w' u ⟨h1, h2⟩ hs => by subst h1; subst h2; exact k a' hs
end
theorem Has.at {w : World} {p : Addr} {C : Array Value} (h : Has w p C) {j : Nat} {v : Value} (hv : C[j]? = some v) : w.cell? (p.add j) = some v := h j v hv
/-! ### slices whose elements have several cells -/
def RdZ (w : World) (v : Value) (sz n : Nat) (xs : List Value) : Prop :=
  xs.length = n * sz ∧ ((v = .slice none 0 0 ∧ n = 0) ∨ ∃ p c, v = .slice (some p) n c ∧ n ≤ c ∧ Has w p xs.toArray)
theorem RdZ.keep {w0 w : World} {v : Value} {sz n : Nat} {xs : List Value} (h : RdZ w0 v sz n xs) (e : Ext w0 w) : RdZ w v sz n xs :=
  ⟨h.1, h.2.imp id fun ⟨p, c, hv, hnc, hc⟩ => ⟨p, c, hv, hnc, hc.ext e⟩⟩
theorem RdZ.mono {sz n : Nat} {xs : List Value} : Mono (fun v w => RdZ w v sz n xs) := fun _ _ _ h e => h.keep e
theorem RdZ.of_own {w : World} {base : Nat} {e : TypeId} {v : Value} {sz n : Nat} {xs : List Value} (h : Owns w base e sz v n xs) : RdZ w v sz n xs := by
  refine ⟨h.1, ?_⟩
  rcases h.2 with ⟨h1, h2⟩ | ⟨g, cap, cur, fz, h1, _, _, _, h2, _⟩
  · exact .inl ⟨h1, h2⟩
  · subst h1
    exact .inr ⟨⟨g, 0, none⟩, cap, rfl, h2, fun j x hx => h.cells (g := g) rfl j x (by simpa using hx)⟩
theorem RdZ.len {w : World} {v : Value} {sz n : Nat} {xs : List Value} (h : RdZ w v sz n xs) : ∃ a c, v = .slice a n c := by
  rcases h.2 with ⟨h1, h2⟩ | ⟨p, c, h1, _, _⟩
  · exact ⟨none, 0, by rw [h1, h2]⟩
  · exact ⟨some p, c, h1⟩
theorem RdZ.cut {w : World} {v : Value} {sz n : Nat} {xs : List Value} (h : RdZ w v sz n xs) (k : Nat) (hk : k ≤ n) : RdZ w (cutV v k) sz k (xs.take (k * sz)) := by
  refine ⟨by rw [List.length_take, h.1]; exact Nat.min_eq_left (Nat.mul_le_mul_right _ hk), ?_⟩
  rcases h.2 with ⟨h1, h2⟩ | ⟨p, c, h1, h3, h2⟩
  · left; subst h1; obtain rfl : k = 0 := by omega
    exact ⟨rfl, rfl⟩
  · right; subst h1
    refine ⟨p, c, rfl, by omega, fun j x hx => h2 j x ?_⟩
    simp only [List.getElem?_toArray] at hx ⊢
    rw [List.getElem?_take] at hx
    split at hx
    · exact hx
    · cases hx
/-- a slice from its element k on -/
def dropV (v : Value) (sz k : Nat) : Value := match v with | .slice a n c => .slice (if c = k then a else a.map (·.add (k * sz))) (n - k) (c - k) | v => v
theorem RdZ.drop {w : World} {v : Value} {sz n : Nat} {xs : List Value} (h : RdZ w v sz n xs) (k : Nat) (hk : k ≤ n) : RdZ w (dropV v sz k) sz (n - k) (xs.drop (k * sz)) := by
  refine ⟨by rw [List.length_drop, h.1, Nat.sub_mul], ?_⟩
  rcases h.2 with ⟨h1, h2⟩ | ⟨p, c, h1, h3, h2⟩
  · left; subst h1; subst h2; obtain rfl : k = 0 := by omega
    exact ⟨rfl, rfl⟩
  · right; subst h1
    by_cases hc : c = k
    · subst hc
      have : n = c := by omega
      subst this
      refine ⟨p, 0, by simp [dropV], by omega, fun j x hx => ?_⟩
      simp only [List.getElem?_toArray] at hx
      have := (List.getElem?_eq_some_iff.1 hx).1
      rw [List.length_drop, h.1] at this
      omega
    · refine ⟨p.add (k * sz), c - k, by simp [dropV, hc], by omega, fun j x hx => ?_⟩
      rw [add_add]
      refine h2 _ x ?_
      simpa [List.getElem?_drop] using hx
/-- an element -/
theorem RdZ.el {w : World} {v : Value} {sz n : Nat} {xs : List Value} (h : RdZ w v sz n xs) (j : Nat) (hj : j < n) (hz : 0 < sz) {D : Array Value} (hD : ((xs.drop (j * sz)).take sz).toArray = D) : Has w (elAddr v (j * sz)) D := by
  rcases h.2 with ⟨h1, h2⟩ | ⟨p, c, h1, h3, h2⟩
  · omega
  · subst h1; subst hD
    intro i x hx
    show w.cell? ((p.add (j * sz)).add i) = some x
    rw [add_add]
    refine h2 _ x ?_
    simp only [List.getElem?_toArray] at hx ⊢
    rw [List.getElem?_take] at hx
    split at hx
    · rw [List.getElem?_drop] at hx; exact hx
    · cases hx
theorem RdZ.el1 {w : World} {v : Value} {n : Nat} {xs : List Value} (h : RdZ w v 1 n xs) (j : Nat) {V : Value} (hV : xs[j]? = some V) : w.cell? (elAddr v (j * 1)) = some V := by
  have hj : j < n := by have := (List.getElem?_eq_some_iff.1 hV).1; rw [h.1] at this; omega
  have hl := (List.getElem?_eq_some_iff.1 hV).1
  have h9 := h.el j hj (by decide) (D := #[V]) (by
    rw [Nat.mul_one, List.drop_eq_getElem_cons hl, List.take_succ_cons, List.take_zero]
    have := (List.getElem?_eq_some_iff.1 hV).2
    rw [this]) 0 V rfl
  have e : (elAddr v (j * 1)).add 0 = elAddr v (j * 1) := by simp [Addr.add]
  rwa [e] at h9
section
variable {P : Program} {ρ : Operand → Value} {d : Option Tmp} {ty : TypeId} {pos : String} {af : Array Edge} {g : Option (Nat × Bool)} {x y z : Operand} {t t' e : TypeId} {k : IntKind} {m m2 : Int}
theorem ru_ixz {w0 : World} {v : Value} {sz n : Nat} {xs : List Value} (hR : RdZ w0 v sz n xs) (j : Nat) (ht : P.underlying t = some (.slice e)) (he : (P.info? e).map (·.size) = some sz) (hx : ρ x = v) (hy : ρ y = .int k m) (hj : m = (j : Int)) (hlt : j < n) :
    RunsTo P ⟨d, .indexAddr t x y, ty, pos, af, g⟩ ρ (.pointer (some (elAddr v (j * sz)))) := fun w => by
  subst hj
  rcases hR.2 with ⟨h1, h2⟩ | ⟨p, c, h1, h3, _⟩
  · omega
  · subst h1
    simp [execOp, hx, hy, Instr.indexAt, asIntOf, Sem.run_bind, run_underlying ht, hlt, run_sizeOf he, elAddr]
theorem ru_lenZ {w0 : World} {v : Value} {sz n : Nat} {xs : List Value} (hR : RdZ w0 v sz n xs) (ht : P.underlying t = some (.slice e)) (hx : ρ x = v) : RunsTo P ⟨d, .call { callee := .builtin .len, args := #[x], argTypes := #[t] }, ty, pos, af, g⟩ ρ (.int .i64 (n : Int)) := fun w => by
  obtain ⟨a, c, rfl⟩ := hR.len
  simp [execOp, resolve, hx, invoke, builtin, Builtin.len_, Sem.run_bind, run_underlying ht, goInt]
theorem ru_slice_hiZ {w0 : World} {v : Value} {sz n : Nat} {xs : List Value} (hR : RdZ w0 v sz n xs) (j : Nat) (ht : P.underlying t = some (.slice e)) (he : (P.info? e).map (·.size) = some sz) (hx : ρ x = v) (hy : ρ y = .int k m) (hj : m = (j : Int)) (hle : j ≤ n) : RunsTo P ⟨d, .slice t x none (some y) none, ty, pos, af, g⟩ ρ (cutV v j) := fun w => by
  subst hj
  rcases hR.2 with ⟨h1, h2⟩ | ⟨p, c, h1, h3, _⟩
  · subst h1; obtain rfl : j = 0 := by omega
    simp [execOp, hx, hy, Instr.sliceAt, Sem.run_bind, run_underlying ht, Instr.slice, Instr.sliceBounds, Instr.sliceBound, asIntOf, run_sizeOf he, cutV]
  · subst h1
    have h4 : j ≤ c := by omega
    have ha : p.add 0 = p := by simp [Addr.add]
    simp [execOp, hx, hy, Instr.sliceAt, Sem.run_bind, run_underlying ht, Instr.slice, Instr.sliceBounds, Instr.sliceBound, asIntOf, run_sizeOf he, h4, cutV, ha]
theorem ru_slice_loZ {w0 : World} {v : Value} {sz n : Nat} {xs : List Value} (hR : RdZ w0 v sz n xs) (j : Nat) (ht : P.underlying t = some (.slice e)) (he : (P.info? e).map (·.size) = some sz) (hx : ρ x = v) (hy : ρ y = .int k m) (hj : m = (j : Int)) (hle : j ≤ n) : RunsTo P ⟨d, .slice t x (some y) none none, ty, pos, af, g⟩ ρ (dropV v sz j) := fun w => by
  subst hj
  rcases hR.2 with ⟨h1, h2⟩ | ⟨p, c, h1, h3, _⟩
  · subst h1; subst h2; obtain rfl : j = 0 := by omega
    simp [execOp, hx, hy, Instr.sliceAt, Sem.run_bind, run_underlying ht, Instr.slice, Instr.sliceBounds, Instr.sliceBound, asIntOf, run_sizeOf he, dropV]
  · subst h1
    simp [execOp, hx, hy, Instr.sliceAt, Sem.run_bind, run_underlying ht, Instr.slice, Instr.sliceBounds, Instr.sliceBound, asIntOf, run_sizeOf he, hle, dropV]
/-- a field's address -/
structure Fld (P : Program) (t : TypeId) (f off : Nat) : Prop where
  has : ∃ fields fd s, P.underlying t = some (.struct fields) ∧ fields[f]? = some fd ∧ (P.info? fd.type).map (·.size) = some (s + 1) ∧ fd.offset = off
theorem ru_field {f off b o : Nat} (F : Fld P t f off) (hx : ρ x = .pointer (some ⟨b, o, none⟩)) : RunsTo P ⟨d, .fieldAddr t x f, ty, pos, af, g⟩ ρ (.pointer (some ⟨b, o + off, none⟩)) := fun w => by
  obtain ⟨fields, fd, i, h1, h2, h3, h5⟩ := F.has
  simp [execOp, hx, Instr.fieldAt, fieldPlace, Sem.run_bind, run_underlying h1, h2, Instr.sureAddr, run_sizeOf h3, h5, Addr.add_lit]
theorem ru_fieldE {f off : Nat} {v : Value} {j : Nat} (F : Fld P t f off) (hx : ρ x = .pointer (some (elAddr v j))) (hv : ∃ p n c, v = .slice (some p) n c) : RunsTo P ⟨d, .fieldAddr t x f, ty, pos, af, g⟩ ρ (.pointer (some (elAddr v (j + off)))) := fun w => by
  obtain ⟨fields, fd, i, h1, h2, h3, h5⟩ := F.has
  obtain ⟨p, n, c, rfl⟩ := hv
  simp [execOp, hx, Instr.fieldAt, fieldPlace, Sem.run_bind, run_underlying h1, h2, Instr.sureAddr, run_sizeOf h3, h5, elAddr, add_add]
theorem ru_nilCheck {p : Addr} (hx : ρ x = .pointer (some p)) : RunsTo P ⟨d, .nilCheck x, ty, pos, af, g⟩ ρ (.pointer (some p)) := fun w => by
  simp [execOp, hx]
end
end Go.Proofs.Ythjkhnhiciamaaa

namespace Go.Proofs.Ythjkhnhiciamaaa
open Go.RowKit
/-! ### structs that are built of parts -/
/-- the cells, when part i is laid -/
def layAt (zs : List (List Value)) : List (Nat × Value) → List (List Value)
  | [] => zs
  | (i, v) :: r => layAt (zs.set i v.cells.toList) r
theorem flatten_set {α : Type} : ∀ (zs : List (List α)) (i : Nat) (v z : List α), zs[i]? = some z → v.length = z.length →
    (zs.set i v).flatten = zs.flatten.take ((zs.take i).flatten.length) ++ v ++ zs.flatten.drop ((zs.take i).flatten.length + v.length)
  | [], i, v, z, h, _ => by simp at h
  | y :: zs, 0, v, z, h, hl => by
    simp at h; subst h
    simp [List.drop_append, hl]
  | y :: zs, i + 1, v, z, h, hl => by
    have ih := flatten_set zs i v z (by simpa using h) hl
    rw [List.set_cons_succ, List.flatten_cons, ih, List.take_succ_cons, List.flatten_cons, List.flatten_cons, List.length_append, List.take_length_add_append, Nat.add_assoc, List.drop_length_add_append]
    simp only [List.append_assoc]
theorem fill_lay (place : Nat → Option (Nat × Nat)) : ∀ (parts : List (Nat × Value)) (zs : List (List Value)) (cells : Array Value), cells.toList = zs.flatten →
    (∀ i v, (i, v) ∈ parts → ∃ z, zs[i]? = some z ∧ v.cells.size = z.length ∧ place i = some ((zs.take i).flatten.length, z.length)) →
    ∃ D : Array Value, Instr.fill place cells parts = some D ∧ D.toList = (layAt zs parts).flatten
  | [], zs, cells, h, _ => ⟨cells, rfl, h⟩
  | (i, v) :: r, zs, cells, h, hp => by
    obtain ⟨z, hz, hv, hpl⟩ := hp i v List.mem_cons_self
    have hil := (List.getElem?_eq_some_iff.1 hz).1
    have hvl : v.cells.toList.length = z.length := by rw [Array.length_toList]; exact hv
    have hsum : (zs.take i).flatten.length + z.length ≤ zs.flatten.length := by
      have e : zs = zs.take i ++ z :: zs.drop (i + 1) := by
        have := (List.getElem?_eq_some_iff.1 hz).2
        rw [← this, List.getElem_cons_drop, List.take_append_drop]
      have := congrArg (fun l => (List.flatten l).length) e
      simp only [List.flatten_append, List.flatten_cons, List.length_append] at this
      omega
    have hcs : cells.size = zs.flatten.length := by rw [← h, Array.length_toList]
    have hf := foldl_sets (zs.take i).flatten.length v.cells.toList 0 cells (by rw [hvl]; omega)
    generalize hD : (v.cells.toList.zipIdx).foldl (fun cs p => cs.setIfInBounds ((zs.take i).flatten.length + p.2) p.1) cells = C1 at hf
    have hC1 : C1.toList = (zs.set i v.cells.toList).flatten := by
      rw [hf, flatten_set zs i _ z hz hvl, h]; simp
    have hset : ∀ j, ((zs.set i v.cells.toList).take j).flatten.length = (zs.take j).flatten.length := fun j => by
      rw [List.length_flatten, List.length_flatten]
      congr 1
      apply List.ext_getElem?
      intro q
      rw [List.getElem?_map, List.getElem?_map, List.getElem?_take, List.getElem?_take]
      split
      · by_cases e : i = q
        · subst e; rw [List.getElem?_set_self hil, hz]; simp [hvl]
        · rw [List.getElem?_set_ne e]
      · rfl
    obtain ⟨D, h1, h2⟩ := fill_lay place r (zs.set i v.cells.toList) C1 hC1 fun j u hm => by
      obtain ⟨z2, hz2, hu, hpl2⟩ := hp j u (List.mem_cons_of_mem _ hm)
      by_cases e : i = j
      · subst e
        rw [hz] at hz2; cases hz2
        exact ⟨v.cells.toList, by rw [List.getElem?_set_self hil], by rw [hvl]; exact hu, by rw [hset, hvl]; exact hpl2⟩
      · exact ⟨z2, by rw [List.getElem?_set_ne e]; exact hz2, hu, by rw [hset]; exact hpl2⟩
    refine ⟨D, ?_, h2⟩
    rw [Instr.fill, hpl]
    simp only
    have hc : ¬ ((v.cells.size ≠ z.length || decide ((zs.take i).flatten.length + v.cells.size > cells.size)) = true) := by
      rw [hv]
      simp only [ne_eq, not_true_eq_false, decide_false, Bool.false_or, decide_eq_true_eq]
      omega
    rw [if_neg hc]
    have hz9 : v.cells.zipIdx.foldl (fun cs (x : Value × Nat) => match x with | (c, j) => cs.setIfInBounds ((zs.take i).flatten.length + j) c) cells = C1 := by
      rw [← hD, ← Array.foldl_toList, Array.toList_zipIdx]
    rw [hz9]
    exact h1
/-- a struct's type: the zero parts of its fields -/
structure Stt (P : Program) (t : TypeId) (zs : List (List Value)) : Prop where
  fields : ∃ fs, P.underlying t = some (.struct fs) ∧ fs.toList.length = zs.length ∧ ∀ i f, fs[i]? = some f → ∃ z, zs[i]? = some z ∧ (P.info? f.type).map (·.size) = some z.length ∧ f.offset = (zs.take i).flatten.length
  zero : (P.info? t).bind (·.zero) = some (.agg zs.flatten.toArray)
theorem run_places {P : Program} (w : World) : ∀ (fs : List Field) (ss : List Nat), fs.length = ss.length → (∀ (i : Nat) (f : Field) (s : Nat), fs[i]? = some f → ss[i]? = some s → (P.info? f.type).map (·.size) = some s) →
    (fs.mapM fun (f : Field) => (do pure (f.offset, ← sizeOf f.type) : Sem (Nat × Nat))).run P w = .ok ((fs.zip ss).map fun (p : Field × Nat) => (p.1.offset, p.2)) w
  | [], [], _, _ => by simp
  | [], _ :: _, h, _ => by simp at h
  | _ :: _, [], h, _ => by simp at h
  | f :: fs, s :: ss, h, hs => by
    have ih := run_places (P := P) w fs ss (by simpa using h) fun i f' s' h1 h2 => hs (i + 1) f' s' (by simpa using h1) (by simpa using h2)
    have h0 := run_sizeOf (hs 0 f s rfl rfl) w
    simp only [List.mapM_cons, Sem.run_bind, h0, Result.andThen_ok, Sem.run_pure, ih, List.zip_cons_cons, List.map_cons]
section
variable {P : Program} {ρ : Operand → Value} {d : Option Tmp} {ty : TypeId} {pos : String} {af : Array Edge} {g : Option (Nat × Bool)} {t : TypeId}
theorem ru_build_st {zs : List (List Value)} {parts : Array (Nat × Operand)} (S : Stt P t zs) (ps : List (Nat × Value)) (hps : parts.toList.map (fun p => (p.1, ρ p.2)) = ps) (hok : ∀ i v, (i, v) ∈ ps → ∃ z, zs[i]? = some z ∧ v.cells.size = z.length) {D : List Value} (hD : (layAt zs ps).flatten = D) :
    RunsTo P ⟨d, .build t parts, ty, pos, af, g⟩ ρ (.agg D.toArray) := fun w => by
  obtain ⟨fs, h1, h2, h3⟩ := S.fields
  cases hi : P.info? t with
  | none => have := S.zero; simp [hi] at this
  | some i =>
    have hz : i.zero = some (.agg zs.flatten.toArray) := by have := S.zero; simpa [hi] using this
    have hpl : (fs.mapM fun (f : Field) => (do pure (f.offset, ← sizeOf f.type) : Sem (Nat × Nat))).run P w = .ok ((fs.toList.zip (zs.map List.length)).map fun (p : Field × Nat) => (p.1.offset, p.2)).toArray w := by
      have := run_places (P := P) w fs.toList (zs.map List.length) (by rw [h2, List.length_map]) fun i f s hf hs => by
        obtain ⟨z, hz1, hz2, _⟩ := h3 i f (by simpa using hf)
        rw [List.getElem?_map, hz1] at hs
        simp at hs; subst hs; exact hz2
      rw [Array.mapM_eq_mapM_toList]
      show Sem.run P ((List.mapM (fun (f : Field) => (do pure (f.offset, ← sizeOf f.type) : Sem (Nat × Nat))) fs.toList) >>= fun l => pure l.toArray) w = _
      rw [Sem.run_bind, this, Result.andThen_ok, Sem.run_pure]
    obtain ⟨C, hC1, hC2⟩ := fill_lay (fun i => (((fs.toList.zip (zs.map List.length)).map fun (p : Field × Nat) => (p.1.offset, p.2)).toArray)[i]?) ps zs zs.flatten.toArray rfl fun i v hm => by
      obtain ⟨z, hz1, hz2⟩ := hok i v hm
      have hil : i < fs.toList.length := by rw [h2]; exact (List.getElem?_eq_some_iff.1 hz1).1
      have hfi : fs[i]? = some fs.toList[i] := by rw [← Array.getElem?_toList, List.getElem?_eq_getElem hil]
      obtain ⟨z', hz1', _, hoff⟩ := h3 i _ hfi
      rw [hz1] at hz1'; cases hz1'
      refine ⟨z, hz1, hz2, ?_⟩
      simp only [List.getElem?_toArray, List.getElem?_map, List.getElem?_zip_eq_some]
      have : (fs.toList.zip (zs.map List.length))[i]? = some (fs.toList[i], z.length) := by
        rw [List.getElem?_zip_eq_some]
        exact ⟨List.getElem?_eq_getElem hil, by rw [List.getElem?_map, hz1]; rfl⟩
      rw [this, Option.map_some]
      show some (fs.toList[i].offset, z.length) = _
      rw [hoff]
    have hDC : C = D.toArray := by
      apply Array.ext'
      rw [hC2, hD]
    have hmap : (parts.map fun (i, x) => (i, ρ x)).toList = ps := by rw [Array.toList_map]; exact hps
    have hrun : (Instr.build t (parts.map fun (i, x) => (i, ρ x))).run P w = .ok (.agg D.toArray) w := by
      unfold Instr.build
      simp only [zeroValue, typeInfo, Sem.run_bind, run_program, hi, hz, Sem.run_pure, Result.andThen_ok, run_underlying h1 w, hpl, hmap, Value.cells]
      rw [hC1, hDC]
      rfl
    simp only [execOp, Sem.run_bind, hrun, Result.andThen_ok, Sem.run_pure]
end
/-! ### texts of pieces; calls of functions that are values; appends of what lies elsewhere -/
theorem bytesF_extract (f : Nat → Nat) (M o n : Nat) (h : o + n ≤ M) : (bytesF f M).extract o (o + n) = bytesF (fun i => f (o + i)) n := by
  apply Array.ext_getElem?
  intro i
  by_cases hi : i < n
  · rw [bytesF_get _ _ _ hi, Array.getElem?_extract, if_pos (by simp; omega), bytesF_get _ _ _ (by omega)]
  · rw [Array.getElem?_eq_none (by simp; omega), Array.getElem?_eq_none (by simp; omega)]
theorem Has.bytes {w : World} {b : Nat} {f : Nat → Nat} {M : Nat} (h : Has w ⟨b, 0, none⟩ (bytesF f M)) (o n : Nat) (hn : o + n ≤ M) : Has w ⟨b, o, none⟩ (bytesF (fun i => f (o + i)) n) := by
  have := h.sub o n (bytesF_extract f M o n hn)
  rwa [Addr.add_lit, Nat.zero_add] at this
theorem does_callV {P : Program} {ρ : Operand → Value} {dst : Option Tmp} {g : Option (Nat × Bool)} {ty : TypeId} {pos : String} {af : Array Edge} {f : FuncId} {caps : Array Value} {cal : Operand} {args : Array Operand} {tys : Array TypeId} {vs : Array Value} {w : World} (hf : Fnc P f)
    (hc : ρ cal = .func (.func f) #[] caps) (hvs : args.map ρ = vs) {R : Value → World → Prop} (hC : Calls P f (vs ++ caps) w fun e w' => ∃ v, e = .returned v ∧ R v w') : Does P ⟨dst, .call { callee := .value cal, args := args, argTypes := tys }, ty, pos, af, g⟩ ρ w R := by
  obtain ⟨fn, h1, h2, h3⟩ := hf.has
  unfold Does
  simp only [execOp, resolve, hc, hvs, Deferred.ofValue, Sem.run_bind, Sem.run_pure, Result.andThen_ok, invoke, Array.empty_append, run_callFunc h1 h2 h3]
  exact hC
section
variable {P : Program} {ops : Array Oper} {Q : Act → World → Prop} {l : List Oper} {a : Act} {w w0 : World} {N : Nat} {L : List (Nat × Value)} {Df : List Deferred} {B : List Own} {d : Tmp} {ty : TypeId} {pos : String} {af : Array Edge} {x y : Operand} {t t' e : TypeId}
/-- a call of a function that is a value; its contract over any world -/
theorem s_callV {f : FuncId} {caps : List Value} {cal : Operand} {args : Array Operand} {tys : Array TypeId} (vs : List Value) {T : Asrt} (h : Sl N a L Df) (s : St w0 B w) (hf : Fnc P f) (hc : evo L cal = some (.func (.func f) #[] caps.toArray)) (hC : Calls P f (vs ++ caps).toArray w (Ret w T)) (hvs : args.toList.map (evo L) = vs.map some)
    (hd : Nat.blt d N = true) (k : ∀ a' w' v, T v w' → Ext w w' → Sl N a' ((d, v) :: L) Df → St w0 B w' → Lst P ops Q l a' w') :
    Lst P ops Q (⟨some d, .call { callee := .value cal, args := args, argTypes := tys }, ty, pos, af, none⟩ :: l) a w :=
  s_does (R := fun v w' => T v w' ∧ Ext w w') h (does_callV hf (h.ev hc) (evsA h hvs) (by rw [show vs.toArray ++ caps.toArray = (vs ++ caps).toArray from by simp]; exact hC)) hd fun a' w' v ⟨h1, h2⟩ hs => k a' w' v h1 h2 hs (s.more h2)
theorem run_append_none {P : Program} {w : World} {t ty e : TypeId} {sz : Nat} (ht : P.underlying t = some (.slice e)) (he : (P.info? e).map (·.size) = some sz) {base : Nat} {v : Value} {n : Nat} {xs : List Value} (hown : Owns w base e sz v n xs)
    {u : Option Addr} {c : Nat} : (Builtin.append_ #[t, t] ty #[v, .slice u 0 c]).run P w = .ok v w := by
  rcases hown.2 with ⟨rfl, rfl⟩ | ⟨g, cap, cur, fz, rfl, _, _, _, hnc, _⟩
  · cases u <;> simp [Builtin.append_, run_underlying ht, run_sizeOf he, Sem.run_bind, Builtin.lenOf, Builtin.firstCells, loadCells, loadCellsFrom]
  · cases u <;> simp [Builtin.append_, run_underlying ht, run_sizeOf he, Sem.run_bind, Builtin.lenOf, Builtin.firstCells, hnc, loadCells, loadCellsFrom, storeCells]
theorem Elm.size {P : Program} {e : TypeId} {sz by_ : Nat} (E : Elm P e sz by_) : (P.info? e).map (·.size) = some sz := by
  obtain ⟨i, z, h1, _, h2, _⟩ := E.info
  rw [h1]; simp [h2]
/-- what append makes of an own slice and of a slice that can be read -/
theorem run_append_rd {P : Program} {w w0 : World} {t ty e : TypeId} {sz by_ : Nat} (ht : P.underlying t = some (.slice e)) (E : Elm P e sz by_) {v : Value} {n : Nat} {xs : List Value} (hown : Owns w w0.heap.size e sz v n xs)
    {u : Value} {m : Nat} {ys : List Value} (hR : RdZ w u sz m ys) (h1 : ∀ u ∈ ys, u.oneCell' = true) (h63 : n + m ≤ maxLen) (hbytes : (n + m) * by_ ≤ 140737488355328) (hbase : w0.heap.size ≤ w.heap.size) :
    ∃ v' w', (Builtin.append_ #[t, t] ty #[v, u]).run P w = .ok v' w' ∧ Owns w' w0.heap.size e sz v' (n + m) (xs ++ ys) ∧ Grw w w' v.ownBlock ∧ (v'.ownBlock = v.ownBlock ∨ v'.ownBlock = some w.heap.size) := by
  by_cases hm : m = 0
  · subst hm
    have hy : ys = [] := List.eq_nil_of_length_eq_zero (by have := hR.1; omega)
    subst hy
    obtain ⟨a, c, rfl⟩ := hR.len
    refine ⟨v, w, run_append_none ht E.size hown, by simpa using hown, ⟨⟨rfl, rfl, rfl, Nat.le_refl _, fun k _ _ => rfl⟩, Nat.le_refl _⟩, .inl rfl⟩
  · rcases hR.2 with ⟨_, h0⟩ | ⟨p, c, rfl, _, hH⟩
    · exact absurd h0 hm
    · exact run_append_st ht E hown hR.1 (fun j u hj => hH j u (by simpa using hj)) h1 (by omega) h63 hbytes hbase
theorem s_append_rd {v u : Value} {sz by_ n m : Nat} {xs ys : List Value} (i : Nat) (hR : RdZ w u sz m ys) (h : Sl N a L Df) (s : St w0 B w) (ht : P.underlying t = some (.slice e)) (E : Elm P e sz by_) (hx : evo L x = some v) (hy : evo L y = some u)
    (hi : B[i]? = some (.sl v e sz n xs)) (h1 : ∀ u ∈ ys, u.oneCell' = true) (h63 : n + m ≤ maxLen) (hbytes : (n + m) * by_ ≤ 140737488355328) (hd : Nat.blt d N = true)
    (k : ∀ a' w' v', Sl N a' ((d, v') :: L) Df → St w0 (B.set i (.sl v' e sz (n + m) (xs ++ ys))) w' → Lst P ops Q l a' w') :
    Lst P ops Q (⟨some d, .call { callee := .builtin .append, args := #[x, y], argTypes := #[t, t] }, ty, pos, af, none⟩ :: l) a w := by
  obtain ⟨v', w', hr, h2, h3, h4⟩ := run_append_rd (ty := ty) ht E (s.getSl i hi) hR h1 h63 hbytes s.ext.le
  refine s_does (R := fun u w'' => u = v' ∧ w'' = w') h (by
    unfold Does
    simp only [execOp, resolve, invoke, builtin, Sem.run_bind, Sem.run_pure, Result.andThen_ok, List.map_toArray, List.map_cons, List.map_nil, h.ev hx, h.ev hy, hr]
    first | exact ⟨rfl, rfl⟩ | exact ⟨trivial, rfl⟩ | exact ⟨trivial, trivial⟩ | trivial) hd fun a' w'' u ⟨e1, e2⟩ hs => ?_
  subst e1; subst e2
  refine k _ _ _ hs (s.upd i hi h3.os h3.tape h3.output h3.size h2 (fun k hk => ?_) (fun k hk hne => ?_) h3.drawn)
  · rcases h4 with h4 | h4
    · exact .inl (Own.at_sl.2 (by rw [← Own.at_sl.1 hk]; exact h4.symm))
    · right
      have : u.ownBlock = some k := Own.at_sl.1 hk
      rw [h4] at this; cases this; exact Nat.le_refl _
  · exact h3.block k hk fun e => hne (Own.at_sl.2 e.symm)
/-- an empty slice that has no room -/
def Emp (base : Nat) (e : TypeId) : Asrt := fun v w => ∃ b, v = .slice (some ⟨b, 0, none⟩) 0 0 ∧ base ≤ b ∧ w.heap[b]? = some (.cells #[] e (0, 0))
theorem Emp.mono (base : Nat) (e : TypeId) : Mono (Emp base e) := fun v w w' ⟨b, h1, h2, h3⟩ hE => ⟨b, h1, h2, (hE.heap (Array.getElem?_eq_some_iff.1 h3).1).trans h3⟩
theorem Emp.owns {base : Nat} {e : TypeId} {v : Value} {w : World} (h : Emp base e v w) (sz : Nat) : Owns w base e sz v 0 [] := by
  obtain ⟨b, h1, h2, h3⟩ := h
  exact ⟨by simp, .inr ⟨b, 0, #[], (0, 0), h1, h2, h3, .inl rfl, Nat.le_refl _, Nat.zero_le _, by simp, by simp⟩⟩
theorem ownsM (base : Nat) (e : TypeId) (sz n : Nat) (xs : List Value) : Mono (fun v w => Owns w base e sz v n xs) := fun v w w' h hE => by
  refine ⟨h.1, ?_⟩
  rcases h.2 with hv | ⟨g, cap, cur, fz, hv, hb, hg, r⟩
  · exact .inl hv
  · exact .inr ⟨g, cap, cur, fz, hv, hb, (hE.heap (Array.getElem?_eq_some_iff.1 hg).1).trans hg, r⟩
/-- append to such a one: what there was stays -/
theorem s_append_emp {v u : Value} {sz by_ m base : Nat} {ys : List Value} (hv : Emp base e v w) (hR : RdZ w u sz m ys) (h : Sl N a L Df) (ht : P.underlying t = some (.slice e)) (E : Elm P e sz by_) (hx : evo L x = some v) (hy : evo L y = some u) (hbase : base ≤ w.heap.size)
    (h1 : ∀ u ∈ ys, u.oneCell' = true) (h63 : m ≤ maxLen) (hbytes : m * by_ ≤ 140737488355328) (hd : Nat.blt d N = true)
    (k : ∀ a' w' v', Sl N a' ((d, v') :: L) Df → Ext w w' → Owns w' base e sz v' m ys → Lst P ops Q l a' w') :
    Lst P ops Q (⟨some d, .call { callee := .builtin .append, args := #[x, y], argTypes := #[t, t] }, ty, pos, af, none⟩ :: l) a w := by
  have hO := hv.owns sz
  by_cases hm : m = 0
  · subst hm
    have hys : ys = [] := List.eq_nil_of_length_eq_zero (by have := hR.1; omega)
    subst hys
    obtain ⟨q, c, rfl⟩ := hR.len
    have hr := run_append_none (ty := ty) ht E.size hO (u := q) (c := c)
    exact s_does (R := fun u w'' => u = v ∧ w'' = w) h (by
      unfold Does
      simp only [execOp, resolve, invoke, builtin, Sem.run_bind, Sem.run_pure, Result.andThen_ok, List.map_toArray, List.map_cons, List.map_nil, h.ev hx, h.ev hy, hr]
      first | exact ⟨rfl, rfl⟩ | exact ⟨trivial, rfl⟩ | exact ⟨trivial, trivial⟩ | trivial) hd fun a' w'' u ⟨e1, e2⟩ hs => by subst e1; subst e2; exact k _ _ _ hs (Ext.refl _) hO
  · obtain ⟨b, rfl, hb, hbl⟩ := hv
    obtain ⟨p, c, rfl, _, hH⟩ := hR.2.resolve_left fun h9 => hm h9.2
    obtain ⟨i, z, hi, hz, rfl, rfl, hzs⟩ := E.info
    have hsmall : 0 + m ≤ 9223372036854775807 := by simp only [maxLen] at h63; omega
    have hr := run_append_grow (P := P) w t ty e i z ht hi hz ⟨b, 0, none⟩ 0 0 [] (by simp) (fun j u hj => by simp at hj) p m c ys hR.1 (fun j u hj => hH j u (by simpa using hj)) (by omega) (by omega) (growslice_fits (by omega) (by simpa using hbytes))
    obtain ⟨V9, W9, hr9, hE9, hO9⟩ : ∃ V W, (Builtin.append_ #[t, t] ty #[.slice (some ⟨b, 0, none⟩) 0 0, .slice (some p) m c]).run P w = .ok V W ∧ Ext w W ∧ Owns W base e i.size V m ys := by
      refine ⟨_, _, hr, (Ext.refl w).drew.alloc _, hR.1, .inr ⟨w.heap.size, grownCap w (0 + m) 0 e, _, (0, 0), by simp, hbase, heap_alloc_new w.drew _, .inl rfl, ?_, ?_, ?_, ?_⟩⟩
      · have := grownCap_ge w (0 + m) 0 e; omega
      · exact grownCap_le_maxLen w _ 0 e (by omega)
      · simp only [Array.size_append, List.size_toArray, size_zeroCells, hzs, hR.1, List.length_nil, Nat.zero_add]
        rw [← Nat.add_mul]
        congr 1
        have := grownCap_ge w (0 + m) 0 e
        simp only [Nat.zero_add] at this
        omega
      · simp only [Array.toList_append, Array.empty_append]
        rw [← hR.1]
        simp
    refine s_does (R := fun u w'' => u = V9 ∧ w'' = W9) h (by
      unfold Does
      simp only [execOp, resolve, invoke, builtin, Sem.run_bind, Sem.run_pure, Result.andThen_ok, List.map_toArray, List.map_cons, List.map_nil, h.ev hx, h.ev hy, hr9]
      first | exact ⟨rfl, rfl⟩ | exact ⟨trivial, rfl⟩ | exact ⟨trivial, trivial⟩ | trivial) hd fun a' w'' u ⟨e1, e2⟩ hs => ?_
    subst e1; subst e2
    exact k _ _ _ hs hE9 hO9
/-- a new empty slice -/
theorem s_bslice0 {sz by_ base : Nat} (h : Sl N a L Df) (ht : P.underlying t = some (.slice e)) (E : Elm P e sz by_) (hbase : base ≤ w.heap.size) (hd : Nat.blt d N = true)
    (k : ∀ a' w' v', Sl N a' ((d, v') :: L) Df → Ext w w' → Emp base e v' w' → Lst P ops Q l a' w') : Lst P ops Q (⟨some d, .buildSlice t 0 #[], ty, pos, af, none⟩ :: l) a w := by
  obtain ⟨i, z, hi, hz, hsz, _, hzs⟩ := E.info
  have hm : (#[] : Array (Nat × Operand)).map (fun (i, x) => (i, a.eval x)) = #[] := by simp
  have hrun : (Instr.buildSlice t 0 #[]).run P w = .ok (.slice (some ⟨w.heap.size, 0, none⟩) 0 0) (w.alloc (.cells #[] e)) := by
    unfold Instr.buildSlice
    simp only [Sem.run_bind, run_underlying ht, Result.andThen_ok, sizeOf, typeInfo, run_program, hi, Sem.run_pure, hsz, Nat.zero_mul, newRow]
    have h0 : (Array.range 0).map (fun x => (#[] : Array Value)[x % (#[] : Array Value).size]!) = #[] := by simp
    simp only [show ¬ (0 : Nat) > 2 ^ 24 by decide, if_false, if_true, Sem.run_bind, Sem.run_pure, Result.andThen_ok, h0, Instr.fill, run_newObj]
    rfl
  refine s_does (R := fun u w'' => u = .slice (some ⟨w.heap.size, 0, none⟩) 0 0 ∧ w'' = w.alloc (.cells #[] e)) h ?_ hd fun a' w'' u ⟨e1, e2⟩ hs => ?_
  · unfold Does
    simp only [execOp, hm, Sem.run_bind, hrun, Result.andThen_ok, Sem.run_pure]
    first | exact ⟨rfl, rfl⟩ | exact ⟨trivial, rfl⟩ | exact ⟨trivial, trivial⟩ | trivial
  · subst e1; subst e2
    exact k _ _ _ hs ((Ext.refl w).alloc _) ⟨w.heap.size, rfl, hbase, heap_alloc_new w _⟩
end
/-! ### what a callee made is the caller's own -/
theorem St.sl_new {w0 w w' : World} {B : List Own} (s : St w0 B w) (hE : Ext w w') {v : Value} {e : TypeId} {sz n : Nat} {xs : List Value} (h : Owns w' w.heap.size e sz v n xs) : St w0 (.sl v e sz n xs :: B) w' := by
  refine s.join1 hE _ ⟨h.1, ?_⟩ fun k hk => ?_
  · rcases h.2 with hv | ⟨g, cap, cur, fz, hv, hb, r⟩
    · exact .inl hv
    · exact .inr ⟨g, cap, cur, fz, hv, Nat.le_trans s.ext.le hb, r⟩
  · rw [Own.at_sl] at hk
    rcases h.2 with ⟨hv, _⟩ | ⟨g, cap, cur, fz, hv, hb, r⟩
    · subst hv; simp [Value.ownBlock] at hk
    · subst hv; simp [Value.ownBlock] at hk; omega
theorem Owns.base {w : World} {b1 b2 : Nat} {e : TypeId} {sz n : Nat} {v : Value} {xs : List Value} (h : Owns w b1 e sz v n xs) (hb : b2 ≤ b1) : Owns w b2 e sz v n xs := by
  refine ⟨h.1, h.2.imp id fun ⟨g, cap, cur, fz, hv, hb', r⟩ => ⟨g, cap, cur, fz, hv, Nat.le_trans hb hb', r⟩⟩
end Go.Proofs.Ythjkhnhiciamaaa

namespace Go.Proofs.Ythjkhnhiciamaaa
open Go.RowKit
/-! ### many operations at once: those whose value follows from what is known of slots -/
def FT (P : Program) : List (Nat × Nat × Nat) → Prop
  | [] => True
  | (t, i, o) :: r => Fld P t i o ∧ FT P r
def fld9 : List (Nat × Nat × Nat) → Nat → Nat → Option Nat
  | [], _, _ => none
  | (t, i, o) :: r, t', i' => bif Nat.beq t t' && Nat.beq i i' then some o else fld9 r t' i'
theorem FT.get {P : Program} : ∀ {T : List (Nat × Nat × Nat)}, FT P T → ∀ {t i o : Nat}, fld9 T t i = some o → Fld P t i o
  | [], _, _, _, _, h => by cases h
  | (t, i, o) :: r, hT, t', i', o', h => by
    unfold fld9 at h
    cases hb : (Nat.beq t t' && Nat.beq i i') with
    | true =>
      rw [hb] at h
      simp only [cond_true, Option.some.injEq] at h
      obtain ⟨h1, h2⟩ := Bool.and_eq_true _ _ ▸ hb
      obtain rfl := Nat.eq_of_beq_eq_true h1
      obtain rfl := Nat.eq_of_beq_eq_true h2
      subst h; exact hT.1
    | false => rw [hb] at h; exact FT.get hT.2 h
def cmp9 : BinOp → Int → Int → Option Bool
  | .lss, m, n => some (decide (m < n))
  | .leq, m, n => some (decide (m ≤ n))
  | .gtr, m, n => some (decide (n < m))
  | .geq, m, n => some (decide (n ≤ m))
  | .eql, m, n => some (decide (m = n))
  | .neq, m, n => some (decide (m ≠ n))
  | _, _, _ => none
/-- what an operation yields -/
def evR (T : List (Nat × Nat × Nat)) (L : List (Nat × Value)) : Op → Option Value
  | .move x => evo L x
  | .assign x => evo L x
  | .pick c x y => match evo L c with
    | some (.bool b) => bif b then evo L x else evo L y
    | _ => none
  | .extract x i => match evo L x with
    | some (.tuple vs) => vs[i]?
    | _ => none
  | .nilCheck x => match evo L x with
    | some (.pointer (some p)) => some (.pointer (some p))
    | _ => none
  | .fieldAddr t x i => match evo L x with
    | some (.pointer (some ⟨b, o, none⟩)) => match fld9 T t i with
      | some off => some (.pointer (some ⟨b, o + off, none⟩))
      | none => none
    | _ => none
  | .unOp .not _ x => match evo L x with
    | some (.bool b) => some (.bool (!b))
    | _ => none
  | .binOp op _ x y _ => match evo L x with
    | some (.int k m) => match evo L y with
      | some (.int k' n) => match cmp9 op m n with
        | some b => bif decide (k = k') then some (.bool b) else none
        | none => none
      | _ => none
    | _ => none
  | _ => none
theorem evR_runs {P : Program} {T : List (Nat × Nat × Nat)} (hT : FT P T) {N : Nat} {a : Act} {L : List (Nat × Value)} {Df : List Deferred} (h : Sl N a L Df) {op : Op} {V : Value} (hv : evR T L op = some V) {d : Option Tmp} {ty : TypeId} {pos : String} {af : Array Edge} {g : Option (Nat × Bool)} :
    RunsTo P ⟨d, op, ty, pos, af, g⟩ a.eval V := by
  unfold evR at hv
  split at hv
  · exact ru_move (h.ev hv)
  · exact ru_assign (h.ev hv)
  · split at hv
    · next b hc =>
      cases b with
      | true => exact ru_pick_t (h.ev hc) (h.ev hv)
      | false => exact ru_pick_f (h.ev hc) (h.ev hv)
    · cases hv
  · split at hv
    · next vs hx => exact ru_extract (h.ev hx) hv
    · cases hv
  · split at hv
    · next p hx => cases hv; exact ru_nilCheck (h.ev hx)
    · cases hv
  · split at hv
    · next b o hx =>
      split at hv
      · next off ho => cases hv; exact ru_field (hT.get ho) (h.ev hx)
      · cases hv
    · cases hv
  · split at hv
    · next b hx => cases hv; exact ru_not (h.ev hx)
    · cases hv
  · split at hv
    · next k m hx =>
      split at hv
      · next k' n hy =>
        split at hv
        · next b hb =>
          cases hk : decide (k = k') with
          | false => rw [hk] at hv; cases hv
          | true =>
            rw [hk] at hv
            have hv : some (Value.bool b) = some V := hv
            cases hv
            obtain rfl := of_decide_eq_true hk
            unfold cmp9 at hb
            split at hb <;> cases hb
            · exact ru_lss (h.ev hx) (h.ev hy)
            · exact ru_leq (h.ev hx) (h.ev hy)
            · exact ru_gtr (h.ev hx) (h.ev hy)
            · exact ru_geq (h.ev hx) (h.ev hy)
            · exact ru_eql (h.ev hx) (h.ev hy)
            · exact ru_neq (h.ev hx) (h.ev hy)
        · cases hv
      · cases hv
    · cases hv
  · cases hv
/-- n operations, one behind the other: what is known behind them, and those that are left -/
def run9 (T : List (Nat × Nat × Nat)) (ops : Array Oper) (N : Nat) : Nat → List (Nat × Value) → List Oper → Option (List (Nat × Value) × List Oper)
  | 0, L, l => some (L, l)
  | n + 1, L, ⟨some d, op, _, _, _, none⟩ :: l => match evR T L op with
    | some V => bif Nat.blt d N then run9 T ops N n ((d, V) :: L) l else none
    | none => none
  | n + 1, L, ⟨some d, op, _, _, _, some (j, b)⟩ :: l => match ops[j]? with
    | some ⟨some t, _, _, _, _, _⟩ => match lk L t with
      | some (.bool v) => bif (bif v then b else !b) then
          match evR T L op with
          | some V => bif Nat.blt d N then run9 T ops N n ((d, V) :: L) l else none
          | none => none
        else bif Nat.blt d N then run9 T ops N n ((d, undef) :: L) l else none
      | _ => none
    | _ => none
  | _ + 1, _, _ => none
theorem run9_ok {P : Program} {T : List (Nat × Nat × Nat)} (hT : FT P T) {ops : Array Oper} {Q : Act → World → Prop} {N : Nat} {w : World} {Df : List Deferred} {L' : List (Nat × Value)} {r : List Oper} : ∀ (n : Nat) {L : List (Nat × Value)} {l : List Oper} {a : Act}, Sl N a L Df → run9 T ops N n L l = some (L', r) →
    (∀ a', Sl N a' L' Df → Lst P ops Q r a' w) → Lst P ops Q l a w
  | 0, L, l, a, h, hr, k => by
    cases hr; exact k a h
  | n + 1, L, [], a, h, hr, k => by cases hr
  | n + 1, L, ⟨none, op, ty, pos, af, g⟩ :: l, a, h, hr, k => by cases g <;> cases hr
  | n + 1, L, ⟨some d, op, ty, pos, af, none⟩ :: l, a, h, hr, k => by
    unfold run9 at hr
    split at hr
    · next V hv =>
      cases hd : Nat.blt d N with
      | true => rw [hd] at hr; exact s_pure h (evR_runs hT h hv) hd fun a' h' => run9_ok hT n h' hr k
      | false => rw [hd] at hr; cases hr
    · cases hr
  | n + 1, L, ⟨some d, op, ty, pos, af, some (j, b)⟩ :: l, a, h, hr, k => by
    unfold run9 at hr
    split at hr
    · next t _ _ _ _ _ hj =>
      split at hr
      · next v hv =>
        cases hc : (bif v then b else !b) with
        | true =>
          rw [hc] at hr
          have hvb : v = b := by cases v <;> cases b <;> first | rfl | cases hc
          subst hvb
          refine s_on h hj rfl hv ?_
          have hr : (match evR T L op with | some V => bif Nat.blt d N then run9 T ops N n ((d, V) :: L) l else none | none => none) = some (L', r) := hr
          split at hr
          · next V hV =>
            cases hd : Nat.blt d N with
            | true => rw [hd] at hr; exact s_pure h (evR_runs hT h hV) hd fun a' h' => run9_ok hT n h' hr k
            | false => rw [hd] at hr; cases hr
          · cases hr
        | false =>
          rw [hc] at hr
          have hvb : v = !b := by cases v <;> cases b <;> first | rfl | cases hc
          subst hvb
          have hr : (bif Nat.blt d N then run9 T ops N n ((d, undef) :: L) l else none) = some (L', r) := hr
          cases hd : Nat.blt d N with
          | true => rw [hd] at hr; exact s_off h hj rfl hv hd fun a' h' => run9_ok hT n h' hr k
          | false => rw [hd] at hr; cases hr
      · cases hr
    · cases hr
/-- n operations -/
theorem s_run {P : Program} {T : List (Nat × Nat × Nat)} (hT : FT P T) (n : Nat) {ops : Array Oper} {Q : Act → World → Prop} {N : Nat} {L L' : List (Nat × Value)} {Df : List Deferred} {l r : List Oper} {a : Act} {w : World} (h : Sl N a L Df) (hr : run9 T ops N n L l = some (L', r))
    (k : ∀ a', Sl N a' L' Df → Lst P ops Q r a' w) : Lst P ops Q l a w := run9_ok hT n h hr k
/-- .. and none are left -/
theorem s_end {P : Program} {T : List (Nat × Nat × Nat)} (hT : FT P T) (n : Nat) {ops : Array Oper} {Q : Act → World → Prop} {N : Nat} {L L' : List (Nat × Value)} {Df : List Deferred} {l : List Oper} {a : Act} {w : World} (h : Sl N a L Df) (hr : run9 T ops N n L l = some (L', []))
    (k : ∀ a', Sl N a' L' Df → Q a' w) : Lst P ops Q l a w := run9_ok hT n h hr fun a' h' => s_nil (k a' h')
/-- one, whose value is said otherwise -/
theorem s_as {P : Program} {T : List (Nat × Nat × Nat)} (hT : FT P T) (V : Value) {ops : Array Oper} {Q : Act → World → Prop} {N : Nat} {L : List (Nat × Value)} {Df : List Deferred} {d : Tmp} {op : Op} {ty : TypeId} {pos : String} {af : Array Edge} {l : List Oper} {a : Act} {w : World} {R : Value} (h : Sl N a L Df) (hr : evR T L op = some R) (e : R = V) (hd : Nat.blt d N = true)
    (k : ∀ a', Sl N a' ((d, V) :: L) Df → Lst P ops Q l a' w) : Lst P ops Q (⟨some d, op, ty, pos, af, none⟩ :: l) a w := s_pure h (e ▸ evR_runs hT h hr) hd k
/-! control: a region, then the rest; a test that is decided, and skips -/
end Go.Proofs.Ythjkhnhiciamaaa

namespace Go.Proofs.Ythjkhnhiciamaaa
open Go.RowKit
/-! ### steps that need little said, to be put into one another -/
section
variable {ro : Option Nat} {P : Program} {a : Act} {w : World}
theorem c_seqN {x y : Code} {Q : Exit → Act → World → Prop} (h : x.wpIn (FR ro) 0 P (Exit.then (y.wpIn (FR ro) 0 P Q) Q) a w) : (Code.seq x y).wpIn (FR ro) 0 P Q a w := wpIn_seq h
variable {N : Nat} {L : List (Nat × Value)} {Df : List Deferred}
theorem c_ct {c : Operand} {x y : Code} {Q : Exit → Act → World → Prop} (h : Sl N a L Df) (hc : evo L c = some (.bool true)) (k : x.wpIn (FR ro) 0 P Q a w) : (Code.cond c x y).wpIn (FR ro) 0 P Q a w := wpIn_cond_true (h.ev hc) k
theorem c_cf {c : Operand} {x y : Code} {Q : Exit → Act → World → Prop} (h : Sl N a L Df) (hc : evo L c = some (.bool false)) (k : y.wpIn (FR ro) 0 P Q a w) : (Code.cond c x y).wpIn (FR ro) 0 P Q a w := wpIn_cond_false (h.ev hc) k
theorem nt {ops : Array Oper} {K : Act → World → Prop} {Q : Exit → Act → World → Prop} (k : K a w) : Lst P ops (Exit.then K Q .normal) [] a w := s_nil (t_norm k)
theorem qr {id : Nat} {l : List Oper} {y : Code} {Q : Exit → Act → World → Prop} (k : Lst P l.toArray (Exit.then (y.wpIn (FR ro) 0 P Q) Q .normal) l a w) : (Code.seq (Code.region id l.toArray false) y).wpIn (FR ro) 0 P Q a w := c_seqN (c_region k)
variable {T : List (Nat × Nat × Nat)} {L' : List (Nat × Value)}
theorem e9 (hT : FT P T) (n : Nat) {ops : Array Oper} {K : Act → World → Prop} {Q : Exit → Act → World → Prop} {l : List Oper} (h : Sl N a L Df) (hr : run9 T ops N n L l = some (L', [])) (k : ∀ a', Sl N a' L' Df → K a' w) : Lst P ops (Exit.then K Q .normal) l a w := s_end hT n h hr fun f h => t_norm (k f h)
theorem rs (hT : FT P T) (n : Nat) {id : Nat} {l r : List Oper} {Q : Exit → Act → World → Prop} (h : Sl N a L Df) (hr : run9 T l.toArray N n L l = some (L', r)) (k : ∀ a', Sl N a' L' Df → Lst P l.toArray (Q .normal) r a' w) : (Code.region id l.toArray false).wpIn (FR ro) 0 P Q a w := c_region (s_run hT n h hr k)
theorem re (hT : FT P T) (n : Nat) {id : Nat} {l : List Oper} {K : Act → World → Prop} {Q : Exit → Act → World → Prop} (h : Sl N a L Df) (hr : run9 T l.toArray N n L l = some (L', [])) (k : ∀ a', Sl N a' L' Df → K a' w) : (Code.region id l.toArray false).wpIn (FR ro) 0 P (Exit.then K Q) a w := c_region (e9 hT n h hr k)
theorem qrs (hT : FT P T) (n : Nat) {id : Nat} {l r : List Oper} {y : Code} {Q : Exit → Act → World → Prop} (h : Sl N a L Df) (hr : run9 T l.toArray N n L l = some (L', r)) (k : ∀ a', Sl N a' L' Df → Lst P l.toArray (Exit.then (y.wpIn (FR ro) 0 P Q) Q .normal) r a' w) : (Code.seq (Code.region id l.toArray false) y).wpIn (FR ro) 0 P Q a w := c_seqN (rs hT n h hr k)
theorem qre (hT : FT P T) (n : Nat) {id : Nat} {l : List Oper} {y : Code} {Q : Exit → Act → World → Prop} (h : Sl N a L Df) (hr : run9 T l.toArray N n L l = some (L', [])) (k : ∀ a', Sl N a' L' Df → y.wpIn (FR ro) 0 P Q a' w) : (Code.seq (Code.region id l.toArray false) y).wpIn (FR ro) 0 P Q a w := c_seqN (re hT n h hr k)
theorem s_cv {w0 : World} {B : List Own} {ops : Array Oper} {Q : Act → World → Prop} {l : List Oper} {d : Tmp} {ty : TypeId} {pos : String} {af : Array Edge} {f : FuncId} {args : Array Operand} {tys : Array TypeId} {vs : List Value} {V : Value} (h : Sl N a L Df) (s : St w0 B w) (hf : Fnc P f) (hc : Calls P f vs.toArray w (Ret w (is V))) (hvs : args.toList.map (evo L) = vs.map some)
    (hd : Nat.blt d N = true) (k : ∀ a' w', Sl N a' ((d, V) :: L) Df → St w0 B w' → Lst P ops Q l a' w') : Lst P ops Q (⟨some d, .call { callee := .value (.func f), args := args, argTypes := tys }, ty, pos, af, none⟩ :: l) a w :=
  s_call h s hf hc hvs hd fun a' w' v hT _ h s => by obtain rfl := hT; exact k a' w' h s
/-! one whose value is a Bool that is said otherwise; one that is wanted; a call that answers one value; how long -/
def evD (T : List (Nat × Nat × Nat)) (N : Nat) (L : List (Nat × Value)) (d : Nat) (op : Op) : Option Value := bif Nat.blt d N then evR T L op else none
theorem evD_ok {d : Nat} {op : Op} {V : Value} (h : evD T N L d op = some V) : Nat.blt d N = true ∧ evR T L op = some V := by
  unfold evD at h
  cases e : Nat.blt d N with
  | true => rw [e] at h; exact ⟨rfl, h⟩
  | false => rw [e] at h; cases h
section
variable {ops : Array Oper} {Q : Act → World → Prop} {l : List Oper} {d : Tmp} {op : Op} {ty : TypeId} {pos : String} {af : Array Edge} {b c : Bool}
theorem s_ab (hT : FT P T) (h : Sl N a L Df) (hr : evD T N L d op = some (.bool b)) (e : b = c) (k : ∀ a', Sl N a' ((d, .bool c) :: L) Df → Lst P ops Q l a' w) : Lst P ops Q (⟨some d, op, ty, pos, af, none⟩ :: l) a w := by
  subst e; exact s_pure h (evR_runs hT h (evD_ok hr).2) (evD_ok hr).1 k
theorem s_at (hT : FT P T) (h : Sl N a L Df) (hr : evD T N L d op = some (.bool b)) (e : b = true) (k : ∀ a', Sl N a' ((d, .bool true) :: L) Df → Lst P ops Q l a' w) : Lst P ops Q (⟨some d, op, ty, pos, af, none⟩ :: l) a w := s_ab hT h hr e k
theorem s_af (hT : FT P T) (h : Sl N a L Df) (hr : evD T N L d op = some (.bool b)) (e : b = false) (k : ∀ a', Sl N a' ((d, .bool false) :: L) Df → Lst P ops Q l a' w) : Lst P ops Q (⟨some d, op, ty, pos, af, none⟩ :: l) a w := s_ab hT h hr e k
def gd9 (ops : Array Oper) (L : List (Nat × Value)) (j : Nat) : Option Bool := match ops[j]? with
  | some ⟨some t, _, _, _, _, _⟩ => match lk L t with
    | some (.bool v) => some v
    | _ => none
  | _ => none
theorem gd9_ok {j : Nat} (h : gd9 ops L j = some b) : ∃ od t, ops[j]? = some od ∧ od.dst = some t ∧ lk L t = some (.bool b) := by
  unfold gd9 at h
  split at h
  · next t _ _ _ _ _ hj =>
    split at h
    · next v hv => cases h; exact ⟨_, _, hj, rfl, hv⟩
    · cases h
  · cases h
theorem s_o {j : Nat} (h : Sl N a L Df) (hg : gd9 ops L j = some b) (k : Lst P ops Q (⟨some d, op, ty, pos, af, none⟩ :: l) a w) : Lst P ops Q (⟨some d, op, ty, pos, af, some (j, b)⟩ :: l) a w := by
  obtain ⟨od, t, h1, h2, h3⟩ := gd9_ok hg
  exact s_on h h1 h2 h3 k
theorem s_lz {t e : TypeId} {x : Operand} {w0 : World} {v : Value} {sz n : Nat} {xs : List Value} (h : Sl N a L Df) (hR : RdZ w0 v sz n xs) (ht : P.underlying t = some (.slice e)) (hx : evo L x = some v) (hd : Nat.blt d N = true)
    (k : ∀ a', Sl N a' ((d, .int .i64 (n : Int)) :: L) Df → Lst P ops Q l a' w) : Lst P ops Q (⟨some d, .call { callee := .builtin .len, args := #[x], argTypes := #[t] }, ty, pos, af, none⟩ :: l) a w := s_pure h (ru_lenZ hR ht (h.ev hx)) hd k
theorem s_cb {w0 : World} {B : List Own} {f : FuncId} {args : Array Operand} {tys : Array TypeId} {vs : List Value} (c : Bool) (h : Sl N a L Df) (s : St w0 B w) (hf : Fnc P f) (hc : Calls P f vs.toArray w (Ret w (is (.bool b)))) (e : b = c) (hvs : args.toList.map (evo L) = vs.map some)
    (hd : Nat.blt d N = true) (k : ∀ a' w', Sl N a' ((d, .bool c) :: L) Df → St w0 B w' → Lst P ops Q l a' w') : Lst P ops Q (⟨some d, .call { callee := .value (.func f), args := args, argTypes := tys }, ty, pos, af, none⟩ :: l) a w := by
  subst e; exact s_cv h s hf hc hvs hd k
end
section
variable {c : Operand} {x y : Code} {ops : Array Oper} {Q : Exit → Act → World → Prop} {K : Act → World → Prop}
theorem nct {Q' : Exit → Act → World → Prop} (h : Sl N a L Df) (hc : evo L c = some (.bool true)) (k : x.wpIn (FR ro) 0 P Q a w) : Lst P ops (Exit.then ((Code.cond c x y).wpIn (FR ro) 0 P Q) Q' .normal) [] a w := nt (c_ct h hc k)
theorem ncf {Q' : Exit → Act → World → Prop} (h : Sl N a L Df) (hc : evo L c = some (.bool false)) (k : y.wpIn (FR ro) 0 P Q a w) : Lst P ops (Exit.then ((Code.cond c x y).wpIn (FR ro) 0 P Q) Q' .normal) [] a w := nt (c_cf h hc k)
theorem kt (k : K a w) : Code.skip.wpIn (FR ro) 0 P (Exit.then K Q) a w := wpIn_skip (t_norm k)
theorem ncfk {Q' : Exit → Act → World → Prop} (h : Sl N a L Df) (hc : evo L c = some (.bool false)) (k : K a w) : Lst P ops (Exit.then ((Code.cond c x .skip).wpIn (FR ro) 0 P (Exit.then K Q)) Q' .normal) [] a w := ncf h hc (kt k)
theorem cfk (h : Sl N a L Df) (hc : evo L c = some (.bool false)) (k : K a w) : (Code.cond c x .skip).wpIn (FR ro) 0 P (Exit.then K Q) a w := c_cf h hc (kt k)
theorem rt (k : Q .ret a w) : Code.ret.wpIn (FR ro) 0 P (Exit.then K Q) a w := wpIn_ret (t_ret k)
end
/-! the same of regions that draw their order -/
/-- what is bound to come ahead of each operation -/
def clsF (ops : List Oper) : List (List Nat) := ops.foldl (fun acc o => acc ++ [(List.range acc.length).filter fun j => (direct o).contains j || (direct o).any fun k => (acc.getD k []).contains j]) []
theorem c_wA {id : Nat} {ops : List Oper} (m : Nat) {Q : Exit → Act → World → Prop} (h : Sl N a L Df) (hok : (P.follows .mixedOrders && (okReg ops m (clsF ops) N && Region.noSelect ops.toArray)) = true)
    (k : Wlk P ops.toArray (Lst P ops.toArray (Q .normal) (ops.drop m)) w (ops.take m) a) : (Code.region id ops.toArray true).wpIn (FR ro) 0 P Q a w := by
  obtain ⟨h1, h2⟩ := (Bool.and_eq_true _ _).mp hok
  obtain ⟨h3, h4⟩ := (Bool.and_eq_true _ _).mp h2
  exact c_walkN m (clsF ops) h h1 h3 h4 k
def run8 (T : List (Nat × Nat × Nat)) (ops : List Oper) (N : Nat) : Nat → List (Nat × Value) → List Oper → Option (List (Nat × Value) × List Oper)
  | 0, L, l => some (L, l)
  | n + 1, L, ⟨some d, op, _, _, _, none⟩ :: l => match evR T L op with
    | some V => bif Nat.blt d N then run8 T ops N n ((d, V) :: L) l else none
    | none => none
  | n + 1, L, ⟨some d, op, _, _, _, some (j, b)⟩ :: l => match ops[j]? with
    | some ⟨some t, _, _, _, _, _⟩ => match lk L t with
      | some (.bool v) => bif (bif v then b else !b) then
          match evR T L op with
          | some V => bif Nat.blt d N then run8 T ops N n ((d, V) :: L) l else none
          | none => none
        else bif Nat.blt d N then run8 T ops N n ((d, undef) :: L) l else none
      | some (.tuple vs) => bif vs.isEmpty && Nat.blt d N then run8 T ops N n ((d, undef) :: L) l else none
      | _ => none
    | _ => none
  | _ + 1, _, _ => none
theorem run8_ok (hT : FT P T) {ops : List Oper} {K : Act → World → Prop} {r : List Oper} : ∀ (n : Nat) {L : List (Nat × Value)} {l : List Oper} {a : Act}, Sl N a L Df → run8 T ops N n L l = some (L', r) →
    (∀ a', Sl N a' L' Df → Wlk P ops.toArray K w r a') → Wlk P ops.toArray K w l a
  | 0, L, l, a, h, hr, k => by
    cases hr; exact k a h
  | n + 1, L, [], a, h, hr, k => by cases hr
  | n + 1, L, ⟨none, op, ty, pos, af, g⟩ :: l, a, h, hr, k => by cases g <;> cases hr
  | n + 1, L, ⟨some d, op, ty, pos, af, none⟩ :: l, a, h, hr, k => by
    unfold run8 at hr
    split at hr
    · next V hv =>
      cases hd : Nat.blt d N with
      | true => rw [hd] at hr; exact w_pure h (evR_runs hT h hv) hd fun a' h' => run8_ok hT n h' hr k
      | false => rw [hd] at hr; cases hr
    · cases hr
  | n + 1, L, ⟨some d, op, ty, pos, af, some (j, b)⟩ :: l, a, h, hr, k => by
    unfold run8 at hr
    split at hr
    · next t _ _ _ _ _ hj =>
      split at hr
      · next v hv =>
        cases hc : (bif v then b else !b) with
        | true =>
          rw [hc] at hr
          have hvb : v = b := by cases v <;> cases b <;> first | rfl | cases hc
          subst hvb
          refine w_on h hj rfl hv ?_
          have hr : (match evR T L op with | some V => bif Nat.blt d N then run8 T ops N n ((d, V) :: L) l else none | none => none) = some (L', r) := hr
          split at hr
          · next V hV =>
            cases hd : Nat.blt d N with
            | true => rw [hd] at hr; exact w_pure h (evR_runs hT h hV) hd fun a' h' => run8_ok hT n h' hr k
            | false => rw [hd] at hr; cases hr
          · cases hr
        | false =>
          rw [hc] at hr
          have hvb : v = !b := by cases v <;> cases b <;> first | rfl | cases hc
          subst hvb
          have hr : (bif Nat.blt d N then run8 T ops N n ((d, undef) :: L) l else none) = some (L', r) := hr
          cases hd : Nat.blt d N with
          | true => rw [hd] at hr; exact w_off h hj rfl hv hd fun a' h' => run8_ok hT n h' hr k
          | false => rw [hd] at hr; cases hr
      · next vs hv =>
        cases he : vs.isEmpty with
        | false => rw [he] at hr; cases hr
        | true =>
          rw [he] at hr
          obtain rfl : vs = #[] := by simpa using he
          cases hd : Nat.blt d N with
          | true => rw [hd] at hr; exact w_none h hj rfl hv hd fun a' h' => run8_ok hT n h' hr k
          | false => rw [hd] at hr; cases hr
      · cases hr
    · cases hr
theorem w_run (hT : FT P T) (n : Nat) {ops : List Oper} {K : Act → World → Prop} {l r : List Oper} (h : Sl N a L Df) (hr : run8 T ops N n L l = some (L', r)) (k : ∀ a', Sl N a' L' Df → Wlk P ops.toArray K w r a') : Wlk P ops.toArray K w l a := run8_ok hT n h hr k
section
variable {ops : List Oper} {K : Act → World → Prop} {l : List Oper} {d : Tmp} {op : Op} {ty : TypeId} {pos : String} {af : Array Edge} {b c : Bool}
theorem w_ab (hT : FT P T) (h : Sl N a L Df) (hr : evD T N L d op = some (.bool b)) (e : b = c) (k : ∀ a', Sl N a' ((d, .bool c) :: L) Df → Wlk P ops.toArray K w l a') : Wlk P ops.toArray K w (⟨some d, op, ty, pos, af, none⟩ :: l) a := by
  subst e; exact w_pure h (evR_runs hT h (evD_ok hr).2) (evD_ok hr).1 k
theorem w_at (hT : FT P T) (h : Sl N a L Df) (hr : evD T N L d op = some (.bool b)) (e : b = true) (k : ∀ a', Sl N a' ((d, .bool true) :: L) Df → Wlk P ops.toArray K w l a') : Wlk P ops.toArray K w (⟨some d, op, ty, pos, af, none⟩ :: l) a := w_ab hT h hr e k
theorem w_af (hT : FT P T) (h : Sl N a L Df) (hr : evD T N L d op = some (.bool b)) (e : b = false) (k : ∀ a', Sl N a' ((d, .bool false) :: L) Df → Wlk P ops.toArray K w l a') : Wlk P ops.toArray K w (⟨some d, op, ty, pos, af, none⟩ :: l) a := w_ab hT h hr e k
theorem w_o {j : Nat} (h : Sl N a L Df) (hg : gd9 ops.toArray L j = some b) (k : Wlk P ops.toArray K w (⟨some d, op, ty, pos, af, none⟩ :: l) a) : Wlk P ops.toArray K w (⟨some d, op, ty, pos, af, some (j, b)⟩ :: l) a := by
  obtain ⟨od, t, h1, h2, h3⟩ := gd9_ok hg
  exact w_on h (by simpa using h1) h2 h3 k
end
end
/-! a function's head -/
def aL : Nat → List Value → List (Nat × Value)
  | _, [] => []
  | k, v :: r => (k, v) :: aL (k + 1) r
theorem aL_at : ∀ (l : List Value) (k : Nat), ∀ p ∈ aL k l, ∃ j, p.1 = k + j ∧ l[j]? = some p.2
  | [], _, _, h => by cases h
  | v :: r, k, p, h => by
    rcases List.mem_cons.1 h with rfl | h
    · exact ⟨0, rfl, rfl⟩
    · obtain ⟨j, h1, h2⟩ := aL_at r (k + 1) p h
      exact ⟨j + 1, by omega, h2⟩
theorem c_en {P : Program} {w : World} {f : FuncId} {fn : Func} {c : Code} {args : List Value} {T : Asrt} {n : Nat} (hf : P.funcs[f]? = some fn) (hb : fn.body = some c) (hn : fn.ntmps = n) (hs : Nat.ble args.length n = true)
    (h : ∀ a, Sl n a (aL 0 args) → St w [] w → c.wpIn (FR none) 0 P (bodyPost P fn (Ret w T)) a w) : Calls P f args.toArray w (Ret w T) :=
  c_enter hf hb hn hs (aL 0 args) (fun p hp => by obtain ⟨j, h1, h2⟩ := aL_at args 0 p hp; rw [h1, Nat.zero_add]; exact h2) fun a ha => h a ha (St.start w)
theorem c_cd {ro : Option Nat} {P : Program} {a : Act} {w : World} {N : Nat} {L : List (Nat × Value)} {Df : List Deferred} {c : Operand} {x y : Code} {p : Prop} [Decidable p] {Q : Exit → Act → World → Prop} (h : Sl N a L Df) (hc : evo L c = some (.bool (decide p))) (ht : p → x.wpIn (FR ro) 0 P Q a w) (hf : ¬ p → y.wpIn (FR ro) 0 P Q a w) : (Code.cond c x y).wpIn (FR ro) 0 P Q a w :=
  c_cond h hc (fun e => ht (of_decide_eq_true e)) (fun e => hf (of_decide_eq_false e))
/-! where two ways part: at the operation itself -/
section
variable {P : Program} {a : Act} {w : World} {N : Nat} {L : List (Nat × Value)} {Df : List Deferred} {T : List (Nat × Nat × Nat)} {Q : Act → World → Prop} {l : List Oper} {d : Tmp} {op : Op} {ty : TypeId} {pos : String} {af : Array Edge} {b c : Bool}
theorem s_ay (hT : FT P T) {ops : Array Oper} (c : Bool) (h : Sl N a L Df) (hr : evD T N L d op = some (.bool b)) (e : b = c) (kf : c = false → ∀ a', Sl N a' ((d, .bool false) :: L) Df → Lst P ops Q l a' w) (kt : c = true → ∀ a', Sl N a' ((d, .bool true) :: L) Df → Lst P ops Q l a' w) : Lst P ops Q (⟨some d, op, ty, pos, af, none⟩ :: l) a w := by
  cases hc : c with
  | false => exact s_ab hT h hr (e.trans hc) (kf hc)
  | true => exact s_ab hT h hr (e.trans hc) (kt hc)
theorem s_ax (hT : FT P T) {ops : Array Oper} (h : Sl N a L Df) (hr : evD T N L d op = some (.bool b)) (kf : b = false → ∀ a', Sl N a' ((d, .bool false) :: L) Df → Lst P ops Q l a' w) (kt : b = true → ∀ a', Sl N a' ((d, .bool true) :: L) Df → Lst P ops Q l a' w) : Lst P ops Q (⟨some d, op, ty, pos, af, none⟩ :: l) a w := s_ay hT b h hr rfl kf kt
theorem w_ay (hT : FT P T) {ops : List Oper} (c : Bool) (h : Sl N a L Df) (hr : evD T N L d op = some (.bool b)) (e : b = c) (kf : c = false → ∀ a', Sl N a' ((d, .bool false) :: L) Df → Wlk P ops.toArray Q w l a') (kt : c = true → ∀ a', Sl N a' ((d, .bool true) :: L) Df → Wlk P ops.toArray Q w l a') : Wlk P ops.toArray Q w (⟨some d, op, ty, pos, af, none⟩ :: l) a := by
  cases hc : c with
  | false => exact w_ab hT h hr (e.trans hc) (kf hc)
  | true => exact w_ab hT h hr (e.trans hc) (kt hc)
theorem w_ax (hT : FT P T) {ops : List Oper} (h : Sl N a L Df) (hr : evD T N L d op = some (.bool b)) (kf : b = false → ∀ a', Sl N a' ((d, .bool false) :: L) Df → Wlk P ops.toArray Q w l a') (kt : b = true → ∀ a', Sl N a' ((d, .bool true) :: L) Df → Wlk P ops.toArray Q w l a') : Wlk P ops.toArray Q w (⟨some d, op, ty, pos, af, none⟩ :: l) a := w_ay hT b h hr rfl kf kt
theorem s_cy {ops : Array Oper} {w0 : World} {B : List Own} {f : FuncId} {args : Array Operand} {tys : Array TypeId} {vs : List Value} (c : Bool) (h : Sl N a L Df) (s : St w0 B w) (hf : Fnc P f) (hc : Calls P f vs.toArray w (Ret w (is (.bool b)))) (e : b = c) (hvs : args.toList.map (evo L) = vs.map some) (hd : Nat.blt d N = true)
    (kf : c = false → ∀ a' w', Sl N a' ((d, .bool false) :: L) Df → St w0 B w' → Lst P ops Q l a' w') (kt : c = true → ∀ a' w', Sl N a' ((d, .bool true) :: L) Df → St w0 B w' → Lst P ops Q l a' w') : Lst P ops Q (⟨some d, .call { callee := .value (.func f), args := args, argTypes := tys }, ty, pos, af, none⟩ :: l) a w := by
  cases h9 : c with
  | false => exact s_cb false h s hf hc (e.trans h9) hvs hd (kf h9)
  | true => exact s_cb true h s hf hc (e.trans h9) hvs hd (kt h9)
theorem s_cx {ops : Array Oper} {w0 : World} {B : List Own} {f : FuncId} {args : Array Operand} {tys : Array TypeId} {vs : List Value} (h : Sl N a L Df) (s : St w0 B w) (hf : Fnc P f) (hc : Calls P f vs.toArray w (Ret w (is (.bool b)))) (hvs : args.toList.map (evo L) = vs.map some) (hd : Nat.blt d N = true)
    (kf : b = false → ∀ a' w', Sl N a' ((d, .bool false) :: L) Df → St w0 B w' → Lst P ops Q l a' w') (kt : b = true → ∀ a' w', Sl N a' ((d, .bool true) :: L) Df → St w0 B w' → Lst P ops Q l a' w') : Lst P ops Q (⟨some d, .call { callee := .value (.func f), args := args, argTypes := tys }, ty, pos, af, none⟩ :: l) a w := s_cy b h s hf hc rfl hvs hd kf kt
end
end Go.Proofs.Ythjkhnhiciamaaa

namespace Go.Proofs.Ythjkhnhiciamaaa
open Go.RowKit
/-! ### rows of links: those that come back -/
section
variable {α : Type}
abbrev StepR (E : List (α × α)) (a b : α) : Prop := (a, b) ∈ E
def Cyc (E : List (α × α)) : Prop := ∃ k, Relation.TransGen (StepR E) k k
theorem tg_sub {E F : List (α × α)} (h : ∀ s ∈ E, s ∈ F) {a b : α} (t : Relation.TransGen (StepR E) a b) : Relation.TransGen (StepR F) a b := by
  induction t with
  | single h1 => exact .single (h _ h1)
  | tail _ h1 ih => exact .tail ih (h _ h1)
theorem Cyc.sub {E F : List (α × α)} (h : ∀ s ∈ E, s ∈ F) (c : Cyc E) : Cyc F := by
  obtain ⟨k, hk⟩ := c
  exact ⟨k, tg_sub h hk⟩
variable [DecidableEq α]
/-- what is known behind i links of a round -/
structure BfsJ (E : List (α × α)) (now out : List α) (i : Nat) (o n : List α) : Prop where
  outJ : ∀ x, x ∈ o ↔ x ∈ out ∨ x ∈ n
  newJ : ∀ x ∈ n, x ∉ out ∧ ∃ l ∈ E, l.1 ∈ now ∧ l.2 = x
  doneJ : ∀ j (h : j < E.length), j < i → E[j].1 ∈ now → E[j].2 ∈ o
/-- what is known between rounds -/
structure BfsK (E : List (α × α)) (k : α) (now out : List α) : Prop where
  outK : ∀ x ∈ out, Relation.TransGen (StepR E) k x
  nowK : ∀ x ∈ now, x = k ∨ x ∈ out
  doneK : ∀ x, (x = k ∨ x ∈ out) → x ∉ now → ∀ y, (x, y) ∈ E → y ∈ out
end
end Go.Proofs.Ythjkhnhiciamaaa

namespace Go.Proofs.Ythjkhnhiciamaaa
open Go.RowKit
/-! ### keys: an identifier's first 16 bytes -/
abbrev Lnk := Id × Id
def lkF (l : Lnk) (i : Nat) : Nat := if i < 32 then byteAt l.1 i else byteAt l.2 (i - 32)
def lArr (l : Lnk) : Array Value := bytesF (lkF l) 64
theorem cat_bytes (f g : Nat → Nat) (m n : Nat) : (bytesF f m).toList ++ (bytesF g n).toList = (bytesF (fun i => if i < m then f i else g (i - m)) (m + n)).toList := by
  apply List.ext_getElem?
  intro i
  by_cases h : i < m
  · rw [List.getElem?_append_left (by simpa using h), Array.getElem?_toList, Array.getElem?_toList, bytesF_get _ _ _ h, bytesF_get _ _ _ (by omega), if_pos h]
  · rw [List.getElem?_append_right (by simp; omega)]
    simp only [Array.length_toList, bytesF_size]
    by_cases h2 : i < m + n
    · rw [Array.getElem?_toList, Array.getElem?_toList, bytesF_get _ _ _ (by omega), bytesF_get _ _ _ h2, if_neg h]
    · rw [Array.getElem?_toList, Array.getElem?_toList, Array.getElem?_eq_none (by simp; omega), Array.getElem?_eq_none (by simp; omega)]
theorem lArr_cat (x y : Id) : (idArr x).toList ++ (idArr y).toList = (lArr (x, y)).toList := by
  rw [idArr_bytes, idArr_bytes]; exact cat_bytes _ _ 32 32
theorem lArr_size (l : Lnk) : (lArr l).size = 64 := bytesF_size _ _
def lCells (l : List Lnk) : List Value := l.flatMap fun s => (lArr s).toList
theorem cells_len {α : Type} (f : α → List Value) (sz : Nat) (hf : ∀ x, (f x).length = sz) : ∀ l : List α, (l.flatMap f).length = l.length * sz
  | [] => by simp
  | x :: l => by rw [List.flatMap_cons, List.length_append, cells_len f sz hf l, hf, List.length_cons, Nat.succ_mul]; omega
theorem cells_drop {α : Type} (f : α → List Value) (sz : Nat) (hf : ∀ x, (f x).length = sz) (k : Nat) : ∀ l : List α, (l.flatMap f).drop (k * sz) = (l.drop k).flatMap f := by
  induction k with
  | zero => intro l; simp
  | succ k ih =>
    intro l
    cases l with
    | nil => simp
    | cons x l =>
      rw [List.flatMap_cons, List.drop_succ_cons, ← ih l, Nat.succ_mul, Nat.add_comm, ← List.drop_drop]
      congr 1
      rw [← hf x, List.drop_left]
theorem cells_take {α : Type} (f : α → List Value) (sz : Nat) (hf : ∀ x, (f x).length = sz) (k : Nat) : ∀ l : List α, (l.flatMap f).take (k * sz) = (l.take k).flatMap f := by
  induction k with
  | zero => intro l; simp
  | succ k ih =>
    intro l
    cases l with
    | nil => simp
    | cons x l =>
      rw [List.flatMap_cons, List.take_succ_cons, List.flatMap_cons, ← ih l, Nat.succ_mul, Nat.add_comm, List.take_add]
      rw [← hf x, List.take_left, List.drop_left]
theorem cells_el {α : Type} (f : α → List Value) (sz : Nat) (hf : ∀ x, (f x).length = sz) (l : List α) (j : Nat) (hj : j < l.length) : ((l.flatMap f).drop (j * sz)).take sz = f l[j] := by
  rw [cells_drop f sz hf, List.drop_eq_getElem_cons hj, List.flatMap_cons, ← hf l[j], List.take_left]
theorem lCells_len (l : List Lnk) : (lCells l).length = l.length * 64 := cells_len _ 64 (fun x => by rw [Array.length_toList, lArr_size]) l
/-! ### what may lead where -/
end Go.Proofs.Ythjkhnhiciamaaa

namespace Go.Proofs.Ythjkhnhiciamaaa
open Go.RowKit
/-! ### the reference's sum of bytes -/
def r1 (x : W32) : W32 := BitVec.ofNat 32 (x.toNat / 2 + x.toNat % 2 * 2147483648)
/-- rows of words -/
def wL (f : Nat → W32) (n : Nat) : List Value := (List.range n).map fun i => wv (f i)
@[simp] theorem wL_len (f : Nat → W32) (n : Nat) : (wL f n).length = n := by simp [wL]
end Go.Proofs.Ythjkhnhiciamaaa

namespace Go.Proofs.Ythjkhnhiciamaaa
open Go.RowKit
/-! ### what the generator wants besides -/
theorem Has.subL {w : World} {b o : Nat} {C : Array Value} (h : Has w ⟨b, o, none⟩ C) (off n : Nat) {D : Array Value} (hD : C.extract off (off + n) = D) : Has w ⟨b, o + off, none⟩ D := by
  have := h.sub off n hD
  rwa [Addr.add_lit] at this
theorem Has.as {w : World} {p : Addr} {C D : Array Value} (h : Has w p C) (e : C = D) : Has w p D := e ▸ h
section
variable {P : Program} {a : Act} {w w0 : World} {N : Nat} {L : List (Nat × Value)} {Df : List Deferred}
end
section
variable {P : Program} {ρ : Operand → Value} {d : Option Tmp} {ty : TypeId} {pos : String} {af : Array Edge} {g : Option (Nat × Bool)} {x y : Operand} {t t' : TypeId}
end
/-! ### what w_ wants -/
section
variable {P : Program} {ops : List Oper} {K : Act → World → Prop} {l : List Oper} {a : Act} {w w0 : World} {N : Nat} {L : List (Nat × Value)} {Df : List Deferred} {B : List Own} {d : Tmp} {op : Op} {ty : TypeId} {pos : String} {af : Array Edge} {x y : Operand} {t : TypeId}
theorem w_load_at {n : Nat} {p : Addr} {C : Array Value} (hH : Has w p C) (h : Sl N a L Df) (hr : Row P t n) (hx : evo L x = some (.pointer (some p))) (hn : C.size = n) (hd : Nat.blt d N = true)
    (k : ∀ a', Sl N a' ((d, .agg C) :: L) Df → Wlk P ops.toArray K w l a') : Wlk P ops.toArray K w (⟨some d, .load t x, ty, pos, af, none⟩ :: l) a :=
  w_does _ h (fun w' hE => by
    unfold Does
    simp only [execOp, h.ev hx, Instr.loadAt, Instr.sureAddr, Sem.run_bind, Sem.run_pure, Result.andThen_ok, run_load_at hr w' p C (hH.ext hE) hn]
    first | exact ⟨rfl, Ext.refl _⟩ | exact ⟨trivial, Ext.refl _⟩) hd k
theorem w_load_at1 {p : Addr} {V : Value} (hH : w.cell? p = some V) (h : Sl N a L Df) (ho : One P t) (hx : evo L x = some (.pointer (some p))) (hd : Nat.blt d N = true)
    (k : ∀ a', Sl N a' ((d, V) :: L) Df → Wlk P ops.toArray K w l a') : Wlk P ops.toArray K w (⟨some d, .load t x, ty, pos, af, none⟩ :: l) a :=
  w_does _ h (fun w' hE => does_load_one ho (h.ev hx) (by rw [hE.cell (cell_lt hH)]; exact hH) ⟨rfl, Ext.refl _⟩) hd k
end
end Go.Proofs.Ythjkhnhiciamaaa
namespace Go.Proofs.Ythjkhnhiciamaaa
theorem cell_of_has {w : World} {b o : Nat} {C : Array Value} (h : Has w ⟨b, o, none⟩ C) (off : Nat) {V : Value} (hV : C[off]? = some V) : w.cell? ⟨b, o + off, none⟩ = some V := by
  have := h off V hV
  rwa [Addr.add_lit] at this
theorem RdZ.some {w : World} {v : Value} {sz n : Nat} {xs : List Value} (h : RdZ w v sz n xs) (hn : 0 < n) : ∃ p m c, v = .slice (some p) m c := by
  rcases h.2 with ⟨_, h2⟩ | ⟨p, c, h1, _, _⟩
  · omega
  · exact ⟨p, n, c, h1⟩
/-- some of what is owned, in whatever order -/
theorem St.sel {w0 w : World} {B : List Own} (s : St w0 B w) (ix : List Nat) {B' : List Own} (hB : ix.filterMap (fun i => B[i]?) = B') (hn : ix.Nodup) : St w0 B' w := by
  subst hB
  have hmem : ∀ p ∈ ix.filterMap (fun i => B[i]?), p ∈ B := fun p hp => by
    obtain ⟨i, _, h⟩ := List.mem_filterMap.1 hp
    exact List.mem_of_getElem? h
  refine ⟨s.ext, fun p hp => s.has p (hmem p hp), fun p hp => s.own p (hmem p hp), ?_⟩
  rw [List.pairwise_filterMap]
  refine List.Pairwise.imp ?_ hn
  intro i j hij p hp q hq k hk hk'
  obtain ⟨hi, rfl⟩ := List.getElem?_eq_some_iff.1 hp
  obtain ⟨hj, rfl⟩ := List.getElem?_eq_some_iff.1 hq
  have hpw := List.pairwise_iff_getElem.1 s.nd
  rcases Nat.lt_or_gt_of_ne hij with h | h
  · exact hpw i j hi hj h k hk hk'
  · exact hpw j i hj hi h k hk' hk
end Go.Proofs.Ythjkhnhiciamaaa
namespace Go.Proofs.Ythjkhnhiciamaaa
theorem bytesV (f : Nat → Nat) (n : Nat) : (bytesF f n).toList.length = n * 1 ∧ ∀ i, i < n → ∃ m, ((bytesF f n).toList.drop (i * 1)).take 1 = [Value.int .u8 m] := by
  refine ⟨by simp, fun i hi => ⟨f i, ?_⟩⟩
  have hl : i * 1 < (bytesF f n).toList.length := by simp; omega
  rw [List.drop_eq_getElem_cons hl, List.take_succ_cons, List.take_zero]
  have h1 := bytesF_get f n i hi
  have h2 : (bytesF f n).toList[i * 1] = .int .u8 (f i : Int) := by
    have : (bytesF f n).toList[i * 1]? = some (.int .u8 (f i : Int)) := by rw [Array.getElem?_toList, Nat.mul_one]; exact h1
    rw [List.getElem?_eq_getElem hl] at this
    exact Option.some.inj this
  rw [h2]
theorem EqV.struct' {P : Program} {t : TypeId} {D n : Nat} {fs : Array Field} (r : List (Nat × (List Value → Prop))) (ht : P.underlying t = some (.struct fs)) (hp : P.stoodInHeld t = false) (hs : (P.info? t).map (·.size) = some n)
    (hf : FsV P D fs.toList r) (hc : FsCover 0 fs.toList r n) : EqV P (D + 1) t n (fun xs => xs.length = n ∧ FsHas xs fs.toList r) agV := by
  have e : P.fieldsOf t = fs := by simp [Program.fieldsOf, ht]
  have := EqV.struct (P := P) (t := t) (D := D) (n := n) r (by rw [e]; exact ht) hp hs (by rw [e]; exact hf) (by rw [e]; exact hc)
  rw [e] at this
  exact this
end Go.Proofs.Ythjkhnhiciamaaa
namespace Go.Proofs.Ythjkhnhiciamaaa
end Go.Proofs.Ythjkhnhiciamaaa
namespace Go.Proofs.Ythjkhnhiciamaaa
end Go.Proofs.Ythjkhnhiciamaaa

namespace Go.Proofs.Ythjkhnhiciamaaa
open Go.RowKit
/-! ### new blocks in regions that draw their order -/
def PtrT (C : Array Value) (t : TypeId) : Asrt := fun v w => ∃ b, v = .pointer (some ⟨b, 0, none⟩) ∧ w.heap[b]? = some (.cells C t)
theorem PtrT.mono (C : Array Value) (t : TypeId) : Mono (PtrT C t) := fun v w w' ⟨b, h1, h2⟩ hE => ⟨b, h1, (hE.heap (Array.getElem?_eq_some_iff.1 h2).1).trans h2⟩
section
variable {P : Program} {ops : Array Oper} {Q : Act → World → Prop} {l : List Oper} {a : Act} {w w0 : World} {N : Nat} {L : List (Nat × Value)} {Df : List Deferred} {B : List Own} {d : Tmp} {ty : TypeId} {pos : String} {af : Array Edge} {x y : Operand} {t t' e : TypeId}
end
/-! ### sums and what they are made of -/
end Go.Proofs.Ythjkhnhiciamaaa
namespace Go.Proofs.Ythjkhnhiciamaaa
open Go.RowKit
section
variable {P : Program} {ρ : Operand → Value} {d : Option Tmp} {ty : TypeId} {pos : String} {af : Array Edge} {g : Option (Nat × Bool)} {a b : Operand} {t t' : TypeId} {D n : Nat}
def EqW (P : Program) (D : Nat) (t : TypeId) (n : Nat) (X Y : Array Value) : Prop := ∃ V, EqV P D t n V agV ∧ V X.toList ∧ V Y.toList
theorem ru_eqlW {X Y : Array Value} (E : EqW P D t n X Y) (hg : P.eqGuardType P.depth t = false) (hD : Nat.ble D 10000 = true) (hx : ρ a = .agg X) (hy : ρ b = .agg Y) (p : Bool) (hp : p = true ↔ X.toList = Y.toList) :
    RunsTo P ⟨d, .binOp .eql t a b t', ty, pos, af, g⟩ ρ (.bool p) := by
  obtain ⟨V, hE, hX, hY⟩ := E
  exact ru_eqlV hE hg hD hx hy hX hY p hp
theorem ru_neqW {X Y : Array Value} (E : EqW P D t n X Y) (hg : P.eqGuardType P.depth t = false) (hD : Nat.ble D 10000 = true) (hx : ρ a = .agg X) (hy : ρ b = .agg Y) (p : Bool) (hp : p = true ↔ X.toList = Y.toList) :
    RunsTo P ⟨d, .binOp .neq t a b t', ty, pos, af, g⟩ ρ (.bool (!p)) := by
  obtain ⟨V, hE, hX, hY⟩ := E
  exact ru_neqV hE hg hD hx hy hX hY p hp
end
end Go.Proofs.Ythjkhnhiciamaaa
namespace Go.Proofs.Ythjkhnhiciamaaa
end Go.Proofs.Ythjkhnhiciamaaa

namespace Go.Proofs.Ythjkhnhiciamaaa
open Go.RowKit
/-! ### a slice's own row, turned in place -/
theorem own_one {w : World} {base : Nat} {e : TypeId} {sz : Nat} {v : Value} {n : Nat} {xs : List Value} (h : Owns w base e sz v n xs) : v.oneCell' = true := by
  obtain ⟨a, c, rfl⟩ := ownsRow_slice h
  rfl
theorem St.open_sl {w0 w : World} {B : List Own} {v : Value} {e : TypeId} {sz n : Nat} {xs : List Value} (s : St w0 (.sl v e sz n xs :: B) w) (hn : 1 ≤ n) :
    ∃ g cap cur fz, v = .slice (some ⟨g, 0, none⟩) n cap ∧ (fz.2 = 0 ∨ cur.size ≤ fz.1) ∧ n ≤ cap ∧ cap ≤ maxLen ∧ cur.size = cap * sz ∧ cur.toList.take (n * sz) = xs ∧ St w0 (.blk g (.cells cur e fz) :: B) w := by
  have h := s.getSl 0 rfl
  rcases h.2 with ⟨rfl, rfl⟩ | ⟨g, cap, cur, fz, rfl, hb, hg, hfz, h1, h2, h3, h4⟩
  · omega
  · refine ⟨g, cap, cur, fz, rfl, hfz, h1, h2, h3, h4, s.ext, fun p hp => ?_, fun p hp k hk => ?_, ?_⟩
    · rcases List.mem_cons.1 hp with rfl | hp
      · exact hg
      · exact s.has p (List.mem_cons_of_mem _ hp)
    · rcases List.mem_cons.1 hp with rfl | hp
      · rw [Own.at_blk] at hk; subst hk; exact hb
      · exact s.own p (List.mem_cons_of_mem _ hp) k hk
    · have hpw := List.pairwise_cons.1 s.nd
      exact List.pairwise_cons.2 ⟨fun q hq k hk => hpw.1 q hq k (by rw [Own.at_blk] at hk; subst hk; exact Own.at_sl.2 rfl), hpw.2⟩
theorem St.close_sl {w0 w : World} {B : List Own} {g n cap : Nat} {cur : Array Value} {e : TypeId} {fz : Nat × Nat} {sz : Nat} {xs : List Value} (s : St w0 (.blk g (.cells cur e fz) :: B) w) (hfz : fz.2 = 0 ∨ cur.size ≤ fz.1) (h1 : n ≤ cap) (h2 : cap ≤ maxLen) (h3 : cur.size = cap * sz) (h4 : cur.toList.take (n * sz) = xs) (h5 : xs.length = n * sz) :
    St w0 (.sl (.slice (some ⟨g, 0, none⟩) n cap) e sz n xs :: B) w := by
  refine ⟨s.ext, fun p hp => ?_, fun p hp k hk => ?_, ?_⟩
  · rcases List.mem_cons.1 hp with rfl | hp
    · exact ⟨h5, .inr ⟨g, cap, cur, fz, rfl, s.own _ List.mem_cons_self g (Own.at_blk.2 rfl), s.get 0 rfl, hfz, h1, h2, h3, h4⟩⟩
    · exact s.has p (List.mem_cons_of_mem _ hp)
  · rcases List.mem_cons.1 hp with rfl | hp
    · rw [Own.at_sl] at hk
      simp [Value.ownBlock] at hk
      subst hk
      exact s.own _ List.mem_cons_self _ (Own.at_blk.2 rfl)
    · exact s.own p (List.mem_cons_of_mem _ hp) k hk
  · have hpw := List.pairwise_cons.1 s.nd
    refine List.pairwise_cons.2 ⟨fun q hq k hk => hpw.1 q hq k ?_, hpw.2⟩
    rw [Own.at_sl] at hk
    simp [Value.ownBlock] at hk
    exact Own.at_blk.2 hk.symm
section
variable {P : Program} {ρ : Operand → Value} {d : Option Tmp} {ty : TypeId} {pos : String} {af : Array Edge} {g : Option (Nat × Bool)} {x y z u : Operand} {t t' e : TypeId} {k : IntKind}
end
section
variable {P : Program} {ops : Array Oper} {Q : Act → World → Prop} {l : List Oper} {a : Act} {w w0 : World} {N : Nat} {L : List (Nat × Value)} {Df : List Deferred} {B : List Own} {d : Tmp} {ty : TypeId} {pos : String} {af : Array Edge} {x y : Operand} {t t' e : TypeId}
/-- clear, of a piece of an own row -/
theorem s_clear_blk {g o m c : Nat} {cur : Array Value} {fz : Nat × Nat} {Z : Value} (i : Nat) (h : Sl N a L Df) (s : St w0 B w) (ht : P.underlying t = some (.slice e)) (hzv : (P.info? e).bind (·.zero) = some Z) (hx : evo L x = some (.slice (some ⟨g, o, none⟩) m c)) (hm : 1 ≤ m)
    (hi : B[i]? = some (.blk g (.cells cur e fz))) (hz : fz.2 = 0 ∨ cur.size ≤ fz.1) (hfit : o + m * Z.cells.size ≤ cur.size) (h1 : ∀ u ∈ Z.cells.toList, u.oneCell' = true)
    (kk : ∀ w', St w0 (B.set i (.blk g (.cells (cur.toList.take o ++ (Builtin.zeroCells Z.cells m).toList ++ cur.toList.drop (o + m * Z.cells.size)).toArray e fz))) w' → Lst P ops Q l a w') :
    Lst P ops Q (⟨none, .call { callee := .builtin .clear, args := #[x], argTypes := #[t] }, ty, pos, af, none⟩ :: l) a w := by
  have hz2 : (zeroValue e).run P w = .ok Z w := by
    cases hq : P.info? e with
    | none => simp [hq] at hzv
    | some i2 => have : i2.zero = some Z := by simpa [hq] using hzv
                 simp [zeroValue, typeInfo, Sem.run_bind, hq, this]
  have hlen : (Builtin.zeroCells Z.cells m).toList.length = m * Z.cells.size := by rw [Array.length_toList, size_zeroCells]
  have hones : ∀ u ∈ (Builtin.zeroCells Z.cells m).toList, u.oneCell' = true := fun u hu => by
    unfold Builtin.zeroCells at hu
    simp only [Array.toList_map, List.mem_map] at hu
    obtain ⟨q, hq, rfl⟩ := hu
    have hp : 0 < Z.cells.size := by
      rcases Nat.eq_zero_or_pos Z.cells.size with h0 | h0
      · rw [h0] at hq; simp at hq
      · exact h0
    rw [getElem!_pos Z.cells _ (Nat.mod_lt _ hp)]
    exact h1 _ (by simp)
  have hst := run_storeCells_atG P g o e fz (Builtin.zeroCells Z.cells m).toList 0 cur w (s.get i hi) hz (by rw [hlen]; omega) hones
  rw [Nat.add_zero, hlen] at hst
  cases m with
  | zero => omega
  | succ m =>
    have hrun : (Builtin.clear_ #[t] ty #[.slice (some ⟨g, o, none⟩) (m + 1) c]).run P w = .ok (.tuple #[]) (w.setRow g (cur.toList.take o ++ (Builtin.zeroCells Z.cells (m + 1)).toList ++ cur.toList.drop (o + (m + 1) * Z.cells.size)).toArray) := by
      simp [Builtin.clear_, Sem.run_bind, run_underlying ht, hz2, hst]
    exact s_doesN (R := fun _ w'' => w'' = w.setRow g (cur.toList.take o ++ (Builtin.zeroCells Z.cells (m + 1)).toList ++ cur.toList.drop (o + (m + 1) * Z.cells.size)).toArray) (by
      unfold Does
      simp only [execOp, resolve, invoke, builtin, Sem.run_bind, Sem.run_pure, Result.andThen_ok, List.map_toArray, List.map_cons, List.map_nil, h.ev hx, hrun]) fun w'' _ e => by
        subst e
        exact kk _ (s.upd i hi rfl rfl rfl (by simp) (setRow_heap w g cur _ _ fz (s.get i hi)) (fun k hk => .inl hk) (fun k _ hk => setRow_other w g k _ (fun e => hk (Own.at_blk.2 e))))
end
end Go.Proofs.Ythjkhnhiciamaaa
namespace Go.Proofs.Ythjkhnhiciamaaa
end Go.Proofs.Ythjkhnhiciamaaa
namespace Go.Proofs.Ythjkhnhiciamaaa
theorem all_next {α : Type} {l : List α} (Q : α → Prop) {k : Nat} (h : ∀ i (hi : i < l.length), i < k → Q l[i]) (hk : k < l.length) (hq : Q l[k]) : ∀ i (hi : i < l.length), i < k + 1 → Q l[i] := fun i hi h9 => by
  by_cases e : i = k
  · subst e; exact hq
  · exact h i hi (by omega)
end Go.Proofs.Ythjkhnhiciamaaa
namespace Go.Proofs.Ythjkhnhiciamaaa
open Go.RowKit
section
variable {P : Program} {ρ : Operand → Value} {d : Option Tmp} {ty : TypeId} {pos : String} {af : Array Edge} {g : Option (Nat × Bool)} {x y z u : Operand} {t t' e : TypeId} {k : IntKind}
theorem ru_slice_hi_lit {b n c i sz : Nat} {p : Int} (ht : P.underlying t = some (.slice e)) (he : (P.info? e).map (·.size) = some sz) (hx : ρ x = .slice (some ⟨b, 0, none⟩) n c) (hy : ρ y = .int .i64 p) (hp : p = (i : Int)) (h1 : i ≤ c) :
    RunsTo P ⟨d, .slice t x none (some y) none, ty, pos, af, g⟩ ρ (.slice (some ⟨b, 0, none⟩) i c) := fun w => by
  subst hp
  have ha : (⟨b, 0, none⟩ : Addr).add 0 = ⟨b, 0, none⟩ := by simp [Addr.add]
  simp [execOp, hx, hy, Instr.sliceAt, Sem.run_bind, run_underlying ht, Instr.slice, Instr.sliceBounds, Instr.sliceBound, asIntOf, run_sizeOf he, h1, ha]
/-- from element i on; where nothing can lie behind, the address stays -/
def loA (b c i sz : Nat) : Addr := if c = i then ⟨b, 0, none⟩ else ⟨b, i * sz, none⟩
theorem ru_slice_lo_lit {b n c i sz : Nat} {p : Int} (ht : P.underlying t = some (.slice e)) (he : (P.info? e).map (·.size) = some sz) (hx : ρ x = .slice (some ⟨b, 0, none⟩) n c) (hy : ρ y = .int .i64 p) (hp : p = (i : Int)) (h1 : i ≤ n) :
    RunsTo P ⟨d, .slice t x (some y) none none, ty, pos, af, g⟩ ρ (.slice (some (loA b c i sz)) (n - i) (c - i)) := fun w => by
  subst hp
  have ha : (if c = i then some (⟨b, 0, none⟩ : Addr) else some ((⟨b, 0, none⟩ : Addr).add (i * sz))) = some (loA b c i sz) := by
    unfold loA
    split
    · rfl
    · rw [Addr.add_lit, Nat.zero_add]
  simp only [execOp, hx, hy, Instr.sliceAt, Sem.run_bind, run_underlying ht, Instr.slice, Instr.sliceBounds, Instr.sliceBound, asIntOf, run_sizeOf he, Option.map_some, Option.map_none, Sem.run_pure, Result.andThen_ok, Option.isSome_none]
  rw [if_pos (by omega)]
  simp only [Sem.run_pure, Result.andThen_ok, run_sizeOf he, Sem.run_bind, Int.toNat_natCast, Option.map_some]
  rw [ha]
end
end Go.Proofs.Ythjkhnhiciamaaa
namespace Go.Proofs.Ythjkhnhiciamaaa
theorem clr_fin (c1 : List Value) (z : List Value) (o m : Nat) (h : o + m ≤ c1.length) (hz : z.length = m) : (c1.take o ++ z ++ c1.drop (o + m)).length = c1.length ∧ (c1.take o ++ z ++ c1.drop (o + m)).take o = c1.take o := by
  refine ⟨by simp only [List.length_append, List.length_take, List.length_drop, hz]; omega, ?_⟩
  rw [List.append_assoc, List.take_append_of_le_length (by rw [List.length_take]; omega), List.take_take, Nat.min_self]
end Go.Proofs.Ythjkhnhiciamaaa

namespace Go.Proofs.Ythjkhnhiciamaaa
open Go.RowKit Go.ChangeShapes Go.WideShapes Go.ChangeAt
/-! ### lists of links that come in -/
theorem has_flat {α : Type} (f : α → List Value) (sz : Nat) (hz : 0 < sz) (hf : ∀ x, (f x).length = sz) {w : World} {p : Addr} (l : List α) (h : ∀ i (hi : i < l.length), Has w (p.add (i * sz)) (f l[i]).toArray) : Has w p (l.flatMap f).toArray := fun j v hj => by
  simp only [List.getElem?_toArray] at hj
  have hlen := cells_len f sz hf l
  have hjl : j < l.length * sz := by have := (List.getElem?_eq_some_iff.1 hj).1; omega
  have hi : j / sz < l.length := Nat.div_lt_of_lt_mul (by rw [Nat.mul_comm]; exact hjl)
  have e1 := cells_el f sz hf l (j / sz) hi
  have h2 : (f l[j / sz])[j % sz]? = some v := by
    rw [← e1, List.getElem?_take_of_lt (Nat.mod_lt _ hz), List.getElem?_drop]
    rw [show j / sz * sz + j % sz = j from by rw [Nat.mul_comm]; exact Nat.div_add_mod j sz]
    exact hj
  have h3 := h (j / sz) hi (j % sz) v (by simpa using h2)
  rw [add_add, show j / sz * sz + j % sz = j from by rw [Nat.mul_comm]; exact Nat.div_add_mod j sz] at h3
  exact h3
theorem open_idL {H : Type} {enc : TypeId × Value → H} {P : Program} {w : World} {base : Nat} {spare : Nat → Bool} {held : Bool} {t e : TypeId} {fuel : Nat} {cs : List Value} {x : DataW H × List MemPlace} (T : IdTy P t e) (hc : P.cellsOf t = 32) (hce : P.cellsOf e = 1)
    (h : DataW.trod enc P w base spare held fuel t cs = some x) : ∃ a : Id, cs = (idArr a).toList := by
  obtain ⟨a, ha⟩ := open_id (v := .agg cs.toArray) (d := x.1) (ps := x.2) T hc hce ⟨fuel, by simpa [Value.cells] using h⟩
  refine ⟨a, ?_⟩
  have h2 : cs.toArray = idArr a := by simpa [idV] using ha
  rw [← h2]
theorem open_link {H : Type} {enc : TypeId × Value → H} {P : Program} {w : World} {base : Nat} {spare : Nat → Bool} {held : Bool} {t ti e : TypeId} {f0 f1 : Field} {fuel : Nat} {cs : List Value} {x : DataW H × List MemPlace} (T : IdTy P ti e) (hc : P.cellsOf ti = 32) (hce : P.cellsOf e = 1)
    (ht : P.underlying t = some (.struct #[f0, f1])) (h0 : f0.type = ti) (h1 : f1.type = ti) (o0 : f0.offset = 0) (o1 : f1.offset = 32) (hct : P.cellsOf t = 64) (h : DataW.trod enc P w base spare held fuel t cs = some x) : ∃ l : Lnk, cs = (lArr l).toList := by
  obtain ⟨xs, n, rfl, _, hl, hxl, hel⟩ := DataW.trod_struct ht h
  rw [hct] at hl
  have hx2 : xs.length = 2 := by simpa using hxl
  have e0 := hel 0 f0 rfl
  have e1 := hel 1 f1 rfl
  rw [h0, o0, hc, List.getElem?_eq_getElem (by omega)] at e0
  rw [h1, o1, hc, List.getElem?_eq_getElem (by omega)] at e1
  obtain ⟨a, ha⟩ := open_idL T hc hce e0
  obtain ⟨b, hb⟩ := open_idL T hc hce e1
  refine ⟨(a, b), ?_⟩
  rw [← lArr_cat, ← ha, ← hb, List.drop_zero, List.take_of_length_le (l := cs.drop 32) (by rw [List.length_drop]; omega), List.take_append_drop]
theorem open_links {H : Type} {enc : TypeId × Value → H} {P : Program} {W : World} {r : Reach} {b0 : Nat} {ts t ti e : TypeId} {f0 f1 : Field} {v : Value} {d : DataW H} {ps : List MemPlace} (T : IdTy P ti e) (hc : P.cellsOf ti = 32) (hce : P.cellsOf e = 1)
    (hts : P.underlying ts = some (.slice t)) (ht : P.underlying t = some (.struct #[f0, f1])) (h0 : f0.type = ti) (h1 : f1.type = ti) (o0 : f0.offset = 0) (o1 : f1.offset = 32) (hct : P.cellsOf t = 64)
    (hval : Value.okWide P W r b0 ts v) (h : DataW.Trod enc P W 0 (fun _ => true) true ts v d ps) : ∃ ls : List Lnk, RdZ W v 64 ls.length (lCells ls) := by
  obtain ⟨a, n, c, rfl⟩ := okWide_slice hts hval
  obtain ⟨fuel, hf⟩ := h
  rcases Go.Deep.open_slice hts hf with ⟨hcs, _⟩ | ⟨a', len, cap, m, k, D, Pl, hcs, _, hl, _, hm, _, hel⟩
  · have : Value.slice a n c = .slice none 0 0 := by simpa [Value.cells] using hcs
    exact ⟨[], rfl, .inl ⟨this, rfl⟩⟩
  · have hv : Value.slice a n c = .slice (some a') len cap := by simpa [Value.cells] using hcs
    have hml : len ≤ m := by rw [hm]; split <;> omega
    have each : ∀ i, ∃ l : Lnk, i < len → Has W (a'.add (i * 64)) (lArr l) := fun i => by
      by_cases hi : i < len
      · obtain ⟨cs', hc1, hc2⟩ := hel i (by omega)
        obtain ⟨l, rfl⟩ := open_link T hc hce ht h0 h1 o0 o1 hct hc2
        refine ⟨l, fun _ j u hj => ?_⟩
        rw [hct] at hc1
        obtain ⟨_, hlen, hall⟩ := World.cells?_some hc1
        have hj64 : j < 64 := by have := (Array.getElem?_eq_some_iff.1 hj).1; rw [lArr_size] at this; exact this
        have := hall j hj64
        rw [this, Array.getElem?_toList]; exact hj
      · exact ⟨(0, 0), fun h9 => absurd h9 hi⟩
    obtain ⟨L, hL⟩ := Classical.axiomOfChoice each
    refine ⟨(List.range len).map L, ?_, .inr ⟨a', cap, by rw [hv]; simp, by simpa using hl, ?_⟩⟩
    · rw [lCells_len]
    · refine has_flat _ 64 (by decide) (fun x => by rw [Array.length_toList, lArr_size]) _ fun i hi => ?_
      have hi' : i < len := by simpa using hi
      have := hL i hi'
      simpa using this
end Go.Proofs.Ythjkhnhiciamaaa

namespace Go.Proofs.Ythjkhnhiciamaaa
open Go.RowKit
theorem LstW.cons {P : Program} {ops : Array Oper} {Wp : World → Prop} {K : Act → World → Prop} {o : Oper} {l : List Oper} {a : Act} {w : World} (h : Lst P ops (fun a w => Wp w ∧ LstW P ops Wp K l a w) [o] a w) : LstW P ops Wp K (o :: l) a w := h
theorem LstW.nil {P : Program} {ops : Array Oper} {Wp : World → Prop} {K : Act → World → Prop} {a : Act} {w : World} (h : K a w) : LstW P ops Wp K [] a w := h
/-! ### identifiers with other ends -/
end Go.Proofs.Ythjkhnhiciamaaa

namespace Go.Proofs.Ythjkhnhiciamaaa
open Go.RowKit
/-! ### A region that draws its order, once more: the law of EngR, where those that may come at any time may look at what some of the others yield (Vs: of known value) -/
section
variable (ops : List Oper) (m : Nat) (Hs Vs : List Nat) (cls : List (List Nat))
def okOne3 (size i : Nat) (o : Oper) : Bool :=
  (direct o).all (fun j => decide (j < i)) &&
  (cls.getD i []).all (fun j => (direct o).contains j || (direct o).any fun k => (cls.getD k []).contains j) &&
  (if Hs.contains i then
    (match o.dst with | some d => decide (d < size) && (List.range ops.length).all (fun j => j == i || decide (dstOf ops j ≠ some d)) | none => false) && o.guard.isNone &&
    (o.looksAt ops.toArray).all fun t => (List.range ops.length).all fun j => decide (dstOf ops j ≠ some t) || ((cls.getD i []).contains j && (Hs.contains j || Vs.contains j)) || (cls.getD j []).contains i
  else if i < m then
    (match o.dst with | some d => decide (d < size) && (List.range m).all (fun j => j == i || decide (dstOf ops j ≠ some d)) | none => false) &&
    (o.looksAt ops.toArray).all fun t => (List.range ops.length).all fun j => !(decide (j < m) || Hs.contains j) || decide (dstOf ops j ≠ some t) || (cls.getD i []).contains j || (cls.getD j []).contains i
  else
    (List.range i).all (fun j => Hs.contains j || (cls.getD i []).contains j) &&
    (o.looksAt ops.toArray).all fun t => Hs.all fun j => decide (dstOf ops j ≠ some t) || (cls.getD i []).contains j)
def okReg3 (size : Nat) : Bool := (Vs.all fun v => !Hs.contains v && match dstOf ops v with | some d => decide (d < size) && (List.range ops.length).all (fun j => j == v || decide (dstOf ops j ≠ some d)) | none => false) && (List.range ops.length).all fun i => match ops[i]? with | some o => okOne3 ops m Hs Vs cls size i o | none => false
end
theorem okReg3_at {ops : List Oper} {m : Nat} {Hs Vs : List Nat} {cls : List (List Nat)} {size : Nat} (h : okReg3 ops m Hs Vs cls size = true) {i : Nat} {o : Oper} (hi : ops[i]? = some o) : okOne3 ops m Hs Vs cls size i o = true := by
  unfold okReg3 at h
  replace h := (Bool.and_eq_true _ _ ▸ h : _ ∧ _).2
  have hlt : i < ops.length := (List.getElem?_eq_some_iff.1 hi).1
  have := List.all_eq_true.1 h i (List.mem_range.2 hlt)
  simpa [hi] using this
theorem ok3_direct {ops : List Oper} {m : Nat} {Hs Vs : List Nat} {cls : List (List Nat)} {size : Nat} (h : okReg3 ops m Hs Vs cls size = true) {i : Nat} {o : Oper} (hi : ops[i]? = some o) :
    (∀ j ∈ direct o, j < i) ∧ ∀ j ∈ cls.getD i [], j ∈ direct o ∨ ∃ k ∈ direct o, j ∈ cls.getD k [] := by
  have := okReg3_at h hi
  unfold okOne3 at this
  simp only [Bool.and_eq_true] at this
  refine ⟨fun j hj => by simpa using List.all_eq_true.1 this.1.1 j hj, fun j hj => ?_⟩
  have := List.all_eq_true.1 this.1.2 j hj
  simpa using this
theorem ok3_V {ops : List Oper} {m : Nat} {Hs Vs : List Nat} {cls : List (List Nat)} {size : Nat} (h : okReg3 ops m Hs Vs cls size = true) {i : Nat} (hV : i ∈ Vs) :
    i ∉ Hs ∧ ∀ d, dstOf ops i = some d → d < size ∧ ∀ j, dstOf ops j = some d → j = i := by
  unfold okReg3 at h
  simp only [Bool.and_eq_true] at h
  have h1 := List.all_eq_true.1 h.1 i hV
  simp only [Bool.and_eq_true, decide_eq_true_eq, Bool.not_eq_true', List.contains_eq_mem, decide_eq_false_iff_not] at h1
  refine ⟨h1.1, fun d hd => ?_⟩
  have h2 := h1.2
  rw [hd] at h2
  simp only [Bool.and_eq_true, decide_eq_true_eq] at h2
  refine ⟨h2.1, fun j hj => ?_⟩
  have hjl : j < ops.length := by
    unfold dstOf at hj
    rcases Nat.lt_or_ge j ops.length with h' | h'
    · exact h'
    · rw [List.getElem?_eq_none h'] at hj; cases hj
  have := List.all_eq_true.1 h2.2 j (List.mem_range.2 hjl)
  simpa [hj] using this
theorem ok3_H {ops : List Oper} {m : Nat} {Hs Vs : List Nat} {cls : List (List Nat)} {size : Nat} (h : okReg3 ops m Hs Vs cls size = true) {i : Nat} {o : Oper} (hi : ops[i]? = some o) (hH : i ∈ Hs) :
    (∃ d, o.dst = some d ∧ d < size ∧ ∀ j, dstOf ops j = some d → j = i) ∧ o.guard = none ∧
    ∀ t ∈ o.looksAt ops.toArray, ∀ j, dstOf ops j = some t → (j ∈ cls.getD i [] ∧ (j ∈ Hs ∨ j ∈ Vs)) ∨ i ∈ cls.getD j [] := by
  have := okReg3_at h hi
  unfold okOne3 at this
  rw [if_pos (List.contains_iff_mem.2 hH)] at this
  simp only [Bool.and_eq_true] at this
  obtain ⟨_, ⟨h1, h2⟩, h3⟩ := this
  have hj : ∀ j t, dstOf ops j = some t → j < ops.length := fun j t hd => by
    unfold dstOf at hd
    rcases Nat.lt_or_ge j ops.length with h' | h'
    · exact h'
    · rw [List.getElem?_eq_none h'] at hd; cases hd
  refine ⟨?_, by simpa using h2, fun t ht j hd => ?_⟩
  · cases hdo : o.dst with
    | none => simp [hdo] at h1
    | some d =>
      simp only [hdo, Bool.and_eq_true, decide_eq_true_eq] at h1
      refine ⟨d, rfl, h1.1, fun j hd => ?_⟩
      have := List.all_eq_true.1 h1.2 j (List.mem_range.2 (hj j d hd))
      simpa [hd] using this
  · have h4 := List.all_eq_true.1 (List.all_eq_true.1 h3 t ht) j (List.mem_range.2 (hj j t hd))
    simp only [hd, ne_eq, not_true_eq_false, decide_false, Bool.false_or, Bool.or_eq_true, Bool.and_eq_true, List.contains_iff_mem] at h4
    exact h4
theorem ok3_F {ops : List Oper} {m : Nat} {Hs Vs : List Nat} {cls : List (List Nat)} {size : Nat} (h : okReg3 ops m Hs Vs cls size = true) {i : Nat} {o : Oper} (hi : ops[i]? = some o) (hH : i ∉ Hs) (him : i < m) :
    (∃ d, o.dst = some d ∧ d < size ∧ ∀ j, j < m → dstOf ops j = some d → j = i) ∧
    ∀ t ∈ o.looksAt ops.toArray, ∀ j, j < m ∨ j ∈ Hs → dstOf ops j = some t → j ∈ cls.getD i [] ∨ i ∈ cls.getD j [] := by
  have := okReg3_at h hi
  unfold okOne3 at this
  rw [if_neg (by simpa using hH), if_pos him] at this
  simp only [Bool.and_eq_true] at this
  obtain ⟨_, h1, h3⟩ := this
  have hj : ∀ j t, dstOf ops j = some t → j < ops.length := fun j t hd => by
    unfold dstOf at hd
    rcases Nat.lt_or_ge j ops.length with h' | h'
    · exact h'
    · rw [List.getElem?_eq_none h'] at hd; cases hd
  refine ⟨?_, fun t ht j hjm hd => ?_⟩
  · cases hdo : o.dst with
    | none => simp [hdo] at h1
    | some d =>
      simp only [hdo, Bool.and_eq_true, decide_eq_true_eq] at h1
      refine ⟨d, rfl, h1.1, fun j hjm hd => ?_⟩
      have := List.all_eq_true.1 h1.2 j (List.mem_range.2 hjm)
      simpa [hd] using this
  · have h4 := List.all_eq_true.1 (List.all_eq_true.1 h3 t ht) j (List.mem_range.2 (hj j t hd))
    have h5 : (decide (j < m) || Hs.contains j) = true := by
      rcases hjm with h' | h'
      · simp [h']
      · simp [h']
    simp only [h5, hd, ne_eq, not_true_eq_false, decide_false, Bool.not_true, Bool.false_or, Bool.or_eq_true, List.contains_iff_mem] at h4
    exact h4
theorem ok3_T {ops : List Oper} {m : Nat} {Hs Vs : List Nat} {cls : List (List Nat)} {size : Nat} (h : okReg3 ops m Hs Vs cls size = true) {i : Nat} {o : Oper} (hi : ops[i]? = some o) (hH : i ∉ Hs) (him : m ≤ i) :
    (∀ j, j < i → j ∉ Hs → j ∈ cls.getD i []) ∧ ∀ t ∈ o.looksAt ops.toArray, ∀ j ∈ Hs, dstOf ops j = some t → j ∈ cls.getD i [] := by
  have := okReg3_at h hi
  unfold okOne3 at this
  rw [if_neg (by simpa using hH), if_neg (by omega)] at this
  simp only [Bool.and_eq_true] at this
  obtain ⟨_, h1, h3⟩ := this
  refine ⟨fun j hj hjH => ?_, fun t ht j hj hd => ?_⟩
  · have := List.all_eq_true.1 h1 j (List.mem_range.2 hj)
    simpa [hjH] using this
  · have := List.all_eq_true.1 (List.all_eq_true.1 h3 t ht) j hj
    simpa [hd] using this
theorem cls3_lt {ops : List Oper} {m : Nat} {Hs Vs : List Nat} {cls : List (List Nat)} {size : Nat} (hok : okReg3 ops m Hs Vs cls size = true) : ∀ (i : Nat), i < ops.length → ∀ j ∈ cls.getD i [], j < i := by
  intro i
  induction i using Nat.strongRecOn with
  | _ i ih =>
    intro hi j hj
    have hio : ops[i]? = some ops[i] := by simp [hi]
    obtain ⟨hlt, hcl⟩ := ok3_direct hok hio
    rcases hcl j hj with h | ⟨k, hk, hjk⟩
    · exact hlt j h
    · have := hlt k hk
      have := ih k this (by omega) j hjk
      omega
/-- what the last ones of known value yield -/
def VOk (ops : List Oper) (Vs : List Nat) (T : Nat → Asrt) (o : Oper) (a : Act) (w : World) : Prop := ∀ i ∈ Vs, ∀ d, dstOf ops i = some d → o.dst = some d → T i (a.tmps.getD d undef) w
/-- the last ones, with what must hold of the world between them -/
def LstV (P : Program) (ops : List Oper) (Wp : World → Prop) (Vs : List Nat) (T : Nat → Asrt) (K : Act → World → Prop) : List Oper → Act → World → Prop
  | [], a, w => K a w
  | o :: l, a, w => Lst P ops.toArray (fun a w => Wp w ∧ VOk ops Vs T o a w ∧ LstV P ops Wp Vs T K l a w) [o] a w

section law
variable {P : Program} {ro : Option Nat} {ops : List Oper} {m : Nat} {Hs Vs : List Nat} {cls : List (List Nat)} {X : Nat → Value} {Wp : World → Prop} {a0 : Act} {T : Nat → Asrt} {Q : Exit → Act → World → Prop}
structure J3 (ops : List Oper) (Hs Vs : List Nat) (cls : List (List Nat)) (X : Nat → Value) (a0 : Act) (listed : Array Bool) (a : Act) : Prop where
  size : a.tmps.size = a0.tmps.size
  lsize : listed.size = ops.length
  doneH : ∀ i d, (i ∈ Hs ∨ i ∈ Vs) → dstOf ops i = some d → listed.getD i false = true → a.tmps.getD d undef = X i
  rest : ∀ t, (∀ j, dstOf ops j = some t → listed.getD j false = false) → a.tmps.getD t undef = a0.tmps.getD t undef
  closed : ∀ i, listed.getD i false = true → ∀ j ∈ cls.getD i [], listed.getD j false = true
/-- the one that writes there -/
def d9U (ops : List Oper) (j d : Nat) : Prop := ∀ i, dstOf ops i = some d → i = j
theorem J3.stepH (hok : okReg3 ops m Hs Vs cls a0.tmps.size = true) {listed : Array Bool} {a : Act} (J : J3 ops Hs Vs cls X a0 listed a) {i d : Nat} {o : Oper} (hi : ops[i]? = some o) (hH : i ∈ Hs) (hd : o.dst = some d)
    (hcl : ∀ j ∈ cls.getD i [], listed.getD j false = true) : J3 ops Hs Vs cls X a0 (listed.setIfInBounds i true) (a.put o.dst (X i)) := by
  have hil : i < ops.length := (List.getElem?_eq_some_iff.1 hi).1
  have hils : i < listed.size := by rw [J.lsize]; exact hil
  obtain ⟨⟨d', hd', hds, huniq⟩, _, _⟩ := ok3_H hok hi hH
  rw [hd] at hd'; cases hd'
  have hput : ∀ t, (a.put o.dst (X i)).tmps.getD t undef = if d = t then X i else a.tmps.getD t undef := fun t => by
    rw [hd, put_getD]
    by_cases e : d = t
    · rw [if_pos ⟨e, by rw [J.size]; exact hds⟩, if_pos e]
    · rw [if_neg (fun h => e h.1), if_neg e]
  refine ⟨by rw [Act.tmps_put_size]; exact J.size, by simp [J.lsize], fun j dj hj hdj hl => ?_, fun t ht => ?_, fun j hj k hk => ?_⟩
  · rw [hput]
    by_cases e : d = dj
    · subst e; rw [if_pos rfl, huniq j hdj]
    · rw [if_neg e]
      rcases (set_iff hils j).1 hl with e2 | e2
      · subst e2; rw [dst_of hi, hd] at hdj; cases hdj; exact absurd rfl e
      · exact J.doneH j dj hj hdj e2
  · rw [hput]
    have hne : d ≠ t := fun e => by
      have := ht i (by rw [dst_of hi, hd, e])
      have h2 := (set_iff hils i).2 (.inl rfl)
      rw [this] at h2; cases h2
    rw [if_neg hne]
    refine J.rest t fun j hj => ?_
    have := ht j hj
    cases hb : listed.getD j false with
    | false => rfl
    | true => rw [(set_iff hils j).2 (.inr hb)] at this; cases this
  · rcases (set_iff hils j).1 hj with e | e
    · subst e; exact (set_iff hils k).2 (.inr (hcl k hk))
    · exact (set_iff hils k).2 (.inr (J.closed j e k hk))
/-- any other one -/
theorem J3.stepT (hok : okReg3 ops m Hs Vs cls a0.tmps.size = true) {listed : Array Bool} {a : Act} (J : J3 ops Hs Vs cls X a0 listed a) {i : Nat} {o : Oper} (hi : ops[i]? = some o) (hH : i ∉ Hs) (v : Value) (hVx : i ∈ Vs → v = X i)
    (hcl : ∀ j ∈ cls.getD i [], listed.getD j false = true) : J3 ops Hs Vs cls X a0 (listed.setIfInBounds i true) (a.put o.dst v) := by
  have hil : i < ops.length := (List.getElem?_eq_some_iff.1 hi).1
  have hils : i < listed.size := by rw [J.lsize]; exact hil
  have hput : ∀ t, o.dst ≠ some t → (a.put o.dst v).tmps.getD t undef = a.tmps.getD t undef := fun t ht => by
    cases hd : o.dst with
    | none => rfl
    | some d => rw [put_getD, if_neg (fun h => ht (by rw [hd, h.1]))]
  refine ⟨by rw [Act.tmps_put_size]; exact J.size, by simp [J.lsize], fun j dj hj hdj hl => ?_, fun t ht => ?_, fun j hj k hk => ?_⟩
  · have huniq : d9U ops j dj := by
      rcases hj with hj | hj
      · obtain ⟨oj, hjo⟩ : ∃ oj, ops[j]? = some oj := by
          unfold dstOf at hdj
          cases hq : ops[j]? with
          | none => rw [hq] at hdj; cases hdj
          | some oj => exact ⟨oj, rfl⟩
        obtain ⟨⟨d', hd', _, huniq⟩, _, _⟩ := ok3_H hok hjo hj
        have hdd : d' = dj := by rw [dst_of hjo, hd'] at hdj; exact Option.some.inj hdj
        subst hdd
        exact huniq
      · exact ((ok3_V hok hj).2 dj hdj).2
    by_cases hji : j = i
    · subst hji
      have hjV : j ∈ Vs := hj.resolve_left hH
      have hds := ((ok3_V hok hjV).2 dj hdj).1
      rw [dst_of hi] at hdj
      rw [hdj, put_getD, if_pos ⟨rfl, by rw [J.size]; exact hds⟩]
      exact hVx hjV
    · rw [hput]
      · exact J.doneH j _ hj hdj (((set_iff hils j).1 hl).resolve_left hji)
      · intro e
        exact hji (huniq i (by rw [dst_of hi, e])).symm
  · rw [hput]
    · refine J.rest t fun j hj => ?_
      have := ht j hj
      cases hb : listed.getD j false with
      | false => rfl
      | true => rw [(set_iff hils j).2 (.inr hb)] at this; cases this
    · intro e
      have := ht i (by rw [dst_of hi, e])
      have h2 := (set_iff hils i).2 (.inl rfl)
      rw [this] at h2; cases h2
  · rcases (set_iff hils j).1 hj with e | e
    · subst e; exact (set_iff hils k).2 (.inr (hcl k hk))
    · exact (set_iff hils k).2 (.inr (J.closed j e k hk))
theorem ready_least3 (hok : okReg3 ops m Hs Vs cls a0.tmps.size = true) {listed : Array Bool} (hs : listed.size = ops.length) {i : Nat} (hi : i < ops.length)
    (hb : listed.getD i false = false) (hall : ∀ j, j < i → listed.getD j false = true) : i ∈ Region.ready .any ops.toArray listed := by
  have hio : ops[i]? = some ops[i] := by simp [hi]
  have hlt := (ok3_direct hok hio).1
  exact mem_ready.2 ⟨by simp [hs, hi] at hb ⊢; exact hb, ops[i], by simp [hi], fun e he hbd => by
    have hm : e.on ∈ direct ops[i] := List.mem_map.2 ⟨e, List.mem_filter.2 ⟨by simpa using he, by simpa using hbd⟩, rfl⟩
    exact hall _ (hlt _ hm)⟩
theorem ready_nil3 (hok : okReg3 ops m Hs Vs cls a0.tmps.size = true) {listed : Array Bool} (hs : listed.size = ops.length) (h : Region.ready .any ops.toArray listed = []) :
    ∀ i, i < ops.length → listed.getD i false = true := by
  intro i
  induction i using Nat.strongRecOn with
  | _ i ih =>
    intro hi
    cases hb : listed.getD i false with
    | true => rfl
    | false =>
      have := ready_least3 hok hs hi hb (fun j hj => ih j hj (by omega))
      rw [h] at this; cases this
/-- the step of one that may come at any time -/
theorem stepH_wp3 (hok : okReg3 ops m Hs Vs cls a0.tmps.size = true) (hob : ∀ i o, i ∈ Hs → ops[i]? = some o → ObH P ops cls X Wp a0 i o) {listed : Array Bool} {a : Act} {w : World} (J : J3 ops Hs Vs cls X a0 listed a) (hw : Wp w)
    {i : Nat} {o : Oper} (hi : ops[i]? = some o) (hH : i ∈ Hs) (hu : listed.getD i false = false) (hcl : ∀ j ∈ cls.getD i [], listed.getD j false = true) {K : Act → World → Prop} (hK : K (a.put o.dst (X i)) w) : wpOpIn (FR ro) 0 P ops.toArray Q i K a w := by
  obtain ⟨⟨d, hd, hds, huniq⟩, hg, hlook⟩ := ok3_H hok hi hH
  have hil : i < ops.length := (List.getElem?_eq_some_iff.1 hi).1
  have hD := hob i o hH hi a w hw J.size fun t ht => by
    unfold SlotOk
    cases hwr : writer ops (cls.getD i []) t with
    | some j =>
      obtain ⟨hm, oj, hj, hdj⟩ := find_spec hwr
      have hdj' : dstOf ops j = some t := by rw [dst_of hj, hdj]
      rcases hlook t ht j hdj' with h | h
      · exact J.doneH j t h.2 hdj' (hcl j hm)
      · have := J.closed j (hcl j hm) i h; rw [hu] at this; cases this
    | none =>
      refine J.rest t fun j hdj => ?_
      cases hb : listed.getD j false with
      | false => rfl
      | true =>
        rcases hlook t ht j hdj with h | h
        · have hjo : ∃ oj, ops[j]? = some oj ∧ oj.dst = some t := by
            unfold dstOf at hdj
            cases hq : ops[j]? with
            | none => rw [hq] at hdj; cases hdj
            | some oj => rw [hq] at hdj; exact ⟨oj, rfl, hdj⟩
          obtain ⟨oj, h1, h2⟩ := hjo
          exact absurd h.1 (find_none hwr j oj h1 h2)
        · have := J.closed j hb i h; rw [hu] at this; cases this
  have hi' : ops.toArray[i]? = some o := by simpa using hi
  unfold wpOpIn
  simp only [hi']
  have hwant : Region.wanted o (yielded ops.toArray a.tmps) = true := by simp [Region.wanted, hg]
  rw [if_pos hwant]
  exact hD.wp fun v w' ⟨h1, h2⟩ => by subst h1; subst h2; exact hK
/-- THE LAST ONES, with those that may come at any time between them -/
theorem wpAny_tail3 (hok : okReg3 ops m Hs Vs cls a0.tmps.size = true) (hsel : Region.noSelect ops.toArray = true) (hTV : ∀ i ∈ Vs, T i = is (X i)) (hob : ∀ i o, i ∈ Hs → ops[i]? = some o → ObH P ops cls X Wp a0 i o) :
    ∀ (fuel : Nat) (listed : Array Bool) (a b : Act) (w : World) (ixs : List Nat), listed.toList.count false = fuel → J3 ops Hs Vs cls X a0 listed a → b.defers = a.defers → b.tmps.size = a.tmps.size →
      (∀ t, (∀ i ∈ Hs, dstOf ops i = some t → listed.getD i false = true) → b.tmps.getD t undef = a.tmps.getD t undef) → (∀ i ∈ Hs, ∀ d, dstOf ops i = some d → b.tmps.getD d undef = X i) →
      Wp w → (∀ i, i < ops.length → i ∉ Hs → (listed.getD i false = false ↔ i ∈ ixs)) → ixs.Pairwise (· < ·) → (∀ i ∈ ixs, i < ops.length ∧ m ≤ i ∧ i ∉ Hs) →
      LstV P ops Wp Vs T (Q .normal) (ixs.filterMap fun i => ops[i]?) b w → wpAnyIn (FR ro) 0 P .any ops.toArray Q fuel listed a w := by
  intro fuel
  induction fuel with
  | zero =>
    intro listed a b w ixs hc J hbd hbs hrel hX hw hix hpw hin h
    have hall := fun i hi => count_zero hc i (by rw [J.lsize]; exact hi)
    have hnil : ixs = [] := by
      cases ixs with
      | nil => rfl
      | cons i l =>
        have := hin i List.mem_cons_self
        have h2 := (hix i this.1 this.2.2).2 List.mem_cons_self
        rw [hall i this.1] at h2; cases h2
    subst hnil
    have hab : a = b := by
      refine act_ext hbd.symm hbs.symm fun t => (hrel t fun i hi hd => ?_).symm
      refine hall i ?_
      unfold dstOf at hd
      rcases Nat.lt_or_ge i ops.length with h' | h'
      · exact h'
      · rw [List.getElem?_eq_none h'] at hd; cases hd
    refine ⟨?_, by rw [hab]; exact h⟩
    cases hr : Region.ready .any ops.toArray listed with
    | nil => rfl
    | cons x xs =>
      have hx : x ∈ Region.ready .any ops.toArray listed := by rw [hr]; exact List.mem_cons_self
      obtain ⟨o, ho, hf, _⟩ := ready_direct hx
      have hlt := (List.getElem?_eq_some_iff.1 ho).1
      have := hall x hlt
      rw [hf J.lsize] at this; cases this
  | succ fuel ih =>
    intro listed a b w ixs hc J hbd hbs hrel hX hw hix hpw hin h
    refine ⟨fun hr => ?_, fun k hk => ?_⟩
    · have hall := ready_nil3 hok J.lsize hr
      have : listed.toList.count false = 0 := by
        refine List.count_eq_zero.2 fun hm => ?_
        obtain ⟨i, hi, he⟩ := List.getElem_of_mem hm
        have hi' : i < listed.size := by simpa using hi
        have := hall i (by rw [← J.lsize]; exact hi')
        simp [hi'] at this he
        rw [this] at he; cases he
      omega
    obtain ⟨o, ho, hf, hdir⟩ := ready_direct hk
    have hkl := (List.getElem?_eq_some_iff.1 ho).1
    have hks : k < listed.size := by rw [J.lsize]; exact hkl
    have hu := hf J.lsize
    have hcl : ∀ j ∈ cls.getD k [], listed.getD j false = true := fun j hj => by
      rcases (ok3_direct hok ho).2 j hj with h1 | ⟨q, hq, h1⟩
      · exact hdir j h1
      · exact J.closed q (hdir q hq) j h1
    have hcnt : (listed.setIfInBounds k true).toList.count false = fuel := by have := count_set hks hu; omega
    by_cases hH : k ∈ Hs
    · obtain ⟨⟨d, hd, hds, huniq⟩, _, _⟩ := ok3_H hok ho hH
      have hdk : dstOf ops k = some d := by rw [dst_of ho, hd]
      refine stepH_wp3 hok hob J hw ho hH hu hcl (ih _ _ b w ixs hcnt (J.stepH hok ho hH hd hcl) ?_ ?_ ?_ hX hw ?_ hpw hin h)
      · rw [hd]; exact hbd
      · rw [Act.tmps_put_size]; exact hbs
      · intro t ht
        rw [hd, put_getD]
        by_cases e : d = t
        · subst e
          rw [if_pos ⟨rfl, by rw [J.size]; exact hds⟩]
          exact hX k hH d hdk
        · rw [if_neg (fun h => e h.1)]
          refine hrel t fun i hi hdi => ?_
          rcases (set_iff hks i).1 (ht i hi hdi) with e2 | e2
          · subst e2; rw [hdk] at hdi; cases hdi; exact absurd rfl e
          · exact e2
      · intro i hi hiH
        have hne : ¬ i = k := fun e => hiH (e ▸ hH)
        rw [← hix i hi hiH]
        have := set_iff hks i
        cases hb : listed.getD i false with
        | true => rw [this.2 (.inr hb)]
        | false =>
          cases hb2 : (listed.setIfInBounds k true).getD i false with
          | false => rfl
          | true => rcases this.1 hb2 with e | e
                    · exact absurd e hne
                    · rw [hb] at e; cases e
    · have hkx : k ∈ ixs := (hix k hkl hH).1 hu
      cases ixs with
      | nil => cases hkx
      | cons i l =>
        have hii := hin i List.mem_cons_self
        have hki : k = i := by
          rcases List.mem_cons.1 hkx with e | e
          · exact e
          · have hlt := (List.pairwise_cons.1 hpw).1 k e
            have hm := (ok3_T hok ho hH (hin k hkx).2.1).1 i hlt hii.2.2
            have := hcl i hm
            rw [(hix i hii.1 hii.2.2).2 List.mem_cons_self] at this; cases this
        subst hki
        have hlst : LstV P ops Wp Vs T (Q .normal) (o :: l.filterMap fun i => ops[i]?) b w := by simpa [List.filterMap_cons, ho] using h
        have hag : ∀ t ∈ o.looksAt ops.toArray, a.tmps.getD t undef = b.tmps.getD t undef := fun t ht => (hrel t fun j hj hdj => hcl j ((ok3_T hok ho hH hii.2.1).2 t ht j hj hdj)).symm
        have hwant := wanted_congr (o := o) (ops := ops.toArray) hbs.symm hag
        have hnoV : k ∈ Vs → o.dst ≠ none := fun hkV e => by
          have h8 := hok
          unfold okReg3 at h8
          simp only [Bool.and_eq_true] at h8
          have h9 := List.all_eq_true.1 h8.1 k hkV
          rw [show dstOf ops k = none from (dst_of ho).trans e] at h9
          simp at h9
        have step : ∀ v w', Wp w' → VOk ops Vs T o (b.put o.dst v) w' → LstV P ops Wp Vs T (Q .normal) (l.filterMap fun i => ops[i]?) (b.put o.dst v) w' → wpAnyIn (FR ro) 0 P .any ops.toArray Q fuel (listed.setIfInBounds k true) (a.put o.dst v) w' := fun v w' hw' hvo h' => by
          refine ih _ _ (b.put o.dst v) w' l hcnt (J.stepT hok ho hH v (fun hkV => ?_) hcl) ?_ ?_ ?_ ?_ hw' ?_ (List.pairwise_cons.1 hpw).2 (fun i hi => hin i (List.mem_cons_of_mem _ hi)) h'
          · cases hdo : o.dst with
            | none =>
              exact absurd hdo (hnoV hkV)
            | some d9 =>
              have h8 := ((ok3_V hok hkV).2 d9 (by rw [dst_of ho, hdo])).1
              have h7 := hvo k hkV d9 (by rw [dst_of ho, hdo]) hdo
              rw [hTV k hkV, hdo, put_getD, if_pos ⟨rfl, by rw [hbs, J.size]; exact h8⟩] at h7
              exact h7
          · cases o.dst <;> exact hbd
          · rw [Act.tmps_put_size, Act.tmps_put_size]; exact hbs
          · intro t ht
            have h1 : ∀ i ∈ Hs, dstOf ops i = some t → listed.getD i false = true := fun i hi hdi => by
              rcases (set_iff hks i).1 (ht i hi hdi) with e | e
              · exact absurd (e ▸ hi) hH
              · exact e
            cases hd : o.dst with
            | none => exact hrel t h1
            | some d =>
              rw [put_getD, put_getD, hbs]
              split
              · rfl
              · exact hrel t h1
          · intro i hi d hd
            have hne : o.dst ≠ some d := fun e => by
              have hio : ∃ oi, ops[i]? = some oi := by
                unfold dstOf at hd
                cases hq : ops[i]? with
                | none => rw [hq] at hd; cases hd
                | some oi => exact ⟨oi, rfl⟩
              obtain ⟨oi, hio⟩ := hio
              obtain ⟨⟨d', hd', _, huniq⟩, _⟩ := ok3_H hok hio hi
              rw [dst_of hio, hd'] at hd; cases hd
              exact hH (huniq k (by rw [dst_of ho, e]) ▸ hi)
            cases hdo : o.dst with
            | none => exact hX i hi d hd
            | some d2 => rw [put_getD, if_neg (fun h => hne (by rw [hdo, h.1]))]; exact hX i hi d hd
          · intro i hi hiH
            have hset := set_iff hks i
            by_cases e : i = k
            · subst e
              have hn : i ∉ l := fun hm => by have := (List.pairwise_cons.1 hpw).1 i hm; omega
              rw [hset.2 (.inl rfl)]
              simp [hn]
            · have h1 := hix i hi hiH
              rw [List.mem_cons] at h1
              have h2 : (listed.setIfInBounds k true).getD i false = listed.getD i false := by
                cases hb : listed.getD i false with
                | true => exact hset.2 (.inr hb)
                | false =>
                  cases hb2 : (listed.setIfInBounds k true).getD i false with
                  | false => rfl
                  | true => rcases hset.1 hb2 with e2 | e2
                            · exact absurd e2 e
                            · rw [hb] at e2; cases e2
              rw [h2, h1]
              simp [e]
        have ho' : ops.toArray[k]? = some o := by simpa using ho
        unfold wpOpIn
        simp only [ho']
        unfold LstV Lst at hlst
        rw [← hwant] at hlst
        split at hlst
        · rename_i hwt
          rw [if_pos hwt]
          have hd := does_congr (fun cs bl => Region.noSelect_spec hsel k o cs bl ho') hag hlst
          exact hd.wp fun v w' h9 => by
            unfold Lst at h9
            exact step v w' h9.1 h9.2.1 h9.2.2
        · rename_i hwt
          rw [if_neg hwt]
          unfold Lst at hlst
          exact ⟨fun _ _ => trivial, step undef w hlst.1 hlst.2.1 hlst.2.2⟩
variable {Fr : List Nat} {w1 : World}
structure J4 (ops : List Oper) (m : Nat) (Hs Vs : List Nat) (cls : List (List Nat)) (X : Nat → Value) (Fr : List Nat) (T : Nat → Asrt) (a0 : Act) (w1 : World) (listed : Array Bool) (a : Act) (w : World) : Prop where
  J : J3 ops Hs Vs cls X a0 listed a
  ext : Ext w1 w
  defers : a.defers = a0.defers
  tail : ∀ i, m ≤ i → i ∉ Hs → listed.getD i false = false
  done : ∀ i d, i < m → i ∉ Hs → dstOf ops i = some d → listed.getD i false = true → T i (a.tmps.getD d undef) w
  fresh : ∀ i ∈ Fr, ∀ d, dstOf ops i = some d → listed.getD i false = true → ∀ k ∈ vks (a.tmps.getD d undef), w1.heap.size ≤ k ∧ k < w.heap.size
  disj : ∀ i ∈ Fr, ∀ j ∈ Fr, i ≠ j → ∀ d e, dstOf ops i = some d → dstOf ops j = some e → listed.getD i false = true → listed.getD j false = true → ∀ k ∈ vks (a.tmps.getD d undef), k ∉ vks (a.tmps.getD e undef)
/-- THE LAW. -/
theorem wp_region3 {id : Nat} (hm : P.follows .mixedOrders = true) (hok : okReg3 ops m Hs Vs cls a0.tmps.size = true) (hsel : Region.noSelect ops.toArray = true) (hWp : ∀ w w', Wp w → Ext w w' → Wp w') (hW1 : Wp w1)
    (hTX : ∀ i ∈ Hs, T i = is (X i)) (hTV : ∀ i ∈ Vs, T i = is (X i)) (hFr : ∀ i ∈ Fr, i < m ∧ i ∉ Hs) (hT : ∀ i, Mono (T i)) (hob : ∀ i o, i ∈ Hs → ops[i]? = some o → ObH P ops cls X Wp a0 i o) (hof : ∀ i o, i < m → i ∉ Hs → ops[i]? = some o → ObF P ops cls T Fr a0 w1 i o)
    (hfin : ∀ (b : Act) (w : World), Ext w1 w → b.defers = a0.defers → b.tmps.size = a0.tmps.size → Wp w → (∀ i d, i < m ∨ i ∈ Hs → dstOf ops i = some d → T i (b.tmps.getD d undef) w) →
      (∀ t, (∀ i, i < m ∨ i ∈ Hs → dstOf ops i ≠ some t) → b.tmps.getD t undef = a0.tmps.getD t undef) →
      (∀ i ∈ Fr, ∀ d, dstOf ops i = some d → ∀ k ∈ vks (b.tmps.getD d undef), w1.heap.size ≤ k ∧ k < w.heap.size) →
      (∀ i ∈ Fr, ∀ j ∈ Fr, i ≠ j → ∀ d e, dstOf ops i = some d → dstOf ops j = some e → ∀ k ∈ vks (b.tmps.getD d undef), k ∉ vks (b.tmps.getD e undef)) →
      LstV P ops Wp Vs T (Q .normal) ((tailIx ops m Hs).filterMap fun i => ops[i]?) b w) :
    (Code.region id ops.toArray true).wpIn (FR ro) 0 P Q a0 w1 := by
  have hend : ∀ fuel listed a w, listed.toList.count false = fuel → J4 ops m Hs Vs cls X Fr T a0 w1 listed a w → (∀ i, i < m → i ∉ Hs → i < ops.length → listed.getD i false = true) → wpAnyIn (FR ro) 0 P .any ops.toArray Q fuel listed a w := by
    intro fuel listed a w hc I hall
    have huniqH : ∀ i ∈ Hs, ∀ d, dstOf ops i = some d → (∀ j, dstOf ops j = some d → j = i) ∧ d < a0.tmps.size := fun i hi d hd => by
      obtain ⟨o, ho, hdo⟩ := getD_lt hd
      obtain ⟨⟨d', hd', hds, huniq⟩, _⟩ := ok3_H hok ho hi
      rw [hdo] at hd'; cases hd'
      exact ⟨huniq, hds⟩
    have hX : ∀ i ∈ Hs, ∀ d, dstOf ops i = some d → (fillH ops X Hs a).tmps.getD d undef = X i := fun i hi d hd =>
      fillH_some Hs d i hi hd (fun j _ e => (huniqH i hi d hd).1 j e) a (by rw [I.J.size]; exact (huniqH i hi d hd).2)
    have hnH : ∀ t, (∀ i ∈ Hs, dstOf ops i ≠ some t) → (fillH ops X Hs a).tmps.getD t undef = a.tmps.getD t undef := fun t h => fillH_none Hs t h a
    have hFH : ∀ i d, i ∉ Hs → dstOf ops i = some d → ∀ j ∈ Hs, dstOf ops j ≠ some d := fun i d hi hd j hj e => hi ((huniqH j hj d e).1 i hd ▸ hj)
    have hex : ∀ i d, dstOf ops i = some d → i < ops.length := fun i d hd => by obtain ⟨o, ho, _⟩ := getD_lt hd; exact (List.getElem?_eq_some_iff.1 ho).1
    refine wpAny_tail3 (m := m) hok hsel hTV hob fuel listed a (fillH ops X Hs a) w (tailIx ops m Hs) hc I.J (fillH_defers Hs a) (fillH_size Hs a) (fun t ht => ?_) hX (hWp w1 w hW1 I.ext) (fun i hi hiH => ?_) ?_ (fun i hi => ?_) ?_
    · by_cases hx : ∃ i ∈ Hs, dstOf ops i = some t
      · obtain ⟨i, hi, hd⟩ := hx
        rw [hX i hi t hd, I.J.doneH i t (.inl hi) hd (ht i hi hd)]
      · exact hnH t fun i hi e => hx ⟨i, hi, e⟩
    · unfold tailIx
      simp only [List.mem_filter, List.mem_range, Bool.and_eq_true, Bool.not_eq_true', decide_eq_false_iff_not, List.contains_eq_mem]
      constructor
      · intro h
        refine ⟨hi, fun him => ?_, hiH⟩
        rw [hall i him hiH hi] at h; cases h
      · rintro ⟨_, h1, _⟩
        exact I.tail i (by omega) hiH
    · exact List.Pairwise.filter _ (by rw [List.range_eq_range']; exact List.pairwise_lt_range')
    · unfold tailIx at hi
      simp only [List.mem_filter, List.mem_range, Bool.and_eq_true, Bool.not_eq_true', decide_eq_false_iff_not, List.contains_eq_mem] at hi
      exact ⟨hi.1, by omega, hi.2.2⟩
    · refine hfin _ w I.ext ((fillH_defers Hs a).trans I.defers) ((fillH_size Hs a).trans I.J.size) (hWp w1 w hW1 I.ext) (fun i d him hd => ?_) (fun t ht => ?_) (fun i hi d hd => ?_) (fun i hi j hj hij d e hd he => ?_)
      · by_cases hiH : i ∈ Hs
        · rw [hTX i hiH, hX i hiH d hd]; rfl
        · have him' := him.resolve_right hiH
          rw [hnH d (hFH i d hiH hd)]
          exact I.done i d him' hiH hd (hall i him' hiH (hex i d hd))
      · rw [hnH t (fun i hi => ht i (.inr hi))]
        refine I.J.rest t fun j hj => ?_
        by_cases hjm : j < m ∨ j ∈ Hs
        · exact absurd hj (ht j hjm)
        · exact I.tail j (Nat.le_of_not_lt fun h => hjm (.inl h)) (fun h => hjm (.inr h))
      · have hf := hFr i hi
        rw [hnH d (hFH i d hf.2 hd)]
        exact I.fresh i hi d hd (hall i hf.1 hf.2 (hex i d hd))
      · have hf := hFr i hi
        have hg := hFr j hj
        rw [hnH d (hFH i d hf.2 hd), hnH e (hFH j e hg.2 he)]
        exact I.disj i hi j hj hij d e hd he (hall i hf.1 hf.2 (hex i d hd)) (hall j hg.1 hg.2 (hex j e he))
  refine wpIn_region_any hm ?_
  have hcount : ∀ (fuel : Nat) (listed : Array Bool) (a : Act) (w : World), listed.toList.count false = fuel → J4 ops m Hs Vs cls X Fr T a0 w1 listed a w → wpAnyIn (FR ro) 0 P .any ops.toArray Q fuel listed a w := by
    intro fuel
    induction fuel with
    | zero =>
      intro listed a w hc I
      exact hend 0 listed a w hc I fun i _ _ hi => count_zero hc i (by rw [I.J.lsize]; exact hi)
    | succ fuel ih =>
      intro listed a w hc I
      by_cases hall : ∀ i, i < m → i ∉ Hs → i < ops.length → listed.getD i false = true
      · exact hend _ listed a w hc I hall
      · refine ⟨fun hr => absurd (fun i _ _ hi => ready_nil3 hok I.J.lsize hr i hi) hall, fun k hk => ?_⟩
        obtain ⟨o, ho, hf, hdir⟩ := ready_direct hk
        have hkl := (List.getElem?_eq_some_iff.1 ho).1
        have hks : k < listed.size := by rw [I.J.lsize]; exact hkl
        have hu := hf I.J.lsize
        have hcl : ∀ j ∈ cls.getD k [], listed.getD j false = true := fun j hj => by
          rcases (ok3_direct hok ho).2 j hj with h1 | ⟨q, hq, h1⟩
          · exact hdir j h1
          · exact I.J.closed q (hdir q hq) j h1
        have hcnt : (listed.setIfInBounds k true).toList.count false = fuel := by have := count_set hks hu; omega
        by_cases hH : k ∈ Hs
        · obtain ⟨⟨d, hd, hds, huniq⟩, _, _⟩ := ok3_H hok ho hH
          have hdk : dstOf ops k = some d := by rw [dst_of ho, hd]
          have hput : ∀ t, d ≠ t → (a.put o.dst (X k)).tmps.getD t undef = a.tmps.getD t undef := fun t ht => by rw [hd, put_getD, if_neg (fun h => ht h.1)]
          have hother : ∀ i e, i ∉ Hs → dstOf ops i = some e → d ≠ e := fun i e hi he h => hi (huniq i (by rw [he, h]) ▸ hH)
          refine stepH_wp3 hok hob I.J (hWp w1 w hW1 I.ext) ho hH hu hcl (ih _ _ w hcnt ⟨I.J.stepH hok ho hH hd hcl, I.ext, by rw [hd]; exact I.defers, fun i him hiH => ?_, fun i e him hiH he hl => ?_, fun i hi e he hl => ?_, fun i hi j hj hij e e2 he he2 hl hl2 => ?_⟩)
          · have := set_iff hks i
            cases hb : (listed.setIfInBounds k true).getD i false with
            | false => rfl
            | true => rcases this.1 hb with e | e
                      · exact absurd (e ▸ hH) hiH
                      · rw [I.tail i him hiH] at e; cases e
          · rw [hput e (hother i e hiH he)]
            exact I.done i e him hiH he (((set_iff hks i).1 hl).resolve_left fun h => hiH (h ▸ hH))
          · have h9 := hFr i hi
            rw [hput e (hother i e h9.2 he)]
            exact I.fresh i hi e he (((set_iff hks i).1 hl).resolve_left fun h => h9.2 (h ▸ hH))
          · have h9 := hFr i hi
            have h8 := hFr j hj
            rw [hput e (hother i e h9.2 he), hput e2 (hother j e2 h8.2 he2)]
            exact I.disj i hi j hj hij e e2 he he2 (((set_iff hks i).1 hl).resolve_left fun h => h9.2 (h ▸ hH)) (((set_iff hks j).1 hl2).resolve_left fun h => h8.2 (h ▸ hH))
        · have hkm : k < m := by
            rcases Nat.lt_or_ge k m with h3 | h3
            · exact h3
            · exfalso
              apply hall
              intro i him hiH _
              exact hcl i ((ok3_T hok ho hH h3).1 i (by omega) hiH)
          obtain ⟨⟨d, hd, hds, huniq⟩, hlook⟩ := ok3_F hok ho hH hkm
          have hdk : dstOf ops k = some d := by rw [dst_of ho, hd]
          have hother : ∀ i e, i < m → dstOf ops i = some e → i ≠ k → d ≠ e := fun i e him he hne h => hne (huniq i him (by rw [he, h]))
          have hslots : ∀ t ∈ o.looksAt ops.toArray, SlotOk ops T (cls.getD k []) a0 a w t := fun t ht => by
            unfold SlotOk
            cases hw : writer ops (cls.getD k []) t with
            | some j =>
              obtain ⟨hmj, oj, hj, hdj⟩ := find_spec hw
              have hdj' : dstOf ops j = some t := by rw [dst_of hj, hdj]
              have hlj := hcl j hmj
              by_cases hjH : j ∈ Hs
              · show T j _ w
                rw [hTX j hjH, I.J.doneH j t (.inl hjH) hdj' hlj]; rfl
              · have hjm : j < m := by
                  rcases Nat.lt_or_ge j m with h | h
                  · exact h
                  · rw [I.tail j h hjH] at hlj; cases hlj
                exact I.done j t hjm hjH hdj' hlj
            | none =>
              refine I.J.rest t fun j hdj => ?_
              cases hb : listed.getD j false with
              | false => rfl
              | true =>
                have hjx : j < m ∨ j ∈ Hs := by
                  by_cases hjH : j ∈ Hs
                  · exact .inr hjH
                  · rcases Nat.lt_or_ge j m with h | h
                    · exact .inl h
                    · rw [I.tail j h hjH] at hb; cases hb
                obtain ⟨oj, h1, h2⟩ := getD_lt hdj
                rcases hlook t ht j hjx hdj with h | h
                · exact absurd h (find_none hw j oj h1 h2)
                · have := I.J.closed j hb k h; rw [hu] at this; cases this
          have step : ∀ v w', T k v w' → Ext w w' → (k ∈ Fr → ∀ q ∈ vks v, w.heap.size ≤ q ∧ q < w'.heap.size) → wpAnyIn (FR ro) 0 P .any ops.toArray Q fuel (listed.setIfInBounds k true) (a.put o.dst v) w' := fun v w' hv hE hfr => by
            have hself : (a.put o.dst v).tmps.getD d undef = v := by rw [hd, put_getD, if_pos ⟨rfl, by rw [I.J.size]; exact hds⟩]
            have hput : ∀ t, d ≠ t → (a.put o.dst v).tmps.getD t undef = a.tmps.getD t undef := fun t ht => by rw [hd, put_getD, if_neg (fun h => ht h.1)]
            refine ih _ _ w' hcnt ⟨I.J.stepT hok ho hH v (fun hkV => by rw [hTV k hkV] at hv; exact hv) hcl, I.ext.trans hE, by rw [hd]; exact I.defers, fun i him hiH => ?_, fun i e him hiH he hl => ?_, fun i hi e he hl => ?_, fun i hi j hj hij e e2 he he2 hl hl2 => ?_⟩
            · have := set_iff hks i
              cases hb : (listed.setIfInBounds k true).getD i false with
              | false => rfl
              | true => rcases this.1 hb with e | e
                        · omega
                        · rw [I.tail i him hiH] at e; cases e
            · by_cases hik : i = k
              · subst hik
                rw [hdk] at he; cases he
                rw [hself]; exact hv
              · rw [hput e (hother i e him he hik)]
                exact hT i _ _ _ (I.done i e him hiH he (((set_iff hks i).1 hl).resolve_left hik)) hE
            · have h9 := hFr i hi
              by_cases hik : i = k
              · subst hik
                rw [hdk] at he; cases he
                rw [hself]
                intro q hq
                have := hfr hi q hq
                exact ⟨Nat.le_trans I.ext.le this.1, this.2⟩
              · rw [hput e (hother i e h9.1 he hik)]
                intro q hq
                have := I.fresh i hi e he (((set_iff hks i).1 hl).resolve_left hik) q hq
                exact ⟨this.1, Nat.lt_of_lt_of_le this.2 hE.le⟩
            · have h9 := hFr i hi
              have h8 := hFr j hj
              by_cases hik : i = k
              · subst hik
                have hjk : j ≠ i := fun e => hij e.symm
                rw [hdk] at he; cases he
                rw [hself, hput e2 (hother j e2 h8.1 he2 hjk)]
                intro q hq hq2
                have h1 := hfr hi q hq
                have h2 := I.fresh j hj e2 he2 (((set_iff hks j).1 hl2).resolve_left hjk) q hq2
                omega
              · rw [hput e (hother i e h9.1 he hik)]
                by_cases hjk : j = k
                · subst hjk
                  rw [hdk] at he2; cases he2
                  rw [hself]
                  intro q hq hq2
                  have h1 := hfr hj q hq2
                  have h2 := I.fresh i hi e he (((set_iff hks i).1 hl).resolve_left hik) q hq
                  omega
                · rw [hput e2 (hother j e2 h8.1 he2 hjk)]
                  exact I.disj i hi j hj hij e e2 he he2 (((set_iff hks i).1 hl).resolve_left hik) (((set_iff hks j).1 hl2).resolve_left hjk)
          have hO := hof k o hkm hH ho a w I.ext I.J.size I.defers hslots
          have ho' : ops.toArray[k]? = some o := by simpa using ho
          unfold wpOpIn
          simp only [ho']
          split
          · rename_i hw
            rw [if_pos hw] at hO
            exact hO.wp fun v w' ⟨h1, h2, h3⟩ => step v w' h1 h2 h3
          · rename_i hw
            rw [if_neg hw] at hO
            exact ⟨fun _ _ => trivial, step undef w hO (Ext.refl w) fun _ q hq => by cases hq⟩
  refine hcount _ _ _ _ (by simp) ⟨⟨rfl, by simp, fun i d _ _ h => ?_, fun _ _ => rfl, fun i h => ?_⟩, (Ext.refl w1).drew, rfl, fun i _ _ => ?_, fun i d _ _ _ h => ?_, fun i _ d _ h => ?_, fun i _ j _ _ d e _ _ h => ?_⟩
  · simp [Array.getElem?_replicate] at h; split at h <;> simp at h
  · simp [Array.getElem?_replicate] at h; split at h <;> simp at h
  · simp [Array.getElem?_replicate]; split <;> rfl
  · simp [Array.getElem?_replicate] at h; split at h <;> simp at h
  · simp [Array.getElem?_replicate] at h; split at h <;> simp at h
  · simp [Array.getElem?_replicate] at h; split at h <;> simp at h
end law
section
variable {P : Program} {ops : List Oper} {cls : List (List Nat)} {Ts : List Asrt} {a0 : Act}
theorem c_reg3 {ro : Option Nat} {id N : Nat} {L : List (Nat × Value)} {Df : List Deferred} {tl : List Oper} {B : List Own} {w0 w1 : World} {Q : Exit → Act → World → Prop} (m : Nat) (Hs Vs Fr : List Nat) (cls : List (List Nat)) (Ts : List Asrt) (Wp : World → Prop)
    (h : Sl N a0 L Df) (s : St w0 B w1) (hm : P.follows .mixedOrders = true) (hok : okReg3 ops m Hs Vs cls N = true) (hsel : Region.noSelect ops.toArray = true) (hfr : frOk m Hs Fr = true) (htl : ((tailIx ops m Hs).filterMap fun i => ops[i]?) = tl)
    (hWp : ∀ w w', Wp w → Ext w w' → Wp w') (hW1 : Wp w1) (hX : isX Ts Hs) (hV : isX Ts Vs) (hT : AllM Ts) (hob : AllX P ops m Hs Fr cls Ts Wp N Df a0 w1 ops 0)
    (hfin : ∀ (b : Act) (w : World), Ext w1 w → b.tmps.size = N → b.defers = Df → Wp w → (∀ i d, (decide (i < m) || Hs.contains i) = true → dstOf ops i = some d → TsF Ts i (b.tmps.getD d undef) w) →
      (∀ t, ((List.range ops.length).all fun i => !(decide (i < m) || Hs.contains i) || decide (dstOf ops i ≠ some t)) = true → b.tmps.getD t undef = a0.tmps.getD t undef) →
      (∀ i d, Fr.contains i = true → dstOf ops i = some d → ∀ k ∈ vks (b.tmps.getD d undef), w1.heap.size ≤ k) →
      (∀ i j d e, Fr.contains i = true → Fr.contains j = true → i ≠ j → dstOf ops i = some d → dstOf ops j = some e → ∀ k ∈ vks (b.tmps.getD d undef), k ∉ vks (b.tmps.getD e undef)) →
      LstV P ops Wp Vs (TsF Ts) (Q .normal) tl b w) :
    (Code.region id ops.toArray true).wpIn (FR ro) 0 P Q a0 w1 := by
  have hsz := h.size
  obtain ⟨X, hXX⟩ : ∃ X : Nat → Value, ∀ i, i ∈ Hs ∨ i ∈ Vs → TsF Ts i = is (X i) := by
    have h1 : ∀ i, ∃ x, i ∈ Hs ∨ i ∈ Vs → TsF Ts i = is x := fun i => by
      by_cases hi : i ∈ Hs ∨ i ∈ Vs
      · rcases hi with hi | hi
        · obtain ⟨x, hx⟩ := isX_mem hX i hi
          exact ⟨x, fun _ => hx⟩
        · obtain ⟨x, hx⟩ := isX_mem hV i hi
          exact ⟨x, fun _ => hx⟩
      · exact ⟨undef, fun h9 => absurd h9 hi⟩
    obtain ⟨X, h2⟩ := Classical.axiomOfChoice h1
    exact ⟨X, h2⟩
  refine wp_region3 (m := m) (Hs := Hs) (Vs := Vs) (cls := cls) (X := X) (Wp := Wp) (Fr := Fr) (T := TsF Ts) hm (by rw [hsz]; exact hok) hsel hWp hW1 (fun i hi => hXX i (.inl hi)) (fun i hi => hXX i (.inr hi)) (fun i hi => ?_) (allM_getD hT) (fun i o hi ho => ?_) (fun i o him hi ho => ?_) fun b w hE hd hs hw hTs hR hF hD => ?_
  · have := List.all_eq_true.1 hfr i hi
    simpa using this
  · have hx := allX_get hob i o ho
    rw [Nat.zero_add] at hx
    unfold ObX at hx
    rw [if_pos (by simpa using hi)] at hx
    obtain ⟨⟨d, hdd, hds, _⟩, hg, hlk⟩ := ok3_H hok ho hi
    intro a w hwp hs hsl
    have h1 := hx a w d hdd hwp (hs.trans hsz) fun t ht => by
      have h2 := hsl t ht
      unfold SlotOk at h2 ⊢
      cases hwr : writer ops (cls.getD i []) t with
      | none => rw [hwr] at h2; exact h2
      | some j =>
        rw [hwr] at h2
        obtain ⟨hmj, oj, hj, hdj⟩ := find_spec hwr
        have hjH : j ∈ Hs ∨ j ∈ Vs := by
          rcases hlk t ht j (by rw [dst_of hj, hdj]) with h3 | h3
          · exact h3.2
          · have h4 := cls3_lt hok i (List.getElem?_eq_some_iff.1 ho).1 j hmj
            have h5 := cls3_lt hok j (List.getElem?_eq_some_iff.1 hj).1 i h3
            omega
        show TsF Ts j _ w
        rw [hXX j hjH]; exact h2
    unfold Lst at h1
    rw [if_pos (by simp [Region.wanted, hg])] at h1
    refine h1.mono fun v w' h3 => ?_
    unfold Lst KH at h3
    rw [hdd, put_getD, if_pos ⟨rfl, by rw [hs, hsz]; exact hds⟩, hXX i (.inl hi)] at h3
    exact h3
  · have hx := allX_get hob i o ho
    rw [Nat.zero_add] at hx
    unfold ObX at hx
    rw [if_neg (by simpa using hi), if_pos him] at hx
    obtain ⟨⟨d, hdd, hds, _⟩, _⟩ := ok3_F hok ho hi him
    intro a w hE hs hdf hsl
    have h1 := hx a w d hdd hE (hs.trans hsz) (hdf.trans h.defers) hsl
    have hlt : d < a.tmps.size := by rw [hs, hsz]; exact hds
    unfold Lst at h1
    split at h1
    · rename_i hw
      rw [if_pos hw]
      refine h1.mono fun v w' h3 => ?_
      unfold Lst KF at h3
      rw [hdd, put_getD, if_pos ⟨rfl, hlt⟩] at h3
      exact ⟨h3.1, h3.2.1, fun hf => h3.2.2 (by simpa using hf)⟩
    · rename_i hw
      rw [if_neg hw]
      unfold Lst KF at h1
      rw [hdd, put_getD, if_pos ⟨rfl, hlt⟩] at h1
      exact h1.1
  · rw [htl]
    refine hfin b w hE (hs.trans hsz) (hd.trans h.defers) hw (fun i d hi hdi => hTs i d (by simpa using hi) hdi) (fun t ht => hR t fun i hi hdi => ?_) (fun i d hi hdi k hk => (hF i (by simpa using hi) d hdi k hk).1) (fun i j d e hi hj hij hdi hdj => hD i (by simpa using hi) j (by simpa using hj) hij d e hdi hdj)
    obtain ⟨o, ho, _⟩ := getD_lt hdi
    have hb : (decide (i < m) || Hs.contains i) = true := by
      rcases hi with h3 | h3
      · rw [decide_eq_true h3]; rfl
      · rw [List.contains_iff_mem.2 h3, Bool.or_true]
    have h2 := List.all_eq_true.1 ht i (List.mem_range.2 (List.getElem?_eq_some_iff.1 ho).1)
    rw [hb, hdi] at h2
    simp at h2
end
section
variable {P : Program} {ops : List Oper} {Vs : List Nat} {T : Nat → Asrt} {K : Act → World → Prop} {Wp : World → Prop} {o : Oper} {l : List Oper} {a : Act} {w : World}
theorem LstV.cons (h : Lst P ops.toArray (fun a w => Wp w ∧ VOk ops Vs T o a w ∧ LstV P ops Wp Vs T K l a w) [o] a w) : LstV P ops Wp Vs T K (o :: l) a w := h
theorem LstV.nil (h : K a w) : LstV P ops Wp Vs T K [] a w := h
def notV (ops : List Oper) (Vs : List Nat) (o : Oper) : Bool := Vs.all fun i => match dstOf ops i with | some d => decide (o.dst ≠ some d) | none => true
theorem VOk.no (h : notV ops Vs o = true) : VOk ops Vs T o a w := fun i hi d hd ho => by
  have := List.all_eq_true.1 h i hi
  rw [hd] at this
  simp [ho] at this
theorem VOk.one {i d : Nat} (hd : o.dst = some d) (hi : dstOf ops i = some d) (hn : (Vs.all fun j => j == i || decide (dstOf ops j ≠ some d)) = true) (h : T i (a.tmps.getD d undef) w) : VOk ops Vs T o a w := fun j hj e he ho => by
  rw [hd] at ho
  cases ho
  have := List.all_eq_true.1 hn j hj
  rw [he] at this
  have hji : j = i := by simpa using this
  rw [hji]; exact h
end
end Go.Proofs.Ythjkhnhiciamaaa
