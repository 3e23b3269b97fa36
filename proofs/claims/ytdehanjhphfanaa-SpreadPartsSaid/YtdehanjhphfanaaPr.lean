/- Drawn regions in general; slices of elements of several cells; equality of such; links that lead back; the reference of the sum; keys and links; no Go in it. -/
import Derived.Deep.Slices
import Derived.Test.YtdehanjhphfanaaDg
set_option linter.unusedVariables false
set_option linter.unusedSimpArgs false
set_option linter.unusedSectionVars false
namespace Go.Proofs.Ytdehanjhphfanaa
open Go.RowKit
/-! ### A region that draws its order: THE LAW, with operations that may come at any time (pure ones, and loads that nothing of the region turns), first operations in whatever order, and last ones -/
def dstOf (ops : List Oper) (j : Nat) : Option Tmp := (ops[j]?).bind (·.dst)
/-- the blocks that a value bears -/
def vks : Value → List Nat
  | .pointer (some a) => [a.block]
  | .slice (some a) _ _ => [a.block]
  | _ => []
section
variable (ops : List Oper) (m : Nat) (Hs : List Nat) (cls : List (List Nat))
end
/-- the last ones, with what must hold of the world between them -/
def LstW (P : Program) (ops : Array Oper) (Wp : World → Prop) (K : Act → World → Prop) : List Oper → Act → World → Prop
  | [], a, w => K a w
  | o :: l, a, w => Lst P ops (fun a w => Wp w ∧ LstW P ops Wp K l a w) [o] a w
theorem LstW.of {P : Program} {ops : Array Oper} {K : Act → World → Prop} : ∀ {l : List Oper} {a : Act} {w : World}, Lst P ops K l a w → LstW P ops (fun _ => True) K l a w
  | [], _, _, h => Lst.nil.1 h
  | o :: l, a, w, h => by
    have h2 : Lst P ops (Lst P ops K l) [o] a w := (Lst.append (l := [o])).1 h
    exact Lst.mono (fun a w h => ⟨trivial, LstW.of h⟩) h2

section law
variable {P : Program} {ro : Option Nat} {ops : List Oper} {m : Nat} {Hs : List Nat} {cls : List (List Nat)} {X : Nat → Value} {Wp : World → Prop} {a0 : Act} {Q : Exit → Act → World → Prop}
structure J2 (ops : List Oper) (Hs : List Nat) (cls : List (List Nat)) (X : Nat → Value) (a0 : Act) (listed : Array Bool) (a : Act) : Prop where
  size : a.tmps.size = a0.tmps.size
  lsize : listed.size = ops.length
  doneH : ∀ i d, i ∈ Hs → dstOf ops i = some d → listed.getD i false = true → a.tmps.getD d undef = X i
  rest : ∀ t, (∀ j, dstOf ops j = some t → listed.getD j false = false) → a.tmps.getD t undef = a0.tmps.getD t undef
  closed : ∀ i, listed.getD i false = true → ∀ j ∈ cls.getD i [], listed.getD j false = true
theorem set_iff {listed : Array Bool} {i : Nat} (hi : i < listed.size) (j : Nat) : (listed.setIfInBounds i true).getD j false = true ↔ (j = i ∨ listed.getD j false = true) := by
  by_cases hji : i = j
  · subst hji; simp [hi]
  · have : ¬ j = i := fun e => hji e.symm
    simp [Array.getElem?_setIfInBounds_ne hji, this]
theorem count_set {listed : Array Bool} {i : Nat} (hi : i < listed.size) (hu : listed.getD i false = false) : (listed.setIfInBounds i true).toList.count false + 1 = listed.toList.count false := by
  rw [Array.toList_setIfInBounds]
  exact count_set_false listed.toList i (by simp [hi] at hu ⊢; exact hu)
theorem dst_of {o : Oper} {i : Nat} (hi : ops[i]? = some o) : dstOf ops i = o.dst := by unfold dstOf; rw [hi]; rfl
theorem count_pos {listed : Array Bool} {i : Nat} (hi : i < listed.size) (hb : listed.getD i false = false) : 0 < listed.toList.count false := by
  refine List.count_pos_iff.2 ?_
  simp [hi] at hb
  exact List.mem_of_getElem? (i := i) (by simp [hi, hb])
theorem count_zero {listed : Array Bool} (h : listed.toList.count false = 0) (i : Nat) (hi : i < listed.size) : listed.getD i false = true := by
  cases hb : listed.getD i false with
  | true => rfl
  | false => have := count_pos hi hb; omega
variable {Fr : List Nat} {T : Nat → Asrt} {w1 : World}
structure J1 (ops : List Oper) (m : Nat) (Hs : List Nat) (cls : List (List Nat)) (X : Nat → Value) (Fr : List Nat) (T : Nat → Asrt) (a0 : Act) (w1 : World) (listed : Array Bool) (a : Act) (w : World) : Prop where
  J : J2 ops Hs cls X a0 listed a
  ext : Ext w1 w
  defers : a.defers = a0.defers
  tail : ∀ i, m ≤ i → i ∉ Hs → listed.getD i false = false
  done : ∀ i d, i < m → i ∉ Hs → dstOf ops i = some d → listed.getD i false = true → T i (a.tmps.getD d undef) w
  fresh : ∀ i ∈ Fr, ∀ d, dstOf ops i = some d → listed.getD i false = true → ∀ k ∈ vks (a.tmps.getD d undef), w1.heap.size ≤ k ∧ k < w.heap.size
  disj : ∀ i ∈ Fr, ∀ j ∈ Fr, i ≠ j → ∀ d e, dstOf ops i = some d → dstOf ops j = some e → listed.getD i false = true → listed.getD j false = true → ∀ k ∈ vks (a.tmps.getD d undef), k ∉ vks (a.tmps.getD e undef)
theorem getD_lt {i : Nat} {t : Tmp} (h : dstOf ops i = some t) : ∃ o, ops[i]? = some o ∧ o.dst = some t := by
  unfold dstOf at h
  cases hq : ops[i]? with
  | none => rw [hq] at h; cases h
  | some o => rw [hq] at h; exact ⟨o, rfl, h⟩
end law
end Go.Proofs.Ytdehanjhphfanaa

namespace Go.Proofs.Ytdehanjhphfanaa
open Go.RowKit
/-! ### the law, with frames -/
section
variable {P : Program} {ops : List Oper} {cls : List (List Nat)} {Ts : List Asrt} {a0 : Act}
/-- behind a region: what was written, and what was known -/
theorem sl_new {N : Nat} {L : List (Nat × Value)} {Df : List Deferred} {b : Act} {mH : Nat → Bool} (news : List (Nat × Value)) (h : Sl N a0 L Df) (hs : b.tmps.size = N) (hd : b.defers = Df)
    (hR : ∀ t, ((List.range ops.length).all fun i => !(mH i) || decide (dstOf ops i ≠ some t)) = true → b.tmps.getD t undef = a0.tmps.getD t undef) (hn : Holds b news)
    (hc : ((List.range ops.length).all fun i => !(mH i) || match dstOf ops i with | some t => news.any (fun p => Nat.beq p.1 t) | none => true) = true) : Sl N b (news ++ L) Df := by
  refine ⟨hs, hd, fun t v ht => ?_⟩
  have key : ∀ (news : List (Nat × Value)), Holds b news → lk (news ++ L) t = some v → b.tmps.getD t undef = v ∨ (lk L t = some v ∧ news.any (fun p => Nat.beq p.1 t) = false) := by
    intro news
    induction news with
    | nil => intro _ h1; exact .inr ⟨h1, rfl⟩
    | cons p r ih =>
      obtain ⟨k, u⟩ := p
      intro hh h1
      rw [List.cons_append] at h1
      unfold lk at h1
      cases hb : Nat.beq k t with
      | true =>
        rw [hb] at h1
        simp at h1
        have e : k = t := by simpa using hb
        subst e; subst h1
        exact .inl hh.1
      | false =>
        rw [hb] at h1
        rcases ih hh.2 h1 with h2 | ⟨h2, h3⟩
        · exact .inl h2
        · exact .inr ⟨h2, by simp [hb, h3]⟩
  rcases key news hn ht with h1 | ⟨h1, h2⟩
  · exact h1
  · rw [hR t (List.all_eq_true.2 fun i hi => ?_)]
    · exact h.holds t v h1
    · have h3 := List.all_eq_true.1 hc i hi
      cases hmi : mH i with
      | false => simp
      | true =>
        rw [hmi] at h3
        simp only [Bool.not_true, Bool.false_or, decide_eq_true_eq, ne_eq]
        intro e
        rw [e] at h3
        simp only [Bool.not_true, Bool.false_or] at h3
        rw [h3] at h2; cases h2
end
/-- behind a region: new blocks -/
theorem St.join {w0 w1 w : World} {B : List Own} (s : St w0 B w1) (hE : Ext w1 w) (F : List Own) (hF : ∀ p ∈ F, p.holds w0 w) (hk : ∀ p ∈ F, ∀ k, p.at k → w1.heap.size ≤ k) (hnd : F.Pairwise fun p q => ∀ k, p.at k → ¬ q.at k) : St w0 (F ++ B) w := by
  have s2 := s.more hE
  refine ⟨s2.ext, fun p hp => ?_, fun p hp k hpk => ?_, List.pairwise_append.2 ⟨hnd, s2.nd, fun p hp q hq k hpk hqk => ?_⟩⟩
  · rcases List.mem_append.1 hp with h | h
    · exact hF p h
    · exact s2.has p h
  · rcases List.mem_append.1 hp with h | h
    · exact Nat.le_trans s.ext.le (hk p h k hpk)
    · exact s2.own p h k hpk
  · have h1 := hk p hp k hpk
    have h2 := Own.lt (s.has q hq) hqk
    omega
theorem St.join1 {w0 w1 w : World} {B : List Own} (s : St w0 B w1) (hE : Ext w1 w) (p : Own) (hF : p.holds w0 w) (hk : ∀ k, p.at k → w1.heap.size ≤ k) : St w0 (p :: B) w :=
  s.join hE [p] (fun q hq => by rw [List.mem_singleton] at hq; subst hq; exact hF) (fun q hq => by rw [List.mem_singleton] at hq; subst hq; exact hk) (List.pairwise_singleton _ _)
end Go.Proofs.Ytdehanjhphfanaa

namespace Go.Proofs.Ytdehanjhphfanaa
open Go.RowKit
/-! ### equality of values of several cells -/
structure EqV (P : Program) (D : Nat) (e : TypeId) (sz : Nat) (V : List Value → Prop) (vl : List Value → Value) : Prop where
  len : ∀ xs, V xs → xs.length = sz
  size : (P.info? e).map (·.size) = some sz
  part : ∀ (cs : Array Value) (off : Nat) (w : World), V ((cs.toList.drop off).take sz) → (part e cs off).run P w = .ok (vl ((cs.toList.drop off).take sz)) w
  eq : ∀ (d : Nat) (xs ys : List Value) (w : World), V xs → V ys → ∃ r : Bool, (Op.equalIn (d + D) e (vl xs) (vl ys)).run P w = .ok r w ∧ (r = true ↔ xs = ys)
theorem run_sizeOf {P : Program} {e : TypeId} {sz : Nat} (h : (P.info? e).map (·.size) = some sz) (w : World) : (sizeOf e).run P w = .ok sz w := by
  cases hi : P.info? e with
  | none => simp [hi] at h
  | some i => simp [hi] at h; simp [sizeOf, typeInfo, Sem.run_bind, hi, h]
def hd1 (xs : List Value) : Value := xs.headD undef
def agV (xs : List Value) : Value := .agg xs.toArray
theorem EqV.int {P : Program} {e : TypeId} (k : IntKind) (he : P.underlying e = some (.int k)) (hs : (P.info? e).map (·.size) = some 1) : EqV P 1 e 1 (fun xs => ∃ n, xs = [.int k n]) hd1 := by
  refine ⟨fun xs ⟨n, h⟩ => by rw [h]; rfl, hs, fun cs off w ⟨n, h⟩ => ?_, fun d xs ys w ⟨m, hx⟩ ⟨n, hy⟩ => ?_⟩
  · have h1 : (isAgg e).run P w = .ok false w := by
      unfold isAgg; rw [Sem.run_bind, run_underlying he w]; rfl
    have h2 : cs[off]? = some (.int k n) := by
      have := congrArg (fun l => l[0]?) h
      simpa [List.getElem?_take, List.getElem?_drop] using this
    simp only [Go.part, Sem.run_bind, h1, Result.andThen_ok, Bool.false_eq_true, if_false, h2, h]
    rfl
  · subst hx; subst hy
    exact ⟨m == n, run_equalIn_int w d e k k m n he, by simp⟩
theorem EqV.str {P : Program} {e : TypeId} (he : P.underlying e = some .string) (hs : (P.info? e).map (·.size) = some 1) : EqV P 1 e 1 (fun xs => ∃ n, xs = [.string n]) hd1 := by
  refine ⟨fun xs ⟨n, h⟩ => by rw [h]; rfl, hs, fun cs off w ⟨n, h⟩ => ?_, fun d xs ys w ⟨m, hx⟩ ⟨n, hy⟩ => ?_⟩
  · have h1 : (isAgg e).run P w = .ok false w := by
      unfold isAgg; rw [Sem.run_bind, run_underlying he w]; rfl
    have h2 : cs[off]? = some (.string n) := by
      have := congrArg (fun l => l[0]?) h
      simpa [List.getElem?_take, List.getElem?_drop] using this
    simp only [Go.part, Sem.run_bind, h1, Result.andThen_ok, Bool.false_eq_true, if_false, h2, h]
    rfl
  · subst hx; subst hy
    refine ⟨m == n, by rw [beq_toListBytes]; exact run_equalIn_string w d e m n he, ?_⟩
    rw [beq_toListBytes, ByteArray.toList_eq, ByteArray.toList_eq, beq_iff_eq]
    simp only [List.cons.injEq, Value.string.injEq, and_true]
    exact ⟨fun h => ByteArray.ext (Array.toList_inj.1 h), fun h => by rw [h]⟩
theorem EqV.bool {P : Program} {e : TypeId} (he : P.underlying e = some .bool) (hs : (P.info? e).map (·.size) = some 1) : EqV P 1 e 1 (fun xs => ∃ n, xs = [.bool n]) hd1 := by
  refine ⟨fun xs ⟨n, h⟩ => by rw [h]; rfl, hs, fun cs off w ⟨n, h⟩ => ?_, fun d xs ys w ⟨m, hx⟩ ⟨n, hy⟩ => ?_⟩
  · have h1 : (isAgg e).run P w = .ok false w := by
      unfold isAgg; rw [Sem.run_bind, run_underlying he w]; rfl
    have h2 : cs[off]? = some (.bool n) := by
      have := congrArg (fun l => l[0]?) h
      simpa [List.getElem?_take, List.getElem?_drop] using this
    simp only [Go.part, Sem.run_bind, h1, Result.andThen_ok, Bool.false_eq_true, if_false, h2, h]
    rfl
  · subst hx; subst hy
    exact ⟨m == n, run_equalIn_bool w d e m n he, by simp⟩
theorem run_part_agg {P : Program} {t : TypeId} {sz : Nat} (hd : ∃ dsc, P.underlying t = some dsc ∧ rowB dsc = true) (hs : (P.info? t).map (·.size) = some sz) (cs : Array Value) (off : Nat) (w : World) (hl : ((cs.toList.drop off).take sz).length = sz) :
    (part t cs off).run P w = .ok (agV ((cs.toList.drop off).take sz)) w := by
  obtain ⟨dsc, h1, h2⟩ := hd
  have h3 : (isAgg t).run P w = .ok true w := by
    unfold isAgg; rw [Sem.run_bind, run_underlying h1 w]
    cases dsc <;> first | rfl | cases h2
  simp only [Go.part, Sem.run_bind, h3, Result.andThen_ok, if_true, run_sizeOf hs w, Sem.run_pure]
  congr 1
  unfold agV
  congr 1
  apply Array.ext'
  rw [Array.toList_extract, List.extract_eq_take_drop]
  rw [show off + sz - off = sz from by omega]
theorem EqV.arr {P : Program} {t e : TypeId} {D n sz : Nat} {V : List Value → Prop} {vl : List Value → Value} (E : EqV P D e sz V vl) (ht : P.underlying t = some (.array n e)) (hs : (P.info? t).map (·.size) = some (n * sz)) :
    EqV P (D + 1) t (n * sz) (fun xs => xs.length = n * sz ∧ ∀ i, i < n → V ((xs.drop (i * sz)).take sz)) agV := by
  refine ⟨fun xs h => h.1, hs, fun cs off w h => run_part_agg ⟨_, ht, rfl⟩ hs cs off w h.1, fun d xs ys w ⟨hxl, hx⟩ ⟨hyl, hy⟩ => ?_⟩
  have hc : ∀ i, ∃ r : Bool, i < n → (Op.equalIn (d + D) e (vl ((xs.drop (i * sz)).take sz)) (vl ((ys.drop (i * sz)).take sz))).run P w = .ok r w ∧ (r = true ↔ (xs.drop (i * sz)).take sz = (ys.drop (i * sz)).take sz) := fun i => by
    by_cases hi : i < n
    · obtain ⟨r, h1, h2⟩ := E.eq d _ _ w (hx i hi) (hy i hi)
      exact ⟨r, fun _ => ⟨h1, h2⟩⟩
    · exact ⟨true, fun h => absurd h hi⟩
  obtain ⟨c, hc⟩ := Classical.axiomOfChoice hc
  have hloop : ∀ (F : Nat → Option Bool × Unit → Sem (ForInStep (Option Bool × Unit))), (∀ i, i < n → ∀ r, (F i r).run P w = if c i = true then .ok (.yield (none, ())) w else .ok (.done (some false, ())) w) →
      ∀ k s, s + k ≤ n → (forIn (List.range' s k) ((none, ()) : Option Bool × Unit) F).run P w = .ok (if (List.range' s k).all c = true then none else some false, ()) w := by
    intro F hF k
    induction k with
    | zero => intro s _; simp
    | succ k ih =>
      intro s hs
      simp only [List.range'_succ, List.forIn_cons, Sem.run_bind, hF s (by omega)]
      by_cases h : c s = true
      · rw [if_pos h]
        simp only [Result.andThen_ok]
        rw [ih (s + 1) (by omega)]
        simp only [List.all_cons, h, Bool.true_and]
      · rw [if_neg h]
        simp [h]
  have hrun : (Op.equalIn (d + D + 1) t (.agg xs.toArray) (.agg ys.toArray)).run P w = .ok ((List.range' 0 n).all c) w := by
    unfold Op.equalIn
    simp only [Sem.run_bind, run_underlying ht w, Result.andThen_ok, run_sizeOf E.size w]
    simp only [Std.Legacy.Range.forIn_eq_forIn_range']
    rw [hloop _ (fun i hi r => by
      have h1 := E.part xs.toArray (i * sz) w (by simpa using hx i hi)
      have h2 := E.part ys.toArray (i * sz) w (by simpa using hy i hi)
      simp only [] at h1 h2
      simp only [Sem.run_bind, h1, h2, Result.andThen_ok, (hc i hi).1]
      by_cases h : c i = true <;> simp [h]) _ 0 (by simp [Std.Legacy.Range.size])]
    simp only [Result.andThen_ok]
    have e : [:n].size = n := by simp [Std.Legacy.Range.size]
    rw [e]
    by_cases h : (List.range' 0 n).all c = true
    · rw [if_pos h, h]; rfl
    · rw [if_neg h]
      simp only [Bool.not_eq_true] at h
      rw [h]; rfl
  refine ⟨_, hrun, ?_⟩
  constructor
  · intro g
    have key : ∀ k, k ≤ n → xs.take (k * sz) = ys.take (k * sz) := by
      intro k
      induction k with
      | zero => intro _; simp
      | succ k ih =>
        intro hk
        have h1 := ih (by omega)
        have h2 := (hc k (by omega)).2.1 (List.all_eq_true.1 g k (by simp [List.mem_range']; omega))
        rw [Nat.succ_mul, List.take_add, List.take_add, h1, h2]
    have h3 := key n (Nat.le_refl _)
    rw [List.take_of_length_le (by omega), List.take_of_length_le (by omega)] at h3
    exact h3
  · intro e
    subst e
    refine List.all_eq_true.2 fun i hi => ?_
    exact (hc i (by simp [List.mem_range'] at hi; omega)).2.2 rfl
/-- the fields of a struct: how far, of what type, how many cells -/
def FsV (P : Program) (D : Nat) : List Field → List (Nat × (List Value → Prop)) → Prop
  | [], [] => True
  | f :: fs, (sz, V) :: r => f.name ≠ "_" ∧ (∃ vl, EqV P D f.type sz V vl) ∧ FsV P D fs r
  | _, _ => False
def cutF (xs : List Value) (f : Field) (sz : Nat) : List Value := (xs.drop f.offset).take sz
def FsHas (xs : List Value) : List Field → List (Nat × (List Value → Prop)) → Prop
  | f :: fs, (sz, V) :: r => V (cutF xs f sz) ∧ FsHas xs fs r
  | _, _ => True
def FsSame (xs ys : List Value) : List Field → List (Nat × (List Value → Prop)) → Prop
  | f :: fs, (sz, _) :: r => cutF xs f sz = cutF ys f sz ∧ FsSame xs ys fs r
  | _, _ => True
theorem run_eqFieldsV {P : Program} {D : Nat} (d : Nat) (xs ys : List Value) (w : World) : ∀ (fs : List Field) (r : List (Nat × (List Value → Prop))), FsV P D fs r → FsHas xs fs r → FsHas ys fs r →
    ∃ b : Bool, (Op.eqFields (d + D) xs.toArray ys.toArray fs).run P w = .ok b w ∧ (b = true ↔ FsSame xs ys fs r)
  | [], [], _, _, _ => ⟨true, by simp [Op.eqFields], by simp [FsSame]⟩
  | [], _ :: _, h, _, _ => h.elim
  | f :: fs, [], h, _, _ => h.elim
  | f :: fs, (sz, V) :: r, ⟨hn, ⟨vl, E⟩, hr⟩, ⟨hx, hxr⟩, ⟨hy, hyr⟩ => by
    obtain ⟨b, h1, h2⟩ := run_eqFieldsV d xs ys w fs r hr hxr hyr
    obtain ⟨c, h3, h4⟩ := E.eq d _ _ w hx hy
    have p1 := E.part xs.toArray f.offset w (by simpa [cutF] using hx)
    have p2 := E.part ys.toArray f.offset w (by simpa [cutF] using hy)
    simp only [] at p1 p2
    unfold cutF at h3 h4
    simp only [Op.eqFields, hn, ne_eq, not_false_eq_true, if_true, Sem.run_bind, p1, p2, Result.andThen_ok, h3]
    cases c
    · refine ⟨false, by simp, ?_⟩
      simp only [Bool.false_eq_true, false_iff]
      intro h
      exact absurd (h4.2 h.1) (by simp)
    · refine ⟨b, by simpa using h1, ?_⟩
      rw [h2]
      exact ⟨fun h => ⟨h4.1 rfl, h⟩, fun h => h.2⟩
/-- the fields lie one behind the other, and there is nothing else -/
def FsCover : Nat → List Field → List (Nat × (List Value → Prop)) → Nat → Prop
  | k, f :: fs, (sz, _) :: r, n => f.offset = k ∧ FsCover (k + sz) fs r n
  | k, [], [], n => k = n
  | _, _, _, _ => False
theorem cover_same {xs ys : List Value} {n : Nat} (hx : xs.length = n) (hy : ys.length = n) : ∀ (fs : List Field) (r : List (Nat × (List Value → Prop))) (k : Nat), FsCover k fs r n → xs.take k = ys.take k → FsSame xs ys fs r → xs = ys
  | [], [], k, h, e, _ => by
    have h' : k = n := h
    subst h'
    rw [List.take_of_length_le (by omega), List.take_of_length_le (by omega)] at e
    exact e
  | [], _ :: _, _, h, _, _ => h.elim
  | _ :: _, [], _, h, _, _ => h.elim
  | f :: fs, (sz, V) :: r, k, h, e, hs => by
    obtain ⟨h1, h2⟩ := h
    refine cover_same hx hy fs r (k + sz) h2 ?_ hs.2
    have h3 := hs.1
    unfold cutF at h3
    rw [h1] at h3
    rw [List.take_add, List.take_add, e, h3]
theorem fsSame_refl (xs : List Value) : ∀ (fs : List Field) (r : List (Nat × (List Value → Prop))), FsSame xs xs fs r
  | [], _ => by simp [FsSame]
  | _ :: _, [] => by simp [FsSame]
  | f :: fs, (sz, V) :: r => ⟨rfl, fsSame_refl xs fs r⟩
theorem EqV.struct {P : Program} {t : TypeId} {D n : Nat} (r : List (Nat × (List Value → Prop))) (ht : P.underlying t = some (.struct (P.fieldsOf t))) (hp : P.stoodInHeld t = false) (hs : (P.info? t).map (·.size) = some n)
    (hf : FsV P D (P.fieldsOf t).toList r) (hc : FsCover 0 (P.fieldsOf t).toList r n) :
    EqV P (D + 1) t n (fun xs => xs.length = n ∧ FsHas xs (P.fieldsOf t).toList r) agV := by
  refine ⟨fun xs h => h.1, hs, fun cs off w h => run_part_agg ⟨_, ht, rfl⟩ hs cs off w h.1, fun d xs ys w ⟨hxl, hx⟩ ⟨hyl, hy⟩ => ?_⟩
  obtain ⟨b, h1, h2⟩ := run_eqFieldsV d xs ys w _ r hf hx hy
  refine ⟨b, ?_, h2.trans ⟨fun h => cover_same hxl hyl _ r 0 hc (by simp) h, fun e => by subst e; exact fsSame_refl _ _ _⟩⟩
  rw [← h1]
  exact run_equalIn_struct w (d + D) t xs.toArray ys.toArray ht hp
section
variable {P : Program} {ρ : Operand → Value} {d : Option Tmp} {ty : TypeId} {pos : String} {af : Array Edge} {g : Option (Nat × Bool)} {a b : Operand} {t t' : TypeId} {D n : Nat} {V : List Value → Prop}
end
end Go.Proofs.Ytdehanjhphfanaa

namespace Go.Proofs.Ytdehanjhphfanaa
open Go.RowKit
/-! ### what lies at an address -/
theorem add_add (p : Addr) (i j : Nat) : (p.add i).add j = p.add (i + j) := by
  unfold Addr.add
  by_cases hi : i = 0
  · subst hi; simp
  · by_cases hj : j = 0
    · subst hj; simp [hi]
    · simp [hi, hj, Nat.add_assoc]
def Has (w : World) (p : Addr) (C : Array Value) : Prop := ∀ j v, C[j]? = some v → w.cell? (p.add j) = some v
theorem Has.ext {w w' : World} {p : Addr} {C : Array Value} (h : Has w p C) (e : Ext w w') : Has w' p C := fun j v hv => by
  have := h j v hv
  rw [e.cell (cell_lt this)]; exact this
theorem Has.sub {w : World} {p : Addr} {C : Array Value} (h : Has w p C) (o n : Nat) {D : Array Value} (hD : C.extract o (o + n) = D) : Has w (p.add o) D := fun j v hv => by
  subst hD
  rw [add_add]
  refine h (o + j) v ?_
  rw [Array.getElem?_extract] at hv
  split at hv
  · exact hv
  · cases hv
theorem Has.of_blk {w : World} {b : Nat} {C : Array Value} {u : TypeId} {fr : Nat × Nat} (h : w.heap[b]? = some (.cells C u fr)) : Has w ⟨b, 0, none⟩ C := fun j v hv => by
  have hadd : (⟨b, 0, none⟩ : Addr).add j = ⟨b, j, none⟩ := by unfold Addr.add; split <;> simp_all
  rw [hadd, cell_of_row w b j C u fr h]; exact hv
theorem Has.of_tab {w : World} {g : Nat} {C : Array Value} (h : Tab w g C) : Has w ⟨g, 0, none⟩ C := by
  obtain ⟨t, fr, h⟩ := h
  exact Has.of_blk h
theorem Has.of_own {w0 w : World} {B : List Own} (s : St w0 B w) (i : Nat) {b : Nat} {C : Array Value} {u : TypeId} (hi : B[i]? = some (.blk b (.cells C u))) : Has w ⟨b, 0, none⟩ C := Has.of_blk (s.get i hi)
theorem Tab.of_own {w0 w : World} {B : List Own} (s : St w0 B w) (i : Nat) {b : Nat} {C : Array Value} {u : TypeId} (hi : B[i]? = some (.blk b (.cells C u))) : Tab w b C := ⟨u, (0, 0), s.get i hi⟩
theorem run_load_at {P : Program} {t : TypeId} {n : Nat} (hr : Row P t n) (w : World) (p : Addr) (C : Array Value) (h : Has w p C) (hn : C.size = n) : (loadVar t p).run P w = .ok (.agg C) w := by
  obtain ⟨dsc, h1, h2⟩ := hr.desc
  have h3 : (isAgg t).run P w = .ok true w := by
    unfold isAgg; rw [Sem.run_bind, run_underlying h1 w]
    cases dsc <;> first | rfl | cases h2
  have h4 := run_loadCells_list (P := P) w p C.toList (fun j v hv => h j v (by simpa using hv))
  rw [Array.length_toList, hn] at h4
  simp [loadVar, Sem.run_bind, h3, run_sizeOf hr.size w, h4]
section
variable {P : Program} {ops : Array Oper} {Q : Act → World → Prop} {l : List Oper} {a : Act} {w w0 : World} {N : Nat} {L : List (Nat × Value)} {Df : List Deferred} {B : List Own} {d : Tmp} {ty : TypeId} {pos : String} {af : Array Edge} {x y : Operand} {t t' e : TypeId}
/-- a variable of several cells is read, wherever it lies -/
theorem s_load_at {n : Nat} {p : Addr} {C : Array Value} (hH : Has w p C) (h : Sl N a L Df) (hr : Row P t n) (hx : evo L x = some (.pointer (some p))) (hn : C.size = n) (hd : Nat.blt d N = true)
    (k : ∀ a', Sl N a' ((d, .agg C) :: L) Df → Lst P ops Q l a' w) : Lst P ops Q (⟨some d, .load t x, ty, pos, af, none⟩ :: l) a w :=
  s_does (R := fun v w' => v = .agg C ∧ w' = w) h (by
    unfold Does
    simp only [execOp, h.ev hx, Instr.loadAt, Instr.sureAddr, Sem.run_bind, Sem.run_pure, Result.andThen_ok, run_load_at hr w p C hH hn]
    first | exact ⟨rfl, rfl⟩ | exact ⟨trivial, rfl⟩ | exact ⟨trivial, trivial⟩ | trivial) hd fun a' w' v ⟨h1, h2⟩ hs => by subst h1; subst h2; exact k a' hs
theorem s_load_at1 {p : Addr} {V : Value} (hH : w.cell? p = some V) (h : Sl N a L Df) (ho : One P t) (hx : evo L x = some (.pointer (some p))) (hd : Nat.blt d N = true)
    (k : ∀ a', Sl N a' ((d, V) :: L) Df → Lst P ops Q l a' w) : Lst P ops Q (⟨some d, .load t x, ty, pos, af, none⟩ :: l) a w :=
  s_does (R := fun u w' => u = V ∧ w' = w) h (does_load_one ho (h.ev hx) hH ⟨rfl, rfl⟩) hd fun a' w' u ⟨h1, h2⟩ hs => by subst h1; subst h2; exact k a' hs
end
theorem Has.at {w : World} {p : Addr} {C : Array Value} (h : Has w p C) {j : Nat} {v : Value} (hv : C[j]? = some v) : w.cell? (p.add j) = some v := h j v hv
/-! ### slices whose elements have several cells -/
def RdZ (w : World) (v : Value) (sz n : Nat) (xs : List Value) : Prop :=
  xs.length = n * sz ∧ ((v = .slice none 0 0 ∧ n = 0) ∨ ∃ p c, v = .slice (some p) n c ∧ n ≤ c ∧ Has w p xs.toArray)
theorem RdZ.keep {w0 w : World} {v : Value} {sz n : Nat} {xs : List Value} (h : RdZ w0 v sz n xs) (e : Ext w0 w) : RdZ w v sz n xs :=
  ⟨h.1, h.2.imp id fun ⟨p, c, hv, hnc, hc⟩ => ⟨p, c, hv, hnc, hc.ext e⟩⟩
theorem RdZ.mono {sz n : Nat} {xs : List Value} : Mono (fun v w => RdZ w v sz n xs) := fun _ _ _ h e => h.keep e
theorem RdZ.of_own {w : World} {base : Nat} {e : TypeId} {v : Value} {sz n : Nat} {xs : List Value} (h : Owns w base e sz v n xs) : RdZ w v sz n xs := by
  refine ⟨h.1, ?_⟩
  rcases h.2 with ⟨h1, h2⟩ | ⟨g, cap, cur, fz, h1, _, _, _, h2, _⟩
  · exact .inl ⟨h1, h2⟩
  · subst h1
    exact .inr ⟨⟨g, 0, none⟩, cap, rfl, h2, fun j x hx => h.cells (g := g) rfl j x (by simpa using hx)⟩
theorem RdZ.len {w : World} {v : Value} {sz n : Nat} {xs : List Value} (h : RdZ w v sz n xs) : ∃ a c, v = .slice a n c := by
  rcases h.2 with ⟨h1, h2⟩ | ⟨p, c, h1, _, _⟩
  · exact ⟨none, 0, by rw [h1, h2]⟩
  · exact ⟨some p, c, h1⟩
theorem RdZ.cut {w : World} {v : Value} {sz n : Nat} {xs : List Value} (h : RdZ w v sz n xs) (k : Nat) (hk : k ≤ n) : RdZ w (cutV v k) sz k (xs.take (k * sz)) := by
  refine ⟨by rw [List.length_take, h.1]; exact Nat.min_eq_left (Nat.mul_le_mul_right _ hk), ?_⟩
  rcases h.2 with ⟨h1, h2⟩ | ⟨p, c, h1, h3, h2⟩
  · left; subst h1; obtain rfl : k = 0 := by omega
    exact ⟨rfl, rfl⟩
  · right; subst h1
    refine ⟨p, c, rfl, by omega, fun j x hx => h2 j x ?_⟩
    simp only [List.getElem?_toArray] at hx ⊢
    rw [List.getElem?_take] at hx
    split at hx
    · exact hx
    · cases hx
/-- a slice from its element k on -/
def dropV (v : Value) (sz k : Nat) : Value := match v with | .slice a n c => .slice (if c = k then a else a.map (·.add (k * sz))) (n - k) (c - k) | v => v
theorem RdZ.drop {w : World} {v : Value} {sz n : Nat} {xs : List Value} (h : RdZ w v sz n xs) (k : Nat) (hk : k ≤ n) : RdZ w (dropV v sz k) sz (n - k) (xs.drop (k * sz)) := by
  refine ⟨by rw [List.length_drop, h.1, Nat.sub_mul], ?_⟩
  rcases h.2 with ⟨h1, h2⟩ | ⟨p, c, h1, h3, h2⟩
  · left; subst h1; subst h2; obtain rfl : k = 0 := by omega
    exact ⟨rfl, rfl⟩
  · right; subst h1
    by_cases hc : c = k
    · subst hc
      have : n = c := by omega
      subst this
      refine ⟨p, 0, by simp [dropV], by omega, fun j x hx => ?_⟩
      simp only [List.getElem?_toArray] at hx
      have := (List.getElem?_eq_some_iff.1 hx).1
      rw [List.length_drop, h.1] at this
      omega
    · refine ⟨p.add (k * sz), c - k, by simp [dropV, hc], by omega, fun j x hx => ?_⟩
      rw [add_add]
      refine h2 _ x ?_
      simpa [List.getElem?_drop] using hx
/-- an element -/
theorem RdZ.el {w : World} {v : Value} {sz n : Nat} {xs : List Value} (h : RdZ w v sz n xs) (j : Nat) (hj : j < n) (hz : 0 < sz) {D : Array Value} (hD : ((xs.drop (j * sz)).take sz).toArray = D) : Has w (elAddr v (j * sz)) D := by
  rcases h.2 with ⟨h1, h2⟩ | ⟨p, c, h1, h3, h2⟩
  · omega
  · subst h1; subst hD
    intro i x hx
    show w.cell? ((p.add (j * sz)).add i) = some x
    rw [add_add]
    refine h2 _ x ?_
    simp only [List.getElem?_toArray] at hx ⊢
    rw [List.getElem?_take] at hx
    split at hx
    · rw [List.getElem?_drop] at hx; exact hx
    · cases hx
theorem RdZ.el1 {w : World} {v : Value} {n : Nat} {xs : List Value} (h : RdZ w v 1 n xs) (j : Nat) {V : Value} (hV : xs[j]? = some V) : w.cell? (elAddr v (j * 1)) = some V := by
  have hj : j < n := by have := (List.getElem?_eq_some_iff.1 hV).1; rw [h.1] at this; omega
  have hl := (List.getElem?_eq_some_iff.1 hV).1
  have h9 := h.el j hj (by decide) (D := #[V]) (by
    rw [Nat.mul_one, List.drop_eq_getElem_cons hl, List.take_succ_cons, List.take_zero]
    have := (List.getElem?_eq_some_iff.1 hV).2
    rw [this]) 0 V rfl
  have e : (elAddr v (j * 1)).add 0 = elAddr v (j * 1) := by simp [Addr.add]
  rwa [e] at h9
section
variable {P : Program} {ρ : Operand → Value} {d : Option Tmp} {ty : TypeId} {pos : String} {af : Array Edge} {g : Option (Nat × Bool)} {x y z : Operand} {t t' e : TypeId} {k : IntKind} {m m2 : Int}
theorem ru_ixz {w0 : World} {v : Value} {sz n : Nat} {xs : List Value} (hR : RdZ w0 v sz n xs) (j : Nat) (ht : P.underlying t = some (.slice e)) (he : (P.info? e).map (·.size) = some sz) (hx : ρ x = v) (hy : ρ y = .int k m) (hj : m = (j : Int)) (hlt : j < n) :
    RunsTo P ⟨d, .indexAddr t x y, ty, pos, af, g⟩ ρ (.pointer (some (elAddr v (j * sz)))) := fun w => by
  subst hj
  rcases hR.2 with ⟨h1, h2⟩ | ⟨p, c, h1, h3, _⟩
  · omega
  · subst h1
    simp [execOp, hx, hy, Instr.indexAt, asIntOf, Sem.run_bind, run_underlying ht, hlt, run_sizeOf he, elAddr]
theorem ru_lenZ {w0 : World} {v : Value} {sz n : Nat} {xs : List Value} (hR : RdZ w0 v sz n xs) (ht : P.underlying t = some (.slice e)) (hx : ρ x = v) : RunsTo P ⟨d, .call { callee := .builtin .len, args := #[x], argTypes := #[t] }, ty, pos, af, g⟩ ρ (.int .i64 (n : Int)) := fun w => by
  obtain ⟨a, c, rfl⟩ := hR.len
  simp [execOp, resolve, hx, invoke, builtin, Builtin.len_, Sem.run_bind, run_underlying ht, goInt]
theorem ru_slice_hiZ {w0 : World} {v : Value} {sz n : Nat} {xs : List Value} (hR : RdZ w0 v sz n xs) (j : Nat) (ht : P.underlying t = some (.slice e)) (he : (P.info? e).map (·.size) = some sz) (hx : ρ x = v) (hy : ρ y = .int k m) (hj : m = (j : Int)) (hle : j ≤ n) : RunsTo P ⟨d, .slice t x none (some y) none, ty, pos, af, g⟩ ρ (cutV v j) := fun w => by
  subst hj
  rcases hR.2 with ⟨h1, h2⟩ | ⟨p, c, h1, h3, _⟩
  · subst h1; obtain rfl : j = 0 := by omega
    simp [execOp, hx, hy, Instr.sliceAt, Sem.run_bind, run_underlying ht, Instr.slice, Instr.sliceBounds, Instr.sliceBound, asIntOf, run_sizeOf he, cutV]
  · subst h1
    have h4 : j ≤ c := by omega
    have ha : p.add 0 = p := by simp [Addr.add]
    simp [execOp, hx, hy, Instr.sliceAt, Sem.run_bind, run_underlying ht, Instr.slice, Instr.sliceBounds, Instr.sliceBound, asIntOf, run_sizeOf he, h4, cutV, ha]
theorem ru_slice_loZ {w0 : World} {v : Value} {sz n : Nat} {xs : List Value} (hR : RdZ w0 v sz n xs) (j : Nat) (ht : P.underlying t = some (.slice e)) (he : (P.info? e).map (·.size) = some sz) (hx : ρ x = v) (hy : ρ y = .int k m) (hj : m = (j : Int)) (hle : j ≤ n) : RunsTo P ⟨d, .slice t x (some y) none none, ty, pos, af, g⟩ ρ (dropV v sz j) := fun w => by
  subst hj
  rcases hR.2 with ⟨h1, h2⟩ | ⟨p, c, h1, h3, _⟩
  · subst h1; subst h2; obtain rfl : j = 0 := by omega
    simp [execOp, hx, hy, Instr.sliceAt, Sem.run_bind, run_underlying ht, Instr.slice, Instr.sliceBounds, Instr.sliceBound, asIntOf, run_sizeOf he, dropV]
  · subst h1
    simp [execOp, hx, hy, Instr.sliceAt, Sem.run_bind, run_underlying ht, Instr.slice, Instr.sliceBounds, Instr.sliceBound, asIntOf, run_sizeOf he, hle, dropV]
/-- a field's address -/
structure Fld (P : Program) (t : TypeId) (f off : Nat) : Prop where
  has : ∃ fields fd s, P.underlying t = some (.struct fields) ∧ fields[f]? = some fd ∧ (P.info? fd.type).map (·.size) = some (s + 1) ∧ fd.offset = off
theorem ru_field {f off b o : Nat} (F : Fld P t f off) (hx : ρ x = .pointer (some ⟨b, o, none⟩)) : RunsTo P ⟨d, .fieldAddr t x f, ty, pos, af, g⟩ ρ (.pointer (some ⟨b, o + off, none⟩)) := fun w => by
  obtain ⟨fields, fd, i, h1, h2, h3, h5⟩ := F.has
  simp [execOp, hx, Instr.fieldAt, fieldPlace, Sem.run_bind, run_underlying h1, h2, Instr.sureAddr, run_sizeOf h3, h5, Addr.add_lit]
theorem ru_fieldE {f off : Nat} {v : Value} {j : Nat} (F : Fld P t f off) (hx : ρ x = .pointer (some (elAddr v j))) (hv : ∃ p n c, v = .slice (some p) n c) : RunsTo P ⟨d, .fieldAddr t x f, ty, pos, af, g⟩ ρ (.pointer (some (elAddr v (j + off)))) := fun w => by
  obtain ⟨fields, fd, i, h1, h2, h3, h5⟩ := F.has
  obtain ⟨p, n, c, rfl⟩ := hv
  simp [execOp, hx, Instr.fieldAt, fieldPlace, Sem.run_bind, run_underlying h1, h2, Instr.sureAddr, run_sizeOf h3, h5, elAddr, add_add]
theorem ru_nilCheck {p : Addr} (hx : ρ x = .pointer (some p)) : RunsTo P ⟨d, .nilCheck x, ty, pos, af, g⟩ ρ (.pointer (some p)) := fun w => by
  simp [execOp, hx]
theorem ru_slice_arr_hi {b len : Nat} (j : Nat) (ht : P.underlying t = some (.array len e)) (he : (P.info? e).map (·.size) = some 1) (hx : ρ x = .pointer (some ⟨b, 0, none⟩)) (hy : ρ y = .int k m) (hj : m = (j : Int)) (hle : j ≤ len) :
    RunsTo P ⟨d, .slice t x none (some y) none, ty, pos, af, g⟩ ρ (.slice (some ⟨b, 0, none⟩) j len) := fun w => by
  subst hj
  have ha : (⟨b, 0, none⟩ : Addr).add 0 = ⟨b, 0, none⟩ := by simp [Addr.add]
  simp [execOp, hx, hy, Instr.sliceAt, Instr.sliceBounds, Instr.sliceBound, asIntOf, Sem.run_bind, run_underlying ht, Instr.sureAddr, run_sizeOf he, hle, ha]
end
end Go.Proofs.Ytdehanjhphfanaa

namespace Go.Proofs.Ytdehanjhphfanaa
open Go.RowKit
/-! ### structs that are built of parts -/
/-- the cells, when part i is laid -/
def layAt (zs : List (List Value)) : List (Nat × Value) → List (List Value)
  | [] => zs
  | (i, v) :: r => layAt (zs.set i v.cells.toList) r
theorem flatten_set {α : Type} : ∀ (zs : List (List α)) (i : Nat) (v z : List α), zs[i]? = some z → v.length = z.length →
    (zs.set i v).flatten = zs.flatten.take ((zs.take i).flatten.length) ++ v ++ zs.flatten.drop ((zs.take i).flatten.length + v.length)
  | [], i, v, z, h, _ => by simp at h
  | y :: zs, 0, v, z, h, hl => by
    simp at h; subst h
    simp [List.drop_append, hl]
  | y :: zs, i + 1, v, z, h, hl => by
    have ih := flatten_set zs i v z (by simpa using h) hl
    rw [List.set_cons_succ, List.flatten_cons, ih, List.take_succ_cons, List.flatten_cons, List.flatten_cons, List.length_append, List.take_length_add_append, Nat.add_assoc, List.drop_length_add_append]
    simp only [List.append_assoc]
theorem fill_lay (place : Nat → Option (Nat × Nat)) : ∀ (parts : List (Nat × Value)) (zs : List (List Value)) (cells : Array Value), cells.toList = zs.flatten →
    (∀ i v, (i, v) ∈ parts → ∃ z, zs[i]? = some z ∧ v.cells.size = z.length ∧ place i = some ((zs.take i).flatten.length, z.length)) →
    ∃ D : Array Value, Instr.fill place cells parts = some D ∧ D.toList = (layAt zs parts).flatten
  | [], zs, cells, h, _ => ⟨cells, rfl, h⟩
  | (i, v) :: r, zs, cells, h, hp => by
    obtain ⟨z, hz, hv, hpl⟩ := hp i v List.mem_cons_self
    have hil := (List.getElem?_eq_some_iff.1 hz).1
    have hvl : v.cells.toList.length = z.length := by rw [Array.length_toList]; exact hv
    have hsum : (zs.take i).flatten.length + z.length ≤ zs.flatten.length := by
      have e : zs = zs.take i ++ z :: zs.drop (i + 1) := by
        have := (List.getElem?_eq_some_iff.1 hz).2
        rw [← this, List.getElem_cons_drop, List.take_append_drop]
      have := congrArg (fun l => (List.flatten l).length) e
      simp only [List.flatten_append, List.flatten_cons, List.length_append] at this
      omega
    have hcs : cells.size = zs.flatten.length := by rw [← h, Array.length_toList]
    have hf := foldl_sets (zs.take i).flatten.length v.cells.toList 0 cells (by rw [hvl]; omega)
    generalize hD : (v.cells.toList.zipIdx).foldl (fun cs p => cs.setIfInBounds ((zs.take i).flatten.length + p.2) p.1) cells = C1 at hf
    have hC1 : C1.toList = (zs.set i v.cells.toList).flatten := by
      rw [hf, flatten_set zs i _ z hz hvl, h]; simp
    have hset : ∀ j, ((zs.set i v.cells.toList).take j).flatten.length = (zs.take j).flatten.length := fun j => by
      rw [List.length_flatten, List.length_flatten]
      congr 1
      apply List.ext_getElem?
      intro q
      rw [List.getElem?_map, List.getElem?_map, List.getElem?_take, List.getElem?_take]
      split
      · by_cases e : i = q
        · subst e; rw [List.getElem?_set_self hil, hz]; simp [hvl]
        · rw [List.getElem?_set_ne e]
      · rfl
    obtain ⟨D, h1, h2⟩ := fill_lay place r (zs.set i v.cells.toList) C1 hC1 fun j u hm => by
      obtain ⟨z2, hz2, hu, hpl2⟩ := hp j u (List.mem_cons_of_mem _ hm)
      by_cases e : i = j
      · subst e
        rw [hz] at hz2; cases hz2
        exact ⟨v.cells.toList, by rw [List.getElem?_set_self hil], by rw [hvl]; exact hu, by rw [hset, hvl]; exact hpl2⟩
      · exact ⟨z2, by rw [List.getElem?_set_ne e]; exact hz2, hu, by rw [hset]; exact hpl2⟩
    refine ⟨D, ?_, h2⟩
    rw [Instr.fill, hpl]
    simp only
    have hc : ¬ ((v.cells.size ≠ z.length || decide ((zs.take i).flatten.length + v.cells.size > cells.size)) = true) := by
      rw [hv]
      simp only [ne_eq, not_true_eq_false, decide_false, Bool.false_or, decide_eq_true_eq]
      omega
    rw [if_neg hc]
    have hz9 : v.cells.zipIdx.foldl (fun cs (x : Value × Nat) => match x with | (c, j) => cs.setIfInBounds ((zs.take i).flatten.length + j) c) cells = C1 := by
      rw [← hD, ← Array.foldl_toList, Array.toList_zipIdx]
    rw [hz9]
    exact h1
/-- a struct's type: the zero parts of its fields -/
structure Stt (P : Program) (t : TypeId) (zs : List (List Value)) : Prop where
  fields : ∃ fs, P.underlying t = some (.struct fs) ∧ fs.toList.length = zs.length ∧ ∀ i f, fs[i]? = some f → ∃ z, zs[i]? = some z ∧ (P.info? f.type).map (·.size) = some z.length ∧ f.offset = (zs.take i).flatten.length
  zero : (P.info? t).bind (·.zero) = some (.agg zs.flatten.toArray)
theorem run_places {P : Program} (w : World) : ∀ (fs : List Field) (ss : List Nat), fs.length = ss.length → (∀ (i : Nat) (f : Field) (s : Nat), fs[i]? = some f → ss[i]? = some s → (P.info? f.type).map (·.size) = some s) →
    (fs.mapM fun (f : Field) => (do pure (f.offset, ← sizeOf f.type) : Sem (Nat × Nat))).run P w = .ok ((fs.zip ss).map fun (p : Field × Nat) => (p.1.offset, p.2)) w
  | [], [], _, _ => by simp
  | [], _ :: _, h, _ => by simp at h
  | _ :: _, [], h, _ => by simp at h
  | f :: fs, s :: ss, h, hs => by
    have ih := run_places (P := P) w fs ss (by simpa using h) fun i f' s' h1 h2 => hs (i + 1) f' s' (by simpa using h1) (by simpa using h2)
    have h0 := run_sizeOf (hs 0 f s rfl rfl) w
    simp only [List.mapM_cons, Sem.run_bind, h0, Result.andThen_ok, Sem.run_pure, ih, List.zip_cons_cons, List.map_cons]
section
variable {P : Program} {ρ : Operand → Value} {d : Option Tmp} {ty : TypeId} {pos : String} {af : Array Edge} {g : Option (Nat × Bool)} {t : TypeId}
theorem ru_build_st {zs : List (List Value)} {parts : Array (Nat × Operand)} (S : Stt P t zs) (ps : List (Nat × Value)) (hps : parts.toList.map (fun p => (p.1, ρ p.2)) = ps) (hok : ∀ i v, (i, v) ∈ ps → ∃ z, zs[i]? = some z ∧ v.cells.size = z.length) {D : List Value} (hD : (layAt zs ps).flatten = D) :
    RunsTo P ⟨d, .build t parts, ty, pos, af, g⟩ ρ (.agg D.toArray) := fun w => by
  obtain ⟨fs, h1, h2, h3⟩ := S.fields
  cases hi : P.info? t with
  | none => have := S.zero; simp [hi] at this
  | some i =>
    have hz : i.zero = some (.agg zs.flatten.toArray) := by have := S.zero; simpa [hi] using this
    have hpl : (fs.mapM fun (f : Field) => (do pure (f.offset, ← sizeOf f.type) : Sem (Nat × Nat))).run P w = .ok ((fs.toList.zip (zs.map List.length)).map fun (p : Field × Nat) => (p.1.offset, p.2)).toArray w := by
      have := run_places (P := P) w fs.toList (zs.map List.length) (by rw [h2, List.length_map]) fun i f s hf hs => by
        obtain ⟨z, hz1, hz2, _⟩ := h3 i f (by simpa using hf)
        rw [List.getElem?_map, hz1] at hs
        simp at hs; subst hs; exact hz2
      rw [Array.mapM_eq_mapM_toList]
      show Sem.run P ((List.mapM (fun (f : Field) => (do pure (f.offset, ← sizeOf f.type) : Sem (Nat × Nat))) fs.toList) >>= fun l => pure l.toArray) w = _
      rw [Sem.run_bind, this, Result.andThen_ok, Sem.run_pure]
    obtain ⟨C, hC1, hC2⟩ := fill_lay (fun i => (((fs.toList.zip (zs.map List.length)).map fun (p : Field × Nat) => (p.1.offset, p.2)).toArray)[i]?) ps zs zs.flatten.toArray rfl fun i v hm => by
      obtain ⟨z, hz1, hz2⟩ := hok i v hm
      have hil : i < fs.toList.length := by rw [h2]; exact (List.getElem?_eq_some_iff.1 hz1).1
      have hfi : fs[i]? = some fs.toList[i] := by rw [← Array.getElem?_toList, List.getElem?_eq_getElem hil]
      obtain ⟨z', hz1', _, hoff⟩ := h3 i _ hfi
      rw [hz1] at hz1'; cases hz1'
      refine ⟨z, hz1, hz2, ?_⟩
      simp only [List.getElem?_toArray, List.getElem?_map, List.getElem?_zip_eq_some]
      have : (fs.toList.zip (zs.map List.length))[i]? = some (fs.toList[i], z.length) := by
        rw [List.getElem?_zip_eq_some]
        exact ⟨List.getElem?_eq_getElem hil, by rw [List.getElem?_map, hz1]; rfl⟩
      rw [this, Option.map_some]
      show some (fs.toList[i].offset, z.length) = _
      rw [hoff]
    have hDC : C = D.toArray := by
      apply Array.ext'
      rw [hC2, hD]
    have hmap : (parts.map fun (i, x) => (i, ρ x)).toList = ps := by rw [Array.toList_map]; exact hps
    have hrun : (Instr.build t (parts.map fun (i, x) => (i, ρ x))).run P w = .ok (.agg D.toArray) w := by
      unfold Instr.build
      simp only [zeroValue, typeInfo, Sem.run_bind, run_program, hi, hz, Sem.run_pure, Result.andThen_ok, run_underlying h1 w, hpl, hmap, Value.cells]
      rw [hC1, hDC]
      rfl
    simp only [execOp, Sem.run_bind, hrun, Result.andThen_ok, Sem.run_pure]
end
/-! ### texts of pieces; calls of functions that are values; appends of what lies elsewhere -/
theorem bytesF_extract (f : Nat → Nat) (M o n : Nat) (h : o + n ≤ M) : (bytesF f M).extract o (o + n) = bytesF (fun i => f (o + i)) n := by
  apply Array.ext_getElem?
  intro i
  by_cases hi : i < n
  · rw [bytesF_get _ _ _ hi, Array.getElem?_extract, if_pos (by simp; omega), bytesF_get _ _ _ (by omega)]
  · rw [Array.getElem?_eq_none (by simp; omega), Array.getElem?_eq_none (by simp; omega)]
theorem Has.bytes {w : World} {b : Nat} {f : Nat → Nat} {M : Nat} (h : Has w ⟨b, 0, none⟩ (bytesF f M)) (o n : Nat) (hn : o + n ≤ M) : Has w ⟨b, o, none⟩ (bytesF (fun i => f (o + i)) n) := by
  have := h.sub o n (bytesF_extract f M o n hn)
  rwa [Addr.add_lit, Nat.zero_add] at this
theorem does_callV {P : Program} {ρ : Operand → Value} {dst : Option Tmp} {g : Option (Nat × Bool)} {ty : TypeId} {pos : String} {af : Array Edge} {f : FuncId} {caps : Array Value} {cal : Operand} {args : Array Operand} {tys : Array TypeId} {vs : Array Value} {w : World} (hf : Fnc P f)
    (hc : ρ cal = .func (.func f) #[] caps) (hvs : args.map ρ = vs) {R : Value → World → Prop} (hC : Calls P f (vs ++ caps) w fun e w' => ∃ v, e = .returned v ∧ R v w') : Does P ⟨dst, .call { callee := .value cal, args := args, argTypes := tys }, ty, pos, af, g⟩ ρ w R := by
  obtain ⟨fn, h1, h2, h3⟩ := hf.has
  unfold Does
  simp only [execOp, resolve, hc, hvs, Deferred.ofValue, Sem.run_bind, Sem.run_pure, Result.andThen_ok, invoke, Array.empty_append, run_callFunc h1 h2 h3]
  exact hC
section
variable {P : Program} {ops : Array Oper} {Q : Act → World → Prop} {l : List Oper} {a : Act} {w w0 : World} {N : Nat} {L : List (Nat × Value)} {Df : List Deferred} {B : List Own} {d : Tmp} {ty : TypeId} {pos : String} {af : Array Edge} {x y : Operand} {t t' e : TypeId}
/-- a call of a function that is a value; its contract over any world -/
theorem s_callV {f : FuncId} {caps : List Value} {cal : Operand} {args : Array Operand} {tys : Array TypeId} (vs : List Value) {T : Asrt} (h : Sl N a L Df) (s : St w0 B w) (hf : Fnc P f) (hc : evo L cal = some (.func (.func f) #[] caps.toArray)) (hC : Calls P f (vs ++ caps).toArray w (Ret w T)) (hvs : args.toList.map (evo L) = vs.map some)
    (hd : Nat.blt d N = true) (k : ∀ a' w' v, T v w' → Ext w w' → Sl N a' ((d, v) :: L) Df → St w0 B w' → Lst P ops Q l a' w') :
    Lst P ops Q (⟨some d, .call { callee := .value cal, args := args, argTypes := tys }, ty, pos, af, none⟩ :: l) a w :=
  s_does (R := fun v w' => T v w' ∧ Ext w w') h (does_callV hf (h.ev hc) (evsA h hvs) (by rw [show vs.toArray ++ caps.toArray = (vs ++ caps).toArray from by simp]; exact hC)) hd fun a' w' v ⟨h1, h2⟩ hs => k a' w' v h1 h2 hs (s.more h2)
theorem run_append_none {P : Program} {w : World} {t ty e : TypeId} {sz : Nat} (ht : P.underlying t = some (.slice e)) (he : (P.info? e).map (·.size) = some sz) {base : Nat} {v : Value} {n : Nat} {xs : List Value} (hown : Owns w base e sz v n xs)
    {u : Option Addr} {c : Nat} : (Builtin.append_ #[t, t] ty #[v, .slice u 0 c]).run P w = .ok v w := by
  rcases hown.2 with ⟨rfl, rfl⟩ | ⟨g, cap, cur, fz, rfl, _, _, _, hnc, _⟩
  · cases u <;> simp [Builtin.append_, run_underlying ht, run_sizeOf he, Sem.run_bind, Builtin.lenOf, Builtin.firstCells, loadCells, loadCellsFrom]
  · cases u <;> simp [Builtin.append_, run_underlying ht, run_sizeOf he, Sem.run_bind, Builtin.lenOf, Builtin.firstCells, hnc, loadCells, loadCellsFrom, storeCells]
theorem Elm.size {P : Program} {e : TypeId} {sz by_ : Nat} (E : Elm P e sz by_) : (P.info? e).map (·.size) = some sz := by
  obtain ⟨i, z, h1, _, h2, _⟩ := E.info
  rw [h1]; simp [h2]
/-- what append makes of an own slice and of a slice that can be read -/
theorem run_append_rd {P : Program} {w w0 : World} {t ty e : TypeId} {sz by_ : Nat} (ht : P.underlying t = some (.slice e)) (E : Elm P e sz by_) {v : Value} {n : Nat} {xs : List Value} (hown : Owns w w0.heap.size e sz v n xs)
    {u : Value} {m : Nat} {ys : List Value} (hR : RdZ w u sz m ys) (h1 : ∀ u ∈ ys, u.oneCell' = true) (h63 : n + m ≤ maxLen) (hbytes : (n + m) * by_ ≤ 140737488355328) (hbase : w0.heap.size ≤ w.heap.size) :
    ∃ v' w', (Builtin.append_ #[t, t] ty #[v, u]).run P w = .ok v' w' ∧ Owns w' w0.heap.size e sz v' (n + m) (xs ++ ys) ∧ Grw w w' v.ownBlock ∧ (v'.ownBlock = v.ownBlock ∨ v'.ownBlock = some w.heap.size) := by
  by_cases hm : m = 0
  · subst hm
    have hy : ys = [] := List.eq_nil_of_length_eq_zero (by have := hR.1; omega)
    subst hy
    obtain ⟨a, c, rfl⟩ := hR.len
    refine ⟨v, w, run_append_none ht E.size hown, by simpa using hown, ⟨⟨rfl, rfl, rfl, Nat.le_refl _, fun k _ _ => rfl⟩, Nat.le_refl _⟩, .inl rfl⟩
  · rcases hR.2 with ⟨_, h0⟩ | ⟨p, c, rfl, _, hH⟩
    · exact absurd h0 hm
    · exact run_append_st ht E hown hR.1 (fun j u hj => hH j u (by simpa using hj)) h1 (by omega) h63 hbytes hbase
theorem s_append_rd {v u : Value} {sz by_ n m : Nat} {xs ys : List Value} (i : Nat) (hR : RdZ w u sz m ys) (h : Sl N a L Df) (s : St w0 B w) (ht : P.underlying t = some (.slice e)) (E : Elm P e sz by_) (hx : evo L x = some v) (hy : evo L y = some u)
    (hi : B[i]? = some (.sl v e sz n xs)) (h1 : ∀ u ∈ ys, u.oneCell' = true) (h63 : n + m ≤ maxLen) (hbytes : (n + m) * by_ ≤ 140737488355328) (hd : Nat.blt d N = true)
    (k : ∀ a' w' v', Sl N a' ((d, v') :: L) Df → St w0 (B.set i (.sl v' e sz (n + m) (xs ++ ys))) w' → Lst P ops Q l a' w') :
    Lst P ops Q (⟨some d, .call { callee := .builtin .append, args := #[x, y], argTypes := #[t, t] }, ty, pos, af, none⟩ :: l) a w := by
  obtain ⟨v', w', hr, h2, h3, h4⟩ := run_append_rd (ty := ty) ht E (s.getSl i hi) hR h1 h63 hbytes s.ext.le
  refine s_does (R := fun u w'' => u = v' ∧ w'' = w') h (by
    unfold Does
    simp only [execOp, resolve, invoke, builtin, Sem.run_bind, Sem.run_pure, Result.andThen_ok, List.map_toArray, List.map_cons, List.map_nil, h.ev hx, h.ev hy, hr]
    first | exact ⟨rfl, rfl⟩ | exact ⟨trivial, rfl⟩ | exact ⟨trivial, trivial⟩ | trivial) hd fun a' w'' u ⟨e1, e2⟩ hs => ?_
  subst e1; subst e2
  refine k _ _ _ hs (s.upd i hi h3.os h3.tape h3.output h3.size h2 (fun k hk => ?_) (fun k hk hne => ?_) h3.drawn)
  · rcases h4 with h4 | h4
    · exact .inl (Own.at_sl.2 (by rw [← Own.at_sl.1 hk]; exact h4.symm))
    · right
      have : u.ownBlock = some k := Own.at_sl.1 hk
      rw [h4] at this; cases this; exact Nat.le_refl _
  · exact h3.block k hk fun e => hne (Own.at_sl.2 e.symm)
/-- an empty slice that has no room -/
def Emp (base : Nat) (e : TypeId) : Asrt := fun v w => ∃ b, v = .slice (some ⟨b, 0, none⟩) 0 0 ∧ base ≤ b ∧ w.heap[b]? = some (.cells #[] e (0, 0))
theorem Emp.mono (base : Nat) (e : TypeId) : Mono (Emp base e) := fun v w w' ⟨b, h1, h2, h3⟩ hE => ⟨b, h1, h2, (hE.heap (Array.getElem?_eq_some_iff.1 h3).1).trans h3⟩
theorem ownsM (base : Nat) (e : TypeId) (sz n : Nat) (xs : List Value) : Mono (fun v w => Owns w base e sz v n xs) := fun v w w' h hE => by
  refine ⟨h.1, ?_⟩
  rcases h.2 with hv | ⟨g, cap, cur, fz, hv, hb, hg, r⟩
  · exact .inl hv
  · exact .inr ⟨g, cap, cur, fz, hv, hb, (hE.heap (Array.getElem?_eq_some_iff.1 hg).1).trans hg, r⟩
end
/-! ### what a callee made is the caller's own -/
theorem St.sl_new {w0 w w' : World} {B : List Own} (s : St w0 B w) (hE : Ext w w') {v : Value} {e : TypeId} {sz n : Nat} {xs : List Value} (h : Owns w' w.heap.size e sz v n xs) : St w0 (.sl v e sz n xs :: B) w' := by
  refine s.join1 hE _ ⟨h.1, ?_⟩ fun k hk => ?_
  · rcases h.2 with hv | ⟨g, cap, cur, fz, hv, hb, r⟩
    · exact .inl hv
    · exact .inr ⟨g, cap, cur, fz, hv, Nat.le_trans s.ext.le hb, r⟩
  · rw [Own.at_sl] at hk
    rcases h.2 with ⟨hv, _⟩ | ⟨g, cap, cur, fz, hv, hb, r⟩
    · subst hv; simp [Value.ownBlock] at hk
    · subst hv; simp [Value.ownBlock] at hk; omega
theorem Owns.base {w : World} {b1 b2 : Nat} {e : TypeId} {sz n : Nat} {v : Value} {xs : List Value} (h : Owns w b1 e sz v n xs) (hb : b2 ≤ b1) : Owns w b2 e sz v n xs := by
  refine ⟨h.1, h.2.imp id fun ⟨g, cap, cur, fz, hv, hb', r⟩ => ⟨g, cap, cur, fz, hv, Nat.le_trans hb hb', r⟩⟩
end Go.Proofs.Ytdehanjhphfanaa

namespace Go.Proofs.Ytdehanjhphfanaa
open Go.RowKit
/-! ### rows of links: those that come back -/
section
variable {α : Type}
abbrev StepR (E : List (α × α)) (a b : α) : Prop := (a, b) ∈ E
def Cyc (E : List (α × α)) : Prop := ∃ k, Relation.TransGen (StepR E) k k
theorem tg_sub {E F : List (α × α)} (h : ∀ s ∈ E, s ∈ F) {a b : α} (t : Relation.TransGen (StepR E) a b) : Relation.TransGen (StepR F) a b := by
  induction t with
  | single h1 => exact .single (h _ h1)
  | tail _ h1 ih => exact .tail ih (h _ h1)
theorem Cyc.sub {E F : List (α × α)} (h : ∀ s ∈ E, s ∈ F) (c : Cyc E) : Cyc F := by
  obtain ⟨k, hk⟩ := c
  exact ⟨k, tg_sub h hk⟩
variable [DecidableEq α]
/-- what is known behind i links of a round -/
structure BfsJ (E : List (α × α)) (now out : List α) (i : Nat) (o n : List α) : Prop where
  outJ : ∀ x, x ∈ o ↔ x ∈ out ∨ x ∈ n
  newJ : ∀ x ∈ n, x ∉ out ∧ ∃ l ∈ E, l.1 ∈ now ∧ l.2 = x
  doneJ : ∀ j (h : j < E.length), j < i → E[j].1 ∈ now → E[j].2 ∈ o
/-- what is known between rounds -/
structure BfsK (E : List (α × α)) (k : α) (now out : List α) : Prop where
  outK : ∀ x ∈ out, Relation.TransGen (StepR E) k x
  nowK : ∀ x ∈ now, x = k ∨ x ∈ out
  doneK : ∀ x, (x = k ∨ x ∈ out) → x ∉ now → ∀ y, (x, y) ∈ E → y ∈ out
end
end Go.Proofs.Ytdehanjhphfanaa

namespace Go.Proofs.Ytdehanjhphfanaa
open Go.RowKit
/-! ### keys: an identifier's first 16 bytes -/
abbrev Lnk := Id × Id
def lkF (l : Lnk) (i : Nat) : Nat := if i < 32 then byteAt l.1 i else byteAt l.2 (i - 32)
def lArr (l : Lnk) : Array Value := bytesF (lkF l) 64
theorem cat_bytes (f g : Nat → Nat) (m n : Nat) : (bytesF f m).toList ++ (bytesF g n).toList = (bytesF (fun i => if i < m then f i else g (i - m)) (m + n)).toList := by
  apply List.ext_getElem?
  intro i
  by_cases h : i < m
  · rw [List.getElem?_append_left (by simpa using h), Array.getElem?_toList, Array.getElem?_toList, bytesF_get _ _ _ h, bytesF_get _ _ _ (by omega), if_pos h]
  · rw [List.getElem?_append_right (by simp; omega)]
    simp only [Array.length_toList, bytesF_size]
    by_cases h2 : i < m + n
    · rw [Array.getElem?_toList, Array.getElem?_toList, bytesF_get _ _ _ (by omega), bytesF_get _ _ _ h2, if_neg h]
    · rw [Array.getElem?_toList, Array.getElem?_toList, Array.getElem?_eq_none (by simp; omega), Array.getElem?_eq_none (by simp; omega)]
theorem lArr_cat (x y : Id) : (idArr x).toList ++ (idArr y).toList = (lArr (x, y)).toList := by
  rw [idArr_bytes, idArr_bytes]; exact cat_bytes _ _ 32 32
theorem lArr_size (l : Lnk) : (lArr l).size = 64 := bytesF_size _ _
theorem lArr_ones (l : Lnk) : ∀ v ∈ (lArr l).toList, v.oneCell' = true := bytesF_ones _ _
def lCells (l : List Lnk) : List Value := l.flatMap fun s => (lArr s).toList
theorem cells_len {α : Type} (f : α → List Value) (sz : Nat) (hf : ∀ x, (f x).length = sz) : ∀ l : List α, (l.flatMap f).length = l.length * sz
  | [] => by simp
  | x :: l => by rw [List.flatMap_cons, List.length_append, cells_len f sz hf l, hf, List.length_cons, Nat.succ_mul]; omega
theorem cells_drop {α : Type} (f : α → List Value) (sz : Nat) (hf : ∀ x, (f x).length = sz) (k : Nat) : ∀ l : List α, (l.flatMap f).drop (k * sz) = (l.drop k).flatMap f := by
  induction k with
  | zero => intro l; simp
  | succ k ih =>
    intro l
    cases l with
    | nil => simp
    | cons x l =>
      rw [List.flatMap_cons, List.drop_succ_cons, ← ih l, Nat.succ_mul, Nat.add_comm, ← List.drop_drop]
      congr 1
      rw [← hf x, List.drop_left]
theorem cells_take {α : Type} (f : α → List Value) (sz : Nat) (hf : ∀ x, (f x).length = sz) (k : Nat) : ∀ l : List α, (l.flatMap f).take (k * sz) = (l.take k).flatMap f := by
  induction k with
  | zero => intro l; simp
  | succ k ih =>
    intro l
    cases l with
    | nil => simp
    | cons x l =>
      rw [List.flatMap_cons, List.take_succ_cons, List.flatMap_cons, ← ih l, Nat.succ_mul, Nat.add_comm, List.take_add]
      rw [← hf x, List.take_left, List.drop_left]
theorem cells_el {α : Type} (f : α → List Value) (sz : Nat) (hf : ∀ x, (f x).length = sz) (l : List α) (j : Nat) (hj : j < l.length) : ((l.flatMap f).drop (j * sz)).take sz = f l[j] := by
  rw [cells_drop f sz hf, List.drop_eq_getElem_cons hj, List.flatMap_cons, ← hf l[j], List.take_left]
theorem lCells_len (l : List Lnk) : (lCells l).length = l.length * 64 := cells_len _ 64 (fun x => by rw [Array.length_toList, lArr_size]) l
theorem lCells_app (l r : List Lnk) : lCells (l ++ r) = lCells l ++ lCells r := List.flatMap_append
/-! ### what may lead where -/
end Go.Proofs.Ytdehanjhphfanaa

namespace Go.Proofs.Ytdehanjhphfanaa
open Go.RowKit
/-! ### the reference's sum of bytes -/
def r1 (x : W32) : W32 := BitVec.ofNat 32 (x.toNat / 2 + x.toNat % 2 * 2147483648)
/-- rows of words -/
def wL (f : Nat → W32) (n : Nat) : List Value := (List.range n).map fun i => wv (f i)
@[simp] theorem wL_len (f : Nat → W32) (n : Nat) : (wL f n).length = n := by simp [wL]
end Go.Proofs.Ytdehanjhphfanaa

namespace Go.Proofs.Ytdehanjhphfanaa
open Go.RowKit
/-! ### the text with what comes behind it -/
end Go.Proofs.Ytdehanjhphfanaa

namespace Go.Proofs.Ytdehanjhphfanaa
open Go.RowKit
/-! ### what the generator wants besides -/
theorem Has.subL {w : World} {b o : Nat} {C : Array Value} (h : Has w ⟨b, o, none⟩ C) (off n : Nat) {D : Array Value} (hD : C.extract off (off + n) = D) : Has w ⟨b, o + off, none⟩ D := by
  have := h.sub off n hD
  rwa [Addr.add_lit] at this
theorem Has.as {w : World} {p : Addr} {C D : Array Value} (h : Has w p C) (e : C = D) : Has w p D := e ▸ h
section
variable {P : Program} {a : Act} {w w0 : World} {N : Nat} {L : List (Nat × Value)} {Df : List Deferred}
end
section
variable {P : Program} {ρ : Operand → Value} {d : Option Tmp} {ty : TypeId} {pos : String} {af : Array Edge} {g : Option (Nat × Bool)} {x y : Operand} {t t' : TypeId}
end
/-! ### what w_ wants -/
section
variable {P : Program} {ops : List Oper} {K : Act → World → Prop} {l : List Oper} {a : Act} {w w0 : World} {N : Nat} {L : List (Nat × Value)} {Df : List Deferred} {B : List Own} {d : Tmp} {op : Op} {ty : TypeId} {pos : String} {af : Array Edge} {x y : Operand} {t : TypeId}
theorem w_load_at {n : Nat} {p : Addr} {C : Array Value} (hH : Has w p C) (h : Sl N a L Df) (hr : Row P t n) (hx : evo L x = some (.pointer (some p))) (hn : C.size = n) (hd : Nat.blt d N = true)
    (k : ∀ a', Sl N a' ((d, .agg C) :: L) Df → Wlk P ops.toArray K w l a') : Wlk P ops.toArray K w (⟨some d, .load t x, ty, pos, af, none⟩ :: l) a :=
  w_does _ h (fun w' hE => by
    unfold Does
    simp only [execOp, h.ev hx, Instr.loadAt, Instr.sureAddr, Sem.run_bind, Sem.run_pure, Result.andThen_ok, run_load_at hr w' p C (hH.ext hE) hn]
    first | exact ⟨rfl, Ext.refl _⟩ | exact ⟨trivial, Ext.refl _⟩) hd k
theorem w_load_at1 {p : Addr} {V : Value} (hH : w.cell? p = some V) (h : Sl N a L Df) (ho : One P t) (hx : evo L x = some (.pointer (some p))) (hd : Nat.blt d N = true)
    (k : ∀ a', Sl N a' ((d, V) :: L) Df → Wlk P ops.toArray K w l a') : Wlk P ops.toArray K w (⟨some d, .load t x, ty, pos, af, none⟩ :: l) a :=
  w_does _ h (fun w' hE => does_load_one ho (h.ev hx) (by rw [hE.cell (cell_lt hH)]; exact hH) ⟨rfl, Ext.refl _⟩) hd k
end
end Go.Proofs.Ytdehanjhphfanaa
namespace Go.Proofs.Ytdehanjhphfanaa
theorem cell_of_has {w : World} {b o : Nat} {C : Array Value} (h : Has w ⟨b, o, none⟩ C) (off : Nat) {V : Value} (hV : C[off]? = some V) : w.cell? ⟨b, o + off, none⟩ = some V := by
  have := h off V hV
  rwa [Addr.add_lit] at this
theorem RdZ.some {w : World} {v : Value} {sz n : Nat} {xs : List Value} (h : RdZ w v sz n xs) (hn : 0 < n) : ∃ p m c, v = .slice (some p) m c := by
  rcases h.2 with ⟨_, h2⟩ | ⟨p, c, h1, _, _⟩
  · omega
  · exact ⟨p, n, c, h1⟩
/-- some of what is owned, in whatever order -/
theorem St.sel {w0 w : World} {B : List Own} (s : St w0 B w) (ix : List Nat) {B' : List Own} (hB : ix.filterMap (fun i => B[i]?) = B') (hn : ix.Nodup) : St w0 B' w := by
  subst hB
  have hmem : ∀ p ∈ ix.filterMap (fun i => B[i]?), p ∈ B := fun p hp => by
    obtain ⟨i, _, h⟩ := List.mem_filterMap.1 hp
    exact List.mem_of_getElem? h
  refine ⟨s.ext, fun p hp => s.has p (hmem p hp), fun p hp => s.own p (hmem p hp), ?_⟩
  rw [List.pairwise_filterMap]
  refine List.Pairwise.imp ?_ hn
  intro i j hij p hp q hq k hk hk'
  obtain ⟨hi, rfl⟩ := List.getElem?_eq_some_iff.1 hp
  obtain ⟨hj, rfl⟩ := List.getElem?_eq_some_iff.1 hq
  have hpw := List.pairwise_iff_getElem.1 s.nd
  rcases Nat.lt_or_gt_of_ne hij with h | h
  · exact hpw i j hi hj h k hk hk'
  · exact hpw j i hj hi h k hk' hk
end Go.Proofs.Ytdehanjhphfanaa
namespace Go.Proofs.Ytdehanjhphfanaa
theorem bytesV (f : Nat → Nat) (n : Nat) : (bytesF f n).toList.length = n * 1 ∧ ∀ i, i < n → ∃ m, ((bytesF f n).toList.drop (i * 1)).take 1 = [Value.int .u8 m] := by
  refine ⟨by simp, fun i hi => ⟨f i, ?_⟩⟩
  have hl : i * 1 < (bytesF f n).toList.length := by simp; omega
  rw [List.drop_eq_getElem_cons hl, List.take_succ_cons, List.take_zero]
  have h1 := bytesF_get f n i hi
  have h2 : (bytesF f n).toList[i * 1] = .int .u8 (f i : Int) := by
    have : (bytesF f n).toList[i * 1]? = some (.int .u8 (f i : Int)) := by rw [Array.getElem?_toList, Nat.mul_one]; exact h1
    rw [List.getElem?_eq_getElem hl] at this
    exact Option.some.inj this
  rw [h2]
theorem bytes_cut (f : Nat → Nat) (M o n : Nat) (h : o + n ≤ M) : ((bytesF f M).toList.drop o).take n = (bytesF (fun i => f (o + i)) n).toList := by
  have := congrArg Array.toList (bytesF_extract f M o n h)
  rw [Array.toList_extract, List.extract_eq_take_drop, show o + n - o = n from by omega] at this
  exact this
theorem EqV.struct' {P : Program} {t : TypeId} {D n : Nat} {fs : Array Field} (r : List (Nat × (List Value → Prop))) (ht : P.underlying t = some (.struct fs)) (hp : P.stoodInHeld t = false) (hs : (P.info? t).map (·.size) = some n)
    (hf : FsV P D fs.toList r) (hc : FsCover 0 fs.toList r n) : EqV P (D + 1) t n (fun xs => xs.length = n ∧ FsHas xs fs.toList r) agV := by
  have e : P.fieldsOf t = fs := by simp [Program.fieldsOf, ht]
  have := EqV.struct (P := P) (t := t) (D := D) (n := n) r (by rw [e]; exact ht) hp hs (by rw [e]; exact hf) (by rw [e]; exact hc)
  rw [e] at this
  exact this
end Go.Proofs.Ytdehanjhphfanaa
namespace Go.Proofs.Ytdehanjhphfanaa
end Go.Proofs.Ytdehanjhphfanaa
namespace Go.Proofs.Ytdehanjhphfanaa
end Go.Proofs.Ytdehanjhphfanaa

namespace Go.Proofs.Ytdehanjhphfanaa
open Go.RowKit
/-! ### new blocks in regions that draw their order -/
def PtrT (C : Array Value) (t : TypeId) : Asrt := fun v w => ∃ b, v = .pointer (some ⟨b, 0, none⟩) ∧ w.heap[b]? = some (.cells C t)
theorem PtrT.mono (C : Array Value) (t : TypeId) : Mono (PtrT C t) := fun v w w' ⟨b, h1, h2⟩ hE => ⟨b, h1, (hE.heap (Array.getElem?_eq_some_iff.1 h2).1).trans h2⟩
section
variable {P : Program} {ops : Array Oper} {Q : Act → World → Prop} {l : List Oper} {a : Act} {w w0 : World} {N : Nat} {L : List (Nat × Value)} {Df : List Deferred} {B : List Own} {d : Tmp} {ty : TypeId} {pos : String} {af : Array Edge} {x y : Operand} {t t' e : TypeId}
end
/-! ### sums and what they are made of -/
end Go.Proofs.Ytdehanjhphfanaa
namespace Go.Proofs.Ytdehanjhphfanaa
open Go.RowKit
section
variable {P : Program} {ρ : Operand → Value} {d : Option Tmp} {ty : TypeId} {pos : String} {af : Array Edge} {g : Option (Nat × Bool)} {a b : Operand} {t t' : TypeId} {D n : Nat}
def EqW (P : Program) (D : Nat) (t : TypeId) (n : Nat) (X Y : Array Value) : Prop := ∃ V, EqV P D t n V agV ∧ V X.toList ∧ V Y.toList
end
end Go.Proofs.Ytdehanjhphfanaa
namespace Go.Proofs.Ytdehanjhphfanaa
end Go.Proofs.Ytdehanjhphfanaa

namespace Go.Proofs.Ytdehanjhphfanaa
open Go.RowKit
/-! ### a slice's own row, turned in place -/
theorem own_one {w : World} {base : Nat} {e : TypeId} {sz : Nat} {v : Value} {n : Nat} {xs : List Value} (h : Owns w base e sz v n xs) : v.oneCell' = true := by
  obtain ⟨a, c, rfl⟩ := ownsRow_slice h
  rfl
section
variable {P : Program} {ρ : Operand → Value} {d : Option Tmp} {ty : TypeId} {pos : String} {af : Array Edge} {g : Option (Nat × Bool)} {x y z u : Operand} {t t' e : TypeId} {k : IntKind}
theorem ru_len_lit {a : Option Addr} {n c : Nat} (ht : P.underlying t = some (.slice e)) (hx : ρ x = .slice a n c) : RunsTo P ⟨d, .call { callee := .builtin .len, args := #[x], argTypes := #[t] }, ty, pos, af, g⟩ ρ (.int .i64 (n : Int)) := fun w => by
  simp [execOp, resolve, hx, invoke, builtin, Builtin.len_, Sem.run_bind, run_underlying ht, goInt]
end
section
variable {P : Program} {ops : Array Oper} {Q : Act → World → Prop} {l : List Oper} {a : Act} {w w0 : World} {N : Nat} {L : List (Nat × Value)} {Df : List Deferred} {B : List Own} {d : Tmp} {ty : TypeId} {pos : String} {af : Array Edge} {x y : Operand} {t t' e : TypeId}
end
end Go.Proofs.Ytdehanjhphfanaa
namespace Go.Proofs.Ytdehanjhphfanaa
end Go.Proofs.Ytdehanjhphfanaa
namespace Go.Proofs.Ytdehanjhphfanaa
theorem all_next {α : Type} {l : List α} (Q : α → Prop) {k : Nat} (h : ∀ i (hi : i < l.length), i < k → Q l[i]) (hk : k < l.length) (hq : Q l[k]) : ∀ i (hi : i < l.length), i < k + 1 → Q l[i] := fun i hi h9 => by
  by_cases e : i = k
  · subst e; exact hq
  · exact h i hi (by omega)
end Go.Proofs.Ytdehanjhphfanaa
namespace Go.Proofs.Ytdehanjhphfanaa
open Go.RowKit
section
variable {P : Program} {ρ : Operand → Value} {d : Option Tmp} {ty : TypeId} {pos : String} {af : Array Edge} {g : Option (Nat × Bool)} {x y z u : Operand} {t t' e : TypeId} {k : IntKind}
end
end Go.Proofs.Ytdehanjhphfanaa
namespace Go.Proofs.Ytdehanjhphfanaa
end Go.Proofs.Ytdehanjhphfanaa

namespace Go.Proofs.Ytdehanjhphfanaa
open Go.RowKit
/-! ### whether links lead back -/
/-! ### what the laws say of it -/
end Go.Proofs.Ytdehanjhphfanaa
namespace Go.Proofs.Ytdehanjhphfanaa
open Go.RowKit
end Go.Proofs.Ytdehanjhphfanaa
namespace Go.Proofs.Ytdehanjhphfanaa
end Go.Proofs.Ytdehanjhphfanaa

namespace Go.Proofs.Ytdehanjhphfanaa
open Go.RowKit Go.ChangeShapes Go.WideShapes Go.ChangeAt
/-! ### lists of links that come in -/
theorem has_flat {α : Type} (f : α → List Value) (sz : Nat) (hz : 0 < sz) (hf : ∀ x, (f x).length = sz) {w : World} {p : Addr} (l : List α) (h : ∀ i (hi : i < l.length), Has w (p.add (i * sz)) (f l[i]).toArray) : Has w p (l.flatMap f).toArray := fun j v hj => by
  simp only [List.getElem?_toArray] at hj
  have hlen := cells_len f sz hf l
  have hjl : j < l.length * sz := by have := (List.getElem?_eq_some_iff.1 hj).1; omega
  have hi : j / sz < l.length := Nat.div_lt_of_lt_mul (by rw [Nat.mul_comm]; exact hjl)
  have e1 := cells_el f sz hf l (j / sz) hi
  have h2 : (f l[j / sz])[j % sz]? = some v := by
    rw [← e1, List.getElem?_take_of_lt (Nat.mod_lt _ hz), List.getElem?_drop]
    rw [show j / sz * sz + j % sz = j from by rw [Nat.mul_comm]; exact Nat.div_add_mod j sz]
    exact hj
  have h3 := h (j / sz) hi (j % sz) v (by simpa using h2)
  rw [add_add, show j / sz * sz + j % sz = j from by rw [Nat.mul_comm]; exact Nat.div_add_mod j sz] at h3
  exact h3
theorem open_idL {H : Type} {enc : TypeId × Value → H} {P : Program} {w : World} {base : Nat} {spare : Nat → Bool} {held : Bool} {t e : TypeId} {fuel : Nat} {cs : List Value} {x : DataW H × List MemPlace} (T : IdTy P t e) (hc : P.cellsOf t = 32) (hce : P.cellsOf e = 1)
    (h : DataW.trod enc P w base spare held fuel t cs = some x) : ∃ a : Id, cs = (idArr a).toList := by
  obtain ⟨a, ha⟩ := open_id (v := .agg cs.toArray) (d := x.1) (ps := x.2) T hc hce ⟨fuel, by simpa [Value.cells] using h⟩
  refine ⟨a, ?_⟩
  have h2 : cs.toArray = idArr a := by simpa [idV] using ha
  rw [← h2]
theorem open_link {H : Type} {enc : TypeId × Value → H} {P : Program} {w : World} {base : Nat} {spare : Nat → Bool} {held : Bool} {t ti e : TypeId} {f0 f1 : Field} {fuel : Nat} {cs : List Value} {x : DataW H × List MemPlace} (T : IdTy P ti e) (hc : P.cellsOf ti = 32) (hce : P.cellsOf e = 1)
    (ht : P.underlying t = some (.struct #[f0, f1])) (h0 : f0.type = ti) (h1 : f1.type = ti) (o0 : f0.offset = 0) (o1 : f1.offset = 32) (hct : P.cellsOf t = 64) (h : DataW.trod enc P w base spare held fuel t cs = some x) : ∃ l : Lnk, cs = (lArr l).toList := by
  obtain ⟨xs, n, rfl, _, hl, hxl, hel⟩ := DataW.trod_struct ht h
  rw [hct] at hl
  have hx2 : xs.length = 2 := by simpa using hxl
  have e0 := hel 0 f0 rfl
  have e1 := hel 1 f1 rfl
  rw [h0, o0, hc, List.getElem?_eq_getElem (by omega)] at e0
  rw [h1, o1, hc, List.getElem?_eq_getElem (by omega)] at e1
  obtain ⟨a, ha⟩ := open_idL T hc hce e0
  obtain ⟨b, hb⟩ := open_idL T hc hce e1
  refine ⟨(a, b), ?_⟩
  rw [← lArr_cat, ← ha, ← hb, List.drop_zero, List.take_of_length_le (l := cs.drop 32) (by rw [List.length_drop]; omega), List.take_append_drop]
theorem open_links {H : Type} {enc : TypeId × Value → H} {P : Program} {W : World} {r : Reach} {b0 : Nat} {ts t ti e : TypeId} {f0 f1 : Field} {v : Value} {d : DataW H} {ps : List MemPlace} (T : IdTy P ti e) (hc : P.cellsOf ti = 32) (hce : P.cellsOf e = 1)
    (hts : P.underlying ts = some (.slice t)) (ht : P.underlying t = some (.struct #[f0, f1])) (h0 : f0.type = ti) (h1 : f1.type = ti) (o0 : f0.offset = 0) (o1 : f1.offset = 32) (hct : P.cellsOf t = 64)
    (hval : Value.okWide P W r b0 ts v) (h : DataW.Trod enc P W 0 (fun _ => true) true ts v d ps) : ∃ ls : List Lnk, RdZ W v 64 ls.length (lCells ls) := by
  obtain ⟨a, n, c, rfl⟩ := okWide_slice hts hval
  obtain ⟨fuel, hf⟩ := h
  rcases Go.Deep.open_slice hts hf with ⟨hcs, _⟩ | ⟨a', len, cap, m, k, D, Pl, hcs, _, hl, _, hm, _, hel⟩
  · have : Value.slice a n c = .slice none 0 0 := by simpa [Value.cells] using hcs
    exact ⟨[], rfl, .inl ⟨this, rfl⟩⟩
  · have hv : Value.slice a n c = .slice (some a') len cap := by simpa [Value.cells] using hcs
    have hml : len ≤ m := by rw [hm]; split <;> omega
    have each : ∀ i, ∃ l : Lnk, i < len → Has W (a'.add (i * 64)) (lArr l) := fun i => by
      by_cases hi : i < len
      · obtain ⟨cs', hc1, hc2⟩ := hel i (by omega)
        obtain ⟨l, rfl⟩ := open_link T hc hce ht h0 h1 o0 o1 hct hc2
        refine ⟨l, fun _ j u hj => ?_⟩
        rw [hct] at hc1
        obtain ⟨_, hlen, hall⟩ := World.cells?_some hc1
        have hj64 : j < 64 := by have := (Array.getElem?_eq_some_iff.1 hj).1; rw [lArr_size] at this; exact this
        have := hall j hj64
        rw [this, Array.getElem?_toList]; exact hj
      · exact ⟨(0, 0), fun h9 => absurd h9 hi⟩
    obtain ⟨L, hL⟩ := Classical.axiomOfChoice each
    refine ⟨(List.range len).map L, ?_, .inr ⟨a', cap, by rw [hv]; simp, by simpa using hl, ?_⟩⟩
    · rw [lCells_len]
    · refine has_flat _ 64 (by decide) (fun x => by rw [Array.length_toList, lArr_size]) _ fun i hi => ?_
      have hi' : i < len := by simpa using hi
      have := hL i hi'
      simpa using this
end Go.Proofs.Ytdehanjhphfanaa

namespace Go.Proofs.Ytdehanjhphfanaa
open Go.RowKit
theorem LstW.cons {P : Program} {ops : Array Oper} {Wp : World → Prop} {K : Act → World → Prop} {o : Oper} {l : List Oper} {a : Act} {w : World} (h : Lst P ops (fun a w => Wp w ∧ LstW P ops Wp K l a w) [o] a w) : LstW P ops Wp K (o :: l) a w := h
theorem LstW.nil {P : Program} {ops : Array Oper} {Wp : World → Prop} {K : Act → World → Prop} {a : Act} {w : World} (h : K a w) : LstW P ops Wp K [] a w := h
/-! ### identifiers with other ends -/
end Go.Proofs.Ytdehanjhphfanaa

namespace Go.Proofs.Ytdehanjhphfanaa
open Go.RowKit
/-! ### A region that draws its order, once more: the law of EngR, where those that may come at any time may look at what some of the others yield (Vs: of known value) -/
section
variable (ops : List Oper) (m : Nat) (Hs Vs : List Nat) (cls : List (List Nat))
end
/-- what the last ones of known value yield -/
def VOk (ops : List Oper) (Vs : List Nat) (T : Nat → Asrt) (o : Oper) (a : Act) (w : World) : Prop := ∀ i ∈ Vs, ∀ d, dstOf ops i = some d → o.dst = some d → T i (a.tmps.getD d undef) w
/-- the last ones, with what must hold of the world between them -/
def LstV (P : Program) (ops : List Oper) (Wp : World → Prop) (Vs : List Nat) (T : Nat → Asrt) (K : Act → World → Prop) : List Oper → Act → World → Prop
  | [], a, w => K a w
  | o :: l, a, w => Lst P ops.toArray (fun a w => Wp w ∧ VOk ops Vs T o a w ∧ LstV P ops Wp Vs T K l a w) [o] a w

section law
variable {P : Program} {ro : Option Nat} {ops : List Oper} {m : Nat} {Hs Vs : List Nat} {cls : List (List Nat)} {X : Nat → Value} {Wp : World → Prop} {a0 : Act} {T : Nat → Asrt} {Q : Exit → Act → World → Prop}
structure J3 (ops : List Oper) (Hs Vs : List Nat) (cls : List (List Nat)) (X : Nat → Value) (a0 : Act) (listed : Array Bool) (a : Act) : Prop where
  size : a.tmps.size = a0.tmps.size
  lsize : listed.size = ops.length
  doneH : ∀ i d, (i ∈ Hs ∨ i ∈ Vs) → dstOf ops i = some d → listed.getD i false = true → a.tmps.getD d undef = X i
  rest : ∀ t, (∀ j, dstOf ops j = some t → listed.getD j false = false) → a.tmps.getD t undef = a0.tmps.getD t undef
  closed : ∀ i, listed.getD i false = true → ∀ j ∈ cls.getD i [], listed.getD j false = true
variable {Fr : List Nat} {w1 : World}
structure J4 (ops : List Oper) (m : Nat) (Hs Vs : List Nat) (cls : List (List Nat)) (X : Nat → Value) (Fr : List Nat) (T : Nat → Asrt) (a0 : Act) (w1 : World) (listed : Array Bool) (a : Act) (w : World) : Prop where
  J : J3 ops Hs Vs cls X a0 listed a
  ext : Ext w1 w
  defers : a.defers = a0.defers
  tail : ∀ i, m ≤ i → i ∉ Hs → listed.getD i false = false
  done : ∀ i d, i < m → i ∉ Hs → dstOf ops i = some d → listed.getD i false = true → T i (a.tmps.getD d undef) w
  fresh : ∀ i ∈ Fr, ∀ d, dstOf ops i = some d → listed.getD i false = true → ∀ k ∈ vks (a.tmps.getD d undef), w1.heap.size ≤ k ∧ k < w.heap.size
  disj : ∀ i ∈ Fr, ∀ j ∈ Fr, i ≠ j → ∀ d e, dstOf ops i = some d → dstOf ops j = some e → listed.getD i false = true → listed.getD j false = true → ∀ k ∈ vks (a.tmps.getD d undef), k ∉ vks (a.tmps.getD e undef)
end law
section
variable {P : Program} {ops : List Oper} {cls : List (List Nat)} {Ts : List Asrt} {a0 : Act}
end
section
variable {P : Program} {ops : List Oper} {Vs : List Nat} {T : Nat → Asrt} {K : Act → World → Prop} {Wp : World → Prop} {o : Oper} {l : List Oper} {a : Act} {w : World}
theorem LstV.cons (h : Lst P ops.toArray (fun a w => Wp w ∧ VOk ops Vs T o a w ∧ LstV P ops Wp Vs T K l a w) [o] a w) : LstV P ops Wp Vs T K (o :: l) a w := h
theorem LstV.nil (h : K a w) : LstV P ops Wp Vs T K [] a w := h
def notV (ops : List Oper) (Vs : List Nat) (o : Oper) : Bool := Vs.all fun i => match dstOf ops i with | some d => decide (o.dst ≠ some d) | none => true
theorem VOk.no (h : notV ops Vs o = true) : VOk ops Vs T o a w := fun i hi d hd ho => by
  have := List.all_eq_true.1 h i hi
  rw [hd] at this
  simp [ho] at this
theorem VOk.one {i d : Nat} (hd : o.dst = some d) (hi : dstOf ops i = some d) (hn : (Vs.all fun j => j == i || decide (dstOf ops j ≠ some d)) = true) (h : T i (a.tmps.getD d undef) w) : VOk ops Vs T o a w := fun j hj e he ho => by
  rw [hd] at ho
  cases ho
  have := List.all_eq_true.1 hn j hj
  rw [he] at this
  have hji : j = i := by simpa using this
  rw [hji]; exact h
end
end Go.Proofs.Ytdehanjhphfanaa

namespace Go.Proofs.Ytdehanjhphfanaa
/-! ### ProofSets: a row of links turned, a row twice -/
end Go.Proofs.Ytdehanjhphfanaa
