/- Where a packet comes to in the end: links that do not come back, counts, copy by copy, more hops, fewer entries, one more trigger; no Go in it. -/
import Derived.Test.YthjkhnhiciamaaaRw
set_option linter.unusedVariables false
set_option linter.unusedSimpArgs false
set_option linter.unusedSectionVars false
namespace Go.Proofs.Ythjkhnhiciamaaa
open Go.RowKit
/-! ### what is counted -/
@[ext] structure Cn where
  hs : Nat → Nat
  lost : Nat
  hops : Nat
  work : Nat
namespace Cn
def zero : Cn := ⟨fun _ => 0, 0, 0, 0⟩
def add (a b : Cn) : Cn := ⟨fun h => a.hs h + b.hs h, a.lost + b.lost, a.hops + b.hops, a.work + b.work⟩
theorem add_zero (a : Cn) : a.add zero = a := rfl
theorem zero_add (a : Cn) : zero.add a = a := by
  unfold add zero; cases a; simp
theorem add_assoc (a b c : Cn) : (a.add b).add c = a.add (b.add c) := by
  unfold add; simp [Nat.add_assoc]
end Cn
def wkC : Cn := ⟨fun _ => 0, 0, 0, 1⟩
def oneC (f : Pk → Cn) (o : Ot) : Cn := if o.k = 1 then ⟨fun h => if h = o.h.toNat then 1 else 0, 0, 0, 0⟩ else if o.k = 2 then f o.p else if o.y = 9 then ⟨fun _ => 0, 0, 1, 0⟩ else ⟨fun _ => 0, 1, 0, 0⟩
/-! ### none is dead by hops -/
end Go.Proofs.Ythjkhnhiciamaaa

namespace Go.Proofs.Ythjkhnhiciamaaa
open Go.RowKit
/-! ### whole packets, queues, hosts -/
theorem Cn.add_comm (a b : Cn) : a.add b = b.add a := by
  unfold Cn.add
  simp only [Nat.add_comm]
/-! ### one that adds nothing -/
/-! ### one that is alone -/
end Go.Proofs.Ythjkhnhiciamaaa

namespace Go.Proofs.Ythjkhnhiciamaaa
open Go.RowKit
/-! ### copy by copy: what the walk wants -/
structure COk (c : Cn) : Prop where
  hs : ∀ h, c.hs h ≤ c.work
  lost : c.lost ≤ c.work
  hops : c.hops ≤ c.work
  work : c.work ≤ 1001
theorem COk.wk {c : Cn} (h : COk c) (hw : ¬ 1000 < c.work) : COk (c.add wkC) :=
  ⟨fun x => by have := h.hs x; show c.hs x + 0 ≤ c.work + 1; omega, by have := h.lost; show c.lost + 0 ≤ c.work + 1; omega, by have := h.hops; show c.hops + 0 ≤ c.work + 1; omega, by show c.work + 1 ≤ 1001; omega⟩
end Go.Proofs.Ythjkhnhiciamaaa

namespace Go.Proofs.Ythjkhnhiciamaaa
open Go.RowKit
/-! ### what the walks want of spreads: four cells -/
def ssL (v : Value) (l h k : Int) : List Value := [v, .int .i64 l, .int .i64 h, .int .i64 k]
def ssArr (v : Value) (l h k : Int) : Array Value := (ssL v l h k).toArray
section
variable {P : Program} {ρ : Operand → Value} {d : Option Tmp} {ty : TypeId} {pos : String} {af : Array Edge} {g : Option (Nat × Bool)} {x y z : Operand} {t : TypeId}
end
/-! where it came to -/
structure Sd where
  hosts : List Int
  lost : Int
  hops : Int
  work : Int
deriving DecidableEq
/-! links of a table -/
end Go.Proofs.Ythjkhnhiciamaaa

namespace Go.Proofs.Ythjkhnhiciamaaa
open Go.RowKit
/-! ### copy by copy, in memory -/
/-! where it comes to, in a row -/
theorem one_cell {v : Value} (h : v.oneCell' = true) : v.cells.size = 1 ∧ v.cells.toList = [v] := by cases v <;> first | exact ⟨rfl, rfl⟩ | cases h
end Go.Proofs.Ythjkhnhiciamaaa

namespace Go.Proofs.Ythjkhnhiciamaaa
open Go.RowKit
/-! ### what the package answers -/
def SpP (w : World) (D : Sd) (E : Int) : Asrt := fun v w' => ∃ u ks, v = .tuple #[.agg (ssArr u D.lost D.hops D.work), .int .i64 E] ∧ St w [.grp ks fun w9 => RdZ w9 u 1 D.hosts.length (intC D.hosts)] w'
end Go.Proofs.Ythjkhnhiciamaaa

namespace Go.Proofs.Ythjkhnhiciamaaa
open Go.RowKit
/-! ### a slice of the call's own that does not begin at its block's head -/
def Tails (w : World) (base : Nat) (e : TypeId) (sz : Nat) (v : Value) (n : Nat) (xs : List Value) : Prop :=
  xs.length = n * sz ∧
  ((v = .slice none 0 0 ∧ n = 0) ∨
   ∃ g o cap cur fz, v = .slice (some ⟨g, o, none⟩) n cap ∧ base ≤ g ∧ w.heap[g]? = some (.cells cur e fz) ∧ (fz.2 = 0 ∨ cur.size ≤ fz.1) ∧ n ≤ cap ∧ cap ≤ maxLen ∧ o + cap * sz ≤ cur.size ∧ (cur.toList.drop o).take (n * sz) = xs)
theorem Tails.of_owns {w : World} {base : Nat} {e : TypeId} {sz : Nat} {v : Value} {n : Nat} {xs : List Value} (h : Owns w base e sz v n xs) : Tails w base e sz v n xs := by
  refine ⟨h.1, h.2.imp id ?_⟩
  rintro ⟨g, cap, cur, fz, hv, hb, hg, hz, hn, hc, hs, ht⟩
  exact ⟨g, 0, cap, cur, fz, hv, hb, hg, hz, hn, hc, by omega, by simpa using ht⟩
theorem Tails.rd {w : World} {base : Nat} {e : TypeId} {sz : Nat} {v : Value} {n : Nat} {xs : List Value} (h : Tails w base e sz v n xs) : RdZ w v sz n xs := by
  refine ⟨h.1, h.2.imp id ?_⟩
  rintro ⟨g, o, cap, cur, fz, hv, hb, hg, hz, hn, hc, hs, ht⟩
  refine ⟨⟨g, o, none⟩, cap, hv, hn, fun j x hx => ?_⟩
  have hadd : (⟨g, o, none⟩ : Addr).add j = ⟨g, o + j, none⟩ := by unfold Addr.add; split <;> simp_all
  rw [List.getElem?_toArray] at hx
  rw [hadd, cell_of_row w g (o + j) cur e fz hg]
  rw [← ht, List.getElem?_take] at hx
  split at hx
  · rw [List.getElem?_drop] at hx; simpa using hx
  · cases hx
theorem Tails.at {w w' : World} {base : Nat} {e : TypeId} {sz : Nat} {v : Value} {n : Nat} {xs : List Value} (h : Tails w base e sz v n xs) (hk : ∀ k ∈ v.ownBlock.toList, w'.heap[k]? = w.heap[k]?) : Tails w' base e sz v n xs := by
  refine ⟨h.1, h.2.imp id ?_⟩
  rintro ⟨g, o, cap, cur, fz, hv, hb, hg, r⟩
  exact ⟨g, o, cap, cur, fz, hv, hb, by rw [hk g (by rw [hv]; simp [Value.ownBlock])]; exact hg, r⟩
theorem Tails.drop {w : World} {base : Nat} {e : TypeId} {sz : Nat} {v : Value} {n : Nat} {xs : List Value} (h : Tails w base e sz v n xs) (k : Nat) (hk : k ≤ n) : Tails w base e sz (dropV v sz k) (n - k) (xs.drop (k * sz)) := by
  refine ⟨by rw [List.length_drop, h.1, Nat.sub_mul], ?_⟩
  rcases h.2 with ⟨rfl, rfl⟩ | ⟨g, o, cap, cur, fz, rfl, hb, hg, hz, hn, hc, hs, ht⟩
  · obtain rfl : k = 0 := by omega
    exact .inl ⟨rfl, rfl⟩
  · right
    have hmul : k * sz ≤ cap * sz := Nat.mul_le_mul_right _ (by omega)
    by_cases hck : cap = k
    · refine ⟨g, o, cap - k, cur, fz, by simp [dropV, hck], hb, hg, hz, by omega, by omega, ?_, ?_⟩
      · rw [Nat.sub_mul]; omega
      · obtain rfl : n = k := by omega
        rw [Nat.sub_self, Nat.zero_mul, List.take_zero, ← h.1, List.drop_length]
    · have hadd : (⟨g, o, none⟩ : Addr).add (k * sz) = ⟨g, o + k * sz, none⟩ := by unfold Addr.add; split <;> simp_all
      refine ⟨g, o + k * sz, cap - k, cur, fz, by simp [dropV, hck, hadd], hb, hg, hz, by omega, by omega, ?_, ?_⟩
      · rw [Nat.sub_mul]; omega
      · rw [← ht, List.drop_take, List.drop_drop, Nat.sub_mul]
/-- as what is owned -/
def tlO (base : Nat) (v : Value) (e : TypeId) (sz n : Nat) (xs : List Value) : Own := .grp v.ownBlock.toList fun w9 => Tails w9 base e sz v n xs
theorem tl_holds {w0 w : World} {base : Nat} {v : Value} {e : TypeId} {sz n : Nat} {xs : List Value} (h : Tails w base e sz v n xs) : (tlO base v e sz n xs).holds w0 w := by
  refine ⟨fun k hk => ?_, fun w' hw => h.at hw⟩
  rcases h.2 with ⟨rfl, _⟩ | ⟨g, o, cap, cur, fz, rfl, _, hg, _⟩
  · simp [Value.ownBlock] at hk
  · simp [Value.ownBlock] at hk
    subst hk
    exact (Array.getElem?_eq_some_iff.1 hg).1
theorem tl_at {base : Nat} {v : Value} {e : TypeId} {sz n : Nat} {xs : List Value} {k : Nat} : (tlO base v e sz n xs).at k ↔ v.ownBlock = some k := by
  show k ∈ v.ownBlock.toList ↔ _
  simp
/-- what is owned is said otherwise -/
theorem St.said {w0 w : World} {B : List Own} (s : St w0 B w) (i : Nat) {p q : Own} (hi : B[i]? = some p) (hold : q.holds w0 w) (hk : ∀ k, q.at k → p.at k) : St w0 (B.set i q) w :=
  s.upd i hi rfl rfl rfl (Nat.le_refl _) hold (fun k h => .inl (hk k h)) fun _ _ _ => rfl
theorem St.tail {w0 w : World} {B : List Own} {v : Value} {e : TypeId} {sz n : Nat} {xs : List Value} (s : St w0 B w) (i : Nat) (hi : B[i]? = some (.sl v e sz n xs)) : St w0 (B.set i (tlO w0.heap.size v e sz n xs)) w :=
  s.said i hi (tl_holds (.of_owns (s.getSl i hi))) fun k h => Own.at_sl.2 (tl_at.1 h)
section
variable {ro : Option Nat} {P : Program} {ops : Array Oper} {Q : Act → World → Prop} {l : List Oper} {a : Act} {w w0 : World} {N : Nat} {L : List (Nat × Value)} {Df : List Deferred} {B : List Own} {d : Tmp} {ty : TypeId} {pos : String} {af : Array Edge} {x y : Operand} {t e : TypeId}
end
/-! ### copy, to a part of an own slice whose elements are of one cell -/
section
variable {ro : Option Nat} {P : Program} {ops : Array Oper} {Q : Act → World → Prop} {l : List Oper} {a : Act} {w w0 : World} {N : Nat} {L : List (Nat × Value)} {Df : List Deferred} {B : List Own} {d : Tmp} {ty : TypeId} {pos : String} {af : Array Edge} {x y : Operand} {t t' e : TypeId}
end
theorem Tails.one {w : World} {base : Nat} {e : TypeId} {sz : Nat} {v : Value} {n : Nat} {xs : List Value} (h : Tails w base e sz v n xs) : v.oneCell' = true := by
  rcases h.2 with ⟨rfl, _⟩ | ⟨g, o, cap, cur, fz, rfl, _⟩ <;> rfl
end Go.Proofs.Ythjkhnhiciamaaa

namespace Go.Proofs.Ythjkhnhiciamaaa
open Go.RowKit
/-! ### where it comes to, copy behind copy: a row of packets, counts -/
theorem RwU.take {K : List O2} {w : World} (h : RwU K w) (k : Nat) : RwU (K.take k) w := fun x hx => h x (List.mem_of_mem_take hx)
/-! counts, added -/
structure CB (c : Cn) (m : Nat) : Prop where
  hs : ∀ h, c.hs h ≤ m
  lost : c.lost ≤ m
  hops : c.hops ≤ m
theorem CB.mono {c : Cn} {m n : Nat} (h : CB c m) (hm : m ≤ n) : CB c n := ⟨fun x => Nat.le_trans (h.hs x) hm, Nat.le_trans h.lost hm, Nat.le_trans h.hops hm⟩
theorem CB.zero : CB .zero 0 := ⟨fun _ => Nat.le_refl _, Nat.le_refl _, Nat.le_refl _⟩
theorem CB.wk {c : Cn} {m : Nat} (h : CB c m) : CB (c.add wkC) m := ⟨fun x => h.hs x, h.lost, h.hops⟩
theorem CB.one {c : Cn} {m : Nat} (h : CB c m) (o : Ot) : CB (c.add (oneC (fun _ => .zero) o)) (m + 1) := by
  have h1 := h.hs; have h2 := h.lost; have h3 := h.hops
  unfold oneC
  split
  · refine ⟨fun x => ?_, ?_, ?_⟩
    · have := h1 x; show c.hs x + (if x = o.h.toNat then 1 else 0) ≤ m + 1; split <;> omega
    · show c.lost + 0 ≤ m + 1; omega
    · show c.hops + 0 ≤ m + 1; omega
  · split
    · refine ⟨fun x => ?_, ?_, ?_⟩
      · have := h1 x; show c.hs x + 0 ≤ m + 1; omega
      · show c.lost + 0 ≤ m + 1; omega
      · show c.hops + 0 ≤ m + 1; omega
    · split
      · refine ⟨fun x => ?_, ?_, ?_⟩
        · have := h1 x; show c.hs x + 0 ≤ m + 1; omega
        · show c.lost + 0 ≤ m + 1; omega
        · show c.hops + 1 ≤ m + 1; omega
      · refine ⟨fun x => ?_, ?_, ?_⟩
        · have := h1 x; show c.hs x + 0 ≤ m + 1; omega
        · show c.lost + 1 ≤ m + 1; omega
        · show c.hops + 0 ≤ m + 1; omega
/-! the counts in a row of numbers -/
/-! one, so many times -/
/-! what the package hands out -/
/-! what the walks want besides -/
section
variable {P : Program} {ρ : Operand → Value} {d : Option Tmp} {ty : TypeId} {pos : String} {af : Array Edge} {g : Option (Nat × Bool)} {x y z u : Operand} {t : TypeId}
end
end Go.Proofs.Ythjkhnhiciamaaa
