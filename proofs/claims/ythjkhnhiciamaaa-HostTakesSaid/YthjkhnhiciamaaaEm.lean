/- Own slices and marks, said otherwise; iterators; no Go in it. -/
import Derived.Lib.SliceRun
import Derived.Test.YthjkhnhiciamaaaWp
set_option linter.unusedVariables false
set_option linter.unusedSimpArgs false
set_option linter.unusedSectionVars false
namespace Go.Proofs.Ythjkhnhiciamaaa
open Go.RowKit
/-! ### letters and mails: what they hold, what may be, what becomes of them -/
abbrev Lt := Int × Int × Int × ByteArray
structure Ml where
  l : List Lt
  last : Int
  now : Int
def ltArr (x : Lt) : Array Value := #[.int .i64 x.1, .int .i64 x.2.1, .int .i64 x.2.2.1, .string x.2.2.2]
def mlArr (m : Ml) (v : Value) : Array Value := #[v, .int .i64 m.last, .int .i64 m.now]
def ltCells (l : List Lt) : List Value := l.flatMap fun x => (ltArr x).toList
/-! which may be -/
/-! what becomes of them -/
end Go.Proofs.Ythjkhnhiciamaaa

namespace Go.Proofs.Ythjkhnhiciamaaa
open Go.RowKit
/-! ### what the walks of package mail want -/
theorem rdz_at {w : World} {v : Value} {sz n : Nat} {xs : List Value} (h : RdZ w v sz n xs) (i : Nat) {V : Value} (hV : xs[i]? = some V) : w.cell? (elAddr v i) = some V := by
  rcases h.2 with ⟨_, h2⟩ | ⟨p, c, h1, _, h2⟩
  · have h1 := h.1
    rw [h2, Nat.zero_mul] at h1
    rw [List.eq_nil_of_length_eq_zero h1] at hV; cases hV
  · subst h1
    exact h2 i V (by simpa using hV)
theorem Owns.low {w : World} {base b : Nat} {e : TypeId} {sz : Nat} {v : Value} {n : Nat} {xs : List Value} (h : Owns w base e sz v n xs) (hb : b ≤ base) : Owns w b e sz v n xs := by
  refine ⟨h.1, ?_⟩
  rcases h.2 with hn | ⟨g, cap, cur, fz, hv, h1, rest⟩
  · exact .inl hn
  · exact .inr ⟨g, cap, cur, fz, hv, Nat.le_trans hb h1, rest⟩
theorem Owns.seq {w : World} {b : Nat} {e : TypeId} {sz : Nat} {v : Value} {n m : Nat} {xs ys : List Value} (h : Owns w b e sz v n xs) (hn : n = m) (hx : xs = ys) : Owns w b e sz v m ys := by subst hn; subst hx; exact h
section
variable {P : Program} {ρ : Operand → Value} {d : Option Tmp} {ty : TypeId} {pos : String} {af : Array Edge} {g : Option (Nat × Bool)} {x y z u : Operand} {t t' e : TypeId}
theorem ru_eql_nilS {a : Option Addr} {n c : Nat} (ht : P.underlying t = some (.slice e)) (hx : ρ x = .slice a n c) (hy : ρ y = .slice none 0 0) : RunsTo P ⟨d, .binOp .eql t x y t', ty, pos, af, g⟩ ρ (.bool a.isNone) := fun w => by
  have hg : (eqGuard .eql t x y (.slice a n c) (.slice none 0 0)).run P w = .ok () w := rfl
  simp only [execOp, hx, hy, Sem.run_bind, hg, Result.andThen_ok, Lib.run_eql_slice_nil w t e a n c 0 0 ht, Sem.run_pure]
end
section
variable {P : Program} {ops : Array Oper} {Q : Act → World → Prop} {l : List Oper} {a : Act} {w w0 : World} {N : Nat} {L : List (Nat × Value)} {Df : List Deferred} {B : List Own} {d : Tmp} {ty : TypeId} {pos : String} {af : Array Edge} {x y : Operand} {t : TypeId}
end
/-! the rounds -/
theorem qs_next {q : Nat → Bool} {d : Nat} (h : ∀ j, j < d → q j = false) (hd : q d = false) : ∀ j, j < d + 1 → q j = false := fun j hj => by
  by_cases h1 : j < d
  · exact h j h1
  · obtain rfl : j = d := by omega
    exact hd
/-! a place -/
/-! without a place -/
/-! few -/
end Go.Proofs.Ythjkhnhiciamaaa
namespace Go.Proofs.Ythjkhnhiciamaaa
open Go.RowKit
theorem St.resl {w0 w : World} {B : List Own} {v : Value} {e : TypeId} {sz n m : Nat} {xs ys : List Value} (s : St w0 B w) (i : Nat) (hi : B[i]? = some (.sl v e sz n xs)) (hn : n = m) (hx : xs = ys) : St w0 (B.set i (.sl v e sz m ys)) w := by
  subst hn; subst hx
  have : B.set i (.sl v e sz n xs) = B := by
    apply List.ext_getElem?
    intro j
    by_cases h : i = j
    · subst h
      rw [List.getElem?_set_self (List.getElem?_eq_some_iff.1 hi).1, hi]
    · rw [List.getElem?_set_ne h]
  rw [this]; exact s
/-! what the calls come to -/
end Go.Proofs.Ythjkhnhiciamaaa
namespace Go.Proofs.Ythjkhnhiciamaaa
open Go.RowKit
def OneP (e : TypeId) (b : Nat) (m : Ml) : Asrt := fun v w => ∃ vx, v = .agg (mlArr m vx) ∧ Owns w b e 4 vx m.l.length (ltCells m.l)
theorem OneP.mono (e : TypeId) (b : Nat) (m : Ml) : Mono (OneP e b m) := fun _ _ _ ⟨vx, h1, h2⟩ hE => ⟨vx, h1, ownsM _ _ _ _ _ vx _ _ h2 hE⟩
theorem OneP.low {e : TypeId} {b c : Nat} {m : Ml} {v : Value} {w : World} (h : OneP e c m v w) (hb : b ≤ c) : OneP e b m v w := by
  obtain ⟨vx, h1, h2⟩ := h
  exact ⟨vx, h1, h2.low hb⟩
/-! the laws' own -/
end Go.Proofs.Ythjkhnhiciamaaa
namespace Go.Proofs.Ythjkhnhiciamaaa
open Go.RowKit
end Go.Proofs.Ythjkhnhiciamaaa
namespace Go.Proofs.Ythjkhnhiciamaaa
end Go.Proofs.Ythjkhnhiciamaaa
namespace Go.Proofs.Ythjkhnhiciamaaa
end Go.Proofs.Ythjkhnhiciamaaa
namespace Go.Proofs.Ythjkhnhiciamaaa
open Go.RowKit
end Go.Proofs.Ythjkhnhiciamaaa
