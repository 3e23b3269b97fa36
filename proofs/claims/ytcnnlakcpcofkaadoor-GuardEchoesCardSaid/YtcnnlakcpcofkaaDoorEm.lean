/- Own slices and marks, said otherwise; iterators; no Go in it. -/
import Derived.Lib.SliceRun
import Derived.Test.YtcnnlakcpcofkaaDoorWp
set_option linter.unusedVariables false
set_option linter.unusedSimpArgs false
set_option linter.unusedSectionVars false
namespace Go.Proofs.YtcnnlakcpcofkaaDoor
open Go.RowKit
/-! ### letters and mails: what they hold, what may be, what becomes of them -/
abbrev Lt := Int × Int × Int × ByteArray
structure Ml where
  l : List Lt
  last : Int
  now : Int
def ltArr (x : Lt) : Array Value := #[.int .i64 x.1, .int .i64 x.2.1, .int .i64 x.2.2.1, .string x.2.2.2]
def mlArr (m : Ml) (v : Value) : Array Value := #[v, .int .i64 m.last, .int .i64 m.now]
def ltCells (l : List Lt) : List Value := l.flatMap fun x => (ltArr x).toList
/-! which may be -/
/-! what becomes of them -/
end Go.Proofs.YtcnnlakcpcofkaaDoor

namespace Go.Proofs.YtcnnlakcpcofkaaDoor
open Go.RowKit
/-! ### what the walks of package mail want -/
theorem Owns.low {w : World} {base b : Nat} {e : TypeId} {sz : Nat} {v : Value} {n : Nat} {xs : List Value} (h : Owns w base e sz v n xs) (hb : b ≤ base) : Owns w b e sz v n xs := by
  refine ⟨h.1, ?_⟩
  rcases h.2 with hn | ⟨g, cap, cur, fz, hv, h1, rest⟩
  · exact .inl hn
  · exact .inr ⟨g, cap, cur, fz, hv, Nat.le_trans hb h1, rest⟩
theorem Owns.seq {w : World} {b : Nat} {e : TypeId} {sz : Nat} {v : Value} {n m : Nat} {xs ys : List Value} (h : Owns w b e sz v n xs) (hn : n = m) (hx : xs = ys) : Owns w b e sz v m ys := by subst hn; subst hx; exact h
section
variable {P : Program} {ρ : Operand → Value} {d : Option Tmp} {ty : TypeId} {pos : String} {af : Array Edge} {g : Option (Nat × Bool)} {x y z u : Operand} {t t' e : TypeId}
end
section
variable {P : Program} {ops : Array Oper} {Q : Act → World → Prop} {l : List Oper} {a : Act} {w w0 : World} {N : Nat} {L : List (Nat × Value)} {Df : List Deferred} {B : List Own} {d : Tmp} {ty : TypeId} {pos : String} {af : Array Edge} {x y : Operand} {t : TypeId}
end
/-! the rounds -/
/-! a place -/
/-! without a place -/
/-! few -/
end Go.Proofs.YtcnnlakcpcofkaaDoor
namespace Go.Proofs.YtcnnlakcpcofkaaDoor
open Go.RowKit
/-! what the calls come to -/
end Go.Proofs.YtcnnlakcpcofkaaDoor
namespace Go.Proofs.YtcnnlakcpcofkaaDoor
open Go.RowKit
def OneP (e : TypeId) (b : Nat) (m : Ml) : Asrt := fun v w => ∃ vx, v = .agg (mlArr m vx) ∧ Owns w b e 4 vx m.l.length (ltCells m.l)
theorem OneP.mono (e : TypeId) (b : Nat) (m : Ml) : Mono (OneP e b m) := fun _ _ _ ⟨vx, h1, h2⟩ hE => ⟨vx, h1, ownsM _ _ _ _ _ vx _ _ h2 hE⟩
theorem OneP.low {e : TypeId} {b c : Nat} {m : Ml} {v : Value} {w : World} (h : OneP e c m v w) (hb : b ≤ c) : OneP e b m v w := by
  obtain ⟨vx, h1, h2⟩ := h
  exact ⟨vx, h1, h2.low hb⟩
/-! the laws' own -/
end Go.Proofs.YtcnnlakcpcofkaaDoor
namespace Go.Proofs.YtcnnlakcpcofkaaDoor
open Go.RowKit
end Go.Proofs.YtcnnlakcpcofkaaDoor
namespace Go.Proofs.YtcnnlakcpcofkaaDoor
end Go.Proofs.YtcnnlakcpcofkaaDoor
namespace Go.Proofs.YtcnnlakcpcofkaaDoor
end Go.Proofs.YtcnnlakcpcofkaaDoor
namespace Go.Proofs.YtcnnlakcpcofkaaDoor
open Go.RowKit
end Go.Proofs.YtcnnlakcpcofkaaDoor
