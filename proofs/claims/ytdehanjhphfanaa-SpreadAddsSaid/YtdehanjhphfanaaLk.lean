/- What a server answers, whom a walk asks and where it ends; in an overlay that is stable it ends with the one that it belongs to; maps of numbers to values; regions that draw their order, with something said beside a value; no Go in it. -/
import Derived.Test.YtdehanjhphfanaaOw
set_option linter.unusedVariables false
set_option linter.unusedSimpArgs false
set_option linter.unusedSectionVars false
namespace Go.Proofs.Ytdehanjhphfanaa
open Go.RowKit
/-! ### what a server answers for an identifier, having dropped who does not live -/
def anO (l : List Mb) (n : Nd) (x : Id) : Bool := !decide ((td1 l n).pr = nMb) && inB x (td1 l n).pr.2 (td1 l n).me.2
def anM (l : List Mb) (n : Nd) (x : Id) : Mb := bif anO l n x then n.me else nxM (td1 l n) x
/-! ### a walk: whom it asks, where it ends -/
def nowK (L : List N3) (x : Id) (no : Int) : Nat → Int
  | 0 => no
  | k + 1 => (anM (memL L) (getL L (nowK L x no k)).1 x).1
/-! ### what is told from outside -/
end Go.Proofs.Ytdehanjhphfanaa

namespace Go.Proofs.Ytdehanjhphfanaa
open Go.RowKit
/-! ### of an overlay that is stable -/
/-! ### the way there -/
end Go.Proofs.Ytdehanjhphfanaa

namespace Go.Proofs.Ytdehanjhphfanaa
open Go.RowKit
/-! ### the reference's answer of a walk, as a row of cells -/
section
variable {P : Program} {ρ : Operand → Value} {d : Option Tmp} {ty : TypeId} {pos : String} {af : Array Edge} {g : Option (Nat × Bool)} {x y z : Operand} {t : TypeId}
end
/-! ### what walks and keepers come to, in memory -/
abbrev intC (l : List Int) : List Value := l.map (Value.int .i64)
/-! one that is alone finds itself -/
/-! with more hops -/
end Go.Proofs.Ytdehanjhphfanaa

namespace Go.Proofs.Ytdehanjhphfanaa
open Go.RowKit
/-! ### maps of numbers to values, as rows of keys and values -/
section
variable {P : Program} {ops : Array Oper} {Q : Act → World → Prop} {K : Act → World → Prop} {l : List Oper} {a : Act} {w w0 : World} {N : Nat} {L : List (Nat × Value)} {Df : List Deferred} {B : List Own} {d : Tmp} {ty : TypeId} {pos : String} {af : Array Edge} {x y z : Operand} {t kt et : TypeId}
end
/-! members by their numbers -/
/-! whom a walk finds lives, and so does each that is asked -/
/-! the way in one that is stable -/
end Go.Proofs.Ytdehanjhphfanaa

namespace Go.Proofs.Ytdehanjhphfanaa
open Go.RowKit
/-! ### the law of resources, each operation with something said beside its value (what a call hands out, and no value tells) -/
section
variable {P : Program} {ro : Option Nat} {ops : List Oper} {cls cons : List (List Nat)} {a0 : Act} {Q : Exit → Act → World → Prop} {w0 w1 : World} {γ : Type} [Inhabited γ]
def mskG (l : List Nat) (val : Nat → Value × γ) : Nat → Value × γ := fun j => bif l.any (Nat.beq j) then val j else (undef, default)
abbrev ResG (γ : Type) := (Nat → Value × γ) → List Own
abbrev FctG (γ : Type) := (Nat → Value × γ) → Prop
/-- the memory of operation j, or of what was there ahead -/
def resG (ops : List Oper) (cls : List (List Nat)) (Rs : List (ResG γ)) (I0 : List (List Own)) (val : Nat → Value × γ) (j : Nat) : List Own :=
  bif Nat.blt j ops.length then (Rs.getD j fun _ => []) (mskG (j :: cls.getD j []) val) else I0.getD (j - ops.length) []
def fctG (cls : List (List Nat)) (Fs : List (FctG γ)) (val : Nat → Value × γ) (j : Nat) : Prop := (Fs.getD j fun _ => True) (mskG (j :: cls.getD j []) val)
structure JG (ops : List Oper) (cls cons : List (List Nat)) (q : Nat) (Rs : List (ResG γ)) (I0 : List (List Own)) (Fs : List (FctG γ)) (Bs : List Own) (w0 : World) (a0 : Act) (m : Nat) (listed : Array Bool) (a : Act) (w : World) (val : Nat → Value × γ) : Prop where
  size : a.tmps.size = a0.tmps.size
  defers : a.defers = a0.defers
  lsize : listed.size = ops.length
  tail : ∀ i, m ≤ i → listed.getD i false = false
  done : ∀ i d, dstOf ops i = some d → listed.getD i false = true → a.tmps.getD d undef = (val i).1
  rest : ∀ t, (∀ j, dstOf ops j = some t → listed.getD j false = false) → a.tmps.getD t undef = a0.tmps.getD t undef
  closed : ∀ i, listed.getD i false = true → ∀ j ∈ cls.getD i [], listed.getD j false = true
  facts : ∀ i, listed.getD i false = true → fctG cls Fs val i
  st : St w0 (((List.range (ops.length + q)).filter (liveC ops cons fun j => listed.getD j false)).flatMap (resG ops cls Rs I0 val) ++ Bs) w
end
end Go.Proofs.Ytdehanjhphfanaa

namespace Go.Proofs.Ytdehanjhphfanaa
open Go.RowKit
/-! ### fingers set: what is stable stays such -/
/-! numbers of pairs -/
theorem tm_N (m : Int) {N : Int} (h : 1 ≤ N) : -N < m.tmod N ∧ m.tmod N < N := ⟨Int.lt_tmod_of_pos m (by omega), Int.tmod_lt_of_pos m (by omega)⟩
/-! what is handed out -/
section
variable {P : Program} {a : Act} {w w0 : World} {N : Nat} {L : List (Nat × Value)} {B : List Own} {fn : Func}
end
end Go.Proofs.Ytdehanjhphfanaa

namespace Go.Proofs.Ytdehanjhphfanaa
open Go.RowKit
/-! ### where a server lies, and who does not live -/
/-! ### steps: each an answer, compared to the one ahead -/
/-! ### who keeps -/
section
variable {P : Program} {fn : Func} {w w0 : World} {N : Nat} {a : Act} {L : List (Nat × Value)} {B : List Own}
end
end Go.Proofs.Ytdehanjhphfanaa
