/- What a server answers, whom a walk asks and where it ends; in an overlay that is stable it ends with the one that it belongs to; maps of numbers to values; regions that draw their order, with something said beside a value; no Go in it. -/
import Derived.Test.YthjkhnhiciamaaaOw
set_option linter.unusedVariables false
set_option linter.unusedSimpArgs false
set_option linter.unusedSectionVars false
namespace Go.Proofs.Ythjkhnhiciamaaa
open Go.RowKit
/-! ### what a server answers for an identifier, having dropped who does not live -/
def anO (l : List Mb) (n : Nd) (x : Id) : Bool := !decide ((td1 l n).pr = nMb) && inB x (td1 l n).pr.2 (td1 l n).me.2
def anM (l : List Mb) (n : Nd) (x : Id) : Mb := bif anO l n x then n.me else nxM (td1 l n) x
/-! ### a walk: whom it asks, where it ends -/
def nowK (L : List N3) (x : Id) (no : Int) : Nat → Int
  | 0 => no
  | k + 1 => (anM (memL L) (getL L (nowK L x no k)).1 x).1
/-! ### what is told from outside -/
end Go.Proofs.Ythjkhnhiciamaaa

namespace Go.Proofs.Ythjkhnhiciamaaa
open Go.RowKit
/-! ### the reference's answer of a walk, as a row of cells -/
section
variable {P : Program} {ρ : Operand → Value} {d : Option Tmp} {ty : TypeId} {pos : String} {af : Array Edge} {g : Option (Nat × Bool)} {x y z : Operand} {t : TypeId}
end
/-! ### what walks and keepers come to, in memory -/
abbrev intC (l : List Int) : List Value := l.map (Value.int .i64)
/-! one that is alone finds itself -/
/-! with more hops -/
end Go.Proofs.Ythjkhnhiciamaaa
