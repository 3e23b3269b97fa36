/- What a server answers, whom a walk asks and where it ends; in an overlay that is stable it ends with the one that it belongs to; maps of numbers to values; regions that draw their order, with something said beside a value; no Go in it. -/
import Derived.Test.YtobfeflheaobiaaDoorOw
set_option linter.unusedVariables false
set_option linter.unusedSimpArgs false
set_option linter.unusedSectionVars false
namespace Go.Proofs.YtobfeflheaobiaaDoor
open Go.RowKit
/-! ### what a server answers for an identifier, having dropped who does not live -/
def anO (l : List Mb) (n : Nd) (x : Id) : Bool := !decide ((td1 l n).pr = nMb) && inB x (td1 l n).pr.2 (td1 l n).me.2
def anM (l : List Mb) (n : Nd) (x : Id) : Mb := bif anO l n x then n.me else nxM (td1 l n) x
/-! ### a walk: whom it asks, where it ends -/
def nowK (L : List N3) (x : Id) (no : Int) : Nat → Int
  | 0 => no
  | k + 1 => (anM (memL L) (getL L (nowK L x no k)).1 x).1
/-! ### what is told from outside -/
end Go.Proofs.YtobfeflheaobiaaDoor

namespace Go.Proofs.YtobfeflheaobiaaDoor
open Go.RowKit
/-! ### of an overlay that is stable -/
/-! ### the way there -/
end Go.Proofs.YtobfeflheaobiaaDoor

namespace Go.Proofs.YtobfeflheaobiaaDoor
open Go.RowKit
/-! ### the reference's answer of a walk, as a row of cells -/
section
variable {P : Program} {ρ : Operand → Value} {d : Option Tmp} {ty : TypeId} {pos : String} {af : Array Edge} {g : Option (Nat × Bool)} {x y z : Operand} {t : TypeId}
end
/-! ### what walks and keepers come to, in memory -/
abbrev intC (l : List Int) : List Value := l.map (Value.int .i64)
/-! one that is alone finds itself -/
/-! with more hops -/
end Go.Proofs.YtobfeflheaobiaaDoor

namespace Go.Proofs.YtobfeflheaobiaaDoor
open Go.RowKit
/-! ### maps of numbers to values, as rows of keys and values -/
section
variable {P : Program} {ops : Array Oper} {Q : Act → World → Prop} {K : Act → World → Prop} {l : List Oper} {a : Act} {w w0 : World} {N : Nat} {L : List (Nat × Value)} {Df : List Deferred} {B : List Own} {d : Tmp} {ty : TypeId} {pos : String} {af : Array Edge} {x y z : Operand} {t kt et : TypeId}
end
/-! members by their numbers -/
/-! whom a walk finds lives, and so does each that is asked -/
/-! the way in one that is stable -/
end Go.Proofs.YtobfeflheaobiaaDoor

namespace Go.Proofs.YtobfeflheaobiaaDoor
/-! the law with something said beside a value is c_regG (EngC) -/
end Go.Proofs.YtobfeflheaobiaaDoor

namespace Go.Proofs.YtobfeflheaobiaaDoor
open Go.RowKit
/-! ### fingers set: what is stable stays such -/
/-! numbers of pairs -/
theorem tm_N (m : Int) {N : Int} (h : 1 ≤ N) : -N < m.tmod N ∧ m.tmod N < N := ⟨Int.lt_tmod_of_pos m (by omega), Int.tmod_lt_of_pos m (by omega)⟩
/-! what is handed out -/
section
variable {P : Program} {a : Act} {w w0 : World} {N : Nat} {L : List (Nat × Value)} {B : List Own} {fn : Func}
theorem e_tmp_row_tmp {T : Asrt} {p q r : Tmp} {t : TypeId} {b n : Nat} {C : Array Value} {u : TypeId} {V U : Value} (i : Nat) (hres : fn.results = #[.tmp q, .cell p t, .tmp r]) (h : Sl N a L) (s : St w0 B w) (hr : Row P t n) (hq : lk L q = some V) (hp : lk L p = some (.pointer (some ⟨b, 0, none⟩))) (hi : B[i]? = some (.blk b (.cells C u))) (hn : C.size = n)
    (hu : lk L r = some U) (hT : T (.tuple #[V, .agg C, U]) w) : bodyPost P fn (Ret w0 T) .ret a w := by
  refine ⟨h.defers, .tuple #[V, .agg C, U], ?_, _, rfl, hT, s.ext⟩
  have hp' : a.tmps[p]?.getD undef = .pointer (some ⟨b, 0, none⟩) := by simpa using h.holds p _ hp
  have hq' : a.tmps[q]?.getD undef = V := by simpa using h.holds q _ hq
  have hu' : a.tmps[r]?.getD undef = U := by simpa using h.holds r _ hu
  simp [results, hres, hp', hq', hu', asAddr, run_load_row hr w b C u (0, 0) (s.get i hi) hn]
end
end Go.Proofs.YtobfeflheaobiaaDoor

namespace Go.Proofs.YtobfeflheaobiaaDoor
open Go.RowKit
/-! ### where a server lies, and who does not live -/
/-! ### steps: each an answer, compared to the one ahead -/
/-! ### who keeps -/
section
variable {P : Program} {fn : Func} {w w0 : World} {N : Nat} {a : Act} {L : List (Nat × Value)} {B : List Own}
end
end Go.Proofs.YtobfeflheaobiaaDoor
