/- Closed facts of the program: the card. -/
import Derived.Test.YtkhepdpfdhdlaaaGreatDoorCards
import Derived.Test.YtkhepdpfdhdlaaaGreatDoorTie
import Derived.ProofKit
import Derived.OpenShut
import Derived.JoinedOf
import Derived.LaidMore
import Derived.SevenTiedAt
import Derived.Stop.Joined
import Derived.MakeChecks
import Derived.ChangeMaps5
namespace Go.Proofs.YtkhepdpfdhdlaaaGreatDoor
open Go.ChangeShapes Go.WideShapes Go.ChangeAt Go.RowKit
theorem jfcw:Rows.worldSendsRow.wfByText (OpenSpec.ofChange Rows.worldSendsSpec)=true:=by kernel_rfl
theorem jfcm:Tryz.prog.mainIs=some (true,"4894acd503a233b080d23c052fc3577bd033e972f5b171901c8919184a23fb19".toList):=by kernel_rfl
theorem jfcn:Tryz.prog.funcNamed Tryz.f5.name=some 5:=by kernel_rfl
theorem jfcs:([31,3,34,9].all λu => !Tryz.prog.wantsStandIn u)=true:=by kernel_rfl
theorem goesNone {P:Program} (h:P.funcs.any Func.goes=false) (f:FuncId):P.goes f=false:=by
 unfold Program.goes
 rw [h,Bool.and_false,Bool.or_false,List.any_eq_false]
 intro g _
 cases hg:P.funcs[g]? with
 | none => simp
 | some fn =>
  rw [Array.any_eq_false'] at h
  simp only [Option.any_some]
  exact h fn (Array.mem_of_getElem? hg)
theorem goesAtNone {P:Program} (h:P.funcs.any Func.goes=false) (n:String):P.goesAt .entering n=false:=by
 unfold Program.goesAt Program.goesFrom
 cases P.funcNamed n with
 | none => rfl
 | some f => simp [goesNone h f]
theorem jfcgo:Tryz.prog.funcs.any Func.goes=false:=by kernel_rfl
theorem jfcg:false=Rows.worldSendsRow.goesBy Tryz.prog:=(goesAtNone jfcgo _).symm
theorem jfcl:true=Tryz.prog.looks []:=by kernel_rfl
end Go.Proofs.YtkhepdpfdhdlaaaGreatDoor
