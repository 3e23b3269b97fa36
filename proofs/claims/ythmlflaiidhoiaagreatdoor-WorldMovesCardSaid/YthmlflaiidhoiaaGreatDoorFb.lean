/- Closed facts of the program: the card. -/
import Derived.Test.YthmlflaiidhoiaaGreatDoorCards
import Derived.Test.YthmlflaiidhoiaaGreatDoorTie
import Derived.ProofKit
import Derived.OpenShut
import Derived.JoinedOf
import Derived.LaidMore
import Derived.SevenTiedAt
import Derived.Stop.Joined
import Derived.MakeChecks
import Derived.ChangeMaps5
namespace Go.Proofs.YthmlflaiidhoiaaGreatDoor
open Go.ChangeShapes Go.WideShapes Go.ChangeAt Go.RowKit
theorem jfcw:Rows.worldMovesRow.wfByText (OpenSpec.ofChange Rows.worldMovesSpec)=true:=by kernel_rfl
theorem jfcm:Tryz.prog.mainIs=some (true,"4f42a19161766d0781ad6fb7f0a02d978bcb90608a7eaf74f26081a81099af5c".toList):=by kernel_rfl
theorem jfcn:Tryz.prog.funcNamed Tryz.f4.name=some 4:=by kernel_rfl
theorem jfcs:([31,45].all λu => !Tryz.prog.wantsStandIn u)=true:=by kernel_rfl
theorem goesNone {P:Program} (h:P.funcs.any Func.goes=false) (f:FuncId):P.goes f=false:=by
 unfold Program.goes
 rw [h,Bool.and_false,Bool.or_false,List.any_eq_false]
 intro g _
 cases hg:P.funcs[g]? with
 | none => simp
 | some fn =>
  rw [Array.any_eq_false'] at h
  simp only [Option.any_some]
  exact h fn (Array.mem_of_getElem? hg)
theorem goesAtNone {P:Program} (h:P.funcs.any Func.goes=false) (n:String):P.goesAt .entering n=false:=by
 unfold Program.goesAt Program.goesFrom
 cases P.funcNamed n with
 | none => rfl
 | some f => simp [goesNone h f]
theorem jfcgo:Tryz.prog.funcs.any Func.goes=false:=by kernel_rfl
theorem jfcg:false=Rows.worldMovesRow.goesBy Tryz.prog:=(goesAtNone jfcgo _).symm
theorem jfcl:true=Tryz.prog.looks []:=by kernel_rfl
end Go.Proofs.YthmlflaiidhoiaaGreatDoor
