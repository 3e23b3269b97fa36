/- Where a packet comes to in the end. -/
import Derived.Test.YthmlflaiidhoiaaGreatDoorRw
set_option linter.unusedVariables false
set_option linter.unusedSimpArgs false
set_option linter.unusedSectionVars false
namespace Go.Proofs.YthmlflaiidhoiaaGreatDoor
open Go.RowKit
@[ext] structure Cn where
  hs:Nat->Nat
  lost:Nat
  hops:Nat
  work:Nat
namespace Cn
def zero:Cn:=⟨λ_=>0,0,0,0⟩
end Cn
end Go.Proofs.YthmlflaiidhoiaaGreatDoor
namespace Go.Proofs.YthmlflaiidhoiaaGreatDoor
open Go.RowKit
structure COk (c:Cn):Prop where
 hs:∀ h,c.hs h<=c.work
 lost:c.lost<=c.work
 hops:c.hops<=c.work
 work:c.work<=1001
section
variable {P:Program} {ρ:Operand->Value} {d:Option Tmp} {ty:TypeId} {pos:String} {af:Array Edge} {g:Option (Nat × Bool)} {x y z:Operand} {t:TypeId}
end
structure Sd where
 hosts:List Int
 lost:Int
 hops:Int
 work:Int
deriving DecidableEq
theorem BY {v:Value} (h:v.oneCell'=true):v.cells.size=1/\v.cells.toList=[v]:=by cases v<;>first|exact ⟨rfl,rfl⟩|cases h
section
variable {ro:Option Nat} {P:Program} {ops:Array Oper} {Q:Act->World->Prop} {l:List Oper} {a:Act} {w w0:World} {N:Nat} {L:List (Nat × Value)} {Df:List Deferred} {B:List Own} {d:Tmp} {ty:TypeId} {pos:String} {af:Array Edge} {x y:Operand} {t e:TypeId}
end
section
variable {ro:Option Nat} {P:Program} {ops:Array Oper} {Q:Act->World->Prop} {l:List Oper} {a:Act} {w w0:World} {N:Nat} {L:List (Nat × Value)} {Df:List Deferred} {B:List Own} {d:Tmp} {ty:TypeId} {pos:String} {af:Array Edge} {x y:Operand} {t t' e:TypeId}
end
structure CB (c:Cn) (m:Nat):Prop where
 hs:∀ h,c.hs h<=m
 lost:c.lost<=m
 hops:c.hops<=m
section
variable {P:Program} {ρ:Operand->Value} {d:Option Tmp} {ty:TypeId} {pos:String} {af:Array Edge} {g:Option (Nat × Bool)} {x y z u:Operand} {t:TypeId}
end
end Go.Proofs.YthmlflaiidhoiaaGreatDoor
