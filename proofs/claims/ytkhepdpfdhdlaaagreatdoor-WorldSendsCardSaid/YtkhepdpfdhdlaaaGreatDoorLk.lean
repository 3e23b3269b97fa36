/- What a server answers, whom a walk asks and where it ends; in an overlay that is stable it ends with the one that it belongs to; maps of numbers to values; regions that draw their order, with something said beside a value; no Go in it. -/
import Derived.Test.YtkhepdpfdhdlaaaGreatDoorOw
set_option linter.unusedVariables false
set_option linter.unusedSimpArgs false
set_option linter.unusedSectionVars false
namespace Go.Proofs.YtkhepdpfdhdlaaaGreatDoor
open Go.RowKit
def Xd (l:List Mb) (n:Nd) (x:Id):Bool := !decide ((fD l n).pr=fc) && L4 x (fD l n).pr.2 (fD l n).me.2
def Xl (l:List Mb) (n:Nd) (x:Id):Mb:=bif Xd l n x then n.me else X7 (fD l n) x
def X4 (l:List Mb) (n:Nd) (x:Id):Bool:=Xd l n x || XW (fD l n) x
def nowK (L:List N3) (x:Id) (no:Int):Nat->Int
 |0=>no
 |k+1=>(Xl (aI L) (cb L (nowK L x no k)).1 x).1
def RX (L:List N3) (x:Id) (no:Int) (k:Nat):Mb:=Xl (aI L) (cb L (nowK L x no k)).1 x
def Ui (L:List N3) (x:Id) (no:Int) (k:Nat):Bool:=X4 (aI L) (cb L (nowK L x no k)).1 x
def Vl (L:List N3) (x:Id) (no:Int) (k:Nat):Bool:=Ui L x no k || decide ((RX L x no k).1=nowK L x no k)
def SG (L:List N3) (x:Id) (no:Int) (hops:Nat):Option Nat:=(List.range (hops+1)).find? (Vl L x no)
def W1 (L:List N3) (x:Id) (no:Int) (hops:Nat):Int:=
 bif cC (aI L) no then (match SG L x no hops with|some k=>bif Ui L x no k then 0 else 13|none=>9) else 10
def XT (L:List N3) (x:Id) (no:Int) (hops:Nat):Mb:=bif decide (W1 L x no hops=0) then RX L x no ((SG L x no hops).getD 0) else bE
def SW (L:List N3) (hops:Int):Bool:=lD L && (decide (0<=hops) && decide (hops<=16))
def Ww (L:List N3) (x:Id) (no hops:Int):Int:=bif SW L hops then W1 L x no hops.toNat else 1
def V7 (L:List N3) (x:Id) (no hops:Int):Mb:=bif SW L hops then XT L x no hops.toNat else bE
section
variable {P:Program} {ρ:Operand->Value} {d:Option Tmp} {ty:TypeId} {pos:String} {af:Array Edge} {g:Option (Nat × Bool)} {x y z:Operand} {t:TypeId}
end
def Xi (es:List (Int × Value)):Array MapEntry:=(es.zipIdx.map λp=>{key:=Value.int .i64 p.1.1,val:=p.1.2,born:=p.2}).toArray
abbrev WT (es:List (Int × Value)):Obj:=.map (Xi es) es.length
section
variable {P:Program} {ops:Array Oper} {Q:Act->World->Prop} {K:Act->World->Prop} {l:List Oper} {a:Act} {w w0:World} {N:Nat} {L:List (Nat × Value)} {Df:List Deferred} {B:List Own} {d:Tmp} {ty:TypeId} {pos:String} {af:Array Edge} {x y z:Operand} {t kt et:TypeId}
end
end Go.Proofs.YtkhepdpfdhdlaaaGreatDoor
