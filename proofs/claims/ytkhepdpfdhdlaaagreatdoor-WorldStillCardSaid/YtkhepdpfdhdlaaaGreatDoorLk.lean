/- What a server answers, whom a walk asks and where it ends; in an overlay that is stable it ends with the one that it belongs to; maps of numbers to values; regions that draw their order, with something said beside a value; no Go in it. -/
import Derived.Test.YtkhepdpfdhdlaaaGreatDoorOw
set_option linter.unusedVariables false
set_option linter.unusedSimpArgs false
set_option linter.unusedSectionVars false
namespace Go.Proofs.YtkhepdpfdhdlaaaGreatDoor
open Go.RowKit
def anO (l:List Mb) (n:Nd) (x:Id):Bool := !decide ((dT l n).pr=fe) && x8 x (dT l n).pr.2 (dT l n).me.2
def anM (l:List Mb) (n:Nd) (x:Id):Mb:=bif anO l n x then n.me else nxM (dT l n) x
def anB (l:List Mb) (n:Nd) (x:Id):Bool:=anO l n x || nxB (dT l n) x
def nowK (L:List N3) (x:Id) (no:Int):Nat->Int
 |0=>no
 |k+1=>(anM (aQ L) (cx L (nowK L x no k)).1 x).1
def WQ (L:List N3) (x:Id) (no:Int) (k:Nat):Mb:=anM (aQ L) (cx L (nowK L x no k)).1 x
def XL (L:List N3) (x:Id) (no:Int) (k:Nat):Bool:=anB (aQ L) (cx L (nowK L x no k)).1 x
def ZH (L:List N3) (x:Id) (no:Int) (k:Nat):Bool:=XL L x no k || decide ((WQ L x no k).1=nowK L x no k)
def Xj (L:List N3) (x:Id) (no:Int) (hops:Nat):Option Nat:=(List.range (hops+1)).find? (ZH L x no)
def wlE (L:List N3) (x:Id) (no:Int) (hops:Nat):Int:=
 bif ck (aQ L) no then (match Xj L x no hops with|some k=>bif XL L x no k then 0 else 13|none=>9) else 10
def wlM (L:List N3) (x:Id) (no:Int) (hops:Nat):Mb:=bif decide (wlE L x no hops=0) then WQ L x no ((Xj L x no hops).getD 0) else bz
def WS (L:List N3) (hops:Int):Bool:=kH L && (decide (0<=hops) && decide (hops<=16))
def wkE (L:List N3) (x:Id) (no hops:Int):Int:=bif WS L hops then wlE L x no hops.toNat else 1
def wkM (L:List N3) (x:Id) (no hops:Int):Mb:=bif WS L hops then wlM L x no hops.toNat else bz
section
variable {P:Program} {ρ:Operand->Value} {d:Option Tmp} {ty:TypeId} {pos:String} {af:Array Edge} {g:Option (Nat × Bool)} {x y z:Operand} {t:TypeId}
end
def kvE (es:List (Int × Value)):Array MapEntry:=(es.zipIdx.map λp=>{key:=Value.int .i64 p.1.1,val:=p.1.2,born:=p.2}).toArray
abbrev KvO (es:List (Int × Value)):Obj:=.map (kvE es) es.length
section
variable {P:Program} {ops:Array Oper} {Q:Act->World->Prop} {K:Act->World->Prop} {l:List Oper} {a:Act} {w w0:World} {N:Nat} {L:List (Nat × Value)} {Df:List Deferred} {B:List Own} {d:Tmp} {ty:TypeId} {pos:String} {af:Array Edge} {x y z:Operand} {t kt et:TypeId}
end
theorem ac2 (m:Int) {N:Int} (h:1<=N) : -N<m.tmod N/\m.tmod N<N:=⟨Int.lt_tmod_of_pos m (by omega),Int.tmod_lt_of_pos m (by omega)⟩
section
variable {P:Program} {a:Act} {w w0:World} {N:Nat} {L:List (Nat × Value)} {B:List Own} {fn:Func}
end
end Go.Proofs.YtkhepdpfdhdlaaaGreatDoor
