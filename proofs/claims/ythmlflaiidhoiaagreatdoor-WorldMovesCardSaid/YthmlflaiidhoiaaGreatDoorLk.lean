/- What a server answers and where a walk ends; maps of numbers to values; drawn regions. -/
import Derived.Test.YthmlflaiidhoiaaGreatDoorOw
set_option linter.unusedVariables false
set_option linter.unusedSimpArgs false
set_option linter.unusedSectionVars false
namespace Go.Proofs.YthmlflaiidhoiaaGreatDoor
open Go.RowKit
def anO (l:List Mb) (n:Nd) (x:Id):Bool := !decide ((Ym l n).pr=i1) && zb x (Ym l n).pr.2 (Ym l n).me.2
def anM (l:List Mb) (n:Nd) (x:Id):Mb:=bif anO l n x then n.me else nxM (Ym l n) x
def anB (l:List Mb) (n:Nd) (x:Id):Bool:=anO l n x || nxB (Ym l n) x
def nowK (L:List N3) (x:Id) (no:Int):Nat->Int
 |0=>no
 |k+1=>(anM (aN L) (kE L (nowK L x no k)).1 x).1
def Ze (L:List N3) (x:Id) (no:Int) (k:Nat):Mb:=anM (aN L) (kE L (nowK L x no k)).1 x
def ae1 (L:List N3) (x:Id) (no:Int) (k:Nat):Bool:=anB (aN L) (kE L (nowK L x no k)).1 x
def ax6 (L:List N3) (x:Id) (no:Int) (k:Nat):Bool:=ae1 L x no k || decide ((Ze L x no k).1=nowK L x no k)
def Y6 (L:List N3) (x:Id) (no:Int) (hops:Nat):Option Nat:=(List.range (hops+1)).find? (ax6 L x no)
def wlE (L:List N3) (x:Id) (no:Int) (hops:Nat):Int:=
 bif dd (aN L) no then (match Y6 L x no hops with|some k=>bif ae1 L x no k then 0 else 13|none=>9) else 10
def wlM (L:List N3) (x:Id) (no:Int) (hops:Nat):Mb:=bif decide (wlE L x no hops=0) then Ze L x no ((Y6 L x no hops).getD 0) else bH
def Zx (L:List N3) (hops:Int):Bool:=kK L && (decide (0<=hops) && decide (hops<=16))
def wkE (L:List N3) (x:Id) (no hops:Int):Int:=bif Zx L hops then wlE L x no hops.toNat else 1
def wkM (L:List N3) (x:Id) (no hops:Int):Mb:=bif Zx L hops then wlM L x no hops.toNat else bH
theorem Gb {l:List Mb} (h:Rg l) {no:Int} (hl:dd l no=true):∃ m∈l,m.1=no:=(mX λy hy=>(h.nos y hy).1).1 hl
section
variable {P:Program} {ρ:Operand->Value} {d:Option Tmp} {ty:TypeId} {pos:String} {af:Array Edge} {g:Option (Nat × Bool)} {x y z:Operand} {t:TypeId}
end
def kvE (es:List (Int × Value)):Array MapEntry:=(es.zipIdx.map λp=>{key:=Value.int .i64 p.1.1,val:=p.1.2,born:=p.2}).toArray
abbrev KvO (es:List (Int × Value)):Obj:=.map (kvE es) es.length
section
variable {P:Program} {ops:Array Oper} {Q:Act->World->Prop} {K:Act->World->Prop} {l:List Oper} {a:Act} {w w0:World} {N:Nat} {L:List (Nat × Value)} {Df:List Deferred} {B:List Own} {d:Tmp} {ty:TypeId} {pos:String} {af:Array Edge} {x y z:Operand} {t kt et:TypeId}
end
theorem as5 (m:Int) {N:Int} (h:1<=N) : -N<m.tmod N/\m.tmod N<N:=⟨Int.lt_tmod_of_pos m (by omega),Int.tmod_lt_of_pos m (by omega)⟩
section
variable {P:Program} {a:Act} {w w0:World} {N:Nat} {L:List (Nat × Value)} {B:List Own} {fn:Func}
end
end Go.Proofs.YthmlflaiidhoiaaGreatDoor
