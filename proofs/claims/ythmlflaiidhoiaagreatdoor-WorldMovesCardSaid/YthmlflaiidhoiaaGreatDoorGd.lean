/- What is judged of messages about triggers; no Go in it. -/
import Derived.Test.YthmlflaiidhoiaaGreatDoorWr
set_option linter.unusedVariables false
set_option linter.unusedSimpArgs false
set_option linter.unusedSectionVars false
namespace Go.Proofs.YthmlflaiidhoiaaGreatDoor
open Go.RowKit
def NC (m:Mg):Bool:=ey m && (decide (m.k=2) || (decide (m.k=4) || decide (m.k=6)))
def ncG (s:ByteArray) (m:Mg):ByteArray:=Vg s m.i m.t.2.2.toNat
def aw0 (s:ByteArray) (m:Mg):Mg:=⟨3,m.i,m.t,[],0,ncG s m,⟨#[]⟩⟩
def XH (s:ByteArray) (m:Mg):Int:=bif decide (m.t.1=1) then (bif decide (m.k=2) && VX m.i m.t.2.1 then 2 else 4) else bif decide (m.k=2) then 1 else bif decide (m.o=ncG s m) then (bif decide (m.k=4) then 2 else 3) else 4
def av3 (s:ByteArray) (m:Mg):Mg:=bif !decide (m.t.1=1) && decide (m.k=2) then aw0 s m else mZ
def XR (m:Mg) (now:Int):Tg:=(m.i,m.t,min (now+m.n) 1099511627776)
theorem Q2:List.replicate 32 (Value.int .u8 0)=(aH 0#256).toList:=by rw [eJ];rfl
section
variable {P:Program} {ρ:Operand->Value} {d:Option Tmp} {ty:TypeId} {pos:String} {af:Array Edge} {g:Option (Nat × Bool)} {y0 y1 y2 y3 y4 y5 y6:Operand} {t:TypeId}
theorem lY {l:List dN} {v:Value} (hv:v.cells.size=1) (hc:v.cells.toList=[v]) {k:Int} {n:Int} {b:ByteArray} (S:Stt P t Yh) (h0:ρ y0=.int .i64 k) (h3:ρ y3=v) (h4:ρ y4=.int .i64 n) (h6:ρ y6=.string b):aZ P ⟨d,.build t #[(0,y0),(3,y3),(4,y4),(6,y6)],ty,pos,af,g⟩ ρ (.agg (eG ⟨k,0#256,(0,0#256,0),l,n,⟨#[]⟩,b⟩ v)):=by
 have:=bw (P:=P) (ρ:=ρ) (d:=d) (ty:=ty) (pos:=pos) (af:=af) (g:=g) (parts:=#[(0,y0),(3,y3),(4,y4),(6,y6)]) S [(0,.int .i64 k),(3,v),(4,.int .i64 n),(6,.string b)] (by simp [h0,h3,h4,h6]) (λj u hm=>by
  simp only [aI6,aM8,aI9,or_false] at hm
  rcases hm with ⟨rfl,rfl⟩|⟨rfl,rfl⟩|⟨rfl,rfl⟩|⟨rfl,rfl⟩
  ·exact ⟨_,rfl,rfl⟩
  ·exact ⟨_,rfl,hv⟩
  ·exact ⟨_,rfl,rfl⟩
  ·exact ⟨_,rfl,rfl⟩) (D:=(eG ⟨k,0#256,(0,0#256,0),l,n,⟨#[]⟩,b⟩ v).toList) (by
   show [Value.int .i64 k]++(List.replicate 32 (Value.int .u8 0)++((Value.int .i64 0::(List.replicate 32 (Value.int .u8 0)++[Value.int .i64 0]))++(v.cells.toList++([Value.int .i64 n]++([Value.string ⟨#[]⟩]++([Value.string b]++[]))))))=_
   rw [z34,Q2,hc];rfl)
 exact this
end
theorem FL:(eG mZ ax).toList=Yh.flatten:=by
 have:eG mZ ax=Yh.flatten.toArray:=wj
 rw [this]
section
variable {P:Program} {ρ:Operand->Value} {d:Option Tmp} {ty:TypeId} {pos:String} {af:Array Edge} {g:Option (Nat × Bool)} {x y:Operand} {t:TypeId}
end
section
variable {P:Program} {a:Act} {w w0:World} {N:Nat} {L:List (Nat × Value)} {B:List Own} {fn:Func} {t:TypeId}
end
def mbk:Value->Nat
 |.map (some b)=>b
 |_=>0
section
variable {P:Program} {ops:Array Oper} {Q:Act->World->Prop} {l:List Oper} {a:Act} {w w0:World} {N:Nat} {L:List (Nat × Value)} {Df:List Deferred} {B:List Own} {d:Tmp} {ty:TypeId} {pos:String} {af:Array Edge} {x y z:Operand} {t:TypeId}
end
end Go.Proofs.YthmlflaiidhoiaaGreatDoor
