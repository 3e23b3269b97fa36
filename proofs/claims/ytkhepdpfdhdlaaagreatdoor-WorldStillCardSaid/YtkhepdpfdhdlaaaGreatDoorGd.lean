/- What is judged of messages about triggers; no Go in it. -/
import Derived.Test.YtkhepdpfdhdlaaaGreatDoorWr
set_option linter.unusedVariables false
set_option linter.unusedSimpArgs false
set_option linter.unusedSectionVars false
namespace Go.Proofs.YtkhepdpfdhdlaaaGreatDoor
open Go.RowKit
def KQ (m:Mg):Bool:=dI m && (decide (m.k=2) || (decide (m.k=4) || decide (m.k=6)))
def ncG (s:ByteArray) (m:Mg):ByteArray:=T6 s m.i m.t.2.2.toNat
def aa2 (s:ByteArray) (m:Mg):Mg:=⟨3,m.i,m.t,[],0,ncG s m,⟨#[]⟩⟩
def Sy (s:ByteArray) (m:Mg):Int:=bif decide (m.t.1=1) then (bif decide (m.k=2) && TR m.i m.t.2.1 then 2 else 4) else bif decide (m.k=2) then 1 else bif decide (m.o=ncG s m) then (bif decide (m.k=4) then 2 else 3) else 4
def ZP (s:ByteArray) (m:Mg):Mg:=bif !decide (m.t.1=1) && decide (m.k=2) then aa2 s m else mZ
def S4 (m:Mg) (now:Int):Tg:=(m.i,m.t,min (now+m.n) 1099511627776)
theorem Nf:List.replicate 32 (Value.int .u8 0)=(aI 0#256).toList:=by rw [ei];rfl
section
variable {P:Program} {ρ:Operand->Value} {d:Option Tmp} {ty:TypeId} {pos:String} {af:Array Edge} {g:Option (Nat × Bool)} {y0 y1 y2 y3 y4 y5 y6:Operand} {t:TypeId}
theorem ld {l:List dN} {v:Value} (hv:v.cells.size=1) (hc:v.cells.toList=[v]) {k:Int} {n:Int} {b:ByteArray} (S:Stt P t VC) (h0:ρ y0=.int .i64 k) (h3:ρ y3=v) (h4:ρ y4=.int .i64 n) (h6:ρ y6=.string b):a7 P ⟨d,.build t #[(0,y0),(3,y3),(4,y4),(6,y6)],ty,pos,af,g⟩ ρ (.agg (eh ⟨k,0#256,(0,0#256,0),l,n,⟨#[]⟩,b⟩ v)):=by
 have:=bk (P:=P) (ρ:=ρ) (d:=d) (ty:=ty) (pos:=pos) (af:=af) (g:=g) (parts:=#[(0,y0),(3,y3),(4,y4),(6,y6)]) S [(0,.int .i64 k),(3,v),(4,.int .i64 n),(6,.string b)] (by simp [h0,h3,h4,h6]) (λj u hm=>by
  simp only [at1,ax3,at4,or_false] at hm
  rcases hm with ⟨rfl,rfl⟩|⟨rfl,rfl⟩|⟨rfl,rfl⟩|⟨rfl,rfl⟩
  ·exact ⟨_,rfl,rfl⟩
  ·exact ⟨_,rfl,hv⟩
  ·exact ⟨_,rfl,rfl⟩
  ·exact ⟨_,rfl,rfl⟩) (D:=(eh ⟨k,0#256,(0,0#256,0),l,n,⟨#[]⟩,b⟩ v).toList) (by
   show [Value.int .i64 k]++(List.replicate 32 (Value.int .u8 0)++((Value.int .i64 0::(List.replicate 32 (Value.int .u8 0)++[Value.int .i64 0]))++(v.cells.toList++([Value.int .i64 n]++([Value.string ⟨#[]⟩]++([Value.string b]++[]))))))=_
   rw [z34,Nf,hc];rfl)
 exact this
end
theorem C8:(eh mZ au).toList=VC.flatten:=by
 have:eh mZ au=VC.flatten.toArray:=tT
 rw [this]
section
variable {P:Program} {ρ:Operand->Value} {d:Option Tmp} {ty:TypeId} {pos:String} {af:Array Edge} {g:Option (Nat × Bool)} {x y:Operand} {t:TypeId}
end
section
variable {P:Program} {a:Act} {w w0:World} {N:Nat} {L:List (Nat × Value)} {B:List Own} {fn:Func} {t:TypeId}
end
def ZQ:Value->Nat
 |.map (some b)=>b
 |_=>0
section
variable {P:Program} {ops:Array Oper} {Q:Act->World->Prop} {l:List Oper} {a:Act} {w w0:World} {N:Nat} {L:List (Nat × Value)} {Df:List Deferred} {B:List Own} {d:Tmp} {ty:TypeId} {pos:String} {af:Array Edge} {x y z:Operand} {t:TypeId}
end
end Go.Proofs.YtkhepdpfdhdlaaaGreatDoor
