/- What is judged of messages about triggers; no Go in it. -/
import Derived.Test.YtkhepdpfdhdlaaaGreatDoorWr
set_option linter.unusedVariables false
set_option linter.unusedSimpArgs false
set_option linter.unusedSectionVars false
namespace Go.Proofs.YtkhepdpfdhdlaaaGreatDoor
open Go.RowKit
def qz (m:Mg):Bool:=cR m && (decide (m.k=2) || (decide (m.k=4) || decide (m.k=6)))
def Xe (s:ByteArray) (m:Mg):ByteArray:=Pw s m.i m.t.2.2.toNat
def Vt (s:ByteArray) (m:Mg):Mg:=⟨3,m.i,m.t,[],0,Xe s m,⟨#[]⟩⟩
def Pu (s:ByteArray) (m:Mg):Int:=bif decide (m.t.1=1) then (bif decide (m.k=2) && OV m.i m.t.2.1 then 2 else 4) else bif decide (m.k=2) then 1 else bif decide (m.o=Xe s m) then (bif decide (m.k=4) then 2 else 3) else 4
def Wi (s:ByteArray) (m:Mg):Mg:=bif !decide (m.t.1=1) && decide (m.k=2) then Vt s m else mZ
def Oa (m:Mg) (now:Int):Tg:=(m.i,m.t,min (now+m.n) 1099511627776)
theorem rB {m:Mg}:qz m=true↔cR m=true/\(m.k=2∨m.k=4∨m.k=6):=by
 unfold qz
 rw [Yw,Bool.or_eq_true,Bool.or_eq_true,YB,YB,YB]
theorem xQ {k:Int} {i:Id} {t:cO} {n:Int} {o:ByteArray} (ht:lY t=true) (h:(k=2/\0<=n/\n<=1099511627776/\o=⟨#[]⟩)∨(k=4/\0<=n/\n<=1099511627776/\o.size=16)∨(k=6/\n=0/\o.size=16)):qz ⟨k,i,t,[],n,o,⟨#[]⟩⟩=true:=by
 refine rB.2 ⟨?_,?_⟩
 ·rcases h with ⟨rfl,h1,h2,h3⟩|⟨rfl,h1,h2,h3⟩|⟨rfl,h1,h3⟩
  all_goals
   unfold cR c1 c2 c3 c4 c5 c6
   simp [yF,mQ,lS,kz,jg,pP,qg,ht,h1,h3]
  all_goals assumption
 ·rcases h with ⟨rfl,_⟩|⟨rfl,_⟩|⟨rfl,_⟩
  ·exact .inl rfl
  ·exact .inr (.inl rfl)
  ·exact .inr (.inr rfl)
theorem LG:List.replicate 32 (Value.int .u8 0)=(aA 0#256).toList:=by rw [dC];rfl
section
variable {P:Program} {ρ:Operand->Value} {d:Option Tmp} {ty:TypeId} {pos:String} {af:Array Edge} {g:Option (Nat × Bool)} {y0 y1 y2 y3 y4 y5 y6:Operand} {t:TypeId}
theorem pv {k:Int} {i:Id} {e:cO} {n:Int} (S:Stt P t P4) (h0:ρ y0=.int .i64 k) (h1:ρ y1=.agg (aA i)) (h2:ρ y2=.agg (co e)) (h4:ρ y4=.int .i64 n):aP P ⟨d,.build t #[(0,y0),(1,y1),(2,y2),(4,y4)],ty,pos,af,g⟩ ρ (.agg (cW ⟨k,i,e,[],n,⟨#[]⟩,⟨#[]⟩⟩ aj)):=by
 have:=aU (P:=P) (ρ:=ρ) (d:=d) (ty:=ty) (pos:=pos) (af:=af) (g:=g) (parts:=#[(0,y0),(1,y1),(2,y2),(4,y4)]) S [(0,.int .i64 k),(1,.agg (aA i)),(2,.agg (co e)),(4,.int .i64 n)] (by simp [h0,h1,h2,h4]) (λj u hm=>by
  simp only [YH,Zn,YK,or_false] at hm
  rcases hm with ⟨rfl,rfl⟩|⟨rfl,rfl⟩|⟨rfl,rfl⟩|⟨rfl,rfl⟩
  ·exact ⟨_,rfl,rfl⟩
  ·exact ⟨_,rfl,by show (aA _).size=_;rw [aF];rfl⟩
  ·exact ⟨_,rfl,by show (co _).size=_;rw [br];rfl⟩
  ·exact ⟨_,rfl,rfl⟩) (D:=(cW ⟨k,i,e,[],n,⟨#[]⟩,⟨#[]⟩⟩ aj).toList) (by
   show [Value.int .i64 k]++((aA i).toList++((co e).toList++([Value.slice none 0 0]++([Value.int .i64 n]++([Value.string ⟨#[]⟩]++([Value.string ⟨#[]⟩]++[]))))))=_
   rfl)
 exact this
theorem jv {l:List cO} {v:Value} (hv:v.cells.size=1) (hc:v.cells.toList=[v]) {k:Int} {n:Int} {b:ByteArray} (S:Stt P t P4) (h0:ρ y0=.int .i64 k) (h3:ρ y3=v) (h4:ρ y4=.int .i64 n) (h6:ρ y6=.string b):aP P ⟨d,.build t #[(0,y0),(3,y3),(4,y4),(6,y6)],ty,pos,af,g⟩ ρ (.agg (cW ⟨k,0#256,(0,0#256,0),l,n,⟨#[]⟩,b⟩ v)):=by
 have:=aU (P:=P) (ρ:=ρ) (d:=d) (ty:=ty) (pos:=pos) (af:=af) (g:=g) (parts:=#[(0,y0),(3,y3),(4,y4),(6,y6)]) S [(0,.int .i64 k),(3,v),(4,.int .i64 n),(6,.string b)] (by simp [h0,h3,h4,h6]) (λj u hm=>by
  simp only [YH,Zn,YK,or_false] at hm
  rcases hm with ⟨rfl,rfl⟩|⟨rfl,rfl⟩|⟨rfl,rfl⟩|⟨rfl,rfl⟩
  ·exact ⟨_,rfl,rfl⟩
  ·exact ⟨_,rfl,hv⟩
  ·exact ⟨_,rfl,rfl⟩
  ·exact ⟨_,rfl,rfl⟩) (D:=(cW ⟨k,0#256,(0,0#256,0),l,n,⟨#[]⟩,b⟩ v).toList) (by
   show [Value.int .i64 k]++(List.replicate 32 (Value.int .u8 0)++((Value.int .i64 0::(List.replicate 32 (Value.int .u8 0)++[Value.int .i64 0]))++(v.cells.toList++([Value.int .i64 n]++([Value.string ⟨#[]⟩]++([Value.string b]++[]))))))=_
   rw [XL,LG,hc];rfl)
 exact this
end
theorem BR:(cW mZ aj).toList=P4.flatten:=by
 have:cW mZ aj=P4.flatten.toArray:=rU
 rw [this]
section
variable {P:Program} {ρ:Operand->Value} {d:Option Tmp} {ty:TypeId} {pos:String} {af:Array Edge} {g:Option (Nat × Bool)} {x y:Operand} {t:TypeId}
end
section
variable {P:Program} {a:Act} {w w0:World} {N:Nat} {L:List (Nat × Value)} {B:List Own} {fn:Func} {t:TypeId}
end
def Ws:Value->Nat
 |.map (some b)=>b
 |_=>0
section
variable {P:Program} {ops:Array Oper} {Q:Act->World->Prop} {l:List Oper} {a:Act} {w w0:World} {N:Nat} {L:List (Nat × Value)} {Df:List Deferred} {B:List Own} {d:Tmp} {ty:TypeId} {pos:String} {af:Array Edge} {x y z:Operand} {t:TypeId}
end
end Go.Proofs.YtkhepdpfdhdlaaaGreatDoor
