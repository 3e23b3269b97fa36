/- What is judged of messages about triggers; no Go in it. -/
import Derived.Test.YthmlflaiidhoiaaGreatDoorWr
set_option linter.unusedVariables false
set_option linter.unusedSimpArgs false
set_option linter.unusedSectionVars false
namespace Go.Proofs.YthmlflaiidhoiaaGreatDoor
open Go.RowKit
def kz (m:Mg):Bool:=cn m && (decide (m.k=2) || (decide (m.k=4) || decide (m.k=6)))
def T5 (s:ByteArray) (m:Mg):ByteArray:=Ua s m.i m.t.2.2.toNat
def PJ (s:ByteArray) (m:Mg):Mg:=⟨3,m.i,m.t,[],0,T5 s m,⟨#[]⟩⟩
def kK (s:ByteArray) (m:Mg):Int:=bif decide (m.t.1=1) then (bif decide (m.k=2) && nG m.i m.t.2.1 then 2 else 4) else bif decide (m.k=2) then 1 else bif decide (m.o=T5 s m) then (bif decide (m.k=4) then 2 else 3) else 4
def HH (s:ByteArray) (m:Mg):Mg:=bif !decide (m.t.1=1) && decide (m.k=2) then PJ s m else mZ
def nl (m:Mg) (now:Int):Tg:=(m.i,m.t,min (now+m.n) 1099511627776)
theorem gA {m:Mg}:kz m=true↔cn m=true/\(m.k=2∨m.k=4∨m.k=6):=by
 unfold kz
 rw [aq5,Bool.or_eq_true,Bool.or_eq_true,ar0,ar0,ar0]
theorem l7 {m:Mg} (h:kz m=true):kR m.t=true/\m.l=[]/\m.d=⟨#[]⟩/\(m.k=2->0<=m.n/\m.n<=1099511627776/\m.o=⟨#[]⟩)/\(m.k=4->0<=m.n/\m.n<=1099511627776/\m.o.size=16)/\(m.k=6->m.n=0/\m.o.size=16):=by
 obtain ⟨hr,hk⟩:=gA.1 h
 obtain ⟨_,_,h2,h3,h4,h5,h6⟩:=gZ hr
 rcases hk with e|e|e
 all_goals
  unfold c2 at h2;unfold c3 at h3;unfold c4 at h4;unfold c5 at h5;unfold c6 at h6
  rw [e] at h2 h3 h4 h5 h6
  simp [jw,ju,jc,kW,mw] at h2 h3 h4 h5 h6
  simp [h2,h3,h4,h5,h6,e]
theorem kT {k:Int} {i:Id} {t:eA} {n:Int} {o:ByteArray} (ht:kR t=true) (h:(k=2/\0<=n/\n<=1099511627776/\o=⟨#[]⟩)∨(k=4/\0<=n/\n<=1099511627776/\o.size=16)∨(k=6/\n=0/\o.size=16)):kz ⟨k,i,t,[],n,o,⟨#[]⟩⟩=true:=by
 refine gA.2 ⟨?_,?_⟩
 ·rcases h with ⟨rfl,h1,h2,h3⟩|⟨rfl,h1,h2,h3⟩|⟨rfl,h1,h3⟩
  all_goals
   unfold cn c1 c2 c3 c4 c5 c6
   simp [G5,lC,jw,ju,jc,kW,mw,ht,h1,h3]
  all_goals assumption
 ·rcases h with ⟨rfl,_⟩|⟨rfl,_⟩|⟨rfl,_⟩
  ·exact .inl rfl
  ·exact .inr (.inl rfl)
  ·exact .inr (.inr rfl)
theorem Hp (k:VX):(Jr k).size=16:=by first|exact Fd k|simp [Jr]
theorem Nk (s:ByteArray) (m:Mg):(T5 s m).size=16:=Hp _
theorem R6 {t:eA} (h:kR t=true):((t.2.2.toNat:Nat):Int)=t.2.2/\t.2.2.toNat<16:=by
 rcases (kA t).1 h with ⟨_,g⟩|⟨_,_,g1,g2⟩
 ·rw [g];exact ⟨rfl,by decide⟩
 ·omega
section
variable {P:Program} {ρ:Operand->Value} {d:Option Tmp} {ty:TypeId} {pos:String} {af:Array Edge} {g:Option (Nat × Bool)} {y0 y1 y2 y3 y4 y5 y6:Operand} {t:TypeId}
end
section
variable {P:Program} {ρ:Operand->Value} {d:Option Tmp} {ty:TypeId} {pos:String} {af:Array Edge} {g:Option (Nat × Bool)} {x y:Operand} {t:TypeId}
end
theorem Qc {m:Mg} (h:kz m=true) (h1:decide (m.k=6)=false):0<=m.n/\m.n<=1099511627776:=by
 have ht:=l7 h
 rcases (gA.1 h).2 with e|e|e
 ·exact ⟨(ht.2.2.2.1 e).1,(ht.2.2.2.1 e).2.1⟩
 ·exact ⟨(ht.2.2.2.2.1 e).1,(ht.2.2.2.2.1 e).2.1⟩
 ·exact ax7 e (aq0 h1)
section
variable {P:Program} {a:Act} {w w0:World} {N:Nat} {L:List (Nat × Value)} {B:List Own} {fn:Func} {t:TypeId}
end
def mbk:Value->Nat
 |.map (some b)=>b
 |_=>0
section
variable {P:Program} {ops:Array Oper} {Q:Act->World->Prop} {l:List Oper} {a:Act} {w w0:World} {N:Nat} {L:List (Nat × Value)} {Df:List Deferred} {B:List Own} {d:Tmp} {ty:TypeId} {pos:String} {af:Array Edge} {x y z:Operand} {t:TypeId}
end
end Go.Proofs.YthmlflaiidhoiaaGreatDoor
