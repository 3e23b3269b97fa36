/- Packets and what becomes of them: which may be, which are the same, what goes on and by which triggers, of other data and more hops; packets that come in; no Go in it. -/
import Derived.Test.YthmlflaiidhoiaaGreatDoorTb
set_option linter.unusedVariables false
set_option linter.unusedSimpArgs false
set_option linter.unusedSectionVars false
namespace Go.Proofs.YthmlflaiidhoiaaGreatDoor
open Go.RowKit
abbrev Pk:=List eA × Int × ByteArray
abbrev Co (w:World) (v:Value) (l:List eA):Prop:=a7 w v 34 l.length (Us l)
def pkL (v:Value) (h:Int) (d:ByteArray):List Value:=[v,.int .i64 h,.string d]
structure Ot where
 k:Int
 h:Int
 p:Pk
 t:Tg
 y:Int
deriving DecidableEq
abbrev O2:=Ot × Value
def otL (k h:Int) (v:Value) (n:Int) (d:ByteArray) (t:Tg) (y:Int):List Value:=.int .i64 k::.int .i64 h::(pkL v n d++(qB t++[.int .i64 y]))
section
variable (k h:Int) (v:Value) (n:Int) (d:ByteArray) (t:Tg) (y:Int)
end
def ouL (x:O2):List Value:=otL x.1.k x.1.h x.2 x.1.p.2.1 x.1.p.2.2 x.1.t x.1.y
def NZ (l:List O2):List Value:=l.flatMap ouL
def S6 (K:List O2) (w:World):Prop:=∀ x∈K,Co w x.2 x.1.p.1
def RdU (w:World) (v:Value) (K:List O2):Prop:=a7 w v 73 K.length (NZ K)/\S6 K w
def jD (p:Pk):Bool:=dw p.1 && (decide (0<=p.2.1) && (decide (p.2.1<=64) && decide (p.2.2.size<=64)))
def VT (p:Pk) (b:Tg) (f:List eA):Ot:=⟨2,0,(f++p.1.drop 1,p.2.1 - 1,p.2.2),b,0⟩
def eG (p:Pk):eA:=p.1.getD 0 (0,0#256,0)
def Ai (p:Pk):Ot:=⟨1,(eG p).2.2,p,cr,0⟩
def qt (y:Int):Ot:=⟨3,0,([],0,ByteArray.empty),cr,y⟩
def No (p:Pk) (x:Tg):Ot:=VT p x [x.2.1]
noncomputable def di (t:List Tg) (p:Pk):List Ot:=
 bif decide ((eG p).1=2) then [Ai p] else bif decide (p.2.1=0) then [qt 9] else
  bif decide ((Bc t (eG p).2.1).length=0) then (bif decide (1<p.1.length) then [VT p cr []] else [qt 6]) else (Bc t (eG p).2.1).map (No p)
theorem ey {p:Pk}:jD p=true↔(0<p.1.length/\p.1.length<=4/\∀ e∈p.1,kR e=true)/\0<=p.2.1/\p.2.1<=64/\p.2.2.size<=64:=by
 unfold jD
 rw [aq5,aq5,aq5,eQ,ar0,ar0,ar0]
section
variable {P:Program} {ρ:Operand->Value} {d:Option Tmp} {ty:TypeId} {pos:String} {af:Array Edge} {g:Option (Nat × Bool)} {x y z:Operand} {t:TypeId}
end
theorem bX (w:World):Co w aq []:=⟨rfl,.inl ⟨rfl,rfl⟩⟩
theorem pu {t:List Tg} {p:Pk} (h:decide ((eG p).1=2)=true):di t p=[Ai p]:=by unfold di;rw [h];rfl
theorem F7 {t:List Tg} {p:Pk} (h:decide ((eG p).1=2)=false) (h1:decide (p.2.1=0)=true):di t p=[qt 9]:=by unfold di;rw [h,h1];rfl
theorem IU {t:List Tg} {p:Pk} (h:decide ((eG p).1=2)=false) (h1:decide (p.2.1=0)=false) (h2:decide ((Bc t (eG p).2.1).length=0)=false):di t p=(Bc t (eG p).2.1).map (No p):=by unfold di;rw [h,h1,h2];rfl
theorem Cs {t:List Tg} {p:Pk} (h:decide ((eG p).1=2)=false) (h1:decide (p.2.1=0)=false) (h2:decide ((Bc t (eG p).2.1).length=0)=true) (h3:decide (1<p.1.length)=true):di t p=[VT p cr []]:=by unfold di;rw [h,h1,h2,h3];rfl
theorem Fb {t:List Tg} {p:Pk} (h:decide ((eG p).1=2)=false) (h1:decide (p.2.1=0)=false) (h2:decide ((Bc t (eG p).2.1).length=0)=true) (h3:decide (1<p.1.length)=false):di t p=[qt 6]:=by unfold di;rw [h,h1,h2,h3];rfl
theorem S6.keep {w w':World} {K:List O2} (h:S6 K w) (e:Ext w w'):S6 K w':=λx hx=>(h x hx).keep e
theorem RdU.keep {w w':World} {v:Value} {K:List O2} (h:RdU w v K) (e:Ext w w'):RdU w' v K:=⟨h.1.keep e,h.2.keep e⟩
abbrev zEn:eA:=(0,0#256,0)
theorem NM {l:List Tg} {x:Id} {y:Tg} (h:y∈Bc l x):y∈l:=by
 rcases TL l x with ⟨h1,_⟩|⟨n,_,_,h1,_,_⟩
 ·rw [h1] at h;cases h
 ·rw [h1] at h;exact(Ok h).1
theorem tK {t:List Tg} {p:Pk} {x:Ot} (hx:x∈di t p):
 ((eG p).1=2/\di t p=[Ai p]/\x=Ai p)∨((eG p).1≠2/\p.2.1=0/\di t p=[qt 9]/\x=qt 9) ∨
 ((eG p).1≠2/\p.2.1≠0/\di t p=(Bc t (eG p).2.1).map (No p)/\∃ y∈Bc t (eG p).2.1,x=No p y) ∨
 ((eG p).1≠2/\p.2.1≠0/\Bc t (eG p).2.1=[]/\1<p.1.length/\di t p=[VT p cr []]/\x=VT p cr []) ∨
 ((eG p).1≠2/\p.2.1≠0/\Bc t (eG p).2.1=[]/\¬ 1<p.1.length/\di t p=[qt 6]/\x=qt 6):=by
 cases h0:decide ((eG p).1=2) with
 |true=>
  have e:=pu (t:=t) h0
  rw [e] at hx
  exact .inl ⟨ap9 h0,e,ar4.1 hx⟩
 |false=>
  have n0:=aq0 h0
  cases h1:decide (p.2.1=0) with
  |true=>
   have e:=F7 (t:=t) h0 h1
   rw [e] at hx
   exact .inr (.inl ⟨n0,ap9 h1,e,ar4.1 hx⟩)
  |false=>
   have n1:=aq0 h1
   cases h2:decide ((Bc t (eG p).2.1).length=0) with
   |false=>
    have e:=IU h0 h1 h2
    rw [e] at hx
    obtain ⟨y,hy,rfl⟩:=au9.1 hx
    exact .inr (.inr (.inl ⟨n0,n1,e,y,hy,rfl⟩))
   |true=>
    have z:=List.length_eq_zero_iff.1 (ap9 h2)
    cases h3:decide (1<p.1.length) with
    |true=>
     have e:=Cs h0 h1 h2 h3
     rw [e] at hx
     exact .inr (.inr (.inr (.inl ⟨n0,n1,z,ap9 h3,e,ar4.1 hx⟩)))
    |false=>
     have e:=Fb h0 h1 h2 h3
     rw [e] at hx
     exact .inr (.inr (.inr (.inr ⟨n0,n1,z,aq0 h3,e,ar4.1 hx⟩)))
theorem Jg {t:List Tg} {p:Pk} {x:Ot} (hx:x∈di t p) (h:x.k≠2):(di t p).length=1:=by
 rcases tK hx with ⟨_,e,_⟩|⟨_,_,e,_⟩|⟨_,_,e,y,_,rfl⟩|⟨_,_,_,_,_,rfl⟩|⟨_,_,_,_,e,_⟩
 ·rw [e];rfl
 ·rw [e];rfl
 ·exact ax7 rfl h
 ·exact ax7 rfl h
 ·rw [e];rfl
def OnP (p:Pk) (x:Ot):Prop:=jD x.p=true/\x.p.2.2=p.2.2/\x.p.2.1=p.2.1 - 1/\x.p.1.length<=p.1.length/\p.1.length - 1<=x.p.1.length/\∀ i,i+1<x.p.1.length->x.p.1.getD (x.p.1.length - 1 - i) zEn=p.1.getD (p.1.length - 1 - i) zEn
theorem Rh {p:Pk} (hr:jD p=true) (h0:p.2.1≠0) (b:Tg) (fr:List eA) (hf:fr.length<=1) (he:∀ e∈fr,kR e=true) (hl:1<=fr.length+(p.1.length - 1)):OnP p (VT p b fr):=by
 obtain ⟨⟨h1,h2,h3⟩,h4,h5,h6⟩:=ey.1 hr
 have ll:(fr++p.1.drop 1).length=fr.length+(p.1.length - 1):=by rw [aq7,at2]
 refine ⟨?_,rfl,rfl,?_,?_,λi hi=>?_⟩
 ·rw [ey]
  refine ⟨⟨?_,?_,λe h=>?_⟩,?_,?_,h6⟩
  ·show 0<(fr++p.1.drop 1).length;omega
  ·show (fr++p.1.drop 1).length<=4;omega
  ·have h:e∈fr++p.1.drop 1:=h
   rcases at9.1 h with h|h
   ·exact he e h
   ·exact h3 e (List.mem_of_mem_drop h)
  ·show 0<=p.2.1 - 1;omega
  ·show p.2.1 - 1<=64;omega
 ·show (fr++p.1.drop 1).length<=_;omega
 ·show _<=(fr++p.1.drop 1).length;omega
 ·have hi:i+1<(fr++p.1.drop 1).length:=hi
  show (fr++p.1.drop 1).getD ((fr++p.1.drop 1).length - 1 - i) zEn=_
  rw [as6,as6,at7 (by omega),aw8,ll]
  congr 2;omega
theorem De {t:List Tg} {p:Pk} {x:Ot} (hr:jD p=true) (ht:eu t=true) (hx:x∈di t p) (h:x.k=2):OnP p x:=by
 obtain ⟨⟨h1,_,_⟩,_⟩:=ey.1 hr
 rcases tK hx with ⟨_,_,rfl⟩|⟨_,_,_,rfl⟩|⟨_,n1,_,y,hy,rfl⟩|⟨_,n1,_,hl,_,rfl⟩|⟨_,_,_,_,_,rfl⟩
 ·exact ax7 (show (1:Int)=2 from h) (by decide)
 ·exact ax7 (show (3:Int)=2 from h) (by decide)
 ·refine Rh hr n1 y [y.2.1] (as1 _) (λe he=>?_) (by show 1<=1+_;omega)
  rw [ar4.1 he]
  exact(iZ.1 ((d7.1 ht).may y (NM hy))).1
 ·exact Rh hr n1 cr [] (as3 _) (λe he=>by cases he) (by show 1<=0+_;omega)
 ·exact ax7 (show (3:Int)=2 from h) (by decide)
end Go.Proofs.YthmlflaiidhoiaaGreatDoor
namespace Go.Proofs.YthmlflaiidhoiaaGreatDoor
open Go.RowKit Go.ChangeShapes Go.WideShapes Go.ChangeAt
end Go.Proofs.YthmlflaiidhoiaaGreatDoor
