/- Servers: their triggers, what they send, what they take; servers that come in; no Go in it. -/
import Derived.Test.YthmlflaiidhoiaaGreatDoorGd
set_option linter.unusedVariables false
set_option linter.unusedSimpArgs false
set_option linter.unusedSectionVars false
namespace Go.Proofs.YthmlflaiidhoiaaGreatDoor
open Go.RowKit
instance:DecidableEq Mg:=λa b=>decidable_of_iff (UY a b=true) (JP a b)
structure Sv where
 no:Int
 sec:ByteArray
 tb:List Tg
deriving DecidableEq
def kP:Sv:=⟨0,ByteArray.empty,[]⟩
def ZR (n:Int) (s:ByteArray) (v:Value):List Value:=[.int .i64 n,.string s,v]
def gx (n:Int) (s:ByteArray) (v:Value):Array Value:=(ZR n s v).toArray
theorem dm (n:Int) (s:ByteArray) (v:Value):(gx n s v).size=3:=rfl
theorem nX {v:Value} (n:Int) (s:ByteArray) (hv:v.oneCell'=true):∀ u∈(gx n s v).toList,u.oneCell'=true:=λu hu=>by
 have hu:u∈ZR n s v:=hu
 unfold ZR at hu
 simp only [ar6,ar9,or_false] at hu
 rcases hu with rfl|rfl|rfl
 ·rfl
 ·rfl
 ·exact hv
theorem F5 (n:Int) (s:ByteArray) (v:Value):(gx n s v)[0]? = some (.int .i64 n):=rfl
theorem Z4 (n:Int) (s:ByteArray) (v:Value):(gx n s v)[1]? = some (.string s):=rfl
theorem VM (n:Int) (s:ByteArray) (v:Value):(gx n s v)[2]? = some v:=rfl
abbrev Se:=Int × Mg × Tg
abbrev S2:=Se × Value
instance:DecidableEq Se:=λa b=>inferInstanceAs (Decidable (a=b))
instance (a b:List Se):Decidable (a=b) := @instDecidableEqList Se _ a b
def RG:Se:=(0,mZ,cr)
def seL (n:Int) (m:Mg) (v:Value) (t:Tg):List Value:=.int .i64 n::((Kk m v).toList++qB t)
section
variable (n:Int) (m:Mg) (v:Value) (t:Tg)
end
def s2L (x:S2):List Value:=seL x.1.1 x.1.2.1 x.2 x.1.2.2
def ML (l:List S2):List Value:=l.flatMap s2L
def RwS (K:List S2) (w:World):Prop:=∀ x∈K,Co w x.2 x.1.2.1.l
def cU (s:Sv):Bool:=decide (0<=s.no) && (decide (s.no<=15) && (decide (s.sec.size<=64) && eu s.tb))
def wt (m:Mg):Bool:=decide (m.k=1) || kz m
def vg (p:Pk):Mg:=⟨1,0#256,(0,0#256,0),p.1,p.2.1,⟨#[]⟩,p.2.2⟩
def Qe (m:Mg):Mg:=⟨5,m.i,m.t,[],0,⟨#[]⟩,⟨#[]⟩⟩
def I2 (i:Id):Mg:=⟨7,i,(0,0#256,0),[],0,⟨#[]⟩,⟨#[]⟩⟩
def Ke (i:Id) (n:Int):Mg:=⟨8,i,(0,0#256,0),[],n,⟨#[]⟩,⟨#[]⟩⟩
structure Hr where
 s:Sv
 l:List Se
 e:Int
def pk (s s0:Sv) (fr:Int) (m:Mg) (now:Int):Hr:=
 bif decide (kK s.sec m=1) then ⟨s,[(16+m.t.2.2,HH s.sec m,cr)],0⟩ else
 bif decide (kK s.sec m=2) then (bif decide ((dn s.tb (nl m now)).length<=32) then ⟨⟨s.no,s.sec,dn s.tb (nl m now)⟩,[(fr,Qe m,cr)],0⟩ else ⟨s0,[],8⟩) else
 bif decide (kK s.sec m=3) then (bif decide ((eT s.tb m.i m.t).2.2<0) then ⟨s0,[],6⟩ else ⟨⟨s.no,s.sec,oZ s.tb m.i m.t⟩,[],0⟩) else ⟨s0,[],11⟩
def Wv (p:Pk):Id:=(eG p).2.1
def U2 (fr:Int) (p:Pk) (o:Ot):List Se:=
 bif decide (o.k=1) then [(16+o.h,vg o.p,cr)] else
 bif decide (o.k=2) then (bif decide ((eG o.p).1=2) then [(16+(eG o.p).2.2,vg o.p,o.t)] else [(-1,vg o.p,o.t)]) else
 bif decide (o.y=6) && decide (16<=fr) then [(fr,I2 (Wv p),cr)] else []
def Vd (fr:Int) (p:Pk) (R:List Ot):List Se:=R.flatMap (U2 fr p)
def VQ (fr:Int) (o:Ot):Bool:=decide (o.k=3) && (decide (o.y=6) && decide (16<=fr))
def uJ (m:Mg):Pk:=(m.l,min m.n 64,m.d)
noncomputable def F4 (s:Sv) (fr:Int) (m:Mg):List Se:=
 Vd fr (uJ m) (di s.tb (uJ m))++bif decide (16<=fr) && (decide ((eG (uJ m)).1=1) && !(di s.tb (uJ m)).any (VQ fr)) then [(fr,Ke (Wv (uJ m)) s.no,cr)] else []
def pE (s:Sv) (now:Int):Sv:=⟨s.no,s.sec,ag5 s.tb now⟩
def A3 (s:Sv) (fr:Int) (m:Mg) (now:Int):Bool:=cU s && (cn m && (decide (0<=fr) && (decide (fr<=31) && (decide (0<=now) && (decide (now<=1099511627776) && wt m)))))
noncomputable def dY (s:Sv) (fr:Int) (m:Mg) (now:Int):Hr:=
 bif A3 s fr m now then (bif decide (m.k=1) then ⟨pE s now,F4 (pE s now) fr m,0⟩ else pk (pE s now) s fr m now) else ⟨kP,[],1⟩
def ux:List Tg->List Tg × Nat->List Tg × Nat
 |[],a=>a
 |x::l,a=>ux l (bif decide ((dn a.1 x).length<=32) then (dn a.1 x,a.2) else (a.1,a.2+1))
theorem cI {s:Sv}:cU s=true↔0<=s.no/\s.no<=15/\s.sec.size<=64/\eu s.tb=true:=by
 unfold cU
 rw [aq5,aq5,aq5,ar0,ar0,ar0]
theorem jV {s:Sv} (h:cU s=true) (now:Int):cU (pE s now)=true:=by
 obtain ⟨h1,h2,h3,h4⟩:=cI.1 h
 exact cI.2 ⟨h1,h2,h3,d7.2 ((d7.1 h4).filter _)⟩
theorem oR {m:Mg} (h:cn m=true) (hk:m.k=1):jD (uJ m)=true:=by
 obtain ⟨_,_,_,h3,h4,_,h6⟩:=gZ h
 unfold c3 at h3;unfold c4 at h4;unfold c6 at h6
 rw [hk] at h3 h4 h6
 simp [ju,jc,mw] at h3 h4 h6
 refine ey.2 ⟨eQ _ |>.1 h3,?_,?_,h6⟩
 ·show 0<=min m.n 64;omega
 ·show min m.n 64<=64;omega
theorem mW {p:Pk} (h:jD p=true):cn (vg p)=true:=by
 obtain ⟨h1,h2,h3,h4⟩:=ey.1 h
 unfold cn c1 c2 c3 c4 c5 c6 vg
 simp [G5,lC,jw,ju,jc,kW,mw,(eQ _).2 h1,h2,h4]
 omega
theorem GU {m:Mg} (h:kR m.t=true):cn (Qe m)=true:=by
 unfold cn c1 c2 c3 c4 c5 c6 Qe
 simp [G5,lC,jw,ju,jc,kW,mw,h]
theorem GK {m:Mg} (s:ByteArray) (h:kR m.t=true):cn (PJ s m)=true:=by
 unfold cn c1 c2 c3 c4 c5 c6 PJ
 simp [G5,lC,jw,ju,jc,kW,mw,h,Nk]
theorem Ch (i:Id):cn (I2 i)=true:=by
 unfold cn c1 c2 c3 c4 c5 c6 I2
 simp [G5,lC,jw,ju,jc,kW,mw]
theorem Br (i:Id) {n:Int} (h0:0<=n) (h1:n<=15):cn (Ke i n)=true:=by
 unfold cn c1 c2 c3 c4 c5 c6 Ke
 simp [G5,lC,jw,ju,jc,kW,mw,h0]
 omega
def H7 (x:Se):Prop:=cn x.2.1=true /\ -1<=x.1/\x.1<=31/\(x.1 = -1->x.2.1.k=1)
theorem Tq {fr:Int} {t:List Tg} {p:Pk} (hp:jD p=true) (ht:eu t=true) (h1:fr<=31):∀ x∈Vd fr p (di t p),H7 x:=λx hx=>by
 obtain ⟨o,ho,hx⟩:=List.mem_flatMap.1 hx
 unfold U2 at hx
 by_cases k1:o.k=1
 ·rw [aq2 k1,cond_true,ar4] at hx
  subst hx
  obtain ⟨a,b⟩:=CZ hp ho k1
  have hpp:o.p=p:=by
   have:di t p=[Ai p]:=by
    rcases zo (t:=t) (p:=p) with g|⟨o',g1,g2⟩
    ·have:=g o ho;omega
    ·rw [g1,ar4] at ho
     subst ho
     by_cases hf:(eG p).1=2
     ·exact pu (aq2 hf)
     ·exfalso
      have hh:o∈di t p:=by rw [g1];exact ar4.2 rfl
      unfold di at hh
      rw [aq1 hf] at hh
      cases h2:decide (p.2.1=0)<;>rw [h2] at hh
      ·cases h3:decide ((Bc t (eG p).2.1).length=0)<;>rw [h3] at hh
       ·obtain ⟨z,_,rfl⟩:=au9.1 hh
        exact ax7 k1 (by show ¬ (2:Int)=1;decide)
       ·cases h4:decide (1<p.1.length)<;>rw [h4] at hh
        ·rw [ar4.1 hh] at k1;exact ax7 k1 (by show ¬ (3:Int)=1;decide)
        ·rw [ar4.1 hh] at k1;exact ax7 k1 (by show ¬ (2:Int)=1;decide)
      ·rw [ar4.1 hh] at k1;exact ax7 k1 (by show ¬ (3:Int)=1;decide)
   rw [this,ar4] at ho
   rw [ho];rfl
  refine ⟨?_,?_,?_,?_⟩
  ·show cn (vg o.p)=true;rw [hpp];exact mW hp
  ·show -1<=16+o.h;omega
  ·show 16+o.h<=31;omega
  ·intro e;exact ax7 (show 16+o.h = -1 from e) (by omega)
 ·rw [aq1 k1,cond_false] at hx
  by_cases k2:o.k=2
  ·rw [aq2 k2,cond_true] at hx
   have ho1:=(De hp ht ho k2).1
   have hd:=mW ho1
   have hl:=(ey.1 ho1).1
   by_cases kf:(eG o.p).1=2
   ·rw [aq2 kf,cond_true,ar4] at hx
    subst hx
    have hm:eG o.p∈o.p.1:=by
     show o.p.1.getD 0 _∈o.p.1
     rw [as6,aq8 hl.1];exact aw0 _
    have:=Is (hl.2.2 _ hm) (by omega)
    refine ⟨hd,?_,?_,?_⟩
    ·show -1<=16+(eG o.p).2.2;omega
    ·show 16+(eG o.p).2.2<=31;omega
    ·intro e;exact ax7 (show 16+(eG o.p).2.2 = -1 from e) (by omega)
   ·rw [aq1 kf,cond_false,ar4] at hx
    subst hx
    exact ⟨hd,by show (-1:Int) <= -1;omega,by show (-1:Int)<=31;omega,λ_=>rfl⟩
  ·rw [aq1 k2,cond_false] at hx
   cases hb:decide (o.y=6) && decide (16<=fr)<;>rw [hb] at hx
   ·cases hx
   ·rw [cond_true,ar4] at hx
    subst hx
    rw [aq5] at hb
    have:=ap9 hb.2
    exact ⟨Ch _,by show -1<=fr;omega,h1,λe=>ax7 (show fr = -1 from e) (by omega)⟩
theorem Uv {s:Sv} {fr:Int} {m:Mg} (hs:cU s=true) (hm:cn m=true) (hk:m.k=1) (h1:fr<=31):∀ x∈F4 s fr m,H7 x:=λx hx=>by
 obtain ⟨n0,n1,_,ht⟩:=cI.1 hs
 unfold F4 at hx
 rcases at9.1 hx with hx|hx
 ·exact Tq (oR hm hk) ht h1 x hx
 ·cases hb:decide (16<=fr) && (decide ((eG (uJ m)).1=1) && !(di s.tb (uJ m)).any (VQ fr))<;>rw [hb] at hx
  ·cases hx
  ·rw [cond_true,ar4] at hx
   subst hx
   rw [aq5] at hb
   have:=ap9 hb.1
   exact ⟨Br _ n0 n1,by show -1<=fr;omega,h1,λe=>ax7 (show fr = -1 from e) (by omega)⟩
theorem MN {s:Sv} {fr:Int} {m:Mg} {now:Int} (h:A3 s fr m now=false):dY s fr m now=⟨kP,[],1⟩:=by unfold dY;rw [h];rfl
theorem sB {s:Sv} {fr:Int} {m:Mg} {now:Int}:A3 s fr m now=true↔cU s=true/\cn m=true/\0<=fr/\fr<=31/\0<=now/\now<=1099511627776/\wt m=true:=by
 unfold A3
 simp only [aq5,ar0]
theorem kV {m:Mg} (h:wt m=true) (hk:¬ m.k=1):kz m=true:=by
 unfold wt at h;rw [aq1 hk,Bool.false_or] at h;exact h
theorem FC (s:ByteArray) (m:Mg):kK s m=1∨kK s m=2∨kK s m=3∨kK s m=4:=by
 unfold kK
 cases decide (m.t.1=1)
 ·cases decide (m.k=2)
  ·cases decide (m.o=T5 s m)
   ·exact .inr (.inr (.inr rfl))
   ·cases decide (m.k=4)
    ·exact .inr (.inr (.inl rfl))
    ·exact .inr (.inl rfl)
  ·exact .inl rfl
 ·cases decide (m.k=2) && nG m.i m.t.2.1
  ·exact .inr (.inr (.inr rfl))
  ·exact .inr (.inl rfl)
theorem pX (s s0:Sv) (fr:Int) (m:Mg) (now:Int):
 (kK s.sec m=1/\pk s s0 fr m now=⟨s,[(16+m.t.2.2,HH s.sec m,cr)],0⟩) ∨
 (kK s.sec m=2/\(dn s.tb (nl m now)).length<=32/\pk s s0 fr m now=⟨⟨s.no,s.sec,dn s.tb (nl m now)⟩,[(fr,Qe m,cr)],0⟩) ∨
 (kK s.sec m=2/\¬ (dn s.tb (nl m now)).length<=32/\pk s s0 fr m now=⟨s0,[],8⟩) ∨
 (kK s.sec m=3/\(eT s.tb m.i m.t).2.2<0/\pk s s0 fr m now=⟨s0,[],6⟩) ∨
 (kK s.sec m=3/\¬ (eT s.tb m.i m.t).2.2<0/\pk s s0 fr m now=⟨⟨s.no,s.sec,oZ s.tb m.i m.t⟩,[],0⟩) ∨
 (kK s.sec m=4/\pk s s0 fr m now=⟨s0,[],11⟩):=by
 rcases FC s.sec m with e|e|e|e
 ·refine .inl ⟨e,?_⟩;unfold pk;rw [e];rfl
 ·by_cases h:(dn s.tb (nl m now)).length<=32
  ·refine .inr (.inl ⟨e,h,?_⟩);unfold pk;rw [e,aq2 h];rfl
  ·refine .inr (.inr (.inl ⟨e,h,?_⟩));unfold pk;rw [e,aq1 h];rfl
 ·by_cases h:(eT s.tb m.i m.t).2.2<0
  ·refine .inr (.inr (.inr (.inl ⟨e,h,?_⟩)));unfold pk;rw [e,aq2 h];rfl
  ·refine .inr (.inr (.inr (.inr (.inl ⟨e,h,?_⟩))));unfold pk;rw [e,aq1 h];rfl
 ·refine .inr (.inr (.inr (.inr (.inr ⟨e,?_⟩))));unfold pk;rw [e];rfl
theorem uu {s:Sv} {fr:Int} {m:Mg} {now:Int} (h:A3 s fr m now=true) (hk:m.k=1):dY s fr m now=⟨pE s now,F4 (pE s now) fr m,0⟩:=by unfold dY;rw [h,aq2 hk];rfl
theorem xy {s:Sv} {fr:Int} {m:Mg} {now:Int} (h:A3 s fr m now=true) (hk:¬ m.k=1):dY s fr m now=pk (pE s now) s fr m now:=by unfold dY;rw [h,aq1 hk];rfl
theorem PV {m:Mg} {now:Int} (h:kz m=true) (h0:0<=now):m.k≠6->gH (nl m now)=true:=λhk=>by
 have hn:=Qc h (aq1 hk)
 refine iZ.2 ⟨(l7 h).1,?_,?_⟩
 ·show 0<=min (now+m.n) 1099511627776;omega
 ·show min (now+m.n) 1099511627776<=1099511627776;omega
theorem Q6 {s:ByteArray} {m:Mg} (h:kK s m=2):(m.t.1=1/\m.k=2/\nG m.i m.t.2.1=true)∨(¬ m.t.1=1/\m.k=4/\m.o=T5 s m):=by
 unfold kK at h
 by_cases c:m.t.1=1
 ·rw [aq2 c,cond_true] at h
  cases hb:decide (m.k=2) && nG m.i m.t.2.1<;>rw [hb] at h
  ·cases h
  ·rw [aq5] at hb
   exact .inl ⟨c,ap9 hb.1,hb.2⟩
 ·rw [aq1 c,cond_false] at h
  cases h2:decide (m.k=2)<;>rw [h2] at h
  ·rw [cond_false] at h
   cases ho:decide (m.o=T5 s m)<;>rw [ho] at h
   ·cases h
   ·cases h4:decide (m.k=4)<;>rw [h4] at h
    ·cases h
    ·exact .inr ⟨c,ap9 h4,ap9 ho⟩
  ·cases h
theorem Rn {s:ByteArray} {m:Mg} (h:kK s m=1):¬ m.t.1=1/\m.k=2/\HH s m=PJ s m:=by
 unfold kK at h
 by_cases c:m.t.1=1
 ·rw [aq2 c,cond_true] at h
  cases hb:decide (m.k=2) && nG m.i m.t.2.1<;>rw [hb] at h<;>cases h
 ·rw [aq1 c,cond_false] at h
  by_cases h2:m.k=2
  ·refine ⟨c,h2,?_⟩
   unfold HH;rw [aq1 c,aq2 h2];rfl
  ·rw [aq1 h2,cond_false] at h
   cases ho:decide (m.o=T5 s m)<;>rw [ho] at h
   ·cases h
   ·cases h4:decide (m.k=4)<;>rw [h4] at h<;>cases h
theorem BD {s:Sv} {fr:Int} {m:Mg} {now:Int} (h:(dY s fr m now).e=0):A3 s fr m now=true/\cU (dY s fr m now).s=true/\(dY s fr m now).s.no=s.no/\(dY s fr m now).s.sec=s.sec/\∀ x∈(dY s fr m now).l,H7 x:=by
 cases hb:A3 s fr m now with
 |false=>rw [MN hb] at h;cases h
 |true=>
  obtain ⟨hs,hm,f0,f1,t0,t1,Fc⟩:=sB.1 hb
  refine ⟨rfl,?_⟩
  by_cases hk:m.k=1
  ·rw [uu hb hk]
   exact ⟨jV hs now,rfl,rfl,Uv (jV hs now) hm hk f1⟩
  ·have ha:=kV Fc hk
   have hE:=jV hs now
   obtain ⟨n0,n1,hsz,ht⟩:=cI.1 hE
   have hht:=R6 (l7 ha).1
   rw [xy hb hk] at h ⊢
   rcases pX (pE s now) s fr m now with ⟨g,e⟩|⟨g,g2,e⟩|⟨_,_,e⟩|⟨_,_,e⟩|⟨g,_,e⟩|⟨_,e⟩<;>rw [e] at h ⊢
   ·refine ⟨hE,rfl,rfl,λx hx=>?_⟩
    rw [ar4] at hx;subst hx
    rw [(Rn g).2.2]
    refine ⟨GK _ (l7 ha).1,?_,?_,?_⟩
    ·show -1<=16+m.t.2.2;omega
    ·show 16+m.t.2.2<=31;omega
    ·intro e9;exact ax7 (show 16+m.t.2.2 = -1 from e9) (by omega)
   ·have hk6:m.k≠6:=by rcases Q6 g with ⟨_,e9,_⟩|⟨_,e9,_⟩<;>omega
    refine ⟨cI.2 ⟨n0,n1,hsz,d7.2 (nT (d7.1 ht) (PV ha t0 hk6) g2)⟩,rfl,rfl,λx hx=>?_⟩
    rw [ar4] at hx;subst hx
    exact ⟨GU (l7 ha).1,by show -1<=fr;omega,f1,λe9=>ax7 (show fr = -1 from e9) (by omega)⟩
   ·cases h
   ·cases h
   ·exact ⟨cI.2 ⟨n0,n1,hsz,d7.2 ((d7.1 ht).filter _)⟩,rfl,rfl,λx hx=>by cases hx⟩
   ·cases h
section
variable {P:Program} {ρ:Operand->Value} {d:Option Tmp} {ty:TypeId} {pos:String} {af:Array Edge} {g:Option (Nat × Bool)} {x y z:Operand} {t:TypeId}
end
section
variable (n:Int) (s:ByteArray) (v u:Value) (e:Int)
end
section
variable {P:Program} {ρ:Operand->Value} {d:Option Tmp} {ty:TypeId} {pos:String} {af:Array Edge} {g:Option (Nat × Bool)} {x y z:Operand} {t:TypeId}
end
theorem Kb {w w':World} {K:List S2} (h:RwS K w) (e:Ext w w'):RwS K w':=λx hx=>(h x hx).keep e
section
variable {w w':World} {vt vw vs:Value} {tb tb0:List Tg} {l:List eA} {H:Hr} {N M:TypeId} {s':Sv} {L:List Se} {e:Int}
end
def RdS (w:World) (v:Value) (K:List S2):Prop:=a7 w v 139 K.length (ML K)/\RwS K w
theorem RdS.keep {w w':World} {v:Value} {K:List S2} (h:RdS w v K) (e:Ext w w'):RdS w' v K:=⟨h.1.keep e,Kb h.2 e⟩
def Fc (l tb:List Tg) (k:Nat):List Tg × Nat:=ux (l.take k) (tb,0)
def ZF (s:Sv) (l:List Tg):Bool:=cU s && eu l
def haE (s:Sv) (l:List Tg):Int:=bif ZF s l then 0 else 1
def SI (s:Sv) (l:List Tg):Sv:=bif ZF s l then ⟨s.no,s.sec,(ux l (s.tb,0)).1⟩ else kP
def haN (s:Sv) (l:List Tg):Nat:=bif ZF s l then (ux l (s.tb,0)).2 else 0
section
variable {s:Sv} {l:List Tg} {a b:Id}
theorem W7 (h:cU s=true) (hl:eu l=true):haE s l=0/\SI s l=⟨s.no,s.sec,(ux l (s.tb,0)).1⟩/\haN s l=(ux l (s.tb,0)).2:=by unfold haE SI haN ZF;rw [h,hl];exact ⟨rfl,rfl,rfl⟩
end
end Go.Proofs.YthmlflaiidhoiaaGreatDoor
namespace Go.Proofs.YthmlflaiidhoiaaGreatDoor
open Go.RowKit Go.ChangeShapes Go.WideShapes Go.ChangeAt
theorem n5 {H α:Type} {enc:TypeId × Value->H} {P:Program} {W:World} {ts t:TypeId} {fuel:Nat} {cs:List Value} {x:DataW H × List MemPlace} (C:α->Array Value) (sz:Nat) (h0:0<sz) (hC:∀ a,(C a).size=sz) (z:α)
 (hts:P.underlying ts=some (.slice t)) (hct:P.cellsOf t=sz) (op:∀ (fuel:Nat) (cs:List Value) (x:DataW H × List MemPlace),DataW.trod enc P W 0 (λ_=>true) true fuel t cs=some x->∃ l:α,cs=(C l).toList)
 (hf:DataW.trod enc P W 0 (λ_=>true) true fuel ts cs=some x):∃ (v:Value) (ls:List α),cs=[v]/\a7 W v sz ls.length (ls.flatMap λa=>(C a).toList):=by
 rcases Go.Deep.open_slice hts hf with ⟨hcs,_⟩|⟨a',len,cap,m,k,D,Pl,hcs,_,hl,_,hm,_,hel⟩
 ·exact ⟨_,[],hcs,by simp,.inl ⟨rfl,rfl⟩⟩
 ·have hml:len<=m:=by rw [hm];split<;>omega
  have each:∀ i,∃ l:α,i<len->aX W (a'.add (i*sz)) (C l):=λi=>by
   by_cases hi:i<len
   ·obtain ⟨cs',hc1,hc2⟩:=hel i (by omega)
    obtain ⟨l,rfl⟩:=op _ _ _ hc2
    refine ⟨l,λ_ j u hj=>?_⟩
    rw [hct] at hc1
    obtain ⟨_,hlen,hall⟩:=World.cells?_some hc1
    have hj34:j<sz:=by have:=(ax1.1 hj).1;rw [hC] at this;exact this
    have:=hall j hj34
    rw [this,aw9];exact hj
   ·exact ⟨z,λh9=>ax7 h9 hi⟩
  obtain ⟨L,hL⟩:=Classical.axiomOfChoice each
  refine ⟨_,(List.range len).map L,hcs,?_,.inr ⟨a',cap,by simp,by simpa using hl,?_⟩⟩
  ·exact f7 _ sz (λa=>by rw [ar2,hC]) _
  ·refine oq _ sz h0 (λx=>by rw [ar2,hC]) _ λi hi=>?_
   have hi':i<len:=by simpa using hi
   have:=hL i hi'
   simpa using this
theorem aX.of_mem {w0 w:World} {B:List Own} (s:St w0 B w) {b:Nat} {C:Array Value} {u:TypeId} (h:Own.blk b (.cells C u)∈B):aX w ⟨b,0,none⟩ C:=by
 obtain ⟨i,hi⟩:=List.mem_iff_getElem?.1 h
 exact aX.of_own s i hi
theorem a7.of_mem {w0 w:World} {B:List Own} (s:St w0 B w) {v:Value} {e:TypeId} {sz n:Nat} {L:List Value} (h:Own.sl v e sz n L∈B):a7 w v sz n L:=by
 obtain ⟨i,hi⟩:=List.mem_iff_getElem?.1 h
 exact a7.of_own (s.getSl i hi)
section
variable {P:Program} {ρ:Operand->Value} {d:Option Tmp} {ty t t':TypeId} {pos:String} {af:Array Edge} {g:Option (Nat × Bool)} {x:Operand}
end
def ZM (P:Program) (T:TypeId) (rv:Value) (nm:String) (f:FuncId):Prop:=∀ w,(method (P.types.size+Made.depth) T rv nm).run P w=.ok (f,rv) w
theorem Cq {P:Program} {ρ:Operand->Value} {dst:Option Tmp} {g:Option (Nat × Bool)} {ty:TypeId} {pos:String} {af:Array Edge} {f:FuncId} {T:TypeId} {rv:Value} {nm:String} {cal:Operand} {tys:Array TypeId} {w:World} (hf:Fnc P f)
 (hm:ZM P T rv nm f) (hc:ρ cal=.iface T rv) {R:Value->World->Prop} (hC:Calls P f #[rv] w λe w'=>∃ v,e=.returned v/\R v w'):cL P ⟨dst,.call {callee:=.invoke cal nm,args:=#[],argTypes:=tys},ty,pos,af,g⟩ ρ w R:=by
 obtain ⟨fn,h1,h2,h3⟩:=hf.has
 unfold cL
 have hm':=hm w
 simp only [execOp,resolve,hc,au7,au8,aq9,invoke,callMethod]
 have e0:(#[Value.iface T rv]++Array.map ρ #[])[0]? = some (Value.iface T rv):=by simp
 rw [e0]
 simp only [callMethod,au7,show ∀ w,Sem.run P program w=.ok P w from λ_=>rfl,aq9,hm']
 have e1:#[rv]++(#[Value.iface T rv]++Array.map ρ #[]).extract 1=#[rv]:=by simp
 rw [e1]
 rw [fB h1 h2 h3]
 exact hC
section
variable {P:Program} {ops:Array Oper} {Q:Act->World->Prop} {l:List Oper} {a:Act} {w w0:World} {N:Nat} {L:List (Nat × Value)} {Df:List Deferred} {B:List Own} {d:Tmp} {ty:TypeId} {pos:String} {af:Array Edge}
end
section
variable {P:Program} {ops:List Oper} {K:Act->World->Prop} {l:List Oper} {a:Act} {w:World} {N:Nat} {L:List (Nat × Value)} {Df:List Deferred} {d:Tmp} {ty:TypeId} {pos:String} {af:Array Edge}
theorem mg {f:FuncId} {T9:TypeId} {rv X:Value} {nm:String} {cal:Operand} {tys:Array TypeId} (h:Sl N a L Df) (hf:Fnc P f) (hm:ZM P T9 rv nm f) (hc:ec L cal=some (.iface T9 rv))
 (hC:∀ w',Ext w w'->Calls P f #[rv] w' (bW w' (is X))) (hd:Nat.blt d N=true) (k:∀ a',Sl N a' ((d,X)::L) Df->ip P ops.toArray K w l a'):
 ip P ops.toArray K w (⟨some d,.call {callee:=.invoke cal nm,args:=#[],argTypes:=tys},ty,pos,af,none⟩::l) a:=
 j8 X h (λw' hE=>Cq hf hm (h.ev hc) (hC w' hE)) hd k
end
def slV (v:Value):Value:=match v with|.slice p n c=>.slice p n c|_=>.slice none 0 0
theorem Pv (v:Value):(slV v).oneCell'=true:=by cases v<;>rfl
end Go.Proofs.YthmlflaiidhoiaaGreatDoor
