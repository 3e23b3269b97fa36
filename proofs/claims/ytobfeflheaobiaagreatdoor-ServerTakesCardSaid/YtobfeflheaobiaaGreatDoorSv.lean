/- Servers: their triggers, what they send, what they take; servers that come in; no Go in it. -/
import Derived.Test.YtobfeflheaobiaaGreatDoorGd
set_option linter.unusedVariables false
set_option linter.unusedSimpArgs false
set_option linter.unusedSectionVars false
namespace Go.Proofs.YtobfeflheaobiaaGreatDoor
open Go.RowKit
instance:DecidableEq Mg:=fun a b=>decidable_of_iff (iC a b=true) (qC a b)
structure Sv where
 no:Int
 sec:ByteArray
 tb:List Tg
deriving DecidableEq
def K5:Sv:=⟨0,ByteArray.empty,[]⟩
def K6 (n:Int) (s:ByteArray) (v:Value):List Value:=[.int .i64 n,.string s,v]
def aQ (n:Int) (s:ByteArray) (v:Value):Array Value:=(K6 n s v).toArray
theorem ap (n:Int) (s:ByteArray) (v:Value):(aQ n s v).size=3:=rfl
theorem bP {v:Value} (n:Int) (s:ByteArray) (hv:v.oneCell'=true):∀ u∈(aQ n s v).toList,u.oneCell'=true:=fun u hu=>by
 have hu:u∈K6 n s v:=hu
 unfold K6 at hu
 simp only [List.mem_cons,List.not_mem_nil,or_false] at hu
 rcases hu with rfl|rfl|rfl
 ·rfl
 ·rfl
 ·exact hv
theorem sN (n:Int) (s:ByteArray) (v:Value):(aQ n s v)[0]? = some (.int .i64 n):=rfl
theorem rz (n:Int) (s:ByteArray) (v:Value):(aQ n s v)[1]? = some (.string s):=rfl
theorem lZ (n:Int) (s:ByteArray) (v:Value):(aQ n s v)[2]? = some v:=rfl
def NP:List (List Value):=[[.int .i64 0],[.string ByteArray.empty],[.slice none 0 0]]
abbrev Se:=Int × Mg × Tg
abbrev S2:=Se × Value
instance:DecidableEq Se:=fun a b=>inferInstanceAs (Decidable (a=b))
instance (a b:List Se):Decidable (a=b) := @instDecidableEqList Se _ a b
def Pm:Se:=(0,mZ,aW)
def dB:S2:=(Pm,aI)
def Hq (n:Int) (m:Mg) (v:Value) (t:Tg):List Value:=.int .i64 n::((aP m v).toList++lH t)
def dv (n:Int) (m:Mg) (v:Value) (t:Tg):Array Value:=(Hq n m v t).toArray
theorem pZ (m:Mg) (v:Value):(aP m v).toList.length=71:=by rw [Array.length_toList,ax]
theorem zr (n:Int) (m:Mg) (v:Value) (t:Tg):(Hq n m v t).length=139:=by simp [Hq,fQ]
theorem p7 (n:Int) (m:Mg) (v:Value) (t:Tg):(dv n m v t).size=139:=by simp [dv,zr]
theorem qR {v:Value} (n:Int) (m:Mg) (t:Tg) (hv:v.oneCell'=true):∀ u∈(dv n m v t).toList,u.oneCell'=true:=fun u hu=>by
 have hu:u∈Hq n m v t:=hu
 unfold Hq at hu
 rcases List.mem_cons.1 hu with rfl|hu
 ·rfl
 ·rcases List.mem_append.1 hu with hu|hu
  ·exact cX m v hv u hu
  ·exact nB t u hu
section
variable (n:Int) (m:Mg) (v:Value) (t:Tg)
theorem OH:(dv n m v t)[0]? = some (.int .i64 n):=rfl
theorem Gs:(dv n m v t).extract 1 (1+71)=aP m v:=je _ _ _ _ (by
 show ((aP m v).toList++lH t).take 71=_
 rw [List.take_left' (pZ m v)])
theorem zW:(dv n m v t).extract 72 (72+67)=aB t:=je _ _ _ _ (by
 show (((aP m v).toList++lH t).drop 71).take 67=lH t
 rw [List.drop_left' (pZ m v),← fQ t,List.take_length])
theorem Lr (j:Nat) (hj:j<71):(dv n m v t)[1+j]? = (aP m v)[j]? := by
 unfold dv Hq
 rw [List.getElem?_toArray,Nat.add_comm 1 j,List.getElem?_cons_succ,List.getElem?_append_left (by rw [pZ];exact hj),Array.getElem?_toList]
theorem MU:(dv n m v t)[1]? = some (.int .i64 m.k):=(Lr n m v t 0 (by decide)).trans (cN m v)
end
def NX (x:S2):List Value:=Hq x.1.1 x.1.2.1 x.2 x.1.2.2
theorem Fa (x:S2):(NX x).length=139:=zr ..
def aS (l:List S2):List Value:=l.flatMap NX
theorem ic (l r:List S2):aS (l++r)=aS l++aS r:=List.flatMap_append
theorem N6 {l:List S2} {j:Nat} (hj:j<l.length):l[j]=l.getD j dB:=by rw [List.getD_eq_getElem?_getD,List.getElem?_eq_getElem hj];rfl
theorem jK (l:List S2) (j:Nat) (hj:j<l.length):(((aS l).drop (j*139)).take 139).toArray=dv (l.getD j dB).1.1 (l.getD j dB).1.2.1 (l.getD j dB).2 (l.getD j dB).1.2.2:=by
 unfold aS
 rw [lS _ 139 Fa l j hj,N6 hj];rfl
theorem jY {l:List S2} {j:Nat} (hj:j<l.length):l.getD j dB∈l:=by rw [← N6 hj];exact List.getElem_mem hj
theorem CX (x:S2):([Value.agg (dv x.1.1 x.1.2.1 x.2 x.1.2.2)].flatMap fun v=>v.cells.toList)=NX x:=by simp [Value.cells,dv,NX]
theorem mR (K:List S2) (x:S2):aS K++([Value.agg (dv x.1.1 x.1.2.1 x.2 x.1.2.2)].flatMap fun v=>v.cells.toList)=aS (K++[x]):=by rw [CX,ic];simp [aS]
theorem qg (x:S2):∀ v∈([.agg (dv x.1.1 x.1.2.1 x.2 x.1.2.2)]:List Value),v.cells.size=139:=fun v hv=>by
 rw [List.mem_singleton] at hv;subst hv;exact p7 ..
def kr (K:List S2) (w:World):Prop:=∀ x∈K,dM w x.2 x.1.2.1.l
def cJ (K:List S2):List Se:=K.map (·.1)
theorem di (K:List S2):(cJ K).length=K.length:=List.length_map ..
theorem rV (K:List S2) (x:S2):cJ (K++[x])=cJ K++[x.1]:=by unfold cJ;rw [List.map_append];rfl
theorem ja (w:World):kr [] w:=fun _ h=>by cases h
theorem rb {w:World} {K:List S2} {x:Se} {u:Value} (h:kr K w) (hu:dM w u x.2.1.l):kr (K++[(x,u)]) w:=fun y hy=>by
 rcases List.mem_append.1 hy with hy|hy
 ·exact h y hy
 ·rw [List.mem_singleton.1 hy];exact hu
theorem iI {K:List S2} {w:World} (h:kr K w):∀ u∈aS K,u.oneCell'=true:=fun u hu=>by
 obtain ⟨x,hx,hu⟩:=List.mem_flatMap.1 hu
 exact qR _ _ _ (bs (h x hx)) u hu
def dJ (s:Sv):Bool:=decide (0≤s.no) && (decide (s.no≤15) && (decide (s.sec.size≤64) && ce s.tb))
def fo (m:Mg):Bool:=decide (m.k=1) || cC m
def bQ (p:Pk):Mg:=⟨1,0#256,(0,0#256,0),p.1,p.2.1,⟨#[]⟩,p.2.2⟩
def iW (m:Mg):Mg:=⟨5,m.i,m.t,[],0,⟨#[]⟩,⟨#[]⟩⟩
def iA (i:Id):Mg:=⟨7,i,(0,0#256,0),[],0,⟨#[]⟩,⟨#[]⟩⟩
def iw (i:Id) (n:Int):Mg:=⟨8,i,(0,0#256,0),[],n,⟨#[]⟩,⟨#[]⟩⟩
structure Hr where
 s:Sv
 l:List Se
 e:Int
def f7 (s s0:Sv) (fr:Int) (m:Mg) (now:Int):Hr:=
 bif decide (cD s.sec m=1) then ⟨s,[(16+m.t.2.2,dC s.sec m,aW)],0⟩ else
 bif decide (cD s.sec m=2) then (bif decide ((dL s.tb (en m now)).length≤32) then ⟨⟨s.no,s.sec,dL s.tb (en m now)⟩,[(fr,iW m,aW)],0⟩ else ⟨s0,[],8⟩) else
 bif decide (cD s.sec m=3) then (bif decide ((ey s.tb m.i m.t).2.2<0) then ⟨s0,[],6⟩ else ⟨⟨s.no,s.sec,jo s.tb m.i m.t⟩,[],0⟩) else ⟨s0,[],11⟩
def gG (p:Pk):Id:=(bk p).2.1
def jN (fr:Int) (p:Pk) (o:Ot):List Se:=
 bif decide (o.k=1) then [(16+o.h,bQ o.p,aW)] else
 bif decide (o.k=2) then (bif decide ((bk o.p).1=2) then [(16+(bk o.p).2.2,bQ o.p,o.t)] else [(-1,bQ o.p,o.t)]) else
 bif decide (o.y=6) && decide (16≤fr) then [(fr,iA (gG p),aW)] else []
def j5 (fr:Int) (p:Pk) (R:List Ot):List Se:=R.flatMap (jN fr p)
def fL (fr:Int) (o:Ot):Bool:=decide (o.k=3) && (decide (o.y=6) && decide (16≤fr))
def bJ (m:Mg):Pk:=(m.l,min m.n 64,m.d)
noncomputable def iG (s:Sv) (fr:Int) (m:Mg):List Se:=
 j5 fr (bJ m) (cL s.tb (bJ m))++bif decide (16≤fr) && (decide ((bk (bJ m)).1=1) && !(cL s.tb (bJ m)).any (fL fr)) then [(fr,iw (gG (bJ m)) s.no,aW)] else []
def cg (s:Sv) (now:Int):Sv:=⟨s.no,s.sec,sL s.tb now⟩
def il (s:Sv) (fr:Int) (m:Mg) (now:Int):Bool:=dJ s && (bD m && (decide (0≤fr) && (decide (fr≤31) && (decide (0≤now) && (decide (now≤1099511627776) && fo m)))))
noncomputable def df (s:Sv) (fr:Int) (m:Mg) (now:Int):Hr:=
 bif il s fr m now then (bif decide (m.k=1) then ⟨cg s now,iG (cg s now) fr m,0⟩ else f7 (cg s now) s fr m now) else ⟨K5,[],1⟩
def LC:List Tg→List Tg × Nat→List Tg × Nat
 |[],a=>a
 |x::l,a=>LC l (bif decide ((dL a.1 x).length≤32) then (dL a.1 x,a.2) else (a.1,a.2+1))
theorem dz {s:Sv}:dJ s=true↔0≤s.no∧s.no≤15∧s.sec.size≤64∧ce s.tb=true:=by
 unfold dJ
 rw [Bool.and_eq_true,Bool.and_eq_true,Bool.and_eq_true,decide_eq_true_eq,decide_eq_true_eq,decide_eq_true_eq]
theorem gP {s:Sv} (h:dJ s=true) (now:Int):dJ (cg s now)=true:=by
 obtain ⟨h1,h2,h3,h4⟩:=dz.1 h
 exact dz.2 ⟨h1,h2,h3,fa.2 ((fa.1 h4).filter _)⟩
theorem ig {m:Mg} (h:bD m=true) (hk:m.k=1):eK (bJ m)=true:=by
 obtain ⟨_,_,_,h3,h4,_,h6⟩:=eP h
 unfold c3 at h3;unfold c4 at h4;unfold c6 at h6
 rw [hk] at h3 h4 h6
 simp [fI,iu,i6] at h3 h4 h6
 refine dI.2 ⟨kx _ |>.1 h3,?_,?_,h6⟩
 ·show 0≤min m.n 64;omega
 ·show min m.n 64≤64;omega
theorem pY {p:Pk} (h:eK p=true):bD (bQ p)=true:=by
 obtain ⟨h1,h2,h3,h4⟩:=dI.1 h
 unfold bD c1 c2 c3 c4 c5 c6 bQ
 simp [rq,i5,gH,fI,iu,lz,i6,(kx _).2 h1,h2,h4]
 omega
theorem zX {m:Mg} (h:fK m.t=true):bD (iW m)=true:=by
 unfold bD c1 c2 c3 c4 c5 c6 iW
 simp [rq,i5,gH,fI,iu,lz,i6,h]
theorem A2 {m:Mg} (s:ByteArray) (h:fK m.t=true):bD (xJ s m)=true:=by
 unfold bD c1 c2 c3 c4 c5 c6 xJ
 simp [rq,i5,gH,fI,iu,lz,i6,h,Fw]
theorem ye (i:Id):bD (iA i)=true:=by
 unfold bD c1 c2 c3 c4 c5 c6 iA
 simp [rq,i5,gH,fI,iu,lz,i6]
theorem wH (i:Id) {n:Int} (h0:0≤n) (h1:n≤15):bD (iw i n)=true:=by
 unfold bD c1 c2 c3 c4 c5 c6 iw
 simp [rq,i5,gH,fI,iu,lz,i6,h0]
 omega
def Dv (x:Se):Prop:=bD x.2.1=true ∧ -1≤x.1∧x.1≤31∧(x.1 = -1→x.2.1.k=1)
theorem Kz {fr:Int} {t:List Tg} {p:Pk} (hp:eK p=true) (ht:ce t=true) (h1:fr≤31):∀ x∈j5 fr p (cL t p),Dv x:=fun x hx=>by
 obtain ⟨o,ho,hx⟩:=List.mem_flatMap.1 hx
 unfold jN at hx
 by_cases k1:o.k=1
 ·rw [decide_eq_true k1,cond_true,List.mem_singleton] at hx
  subst hx
  obtain ⟨a,b⟩:=mS hp ho k1
  have hpp:o.p=p:=by
   have:cL t p=[gu p]:=by
    rcases Da (t:=t) (p:=p) with g|⟨o',g1,g2⟩
    ·have:=g o ho;omega
    ·rw [g1,List.mem_singleton] at ho
     subst ho
     by_cases hf:(bk p).1=2
     ·exact jI (decide_eq_true hf)
     ·exfalso
      have hh:o∈cL t p:=by rw [g1];exact List.mem_singleton.2 rfl
      unfold cL at hh
      rw [decide_eq_false hf] at hh
      cases h2:decide (p.2.1=0)<;>rw [h2] at hh
      ·cases h3:decide ((jU t (bk p).2.1).length=0)<;>rw [h3] at hh
       ·obtain ⟨z,_,rfl⟩:=List.mem_map.1 hh
        exact absurd k1 (by show ¬ (2:Int)=1;decide)
       ·cases h4:decide (1<p.1.length)<;>rw [h4] at hh
        ·rw [List.mem_singleton.1 hh] at k1;exact absurd k1 (by show ¬ (3:Int)=1;decide)
        ·rw [List.mem_singleton.1 hh] at k1;exact absurd k1 (by show ¬ (2:Int)=1;decide)
      ·rw [List.mem_singleton.1 hh] at k1;exact absurd k1 (by show ¬ (3:Int)=1;decide)
   rw [this,List.mem_singleton] at ho
   rw [ho];rfl
  refine ⟨?_,?_,?_,?_⟩
  ·show bD (bQ o.p)=true;rw [hpp];exact pY hp
  ·show -1≤16+o.h;omega
  ·show 16+o.h≤31;omega
  ·intro e;exact absurd (show 16+o.h = -1 from e) (by omega)
 ·rw [decide_eq_false k1,cond_false] at hx
  by_cases k2:o.k=2
  ·rw [decide_eq_true k2,cond_true] at hx
   have ho1:=(j6 hp ht ho k2).1
   have hd:=pY ho1
   have hl:=(dI.1 ho1).1
   by_cases kf:(bk o.p).1=2
   ·rw [decide_eq_true kf,cond_true,List.mem_singleton] at hx
    subst hx
    have hm:bk o.p∈o.p.1:=by
     show o.p.1.getD 0 _∈o.p.1
     rw [List.getD_eq_getElem?_getD,List.getElem?_eq_getElem hl.1];exact List.getElem_mem _
    have:=uU (hl.2.2 _ hm) (by omega)
    refine ⟨hd,?_,?_,?_⟩
    ·show -1≤16+(bk o.p).2.2;omega
    ·show 16+(bk o.p).2.2≤31;omega
    ·intro e;exact absurd (show 16+(bk o.p).2.2 = -1 from e) (by omega)
   ·rw [decide_eq_false kf,cond_false,List.mem_singleton] at hx
    subst hx
    exact ⟨hd,by show (-1:Int) ≤ -1;omega,by show (-1:Int)≤31;omega,fun _=>rfl⟩
  ·rw [decide_eq_false k2,cond_false] at hx
   cases hb:decide (o.y=6) && decide (16≤fr)<;>rw [hb] at hx
   ·cases hx
   ·rw [cond_true,List.mem_singleton] at hx
    subst hx
    rw [Bool.and_eq_true] at hb
    have:=of_decide_eq_true hb.2
    exact ⟨ye _,by show -1≤fr;omega,h1,fun e=>absurd (show fr = -1 from e) (by omega)⟩
theorem KO {s:Sv} {fr:Int} {m:Mg} (hs:dJ s=true) (hm:bD m=true) (hk:m.k=1) (h1:fr≤31):∀ x∈iG s fr m,Dv x:=fun x hx=>by
 obtain ⟨n0,n1,_,ht⟩:=dz.1 hs
 unfold iG at hx
 rcases List.mem_append.1 hx with hx|hx
 ·exact Kz (ig hm hk) ht h1 x hx
 ·cases hb:decide (16≤fr) && (decide ((bk (bJ m)).1=1) && !(cL s.tb (bJ m)).any (fL fr))<;>rw [hb] at hx
  ·cases hx
  ·rw [cond_true,List.mem_singleton] at hx
   subst hx
   rw [Bool.and_eq_true] at hb
   have:=of_decide_eq_true hb.1
   exact ⟨wH _ n0 n1,by show -1≤fr;omega,h1,fun e=>absurd (show fr = -1 from e) (by omega)⟩
theorem fA {s:Sv} {fr:Int} {m:Mg} {now:Int} (h:il s fr m now=false):df s fr m now=⟨K5,[],1⟩:=by unfold df;rw [h];rfl
theorem q4 {s:Sv} {fr:Int} {m:Mg} {now:Int}:il s fr m now=true↔dJ s=true∧bD m=true∧0≤fr∧fr≤31∧0≤now∧now≤1099511627776∧fo m=true:=by
 unfold il
 simp only [Bool.and_eq_true,decide_eq_true_eq]
theorem vB {m:Mg} (h:fo m=true) (hk:¬ m.k=1):cC m=true:=by
 unfold fo at h;rw [decide_eq_false hk,Bool.false_or] at h;exact h
theorem A3 (s:ByteArray) (m:Mg):cD s m=1∨cD s m=2∨cD s m=3∨cD s m=4:=by
 unfold cD
 cases decide (m.t.1=1)
 ·cases decide (m.k=2)
  ·cases decide (m.o=Az s m)
   ·exact .inr (.inr (.inr rfl))
   ·cases decide (m.k=4)
    ·exact .inr (.inr (.inl rfl))
    ·exact .inr (.inl rfl)
  ·exact .inl rfl
 ·cases decide (m.k=2) && gV m.i m.t.2.1
  ·exact .inr (.inr (.inr rfl))
  ·exact .inr (.inl rfl)
theorem l1 (s s0:Sv) (fr:Int) (m:Mg) (now:Int):
 (cD s.sec m=1∧f7 s s0 fr m now=⟨s,[(16+m.t.2.2,dC s.sec m,aW)],0⟩) ∨
 (cD s.sec m=2∧(dL s.tb (en m now)).length≤32∧f7 s s0 fr m now=⟨⟨s.no,s.sec,dL s.tb (en m now)⟩,[(fr,iW m,aW)],0⟩) ∨
 (cD s.sec m=2∧¬ (dL s.tb (en m now)).length≤32∧f7 s s0 fr m now=⟨s0,[],8⟩) ∨
 (cD s.sec m=3∧(ey s.tb m.i m.t).2.2<0∧f7 s s0 fr m now=⟨s0,[],6⟩) ∨
 (cD s.sec m=3∧¬ (ey s.tb m.i m.t).2.2<0∧f7 s s0 fr m now=⟨⟨s.no,s.sec,jo s.tb m.i m.t⟩,[],0⟩) ∨
 (cD s.sec m=4∧f7 s s0 fr m now=⟨s0,[],11⟩):=by
 rcases A3 s.sec m with e|e|e|e
 ·refine .inl ⟨e,?_⟩;unfold f7;rw [e];rfl
 ·by_cases h:(dL s.tb (en m now)).length≤32
  ·refine .inr (.inl ⟨e,h,?_⟩);unfold f7;rw [e,decide_eq_true h];rfl
  ·refine .inr (.inr (.inl ⟨e,h,?_⟩));unfold f7;rw [e,decide_eq_false h];rfl
 ·by_cases h:(ey s.tb m.i m.t).2.2<0
  ·refine .inr (.inr (.inr (.inl ⟨e,h,?_⟩)));unfold f7;rw [e,decide_eq_true h];rfl
  ·refine .inr (.inr (.inr (.inr (.inl ⟨e,h,?_⟩))));unfold f7;rw [e,decide_eq_false h];rfl
 ·refine .inr (.inr (.inr (.inr (.inr ⟨e,?_⟩))));unfold f7;rw [e];rfl
theorem jD {s:Sv} {fr:Int} {m:Mg} {now:Int} (h:il s fr m now=true) (hk:m.k=1):df s fr m now=⟨cg s now,iG (cg s now) fr m,0⟩:=by unfold df;rw [h,decide_eq_true hk];rfl
theorem j4 {s:Sv} {fr:Int} {m:Mg} {now:Int} (h:il s fr m now=true) (hk:¬ m.k=1):df s fr m now=f7 (cg s now) s fr m now:=by unfold df;rw [h,decide_eq_false hk];rfl
theorem Cp {s:Sv} {fr:Int} {m:Mg} {now:Int} (h:(df s fr m now).e≠0):(df s fr m now).l=[]∧((df s fr m now).e=1∨(df s fr m now).s=s):=by
 cases hb:il s fr m now with
 |false=>rw [fA hb];exact ⟨rfl,.inl rfl⟩
 |true=>
  by_cases hk:m.k=1
  ·rw [jD hb hk] at h;exact absurd rfl h
  ·rw [j4 hb hk] at h ⊢
   rcases l1 (cg s now) s fr m now with ⟨_,e⟩|⟨_,_,e⟩|⟨_,_,e⟩|⟨_,_,e⟩|⟨_,_,e⟩|⟨_,e⟩<;>rw [e] at h ⊢
   ·exact absurd rfl h
   ·exact absurd rfl h
   ·exact ⟨rfl,.inr rfl⟩
   ·exact ⟨rfl,.inr rfl⟩
   ·exact absurd rfl h
   ·exact ⟨rfl,.inr rfl⟩
theorem yG {m:Mg} {now:Int} (h:cC m=true) (h0:0≤now):m.k≠6→ge (en m now)=true:=fun hk=>by
 have hn:=nF h (decide_eq_false hk)
 refine ie.2 ⟨(fP h).1,?_,?_⟩
 ·show 0≤min (now+m.n) 1099511627776;omega
 ·show min (now+m.n) 1099511627776≤1099511627776;omega
theorem Ix {s:ByteArray} {m:Mg} (h:cD s m=2):(m.t.1=1∧m.k=2∧gV m.i m.t.2.1=true)∨(¬ m.t.1=1∧m.k=4∧m.o=Az s m):=by
 unfold cD at h
 by_cases c:m.t.1=1
 ·rw [decide_eq_true c,cond_true] at h
  cases hb:decide (m.k=2) && gV m.i m.t.2.1<;>rw [hb] at h
  ·cases h
  ·rw [Bool.and_eq_true] at hb
   exact .inl ⟨c,of_decide_eq_true hb.1,hb.2⟩
 ·rw [decide_eq_false c,cond_false] at h
  cases h2:decide (m.k=2)<;>rw [h2] at h
  ·rw [cond_false] at h
   cases ho:decide (m.o=Az s m)<;>rw [ho] at h
   ·cases h
   ·cases h4:decide (m.k=4)<;>rw [h4] at h
    ·cases h
    ·exact .inr ⟨c,of_decide_eq_true h4,of_decide_eq_true ho⟩
  ·cases h
theorem NE {s:ByteArray} {m:Mg} (h:cD s m=1):¬ m.t.1=1∧m.k=2∧dC s m=xJ s m:=by
 unfold cD at h
 by_cases c:m.t.1=1
 ·rw [decide_eq_true c,cond_true] at h
  cases hb:decide (m.k=2) && gV m.i m.t.2.1<;>rw [hb] at h<;>cases h
 ·rw [decide_eq_false c,cond_false] at h
  by_cases h2:m.k=2
  ·refine ⟨c,h2,?_⟩
   unfold dC;rw [decide_eq_false c,decide_eq_true h2];rfl
  ·rw [decide_eq_false h2,cond_false] at h
   cases ho:decide (m.o=Az s m)<;>rw [ho] at h
   ·cases h
   ·cases h4:decide (m.k=4)<;>rw [h4] at h<;>cases h
theorem Ct {s:Sv} {fr:Int} {m:Mg} {now:Int} (h:(df s fr m now).e=0):il s fr m now=true∧dJ (df s fr m now).s=true∧(df s fr m now).s.no=s.no∧(df s fr m now).s.sec=s.sec∧∀ x∈(df s fr m now).l,Dv x:=by
 cases hb:il s fr m now with
 |false=>rw [fA hb] at h;cases h
 |true=>
  obtain ⟨hs,hm,f0,f1,t0,t1,ES⟩:=q4.1 hb
  refine ⟨rfl,?_⟩
  by_cases hk:m.k=1
  ·rw [jD hb hk]
   exact ⟨gP hs now,rfl,rfl,KO (gP hs now) hm hk f1⟩
  ·have ha:=vB ES hk
   have hE:=gP hs now
   obtain ⟨n0,n1,hsz,ht⟩:=dz.1 hE
   have hht:=oH (fP ha).1
   rw [j4 hb hk] at h ⊢
   rcases l1 (cg s now) s fr m now with ⟨g,e⟩|⟨g,g2,e⟩|⟨_,_,e⟩|⟨_,_,e⟩|⟨g,_,e⟩|⟨_,e⟩<;>rw [e] at h ⊢
   ·refine ⟨hE,rfl,rfl,fun x hx=>?_⟩
    rw [List.mem_singleton] at hx;subst hx
    rw [(NE g).2.2]
    refine ⟨A2 _ (fP ha).1,?_,?_,?_⟩
    ·show -1≤16+m.t.2.2;omega
    ·show 16+m.t.2.2≤31;omega
    ·intro e9;exact absurd (show 16+m.t.2.2 = -1 from e9) (by omega)
   ·have hk6:m.k≠6:=by rcases Ix g with ⟨_,e9,_⟩|⟨_,e9,_⟩<;>omega
    refine ⟨dz.2 ⟨n0,n1,hsz,fa.2 (xQ (fa.1 ht) (yG ha t0 hk6) g2)⟩,rfl,rfl,fun x hx=>?_⟩
    rw [List.mem_singleton] at hx;subst hx
    exact ⟨zX (fP ha).1,by show -1≤fr;omega,f1,fun e9=>absurd (show fr = -1 from e9) (by omega)⟩
   ·cases h
   ·cases h
   ·exact ⟨dz.2 ⟨n0,n1,hsz,fa.2 ((fa.1 ht).filter _)⟩,rfl,rfl,fun x hx=>by cases hx⟩
   ·cases h
theorem Nz {s:Sv} {fr:Int} {m:Mg} {now:Int} (hs:dJ s=true) (ha:cC m=true) (f0:0≤fr) (f1:fr≤31) (t0:0≤now) (t1:now≤1099511627776):il s fr m now=true∧df s fr m now=f7 (cg s now) s fr m now:=by
 have hk:=eM.1 ha
 have hb:il s fr m now=true:=q4.2 ⟨hs,hk.1,f0,f1,t0,t1,by unfold fo;rw [ha,Bool.or_true]⟩
 exact ⟨hb,j4 hb (by rcases hk.2 with e|e|e<;>omega)⟩
def Ol:List (List Value):=[[.int .i64 0],zn.flatten,Bk.flatten]
section
variable {P:Program} {ρ:Operand→Value} {d:Option Tmp} {ty:TypeId} {pos:String} {af:Array Edge} {g:Option (Nat × Bool)} {x y z:Operand} {t:TypeId}
theorem dp (S:Stt P t NP):aM P ⟨d,.build t #[],ty,pos,af,g⟩ ρ (.agg (aQ 0 ByteArray.empty aI)):=
 bb (P:=P) (ρ:=ρ) (d:=d) (ty:=ty) (pos:=pos) (af:=af) (g:=g) (parts:=#[]) S [] (by simp) (fun i v hm=>by simp at hm) (D:=K6 0 ByteArray.empty aI) rfl
theorem tK {n:Int} (S:Stt P t NP) (hx:ρ x=.int .i64 n):aM P ⟨d,.build t #[(0,x)],ty,pos,af,g⟩ ρ (.agg (aQ n ByteArray.empty aI)):=by
 have:=bb (P:=P) (ρ:=ρ) (d:=d) (ty:=ty) (pos:=pos) (af:=af) (g:=g) (parts:=#[(0,x)]) S [(0,.int .i64 n)] (by simp [hx]) (fun j u hm=>by
  simp only [List.mem_cons,Prod.mk.injEq,List.not_mem_nil,or_false] at hm
  obtain ⟨rfl,rfl⟩:=hm
  exact ⟨_,rfl,rfl⟩) (D:=K6 n ByteArray.empty aI) rfl
 exact this
theorem tD {n:Int} {s:ByteArray} {v:Value} (S:Stt P t NP) (hv:v.cells.size=1) (hc:v.cells.toList=[v]) (hx:ρ x=.int .i64 n) (hy:ρ y=.string s) (hz:ρ z=v):aM P ⟨d,.build t #[(0,x),(1,y),(2,z)],ty,pos,af,g⟩ ρ (.agg (aQ n s v)):=by
 have:=bb (P:=P) (ρ:=ρ) (d:=d) (ty:=ty) (pos:=pos) (af:=af) (g:=g) (parts:=#[(0,x),(1,y),(2,z)]) S [(0,.int .i64 n),(1,.string s),(2,v)] (by simp [hx,hy,hz]) (fun j u hm=>by
  simp only [List.mem_cons,Prod.mk.injEq,List.not_mem_nil,or_false] at hm
  rcases hm with ⟨rfl,rfl⟩|⟨rfl,rfl⟩|⟨rfl,rfl⟩
  ·exact ⟨_,rfl,rfl⟩
  ·exact ⟨_,rfl,rfl⟩
  ·exact ⟨_,rfl,hv⟩) (D:=K6 n s v) (by
   show [Value.int .i64 n]++([Value.string s]++(v.cells.toList++[]))=_
   rw [hc];rfl)
 exact this
theorem oT {n:Int} {m:Mg} {v:Value} {b:Tg} (S:Stt P t Ol) (hx:ρ x=.int .i64 n) (hy:ρ y=.agg (aP m v)) (hz:ρ z=.agg (aB b)):aM P ⟨d,.build t #[(0,x),(1,y),(2,z)],ty,pos,af,g⟩ ρ (.agg (dv n m v b)):=by
 have:=bb (P:=P) (ρ:=ρ) (d:=d) (ty:=ty) (pos:=pos) (af:=af) (g:=g) (parts:=#[(0,x),(1,y),(2,z)]) S [(0,.int .i64 n),(1,.agg (aP m v)),(2,.agg (aB b))] (by simp [hx,hy,hz]) (fun j u hm=>by
  simp only [List.mem_cons,Prod.mk.injEq,List.not_mem_nil,or_false] at hm
  rcases hm with ⟨rfl,rfl⟩|⟨rfl,rfl⟩|⟨rfl,rfl⟩
  ·exact ⟨_,rfl,rfl⟩
  ·exact ⟨_,rfl,by show (aP m v).size=_;rw [ax];rfl⟩
  ·exact ⟨_,rfl,by show (aB b).size=_;rw [ao];rfl⟩) (D:=Hq n m v b) (by
   show [Value.int .i64 n]++((aP m v).toList++((aB b).toList++[]))=_
   rw [List.append_nil];rfl)
 exact this
end
def K3 (n:Int) (s:ByteArray) (v u:Value) (e:Int):List Value:=[.int .i64 n,.string s,v,u,.int .i64 e]
def bT (n:Int) (s:ByteArray) (v u:Value) (e:Int):Array Value:=(K3 n s v u e).toArray
theorem aw (n:Int) (s:ByteArray) (v u:Value) (e:Int):(bT n s v u e).size=5:=rfl
theorem bB {v u:Value} (n:Int) (s:ByteArray) (e:Int) (hv:v.oneCell'=true) (hu:u.oneCell'=true):∀ z∈(bT n s v u e).toList,z.oneCell'=true:=fun z hz=>by
 have hz:z∈K3 n s v u e:=hz
 unfold K3 at hz
 simp only [List.mem_cons,List.not_mem_nil,or_false] at hz
 rcases hz with rfl|rfl|rfl|rfl|rfl
 ·rfl
 ·rfl
 ·exact hv
 ·exact hu
 ·rfl
section
variable (n:Int) (s:ByteArray) (v u:Value) (e:Int)
theorem ux:(bT n s v u e)[3]? = some u:=rfl
theorem xM:(bT n s v u e)[4]? = some (.int .i64 e):=rfl
theorem qO:(bT n s v u e).extract 0 (0+3)=aQ n s v:=rfl
end
def N7:List (List Value):=[[.int .i64 0,.string ByteArray.empty,.slice none 0 0],[.slice none 0 0],[.int .i64 0]]
section
variable {P:Program} {ρ:Operand→Value} {d:Option Tmp} {ty:TypeId} {pos:String} {af:Array Edge} {g:Option (Nat × Bool)} {x y z:Operand} {t:TypeId}
theorem eQ {e:Int} (S:Stt P t N7) (hx:ρ x=.int .i64 e):aM P ⟨d,.build t #[(2,x)],ty,pos,af,g⟩ ρ (.agg (bT 0 ByteArray.empty aI aI e)):=by
 have:=bb (P:=P) (ρ:=ρ) (d:=d) (ty:=ty) (pos:=pos) (af:=af) (g:=g) (parts:=#[(2,x)]) S [(2,.int .i64 e)] (by simp [hx]) (fun j u hm=>by
  simp only [List.mem_cons,Prod.mk.injEq,List.not_mem_nil,or_false] at hm
  obtain ⟨rfl,rfl⟩:=hm
  exact ⟨_,rfl,rfl⟩) (D:=K3 0 ByteArray.empty aI aI e) rfl
 exact this
theorem nz {n:Int} {s:ByteArray} {v:Value} (S:Stt P t N7) (hx:ρ x=.agg (aQ n s v)):aM P ⟨d,.build t #[(0,x)],ty,pos,af,g⟩ ρ (.agg (bT n s v aI 0)):=by
 have:=bb (P:=P) (ρ:=ρ) (d:=d) (ty:=ty) (pos:=pos) (af:=af) (g:=g) (parts:=#[(0,x)]) S [(0,.agg (aQ n s v))] (by simp [hx]) (fun j u hm=>by
  simp only [List.mem_cons,Prod.mk.injEq,List.not_mem_nil,or_false] at hm
  obtain ⟨rfl,rfl⟩:=hm
  exact ⟨_,rfl,rfl⟩) (D:=K3 n s v aI 0) rfl
 exact this
theorem js {n e:Int} {s:ByteArray} {v:Value} (S:Stt P t N7) (hx:ρ x=.agg (aQ n s v)) (hy:ρ y=.int .i64 e):aM P ⟨d,.build t #[(0,x),(2,y)],ty,pos,af,g⟩ ρ (.agg (bT n s v aI e)):=by
 have:=bb (P:=P) (ρ:=ρ) (d:=d) (ty:=ty) (pos:=pos) (af:=af) (g:=g) (parts:=#[(0,x),(2,y)]) S [(0,.agg (aQ n s v)),(2,.int .i64 e)] (by simp [hx,hy]) (fun j u hm=>by
  simp only [List.mem_cons,Prod.mk.injEq,List.not_mem_nil,or_false] at hm
  rcases hm with ⟨rfl,rfl⟩|⟨rfl,rfl⟩
  ·exact ⟨_,rfl,rfl⟩
  ·exact ⟨_,rfl,rfl⟩) (D:=K3 n s v aI e) rfl
 exact this
end
theorem DH {w w':World} {K:List S2} (h:kr K w) (e:Ext w w'):kr K w':=fun x hx=>(h x hx).keep e
theorem n5 {K:List S2} {j:Nat} (hj:j<K.length):(cJ K)[j]? = some (K.getD j dB).1:=by
 unfold cJ
 rw [List.getElem?_map,List.getElem?_eq_getElem hj,N6 hj];rfl
theorem B4 {K M:List S2} {k:Nat} (h1:k<K.length) (h2:k<M.length) (h:(K.getD k dB).1≠(M.getD k dB).1):decide (cJ K=cJ M)=false:=decide_eq_false fun e=>h (by
 have:=n5 h1
 rw [e,n5 h2] at this
 exact(Option.some.inj this).symm)
theorem MB {K M:List S2} (h:¬ K.length=M.length):decide (cJ K=cJ M)=false:=decide_eq_false fun e=>h (by rw [← di K,← di M,e])
theorem JH {K M:List S2} (hl:K.length=M.length) (h:∀ j,j<K.length→(K.getD j dB).1=(M.getD j dB).1):decide (cJ K=cJ M)=true:=decide_eq_true (by
 refine List.ext_getElem? fun j=>?_
 rcases Nat.lt_or_ge j K.length with g|g
 ·rw [n5 g,n5 (hl▸g),h j g]
 ·rw [List.getElem?_eq_none (by rw [di];exact g),List.getElem?_eq_none (by rw [di,← hl];exact g)])
theorem G3 {K M:List S2} {k:Nat} (h:∀ j,j<k→(K.getD j dB).1=(M.getD j dB).1) (he:(K.getD k dB).1=(M.getD k dB).1):∀ j,j<k+1→(K.getD j dB).1=(M.getD j dB).1:=fun j hj=>by
 rcases Nat.lt_or_ge j k with g|g
 ·exact h j g
 ·obtain rfl:j=k:=by omega
  exact he
theorem LN {x y:Se} (h0:decide (x.1=y.1)=true) (h1:decide (x.2.2=y.2.2)=true) (h2:iC x.2.1 y.2.1=true):x=y:=Prod.ext (of_decide_eq_true h0) (Prod.ext ((qC _ _).1 h2) (of_decide_eq_true h1))
theorem DY {a b:Sv} (h:decide (a.no=b.no)=false):decide (a=b)=false:=decide_eq_false fun e=>of_decide_eq_false h (by rw [e])
theorem Cs {a b:Sv} (_h0:decide (a.no=b.no)=true) (h:decide (a.sec=b.sec)=false):decide (a=b)=false:=decide_eq_false fun e=>of_decide_eq_false h (by rw [e])
theorem C7 {a b:Sv} (h0:decide (a.no=b.no)=true) (h:decide (a.sec=b.sec)=true):decide (a=b)=decide (a.tb=b.tb):=decide_eq_decide.2 ⟨fun e=>by rw [e],fun e=>by
 have g0:=of_decide_eq_true h0
 have g1:=of_decide_eq_true h
 clear h0 h
 cases a;cases b
 simp only at g0 g1 e
 subst g0;subst g1;subst e;rfl⟩
def E8 (w:World) (vt vw vs:Value) (tb tb0:List Tg) (l:List cU) (H:Hr):cW:=fun v w'=>∃ vt' ul K ks,v=.agg (bT H.s.no H.s.sec vt' ul H.e)∧cJ K=H.l∧St w [.grp ks fun w9=>dW w9 vt tb→dW w9 vw tb0→dM w9 vs l→dW w9 vt' H.s.tb∧bI w9 ul 139 K.length (aS K)∧kr K w9] w'
section
variable {w w':World} {vt vw vs:Value} {tb tb0:List Tg} {l:List cU} {H:Hr} {N M:TypeId} {s':Sv} {L:List Se} {e:Int}
theorem GD {vt' u:Value} {K:List S2} (hH:H=⟨s',L,e⟩) (hL:cJ K=L) (hu:∀ w9,dW w9 vt tb→dW w9 vw tb0→dM w9 vs l→dW w9 vt' s'.tb∧kr K w9) (s:St w [.sl u N 139 K.length (aS K)] w'):E8 w vt vw vs tb tb0 l H (.agg (bT s'.no s'.sec vt' u e)) w':=by
 subst hH
 obtain ⟨kn,s⟩:=((s.grp0 (S:=fun _=>True) (fun _=>trivial)).perm (List.Perm.swap ..)).grp1 (S':=fun w9=>dW w9 vt tb→dW w9 vw tb0→dM w9 vs l→dW w9 vt' s'.tb∧bI w9 u 139 K.length (aS K)∧kr K w9) (fun w9 h _ a b c=>⟨(hu w9 a b c).1,h,(hu w9 a b c).2⟩)
 exact ⟨vt',u,K,kn,rfl,hL,s⟩
theorem Fb {p u:Value} {K:List S2} {T:List Tg} (hH:H=⟨s',L,e⟩) (hT:s'.tb=T) (hL:cJ K=L) (hu:∀ w9,dM w9 vs l→kr K w9) (s:St w [.sl u N 139 K.length (aS K),.sl p M 67 T.length (aJ T)] w'):E8 w vt vw vs tb tb0 l H (.agg (bT s'.no s'.sec p u e)) w':=by
 subst hH;subst hT
 have s1:=s.grp0 (S:=fun _=>True) (fun _=>trivial)
 obtain ⟨kn,s2⟩:=(s1.perm (List.perm_append_comm (l₁:=[_]) (l₂:=[_,_]))).grpR (S':=fun w9=>dW w9 vt tb→dW w9 vw tb0→dM w9 vs l→dW w9 p s'.tb∧bI w9 u 139 K.length (aS K)∧kr K w9) (fun w9 h1 h2 _ _ _ c=>⟨h2,h1,hu w9 c⟩)
 exact ⟨p,u,K,kn,rfl,hL,s2⟩
theorem G2 {p:Value} {T:List Tg} (hH:H=⟨s',[],e⟩) (hT:s'.tb=T) (s:St w [.sl p M 67 T.length (aJ T)] w'):E8 w vt vw vs tb tb0 l H (.agg (bT s'.no s'.sec p aI e)) w':=by
 subst hH;subst hT
 obtain ⟨kn,s⟩:=((s.grp0 (S:=fun _=>True) (fun _=>trivial)).perm (List.Perm.swap ..)).grp1 (S':=fun w9=>dW w9 vt tb→dW w9 vw tb0→dM w9 vs l→dW w9 p s'.tb∧bI w9 aI 139 ([]:List S2).length (aS [])∧kr [] w9) (fun w9 h _ _ _ _=>⟨h,⟨rfl,.inl ⟨rfl,rfl⟩⟩,ja w9⟩)
 exact ⟨p,aI,[],kn,rfl,rfl,s⟩
theorem g8 {vt':Value} (hH:H=⟨s',[],e⟩) (hu:∀ w9,dW w9 vt tb→dW w9 vw tb0→dW w9 vt' s'.tb) (s:St w [] w'):E8 w vt vw vs tb tb0 l H (.agg (bT s'.no s'.sec vt' aI e)) w':=by
 subst hH
 exact ⟨vt',aI,[],[],rfl,rfl,s.grp0 (S:=fun w9=>dW w9 vt tb→dW w9 vw tb0→dM w9 vs l→dW w9 vt' s'.tb∧bI w9 aI 139 ([]:List S2).length (aS [])∧kr [] w9) (fun w9 a b c=>⟨hu w9 a b,⟨rfl,.inl ⟨rfl,rfl⟩⟩,ja w9⟩)⟩
end
theorem yO {s:ByteArray} {m:Mg} (h:decide (cD s m=2)=true):decide (m.k=6)=false:=decide_eq_false (by
 rcases Ix (of_decide_eq_true h) with ⟨_,e,_⟩|⟨_,e,_⟩<;>omega)
theorem KL {s s0:Sv} {fr:Int} {m:Mg} {now:Int} (h:decide (cD s.sec m=1)=true):f7 s s0 fr m now=⟨s,[(16+m.t.2.2,dC s.sec m,aW)],0⟩:=by unfold f7;rw [h];rfl
theorem LQ {s s0:Sv} {fr:Int} {m:Mg} {now:Int} (h1:decide (cD s.sec m=1)=false) (h:decide (cD s.sec m=2)=true) (hf:decide ((dL s.tb (en m now)).length≤32)=true):f7 s s0 fr m now=⟨⟨s.no,s.sec,dL s.tb (en m now)⟩,[(fr,iW m,aW)],0⟩:=by unfold f7;rw [h1,h,hf];rfl
theorem Nf {s s0:Sv} {fr:Int} {m:Mg} {now:Int} (h1:decide (cD s.sec m=1)=false) (h:decide (cD s.sec m=2)=true) (hf:decide ((dL s.tb (en m now)).length≤32)=false):f7 s s0 fr m now=⟨s0,[],8⟩:=by unfold f7;rw [h1,h,hf];rfl
theorem L2 {s s0:Sv} {fr:Int} {m:Mg} {now:Int} (h1:decide (cD s.sec m=1)=false) (h2:decide (cD s.sec m=2)=false) (h:decide (cD s.sec m=3)=true) (hf:decide ((ey s.tb m.i m.t).2.2<0)=true):f7 s s0 fr m now=⟨s0,[],6⟩:=by unfold f7;rw [h1,h2,h,hf];rfl
theorem Nc {s s0:Sv} {fr:Int} {m:Mg} {now:Int} (h1:decide (cD s.sec m=1)=false) (h2:decide (cD s.sec m=2)=false) (h:decide (cD s.sec m=3)=true) (hf:decide ((ey s.tb m.i m.t).2.2<0)=false):f7 s s0 fr m now=⟨⟨s.no,s.sec,jo s.tb m.i m.t⟩,[],0⟩:=by unfold f7;rw [h1,h2,h,hf];rfl
theorem LG {s s0:Sv} {fr:Int} {m:Mg} {now:Int} (h1:decide (cD s.sec m=1)=false) (h2:decide (cD s.sec m=2)=false) (h:decide (cD s.sec m=3)=false):f7 s s0 fr m now=⟨s0,[],11⟩:=by unfold f7;rw [h1,h2,h];rfl
theorem oZ {x:S2} {w:World} (h:dM w x.2 x.1.2.1.l):kr [x] w:=fun y hy=>by rw [List.mem_singleton.1 hy];exact h
def MH (w:World) (v:Value) (K:List S2):Prop:=bI w v 139 K.length (aS K)∧kr K w
theorem MH.keep {w w':World} {v:Value} {K:List S2} (h:MH w v K) (e:Ext w w'):MH w' v K:=⟨h.1.keep e,DH h.2 e⟩
theorem nR (K:List S2) (j:Nat) (hj:j<K.length):(aS K)[j*139+0]? = some (.int .i64 (K.getD j dB).1.1):=by
 have h:=congrArg (fun a:Array Value=>a[0]?) (jK K j hj)
 simp only [OH,List.getElem?_toArray] at h
 rw [← h,List.getElem?_take_of_lt (by decide),List.getElem?_drop]
theorem H9 {α:Type} [DecidableEq α] {x y:Se} (f:Se→α) (h:decide (f x=f y)=false):x≠y:=fun e=>of_decide_eq_false h (by rw [e])
theorem JG {x y:Se} (h:iC x.2.1 y.2.1=false):x≠y:=fun e=>by rw [e,AT] at h;cases h
def ES (l tb:List Tg) (k:Nat):List Tg × Nat:=LC (l.take k) (tb,0)
def t8 (v:Value):Value:=match v with|.agg a=>a.getD 3 undef|_=>undef
theorem EY {l:List cU} (h:0<l.length):(br l)[0*34+33]? = some (.int .i64 (l.getD 0 L5).2.2):=by
 have hh:=congrArg (fun a:Array Value=>a[33]?) (pX l 0 h)
 simp only [dO,List.getElem?_toArray] at hh
 rw [List.getElem?_take_of_lt (by decide),List.getElem?_drop] at hh
 exact hh
section
variable {fr:Int} {p:Pk} {K:List O2} {KS:List S2} {k:Nat} {t:List Tg} {o:Ot}
theorem tq (hk:k<K.length):(eN K).take (k+1)=(eN K).take k++[(K.getD k aX).1]:=by
 rw [List.take_add_one,GJ hk];rfl
theorem mQ {x:S2} (hk:k<K.length) (h:cJ KS=j5 fr p ((eN K).take k)) (hx:jN fr p (K.getD k aX).1=[x.1]):cJ (KS++[x])=j5 fr p ((eN K).take (k+1)):=by
 rw [rV,h,tq hk]
 unfold j5
 rw [List.flatMap_append,List.flatMap_cons,List.flatMap_nil,List.append_nil,hx]
theorem pF (hk:k<K.length) (h:cJ KS=j5 fr p ((eN K).take k)) (hx:jN fr p (K.getD k aX).1=[]):cJ KS=j5 fr p ((eN K).take (k+1)):=by
 rw [h,tq hk]
 unfold j5
 rw [List.flatMap_append,List.flatMap_cons,List.flatMap_nil,List.append_nil,hx,List.append_nil]
theorem CM (hk:k<K.length):((eN K).take (k+1)).any (fL fr)=(((eN K).take k).any (fL fr) || fL fr (K.getD k aX).1):=by
 rw [tq hk,List.any_append,List.any_cons,List.any_nil,Bool.or_false]
theorem rl (hk:k<K.length) (h:fL fr (K.getD k aX).1=false):((eN K).take k).any (fL fr)=((eN K).take (k+1)).any (fL fr):=by rw [CM hk,h,Bool.or_false]
theorem IU (hk:k<K.length) (h:fL fr (K.getD k aX).1=true):true=((eN K).take (k+1)).any (fL fr):=by rw [CM hk,h,Bool.or_true]
theorem LO (h:decide (o.k=1)=true):jN fr p o=[(16+o.h,bQ o.p,aW)]∧fL fr o=false:=by
 have:=of_decide_eq_true h
 refine ⟨by unfold jN;rw [h];rfl,by unfold fL;rw [decide_eq_false (by omega)];rfl⟩
theorem Mr (h:decide (o.k=1)=false) (h2:decide (o.k=2)=true) (h3:decide ((bk o.p).1=2)=true):jN fr p o=[(16+(bk o.p).2.2,bQ o.p,o.t)]∧fL fr o=false:=by
 have:=of_decide_eq_true h2
 refine ⟨by unfold jN;rw [h,h2,h3];rfl,by unfold fL;rw [decide_eq_false (by omega)];rfl⟩
theorem NC (h:decide (o.k=1)=false) (h2:decide (o.k=2)=true) (h3:decide ((bk o.p).1=2)=false):jN fr p o=[(-1,bQ o.p,o.t)]∧fL fr o=false:=by
 have:=of_decide_eq_true h2
 refine ⟨by unfold jN;rw [h,h2,h3];rfl,by unfold fL;rw [decide_eq_false (by omega)];rfl⟩
theorem MG (h:decide (o.k=1)=false) (h2:decide (o.k=2)=false) (h0:o.k=3) (h4:decide (o.y=6)=true) (h5:decide (16≤fr)=true):jN fr p o=[(fr,iA (gG p),aW)]∧fL fr o=true:=by
 refine ⟨by unfold jN;rw [h,h2,h4,h5];rfl,by unfold fL;rw [decide_eq_true h0,h4,h5];rfl⟩
theorem L7 (h:decide (o.k=1)=false) (h2:decide (o.k=2)=false) (h4:decide (o.y=6)=false):jN fr p o=[]∧fL fr o=false:=by
 refine ⟨by unfold jN;rw [h,h2,h4];rfl,by unfold fL;rw [h4,Bool.false_and,Bool.and_false]⟩
theorem Mi (h:decide (o.k=1)=false) (h2:decide (o.k=2)=false) (h4:decide (16≤fr)=false):jN fr p o=[]∧fL fr o=false:=by
 refine ⟨by unfold jN;rw [h,h2,h4,Bool.and_false];rfl,by unfold fL;rw [h4,Bool.and_false,Bool.and_false]⟩
theorem ms (ho:o∈cL t p):o.k=1∨o.k=2∨o.k=3:=by
 cases h:decide ((bk p).1=2)
 ·cases h1:decide (p.2.1=0)
  ·cases h2:decide ((jU t (bk p).2.1).length=0)
   ·rw [ng h h1 h2] at ho
    obtain ⟨z,_,rfl⟩:=List.mem_map.1 ho
    exact .inr (.inl rfl)
   ·cases h3:decide (1<p.1.length)
    ·rw [mg h h1 h2 h3,List.mem_singleton] at ho
     rw [ho];exact .inr (.inr rfl)
    ·rw [kH h h1 h2 h3,List.mem_singleton] at ho
     rw [ho];exact .inr (.inl rfl)
  ·rw [mv h h1,List.mem_singleton] at ho
   rw [ho];exact .inr (.inr rfl)
 ·rw [jI h,List.mem_singleton] at ho
  rw [ho];exact .inl rfl
theorem dT (h:eK p=true):1≤p.1.length∧((bk p).1=1∨(bk p).1=2):=by
 have hl:=(dI.1 h).1
 refine ⟨hl.1,?_⟩
 have hm:bk p∈p.1:=by
  show p.1.getD 0 _∈p.1
  rw [List.getD_eq_getElem?_getD,List.getElem?_eq_getElem hl.1];exact List.getElem_mem _
 have:=hl.2.2 _ hm
 unfold fK at this
 simp only [Bool.or_eq_true,Bool.and_eq_true,decide_eq_true_eq] at this
 omega
theorem qY (h:eK p=true) (h2:(bk p).1=2):0≤(bk p).2.2∧(bk p).2.2≤15:=by
 have hl:=(dI.1 h).1
 have hm:bk p∈p.1:=by
  show p.1.getD 0 _∈p.1
  rw [List.getD_eq_getElem?_getD,List.getElem?_eq_getElem hl.1];exact List.getElem_mem _
 have:=uU (hl.2.2 _ hm) (by omega)
 omega
theorem km {x:S2} (h:∀ w9,kM K w9→kr KS w9) (hx:∀ w9,kM K w9→dM w9 x.2 x.1.2.1.l):∀ w9,kM K w9→kr (KS++[x]) w9:=fun w9 h9=>rb (h w9 h9) (hx w9 h9)
theorem iQ {x:S2} (h:KS.length≤k):(KS++[x]).length≤k+1:=by rw [List.length_append];exact Nat.succ_le_succ h
end
section
variable {P:Program} {ρ:Operand→Value} {d:Option Tmp} {ty:TypeId} {pos:String} {af:Array Edge} {g:Option (Nat × Bool)} {y0 y1:Operand} {t:TypeId}
theorem nO {k:Int} {i:Id} (S:Stt P t zn) (h0:ρ y0=.int .i64 k) (h1:ρ y1=.agg (aA i)):aM P ⟨d,.build t #[(0,y0),(1,y1)],ty,pos,af,g⟩ ρ (.agg (aP ⟨k,i,(0,0#256,0),[],0,⟨#[]⟩,⟨#[]⟩⟩ aI)):=by
 have:=bb (P:=P) (ρ:=ρ) (d:=d) (ty:=ty) (pos:=pos) (af:=af) (g:=g) (parts:=#[(0,y0),(1,y1)]) S [(0,.int .i64 k),(1,.agg (aA i))] (by simp [h0,h1]) (fun j u hm=>by
  simp only [List.mem_cons,Prod.mk.injEq,List.not_mem_nil,or_false] at hm
  rcases hm with ⟨rfl,rfl⟩|⟨rfl,rfl⟩
  ·exact ⟨_,rfl,rfl⟩
  ·exact ⟨_,rfl,by show (aA _).size=_;rw [ai];rfl⟩) (D:=(aP ⟨k,i,(0,0#256,0),[],0,⟨#[]⟩,⟨#[]⟩⟩ aI).toList) (by
   show [Value.int .i64 k]++((aA i).toList++((Value.int .i64 0::(List.replicate 32 (Value.int .u8 0)++[Value.int .i64 0]))++([Value.slice none 0 0]++([Value.int .i64 0]++([Value.string ⟨#[]⟩]++([Value.string ⟨#[]⟩]++[]))))))=_
   rw [OP];rfl)
 exact this
end
theorem It {sv:Sv} {fr:Int} {m:Mg} {K:List O2} {KS:List S2} (hK:eN K=cL sv.tb (bJ m)) (h:cJ KS=j5 fr (bJ m) ((eN K).take K.length)) (h0:decide (16≤fr)=true) (h1:decide ((bk (bJ m)).1=1)=true) (h2:((eN K).take K.length).any (fL fr)=false):cJ (KS++[((fr,iw (gG (bJ m)) sv.no,aW),aI)])=iG sv fr m:=by
 rw [← fi K,List.take_length,hK] at h h2
 rw [rV,h]
 unfold iG
 rw [h0,h1,h2];rfl
theorem zz {sv:Sv} {fr:Int} {m:Mg} {K:List O2} {KS:List S2} (hK:eN K=cL sv.tb (bJ m)) (h:cJ KS=j5 fr (bJ m) ((eN K).take K.length)) (h0:(decide (16≤fr) && (decide ((bk (bJ m)).1=1) && !((eN K).take K.length).any (fL fr)))=false):cJ KS=iG sv fr m:=by
 rw [← fi K,List.take_length,hK] at h h0
 rw [h]
 unfold iG
 rw [h0,cond_false,List.append_nil]
theorem pE {w w':World} {vt vs:Value} {sv:Sv} {fr:Int} {m:Mg} {K:List O2} {KS:List S2} {u:Value} {N:TypeId} {ks:List Nat} (hKS:cJ KS=iG sv fr m) (hrs:∀ w9,kM K w9→kr KS w9)
 (s:St w [.sl u N 139 KS.length (aS KS),.grp ks fun w9=>dM w9 vs (bJ m).1→kM K w9] w'):E8 w vt aI vs sv.tb [] m.l ⟨sv,iG sv fr m,0⟩ (.agg (bT sv.no sv.sec vt u 0)) w':=by
 obtain ⟨kn,s⟩:=s.grp1 (S':=fun w9=>dW w9 vt sv.tb→dW w9 aI []→dM w9 vs m.l→dW w9 vt sv.tb∧bI w9 u 139 KS.length (aS KS)∧kr KS w9) (fun w9 h hs a _ c=>⟨a,h,hrs w9 (hs c)⟩)
 exact ⟨vt,u,KS,kn,rfl,hKS,s⟩
theorem zN {w w':World} {vE vt vs vw vt' u:Value} {T tb tb':List Tg} {l:List cU} {H:Hr} {K:List S2} {N:TypeId} {ks:List Nat} {H':Hr} (hH:H=H') (hK:cJ K=H'.l) (h2:∀ w9,dW w9 vt tb→dW w9 vw tb')
 (s:St w [.sl vE N 67 T.length (aJ T),.grp ks fun w9=>dW w9 vE T→dW w9 vw tb'→dM w9 vs l→dW w9 vt' H'.s.tb∧bI w9 u 139 K.length (aS K)∧kr K w9] w'):E8 w aI vt vs [] tb l H (.agg (bT H'.s.no H'.s.sec vt' u H'.e)) w':=by
 subst hH
 obtain ⟨kn,s⟩:=s.grp1 (S':=fun w9=>dW w9 aI []→dW w9 vt tb→dM w9 vs l→dW w9 vt' H.s.tb∧bI w9 u 139 K.length (aS K)∧kr K w9) (fun w9 h hs _ b c=>hs h (h2 w9 b) c)
 exact ⟨vt',u,K,kn,rfl,hK,s⟩
theorem M6 {sv:Sv} {fr:Int} {m:Mg} {now:Int} (r0:dJ sv=true) (r1:bD m=true) (r2:decide (fr<0)=false) (r3:decide (31<fr)=false) (r4:decide (now<0)=false) (r5:decide (1099511627776<now)=false) (r6:fo m=true):il sv fr m now=true:=by
 have a:=of_decide_eq_false r2
 have b:=of_decide_eq_false r3
 have c:=of_decide_eq_false r4
 have d:=of_decide_eq_false r5
 unfold il
 rw [r0,r1,r6,decide_eq_true (by omega),decide_eq_true (by omega),decide_eq_true (by omega),decide_eq_true (by omega)];rfl
theorem E0 {sv:Sv} {fr:Int} {m:Mg} {now:Int} (h:il sv fr m now=true):dJ sv=true∧bD m=true∧decide (fr<0)=false∧decide (31<fr)=false∧decide (now<0)=false∧decide (1099511627776<now)=false∧fo m=true:=by
 unfold il at h
 simp only [Bool.and_eq_true,decide_eq_true_eq] at h
 obtain ⟨a,b,c,d,e,f,g⟩:=h
 exact ⟨a,b,decide_eq_false (by omega),decide_eq_false (by omega),decide_eq_false (by omega),decide_eq_false (by omega),g⟩
theorem qA {sv:Sv} {fr:Int} {m:Mg} {now:Int} (h:¬ (dJ sv=true∧bD m=true∧decide (fr<0)=false∧decide (31<fr)=false∧decide (now<0)=false∧decide (1099511627776<now)=false∧fo m=true)):il sv fr m now=false:=by
 cases e:il sv fr m now
 ·rfl
 ·exact absurd (E0 e) h
def Dg (m:Mg):Id:=bif bD m then (bif decide (m.k=2) || (decide (m.k=4) || decide (m.k=6)) then m.i else bif decide (m.k=1) && decide ((bk (bJ m)).1=1) then (bk (bJ m)).2.1 else 0#256) else 0#256
def CJ (m:Mg):Int:=bif bD m then (bif decide (m.k=2) || (decide (m.k=4) || decide (m.k=6)) then 0 else bif decide (m.k=1) && decide ((bk (bJ m)).1=1) then 0 else 6) else 1
def vi (w:World) (vt vs:Value) (tb:List Tg) (l:List cU) (H:Hr):cW:=fun v w'=>∃ vt' ul K ks,v=.tuple #[.agg (aQ H.s.no H.s.sec vt'),ul,.int .i64 H.e]∧cJ K=H.l∧St w [.grp ks fun w9=>dW w9 vt tb→dM w9 vs l→dW w9 vt' H.s.tb∧bI w9 ul 139 K.length (aS K)∧kr K w9] w'
def dd (s:Sv):Sv:=⟨s.no,s.sec.extract 0 (min s.sec.size 70),s.tb.take (min s.tb.length 34)⟩
theorem DI (s:Sv):(dd s).tb.length≤34:=by unfold dd;simp only [List.length_take];omega
theorem pA {w:World} {vt:Value} {s:Sv} (h:dW w vt s.tb):dW w (dQ vt (min s.tb.length 34)) (dd s).tb:=kw h _ (Nat.min_le_left _ _)
def N0:Sv:=⟨1,ByteArray.empty,[]⟩
theorem LF:df N0 18 MP 0=⟨N0,[(19,xJ ByteArray.empty MP,aW)],0⟩:=by
 have a1:cC MP=true:=uz (by rw [np];exact .inr ⟨rfl,rfl,by decide,by decide⟩) (.inl ⟨rfl,by decide,by decide,rfl⟩)
 obtain ⟨_,e⟩:=Nz (s:=N0) (fr:=18) (m:=MP) (now:=0) (dz.2 ⟨by decide,by decide,by decide,PP⟩) a1 (by decide) (by decide) (by decide) (by decide)
 rw [e,KL (by rfl)]
 rfl
theorem z6 {K:List S2} {x:Se} (h:cJ K=[x]):K.length=1∧(K.getD 0 dB).1=x:=by
 match K,h with
 |[y],h=>exact ⟨rfl,(List.cons.inj h).1⟩
 |[],h=>cases h
 |_::_::_,h=>cases (List.cons.inj h).2
theorem M8 (K:List S2) (j:Nat) (hj:j<K.length):(aS K)[j*139+1]? = some (.int .i64 (K.getD j dB).1.2.1.k):=by
 have h:=congrArg (fun a:Array Value=>a[1]?) (jK K j hj)
 simp only [MU,List.getElem?_toArray] at h
 rw [← h,List.getElem?_take_of_lt (by decide),List.getElem?_drop]
theorem KN (fr:Int) (p:Pk) (R:List Ot):(j5 fr p R).length≤R.length:=by
 unfold j5
 induction R with
 |nil=>exact Nat.le_refl _
 |cons o R ih=>
  rw [List.flatMap_cons,List.length_append,List.length_cons]
  have:(jN fr p o).length≤1:=by
   unfold jN
   cases decide (o.k=1)<;>cases decide (o.k=2)<;>cases decide ((bk o.p).1=2)<;>cases (decide (o.y=6) && decide (16≤fr))<;>simp [cond]
  omega
theorem kT {s:Sv} {fr:Int} {m:Mg} {now:Int} (ht:s.tb.length≤900):(df s fr m now).l.length≤1000:=by
 cases hb:il s fr m now with
 |false=>rw [fA hb];exact Nat.zero_le _
 |true=>
  by_cases hk:m.k=1
  ·rw [jD hb hk]
   show (iG _ _ _).length≤1000
   unfold iG
   rw [List.length_append]
   have h1:=KN fr (bJ m) (cL (cg s now).tb (bJ m))
   have h2:=(qs (t:=(cg s now).tb) (p:=bJ m)).2
   have h3:(cg s now).tb.length≤s.tb.length:=List.length_filter_le _ _
   have h4:(bif decide (16≤fr) && (decide ((bk (bJ m)).1=1) && !(cL (cg s now).tb (bJ m)).any (fL fr)) then [((fr,iw (gG (bJ m)) (cg s now).no,aW):Se)] else []).length≤1:=by
    cases (decide (16≤fr) && (decide ((bk (bJ m)).1=1) && !(cL (cg s now).tb (bJ m)).any (fL fr)))<;>simp [cond]
   omega
  ·rw [j4 hb hk]
   rcases l1 (cg s now) s fr m now with ⟨_,e⟩|⟨_,_,e⟩|⟨_,_,e⟩|⟨_,_,e⟩|⟨_,_,e⟩|⟨_,e⟩<;>rw [e]<;>simp
theorem FB {m:Mg} (h:bD m=true):m.l.length≤1000:=by
 by_cases hk:m.k=1
 ·have:=(dI.1 (ig h hk)).1.2.1
  exact Nat.le_trans this (by decide)
 ·obtain ⟨_,_,_,h3,_⟩:=eP h
  unfold c3 fI at h3
  rw [decide_eq_false hk] at h3
  simp at h3
  simp [h3]
theorem ez {s:Sv} {fr:Int} {m:Mg} {now:Int} {K:List S2} (h:cJ K=(df s fr m now).l):∀ x∈K,x.1.2.1.l.length≤1000:=fun x hx=>by
 have hm:x.1∈(df s fr m now).l:=by rw [← h];exact List.mem_map.2 ⟨x,hx,rfl⟩
 by_cases he:(df s fr m now).e=0
 ·exact FB ((Ct he).2.2.2.2 _ hm).1
 ·rw [(Cp he).1] at hm;cases hm
theorem m5 {s:Sv} {fr:Int} {m:Mg} {now:Int} (ht:s.tb.length≤900):(df s fr m now).s.tb.length≤1000:=by
 by_cases he:(df s fr m now).e=0
 ·have:=(fa.1 (dz.1 (Ct he).2.1).2.2.2).len
  omega
 ·rcases (Cp he).2 with h1|h1
  ·cases hb:il s fr m now with
   |false=>rw [fA hb];exact Nat.zero_le _
   |true=>
    by_cases hk:m.k=1
    ·rw [jD hb hk] at he;exact absurd rfl he
    ·rw [j4 hb hk] at h1
     rcases l1 (cg s now) s fr m now with ⟨_,e⟩|⟨_,_,e⟩|⟨_,_,e⟩|⟨_,_,e⟩|⟨_,_,e⟩|⟨_,e⟩<;>rw [e] at h1<;>simp at h1
  ·rw [h1];omega
section
variable {m:Mg}
theorem NM (h:bD m=false):Dg m=0#256∧CJ m=1:=by unfold Dg CJ;rw [h];exact ⟨rfl,rfl⟩
theorem EZ (h:bD m=true) (h2:(decide (m.k=2) || (decide (m.k=4) || decide (m.k=6)))=true):Dg m=m.i∧CJ m=0:=by unfold Dg CJ;rw [h,h2];exact ⟨rfl,rfl⟩
theorem LY (h:bD m=true) (h2:decide (m.k=2)=false) (h4:decide (m.k=4)=false) (h6:decide (m.k=6)=false) (h1:decide (m.k=1)=true) (f1:decide ((bk (bJ m)).1=1)=true):Dg m=(bk (bJ m)).2.1∧CJ m=0:=by unfold Dg CJ;rw [h,h2,h4,h6,h1,f1];exact ⟨rfl,rfl⟩
theorem Jl (h:bD m=true) (h2:decide (m.k=2)=false) (h4:decide (m.k=4)=false) (h6:decide (m.k=6)=false) (h1:(decide (m.k=1) && decide ((bk (bJ m)).1=1))=false):Dg m=0#256∧CJ m=6:=by unfold Dg CJ;rw [h,h2,h4,h6,h1];exact ⟨rfl,rfl⟩
end
section
variable {s:Sv} {l:List Tg} {a b:Id}
end
section
variable {s A B:Sv} {i:Id} {ho l:Nat} {now:Int}
end
section
variable {s:Sv} {fr:Int} {m:Mg} {now:Int} {y:Tg}
end
end Go.Proofs.YtobfeflheaobiaaGreatDoor
namespace Go.Proofs.YtobfeflheaobiaaGreatDoor
open Go.RowKit Go.ChangeShapes Go.WideShapes Go.ChangeAt
theorem Bv {H α:Type} {enc:TypeId × Value→H} {P:Program} {W:World} {ts t:TypeId} {fuel:Nat} {cs:List Value} {x:DataW H × List MemPlace} (C:α→Array Value) (sz:Nat) (h0:0<sz) (hC:∀ a,(C a).size=sz) (z:α)
 (hts:P.underlying ts=some (.slice t)) (hct:P.cellsOf t=sz) (op:∀ (fuel:Nat) (cs:List Value) (x:DataW H × List MemPlace),DataW.trod enc P W 0 (fun _=>true) true fuel t cs=some x→∃ l:α,cs=(C l).toList)
 (hf:DataW.trod enc P W 0 (fun _=>true) true fuel ts cs=some x):∃ (v:Value) (ls:List α),cs=[v]∧bI W v sz ls.length (ls.flatMap fun a=>(C a).toList):=by
 rcases Go.Deep.open_slice hts hf with ⟨hcs,_⟩|⟨a',len,cap,m,k,D,Pl,hcs,_,hl,_,hm,_,hel⟩
 ·exact ⟨_,[],hcs,by simp,.inl ⟨rfl,rfl⟩⟩
 ·have hml:len≤m:=by rw [hm];split<;>omega
  have each:∀ i,∃ l:α,i<len→aG W (a'.add (i*sz)) (C l):=fun i=>by
   by_cases hi:i<len
   ·obtain ⟨cs',hc1,hc2⟩:=hel i (by omega)
    obtain ⟨l,rfl⟩:=op _ _ _ hc2
    refine ⟨l,fun _ j u hj=>?_⟩
    rw [hct] at hc1
    obtain ⟨_,hlen,hall⟩:=World.cells?_some hc1
    have hj34:j<sz:=by have:=(Array.getElem?_eq_some_iff.1 hj).1;rw [hC] at this;exact this
    have:=hall j hj34
    rw [this,Array.getElem?_toList];exact hj
   ·exact ⟨z,fun h9=>absurd h9 hi⟩
  obtain ⟨L,hL⟩:=Classical.axiomOfChoice each
  refine ⟨_,(List.range len).map L,hcs,?_,.inr ⟨a',cap,by simp,by simpa using hl,?_⟩⟩
  ·exact jC _ sz (fun a=>by rw [Array.length_toList,hC]) _
  ·refine wt _ sz h0 (fun x=>by rw [Array.length_toList,hC]) _ fun i hi=>?_
   have hi':i<len:=by simpa using hi
   have:=hL i hi'
   simpa using this
theorem Gz {H:Type} {enc:TypeId × Value→H} {P:Program} {W:World} {r:Reach} {b0:Nat} {tm tz ts tg te tn ti e:TypeId} {g0 g1 g2 f0 f1 f2 k0 k1 k2:Field} {v:Value} {d:DataW H} {ps:List MemPlace} (T:IdTy P ti e) (hc:P.cellsOf ti=32) (hce:P.cellsOf e=1) (hn:P.underlying tn=some (.int .i64)) (hcn:P.cellsOf tn=1)
 (hz:P.underlying tz=some .string) (hcz:P.cellsOf tz=1) (hcs:P.cellsOf ts=1)
 (hte:P.underlying te=some (.struct #[f0,f1,f2])) (h0:f0.type=tn) (h1:f1.type=ti) (h2:f2.type=tn) (o0:f0.offset=0) (o1:f1.offset=1) (o2:f2.offset=33) (hcte:P.cellsOf te=34)
 (hts:P.underlying ts=some (.slice tg)) (htg:P.underlying tg=some (.struct #[k0,k1,k2])) (j0:k0.type=ti) (j1:k1.type=te) (j2:k2.type=tn) (p0:k0.offset=0) (p1:k1.offset=32) (p2:k2.offset=66) (hctg:P.cellsOf tg=67)
 (htm:P.underlying tm=some (.struct #[g0,g1,g2])) (ht0:g0.type=tn) (ht1:g1.type=tz) (ht2:g2.type=ts) (ho0:g0.offset=0) (ho1:g1.offset=1) (ho2:g2.offset=2) (hctm:P.cellsOf tm=3)
 (hval:Value.okWide P W r b0 tm v) (h:DataW.Trod enc P W 0 (fun _=>true) true tm v d ps):∃ (p:Sv) (u:Value),v=.agg (aQ p.no p.sec u)∧dW W u p.tb:=by
 have hv:∃ cs,v=.agg cs:=by
  unfold Value.okWide at hval
  simp only [htm] at hval
  obtain ⟨cs,h9,_⟩:=hval
  exact ⟨cs,h9⟩
 obtain ⟨cs,rfl⟩:=hv
 obtain ⟨fuel,hf⟩:=h
 obtain ⟨xs,n,hcells,_,hl,hxl,hel⟩:=DataW.trod_struct htm hf
 have hcl:cs.toList.length=3:=by rw [← hctm];simpa [Value.cells] using hl
 have hx3:xs.length=3:=by simpa using hxl
 have e0:=hel 0 g0 rfl
 have e1:=hel 1 g1 rfl
 have e2:=hel 2 g2 rfl
 rw [ht0,ho0,hcn,List.getElem?_eq_getElem (by omega)] at e0
 rw [ht1,ho1,hcz,List.getElem?_eq_getElem (by omega)] at e1
 rw [ht2,ho2,hcs,List.getElem?_eq_getElem (by omega)] at e2
 obtain ⟨k,ES,_⟩:=DataW.trod_int hn e0
 obtain ⟨d9,hd9,_⟩:=DataW.trod_string hz e1
 obtain ⟨u,ls,hu,hls⟩:=Bv aB 67 (by decide) ao aW hts hctg (fun _ _ _ h=>EE T hc hce hn hcn hte h0 h1 h2 o0 o1 o2 hcte htg j0 j1 j2 p0 p1 p2 hctg h) e2
 refine ⟨⟨k,d9,ls⟩,u,?_,hls⟩
 have key:cs.toList=(aQ k d9 u).toList:=by
  show cs.toList=[.int .i64 k]++([.string d9]++[u])
  simp only [Value.cells] at ES hd9 hu ⊢
  have hd2:cs.toList.drop 2=[u]:=by
   rw [List.take_of_length_le (by rw [List.length_drop,hcl];omega)] at hu;exact hu
  have hsplit:cs.toList=cs.toList.take 1++((cs.toList.drop 1).take 1++cs.toList.drop 2):=by
   rw [show cs.toList.drop 2=(cs.toList.drop 1).drop 1 from by rw [List.drop_drop],List.take_append_drop,List.take_append_drop]
  rw [hd2,hd9,show cs.toList.take 1=[.int .i64 k] from ES] at hsplit
  exact hsplit
 rw [Array.toList_inj.1 key]
section
variable {P:Program} {ρ:Operand→Value} {d:Option Tmp} {ty t t':TypeId} {pos:String} {af:Array Edge} {g:Option (Nat × Bool)} {x:Operand}
theorem jL {u V:Value} {c:Bool} (hA:∀ w,(Instr.typeAssert u t t' c).run P w=.ok V w) (hx:ρ x=u):aM P ⟨d,.typeAssert x t t' c,ty,pos,af,g⟩ ρ V:=fun w=>by
 simp [execOp,hx,hA]
end
def Ns (P:Program) (T:TypeId) (rv:Value) (nm:String) (f:FuncId):Prop:=∀ w,(method (P.types.size+Made.depth) T rv nm).run P w=.ok (f,rv) w
theorem xX {P:Program} {ρ:Operand→Value} {dst:Option Tmp} {g:Option (Nat × Bool)} {ty:TypeId} {pos:String} {af:Array Edge} {f:FuncId} {T:TypeId} {rv:Value} {nm:String} {cal:Operand} {tys:Array TypeId} {w:World} (hf:Fnc P f)
 (hm:Ns P T rv nm f) (hc:ρ cal=.iface T rv) {R:Value→World→Prop} (hC:Calls P f #[rv] w fun e w'=>∃ v,e=.returned v∧R v w'):db P ⟨dst,.call {callee:=.invoke cal nm,args:=#[],argTypes:=tys},ty,pos,af,g⟩ ρ w R:=by
 obtain ⟨fn,h1,h2,h3⟩:=hf.has
 unfold db
 have hm':=hm w
 simp only [execOp,resolve,hc,Sem.run_bind,Sem.run_pure,Result.andThen_ok,invoke,callMethod]
 have e0:(#[Value.iface T rv]++Array.map ρ #[])[0]? = some (Value.iface T rv):=by simp
 rw [e0]
 simp only [callMethod,Sem.run_bind,show ∀ w,Sem.run P program w=.ok P w from fun _=>rfl,Result.andThen_ok,hm']
 have e1:#[rv]++(#[Value.iface T rv]++Array.map ρ #[]).extract 1=#[rv]:=by simp
 rw [e1]
 rw [iM h1 h2 h3]
 exact hC
section
variable {P:Program} {ops:Array Oper} {Q:Act→World→Prop} {l:List Oper} {a:Act} {w w0:World} {N:Nat} {L:List (Nat × Value)} {Df:List Deferred} {B:List Own} {d:Tmp} {ty:TypeId} {pos:String} {af:Array Edge}
theorem pH {f:FuncId} {T9:TypeId} {rv:Value} {nm:String} {cal:Operand} {tys:Array TypeId} {T:cW} (h:Sl N a L Df) (s:St w0 B w) (hf:Fnc P f) (hm:Ns P T9 rv nm f) (hc:eu L cal=some (.iface T9 rv)) (hC:Calls P f #[rv] w (cp w T))
 (hd:Nat.blt d N=true) (k:∀ a' w' v,T v w'→Ext w w'→Sl N a' ((d,v)::L) Df→St w0 B w'→bX P ops Q l a' w'):
 bX P ops Q (⟨some d,.call {callee:=.invoke cal nm,args:=#[],argTypes:=tys},ty,pos,af,none⟩::l) a w:=
 dw (R:=fun v w'=>T v w'∧Ext w w') h (xX hf hm (h.ev hc) hC) hd fun a' w' v ⟨h1,h2⟩ hs=>k a' w' v h1 h2 hs (s.more h2)
end
section
variable {P:Program} {ops:List Oper} {K:Act→World→Prop} {l:List Oper} {a:Act} {w:World} {N:Nat} {L:List (Nat × Value)} {Df:List Deferred} {d:Tmp} {ty:TypeId} {pos:String} {af:Array Edge}
end
def lj (s:Sv) (fr:Int) (m:Mg) (now:Int):Hr:=
 bif decide (cD s.sec m=1) then ⟨s,[(16+m.t.2.2,dC s.sec m,aW)],0⟩ else
 bif decide (cD s.sec m=2) then ⟨⟨s.no,s.sec,lV s.tb (en m now)⟩,[(fr,iW m,aW)],i4 s.tb (en m now)⟩ else
 bif decide (cD s.sec m=3) then ⟨⟨s.no,s.sec,oL s.tb m.i m.t⟩,[],kF s.tb m.i m.t⟩ else ⟨s,[],11⟩
section
variable {s s0:Sv} {fr:Int} {m:Mg} {now:Int}
theorem Ie (h:decide (cD s.sec m=1)=true):lj s fr m now=⟨s,[(16+m.t.2.2,dC s.sec m,aW)],0⟩:=by unfold lj;rw [h];rfl
theorem D7 (h1:decide (cD s.sec m=1)=false) (h:decide (cD s.sec m=2)=true):lj s fr m now=⟨⟨s.no,s.sec,lV s.tb (en m now)⟩,[(fr,iW m,aW)],i4 s.tb (en m now)⟩:=by unfold lj;rw [h1,h];rfl
theorem Dw (h1:decide (cD s.sec m=1)=false) (h2:decide (cD s.sec m=2)=false) (h:decide (cD s.sec m=3)=true):lj s fr m now=⟨⟨s.no,s.sec,oL s.tb m.i m.t⟩,[],kF s.tb m.i m.t⟩:=by unfold lj;rw [h1,h2,h];rfl
theorem HM (h1:decide (cD s.sec m=1)=false) (h2:decide (cD s.sec m=2)=false) (h:decide (cD s.sec m=3)=false):lj s fr m now=⟨s,[],11⟩:=by unfold lj;rw [h1,h2,h];rfl
theorem zH (hs:ce s.tb=true) (ha:cC m=true) (h0:0≤now):(lj s fr m now).e≠1∧(f7 s s0 fr m now).e=(lj s fr m now).e∧((lj s fr m now).e=0→f7 s s0 fr m now=lj s fr m now)∧(¬ (lj s fr m now).e=0→f7 s s0 fr m now=⟨s0,[],(lj s fr m now).e⟩):=by
 cases h1:decide (cD s.sec m=1) with
 |true=>rw [Ie h1,KL h1];exact ⟨by show ¬ (0:Int)=1;decide,rfl,fun _=>rfl,fun h=>absurd rfl h⟩
 |false=>
  cases h2:decide (cD s.sec m=2) with
  |true=>
   have hm:ge (en m now)=true:=yG ha h0 (of_decide_eq_false (yO h2))
   cases hf:decide ((dL s.tb (en m now)).length≤32) with
   |true=>
    obtain ⟨e1,e2⟩:=Ib hs hm hf
    rw [D7 h1 h2,LQ h1 h2 hf,e1,e2];exact ⟨by show ¬ (0:Int)=1;decide,rfl,fun _=>rfl,fun h=>absurd rfl h⟩
   |false=>
    obtain ⟨e1,e2⟩:=yH hs hm hf
    rw [D7 h1 h2,Nf h1 h2 hf,e1];exact ⟨by show ¬ (8:Int)=1;decide,rfl,fun h=>absurd (show (8:Int)=0 from h) (by decide),fun _=>rfl⟩
  |false=>
   cases h3:decide (cD s.sec m=3) with
   |true=>
    cases hf:decide ((ey s.tb m.i m.t).2.2<0) with
    |true=>
     obtain ⟨e1,e2⟩:=JU hs hf
     rw [Dw h1 h2 h3,L2 h1 h2 h3 hf,e1];exact ⟨by show ¬ (6:Int)=1;decide,rfl,fun h=>absurd (show (6:Int)=0 from h) (by decide),fun _=>rfl⟩
    |false=>
     obtain ⟨e1,e2⟩:=M1 hs hf
     rw [Dw h1 h2 h3,Nc h1 h2 h3 hf,e1,e2];exact ⟨by show ¬ (0:Int)=1;decide,rfl,fun _=>rfl,fun h=>absurd rfl h⟩
   |false=>rw [HM h1 h2 h3,LG h1 h2 h3];exact ⟨by show ¬ (11:Int)=1;decide,rfl,fun h=>absurd (show (11:Int)=0 from h) (by decide),fun _=>rfl⟩
end
def rN (m:Mg):Bool:=decide (m.k=2) || (decide (m.k=4) || decide (m.k=6))
def AR (c p o:TypeId) (m:Mg) (vs:Value):Value:=bif rN m then .iface c (.agg (aP m vs)) else bif decide (m.k=1) then .iface p (.agg (aP m vs)) else .iface o (.agg #[])
noncomputable def cT (s:Sv) (fr:Int) (m:Mg) (now:Int):Hr:=bif rN m then lj s fr m now else bif decide (m.k=1) then ⟨s,iG s fr m,0⟩ else ⟨K5,[],1⟩
section
variable {s:Sv} {fr:Int} {m:Mg} {now:Int}
theorem mn (h:rN m=true) (hr:bD m=true):cC m=true:=by
 unfold rN at h
 simp only [Bool.or_eq_true,decide_eq_true_eq] at h
 exact eM.2 ⟨hr,h⟩
theorem og (hr:bD m=true):fo m=(rN m || decide (m.k=1)):=by
 unfold fo
 cases h:rN m with
 |true=>rw [mn h hr,Bool.or_true,Bool.true_or]
 |false=>
  have:cC m=false:=by
   cases ha:cC m with
   |false=>rfl
   |true=>
    have:=(eM.1 ha).2
    unfold rN at h
    simp only [Bool.or_eq_false_iff,decide_eq_false_iff_not] at h
    omega
  rw [this,Bool.or_false,Bool.false_or]
end
theorem JK {l:List Tg} (h:ce l=true) (now:Int):xS l now=sL l now:=by unfold xS;rw [h];rfl
theorem xl (m:Mg) (v:Value):(aP m v).extract 0 (0+71)=aP m v:=by
 rw [Nat.zero_add,← ax m v,Array.extract_size]
def pd (v:Value):Value:=match v with|.slice p n c=>.slice p n c|_=>aI
theorem zA (v:Value):(pd v).oneCell'=true:=by cases v<;>rfl
theorem EI {w:World} {v:Value} {sz n:Nat} {xs:List Value} (h:bI w v sz n xs):pd v=v:=by
 obtain ⟨a,c,rfl⟩:=h.len;rfl
section
variable {m:Mg}
theorem Et (h:bD m=true) (k1:decide (m.k=1)=true):1≤m.l.length:=(dT (ig h (of_decide_eq_true k1))).1
theorem Dh (h:rN m=false):decide (m.k=2)=false∧decide (m.k=4)=false∧decide (m.k=6)=false:=by
 unfold rN at h
 rw [Bool.or_eq_false_iff,Bool.or_eq_false_iff] at h
 exact ⟨h.1,h.2.1,h.2.2⟩
theorem LP (h:bD m=true) (hc:rN m=false) (h1:decide (m.k=1)=true) (f1:decide ((bk (bJ m)).1=1)=true):Dg m=(bk (bJ m)).2.1∧CJ m=0:=by
 obtain ⟨a,b,c⟩:=Dh hc
 exact LY h a b c h1 f1
theorem HZ (h:bD m=true) (hc:rN m=false) (h1:(decide (m.k=1) && decide ((bk (bJ m)).1=1))=false):Dg m=0#256∧CJ m=6:=by
 obtain ⟨a,b,c⟩:=Dh hc
 exact Jl h a b c h1
end
def OI:List (List Value):=[zn.flatten]
section
variable {P:Program} {ρ:Operand→Value} {d:Option Tmp} {ty:TypeId} {pos:String} {af:Array Edge} {g:Option (Nat × Bool)} {x y:Operand} {t:TypeId}
theorem jh {m:Mg} {v:Value} (S:Stt P t OI) (hx:ρ x=.agg (aP m v)):aM P ⟨d,.build t #[(0,x)],ty,pos,af,g⟩ ρ (.agg (aP m v)):=by
 have:=bb (P:=P) (ρ:=ρ) (d:=d) (ty:=ty) (pos:=pos) (af:=af) (g:=g) (parts:=#[(0,x)]) S [(0,.agg (aP m v))] (by simp [hx]) (fun j u hm=>by
  simp only [List.mem_cons,Prod.mk.injEq,List.not_mem_nil,or_false] at hm
  obtain ⟨rfl,rfl⟩:=hm
  exact ⟨_,rfl,by show (aP m v).size=_;rw [ax];rfl⟩) (D:=(aP m v).toList) (by
   show (aP m v).toList++[]=_
   rw [List.append_nil])
 simpa using this
theorem tX (S:Stt P t []):aM P ⟨d,.build t #[],ty,pos,af,g⟩ ρ (.agg #[]):=
 bb (P:=P) (ρ:=ρ) (d:=d) (ty:=ty) (pos:=pos) (af:=af) (g:=g) (parts:=#[]) S [] (by simp) (fun i v hm=>by simp at hm) (D:=[]) rfl
theorem gz {n:Int} {m:Mg} {v:Value} (S:Stt P t Ol) (hx:ρ x=.int .i64 n) (hy:ρ y=.agg (aP m v)):aM P ⟨d,.build t #[(0,x),(1,y)],ty,pos,af,g⟩ ρ (.agg (dv n m v aW)):=by
 have:=bb (P:=P) (ρ:=ρ) (d:=d) (ty:=ty) (pos:=pos) (af:=af) (g:=g) (parts:=#[(0,x),(1,y)]) S [(0,.int .i64 n),(1,.agg (aP m v))] (by simp [hx,hy]) (fun j u hm=>by
  simp only [List.mem_cons,Prod.mk.injEq,List.not_mem_nil,or_false] at hm
  rcases hm with ⟨rfl,rfl⟩|⟨rfl,rfl⟩
  ·exact ⟨_,rfl,rfl⟩
  ·exact ⟨_,rfl,by show (aP m v).size=_;rw [ax];rfl⟩) (D:=Hq n m v aW) (by
   show [Value.int .i64 n]++((aP m v).toList++(Bk.flatten++[]))=_
   rw [List.append_nil,← lu];rfl)
 exact this
end
def PA (w:World) (sv:Sv) (vt:Value) (T:List Tg):cW:=fun v w'=>∃ p ks,v=.agg (aQ sv.no sv.sec p)∧St w [.grp ks fun w9=>dW w9 vt sv.tb→dW w9 p T] w'
def Pf (w:World) (vs:Value) (l:List cU) (L:List Se):cW:=fun v w'=>∃ K ks,cJ K=L∧St w [.grp ks fun w9=>dM w9 vs l→bI w9 v 139 K.length (aS K)∧kr K w9] w'
section
variable {w w':World} {vt vs:Value} {sv:Sv} {l:List cU} {H:Hr} {N M:TypeId} {e:Int} {ks:List Nat} {T:List Tg} {x:Se} {L:List Se}
theorem pC (w:World):bI w aI 139 ([]:List S2).length (aS []):=⟨rfl,.inl ⟨rfl,rfl⟩⟩
theorem BM (hH:H=⟨sv,[],e⟩) (s:St w [] w'):vi w vt vs sv.tb l H (.tuple #[.agg (aQ sv.no sv.sec vt),aI,.int .i64 e]) w':=by
 subst hH
 exact ⟨vt,aI,[],[],rfl,rfl,s.grp0 fun w9 a _=>⟨a,pC _,ja w9⟩⟩
theorem HC {u a:Value} (hH:H=⟨sv,[x],0⟩) (s:St w [.sl u N 139 1 (aS [(x,a)]),.grp ks fun w9=>dM w9 vs l→dM w9 a x.2.1.l] w'):vi w vt vs sv.tb l H (.tuple #[.agg (aQ sv.no sv.sec vt),u,.int .i64 0]) w':=by
 subst hH
 obtain ⟨kn,s⟩:=s.grp1 (S':=fun w9=>dW w9 vt sv.tb→dM w9 vs l→dW w9 vt sv.tb∧bI w9 u 139 [(x,a)].length (aS [(x,a)])∧kr [(x,a)] w9) (fun w9 h hs b c=>⟨b,h,oZ (hs c)⟩)
 exact ⟨vt,u,[(x,a)],kn,rfl,rfl,s⟩
theorem GU {u p:Value} (hH:H=⟨⟨sv.no,sv.sec,T⟩,[x],e⟩) (hx:x.2.1.l=[]) (s:St w [.sl u N 139 1 (aS [(x,aI)]),.grp ks fun w9=>dW w9 vt sv.tb→dW w9 p T] w'):vi w vt vs sv.tb l H (.tuple #[.agg (aQ sv.no sv.sec p),u,.int .i64 e]) w':=by
 subst hH
 obtain ⟨kn,s⟩:=s.grp1 (S':=fun w9=>dW w9 vt sv.tb→dM w9 vs l→dW w9 p T∧bI w9 u 139 [(x,aI)].length (aS [(x,aI)])∧kr [(x,aI)] w9) (fun w9 h hs b _=>⟨hs b,h,oZ (fF w9 hx rfl)⟩)
 exact ⟨p,u,[(x,aI)],kn,rfl,rfl,s⟩
theorem Fn {p:Value} (hH:H=⟨⟨sv.no,sv.sec,T⟩,[],e⟩) (s:St w [.grp ks fun w9=>dW w9 vt sv.tb→dW w9 p T] w'):vi w vt vs sv.tb l H (.tuple #[.agg (aQ sv.no sv.sec p),aI,.int .i64 e]) w':=by
 subst hH
 exact ⟨p,aI,[],ks,rfl,rfl,s.weak fun w9 h b _=>⟨h b,pC _,ja w9⟩⟩
theorem FA {u:Value} {K:List S2} (hH:H=⟨sv,L,0⟩) (s:St w [.grp ks fun w9=>cJ K=L∧(dM w9 vs l→bI w9 u 139 K.length (aS K)∧kr K w9)] w'):vi w vt vs sv.tb l H (.tuple #[.agg (aQ sv.no sv.sec vt),u,.int .i64 0]) w':=by
 subst hH
 exact ⟨vt,u,K,ks,rfl,(s.getG 0 rfl).1,s.weak fun w9 h b c=>⟨b,h.2 c⟩⟩
theorem ta {v:Value} (hH:H=⟨K5,[],1⟩) (hv:v=.tuple #[.agg (aQ 0 ByteArray.empty aI),aI,.int .i64 1]) {tb:List Tg} (s:St w [] w'):vi w vt vs tb l H v w':=by
 subst hH;subst hv
 exact ⟨aI,aI,[],[],rfl,rfl,s.grp0 fun w9 _ _=>⟨bS _,pC _,ja w9⟩⟩
end
def Gi (sv:Sv) (fr:Int) (m:Mg) (now:Int):Prop:=dJ sv=true∧bD m=true∧0≤fr∧fr≤31∧0≤now∧now≤1099511627776
section
variable {w w':World} {vt vs:Value} {sv:Sv} {fr now:Int} {m:Mg} {N M:TypeId} {ks:List Nat}
theorem C4 (h:Gi sv fr m now):il sv fr m now=fo m:=by
 obtain ⟨h1,h2,h3,h4,h5,h6⟩:=h
 unfold il
 rw [h1,h2,decide_eq_true h3,decide_eq_true h4,decide_eq_true h5,decide_eq_true h6];rfl
theorem sw (h:Gi sv fr m now):ce (cg sv now).tb=true:=(dz.1 (gP h.1 now)).2.2.2
theorem MI (h:Gi sv fr m now) (h1:(cT (cg sv now) fr m now).e=1):df sv fr m now=⟨K5,[],1⟩:=by
 have hb:fo m=false:=by
  rw [og h.2.1]
  unfold cT at h1
  cases hc:rN m with
  |true=>rw [hc] at h1;exact absurd h1 (zH (s0:=sv) (sw h) (mn hc h.2.1) h.2.2.2.2.1).1
  |false=>
   rw [hc,cond_false] at h1
   cases hd:decide (m.k=1) with
   |true=>rw [hd] at h1;exact absurd (show (0:Int)=1 from h1) (by decide)
   |false=>rfl
 exact fA ((C4 h).trans hb)
theorem EA (h:Gi sv fr m now) (h1:¬ (cT (cg sv now) fr m now).e=1):((cT (cg sv now) fr m now).e=0→df sv fr m now=cT (cg sv now) fr m now)∧(¬ (cT (cg sv now) fr m now).e=0→df sv fr m now=⟨sv,[],(cT (cg sv now) fr m now).e⟩):=by
 cases hc:rN m with
 |true=>
  have hb:il sv fr m now=true:=by rw [C4 h,og h.2.1,hc];rfl
  have hk:¬ m.k=1:=fun e=>by unfold rN at hc;rw [e] at hc;simp at hc
  have e9:cT (cg sv now) fr m now=lj (cg sv now) fr m now:=by unfold cT;rw [hc];rfl
  rw [e9,j4 hb hk]
  obtain ⟨_,_,a,b⟩:=zH (s0:=sv) (fr:=fr) (sw h) (mn hc h.2.1) h.2.2.2.2.1
  exact ⟨a,b⟩
 |false=>
  cases hd:decide (m.k=1) with
  |true=>
   have hb:il sv fr m now=true:=by rw [C4 h,og h.2.1,hd,Bool.or_true]
   have e9:cT (cg sv now) fr m now=⟨cg sv now,iG (cg sv now) fr m,0⟩:=by unfold cT;rw [hc,hd];rfl
   rw [e9,jD hb (of_decide_eq_true hd)]
   exact ⟨fun _=>rfl,fun x=>absurd rfl x⟩
  |false=>exact absurd (by unfold cT;rw [hc,hd];rfl) h1
theorem gZ (hb:il sv fr m now=false) (s:St w [] w'):vi w vt vs sv.tb m.l (df sv fr m now) (.tuple #[.agg (aQ 0 ByteArray.empty aI),aI,.int .i64 1]) w':=ta (fA hb) rfl s
theorem NB (h:Gi sv fr m now) (h1:(cT (cg sv now) fr m now).e=1) (s:St w [] w'):vi w vt vs sv.tb m.l (df sv fr m now) (.tuple #[.agg (aQ 0 ByteArray.empty aI),aI,.int .i64 (cT (cg sv now) fr m now).e]) w':=ta (MI h h1) (by rw [h1]) s
theorem Lk {p:Value} (h:Gi sv fr m now) (h1:¬ (cT (cg sv now) fr m now).e=1) (h0:¬ (cT (cg sv now) fr m now).e=0) (s:St w [.sl p N 67 sv.tb.length (aJ sv.tb)] w'):vi w vt vs sv.tb m.l (df sv fr m now) (.tuple #[.agg (aQ sv.no sv.sec p),aI,.int .i64 (cT (cg sv now) fr m now).e]) w':=by
 rw [(EA h h1).2 h0]
 obtain ⟨kn,s⟩:=((s.grp0 (S:=fun _=>True) (fun _=>trivial)).perm (List.Perm.swap ..)).grp1 (S':=fun w9=>dW w9 vt sv.tb→dM w9 vs m.l→dW w9 p sv.tb∧bI w9 aI 139 ([]:List S2).length (aS [])∧kr [] w9) (fun w9 a _ _ _=>⟨a,pC _,ja w9⟩)
 exact ⟨p,aI,[],kn,rfl,rfl,s⟩
theorem Ma {p u:Value} {K:List S2} (h:Gi sv fr m now) (h0:(cT (cg sv now) fr m now).e=0)
 (s:St w [.grp ks fun w9=>cJ K=(cT (cg sv now) fr m now).l∧(dW w9 vt sv.tb→dM w9 vs m.l→dW w9 p (cT (cg sv now) fr m now).s.tb∧bI w9 u 139 K.length (aS K)∧kr K w9)] w'):
 vi w vt vs sv.tb m.l (df sv fr m now) (.tuple #[.agg (aQ (cT (cg sv now) fr m now).s.no (cT (cg sv now) fr m now).s.sec p),u,.int .i64 0]) w':=by
 rw [(EA h (by rw [h0];decide)).1 h0,← h0]
 exact ⟨p,u,K,ks,rfl,(s.getG 0 rfl).1,s.weak fun w9 a=>a.2⟩
end
def nL (x:S2):Bool:=decide (x.1.2.1.k=7)
theorem Mh {K:List S2} {k:Nat} (hk:k<K.length) (h:nL (K.getD k dB)=true):decide (0≤((k:Nat):Int))=K.any nL:=by
 rw [decide_eq_true (by omega),List.any_eq_true.2 ⟨_,jY hk,h⟩]
theorem Lz {K:List S2} (h:∀ i,i<K.length→nL (K.getD i dB)=false):decide ((0:Int) ≤ -1)=K.any nL:=by
 rw [decide_eq_false (by decide)]
 refine(List.any_eq_false.2 fun x hx=>?_).symm
 obtain ⟨i,hi,rfl⟩:=List.mem_iff_getElem.1 hx
 rw [N6 hi,h i hi];decide
def Pt (K:List S2):cW:=fun v _=>∃ r:Int,v=.int .i64 r∧decide (0≤r)=K.any nL
theorem Kk {fr:Int} {p:Pk} {R:List Ot} (h3:∀ o∈R,o.k=1∨o.k=2∨o.k=3):(j5 fr p R).any (fun x=>decide (x.2.1.k=7))=R.any (fL fr):=by
 unfold j5
 rw [List.any_flatMap]
 induction R with
 |nil=>rfl
 |cons o R ih=>
  rw [List.any_cons,List.any_cons,ih fun o h=>h3 o (List.mem_cons_of_mem _ h)]
  congr 1
  have hk:=h3 o List.mem_cons_self
  unfold jN fL
  by_cases k1:o.k=1
  ·rw [decide_eq_true k1,decide_eq_false (by omega:¬ o.k=3)];rfl
  ·by_cases k2:o.k=2
   ·rw [decide_eq_false k1,decide_eq_true k2,decide_eq_false (by omega:¬ o.k=3)]
    cases decide ((bk o.p).1=2)<;>rfl
   ·rw [decide_eq_false k1,decide_eq_false k2,decide_eq_true (by omega:o.k=3)]
    cases decide (o.y=6)<;>cases decide (16≤fr)<;>rfl
theorem CV {fr:Int} {t:List Tg} {p:Pk} {KS:List S2} (h:cJ KS=j5 fr p (cL t p)):KS.any nL=(cL t p).any (fL fr):=by
 rw [← Kk fun o ho=>ms ho,← h]
 unfold cJ
 rw [List.any_map];rfl
def iB (e:cU):Int:=bif decide (e.1=2) then 16+e.2.2 else -1
section
variable {fr:Int} {p:Pk} {o:Ot}
theorem O1 (h:decide (o.k=1)=false) (h2:decide (o.k=2)=true):jN fr p o=[(iB (bk o.p),bQ o.p,o.t)]∧fL fr o=false:=by
 unfold iB
 cases h3:decide ((bk o.p).1=2) with
 |true=>exact Mr h h2 h3
 |false=>exact NC h h2 h3
end
section
variable {w w':World} {sv:Sv} {fr:Int} {m:Mg} {K:List O2} {KS:List S2} {u uo vs:Value} {N:TypeId} {ks:List Nat}
theorem Ko (hK:eN K=cL sv.tb (bJ m)) (h:cJ KS=j5 fr (bJ m) ((eN K).take K.length)) (h0:decide (16≤fr)=true) (h1:decide ((bk (bJ m)).1=1)=true) (h2:KS.any nL=false):cJ (KS++[((fr,iw (gG (bJ m)) sv.no,aW),aI)])=iG sv fr m:=by
 refine It hK h h0 h1 ?_
 rw [← fi K,List.take_length,hK] at h ⊢
 rw [← CV h];exact h2
theorem wC (hK:eN K=cL sv.tb (bJ m)) (h:cJ KS=j5 fr (bJ m) ((eN K).take K.length)) (h0:(decide (16≤fr) && (decide ((bk (bJ m)).1=1) && !KS.any nL))=false):cJ KS=iG sv fr m:=by
 refine zz hK h ?_
 rw [← fi K,List.take_length,hK] at h ⊢
 rw [← CV h];exact h0
theorem pN (hKS:cJ KS=iG sv fr m) (hrs:∀ w9,kM K w9→kr KS w9) (s:St w [.sl u N 139 KS.length (aS KS),.grp ks fun w9=>dM w9 vs (bJ m).1→Bi w9 uo K] w'):Pf w vs m.l (iG sv fr m) u w':=by
 obtain ⟨kn,s⟩:=s.grp1 (S':=fun w9=>dM w9 vs m.l→bI w9 u 139 KS.length (aS KS)∧kr KS w9) (fun w9 h hs c=>⟨h,hrs w9 (hs c).2⟩)
 exact ⟨KS,kn,hKS,s⟩
theorem Bx {now:Int} (h:¬ Gi sv fr m now):il sv fr m now=false:=by
 cases e:il sv fr m now
 ·rfl
 ·obtain ⟨a,b,c,d,e,f,_⟩:=q4.1 e
  exact absurd ⟨a,b,c,d,e,f⟩ h
end
section
variable {w w':World} {vt vh:Value} {sv:Sv} {l:List Tg} {a b:Id} {ks:List Nat}
end
end Go.Proofs.YtobfeflheaobiaaGreatDoor
