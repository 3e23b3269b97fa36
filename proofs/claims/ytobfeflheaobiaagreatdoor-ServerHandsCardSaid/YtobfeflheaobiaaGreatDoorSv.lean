/- Servers: their triggers, what they send, what they take; servers that come in; no Go in it. -/
import Derived.Test.YtobfeflheaobiaaGreatDoorGd
set_option linter.unusedVariables false
set_option linter.unusedSimpArgs false
set_option linter.unusedSectionVars false
namespace Go.Proofs.YtobfeflheaobiaaGreatDoor
open Go.RowKit
instance:DecidableEq Mg:=fun a b=>decidable_of_iff (Gd a b=true) (yk a b)
structure Sv where
 no:Int
 sec:ByteArray
 tb:List Tg
deriving DecidableEq
def u5:Sv:=⟨0,ByteArray.empty,[]⟩
def Gy (n:Int) (s:ByteArray) (v:Value):List Value:=[.int .i64 n,.string s,v]
def aC (n:Int) (s:ByteArray) (v:Value):Array Value:=(Gy n s v).toArray
theorem ak (n:Int) (s:ByteArray) (v:Value):(aC n s v).size=3:=rfl
theorem a7 {v:Value} (n:Int) (s:ByteArray) (hv:v.oneCell'=true):∀ u∈(aC n s v).toList,u.oneCell'=true:=fun u hu=>by
 have hu:u∈Gy n s v:=hu
 unfold Gy at hu
 simp only [List.mem_cons,List.not_mem_nil,or_false] at hu
 rcases hu with rfl|rfl|rfl
 ·rfl
 ·rfl
 ·exact hv
theorem so (n:Int) (s:ByteArray) (v:Value):(aC n s v)[0]? = some (.int .i64 n):=rfl
theorem pX (n:Int) (s:ByteArray) (v:Value):(aC n s v)[1]? = some (.string s):=rfl
theorem im (n:Int) (s:ByteArray) (v:Value):(aC n s v)[2]? = some v:=rfl
def IU:List (List Value):=[[.int .i64 0],[.string ByteArray.empty],[.slice none 0 0]]
abbrev Se:=Int × Mg × Tg
abbrev S2:=Se × Value
instance:DecidableEq Se:=fun a b=>inferInstanceAs (Decidable (a=b))
instance (a b:List Se):Decidable (a=b) := @instDecidableEqList Se _ a b
def K5:Se:=(0,mZ,aN)
def nH:S2:=(K5,aM)
def Bw (n:Int) (m:Mg) (v:Value) (t:Tg):List Value:=.int .i64 n::((a8 m v).toList++jy t)
def dy (n:Int) (m:Mg) (v:Value) (t:Tg):Array Value:=(Bw n m v t).toArray
theorem zD (m:Mg) (v:Value):(a8 m v).toList.length=71:=by rw [Array.length_toList,aF]
theorem vA (n:Int) (m:Mg) (v:Value) (t:Tg):(Bw n m v t).length=139:=by simp [Bw,ex]
theorem nA (n:Int) (m:Mg) (v:Value) (t:Tg):(dy n m v t).size=139:=by simp [dy,vA]
theorem sW {v:Value} (n:Int) (m:Mg) (t:Tg) (hv:v.oneCell'=true):∀ u∈(dy n m v t).toList,u.oneCell'=true:=fun u hu=>by
 have hu:u∈Bw n m v t:=hu
 unfold Bw at hu
 rcases List.mem_cons.1 hu with rfl|hu
 ·rfl
 ·rcases List.mem_append.1 hu with hu|hu
  ·exact cH m v hv u hu
  ·exact j5 t u hu
section
variable (n:Int) (m:Mg) (v:Value) (t:Tg)
theorem Jc:(dy n m v t)[0]? = some (.int .i64 n):=rfl
theorem Hp (j:Nat) (hj:j<71):(dy n m v t)[1+j]? = (a8 m v)[j]? := by
 unfold dy Bw
 rw [List.getElem?_toArray,Nat.add_comm 1 j,List.getElem?_cons_succ,List.getElem?_append_left (by rw [zD];exact hj),Array.getElem?_toList]
theorem GI:(dy n m v t)[1]? = some (.int .i64 m.k):=(Hp n m v t 0 (by decide)).trans (lD m v)
end
def IR (x:S2):List Value:=Bw x.1.1 x.1.2.1 x.2 x.1.2.2
theorem Bl (x:S2):(IR x).length=139:=vA ..
def aU (l:List S2):List Value:=l.flatMap IR
theorem ft (l r:List S2):aU (l++r)=aU l++aU r:=List.flatMap_append
theorem JX {l:List S2} {j:Nat} (hj:j<l.length):l[j]=l.getD j nH:=by rw [List.getD_eq_getElem?_getD,List.getElem?_eq_getElem hj];rfl
theorem zY (l:List S2) (j:Nat) (hj:j<l.length):(((aU l).drop (j*139)).take 139).toArray=dy (l.getD j nH).1.1 (l.getD j nH).1.2.1 (l.getD j nH).2 (l.getD j nH).1.2.2:=by
 unfold aU
 rw [iO _ 139 Bl l j hj,JX hj];rfl
theorem FP {l:List S2} {j:Nat} (hj:j<l.length):l.getD j nH∈l:=by rw [← JX hj];exact List.getElem_mem hj
theorem EY (x:S2):([Value.agg (dy x.1.1 x.1.2.1 x.2 x.1.2.2)].flatMap fun v=>v.cells.toList)=IR x:=by simp [Value.cells,dy,IR]
theorem lh (K:List S2) (x:S2):aU K++([Value.agg (dy x.1.1 x.1.2.1 x.2 x.1.2.2)].flatMap fun v=>v.cells.toList)=aU (K++[x]):=by rw [EY,ft];simp [aU]
theorem o4 (x:S2):∀ v∈([.agg (dy x.1.1 x.1.2.1 x.2 x.1.2.2)]:List Value),v.cells.size=139:=fun v hv=>by
 rw [List.mem_singleton] at hv;subst hv;exact nA ..
def lN (K:List S2) (w:World):Prop:=∀ x∈K,eg w x.2 x.1.2.1.l
def cW (K:List S2):List Se:=K.map (·.1)
theorem oJ (K:List S2) (x:S2):cW (K++[x])=cW K++[x.1]:=by unfold cW;rw [List.map_append];rfl
theorem kE (w:World):lN [] w:=fun _ h=>by cases h
theorem sf {w:World} {K:List S2} {x:Se} {u:Value} (h:lN K w) (hu:eg w u x.2.1.l):lN (K++[(x,u)]) w:=fun y hy=>by
 rcases List.mem_append.1 hy with hy|hy
 ·exact h y hy
 ·rw [List.mem_singleton.1 hy];exact hu
theorem mD {K:List S2} {w:World} (h:lN K w):∀ u∈aU K,u.oneCell'=true:=fun u hu=>by
 obtain ⟨x,hx,hu⟩:=List.mem_flatMap.1 hu
 exact sW _ _ _ (bV (h x hx)) u hu
def bO (s:Sv):Bool:=decide (0≤s.no) && (decide (s.no≤15) && (decide (s.sec.size≤64) && bp s.tb))
def jY (m:Mg):Bool:=decide (m.k=1) || cr m
def bZ (p:Pk):Mg:=⟨1,0#256,(0,0#256,0),p.1,p.2.1,⟨#[]⟩,p.2.2⟩
def ir (m:Mg):Mg:=⟨5,m.i,m.t,[],0,⟨#[]⟩,⟨#[]⟩⟩
def iz (i:Id):Mg:=⟨7,i,(0,0#256,0),[],0,⟨#[]⟩,⟨#[]⟩⟩
def iS (i:Id) (n:Int):Mg:=⟨8,i,(0,0#256,0),[],n,⟨#[]⟩,⟨#[]⟩⟩
structure Hr where
 s:Sv
 l:List Se
 e:Int
def ik (s s0:Sv) (fr:Int) (m:Mg) (now:Int):Hr:=
 bif decide (db s.sec m=1) then ⟨s,[(16+m.t.2.2,dW s.sec m,aN)],0⟩ else
 bif decide (db s.sec m=2) then (bif decide ((cP s.tb (f7 m now)).length≤32) then ⟨⟨s.no,s.sec,cP s.tb (f7 m now)⟩,[(fr,ir m,aN)],0⟩ else ⟨s0,[],8⟩) else
 bif decide (db s.sec m=3) then (bif decide ((dH s.tb m.i m.t).2.2<0) then ⟨s0,[],6⟩ else ⟨⟨s.no,s.sec,iX s.tb m.i m.t⟩,[],0⟩) else ⟨s0,[],11⟩
def f3 (p:Pk):Id:=(bo p).2.1
def iT (fr:Int) (p:Pk) (o:Ot):List Se:=
 bif decide (o.k=1) then [(16+o.h,bZ o.p,aN)] else
 bif decide (o.k=2) then (bif decide ((bo o.p).1=2) then [(16+(bo o.p).2.2,bZ o.p,o.t)] else [(-1,bZ o.p,o.t)]) else
 bif decide (o.y=6) && decide (16≤fr) then [(fr,iz (f3 p),aN)] else []
def jI (fr:Int) (p:Pk) (R:List Ot):List Se:=R.flatMap (iT fr p)
def gT (fr:Int) (o:Ot):Bool:=decide (o.k=3) && (decide (o.y=6) && decide (16≤fr))
def ce (m:Mg):Pk:=(m.l,min m.n 64,m.d)
noncomputable def iU (s:Sv) (fr:Int) (m:Mg):List Se:=
 jI fr (ce m) (cO s.tb (ce m))++bif decide (16≤fr) && (decide ((bo (ce m)).1=1) && !(cO s.tb (ce m)).any (gT fr)) then [(fr,iS (f3 (ce m)) s.no,aN)] else []
def bN (s:Sv) (now:Int):Sv:=⟨s.no,s.sec,xx s.tb now⟩
def jE (s:Sv) (fr:Int) (m:Mg) (now:Int):Bool:=bO s && (cN m && (decide (0≤fr) && (decide (fr≤31) && (decide (0≤now) && (decide (now≤1099511627776) && jY m)))))
noncomputable def jj (s:Sv) (fr:Int) (m:Mg) (now:Int):Hr:=
 bif jE s fr m now then (bif decide (m.k=1) then ⟨bN s now,iU (bN s now) fr m,0⟩ else ik (bN s now) s fr m now) else ⟨u5,[],1⟩
def jn:List Tg→List Tg × Nat→List Tg × Nat
 |[],a=>a
 |x::l,a=>jn l (bif decide ((cP a.1 x).length≤32) then (cP a.1 x,a.2) else (a.1,a.2+1))
theorem dq {s:Sv}:bO s=true↔0≤s.no∧s.no≤15∧s.sec.size≤64∧bp s.tb=true:=by
 unfold bO
 rw [Bool.and_eq_true,Bool.and_eq_true,Bool.and_eq_true,decide_eq_true_eq,decide_eq_true_eq,decide_eq_true_eq]
theorem nb {s:Sv} (h:bO s=true) (now:Int):bO (bN s now)=true:=by
 obtain ⟨h1,h2,h3,h4⟩:=dq.1 h
 exact dq.2 ⟨h1,h2,h3,dK.2 ((dK.1 h4).filter _)⟩
theorem AY {m:Mg} (h:cN m=true) (hk:m.k=1):dT (ce m)=true:=by
 obtain ⟨_,_,_,h3,h4,_,h6⟩:=l4 h
 unfold c3 at h3;unfold c4 at h4;unfold c6 at h6
 rw [hk] at h3 h4 h6
 simp [qt,pH,uj] at h3 h4 h6
 refine dO.2 ⟨nN _ |>.1 h3,?_,?_,h6⟩
 ·show 0≤min m.n 64;omega
 ·show min m.n 64≤64;omega
theorem wj {s:Sv} {fr:Int} {m:Mg} {now:Int} (h:jE s fr m now=false):jj s fr m now=⟨u5,[],1⟩:=by unfold jj;rw [h];rfl
theorem sw {s:Sv} {fr:Int} {m:Mg} {now:Int}:jE s fr m now=true↔bO s=true∧cN m=true∧0≤fr∧fr≤31∧0≤now∧now≤1099511627776∧jY m=true:=by
 unfold jE
 simp only [Bool.and_eq_true,decide_eq_true_eq]
theorem zG {s:Sv} {fr:Int} {m:Mg} {now:Int} (h:jE s fr m now=true) (hk:m.k=1):jj s fr m now=⟨bN s now,iU (bN s now) fr m,0⟩:=by unfold jj;rw [h,decide_eq_true hk];rfl
theorem uK {s:Sv} {fr:Int} {m:Mg} {now:Int} (h:jE s fr m now=true) (hk:¬ m.k=1):jj s fr m now=ik (bN s now) s fr m now:=by unfold jj;rw [h,decide_eq_false hk];rfl
theorem Dz {m:Mg} {now:Int} (h:cr m=true) (h0:0≤now):m.k≠6→er (f7 m now)=true:=fun hk=>by
 have hn:=pL h (decide_eq_false hk)
 refine fv.2 ⟨(gN h).1,?_,?_⟩
 ·show 0≤min (now+m.n) 1099511627776;omega
 ·show min (now+m.n) 1099511627776≤1099511627776;omega
theorem H1 {s:ByteArray} {m:Mg} (h:db s m=2):(m.t.1=1∧m.k=2∧iC m.i m.t.2.1=true)∨(¬ m.t.1=1∧m.k=4∧m.o=D8 s m):=by
 unfold db at h
 by_cases c:m.t.1=1
 ·rw [decide_eq_true c,cond_true] at h
  cases hb:decide (m.k=2) && iC m.i m.t.2.1<;>rw [hb] at h
  ·cases h
  ·rw [Bool.and_eq_true] at hb
   exact .inl ⟨c,of_decide_eq_true hb.1,hb.2⟩
 ·rw [decide_eq_false c,cond_false] at h
  cases h2:decide (m.k=2)<;>rw [h2] at h
  ·rw [cond_false] at h
   cases ho:decide (m.o=D8 s m)<;>rw [ho] at h
   ·cases h
   ·cases h4:decide (m.k=4)<;>rw [h4] at h
    ·cases h
    ·exact .inr ⟨c,of_decide_eq_true h4,of_decide_eq_true ho⟩
  ·cases h
theorem GY {s:Sv} {fr:Int} {m:Mg} {now:Int} (hs:bO s=true) (ha:cr m=true) (f0:0≤fr) (f1:fr≤31) (t0:0≤now) (t1:now≤1099511627776):jE s fr m now=true∧jj s fr m now=ik (bN s now) s fr m now:=by
 have hk:=dD.1 ha
 have hb:jE s fr m now=true:=sw.2 ⟨hs,hk.1,f0,f1,t0,t1,by unfold jY;rw [ha,Bool.or_true]⟩
 exact ⟨hb,uK hb (by rcases hk.2 with e|e|e<;>omega)⟩
def JQ:List (List Value):=[[.int .i64 0],A7.flatten,xT.flatten]
section
variable {P:Program} {ρ:Operand→Value} {d:Option Tmp} {ty:TypeId} {pos:String} {af:Array Edge} {g:Option (Nat × Bool)} {x y z:Operand} {t:TypeId}
theorem bC (S:Stt P t IU):aD P ⟨d,.build t #[],ty,pos,af,g⟩ ρ (.agg (aC 0 ByteArray.empty aM)):=
 aW (P:=P) (ρ:=ρ) (d:=d) (ty:=ty) (pos:=pos) (af:=af) (g:=g) (parts:=#[]) S [] (by simp) (fun i v hm=>by simp at hm) (D:=Gy 0 ByteArray.empty aM) rfl
theorem pG {n:Int} (S:Stt P t IU) (hx:ρ x=.int .i64 n):aD P ⟨d,.build t #[(0,x)],ty,pos,af,g⟩ ρ (.agg (aC n ByteArray.empty aM)):=by
 have:=aW (P:=P) (ρ:=ρ) (d:=d) (ty:=ty) (pos:=pos) (af:=af) (g:=g) (parts:=#[(0,x)]) S [(0,.int .i64 n)] (by simp [hx]) (fun j u hm=>by
  simp only [List.mem_cons,Prod.mk.injEq,List.not_mem_nil,or_false] at hm
  obtain ⟨rfl,rfl⟩:=hm
  exact ⟨_,rfl,rfl⟩) (D:=Gy n ByteArray.empty aM) rfl
 exact this
theorem pS {n:Int} {s:ByteArray} {v:Value} (S:Stt P t IU) (hv:v.cells.size=1) (hc:v.cells.toList=[v]) (hx:ρ x=.int .i64 n) (hy:ρ y=.string s) (hz:ρ z=v):aD P ⟨d,.build t #[(0,x),(1,y),(2,z)],ty,pos,af,g⟩ ρ (.agg (aC n s v)):=by
 have:=aW (P:=P) (ρ:=ρ) (d:=d) (ty:=ty) (pos:=pos) (af:=af) (g:=g) (parts:=#[(0,x),(1,y),(2,z)]) S [(0,.int .i64 n),(1,.string s),(2,v)] (by simp [hx,hy,hz]) (fun j u hm=>by
  simp only [List.mem_cons,Prod.mk.injEq,List.not_mem_nil,or_false] at hm
  rcases hm with ⟨rfl,rfl⟩|⟨rfl,rfl⟩|⟨rfl,rfl⟩
  ·exact ⟨_,rfl,rfl⟩
  ·exact ⟨_,rfl,rfl⟩
  ·exact ⟨_,rfl,hv⟩) (D:=Gy n s v) (by
   show [Value.int .i64 n]++([Value.string s]++(v.cells.toList++[]))=_
   rw [hc];rfl)
 exact this
theorem rC {n:Int} {m:Mg} {v:Value} {b:Tg} (S:Stt P t JQ) (hx:ρ x=.int .i64 n) (hy:ρ y=.agg (a8 m v)) (hz:ρ z=.agg (au b)):aD P ⟨d,.build t #[(0,x),(1,y),(2,z)],ty,pos,af,g⟩ ρ (.agg (dy n m v b)):=by
 have:=aW (P:=P) (ρ:=ρ) (d:=d) (ty:=ty) (pos:=pos) (af:=af) (g:=g) (parts:=#[(0,x),(1,y),(2,z)]) S [(0,.int .i64 n),(1,.agg (a8 m v)),(2,.agg (au b))] (by simp [hx,hy,hz]) (fun j u hm=>by
  simp only [List.mem_cons,Prod.mk.injEq,List.not_mem_nil,or_false] at hm
  rcases hm with ⟨rfl,rfl⟩|⟨rfl,rfl⟩|⟨rfl,rfl⟩
  ·exact ⟨_,rfl,rfl⟩
  ·exact ⟨_,rfl,by show (a8 m v).size=_;rw [aF];rfl⟩
  ·exact ⟨_,rfl,by show (au b).size=_;rw [ai];rfl⟩) (D:=Bw n m v b) (by
   show [Value.int .i64 n]++((a8 m v).toList++((au b).toList++[]))=_
   rw [List.append_nil];rfl)
 exact this
end
section
variable (n:Int) (s:ByteArray) (v u:Value) (e:Int)
end
section
variable {P:Program} {ρ:Operand→Value} {d:Option Tmp} {ty:TypeId} {pos:String} {af:Array Edge} {g:Option (Nat × Bool)} {x y z:Operand} {t:TypeId}
end
theorem yc {w w':World} {K:List S2} (h:lN K w) (e:Ext w w'):lN K w':=fun x hx=>(h x hx).keep e
theorem ye {a b:Sv} (h:decide (a.no=b.no)=false):decide (a=b)=false:=decide_eq_false fun e=>of_decide_eq_false h (by rw [e])
theorem zp {a b:Sv} (_h0:decide (a.no=b.no)=true) (h:decide (a.sec=b.sec)=false):decide (a=b)=false:=decide_eq_false fun e=>of_decide_eq_false h (by rw [e])
theorem yI {a b:Sv} (h0:decide (a.no=b.no)=true) (h:decide (a.sec=b.sec)=true):decide (a=b)=decide (a.tb=b.tb):=decide_eq_decide.2 ⟨fun e=>by rw [e],fun e=>by
 have g0:=of_decide_eq_true h0
 have g1:=of_decide_eq_true h
 clear h0 h
 cases a;cases b
 simp only at g0 g1 e
 subst g0;subst g1;subst e;rfl⟩
section
variable {w w':World} {vt vw vs:Value} {tb tb0:List Tg} {l:List cw} {H:Hr} {N M:TypeId} {s':Sv} {L:List Se} {e:Int}
end
theorem DL {s:ByteArray} {m:Mg} (h:decide (db s m=2)=true):decide (m.k=6)=false:=decide_eq_false (by
 rcases H1 (of_decide_eq_true h) with ⟨_,e,_⟩|⟨_,e,_⟩<;>omega)
theorem G7 {s s0:Sv} {fr:Int} {m:Mg} {now:Int} (h:decide (db s.sec m=1)=true):ik s s0 fr m now=⟨s,[(16+m.t.2.2,dW s.sec m,aN)],0⟩:=by unfold ik;rw [h];rfl
theorem Jb {s s0:Sv} {fr:Int} {m:Mg} {now:Int} (h1:decide (db s.sec m=1)=false) (h:decide (db s.sec m=2)=true) (hf:decide ((cP s.tb (f7 m now)).length≤32)=true):ik s s0 fr m now=⟨⟨s.no,s.sec,cP s.tb (f7 m now)⟩,[(fr,ir m,aN)],0⟩:=by unfold ik;rw [h1,h,hf];rfl
theorem J8 {s s0:Sv} {fr:Int} {m:Mg} {now:Int} (h1:decide (db s.sec m=1)=false) (h:decide (db s.sec m=2)=true) (hf:decide ((cP s.tb (f7 m now)).length≤32)=false):ik s s0 fr m now=⟨s0,[],8⟩:=by unfold ik;rw [h1,h,hf];rfl
theorem JI {s s0:Sv} {fr:Int} {m:Mg} {now:Int} (h1:decide (db s.sec m=1)=false) (h2:decide (db s.sec m=2)=false) (h:decide (db s.sec m=3)=true) (hf:decide ((dH s.tb m.i m.t).2.2<0)=true):ik s s0 fr m now=⟨s0,[],6⟩:=by unfold ik;rw [h1,h2,h,hf];rfl
theorem Jr {s s0:Sv} {fr:Int} {m:Mg} {now:Int} (h1:decide (db s.sec m=1)=false) (h2:decide (db s.sec m=2)=false) (h:decide (db s.sec m=3)=true) (hf:decide ((dH s.tb m.i m.t).2.2<0)=false):ik s s0 fr m now=⟨⟨s.no,s.sec,iX s.tb m.i m.t⟩,[],0⟩:=by unfold ik;rw [h1,h2,h,hf];rfl
theorem Ka {s s0:Sv} {fr:Int} {m:Mg} {now:Int} (h1:decide (db s.sec m=1)=false) (h2:decide (db s.sec m=2)=false) (h:decide (db s.sec m=3)=false):ik s s0 fr m now=⟨s0,[],11⟩:=by unfold ik;rw [h1,h2,h];rfl
theorem oD {x:S2} {w:World} (h:eg w x.2 x.1.2.1.l):lN [x] w:=fun y hy=>by rw [List.mem_singleton.1 hy];exact h
def JU (w:World) (v:Value) (K:List S2):Prop:=bK w v 139 K.length (aU K)∧lN K w
theorem JU.keep {w w':World} {v:Value} {K:List S2} (h:JU w v K) (e:Ext w w'):JU w' v K:=⟨h.1.keep e,yc h.2 e⟩
theorem He (K:List S2) (j:Nat) (hj:j<K.length):(aU K)[j*139+0]? = some (.int .i64 (K.getD j nH).1.1):=by
 have h:=congrArg (fun a:Array Value=>a[0]?) (zY K j hj)
 simp only [Jc,List.getElem?_toArray] at h
 rw [← h,List.getElem?_take_of_lt (by decide),List.getElem?_drop]
def eT (l tb:List Tg) (k:Nat):List Tg × Nat:=jn (l.take k) (tb,0)
theorem zN (l:List Tg) (x:Tg) (a:List Tg × Nat):jn (l++[x]) a=bif decide ((cP (jn l a).1 x).length≤32) then (cP (jn l a).1 x,(jn l a).2) else ((jn l a).1,(jn l a).2+1):=by
 induction l generalizing a with
 |nil=>rfl
 |cons y l ih=>exact ih _
theorem qX {l tb:List Tg} {k:Nat} (hk:k<l.length):eT l tb (k+1)=bif decide ((cP (eT l tb k).1 (l.getD k aN)).length≤32) then (cP (eT l tb k).1 (l.getD k aN),(eT l tb k).2) else ((eT l tb k).1,(eT l tb k).2+1):=by
 unfold eT
 rw [← zN,List.take_add_one,List.getElem?_eq_getElem hk,List.getD_eq_getElem?_getD,List.getElem?_eq_getElem hk];rfl
theorem qj (l tb:List Tg):eT l tb l.length=jn l (tb,0):=by unfold eT;rw [List.take_length]
theorem wo {l tb:List Tg} {k:Nat} (hk:k<l.length) (h:decide ((cP (eT l tb k).1 (l.getD k aN)).length≤32)=true):eT l tb (k+1)=(cP (eT l tb k).1 (l.getD k aN),(eT l tb k).2):=by rw [qX hk,h];rfl
theorem vk {l tb:List Tg} {k:Nat} (hk:k<l.length) (h:decide ((cP (eT l tb k).1 (l.getD k aN)).length≤32)=false):eT l tb (k+1)=((eT l tb k).1,(eT l tb k).2+1):=by rw [qX hk,h];rfl
theorem jT {l tb:List Tg} (ht:tb.length≤1000) (k:Nat):(eT l tb k).1.length≤1000∧(eT l tb k).2≤k:=by
 induction k with
 |zero=>exact ⟨ht,Nat.le_refl _⟩
 |succ k ih=>
  rcases Nat.lt_or_ge k l.length with g|g
  ·cases h:decide ((cP (eT l tb k).1 (l.getD k aN)).length≤32)
   ·rw [vk g h];exact ⟨ih.1,Nat.succ_le_succ ih.2⟩
   ·rw [wo g h];have:=of_decide_eq_true h;exact ⟨by show (cP _ _).length≤1000;omega,by show (eT l tb k).2≤k+1;omega⟩
  ·have e:eT l tb (k+1)=eT l tb k:=by unfold eT;rw [List.take_of_length_le g,List.take_of_length_le (by omega)]
   rw [e];exact ⟨ih.1,by omega⟩
def KN (w:World) (sv:Sv) (vt:Value) (R:List Tg × Nat):bY:=fun v w'=>∃ p ks,v=.tuple #[.agg (aC sv.no sv.sec p),.int .i64 (R.2:Int)]∧St w [.grp ks fun w9=>cK w9 vt sv.tb→cK w9 p R.1] w'
section
variable {fr:Int} {p:Pk} {K:List O2} {KS:List S2} {k:Nat} {t:List Tg} {o:Ot}
theorem vH (hk:k<K.length):(eL K).take (k+1)=(eL K).take k++[(K.getD k bw).1]:=by
 rw [List.take_add_one,Br hk];rfl
theorem tE {x:S2} (hk:k<K.length) (h:cW KS=jI fr p ((eL K).take k)) (hx:iT fr p (K.getD k bw).1=[x.1]):cW (KS++[x])=jI fr p ((eL K).take (k+1)):=by
 rw [oJ,h,vH hk]
 unfold jI
 rw [List.flatMap_append,List.flatMap_cons,List.flatMap_nil,List.append_nil,hx]
theorem wC (hk:k<K.length) (h:cW KS=jI fr p ((eL K).take k)) (hx:iT fr p (K.getD k bw).1=[]):cW KS=jI fr p ((eL K).take (k+1)):=by
 rw [h,vH hk]
 unfold jI
 rw [List.flatMap_append,List.flatMap_cons,List.flatMap_nil,List.append_nil,hx,List.append_nil]
theorem Kf (h:decide (o.k=1)=true):iT fr p o=[(16+o.h,bZ o.p,aN)]∧gT fr o=false:=by
 have:=of_decide_eq_true h
 refine ⟨by unfold iT;rw [h];rfl,by unfold gT;rw [decide_eq_false (by omega)];rfl⟩
theorem JV (h:decide (o.k=1)=false) (h2:decide (o.k=2)=true) (h3:decide ((bo o.p).1=2)=true):iT fr p o=[(16+(bo o.p).2.2,bZ o.p,o.t)]∧gT fr o=false:=by
 have:=of_decide_eq_true h2
 refine ⟨by unfold iT;rw [h,h2,h3];rfl,by unfold gT;rw [decide_eq_false (by omega)];rfl⟩
theorem I4 (h:decide (o.k=1)=false) (h2:decide (o.k=2)=true) (h3:decide ((bo o.p).1=2)=false):iT fr p o=[(-1,bZ o.p,o.t)]∧gT fr o=false:=by
 have:=of_decide_eq_true h2
 refine ⟨by unfold iT;rw [h,h2,h3];rfl,by unfold gT;rw [decide_eq_false (by omega)];rfl⟩
theorem Jj (h:decide (o.k=1)=false) (h2:decide (o.k=2)=false) (h0:o.k=3) (h4:decide (o.y=6)=true) (h5:decide (16≤fr)=true):iT fr p o=[(fr,iz (f3 p),aN)]∧gT fr o=true:=by
 refine ⟨by unfold iT;rw [h,h2,h4,h5];rfl,by unfold gT;rw [decide_eq_true h0,h4,h5];rfl⟩
theorem JF (h:decide (o.k=1)=false) (h2:decide (o.k=2)=false) (h4:decide (o.y=6)=false):iT fr p o=[]∧gT fr o=false:=by
 refine ⟨by unfold iT;rw [h,h2,h4];rfl,by unfold gT;rw [h4,Bool.false_and,Bool.and_false]⟩
theorem Ja (h:decide (o.k=1)=false) (h2:decide (o.k=2)=false) (h4:decide (16≤fr)=false):iT fr p o=[]∧gT fr o=false:=by
 refine ⟨by unfold iT;rw [h,h2,h4,Bool.and_false];rfl,by unfold gT;rw [h4,Bool.and_false,Bool.and_false]⟩
theorem oO (ho:o∈cO t p):o.k=1∨o.k=2∨o.k=3:=by
 cases h:decide ((bo p).1=2)
 ·cases h1:decide (p.2.1=0)
  ·cases h2:decide ((ju t (bo p).2.1).length=0)
   ·rw [nK h h1 h2] at ho
    obtain ⟨z,_,rfl⟩:=List.mem_map.1 ho
    exact .inr (.inl rfl)
   ·cases h3:decide (1<p.1.length)
    ·rw [lG h h1 h2 h3,List.mem_singleton] at ho
     rw [ho];exact .inr (.inr rfl)
    ·rw [jC h h1 h2 h3,List.mem_singleton] at ho
     rw [ho];exact .inr (.inl rfl)
  ·rw [lE h h1,List.mem_singleton] at ho
   rw [ho];exact .inr (.inr rfl)
 ·rw [lI h,List.mem_singleton] at ho
  rw [ho];exact .inl rfl
theorem ng (h:dT p=true):1≤p.1.length∧((bo p).1=1∨(bo p).1=2):=by
 have hl:=(dO.1 h).1
 refine ⟨hl.1,?_⟩
 have hm:bo p∈p.1:=by
  show p.1.getD 0 _∈p.1
  rw [List.getD_eq_getElem?_getD,List.getElem?_eq_getElem hl.1];exact List.getElem_mem _
 have:=hl.2.2 _ hm
 unfold eR at this
 simp only [Bool.or_eq_true,Bool.and_eq_true,decide_eq_true_eq] at this
 omega
theorem tT (h:dT p=true) (h2:(bo p).1=2):0≤(bo p).2.2∧(bo p).2.2≤15:=by
 have hl:=(dO.1 h).1
 have hm:bo p∈p.1:=by
  show p.1.getD 0 _∈p.1
  rw [List.getD_eq_getElem?_getD,List.getElem?_eq_getElem hl.1];exact List.getElem_mem _
 have:=Am (hl.2.2 _ hm) (by omega)
 omega
theorem pK {x:S2} (h:∀ w9,ny K w9→lN KS w9) (hx:∀ w9,ny K w9→eg w9 x.2 x.1.2.1.l):∀ w9,ny K w9→lN (KS++[x]) w9:=fun w9 h9=>sf (h w9 h9) (hx w9 h9)
theorem nQ {x:S2} (h:KS.length≤k):(KS++[x]).length≤k+1:=by rw [List.length_append];exact Nat.succ_le_succ h
end
section
variable {P:Program} {ρ:Operand→Value} {d:Option Tmp} {ty:TypeId} {pos:String} {af:Array Edge} {g:Option (Nat × Bool)} {y0 y1:Operand} {t:TypeId}
theorem qc {k:Int} {i:Id} (S:Stt P t A7) (h0:ρ y0=.int .i64 k) (h1:ρ y1=.agg (aw i)):aD P ⟨d,.build t #[(0,y0),(1,y1)],ty,pos,af,g⟩ ρ (.agg (a8 ⟨k,i,(0,0#256,0),[],0,⟨#[]⟩,⟨#[]⟩⟩ aM)):=by
 have:=aW (P:=P) (ρ:=ρ) (d:=d) (ty:=ty) (pos:=pos) (af:=af) (g:=g) (parts:=#[(0,y0),(1,y1)]) S [(0,.int .i64 k),(1,.agg (aw i))] (by simp [h0,h1]) (fun j u hm=>by
  simp only [List.mem_cons,Prod.mk.injEq,List.not_mem_nil,or_false] at hm
  rcases hm with ⟨rfl,rfl⟩|⟨rfl,rfl⟩
  ·exact ⟨_,rfl,rfl⟩
  ·exact ⟨_,rfl,by show (aw _).size=_;rw [am];rfl⟩) (D:=(a8 ⟨k,i,(0,0#256,0),[],0,⟨#[]⟩,⟨#[]⟩⟩ aM).toList) (by
   show [Value.int .i64 k]++((aw i).toList++((Value.int .i64 0::(List.replicate 32 (Value.int .u8 0)++[Value.int .i64 0]))++([Value.slice none 0 0]++([Value.int .i64 0]++([Value.string ⟨#[]⟩]++([Value.string ⟨#[]⟩]++[]))))))=_
   rw [JR];rfl)
 exact this
end
theorem Hx {sv:Sv} {fr:Int} {m:Mg} {K:List O2} {KS:List S2} (hK:eL K=cO sv.tb (ce m)) (h:cW KS=jI fr (ce m) ((eL K).take K.length)) (h0:decide (16≤fr)=true) (h1:decide ((bo (ce m)).1=1)=true) (h2:((eL K).take K.length).any (gT fr)=false):cW (KS++[((fr,iS (f3 (ce m)) sv.no,aN),aM)])=iU sv fr m:=by
 rw [← gG K,List.take_length,hK] at h h2
 rw [oJ,h]
 unfold iU
 rw [h0,h1,h2];rfl
theorem IA {sv:Sv} {fr:Int} {m:Mg} {K:List O2} {KS:List S2} (hK:eL K=cO sv.tb (ce m)) (h:cW KS=jI fr (ce m) ((eL K).take K.length)) (h0:(decide (16≤fr) && (decide ((bo (ce m)).1=1) && !((eL K).take K.length).any (gT fr)))=false):cW KS=iU sv fr m:=by
 rw [← gG K,List.take_length,hK] at h h0
 rw [h]
 unfold iU
 rw [h0,cond_false,List.append_nil]
def rQ (w:World) (vt vs:Value) (tb:List Tg) (l:List cw) (H:Hr):bY:=fun v w'=>∃ vt' ul K ks,v=.tuple #[.agg (aC H.s.no H.s.sec vt'),ul,.int .i64 H.e]∧cW K=H.l∧St w [.grp ks fun w9=>cK w9 vt tb→eg w9 vs l→cK w9 vt' H.s.tb∧bK w9 ul 139 K.length (aU K)∧lN K w9] w'
def dL (s:Sv):Sv:=⟨s.no,s.sec.extract 0 (min s.sec.size 70),s.tb.take (min s.tb.length 34)⟩
theorem zt (s:Sv):(dL s).tb.length≤34:=by unfold dL;simp only [List.length_take];omega
theorem mN {w:World} {vt:Value} {s:Sv} (h:cK w vt s.tb):cK w (dE vt (min s.tb.length 34)) (dL s).tb:=gg h _ (Nat.min_le_left _ _)
def I2:Sv:=⟨1,ByteArray.empty,[]⟩
theorem Iw:jj I2 18 IC 0=⟨I2,[(19,FJ ByteArray.empty IC,aN)],0⟩:=by
 have a1:cr IC=true:=qP (by rw [kB];exact .inr ⟨rfl,rfl,by decide,by decide⟩) (.inl ⟨rfl,by decide,by decide,rfl⟩)
 obtain ⟨_,e⟩:=GY (s:=I2) (fr:=18) (m:=IC) (now:=0) (dq.2 ⟨by decide,by decide,by decide,KI⟩) a1 (by decide) (by decide) (by decide) (by decide)
 rw [e,G7 (by rfl)]
 rfl
theorem xQ {K:List S2} {x:Se} (h:cW K=[x]):K.length=1∧(K.getD 0 nH).1=x:=by
 match K,h with
 |[y],h=>exact ⟨rfl,(List.cons.inj h).1⟩
 |[],h=>cases h
 |_::_::_,h=>cases (List.cons.inj h).2
theorem HX (K:List S2) (j:Nat) (hj:j<K.length):(aU K)[j*139+1]? = some (.int .i64 (K.getD j nH).1.2.1.k):=by
 have h:=congrArg (fun a:Array Value=>a[1]?) (zY K j hj)
 simp only [GI,List.getElem?_toArray] at h
 rw [← h,List.getElem?_take_of_lt (by decide),List.getElem?_drop]
section
variable {m:Mg}
end
def FB (s:Sv) (l:List Tg):Bool:=bO s && bp l
def F7 (s:Sv) (l:List Tg):Int:=bif FB s l then 0 else 1
def uJ (s:Sv) (l:List Tg):Sv:=bif FB s l then ⟨s.no,s.sec,(jn l (s.tb,0)).1⟩ else u5
def Ex (s:Sv) (l:List Tg):Nat:=bif FB s l then (jn l (s.tb,0)).2 else 0
def Ig (s:Sv):Int:=bif bO s then 0 else 1
def yJ (s:Sv) (a b:Id):Sv:=bif bO s then ⟨s.no,s.sec,pY s.tb a b false⟩ else u5
def DR (s:Sv) (a b:Id):List Tg:=bif bO s then pY s.tb a b true else []
def JG (w:World) (s:Sv) (vt:Value) (l:List Tg) (vh:Value):bY:=fun v w'=>∃ p ks,v=.tuple #[.agg (aC (uJ s l).no (uJ s l).sec p),.int .i64 (Ex s l:Int),.int .i64 (F7 s l)]∧St w [.grp ks fun w9=>cK w9 vt s.tb→cK w9 vh l→cK w9 p (uJ s l).tb] w'
def Jm (w:World) (s:Sv) (vt:Value) (a b:Id):bY:=fun v w'=>∃ p q ks,v=.tuple #[.agg (aC (yJ s a b).no (yJ s a b).sec p),q,.int .i64 (Ig s)]∧St w [.grp ks fun w9=>cK w9 vt s.tb→cK w9 p (yJ s a b).tb∧cK w9 q (DR s a b)] w'
section
variable {s:Sv} {l:List Tg} {a b:Id}
theorem HO (h:bO s=true) (hl:bp l=true):F7 s l=0∧uJ s l=⟨s.no,s.sec,(jn l (s.tb,0)).1⟩∧Ex s l=(jn l (s.tb,0)).2:=by unfold F7 uJ Ex FB;rw [h,hl];exact ⟨rfl,rfl,rfl⟩
theorem Ib (l:List Tg) (h:bO s=false):F7 s l=1∧uJ s l=u5∧Ex s l=0:=by unfold F7 uJ Ex FB;rw [h];exact ⟨rfl,rfl,rfl⟩
theorem GP (h:bO s=true) (hl:bp l=false):F7 s l=1∧uJ s l=u5∧Ex s l=0:=by unfold F7 uJ Ex FB;rw [h,hl];exact ⟨rfl,rfl,rfl⟩
theorem GN (a b:Id) (h:bO s=true):Ig s=0∧yJ s a b=⟨s.no,s.sec,pY s.tb a b false⟩∧DR s a b=pY s.tb a b true:=by unfold Ig yJ DR;rw [h];exact ⟨rfl,rfl,rfl⟩
theorem HP (a b:Id) (h:bO s=false):Ig s=1∧yJ s a b=u5∧DR s a b=[]:=by unfold Ig yJ DR;rw [h];exact ⟨rfl,rfl,rfl⟩
theorem FZ (ht:s.tb.length≤900) (l:List Tg):(uJ s l).tb.length≤1000∧(jn l (s.tb,0)).1.length≤1000:=by
 have h:=(jT (l:=l) (show s.tb.length≤1000 by omega) l.length).1
 rw [qj] at h
 refine ⟨?_,h⟩
 unfold uJ
 cases FB s l
 ·exact Nat.zero_le _
 ·exact h
theorem Ff (ht:s.tb.length≤900) (a b:Id):(yJ s a b).tb.length≤1000∧(DR s a b).length≤1000∧(pY s.tb a b false).length≤1000∧(pY s.tb a b true).length≤1000:=by
 have h0:(pY s.tb a b false).length≤s.tb.length:=List.length_filter_le _ _
 have h1:(pY s.tb a b true).length≤s.tb.length:=List.length_filter_le _ _
 refine ⟨?_,?_,by omega,by omega⟩
 ·unfold yJ
  cases bO s
  ·exact Nat.zero_le _
  ·show (pY s.tb a b false).length≤1000;omega
 ·unfold DR
  cases bO s
  ·exact Nat.zero_le _
  ·show (pY s.tb a b true).length≤1000;omega
end
section
variable {s A B:Sv} {i:Id} {ho l:Nat} {now:Int}
end
section
variable {s:Sv} {fr:Int} {m:Mg} {now:Int} {y:Tg}
end
end Go.Proofs.YtobfeflheaobiaaGreatDoor
namespace Go.Proofs.YtobfeflheaobiaaGreatDoor
open Go.RowKit Go.ChangeShapes Go.WideShapes Go.ChangeAt
theorem AB {H α:Type} {enc:TypeId × Value→H} {P:Program} {W:World} {ts t:TypeId} {fuel:Nat} {cs:List Value} {x:DataW H × List MemPlace} (C:α→Array Value) (sz:Nat) (h0:0<sz) (hC:∀ a,(C a).size=sz) (z:α)
 (hts:P.underlying ts=some (.slice t)) (hct:P.cellsOf t=sz) (op:∀ (fuel:Nat) (cs:List Value) (x:DataW H × List MemPlace),DataW.trod enc P W 0 (fun _=>true) true fuel t cs=some x→∃ l:α,cs=(C l).toList)
 (hf:DataW.trod enc P W 0 (fun _=>true) true fuel ts cs=some x):∃ (v:Value) (ls:List α),cs=[v]∧bK W v sz ls.length (ls.flatMap fun a=>(C a).toList):=by
 rcases Go.Deep.open_slice hts hf with ⟨hcs,_⟩|⟨a',len,cap,m,k,D,Pl,hcs,_,hl,_,hm,_,hel⟩
 ·exact ⟨_,[],hcs,by simp,.inl ⟨rfl,rfl⟩⟩
 ·have hml:len≤m:=by rw [hm];split<;>omega
  have each:∀ i,∃ l:α,i<len→aO W (a'.add (i*sz)) (C l):=fun i=>by
   by_cases hi:i<len
   ·obtain ⟨cs',hc1,hc2⟩:=hel i (by omega)
    obtain ⟨l,rfl⟩:=op _ _ _ hc2
    refine ⟨l,fun _ j u hj=>?_⟩
    rw [hct] at hc1
    obtain ⟨_,hlen,hall⟩:=World.cells?_some hc1
    have hj34:j<sz:=by have:=(Array.getElem?_eq_some_iff.1 hj).1;rw [hC] at this;exact this
    have:=hall j hj34
    rw [this,Array.getElem?_toList];exact hj
   ·exact ⟨z,fun h9=>absurd h9 hi⟩
  obtain ⟨L,hL⟩:=Classical.axiomOfChoice each
  refine ⟨_,(List.range len).map L,hcs,?_,.inr ⟨a',cap,by simp,by simpa using hl,?_⟩⟩
  ·exact i9 _ sz (fun a=>by rw [Array.length_toList,hC]) _
  ·refine qW _ sz h0 (fun x=>by rw [Array.length_toList,hC]) _ fun i hi=>?_
   have hi':i<len:=by simpa using hi
   have:=hL i hi'
   simpa using this
theorem Dr {H:Type} {enc:TypeId × Value→H} {P:Program} {W:World} {r:Reach} {b0:Nat} {tm tz ts tg te tn ti e:TypeId} {g0 g1 g2 f0 f1 f2 k0 k1 k2:Field} {v:Value} {d:DataW H} {ps:List MemPlace} (T:IdTy P ti e) (hc:P.cellsOf ti=32) (hce:P.cellsOf e=1) (hn:P.underlying tn=some (.int .i64)) (hcn:P.cellsOf tn=1)
 (hz:P.underlying tz=some .string) (hcz:P.cellsOf tz=1) (hcs:P.cellsOf ts=1)
 (hte:P.underlying te=some (.struct #[f0,f1,f2])) (h0:f0.type=tn) (h1:f1.type=ti) (h2:f2.type=tn) (o0:f0.offset=0) (o1:f1.offset=1) (o2:f2.offset=33) (hcte:P.cellsOf te=34)
 (hts:P.underlying ts=some (.slice tg)) (htg:P.underlying tg=some (.struct #[k0,k1,k2])) (j0:k0.type=ti) (j1:k1.type=te) (j2:k2.type=tn) (p0:k0.offset=0) (p1:k1.offset=32) (p2:k2.offset=66) (hctg:P.cellsOf tg=67)
 (htm:P.underlying tm=some (.struct #[g0,g1,g2])) (ht0:g0.type=tn) (ht1:g1.type=tz) (ht2:g2.type=ts) (ho0:g0.offset=0) (ho1:g1.offset=1) (ho2:g2.offset=2) (hctm:P.cellsOf tm=3)
 (hval:Value.okWide P W r b0 tm v) (h:DataW.Trod enc P W 0 (fun _=>true) true tm v d ps):∃ (p:Sv) (u:Value),v=.agg (aC p.no p.sec u)∧cK W u p.tb:=by
 have hv:∃ cs,v=.agg cs:=by
  unfold Value.okWide at hval
  simp only [htm] at hval
  obtain ⟨cs,h9,_⟩:=hval
  exact ⟨cs,h9⟩
 obtain ⟨cs,rfl⟩:=hv
 obtain ⟨fuel,hf⟩:=h
 obtain ⟨xs,n,hcells,_,hl,hxl,hel⟩:=DataW.trod_struct htm hf
 have hcl:cs.toList.length=3:=by rw [← hctm];simpa [Value.cells] using hl
 have hx3:xs.length=3:=by simpa using hxl
 have e0:=hel 0 g0 rfl
 have e1:=hel 1 g1 rfl
 have e2:=hel 2 g2 rfl
 rw [ht0,ho0,hcn,List.getElem?_eq_getElem (by omega)] at e0
 rw [ht1,ho1,hcz,List.getElem?_eq_getElem (by omega)] at e1
 rw [ht2,ho2,hcs,List.getElem?_eq_getElem (by omega)] at e2
 obtain ⟨k,eT,_⟩:=DataW.trod_int hn e0
 obtain ⟨d9,hd9,_⟩:=DataW.trod_string hz e1
 obtain ⟨u,ls,hu,hls⟩:=AB au 67 (by decide) ai aN hts hctg (fun _ _ _ h=>q4 T hc hce hn hcn hte h0 h1 h2 o0 o1 o2 hcte htg j0 j1 j2 p0 p1 p2 hctg h) e2
 refine ⟨⟨k,d9,ls⟩,u,?_,hls⟩
 have key:cs.toList=(aC k d9 u).toList:=by
  show cs.toList=[.int .i64 k]++([.string d9]++[u])
  simp only [Value.cells] at eT hd9 hu ⊢
  have hd2:cs.toList.drop 2=[u]:=by
   rw [List.take_of_length_le (by rw [List.length_drop,hcl];omega)] at hu;exact hu
  have hsplit:cs.toList=cs.toList.take 1++((cs.toList.drop 1).take 1++cs.toList.drop 2):=by
   rw [show cs.toList.drop 2=(cs.toList.drop 1).drop 1 from by rw [List.drop_drop],List.take_append_drop,List.take_append_drop]
  rw [hd2,hd9,show cs.toList.take 1=[.int .i64 k] from eT] at hsplit
  exact hsplit
 rw [Array.toList_inj.1 key]
section
variable {P:Program} {ρ:Operand→Value} {d:Option Tmp} {ty t t':TypeId} {pos:String} {af:Array Edge} {g:Option (Nat × Bool)} {x:Operand}
theorem gC {u V:Value} {c:Bool} (hA:∀ w,(Instr.typeAssert u t t' c).run P w=.ok V w) (hx:ρ x=u):aD P ⟨d,.typeAssert x t t' c,ty,pos,af,g⟩ ρ V:=fun w=>by
 simp [execOp,hx,hA]
end
section
variable {P:Program} {ops:Array Oper} {Q:Act→World→Prop} {l:List Oper} {a:Act} {w w0:World} {N:Nat} {L:List (Nat × Value)} {Df:List Deferred} {B:List Own} {d:Tmp} {ty:TypeId} {pos:String} {af:Array Edge}
end
section
variable {P:Program} {ops:List Oper} {K:Act→World→Prop} {l:List Oper} {a:Act} {w:World} {N:Nat} {L:List (Nat × Value)} {Df:List Deferred} {d:Tmp} {ty:TypeId} {pos:String} {af:Array Edge}
end
def iq (s:Sv) (fr:Int) (m:Mg) (now:Int):Hr:=
 bif decide (db s.sec m=1) then ⟨s,[(16+m.t.2.2,dW s.sec m,aN)],0⟩ else
 bif decide (db s.sec m=2) then ⟨⟨s.no,s.sec,ip s.tb (f7 m now)⟩,[(fr,ir m,aN)],fW s.tb (f7 m now)⟩ else
 bif decide (db s.sec m=3) then ⟨⟨s.no,s.sec,lB s.tb m.i m.t⟩,[],gS s.tb m.i m.t⟩ else ⟨s,[],11⟩
section
variable {s s0:Sv} {fr:Int} {m:Mg} {now:Int}
theorem El (h:decide (db s.sec m=1)=true):iq s fr m now=⟨s,[(16+m.t.2.2,dW s.sec m,aN)],0⟩:=by unfold iq;rw [h];rfl
theorem zf (h1:decide (db s.sec m=1)=false) (h:decide (db s.sec m=2)=true):iq s fr m now=⟨⟨s.no,s.sec,ip s.tb (f7 m now)⟩,[(fr,ir m,aN)],fW s.tb (f7 m now)⟩:=by unfold iq;rw [h1,h];rfl
theorem yM (h1:decide (db s.sec m=1)=false) (h2:decide (db s.sec m=2)=false) (h:decide (db s.sec m=3)=true):iq s fr m now=⟨⟨s.no,s.sec,lB s.tb m.i m.t⟩,[],gS s.tb m.i m.t⟩:=by unfold iq;rw [h1,h2,h];rfl
theorem Em (h1:decide (db s.sec m=1)=false) (h2:decide (db s.sec m=2)=false) (h:decide (db s.sec m=3)=false):iq s fr m now=⟨s,[],11⟩:=by unfold iq;rw [h1,h2,h];rfl
theorem uG (hs:bp s.tb=true) (ha:cr m=true) (h0:0≤now):(iq s fr m now).e≠1∧(ik s s0 fr m now).e=(iq s fr m now).e∧((iq s fr m now).e=0→ik s s0 fr m now=iq s fr m now)∧(¬ (iq s fr m now).e=0→ik s s0 fr m now=⟨s0,[],(iq s fr m now).e⟩):=by
 cases h1:decide (db s.sec m=1) with
 |true=>rw [El h1,G7 h1];exact ⟨by show ¬ (0:Int)=1;decide,rfl,fun _=>rfl,fun h=>absurd rfl h⟩
 |false=>
  cases h2:decide (db s.sec m=2) with
  |true=>
   have hm:er (f7 m now)=true:=Dz ha h0 (of_decide_eq_false (DL h2))
   cases hf:decide ((cP s.tb (f7 m now)).length≤32) with
   |true=>
    obtain ⟨e1,e2⟩:=zo hs hm hf
    rw [zf h1 h2,Jb h1 h2 hf,e1,e2];exact ⟨by show ¬ (0:Int)=1;decide,rfl,fun _=>rfl,fun h=>absurd rfl h⟩
   |false=>
    obtain ⟨e1,e2⟩:=pq hs hm hf
    rw [zf h1 h2,J8 h1 h2 hf,e1];exact ⟨by show ¬ (8:Int)=1;decide,rfl,fun h=>absurd (show (8:Int)=0 from h) (by decide),fun _=>rfl⟩
  |false=>
   cases h3:decide (db s.sec m=3) with
   |true=>
    cases hf:decide ((dH s.tb m.i m.t).2.2<0) with
    |true=>
     obtain ⟨e1,e2⟩:=E1 hs hf
     rw [yM h1 h2 h3,JI h1 h2 h3 hf,e1];exact ⟨by show ¬ (6:Int)=1;decide,rfl,fun h=>absurd (show (6:Int)=0 from h) (by decide),fun _=>rfl⟩
    |false=>
     obtain ⟨e1,e2⟩:=H7 hs hf
     rw [yM h1 h2 h3,Jr h1 h2 h3 hf,e1,e2];exact ⟨by show ¬ (0:Int)=1;decide,rfl,fun _=>rfl,fun h=>absurd rfl h⟩
   |false=>rw [Em h1 h2 h3,Ka h1 h2 h3];exact ⟨by show ¬ (11:Int)=1;decide,rfl,fun h=>absurd (show (11:Int)=0 from h) (by decide),fun _=>rfl⟩
end
def sy (m:Mg):Bool:=decide (m.k=2) || (decide (m.k=4) || decide (m.k=6))
def CV (c p o:TypeId) (m:Mg) (vs:Value):Value:=bif sy m then .iface c (.agg (a8 m vs)) else bif decide (m.k=1) then .iface p (.agg (a8 m vs)) else .iface o (.agg #[])
noncomputable def bX (s:Sv) (fr:Int) (m:Mg) (now:Int):Hr:=bif sy m then iq s fr m now else bif decide (m.k=1) then ⟨s,iU s fr m,0⟩ else ⟨u5,[],1⟩
section
variable {s:Sv} {fr:Int} {m:Mg} {now:Int}
theorem i8 (h:sy m=true) (hr:cN m=true):cr m=true:=by
 unfold sy at h
 simp only [Bool.or_eq_true,decide_eq_true_eq] at h
 exact dD.2 ⟨hr,h⟩
theorem lA (hr:cN m=true):jY m=(sy m || decide (m.k=1)):=by
 unfold jY
 cases h:sy m with
 |true=>rw [i8 h hr,Bool.or_true,Bool.true_or]
 |false=>
  have:cr m=false:=by
   cases ha:cr m with
   |false=>rfl
   |true=>
    have:=(dD.1 ha).2
    unfold sy at h
    simp only [Bool.or_eq_false_iff,decide_eq_false_iff_not] at h
    omega
  rw [this,Bool.or_false,Bool.false_or]
end
theorem Gj {l:List Tg} (h:bp l=true) (now:Int):t2 l now=xx l now:=by unfold t2;rw [h];rfl
theorem tB (m:Mg) (v:Value):(a8 m v).extract 0 (0+71)=a8 m v:=by
 rw [Nat.zero_add,← aF m v,Array.extract_size]
def l3 (v:Value):Value:=match v with|.slice p n c=>.slice p n c|_=>aM
theorem uC (v:Value):(l3 v).oneCell'=true:=by cases v<;>rfl
theorem Az {w:World} {v:Value} {sz n:Nat} {xs:List Value} (h:bK w v sz n xs):l3 v=v:=by
 obtain ⟨a,c,rfl⟩:=h.len;rfl
section
variable {m:Mg}
end
def Jl:List (List Value):=[A7.flatten]
section
variable {P:Program} {ρ:Operand→Value} {d:Option Tmp} {ty:TypeId} {pos:String} {af:Array Edge} {g:Option (Nat × Bool)} {x y:Operand} {t:TypeId}
theorem gf {m:Mg} {v:Value} (S:Stt P t Jl) (hx:ρ x=.agg (a8 m v)):aD P ⟨d,.build t #[(0,x)],ty,pos,af,g⟩ ρ (.agg (a8 m v)):=by
 have:=aW (P:=P) (ρ:=ρ) (d:=d) (ty:=ty) (pos:=pos) (af:=af) (g:=g) (parts:=#[(0,x)]) S [(0,.agg (a8 m v))] (by simp [hx]) (fun j u hm=>by
  simp only [List.mem_cons,Prod.mk.injEq,List.not_mem_nil,or_false] at hm
  obtain ⟨rfl,rfl⟩:=hm
  exact ⟨_,rfl,by show (a8 m v).size=_;rw [aF];rfl⟩) (D:=(a8 m v).toList) (by
   show (a8 m v).toList++[]=_
   rw [List.append_nil])
 simpa using this
theorem pn (S:Stt P t []):aD P ⟨d,.build t #[],ty,pos,af,g⟩ ρ (.agg #[]):=
 aW (P:=P) (ρ:=ρ) (d:=d) (ty:=ty) (pos:=pos) (af:=af) (g:=g) (parts:=#[]) S [] (by simp) (fun i v hm=>by simp at hm) (D:=[]) rfl
theorem eQ {n:Int} {m:Mg} {v:Value} (S:Stt P t JQ) (hx:ρ x=.int .i64 n) (hy:ρ y=.agg (a8 m v)):aD P ⟨d,.build t #[(0,x),(1,y)],ty,pos,af,g⟩ ρ (.agg (dy n m v aN)):=by
 have:=aW (P:=P) (ρ:=ρ) (d:=d) (ty:=ty) (pos:=pos) (af:=af) (g:=g) (parts:=#[(0,x),(1,y)]) S [(0,.int .i64 n),(1,.agg (a8 m v))] (by simp [hx,hy]) (fun j u hm=>by
  simp only [List.mem_cons,Prod.mk.injEq,List.not_mem_nil,or_false] at hm
  rcases hm with ⟨rfl,rfl⟩|⟨rfl,rfl⟩
  ·exact ⟨_,rfl,rfl⟩
  ·exact ⟨_,rfl,by show (a8 m v).size=_;rw [aF];rfl⟩) (D:=Bw n m v aN) (by
   show [Value.int .i64 n]++((a8 m v).toList++(xT.flatten++[]))=_
   rw [List.append_nil,← iQ];rfl)
 exact this
end
def Lc (w:World) (sv:Sv) (vt:Value) (T:List Tg):bY:=fun v w'=>∃ p ks,v=.agg (aC sv.no sv.sec p)∧St w [.grp ks fun w9=>cK w9 vt sv.tb→cK w9 p T] w'
def Kw (w:World) (vs:Value) (l:List cw) (L:List Se):bY:=fun v w'=>∃ K ks,cW K=L∧St w [.grp ks fun w9=>eg w9 vs l→bK w9 v 139 K.length (aU K)∧lN K w9] w'
section
variable {w w':World} {vt vs:Value} {sv:Sv} {l:List cw} {H:Hr} {N M:TypeId} {e:Int} {ks:List Nat} {T:List Tg} {x:Se} {L:List Se}
theorem mC (w:World):bK w aM 139 ([]:List S2).length (aU []):=⟨rfl,.inl ⟨rfl,rfl⟩⟩
theorem y9 (hH:H=⟨sv,[],e⟩) (s:St w [] w'):rQ w vt vs sv.tb l H (.tuple #[.agg (aC sv.no sv.sec vt),aM,.int .i64 e]) w':=by
 subst hH
 exact ⟨vt,aM,[],[],rfl,rfl,s.grp0 fun w9 a _=>⟨a,mC _,kE w9⟩⟩
theorem BQ {u a:Value} (hH:H=⟨sv,[x],0⟩) (s:St w [.sl u N 139 1 (aU [(x,a)]),.grp ks fun w9=>eg w9 vs l→eg w9 a x.2.1.l] w'):rQ w vt vs sv.tb l H (.tuple #[.agg (aC sv.no sv.sec vt),u,.int .i64 0]) w':=by
 subst hH
 obtain ⟨kn,s⟩:=s.grp1 (S':=fun w9=>cK w9 vt sv.tb→eg w9 vs l→cK w9 vt sv.tb∧bK w9 u 139 [(x,a)].length (aU [(x,a)])∧lN [(x,a)] w9) (fun w9 h hs b c=>⟨b,h,oD (hs c)⟩)
 exact ⟨vt,u,[(x,a)],kn,rfl,rfl,s⟩
theorem BG {u p:Value} (hH:H=⟨⟨sv.no,sv.sec,T⟩,[x],e⟩) (hx:x.2.1.l=[]) (s:St w [.sl u N 139 1 (aU [(x,aM)]),.grp ks fun w9=>cK w9 vt sv.tb→cK w9 p T] w'):rQ w vt vs sv.tb l H (.tuple #[.agg (aC sv.no sv.sec p),u,.int .i64 e]) w':=by
 subst hH
 obtain ⟨kn,s⟩:=s.grp1 (S':=fun w9=>cK w9 vt sv.tb→eg w9 vs l→cK w9 p T∧bK w9 u 139 [(x,aM)].length (aU [(x,aM)])∧lN [(x,aM)] w9) (fun w9 h hs b _=>⟨hs b,h,oD (kO w9 hx rfl)⟩)
 exact ⟨p,u,[(x,aM)],kn,rfl,rfl,s⟩
theorem Bf {p:Value} (hH:H=⟨⟨sv.no,sv.sec,T⟩,[],e⟩) (s:St w [.grp ks fun w9=>cK w9 vt sv.tb→cK w9 p T] w'):rQ w vt vs sv.tb l H (.tuple #[.agg (aC sv.no sv.sec p),aM,.int .i64 e]) w':=by
 subst hH
 exact ⟨p,aM,[],ks,rfl,rfl,s.weak fun w9 h b _=>⟨h b,mC _,kE w9⟩⟩
theorem C4 {u:Value} {K:List S2} (hH:H=⟨sv,L,0⟩) (s:St w [.grp ks fun w9=>cW K=L∧(eg w9 vs l→bK w9 u 139 K.length (aU K)∧lN K w9)] w'):rQ w vt vs sv.tb l H (.tuple #[.agg (aC sv.no sv.sec vt),u,.int .i64 0]) w':=by
 subst hH
 exact ⟨vt,u,K,ks,rfl,(s.getG 0 rfl).1,s.weak fun w9 h b c=>⟨b,h.2 c⟩⟩
theorem po {v:Value} (hH:H=⟨u5,[],1⟩) (hv:v=.tuple #[.agg (aC 0 ByteArray.empty aM),aM,.int .i64 1]) {tb:List Tg} (s:St w [] w'):rQ w vt vs tb l H v w':=by
 subst hH;subst hv
 exact ⟨aM,aM,[],[],rfl,rfl,s.grp0 fun w9 _ _=>⟨cI _,mC _,kE w9⟩⟩
end
def By (sv:Sv) (fr:Int) (m:Mg) (now:Int):Prop:=bO sv=true∧cN m=true∧0≤fr∧fr≤31∧0≤now∧now≤1099511627776
section
variable {w w':World} {vt vs:Value} {sv:Sv} {fr now:Int} {m:Mg} {N M:TypeId} {ks:List Nat}
theorem yV (h:By sv fr m now):jE sv fr m now=jY m:=by
 obtain ⟨h1,h2,h3,h4,h5,h6⟩:=h
 unfold jE
 rw [h1,h2,decide_eq_true h3,decide_eq_true h4,decide_eq_true h5,decide_eq_true h6];rfl
theorem oB (h:By sv fr m now):bp (bN sv now).tb=true:=(dq.1 (nb h.1 now)).2.2.2
theorem Ha (h:By sv fr m now) (h1:(bX (bN sv now) fr m now).e=1):jj sv fr m now=⟨u5,[],1⟩:=by
 have hb:jY m=false:=by
  rw [lA h.2.1]
  unfold bX at h1
  cases hc:sy m with
  |true=>rw [hc] at h1;exact absurd h1 (uG (s0:=sv) (oB h) (i8 hc h.2.1) h.2.2.2.2.1).1
  |false=>
   rw [hc,cond_false] at h1
   cases hd:decide (m.k=1) with
   |true=>rw [hd] at h1;exact absurd (show (0:Int)=1 from h1) (by decide)
   |false=>rfl
 exact wj ((yV h).trans hb)
theorem zg (h:By sv fr m now) (h1:¬ (bX (bN sv now) fr m now).e=1):((bX (bN sv now) fr m now).e=0→jj sv fr m now=bX (bN sv now) fr m now)∧(¬ (bX (bN sv now) fr m now).e=0→jj sv fr m now=⟨sv,[],(bX (bN sv now) fr m now).e⟩):=by
 cases hc:sy m with
 |true=>
  have hb:jE sv fr m now=true:=by rw [yV h,lA h.2.1,hc];rfl
  have hk:¬ m.k=1:=fun e=>by unfold sy at hc;rw [e] at hc;simp at hc
  have e9:bX (bN sv now) fr m now=iq (bN sv now) fr m now:=by unfold bX;rw [hc];rfl
  rw [e9,uK hb hk]
  obtain ⟨_,_,a,b⟩:=uG (s0:=sv) (fr:=fr) (oB h) (i8 hc h.2.1) h.2.2.2.2.1
  exact ⟨a,b⟩
 |false=>
  cases hd:decide (m.k=1) with
  |true=>
   have hb:jE sv fr m now=true:=by rw [yV h,lA h.2.1,hd,Bool.or_true]
   have e9:bX (bN sv now) fr m now=⟨bN sv now,iU (bN sv now) fr m,0⟩:=by unfold bX;rw [hc,hd];rfl
   rw [e9,zG hb (of_decide_eq_true hd)]
   exact ⟨fun _=>rfl,fun x=>absurd rfl x⟩
  |false=>exact absurd (by unfold bX;rw [hc,hd];rfl) h1
theorem fm (hb:jE sv fr m now=false) (s:St w [] w'):rQ w vt vs sv.tb m.l (jj sv fr m now) (.tuple #[.agg (aC 0 ByteArray.empty aM),aM,.int .i64 1]) w':=po (wj hb) rfl s
theorem HR (h:By sv fr m now) (h1:(bX (bN sv now) fr m now).e=1) (s:St w [] w'):rQ w vt vs sv.tb m.l (jj sv fr m now) (.tuple #[.agg (aC 0 ByteArray.empty aM),aM,.int .i64 (bX (bN sv now) fr m now).e]) w':=po (Ha h h1) (by rw [h1]) s
theorem It {p:Value} (h:By sv fr m now) (h1:¬ (bX (bN sv now) fr m now).e=1) (h0:¬ (bX (bN sv now) fr m now).e=0) (s:St w [.sl p N 67 sv.tb.length (aA sv.tb)] w'):rQ w vt vs sv.tb m.l (jj sv fr m now) (.tuple #[.agg (aC sv.no sv.sec p),aM,.int .i64 (bX (bN sv now) fr m now).e]) w':=by
 rw [(zg h h1).2 h0]
 obtain ⟨kn,s⟩:=((s.grp0 (S:=fun _=>True) (fun _=>trivial)).perm (List.Perm.swap ..)).grp1 (S':=fun w9=>cK w9 vt sv.tb→eg w9 vs m.l→cK w9 p sv.tb∧bK w9 aM 139 ([]:List S2).length (aU [])∧lN [] w9) (fun w9 a _ _ _=>⟨a,mC _,kE w9⟩)
 exact ⟨p,aM,[],kn,rfl,rfl,s⟩
theorem Hw {p u:Value} {K:List S2} (h:By sv fr m now) (h0:(bX (bN sv now) fr m now).e=0)
 (s:St w [.grp ks fun w9=>cW K=(bX (bN sv now) fr m now).l∧(cK w9 vt sv.tb→eg w9 vs m.l→cK w9 p (bX (bN sv now) fr m now).s.tb∧bK w9 u 139 K.length (aU K)∧lN K w9)] w'):
 rQ w vt vs sv.tb m.l (jj sv fr m now) (.tuple #[.agg (aC (bX (bN sv now) fr m now).s.no (bX (bN sv now) fr m now).s.sec p),u,.int .i64 0]) w':=by
 rw [(zg h (by rw [h0];decide)).1 h0,← h0]
 exact ⟨p,u,K,ks,rfl,(s.getG 0 rfl).1,s.weak fun w9 a=>a.2⟩
end
def j7 (x:S2):Bool:=decide (x.1.2.1.k=7)
theorem HT {K:List S2} {k:Nat} (hk:k<K.length) (h:j7 (K.getD k nH)=true):decide (0≤((k:Nat):Int))=K.any j7:=by
 rw [decide_eq_true (by omega),List.any_eq_true.2 ⟨_,FP hk,h⟩]
theorem Hd {K:List S2} (h:∀ i,i<K.length→j7 (K.getD i nH)=false):decide ((0:Int) ≤ -1)=K.any j7:=by
 rw [decide_eq_false (by decide)]
 refine(List.any_eq_false.2 fun x hx=>?_).symm
 obtain ⟨i,hi,rfl⟩:=List.mem_iff_getElem.1 hx
 rw [JX hi,h i hi];decide
def K7 (K:List S2):bY:=fun v _=>∃ r:Int,v=.int .i64 r∧decide (0≤r)=K.any j7
theorem EE {fr:Int} {p:Pk} {R:List Ot} (h3:∀ o∈R,o.k=1∨o.k=2∨o.k=3):(jI fr p R).any (fun x=>decide (x.2.1.k=7))=R.any (gT fr):=by
 unfold jI
 rw [List.any_flatMap]
 induction R with
 |nil=>rfl
 |cons o R ih=>
  rw [List.any_cons,List.any_cons,ih fun o h=>h3 o (List.mem_cons_of_mem _ h)]
  congr 1
  have hk:=h3 o List.mem_cons_self
  unfold iT gT
  by_cases k1:o.k=1
  ·rw [decide_eq_true k1,decide_eq_false (by omega:¬ o.k=3)];rfl
  ·by_cases k2:o.k=2
   ·rw [decide_eq_false k1,decide_eq_true k2,decide_eq_false (by omega:¬ o.k=3)]
    cases decide ((bo o.p).1=2)<;>rfl
   ·rw [decide_eq_false k1,decide_eq_false k2,decide_eq_true (by omega:o.k=3)]
    cases decide (o.y=6)<;>cases decide (16≤fr)<;>rfl
theorem yr {fr:Int} {t:List Tg} {p:Pk} {KS:List S2} (h:cW KS=jI fr p (cO t p)):KS.any j7=(cO t p).any (gT fr):=by
 rw [← EE fun o ho=>oO ho,← h]
 unfold cW
 rw [List.any_map];rfl
def fK (e:cw):Int:=bif decide (e.1=2) then 16+e.2.2 else -1
section
variable {fr:Int} {p:Pk} {o:Ot}
theorem J7 (h:decide (o.k=1)=false) (h2:decide (o.k=2)=true):iT fr p o=[(fK (bo o.p),bZ o.p,o.t)]∧gT fr o=false:=by
 unfold fK
 cases h3:decide ((bo o.p).1=2) with
 |true=>exact JV h h2 h3
 |false=>exact I4 h h2 h3
end
section
variable {w w':World} {sv:Sv} {fr:Int} {m:Mg} {K:List O2} {KS:List S2} {u uo vs:Value} {N:TypeId} {ks:List Nat}
theorem EG (hK:eL K=cO sv.tb (ce m)) (h:cW KS=jI fr (ce m) ((eL K).take K.length)) (h0:decide (16≤fr)=true) (h1:decide ((bo (ce m)).1=1)=true) (h2:KS.any j7=false):cW (KS++[((fr,iS (f3 (ce m)) sv.no,aN),aM)])=iU sv fr m:=by
 refine Hx hK h h0 h1 ?_
 rw [← gG K,List.take_length,hK] at h ⊢
 rw [← yr h];exact h2
theorem sM (hK:eL K=cO sv.tb (ce m)) (h:cW KS=jI fr (ce m) ((eL K).take K.length)) (h0:(decide (16≤fr) && (decide ((bo (ce m)).1=1) && !KS.any j7))=false):cW KS=iU sv fr m:=by
 refine IA hK h ?_
 rw [← gG K,List.take_length,hK] at h ⊢
 rw [← yr h];exact h0
theorem mI (hKS:cW KS=iU sv fr m) (hrs:∀ w9,ny K w9→lN KS w9) (s:St w [.sl u N 139 KS.length (aU KS),.grp ks fun w9=>eg w9 vs (ce m).1→xS w9 uo K] w'):Kw w vs m.l (iU sv fr m) u w':=by
 obtain ⟨kn,s⟩:=s.grp1 (S':=fun w9=>eg w9 vs m.l→bK w9 u 139 KS.length (aU KS)∧lN KS w9) (fun w9 h hs c=>⟨h,hrs w9 (hs c).2⟩)
 exact ⟨KS,kn,hKS,s⟩
theorem Bb {now:Int} (h:¬ By sv fr m now):jE sv fr m now=false:=by
 cases e:jE sv fr m now
 ·rfl
 ·obtain ⟨a,b,c,d,e,f,_⟩:=sw.1 e
  exact absurd ⟨a,b,c,d,e,f⟩ h
end
theorem oK {l tb:List Tg} (ht:bp tb=true) (hl:∀ x∈l,er x=true) (k:Nat):bp (eT l tb k).1=true:=by
 induction k with
 |zero=>exact ht
 |succ k ih=>
  rcases Nat.lt_or_ge k l.length with g|g
  ·cases h:decide ((cP (eT l tb k).1 (l.getD k aN)).length≤32)
   ·rw [vk g h];exact ih
   ·rw [wo g h];exact dK.2 (tN (dK.1 ih) (hl _ (fC g)) (of_decide_eq_true h))
  ·have e:eT l tb (k+1)=eT l tb k:=by unfold eT;rw [List.take_of_length_le g,List.take_of_length_le (by omega)]
   rw [e];exact ih
section
variable {w w':World} {vt vh:Value} {sv:Sv} {l:List Tg} {a b:Id} {ks:List Nat}
theorem vD (h:bO sv=false∨(bO sv=true∧bp l=false)) (s:St w [] w'):JG w sv vt l vh (.tuple #[.agg (aC 0 ByteArray.empty aM),.int .i64 0,.int .i64 1]) w':=by
 obtain ⟨e1,e2,e3⟩:=h.elim (fun h=>Ib l h) (fun h=>GP h.1 h.2)
 refine ⟨aM,[],?_,s.grp0 fun w9 _ _=>?_⟩
 ·rw [e1,e2,e3];rfl
 ·rw [e2];exact cI _
theorem F5 {p:Value} {n:Int} (h:bO sv=true) (hl:bp l=true) (hn:n=((eT l sv.tb l.length).2:Int)) (s:St w [.grp ks fun w9=>cK w9 vt sv.tb→cK w9 p (eT l sv.tb l.length).1] w'):JG w sv vt l vh (.tuple #[.agg (aC sv.no sv.sec p),.int .i64 n,.int .i64 0]) w':=by
 obtain ⟨e1,e2,e3⟩:=HO h hl
 subst hn
 rw [qj] at s ⊢
 refine ⟨p,ks,?_,s.weak fun w9 hh c _=>?_⟩
 ·rw [e1,e2,e3]
 ·rw [e2];exact hh c
theorem CM (h:bO sv=false) (s:St w [] w'):Jm w sv vt a b (.tuple #[.agg (aC 0 ByteArray.empty aM),aM,.int .i64 1]) w':=by
 obtain ⟨e1,e2,e3⟩:=HP a b h
 refine ⟨aM,aM,[],?_,s.grp0 fun w9 _=>?_⟩
 ·rw [e1,e2];rfl
 ·rw [e2,e3];exact ⟨cI _,cI _⟩
theorem F9 {p q:Value} (h:bO sv=true) (s:St w [.grp ks fun w9=>cK w9 vt sv.tb→cK w9 q (A9 sv.tb a b true)∧cK w9 p (A9 sv.tb a b false)] w'):Jm w sv vt a b (.tuple #[.agg (aC sv.no sv.sec p),q,.int .i64 0]) w':=by
 obtain ⟨e1,e2,e3⟩:=GN a b h
 have ht:=(dq.1 h).2.2.2
 have y:∀ c,A9 sv.tb a b c=pY sv.tb a b c:=fun c=>by unfold A9;rw [ht];rfl
 refine ⟨p,q,ks,?_,s.weak fun w9 hh c=>?_⟩
 ·rw [e1,e2]
 ·rw [e2,e3]
  have h9:=hh c
  rw [y,y] at h9
  exact ⟨h9.2,h9.1⟩
end
end Go.Proofs.YtobfeflheaobiaaGreatDoor
