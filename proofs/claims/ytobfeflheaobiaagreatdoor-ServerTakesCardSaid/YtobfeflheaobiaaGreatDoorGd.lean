/- What is judged of messages about triggers; no Go in it. -/
import Derived.Test.YtobfeflheaobiaaGreatDoorWr
set_option linter.unusedVariables false
set_option linter.unusedSimpArgs false
set_option linter.unusedSectionVars false
namespace Go.Proofs.YtobfeflheaobiaaGreatDoor
open Go.RowKit
def cC (m:Mg):Bool:=bD m && (decide (m.k=2) || (decide (m.k=4) || decide (m.k=6)))
def Az (s:ByteArray) (m:Mg):ByteArray:=yh s m.i m.t.2.2.toNat
def xJ (s:ByteArray) (m:Mg):Mg:=⟨3,m.i,m.t,[],0,Az s m,⟨#[]⟩⟩
def cD (s:ByteArray) (m:Mg):Int:=bif decide (m.t.1=1) then (bif decide (m.k=2) && gV m.i m.t.2.1 then 2 else 4) else bif decide (m.k=2) then 1 else bif decide (m.o=Az s m) then (bif decide (m.k=4) then 2 else 3) else 4
def dC (s:ByteArray) (m:Mg):Mg:=bif !decide (m.t.1=1) && decide (m.k=2) then xJ s m else mZ
def A4 (s:ByteArray) (m:Mg):Int:=bif cC m then (bif decide (s.size≤64) then 0 else 2) else 1
def IV (s:ByteArray) (m:Mg):Int:=bif decide (A4 s m=0) then cD s m else 0
def E7 (s:ByteArray) (m:Mg):Mg:=bif decide (A4 s m=0) then dC s m else mZ
def en (m:Mg) (now:Int):Tg:=(m.i,m.t,min (now+m.n) 1099511627776)
def yN (m:Mg) (now:Int):Bool:=cC m && (!decide (m.k=6) && (decide (0≤now) && decide (now≤1099511627776)))
def Mx (m:Mg) (now:Int):Int:=bif yN m now then 0 else 1
def Np (m:Mg) (now:Int):Tg:=bif yN m now then en m now else aW
theorem eM {m:Mg}:cC m=true↔bD m=true∧(m.k=2∨m.k=4∨m.k=6):=by
 unfold cC
 rw [Bool.and_eq_true,Bool.or_eq_true,Bool.or_eq_true,decide_eq_true_eq,decide_eq_true_eq,decide_eq_true_eq]
theorem fP {m:Mg} (h:cC m=true):fK m.t=true∧m.l=[]∧m.d=⟨#[]⟩∧(m.k=2→0≤m.n∧m.n≤1099511627776∧m.o=⟨#[]⟩)∧(m.k=4→0≤m.n∧m.n≤1099511627776∧m.o.size=16)∧(m.k=6→m.n=0∧m.o.size=16):=by
 obtain ⟨hr,hk⟩:=eM.1 h
 obtain ⟨_,_,h2,h3,h4,h5,h6⟩:=eP hr
 rcases hk with e|e|e
 all_goals
  unfold c2 at h2;unfold c3 at h3;unfold c4 at h4;unfold c5 at h5;unfold c6 at h6
  rw [e] at h2 h3 h4 h5 h6
  simp [gH,fI,iu,lz,i6] at h2 h3 h4 h5 h6
  simp [h2,h3,h4,h5,h6,e]
theorem uz {k:Int} {i:Id} {t:cU} {n:Int} {o:ByteArray} (ht:fK t=true) (h:(k=2∧0≤n∧n≤1099511627776∧o=⟨#[]⟩)∨(k=4∧0≤n∧n≤1099511627776∧o.size=16)∨(k=6∧n=0∧o.size=16)):cC ⟨k,i,t,[],n,o,⟨#[]⟩⟩=true:=by
 refine eM.2 ⟨?_,?_⟩
 ·rcases h with ⟨rfl,h1,h2,h3⟩|⟨rfl,h1,h2,h3⟩|⟨rfl,h1,h3⟩
  all_goals
   unfold bD c1 c2 c3 c4 c5 c6
   simp [rq,i5,gH,fI,iu,lz,i6,ht,h1,h3]
  all_goals assumption
 ·rcases h with ⟨rfl,_⟩|⟨rfl,_⟩|⟨rfl,_⟩
  ·exact .inl rfl
  ·exact .inr (.inl rfl)
  ·exact .inr (.inr rfl)
theorem DL (k:vP):(jv k).size=16:=by first|exact ou k|simp [jv]
theorem Fw (s:ByteArray) (m:Mg):(Az s m).size=16:=DL _
theorem oH {t:cU} (h:fK t=true):((t.2.2.toNat:Nat):Int)=t.2.2∧t.2.2.toNat<16:=by
 rcases (np t).1 h with ⟨_,g⟩|⟨_,_,g1,g2⟩
 ·rw [g];exact ⟨rfl,by decide⟩
 ·omega
theorem In {s:ByteArray} {m:Mg} (h:cC m=true) (hs:s.size≤64):A4 s m=0∧IV s m=cD s m∧E7 s m=dC s m:=by
 have e:A4 s m=0:=by unfold A4;rw [h,decide_eq_true hs];rfl
 refine ⟨e,?_,?_⟩
 ·unfold IV;rw [e];rfl
 ·unfold E7;rw [e];rfl
theorem H0 {s:ByteArray} {m:Mg} (h:cC m=false):A4 s m=1∧IV s m=0∧E7 s m=mZ:=by
 have e:A4 s m=1:=by unfold A4;rw [h];rfl
 refine ⟨e,?_,?_⟩
 ·unfold IV;rw [e];rfl
 ·unfold E7;rw [e];rfl
theorem Hv {s:ByteArray} {m:Mg} (h:cC m=true) (hs:¬ s.size≤64):A4 s m=2∧IV s m=0∧E7 s m=mZ:=by
 have e:A4 s m=2:=by unfold A4;rw [h,decide_eq_false hs];rfl
 refine ⟨e,?_,?_⟩
 ·unfold IV;rw [e];rfl
 ·unfold E7;rw [e];rfl
theorem yA (m:Mg) (v:Value):(aP m v).extract 34 (34+32)=aA m.t.2.1:=oF (by
 rw [gk,show (34:Nat)=33+1 from rfl,List.drop_succ_cons,show (33:Nat)=32+1 from rfl,← List.drop_drop,List.drop_left' (jP _),eS,List.cons_append,List.drop_succ_cons,List.drop_zero,List.append_assoc,List.take_left' (jP _)])
theorem pJ (m:Mg) (v:Value):(aP m v)[66]? = some (.int .i64 m.t.2.2):=by
 rw [← Array.getElem?_toList,gk,show (66:Nat)=65+1 from rfl,List.getElem?_cons_succ,List.getElem?_append_right (by rw [jP];omega),jP,List.getElem?_append_left (by rw [ut];omega)]
 have:=dO m.t
 rw [← Array.getElem?_toList] at this
 exact this
theorem zQ:List.replicate 32 (Value.int .u8 0)=(aA 0#256).toList:=by rw [gT];rfl
section
variable {P:Program} {ρ:Operand→Value} {d:Option Tmp} {ty:TypeId} {pos:String} {af:Array Edge} {g:Option (Nat × Bool)} {y0 y1 y2 y3 y4 y5 y6:Operand} {t:TypeId}
theorem rF {k:Int} {e:cU} {n:Int} (S:Stt P t zn) (h0:ρ y0=.int .i64 k) (h2:ρ y2=.agg (bg e)) (h4:ρ y4=.int .i64 n):aM P ⟨d,.build t #[(0,y0),(2,y2),(4,y4)],ty,pos,af,g⟩ ρ (.agg (aP ⟨k,0#256,e,[],n,⟨#[]⟩,⟨#[]⟩⟩ aI)):=by
 have:=bb (P:=P) (ρ:=ρ) (d:=d) (ty:=ty) (pos:=pos) (af:=af) (g:=g) (parts:=#[(0,y0),(2,y2),(4,y4)]) S [(0,.int .i64 k),(2,.agg (bg e)),(4,.int .i64 n)] (by simp [h0,h2,h4]) (fun j u hm=>by
  simp only [List.mem_cons,Prod.mk.injEq,List.not_mem_nil,or_false] at hm
  rcases hm with ⟨rfl,rfl⟩|⟨rfl,rfl⟩|⟨rfl,rfl⟩
  ·exact ⟨_,rfl,rfl⟩
  ·exact ⟨_,rfl,by show (bg _).size=_;rw [aC];rfl⟩
  ·exact ⟨_,rfl,rfl⟩) (D:=(aP ⟨k,0#256,e,[],n,⟨#[]⟩,⟨#[]⟩⟩ aI).toList) (by
   show [Value.int .i64 k]++(List.replicate 32 (Value.int .u8 0)++((bg e).toList++([Value.slice none 0 0]++([Value.int .i64 n]++([Value.string ⟨#[]⟩]++([Value.string ⟨#[]⟩]++[]))))))=_
   rw [zQ];rfl)
 exact this
theorem lx {k:Int} {i:Id} {e:cU} {o:ByteArray} (S:Stt P t zn) (h0:ρ y0=.int .i64 k) (h1:ρ y1=.agg (aA i)) (h2:ρ y2=.agg (bg e)) (h5:ρ y5=.string o):aM P ⟨d,.build t #[(0,y0),(1,y1),(2,y2),(5,y5)],ty,pos,af,g⟩ ρ (.agg (aP ⟨k,i,e,[],0,o,⟨#[]⟩⟩ aI)):=by
 have:=bb (P:=P) (ρ:=ρ) (d:=d) (ty:=ty) (pos:=pos) (af:=af) (g:=g) (parts:=#[(0,y0),(1,y1),(2,y2),(5,y5)]) S [(0,.int .i64 k),(1,.agg (aA i)),(2,.agg (bg e)),(5,.string o)] (by simp [h0,h1,h2,h5]) (fun j u hm=>by
  simp only [List.mem_cons,Prod.mk.injEq,List.not_mem_nil,or_false] at hm
  rcases hm with ⟨rfl,rfl⟩|⟨rfl,rfl⟩|⟨rfl,rfl⟩|⟨rfl,rfl⟩
  ·exact ⟨_,rfl,rfl⟩
  ·exact ⟨_,rfl,by show (aA _).size=_;rw [ai];rfl⟩
  ·exact ⟨_,rfl,by show (bg _).size=_;rw [aC];rfl⟩
  ·exact ⟨_,rfl,rfl⟩) (D:=(aP ⟨k,i,e,[],0,o,⟨#[]⟩⟩ aI).toList) (by
   show [Value.int .i64 k]++((aA i).toList++((bg e).toList++([Value.slice none 0 0]++([Value.int .i64 0]++([Value.string o]++([Value.string ⟨#[]⟩]++[]))))))=_
   rfl)
 exact this
theorem lX {l:List cU} {v:Value} (hv:v.cells.size=1) (hc:v.cells.toList=[v]) {k:Int} {n:Int} {b:ByteArray} (S:Stt P t zn) (h0:ρ y0=.int .i64 k) (h3:ρ y3=v) (h4:ρ y4=.int .i64 n) (h6:ρ y6=.string b):aM P ⟨d,.build t #[(0,y0),(3,y3),(4,y4),(6,y6)],ty,pos,af,g⟩ ρ (.agg (aP ⟨k,0#256,(0,0#256,0),l,n,⟨#[]⟩,b⟩ v)):=by
 have:=bb (P:=P) (ρ:=ρ) (d:=d) (ty:=ty) (pos:=pos) (af:=af) (g:=g) (parts:=#[(0,y0),(3,y3),(4,y4),(6,y6)]) S [(0,.int .i64 k),(3,v),(4,.int .i64 n),(6,.string b)] (by simp [h0,h3,h4,h6]) (fun j u hm=>by
  simp only [List.mem_cons,Prod.mk.injEq,List.not_mem_nil,or_false] at hm
  rcases hm with ⟨rfl,rfl⟩|⟨rfl,rfl⟩|⟨rfl,rfl⟩|⟨rfl,rfl⟩
  ·exact ⟨_,rfl,rfl⟩
  ·exact ⟨_,rfl,hv⟩
  ·exact ⟨_,rfl,rfl⟩
  ·exact ⟨_,rfl,rfl⟩) (D:=(aP ⟨k,0#256,(0,0#256,0),l,n,⟨#[]⟩,b⟩ v).toList) (by
   show [Value.int .i64 k]++(List.replicate 32 (Value.int .u8 0)++((Value.int .i64 0::(List.replicate 32 (Value.int .u8 0)++[Value.int .i64 0]))++(v.cells.toList++([Value.int .i64 n]++([Value.string ⟨#[]⟩]++([Value.string b]++[]))))))=_
   rw [OP,zQ,hc];rfl)
 exact this
theorem mC {k:Int} {i:Id} {e:cU} (S:Stt P t zn) (h0:ρ y0=.int .i64 k) (h1:ρ y1=.agg (aA i)) (h2:ρ y2=.agg (bg e)):aM P ⟨d,.build t #[(0,y0),(1,y1),(2,y2)],ty,pos,af,g⟩ ρ (.agg (aP ⟨k,i,e,[],0,⟨#[]⟩,⟨#[]⟩⟩ aI)):=by
 have:=bb (P:=P) (ρ:=ρ) (d:=d) (ty:=ty) (pos:=pos) (af:=af) (g:=g) (parts:=#[(0,y0),(1,y1),(2,y2)]) S [(0,.int .i64 k),(1,.agg (aA i)),(2,.agg (bg e))] (by simp [h0,h1,h2]) (fun j u hm=>by
  simp only [List.mem_cons,Prod.mk.injEq,List.not_mem_nil,or_false] at hm
  rcases hm with ⟨rfl,rfl⟩|⟨rfl,rfl⟩|⟨rfl,rfl⟩
  ·exact ⟨_,rfl,rfl⟩
  ·exact ⟨_,rfl,by show (aA _).size=_;rw [ai];rfl⟩
  ·exact ⟨_,rfl,by show (bg _).size=_;rw [aC];rfl⟩) (D:=(aP ⟨k,i,e,[],0,⟨#[]⟩,⟨#[]⟩⟩ aI).toList) (by
   show [Value.int .i64 k]++((aA i).toList++((bg e).toList++([Value.slice none 0 0]++([Value.int .i64 0]++([Value.string ⟨#[]⟩]++([Value.string ⟨#[]⟩]++[]))))))=_
   rfl)
 exact this
theorem mI {k:Int} {i:Id} {n:Int} (S:Stt P t zn) (h0:ρ y0=.int .i64 k) (h1:ρ y1=.agg (aA i)) (h4:ρ y4=.int .i64 n):aM P ⟨d,.build t #[(0,y0),(1,y1),(4,y4)],ty,pos,af,g⟩ ρ (.agg (aP ⟨k,i,(0,0#256,0),[],n,⟨#[]⟩,⟨#[]⟩⟩ aI)):=by
 have:=bb (P:=P) (ρ:=ρ) (d:=d) (ty:=ty) (pos:=pos) (af:=af) (g:=g) (parts:=#[(0,y0),(1,y1),(4,y4)]) S [(0,.int .i64 k),(1,.agg (aA i)),(4,.int .i64 n)] (by simp [h0,h1,h4]) (fun j u hm=>by
  simp only [List.mem_cons,Prod.mk.injEq,List.not_mem_nil,or_false] at hm
  rcases hm with ⟨rfl,rfl⟩|⟨rfl,rfl⟩|⟨rfl,rfl⟩
  ·exact ⟨_,rfl,rfl⟩
  ·exact ⟨_,rfl,by show (aA _).size=_;rw [ai];rfl⟩
  ·exact ⟨_,rfl,rfl⟩) (D:=(aP ⟨k,i,(0,0#256,0),[],n,⟨#[]⟩,⟨#[]⟩⟩ aI).toList) (by
   show [Value.int .i64 k]++((aA i).toList++((Value.int .i64 0::(List.replicate 32 (Value.int .u8 0)++[Value.int .i64 0]))++([Value.slice none 0 0]++([Value.int .i64 n]++([Value.string ⟨#[]⟩]++([Value.string ⟨#[]⟩]++[]))))))=_
   rw [OP];rfl)
 exact this
end
def I2 (q:Int) (m:Mg) (v:Value):List Value:=.int .i64 q::(aP m v).toList
def jc (q:Int) (m:Mg) (v:Value):Array Value:=(I2 q m v).toArray
theorem cc (q:Int) (m:Mg) (v:Value):(jc q m v).size=72:=by
 show (I2 q m v).length=72
 unfold I2;rw [List.length_cons,Array.length_toList,ax]
theorem fh {v:Value} (q:Int) (m:Mg) (hv:v.oneCell'=true):∀ u∈(jc q m v).toList,u.oneCell'=true:=fun u hu=>by
 rcases List.mem_cons.1 (show u∈I2 q m v from hu) with rfl|hu
 ·rfl
 ·exact cX m v hv u hu
theorem OB (q:Int) (m:Mg) (v:Value):(jc q m v)[0]? = some (.int .i64 q):=rfl
theorem OR (q:Int) (m:Mg) (v:Value):(jc q m v).extract 1 (1+71)=aP m v:=je _ _ _ _ (by
 show ((aP m v).toList).take 71=_
 rw [List.take_of_length_le (by rw [Array.length_toList,ax];exact Nat.le_refl _)])
def NS:List (List Value):=[[.int .i64 0],zn.flatten]
theorem yk:(aP mZ aI).toList=zn.flatten:=by
 have:aP mZ aI=zn.flatten.toArray:=jH
 rw [this]
theorem Hw:jc 0 mZ aI=NS.flatten.toArray:=by
 unfold jc I2
 rw [yk];rfl
section
variable {P:Program} {ρ:Operand→Value} {d:Option Tmp} {ty:TypeId} {pos:String} {af:Array Edge} {g:Option (Nat × Bool)} {x y:Operand} {t:TypeId}
theorem fB {q:Int} (S:Stt P t NS) (hx:ρ x=.int .i64 q):aM P ⟨d,.build t #[(0,x)],ty,pos,af,g⟩ ρ (.agg (jc q mZ aI)):=by
 have:=bb (P:=P) (ρ:=ρ) (d:=d) (ty:=ty) (pos:=pos) (af:=af) (g:=g) (parts:=#[(0,x)]) S [(0,.int .i64 q)] (by simp [hx]) (fun j u hm=>by
  simp only [List.mem_cons,Prod.mk.injEq,List.not_mem_nil,or_false] at hm
  obtain ⟨rfl,rfl⟩:=hm
  exact ⟨_,rfl,rfl⟩) (D:=I2 q mZ aI) (by
   show [Value.int .i64 q]++(zn.flatten++[])=_
   rw [← yk,List.append_nil];rfl)
 exact this
theorem tO {q:Int} {m:Mg} {v:Value} (S:Stt P t NS) (hx:ρ x=.int .i64 q) (hy:ρ y=.agg (aP m v)):aM P ⟨d,.build t #[(0,x),(1,y)],ty,pos,af,g⟩ ρ (.agg (jc q m v)):=by
 have:=bb (P:=P) (ρ:=ρ) (d:=d) (ty:=ty) (pos:=pos) (af:=af) (g:=g) (parts:=#[(0,x),(1,y)]) S [(0,.int .i64 q),(1,.agg (aP m v))] (by simp [hx,hy]) (fun j u hm=>by
  simp only [List.mem_cons,Prod.mk.injEq,List.not_mem_nil,or_false] at hm
  rcases hm with ⟨rfl,rfl⟩|⟨rfl,rfl⟩
  ·exact ⟨_,rfl,rfl⟩
  ·exact ⟨_,rfl,by show (aP m v).size=_;rw [ax];rfl⟩) (D:=I2 q m v) (by
   show [Value.int .i64 q]++((aP m v).toList++[])=_
   rw [List.append_nil];rfl)
 exact this
end
def O4 (w:World) (vs:Value) (m a:Mg) (k e:Int):cW:=fun v w'=>∃ u ks,v=.tuple #[.int .i64 k,.agg (aP a u),.int .i64 e]∧St w [.grp ks fun w9=>dM w9 vs m.l→dM w9 u a.l] w'
theorem wR (s:ByteArray) (m:Mg):(dC s m).l=[]∧(E7 s m).l=[]:=by
 have h:(dC s m).l=[]:=by unfold dC;cases !decide (m.t.1=1) && decide (m.k=2)<;>rfl
 refine ⟨h,?_⟩
 unfold E7;cases decide (A4 s m=0)
 ·rfl
 ·exact h
theorem fF (w:World) {v:Value} {l:List cU} (h:l=[]) (hv:v=aI):dM w v l:=by subst h;subst hv;exact fk w
def MP:Mg:=⟨2,0#256,(2,0#256,3),[],5,⟨#[]⟩,⟨#[]⟩⟩
theorem wz {m:Mg} {now:Int} (h:yN m now=false):Mx m now=1∧Np m now=aW:=by unfold Mx Np;rw [h];exact ⟨rfl,rfl⟩
theorem KY {m:Mg} {now:Int} (h:yN m now=true):Mx m now=0∧Np m now=en m now:=by unfold Mx Np;rw [h];exact ⟨rfl,rfl⟩
theorem My {m:Mg} (now:Int) (h:cC m=false):yN m now=false:=by unfold yN;rw [h];rfl
theorem Nt {m:Mg} {now:Int} (h:decide (now<0)=true):yN m now=false:=by unfold yN;rw [decide_eq_false (show ¬ 0≤now by have:=of_decide_eq_true h;omega)];simp
theorem LV {m:Mg} {now:Int} (h:decide (1099511627776<now)=true):yN m now=false:=by unfold yN;rw [decide_eq_false (show ¬ now≤1099511627776 by have:=of_decide_eq_true h;omega)];simp
theorem JS {m:Mg} {now:Int} (h:cC m=true) (h1:decide (m.k=6)=false) (h2:decide (now<0)=false) (h3:decide (1099511627776<now)=false):yN m now=true:=by
 unfold yN;rw [h,h1,decide_eq_true (show 0≤now by have:=of_decide_eq_false h2;omega),decide_eq_true (show now≤1099511627776 by have:=of_decide_eq_false h3;omega)];rfl
theorem nF {m:Mg} (h:cC m=true) (h1:decide (m.k=6)=false):0≤m.n∧m.n≤1099511627776:=by
 have ht:=fP h
 rcases (eM.1 h).2 with e|e|e
 ·exact ⟨(ht.2.2.2.1 e).1,(ht.2.2.2.1 e).2.1⟩
 ·exact ⟨(ht.2.2.2.2.1 e).1,(ht.2.2.2.2.1 e).2.1⟩
 ·exact absurd e (of_decide_eq_false h1)
theorem KP {s:ByteArray} {m:Mg} (hk:m.k=2) (ht:m.t.1=2):cD s m=1∧dC s m=xJ s m:=by
 have h1:decide (m.t.1=1)=false:=by rw [ht];rfl
 have h2:decide (m.k=2)=true:=by rw [hk];rfl
 refine ⟨?_,?_⟩
 ·unfold cD;rw [h1,h2];rfl
 ·unfold dC;rw [h1,h2];rfl
theorem IR {s:ByteArray} {m:Mg} (hk:m.k=2) (he:fK m.t=true) (ht:¬ m.t.1=2):cD s m=(bif gV m.i m.t.2.1 then 2 else 4)∧dC s m=mZ:=by
 have h1:decide (m.t.1=1)=true:=decide_eq_true (by rcases (np m.t).1 he with h|h<;>omega)
 have h2:decide (m.k=2)=true:=by rw [hk];rfl
 refine ⟨?_,?_⟩
 ·unfold cD;rw [h1,h2,Bool.true_and];rfl
 ·unfold dC;rw [h1];rfl
theorem JL {s:ByteArray} {m:Mg} {x:Int} (hk:(m.k=4∧x=2)∨(m.k=6∧x=3)) (he:fK m.t=true):cD s m=(bif decide (m.t.1=2) && decide (m.o=Az s m) then x else 4)∧dC s m=mZ:=by
 have h2:decide (m.k=2)=false:=decide_eq_false (by omega)
 refine ⟨?_,?_⟩
 ·unfold cD
  rw [h2,Bool.false_and]
  have h9:decide (m.t.1=1) = !decide (m.t.1=2):=by
   rcases (np m.t).1 he with h|h<;>rw [h.1]<;>rfl
  rw [h9]
  cases decide (m.t.1=2) with
  |false=>rfl
  |true=>
   rw [Bool.true_and]
   rcases hk with ⟨h,rfl⟩|⟨h,rfl⟩<;>rw [h]<;>cases decide (m.o=Az s m)<;>rfl
 ·unfold dC
  rw [h2,Bool.and_false];rfl
def sG (k:Int):Bool:=decide (k=2) || (decide (k=4) || decide (k=6))
theorem mm {m:Mg}:cC m=(bD m && sG m.k):=rfl
theorem yJ {k:Int}:sG k=true↔k=2∨k=4∨k=6:=by
 unfold sG
 rw [Bool.or_eq_true,Bool.or_eq_true,decide_eq_true_eq,decide_eq_true_eq,decide_eq_true_eq]
theorem MY {m:Mg} (now:Int) (h2:decide (m.k=2)=false) (h4:decide (m.k=4)=false):yN m now=false:=by
 unfold yN
 cases ha:cC m with
 |false=>rfl
 |true=>
  have h6:m.k=6:=by
   have:=of_decide_eq_false h2
   have:=of_decide_eq_false h4
   rcases (eM.1 ha).2 with e|e|e<;>omega
  rw [decide_eq_true h6];rfl
theorem py {w w':World} {vs:Value} {m a:Mg} {k e:Int} (hl:a.l=[]) (hE:Ext w w'):O4 w vs m a k e (.tuple #[.int .i64 k,.agg (aP a aI),.int .i64 e]) w':=
 ⟨aI,[],rfl,((St.start w).more hE).grp0 fun w9 _=>by rw [hl];exact fk w9⟩
section
variable {P:Program} {a:Act} {w w0:World} {N:Nat} {L:List (Nat × Value)} {B:List Own} {fn:Func} {t:TypeId}
theorem kV {p q:Tmp} {T:cW} {b n:Nat} {C:Array Value} {u:TypeId} {V:Value} (i:Nat) (hres:fn.results=#[.tmp q,.cell p t]) (h:Sl N a L) (s:St w0 B w) (hr:Row P t n) (hq:lk L q=some V) (hp:lk L p=some (.pointer (some ⟨b,0,none⟩))) (hi:B[i]? = some (.blk b (.cells C u))) (hn:C.size=n)
 (hT:T (.tuple #[V,.agg C]) w):bodyPost P fn (cp w0 T) .ret a w:=by
 refine ⟨h.defers,.tuple #[V,.agg C],?_,_,rfl,hT,s.ext⟩
 have hp':a.tmps[p]?.getD undef=.pointer (some ⟨b,0,none⟩):=by simpa using h.holds p _ hp
 have hq':a.tmps[q]?.getD undef=V:=by simpa using h.holds q _ hq
 simp [results,hres,hp',hq',asAddr,ew hr w b C u (0,0) (s.get i hi) hn]
end
def ed (v:Value):Value:=match v with|.tuple a=>a.getD 0 undef|_=>undef
def gF:Value→Nat→Nat
 |.func _ _ caps,j=>Dz (caps.getD j undef)
 |_,_=>0
def o6:Value→Nat
 |.map (some b)=>b
 |_=>0
def zK (f:FuncId) (u v V:Value) (w:World):Prop:=∃ a b,V=.func (.func f) #[] #[.pointer (some ⟨a,0,none⟩),.pointer (some ⟨b,0,none⟩)]∧ff w a #[u]∧ff w b #[v]
theorem Hn {w0 w:World} {f:FuncId} {a b:Nat} {u v V:Value} {t t':TypeId} {B:List Own} (s:St w0 (.blk a (.cells #[u] t)::.blk b (.cells #[v] t')::B) w) (hV:V=.func (.func f) #[] #[.pointer (some ⟨a,0,none⟩),.pointer (some ⟨b,0,none⟩)]):
 St w0 (.grp [gF V 0,gF V 1] (zK f u v V)::B) w:=by
 subst hV
 exact(St.group (A:=[.blk a (.cells #[u] t),.blk b (.cells #[v] t')]) (B:=B) s).weak fun w9 h9=>
  ⟨a,b,rfl,⟨t,(0,0),h9 (.blk a (.cells #[u] t)) (by simp)⟩,⟨t',(0,0),h9 (.blk b (.cells #[v] t')) (by simp)⟩⟩
def G9 (es:Array MapEntry) (g:Int→Option Value):Prop:=
 (∀ e∈es.toList,∃ n:Int,e.key=.int .i64 n)∧∀ k:Int,(∀ V,g k=some V→∃ j,Instr.findNow (.int .i64) (.int .i64 k) es.toList 0=some (some (j,V)))∧(g k=none→Instr.findNow (.int .i64) (.int .i64 k) es.toList 0=some none)
theorem vK (k n:Int) (V:Value) (c:Nat):∀ (l:List MapEntry) (i:Nat),(∀ e∈l,∃ n:Int,e.key=.int .i64 n)→
 Instr.findNow (.int .i64) (.int .i64 k) (l++[{key:=.int .i64 n,val:=V,born:=c}]) i=(match Instr.findNow (.int .i64) (.int .i64 k) l i with|some none=>if k=n then some (some (i+l.length,V)) else some none|r=>r)
 |[],i,_=>by rw [List.nil_append,d6];rfl
 |e::l,i,h=>by
  obtain ⟨m,hm⟩:=h e List.mem_cons_self
  obtain ⟨ek,ev,eb⟩:=e
  simp only at hm
  subst hm
  rw [List.cons_append,d6,d6,vK k n V c l (i+1) fun x hx=>h x (List.mem_cons_of_mem _ hx)]
  by_cases hk:k=m
  ·rw [if_pos hk,if_pos hk]
  ·rw [if_neg hk,if_neg hk,List.length_cons,show i+1+l.length=i+(l.length+1) by omega]
theorem vg:G9 #[] fun _=>none:=⟨by simp,fun k=>⟨fun V h=>(nomatch h),fun _=>rfl⟩⟩
theorem AO {es:Array MapEntry} {g g':Int→Option Value} {n:Int} {V:Value} (c:Nat) (h:G9 es g) (hn:g n=none) (hg:∀ k,g' k=if k=n then some V else g k):G9 (es.push {key:=.int .i64 n,val:=V,born:=c}) g':=by
 refine ⟨fun e he=>?_,fun k=>?_⟩
 ·rw [Array.toList_push] at he
  rcases List.mem_append.1 he with he|he
  ·exact h.1 e he
  ·rw [List.mem_singleton.1 he];exact ⟨n,rfl⟩
 ·rw [Array.toList_push,vK k n V c es.toList 0 h.1,hg k]
  obtain ⟨h1,h2⟩:=h.2 k
  by_cases hk:k=n
  ·subst hk
   rw [if_pos rfl,h2 hn]
   refine ⟨fun U hU=>?_,fun h9=>by cases h9⟩
   cases hU
   exact ⟨0+es.toList.length,by simp⟩
  ·rw [if_neg hk]
   refine ⟨fun U hU=>?_,fun h9=>?_⟩
   ·obtain ⟨j,hj⟩:=h1 U hU
    exact ⟨j,by rw [hj]⟩
   ·rw [h2 h9];simp [hk]
def xV (mb:Nat) (g:Int→Option Value) (w:World):Prop:=∃ es c,w.heap[mb]? = some (.map es c)∧G9 es g
def gM (b2 b4 b6:Bool) (f2 f4 f6:Value) (k:Int):Option Value:=if k=2 then (bif b2 then some f2 else none) else if k=4 then (bif b4 then some f4 else none) else if k=6 then (bif b6 then some f6 else none) else none
def rp (l0 b2 b4 b6:Bool) (v0 f2 f4 f6:Value):Own:=.grp (bif l0 then [o6 v0] else []) (fun w9=>l0=true→xV (o6 v0) (gM b2 b4 b6 f2 f4 f6) w9)
theorem St.unblk {w0 w:World} {b:Nat} {S:World→Prop} {o:Obj} {B:List Own} (s:St w0 (.grp [b] S::B) w) (h:w.heap[b]? = some o):St w0 (.blk b o::B) w:=by
 have hpw:=List.pairwise_cons.1 s.nd
 refine ⟨s.ext,fun p hp=>?_,fun p hp k hk=>?_,List.pairwise_cons.2 ⟨fun q hq k hk=>?_,hpw.2⟩⟩
 ·rcases List.mem_cons.1 hp with rfl|hp
  ·exact h
  ·exact s.has p (List.mem_cons_of_mem _ hp)
 ·rcases List.mem_cons.1 hp with rfl|hp
  ·rw [Own.at_blk] at hk;subst hk
   exact s.own _ List.mem_cons_self k (by simp [Own.at,Own.ks])
  ·exact s.own p (List.mem_cons_of_mem _ hp) k hk
 ·rw [Own.at_blk] at hk;subst hk
  exact hpw.1 q hq k (by simp [Own.at,Own.ks])
theorem St.reblk {w0 w:World} {b:Nat} {S:World→Prop} {o:Obj} {B:List Own} (s:St w0 (.blk b o::B) w) (h:∀ w9:World,w9.heap[b]? = some o→S w9):St w0 (.grp [b] S::B) w:=
 (St.group (A:=[.blk b o]) (B:=B) s).weak fun w9 h9=>h w9 (h9 (.blk b o) (by simp))
section
variable {P:Program} {ops:Array Oper} {Q:Act→World→Prop} {l:List Oper} {a:Act} {w w0:World} {N:Nat} {L:List (Nat × Value)} {Df:List Deferred} {B:List Own} {d:Tmp} {ty:TypeId} {pos:String} {af:Array Edge} {x y z:Operand} {t:TypeId}
theorem wN {b2 b4 b6:Bool} {v0 f2 f4 f6:Value} (h:Sl N a L Df) (s:St w0 (rp false b2 b4 b6 v0 f2 f4 f6::B) w) (hd:Nat.blt d N=true) (k:∀ a' w' V,V=.map (some (o6 V))→Sl N a' ((d,V)::L) Df→St w0 (rp true false false false V f2 f4 f6::B) w'→bX P ops Q l a' w'):
 bX P ops Q (⟨some d,.makeMap t none,ty,pos,af,none⟩::l) a w:=
 rY h s hd fun a' w' b h' s'=>k a' w' _ rfl h' <|
  have s2:St w0 (.grp [b] (fun w9=>true=true→xV b (gM false false false f2 f4 f6) w9)::.grp [] (fun w9=>false=true→xV (o6 v0) (gM b2 b4 b6 f2 f4 f6) w9)::B) w':=
   St.reblk s' fun w9 h9 _=>⟨#[],0,h9,vg.1,fun k9=>by
    have e:gM false false false f2 f4 f6 k9=none:=by unfold gM;repeat' split<;>try rfl
    rw [e];exact vg.2 k9⟩
  (s2.merge (S:=fun w9=>true=true→xV b (gM false false false f2 f4 f6) w9) fun w9 h1 _=>h1)
theorem oe {kt et:TypeId} {b2 b4 b6 c2 c4 c6:Bool} {v0 f2 f4 f6 V:Value} (n:Int) (h:Sl N a L Df) (s:St w0 (rp true b2 b4 b6 v0 f2 f4 f6::B) w) (ht:P.underlying t=some (.map kt et)) (hk:P.underlying kt=some (.int .i64))
 (hx:eu L x=some (.map (some (o6 v0)))) (hy:eu L y=some (.int .i64 n)) (hz:eu L z=some V) (hn:gM b2 b4 b6 f2 f4 f6 n=none) (hg:∀ k,gM c2 c4 c6 f2 f4 f6 k=if k=n then some V else gM b2 b4 b6 f2 f4 f6 k)
 (k:∀ w',St w0 (rp true c2 c4 c6 v0 f2 f4 f6::B) w'→bX P ops Q l a w'):bX P ops Q (⟨none,.insert t x y z,ty,pos,af,none⟩::l) a w:=by
 obtain ⟨es,c,hh,he⟩:=s.getG 0 rfl rfl
 have s1:St w0 (.blk (o6 v0) (.map es c)::B) w:=St.unblk (S:=fun w9=>true=true→xV (o6 v0) (gM b2 b4 b6 f2 f4 f6) w9) s hh
 refine fv (K:=.int .i64 n) 0 h s1 ht hk rfl hx hy hz rfl ((he.2 n).2 hn) fun w' s'=>k w' ?_
 exact St.reblk s' fun w9 h9 _=>⟨_,_,h9,AO c he hn hg⟩
theorem Gd {kt et:TypeId} {mb:Nat} {g:Int→Option Value} {K:Int} {Z:Value} (h:Sl N a L Df) (hM:xV mb g w) (ht:P.underlying t=some (.map kt et)) (hk:P.underlying kt=some (.int .i64)) (hZ:(P.info? et).bind (·.zero)=some Z)
 (hx:eu L x=some (.map (some mb))) (hy:eu L y=some (.int .i64 K)) (hd:Nat.blt d N=true)
 (k:∀ a',Sl N a' ((d,.tuple #[(g K).getD Z,.bool (g K).isSome])::L) Df→bX P ops Q l a' w):bX P ops Q (⟨some d,.lookup t x y true,ty,pos,af,none⟩::l) a w:=by
 obtain ⟨es,c,hb,he⟩:=hM
 have hf:(∃ j,Instr.findNow (.int .i64) (.int .i64 K) es.toList 0=some (some (j,(g K).getD Z))∧(g K).isSome=true)∨(Instr.findNow (.int .i64) (.int .i64 K) es.toList 0=some none∧(g K).getD Z=Z∧(g K).isSome=false):=by
  cases hg:g K with
  |some V=>
   obtain ⟨j,hj⟩:=(he.2 K).1 V hg
   exact .inl ⟨j,hj,rfl⟩
  |none=>exact .inr ⟨(he.2 K).2 hg,rfl,rfl⟩
 generalize (g K).getD Z=V at hf k
 generalize (g K).isSome=ok at hf k
 have hkd:MapKept.IsKey (.int .i64) (.int .i64 K):=rfl
 have hzr:(zeroValue et).run P w=.ok Z w:=by
  cases hi9:P.info? et with
  |none=>simp [hi9] at hZ
  |some info=>simp [hi9] at hZ;simp [zeroValue,typeInfo,hi9,hZ,Result.andThen]
 have hrun:(Instr.lookup t (.map (some mb)) (.int .i64 K) true).run P w=.ok (.tuple #[V,.bool ok]) w:=by
  rcases hf with ⟨j,hf,rfl⟩|⟨hf,rfl,rfl⟩
  ·simp [Instr.lookup,run_underlying ht,MapKept.run_getObj_map hb,MapKept.run_checkKey hk hkd,MapKept.run_findKey hk hf,Result.andThen]
  ·simp [Instr.lookup,run_underlying ht,MapKept.run_getObj_map hb,MapKept.run_checkKey hk hkd,MapKept.run_findKey hk hf,hzr,Result.andThen]
 refine dw h (R:=fun v w'=>v=.tuple #[V,.bool ok]∧w'=w) ?_ hd fun a' w' v ⟨hv,hw⟩ h'=>by subst hv;subst hw;exact k _ h'
 simp [db,execOp,h.ev hx,h.ev hy,hrun,Result.andThen]
end
theorem OC (b4 b6:Bool) (f2 f4 f6:Value):∀ k:Int,gM true b4 b6 f2 f4 f6 k=if k=2 then some f2 else gM false b4 b6 f2 f4 f6 k:=fun k=>by
 unfold gM
 by_cases h:k=2
 ·rw [if_pos h,if_pos h];rfl
 ·rw [if_neg h,if_neg h,if_neg h]
theorem Og (b2 b6:Bool) (f2 f4 f6:Value):∀ k:Int,gM b2 true b6 f2 f4 f6 k=if k=4 then some f4 else gM b2 false b6 f2 f4 f6 k:=fun k=>by
 unfold gM
 by_cases h:k=4
 ·subst h;rfl
 ·rw [if_neg h,if_neg h,if_neg h]
theorem OF (b2 b4:Bool) (f2 f4 f6:Value):∀ k:Int,gM b2 b4 true f2 f4 f6 k=if k=6 then some f6 else gM b2 b4 false f2 f4 f6 k:=fun k=>by
 unfold gM
 by_cases h:k=6
 ·subst h;rfl
 ·rw [if_neg h,if_neg h,if_neg h]
theorem M5 {f2 f4 f6:Value} (k:Int) (h:sG k=false):gM true true true f2 f4 f6 k=none:=by
 have h9:¬ (k=2∨k=4∨k=6):=fun h8=>by rw [yJ.2 h8] at h;cases h
 unfold gM
 rw [if_neg (by omega),if_neg (by omega),if_neg (by omega)]
theorem ve {cls:List (List Nat)} {At:Nat→Bool} (hlz:∀ k,At k=true→∀ j∈cls.getD k [],At j=true) (i k:Nat) (hlo:At i=false) (hm:(cls.getD k []).contains i=true):At k=false:=by
 cases hb:At k with
 |false=>rfl
 |true=>have:=hlz k hb i (List.contains_iff_mem.1 hm);rw [hlo] at this;cases this
def L1 (P:Program) (w9:World) (V:Value) (sx:ByteArray) (k:Int):Prop:=∃ (f:FuncId) (caps:List Value),V=.func (.func f) #[] caps.toArray∧Fnc P f∧∀ (m:Mg) (vs:Value),m.k=k→cC m=true→sx.size≤64→dM w9 vs m.l→ff w9 0 (wF jp 8)→ff w9 1 (wF iJ 64)→
 Calls P f ([Value.agg (aP m vs)]++caps).toArray w9 (cp w9 (is (.tuple #[.int .i64 (cD sx m),.agg (aP (dC sx m) aI)])))
def N1 (P:Program) (w9:World) (mb:Nat) (g:Int→Option Value) (sx:ByteArray):Prop:=xV mb g w9∧(∀ k,sG k=false→g k=none)∧∀ k,sG k=true→∃ V,g k=some V∧L1 P w9 V sx k
def Ph (P:Program) (sx:ByteArray) (w:World):cW:=fun v w'=>∃ mb ks g,v=.map (some mb)∧St w [.grp ks (fun w9=>N1 P w9 mb g sx)] w'
theorem Fi {P:Program} {w9:World} {mb:Nat} {g:Int→Option Value} {sx:ByteArray} (h:N1 P w9 mb g sx) (k:Int):(g k).isSome=sG k:=by
 cases hb:sG k with
 |false=>rw [h.2.1 k hb];rfl
 |true=>obtain ⟨V,hV,_⟩:=h.2.2 k hb;rw [hV];rfl
theorem JA {P:Program} {w9:World} {mb:Nat} {g:Int→Option Value} {sx:ByteArray} {Z:Value} {k:Int} (h:N1 P w9 mb g sx) (hk:sG k=true):L1 P w9 ((g k).getD Z) sx k:=by
 obtain ⟨V,hV,hc⟩:=h.2.2 k hk
 rw [hV];exact hc
end Go.Proofs.YtobfeflheaobiaaGreatDoor
