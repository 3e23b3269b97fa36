/- What is judged of messages about triggers; no Go in it. -/
import Derived.Test.YtobfeflheaobiaaGreatDoorWr
set_option linter.unusedVariables false
set_option linter.unusedSimpArgs false
set_option linter.unusedSectionVars false
namespace Go.Proofs.YtobfeflheaobiaaGreatDoor
open Go.RowKit
def cr (m:Mg):Bool:=cN m && (decide (m.k=2) || (decide (m.k=4) || decide (m.k=6)))
def D8 (s:ByteArray) (m:Mg):ByteArray:=zk s m.i m.t.2.2.toNat
def FJ (s:ByteArray) (m:Mg):Mg:=⟨3,m.i,m.t,[],0,D8 s m,⟨#[]⟩⟩
def db (s:ByteArray) (m:Mg):Int:=bif decide (m.t.1=1) then (bif decide (m.k=2) && iC m.i m.t.2.1 then 2 else 4) else bif decide (m.k=2) then 1 else bif decide (m.o=D8 s m) then (bif decide (m.k=4) then 2 else 3) else 4
def dW (s:ByteArray) (m:Mg):Mg:=bif !decide (m.t.1=1) && decide (m.k=2) then FJ s m else mZ
def wX (s:ByteArray) (m:Mg):Int:=bif cr m then (bif decide (s.size≤64) then 0 else 2) else 1
def Gl (s:ByteArray) (m:Mg):Int:=bif decide (wX s m=0) then db s m else 0
def Bi (s:ByteArray) (m:Mg):Mg:=bif decide (wX s m=0) then dW s m else mZ
def f7 (m:Mg) (now:Int):Tg:=(m.i,m.t,min (now+m.n) 1099511627776)
def wa (m:Mg) (now:Int):Bool:=cr m && (!decide (m.k=6) && (decide (0≤now) && decide (now≤1099511627776)))
def GQ (m:Mg) (now:Int):Int:=bif wa m now then 0 else 1
def G8 (m:Mg) (now:Int):Tg:=bif wa m now then f7 m now else aN
theorem dD {m:Mg}:cr m=true↔cN m=true∧(m.k=2∨m.k=4∨m.k=6):=by
 unfold cr
 rw [Bool.and_eq_true,Bool.or_eq_true,Bool.or_eq_true,decide_eq_true_eq,decide_eq_true_eq,decide_eq_true_eq]
theorem gN {m:Mg} (h:cr m=true):eR m.t=true∧m.l=[]∧m.d=⟨#[]⟩∧(m.k=2→0≤m.n∧m.n≤1099511627776∧m.o=⟨#[]⟩)∧(m.k=4→0≤m.n∧m.n≤1099511627776∧m.o.size=16)∧(m.k=6→m.n=0∧m.o.size=16):=by
 obtain ⟨hr,hk⟩:=dD.1 h
 obtain ⟨_,_,h2,h3,h4,h5,h6⟩:=l4 hr
 rcases hk with e|e|e
 all_goals
  unfold c2 at h2;unfold c3 at h3;unfold c4 at h4;unfold c5 at h5;unfold c6 at h6
  rw [e] at h2 h3 h4 h5 h6
  simp [qm,qt,pH,tL,uj] at h2 h3 h4 h5 h6
  simp [h2,h3,h4,h5,h6,e]
theorem qP {k:Int} {i:Id} {t:cw} {n:Int} {o:ByteArray} (ht:eR t=true) (h:(k=2∧0≤n∧n≤1099511627776∧o=⟨#[]⟩)∨(k=4∧0≤n∧n≤1099511627776∧o.size=16)∨(k=6∧n=0∧o.size=16)):cr ⟨k,i,t,[],n,o,⟨#[]⟩⟩=true:=by
 refine dD.2 ⟨?_,?_⟩
 ·rcases h with ⟨rfl,h1,h2,h3⟩|⟨rfl,h1,h2,h3⟩|⟨rfl,h1,h3⟩
  all_goals
   unfold cN c1 c2 c3 c4 c5 c6
   simp [xW,rD,qm,qt,pH,tL,uj,ht,h1,h3]
  all_goals assumption
 ·rcases h with ⟨rfl,_⟩|⟨rfl,_⟩|⟨rfl,_⟩
  ·exact .inl rfl
  ·exact .inr (.inl rfl)
  ·exact .inr (.inr rfl)
theorem tF {t:cw} (h:eR t=true):((t.2.2.toNat:Nat):Int)=t.2.2∧t.2.2.toNat<16:=by
 rcases (kB t).1 h with ⟨_,g⟩|⟨_,_,g1,g2⟩
 ·rw [g];exact ⟨rfl,by decide⟩
 ·omega
theorem D7 {s:ByteArray} {m:Mg} (h:cr m=true) (hs:s.size≤64):wX s m=0∧Gl s m=db s m∧Bi s m=dW s m:=by
 have e:wX s m=0:=by unfold wX;rw [h,decide_eq_true hs];rfl
 refine ⟨e,?_,?_⟩
 ·unfold Gl;rw [e];rfl
 ·unfold Bi;rw [e];rfl
theorem DU {s:ByteArray} {m:Mg} (h:cr m=false):wX s m=1∧Gl s m=0∧Bi s m=mZ:=by
 have e:wX s m=1:=by unfold wX;rw [h];rfl
 refine ⟨e,?_,?_⟩
 ·unfold Gl;rw [e];rfl
 ·unfold Bi;rw [e];rfl
theorem BZ {s:ByteArray} {m:Mg} (h:cr m=true) (hs:¬ s.size≤64):wX s m=2∧Gl s m=0∧Bi s m=mZ:=by
 have e:wX s m=2:=by unfold wX;rw [h,decide_eq_false hs];rfl
 refine ⟨e,?_,?_⟩
 ·unfold Gl;rw [e];rfl
 ·unfold Bi;rw [e];rfl
theorem CD (m:Mg) (v:Value):(a8 m v).extract 34 (34+32)=aw m.t.2.1:=lO (by
 rw [fM,show (34:Nat)=33+1 from rfl,List.drop_succ_cons,show (33:Nat)=32+1 from rfl,← List.drop_drop,List.drop_left' (iA _),dP,List.cons_append,List.drop_succ_cons,List.drop_zero,List.append_assoc,List.take_left' (iA _)])
theorem wd (m:Mg) (v:Value):(a8 m v)[66]? = some (.int .i64 m.t.2.2):=by
 rw [← Array.getElem?_toList,fM,show (66:Nat)=65+1 from rfl,List.getElem?_cons_succ,List.getElem?_append_right (by rw [iA];omega),iA,List.getElem?_append_left (by rw [wY];omega)]
 have:=df m.t
 rw [← Array.getElem?_toList] at this
 exact this
theorem vB:List.replicate 32 (Value.int .u8 0)=(aw 0#256).toList:=by rw [eY];rfl
section
variable {P:Program} {ρ:Operand→Value} {d:Option Tmp} {ty:TypeId} {pos:String} {af:Array Edge} {g:Option (Nat × Bool)} {y0 y1 y2 y3 y4 y5 y6:Operand} {t:TypeId}
theorem n7 {k:Int} {e:cw} {n:Int} (S:Stt P t A7) (h0:ρ y0=.int .i64 k) (h2:ρ y2=.agg (bc e)) (h4:ρ y4=.int .i64 n):aD P ⟨d,.build t #[(0,y0),(2,y2),(4,y4)],ty,pos,af,g⟩ ρ (.agg (a8 ⟨k,0#256,e,[],n,⟨#[]⟩,⟨#[]⟩⟩ aM)):=by
 have:=aW (P:=P) (ρ:=ρ) (d:=d) (ty:=ty) (pos:=pos) (af:=af) (g:=g) (parts:=#[(0,y0),(2,y2),(4,y4)]) S [(0,.int .i64 k),(2,.agg (bc e)),(4,.int .i64 n)] (by simp [h0,h2,h4]) (fun j u hm=>by
  simp only [List.mem_cons,Prod.mk.injEq,List.not_mem_nil,or_false] at hm
  rcases hm with ⟨rfl,rfl⟩|⟨rfl,rfl⟩|⟨rfl,rfl⟩
  ·exact ⟨_,rfl,rfl⟩
  ·exact ⟨_,rfl,by show (bc _).size=_;rw [aK];rfl⟩
  ·exact ⟨_,rfl,rfl⟩) (D:=(a8 ⟨k,0#256,e,[],n,⟨#[]⟩,⟨#[]⟩⟩ aM).toList) (by
   show [Value.int .i64 k]++(List.replicate 32 (Value.int .u8 0)++((bc e).toList++([Value.slice none 0 0]++([Value.int .i64 n]++([Value.string ⟨#[]⟩]++([Value.string ⟨#[]⟩]++[]))))))=_
   rw [vB];rfl)
 exact this
theorem nP {k:Int} {i:Id} {e:cw} {o:ByteArray} (S:Stt P t A7) (h0:ρ y0=.int .i64 k) (h1:ρ y1=.agg (aw i)) (h2:ρ y2=.agg (bc e)) (h5:ρ y5=.string o):aD P ⟨d,.build t #[(0,y0),(1,y1),(2,y2),(5,y5)],ty,pos,af,g⟩ ρ (.agg (a8 ⟨k,i,e,[],0,o,⟨#[]⟩⟩ aM)):=by
 have:=aW (P:=P) (ρ:=ρ) (d:=d) (ty:=ty) (pos:=pos) (af:=af) (g:=g) (parts:=#[(0,y0),(1,y1),(2,y2),(5,y5)]) S [(0,.int .i64 k),(1,.agg (aw i)),(2,.agg (bc e)),(5,.string o)] (by simp [h0,h1,h2,h5]) (fun j u hm=>by
  simp only [List.mem_cons,Prod.mk.injEq,List.not_mem_nil,or_false] at hm
  rcases hm with ⟨rfl,rfl⟩|⟨rfl,rfl⟩|⟨rfl,rfl⟩|⟨rfl,rfl⟩
  ·exact ⟨_,rfl,rfl⟩
  ·exact ⟨_,rfl,by show (aw _).size=_;rw [am];rfl⟩
  ·exact ⟨_,rfl,by show (bc _).size=_;rw [aK];rfl⟩
  ·exact ⟨_,rfl,rfl⟩) (D:=(a8 ⟨k,i,e,[],0,o,⟨#[]⟩⟩ aM).toList) (by
   show [Value.int .i64 k]++((aw i).toList++((bc e).toList++([Value.slice none 0 0]++([Value.int .i64 0]++([Value.string o]++([Value.string ⟨#[]⟩]++[]))))))=_
   rfl)
 exact this
theorem nD {l:List cw} {v:Value} (hv:v.cells.size=1) (hc:v.cells.toList=[v]) {k:Int} {n:Int} {b:ByteArray} (S:Stt P t A7) (h0:ρ y0=.int .i64 k) (h3:ρ y3=v) (h4:ρ y4=.int .i64 n) (h6:ρ y6=.string b):aD P ⟨d,.build t #[(0,y0),(3,y3),(4,y4),(6,y6)],ty,pos,af,g⟩ ρ (.agg (a8 ⟨k,0#256,(0,0#256,0),l,n,⟨#[]⟩,b⟩ v)):=by
 have:=aW (P:=P) (ρ:=ρ) (d:=d) (ty:=ty) (pos:=pos) (af:=af) (g:=g) (parts:=#[(0,y0),(3,y3),(4,y4),(6,y6)]) S [(0,.int .i64 k),(3,v),(4,.int .i64 n),(6,.string b)] (by simp [h0,h3,h4,h6]) (fun j u hm=>by
  simp only [List.mem_cons,Prod.mk.injEq,List.not_mem_nil,or_false] at hm
  rcases hm with ⟨rfl,rfl⟩|⟨rfl,rfl⟩|⟨rfl,rfl⟩|⟨rfl,rfl⟩
  ·exact ⟨_,rfl,rfl⟩
  ·exact ⟨_,rfl,hv⟩
  ·exact ⟨_,rfl,rfl⟩
  ·exact ⟨_,rfl,rfl⟩) (D:=(a8 ⟨k,0#256,(0,0#256,0),l,n,⟨#[]⟩,b⟩ v).toList) (by
   show [Value.int .i64 k]++(List.replicate 32 (Value.int .u8 0)++((Value.int .i64 0::(List.replicate 32 (Value.int .u8 0)++[Value.int .i64 0]))++(v.cells.toList++([Value.int .i64 n]++([Value.string ⟨#[]⟩]++([Value.string b]++[]))))))=_
   rw [JR,vB,hc];rfl)
 exact this
theorem n5 {k:Int} {i:Id} {e:cw} (S:Stt P t A7) (h0:ρ y0=.int .i64 k) (h1:ρ y1=.agg (aw i)) (h2:ρ y2=.agg (bc e)):aD P ⟨d,.build t #[(0,y0),(1,y1),(2,y2)],ty,pos,af,g⟩ ρ (.agg (a8 ⟨k,i,e,[],0,⟨#[]⟩,⟨#[]⟩⟩ aM)):=by
 have:=aW (P:=P) (ρ:=ρ) (d:=d) (ty:=ty) (pos:=pos) (af:=af) (g:=g) (parts:=#[(0,y0),(1,y1),(2,y2)]) S [(0,.int .i64 k),(1,.agg (aw i)),(2,.agg (bc e))] (by simp [h0,h1,h2]) (fun j u hm=>by
  simp only [List.mem_cons,Prod.mk.injEq,List.not_mem_nil,or_false] at hm
  rcases hm with ⟨rfl,rfl⟩|⟨rfl,rfl⟩|⟨rfl,rfl⟩
  ·exact ⟨_,rfl,rfl⟩
  ·exact ⟨_,rfl,by show (aw _).size=_;rw [am];rfl⟩
  ·exact ⟨_,rfl,by show (bc _).size=_;rw [aK];rfl⟩) (D:=(a8 ⟨k,i,e,[],0,⟨#[]⟩,⟨#[]⟩⟩ aM).toList) (by
   show [Value.int .i64 k]++((aw i).toList++((bc e).toList++([Value.slice none 0 0]++([Value.int .i64 0]++([Value.string ⟨#[]⟩]++([Value.string ⟨#[]⟩]++[]))))))=_
   rfl)
 exact this
theorem n8 {k:Int} {i:Id} {n:Int} (S:Stt P t A7) (h0:ρ y0=.int .i64 k) (h1:ρ y1=.agg (aw i)) (h4:ρ y4=.int .i64 n):aD P ⟨d,.build t #[(0,y0),(1,y1),(4,y4)],ty,pos,af,g⟩ ρ (.agg (a8 ⟨k,i,(0,0#256,0),[],n,⟨#[]⟩,⟨#[]⟩⟩ aM)):=by
 have:=aW (P:=P) (ρ:=ρ) (d:=d) (ty:=ty) (pos:=pos) (af:=af) (g:=g) (parts:=#[(0,y0),(1,y1),(4,y4)]) S [(0,.int .i64 k),(1,.agg (aw i)),(4,.int .i64 n)] (by simp [h0,h1,h4]) (fun j u hm=>by
  simp only [List.mem_cons,Prod.mk.injEq,List.not_mem_nil,or_false] at hm
  rcases hm with ⟨rfl,rfl⟩|⟨rfl,rfl⟩|⟨rfl,rfl⟩
  ·exact ⟨_,rfl,rfl⟩
  ·exact ⟨_,rfl,by show (aw _).size=_;rw [am];rfl⟩
  ·exact ⟨_,rfl,rfl⟩) (D:=(a8 ⟨k,i,(0,0#256,0),[],n,⟨#[]⟩,⟨#[]⟩⟩ aM).toList) (by
   show [Value.int .i64 k]++((aw i).toList++((Value.int .i64 0::(List.replicate 32 (Value.int .u8 0)++[Value.int .i64 0]))++([Value.slice none 0 0]++([Value.int .i64 n]++([Value.string ⟨#[]⟩]++([Value.string ⟨#[]⟩]++[]))))))=_
   rw [JR];rfl)
 exact this
end
section
variable {P:Program} {ρ:Operand→Value} {d:Option Tmp} {ty:TypeId} {pos:String} {af:Array Edge} {g:Option (Nat × Bool)} {x y:Operand} {t:TypeId}
end
def Kt (w:World) (vs:Value) (m a:Mg) (k e:Int):bY:=fun v w'=>∃ u ks,v=.tuple #[.int .i64 k,.agg (a8 a u),.int .i64 e]∧St w [.grp ks fun w9=>eg w9 vs m.l→eg w9 u a.l] w'
theorem Fu (s:ByteArray) (m:Mg):(dW s m).l=[]∧(Bi s m).l=[]:=by
 have h:(dW s m).l=[]:=by unfold dW;cases !decide (m.t.1=1) && decide (m.k=2)<;>rfl
 refine ⟨h,?_⟩
 unfold Bi;cases decide (wX s m=0)
 ·rfl
 ·exact h
theorem kO (w:World) {v:Value} {l:List cw} (h:l=[]) (hv:v=aM):eg w v l:=by subst h;subst hv;exact eN w
def IC:Mg:=⟨2,0#256,(2,0#256,3),[],5,⟨#[]⟩,⟨#[]⟩⟩
theorem sH {m:Mg} {now:Int} (h:wa m now=false):GQ m now=1∧G8 m now=aN:=by unfold GQ G8;rw [h];exact ⟨rfl,rfl⟩
theorem Gi {m:Mg} {now:Int} (h:wa m now=true):GQ m now=0∧G8 m now=f7 m now:=by unfold GQ G8;rw [h];exact ⟨rfl,rfl⟩
theorem GJ {m:Mg} (now:Int) (h:cr m=false):wa m now=false:=by unfold wa;rw [h];rfl
theorem GK {m:Mg} {now:Int} (h:decide (now<0)=true):wa m now=false:=by unfold wa;rw [decide_eq_false (show ¬ 0≤now by have:=of_decide_eq_true h;omega)];simp
theorem Iq {m:Mg} {now:Int} (h:decide (1099511627776<now)=true):wa m now=false:=by unfold wa;rw [decide_eq_false (show ¬ now≤1099511627776 by have:=of_decide_eq_true h;omega)];simp
theorem Es {m:Mg} {now:Int} (h:cr m=true) (h1:decide (m.k=6)=false) (h2:decide (now<0)=false) (h3:decide (1099511627776<now)=false):wa m now=true:=by
 unfold wa;rw [h,h1,decide_eq_true (show 0≤now by have:=of_decide_eq_false h2;omega),decide_eq_true (show now≤1099511627776 by have:=of_decide_eq_false h3;omega)];rfl
theorem pL {m:Mg} (h:cr m=true) (h1:decide (m.k=6)=false):0≤m.n∧m.n≤1099511627776:=by
 have ht:=gN h
 rcases (dD.1 h).2 with e|e|e
 ·exact ⟨(ht.2.2.2.1 e).1,(ht.2.2.2.1 e).2.1⟩
 ·exact ⟨(ht.2.2.2.2.1 e).1,(ht.2.2.2.2.1 e).2.1⟩
 ·exact absurd e (of_decide_eq_false h1)
theorem Fb {s:ByteArray} {m:Mg} (hk:m.k=2) (ht:m.t.1=2):db s m=1∧dW s m=FJ s m:=by
 have h1:decide (m.t.1=1)=false:=by rw [ht];rfl
 have h2:decide (m.k=2)=true:=by rw [hk];rfl
 refine ⟨?_,?_⟩
 ·unfold db;rw [h1,h2];rfl
 ·unfold dW;rw [h1,h2];rfl
theorem FA {s:ByteArray} {m:Mg} (hk:m.k=2) (he:eR m.t=true) (ht:¬ m.t.1=2):db s m=(bif iC m.i m.t.2.1 then 2 else 4)∧dW s m=mZ:=by
 have h1:decide (m.t.1=1)=true:=decide_eq_true (by rcases (kB m.t).1 he with h|h<;>omega)
 have h2:decide (m.k=2)=true:=by rw [hk];rfl
 refine ⟨?_,?_⟩
 ·unfold db;rw [h1,h2,Bool.true_and];rfl
 ·unfold dW;rw [h1];rfl
theorem ED {s:ByteArray} {m:Mg} {x:Int} (hk:(m.k=4∧x=2)∨(m.k=6∧x=3)) (he:eR m.t=true):db s m=(bif decide (m.t.1=2) && decide (m.o=D8 s m) then x else 4)∧dW s m=mZ:=by
 have h2:decide (m.k=2)=false:=decide_eq_false (by omega)
 refine ⟨?_,?_⟩
 ·unfold db
  rw [h2,Bool.false_and]
  have h9:decide (m.t.1=1) = !decide (m.t.1=2):=by
   rcases (kB m.t).1 he with h|h<;>rw [h.1]<;>rfl
  rw [h9]
  cases decide (m.t.1=2) with
  |false=>rfl
  |true=>
   rw [Bool.true_and]
   rcases hk with ⟨h,rfl⟩|⟨h,rfl⟩<;>rw [h]<;>cases decide (m.o=D8 s m)<;>rfl
 ·unfold dW
  rw [h2,Bool.and_false];rfl
def oy (k:Int):Bool:=decide (k=2) || (decide (k=4) || decide (k=6))
theorem jc {m:Mg}:cr m=(cN m && oy m.k):=rfl
theorem vU {k:Int}:oy k=true↔k=2∨k=4∨k=6:=by
 unfold oy
 rw [Bool.or_eq_true,Bool.or_eq_true,decide_eq_true_eq,decide_eq_true_eq,decide_eq_true_eq]
theorem Ij {m:Mg} (now:Int) (h2:decide (m.k=2)=false) (h4:decide (m.k=4)=false):wa m now=false:=by
 unfold wa
 cases ha:cr m with
 |false=>rfl
 |true=>
  have h6:m.k=6:=by
   have:=of_decide_eq_false h2
   have:=of_decide_eq_false h4
   rcases (dD.1 ha).2 with e|e|e<;>omega
  rw [decide_eq_true h6];rfl
theorem mK {w w':World} {vs:Value} {m a:Mg} {k e:Int} (hl:a.l=[]) (hE:Ext w w'):Kt w vs m a k e (.tuple #[.int .i64 k,.agg (a8 a aM),.int .i64 e]) w':=
 ⟨aM,[],rfl,((St.start w).more hE).grp0 fun w9 _=>by rw [hl];exact eN w9⟩
section
variable {P:Program} {a:Act} {w w0:World} {N:Nat} {L:List (Nat × Value)} {B:List Own} {fn:Func} {t:TypeId}
theorem g7 {p q:Tmp} {T:bY} {b n:Nat} {C:Array Value} {u:TypeId} {V:Value} (i:Nat) (hres:fn.results=#[.tmp q,.cell p t]) (h:Sl N a L) (s:St w0 B w) (hr:Row P t n) (hq:lk L q=some V) (hp:lk L p=some (.pointer (some ⟨b,0,none⟩))) (hi:B[i]? = some (.blk b (.cells C u))) (hn:C.size=n)
 (hT:T (.tuple #[V,.agg C]) w):bodyPost P fn (bT w0 T) .ret a w:=by
 refine ⟨h.defers,.tuple #[V,.agg C],?_,_,rfl,hT,s.ext⟩
 have hp':a.tmps[p]?.getD undef=.pointer (some ⟨b,0,none⟩):=by simpa using h.holds p _ hp
 have hq':a.tmps[q]?.getD undef=V:=by simpa using h.holds q _ hq
 simp [results,hres,hp',hq',asAddr,dJ hr w b C u (0,0) (s.get i hi) hn]
end
def kP (v:Value):Value:=match v with|.tuple a=>a.getD 0 undef|_=>undef
def eS:Value→Nat→Nat
 |.func _ _ caps,j=>zK (caps.getD j undef)
 |_,_=>0
def lX:Value→Nat
 |.map (some b)=>b
 |_=>0
def vj (f:FuncId) (u v V:Value) (w:World):Prop:=∃ a b,V=.func (.func f) #[] #[.pointer (some ⟨a,0,none⟩),.pointer (some ⟨b,0,none⟩)]∧dB w a #[u]∧dB w b #[v]
theorem CJ {w0 w:World} {f:FuncId} {a b:Nat} {u v V:Value} {t t':TypeId} {B:List Own} (s:St w0 (.blk a (.cells #[u] t)::.blk b (.cells #[v] t')::B) w) (hV:V=.func (.func f) #[] #[.pointer (some ⟨a,0,none⟩),.pointer (some ⟨b,0,none⟩)]):
 St w0 (.grp [eS V 0,eS V 1] (vj f u v V)::B) w:=by
 subst hV
 exact(St.group (A:=[.blk a (.cells #[u] t),.blk b (.cells #[v] t')]) (B:=B) s).weak fun w9 h9=>
  ⟨a,b,rfl,⟨t,(0,0),h9 (.blk a (.cells #[u] t)) (by simp)⟩,⟨t',(0,0),h9 (.blk b (.cells #[v] t')) (by simp)⟩⟩
def CL (es:Array MapEntry) (g:Int→Option Value):Prop:=
 (∀ e∈es.toList,∃ n:Int,e.key=.int .i64 n)∧∀ k:Int,(∀ V,g k=some V→∃ j,Instr.findNow (.int .i64) (.int .i64 k) es.toList 0=some (some (j,V)))∧(g k=none→Instr.findNow (.int .i64) (.int .i64 k) es.toList 0=some none)
theorem rq (k n:Int) (V:Value) (c:Nat):∀ (l:List MapEntry) (i:Nat),(∀ e∈l,∃ n:Int,e.key=.int .i64 n)→
 Instr.findNow (.int .i64) (.int .i64 k) (l++[{key:=.int .i64 n,val:=V,born:=c}]) i=(match Instr.findNow (.int .i64) (.int .i64 k) l i with|some none=>if k=n then some (some (i+l.length,V)) else some none|r=>r)
 |[],i,_=>by rw [List.nil_append,cT];rfl
 |e::l,i,h=>by
  obtain ⟨m,hm⟩:=h e List.mem_cons_self
  obtain ⟨ek,ev,eb⟩:=e
  simp only at hm
  subst hm
  rw [List.cons_append,cT,cT,rq k n V c l (i+1) fun x hx=>h x (List.mem_cons_of_mem _ hx)]
  by_cases hk:k=m
  ·rw [if_pos hk,if_pos hk]
  ·rw [if_neg hk,if_neg hk,List.length_cons,show i+1+l.length=i+(l.length+1) by omega]
theorem rK:CL #[] fun _=>none:=⟨by simp,fun k=>⟨fun V h=>(nomatch h),fun _=>rfl⟩⟩
theorem xw {es:Array MapEntry} {g g':Int→Option Value} {n:Int} {V:Value} (c:Nat) (h:CL es g) (hn:g n=none) (hg:∀ k,g' k=if k=n then some V else g k):CL (es.push {key:=.int .i64 n,val:=V,born:=c}) g':=by
 refine ⟨fun e he=>?_,fun k=>?_⟩
 ·rw [Array.toList_push] at he
  rcases List.mem_append.1 he with he|he
  ·exact h.1 e he
  ·rw [List.mem_singleton.1 he];exact ⟨n,rfl⟩
 ·rw [Array.toList_push,rq k n V c es.toList 0 h.1,hg k]
  obtain ⟨h1,h2⟩:=h.2 k
  by_cases hk:k=n
  ·subst hk
   rw [if_pos rfl,h2 hn]
   refine ⟨fun U hU=>?_,fun h9=>by cases h9⟩
   cases hU
   exact ⟨0+es.toList.length,by simp⟩
  ·rw [if_neg hk]
   refine ⟨fun U hU=>?_,fun h9=>?_⟩
   ·obtain ⟨j,hj⟩:=h1 U hU
    exact ⟨j,by rw [hj]⟩
   ·rw [h2 h9];simp [hk]
def tj (mb:Nat) (g:Int→Option Value) (w:World):Prop:=∃ es c,w.heap[mb]? = some (.map es c)∧CL es g
def gM (b2 b4 b6:Bool) (f2 f4 f6:Value) (k:Int):Option Value:=if k=2 then (bif b2 then some f2 else none) else if k=4 then (bif b4 then some f4 else none) else if k=6 then (bif b6 then some f6 else none) else none
def nW (l0 b2 b4 b6:Bool) (v0 f2 f4 f6:Value):Own:=.grp (bif l0 then [lX v0] else []) (fun w9=>l0=true→tj (lX v0) (gM b2 b4 b6 f2 f4 f6) w9)
theorem St.unblk {w0 w:World} {b:Nat} {S:World→Prop} {o:Obj} {B:List Own} (s:St w0 (.grp [b] S::B) w) (h:w.heap[b]? = some o):St w0 (.blk b o::B) w:=by
 have hpw:=List.pairwise_cons.1 s.nd
 refine ⟨s.ext,fun p hp=>?_,fun p hp k hk=>?_,List.pairwise_cons.2 ⟨fun q hq k hk=>?_,hpw.2⟩⟩
 ·rcases List.mem_cons.1 hp with rfl|hp
  ·exact h
  ·exact s.has p (List.mem_cons_of_mem _ hp)
 ·rcases List.mem_cons.1 hp with rfl|hp
  ·rw [Own.at_blk] at hk;subst hk
   exact s.own _ List.mem_cons_self k (by simp [Own.at,Own.ks])
  ·exact s.own p (List.mem_cons_of_mem _ hp) k hk
 ·rw [Own.at_blk] at hk;subst hk
  exact hpw.1 q hq k (by simp [Own.at,Own.ks])
theorem St.reblk {w0 w:World} {b:Nat} {S:World→Prop} {o:Obj} {B:List Own} (s:St w0 (.blk b o::B) w) (h:∀ w9:World,w9.heap[b]? = some o→S w9):St w0 (.grp [b] S::B) w:=
 (St.group (A:=[.blk b o]) (B:=B) s).weak fun w9 h9=>h w9 (h9 (.blk b o) (by simp))
section
variable {P:Program} {ops:Array Oper} {Q:Act→World→Prop} {l:List Oper} {a:Act} {w w0:World} {N:Nat} {L:List (Nat × Value)} {Df:List Deferred} {B:List Own} {d:Tmp} {ty:TypeId} {pos:String} {af:Array Edge} {x y z:Operand} {t:TypeId}
theorem t8 {b2 b4 b6:Bool} {v0 f2 f4 f6:Value} (h:Sl N a L Df) (s:St w0 (nW false b2 b4 b6 v0 f2 f4 f6::B) w) (hd:Nat.blt d N=true) (k:∀ a' w' V,V=.map (some (lX V))→Sl N a' ((d,V)::L) Df→St w0 (nW true false false false V f2 f4 f6::B) w'→bE P ops Q l a' w'):
 bE P ops Q (⟨some d,.makeMap t none,ty,pos,af,none⟩::l) a w:=
 ov h s hd fun a' w' b h' s'=>k a' w' _ rfl h' <|
  have s2:St w0 (.grp [b] (fun w9=>true=true→tj b (gM false false false f2 f4 f6) w9)::.grp [] (fun w9=>false=true→tj (lX v0) (gM b2 b4 b6 f2 f4 f6) w9)::B) w':=
   St.reblk s' fun w9 h9 _=>⟨#[],0,h9,rK.1,fun k9=>by
    have e:gM false false false f2 f4 f6 k9=none:=by unfold gM;repeat' split<;>try rfl
    rw [e];exact rK.2 k9⟩
  (s2.merge (S:=fun w9=>true=true→tj b (gM false false false f2 f4 f6) w9) fun w9 h1 _=>h1)
theorem lL {kt et:TypeId} {b2 b4 b6 c2 c4 c6:Bool} {v0 f2 f4 f6 V:Value} (n:Int) (h:Sl N a L Df) (s:St w0 (nW true b2 b4 b6 v0 f2 f4 f6::B) w) (ht:P.underlying t=some (.map kt et)) (hk:P.underlying kt=some (.int .i64))
 (hx:dw L x=some (.map (some (lX v0)))) (hy:dw L y=some (.int .i64 n)) (hz:dw L z=some V) (hn:gM b2 b4 b6 f2 f4 f6 n=none) (hg:∀ k,gM c2 c4 c6 f2 f4 f6 k=if k=n then some V else gM b2 b4 b6 f2 f4 f6 k)
 (k:∀ w',St w0 (nW true c2 c4 c6 v0 f2 f4 f6::B) w'→bE P ops Q l a w'):bE P ops Q (⟨none,.insert t x y z,ty,pos,af,none⟩::l) a w:=by
 obtain ⟨es,c,hh,he⟩:=s.getG 0 rfl rfl
 have s1:St w0 (.blk (lX v0) (.map es c)::B) w:=St.unblk (S:=fun w9=>true=true→tj (lX v0) (gM b2 b4 b6 f2 f4 f6) w9) s hh
 refine d4 (K:=.int .i64 n) 0 h s1 ht hk rfl hx hy hz rfl ((he.2 n).2 hn) fun w' s'=>k w' ?_
 exact St.reblk s' fun w9 h9 _=>⟨_,_,h9,xw c he hn hg⟩
theorem Dt {kt et:TypeId} {mb:Nat} {g:Int→Option Value} {K:Int} {Z:Value} (h:Sl N a L Df) (hM:tj mb g w) (ht:P.underlying t=some (.map kt et)) (hk:P.underlying kt=some (.int .i64)) (hZ:(P.info? et).bind (·.zero)=some Z)
 (hx:dw L x=some (.map (some mb))) (hy:dw L y=some (.int .i64 K)) (hd:Nat.blt d N=true)
 (k:∀ a',Sl N a' ((d,.tuple #[(g K).getD Z,.bool (g K).isSome])::L) Df→bE P ops Q l a' w):bE P ops Q (⟨some d,.lookup t x y true,ty,pos,af,none⟩::l) a w:=by
 obtain ⟨es,c,hb,he⟩:=hM
 have hf:(∃ j,Instr.findNow (.int .i64) (.int .i64 K) es.toList 0=some (some (j,(g K).getD Z))∧(g K).isSome=true)∨(Instr.findNow (.int .i64) (.int .i64 K) es.toList 0=some none∧(g K).getD Z=Z∧(g K).isSome=false):=by
  cases hg:g K with
  |some V=>
   obtain ⟨j,hj⟩:=(he.2 K).1 V hg
   exact .inl ⟨j,hj,rfl⟩
  |none=>exact .inr ⟨(he.2 K).2 hg,rfl,rfl⟩
 generalize (g K).getD Z=V at hf k
 generalize (g K).isSome=ok at hf k
 have hkd:MapKept.IsKey (.int .i64) (.int .i64 K):=rfl
 have hzr:(zeroValue et).run P w=.ok Z w:=by
  cases hi9:P.info? et with
  |none=>simp [hi9] at hZ
  |some info=>simp [hi9] at hZ;simp [zeroValue,typeInfo,hi9,hZ,Result.andThen]
 have hrun:(Instr.lookup t (.map (some mb)) (.int .i64 K) true).run P w=.ok (.tuple #[V,.bool ok]) w:=by
  rcases hf with ⟨j,hf,rfl⟩|⟨hf,rfl,rfl⟩
  ·simp [Instr.lookup,run_underlying ht,MapKept.run_getObj_map hb,MapKept.run_checkKey hk hkd,MapKept.run_findKey hk hf,Result.andThen]
  ·simp [Instr.lookup,run_underlying ht,MapKept.run_getObj_map hb,MapKept.run_checkKey hk hkd,MapKept.run_findKey hk hf,hzr,Result.andThen]
 refine cB h (R:=fun v w'=>v=.tuple #[V,.bool ok]∧w'=w) ?_ hd fun a' w' v ⟨hv,hw⟩ h'=>by subst hv;subst hw;exact k _ h'
 simp [cf,execOp,h.ev hx,h.ev hy,hrun,Result.andThen]
end
theorem JC (b4 b6:Bool) (f2 f4 f6:Value):∀ k:Int,gM true b4 b6 f2 f4 f6 k=if k=2 then some f2 else gM false b4 b6 f2 f4 f6 k:=fun k=>by
 unfold gM
 by_cases h:k=2
 ·rw [if_pos h,if_pos h];rfl
 ·rw [if_neg h,if_neg h,if_neg h]
theorem Jo (b2 b6:Bool) (f2 f4 f6:Value):∀ k:Int,gM b2 true b6 f2 f4 f6 k=if k=4 then some f4 else gM b2 false b6 f2 f4 f6 k:=fun k=>by
 unfold gM
 by_cases h:k=4
 ·subst h;rfl
 ·rw [if_neg h,if_neg h,if_neg h]
theorem Jv (b2 b4:Bool) (f2 f4 f6:Value):∀ k:Int,gM b2 b4 true f2 f4 f6 k=if k=6 then some f6 else gM b2 b4 false f2 f4 f6 k:=fun k=>by
 unfold gM
 by_cases h:k=6
 ·subst h;rfl
 ·rw [if_neg h,if_neg h,if_neg h]
theorem HJ {f2 f4 f6:Value} (k:Int) (h:oy k=false):gM true true true f2 f4 f6 k=none:=by
 have h9:¬ (k=2∨k=4∨k=6):=fun h8=>by rw [vU.2 h8] at h;cases h
 unfold gM
 rw [if_neg (by omega),if_neg (by omega),if_neg (by omega)]
theorem rB {cls:List (List Nat)} {xc:Nat→Bool} (hlz:∀ k,xc k=true→∀ j∈cls.getD k [],xc j=true) (i k:Nat) (hlo:xc i=false) (hm:(cls.getD k []).contains i=true):xc k=false:=by
 cases hb:xc k with
 |false=>rfl
 |true=>have:=hlz k hb i (List.contains_iff_mem.1 hm);rw [hlo] at this;cases this
def HA (P:Program) (w9:World) (V:Value) (sx:ByteArray) (k:Int):Prop:=∃ (f:FuncId) (caps:List Value),V=.func (.func f) #[] caps.toArray∧Fnc P f∧∀ (m:Mg) (vs:Value),m.k=k→cr m=true→sx.size≤64→eg w9 vs m.l→dB w9 0 (wF gF 8)→dB w9 1 (wF gv 64)→
 Calls P f ([Value.agg (a8 m vs)]++caps).toArray w9 (bT w9 (is (.tuple #[.int .i64 (db sx m),.agg (a8 (dW sx m) aM)])))
def I1 (P:Program) (w9:World) (mb:Nat) (g:Int→Option Value) (sx:ByteArray):Prop:=tj mb g w9∧(∀ k,oy k=false→g k=none)∧∀ k,oy k=true→∃ V,g k=some V∧HA P w9 V sx k
def Kx (P:Program) (sx:ByteArray) (w:World):bY:=fun v w'=>∃ mb ks g,v=.map (some mb)∧St w [.grp ks (fun w9=>I1 P w9 mb g sx)] w'
theorem Be {P:Program} {w9:World} {mb:Nat} {g:Int→Option Value} {sx:ByteArray} (h:I1 P w9 mb g sx) (k:Int):(g k).isSome=oy k:=by
 cases hb:oy k with
 |false=>rw [h.2.1 k hb];rfl
 |true=>obtain ⟨V,hV,_⟩:=h.2.2 k hb;rw [hV];rfl
theorem EA {P:Program} {w9:World} {mb:Nat} {g:Int→Option Value} {sx:ByteArray} {Z:Value} {k:Int} (h:I1 P w9 mb g sx) (hk:oy k=true):HA P w9 ((g k).getD Z) sx k:=by
 obtain ⟨V,hV,hc⟩:=h.2.2 k hk
 rw [hV];exact hc
end Go.Proofs.YtobfeflheaobiaaGreatDoor
