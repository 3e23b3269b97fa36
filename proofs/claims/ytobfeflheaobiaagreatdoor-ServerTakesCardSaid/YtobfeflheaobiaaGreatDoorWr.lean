/- Messages: which may be, their parts and bytes; no Go in it. -/
import Derived.Test.YtobfeflheaobiaaGreatDoorSp
set_option linter.unusedVariables false
set_option linter.unusedSimpArgs false
set_option linter.unusedSectionVars false
namespace Go.Proofs.YtobfeflheaobiaaGreatDoor
structure Mg where
 k:Int
 i:Id
 t:cU
 l:List cU
 n:Int
 o:ByteArray
 d:ByteArray
theorem J5 {a b:Mg} (hk:a.k=b.k) (hi:a.i=b.i) (ht:a.t=b.t) (hl:a.l=b.l) (hn:a.n=b.n) (ho:a.o=b.o) (hd:a.d=b.d):a=b:=by
 cases a;cases b;simp_all
def iC (a b:Mg):Bool:=decide (a.k=b.k) && decide (a.i=b.i) && decide (a.t=b.t) && decide (a.l=b.l) && decide (a.n=b.n) && decide (a.o=b.o) && decide (a.d=b.d)
theorem qC (a b:Mg):iC a b=true↔a=b:=by
 unfold iC
 simp only [Bool.and_eq_true,decide_eq_true_eq]
 constructor
 ·rintro ⟨⟨⟨⟨⟨⟨h1,h2⟩,h3⟩,h4⟩,h5⟩,h6⟩,h7⟩;exact J5 h1 h2 h3 h4 h5 h6 h7
 ·rintro rfl;simp
def mZ:Mg:=⟨0,0#256,(0,0#256,0),[],0,⟨#[]⟩,⟨#[]⟩⟩
def aP (m:Mg) (v:Value):Array Value:=(Value.int .i64 m.k::((aA m.i).toList++((bg m.t).toList++[v,.int .i64 m.n,.string m.o,.string m.d]))).toArray
theorem jP (a:Id):(aA a).toList.length=32:=by rw [Array.length_toList,ai]
theorem ut (e:cU):(bg e).toList.length=34:=by rw [Array.length_toList,aC]
@[simp] theorem ax (m:Mg) (v:Value):(aP m v).size=71:=by
  simp only [aP,List.size_toArray,List.length_cons,List.length_append,jP,ut,List.length_nil]
theorem gk (m:Mg) (v:Value):(aP m v).toList=Value.int .i64 m.k::((aA m.i).toList++((bg m.t).toList++[v,.int .i64 m.n,.string m.o,.string m.d])):=rfl
theorem cN (m:Mg) (v:Value):(aP m v)[0]? = some (.int .i64 m.k):=rfl
theorem ma (m:Mg) (v:Value) (j:Nat):(aP m v)[67+j]? = ([v,.int .i64 m.n,.string m.o,.string m.d]:List Value)[j]? := by
 rw [← Array.getElem?_toList,gk,show 67+j=(66+j)+1 from by omega,List.getElem?_cons_succ,List.getElem?_append_right (by rw [jP];omega),jP,List.getElem?_append_right (by rw [ut];omega),ut]
 congr 1;omega
theorem dq (m:Mg) (v:Value):(aP m v)[67]? = some v:=ma m v 0
theorem ee (m:Mg) (v:Value):(aP m v)[68]? = some (.int .i64 m.n):=ma m v 1
theorem eW (m:Mg) (v:Value):(aP m v)[69]? = some (.string m.o):=ma m v 2
theorem fx (m:Mg) (v:Value):(aP m v)[70]? = some (.string m.d):=ma m v 3
theorem oF {C:Array Value} {a n:Nat} {D:Array Value} (h:(C.toList.drop a).take n=D.toList):C.extract a (a+n)=D:=by
 apply Array.ext'
 rw [← h,Array.toList_extract,List.extract_eq_take_drop,Nat.add_sub_cancel_left]
theorem cQ (m:Mg) (v:Value):(aP m v).extract 1 (1+32)=aA m.i:=oF (by
 rw [gk,List.drop_succ_cons,List.drop_zero,List.take_append_of_le_length (by rw [jP];omega),List.take_of_length_le (by rw [jP];omega)])
theorem cI (m:Mg) (v:Value):(aP m v).extract 33 (33+34)=bg m.t:=oF (by
 rw [gk,show (33:Nat)=32+1 from rfl,List.drop_succ_cons,List.drop_append_of_le_length (by rw [jP];omega),List.drop_of_length_le (by rw [jP];omega),List.nil_append,List.take_append_of_le_length (by rw [ut];omega),List.take_of_length_le (by rw [ut];omega)])
theorem cX (m:Mg) (v:Value) (hv:v.oneCell'=true):∀ u∈(aP m v).toList,u.oneCell'=true:=by
 intro u hu
 rw [gk] at hu
 simp only [List.mem_cons,List.mem_append,List.not_mem_nil,or_false] at hu
 rcases hu with rfl|hu|hu|rfl|rfl|rfl|rfl
 ·rfl
 ·exact bE _ _ hu
 ·exact fD _ _ hu
 ·exact hv
 ·rfl
 ·rfl
 ·rfl
theorem D3 {C:Array Value} {j:Nat} {x:Value} {D:Array Value} (h:C.toList.set j x=D.toList):C.setIfInBounds j x=D:=by
 apply Array.ext';rw [← h,Array.toList_setIfInBounds]
theorem ko (m:Mg) (v:Value) (j:Nat) (x:Value):(aP m v).setIfInBounds (67+j) x=(Value.int .i64 m.k::((aA m.i).toList++((bg m.t).toList++([v,.int .i64 m.n,.string m.o,.string m.d]:List Value).set j x))).toArray:=D3 (by
 rw [gk,show 67+j=(66+j)+1 from by omega,List.set_cons_succ,List.set_append_right _ _ (by rw [jP];omega),jP,List.set_append_right _ _ (by rw [ut];omega),ut,show 66+j - 32 - 34=j from by omega])
theorem AS (m:Mg) (v u:Value) (l:List cU):(aP m v).setIfInBounds 67 u=aP {m with l:=l} u:=ko m v 0 u
theorem zV (m:Mg) (v:Value) (q:ByteArray):(aP m v).setIfInBounds 69 (.string q)=aP {m with o:=q} v:=ko m v 2 _
theorem A5 (m:Mg) (v:Value) (q:ByteArray):(aP m v).setIfInBounds 70 (.string q)=aP {m with d:=q} v:=ko m v 3 _
def rq (k:Int):Bool:=decide (1≤k) && decide (k≤10)
def i5 (k:Int):Bool:=decide (2≤k) && decide (k≤10)
def gH (k:Int):Bool:=decide (2≤k) && decide (k≤6)
def fI (k:Int):Bool:=decide (k=1)
def iu (k:Int):Bool:=decide (k=1) || decide (k=2) || decide (k=4) || (decide (8≤k) && decide (k≤10))
def lz (k:Int):Bool:=decide (k=3) || decide (k=4) || decide (k=6)
def i6 (k:Int):Bool:=decide (k=1)
def fq (k:Int):Array Value:=#[.bool (i5 k),.bool (gH k),.bool (fI k),.bool (iu k),.bool (lz k),.bool (i6 k)]
def c1 (m:Mg):Bool:=bif i5 m.k then true else decide (m.i=0#256)
def c2 (m:Mg):Bool:=bif gH m.k then fK m.t else decide (m.t=(0,0#256,0))
def c3 (m:Mg):Bool:=bif fI m.k then gi m.l else decide (m.l.length=0)
def c4 (m:Mg):Bool:=bif iu m.k then (decide (0≤m.n) && decide (m.n≤1099511627776)) else decide (m.n=0)
def c5 (m:Mg):Bool:=bif lz m.k then decide (m.o.size=16) else decide (m.o=⟨#[]⟩)
def c6 (m:Mg):Bool:=bif i6 m.k then decide (m.d.size≤64) else decide (m.d=⟨#[]⟩)
def bD (m:Mg):Bool:=rq m.k && c1 m && c2 m && c3 m && c4 m && c5 m && c6 m
def KG (n:Int):List Nat:=(List.range 8).map fun i=>n.toNat / 256 ^ i % 256
theorem vW (n:Int):(KG n).length=8:=by simp [KG]
def IW (k:Int) (i:Id):List Nat:=bif i5 k then Mm i else []
def I1 (k:Int) (t:cU):List Nat:=bif gH k then 1::AQ t else []
def Jx (k:Int) (l:List cU):List Nat:=bif fI k then Ik l else []
def Ke (k:Int) (n:Int):List Nat:=bif iu k then KG n else []
def vI (k:Int) (r:ByteArray):Id:=bif i5 k then yd (sb r) else 0#256
def rI (k:Int) (r:ByteArray):ByteArray:=bif i5 k then uW r 32 else r
def vT (k:Int) (r:ByteArray):cU:=bif gH k then (B0 r).2.1.getD 0 (0,0#256,0) else (0,0#256,0)
def rT (k:Int) (r:ByteArray):ByteArray:=bif gH k then uW r (B0 r).2.2 else r
def rS (k:Int) (r:ByteArray):ByteArray:=bif fI k then uW r (B0 r).2.2 else r
def kS (s:ByteArray):Int:=((sb s 0:Nat):Int)
def q0 (s:ByteArray):ByteArray:=uW s 1
def q1 (s:ByteArray):ByteArray:=rI (kS s) (q0 s)
def q2 (s:ByteArray):ByteArray:=rT (kS s) (q1 s)
def q3 (s:ByteArray):ByteArray:=rS (kS s) (q2 s)
theorem eP {m:Mg} (h:bD m=true):rq m.k=true∧c1 m=true∧c2 m=true∧c3 m=true∧c4 m=true∧c5 m=true∧c6 m=true:=by
 unfold bD at h
 simp only [Bool.and_eq_true] at h
 obtain ⟨⟨⟨⟨⟨⟨h0,h1⟩,h2⟩,h3⟩,h4⟩,h5⟩,h6⟩:=h
 exact ⟨h0,h1,h2,h3,h4,h5,h6⟩
theorem mq (k:Int):rq k=true↔1≤k∧k≤10:=by simp [rq]
theorem ot (k:Int):∀ v∈(fq k).toList,v.oneCell'=true:=by
 intro v hv
 simp only [fq,List.mem_cons,List.not_mem_nil,or_false] at hv
 rcases hv with rfl|rfl|rfl|rfl|rfl|rfl<;>rfl
theorem DO {k:Int} (h:rq k=false):¬ (1≤k∧k≤10):=fun hk=>by
 rw [(mq k).2 hk] at h;cases h
theorem zu {k:Int} (h:rq k=false):fq k=fq 0:=by
 have hk:=DO h
 have h1:i5 k=false:=by unfold i5;simp;omega
 have h2:gH k=false:=by unfold gH;simp;omega
 have h3:fI k=false:=by unfold fI;simp;omega
 have h4:iu k=false:=by unfold iu;simp;omega
 have h5:lz k=false:=by unfold lz;simp;omega
 have h6:i6 k=false:=by unfold i6;simp;omega
 unfold fq;rw [h1,h2,h3,h4,h5,h6];rfl
theorem d6 (k:Int) (n:Int) (v:Value) (b:Nat) (r:List MapEntry) (i:Nat):Instr.findNow (.int .i64) (.int .i64 k) ({key:=.int .i64 n,val:=v,born:=b}::r) i=if k=n then some (some (i,v)) else Instr.findNow (.int .i64) (.int .i64 k) r (i+1):=by
 rw [Instr.findNow]
 show (match (if IntKind.i64=IntKind.i64 then some (k == n) else none) with|some true=>some (some (i,v))|some false=>Instr.findNow (.int .i64) (.int .i64 k) r (i+1)|none=>none)=_
 rw [if_pos rfl]
 by_cases h:k=n
 ·subst h;simp
 ·have:(k == n)=false:=by simpa using h
  rw [this,if_neg h]
def zO:List MapEntry:=[⟨.int .i64 1,.agg (fq 1),0⟩,⟨.int .i64 2,.agg (fq 2),1⟩,⟨.int .i64 3,.agg (fq 3),2⟩,⟨.int .i64 4,.agg (fq 4),3⟩,⟨.int .i64 5,.agg (fq 5),4⟩,⟨.int .i64 6,.agg (fq 6),5⟩,⟨.int .i64 7,.agg (fq 7),6⟩,⟨.int .i64 8,.agg (fq 8),7⟩,⟨.int .i64 9,.agg (fq 9),8⟩,⟨.int .i64 10,.agg (fq 10),9⟩]
theorem uw (k:Int):Instr.findNow (.int .i64) (.int .i64 k) zO 0=if k=1 then some (some (0,.agg (fq 1))) else if k=2 then some (some (1,.agg (fq 2))) else if k=3 then some (some (2,.agg (fq 3))) else if k=4 then some (some (3,.agg (fq 4))) else if k=5 then some (some (4,.agg (fq 5)))
 else if k=6 then some (some (5,.agg (fq 6))) else if k=7 then some (some (6,.agg (fq 7))) else if k=8 then some (some (7,.agg (fq 8))) else if k=9 then some (some (8,.agg (fq 9))) else if k=10 then some (some (9,.agg (fq 10))) else some none:=by
 unfold zO
 rw [d6,d6,d6,d6,d6,d6,d6,d6,d6,d6,Instr.findNow]
theorem wk (k:Int):(∃ j,Instr.findNow (.int .i64) (.int .i64 k) zO 0=some (some (j,.agg (fq k)))∧rq k=true)∨(Instr.findNow (.int .i64) (.int .i64 k) zO 0=some none∧Value.agg (fq k)=.agg (fq 0)∧rq k=false):=by
 rw [uw]
 cases h:rq k
 ·have hk:=DO h
  refine .inr ⟨?_,congrArg Value.agg (zu h),rfl⟩
  rw [if_neg (by omega),if_neg (by omega),if_neg (by omega),if_neg (by omega),if_neg (by omega),if_neg (by omega),if_neg (by omega),if_neg (by omega),if_neg (by omega),if_neg (by omega)]
 ·have hk:=(mq k).1 h
  have:k=1∨k=2∨k=3∨k=4∨k=5∨k=6∨k=7∨k=8∨k=9∨k=10:=by omega
  rcases this with rfl|rfl|rfl|rfl|rfl|rfl|rfl|rfl|rfl|rfl
  ·exact .inl ⟨0,by simp,rfl⟩
  ·exact .inl ⟨1,by simp,rfl⟩
  ·exact .inl ⟨2,by simp,rfl⟩
  ·exact .inl ⟨3,by simp,rfl⟩
  ·exact .inl ⟨4,by simp,rfl⟩
  ·exact .inl ⟨5,by simp,rfl⟩
  ·exact .inl ⟨6,by simp,rfl⟩
  ·exact .inl ⟨7,by simp,rfl⟩
  ·exact .inl ⟨8,by simp,rfl⟩
  ·exact .inl ⟨9,by simp,rfl⟩
theorem jH:aP mZ (.slice none 0 0)=(Value.int .i64 0::(List.replicate 32 (Value.int .u8 0)++(Value.int .i64 0::(List.replicate 32 (Value.int .u8 0)++[Value.int .i64 0])++[Value.slice none 0 0,.int .i64 0,.string ⟨#[]⟩,.string ⟨#[]⟩]))).toArray:=by
 unfold aP
 show (Value.int .i64 0::((aA 0#256).toList++((bg (0,0#256,0)).toList++_))).toArray=_
 rw [gR]
 have:(aA 0#256).toList=List.replicate 32 (Value.int .u8 0):=by
  have:=gR
  unfold bg at this
  have h2:=congrArg Array.toList this
  simp only [List.cons.injEq,true_and] at h2
  exact List.append_cancel_right h2
 rw [this];rfl
def fZ:List (List Value):=[[.bool false],[.bool false],[.bool false],[.bool false],[.bool false],[.bool false]]
theorem AY {m:Mg} (h:c4 m=true):0≤m.n:=by
 unfold c4 at h
 cases hk:iu m.k
 ·rw [hk] at h;have:=of_decide_eq_true h;omega
 ·rw [hk] at h;simp only [cond_true,Bool.and_eq_true,decide_eq_true_eq] at h;exact h.1
theorem KT {a b:Mg} (h:decide (a.k=b.k)=false):false=iC a b:=by unfold iC;rw [h];rfl
theorem Kh {a b:Mg} (h:decide (a.i=b.i)=false):false=iC a b:=by unfold iC;rw [h];simp
theorem J7 {a b:Mg} (h:decide (a.t=b.t)=false):false=iC a b:=by unfold iC;rw [h];simp
theorem K2 {a b:Mg} (h:decide (a.l=b.l)=false):false=iC a b:=by unfold iC;rw [h];simp
theorem JO {a b:Mg} (h:decide (a.n=b.n)=false):false=iC a b:=by unfold iC;rw [h];simp
theorem IT {a b:Mg} (h:decide (a.o=b.o)=false):false=iC a b:=by unfold iC;rw [h];simp
theorem JQ {a b:Mg} (h:decide (a.d=b.d)=false):false=iC a b:=by unfold iC;rw [h];simp
theorem CD {a b:Mg} (h1:decide (a.k=b.k)=true) (h2:decide (a.i=b.i)=true) (h3:decide (a.t=b.t)=true) (h4:decide (a.l=b.l)=true) (h5:decide (a.n=b.n)=true) (h6:decide (a.o=b.o)=true) (h7:decide (a.d=b.d)=true):true=iC a b:=by
 unfold iC;rw [h1,h2,h3,h4,h5,h6,h7];rfl
def MZ (m:Mg):List Nat:=[m.k.toNat]
def Lb (m:Mg):List Nat:=MZ m++IW m.k m.i
def AF (m:Mg):List Nat:=Lb m++I1 m.k m.t
def NW (m:Mg):List Nat:=AF m++Jx m.k m.l
def Pa (m:Mg):List Nat:=NW m++Ke m.k m.n
theorem DS (k:Int) (i:Id):(IW k i).length≤32:=by unfold IW;cases i5 k<;>simp [xv]
theorem DW (k:Int) (t:cU):(I1 k t).length≤34:=by
 unfold I1;have:=(oX t).1
 cases gH k
 ·simp
 ·simp only [cond_true,List.length_cons];omega
theorem BI (k n:Int):(Ke k n).length≤8:=by unfold Ke;cases iu k<;>simp [vW]
theorem CU (k:Int) (l:List cU) (h:l.length≤4):(Jx k l).length≤133:=by
 unfold Jx;have:=A0 l
 cases fI k
 ·simp
 ·simp only [cond_true,Ik,List.length_cons];omega
theorem I9 {m:Mg} (h:c3 m=true):m.l.length≤4:=by
 unfold c3 at h
 cases hk:fI m.k
 ·rw [hk] at h;have:=of_decide_eq_true h;omega
 ·rw [hk] at h;exact((kx _).1 h).2.1
theorem B7 {m:Mg} (h:bD m=true):(Pa m).length≤208∧(NW m).length≤200∧(AF m).length≤67∧(Lb m).length≤33∧m.o.size≤16∧m.d.size≤64:=by
 obtain ⟨h0,h1,h2,h3,h4,h5,h6⟩:=eP h
 have a1:=DS m.k m.i;have a2:=DW m.k m.t;have a3:=CU m.k m.l (I9 h3);have a4:=BI m.k m.n
 refine ⟨?_,?_,?_,?_,?_,?_⟩
 ·simp only [Pa,NW,AF,Lb,MZ,List.length_append,List.length_cons,List.length_nil];omega
 ·simp only [NW,AF,Lb,MZ,List.length_append,List.length_cons,List.length_nil];omega
 ·simp only [AF,Lb,MZ,List.length_append,List.length_cons,List.length_nil];omega
 ·simp only [Lb,MZ,List.length_append,List.length_cons,List.length_nil];omega
 ·unfold c5 at h5
  cases hk:lz m.k
  ·rw [hk] at h5;rw [of_decide_eq_true h5];decide
  ·rw [hk] at h5;have:=of_decide_eq_true h5;omega
 ·unfold c6 at h6
  cases hk:i6 m.k
  ·rw [hk] at h6;rw [of_decide_eq_true h6];decide
  ·rw [hk] at h6;exact of_decide_eq_true h6
def zn:List (List Value):=[[.int .i64 0],List.replicate 32 (.int .u8 0),.int .i64 0::(List.replicate 32 (.int .u8 0)++[.int .i64 0]),[.slice none 0 0],[.int .i64 0],[.string ⟨#[]⟩],[.string ⟨#[]⟩]]
theorem OP:(Value.int .i64 0::(List.replicate 32 (Value.int .u8 0)++[Value.int .i64 0]))=(bg (0,0#256,0)).toList:=by rw [gR]
variable {P:Program} {ρ:Operand→Value} {d:Option Tmp} {ty:TypeId} {pos:String} {af:Array Edge} {g:Option (Nat × Bool)} {x y:Operand} {t:TypeId}
theorem ft (S:Stt P t zn):aM P ⟨d,.build t #[],ty,pos,af,g⟩ ρ (.agg (aP mZ (.slice none 0 0))):=by
 rw [jH]
 exact bb S [] rfl (fun _ _ h=>by cases h) rfl
def r7:List ByteArray:=[⟨#[]⟩,⟨#[115,110,100]⟩,⟨#[105,116,110]⟩,⟨#[105,116,111]⟩,⟨#[105,116,110,111]⟩,⟨#[105,116]⟩,⟨#[105,116,111]⟩,⟨#[105]⟩,⟨#[105,110]⟩,⟨#[105,110]⟩,⟨#[105,110]⟩]
def fS (k:Int):ByteArray:=r7.getD k.toNat ⟨#[]⟩
def FG (s:ByteArray) (f:Int):Bool:=(List.range s.size).any fun i=>decide (((sb s i:Nat):Int)=f)
def lQ (k f:Int):Bool:=decide (1≤k) && decide (k≤10) && FG (fS k) f
theorem Ji {k:Int} (h1:1≤k) (h2:k≤10):(r7.map Value.string)[k.toNat]? = some (.string (fS k)):=by
 have h:k.toNat<r7.length:=by show k.toNat<11;omega
 rw [List.getElem?_map,List.getElem?_eq_getElem h,fS,List.getD_eq_getElem?_getD,List.getElem?_eq_getElem h];rfl
theorem Hz {k f:Int} (h:k<1):false=lQ k f:=by unfold lQ;rw [decide_eq_false (by omega)];rfl
theorem FW {k f:Int} (h:10<k):false=lQ k f:=by unfold lQ;rw [decide_eq_false (show ¬ k≤10 by omega)];simp
theorem C8 {k f:Int} (h1:1≤k) (h2:k≤10) {j:Nat} (hj:j<(fS k).size) (h:((sb (fS k) j:Nat):Int)=f):true=lQ k f:=by
 unfold lQ FG
 rw [decide_eq_true h1,decide_eq_true h2]
 symm
 show (List.any _ _)=true
 rw [List.any_eq_true]
 exact ⟨j,List.mem_range.2 hj,decide_eq_true h⟩
theorem G5 {k f:Int} (h:∀ i,i<(fS k).size→¬ ((sb (fS k) i:Nat):Int)=f):false=lQ k f:=by
 unfold lQ FG
 have:((List.range (fS k).size).any fun i=>decide (((sb (fS k) i:Nat):Int)=f))=false:=by
  rw [List.any_eq_false];intro i hi;simpa using h i (List.mem_range.1 hi)
 rw [this,Bool.and_false]
theorem jQ (f:Int) (g:Int→Bool) (h:∀ k:Nat,k<11→1≤k→FG (fS k) f=g k) (h0:∀ k,rq k=false→g k=false) (k:Int):lQ k f=g k:=by
 unfold lQ
 cases hk:rq k
 ·rw [h0 k hk]
  unfold rq at hk
  rw [hk];rfl
 ·have hk2:=(mq k).1 hk
  rw [decide_eq_true hk2.1,decide_eq_true hk2.2]
  have e:k=((k.toNat:Nat):Int):=by omega
  have:=h k.toNat (by omega) (by omega)
  rw [← e] at this
  rw [this];rfl
theorem has0 {k:Int} (h:rq k=false):i5 k=false∧gH k=false∧fI k=false∧iu k=false∧lz k=false∧i6 k=false:=by
 have:=zu h
 unfold fq at this
 simp only [Array.mk.injEq,List.cons.injEq,Value.bool.injEq,and_true] at this
 exact this
theorem IS (k:Int):lQ k 105=i5 k:=jQ 105 i5 (by decide) (fun k h=>(has0 h).1) k
theorem x0 (k:Int):lQ k 116=gH k:=jQ 116 gH (by decide) (fun k h=>(has0 h).2.1) k
theorem oK (k:Int):lQ k 115=fI k:=jQ 115 fI (by decide) (fun k h=>(has0 h).2.2.1) k
theorem Ks (k:Int):lQ k 110=iu k:=jQ 110 iu (by decide) (fun k h=>(has0 h).2.2.2.1) k
theorem Jf (k:Int):lQ k 111=lz k:=jQ 111 lz (by decide) (fun k h=>(has0 h).2.2.2.2.1) k
theorem D4 (k:Int):lQ k 100=i6 k:=jQ 100 i6 (by decide) (fun k h=>(has0 h).2.2.2.2.2) k
def tj (m:Mg):Bool:=(!i5 m.k && decide (m.i≠0#256)) || (!gH m.k && !decide (m.t=(0,0#256,0))) || (!fI m.k && decide (0<m.l.length))
def Dn (m:Mg):Bool:=(!iu m.k && decide (m.n≠0)) || (!i6 m.k && decide (m.d≠⟨#[]⟩))
def DK (m:Mg):Bool:=(gH m.k && !fK m.t) || (fI m.k && !gi m.l)
theorem AJ {m:Mg} (h1:1≤m.k) (h2:m.k≤10) (h3:0≤m.n) (h4:m.n≤1099511627776) (h5:m.d.size≤64):bD m=(!tj m && (!Dn m && (!DK m && c5 m))):=by
 have hk:rq m.k=true:=(mq _).2 ⟨h1,h2⟩
 have e1:c1 m = !(!i5 m.k && decide (m.i≠0#256)):=by unfold c1;cases i5 m.k<;>simp
 have e2:c2 m=(!(!gH m.k && !decide (m.t=(0,0#256,0))) && !(gH m.k && !fK m.t)):=by unfold c2;cases gH m.k<;>simp
 have e3:c3 m=(!(!fI m.k && decide (0<m.l.length)) && !(fI m.k && !gi m.l)):=by
  unfold c3
  cases fI m.k
  ·simp only [cond_false,Bool.not_false,Bool.true_and,Bool.false_and,Bool.and_true]
   rw [Bool.eq_iff_iff];simp
  ·simp
 have e4:c4 m = !(!iu m.k && decide (m.n≠0)):=by
  unfold c4;cases iu m.k
  ·simp
  ·simp only [cond_true,Bool.not_true,Bool.false_and,Bool.not_false];rw [decide_eq_true h3,decide_eq_true h4];rfl
 have e6:c6 m = !(!i6 m.k && decide (m.d≠⟨#[]⟩)):=by
  unfold c6;cases i6 m.k
  ·simp
  ·simp only [cond_true,Bool.not_true,Bool.false_and,Bool.not_false];exact decide_eq_true h5
 unfold bD tj Dn DK
 rw [hk,e1,e2,e3,e4,e6]
 generalize (!i5 m.k && decide (m.i≠0#256))=x1
 generalize (!gH m.k && !decide (m.t=(0,0#256,0)))=x2
 generalize (!fI m.k && decide (0<m.l.length))=x3
 generalize (gH m.k && !fK m.t)=x4
 generalize (fI m.k && !gi m.l)=x5
 generalize (!iu m.k && decide (m.n≠0))=x6
 generalize (!i6 m.k && decide (m.d≠⟨#[]⟩))=x7
 generalize c5 m=x8
 revert x1 x2 x3 x4 x5 x6 x7 x8
 decide
theorem HR {m:Mg} (h:c4 m=true):0≤m.n∧m.n≤1099511627776:=by
 unfold c4 at h
 cases hk:iu m.k
 ·rw [hk] at h;have:=of_decide_eq_true h;omega
 ·rw [hk] at h;simpa using h
theorem BC {m:Mg} (h:m.k<1):false=bD m:=by
 cases hr:bD m
 ·rfl
 ·have:=(mq _).1 (eP hr).1;omega
theorem Dp {m:Mg} (h:10<m.k):false=bD m:=by
 cases hr:bD m
 ·rfl
 ·have:=(mq _).1 (eP hr).1;omega
theorem BG {m:Mg} (h:m.n<0):false=bD m:=by
 cases hr:bD m
 ·rfl
 ·have:=HR (eP hr).2.2.2.2.1;omega
theorem Cf {m:Mg} (h:1099511627776<m.n):false=bD m:=by
 cases hr:bD m
 ·rfl
 ·have:=HR (eP hr).2.2.2.2.1;omega
theorem Fc {m:Mg} (h:(64:Int)<((m.d.size:Nat):Int)):false=bD m:=by
 cases hr:bD m
 ·rfl
 ·have:=(B7 hr).2.2.2.2.2;omega
theorem i1 {m:Mg} (h1:¬ m.k<1) (h2:¬ 10<m.k) (h3:¬ m.n<0) (h4:¬ 1099511627776<m.n) (h5:¬ (64:Int)<((m.d.size:Nat):Int)):bD m=(!tj m && (!Dn m && (!DK m && c5 m))):=AJ (by omega) (by omega) (by omega) (by omega) (by omega)
theorem Hd (k:Int):(fS k).size≤4:=by
 unfold fS
 by_cases h:k.toNat<11
 ·have:∀ n,n<11→(r7.getD n ⟨#[]⟩).size≤4:=by decide
  exact this _ h
 ·rw [List.getD_eq_getElem?_getD,List.getElem?_eq_none (by show 11≤_;omega)];decide
theorem yY {w:World} {v:Value} {sz n:Nat} {xs:List Value} (h:bI w v sz n xs):v.oneCell'=true:=by
 rcases h.2 with ⟨rfl,_⟩|⟨p,c,rfl,_⟩<;>rfl
def cH (m:Mg):Mg:={m with l:=m.l.take (min m.l.length 6),o:=m.o.extract 0 (min m.o.size 20),d:=m.d.extract 0 (min m.d.size 70)}
theorem IY (m:Mg):(cH m).l.length≤6:=by show (m.l.take _).length≤6;rw [List.length_take];omega
def O6 (t:TypeId):List PanicEntry:=[{v:=.iface t (.int .i64 5),recovered:=false}]
def MR (t:TypeId) (ok:Bool) (T:Value→World→Prop) (F:World→Prop):Ending→World→Prop:=fun e w=>(ok=true∧∃ v,e=.returned v∧T v w)∨(ok=false∧∃ ch,e=.panicked ch∧ch=O6 t∧F w)
theorem MR.no {t:TypeId} {ok:Bool} {T:Value→World→Prop} {F:World→Prop} {f:FuncId} {a:Array Value} {w:World} (h:Calls P f a w (MR t ok T F)) (hok:ok=false):Calls P f a w (fun e w'=>∃ ch,e=.panicked ch∧(ch=O6 t∧F w')):=
 h.mono fun e w' hx=>by
  rcases hx with ⟨h0,_⟩|⟨_,ch,r⟩
  ·rw [hok] at h0;cases h0
  ·exact ⟨ch,r⟩
def p1 (s:ByteArray):Mg:={mZ with k:=kS s}
def p2 (s:ByteArray):Mg:={p1 s with i:=vI (kS s) (q0 s)}
def p3 (s:ByteArray):Mg:={p2 s with t:=vT (kS s) (q1 s)}
section
variable {s:ByteArray}
end
end Go.Proofs.YtobfeflheaobiaaGreatDoor
namespace Go.Proofs.YtobfeflheaobiaaGreatDoor
def t5 (m:Mg) (v:Value) (r:ByteArray) (ok:Bool):Array Value:=((aP m v).toList++([.string r,.bool ok]:List Value)).toArray
theorem OG (m:Mg) (v:Value):(aP m v).toList.length=71:=by rw [Array.length_toList,ax]
@[simp] theorem N5 (m:Mg) (v:Value) (r:ByteArray) (ok:Bool):(t5 m v r ok).size=73:=by
  simp only [t5,List.size_toArray,List.length_append,OG,List.length_cons,List.length_nil]
section
variable {P:Program} {ρ:Operand→Value} {d:Option Tmp} {ty:TypeId} {pos:String} {af:Array Edge} {g:Option (Nat × Bool)} {x y:Operand} {t:TypeId}
end
section
variable {s:ByteArray}
end
def hN (r:ByteArray):Nat→Nat
 |0=>0
 |d+1=>256*hN r d+sb r (5 - d)
def nd (s:ByteArray):Nat:=(bif iu (kS s) then 8 else 0)+(bif lz (kS s) then 16 else 0)
section
variable {s:ByteArray}
end
section
variable {s:ByteArray}
end
section
variable {s:ByteArray}
end
theorem AT (m:Mg):iC m m=true:=(qC m m).2 rfl
theorem tL (m:Mg) (v:Value):(aP m v)[33]? = some (.int .i64 m.t.1):=by
 have h:=congrArg (fun D:Array Value=>D[0]?) (cI m v)
 simp only [d7] at h
 rw [← h,Array.getElem?_extract,if_pos (by rw [ax];omega)]
end Go.Proofs.YtobfeflheaobiaaGreatDoor
namespace Go.Proofs.YtobfeflheaobiaaGreatDoor
open Go.RowKit Go.ChangeShapes Go.WideShapes Go.ChangeAt
theorem xH {H:Type} {enc:TypeId × Value→H} {P:Program} {W:World} {ts t tn ti e:TypeId} {f0 f1 f2:Field} {fuel:Nat} {cs:List Value} {x:DataW H × List MemPlace} (T:IdTy P ti e) (hc:P.cellsOf ti=32) (hce:P.cellsOf e=1) (hn:P.underlying tn=some (.int .i64)) (hcn:P.cellsOf tn=1)
 (hts:P.underlying ts=some (.slice t)) (ht:P.underlying t=some (.struct #[f0,f1,f2])) (h0:f0.type=tn) (h1:f1.type=ti) (h2:f2.type=tn) (o0:f0.offset=0) (o1:f1.offset=1) (o2:f2.offset=33) (hct:P.cellsOf t=34)
 (hf:DataW.trod enc P W 0 (fun _=>true) true fuel ts cs=some x):∃ (v:Value) (ls:List cU),cs=[v]∧bI W v 34 ls.length (br ls):=by
 rcases Go.Deep.open_slice hts hf with ⟨hcs,_⟩|⟨a',len,cap,m,k,D,Pl,hcs,_,hl,_,hm,_,hel⟩
 ·exact ⟨_,[],hcs,rfl,.inl ⟨rfl,rfl⟩⟩
 ·have hml:len≤m:=by rw [hm];split<;>omega
  have each:∀ i,∃ l:cU,i<len→aG W (a'.add (i*34)) (bg l):=fun i=>by
   by_cases hi:i<len
   ·obtain ⟨cs',hc1,hc2⟩:=hel i (by omega)
    obtain ⟨l,rfl⟩:=oD T hc hce hn hcn ht h0 h1 h2 o0 o1 o2 hct hc2
    refine ⟨l,fun _ j u hj=>?_⟩
    rw [hct] at hc1
    obtain ⟨_,hlen,hall⟩:=World.cells?_some hc1
    have hj34:j<34:=by have:=(Array.getElem?_eq_some_iff.1 hj).1;rw [aC] at this;exact this
    have:=hall j hj34
    rw [this,Array.getElem?_toList];exact hj
   ·exact ⟨(0,0#256,0),fun h9=>absurd h9 hi⟩
  obtain ⟨L,hL⟩:=Classical.axiomOfChoice each
  refine ⟨_,(List.range len).map L,hcs,?_,.inr ⟨a',cap,by simp,by simpa using hl,?_⟩⟩
  ·rw [xK]
  ·refine wt _ 34 (by decide) (fun x=>by rw [Array.length_toList,aC]) _ fun i hi=>?_
   have hi':i<len:=by simpa using hi
   have:=hL i hi'
   simpa using this
theorem Bo {H:Type} {enc:TypeId × Value→H} {P:Program} {W:World} {r:Reach} {b0:Nat} {tm tz ts t tn ti e:TypeId} {g0 g1 g2 g3 g4 g5 g6 f0 f1 f2:Field} {v:Value} {d:DataW H} {ps:List MemPlace} (T:IdTy P ti e) (hc:P.cellsOf ti=32) (hce:P.cellsOf e=1) (hn:P.underlying tn=some (.int .i64)) (hcn:P.cellsOf tn=1)
 (hz:P.underlying tz=some .string) (hcz:P.cellsOf tz=1) (hcs:P.cellsOf ts=1)
 (hts:P.underlying ts=some (.slice t)) (ht:P.underlying t=some (.struct #[f0,f1,f2])) (h0:f0.type=tn) (h1:f1.type=ti) (h2:f2.type=tn) (o0:f0.offset=0) (o1:f1.offset=1) (o2:f2.offset=33) (hct:P.cellsOf t=34)
 (htm:P.underlying tm=some (.struct #[g0,g1,g2,g3,g4,g5,g6])) (ht0:g0.type=tn) (ht1:g1.type=ti) (ht2:g2.type=t) (ht3:g3.type=ts) (ht4:g4.type=tn) (ht5:g5.type=tz) (ht6:g6.type=tz)
 (ho0:g0.offset=0) (ho1:g1.offset=1) (ho2:g2.offset=33) (ho3:g3.offset=67) (ho4:g4.offset=68) (ho5:g5.offset=69) (ho6:g6.offset=70) (hctm:P.cellsOf tm=71)
 (hval:Value.okWide P W r b0 tm v) (h:DataW.Trod enc P W 0 (fun _=>true) true tm v d ps):∃ (m:Mg) (u:Value),v=.agg (aP m u)∧bI W u 34 m.l.length (br m.l):=by
 have hv:∃ cs,v=.agg cs:=by
  unfold Value.okWide at hval
  simp only [htm] at hval
  obtain ⟨cs,h9,_⟩:=hval
  exact ⟨cs,h9⟩
 obtain ⟨cs,rfl⟩:=hv
 obtain ⟨fuel,hf⟩:=h
 obtain ⟨xs,n,hcells,_,hl,hxl,hel⟩:=DataW.trod_struct htm hf
 have hcl:cs.toList.length=71:=by rw [← hctm];simpa [Value.cells] using hl
 have hx7:xs.length=7:=by simpa using hxl
 have e0:=hel 0 g0 rfl
 have e1:=hel 1 g1 rfl
 have e2:=hel 2 g2 rfl
 have e3:=hel 3 g3 rfl
 have e4:=hel 4 g4 rfl
 have e5:=hel 5 g5 rfl
 have e6:=hel 6 g6 rfl
 rw [ht0,ho0,hcn,List.getElem?_eq_getElem (by omega)] at e0
 rw [ht1,ho1,hc,List.getElem?_eq_getElem (by omega)] at e1
 rw [ht2,ho2,hct,List.getElem?_eq_getElem (by omega)] at e2
 rw [ht3,ho3,hcs,List.getElem?_eq_getElem (by omega)] at e3
 rw [ht4,ho4,hcn,List.getElem?_eq_getElem (by omega)] at e4
 rw [ht5,ho5,hcz,List.getElem?_eq_getElem (by omega)] at e5
 rw [ht6,ho6,hcz,List.getElem?_eq_getElem (by omega)] at e6
 obtain ⟨k,hk,_⟩:=DataW.trod_int hn e0
 obtain ⟨i,hi⟩:=qQ T hc hce e1
 obtain ⟨t9,h9t⟩:=oD T hc hce hn hcn ht h0 h1 h2 o0 o1 o2 hct e2
 obtain ⟨u,ls,hu,hls⟩:=xH T hc hce hn hcn hts ht h0 h1 h2 o0 o1 o2 hct e3
 obtain ⟨n9,hn9,_⟩:=DataW.trod_int hn e4
 obtain ⟨o9,ho9,_⟩:=DataW.trod_string hz e5
 obtain ⟨d9,hd9,_⟩:=DataW.trod_string hz e6
 refine ⟨⟨k,i,t9,ls,n9,o9,d9⟩,u,?_,hls⟩
 have key:cs.toList=(aP ⟨k,i,t9,ls,n9,o9,d9⟩ u).toList:=by
  rw [gk,← hi,← h9t]
  simp only [Value.cells] at hk hi h9t hu hn9 ho9 hd9 ⊢
  have hd6:cs.toList.drop 70=[.string d9]:=by
   rw [List.take_of_length_le (by rw [List.length_drop,hcl];omega)] at hd9;exact hd9
  have hsplit:cs.toList=cs.toList.take 1++((cs.toList.drop 1).take 32++((cs.toList.drop 33).take 34++((cs.toList.drop 67).take 1++((cs.toList.drop 68).take 1++((cs.toList.drop 69).take 1++cs.toList.drop 70))))):=by
   rw [show cs.toList.drop 70=(cs.toList.drop 69).drop 1 from by rw [List.drop_drop],List.take_append_drop,show cs.toList.drop 69=(cs.toList.drop 68).drop 1 from by rw [List.drop_drop],List.take_append_drop,show cs.toList.drop 68=(cs.toList.drop 67).drop 1 from by rw [List.drop_drop],List.take_append_drop,
    show cs.toList.drop 67=(cs.toList.drop 33).drop 34 from by rw [List.drop_drop],List.take_append_drop,show cs.toList.drop 33=(cs.toList.drop 1).drop 32 from by rw [List.drop_drop],List.take_append_drop,List.take_append_drop]
  rw [hd6,hu,hn9,ho9,show cs.toList.take 1=[.int .i64 k] from hk] at hsplit
  exact hsplit
 rw [Array.toList_inj.1 key]
end Go.Proofs.YtobfeflheaobiaaGreatDoor
