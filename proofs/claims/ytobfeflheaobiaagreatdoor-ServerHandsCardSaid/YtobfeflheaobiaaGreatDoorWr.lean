/- Messages: which may be, their parts and bytes; no Go in it. -/
import Derived.Test.YtobfeflheaobiaaGreatDoorSp
set_option linter.unusedVariables false
set_option linter.unusedSimpArgs false
set_option linter.unusedSectionVars false
namespace Go.Proofs.YtobfeflheaobiaaGreatDoor
structure Mg where
 k:Int
 i:Id
 t:cw
 l:List cw
 n:Int
 o:ByteArray
 d:ByteArray
theorem Fw {a b:Mg} (hk:a.k=b.k) (hi:a.i=b.i) (ht:a.t=b.t) (hl:a.l=b.l) (hn:a.n=b.n) (ho:a.o=b.o) (hd:a.d=b.d):a=b:=by
 cases a;cases b;simp_all
def Gd (a b:Mg):Bool:=decide (a.k=b.k) && decide (a.i=b.i) && decide (a.t=b.t) && decide (a.l=b.l) && decide (a.n=b.n) && decide (a.o=b.o) && decide (a.d=b.d)
theorem yk (a b:Mg):Gd a b=true↔a=b:=by
 unfold Gd
 simp only [Bool.and_eq_true,decide_eq_true_eq]
 constructor
 ·rintro ⟨⟨⟨⟨⟨⟨h1,h2⟩,h3⟩,h4⟩,h5⟩,h6⟩,h7⟩;exact Fw h1 h2 h3 h4 h5 h6 h7
 ·rintro rfl;simp
def mZ:Mg:=⟨0,0#256,(0,0#256,0),[],0,⟨#[]⟩,⟨#[]⟩⟩
def a8 (m:Mg) (v:Value):Array Value:=(Value.int .i64 m.k::((aw m.i).toList++((bc m.t).toList++[v,.int .i64 m.n,.string m.o,.string m.d]))).toArray
theorem iA (a:Id):(aw a).toList.length=32:=by rw [Array.length_toList,am]
theorem wY (e:cw):(bc e).toList.length=34:=by rw [Array.length_toList,aK]
@[simp] theorem aF (m:Mg) (v:Value):(a8 m v).size=71:=by
  simp only [a8,List.size_toArray,List.length_cons,List.length_append,iA,wY,List.length_nil]
theorem fM (m:Mg) (v:Value):(a8 m v).toList=Value.int .i64 m.k::((aw m.i).toList++((bc m.t).toList++[v,.int .i64 m.n,.string m.o,.string m.d])):=rfl
theorem lD (m:Mg) (v:Value):(a8 m v)[0]? = some (.int .i64 m.k):=rfl
theorem i7 (m:Mg) (v:Value) (j:Nat):(a8 m v)[67+j]? = ([v,.int .i64 m.n,.string m.o,.string m.d]:List Value)[j]? := by
 rw [← Array.getElem?_toList,fM,show 67+j=(66+j)+1 from by omega,List.getElem?_cons_succ,List.getElem?_append_right (by rw [iA];omega),iA,List.getElem?_append_right (by rw [wY];omega),wY]
 congr 1;omega
theorem fF (m:Mg) (v:Value):(a8 m v)[67]? = some v:=i7 m v 0
theorem eo (m:Mg) (v:Value):(a8 m v)[68]? = some (.int .i64 m.n):=i7 m v 1
theorem jX (m:Mg) (v:Value):(a8 m v)[69]? = some (.string m.o):=i7 m v 2
theorem mR (m:Mg) (v:Value):(a8 m v)[70]? = some (.string m.d):=i7 m v 3
theorem lO {C:Array Value} {a n:Nat} {D:Array Value} (h:(C.toList.drop a).take n=D.toList):C.extract a (a+n)=D:=by
 apply Array.ext'
 rw [← h,Array.toList_extract,List.extract_eq_take_drop,Nat.add_sub_cancel_left]
theorem eM (m:Mg) (v:Value):(a8 m v).extract 1 (1+32)=aw m.i:=lO (by
 rw [fM,List.drop_succ_cons,List.drop_zero,List.take_append_of_le_length (by rw [iA];omega),List.take_of_length_le (by rw [iA];omega)])
theorem dS (m:Mg) (v:Value):(a8 m v).extract 33 (33+34)=bc m.t:=lO (by
 rw [fM,show (33:Nat)=32+1 from rfl,List.drop_succ_cons,List.drop_append_of_le_length (by rw [iA];omega),List.drop_of_length_le (by rw [iA];omega),List.nil_append,List.take_append_of_le_length (by rw [wY];omega),List.take_of_length_le (by rw [wY];omega)])
theorem cH (m:Mg) (v:Value) (hv:v.oneCell'=true):∀ u∈(a8 m v).toList,u.oneCell'=true:=by
 intro u hu
 rw [fM] at hu
 simp only [List.mem_cons,List.mem_append,List.not_mem_nil,or_false] at hu
 rcases hu with rfl|hu|hu|rfl|rfl|rfl|rfl
 ·rfl
 ·exact c8 _ _ hu
 ·exact fO _ _ hu
 ·exact hv
 ·rfl
 ·rfl
 ·rfl
def xW (k:Int):Bool:=decide (1≤k) && decide (k≤10)
def rD (k:Int):Bool:=decide (2≤k) && decide (k≤10)
def qm (k:Int):Bool:=decide (2≤k) && decide (k≤6)
def qt (k:Int):Bool:=decide (k=1)
def pH (k:Int):Bool:=decide (k=1) || decide (k=2) || decide (k=4) || (decide (8≤k) && decide (k≤10))
def tL (k:Int):Bool:=decide (k=3) || decide (k=4) || decide (k=6)
def uj (k:Int):Bool:=decide (k=1)
def ei (k:Int):Array Value:=#[.bool (rD k),.bool (qm k),.bool (qt k),.bool (pH k),.bool (tL k),.bool (uj k)]
def c1 (m:Mg):Bool:=bif rD m.k then true else decide (m.i=0#256)
def c2 (m:Mg):Bool:=bif qm m.k then eR m.t else decide (m.t=(0,0#256,0))
def c3 (m:Mg):Bool:=bif qt m.k then iH m.l else decide (m.l.length=0)
def c4 (m:Mg):Bool:=bif pH m.k then (decide (0≤m.n) && decide (m.n≤1099511627776)) else decide (m.n=0)
def c5 (m:Mg):Bool:=bif tL m.k then decide (m.o.size=16) else decide (m.o=⟨#[]⟩)
def c6 (m:Mg):Bool:=bif uj m.k then decide (m.d.size≤64) else decide (m.d=⟨#[]⟩)
def cN (m:Mg):Bool:=xW m.k && c1 m && c2 m && c3 m && c4 m && c5 m && c6 m
def JP (k:Int) (i:Id):List Nat:=bif rD k then Kp i else []
def I6 (k:Int) (t:cw):List Nat:=bif qm k then 1::JN t else []
def vI (k:Int) (r:ByteArray):Id:=bif rD k then qG (sb r) else 0#256
def rI (k:Int) (r:ByteArray):ByteArray:=bif rD k then sr r 32 else r
def vT (k:Int) (r:ByteArray):cw:=bif qm k then (xZ r).2.1.getD 0 (0,0#256,0) else (0,0#256,0)
def rT (k:Int) (r:ByteArray):ByteArray:=bif qm k then sr r (xZ r).2.2 else r
def rS (k:Int) (r:ByteArray):ByteArray:=bif qt k then sr r (xZ r).2.2 else r
def kS (s:ByteArray):Int:=((sb s 0:Nat):Int)
def q0 (s:ByteArray):ByteArray:=sr s 1
def q1 (s:ByteArray):ByteArray:=rI (kS s) (q0 s)
def q2 (s:ByteArray):ByteArray:=rT (kS s) (q1 s)
def q3 (s:ByteArray):ByteArray:=rS (kS s) (q2 s)
theorem l4 {m:Mg} (h:cN m=true):xW m.k=true∧c1 m=true∧c2 m=true∧c3 m=true∧c4 m=true∧c5 m=true∧c6 m=true:=by
 unfold cN at h
 simp only [Bool.and_eq_true] at h
 obtain ⟨⟨⟨⟨⟨⟨h0,h1⟩,h2⟩,h3⟩,h4⟩,h5⟩,h6⟩:=h
 exact ⟨h0,h1,h2,h3,h4,h5,h6⟩
theorem vy (k:Int):xW k=true↔1≤k∧k≤10:=by simp [xW]
theorem lS (k:Int):∀ v∈(ei k).toList,v.oneCell'=true:=by
 intro v hv
 simp only [ei,List.mem_cons,List.not_mem_nil,or_false] at hv
 rcases hv with rfl|rfl|rfl|rfl|rfl|rfl<;>rfl
theorem As {k:Int} (h:xW k=false):¬ (1≤k∧k≤10):=fun hk=>by
 rw [(vy k).2 hk] at h;cases h
theorem DE {k:Int} (h:xW k=false):ei k=ei 0:=by
 have hk:=As h
 have h1:rD k=false:=by unfold rD;simp;omega
 have h2:qm k=false:=by unfold qm;simp;omega
 have h3:qt k=false:=by unfold qt;simp;omega
 have h4:pH k=false:=by unfold pH;simp;omega
 have h5:tL k=false:=by unfold tL;simp;omega
 have h6:uj k=false:=by unfold uj;simp;omega
 unfold ei;rw [h1,h2,h3,h4,h5,h6];rfl
theorem cT (k:Int) (n:Int) (v:Value) (b:Nat) (r:List MapEntry) (i:Nat):Instr.findNow (.int .i64) (.int .i64 k) ({key:=.int .i64 n,val:=v,born:=b}::r) i=if k=n then some (some (i,v)) else Instr.findNow (.int .i64) (.int .i64 k) r (i+1):=by
 rw [Instr.findNow]
 show (match (if IntKind.i64=IntKind.i64 then some (k == n) else none) with|some true=>some (some (i,v))|some false=>Instr.findNow (.int .i64) (.int .i64 k) r (i+1)|none=>none)=_
 rw [if_pos rfl]
 by_cases h:k=n
 ·subst h;simp
 ·have:(k == n)=false:=by simpa using h
  rw [this,if_neg h]
def wg:List MapEntry:=[⟨.int .i64 1,.agg (ei 1),0⟩,⟨.int .i64 2,.agg (ei 2),1⟩,⟨.int .i64 3,.agg (ei 3),2⟩,⟨.int .i64 4,.agg (ei 4),3⟩,⟨.int .i64 5,.agg (ei 5),4⟩,⟨.int .i64 6,.agg (ei 6),5⟩,⟨.int .i64 7,.agg (ei 7),6⟩,⟨.int .i64 8,.agg (ei 8),7⟩,⟨.int .i64 9,.agg (ei 9),8⟩,⟨.int .i64 10,.agg (ei 10),9⟩]
theorem r7 (k:Int):Instr.findNow (.int .i64) (.int .i64 k) wg 0=if k=1 then some (some (0,.agg (ei 1))) else if k=2 then some (some (1,.agg (ei 2))) else if k=3 then some (some (2,.agg (ei 3))) else if k=4 then some (some (3,.agg (ei 4))) else if k=5 then some (some (4,.agg (ei 5)))
 else if k=6 then some (some (5,.agg (ei 6))) else if k=7 then some (some (6,.agg (ei 7))) else if k=8 then some (some (7,.agg (ei 8))) else if k=9 then some (some (8,.agg (ei 9))) else if k=10 then some (some (9,.agg (ei 10))) else some none:=by
 unfold wg
 rw [cT,cT,cT,cT,cT,cT,cT,cT,cT,cT,Instr.findNow]
theorem qS (k:Int):(∃ j,Instr.findNow (.int .i64) (.int .i64 k) wg 0=some (some (j,.agg (ei k)))∧xW k=true)∨(Instr.findNow (.int .i64) (.int .i64 k) wg 0=some none∧Value.agg (ei k)=.agg (ei 0)∧xW k=false):=by
 rw [r7]
 cases h:xW k
 ·have hk:=As h
  refine .inr ⟨?_,congrArg Value.agg (DE h),rfl⟩
  rw [if_neg (by omega),if_neg (by omega),if_neg (by omega),if_neg (by omega),if_neg (by omega),if_neg (by omega),if_neg (by omega),if_neg (by omega),if_neg (by omega),if_neg (by omega)]
 ·have hk:=(vy k).1 h
  have:k=1∨k=2∨k=3∨k=4∨k=5∨k=6∨k=7∨k=8∨k=9∨k=10:=by omega
  rcases this with rfl|rfl|rfl|rfl|rfl|rfl|rfl|rfl|rfl|rfl
  ·exact .inl ⟨0,by simp,rfl⟩
  ·exact .inl ⟨1,by simp,rfl⟩
  ·exact .inl ⟨2,by simp,rfl⟩
  ·exact .inl ⟨3,by simp,rfl⟩
  ·exact .inl ⟨4,by simp,rfl⟩
  ·exact .inl ⟨5,by simp,rfl⟩
  ·exact .inl ⟨6,by simp,rfl⟩
  ·exact .inl ⟨7,by simp,rfl⟩
  ·exact .inl ⟨8,by simp,rfl⟩
  ·exact .inl ⟨9,by simp,rfl⟩
theorem jg:a8 mZ (.slice none 0 0)=(Value.int .i64 0::(List.replicate 32 (Value.int .u8 0)++(Value.int .i64 0::(List.replicate 32 (Value.int .u8 0)++[Value.int .i64 0])++[Value.slice none 0 0,.int .i64 0,.string ⟨#[]⟩,.string ⟨#[]⟩]))).toArray:=by
 unfold a8
 show (Value.int .i64 0::((aw 0#256).toList++((bc (0,0#256,0)).toList++_))).toArray=_
 rw [eV]
 have:(aw 0#256).toList=List.replicate 32 (Value.int .u8 0):=by
  have:=eV
  unfold bc at this
  have h2:=congrArg Array.toList this
  simp only [List.cons.injEq,true_and] at h2
  exact List.append_cancel_right h2
 rw [this];rfl
def fZ:List (List Value):=[[.bool false],[.bool false],[.bool false],[.bool false],[.bool false],[.bool false]]
theorem xD {m:Mg} (h:c4 m=true):0≤m.n:=by
 unfold c4 at h
 cases hk:pH m.k
 ·rw [hk] at h;have:=of_decide_eq_true h;omega
 ·rw [hk] at h;simp only [cond_true,Bool.and_eq_true,decide_eq_true_eq] at h;exact h.1
def KV (m:Mg):List Nat:=[m.k.toNat]
def KO (m:Mg):List Nat:=KV m++JP m.k m.i
def IQ (m:Mg):List Nat:=KO m++I6 m.k m.t
def A7:List (List Value):=[[.int .i64 0],List.replicate 32 (.int .u8 0),.int .i64 0::(List.replicate 32 (.int .u8 0)++[.int .i64 0]),[.slice none 0 0],[.int .i64 0],[.string ⟨#[]⟩],[.string ⟨#[]⟩]]
theorem JR:(Value.int .i64 0::(List.replicate 32 (Value.int .u8 0)++[Value.int .i64 0]))=(bc (0,0#256,0)).toList:=by rw [eV]
variable {P:Program} {ρ:Operand→Value} {d:Option Tmp} {ty:TypeId} {pos:String} {af:Array Edge} {g:Option (Nat × Bool)} {x y:Operand} {t:TypeId}
theorem eH (S:Stt P t A7):aD P ⟨d,.build t #[],ty,pos,af,g⟩ ρ (.agg (a8 mZ (.slice none 0 0))):=by
 rw [jg]
 exact aW S [] rfl (fun _ _ h=>by cases h) rfl
def Ki (t:TypeId):List PanicEntry:=[{v:=.iface t (.int .i64 5),recovered:=false}]
def MR (t:TypeId) (ok:Bool) (T:Value→World→Prop) (F:World→Prop):Ending→World→Prop:=fun e w=>(ok=true∧∃ v,e=.returned v∧T v w)∨(ok=false∧∃ ch,e=.panicked ch∧ch=Ki t∧F w)
theorem MR.no {t:TypeId} {ok:Bool} {T:Value→World→Prop} {F:World→Prop} {f:FuncId} {a:Array Value} {w:World} (h:Calls P f a w (MR t ok T F)) (hok:ok=false):Calls P f a w (fun e w'=>∃ ch,e=.panicked ch∧(ch=Ki t∧F w')):=
 h.mono fun e w' hx=>by
  rcases hx with ⟨h0,_⟩|⟨_,ch,r⟩
  ·rw [hok] at h0;cases h0
  ·exact ⟨ch,r⟩
def p1 (s:ByteArray):Mg:={mZ with k:=kS s}
def p2 (s:ByteArray):Mg:={p1 s with i:=vI (kS s) (q0 s)}
def p3 (s:ByteArray):Mg:={p2 s with t:=vT (kS s) (q1 s)}
section
variable {s:ByteArray}
end
end Go.Proofs.YtobfeflheaobiaaGreatDoor
namespace Go.Proofs.YtobfeflheaobiaaGreatDoor
def t5 (m:Mg) (v:Value) (r:ByteArray) (ok:Bool):Array Value:=((a8 m v).toList++([.string r,.bool ok]:List Value)).toArray
theorem JT (m:Mg) (v:Value):(a8 m v).toList.length=71:=by rw [Array.length_toList,aF]
@[simp] theorem IW (m:Mg) (v:Value) (r:ByteArray) (ok:Bool):(t5 m v r ok).size=73:=by
  simp only [t5,List.size_toArray,List.length_append,JT,List.length_cons,List.length_nil]
section
variable {P:Program} {ρ:Operand→Value} {d:Option Tmp} {ty:TypeId} {pos:String} {af:Array Edge} {g:Option (Nat × Bool)} {x y:Operand} {t:TypeId}
end
section
variable {s:ByteArray}
end
def nd (s:ByteArray):Nat:=(bif pH (kS s) then 8 else 0)+(bif tL (kS s) then 16 else 0)
section
variable {s:ByteArray}
end
section
variable {s:ByteArray}
end
section
variable {s:ByteArray}
end
theorem vE (m:Mg) (v:Value):(a8 m v)[33]? = some (.int .i64 m.t.1):=by
 have h:=congrArg (fun D:Array Value=>D[0]?) (dS m v)
 simp only [dC] at h
 rw [← h,Array.getElem?_extract,if_pos (by rw [aF];omega)]
end Go.Proofs.YtobfeflheaobiaaGreatDoor
namespace Go.Proofs.YtobfeflheaobiaaGreatDoor
open Go.RowKit Go.ChangeShapes Go.WideShapes Go.ChangeAt
end Go.Proofs.YtobfeflheaobiaaGreatDoor
