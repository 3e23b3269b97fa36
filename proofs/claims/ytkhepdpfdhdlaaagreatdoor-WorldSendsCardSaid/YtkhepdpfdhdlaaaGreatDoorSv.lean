/- Servers: their triggers, what they send, what they take; servers that come in; no Go in it. -/
import Derived.Test.YtkhepdpfdhdlaaaGreatDoorGd
set_option linter.unusedVariables false
set_option linter.unusedSimpArgs false
set_option linter.unusedSectionVars false
namespace Go.Proofs.YtkhepdpfdhdlaaaGreatDoor
open Go.RowKit
instance:DecidableEq Mg:=λa b=>decidable_of_iff (Qh a b=true) (Ii a b)
structure Sv where
 no:Int
 sec:ByteArray
 tb:List Tg
deriving DecidableEq
def M8:Sv:=⟨0,ByteArray.empty,[]⟩
def QU (n:Int) (s:ByteArray) (v:Value):List Value:=[.int .i64 n,.string s,v]
def de (n:Int) (s:ByteArray) (v:Value):Array Value:=(QU n s v).toArray
theorem cB (n:Int) (s:ByteArray) (v:Value):(de n s v).size=3:=rfl
theorem kR {v:Value} (n:Int) (s:ByteArray) (hv:v.oneCell'=true):∀ u∈(de n s v).toList,u.oneCell'=true:=λu hu=>by
 have hu:u∈QU n s v:=hu
 unfold QU at hu
 simp only [YH,YK,or_false] at hu
 rcases hu with rfl|rfl|rfl
 ·rfl
 ·rfl
 ·exact hv
theorem ED (n:Int) (s:ByteArray) (v:Value):(de n s v)[0]? = some (.int .i64 n):=rfl
theorem VR (n:Int) (s:ByteArray) (v:Value):(de n s v)[1]? = some (.string s):=rfl
theorem TN (n:Int) (s:ByteArray) (v:Value):(de n s v)[2]? = some v:=rfl
def Xv:List (List Value):=[[.int .i64 0],[.string ByteArray.empty],[.slice none 0 0]]
abbrev Se:=Int × Mg × Tg
abbrev S2:=Se × Value
instance:DecidableEq Se:=λa b=>inferInstanceAs (Decidable (a=b))
instance (a b:List Se):Decidable (a=b) := @instDecidableEqList Se _ a b
def Du:Se:=(0,mZ,eg)
def gM:S2:=(Du,aj)
def LR (n:Int) (m:Mg) (v:Value) (t:Tg):List Value:=.int .i64 n::((cW m v).toList++oF t)
def bK (n:Int) (m:Mg) (v:Value) (t:Tg):Array Value:=(LR n m v t).toArray
theorem Eb (m:Mg) (v:Value):(cW m v).toList.length=71:=by rw [YD,dp]
theorem Bh (n:Int) (m:Mg) (v:Value) (t:Tg):(LR n m v t).length=139:=by simp [LR,j8]
theorem bC (n:Int) (m:Mg) (v:Value) (t:Tg):(bK n m v t).size=139:=by simp [bK,Bh]
theorem d7 {v:Value} (n:Int) (m:Mg) (t:Tg) (hv:v.oneCell'=true):∀ u∈(bK n m v t).toList,u.oneCell'=true:=λu hu=>by
 have hu:u∈LR n m v t:=hu
 unfold LR at hu
 rcases YH.1 hu with rfl|hu
 ·rfl
 ·rcases Y4.1 hu with hu|hu
  ·exact kl m v hv u hu
  ·exact l9 t u hu
section
variable (n:Int) (m:Mg) (v:Value) (t:Tg)
theorem R7:(bK n m v t)[0]? = some (.int .i64 n):=rfl
theorem VY:(bK n m v t).extract 1 (1+71)=cW m v:=jZ _ _ _ _ (by
 show ((cW m v).toList++oF t).take 71=_
 rw [List.take_left' (Eb m v)])
end
def UT (x:S2):List Value:=LR x.1.1 x.1.2.1 x.2 x.1.2.2
theorem JQ (x:S2):(UT x).length=139:=Bh ..
def dm (l:List S2):List Value:=l.flatMap UT
theorem nE (l r:List S2):dm (l++r)=dm l++dm r:=Zh
theorem WY {l:List S2} {j:Nat} (hj:j<l.length):l[j]=l.getD j gM:=by rw [YR,Yz hj];rfl
theorem Ul (l:List S2) (j:Nat) (hj:j<l.length):(((dm l).drop (j*139)).take 139).toArray=bK (l.getD j gM).1.1 (l.getD j gM).1.2.1 (l.getD j gM).2 (l.getD j gM).1.2.2:=by
 unfold dm
 rw [dS _ 139 JQ l j hj,WY hj];rfl
theorem ym {l:List S2} {j:Nat} (hj:j<l.length):l.getD j gM∈l:=by rw [← WY hj];exact Zq hj
theorem Ox (x:S2):([Value.agg (bK x.1.1 x.1.2.1 x.2 x.1.2.2)].flatMap λv=>v.cells.toList)=UT x:=by simp [Value.cells,bK,UT]
theorem N4 (K:List S2) (x:S2):dm K++([Value.agg (bK x.1.1 x.1.2.1 x.2 x.1.2.2)].flatMap λv=>v.cells.toList)=dm (K++[x]):=by rw [Ox,nE];simp [dm]
theorem SL (x:S2):∀ v∈([.agg (bK x.1.1 x.1.2.1 x.2 x.1.2.2)]:List Value),v.cells.size=139:=λv hv=>by
 rw [YF] at hv;subst hv;exact bC ..
def My (K:List S2) (w:World):Prop:=∀ x∈K,ez w x.2 x.1.2.1.l
def iq (K:List S2):List Se:=K.map (·.1)
theorem Ae (w:World):My [] w:=λ_ h=>by cases h
theorem ES {w:World} {K:List S2} {x:Se} {u:Value} (h:My K w) (hu:ez w u x.2.1.l):My (K++[(x,u)]) w:=λy hy=>by
 rcases Y4.1 hy with hy|hy
 ·exact h y hy
 ·rw [YF.1 hy];exact hu
theorem Kp {K:List S2} {w:World} (h:My K w):∀ u∈dm K,u.oneCell'=true:=λu hu=>by
 obtain ⟨x,hx,hu⟩:=List.mem_flatMap.1 hu
 exact d7 _ _ _ (bf (h x hx)) u hu
def eL (s:Sv):Bool:=decide (0<=s.no) && (decide (s.no<=15) && (decide (s.sec.size<=64) && iW s.tb))
def Ps (m:Mg):Bool:=decide (m.k=1) || qz m
def wM (p:Pk):Mg:=⟨1,0#256,(0,0#256,0),p.1,p.2.1,⟨#[]⟩,p.2.2⟩
def Vb (m:Mg):Mg:=⟨5,m.i,m.t,[],0,⟨#[]⟩,⟨#[]⟩⟩
def Si (i:Id):Mg:=⟨7,i,(0,0#256,0),[],0,⟨#[]⟩,⟨#[]⟩⟩
def SQ (i:Id) (n:Int):Mg:=⟨8,i,(0,0#256,0),[],n,⟨#[]⟩,⟨#[]⟩⟩
structure Hr where
 s:Sv
 l:List Se
 e:Int
def Wl (s s0:Sv) (fr:Int) (m:Mg) (now:Int):Hr:=
 bif decide (Pu s.sec m=1) then ⟨s,[(16+m.t.2.2,Wi s.sec m,eg)],0⟩ else
 bif decide (Pu s.sec m=2) then (bif decide ((Lh s.tb (Oa m now)).length<=32) then ⟨⟨s.no,s.sec,Lh s.tb (Oa m now)⟩,[(fr,Vb m,eg)],0⟩ else ⟨s0,[],8⟩) else
 bif decide (Pu s.sec m=3) then (bif decide ((DO s.tb m.i m.t).2.2<0) then ⟨s0,[],6⟩ else ⟨⟨s.no,s.sec,R5 s.tb m.i m.t⟩,[],0⟩) else ⟨s0,[],11⟩
def SH (p:Pk):Id:=(vH p).2.1
def VQ (fr:Int) (p:Pk) (o:Ot):List Se:=
 bif decide (o.k=1) then [(16+o.h,wM o.p,eg)] else
 bif decide (o.k=2) then (bif decide ((vH o.p).1=2) then [(16+(vH o.p).2.2,wM o.p,o.t)] else [(-1,wM o.p,o.t)]) else
 bif decide (o.y=6) && decide (16<=fr) then [(fr,Si (SH p),eg)] else []
def U6 (fr:Int) (p:Pk) (R:List Ot):List Se:=R.flatMap (VQ fr p)
def Wh (fr:Int) (o:Ot):Bool:=decide (o.k=3) && (decide (o.y=6) && decide (16<=fr))
def CO (m:Mg):Pk:=(m.l,min m.n 64,m.d)
noncomputable def VC (s:Sv) (fr:Int) (m:Mg):List Se:=
 U6 fr (CO m) (LX s.tb (CO m))++bif decide (16<=fr) && (decide ((vH (CO m)).1=1) && !(LX s.tb (CO m)).any (Wh fr)) then [(fr,SQ (SH (CO m)) s.no,eg)] else []
def PK (s:Sv) (now:Int):Sv:=⟨s.no,s.sec,VB s.tb now⟩
def Wq (s:Sv) (fr:Int) (m:Mg) (now:Int):Bool:=eL s && (cR m && (decide (0<=fr) && (decide (fr<=31) && (decide (0<=now) && (decide (now<=1099511627776) && Ps m)))))
noncomputable def ze (s:Sv) (fr:Int) (m:Mg) (now:Int):Hr:=
 bif Wq s fr m now then (bif decide (m.k=1) then ⟨PK s now,VC (PK s now) fr m,0⟩ else Wl (PK s now) s fr m now) else ⟨M8,[],1⟩
def Qs:List Tg->List Tg × Nat->List Tg × Nat
 |[],a=>a
 |x::l,a=>Qs l (bif decide ((Lh a.1 x).length<=32) then (Lh a.1 x,a.2) else (a.1,a.2+1))
theorem Fq {m:Mg} (h:cR m=true) (hk:m.k=1):t2 (CO m)=true:=by
 obtain ⟨_,_,_,h3,h4,_,h6⟩:=gV h
 unfold c3 at h3;unfold c4 at h4;unfold c6 at h6
 rw [hk] at h3 h4 h6
 simp [kz,jg,qg] at h3 h4 h6
 refine iO.2 ⟨ee _ |>.1 h3,?_,?_,h6⟩
 ·show 0<=min m.n 64;omega
 ·show min m.n 64<=64;omega
theorem yz {p:Pk} (h:t2 p=true):cR (wM p)=true:=by
 obtain ⟨h1,h2,h3,h4⟩:=iO.1 h
 unfold cR c1 c2 c3 c4 c5 c6 wM
 simp [yF,mQ,lS,kz,jg,pP,qg,(ee _).2 h1,h2,h4]
 omega
def US:List (List Value):=[[.int .i64 0],P4.flatten,LA.flatten]
theorem La:bK 0 mZ aj eg=US.flatten.toArray:=by
 unfold bK LR
 rw [BR,pg];rfl
section
variable {P:Program} {ρ:Operand->Value} {d:Option Tmp} {ty:TypeId} {pos:String} {af:Array Edge} {g:Option (Nat × Bool)} {x y z:Operand} {t:TypeId}
end
section
variable (n:Int) (s:ByteArray) (v u:Value) (e:Int)
end
section
variable {P:Program} {ρ:Operand->Value} {d:Option Tmp} {ty:TypeId} {pos:String} {af:Array Edge} {g:Option (Nat × Bool)} {x y z:Operand} {t:TypeId}
end
theorem EQ {w w':World} {K:List S2} (h:My K w) (e:Ext w w'):My K w':=λx hx=>(h x hx).keep e
section
variable {w w':World} {vt vw vs:Value} {tb tb0:List Tg} {l:List cO} {H:Hr} {N M:TypeId} {s':Sv} {L:List Se} {e:Int}
end
def zZ (w:World) (v:Value) (K:List S2):Prop:=bp w v 139 K.length (dm K)/\My K w
theorem zZ.keep {w w':World} {v:Value} {K:List S2} (h:zZ w v K) (e:Ext w w'):zZ w' v K:=⟨h.1.keep e,EQ h.2 e⟩
def QZ (l tb:List Tg) (k:Nat):List Tg × Nat:=Qs (l.take k) (tb,0)
def XG (s:Sv) (l:List Tg):Bool:=eL s && iW l
def XE (s:Sv) (l:List Tg):Sv:=bif XG s l then ⟨s.no,s.sec,(Qs l (s.tb,0)).1⟩ else M8
section
variable {s:Sv} {l:List Tg} {a b:Id}
end
end Go.Proofs.YtkhepdpfdhdlaaaGreatDoor
namespace Go.Proofs.YtkhepdpfdhdlaaaGreatDoor
open Go.RowKit Go.ChangeShapes Go.WideShapes Go.ChangeAt
theorem lE {H α:Type} {enc:TypeId × Value->H} {P:Program} {W:World} {ts t:TypeId} {fuel:Nat} {cs:List Value} {x:DataW H × List MemPlace} (C:α->Array Value) (sz:Nat) (h0:0<sz) (hC:∀ a,(C a).size=sz) (z:α)
 (hts:P.underlying ts=some (.slice t)) (hct:P.cellsOf t=sz) (op:∀ (fuel:Nat) (cs:List Value) (x:DataW H × List MemPlace),DataW.trod enc P W 0 (λ_=>true) true fuel t cs=some x->∃ l:α,cs=(C l).toList)
 (hf:DataW.trod enc P W 0 (λ_=>true) true fuel ts cs=some x):∃ (v:Value) (ls:List α),cs=[v]/\bp W v sz ls.length (ls.flatMap λa=>(C a).toList):=by
 rcases Go.Deep.open_slice hts hf with ⟨hcs,_⟩|⟨a',len,cap,m,k,D,Pl,hcs,_,hl,_,hm,_,hel⟩
 ·exact ⟨_,[],hcs,by simp,.inl ⟨rfl,rfl⟩⟩
 ·have hml:len<=m:=by rw [hm];split<;>omega
  have each:∀ i,∃ l:α,i<len->aJ W (a'.add (i*sz)) (C l):=λi=>by
   by_cases hi:i<len
   ·obtain ⟨cs',hc1,hc2⟩:=hel i (by omega)
    obtain ⟨l,rfl⟩:=op _ _ _ hc2
    refine ⟨l,λ_ j u hj=>?_⟩
    rw [hct] at hc1
    obtain ⟨_,hlen,hall⟩:=World.cells?_some hc1
    have hj34:j<sz:=by have:=(ZA.1 hj).1;rw [hC] at this;exact this
    have:=hall j hj34
    rw [this,Zy];exact hj
   ·exact ⟨z,λh9=>ZF h9 hi⟩
  obtain ⟨L,hL⟩:=Classical.axiomOfChoice each
  refine ⟨_,(List.range len).map L,hcs,?_,.inr ⟨a',cap,by simp,by simpa using hl,?_⟩⟩
  ·exact dW _ sz (λa=>by rw [YD,hC]) _
  ·refine js _ sz h0 (λx=>by rw [YD,hC]) _ λi hi=>?_
   have hi':i<len:=by simpa using hi
   have:=hL i hi'
   simpa using this
section
variable {P:Program} {ρ:Operand->Value} {d:Option Tmp} {ty t t':TypeId} {pos:String} {af:Array Edge} {g:Option (Nat × Bool)} {x:Operand}
end
def UJ (P:Program) (T:TypeId) (rv:Value) (nm:String) (f:FuncId):Prop:=∀ w,(method (P.types.size+Made.depth) T rv nm).run P w=.ok (f,rv) w
theorem zF {P:Program} {ρ:Operand->Value} {dst:Option Tmp} {g:Option (Nat × Bool)} {ty:TypeId} {pos:String} {af:Array Edge} {f:FuncId} {T:TypeId} {rv:Value} {nm:String} {cal:Operand} {tys:Array TypeId} {w:World} (hf:Fnc P f)
 (hm:UJ P T rv nm f) (hc:ρ cal=.iface T rv) {R:Value->World->Prop} (hC:Calls P f #[rv] w λe w'=>∃ v,e=.returned v/\R v w'):cN P ⟨dst,.call {callee:=.invoke cal nm,args:=#[],argTypes:=tys},ty,pos,af,g⟩ ρ w R:=by
 obtain ⟨fn,h1,h2,h3⟩:=hf.has
 unfold cN
 have hm':=hm w
 simp only [execOp,resolve,hc,Zc,Zd,YA,invoke,callMethod]
 have e0:(#[Value.iface T rv]++Array.map ρ #[])[0]? = some (Value.iface T rv):=by simp
 rw [e0]
 simp only [callMethod,Zc,show ∀ w,Sem.run P program w=.ok P w from λ_=>rfl,YA,hm']
 have e1:#[rv]++(#[Value.iface T rv]++Array.map ρ #[]).extract 1=#[rv]:=by simp
 rw [e1]
 rw [eC h1 h2 h3]
 exact hC
section
variable {P:Program} {ops:Array Oper} {Q:Act->World->Prop} {l:List Oper} {a:Act} {w w0:World} {N:Nat} {L:List (Nat × Value)} {Df:List Deferred} {B:List Own} {d:Tmp} {ty:TypeId} {pos:String} {af:Array Edge}
end
section
variable {P:Program} {ops:List Oper} {K:Act->World->Prop} {l:List Oper} {a:Act} {w:World} {N:Nat} {L:List (Nat × Value)} {Df:List Deferred} {d:Tmp} {ty:TypeId} {pos:String} {af:Array Edge}
theorem j5 {f:FuncId} {T9:TypeId} {rv X:Value} {nm:String} {cal:Operand} {tys:Array TypeId} (h:Sl N a L Df) (hf:Fnc P f) (hm:UJ P T9 rv nm f) (hc:dO L cal=some (.iface T9 rv))
 (hC:∀ w',Ext w w'->Calls P f #[rv] w' (bW w' (is X))) (hd:Nat.blt d N=true) (k:∀ a',Sl N a' ((d,X)::L) Df->gd P ops.toArray K w l a'):
 gd P ops.toArray K w (⟨some d,.call {callee:=.invoke cal nm,args:=#[],argTypes:=tys},ty,pos,af,none⟩::l) a:=
 iy X h (λw' hE=>zF hf hm (h.ev hc) (hC w' hE)) hd k
end
def ft (v:Value):Value:=match v with|.slice p n c=>.slice p n c|_=>.slice none 0 0
theorem uI (v:Value):(ft v).oneCell'=true:=by cases v<;>rfl
theorem yt {w:World} {v:Value} {sz n:Nat} {xs:List Value} (h:bp w v sz n xs):ft v=v:=by
 obtain ⟨a,c,rfl⟩:=h.len;rfl
end Go.Proofs.YtkhepdpfdhdlaaaGreatDoor
