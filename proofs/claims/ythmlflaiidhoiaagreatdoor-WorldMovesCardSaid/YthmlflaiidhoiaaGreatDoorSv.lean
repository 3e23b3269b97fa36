/- Servers: what they send, what they take. -/
import Derived.Test.YthmlflaiidhoiaaGreatDoorGd
set_option linter.unusedVariables false
set_option linter.unusedSimpArgs false
set_option linter.unusedSectionVars false
namespace Go.Proofs.YthmlflaiidhoiaaGreatDoor
open Go.RowKit
instance:DecidableEq Mg:=λa b=>decidable_of_iff (Xf a b=true) (Lo a b)
structure Sv where
 no:Int
 sec:ByteArray
 tb:List Tg
deriving DecidableEq
def qA:Sv:=⟨0,ByteArray.empty,[]⟩
def UA (n:Int) (s:ByteArray) (v:Value):List Value:=[.int .i64 n,.string s,v]
def bC (n:Int) (s:ByteArray) (v:Value):Array Value:=(UA n s v).toArray
theorem aG (n:Int) (s:ByteArray) (v:Value):(bC n s v).size=3:=rfl
theorem cA {v:Value} (n:Int) (s:ByteArray) (hv:v.oneCell'=true):∀ u∈(bC n s v).toList,u.oneCell'=true:=λu hu=>by
 have hu:u∈UA n s v:=hu
 unfold UA at hu
 simp only [aI6,aI9,or_false] at hu
 rcases hu with rfl|rfl|rfl
 ·rfl
 ·rfl
 ·exact hv
theorem CY (n:Int) (s:ByteArray) (v:Value):(bC n s v)[0]? = some (.int .i64 n):=rfl
theorem ar1 (n:Int) (s:ByteArray) (v:Value):(bC n s v)[1]? = some (.string s):=rfl
theorem yg (n:Int) (s:ByteArray) (v:Value):(bC n s v)[2]? = some v:=rfl
def svZ:List (List Value):=[[.int .i64 0],[.string ByteArray.empty],[.slice none 0 0]]
abbrev Se:=Int × Mg × Tg
abbrev S2:=Se × Value
instance:DecidableEq Se:=λa b=>inferInstanceAs (Decidable (a=b))
instance (a b:List Se):Decidable (a=b) := @instDecidableEqList Se _ a b
def Yq:Se:=(0,mZ,cr)
def TY (n:Int) (m:Mg) (v:Value) (t:Tg):List Value:=.int .i64 n::((eG m v).toList++pX t)
def dP (n:Int) (m:Mg) (v:Value) (t:Tg):Array Value:=(TY n m v t).toArray
theorem JV (m:Mg) (v:Value):(eG m v).toList.length=71:=by rw [aI2,eV]
theorem QU (n:Int) (m:Mg) (v:Value) (t:Tg):(TY n m v t).length=139:=by simp [TY,lh]
theorem co (n:Int) (m:Mg) (v:Value) (t:Tg):(dP n m v t).size=139:=by simp [dP,QU]
theorem gH {v:Value} (n:Int) (m:Mg) (t:Tg) (hv:v.oneCell'=true):∀ u∈(dP n m v t).toList,u.oneCell'=true:=λu hu=>by
 have hu:u∈TY n m v t:=hu
 unfold TY at hu
 rcases aI6.1 hu with rfl|hu
 ·rfl
 ·rcases aK9.1 hu with hu|hu
  ·exact ql m v hv u hu
  ·exact pK t u hu
section
variable (n:Int) (m:Mg) (v:Value) (t:Tg)
theorem Zt:(dP n m v t)[0]? = some (.int .i64 n):=rfl
theorem at8:(dP n m v t).extract 1 (1+71)=eG m v:=mL _ _ _ _ (by
 show ((eG m v).toList++pX t).take 71=_
 rw [List.take_left' (JV m v)])
end
def cW (s:Sv):Bool:=decide (0<=s.no) && (decide (s.no<=15) && (decide (s.sec.size<=64) && dz s.tb))
def X2 (m:Mg):Bool:=decide (m.k=1) || NC m
def At (p:Pk):Mg:=⟨1,0#256,(0,0#256,0),p.1,p.2.1,⟨#[]⟩,p.2.2⟩
def ax4 (m:Mg):Mg:=⟨5,m.i,m.t,[],0,⟨#[]⟩,⟨#[]⟩⟩
def ZG (i:Id):Mg:=⟨7,i,(0,0#256,0),[],0,⟨#[]⟩,⟨#[]⟩⟩
def Zg (i:Id) (n:Int):Mg:=⟨8,i,(0,0#256,0),[],n,⟨#[]⟩,⟨#[]⟩⟩
structure Hr where
 s:Sv
 l:List Se
 e:Int
def ar2 (s s0:Sv) (fr:Int) (m:Mg) (now:Int):Hr:=
 bif decide (XH s.sec m=1) then ⟨s,[(16+m.t.2.2,av3 s.sec m,cr)],0⟩ else
 bif decide (XH s.sec m=2) then (bif decide ((ce s.tb (XR m now)).length<=32) then ⟨⟨s.no,s.sec,ce s.tb (XR m now)⟩,[(fr,ax4 m,cr)],0⟩ else ⟨s0,[],8⟩) else
 bif decide (XH s.sec m=3) then (bif decide ((fq s.tb m.i m.t).2.2<0) then ⟨s0,[],6⟩ else ⟨⟨s.no,s.sec,lO s.tb m.i m.t⟩,[],0⟩) else ⟨s0,[],11⟩
def aj2 (p:Pk):Id:=(BG p).2.1
def ar4 (fr:Int) (p:Pk) (o:Ot):List Se:=
 bif decide (o.k=1) then [(16+o.h,At o.p,cr)] else
 bif decide (o.k=2) then (bif decide ((BG o.p).1=2) then [(16+(BG o.p).2.2,At o.p,o.t)] else [(-1,At o.p,o.t)]) else
 bif decide (o.y=6) && decide (16<=fr) then [(fr,ZG (aj2 p),cr)] else []
def ax7 (fr:Int) (p:Pk) (R:List Ot):List Se:=R.flatMap (ar4 fr p)
def aw6 (fr:Int) (o:Ot):Bool:=decide (o.k=3) && (decide (o.y=6) && decide (16<=fr))
def LK (m:Mg):Pk:=(m.l,min m.n 64,m.d)
noncomputable def ay0 (s:Sv) (fr:Int) (m:Mg):List Se:=
 ax7 fr (LK m) (T7 s.tb (LK m))++bif decide (16<=fr) && (decide ((BG (LK m)).1=1) && !(T7 s.tb (LK m)).any (aw6 fr)) then [(fr,Zg (aj2 (LK m)) s.no,cr)] else []
def VJ (s:Sv) (now:Int):Sv:=⟨s.no,s.sec,Xe s.tb now⟩
def av8 (s:Sv) (fr:Int) (m:Mg) (now:Int):Bool:=cW s && (ey m && (decide (0<=fr) && (decide (fr<=31) && (decide (0<=now) && (decide (now<=1099511627776) && X2 m)))))
noncomputable def DV (s:Sv) (fr:Int) (m:Mg) (now:Int):Hr:=
 bif av8 s fr m now then (bif decide (m.k=1) then ⟨VJ s now,ay0 (VJ s now) fr m,0⟩ else ar2 (VJ s now) s fr m now) else ⟨qA,[],1⟩
def lN:List Tg->List Tg × Nat->List Tg × Nat
 |[],a=>a
 |x::l,a=>lN l (bif decide ((ce a.1 x).length<=32) then (ce a.1 x,a.2) else (a.1,a.2+1))
theorem fk {s:Sv}:cW s=true↔0<=s.no/\s.no<=15/\s.sec.size<=64/\dz s.tb=true:=by
 unfold cW
 rw [aH5,aH5,aH5,aI0,aI0,aI0]
theorem DX {p:Pk} (h:DI p=true):ey (At p)=true:=by
 obtain ⟨h1,h2,h3,h4⟩:=uL.1 h
 unfold ey c1 c2 c3 c4 c5 c6 At
 simp [Fv,rY,qH,pq,oJ,vF,yJ,(fN _).2 h1,h2,h4]
 omega
def seZ:List (List Value):=[[.int .i64 0],Yh.flatten,LN.flatten]
theorem Sb:dP 0 mZ ax cr=seZ.flatten.toArray:=by
 unfold dP TY
 rw [FL,tA];rfl
section
variable {P:Program} {ρ:Operand->Value} {d:Option Tmp} {ty:TypeId} {pos:String} {af:Array Edge} {g:Option (Nat × Bool)} {x y z:Operand} {t:TypeId}
theorem kT (S:Stt P t svZ):aZ P ⟨d,.build t #[],ty,pos,af,g⟩ ρ (.agg (bC 0 ByteArray.empty ax)):=
 bw (P:=P) (ρ:=ρ) (d:=d) (ty:=ty) (pos:=pos) (af:=af) (g:=g) (parts:=#[]) S [] (by simp) (λi v hm=>by simp at hm) (D:=UA 0 ByteArray.empty ax) rfl
end
section
variable (n:Int) (s:ByteArray) (v u:Value) (e:Int)
end
section
variable {P:Program} {ρ:Operand->Value} {d:Option Tmp} {ty:TypeId} {pos:String} {af:Array Edge} {g:Option (Nat × Bool)} {x y z:Operand} {t:TypeId}
end
section
variable {w w':World} {vt vw vs:Value} {tb tb0:List Tg} {l:List dN} {H:Hr} {N M:TypeId} {s':Sv} {L:List Se} {e:Int}
end
def ie (l tb:List Tg) (k:Nat):List Tg × Nat:=lN (l.take k) (tb,0)
theorem OF (l:List Tg) (x:Tg) (a:List Tg × Nat):lN (l++[x]) a=bif decide ((ce (lN l a).1 x).length<=32) then (ce (lN l a).1 x,(lN l a).2) else ((lN l a).1,(lN l a).2+1):=by
 induction l generalizing a with
 |nil=>rfl
 |cons y l ih=>exact ih _
theorem Ab {l tb:List Tg} {k:Nat} (hk:k<l.length):ie l tb (k+1)=bif decide ((ce (ie l tb k).1 (l.getD k cr)).length<=32) then (ce (ie l tb k).1 (l.getD k cr),(ie l tb k).2) else ((ie l tb k).1,(ie l tb k).2+1):=by
 unfold ie
 rw [← OF,List.take_add_one,aH8 hk,aJ6,aH8 hk];rfl
theorem Sp (l tb:List Tg):ie l tb l.length=lN l (tb,0):=by unfold ie;rw [List.take_length]
theorem ML {l tb:List Tg} {k:Nat} (hk:k<l.length) (h:decide ((ce (ie l tb k).1 (l.getD k cr)).length<=32)=true):ie l tb (k+1)=(ce (ie l tb k).1 (l.getD k cr),(ie l tb k).2):=by rw [Ab hk,h];rfl
theorem OG {l tb:List Tg} {k:Nat} (hk:k<l.length) (h:decide ((ce (ie l tb k).1 (l.getD k cr)).length<=32)=false):ie l tb (k+1)=((ie l tb k).1,(ie l tb k).2+1):=by rw [Ab hk,h];rfl
theorem zD {l tb:List Tg} (ht:tb.length<=1000) (k:Nat):(ie l tb k).1.length<=1000/\(ie l tb k).2<=k:=by
 induction k with
 |zero=>exact ⟨ht,aJ1 _⟩
 |succ k ih=>
  rcases aJ4 k l.length with g|g
  ·cases h:decide ((ce (ie l tb k).1 (l.getD k cr)).length<=32)
   ·rw [OG g h];exact ⟨ih.1,Nat.succ_le_succ ih.2⟩
   ·rw [ML g h];have:=aG9 h;exact ⟨by show (ce _ _).length<=1000;omega,by show (ie l tb k).2<=k+1;omega⟩
  ·have e:ie l tb (k+1)=ie l tb k:=by unfold ie;rw [aJ9 g,aJ9 (by omega)]
   rw [e];exact ⟨ih.1,by omega⟩
def P1 (s:Sv) (l:List Tg):Bool:=cW s && dz l
def IU (s:Sv) (l:List Tg):Int:=bif P1 s l then 0 else 1
def gP (s:Sv) (l:List Tg):Sv:=bif P1 s l then ⟨s.no,s.sec,(lN l (s.tb,0)).1⟩ else qA
def IV (s:Sv) (l:List Tg):Nat:=bif P1 s l then (lN l (s.tb,0)).2 else 0
def OX (s:Sv):Int:=bif cW s then 0 else 1
def jR (s:Sv) (a b:Id):Sv:=bif cW s then ⟨s.no,s.sec,p5 s.tb a b false⟩ else qA
def mw (s:Sv) (a b:Id):List Tg:=bif cW s then p5 s.tb a b true else []
def HaP (w:World) (s:Sv) (vt:Value) (l:List Tg) (vh:Value):ez:=λv w'=>∃ p ks,v=.tuple #[.agg (bC (gP s l).no (gP s l).sec p),.int .i64 (IV s l:Int),.int .i64 (IU s l)]/\St w [.grp ks λw9=>eP w9 vt s.tb->eP w9 vh l->eP w9 p (gP s l).tb] w'
def GvP (w:World) (s:Sv) (vt:Value) (a b:Id):ez:=λv w'=>∃ p q ks,v=.tuple #[.agg (bC (jR s a b).no (jR s a b).sec p),q,.int .i64 (OX s)]/\St w [.grp ks λw9=>eP w9 vt s.tb->eP w9 p (jR s a b).tb/\eP w9 q (mw s a b)] w'
section
variable {s:Sv} {l:List Tg} {a b:Id}
theorem YU (h:cW s=true) (hl:dz l=true):IU s l=0/\gP s l=⟨s.no,s.sec,(lN l (s.tb,0)).1⟩/\IV s l=(lN l (s.tb,0)).2:=by unfold IU gP IV P1;rw [h,hl];exact ⟨rfl,rfl,rfl⟩
theorem aw3 (l:List Tg) (h:cW s=false):IU s l=1/\gP s l=qA/\IV s l=0:=by unfold IU gP IV P1;rw [h];exact ⟨rfl,rfl,rfl⟩
theorem av9 (h:cW s=true) (hl:dz l=false):IU s l=1/\gP s l=qA/\IV s l=0:=by unfold IU gP IV P1;rw [h,hl];exact ⟨rfl,rfl,rfl⟩
theorem aq0 (a b:Id) (h:cW s=true):OX s=0/\jR s a b=⟨s.no,s.sec,p5 s.tb a b false⟩/\mw s a b=p5 s.tb a b true:=by unfold OX jR mw;rw [h];exact ⟨rfl,rfl,rfl⟩
theorem av1 (a b:Id) (h:cW s=false):OX s=1/\jR s a b=qA/\mw s a b=[]:=by unfold OX jR mw;rw [h];exact ⟨rfl,rfl,rfl⟩
end
end Go.Proofs.YthmlflaiidhoiaaGreatDoor
namespace Go.Proofs.YthmlflaiidhoiaaGreatDoor
open Go.RowKit Go.ChangeShapes Go.WideShapes Go.ChangeAt
theorem mf {H α:Type} {enc:TypeId × Value->H} {P:Program} {W:World} {ts t:TypeId} {fuel:Nat} {cs:List Value} {x:DataW H × List MemPlace} (C:α->Array Value) (sz:Nat) (h0:0<sz) (hC:∀ a,(C a).size=sz) (z:α)
 (hts:P.underlying ts=some (.slice t)) (hct:P.cellsOf t=sz) (op:∀ (fuel:Nat) (cs:List Value) (x:DataW H × List MemPlace),DataW.trod enc P W 0 (λ_=>true) true fuel t cs=some x->∃ l:α,cs=(C l).toList)
 (hf:DataW.trod enc P W 0 (λ_=>true) true fuel ts cs=some x):∃ (v:Value) (ls:List α),cs=[v]/\bs W v sz ls.length (ls.flatMap λa=>(C a).toList):=by
 rcases Go.Deep.open_slice hts hf with ⟨hcs,_⟩|⟨a',len,cap,m,k,D,Pl,hcs,_,hl,_,hm,_,hel⟩
 ·exact ⟨_,[],hcs,by simp,.inl ⟨rfl,rfl⟩⟩
 ·have hml:len<=m:=by rw [hm];split<;>omega
  have each:∀ i,∃ l:α,i<len->aJ W (a'.add (i*sz)) (C l):=λi=>by
   by_cases hi:i<len
   ·obtain ⟨cs',hc1,hc2⟩:=hel i (by omega)
    obtain ⟨l,rfl⟩:=op _ _ _ hc2
    refine ⟨l,λ_ j u hj=>?_⟩
    rw [hct] at hc1
    obtain ⟨_,hlen,hall⟩:=World.cells?_some hc1
    have hj34:j<sz:=by have:=(aO1.1 hj).1;rw [hC] at this;exact this
    have:=hall j hj34
    rw [this,aN9];exact hj
   ·exact ⟨z,λh9=>aO7 h9 hi⟩
  obtain ⟨L,hL⟩:=Classical.axiomOfChoice each
  refine ⟨_,(List.range len).map L,hcs,?_,.inr ⟨a',cap,by simp,by simpa using hl,?_⟩⟩
  ·exact eF _ sz (λa=>by rw [aI2,hC]) _
  ·refine pU _ sz h0 (λx=>by rw [aI2,hC]) _ λi hi=>?_
   have hi':i<len:=by simpa using hi
   have:=hL i hi'
   simpa using this
theorem aJ.of_mem {w0 w:World} {B:List Own} (s:St w0 B w) {b:Nat} {C:Array Value} {u:TypeId} (h:Own.blk b (.cells C u)∈B):aJ w ⟨b,0,none⟩ C:=by
 obtain ⟨i,hi⟩:=List.mem_iff_getElem?.1 h
 exact aJ.of_own s i hi
section
variable {P:Program} {ρ:Operand->Value} {d:Option Tmp} {ty t t':TypeId} {pos:String} {af:Array Edge} {g:Option (Nat × Bool)} {x:Operand}
end
def Met (P:Program) (T:TypeId) (rv:Value) (nm:String) (f:FuncId):Prop:=∀ w,(method (P.types.size+Made.depth) T rv nm).run P w=.ok (f,rv) w
theorem DC {P:Program} {ρ:Operand->Value} {dst:Option Tmp} {g:Option (Nat × Bool)} {ty:TypeId} {pos:String} {af:Array Edge} {f:FuncId} {T:TypeId} {rv:Value} {nm:String} {cal:Operand} {tys:Array TypeId} {w:World} (hf:Fnc P f)
 (hm:Met P T rv nm f) (hc:ρ cal=.iface T rv) {R:Value->World->Prop} (hC:Calls P f #[rv] w λe w'=>∃ v,e=.returned v/\R v w'):dp P ⟨dst,.call {callee:=.invoke cal nm,args:=#[],argTypes:=tys},ty,pos,af,g⟩ ρ w R:=by
 obtain ⟨fn,h1,h2,h3⟩:=hf.has
 unfold dp
 have hm':=hm w
 simp only [execOp,resolve,hc,aL7,aL8,aH9,invoke,callMethod]
 have e0:(#[Value.iface T rv]++Array.map ρ #[])[0]? = some (Value.iface T rv):=by simp
 rw [e0]
 simp only [callMethod,aL7,show ∀ w,Sem.run P program w=.ok P w from λ_=>rfl,aH9,hm']
 have e1:#[rv]++(#[Value.iface T rv]++Array.map ρ #[]).extract 1=#[rv]:=by simp
 rw [e1]
 rw [fX h1 h2 h3]
 exact hC
section
variable {P:Program} {ops:Array Oper} {Q:Act->World->Prop} {l:List Oper} {a:Act} {w w0:World} {N:Nat} {L:List (Nat × Value)} {Df:List Deferred} {B:List Own} {d:Tmp} {ty:TypeId} {pos:String} {af:Array Edge}
end
section
variable {P:Program} {ops:List Oper} {K:Act->World->Prop} {l:List Oper} {a:Act} {w:World} {N:Nat} {L:List (Nat × Value)} {Df:List Deferred} {d:Tmp} {ty:TypeId} {pos:String} {af:Array Edge}
theorem ny {f:FuncId} {T9:TypeId} {rv X:Value} {nm:String} {cal:Operand} {tys:Array TypeId} (h:Sl N a L Df) (hf:Fnc P f) (hm:Met P T9 rv nm f) (hc:eI L cal=some (.iface T9 rv))
 (hC:∀ w',Ext w w'->Calls P f #[rv] w' (cb w' (is X))) (hd:Nat.blt d N=true) (k:∀ a',Sl N a' ((d,X)::L) Df->jd P ops.toArray K w l a'):
 jd P ops.toArray K w (⟨some d,.call {callee:=.invoke cal nm,args:=#[],argTypes:=tys},ty,pos,af,none⟩::l) a:=
 kN X h (λw' hE=>DC hf hm (h.ev hc) (hC w' hE)) hd k
end
def g7 (v:Value):Value:=match v with|.slice p n c=>.slice p n c|_=>.slice none 0 0
theorem jW (v:Value):(g7 v).oneCell'=true:=by cases v<;>rfl
theorem ot {w:World} {v:Value} {sz n:Nat} {xs:List Value} (h:bs w v sz n xs):g7 v=v:=by
 obtain ⟨a,c,rfl⟩:=h.len;rfl
section
variable {s s0:Sv} {fr:Int} {m:Mg} {now:Int}
end
section
variable {s:Sv} {fr:Int} {m:Mg} {now:Int}
end
section
variable {m:Mg}
end
section
variable {P:Program} {ρ:Operand->Value} {d:Option Tmp} {ty:TypeId} {pos:String} {af:Array Edge} {g:Option (Nat × Bool)} {x y:Operand} {t:TypeId}
end
section
variable {w w':World} {vt vs:Value} {sv:Sv} {l:List dN} {H:Hr} {N M:TypeId} {e:Int} {ks:List Nat} {T:List Tg} {x:Se} {L:List Se}
end
section
variable {w w':World} {vt vs:Value} {sv:Sv} {fr now:Int} {m:Mg} {N M:TypeId} {ks:List Nat}
end
section
variable {fr:Int} {p:Pk} {o:Ot}
end
section
variable {w w':World} {sv:Sv} {fr:Int} {m:Mg} {K:List O2} {KS:List S2} {u uo vs:Value} {N:TypeId} {ks:List Nat}
end
theorem we {l tb:List Tg} (ht:dz tb=true) (hl:∀ x∈l,iV x=true) (k:Nat):dz (ie l tb k).1=true:=by
 induction k with
 |zero=>exact ht
 |succ k ih=>
  rcases aJ4 k l.length with g|g
  ·cases h:decide ((ce (ie l tb k).1 (l.getD k cr)).length<=32)
   ·rw [OG g h];exact ih
   ·rw [ML g h];exact gh.2 (uB (gh.1 ih) (hl _ (qt g)) (aG9 h))
  ·have e:ie l tb (k+1)=ie l tb k:=by unfold ie;rw [aJ9 g,aJ9 (by omega)]
   rw [e];exact ih
section
variable {w w':World} {vt vh:Value} {sv:Sv} {l:List Tg} {a b:Id} {ks:List Nat}
theorem Ff (h:cW sv=false∨(cW sv=true/\dz l=false)) (s:St w [] w'):HaP w sv vt l vh (.tuple #[.agg (bC 0 ByteArray.empty ax),.int .i64 0,.int .i64 1]) w':=by
 obtain ⟨e1,e2,e3⟩:=h.elim (λh=>aw3 l h) (λh=>av9 h.1 h.2)
 refine ⟨ax,[],?_,s.grp0 λw9 _ _=>?_⟩
 ·rw [e1,e2,e3];rfl
 ·rw [e2];exact ji _
theorem UU {p:Value} {n:Int} (h:cW sv=true) (hl:dz l=true) (hn:n=((ie l sv.tb l.length).2:Int)) (s:St w [.grp ks λw9=>eP w9 vt sv.tb->eP w9 p (ie l sv.tb l.length).1] w'):HaP w sv vt l vh (.tuple #[.agg (bC sv.no sv.sec p),.int .i64 n,.int .i64 0]) w':=by
 obtain ⟨e1,e2,e3⟩:=YU h hl
 subst hn
 rw [Sp] at s ⊢
 refine ⟨p,ks,?_,s.weak λw9 hh c _=>?_⟩
 ·rw [e1,e2,e3]
 ·rw [e2];exact hh c
theorem QL (h:cW sv=false) (s:St w [] w'):GvP w sv vt a b (.tuple #[.agg (bC 0 ByteArray.empty ax),ax,.int .i64 1]) w':=by
 obtain ⟨e1,e2,e3⟩:=av1 a b h
 refine ⟨ax,ax,[],?_,s.grp0 λw9 _=>?_⟩
 ·rw [e1,e2];rfl
 ·rw [e2,e3];exact ⟨ji _,ji _⟩
theorem W8 {p q:Value} (h:cW sv=true) (s:St w [.grp ks λw9=>eP w9 vt sv.tb->eP w9 q (OS sv.tb a b true)/\eP w9 p (OS sv.tb a b false)] w'):GvP w sv vt a b (.tuple #[.agg (bC sv.no sv.sec p),q,.int .i64 0]) w':=by
 obtain ⟨e1,e2,e3⟩:=aq0 a b h
 have ht:=(fk.1 h).2.2.2
 have y:∀ c,OS sv.tb a b c=p5 sv.tb a b c:=λc=>by unfold OS;rw [ht];rfl
 refine ⟨p,q,ks,?_,s.weak λw9 hh c=>?_⟩
 ·rw [e1,e2]
 ·rw [e2,e3]
  have h9:=hh c
  rw [y,y] at h9
  exact ⟨h9.2,h9.1⟩
end
end Go.Proofs.YthmlflaiidhoiaaGreatDoor
