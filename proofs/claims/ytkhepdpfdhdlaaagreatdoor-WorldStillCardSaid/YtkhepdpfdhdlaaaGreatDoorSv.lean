/- Servers: their triggers, what they send, what they take; servers that come in; no Go in it. -/
import Derived.Test.YtkhepdpfdhdlaaaGreatDoorGd
set_option linter.unusedVariables false
set_option linter.unusedSimpArgs false
set_option linter.unusedSectionVars false
namespace Go.Proofs.YtkhepdpfdhdlaaaGreatDoor
open Go.RowKit
instance:DecidableEq Mg:=λa b=>decidable_of_iff (Ut a b=true) (JN a b)
structure Sv where
 no:Int
 sec:ByteArray
 tb:List Tg
deriving DecidableEq
def HC:Sv:=⟨0,ByteArray.empty,[]⟩
def VE (n:Int) (s:ByteArray) (v:Value):List Value:=[.int .i64 n,.string s,v]
def de (n:Int) (s:ByteArray) (v:Value):Array Value:=(VE n s v).toArray
theorem cD (n:Int) (s:ByteArray) (v:Value):(de n s v).size=3:=rfl
theorem m7 {v:Value} (n:Int) (s:ByteArray) (hv:v.oneCell'=true):∀ u∈(de n s v).toList,u.oneCell'=true:=λu hu=>by
 have hu:u∈VE n s v:=hu
 unfold VE at hu
 simp only [at1,at4,or_false] at hu
 rcases hu with rfl|rfl|rfl
 ·rfl
 ·rfl
 ·exact hv
theorem CT (n:Int) (s:ByteArray) (v:Value):(de n s v)[0]? = some (.int .i64 n):=rfl
theorem Me (n:Int) (s:ByteArray) (v:Value):(de n s v)[1]? = some (.string s):=rfl
theorem OY (n:Int) (s:ByteArray) (v:Value):(de n s v)[2]? = some v:=rfl
def svZ:List (List Value):=[[.int .i64 0],[.string ByteArray.empty],[.slice none 0 0]]
abbrev Se:=Int × Mg × Tg
abbrev S2:=Se × Value
instance:DecidableEq Se:=λa b=>inferInstanceAs (Decidable (a=b))
instance (a b:List Se):Decidable (a=b) := @instDecidableEqList Se _ a b
def Vy:Se:=(0,mZ,eA)
def Ou (n:Int) (m:Mg) (v:Value) (t:Tg):List Value:=.int .i64 n::((eh m v).toList++qA t)
def cH (n:Int) (m:Mg) (v:Value) (t:Tg):Array Value:=(Ou n m v t).toArray
theorem G4 (m:Mg) (v:Value):(eh m v).toList.length=71:=by rw [as7,eJ]
theorem Oy (n:Int) (m:Mg) (v:Value) (t:Tg):(Ou n m v t).length=139:=by simp [Ou,qp]
theorem cp (n:Int) (m:Mg) (v:Value) (t:Tg):(cH n m v t).size=139:=by simp [cH,Oy]
theorem go {v:Value} (n:Int) (m:Mg) (t:Tg) (hv:v.oneCell'=true):∀ u∈(cH n m v t).toList,u.oneCell'=true:=λu hu=>by
 have hu:u∈Ou n m v t:=hu
 unfold Ou at hu
 rcases at1.1 hu with rfl|hu
 ·rfl
 ·rcases av4.1 hu with hu|hu
  ·exact pc m v hv u hu
  ·exact ow t u hu
section
variable (n:Int) (m:Mg) (v:Value) (t:Tg)
theorem Xx:(cH n m v t)[0]? = some (.int .i64 n):=rfl
theorem ac5:(cH n m v t).extract 1 (1+71)=eh m v:=lG _ _ _ _ (by
 show ((eh m v).toList++qA t).take 71=_
 rw [List.take_left' (G4 m v)])
end
def s2L (x:S2):List Value:=Ou x.1.1 x.1.2.1 x.2 x.1.2.2
def Oi (l:List S2):List Value:=l.flatMap s2L
def RwS (K:List S2) (w:World):Prop:=∀ x∈K,gf w x.2 x.1.2.1.l
def fI (s:Sv):Bool:=decide (0<=s.no) && (decide (s.no<=15) && (decide (s.sec.size<=64) && jG s.tb))
def Sg (m:Mg):Bool:=decide (m.k=1) || KQ m
def Ag (p:Pk):Mg:=⟨1,0#256,(0,0#256,0),p.1,p.2.1,⟨#[]⟩,p.2.2⟩
def Z1 (m:Mg):Mg:=⟨5,m.i,m.t,[],0,⟨#[]⟩,⟨#[]⟩⟩
def W1 (i:Id):Mg:=⟨7,i,(0,0#256,0),[],0,⟨#[]⟩,⟨#[]⟩⟩
def Wt (i:Id) (n:Int):Mg:=⟨8,i,(0,0#256,0),[],n,⟨#[]⟩,⟨#[]⟩⟩
structure Hr where
 s:Sv
 l:List Se
 e:Int
def ad0 (s s0:Sv) (fr:Int) (m:Mg) (now:Int):Hr:=
 bif decide (Sy s.sec m=1) then ⟨s,[(16+m.t.2.2,ZP s.sec m,eA)],0⟩ else
 bif decide (Sy s.sec m=2) then (bif decide ((Oe s.tb (S4 m now)).length<=32) then ⟨⟨s.no,s.sec,Oe s.tb (S4 m now)⟩,[(fr,Z1 m,eA)],0⟩ else ⟨s0,[],8⟩) else
 bif decide (Sy s.sec m=3) then (bif decide ((JH s.tb m.i m.t).2.2<0) then ⟨s0,[],6⟩ else ⟨⟨s.no,s.sec,YU s.tb m.i m.t⟩,[],0⟩) else ⟨s0,[],11⟩
def Ww (p:Pk):Id:=(y7 p).2.1
def ah5 (fr:Int) (p:Pk) (o:Ot):List Se:=
 bif decide (o.k=1) then [(16+o.h,Ag o.p,eA)] else
 bif decide (o.k=2) then (bif decide ((y7 o.p).1=2) then [(16+(y7 o.p).2.2,Ag o.p,o.t)] else [(-1,Ag o.p,o.t)]) else
 bif decide (o.y=6) && decide (16<=fr) then [(fr,W1 (Ww p),eA)] else []
def aa4 (fr:Int) (p:Pk) (R:List Ot):List Se:=R.flatMap (ah5 fr p)
def ac7 (fr:Int) (o:Ot):Bool:=decide (o.k=3) && (decide (o.y=6) && decide (16<=fr))
def Gn (m:Mg):Pk:=(m.l,min m.n 64,m.d)
noncomputable def ab4 (s:Sv) (fr:Int) (m:Mg):List Se:=
 aa4 fr (Gn m) (QP s.tb (Gn m))++bif decide (16<=fr) && (decide ((y7 (Gn m)).1=1) && !(QP s.tb (Gn m)).any (ac7 fr)) then [(fr,Wt (Ww (Gn m)) s.no,eA)] else []
def T7 (s:Sv) (now:Int):Sv:=⟨s.no,s.sec,af6 s.tb now⟩
def ZY (s:Sv) (fr:Int) (m:Mg) (now:Int):Bool:=fI s && (dI m && (decide (0<=fr) && (decide (fr<=31) && (decide (0<=now) && (decide (now<=1099511627776) && Sg m)))))
noncomputable def CR (s:Sv) (fr:Int) (m:Mg) (now:Int):Hr:=
 bif ZY s fr m now then (bif decide (m.k=1) then ⟨T7 s now,ab4 (T7 s now) fr m,0⟩ else ad0 (T7 s now) s fr m now) else ⟨HC,[],1⟩
def S9:List Tg->List Tg × Nat->List Tg × Nat
 |[],a=>a
 |x::l,a=>S9 l (bif decide ((Oe a.1 x).length<=32) then (Oe a.1 x,a.2) else (a.1,a.2+1))
theorem JR {m:Mg} (h:dI m=true) (hk:m.k=1):wi (Gn m)=true:=by
 obtain ⟨_,_,_,h3,h4,_,h6⟩:=i9 h
 unfold c3 at h3;unfold c4 at h4;unfold c6 at h6
 rw [hk] at h3 h4 h6
 simp [mS,li,tu] at h3 h4 h6
 refine jZ.2 ⟨fc _ |>.1 h3,?_,?_,h6⟩
 ·show 0<=min m.n 64;omega
 ·show min m.n 64<=64;omega
theorem A3 {p:Pk} (h:wi p=true):dI (Ag p)=true:=by
 obtain ⟨h1,h2,h3,h4⟩:=jZ.1 h
 unfold dI c1 c2 c3 c4 c5 c6 Ag
 simp [C5,qg,oY,mS,li,sV,tu,(fc _).2 h1,h2,h4]
 omega
def ZA:List (List Value):=[[.int .i64 0],VC.flatten,PK.flatten]
theorem O0:cH 0 mZ au eA=ZA.flatten.toArray:=by
 unfold cH Ou
 rw [C8,si];rfl
section
variable {P:Program} {ρ:Operand->Value} {d:Option Tmp} {ty:TypeId} {pos:String} {af:Array Edge} {g:Option (Nat × Bool)} {x y z:Operand} {t:TypeId}
end
section
variable (n:Int) (s:ByteArray) (v u:Value) (e:Int)
end
section
variable {P:Program} {ρ:Operand->Value} {d:Option Tmp} {ty:TypeId} {pos:String} {af:Array Edge} {g:Option (Nat × Bool)} {x y z:Operand} {t:TypeId}
end
theorem Iy {w w':World} {K:List S2} (h:RwS K w) (e:Ext w w'):RwS K w':=λx hx=>(h x hx).keep e
theorem Ix {a b:Sv} (h:decide (a.no=b.no)=false):decide (a=b)=false:=ar6 λe=>ar5 h (by rw [e])
theorem LS {a b:Sv} (_h0:decide (a.no=b.no)=true) (h:decide (a.sec=b.sec)=false):decide (a=b)=false:=ar6 λe=>ar5 h (by rw [e])
theorem Hl {a b:Sv} (h0:decide (a.no=b.no)=true) (h:decide (a.sec=b.sec)=true):decide (a=b)=decide (a.tb=b.tb):=as8.2 ⟨λe=>by rw [e],λe=>by
 have g0:=ar4 h0
 have g1:=ar4 h
 clear h0 h
 cases a;cases b
 simp only at g0 g1 e
 subst g0;subst g1;subst e;rfl⟩
section
variable {w w':World} {vt vw vs:Value} {tb tb0:List Tg} {l:List dN} {H:Hr} {N M:TypeId} {s':Sv} {L:List Se} {e:Int}
end
def ZW (w:World) (v:Value) (K:List S2):Prop:=br w v 139 K.length (Oi K)/\RwS K w
theorem ZW.keep {w w':World} {v:Value} {K:List S2} (h:ZW w v K) (e:Ext w w'):ZW w' v K:=⟨h.1.keep e,Iy h.2 e⟩
def Dw (l tb:List Tg) (k:Nat):List Tg × Nat:=S9 (l.take k) (tb,0)
def haB (s:Sv) (l:List Tg):Bool:=fI s && jG l
def haS (s:Sv) (l:List Tg):Sv:=bif haB s l then ⟨s.no,s.sec,(S9 l (s.tb,0)).1⟩ else HC
section
variable {s:Sv} {l:List Tg} {a b:Id}
end
end Go.Proofs.YtkhepdpfdhdlaaaGreatDoor
namespace Go.Proofs.YtkhepdpfdhdlaaaGreatDoor
open Go.RowKit Go.ChangeShapes Go.WideShapes Go.ChangeAt
theorem nW {H α:Type} {enc:TypeId × Value->H} {P:Program} {W:World} {ts t:TypeId} {fuel:Nat} {cs:List Value} {x:DataW H × List MemPlace} (C:α->Array Value) (sz:Nat) (h0:0<sz) (hC:∀ a,(C a).size=sz) (z:α)
 (hts:P.underlying ts=some (.slice t)) (hct:P.cellsOf t=sz) (op:∀ (fuel:Nat) (cs:List Value) (x:DataW H × List MemPlace),DataW.trod enc P W 0 (λ_=>true) true fuel t cs=some x->∃ l:α,cs=(C l).toList)
 (hf:DataW.trod enc P W 0 (λ_=>true) true fuel ts cs=some x):∃ (v:Value) (ls:List α),cs=[v]/\br W v sz ls.length (ls.flatMap λa=>(C a).toList):=by
 rcases Go.Deep.open_slice hts hf with ⟨hcs,_⟩|⟨a',len,cap,m,k,D,Pl,hcs,_,hl,_,hm,_,hel⟩
 ·exact ⟨_,[],hcs,by simp,.inl ⟨rfl,rfl⟩⟩
 ·have hml:len<=m:=by rw [hm];split<;>omega
  have each:∀ i,∃ l:α,i<len->aF W (a'.add (i*sz)) (C l):=λi=>by
   by_cases hi:i<len
   ·obtain ⟨cs',hc1,hc2⟩:=hel i (by omega)
    obtain ⟨l,rfl⟩:=op _ _ _ hc2
    refine ⟨l,λ_ j u hj=>?_⟩
    rw [hct] at hc1
    obtain ⟨_,hlen,hall⟩:=World.cells?_some hc1
    have hj34:j<sz:=by have:=(ay6.1 hj).1;rw [hC] at this;exact this
    have:=hall j hj34
    rw [this,ay4];exact hj
   ·exact ⟨z,λh9=>az2 h9 hi⟩
  obtain ⟨L,hL⟩:=Classical.axiomOfChoice each
  refine ⟨_,(List.range len).map L,hcs,?_,.inr ⟨a',cap,by simp,by simpa using hl,?_⟩⟩
  ·exact fq _ sz (λa=>by rw [as7,hC]) _
  ·refine n7 _ sz h0 (λx=>by rw [as7,hC]) _ λi hi=>?_
   have hi':i<len:=by simpa using hi
   have:=hL i hi'
   simpa using this
theorem aF.of_mem {w0 w:World} {B:List Own} (s:St w0 B w) {b:Nat} {C:Array Value} {u:TypeId} (h:Own.blk b (.cells C u)∈B):aF w ⟨b,0,none⟩ C:=by
 obtain ⟨i,hi⟩:=List.mem_iff_getElem?.1 h
 exact aF.of_own s i hi
theorem br.of_mem {w0 w:World} {B:List Own} (s:St w0 B w) {v:Value} {e:TypeId} {sz n:Nat} {L:List Value} (h:Own.sl v e sz n L∈B):br w v sz n L:=by
 obtain ⟨i,hi⟩:=List.mem_iff_getElem?.1 h
 exact br.of_own (s.getSl i hi)
section
variable {P:Program} {ρ:Operand->Value} {d:Option Tmp} {ty t t':TypeId} {pos:String} {af:Array Edge} {g:Option (Nat × Bool)} {x:Operand}
end
def ZC (P:Program) (T:TypeId) (rv:Value) (nm:String) (f:FuncId):Prop:=∀ w,(method (P.types.size+Made.depth) T rv nm).run P w=.ok (f,rv) w
theorem BI {P:Program} {ρ:Operand->Value} {dst:Option Tmp} {g:Option (Nat × Bool)} {ty:TypeId} {pos:String} {af:Array Edge} {f:FuncId} {T:TypeId} {rv:Value} {nm:String} {cal:Operand} {tys:Array TypeId} {w:World} (hf:Fnc P f)
 (hm:ZC P T rv nm f) (hc:ρ cal=.iface T rv) {R:Value->World->Prop} (hC:Calls P f #[rv] w λe w'=>∃ v,e=.returned v/\R v w'):dh P ⟨dst,.call {callee:=.invoke cal nm,args:=#[],argTypes:=tys},ty,pos,af,g⟩ ρ w R:=by
 obtain ⟨fn,h1,h2,h3⟩:=hf.has
 unfold dh
 have hm':=hm w
 simp only [execOp,resolve,hc,aw2,aw3,as4,invoke,callMethod]
 have e0:(#[Value.iface T rv]++Array.map ρ #[])[0]? = some (Value.iface T rv):=by simp
 rw [e0]
 simp only [callMethod,aw2,show ∀ w,Sem.run P program w=.ok P w from λ_=>rfl,as4,hm']
 have e1:#[rv]++(#[Value.iface T rv]++Array.map ρ #[]).extract 1=#[rv]:=by simp
 rw [e1]
 rw [fP h1 h2 h3]
 exact hC
section
variable {P:Program} {ops:Array Oper} {Q:Act->World->Prop} {l:List Oper} {a:Act} {w w0:World} {N:Nat} {L:List (Nat × Value)} {Df:List Deferred} {B:List Own} {d:Tmp} {ty:TypeId} {pos:String} {af:Array Edge}
end
section
variable {P:Program} {ops:List Oper} {K:Act->World->Prop} {l:List Oper} {a:Act} {w:World} {N:Nat} {L:List (Nat × Value)} {Df:List Deferred} {d:Tmp} {ty:TypeId} {pos:String} {af:Array Edge}
theorem lO {f:FuncId} {T9:TypeId} {rv X:Value} {nm:String} {cal:Operand} {tys:Array TypeId} (h:Sl N a L Df) (hf:Fnc P f) (hm:ZC P T9 rv nm f) (hc:ep L cal=some (.iface T9 rv))
 (hC:∀ w',Ext w w'->Calls P f #[rv] w' (cd w' (is X))) (hd:Nat.blt d N=true) (k:∀ a',Sl N a' ((d,X)::L) Df->im P ops.toArray K w l a'):
 im P ops.toArray K w (⟨some d,.call {callee:=.invoke cal nm,args:=#[],argTypes:=tys},ty,pos,af,none⟩::l) a:=
 jY X h (λw' hE=>BI hf hm (h.ev hc) (hC w' hE)) hd k
end
def kl (v:Value):Value:=match v with|.slice p n c=>.slice p n c|_=>.slice none 0 0
theorem xk (v:Value):(kl v).oneCell'=true:=by cases v<;>rfl
theorem LO {w:World} {v:Value} {sz n:Nat} {xs:List Value} (h:br w v sz n xs):kl v=v:=by
 obtain ⟨a,c,rfl⟩:=h.len;rfl
section
variable {s s0:Sv} {fr:Int} {m:Mg} {now:Int}
end
section
variable {s:Sv} {fr:Int} {m:Mg} {now:Int}
end
section
variable {m:Mg}
end
section
variable {P:Program} {ρ:Operand->Value} {d:Option Tmp} {ty:TypeId} {pos:String} {af:Array Edge} {g:Option (Nat × Bool)} {x y:Operand} {t:TypeId}
end
section
variable {w w':World} {vt vs:Value} {sv:Sv} {l:List dN} {H:Hr} {N M:TypeId} {e:Int} {ks:List Nat} {T:List Tg} {x:Se} {L:List Se}
end
def hbK (sv:Sv) (fr:Int) (m:Mg) (now:Int):Prop:=fI sv=true/\dI m=true/\0<=fr/\fr<=31/\0<=now/\now<=1099511627776
section
variable {w w':World} {vt vs:Value} {sv:Sv} {fr now:Int} {m:Mg} {N M:TypeId} {ks:List Nat}
end
section
variable {fr:Int} {p:Pk} {o:Ot}
end
section
variable {w w':World} {sv:Sv} {fr:Int} {m:Mg} {K:List O2} {KS:List S2} {u uo vs:Value} {N:TypeId} {ks:List Nat}
end
section
variable {w w':World} {vt vh:Value} {sv:Sv} {l:List Tg} {a b:Id} {ks:List Nat}
end
end Go.Proofs.YtkhepdpfdhdlaaaGreatDoor
