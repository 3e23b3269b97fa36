/- Members on the ring: ways, members found; own slices that are set; members that come in; the closest of those that are known; no Go in it. -/
import Derived.Test.YtobfeflheaobiaaGreatDoorEm
set_option linter.unusedVariables false
set_option linter.unusedSimpArgs false
set_option linter.unusedSectionVars false
namespace Go.Proofs.YtobfeflheaobiaaGreatDoor
open Go.RowKit
def NN:Nat:=2 ^ 256
def fd (s x:Id):Nat:=(x - s).toNat
theorem yz (x:Id):x.toNat<NN:=x.isLt
theorem uQ (s x:Id):(s.toNat≤x.toNat∧fd s x+s.toNat=x.toNat)∨(x.toNat<s.toNat∧fd s x+s.toNat=NN+x.toNat):=by
 have h1:=yz s
 have h2:=yz x
 have h3:fd s x=(NN - s.toNat+x.toNat) % NN:=BitVec.toNat_sub ..
 by_cases h:s.toNat≤x.toNat
 ·refine .inl ⟨h,?_⟩
  have h4:NN - s.toNat+x.toNat=(x.toNat - s.toNat)+NN:=by omega
  rw [h3,h4,Nat.add_mod_right,Nat.mod_eq_of_lt (by omega)]
  omega
 ·refine .inr ⟨by omega,?_⟩
  rw [h3,Nat.mod_eq_of_lt (by omega)]
  omega
theorem IQ {s x y:Id} (h:fd s x=fd s y):x=y:=by
 have h1:=uQ s x
 have h2:=uQ s y
 have h3:=yz x
 have h4:=yz y
 exact BitVec.eq_of_toNat_eq (by omega)
theorem vj (a b:Id):eH a b<0↔a.toNat<b.toNat:=by
 have:=F6 a b
 rw [decide_eq_decide] at this
 exact this
abbrev Mb:=Int × Id
def yy:Mb:=(0,0#256)
def Jo:Mb:=(-1,0#256)
def NG (m:Mb):List Value:=.int .i64 m.1::(aA m.2).toList
theorem Gu (m:Mb):(NG m).length=33:=by simp [NG]
def jd (l:List Mb):List Value:=l.flatMap NG
def M3 (m x:Mb):Bool:=decide (x.1=m.1) || decide (x.2=m.2)
def N9 (l:List Mb) (d:Nat):Bool:=decide ((l.getD d yy).1<0) || (decide (16≤(l.getD d yy).1) || (l.take d).any (M3 (l.getD d yy)))
def KA (l:List Mb):Bool:=decide (l.length≤16) && (List.range l.length).all fun d => !N9 l d
structure Rg (l:List Mb):Prop where
 len:l.length≤16
 nos:∀ m∈l,0≤m.1∧m.1<16
 nd:l.Pairwise fun a b=>a.1≠b.1∧a.2≠b.2
theorem HS {α:Type} {R:α→α→Prop} (hs:∀ a b,R a b→R b a) {l:List α} (h:l.Pairwise R) {x y:α} (hx:x∈l) (hy:y∈l) (hn:¬ R x y):x=y:=by
 obtain ⟨i,hi,rfl⟩:=List.mem_iff_getElem.1 hx
 obtain ⟨j,hj,rfl⟩:=List.mem_iff_getElem.1 hy
 rcases Nat.lt_trichotomy i j with h1|h1|h1
 ·exact absurd (List.pairwise_iff_getElem.1 h i j hi hj h1) hn
 ·subst h1;rfl
 ·exact absurd (hs _ _ (List.pairwise_iff_getElem.1 h j i hj hi h1)) hn
theorem Rg.no {l:List Mb} (h:Rg l) {x y:Mb} (hx:x∈l) (hy:y∈l) (e:x.1=y.1):x=y:=
 HS (fun _ _ h9=>⟨h9.1.symm,h9.2.symm⟩) h.nd hx hy fun h9=>h9.1 e
theorem Rg.id {l:List Mb} (h:Rg l) {x y:Mb} (hx:x∈l) (hy:y∈l) (e:x.2=y.2):x=y:=
 HS (fun _ _ h9=>⟨h9.1.symm,h9.2.symm⟩) h.nd hx hy fun h9=>h9.2 e
theorem Rg.sub {l r:List Mb} (h:Rg l) (hs:r.Sublist l):Rg r:=⟨Nat.le_trans hs.length_le h.len,fun m hm=>h.nos m (hs.subset hm),h.nd.sublist hs⟩
theorem Rg.fd {l:List Mb} (h:Rg l) {x y:Mb} (s:Id) (hx:x∈l) (hy:y∈l) (hn:x≠y):fd s x.2≠fd s y.2:=fun e=>hn (h.id hx hy (IQ e))
section
variable {P:Program} {ρ:Operand→Value} {d:Option Tmp} {ty:TypeId} {pos:String} {af:Array Edge} {g:Option (Nat × Bool)} {x y:Operand} {t:TypeId}
end
def uk (l:List Mb) (no:Int):Option Mb:=l.find? fun m=>decide (m.1=no)
theorem CT {l:List Mb} {no:Int} {m:Mb} (h:uk l no=some m):m∈l∧m.1=no:=by
 refine ⟨List.mem_of_find?_eq_some h,?_⟩
 have:=List.find?_some h
 exact of_decide_eq_true this
theorem G7 {l:List Mb} {no:Int}:uk l no=none∨∃ m,uk l no=some m∧m∈l∧m.1=no:=by
 cases h:uk l no with
 |none=>exact .inl rfl
 |some m=>exact .inr ⟨m,rfl,CT h⟩
def Gy (l:List Mb) (no:Int):Mb:=(uk l no).getD Jo
section
variable {P:Program} {ops:List Oper} {K:Act→World→Prop} {l:List Oper} {a:Act} {w:World} {N:Nat} {L:List (Nat × Value)} {Df:List Deferred} {d:Tmp} {ty:TypeId} {pos:String} {af:Array Edge}
theorem l6 {f:FuncId} {caps:List Value} {cal:Operand} {args:Array Operand} {tys:Array TypeId} (vs:List Value) {X:Value} (h:Sl N a L Df) (hf:Fnc P f) (hc:eu L cal=some (.func (.func f) #[] caps.toArray))
 (hC:∀ w',Ext w w'→Calls P f (vs++caps).toArray w' (cp w' (is X))) (hvs:args.toList.map (eu L)=vs.map some) (hd:Nat.blt d N=true)
 (k:∀ a',Sl N a' ((d,X)::L) Df→iK P ops.toArray K w l a'):
 iK P ops.toArray K w (⟨some d,.call {callee:=.value cal,args:=args,argTypes:=tys},ty,pos,af,none⟩::l) a:=
 lE X h (fun w' hE=>qF hf (h.ev hc) (qJ h hvs) (by rw [show vs.toArray++caps.toArray=(vs++caps).toArray from by simp];exact hC w' hE)) hd k
end
section
variable {P:Program} {a:Act} {w w0:World} {N:Nat} {L:List (Nat × Value)} {B:List Own} {fn:Func}
end
theorem AZ (a:Id):(aA a).extract 0 (0+32)=aA a:=by
 apply Array.ext'
 rw [Array.toList_extract,List.extract_eq_take_drop,List.drop_zero,Nat.zero_add,Nat.sub_zero]
 exact List.take_of_length_le (by simp)
section
variable {P:Program} {ops:Array Oper} {Q:Act→World→Prop} {l:List Oper} {a:Act} {w w0:World} {N:Nat} {L:List (Nat × Value)} {Df:List Deferred} {B:List Own} {d:Tmp} {ty:TypeId} {pos:String} {af:Array Edge} {x y:Operand} {t e:TypeId}
end
section
variable {P:Program} {ops:Array Oper} {Q:Act→World→Prop} {l:List Oper} {a:Act} {w w0:World} {N:Nat} {L:List (Nat × Value)} {Df:List Deferred} {B:List Own} {d:Tmp} {ty:TypeId} {pos:String} {af:Array Edge} {x y z:Operand} {t kt et:TypeId}
end
end Go.Proofs.YtobfeflheaobiaaGreatDoor
namespace Go.Proofs.YtobfeflheaobiaaGreatDoor
open Go.RowKit Go.ChangeShapes Go.WideShapes Go.ChangeAt
def Pp (s9 t9:Id) (x:Mb):Bool:=decide (x.2≠t9) && (decide (x.2≠s9) && Ov x.2 s9 t9)
def Po (s9:Id) (p:Mb × Id) (m:Mb):Mb × Id:=bif decide (p.2.toNat<fd s9 m.2) then (m,m.2 - s9) else p
def PM (s9:Id) (r:List Mb):Mb × Id:=r.foldl (Po s9) (yy,0#256)
abbrev Pd (s9 t9:Id) (l:List Mb):List Mb:=l.filter (Pp s9 t9)
def PJ (s9 t9:Id) (l:List Mb):Int:=bif (Pd s9 t9 l).isEmpty then 6 else 0
def Pw (s9 t9:Id) (l:List Mb):Mb:=(PM s9 (Pd s9 t9 l)).1
section
variable {P:Program} {a:Act} {w w0:World} {N:Nat} {L:List (Nat × Value)} {B:List Own} {fn:Func} {T:cW} {R:Ending→World→Prop}
end
theorem bI.elF {w:World} {v:Value} {sz n:Nat} {xs:List Value} (h:bI w v sz n xs) (j off m:Nat) (hj:j<n) (hz:0<sz) {C D:Array Value} (hC:((xs.drop (j*sz)).take sz).toArray=C) (hD:C.extract off (off+m)=D):aG w (dy v (j*sz+off)) D:=by
 have h1:=(h.el j hj hz hC).sub off m hD
 obtain ⟨p,q,c,rfl⟩:=h.some (by omega)
 have e:(dy (.slice (Option.some p) q c) (j*sz)).add off=dy (.slice (Option.some p) q c) (j*sz+off):=l7 _ _ _
 rwa [e] at h1
end Go.Proofs.YtobfeflheaobiaaGreatDoor
