/- Triggers and tables: which may be, which is below which, what is put, dropped, over, matched and cut; what may be stays such, parts put together, and in whatever order; triggers that come in; no Go in it. -/
import Derived.Test.YtkhepdpfdhdlaaaGreatDoorLk
set_option linter.unusedVariables false
set_option linter.unusedSimpArgs false
set_option linter.unusedSectionVars false
namespace Go.Proofs.YtkhepdpfdhdlaaaGreatDoor
open Go.RowKit
abbrev Tg:=Id × cO × Int
def oF (t:Tg):List Value:=(aA t.1).toList++((co t.2.1).toList++[.int .i64 t.2.2])
def bY (t:Tg):Array Value:=(oF t).toArray
def eg:Tg:=(0#256,(0,0#256,0),0)
theorem j8 (t:Tg):(oF t).length=67:=by simp [oF,br]
theorem cV (t:Tg):(bY t).size=67:=by simp [bY,j8]
theorem l9 (t:Tg):∀ v∈oF t,v.oneCell'=true:=λv hv=>by
 unfold oF at hv
 rcases Y4.1 hv with hv|hv
 ·rw [di] at hv;exact dB _ _ v hv
 ·rcases Y4.1 hv with hv|hv
  ·exact go _ v hv
  ·rw [YF] at hv;subst hv;rfl
theorem zP (t:Tg):∀ v∈(bY t).toList,v.oneCell'=true:=l9 t
theorem dH (x:Id):(aA x).toList.length=32:=by simp
theorem tL (e:cO):(co e).toList.length=34:=by rw [YD,br]
theorem Tn (t:Tg):((bY t).toList.drop 0).take 32=(aA t.1).toList:=by
 show ((oF t).drop 0).take 32=_
 unfold oF
 rw [List.drop_zero,List.take_left' (dH _)]
theorem Sc (t:Tg):((bY t).toList.drop 32).take 34=(co t.2.1).toList:=by
 show ((oF t).drop 32).take 34=_
 unfold oF
 rw [List.drop_left' (dH _),List.take_left' (tL _)]
theorem jZ (L:List Value) (C:Array Value) (a n:Nat) (h:(L.drop a).take n=C.toList):L.toArray.extract a (a+n)=C:=by
 apply Array.ext'
 rw [Array.toList_extract,List.extract_eq_take_drop,Nat.add_sub_cancel_left]
 exact h
theorem wU (t:Tg):(bY t).extract 0 (0+32)=aA t.1:=jZ _ _ _ _ (Tn t)
theorem Gy (t:Tg):(bY t).extract 32 (32+34)=co t.2.1:=jZ _ _ _ _ (Sc t)
theorem ry (t:Tg):(bY t).extract 33 (33+32)=aA t.2.1.2.1:=jZ _ _ _ _ (by
 show ((oF t).drop 33).take 32=_
 unfold oF
 rw [show 33=32+1 from rfl,← List.drop_drop,List.drop_left' (dH _),eA,List.cons_append,List.drop_succ_cons,List.drop_zero,Zi,List.take_left' (dH _)])
theorem py (t:Tg):(bY t)[32]? = some (.int .i64 t.2.1.1):=by
 unfold bY oF
 rw [YT,Y2 (by rw [dH];exact YM _),dH,eA];rfl
theorem qm (t:Tg):(bY t)[65]? = some (.int .i64 t.2.1.2.2):=by
 unfold bY oF
 rw [YT,Y2 (by rw [dH];omega),dH,Y3 (by rw [tL];omega)]
 have:=fH t.2.1
 rw [← Zy] at this
 exact this
theorem nM (t:Tg):(bY t)[66]? = some (.int .i64 t.2.2):=by
 unfold bY oF
 rw [YT,← Zi,Y2 (by rw [Yy,dH,tL];exact YM _),Yy,dH,tL];rfl
def LA:List (List Value):=[List.replicate 32 (.int .u8 0),.int .i64 0::(List.replicate 32 (.int .u8 0)++[.int .i64 0]),[.int .i64 0]]
theorem tQ:bY eg=LA.flatten.toArray:=by
 unfold bY oF eg;rw [gm,dC];rfl
def eE (l:List Tg):List Value:=l.flatMap oF
theorem ud (l:List Tg):∀ u∈eE l,u.oneCell'=true:=λu hu=>by
 obtain ⟨x,_,hx⟩:=List.mem_flatMap.1 hu
 exact l9 x u hx
theorem Yd {l:List Tg} {j:Nat} (hj:j<l.length):l[j]=l.getD j eg:=by
 rw [YR,Yz hj];rfl
theorem yL (l:List Tg) (j:Nat) (hj:j<l.length):(((eE l).drop (j*67)).take 67).toArray=bY (l.getD j eg):=by
 unfold eE
 rw [dS _ 67 j8 l j hj,Yd hj];rfl
def qH (t:Tg):Bool:=lY t.2.1 && (decide (0<=t.2.2) && decide (t.2.2<=1099511627776))
def wV (a b:Tg):Prop:=a.1.toNat<b.1.toNat∨(a.1=b.1/\(a.2.1.1<b.2.1.1∨(a.2.1.1=b.2.1.1/\(a.2.1.2.1.toNat<b.2.1.2.1.toNat∨(a.2.1.2.1=b.2.1.2.1/\a.2.1.2.2<b.2.1.2.2)))))
instance (a b:Tg):Decidable (wV a b):=by unfold wV;infer_instance
def Im (a b:Tg):Bool:=decide (wV a b)
def yc (a b:Tg):Prop:=a.1=b.1/\a.2.1=b.2.1
instance (a b:Tg):Decidable (yc a b):=by unfold yc;infer_instance
theorem Au {a b:Id}:a=b↔a.toNat=b.toNat:=BitVec.toNat_inj.symm
theorem GQ {a b:cO}:a=b↔a.1=b.1/\a.2.1=b.2.1/\a.2.2=b.2.2:=⟨λh=>by rw [h];exact ⟨rfl,rfl,rfl⟩,λ⟨h1,h2,h3⟩=>Prod.ext h1 (Prod.ext h2 h3)⟩
theorem PM (a:Tg):¬ wV a a:=by unfold wV;omega
theorem Ee {a b c:Tg} (h:wV a b) (g:wV b c):wV a c:=by
 unfold wV at *
 simp only [Au] at *
 omega
theorem M4 {a b:Tg} (h:wV a b):¬ yc a b:=by
 unfold wV at h;unfold yc
 simp only [GQ,Au] at *
 omega
theorem OA {a b:Tg} (h:wV a b):¬ yc b a:=λg=>M4 h ⟨g.1.symm,g.2.symm⟩
theorem yc.symm {a b:Tg} (h:yc a b):yc b a:=⟨h.1.symm,h.2.symm⟩
theorem yc.trans {a b c:Tg} (h:yc a b) (g:yc b c):yc a c:=⟨h.1.trans g.1,h.2.trans g.2⟩
def UW (l:List Tg):Prop:=l.Pairwise wV
theorem UW.filter {l:List Tg} (h:UW l) (p:Tg->Bool):UW (l.filter p):=List.Pairwise.filter p h
def Ve (l:List Tg) (k:Nat):Bool:=decide (k=0) || Im (l.getD (k - 1) eg) (l.getD k eg)
def In (l:List Tg) (k:Nat):Bool:=qH (l.getD k eg) && Ve l k
def iW (l:List Tg):Bool:=(List.range l.length).all (In l) && decide (l.length<=32)
structure RT (l:List Tg):Prop where
 may:∀ y∈l,qH y=true
 srt:UW l
 len:l.length<=32
theorem pi {l:List Tg} {k:Nat} (hk:k<l.length) (h:In l k=false):iW l=false:=by
 unfold iW
 rw [Bool.and_eq_false_iff]
 exact .inl (List.all_eq_false.2 ⟨k,YI.2 hk,by rw [h];decide⟩)
theorem rR {l:List Tg} (h:∀ k,k<l.length->In l k=true):iW l=decide (l.length<=32):=by
 unfold iW
 rw [Yx.2 λk hk=>h k (YI.1 hk),Bool.true_and]
def V6 (i:Id) (e:cO) (y:Tg):Bool:=decide (y.1=i) && decide (y.2.1=e)
def XR:Tg:=(0#256,(0,0#256,0),-1)
def DO (l:List Tg) (i:Id) (e:cO):Tg:=(l.find? (V6 i e)).getD XR
def R5 (l:List Tg) (i:Id) (e:cO):List Tg:=l.filter λy => !V6 i e y
def U3 (l:List Tg) (x:Tg):Tg:=bif decide (x.2.2<(DO l x.1 x.2.1).2.2) then (x.1,x.2.1,(DO l x.1 x.2.1).2.2) else x
def VX (l:List Tg) (x:Tg):List Tg:=l.takeWhile (λy => !Im x y)++x::l.dropWhile (λy => !Im x y)
def Lh (l:List Tg) (x:Tg):List Tg:=VX (R5 l x.1 x.2.1) (U3 l x)
def VB (l:List Tg) (now:Int):List Tg:=l.filter λy=>decide (now<y.2.2)
def Xp (l:List Tg) (a b:Id) (on:Bool):List Tg:=l.filter λy=>L4 y.1 a b == on
noncomputable def W6 (l:List Tg) (x:Id) (n:Nat):List Tg:=match l.find? λy=>decide (W7 y.1 x=n) with|none=>[]|some z=>l.filter λy=>decide (W7 y.1 x=n) && decide (y.1=z.1)
noncomputable def WX (l:List Tg) (x:Id):Nat->List Tg|0=>[]|j+1=>bif decide (W6 l x (128+j)=[]) then WX l x j else W6 l x (128+j)
noncomputable def Xo (l:List Tg) (x:Id):List Tg:=WX l x 129
theorem RT.filter {l:List Tg} (h:RT l) (p:Tg->Bool):RT (l.filter p):=⟨λy hy=>h.may y (YZ.1 hy).1,h.srt.filter p,Zk (Y7 _ _) h.len⟩
theorem U2 {l:List Tg} {k:Nat} (h:qH (l.getD k eg)=false):In l k=false:=by unfold In;rw [h];rfl
theorem VN {l:List Tg} {k:Nat} (h:qH (l.getD k eg)=true) (h1:k=0):In l k=true:=by unfold In Ve;rw [h,Yt h1];rfl
theorem Sk {l:List Tg} {k:Nat} (h:qH (l.getD k eg)=true) (h1:¬ k=0):In l k=Im (l.getD (k - 1) eg) (l.getD k eg):=by unfold In Ve;rw [h,Ys h1];rfl
theorem we {q:Nat->Bool} {k:Nat} (h:∀ j,j<k->q j=true) (hk:q k=true):∀ j,j<k+1->q j=true:=λj hj=>by
 rcases YP j k with g|g
 ·exact h j g
 ·obtain rfl:j=k:=by omega
  exact hk
section
variable {P:Program} {ρ:Operand->Value} {d:Option Tmp} {ty:TypeId} {pos:String} {af:Array Edge} {g:Option (Nat × Bool)} {x y z:Operand} {t:TypeId}
end
abbrev MX (w:World) (v:Value) (l:List Tg):Prop:=bp w v 67 l.length (eE l)
def nF (a b:Tg) (k:Nat):Int:=match k with
 |0=>fA a.1 b.1
 |1=>cc a.2.1.1 b.2.1.1
 |2=>fA a.2.1.2.1 b.2.1.2.1
 |_=>cc a.2.1.2.2 b.2.1.2.2
def uV (a b:Tg):Int:=if wV a b then -1 else if yc a b then 0 else 1
theorem Iq (a b:Tg):decide (uV a b<0)=Im a b:=by
 unfold uV Im
 by_cases h:wV a b
 ·rw [if_pos h];simp [h]
 ·rw [if_neg h]
  by_cases g:yc a b
  ·rw [if_pos g];simp [h]
  ·rw [if_neg g];simp [h]
theorem Ia (a b:Tg):decide (uV a b≥0) = !Im a b:=by
 rw [← Iq,← decide_not];exact YE.2 (by omega)
theorem Fz {a b:Id}:fA a b=0↔a=b:=by
 rw [Au];unfold fA;split
 ·simp;omega
 ·split
  ·simp;omega
  ·simp;omega
theorem Gz (a b:Id):(fA a b = -1/\a.toNat<b.toNat)∨(fA a b=0/\a=b)∨(fA a b=1/\b.toNat<a.toNat):=by
 rw [Au];unfold fA;split
 ·exact .inl ⟨rfl,by assumption⟩
 ·split
  ·exact .inr (.inr ⟨rfl,by assumption⟩)
  ·exact .inr (.inl ⟨rfl,by omega⟩)
theorem vK (a b:Int):(cc a b = -1/\a<b)∨(cc a b=0/\a=b)∨(cc a b=1/\b<a):=by
 unfold cc;split
 ·exact .inl ⟨rfl,by assumption⟩
 ·split
  ·exact .inr (.inr ⟨rfl,by assumption⟩)
  ·exact .inr (.inl ⟨rfl,by omega⟩)
theorem Ij {a b:Tg}:(nF a b 0≠0->nF a b 0=uV a b)/\(nF a b 0=0->nF a b 1≠0->nF a b 1=uV a b)/\(nF a b 0=0->nF a b 1=0->nF a b 2≠0->nF a b 2=uV a b)/\(nF a b 0=0->nF a b 1=0->nF a b 2=0->nF a b 3=uV a b):=by
 have h0:_∨_∨_:=Gz a.1 b.1
 have h1:_∨_∨_:=vK a.2.1.1 b.2.1.1
 have h2:_∨_∨_:=Gz a.2.1.2.1 b.2.1.2.1
 have h3:_∨_∨_:=vK a.2.1.2.2 b.2.1.2.2
 show (fA a.1 b.1≠0->fA a.1 b.1=uV a b)/\(fA a.1 b.1=0->cc a.2.1.1 b.2.1.1≠0->cc a.2.1.1 b.2.1.1=uV a b)/\(fA a.1 b.1=0->cc a.2.1.1 b.2.1.1=0->fA a.2.1.2.1 b.2.1.2.1≠0->fA a.2.1.2.1 b.2.1.2.1=uV a b)/\(fA a.1 b.1=0->cc a.2.1.1 b.2.1.1=0->fA a.2.1.2.1 b.2.1.2.1=0->cc a.2.1.2.2 b.2.1.2.2=uV a b)
 have key:∀ c:Int,((c = -1/\wV a b)∨(c=0/\yc a b)∨(c=1/\wV b a))->c=uV a b:=by
  rintro c (⟨rfl,h⟩|⟨rfl,h⟩|⟨rfl,h⟩)
  ·unfold uV;rw [if_pos h]
  ·unfold uV;rw [if_neg λg=>M4 g h,if_pos h]
  ·unfold uV;rw [if_neg λg=>PM a (Ee g h),if_neg λg=>OA h g]
 have z0:fA a.1 b.1=0->a.1=b.1:=Fz.1
 have z2:fA a.2.1.2.1 b.2.1.2.1=0->a.2.1.2.1=b.2.1.2.1:=Fz.1
 have z1:cc a.2.1.1 b.2.1.1=0->a.2.1.1=b.2.1.1:=λg=>by
  rcases h1 with ⟨c,h⟩|⟨c,h⟩|⟨c,h⟩
  ·rw [c] at g;cases g
  ·exact h
  ·rw [c] at g;cases g
 refine ⟨λn0=>key _ ?_,λn0 n1=>key _ ?_,λn0 n1 n2=>key _ ?_,λn0 n1 n2=>key _ ?_⟩
 ·rcases h0 with ⟨c,h⟩|⟨c,h⟩|⟨c,h⟩
  ·exact .inl ⟨c,.inl h⟩
  ·exact ZF c n0
  ·exact .inr (.inr ⟨c,.inl h⟩)
 ·rcases h1 with ⟨c,h⟩|⟨c,h⟩|⟨c,h⟩
  ·exact .inl ⟨c,.inr ⟨z0 n0,.inl h⟩⟩
  ·exact ZF c n1
  ·exact .inr (.inr ⟨c,.inr ⟨(z0 n0).symm,.inl h⟩⟩)
 ·rcases h2 with ⟨c,h⟩|⟨c,h⟩|⟨c,h⟩
  ·exact .inl ⟨c,.inr ⟨z0 n0,.inr ⟨z1 n1,.inl h⟩⟩⟩
  ·exact ZF c n2
  ·exact .inr (.inr ⟨c,.inr ⟨(z0 n0).symm,.inr ⟨(z1 n1).symm,.inl h⟩⟩⟩)
 ·rcases h3 with ⟨c,h⟩|⟨c,h⟩|⟨c,h⟩
  ·exact .inl ⟨c,.inr ⟨z0 n0,.inr ⟨z1 n1,.inr ⟨z2 n2,h⟩⟩⟩⟩
  ·exact .inr (.inl ⟨c,z0 n0,GQ.2 ⟨z1 n1,z2 n2,h⟩⟩)
  ·exact .inr (.inr ⟨c,.inr ⟨(z0 n0).symm,.inr ⟨(z1 n1).symm,.inr ⟨(z2 n2).symm,h⟩⟩⟩⟩)
theorem Iz {a b:Tg} {k:Nat} (hk:k<4) (h:∀ j,j<k->nF a b j=0) (h0:nF a b k≠0):nF a b k=uV a b:=by
 have H:=Ij (a:=a) (b:=b)
 match k,hk with
 |0,_=>exact H.1 h0
 |1,_=>exact H.2.1 (h 0 (by omega)) h0
 |2,_=>exact H.2.2.1 (h 0 (by omega)) (h 1 (by omega)) h0
 |3,_=>exact H.2.2.2 (h 0 (by omega)) (h 1 (by omega)) (h 2 (by omega))
theorem LH {a b:Tg} (h:∀ j,j<4->nF a b j=0):uV a b=0:=
 (Ij.2.2.2 (h 0 (by omega)) (h 1 (by omega)) (h 2 (by omega))).symm.trans (h 3 (by omega))
theorem Lq {a b:Tg} {k:Nat} (h:∀ j,j<k->nF a b j=0) (hk:nF a b k=0):∀ j,j<k+1->nF a b j=0:=λj hj=>by
 rcases YP j k with g|g
 ·exact h j g
 ·obtain rfl:j=k:=by omega
  exact hk
structure FndT (l:List Tg) (x:Tg) (n:Nat) (b:Bool):Prop where
 le:n<=l.length
 lo:∀ j,j<n->Im (l.getD j eg) x=true
 hi:∀ j,n<=j->j<l.length->Im (l.getD j eg) x=false
 is:b=(decide (n<l.length) && V6 x.1 x.2.1 (l.getD n eg))
theorem St.grp1 {w0 w:World} {a:Value} {M:TypeId} {sa n:Nat} {xs:List Value} {ks:List Nat} {S S':World->Prop} {B:List Own} (s:St w0 (.sl a M sa n xs::.grp ks S::B) w) (h:∀ w9,bp w9 a sa n xs->S w9->S' w9):∃ kn,St w0 (.grp kn S'::B) w:=
 ⟨_,(St.group (A:=[.sl a M sa n xs,.grp ks S]) (B:=B) s).weak λw9 h9=>h w9 (bp.of_own (h9 (.sl a M sa n xs) (by simp))) ((h9 (.grp ks S) (by simp)).2 w9 λ_ _=>rfl)⟩
theorem yo {w:World} {a:Option Addr} {n c:Nat} {l:List Tg} (ha:a.isNone=true) (h:bp w (.slice a n c) 67 l.length (eE l)):l=[]:=by
 cases a with
 |some p=>cases ha
 |none=>
  rcases h.2 with ⟨h1,h2⟩|⟨p,cap,h1,_⟩
  ·exact List.eq_nil_of_length_eq_zero h2
  ·cases h1
section
variable {P:Program} {ρ:Operand->Value} {d:Option Tmp} {ty:TypeId} {pos:String} {af:Array Edge} {g:Option (Nat × Bool)} {x y z:Operand} {t:TypeId}
theorem xU {C:Array Value} {V:Value} {len:Nat} {e:TypeId} {ps rs:Array TypeId} {vr:Bool} {k:IntKind} {m:Int} (j:Nat) (hd:P.underlying t=some (.array len e)) (he:(P.info? e).map (·.size)=some 1) (ha:P.underlying e=some (.func ps rs vr)) (hx:ρ x=.agg C) (hy:ρ y=.int k m) (hj:m=(j:Int)) (hlt:j<len) (hC:C[j]? = some V):aP P ⟨d,.index t x y,ty,pos,af,g⟩ ρ V:=λw=>by
 subst hj
 cases hi:P.info? e with
 |none=>simp [hi] at he
 |some i=>
  have h1:i.size=1:=by simpa [hi] using he
  have h2:(0:Int)<=(j:Int)/\(j:Int)<(len:Int):=by omega
  simp only [execOp,hx,hy,Instr.index,asIntOf,Zc,Zd,YA,YC hd w]
  rw [if_pos h2]
  have h3:(isAgg e).run P w=.ok false w:=by unfold isAgg;rw [Zc,YC ha w];rfl
  simp [Zc,sizeOf,typeInfo,hi,h1,part,h3,hC]
end
def V5 (a b c d k:Nat):Nat:=match k with|0=>a|1=>b|2=>c|_=>d
theorem OB {a b c d k:Nat} (hk:k<4):(#[Value.func (.func a) #[] #[],.func (.func b) #[] #[],.func (.func c) #[] #[],.func (.func d) #[] #[]]:Array Value)[k]? = some (.func (.func (V5 a b c d k)) #[] #[]):=by
 match k,hk with
 |0,_=>rfl
 |1,_=>rfl
 |2,_=>rfl
 |3,_=>rfl
section
variable {P:Program} {ρ:Operand->Value} {d:Option Tmp} {ty:TypeId} {pos:String} {af:Array Edge} {g:Option (Nat × Bool)} {x y z:Operand} {t:TypeId}
end
end Go.Proofs.YtkhepdpfdhdlaaaGreatDoor
namespace Go.Proofs.YtkhepdpfdhdlaaaGreatDoor
open Go.RowKit Go.ChangeShapes Go.WideShapes Go.ChangeAt
theorem GE {H:Type} {enc:TypeId × Value->H} {P:Program} {w:World} {base:Nat} {spare:Nat->Bool} {held:Bool} {t te tn ti e:TypeId} {f0 f1 f2 g0 g1 g2:Field} {fuel:Nat} {cs:List Value} {x:DataW H × List MemPlace} (T:IdTy P ti e) (hc:P.cellsOf ti=32) (hce:P.cellsOf e=1) (hn:P.underlying tn=some (.int .i64)) (hcn:P.cellsOf tn=1)
 (hte:P.underlying te=some (.struct #[f0,f1,f2])) (h0:f0.type=tn) (h1:f1.type=ti) (h2:f2.type=tn) (o0:f0.offset=0) (o1:f1.offset=1) (o2:f2.offset=33) (hcte:P.cellsOf te=34)
 (ht:P.underlying t=some (.struct #[g0,g1,g2])) (k0:g0.type=ti) (k1:g1.type=te) (k2:g2.type=tn) (p0:g0.offset=0) (p1:g1.offset=32) (p2:g2.offset=66) (hct:P.cellsOf t=67)
 (h:DataW.trod enc P w base spare held fuel t cs=some x):∃ l:Tg,cs=(bY l).toList:=by
 obtain ⟨xs,n,rfl,_,hl,hxl,hel⟩:=DataW.trod_struct ht h
 rw [hct] at hl
 have hx2:xs.length=3:=by simpa using hxl
 have e0:=hel 0 g0 rfl
 have e1:=hel 1 g1 rfl
 have e2:=hel 2 g2 rfl
 rw [k0,p0,hc,Yz (by omega)] at e0
 rw [k1,p1,hcte,Yz (by omega)] at e1
 rw [k2,p2,hcn,Yz (by omega)] at e2
 obtain ⟨a,ha⟩:=jr T hc hce e0
 obtain ⟨b,hb⟩:=q9 T hc hce hn hcn hte h0 h1 h2 o0 o1 o2 hcte e1
 obtain ⟨u,hu,_⟩:=DataW.trod_int hn e2
 refine ⟨(a,b,u),?_⟩
 show cs=(aA a).toList++((co b).toList++[.int .i64 u])
 rw [← ha,← hb,← hu,List.drop_zero]
 have s1:(cs.drop 66).take 1=cs.drop 66:=YU (by rw [YX];omega)
 have s2:(cs.drop 32).take 34++cs.drop 66=cs.drop 32:=by
  have:=YS 34 (cs.drop 32)
  rw [List.drop_drop] at this
  exact this
 rw [s1,s2,YS]
end Go.Proofs.YtkhepdpfdhdlaaaGreatDoor
