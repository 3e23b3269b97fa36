/- Triggers and tables: which may be, which is below which, what is put, dropped, over, matched and cut; what may be stays such, parts put together, and in whatever order; triggers that come in; no Go in it. -/
import Derived.Test.YtkhepdpfdhdlaaaGreatDoorLk
set_option linter.unusedVariables false
set_option linter.unusedSimpArgs false
set_option linter.unusedSectionVars false
namespace Go.Proofs.YtkhepdpfdhdlaaaGreatDoor
open Go.RowKit
abbrev Tg:=Id × dN × Int
def qA (t:Tg):List Value:=(aI t.1).toList++((df t.2.1).toList++[.int .i64 t.2.2])
def co (t:Tg):Array Value:=(qA t).toArray
def eA:Tg:=(0#256,(0,0#256,0),0)
theorem qp (t:Tg):(qA t).length=67:=by simp [qA,ce]
theorem cR (t:Tg):(co t).size=67:=by simp [co,qp]
theorem ow (t:Tg):∀ v∈qA t,v.oneCell'=true:=λv hv=>by
 unfold qA at hv
 rcases av4.1 hv with hv|hv
 ·rw [dU] at hv;exact ef _ _ v hv
 ·rcases av4.1 hv with hv|hv
  ·exact jp _ v hv
  ·rw [as9] at hv;subst hv;rfl
theorem Ba (t:Tg):∀ v∈(co t).toList,v.oneCell'=true:=ow t
theorem dL (x:Id):(aI x).toList.length=32:=by simp
theorem qY (e:dN):(df e).toList.length=34:=by rw [as7,ce]
theorem AE (t:Tg):((co t).toList.drop 0).take 32=(aI t.1).toList:=by
 show ((qA t).drop 0).take 32=_
 unfold qA
 rw [List.drop_zero,List.take_left' (dL _)]
theorem yu (t:Tg):((co t).toList.drop 32).take 34=(df t.2.1).toList:=by
 show ((qA t).drop 32).take 34=_
 unfold qA
 rw [List.drop_left' (dL _),List.take_left' (qY _)]
theorem Dy (t:Tg):((co t).toList.drop 66).take 1=[Value.int .i64 t.2.2]:=by
 show ((qA t).drop 66).take 1=_
 unfold qA
 rw [← aw8,List.drop_left' (by rw [as2,dL,qY])];rfl
theorem lG (L:List Value) (C:Array Value) (a n:Nat) (h:(L.drop a).take n=C.toList):L.toArray.extract a (a+n)=C:=by
 apply Array.ext'
 rw [Array.toList_extract,List.extract_eq_take_drop,Nat.add_sub_cancel_left]
 exact h
theorem yQ (t:Tg):(co t).extract 0 (0+32)=aI t.1:=lG _ _ _ _ (AE t)
theorem Ih (t:Tg):(co t).extract 32 (32+34)=df t.2.1:=lG _ _ _ _ (yu t)
theorem ux (t:Tg):(co t).extract 33 (33+32)=aI t.2.1.2.1:=lG _ _ _ _ (by
 show ((qA t).drop 33).take 32=_
 unfold qA
 rw [show 33=32+1 from rfl,← List.drop_drop,List.drop_left' (dL _),fS,List.cons_append,List.drop_succ_cons,List.drop_zero,aw8,List.take_left' (dL _)])
theorem rB (t:Tg):(co t)[32]? = some (.int .i64 t.2.1.1):=by
 unfold co qA
 rw [au3,av2 (by rw [dL];exact at6 _),dL,fS];rfl
theorem qW (t:Tg):(co t)[65]? = some (.int .i64 t.2.1.2.2):=by
 unfold co qA
 rw [au3,av2 (by rw [dL];omega),dL,av3 (by rw [qY];omega)]
 have:=gX t.2.1
 rw [← ay4] at this
 exact this
theorem pu (t:Tg):(co t)[66]? = some (.int .i64 t.2.2):=by
 unfold co qA
 rw [au3,← aw8,av2 (by rw [as2,dL,qY];exact at6 _),as2,dL,qY];rfl
theorem E0 {x y:Tg} (h:(co x).toList=(co y).toList):x=y:=by
 have h0:=AE x;rw [h,AE] at h0
 have h1:=yu x;rw [h,yu] at h1
 have h2:=Dy x;rw [h,Dy] at h2
 refine Prod.ext (jr (Array.toList_inj.1 h0)).symm (Prod.ext (AM h1).symm ?_)
 simpa using h2.symm
theorem ah2 (x y:Tg):decide (x=y)=true↔(co x).toList=(co y).toList:=by
 rw [as5];exact ⟨λh=>by rw [h],E0⟩
def PK:List (List Value):=[List.replicate 32 (.int .u8 0),.int .i64 0::(List.replicate 32 (.int .u8 0)++[.int .i64 0]),[.int .i64 0]]
theorem wN:co eA=PK.flatten.toArray:=by
 unfold co qA eA;rw [iy,ei];rfl
def eQ (l:List Tg):List Value:=l.flatMap qA
theorem wy (l:List Tg):∀ u∈eQ l,u.oneCell'=true:=λu hu=>by
 obtain ⟨x,_,hx⟩:=List.mem_flatMap.1 hu
 exact ow x u hx
theorem Z6 {l:List Tg} {j:Nat} (hj:j<l.length):l[j]=l.getD j eA:=by
 rw [au1,as3 hj];rfl
theorem r4 (l:List Tg) (j:Nat) (hj:j<l.length):(((eQ l).drop (j*67)).take 67).toArray=co (l.getD j eA):=by
 unfold eQ
 rw [fk _ 67 qp l j hj,Z6 hj];rfl
def sZ (t:Tg):Bool:=pk t.2.1 && (decide (0<=t.2.2) && decide (t.2.2<=1099511627776))
def zI (a b:Tg):Prop:=a.1.toNat<b.1.toNat∨(a.1=b.1/\(a.2.1.1<b.2.1.1∨(a.2.1.1=b.2.1.1/\(a.2.1.2.1.toNat<b.2.1.2.1.toNat∨(a.2.1.2.1=b.2.1.2.1/\a.2.1.2.2<b.2.1.2.2)))))
instance (a b:Tg):Decidable (zI a b):=by unfold zI;infer_instance
def Mm (a b:Tg):Bool:=decide (zI a b)
def Bw (a b:Tg):Prop:=a.1=b.1/\a.2.1=b.2.1
instance (a b:Tg):Decidable (Bw a b):=by unfold Bw;infer_instance
theorem DH {a b:Id}:a=b↔a.toNat=b.toNat:=BitVec.toNat_inj.symm
theorem JS {a b:dN}:a=b↔a.1=b.1/\a.2.1=b.2.1/\a.2.2=b.2.2:=⟨λh=>by rw [h];exact ⟨rfl,rfl,rfl⟩,λ⟨h1,h2,h3⟩=>Prod.ext h1 (Prod.ext h2 h3)⟩
theorem RY (a:Tg):¬ zI a a:=by unfold zI;omega
theorem HD {a b c:Tg} (h:zI a b) (g:zI b c):zI a c:=by
 unfold zI at *
 simp only [DH] at *
 omega
theorem Qq {a b:Tg} (h:zI a b):¬ Bw a b:=by
 unfold zI at h;unfold Bw
 simp only [JS,DH] at *
 omega
theorem TC {a b:Tg} (h:zI a b):¬ Bw b a:=λg=>Qq h ⟨g.1.symm,g.2.symm⟩
theorem Bw.symm {a b:Tg} (h:Bw a b):Bw b a:=⟨h.1.symm,h.2.symm⟩
theorem Bw.trans {a b c:Tg} (h:Bw a b) (g:Bw b c):Bw a c:=⟨h.1.trans g.1,h.2.trans g.2⟩
def Zv (l:List Tg):Prop:=l.Pairwise zI
theorem Zv.filter {l:List Tg} (h:Zv l) (p:Tg->Bool):Zv (l.filter p):=List.Pairwise.filter p h
def Z4 (l:List Tg) (k:Nat):Bool:=decide (k=0) || Mm (l.getD (k - 1) eA) (l.getD k eA)
def Mp (l:List Tg) (k:Nat):Bool:=sZ (l.getD k eA) && Z4 l k
def jG (l:List Tg):Bool:=(List.range l.length).all (Mp l) && decide (l.length<=32)
structure RT (l:List Tg):Prop where
 may:∀ y∈l,sZ y=true
 srt:Zv l
 len:l.length<=32
theorem rX {l:List Tg} {k:Nat} (hk:k<l.length) (h:Mp l k=false):jG l=false:=by
 unfold jG
 rw [Bool.and_eq_false_iff]
 exact .inl (List.all_eq_false.2 ⟨k,at2.2 hk,by rw [h];decide⟩)
theorem uj {l:List Tg} (h:∀ k,k<l.length->Mp l k=true):jG l=decide (l.length<=32):=by
 unfold jG
 rw [as1.2 λk hk=>h k (at2.1 hk),Bool.true_and]
def ZJ (i:Id) (e:dN) (y:Tg):Bool:=decide (y.1=i) && decide (y.2.1=e)
def nTg:Tg:=(0#256,(0,0#256,0),-1)
def JH (l:List Tg) (i:Id) (e:dN):Tg:=(l.find? (ZJ i e)).getD nTg
def YU (l:List Tg) (i:Id) (e:dN):List Tg:=l.filter λy => !ZJ i e y
def Z7 (l:List Tg) (x:Tg):Tg:=bif decide (x.2.2<(JH l x.1 x.2.1).2.2) then (x.1,x.2.1,(JH l x.1 x.2.1).2.2) else x
def ad8 (l:List Tg) (x:Tg):List Tg:=l.takeWhile (λy => !Mm x y)++x::l.dropWhile (λy => !Mm x y)
def Oe (l:List Tg) (x:Tg):List Tg:=ad8 (YU l x.1 x.2.1) (Z7 l x)
def af6 (l:List Tg) (now:Int):List Tg:=l.filter λy=>decide (now<y.2.2)
def onF (l:List Tg) (a b:Id) (on:Bool):List Tg:=l.filter λy=>x8 y.1 a b == on
noncomputable def mtK (l:List Tg) (x:Id) (n:Nat):List Tg:=match l.find? λy=>decide (com y.1 x=n) with|none=>[]|some z=>l.filter λy=>decide (com y.1 x=n) && decide (y.1=z.1)
noncomputable def mtN (l:List Tg) (x:Id):Nat->List Tg|0=>[]|j+1=>bif decide (mtK l x (128+j)=[]) then mtN l x j else mtK l x (128+j)
noncomputable def mtF (l:List Tg) (x:Id):List Tg:=mtN l x 129
theorem RT.filter {l:List Tg} (h:RT l) (p:Tg->Bool):RT (l.filter p):=⟨λy hy=>h.may y (au9.1 hy).1,h.srt.filter p,ax0 (av7 _ _) h.len⟩
theorem ac8 {l:List Tg} {k:Nat} (h:sZ (l.getD k eA)=false):Mp l k=false:=by unfold Mp;rw [h];rfl
theorem ah9 {l:List Tg} {k:Nat} (h:sZ (l.getD k eA)=true) (h1:k=0):Mp l k=true:=by unfold Mp Z4;rw [h,ar7 h1];rfl
theorem V4 {l:List Tg} {k:Nat} (h:sZ (l.getD k eA)=true) (h1:¬ k=0):Mp l k=Mm (l.getD (k - 1) eA) (l.getD k eA):=by unfold Mp Z4;rw [h,ar6 h1];rfl
theorem zS {q:Nat->Bool} {k:Nat} (h:∀ j,j<k->q j=true) (hk:q k=true):∀ j,j<k+1->q j=true:=λj hj=>by
 rcases at9 j k with g|g
 ·exact h j g
 ·obtain rfl:j=k:=by omega
  exact hk
theorem KD {l r:List Tg} {k:Nat} (h:∀ j,j<k->l.getD j eA=r.getD j eA) (he:l.getD k eA=r.getD k eA):∀ j,j<k+1->l.getD j eA=r.getD j eA:=λj hj=>by
 rcases at9 j k with g|g
 ·exact h j g
 ·obtain rfl:j=k:=by omega
  exact he
theorem N4 {l r:List Tg} (hl:l.length=r.length) (h:∀ j,j<l.length->l.getD j eA=r.getD j eA):l=r:=by
 refine List.ext_getElem hl λj h1 h2=>?_
 rw [Z6 h1,Z6 h2];exact h j h1
section
variable {P:Program} {ρ:Operand->Value} {d:Option Tmp} {ty:TypeId} {pos:String} {af:Array Edge} {g:Option (Nat × Bool)} {x y z:Operand} {t:TypeId}
end
abbrev Mk (w:World) (v:Value) (l:List Tg):Prop:=br w v 67 l.length (eQ l)
def pW (a b:Tg) (k:Nat):Int:=match k with
 |0=>gr a.1 b.1
 |1=>cJ a.2.1.1 b.2.1.1
 |2=>gr a.2.1.2.1 b.2.1.2.1
 |_=>cJ a.2.1.2.2 b.2.1.2.2
def x7 (a b:Tg):Int:=if zI a b then -1 else if Bw a b then 0 else 1
theorem NJ (a b:Tg):decide (x7 a b<0)=Mm a b:=by
 unfold x7 Mm
 by_cases h:zI a b
 ·rw [if_pos h];simp [h]
 ·rw [if_neg h]
  by_cases g:Bw a b
  ·rw [if_pos g];simp [h]
  ·rw [if_neg g];simp [h]
theorem Ib (a b:Tg):decide (x7 a b≥0) = !Mm a b:=by
 rw [← NJ,← decide_not];exact as8.2 (by omega)
theorem Js {a b:Id}:gr a b=0↔a=b:=by
 rw [DH];unfold gr;split
 ·simp;omega
 ·split
  ·simp;omega
  ·simp;omega
theorem Jj (a b:Id):(gr a b = -1/\a.toNat<b.toNat)∨(gr a b=0/\a=b)∨(gr a b=1/\b.toNat<a.toNat):=by
 rw [DH];unfold gr;split
 ·exact .inl ⟨rfl,by assumption⟩
 ·split
  ·exact .inr (.inr ⟨rfl,by assumption⟩)
  ·exact .inr (.inl ⟨rfl,by omega⟩)
theorem AD (a b:Int):(cJ a b = -1/\a<b)∨(cJ a b=0/\a=b)∨(cJ a b=1/\b<a):=by
 unfold cJ;split
 ·exact .inl ⟨rfl,by assumption⟩
 ·split
  ·exact .inr (.inr ⟨rfl,by assumption⟩)
  ·exact .inr (.inl ⟨rfl,by omega⟩)
theorem Kr {a b:Tg}:(pW a b 0≠0->pW a b 0=x7 a b)/\(pW a b 0=0->pW a b 1≠0->pW a b 1=x7 a b)/\(pW a b 0=0->pW a b 1=0->pW a b 2≠0->pW a b 2=x7 a b)/\(pW a b 0=0->pW a b 1=0->pW a b 2=0->pW a b 3=x7 a b):=by
 have h0:_∨_∨_:=Jj a.1 b.1
 have h1:_∨_∨_:=AD a.2.1.1 b.2.1.1
 have h2:_∨_∨_:=Jj a.2.1.2.1 b.2.1.2.1
 have h3:_∨_∨_:=AD a.2.1.2.2 b.2.1.2.2
 show (gr a.1 b.1≠0->gr a.1 b.1=x7 a b)/\(gr a.1 b.1=0->cJ a.2.1.1 b.2.1.1≠0->cJ a.2.1.1 b.2.1.1=x7 a b)/\(gr a.1 b.1=0->cJ a.2.1.1 b.2.1.1=0->gr a.2.1.2.1 b.2.1.2.1≠0->gr a.2.1.2.1 b.2.1.2.1=x7 a b)/\(gr a.1 b.1=0->cJ a.2.1.1 b.2.1.1=0->gr a.2.1.2.1 b.2.1.2.1=0->cJ a.2.1.2.2 b.2.1.2.2=x7 a b)
 have key:∀ c:Int,((c = -1/\zI a b)∨(c=0/\Bw a b)∨(c=1/\zI b a))->c=x7 a b:=by
  rintro c (⟨rfl,h⟩|⟨rfl,h⟩|⟨rfl,h⟩)
  ·unfold x7;rw [if_pos h]
  ·unfold x7;rw [if_neg λg=>Qq g h,if_pos h]
  ·unfold x7;rw [if_neg λg=>RY a (HD g h),if_neg λg=>TC h g]
 have z0:gr a.1 b.1=0->a.1=b.1:=Js.1
 have z2:gr a.2.1.2.1 b.2.1.2.1=0->a.2.1.2.1=b.2.1.2.1:=Js.1
 have z1:cJ a.2.1.1 b.2.1.1=0->a.2.1.1=b.2.1.1:=λg=>by
  rcases h1 with ⟨c,h⟩|⟨c,h⟩|⟨c,h⟩
  ·rw [c] at g;cases g
  ·exact h
  ·rw [c] at g;cases g
 refine ⟨λn0=>key _ ?_,λn0 n1=>key _ ?_,λn0 n1 n2=>key _ ?_,λn0 n1 n2=>key _ ?_⟩
 ·rcases h0 with ⟨c,h⟩|⟨c,h⟩|⟨c,h⟩
  ·exact .inl ⟨c,.inl h⟩
  ·exact az2 c n0
  ·exact .inr (.inr ⟨c,.inl h⟩)
 ·rcases h1 with ⟨c,h⟩|⟨c,h⟩|⟨c,h⟩
  ·exact .inl ⟨c,.inr ⟨z0 n0,.inl h⟩⟩
  ·exact az2 c n1
  ·exact .inr (.inr ⟨c,.inr ⟨(z0 n0).symm,.inl h⟩⟩)
 ·rcases h2 with ⟨c,h⟩|⟨c,h⟩|⟨c,h⟩
  ·exact .inl ⟨c,.inr ⟨z0 n0,.inr ⟨z1 n1,.inl h⟩⟩⟩
  ·exact az2 c n2
  ·exact .inr (.inr ⟨c,.inr ⟨(z0 n0).symm,.inr ⟨(z1 n1).symm,.inl h⟩⟩⟩)
 ·rcases h3 with ⟨c,h⟩|⟨c,h⟩|⟨c,h⟩
  ·exact .inl ⟨c,.inr ⟨z0 n0,.inr ⟨z1 n1,.inr ⟨z2 n2,h⟩⟩⟩⟩
  ·exact .inr (.inl ⟨c,z0 n0,JS.2 ⟨z1 n1,z2 n2,h⟩⟩)
  ·exact .inr (.inr ⟨c,.inr ⟨(z0 n0).symm,.inr ⟨(z1 n1).symm,.inr ⟨(z2 n2).symm,h⟩⟩⟩⟩)
theorem MN {a b:Tg} {k:Nat} (hk:k<4) (h:∀ j,j<k->pW a b j=0) (h0:pW a b k≠0):pW a b k=x7 a b:=by
 have H:=Kr (a:=a) (b:=b)
 match k,hk with
 |0,_=>exact H.1 h0
 |1,_=>exact H.2.1 (h 0 (by omega)) h0
 |2,_=>exact H.2.2.1 (h 0 (by omega)) (h 1 (by omega)) h0
 |3,_=>exact H.2.2.2 (h 0 (by omega)) (h 1 (by omega)) (h 2 (by omega))
theorem Pf {a b:Tg} (h:∀ j,j<4->pW a b j=0):x7 a b=0:=
 (Kr.2.2.2 (h 0 (by omega)) (h 1 (by omega)) (h 2 (by omega))).symm.trans (h 3 (by omega))
theorem O8 {a b:Tg} {k:Nat} (h:∀ j,j<k->pW a b j=0) (hk:pW a b k=0):∀ j,j<k+1->pW a b j=0:=λj hj=>by
 rcases at9 j k with g|g
 ·exact h j g
 ·obtain rfl:j=k:=by omega
  exact hk
structure FndT (l:List Tg) (x:Tg) (n:Nat) (b:Bool):Prop where
 le:n<=l.length
 lo:∀ j,j<n->Mm (l.getD j eA) x=true
 hi:∀ j,n<=j->j<l.length->Mm (l.getD j eA) x=false
 is:b=(decide (n<l.length) && ZJ x.1 x.2.1 (l.getD n eA))
theorem St.grp1 {w0 w:World} {a:Value} {M:TypeId} {sa n:Nat} {xs:List Value} {ks:List Nat} {S S':World->Prop} {B:List Own} (s:St w0 (.sl a M sa n xs::.grp ks S::B) w) (h:∀ w9,br w9 a sa n xs->S w9->S' w9):∃ kn,St w0 (.grp kn S'::B) w:=
 ⟨_,(St.group (A:=[.sl a M sa n xs,.grp ks S]) (B:=B) s).weak λw9 h9=>h w9 (br.of_own (h9 (.sl a M sa n xs) (by simp))) ((h9 (.grp ks S) (by simp)).2 w9 λ_ _=>rfl)⟩
theorem A1 {w:World} {a:Option Addr} {n c:Nat} {l:List Tg} (ha:a.isNone=true) (h:br w (.slice a n c) 67 l.length (eQ l)):l=[]:=by
 cases a with
 |some p=>cases ha
 |none=>
  rcases h.2 with ⟨h1,h2⟩|⟨p,cap,h1,_⟩
  ·exact List.eq_nil_of_length_eq_zero h2
  ·cases h1
section
variable {P:Program} {ρ:Operand->Value} {d:Option Tmp} {ty:TypeId} {pos:String} {af:Array Edge} {g:Option (Nat × Bool)} {x y z:Operand} {t:TypeId}
theorem zV {C:Array Value} {V:Value} {len:Nat} {e:TypeId} {ps rs:Array TypeId} {vr:Bool} {k:IntKind} {m:Int} (j:Nat) (hd:P.underlying t=some (.array len e)) (he:(P.info? e).map (·.size)=some 1) (ha:P.underlying e=some (.func ps rs vr)) (hx:ρ x=.agg C) (hy:ρ y=.int k m) (hj:m=(j:Int)) (hlt:j<len) (hC:C[j]? = some V):a7 P ⟨d,.index t x y,ty,pos,af,g⟩ ρ V:=λw=>by
 subst hj
 cases hi:P.info? e with
 |none=>simp [hi] at he
 |some i=>
  have h1:i.size=1:=by simpa [hi] using he
  have h2:(0:Int)<=(j:Int)/\(j:Int)<(len:Int):=by omega
  simp only [execOp,hx,hy,Instr.index,asIntOf,aw2,aw3,as4,as6 hd w]
  rw [if_pos h2]
  have h3:(isAgg e).run P w=.ok false w:=by unfold isAgg;rw [aw2,as6 ha w];rfl
  simp [aw2,sizeOf,typeInfo,hi,h1,part,h3,hC]
end
def fn4 (a b c d k:Nat):Nat:=match k with|0=>a|1=>b|2=>c|_=>d
theorem UL {a b c d k:Nat} (hk:k<4):(#[Value.func (.func a) #[] #[],.func (.func b) #[] #[],.func (.func c) #[] #[],.func (.func d) #[] #[]]:Array Value)[k]? = some (.func (.func (fn4 a b c d k)) #[] #[]):=by
 match k,hk with
 |0,_=>rfl
 |1,_=>rfl
 |2,_=>rfl
 |3,_=>rfl
section
variable {P:Program} {ρ:Operand->Value} {d:Option Tmp} {ty:TypeId} {pos:String} {af:Array Edge} {g:Option (Nat × Bool)} {x y z:Operand} {t:TypeId}
end
def pq (m:Int) (n:Nat):Nat:=((m.tmod n+n) % (n:Int)).toNat
theorem NP (m:Int) {n:Nat} (h:1<=n):(m.tmod n+n) % (n:Int)=(pq m n:Int)/\pq m n<n:=by
 have h1:=Int.emod_nonneg (m.tmod n+n) (show (n:Int)≠0 by omega)
 have h2:=Int.emod_lt_of_pos (m.tmod n+n) (show (0:Int)<n by omega)
 unfold pq
 exact ⟨(Int.toNat_of_nonneg h1).symm,by omega⟩
end Go.Proofs.YtkhepdpfdhdlaaaGreatDoor
namespace Go.Proofs.YtkhepdpfdhdlaaaGreatDoor
open Go.RowKit Go.ChangeShapes Go.WideShapes Go.ChangeAt
theorem KH {H:Type} {enc:TypeId × Value->H} {P:Program} {w:World} {base:Nat} {spare:Nat->Bool} {held:Bool} {t te tn ti e:TypeId} {f0 f1 f2 g0 g1 g2:Field} {fuel:Nat} {cs:List Value} {x:DataW H × List MemPlace} (T:IdTy P ti e) (hc:P.cellsOf ti=32) (hce:P.cellsOf e=1) (hn:P.underlying tn=some (.int .i64)) (hcn:P.cellsOf tn=1)
 (hte:P.underlying te=some (.struct #[f0,f1,f2])) (h0:f0.type=tn) (h1:f1.type=ti) (h2:f2.type=tn) (o0:f0.offset=0) (o1:f1.offset=1) (o2:f2.offset=33) (hcte:P.cellsOf te=34)
 (ht:P.underlying t=some (.struct #[g0,g1,g2])) (k0:g0.type=ti) (k1:g1.type=te) (k2:g2.type=tn) (p0:g0.offset=0) (p1:g1.offset=32) (p2:g2.offset=66) (hct:P.cellsOf t=67)
 (h:DataW.trod enc P w base spare held fuel t cs=some x):∃ l:Tg,cs=(co l).toList:=by
 obtain ⟨xs,n,rfl,_,hl,hxl,hel⟩:=DataW.trod_struct ht h
 rw [hct] at hl
 have hx2:xs.length=3:=by simpa using hxl
 have e0:=hel 0 g0 rfl
 have e1:=hel 1 g1 rfl
 have e2:=hel 2 g2 rfl
 rw [k0,p0,hc,as3 (by omega)] at e0
 rw [k1,p1,hcte,as3 (by omega)] at e1
 rw [k2,p2,hcn,as3 (by omega)] at e2
 obtain ⟨a,ha⟩:=lm T hc hce e0
 obtain ⟨b,hb⟩:=GM T hc hce hn hcn hte h0 h1 h2 o0 o1 o2 hcte e1
 obtain ⟨u,hu,_⟩:=DataW.trod_int hn e2
 refine ⟨(a,b,u),?_⟩
 show cs=(aI a).toList++((df b).toList++[.int .i64 u])
 rw [← ha,← hb,← hu,List.drop_zero]
 have s1:(cs.drop 66).take 1=cs.drop 66:=au4 (by rw [au7];omega)
 have s2:(cs.drop 32).take 34++cs.drop 66=cs.drop 32:=by
  have:=au2 34 (cs.drop 32)
  rw [List.drop_drop] at this
  exact this
 rw [s1,s2,au2]
end Go.Proofs.YtkhepdpfdhdlaaaGreatDoor
