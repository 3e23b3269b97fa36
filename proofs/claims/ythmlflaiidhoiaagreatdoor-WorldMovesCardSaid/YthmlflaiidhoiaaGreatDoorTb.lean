/- Triggers and tables: which may be, what becomes of them; triggers that come in. -/
import Derived.Test.YthmlflaiidhoiaaGreatDoorLk
set_option linter.unusedVariables false
set_option linter.unusedSimpArgs false
set_option linter.unusedSectionVars false
namespace Go.Proofs.YthmlflaiidhoiaaGreatDoor
open Go.RowKit
abbrev Tg:=Id × dN × Int
def pX (t:Tg):List Value:=(aH t.1).toList++((cG t.2.1).toList++[.int .i64 t.2.2])
def aU (t:Tg):Array Value:=(pX t).toArray
def cr:Tg:=(0#256,(0,0#256,0),0)
theorem lh (t:Tg):(pX t).length=67:=by simp [pX,bR]
theorem aE (t:Tg):(aU t).size=67:=by simp [aU,lh]
theorem pK (t:Tg):∀ v∈pX t,v.oneCell'=true:=λv hv=>by
 unfold pX at hv
 rcases aK9.1 hv with hv|hv
 ·rw [eg] at hv;exact eE _ _ v hv
 ·rcases aK9.1 hv with hv|hv
  ·exact kw _ v hv
  ·rw [aI4] at hv;subst hv;rfl
theorem cP (t:Tg):∀ v∈(aU t).toList,v.oneCell'=true:=pK t
theorem d4 (x:Id):(aH x).toList.length=32:=by simp
theorem om (e:dN):(cG e).toList.length=34:=by rw [aI2,bR]
theorem Bz (t:Tg):((aU t).toList.drop 0).take 32=(aH t.1).toList:=by
 show ((pX t).drop 0).take 32=_
 unfold pX
 rw [List.drop_zero,List.take_left' (d4 _)]
theorem BK (t:Tg):((aU t).toList.drop 32).take 34=(cG t.2.1).toList:=by
 show ((pX t).drop 32).take 34=_
 unfold pX
 rw [List.drop_left' (d4 _),List.take_left' (om _)]
theorem GQ (t:Tg):((aU t).toList.drop 66).take 1=[Value.int .i64 t.2.2]:=by
 show ((pX t).drop 66).take 1=_
 unfold pX
 rw [← aM3,List.drop_left' (by rw [aH7,d4,om])];rfl
theorem mL (L:List Value) (C:Array Value) (a n:Nat) (h:(L.drop a).take n=C.toList):L.toArray.extract a (a+n)=C:=by
 apply Array.ext'
 rw [Array.toList_extract,List.extract_eq_take_drop,Nat.add_sub_cancel_left]
 exact h
theorem gZ (t:Tg):(aU t).extract 0 (0+32)=aH t.1:=mL _ _ _ _ (Bz t)
theorem pk (t:Tg):(aU t).extract 32 (32+34)=cG t.2.1:=mL _ _ _ _ (BK t)
theorem nr (t:Tg):(aU t).extract 33 (33+32)=aH t.2.1.2.1:=mL _ _ _ _ (by
 show ((pX t).drop 33).take 32=_
 unfold pX
 rw [show 33=32+1 from rfl,← List.drop_drop,List.drop_left' (d4 _),f7,List.cons_append,List.drop_succ_cons,List.drop_zero,aM3,List.take_left' (d4 _)])
theorem iB (t:Tg):(aU t)[32]? = some (.int .i64 t.2.1.1):=by
 unfold aU pX
 rw [aJ8,aK7 (by rw [d4];exact aJ1 _),d4,f7];rfl
theorem ln (t:Tg):(aU t)[65]? = some (.int .i64 t.2.1.2.2):=by
 unfold aU pX
 rw [aJ8,aK7 (by rw [d4];omega),d4,aK8 (by rw [om];omega)]
 have:=ik t.2.1
 rw [← aN9] at this
 exact this
theorem fK (t:Tg):(aU t)[66]? = some (.int .i64 t.2.2):=by
 unfold aU pX
 rw [aJ8,← aM3,aK7 (by rw [aH7,d4,om];exact aJ1 _),aH7,d4,om];rfl
theorem Ie {x y:Tg} (h:(aU x).toList=(aU y).toList):x=y:=by
 have h0:=Bz x;rw [h,Bz] at h0
 have h1:=BK x;rw [h,BK] at h1
 have h2:=GQ x;rw [h,GQ] at h2
 refine Prod.ext (qF (Array.toList_inj.1 h0)).symm (Prod.ext (Bd h1).symm ?_)
 simpa using h2.symm
theorem aq1 (x y:Tg):decide (x=y)=true↔(aU x).toList=(aU y).toList:=by
 rw [aI0];exact ⟨λh=>by rw [h],Ie⟩
def LN:List (List Value):=[List.replicate 32 (.int .u8 0),.int .i64 0::(List.replicate 32 (.int .u8 0)++[.int .i64 0]),[.int .i64 0]]
theorem xT:aU cr=LN.flatten.toArray:=by
 unfold aU pX cr;rw [iH,eJ];rfl
def aX (l:List Tg):List Value:=l.flatMap pX
theorem Bc (l:List Tg):(aX l).length=l.length*67:=eF _ 67 lh l
theorem gQ (l r:List Tg):aX (l++r)=aX l++aX r:=aM2
theorem jS (t:Tg):aX [t]=(aU t).toList:=by simp [aX,aU]
theorem pu (l:List Tg):∀ u∈aX l,u.oneCell'=true:=λu hu=>by
 obtain ⟨x,_,hx⟩:=List.mem_flatMap.1 hu
 exact pK x u hx
theorem rA (m:Tg):∀ v∈([.agg (aU m)]:List Value),v.cells.size=67:=λv hv=>by
 rw [aI4] at hv;subst hv;exact aE m
theorem gG (m:Tg):([Value.agg (aU m)].flatMap λv=>v.cells.toList)=(aU m).toList:=by simp [Value.cells]
theorem ly (l:List Tg) (x:Tg):aX l++(aU x).toList=aX (l++[x]):=by rw [gQ,jS]
theorem BM {l:List Tg} {j:Nat} (hj:j<l.length):l[j]=l.getD j cr:=by
 rw [aJ6,aH8 hj];rfl
theorem fP (l:List Tg) (j:Nat) (hj:j<l.length):(((aX l).drop (j*67)).take 67).toArray=aU (l.getD j cr):=by
 unfold aX
 rw [eU _ 67 lh l j hj,BM hj];rfl
theorem qt {l:List Tg} {j:Nat} (hj:j<l.length):l.getD j cr∈l:=by rw [← BM hj];exact aN1 hj
theorem TT {l:List Tg} {x:Tg} (h:x∈l):∃ j,j<l.length/\l.getD j cr=x:=by
 obtain ⟨j,hj,rfl⟩:=List.mem_iff_getElem.1 h
 exact ⟨j,hj,(BM hj).symm⟩
theorem zi {w:World} {v:Value} {l:List Tg} (h:bs w v 67 l.length (aX l)) (k:Nat) (hk:k<=l.length):bs w (eT v k) 67 (l.take k).length (aX (l.take k)):=by
 have:=h.cut k hk
 unfold aX at this
 rw [gA _ 67 lh] at this
 rw [aL0,Nat.min_eq_left hk]
 exact this
theorem kP {l:List Tg} {d:Nat} (hd:d<l.length):l.take (d+1)=l.take d++[l.getD d cr]:=by rw [List.take_succ_eq_append_getElem hd,BM hd]
def iV (t:Tg):Bool:=pZ t.2.1 && (decide (0<=t.2.2) && decide (t.2.2<=1099511627776))
def ki (a b:Tg):Prop:=a.1.toNat<b.1.toNat∨(a.1=b.1/\(a.2.1.1<b.2.1.1∨(a.2.1.1=b.2.1.1/\(a.2.1.2.1.toNat<b.2.1.2.1.toNat∨(a.2.1.2.1=b.2.1.2.1/\a.2.1.2.2<b.2.1.2.2)))))
instance (a b:Tg):Decidable (ki a b):=by unfold ki;infer_instance
def gz (a b:Tg):Bool:=decide (ki a b)
def i3 (a b:Tg):Prop:=a.1=b.1/\a.2.1=b.2.1
instance (a b:Tg):Decidable (i3 a b):=by unfold i3;infer_instance
theorem pJ {a b:Id}:a=b↔a.toNat=b.toNat:=BitVec.toNat_inj.symm
theorem C6 {a b:dN}:a=b↔a.1=b.1/\a.2.1=b.2.1/\a.2.2=b.2.2:=⟨λh=>by rw [h];exact ⟨rfl,rfl,rfl⟩,λ⟨h1,h2,h3⟩=>Prod.ext h1 (Prod.ext h2 h3)⟩
theorem oq (a:Tg):¬ ki a a:=by unfold ki;omega
theorem lt_trans {a b c:Tg} (h:ki a b) (g:ki b c):ki a c:=by
 unfold ki at *
 simp only [pJ] at *
 omega
theorem Lq (a b:Tg):ki a b∨i3 a b∨ki b a:=by
 unfold ki i3
 simp only [C6,pJ]
 omega
theorem rB {a b:Tg} (h:ki a b):¬ i3 a b:=by
 unfold ki at h;unfold i3
 simp only [C6,pJ] at *
 omega
theorem xK {a b:Tg} (h:ki a b):¬ i3 b a:=λg=>rB h ⟨g.1.symm,g.2.symm⟩
theorem Oq {a b c:Tg} (h:i3 a b):(ki a c↔ki b c)/\(ki c a↔ki c b):=by
 unfold ki
 rw [h.1,h.2];exact ⟨Iff.rfl,Iff.rfl⟩
theorem i3.symm {a b:Tg} (h:i3 a b):i3 b a:=⟨h.1.symm,h.2.symm⟩
theorem i3.trans {a b c:Tg} (h:i3 a b) (g:i3 b c):i3 a c:=⟨h.1.trans g.1,h.2.trans g.2⟩
def nC (l:List Tg):Prop:=l.Pairwise ki
theorem yn:∀ {l r:List Tg},nC l->nC r->(∀ y,y∈l↔y∈r)->l=r
 |[],[],_,_,_=>rfl
 |[],b::r,_,_,h=>aO7 ((h b).2 (aI5 ..)) (by simp)
 |a::l,[],_,_,h=>aO7 ((h a).1 (aI5 ..)) (by simp)
 |a::l,b::r,hl,hr,h=>by
  have h1:=List.pairwise_cons.1 hl
  have h2:=List.pairwise_cons.1 hr
  have e:a=b:=by
   rcases aI6.1 ((h a).1 (aI5 ..)) with e|ha
   ·exact e
   ·rcases aI6.1 ((h b).2 (aI5 ..)) with e|hb
    ·exact e.symm
    ·exact aO7 (lt_trans (h1.1 b hb) (h2.1 a ha)) (oq a)
  subst e
  refine aH3 _ (yn h1.2 h2.2 λy=>⟨λhy=>?_,λhy=>?_⟩)
  ·rcases aI6.1 ((h y).1 (aJ5 _ hy)) with e|h9
   ·subst e;exact aO7 (h1.1 y hy) (oq y)
   ·exact h9
  ·rcases aI6.1 ((h y).2 (aJ5 _ hy)) with e|h9
   ·subst e;exact aO7 (h2.1 y hy) (oq y)
   ·exact h9
theorem K4 {l:List Tg} (h:nC l) {a b:Tg} (ha:a∈l) (hb:b∈l) (e:i3 a b):a=b:=by
 obtain ⟨i,hi,rfl⟩:=List.mem_iff_getElem.1 ha
 obtain ⟨j,hj,rfl⟩:=List.mem_iff_getElem.1 hb
 rcases Nat.lt_trichotomy i j with g|g|g
 ·exact aO7 e (rB (List.pairwise_iff_getElem.1 h i j hi hj g))
 ·subst g;rfl
 ·exact aO7 e (xK (List.pairwise_iff_getElem.1 h j i hj hi g))
theorem nC.filter {l:List Tg} (h:nC l) (p:Tg->Bool):nC (l.filter p):=List.Pairwise.filter p h
def stp (l:List Tg) (k:Nat):Bool:=decide (k=0) || gz (l.getD (k - 1) cr) (l.getD k cr)
def FU (l:List Tg) (k:Nat):Bool:=iV (l.getD k cr) && stp l k
def dz (l:List Tg):Bool:=(List.range l.length).all (FU l) && decide (l.length<=32)
structure RT (l:List Tg):Prop where
 may:∀ y∈l,iV y=true
 srt:nC l
 len:l.length<=32
theorem gh {l:List Tg}:dz l=true↔RT l:=by
 unfold dz
 rw [aH5,aH6,aI0]
 constructor
 ·rintro ⟨h1,h2⟩
  have hok:∀ k,k<l.length->FU l k=true:=λk hk=>h1 k (aI7.2 hk)
  refine ⟨λy hy=>?_,?_,h2⟩
  ·obtain ⟨j,hj,rfl⟩:=TT hy
   have:=hok j hj
   unfold FU at this
   exact(aH5 _ _▸this:_/\_).1
  ·have hs:∀ k,k+1<l.length->ki (l.getD k cr) (l.getD (k+1) cr):=λk hk=>by
    have:=hok (k+1) hk
    unfold FU stp at this
    rw [aH5,aH1 (by omega),Bool.false_or] at this
    exact aG9 this.2
   have key:∀ d i,i+d+1<l.length->ki (l.getD i cr) (l.getD (i+d+1) cr):=λd=>by
    induction d with
    |zero=>intro i hi;exact hs i hi
    |succ d ih=>intro i hi;exact lt_trans (ih i (by omega)) (hs (i+d+1) hi)
   unfold nC
   rw [List.pairwise_iff_getElem]
   intro i j hi hj hij
   have:=key (j - i - 1) i (by omega)
   rw [show i+(j - i - 1)+1=j by omega] at this
   rw [BM hi,BM hj];exact this
 ·rintro ⟨h1,h2,h3⟩
  refine ⟨λk hk=>?_,h3⟩
  have hk:=aI7.1 hk
  unfold FU stp
  rw [h1 _ (qt hk),Bool.true_and]
  by_cases h0:k=0
  ·rw [aH2 h0];rfl
  ·rw [aH1 h0,Bool.false_or]
   have:=List.pairwise_iff_getElem.1 h2 (k - 1) k (by omega) hk (by omega)
   rw [BM (by omega),BM hk] at this
   exact aH2 this
theorem tH {l:List Tg} {k:Nat} (hk:k<l.length) (h:FU l k=false):dz l=false:=by
 unfold dz
 rw [Bool.and_eq_false_iff]
 exact .inl (List.all_eq_false.2 ⟨k,aI7.2 hk,by rw [h];decide⟩)
theorem wt {l:List Tg} (h:∀ k,k<l.length->FU l k=true):dz l=decide (l.length<=32):=by
 unfold dz
 rw [aH6.2 λk hk=>h k (aI7.1 hk),Bool.true_and]
def oZ (i:Id) (e:dN) (y:Tg):Bool:=decide (y.1=i) && decide (y.2.1=e)
theorem fG {x y:Tg}:oZ x.1 x.2.1 y=true↔i3 y x:=by
 unfold oZ;rw [aH5,aI0,aI0];exact Iff.rfl
def nTg:Tg:=(0#256,(0,0#256,0),-1)
def fq (l:List Tg) (i:Id) (e:dN):Tg:=(l.find? (oZ i e)).getD nTg
def lO (l:List Tg) (i:Id) (e:dN):List Tg:=l.filter λy => !oZ i e y
theorem pG {l:List Tg} (h:nC l) {x y:Tg} (hy:y∈l) (hs:i3 y x):fq l x.1 x.2.1=y:=by
 unfold fq
 cases hf:l.find? (oZ x.1 x.2.1) with
 |none=>
  have:=List.find?_eq_none.1 hf y hy
  rw [fG.2 hs] at this;exact aO7 rfl this
 |some z=>
  have h1:=List.mem_of_find?_eq_some hf
  have h2:oZ x.1 x.2.1 z=true:=List.find?_some hf
  exact K4 h h1 hy ((fG.1 h2).trans hs.symm)
theorem pC {l:List Tg} {x:Tg} (h:∀ y∈l,¬ i3 y x):fq l x.1 x.2.1=nTg:=by
 unfold fq
 rw [List.find?_eq_none.2 λy hy=>by rw [fG];exact h y hy];rfl
theorem uY {l:List Tg} (h:nC l) (x:Tg):(∃ y∈l,i3 y x/\fq l x.1 x.2.1=y)∨((∀ y∈l,¬ i3 y x)/\fq l x.1 x.2.1=nTg):=by
 by_cases h9:∃ y∈l,i3 y x
 ·obtain ⟨y,hy,hs⟩:=h9
  exact .inl ⟨y,hy,hs,pG h hy hs⟩
 ·have:∀ y∈l,¬ i3 y x:=λy hy hs=>h9 ⟨y,hy,hs⟩
  exact .inr ⟨this,pC this⟩
def da (l:List Tg) (x:Tg):Tg:=bif decide (x.2.2<(fq l x.1 x.2.1).2.2) then (x.1,x.2.1,(fq l x.1 x.2.1).2.2) else x
def fW (l:List Tg) (x:Tg):List Tg:=l.takeWhile (λy => !gz x y)++x::l.dropWhile (λy => !gz x y)
def ce (l:List Tg) (x:Tg):List Tg:=fW (lO l x.1 x.2.1) (da l x)
def ll (l:List Tg) (x:Tg):Int:=bif dz l && iV x then (bif decide ((ce l x).length<=32) then 0 else 8) else 1
def qh (l:List Tg) (x:Tg):List Tg:=bif decide (ll l x=0) then ce l x else []
theorem eL (l:List Tg) (x:Tg):i3 (da l x) x:=by unfold da;cases decide (x.2.2<(fq l x.1 x.2.1).2.2)<;>exact ⟨rfl,rfl⟩
theorem mv (l:List Tg) (x:Tg):(da l x).2.2=max (fq l x.1 x.2.1).2.2 x.2.2:=by
 unfold da
 by_cases h:x.2.2<(fq l x.1 x.2.1).2.2
 ·rw [aH2 h];show (fq l x.1 x.2.1).2.2=_;omega
 ·rw [aH1 h];show x.2.2=_;omega
theorem Gz {l:List Tg} {x y:Tg}:y∈fW l x↔y∈l∨y=x:=by
 unfold fW
 have e:l.takeWhile (λy => !gz x y)++l.dropWhile (λy => !gz x y)=l:=List.takeWhile_append_dropWhile
 rw [aK9,aI6]
 constructor
 ·rintro (h|h|h)
  ·exact .inl (by rw [← e];exact List.mem_append_left _ h)
  ·exact .inr h
  ·exact .inl (by rw [← e];exact List.mem_append_right _ h)
 ·rintro (h|h)
  ·rw [← e] at h
   rcases aK9.1 h with h|h
   ·exact .inl h
   ·exact .inr (.inr h)
  ·exact .inr (.inl h)
theorem xx (l:List Tg) (x:Tg):(fW l x).length=l.length+1:=by
 unfold fW
 have e:l.takeWhile (λy => !gz x y)++l.dropWhile (λy => !gz x y)=l:=List.takeWhile_append_dropWhile
 have:=aH3 List.length e
 rw [aH7] at this
 rw [aH7,aK5];omega
theorem FO:∀ {l:List Tg} {x:Tg},nC l->(∀ y∈l,¬ i3 y x)->nC (fW l x)
 |[],x,_,_=>by unfold fW;exact List.pairwise_singleton _ _
 |a::l,x,hl,hn=>by
  have h1:=List.pairwise_cons.1 hl
  by_cases h:ki x a
  ·have hb:gz x a=true:=aH2 h
   have e:fW (a::l) x=x::a::l:=by unfold fW;rw [List.takeWhile_cons,List.dropWhile_cons,hb];rfl
   rw [e]
   refine List.pairwise_cons.2 ⟨λy hy=>?_,hl⟩
   rcases aI6.1 hy with rfl|hy
   ·exact h
   ·exact lt_trans h (h1.1 y hy)
  ·have hb:gz x a=false:=aH1 h
   have e:fW (a::l) x=a::fW l x:=by unfold fW;rw [List.takeWhile_cons,List.dropWhile_cons,hb];rfl
   rw [e]
   refine List.pairwise_cons.2 ⟨λy hy=>?_,FO h1.2 λy hy=>hn y (aJ5 _ hy)⟩
   rcases Gz.1 hy with hy|rfl
   ·exact h1.1 y hy
   ·rcases Lq a y with g|g|g
    ·exact g
    ·exact aO7 g (hn a (aI5 ..))
    ·exact aO7 g h
theorem Fa {l:List Tg} {x y:Tg}:y∈lO l x.1 x.2.1↔y∈l/\¬ i3 y x:=by
 unfold lO
 rw [aK4,Bool.not_eq_true',← Bool.not_eq_true,fG]
theorem g6 {l:List Tg} {x y:Tg}:y∈ce l x↔(y∈l/\¬ i3 y x)∨y=da l x:=by
 unfold ce
 rw [Gz,Fa]
theorem eX {l:List Tg} (h:nC l) (x:Tg):nC (ce l x):=FO (h.filter _) λy hy hs=>(Fa.1 hy).2 (hs.trans (eL l x))
theorem ON {l:List Tg} (h:nC l) (x:Tg):(ce l x).length<=l.length+1/\((∃ y∈l,i3 y x)->(ce l x).length=l.length)/\((∀ y∈l,¬ i3 y x)->(ce l x).length=l.length+1):=by
 have e:(ce l x).length=(lO l x.1 x.2.1).length+1:=xx _ _
 refine ⟨by rw [e];exact Nat.succ_le_succ (aL2 _ _),λ⟨y,hy,hs⟩=>?_,λhn=>?_⟩
 ·rw [e]
  have:(lO l x.1 x.2.1).length+1=l.length:=by
   obtain ⟨A,B,rfl⟩:=List.append_of_mem hy
   have hp:=List.pairwise_append.1 h
   have hc:=List.pairwise_cons.1 hp.2.1
   have hA:∀ z∈A,(!oZ x.1 x.2.1 z)=true:=λz hz=>by
    rw [Bool.not_eq_true',← Bool.not_eq_true,fG]
    exact λg=>rB (hp.2.2 z hz y (aI5 ..)) (g.trans hs.symm)
   have hB:∀ z∈B,(!oZ x.1 x.2.1 z)=true:=λz hz=>by
    rw [Bool.not_eq_true',← Bool.not_eq_true,fG]
    exact λg=>rB (hc.1 z hz) (hs.trans g.symm)
   unfold lO
   rw [aO4,List.filter_cons,List.filter_eq_self.2 hA,List.filter_eq_self.2 hB,fG.2 hs]
   simp;omega
  omega
 ·rw [e]
  have:lO l x.1 x.2.1=l:=List.filter_eq_self.2 λz hz=>by
   rw [Bool.not_eq_true',← Bool.not_eq_true,fG];exact hn z hz
  rw [this]
theorem l7 {t:Tg}:iV t=true↔pZ t.2.1=true/\0<=t.2.2/\t.2.2<=1099511627776:=by
 unfold iV;rw [aH5,aH5,aI0,aI0]
theorem PS {l:List Tg} (h:RT l) {x:Tg} (hx:iV x=true):iV (da l x)=true:=by
 have hx9:=l7.1 hx
 rw [l7,(eL l x).2,mv]
 refine ⟨hx9.1,by omega,?_⟩
 rcases uY h.srt x with ⟨y,hy,_,e⟩|⟨_,e⟩
 ·have:=(l7.1 (h.may y hy)).2.2
  rw [e];omega
 ·rw [e];show max (-1:Int) _<=_;omega
theorem uB {l:List Tg} (h:RT l) {x:Tg} (hx:iV x=true) (hl:(ce l x).length<=32):RT (ce l x):=by
 refine ⟨λy hy=>?_,eX h.srt x,hl⟩
 rcases g6.1 hy with ⟨h1,_⟩|rfl
 ·exact h.may y h1
 ·exact PS h hx
def Jn (l:List Tg):Int:=bif dz l then 0 else 1
def Xe (l:List Tg) (now:Int):List Tg:=l.filter λy=>decide (now<y.2.2)
def Qh (l:List Tg) (now:Int):List Tg:=bif dz l then Xe l now else []
def p5 (l:List Tg) (a b:Id) (on:Bool):List Tg:=l.filter λy=>zb y.1 a b == on
def OS (l:List Tg) (a b:Id) (on:Bool):List Tg:=bif dz l then p5 l a b on else []
noncomputable def mtK (l:List Tg) (x:Id) (n:Nat):List Tg:=match l.find? λy=>decide (com y.1 x=n) with|none=>[]|some z=>l.filter λy=>decide (com y.1 x=n) && decide (y.1=z.1)
noncomputable def mtN (l:List Tg) (x:Id):Nat->List Tg|0=>[]|j+1=>bif decide (mtK l x (128+j)=[]) then mtN l x j else mtK l x (128+j)
noncomputable def mtF (l:List Tg) (x:Id):List Tg:=mtN l x 129
theorem RT.filter {l:List Tg} (h:RT l) (p:Tg->Bool):RT (l.filter p):=⟨λy hy=>h.may y (aK4.1 hy).1,h.srt.filter p,aM5 (aL2 _ _) h.len⟩
theorem JG {l:List Tg} {x:Tg} (h:RT l) (hx:iV x=true) (h3:(ce l x).length<=32):ll l x=0/\qh l x=ce l x:=by
 have e:ll l x=0:=by unfold ll;rw [gh.2 h,hx,aH2 h3];rfl
 unfold qh;rw [e];exact ⟨rfl,rfl⟩
theorem zj {l:List Tg} {x:Tg} (h:ll l x≠0):qh l x=[]:=by unfold qh;rw [aH1 h];rfl
theorem HO {l:List Tg} (h:nC l) (x z:Tg):ce (ce l x) z=ce (ce l z) x:=by
 have fnd:∀ {r:List Tg} (_:nC r) (a b:Tg),(fq (ce r a) b.1 b.2.1).2.2=(bif decide (i3 b a) then max (fq r a.1 a.2.1).2.2 a.2.2 else (fq r b.1 b.2.1).2.2:Int):=λ{r} hr a b=>by
  have hs:=eX hr a
  by_cases g:i3 b a
  ·rw [aH2 g]
   have e:=pG hs (g6.2 (.inr rfl)) ((eL r a).trans g.symm)
   rw [e,mv];rfl
  ·rw [aH1 g]
   show _=(fq r b.1 b.2.1).2.2
   rcases uY hr b with ⟨y,hy,hyb,e⟩|⟨hn,e⟩
   ·rw [e,pG hs (g6.2 (.inl ⟨hy,λg9=>g (hyb.symm.trans g9)⟩)) hyb]
   ·rw [e,pC λy hy hyb=>?_]
    rcases g6.1 hy with ⟨h1,_⟩|h1
    ·exact hn y h1 hyb
    ·rw [h1] at hyb;exact g (hyb.symm.trans (eL r a))
 have bg:∀ (a b:Tg),¬ i3 a b->da (ce l a) b=da l b:=λa b g=>by
  refine Prod.ext ((eL _ b).1.trans (eL l b).1.symm) (Prod.ext ((eL _ b).2.trans (eL l b).2.symm) ?_)
  rw [mv,mv,fnd h,aH1 λg9=>g g9.symm];rfl
 refine yn (eX (eX h x) z) (eX (eX h z) x) λy=>?_
 rw [g6,g6,g6,g6]
 by_cases g:i3 x z
 ·have e1:da (ce l x) z=da (ce l z) x:=by
   refine Prod.ext ((eL _ z).1.trans (g.1.symm.trans (eL _ x).1.symm)) (Prod.ext ((eL _ z).2.trans (g.2.symm.trans (eL _ x).2.symm)) ?_)
   rw [mv,mv,fnd h,fnd h,aH2 g.symm,aH2 g,g.1,g.2]
   show max (max (fq l z.1 z.2.1).2.2 x.2.2) z.2.2=max (max (fq l z.1 z.2.1).2.2 z.2.2) x.2.2
   omega
  rw [e1]
  have e2:∀ y,i3 y x↔i3 y z:=λy=>⟨λh9=>h9.trans g,λh9=>h9.trans g.symm⟩
  have n1:¬ (y=da l x/\¬ i3 y z):=λ⟨h1,h2⟩=>h2 (by rw [h1];exact(eL l x).trans g)
  have n2:¬ (y=da l z/\¬ i3 y x):=λ⟨h1,h2⟩=>h2 (by rw [h1];exact(eL l z).trans g.symm)
  constructor
  ·rintro (⟨⟨h1,h2⟩|h1,h3⟩|h1)
   ·exact .inl ⟨.inl ⟨h1,h3⟩,h2⟩
   ·exact aO7 ⟨h1,h3⟩ n1
   ·exact .inr h1
  ·rintro (⟨⟨h1,h2⟩|h1,h3⟩|h1)
   ·exact .inl ⟨.inl ⟨h1,h3⟩,h2⟩
   ·exact aO7 ⟨h1,h3⟩ n2
   ·exact .inr h1
 ·rw [bg x z g,bg z x λg9=>g g9.symm]
  have n1:y=da l x->¬ i3 y z:=λh1 h2=>g ((eL l x).symm.trans (by rw [← h1];exact h2))
  have n2:y=da l z->¬ i3 y x:=λh1 h2=>g (i3.symm ((eL l z).symm.trans (by rw [← h1];exact h2)))
  constructor
  ·rintro (⟨⟨h1,h2⟩|h1,h3⟩|h1)
   ·exact .inl ⟨.inl ⟨h1,h3⟩,h2⟩
   ·exact .inr h1
   ·exact .inl ⟨.inr h1,n2 h1⟩
  ·rintro (⟨⟨h1,h2⟩|h1,h3⟩|h1)
   ·exact .inl ⟨.inl ⟨h1,h3⟩,h2⟩
   ·exact .inr h1
   ·exact .inl ⟨.inr h1,n1 h1⟩
theorem Ix {t:List Tg} (h:nC t) (hm:∀ y∈t,0<=y.2.2) (p:Tg->Bool) {x:Tg} (hx:x∈t) (hp:p x=false):ce (t.filter p) x=t.filter λy=>p y || decide (y=x):=by
 have hf:∀ y∈t.filter p,¬ i3 y x:=λy hy hs=>by
  obtain ⟨h1,h2⟩:=aK4.1 hy
  rw [K4 h h1 hx hs,hp] at h2;cases h2
 have hb:da (t.filter p) x=x:=by
  refine Prod.ext (eL _ x).1 (Prod.ext (eL _ x).2 ?_)
  rw [mv,pC hf]
  have:=hm x hx
  show max (-1:Int) _=_
  omega
 refine yn (eX (h.filter p) x) (h.filter _) λy=>?_
 rw [g6,hb,aK4,aK4,Bool.or_eq_true,aI0]
 constructor
 ·rintro (⟨⟨h1,h2⟩,_⟩|rfl)
  ·exact ⟨h1,.inl h2⟩
  ·exact ⟨hx,.inr rfl⟩
 ·rintro ⟨h1,h2|h2⟩
  ·refine .inl ⟨⟨h1,h2⟩,hf y (aK4.2 ⟨h1,h2⟩)⟩
  ·exact .inr h2
theorem yZ {a b:Id}:ei a b≠0↔a.toNat≠b.toNat:=by
 unfold ei
 by_cases h:a.toNat<b.toNat
 ·rw [if_pos h];omega
 ·rw [if_neg h]
  by_cases g:b.toNat<a.toNat
  ·rw [if_pos g];omega
  ·rw [if_neg g];omega
theorem ao7 {x y:Tg} (h:ei x.1 y.1≠0):decide (ei x.1 y.1<0)=gz x y:=by
 have h:=yZ.1 h
 unfold gz
 refine aI3.2 ?_
 rw [uH]
 unfold ki
 simp only [pJ];omega
theorem ar8 {x y:Tg} (h0:¬ ei x.1 y.1≠0) (h:x.2.1.1≠y.2.1.1):decide (x.2.1.1<y.2.1.1)=gz x y:=by
 rw [yZ] at h0
 unfold gz
 refine aI3.2 ?_
 unfold ki
 simp only [pJ];omega
theorem av7 {x y:Tg} (h0:¬ ei x.1 y.1≠0) (h1:¬ x.2.1.1≠y.2.1.1) (h:ei x.2.1.2.1 y.2.1.2.1≠0):decide (ei x.2.1.2.1 y.2.1.2.1<0)=gz x y:=by
 rw [yZ] at h0 h
 unfold gz
 refine aI3.2 ?_
 rw [uH]
 unfold ki
 simp only [pJ];omega
theorem ap5 {x y:Tg} (h0:¬ ei x.1 y.1≠0) (h1:¬ x.2.1.1≠y.2.1.1) (h:¬ ei x.2.1.2.1 y.2.1.2.1≠0):decide (x.2.1.2.2<y.2.1.2.2)=gz x y:=by
 rw [yZ] at h0 h
 unfold gz
 refine aI3.2 ?_
 unfold ki
 simp only [pJ];omega
theorem az3 {l:List Tg} {k:Nat} (h:iV (l.getD k cr)=false):FU l k=false:=by unfold FU;rw [h];rfl
theorem as2 {l:List Tg} {k:Nat} (h:iV (l.getD k cr)=true) (h1:k=0):FU l k=true:=by unfold FU stp;rw [h,aH2 h1];rfl
theorem YQ {l:List Tg} {k:Nat} (h:iV (l.getD k cr)=true) (h1:¬ k=0):FU l k=gz (l.getD (k - 1) cr) (l.getD k cr):=by unfold FU stp;rw [h,aH1 h1];rfl
theorem Aa {q:Nat->Bool} {k:Nat} (h:∀ j,j<k->q j=true) (hk:q k=true):∀ j,j<k+1->q j=true:=λj hj=>by
 rcases aJ4 j k with g|g
 ·exact h j g
 ·obtain rfl:j=k:=by omega
  exact hk
theorem Lh {l r:List Tg} {k:Nat} (h:∀ j,j<k->l.getD j cr=r.getD j cr) (he:l.getD k cr=r.getD k cr):∀ j,j<k+1->l.getD j cr=r.getD j cr:=λj hj=>by
 rcases aJ4 j k with g|g
 ·exact h j g
 ·obtain rfl:j=k:=by omega
  exact he
theorem RR {l r:List Tg} (hl:l.length=r.length) (h:∀ j,j<l.length->l.getD j cr=r.getD j cr):l=r:=by
 refine List.ext_getElem hl λj h1 h2=>?_
 rw [BM h1,BM h2];exact h j h1
theorem Pi {l:List Tg} {p:Tg->Bool} {k:Nat} (hk:k<l.length) (h:∀ j,j<k->p (l.getD j cr)=false) (he:p (l.getD k cr)=true):l.find? p=some (l.getD k cr):=by
 rw [List.find?_eq_some_iff_getElem]
 refine ⟨he,k,hk,BM hk,λj hj=>?_⟩
 rw [BM (by omega),h j hj];rfl
theorem Qf {l:List Tg} {p:Tg->Bool} (h:∀ j,j<l.length->p (l.getD j cr)=false):l.find? p=none:=by
 rw [List.find?_eq_none]
 intro y hy
 obtain ⟨j,hj,rfl⟩:=TT hy
 rw [h j hj];decide
theorem E3 {l:List Tg} {p:Tg->Bool} {k:Nat} (hk:k<l.length) (h:p (l.getD k cr)=true):(l.take (k+1)).filter p=(l.take k).filter p++[l.getD k cr]:=by
 rw [kP hk,aO4,List.filter_cons,h];rfl
theorem Fh {l:List Tg} {p:Tg->Bool} {k:Nat} (hk:k<l.length) (h:p (l.getD k cr)=false):(l.take (k+1)).filter p=(l.take k).filter p:=by
 rw [kP hk,aO4,List.filter_cons,h]
 simp
theorem xB (l:List Tg) (p:Tg->Bool) (k:Nat):((l.take k).filter p).length<=l.length:=aM5 (aL2 _ _) (by rw [aL0];omega)
theorem Fc {l:List Tg} {p:Tg->Bool} {k:Nat} (h:l.length<=k):(l.take k).filter p=l.filter p:=by rw [aJ9 h]
section
variable {P:Program} {ρ:Operand->Value} {d:Option Tmp} {ty:TypeId} {pos:String} {af:Array Edge} {g:Option (Nat × Bool)} {x y z:Operand} {t:TypeId}
theorem x8 {u:Int} (S:Stt P t LN) (hx:ρ x=.int .i64 u):aZ P ⟨d,.build t #[(2,x)],ty,pos,af,g⟩ ρ (.agg (aU (0#256,(0,0#256,0),u))):=by
 have:=bw (P:=P) (ρ:=ρ) (d:=d) (ty:=ty) (pos:=pos) (af:=af) (g:=g) (parts:=#[(2,x)]) S [(2,.int .i64 u)] (by simp [hx]) (λi v hm=>by
  simp only [aI6,aM8,aI9,or_false] at hm
  obtain ⟨rfl,rfl⟩:=hm
  exact ⟨_,rfl,rfl⟩) (D:=pX (0#256,(0,0#256,0),u)) (by unfold pX;rw [iH,eJ];rfl)
 exact this
end
theorem EJ (t:Tg) (u:Int):(aU t).setIfInBounds 66 (.int .i64 u)=aU (t.1,t.2.1,u):=by
 apply Array.ext'
 rw [Array.toList_setIfInBounds]
 show (pX t).set 66 _=pX _
 unfold pX
 rw [← aM3,← aM3,List.set_append_right _ _ (by rw [aH7,d4,om];exact aJ1 _),aH7,d4,om];rfl
def EI (W:List Tg) (y:Tg) (k:Nat):Bool:=(W.take k).any λz=>gz y z
def o4 (W:List Tg) (y:Tg) (k:Nat):List Tg:=bif EI W y k then fW (W.take k) y else W.take k
theorem E5 {A:List Tg} {y:Tg} (h:A.any (λz=>gz y z)=false):A.takeWhile (λz => !gz y z)=A/\A.dropWhile (λz => !gz y z)=[]:=by
 have h9:∀ z∈A,(!gz y z)=true:=λz hz=>by
  have:=aN5.1 h z hz
  cases hb:gz y z with
  |false=>rfl
  |true=>exact aO7 hb this
 have e:A.takeWhile (λz => !gz y z)=A:=by
  induction A with
  |nil=>rfl
  |cons a A ih=>
   rw [List.takeWhile_cons,h9 a (aI5 ..)]
   show a::_=_
   rw [ih (by rw [List.any_cons,Bool.or_eq_false_iff] at h;exact h.2) λz hz=>h9 z (aJ5 _ hz)]
 refine ⟨e,?_⟩
 have:=List.takeWhile_append_dropWhile (p:=λz => !gz y z) (l:=A)
 rw [e] at this
 exact List.append_right_eq_self.1 this
theorem zX {A B:List Tg} {y:Tg}:A.any (λz=>gz y z)=true->(A++B).takeWhile (λz => !gz y z)=A.takeWhile (λz => !gz y z)/\(A++B).dropWhile (λz => !gz y z)=A.dropWhile (λz => !gz y z)++B:=by
 induction A with
 |nil=>intro h;cases h
 |cons a A ih=>
  intro h
  cases hb:gz y a with
  |true=>
   rw [List.cons_append,List.takeWhile_cons,List.takeWhile_cons,List.dropWhile_cons,List.dropWhile_cons,hb]
   exact ⟨rfl,rfl⟩
  |false=>
   rw [List.any_cons,hb,Bool.false_or] at h
   obtain ⟨h1,h2⟩:=ih h
   rw [List.cons_append,List.takeWhile_cons,List.takeWhile_cons,List.dropWhile_cons,List.dropWhile_cons,hb]
   show (a::_)=a::_/\_
   rw [h1]
   exact ⟨rfl,h2⟩
theorem Oy {A B:List Tg} {y:Tg} (h:A.any (λz=>gz y z)=true):fW (A++B) y=fW A y++B:=by
 unfold fW
 rw [(zX h).1,(zX h).2,aM3];rfl
theorem L2 {A:List Tg} {y:Tg} (h:A.any (λz=>gz y z)=false):fW A y=A++[y]:=by
 unfold fW;rw [(E5 h).1,(E5 h).2]
theorem Dy {A B:List Tg} {y:Tg} (h:A.any (λz=>gz y z)=false):(A++B).takeWhile (λz => !gz y z)=A++B.takeWhile (λz => !gz y z)/\(A++B).dropWhile (λz => !gz y z)=B.dropWhile (λz => !gz y z):=by
 induction A with
 |nil=>exact ⟨rfl,rfl⟩
 |cons a A ih=>
  rw [List.any_cons,Bool.or_eq_false_iff] at h
  obtain ⟨h1,h2⟩:=ih h.2
  rw [List.cons_append,List.takeWhile_cons,List.dropWhile_cons,h.1]
  show (a::_)=_/\_
  rw [h1];exact ⟨rfl,h2⟩
theorem NW {A:List Tg} {y z:Tg} (h:A.any (λz=>gz y z)=false) (hz:gz y z=true):fW (A++[z]) y=A++[y]++[z]:=by
 unfold fW
 rw [(Dy h).1,(Dy h).2,List.takeWhile_cons,List.dropWhile_cons,hz]
 simp
theorem m8 {W:List Tg} {y:Tg} {k:Nat} (hk:k<W.length):EI W y (k+1)=(EI W y k || gz y (W.getD k cr)):=by
 unfold EI;rw [kP hk,List.any_append];simp
theorem GD {W:List Tg} {y:Tg} {k:Nat} (hk:k<W.length) (h:EI W y k=true):o4 W y (k+1)=o4 W y k++[W.getD k cr]:=by
 unfold o4
 rw [m8 hk,h]
 show fW (W.take (k+1)) y=fW (W.take k) y++_
 rw [kP hk];exact Oy h
theorem Ut {W:List Tg} {y:Tg} {k:Nat} (hk:k<W.length) (h:EI W y k=false) (hl:gz y (W.getD k cr)=false):o4 W y (k+1)=o4 W y k++[W.getD k cr]:=by
 unfold o4
 rw [m8 hk,h,hl]
 exact kP hk
theorem FK {W:List Tg} {y:Tg} {k:Nat} (hk:k<W.length) (h:EI W y k=false) (hl:gz y (W.getD k cr)=true):o4 W y (k+1)=o4 W y k++[y]++[W.getD k cr]:=by
 unfold o4
 rw [m8 hk,h,hl]
 show fW (W.take (k+1)) y=W.take k++[y]++_
 rw [kP hk];exact NW h hl
theorem nX (W:List Tg) (y:Tg) (k:Nat):(o4 W y k).length<=W.length+1:=by
 unfold o4
 have h9:(W.take k).length<=W.length:=by rw [aL0];omega
 cases EI W y k with
 |true=>show (fW (W.take k) y).length<=_;rw [xx];omega
 |false=>show (W.take k).length<=_;omega
theorem Mw {W:List Tg} {y:Tg}:fW W y=bif EI W y W.length then o4 W y W.length else o4 W y W.length++[y]:=by
 unfold o4
 cases h:EI W y W.length with
 |true=>show fW W y=fW (W.take W.length) y;rw [List.take_length]
 |false=>
  show fW W y=W.take W.length++[y]
  unfold EI at h
  rw [List.take_length] at h ⊢
  exact L2 h
theorem BL {w':World} {N:TypeId} {base:Nat} {p:Value} {l K:List Tg} {x:Tg} (hp:ce l x=K) (hO:cF w' base N 67 p K.length (aX K)):
 ∃ p',Value.tuple #[p,.bool (decide ((K.length:Int)<=32))]=.tuple #[p',.bool (decide ((ce l x).length<=32))]/\cF w' base N 67 p' (ce l x).length (aX (ce l x)):=by
 subst hp
 exact ⟨p,by rw [show decide (((ce l x).length:Int)<=32)=decide ((ce l x).length<=32) from aI3.2 (by omega)],hO⟩
abbrev eP (w:World) (v:Value) (l:List Tg):Prop:=bs w v 67 l.length (aX l)
def TbP (w:World) (vh:Value) (l K:List Tg) (E:Int):ez:=λv w'=>∃ p ks,v=.tuple #[p,.int .i64 E]/\St w [.grp ks λw9=>eP w9 vh l->eP w9 p K] w'
def TbC (w:World) (vh:Value) (l A C:List Tg) (E:Int):ez:=λv w'=>∃ p q ks,v=.tuple #[p,q,.int .i64 E]/\St w [.grp ks λw9=>eP w9 vh l->eP w9 p A/\eP w9 q C] w'
theorem ji (w:World):eP w ax []:=⟨rfl,.inl ⟨rfl,rfl⟩⟩
theorem MT {t:List Tg} (h:dz t=false) (x:Tg):ll t x=1/\qh t x=[]:=by
 have e:ll t x=1:=by unfold ll;rw [h];rfl
 exact ⟨e,zj (by rw [e];decide)⟩
theorem Ky (t:List Tg) {x:Tg} (h:iV x=false):ll t x=1/\qh t x=[]:=by
 have e:ll t x=1:=by unfold ll;rw [h,Bool.and_false];rfl
 exact ⟨e,zj (by rw [e];decide)⟩
theorem TB {t:List Tg} {x:Tg} (h:dz t=true) (hx:iV x=true) (hf:decide ((ce t x).length<=32)=true):ll t x=0/\qh t x=ce t x:=JG (gh.1 h) hx (aG9 hf)
theorem EN {t:List Tg} {x:Tg} (h:dz t=true) (hx:iV x=true) (hf:decide ((ce t x).length<=32)=false):ll t x=8/\qh t x=[]:=by
 have e:ll t x=8:=by unfold ll;rw [h,hx,hf];rfl
 exact ⟨e,zj (by rw [e];decide)⟩
theorem Qk (t:List Tg) (i:Id) (e:dN):(lO t i e).length<=t.length:=aL2 _ _
theorem Pm (t:List Tg) (x:Tg):(ce t x).length<=t.length+1:=by
 have e:(ce t x).length=(lO t x.1 x.2.1).length+1:=xx _ _
 have:=Qk t x.1 x.2.1
 omega
theorem ar9 {t:List Tg} (h:dz t=true) (now:Int):Jn t=0/\Qh t now=Xe t now:=by unfold Jn Qh;rw [h];exact ⟨rfl,rfl⟩
theorem ap8 {t:List Tg} (h:dz t=false) (now:Int):Jn t=1/\Qh t now=[]:=by unfold Jn Qh;rw [h];exact ⟨rfl,rfl⟩
theorem ZO {t:List Tg} (h:dz t=true) (a b:Id) (on:Bool):OS t a b on=p5 t a b on:=by unfold OS;rw [h];rfl
theorem ag4 {t:List Tg} (h:dz t=false) (a b:Id) (on:Bool):OS t a b on=[]:=by unfold OS;rw [h];rfl
def ri (a b:Tg) (k:Nat):Int:=match k with
 |0=>ei a.1 b.1
 |1=>cH a.2.1.1 b.2.1.1
 |2=>ei a.2.1.2.1 b.2.1.2.1
 |_=>cH a.2.1.2.2 b.2.1.2.2
def wY (a b:Tg):Int:=if ki a b then -1 else if i3 a b then 0 else 1
theorem zl (a b:Tg):decide (wY a b<0)=gz a b:=by
 unfold wY gz
 by_cases h:ki a b
 ·rw [if_pos h];simp [h]
 ·rw [if_neg h]
  by_cases g:i3 a b
  ·rw [if_pos g];simp [h]
  ·rw [if_neg g];simp [h]
theorem B4 (a b:Tg):decide (wY a b=0)=oZ b.1 b.2.1 a:=by
 have hb:oZ b.1 b.2.1 a=decide (i3 a b):=by
  cases hh:oZ b.1 b.2.1 a with
  |true=>exact (aH2 (fG.1 hh)).symm
  |false=>exact (aH1 λg=>by rw [fG.2 g] at hh;cases hh).symm
 rw [hb];unfold wY
 by_cases h:ki a b
 ·rw [if_pos h];simp [rB h]
 ·rw [if_neg h]
  by_cases g:i3 a b
  ·rw [if_pos g];simp [g]
  ·rw [if_neg g];simp [g]
theorem Jl (a b:Tg):decide (wY a b≥0) = !gz a b:=by
 rw [← zl,← decide_not];exact aI3.2 (by omega)
theorem LZ {a b:Id}:ei a b=0↔a=b:=by
 rw [pJ];unfold ei;split
 ·simp;omega
 ·split
  ·simp;omega
  ·simp;omega
theorem JF (a b:Id):(ei a b = -1/\a.toNat<b.toNat)∨(ei a b=0/\a=b)∨(ei a b=1/\b.toNat<a.toNat):=by
 rw [pJ];unfold ei;split
 ·exact .inl ⟨rfl,by assumption⟩
 ·split
  ·exact .inr (.inr ⟨rfl,by assumption⟩)
  ·exact .inr (.inl ⟨rfl,by omega⟩)
theorem Bh (a b:Int):(cH a b = -1/\a<b)∨(cH a b=0/\a=b)∨(cH a b=1/\b<a):=by
 unfold cH;split
 ·exact .inl ⟨rfl,by assumption⟩
 ·split
  ·exact .inr (.inr ⟨rfl,by assumption⟩)
  ·exact .inr (.inl ⟨rfl,by omega⟩)
theorem La {a b:Tg}:(ri a b 0≠0->ri a b 0=wY a b)/\(ri a b 0=0->ri a b 1≠0->ri a b 1=wY a b)/\(ri a b 0=0->ri a b 1=0->ri a b 2≠0->ri a b 2=wY a b)/\(ri a b 0=0->ri a b 1=0->ri a b 2=0->ri a b 3=wY a b):=by
 have h0:_∨_∨_:=JF a.1 b.1
 have h1:_∨_∨_:=Bh a.2.1.1 b.2.1.1
 have h2:_∨_∨_:=JF a.2.1.2.1 b.2.1.2.1
 have h3:_∨_∨_:=Bh a.2.1.2.2 b.2.1.2.2
 show (ei a.1 b.1≠0->ei a.1 b.1=wY a b)/\(ei a.1 b.1=0->cH a.2.1.1 b.2.1.1≠0->cH a.2.1.1 b.2.1.1=wY a b)/\(ei a.1 b.1=0->cH a.2.1.1 b.2.1.1=0->ei a.2.1.2.1 b.2.1.2.1≠0->ei a.2.1.2.1 b.2.1.2.1=wY a b)/\(ei a.1 b.1=0->cH a.2.1.1 b.2.1.1=0->ei a.2.1.2.1 b.2.1.2.1=0->cH a.2.1.2.2 b.2.1.2.2=wY a b)
 have key:∀ c:Int,((c = -1/\ki a b)∨(c=0/\i3 a b)∨(c=1/\ki b a))->c=wY a b:=by
  rintro c (⟨rfl,h⟩|⟨rfl,h⟩|⟨rfl,h⟩)
  ·unfold wY;rw [if_pos h]
  ·unfold wY;rw [if_neg λg=>rB g h,if_pos h]
  ·unfold wY;rw [if_neg λg=>oq a (lt_trans g h),if_neg λg=>xK h g]
 have z0:ei a.1 b.1=0->a.1=b.1:=LZ.1
 have z2:ei a.2.1.2.1 b.2.1.2.1=0->a.2.1.2.1=b.2.1.2.1:=LZ.1
 have z1:cH a.2.1.1 b.2.1.1=0->a.2.1.1=b.2.1.1:=λg=>by
  rcases h1 with ⟨c,h⟩|⟨c,h⟩|⟨c,h⟩
  ·rw [c] at g;cases g
  ·exact h
  ·rw [c] at g;cases g
 refine ⟨λn0=>key _ ?_,λn0 n1=>key _ ?_,λn0 n1 n2=>key _ ?_,λn0 n1 n2=>key _ ?_⟩
 ·rcases h0 with ⟨c,h⟩|⟨c,h⟩|⟨c,h⟩
  ·exact .inl ⟨c,.inl h⟩
  ·exact aO7 c n0
  ·exact .inr (.inr ⟨c,.inl h⟩)
 ·rcases h1 with ⟨c,h⟩|⟨c,h⟩|⟨c,h⟩
  ·exact .inl ⟨c,.inr ⟨z0 n0,.inl h⟩⟩
  ·exact aO7 c n1
  ·exact .inr (.inr ⟨c,.inr ⟨(z0 n0).symm,.inl h⟩⟩)
 ·rcases h2 with ⟨c,h⟩|⟨c,h⟩|⟨c,h⟩
  ·exact .inl ⟨c,.inr ⟨z0 n0,.inr ⟨z1 n1,.inl h⟩⟩⟩
  ·exact aO7 c n2
  ·exact .inr (.inr ⟨c,.inr ⟨(z0 n0).symm,.inr ⟨(z1 n1).symm,.inl h⟩⟩⟩)
 ·rcases h3 with ⟨c,h⟩|⟨c,h⟩|⟨c,h⟩
  ·exact .inl ⟨c,.inr ⟨z0 n0,.inr ⟨z1 n1,.inr ⟨z2 n2,h⟩⟩⟩⟩
  ·exact .inr (.inl ⟨c,z0 n0,C6.2 ⟨z1 n1,z2 n2,h⟩⟩)
  ·exact .inr (.inr ⟨c,.inr ⟨(z0 n0).symm,.inr ⟨(z1 n1).symm,.inr ⟨(z2 n2).symm,h⟩⟩⟩⟩)
theorem Rt {a b:Tg} {k:Nat} (hk:k<4) (h:∀ j,j<k->ri a b j=0) (h0:ri a b k≠0):ri a b k=wY a b:=by
 have H:=La (a:=a) (b:=b)
 match k,hk with
 |0,_=>exact H.1 h0
 |1,_=>exact H.2.1 (h 0 (by omega)) h0
 |2,_=>exact H.2.2.1 (h 0 (by omega)) (h 1 (by omega)) h0
 |3,_=>exact H.2.2.2 (h 0 (by omega)) (h 1 (by omega)) (h 2 (by omega))
theorem Rn {a b:Tg} (h:∀ j,j<4->ri a b j=0):wY a b=0:=
 (La.2.2.2 (h 0 (by omega)) (h 1 (by omega)) (h 2 (by omega))).symm.trans (h 3 (by omega))
theorem O5 {a b:Tg} {k:Nat} (h:∀ j,j<k->ri a b j=0) (hk:ri a b k=0):∀ j,j<k+1->ri a b j=0:=λj hj=>by
 rcases aJ4 j k with g|g
 ·exact h j g
 ·obtain rfl:j=k:=by omega
  exact hk
theorem zx {l:List Tg} (h:nC l) {j k:Nat} (hjk:j<k) (hk:k<l.length):ki (l.getD j cr) (l.getD k cr):=by
 have:=List.pairwise_iff_getElem.1 h j k (by omega) hk hjk
 rw [BM (by omega),BM hk] at this;exact this
structure FndT (l:List Tg) (x:Tg) (n:Nat) (b:Bool):Prop where
 le:n<=l.length
 lo:∀ j,j<n->gz (l.getD j cr) x=true
 hi:∀ j,n<=j->j<l.length->gz (l.getD j cr) x=false
 is:b=(decide (n<l.length) && oZ x.1 x.2.1 (l.getD n cr))
theorem Z3 {l:List Tg} (h:nC l) {x:Tg} {k:Nat} (hk:k<l.length) (hc:gz (l.getD k cr) x=true):∀ j,j<k+1->gz (l.getD j cr) x=true:=λj hj=>by
 rcases aJ4 j k with g|g
 ·exact aH2 (lt_trans (zx h g hk) (aG9 hc))
 ·obtain rfl:j=k:=by omega
  exact hc
theorem ak2 {l:List Tg} (h:nC l) {x:Tg} {k:Nat} (hc:gz (l.getD k cr) x=false):∀ j,k<=j->j<l.length->gz (l.getD j cr) x=false:=λj hj hl=>by
 rcases aJ4 k j with g|g
 ·exact aH1 λh9=>aH0 hc (lt_trans (zx h g hl) h9)
 ·obtain rfl:j=k:=by omega
  exact hc
theorem wo {l:List Tg} {n:Nat} {y:Tg} (h:y∈l.take n):∃ j,j<n/\j<l.length/\l.getD j cr=y:=by
 obtain ⟨j,hj,rfl⟩:=List.mem_iff_getElem.1 h
 rw [aL0] at hj
 refine ⟨j,by omega,by omega,?_⟩
 rw [← BM (by omega),List.getElem_take]
theorem wO {l:List Tg} {n:Nat} {y:Tg} (h:y∈l.drop n):∃ j,n<=j/\j<l.length/\l.getD j cr=y:=by
 obtain ⟨j,hj,rfl⟩:=List.mem_iff_getElem.1 h
 rw [aK2] at hj
 refine ⟨n+j,by omega,by omega,?_⟩
 rw [← BM (by omega),List.getElem_drop]
theorem Mp {A B:List Tg} {y:Tg} (h1:∀ a∈A,gz y a=false) (h2:∀ b∈B,gz y b=true):fW (A++B) y=A++y::B:=by
 have hA:A.any (λz=>gz y z)=false:=aN5.2 λz hz=>by rw [h1 z hz];decide
 have h9:=Dy (B:=B) hA
 have h8:B.takeWhile (λz => !gz y z)=[]/\B.dropWhile (λz => !gz y z)=B:=by
  cases B with
  |nil=>exact ⟨rfl,rfl⟩
  |cons b B=>
   have hb:=h2 b (aI5 ..)
   exact ⟨by rw [List.takeWhile_cons_of_neg (by rw [hb];decide)],by rw [List.dropWhile_cons_of_neg (by rw [hb];decide)]⟩
 unfold fW
 rw [h9.1,h9.2,h8.1,h8.2,aM4]
theorem Lk {x y:Tg} (h:¬ i3 y x):oZ x.1 x.2.1 y=false:=by
 cases hh:oZ x.1 x.2.1 y with
 |false=>rfl
 |true=>exact aO7 (fG.1 hh) h
theorem Qs {L:List Tg} {x:Tg} (h:∀ y∈L,¬ i3 y x):lO L x.1 x.2.1=L:=List.filter_eq_self.2 λy hy=>by rw [Lk (h y hy)];rfl
theorem Ga {l:List Tg} {n:Nat} (h:n<l.length):l=l.take n++l.getD n cr::l.drop (n+1):=by
 rw [← BM h,List.getElem_cons_drop,aJ7]
theorem Up {l:List Tg} {x:Tg} {n:Nat} (h:nC l) (hf:FndT l x n true):n<l.length/\i3 (l.getD n cr) x/\(∀ y∈l.take n,ki y x)/\∀ y∈l.drop (n+1),ki x y:=by
 have h9:=hf.is.symm
 rw [aH5] at h9
 have hn:=aG9 h9.1
 have hs:=fG.1 h9.2
 refine ⟨hn,hs,λy hy=>?_,λy hy=>?_⟩
 ·obtain ⟨j,h1,h2,rfl⟩:=wo hy
  exact aG9 (hf.lo j h1)
 ·obtain ⟨j,h1,h2,rfl⟩:=wO hy
  exact(Oq hs).1.1 (zx h (by omega) h2)
theorem YI {l:List Tg} {x:Tg} {n:Nat} (h:nC l) (hf:FndT l x n false):(∀ y∈l.take n,ki y x)/\(∀ y∈l.drop n,ki x y)/\∀ y∈l,¬ i3 y x:=by
 have h1:∀ y∈l.take n,ki y x:=λy hy=>by
  obtain ⟨j,h1,h2,rfl⟩:=wo hy
  exact aG9 (hf.lo j h1)
 have h2:∀ y∈l.drop n,ki x y:=λy hy=>by
  obtain ⟨j,h1,h2,rfl⟩:=wO hy
  have hn:¬ i3 (l.getD n cr) x:=λg=>by
   have h9:=hf.is
   rw [aH2 (show n<l.length by omega),fG.2 g] at h9;cases h9
  have hl:∀ i,n<=i->i<l.length->¬ ki (l.getD i cr) x:=λi g1 g2=>aH0 (hf.hi i g1 g2)
  have h0:ki x (l.getD n cr):=by
   rcases Lq (l.getD n cr) x with g|g|g
   ·exact aO7 g (hl n (aJ1 _) (by omega))
   ·exact aO7 g hn
   ·exact g
  rcases aJ4 n j with g|g
  ·exact lt_trans h0 (zx h g h2)
  ·obtain rfl:j=n:=by omega
   exact h0
 refine ⟨h1,h2,λy hy=>?_⟩
 rw [← aJ7 n l] at hy
 rcases aK9.1 hy with g|g
 ·exact rB (h1 y g)
 ·exact λe=>xK (h2 y g) e
def Yo (l:List Tg) (x:Tg) (n:Nat):Tg:=((l.getD n cr).1,(l.getD n cr).2.1,max (l.getD n cr).2.2 x.2.2)
theorem ac5 {l:List Tg} {x:Tg} {n:Nat} (h:RT l) (hx:iV x=true) (hf:FndT l x n true):ll l x=0/\qh l x=l.set n (Yo l x n):=by
 obtain ⟨hn,hs,h1,h2⟩:=Up h.srt hf
 have hfd:fq l x.1 x.2.1=l.getD n cr:=pG h.srt (qt hn) hs
 have hw:lO l x.1 x.2.1=l.take n++l.drop (n+1):=by
  conv=>lhs;rw [Ga hn]
  unfold lO
  rw [aO4,List.filter_cons_of_neg (by rw [fG.2 hs];decide)]
  rw [List.filter_eq_self.2 λy hy=>by rw [Lk (rB (h1 y hy))];rfl,List.filter_eq_self.2 λy hy=>by rw [Lk λg=>xK (h2 y hy) g];rfl]
 have hb:da l x=Yo l x n:=by
  refine Prod.ext ?_ (Prod.ext ?_ ?_)
  ·exact(eL l x).1.trans hs.1.symm
  ·exact(eL l x).2.trans hs.2.symm
  ·rw [mv,hfd];rfl
 have hbs:=eL l x
 have hp:ce l x=l.set n (Yo l x n):=by
  show fW (lO l x.1 x.2.1) (da l x)=_
  rw [hw,Mp (λa ha=>aH1 λg=>oq _ (lt_trans (h1 a ha) ((Oq hbs).1.1 g))) (λb hb=>aH2 ((Oq hbs).1.2 (h2 b hb))),hb]
  rw [List.set_eq_take_append_cons_drop,if_pos hn]
 have hl:(ce l x).length<=32:=by rw [hp,List.length_set];exact h.len
 have:=JG h hx hl
 rw [this.1,this.2,hp];exact ⟨rfl,rfl⟩
theorem VZ {l:List Tg} {x:Tg} {n:Nat} (h:RT l) (hx:iV x=true) (hf:FndT l x n false):ce l x=l.take n++([x]++l.drop n)/\(ce l x).length=l.length+1:=by
 obtain ⟨h1,h2,h3⟩:=YI h.srt hf
 have hb:da l x=x:=by
  unfold da
  rw [pC h3,aH1 (by have:=(l7.1 hx).2.1;show ¬ x.2.2 < -1;omega)];rfl
 have hp:ce l x=l.take n++([x]++l.drop n):=by
  show fW (lO l x.1 x.2.1) (da l x)=_
  rw [Qs h3,hb]
  conv=>lhs;rw [← aJ7 n l]
  exact Mp (λa ha=>aH1 λg=>oq _ (lt_trans (h1 a ha) g)) (λb hb=>aH2 (h2 b hb))
 refine ⟨hp,?_⟩
 rw [hp,aH7,aH7,aL0,aK2,List.length_singleton]
 have:=hf.le
 omega
theorem SW {l:List Tg} {x:Tg} {n:Nat} (h:RT l) (hx:iV x=true) (hf:FndT l x n false) (hl:l.length=32):ll l x=8/\qh l x=[]:=
 EN (gh.2 h) hx (aH1 (by rw [(VZ h hx hf).2];omega))
theorem SS {l:List Tg} {x:Tg} {n:Nat} (h:RT l) (hx:iV x=true) (hf:FndT l x n false) (hl:¬ l.length=32):ll l x=0/\qh l x=l.take n++([x]++l.drop n):=by
 have h9:=TB (gh.2 h) hx (aH2 (show (ce l x).length<=32 by rw [(VZ h hx hf).2];have:=h.len;omega))
 rw [h9.1,h9.2,(VZ h hx hf).1];exact ⟨rfl,rfl⟩
theorem St.grp1 {w0 w:World} {a:Value} {M:TypeId} {sa n:Nat} {xs:List Value} {ks:List Nat} {S S':World->Prop} {B:List Own} (s:St w0 (.sl a M sa n xs::.grp ks S::B) w) (h:∀ w9,bs w9 a sa n xs->S w9->S' w9):∃ kn,St w0 (.grp kn S'::B) w:=
 ⟨_,(St.group (A:=[.sl a M sa n xs,.grp ks S]) (B:=B) s).weak λw9 h9=>h w9 (bs.of_own (h9 (.sl a M sa n xs) (by simp))) ((h9 (.grp ks S) (by simp)).2 w9 λ_ _=>rfl)⟩
theorem xh (ls:List (List Tg)) (k:Nat) (h:k<ls.length):(ls.take (k+1)).flatten=(ls.take k).flatten++ls.getD k []:=by
 rw [List.take_succ_eq_append_getElem h,List.flatten_append,aJ6,aH8 h];simp
theorem ux (ls:List (List Tg)) (k:Nat) (h:k<ls.length):(ls.take k).flatten.length+(ls.getD k []).length=(ls.take (k+1)).flatten.length:=by
 rw [xh ls k h,aH7]
theorem CS (ls:List (List Tg)) (k:Nat) (h:k<ls.length):aX (ls.take k).flatten++aX (ls.getD k [])=aX (ls.take (k+1)).flatten:=by
 rw [xh ls k h,gQ]
theorem Gn (ls:List (List Tg)) (k:Nat):(ls.take k).flatten.length<=ls.flatten.length:=by
 have:=aH3 (λx=>x.flatten.length) (aJ7 k ls)
 simp only [List.flatten_append,aH7] at this
 omega
theorem Au {w:World} {base:Nat} {e:TypeId} {v:Value} {ls:List (List Tg)} {i:Nat} (hi:ls.length<=i) (h:cF w base e 67 v (ls.take i).flatten.length (aX (ls.take i).flatten)):cF w base e 67 v ls.flatten.length (aX ls.flatten):=by
 rwa [aJ9 hi] at h
theorem H1 {w:World} {u v x:Value} {a b c:List Tg} (h1:eP w u a) (h2:eP w v b) (h3:eP w x c):∀ k,k<[u,v,x].length->bs w ([u,v,x].getD k undef) 67 ([a,b,c].getD k []).length (aX ([a,b,c].getD k [])):=λk hk=>by
 match k,hk with
 |0,_=>exact h1
 |1,_=>exact h2
 |2,_=>exact h3
theorem mb (a b c:List Tg):[a,b,c].flatten=a++(b++c):=by simp
theorem DW {w:World} {a:Option Addr} {n c:Nat} {l:List Tg} (ha:a.isNone=true) (h:bs w (.slice a n c) 67 l.length (aX l)):l=[]:=by
 cases a with
 |some p=>cases ha
 |none=>
  rcases h.2 with ⟨h1,h2⟩|⟨p,cap,h1,_⟩
  ·exact List.eq_nil_of_length_eq_zero h2
  ·cases h1
theorem xW {w:World} {v:Value} {l:List Tg} (h:eP w v l) (k:Nat) (hk:k<=l.length):eP w (lI v 67 k) (l.drop k):=by
 have:=h.drop k hk
 unfold aX at this
 rw [oV _ 67 lh] at this
 unfold eP aX
 rw [aK2];exact this
section
variable {P:Program} {ρ:Operand->Value} {d:Option Tmp} {ty:TypeId} {pos:String} {af:Array Edge} {g:Option (Nat × Bool)} {x y z:Operand} {t:TypeId}
theorem U7 {k:IntKind} {m n:Int} {tys:Array TypeId} (hx:ρ x=.int k m) (hy:ρ y=.int k n):aZ P ⟨d,.call {callee:=.builtin .max,args:=#[x,y],argTypes:=tys},ty,pos,af,g⟩ ρ (.int k (if n>m then n else m)):=λw=>by
 simp [execOp,resolve,hx,hy,invoke,builtin,Builtin.max_,Builtin.max2,aL7]
theorem BP {C:Array Value} {V:Value} {len:Nat} {e:TypeId} {ps rs:Array TypeId} {vr:Bool} {k:IntKind} {m:Int} (j:Nat) (hd:P.underlying t=some (.array len e)) (he:(P.info? e).map (·.size)=some 1) (ha:P.underlying e=some (.func ps rs vr)) (hx:ρ x=.agg C) (hy:ρ y=.int k m) (hj:m=(j:Int)) (hlt:j<len) (hC:C[j]? = some V):aZ P ⟨d,.index t x y,ty,pos,af,g⟩ ρ V:=λw=>by
 subst hj
 cases hi:P.info? e with
 |none=>simp [hi] at he
 |some i=>
  have h1:i.size=1:=by simpa [hi] using he
  have h2:(0:Int)<=(j:Int)/\(j:Int)<(len:Int):=by omega
  simp only [execOp,hx,hy,Instr.index,asIntOf,aL7,aL8,aH9,aI1 hd w]
  rw [if_pos h2]
  have h3:(isAgg e).run P w=.ok false w:=by unfold isAgg;rw [aL7,aI1 ha w];rfl
  simp [aL7,sizeOf,typeInfo,hi,h1,part,h3,hC]
end
def fn4 (a b c d k:Nat):Nat:=match k with|0=>a|1=>b|2=>c|_=>d
theorem UQ {a b c d k:Nat} (hk:k<4):(#[Value.func (.func a) #[] #[],.func (.func b) #[] #[],.func (.func c) #[] #[],.func (.func d) #[] #[]]:Array Value)[k]? = some (.func (.func (fn4 a b c d k)) #[] #[]):=by
 match k,hk with
 |0,_=>rfl
 |1,_=>rfl
 |2,_=>rfl
 |3,_=>rfl
theorem SC (i j:Nat):((i:Int)+(j:Int)).fdiv (2 ^ (min (1:Int).toNat IntKind.u64.bits))=(((i+j) / 2:Nat):Int):=by
 rw [show (2:Int) ^ (min (1:Int).toNat IntKind.u64.bits)=2 from rfl,Int.fdiv_eq_ediv_of_nonneg _ (by decide)]
 omega
section
variable {P:Program} {ρ:Operand->Value} {d:Option Tmp} {ty:TypeId} {pos:String} {af:Array Edge} {g:Option (Nat × Bool)} {x y z:Operand} {t:TypeId}
end
theorem Td {v:Value} (h:v.oneCell'=true):v.cells.size=1/\v.cells.toList=[v]:=by cases v<;>first|exact ⟨rfl,rfl⟩|cases h
theorem Gq {w w':World} {vh v:Value} {N:TypeId} {l K L:List Tg} {E e:Int} (hE:E=e) (hK:K=L) (s:St w [.sl v N 67 L.length (aX L)] w'):TbP w vh l K E (.tuple #[v,.int .i64 e]) w':=by
 subst hE;subst hK
 obtain ⟨kn,s⟩:=((s.grp0 (S:=λ_=>True) (λ_=>trivial)).perm (aO3 ..)).grp1 (S':=λw9=>eP w9 vh l->eP w9 v K) (λw9 h _ _=>h)
 exact ⟨v,kn,rfl,s⟩
theorem yf {w w':World} {vh:Value} {l K:List Tg} {E e:Int} (hE:E=e) (hK:K=[]) (s:St w [] w'):TbP w vh l K E (.tuple #[.slice none 0 0,.int .i64 e]) w':=by
 subst hE;subst hK
 exact ⟨_,[],rfl,s.grp0 (S:=λw9=>eP w9 vh l->eP w9 ax []) (λw9 _=>ji w9)⟩
theorem Qm {w w':World} {vh v u:Value} {N M:TypeId} {l A C A' C':List Tg} {E e:Int} (hE:E=e) (hA:A=A') (hC:C=C') (s:St w [.sl v N 67 A'.length (aX A'),.sl u M 67 C'.length (aX C')] w'):TbC w vh l A C E (.tuple #[v,u,.int .i64 e]) w':=by
 subst hE;subst hA;subst hC
 have s1:=s.grp0 (S:=λ_=>True) (λ_=>trivial)
 obtain ⟨k1,s2⟩:=(s1.perm (List.perm_append_comm (l₁:=[_]) (l₂:=[_,_]))).grpR (S':=λw9=>eP w9 vh l->eP w9 v A/\eP w9 u C) (λw9 h1 h2 _ _=>⟨h1,h2⟩)
 exact ⟨v,u,k1,rfl,s2⟩
theorem Qn {w w':World} {vh:Value} {l A C:List Tg} {E e:Int} (hE:E=e) (hA:A=[]) (hC:C=[]) (s:St w [] w'):TbC w vh l A C E (.tuple #[.slice none 0 0,.slice none 0 0,.int .i64 e]) w':=by
 subst hE;subst hA;subst hC
 exact ⟨_,_,[],rfl,s.grp0 (S:=λw9=>eP w9 vh l->eP w9 ax []/\eP w9 ax []) (λw9 _=>⟨ji w9,ji w9⟩)⟩
theorem ah5 (l:List Tg) (n:Nat) (hn:n<l.length):(aX l)[n*67+66]? = some (.int .i64 (l.getD n cr).2.2):=by
 have h:=fP l n hn
 have h1:=aH3 (λa=>a[66]?) h
 simp only [aJ8] at h1
 rw [fK,aN7 (by decide),aN8] at h1
 exact h1
theorem UI {l:List Tg} {n:Nat} (hn:n<l.length) (y:Tg) (off:Nat) (V:Value) (hoff:off<67) (h:(aU (l.getD n cr)).setIfInBounds off V=aU y):(aX l).set (n*67+off) V=aX (l.set n y):=by
 have hl:aX l=aX (l.take n)++((aU (l.getD n cr)).toList++aX (l.drop (n+1))):=by
  conv=>lhs;rw [Ga hn]
  rw [gQ,show l.getD n cr::l.drop (n+1)=[l.getD n cr]++l.drop (n+1) from rfl,gQ,jS]
 have h1:(aX (l.take n)).length=n*67:=by rw [Bc,aL0,Nat.min_eq_left (by omega)]
 have h2:((aU (l.getD n cr)).toList.set off V)=(aU y).toList:=by rw [← h,Array.toList_setIfInBounds]
 rw [hl,List.set_append_right _ _ (by omega),h1,Nat.add_sub_cancel_left,List.set_append_left _ _ (by rw [aI2,aE];exact hoff),h2]
 rw [List.set_eq_take_append_cons_drop,if_pos hn,gQ,show y::l.drop (n+1)=[y]++l.drop (n+1) from rfl,gQ,jS]
theorem GY {l r:List Tg} (h:l.Perm r):∀ A,nC A->l.foldl ce A=r.foldl ce A:=by
 induction h with
 |nil=>intro A _;rfl
 |cons x _ ih=>intro A hA;exact ih _ (eX hA x)
 |swap x y l=>intro A hA;show l.foldl ce (ce (ce A y) x)=l.foldl ce (ce (ce A x) y);rw [HO hA]
 |trans _ _ ih1 ih2=>intro A hA;exact(ih1 A hA).trans (ih2 A hA)
def gT (m:Int) (n:Nat):Nat:=((m.tmod n+n) % (n:Int)).toNat
theorem P5 (m:Int) {n:Nat} (h:1<=n):(m.tmod n+n) % (n:Int)=(gT m n:Int)/\gT m n<n:=by
 have h1:=Int.emod_nonneg (m.tmod n+n) (show (n:Int)≠0 by omega)
 have h2:=Int.emod_lt_of_pos (m.tmod n+n) (show (0:Int)<n by omega)
 unfold gT
 exact ⟨(Int.toNat_of_nonneg h1).symm,by omega⟩
end Go.Proofs.YthmlflaiidhoiaaGreatDoor
namespace Go.Proofs.YthmlflaiidhoiaaGreatDoor
open Go.RowKit Go.ChangeShapes Go.WideShapes Go.ChangeAt
theorem NE {H:Type} {enc:TypeId × Value->H} {P:Program} {w:World} {base:Nat} {spare:Nat->Bool} {held:Bool} {t te tn ti e:TypeId} {f0 f1 f2 g0 g1 g2:Field} {fuel:Nat} {cs:List Value} {x:DataW H × List MemPlace} (T:IdTy P ti e) (hc:P.cellsOf ti=32) (hce:P.cellsOf e=1) (hn:P.underlying tn=some (.int .i64)) (hcn:P.cellsOf tn=1)
 (hte:P.underlying te=some (.struct #[f0,f1,f2])) (h0:f0.type=tn) (h1:f1.type=ti) (h2:f2.type=tn) (o0:f0.offset=0) (o1:f1.offset=1) (o2:f2.offset=33) (hcte:P.cellsOf te=34)
 (ht:P.underlying t=some (.struct #[g0,g1,g2])) (k0:g0.type=ti) (k1:g1.type=te) (k2:g2.type=tn) (p0:g0.offset=0) (p1:g1.offset=32) (p2:g2.offset=66) (hct:P.cellsOf t=67)
 (h:DataW.trod enc P w base spare held fuel t cs=some x):∃ l:Tg,cs=(aU l).toList:=by
 obtain ⟨xs,n,rfl,_,hl,hxl,hel⟩:=DataW.trod_struct ht h
 rw [hct] at hl
 have hx2:xs.length=3:=by simpa using hxl
 have e0:=hel 0 g0 rfl
 have e1:=hel 1 g1 rfl
 have e2:=hel 2 g2 rfl
 rw [k0,p0,hc,aH8 (by omega)] at e0
 rw [k1,p1,hcte,aH8 (by omega)] at e1
 rw [k2,p2,hcn,aH8 (by omega)] at e2
 obtain ⟨a,ha⟩:=ky T hc hce e0
 obtain ⟨b,hb⟩:=wR T hc hce hn hcn hte h0 h1 h2 o0 o1 o2 hcte e1
 obtain ⟨u,hu,_⟩:=DataW.trod_int hn e2
 refine ⟨(a,b,u),?_⟩
 show cs=(aH a).toList++((cG b).toList++[.int .i64 u])
 rw [← ha,← hb,← hu,List.drop_zero]
 have s1:(cs.drop 66).take 1=cs.drop 66:=aJ9 (by rw [aK2];omega)
 have s2:(cs.drop 32).take 34++cs.drop 66=cs.drop 32:=by
  have:=aJ7 34 (cs.drop 32)
  rw [List.drop_drop] at this
  exact this
 rw [s1,s2,aJ7]
end Go.Proofs.YthmlflaiidhoiaaGreatDoor
