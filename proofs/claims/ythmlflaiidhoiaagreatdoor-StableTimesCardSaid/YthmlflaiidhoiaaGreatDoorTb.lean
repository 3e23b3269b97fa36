/- Triggers and tables: which may be, which is below which, what is put, dropped, over, matched and cut; what may be stays such, parts put together, and in whatever order; triggers that come in; no Go in it. -/
import Derived.Test.YthmlflaiidhoiaaGreatDoorLk
set_option linter.unusedVariables false
set_option linter.unusedSimpArgs false
set_option linter.unusedSectionVars false
namespace Go.Proofs.YthmlflaiidhoiaaGreatDoor
open Go.RowKit
abbrev Tg:=Id × eA × Int
def qB (t:Tg):List Value:=(aJ t.1).toList++((eR t.2.1).toList++[.int .i64 t.2.2])
def aV (t:Tg):Array Value:=(qB t).toArray
def cr:Tg:=(0#256,(0,0#256,0),0)
theorem oN (t:Tg):(qB t).length=67:=by simp [qB,eU]
theorem aN (t:Tg):(aV t).size=67:=by simp [aV,oN]
theorem Ao (t:Tg):∀ v∈qB t,v.oneCell'=true:=λv hv=>by
 unfold qB at hv
 rcases at9.1 hv with hv|hv
 ·rw [fh] at hv;exact ff _ _ v hv
 ·rcases at9.1 hv with hv|hv
  ·exact GJ _ v hv
  ·rw [ar4] at hv;subst hv;rfl
theorem ft (t:Tg):∀ v∈(aV t).toList,v.oneCell'=true:=Ao t
theorem dp (x:Id):(aJ x).toList.length=32:=by simp
theorem nr (e:eA):(eR e).toList.length=34:=by rw [ar2,eU]
theorem An (t:Tg):((aV t).toList.drop 0).take 32=(aJ t.1).toList:=by
 show ((qB t).drop 0).take 32=_
 unfold qB
 rw [List.drop_zero,List.take_left' (dp _)]
theorem yJ (t:Tg):((aV t).toList.drop 32).take 34=(eR t.2.1).toList:=by
 show ((qB t).drop 32).take 34=_
 unfold qB
 rw [List.drop_left' (dp _),List.take_left' (nr _)]
theorem Dm (t:Tg):((aV t).toList.drop 66).take 1=[Value.int .i64 t.2.2]:=by
 show ((qB t).drop 66).take 1=_
 unfold qB
 rw [← av3,List.drop_left' (by rw [aq7,dp,nr])];rfl
theorem oD (L:List Value) (C:Array Value) (a n:Nat) (h:(L.drop a).take n=C.toList):L.toArray.extract a (a+n)=C:=by
 apply Array.ext'
 rw [Array.toList_extract,List.extract_eq_take_drop,Nat.add_sub_cancel_left]
 exact h
theorem jJ (t:Tg):(aV t).extract 0 (0+32)=aJ t.1:=oD _ _ _ _ (An t)
theorem tL (t:Tg):(aV t).extract 32 (32+34)=eR t.2.1:=oD _ _ _ _ (yJ t)
theorem vR (t:Tg):(aV t).extract 33 (33+32)=aJ t.2.1.2.1:=oD _ _ _ _ (by
 show ((qB t).drop 33).take 32=_
 unfold qB
 rw [show 33=32+1 from rfl,← List.drop_drop,List.drop_left' (dp _),f5,List.cons_append,List.drop_succ_cons,List.drop_zero,av3,List.take_left' (dp _)])
theorem sn (t:Tg):(aV t)[32]? = some (.int .i64 t.2.1.1):=by
 unfold aV qB
 rw [as8,at7 (by rw [dp];exact as1 _),dp,f5];rfl
theorem sH (t:Tg):(aV t)[65]? = some (.int .i64 t.2.1.2.2):=by
 unfold aV qB
 rw [as8,at7 (by rw [dp];omega),dp,at8 (by rw [nr];omega)]
 have:=iH t.2.1
 rw [← aw9] at this
 exact this
theorem gd (t:Tg):(aV t)[66]? = some (.int .i64 t.2.2):=by
 unfold aV qB
 rw [as8,← av3,at7 (by rw [aq7,dp,nr];exact as1 _),aq7,dp,nr];rfl
theorem Gc {x y:Tg} (h:(aV x).toList=(aV y).toList):x=y:=by
 have h0:=An x;rw [h,An] at h0
 have h1:=yJ x;rw [h,yJ] at h1
 have h2:=Dm x;rw [h,Dm] at h2
 refine Prod.ext (pI (Array.toList_inj.1 h0)).symm (Prod.ext (Al h1).symm ?_)
 simpa using h2.symm
theorem ab0 (x y:Tg):decide (x=y)=true↔(aV x).toList=(aV y).toList:=by
 rw [ar0];exact ⟨λh=>by rw [h],Gc⟩
def tgZ:List (List Value):=[List.replicate 32 (.int .u8 0),.int .i64 0::(List.replicate 32 (.int .u8 0)++[.int .i64 0]),[.int .i64 0]]
theorem M3:aV cr=tgZ.flatten.toArray:=by
 unfold aV qB cr;rw [uL,fe];rfl
def bz (l:List Tg):List Value:=l.flatMap qB
theorem zc (l:List Tg):(bz l).length=l.length*67:=f7 _ 67 oN l
theorem gW (l r:List Tg):bz (l++r)=bz l++bz r:=av2
theorem kU (t:Tg):bz [t]=(aV t).toList:=by simp [bz,aV]
theorem pp (l:List Tg):∀ u∈bz l,u.oneCell'=true:=λu hu=>by
 obtain ⟨x,_,hx⟩:=List.mem_flatMap.1 hu
 exact Ao x u hx
theorem YX (m:Tg):∀ v∈([.agg (aV m)]:List Value),v.cells.size=67:=λv hv=>by
 rw [ar4] at hv;subst hv;exact aN m
theorem TY (m:Tg):([Value.agg (aV m)].flatMap λv=>v.cells.toList)=(aV m).toList:=by simp [Value.cells]
theorem BA {l:List Tg} {j:Nat} (hj:j<l.length):l[j]=l.getD j cr:=by
 rw [as6,aq8 hj];rfl
theorem iO (l:List Tg) (j:Nat) (hj:j<l.length):(((bz l).drop (j*67)).take 67).toArray=aV (l.getD j cr):=by
 unfold bz
 rw [fS _ 67 oN l j hj,BA hj];rfl
theorem Cw {l:List Tg} {j:Nat} (hj:j<l.length):l.getD j cr∈l:=by rw [← BA hj];exact aw0 hj
theorem QW {l:List Tg} {x:Tg} (h:x∈l):∃ j,j<l.length/\l.getD j cr=x:=by
 obtain ⟨j,hj,rfl⟩:=List.mem_iff_getElem.1 h
 exact ⟨j,hj,(BA hj).symm⟩
theorem xu {w:World} {v:Value} {l:List Tg} (h:a7 w v 67 l.length (bz l)) (k:Nat) (hk:k<=l.length):a7 w (gG v k) 67 (l.take k).length (bz (l.take k)):=by
 have:=h.cut k hk
 unfold bz at this
 rw [gE _ 67 oN] at this
 rw [au0,Nat.min_eq_left hk]
 exact this
theorem E0 {l:List Tg} {d:Nat} (hd:d<l.length):l.take (d+1)=l.take d++[l.getD d cr]:=by rw [List.take_succ_eq_append_getElem hd,BA hd]
def gH (t:Tg):Bool:=kR t.2.1 && (decide (0<=t.2.2) && decide (t.2.2<=1099511627776))
def kI (a b:Tg):Prop:=a.1.toNat<b.1.toNat∨(a.1=b.1/\(a.2.1.1<b.2.1.1∨(a.2.1.1=b.2.1.1/\(a.2.1.2.1.toNat<b.2.1.2.1.toNat∨(a.2.1.2.1=b.2.1.2.1/\a.2.1.2.2<b.2.1.2.2)))))
instance (a b:Tg):Decidable (kI a b):=by unfold kI;infer_instance
def mt (a b:Tg):Bool:=decide (kI a b)
def jG (a b:Tg):Prop:=a.1=b.1/\a.2.1=b.2.1
instance (a b:Tg):Decidable (jG a b):=by unfold jG;infer_instance
theorem zO {a b:Id}:a=b↔a.toNat=b.toNat:=BitVec.toNat_inj.symm
theorem B1 {a b:eA}:a=b↔a.1=b.1/\a.2.1=b.2.1/\a.2.2=b.2.2:=⟨λh=>by rw [h];exact ⟨rfl,rfl,rfl⟩,λ⟨h1,h2,h3⟩=>Prod.ext h1 (Prod.ext h2 h3)⟩
theorem p4 (a:Tg):¬ kI a a:=by unfold kI;omega
theorem gu {a b c:Tg} (h:kI a b) (g:kI b c):kI a c:=by
 unfold kI at *
 simp only [zO] at *
 omega
theorem HC (a b:Tg):kI a b∨jG a b∨kI b a:=by
 unfold kI jG
 simp only [B1,zO]
 omega
theorem qv {a b:Tg} (h:kI a b):¬ jG a b:=by
 unfold kI at h;unfold jG
 simp only [B1,zO] at *
 omega
theorem wq {a b:Tg} (h:kI a b):¬ jG b a:=λg=>qv h ⟨g.1.symm,g.2.symm⟩
theorem Ld {a b c:Tg} (h:jG a b):(kI a c↔kI b c)/\(kI c a↔kI c b):=by
 unfold kI
 rw [h.1,h.2];exact ⟨Iff.rfl,Iff.rfl⟩
theorem jG.symm {a b:Tg} (h:jG a b):jG b a:=⟨h.1.symm,h.2.symm⟩
theorem jG.trans {a b c:Tg} (h:jG a b) (g:jG b c):jG a c:=⟨h.1.trans g.1,h.2.trans g.2⟩
def mn (l:List Tg):Prop:=l.Pairwise kI
theorem yc:∀ {l r:List Tg},mn l->mn r->(∀ y,y∈l↔y∈r)->l=r
 |[],[],_,_,_=>rfl
 |[],b::r,_,_,h=>ax7 ((h b).2 (ar5 ..)) (by simp)
 |a::l,[],_,_,h=>ax7 ((h a).1 (ar5 ..)) (by simp)
 |a::l,b::r,hl,hr,h=>by
  have h1:=List.pairwise_cons.1 hl
  have h2:=List.pairwise_cons.1 hr
  have e:a=b:=by
   rcases ar6.1 ((h a).1 (ar5 ..)) with e|ha
   ·exact e
   ·rcases ar6.1 ((h b).2 (ar5 ..)) with e|hb
    ·exact e.symm
    ·exact ax7 (gu (h1.1 b hb) (h2.1 a ha)) (p4 a)
  subst e
  refine aq3 _ (yc h1.2 h2.2 λy=>⟨λhy=>?_,λhy=>?_⟩)
  ·rcases ar6.1 ((h y).1 (as5 _ hy)) with e|h9
   ·subst e;exact ax7 (h1.1 y hy) (p4 y)
   ·exact h9
  ·rcases ar6.1 ((h y).2 (as5 _ hy)) with e|h9
   ·subst e;exact ax7 (h2.1 y hy) (p4 y)
   ·exact h9
theorem JO {l:List Tg} (h:mn l) {a b:Tg} (ha:a∈l) (hb:b∈l) (e:jG a b):a=b:=by
 obtain ⟨i,hi,rfl⟩:=List.mem_iff_getElem.1 ha
 obtain ⟨j,hj,rfl⟩:=List.mem_iff_getElem.1 hb
 rcases Nat.lt_trichotomy i j with g|g|g
 ·exact ax7 e (qv (List.pairwise_iff_getElem.1 h i j hi hj g))
 ·subst g;rfl
 ·exact ax7 e (wq (List.pairwise_iff_getElem.1 h j i hj hi g))
theorem mn.filter {l:List Tg} (h:mn l) (p:Tg->Bool):mn (l.filter p):=List.Pairwise.filter p h
def Ye (l:List Tg) (k:Nat):Bool:=decide (k=0) || mt (l.getD (k - 1) cr) (l.getD k cr)
def DZ (l:List Tg) (k:Nat):Bool:=gH (l.getD k cr) && Ye l k
def eu (l:List Tg):Bool:=(List.range l.length).all (DZ l) && decide (l.length<=32)
structure RT (l:List Tg):Prop where
 may:∀ y∈l,gH y=true
 srt:mn l
 len:l.length<=32
theorem d7 {l:List Tg}:eu l=true↔RT l:=by
 unfold eu
 rw [aq5,aq6,ar0]
 constructor
 ·rintro ⟨h1,h2⟩
  have hok:∀ k,k<l.length->DZ l k=true:=λk hk=>h1 k (ar7.2 hk)
  refine ⟨λy hy=>?_,?_,h2⟩
  ·obtain ⟨j,hj,rfl⟩:=QW hy
   have:=hok j hj
   unfold DZ at this
   exact(aq5 _ _▸this:_/\_).1
  ·have hs:∀ k,k+1<l.length->kI (l.getD k cr) (l.getD (k+1) cr):=λk hk=>by
    have:=hok (k+1) hk
    unfold DZ Ye at this
    rw [aq5,aq1 (by omega),Bool.false_or] at this
    exact ap9 this.2
   have key:∀ d i,i+d+1<l.length->kI (l.getD i cr) (l.getD (i+d+1) cr):=λd=>by
    induction d with
    |zero=>intro i hi;exact hs i hi
    |succ d ih=>intro i hi;exact gu (ih i (by omega)) (hs (i+d+1) hi)
   unfold mn
   rw [List.pairwise_iff_getElem]
   intro i j hi hj hij
   have:=key (j - i - 1) i (by omega)
   rw [show i+(j - i - 1)+1=j by omega] at this
   rw [BA hi,BA hj];exact this
 ·rintro ⟨h1,h2,h3⟩
  refine ⟨λk hk=>?_,h3⟩
  have hk:=ar7.1 hk
  unfold DZ Ye
  rw [h1 _ (Cw hk),Bool.true_and]
  by_cases h0:k=0
  ·rw [aq2 h0];rfl
  ·rw [aq1 h0,Bool.false_or]
   have:=List.pairwise_iff_getElem.1 h2 (k - 1) k (by omega) hk (by omega)
   rw [BA (by omega),BA hk] at this
   exact aq2 this
theorem sP {l:List Tg} {k:Nat} (hk:k<l.length) (h:DZ l k=false):eu l=false:=by
 unfold eu
 rw [Bool.and_eq_false_iff]
 exact .inl (List.all_eq_false.2 ⟨k,ar7.2 hk,by rw [h];decide⟩)
theorem u6 {l:List Tg} (h:∀ k,k<l.length->DZ l k=true):eu l=decide (l.length<=32):=by
 unfold eu
 rw [aq6.2 λk hk=>h k (ar7.1 hk),Bool.true_and]
def vC (i:Id) (e:eA) (y:Tg):Bool:=decide (y.1=i) && decide (y.2.1=e)
theorem eO {x y:Tg}:vC x.1 x.2.1 y=true↔jG y x:=by
 unfold vC;rw [aq5,ar0,ar0];exact Iff.rfl
def nTg:Tg:=(0#256,(0,0#256,0),-1)
def eT (l:List Tg) (i:Id) (e:eA):Tg:=(l.find? (vC i e)).getD nTg
def oZ (l:List Tg) (i:Id) (e:eA):List Tg:=l.filter λy => !vC i e y
theorem lz {l:List Tg} (h:mn l) {x y:Tg} (hy:y∈l) (hs:jG y x):eT l x.1 x.2.1=y:=by
 unfold eT
 cases hf:l.find? (vC x.1 x.2.1) with
 |none=>
  have:=List.find?_eq_none.1 hf y hy
  rw [eO.2 hs] at this;exact ax7 rfl this
 |some z=>
  have h1:=List.mem_of_find?_eq_some hf
  have h2:vC x.1 x.2.1 z=true:=List.find?_some hf
  exact JO h h1 hy ((eO.1 h2).trans hs.symm)
theorem oW {l:List Tg} {x:Tg} (h:∀ y∈l,¬ jG y x):eT l x.1 x.2.1=nTg:=by
 unfold eT
 rw [List.find?_eq_none.2 λy hy=>by rw [eO];exact h y hy];rfl
theorem nF {l:List Tg} (h:mn l) (x:Tg):(∃ y∈l,jG y x/\eT l x.1 x.2.1=y)∨((∀ y∈l,¬ jG y x)/\eT l x.1 x.2.1=nTg):=by
 by_cases h9:∃ y∈l,jG y x
 ·obtain ⟨y,hy,hs⟩:=h9
  exact .inl ⟨y,hy,hs,lz h hy hs⟩
 ·have:∀ y∈l,¬ jG y x:=λy hy hs=>h9 ⟨y,hy,hs⟩
  exact .inr ⟨this,oW this⟩
def jK (l:List Tg) (x:Tg):Tg:=bif decide (x.2.2<(eT l x.1 x.2.1).2.2) then (x.1,x.2.1,(eT l x.1 x.2.1).2.2) else x
def mq (l:List Tg) (x:Tg):List Tg:=l.takeWhile (λy => !mt x y)++x::l.dropWhile (λy => !mt x y)
def dn (l:List Tg) (x:Tg):List Tg:=mq (oZ l x.1 x.2.1) (jK l x)
def iD (l:List Tg) (x:Tg):Int:=bif eu l && gH x then (bif decide ((dn l x).length<=32) then 0 else 8) else 1
def mr (l:List Tg) (x:Tg):List Tg:=bif decide (iD l x=0) then dn l x else []
theorem jY (l:List Tg) (x:Tg):jG (jK l x) x:=by unfold jK;cases decide (x.2.2<(eT l x.1 x.2.1).2.2)<;>exact ⟨rfl,rfl⟩
theorem nN (l:List Tg) (x:Tg):(jK l x).2.2=max (eT l x.1 x.2.1).2.2 x.2.2:=by
 unfold jK
 by_cases h:x.2.2<(eT l x.1 x.2.1).2.2
 ·rw [aq2 h];show (eT l x.1 x.2.1).2.2=_;omega
 ·rw [aq1 h];show x.2.2=_;omega
theorem Dg {l:List Tg} {x y:Tg}:y∈mq l x↔y∈l∨y=x:=by
 unfold mq
 have e:l.takeWhile (λy => !mt x y)++l.dropWhile (λy => !mt x y)=l:=List.takeWhile_append_dropWhile
 rw [at9,ar6]
 constructor
 ·rintro (h|h|h)
  ·exact .inl (by rw [← e];exact List.mem_append_left _ h)
  ·exact .inr h
  ·exact .inl (by rw [← e];exact List.mem_append_right _ h)
 ·rintro (h|h)
  ·rw [← e] at h
   rcases at9.1 h with h|h
   ·exact .inl h
   ·exact .inr (.inr h)
  ·exact .inr (.inl h)
theorem PA (l:List Tg) (x:Tg):(mq l x).length=l.length+1:=by
 unfold mq
 have e:l.takeWhile (λy => !mt x y)++l.dropWhile (λy => !mt x y)=l:=List.takeWhile_append_dropWhile
 have:=aq3 List.length e
 rw [aq7] at this
 rw [aq7,at5];omega
theorem Es:∀ {l:List Tg} {x:Tg},mn l->(∀ y∈l,¬ jG y x)->mn (mq l x)
 |[],x,_,_=>by unfold mq;exact List.pairwise_singleton _ _
 |a::l,x,hl,hn=>by
  have h1:=List.pairwise_cons.1 hl
  by_cases h:kI x a
  ·have hb:mt x a=true:=aq2 h
   have e:mq (a::l) x=x::a::l:=by unfold mq;rw [List.takeWhile_cons,List.dropWhile_cons,hb];rfl
   rw [e]
   refine List.pairwise_cons.2 ⟨λy hy=>?_,hl⟩
   rcases ar6.1 hy with rfl|hy
   ·exact h
   ·exact gu h (h1.1 y hy)
  ·have hb:mt x a=false:=aq1 h
   have e:mq (a::l) x=a::mq l x:=by unfold mq;rw [List.takeWhile_cons,List.dropWhile_cons,hb];rfl
   rw [e]
   refine List.pairwise_cons.2 ⟨λy hy=>?_,Es h1.2 λy hy=>hn y (as5 _ hy)⟩
   rcases Dg.1 hy with hy|rfl
   ·exact h1.1 y hy
   ·rcases HC a y with g|g|g
    ·exact g
    ·exact ax7 g (hn a (ar5 ..))
    ·exact ax7 g h
theorem Eu {l:List Tg} {x y:Tg}:y∈oZ l x.1 x.2.1↔y∈l/\¬ jG y x:=by
 unfold oZ
 rw [at4,Bool.not_eq_true',← Bool.not_eq_true,eO]
theorem lJ {l:List Tg} {x y:Tg}:y∈dn l x↔(y∈l/\¬ jG y x)∨y=jK l x:=by
 unfold dn
 rw [Dg,Eu]
theorem iY {l:List Tg} (h:mn l) (x:Tg):mn (dn l x):=Es (h.filter _) λy hy hs=>(Eu.1 hy).2 (hs.trans (jY l x))
theorem JG {l:List Tg} (h:mn l) (x:Tg):(dn l x).length<=l.length+1/\((∃ y∈l,jG y x)->(dn l x).length=l.length)/\((∀ y∈l,¬ jG y x)->(dn l x).length=l.length+1):=by
 have e:(dn l x).length=(oZ l x.1 x.2.1).length+1:=PA _ _
 refine ⟨by rw [e];exact Nat.succ_le_succ (au2 _ _),λ⟨y,hy,hs⟩=>?_,λhn=>?_⟩
 ·rw [e]
  have:(oZ l x.1 x.2.1).length+1=l.length:=by
   obtain ⟨A,B,rfl⟩:=List.append_of_mem hy
   have hp:=List.pairwise_append.1 h
   have hc:=List.pairwise_cons.1 hp.2.1
   have hA:∀ z∈A,(!vC x.1 x.2.1 z)=true:=λz hz=>by
    rw [Bool.not_eq_true',← Bool.not_eq_true,eO]
    exact λg=>qv (hp.2.2 z hz y (ar5 ..)) (g.trans hs.symm)
   have hB:∀ z∈B,(!vC x.1 x.2.1 z)=true:=λz hz=>by
    rw [Bool.not_eq_true',← Bool.not_eq_true,eO]
    exact λg=>qv (hc.1 z hz) (hs.trans g.symm)
   unfold oZ
   rw [ax4,List.filter_cons,List.filter_eq_self.2 hA,List.filter_eq_self.2 hB,eO.2 hs]
   simp;omega
  omega
 ·rw [e]
  have:oZ l x.1 x.2.1=l:=List.filter_eq_self.2 λz hz=>by
   rw [Bool.not_eq_true',← Bool.not_eq_true,eO];exact hn z hz
  rw [this]
theorem iZ {t:Tg}:gH t=true↔kR t.2.1=true/\0<=t.2.2/\t.2.2<=1099511627776:=by
 unfold gH;rw [aq5,aq5,ar0,ar0]
theorem Qh {l:List Tg} (h:RT l) {x:Tg} (hx:gH x=true):gH (jK l x)=true:=by
 have hx9:=iZ.1 hx
 rw [iZ,(jY l x).2,nN]
 refine ⟨hx9.1,by omega,?_⟩
 rcases nF h.srt x with ⟨y,hy,_,e⟩|⟨_,e⟩
 ·have:=(iZ.1 (h.may y hy)).2.2
  rw [e];omega
 ·rw [e];show max (-1:Int) _<=_;omega
theorem nT {l:List Tg} (h:RT l) {x:Tg} (hx:gH x=true) (hl:(dn l x).length<=32):RT (dn l x):=by
 refine ⟨λy hy=>?_,iY h.srt x,hl⟩
 rcases lJ.1 hy with ⟨h1,_⟩|rfl
 ·exact h.may y h1
 ·exact Qh h hx
def ag5 (l:List Tg) (now:Int):List Tg:=l.filter λy=>decide (now<y.2.2)
def We (l:List Tg) (a b:Id) (on:Bool):List Tg:=l.filter λy=>xq y.1 a b == on
noncomputable def A8 (l:List Tg) (x:Id) (n:Nat):List Tg:=match l.find? λy=>decide (zx y.1 x=n) with|none=>[]|some z=>l.filter λy=>decide (zx y.1 x=n) && decide (y.1=z.1)
noncomputable def SC (l:List Tg) (x:Id):Nat->List Tg|0=>[]|j+1=>bif decide (A8 l x (128+j)=[]) then SC l x j else A8 l x (128+j)
noncomputable def Bc (l:List Tg) (x:Id):List Tg:=SC l x 129
theorem DR {l:List Tg} {x:Id} {n:Nat}:A8 l x n=[]↔∀ y∈l,zx y.1 x≠n:=by
 unfold A8
 cases hf:l.find? (λy=>decide (zx y.1 x=n)) with
 |none=>
  refine ⟨λ_ y hy=>?_,λ_=>rfl⟩
  have:=List.find?_eq_none.1 hf y hy
  simpa using this
 |some z=>
  have h1:=List.mem_of_find?_eq_some hf
  have h2:zx z.1 x=n:=by have:=List.find?_some hf;exact ap9 this
  refine ⟨λh=>?_,λh=>ax7 h2 (h z h1)⟩
  have:z∈l.filter λy=>decide (zx y.1 x=n) && decide (y.1=z.1):=at4.2 ⟨h1,by rw [aq2 h2,aq2 rfl];rfl⟩
  have h:(l.filter λy=>decide (zx y.1 x=n) && decide (y.1=z.1))=[]:=h
  rw [h] at this;cases this
theorem Ok {l:List Tg} {x:Id} {n:Nat} {y:Tg} (h:y∈A8 l x n):y∈l/\zx y.1 x=n:=by
 unfold A8 at h
 cases hf:l.find? (λy=>decide (zx y.1 x=n)) with
 |none=>rw [hf] at h;cases h
 |some z=>
  rw [hf] at h
  obtain ⟨h1,h2⟩:=at4.1 h
  rw [aq5] at h2
  exact ⟨h1,ap9 h2.1⟩
theorem Kc (l:List Tg) (x:Id):∀ j,(SC l x j=[]/\∀ i,i<j->A8 l x (128+i)=[])∨∃ i,i<j/\SC l x j=A8 l x (128+i)/\A8 l x (128+i)≠[]/\∀ k,i<k->k<j->A8 l x (128+k)=[]
 |0=>.inl ⟨rfl,λi hi=>ax7 hi (av6 _)⟩
 |j+1=>by
  by_cases h:A8 l x (128+j)=[]
  ·have e:SC l x (j+1)=SC l x j:=by show (bif decide (A8 l x (128+j)=[]) then _ else _)=_;rw [aq2 h];rfl
   rw [e]
   rcases Kc l x j with ⟨h1,h2⟩|⟨i,h1,h2,h3,h4⟩
   ·refine .inl ⟨h1,λi hi=>?_⟩
    rcases as4 i j with g|g
    ·exact h2 i g
    ·obtain rfl:i=j:=by omega
     exact h
   ·refine .inr ⟨i,by omega,h2,h3,λk hk hkj=>?_⟩
    rcases as4 k j with g|g
    ·exact h4 k hk g
    ·obtain rfl:k=j:=by omega
     exact h
  ·have e:SC l x (j+1)=A8 l x (128+j):=by show (bif decide (A8 l x (128+j)=[]) then _ else _)=_;rw [aq1 h];rfl
   exact .inr ⟨j,Nat.lt_succ_self j,e,h,λk h1 h2=>ax7 h2 (by omega)⟩
theorem TL (l:List Tg) (x:Id):(Bc l x=[]/\∀ y∈l,zx y.1 x<128)∨∃ n,128<=n/\n<=256/\Bc l x=A8 l x n/\A8 l x n≠[]/\∀ y∈l,zx y.1 x<=n:=by
 rcases Kc l x 129 with ⟨h1,h2⟩|⟨i,h1,h2,h3,h4⟩
 ·refine .inl ⟨h1,λy hy=>?_⟩
  have hc:=KM y.1 x
  rcases as4 (zx y.1 x) 128 with g|g
  ·exact g
  ·have:=DR.1 (h2 (zx y.1 x - 128) (by omega)) y hy
   omega
 ·refine .inr ⟨128+i,by omega,by omega,h2,h3,λy hy=>?_⟩
  have hc:=KM y.1 x
  rcases as4 (128+i) (zx y.1 x) with g|g
  ·have:=DR.1 (h4 (zx y.1 x - 128) (by omega) (by omega)) y hy
   omega
  ·exact g
theorem RT.filter {l:List Tg} (h:RT l) (p:Tg->Bool):RT (l.filter p):=⟨λy hy=>h.may y (at4.1 hy).1,h.srt.filter p,av5 (au2 _ _) h.len⟩
theorem JJ {l:List Tg} {x:Tg} (h:RT l) (hx:gH x=true) (h3:(dn l x).length<=32):iD l x=0/\mr l x=dn l x:=by
 have e:iD l x=0:=by unfold iD;rw [d7.2 h,hx,aq2 h3];rfl
 unfold mr;rw [e];exact ⟨rfl,rfl⟩
theorem wM {l:List Tg} {x:Tg} (h:iD l x≠0):mr l x=[]:=by unfold mr;rw [aq1 h];rfl
theorem ae7 {l:List Tg} {k:Nat} (h:gH (l.getD k cr)=false):DZ l k=false:=by unfold DZ;rw [h];rfl
theorem ad9 {l:List Tg} {k:Nat} (h:gH (l.getD k cr)=true) (h1:k=0):DZ l k=true:=by unfold DZ Ye;rw [h,aq2 h1];rfl
theorem YI {l:List Tg} {k:Nat} (h:gH (l.getD k cr)=true) (h1:¬ k=0):DZ l k=mt (l.getD (k - 1) cr) (l.getD k cr):=by unfold DZ Ye;rw [h,aq1 h1];rfl
theorem zm {q:Nat->Bool} {k:Nat} (h:∀ j,j<k->q j=true) (hk:q k=true):∀ j,j<k+1->q j=true:=λj hj=>by
 rcases as4 j k with g|g
 ·exact h j g
 ·obtain rfl:j=k:=by omega
  exact hk
theorem MJ {l:List Tg} {p:Tg->Bool} {k:Nat} (hk:k<l.length) (h:∀ j,j<k->p (l.getD j cr)=false) (he:p (l.getD k cr)=true):l.find? p=some (l.getD k cr):=by
 rw [List.find?_eq_some_iff_getElem]
 refine ⟨he,k,hk,BA hk,λj hj=>?_⟩
 rw [BA (by omega),h j hj];rfl
theorem OC {l:List Tg} {p:Tg->Bool} (h:∀ j,j<l.length->p (l.getD j cr)=false):l.find? p=none:=by
 rw [List.find?_eq_none]
 intro y hy
 obtain ⟨j,hj,rfl⟩:=QW hy
 rw [h j hj];decide
section
variable {P:Program} {ρ:Operand->Value} {d:Option Tmp} {ty:TypeId} {pos:String} {af:Array Edge} {g:Option (Nat × Bool)} {x y z:Operand} {t:TypeId}
theorem yt {u:Int} (S:Stt P t tgZ) (hx:ρ x=.int .i64 u):a8 P ⟨d,.build t #[(2,x)],ty,pos,af,g⟩ ρ (.agg (aV (0#256,(0,0#256,0),u))):=by
 have:=cx (P:=P) (ρ:=ρ) (d:=d) (ty:=ty) (pos:=pos) (af:=af) (g:=g) (parts:=#[(2,x)]) S [(2,.int .i64 u)] (by simp [hx]) (λi v hm=>by
  simp only [ar6,av8,ar9,or_false] at hm
  obtain ⟨rfl,rfl⟩:=hm
  exact ⟨_,rfl,rfl⟩) (D:=qB (0#256,(0,0#256,0),u)) (by unfold qB;rw [uL,fe];rfl)
 exact this
end
theorem Qr (t:Tg) (u:Int):(aV t).setIfInBounds 66 (.int .i64 u)=aV (t.1,t.2.1,u):=by
 apply Array.ext'
 rw [Array.toList_setIfInBounds]
 show (qB t).set 66 _=qB _
 unfold qB
 rw [← av3,← av3,List.set_append_right _ _ (by rw [aq7,dp,nr];exact as1 _),aq7,dp,nr];rfl
theorem TT {A B:List Tg} {y:Tg} (h:A.any (λz=>mt y z)=false):(A++B).takeWhile (λz => !mt y z)=A++B.takeWhile (λz => !mt y z)/\(A++B).dropWhile (λz => !mt y z)=B.dropWhile (λz => !mt y z):=by
 induction A with
 |nil=>exact ⟨rfl,rfl⟩
 |cons a A ih=>
  rw [List.any_cons,Bool.or_eq_false_iff] at h
  obtain ⟨h1,h2⟩:=ih h.2
  rw [List.cons_append,List.takeWhile_cons,List.dropWhile_cons,h.1]
  show (a::_)=_/\_
  rw [h1];exact ⟨rfl,h2⟩
abbrev ma (w:World) (v:Value) (l:List Tg):Prop:=a7 w v 67 l.length (bz l)
def TbP (w:World) (vh:Value) (l K:List Tg) (E:Int):cX:=λv w'=>∃ p ks,v=.tuple #[p,.int .i64 E]/\St w [.grp ks λw9=>ma w9 vh l->ma w9 p K] w'
theorem rD (w:World):ma w aq []:=⟨rfl,.inl ⟨rfl,rfl⟩⟩
theorem Ma {t:List Tg} (h:eu t=false) (x:Tg):iD t x=1/\mr t x=[]:=by
 have e:iD t x=1:=by unfold iD;rw [h];rfl
 exact ⟨e,wM (by rw [e];decide)⟩
theorem HO (t:List Tg) {x:Tg} (h:gH x=false):iD t x=1/\mr t x=[]:=by
 have e:iD t x=1:=by unfold iD;rw [h,Bool.and_false];rfl
 exact ⟨e,wM (by rw [e];decide)⟩
theorem W3 {t:List Tg} {x:Tg} (h:eu t=true) (hx:gH x=true) (hf:decide ((dn t x).length<=32)=true):iD t x=0/\mr t x=dn t x:=JJ (d7.1 h) hx (ap9 hf)
theorem Px {t:List Tg} {x:Tg} (h:eu t=true) (hx:gH x=true) (hf:decide ((dn t x).length<=32)=false):iD t x=8/\mr t x=[]:=by
 have e:iD t x=8:=by unfold iD;rw [h,hx,hf];rfl
 exact ⟨e,wM (by rw [e];decide)⟩
def qI (a b:Tg) (k:Nat):Int:=match k with
 |0=>eW a.1 b.1
 |1=>dE a.2.1.1 b.2.1.1
 |2=>eW a.2.1.2.1 b.2.1.2.1
 |_=>dE a.2.1.2.2 b.2.1.2.2
def vE (a b:Tg):Int:=if kI a b then -1 else if jG a b then 0 else 1
theorem w7 (a b:Tg):decide (vE a b<0)=mt a b:=by
 unfold vE mt
 by_cases h:kI a b
 ·rw [if_pos h];simp [h]
 ·rw [if_neg h]
  by_cases g:jG a b
  ·rw [if_pos g];simp [h]
  ·rw [if_neg g];simp [h]
theorem zV (a b:Tg):decide (vE a b=0)=vC b.1 b.2.1 a:=by
 have hb:vC b.1 b.2.1 a=decide (jG a b):=by
  cases hh:vC b.1 b.2.1 a with
  |true=>exact (aq2 (eO.1 hh)).symm
  |false=>exact (aq1 λg=>by rw [eO.2 g] at hh;cases hh).symm
 rw [hb];unfold vE
 by_cases h:kI a b
 ·rw [if_pos h];simp [qv h]
 ·rw [if_neg h]
  by_cases g:jG a b
  ·rw [if_pos g];simp [g]
  ·rw [if_neg g];simp [g]
theorem H3 (a b:Tg):decide (vE a b≥0) = !mt a b:=by
 rw [← w7,← decide_not];exact ar3.2 (by omega)
theorem Hl {a b:Id}:eW a b=0↔a=b:=by
 rw [zO];unfold eW;split
 ·simp;omega
 ·split
  ·simp;omega
  ·simp;omega
theorem LH (a b:Id):(eW a b = -1/\a.toNat<b.toNat)∨(eW a b=0/\a=b)∨(eW a b=1/\b.toNat<a.toNat):=by
 rw [zO];unfold eW;split
 ·exact .inl ⟨rfl,by assumption⟩
 ·split
  ·exact .inr (.inr ⟨rfl,by assumption⟩)
  ·exact .inr (.inl ⟨rfl,by omega⟩)
theorem zU (a b:Int):(dE a b = -1/\a<b)∨(dE a b=0/\a=b)∨(dE a b=1/\b<a):=by
 unfold dE;split
 ·exact .inl ⟨rfl,by assumption⟩
 ·split
  ·exact .inr (.inr ⟨rfl,by assumption⟩)
  ·exact .inr (.inl ⟨rfl,by omega⟩)
theorem Jc {a b:Tg}:(qI a b 0≠0->qI a b 0=vE a b)/\(qI a b 0=0->qI a b 1≠0->qI a b 1=vE a b)/\(qI a b 0=0->qI a b 1=0->qI a b 2≠0->qI a b 2=vE a b)/\(qI a b 0=0->qI a b 1=0->qI a b 2=0->qI a b 3=vE a b):=by
 have h0:_∨_∨_:=LH a.1 b.1
 have h1:_∨_∨_:=zU a.2.1.1 b.2.1.1
 have h2:_∨_∨_:=LH a.2.1.2.1 b.2.1.2.1
 have h3:_∨_∨_:=zU a.2.1.2.2 b.2.1.2.2
 show (eW a.1 b.1≠0->eW a.1 b.1=vE a b)/\(eW a.1 b.1=0->dE a.2.1.1 b.2.1.1≠0->dE a.2.1.1 b.2.1.1=vE a b)/\(eW a.1 b.1=0->dE a.2.1.1 b.2.1.1=0->eW a.2.1.2.1 b.2.1.2.1≠0->eW a.2.1.2.1 b.2.1.2.1=vE a b)/\(eW a.1 b.1=0->dE a.2.1.1 b.2.1.1=0->eW a.2.1.2.1 b.2.1.2.1=0->dE a.2.1.2.2 b.2.1.2.2=vE a b)
 have key:∀ c:Int,((c = -1/\kI a b)∨(c=0/\jG a b)∨(c=1/\kI b a))->c=vE a b:=by
  rintro c (⟨rfl,h⟩|⟨rfl,h⟩|⟨rfl,h⟩)
  ·unfold vE;rw [if_pos h]
  ·unfold vE;rw [if_neg λg=>qv g h,if_pos h]
  ·unfold vE;rw [if_neg λg=>p4 a (gu g h),if_neg λg=>wq h g]
 have z0:eW a.1 b.1=0->a.1=b.1:=Hl.1
 have z2:eW a.2.1.2.1 b.2.1.2.1=0->a.2.1.2.1=b.2.1.2.1:=Hl.1
 have z1:dE a.2.1.1 b.2.1.1=0->a.2.1.1=b.2.1.1:=λg=>by
  rcases h1 with ⟨c,h⟩|⟨c,h⟩|⟨c,h⟩
  ·rw [c] at g;cases g
  ·exact h
  ·rw [c] at g;cases g
 refine ⟨λn0=>key _ ?_,λn0 n1=>key _ ?_,λn0 n1 n2=>key _ ?_,λn0 n1 n2=>key _ ?_⟩
 ·rcases h0 with ⟨c,h⟩|⟨c,h⟩|⟨c,h⟩
  ·exact .inl ⟨c,.inl h⟩
  ·exact ax7 c n0
  ·exact .inr (.inr ⟨c,.inl h⟩)
 ·rcases h1 with ⟨c,h⟩|⟨c,h⟩|⟨c,h⟩
  ·exact .inl ⟨c,.inr ⟨z0 n0,.inl h⟩⟩
  ·exact ax7 c n1
  ·exact .inr (.inr ⟨c,.inr ⟨(z0 n0).symm,.inl h⟩⟩)
 ·rcases h2 with ⟨c,h⟩|⟨c,h⟩|⟨c,h⟩
  ·exact .inl ⟨c,.inr ⟨z0 n0,.inr ⟨z1 n1,.inl h⟩⟩⟩
  ·exact ax7 c n2
  ·exact .inr (.inr ⟨c,.inr ⟨(z0 n0).symm,.inr ⟨(z1 n1).symm,.inl h⟩⟩⟩)
 ·rcases h3 with ⟨c,h⟩|⟨c,h⟩|⟨c,h⟩
  ·exact .inl ⟨c,.inr ⟨z0 n0,.inr ⟨z1 n1,.inr ⟨z2 n2,h⟩⟩⟩⟩
  ·exact .inr (.inl ⟨c,z0 n0,B1.2 ⟨z1 n1,z2 n2,h⟩⟩)
  ·exact .inr (.inr ⟨c,.inr ⟨(z0 n0).symm,.inr ⟨(z1 n1).symm,.inr ⟨(z2 n2).symm,h⟩⟩⟩⟩)
theorem M6 {a b:Tg} {k:Nat} (hk:k<4) (h:∀ j,j<k->qI a b j=0) (h0:qI a b k≠0):qI a b k=vE a b:=by
 have H:=Jc (a:=a) (b:=b)
 match k,hk with
 |0,_=>exact H.1 h0
 |1,_=>exact H.2.1 (h 0 (by omega)) h0
 |2,_=>exact H.2.2.1 (h 0 (by omega)) (h 1 (by omega)) h0
 |3,_=>exact H.2.2.2 (h 0 (by omega)) (h 1 (by omega)) (h 2 (by omega))
theorem Ov {a b:Tg} (h:∀ j,j<4->qI a b j=0):vE a b=0:=
 (Jc.2.2.2 (h 0 (by omega)) (h 1 (by omega)) (h 2 (by omega))).symm.trans (h 3 (by omega))
theorem OQ {a b:Tg} {k:Nat} (h:∀ j,j<k->qI a b j=0) (hk:qI a b k=0):∀ j,j<k+1->qI a b j=0:=λj hj=>by
 rcases as4 j k with g|g
 ·exact h j g
 ·obtain rfl:j=k:=by omega
  exact hk
theorem xx {l:List Tg} (h:mn l) {j k:Nat} (hjk:j<k) (hk:k<l.length):kI (l.getD j cr) (l.getD k cr):=by
 have:=List.pairwise_iff_getElem.1 h j k (by omega) hk hjk
 rw [BA (by omega),BA hk] at this;exact this
structure FndT (l:List Tg) (x:Tg) (n:Nat) (b:Bool):Prop where
 le:n<=l.length
 lo:∀ j,j<n->mt (l.getD j cr) x=true
 hi:∀ j,n<=j->j<l.length->mt (l.getD j cr) x=false
 is:b=(decide (n<l.length) && vC x.1 x.2.1 (l.getD n cr))
theorem WF {l:List Tg} (h:mn l) {x:Tg} {k:Nat} (hk:k<l.length) (hc:mt (l.getD k cr) x=true):∀ j,j<k+1->mt (l.getD j cr) x=true:=λj hj=>by
 rcases as4 j k with g|g
 ·exact aq2 (gu (xx h g hk) (ap9 hc))
 ·obtain rfl:j=k:=by omega
  exact hc
theorem Yn {l:List Tg} (h:mn l) {x:Tg} {k:Nat} (hc:mt (l.getD k cr) x=false):∀ j,k<=j->j<l.length->mt (l.getD j cr) x=false:=λj hj hl=>by
 rcases as4 k j with g|g
 ·exact aq1 λh9=>aq0 hc (gu (xx h g hl) h9)
 ·obtain rfl:j=k:=by omega
  exact hc
theorem vJ {l:List Tg} {n:Nat} {y:Tg} (h:y∈l.take n):∃ j,j<n/\j<l.length/\l.getD j cr=y:=by
 obtain ⟨j,hj,rfl⟩:=List.mem_iff_getElem.1 h
 rw [au0] at hj
 refine ⟨j,by omega,by omega,?_⟩
 rw [← BA (by omega),List.getElem_take]
theorem uZ {l:List Tg} {n:Nat} {y:Tg} (h:y∈l.drop n):∃ j,n<=j/\j<l.length/\l.getD j cr=y:=by
 obtain ⟨j,hj,rfl⟩:=List.mem_iff_getElem.1 h
 rw [at2] at hj
 refine ⟨n+j,by omega,by omega,?_⟩
 rw [← BA (by omega),List.getElem_drop]
theorem H2 {A B:List Tg} {y:Tg} (h1:∀ a∈A,mt y a=false) (h2:∀ b∈B,mt y b=true):mq (A++B) y=A++y::B:=by
 have hA:A.any (λz=>mt y z)=false:=aw5.2 λz hz=>by rw [h1 z hz];decide
 have h9:=TT (B:=B) hA
 have h8:B.takeWhile (λz => !mt y z)=[]/\B.dropWhile (λz => !mt y z)=B:=by
  cases B with
  |nil=>exact ⟨rfl,rfl⟩
  |cons b B=>
   have hb:=h2 b (ar5 ..)
   exact ⟨by rw [List.takeWhile_cons_of_neg (by rw [hb];decide)],by rw [List.dropWhile_cons_of_neg (by rw [hb];decide)]⟩
 unfold mq
 rw [h9.1,h9.2,h8.1,h8.2,av4]
theorem In {x y:Tg} (h:¬ jG y x):vC x.1 x.2.1 y=false:=by
 cases hh:vC x.1 x.2.1 y with
 |false=>rfl
 |true=>exact ax7 (eO.1 hh) h
theorem Nh {L:List Tg} {x:Tg} (h:∀ y∈L,¬ jG y x):oZ L x.1 x.2.1=L:=List.filter_eq_self.2 λy hy=>by rw [In (h y hy)];rfl
theorem Ev {l:List Tg} {n:Nat} (h:n<l.length):l=l.take n++l.getD n cr::l.drop (n+1):=by
 rw [← BA h,List.getElem_cons_drop,as7]
theorem QJ {l:List Tg} {x:Tg} {n:Nat} (h:mn l) (hf:FndT l x n true):n<l.length/\jG (l.getD n cr) x/\(∀ y∈l.take n,kI y x)/\∀ y∈l.drop (n+1),kI x y:=by
 have h9:=hf.is.symm
 rw [aq5] at h9
 have hn:=ap9 h9.1
 have hs:=eO.1 h9.2
 refine ⟨hn,hs,λy hy=>?_,λy hy=>?_⟩
 ·obtain ⟨j,h1,h2,rfl⟩:=vJ hy
  exact ap9 (hf.lo j h1)
 ·obtain ⟨j,h1,h2,rfl⟩:=uZ hy
  exact(Ld hs).1.1 (xx h (by omega) h2)
theorem Wy {l:List Tg} {x:Tg} {n:Nat} (h:mn l) (hf:FndT l x n false):(∀ y∈l.take n,kI y x)/\(∀ y∈l.drop n,kI x y)/\∀ y∈l,¬ jG y x:=by
 have h1:∀ y∈l.take n,kI y x:=λy hy=>by
  obtain ⟨j,h1,h2,rfl⟩:=vJ hy
  exact ap9 (hf.lo j h1)
 have h2:∀ y∈l.drop n,kI x y:=λy hy=>by
  obtain ⟨j,h1,h2,rfl⟩:=uZ hy
  have hn:¬ jG (l.getD n cr) x:=λg=>by
   have h9:=hf.is
   rw [aq2 (show n<l.length by omega),eO.2 g] at h9;cases h9
  have hl:∀ i,n<=i->i<l.length->¬ kI (l.getD i cr) x:=λi g1 g2=>aq0 (hf.hi i g1 g2)
  have h0:kI x (l.getD n cr):=by
   rcases HC (l.getD n cr) x with g|g|g
   ·exact ax7 g (hl n (as1 _) (by omega))
   ·exact ax7 g hn
   ·exact g
  rcases as4 n j with g|g
  ·exact gu h0 (xx h g h2)
  ·obtain rfl:j=n:=by omega
   exact h0
 refine ⟨h1,h2,λy hy=>?_⟩
 rw [← as7 n l] at hy
 rcases at9.1 hy with g|g
 ·exact qv (h1 y g)
 ·exact λe=>wq (h2 y g) e
def V5 (l:List Tg) (x:Tg) (n:Nat):Tg:=((l.getD n cr).1,(l.getD n cr).2.1,max (l.getD n cr).2.2 x.2.2)
theorem X6 {l:List Tg} {x:Tg} {n:Nat} (h:RT l) (hx:gH x=true) (hf:FndT l x n true):iD l x=0/\mr l x=l.set n (V5 l x n):=by
 obtain ⟨hn,hs,h1,h2⟩:=QJ h.srt hf
 have hfd:eT l x.1 x.2.1=l.getD n cr:=lz h.srt (Cw hn) hs
 have hw:oZ l x.1 x.2.1=l.take n++l.drop (n+1):=by
  conv=>lhs;rw [Ev hn]
  unfold oZ
  rw [ax4,List.filter_cons_of_neg (by rw [eO.2 hs];decide)]
  rw [List.filter_eq_self.2 λy hy=>by rw [In (qv (h1 y hy))];rfl,List.filter_eq_self.2 λy hy=>by rw [In λg=>wq (h2 y hy) g];rfl]
 have hb:jK l x=V5 l x n:=by
  refine Prod.ext ?_ (Prod.ext ?_ ?_)
  ·exact(jY l x).1.trans hs.1.symm
  ·exact(jY l x).2.trans hs.2.symm
  ·rw [nN,hfd];rfl
 have hbs:=jY l x
 have hp:dn l x=l.set n (V5 l x n):=by
  show mq (oZ l x.1 x.2.1) (jK l x)=_
  rw [hw,H2 (λa ha=>aq1 λg=>p4 _ (gu (h1 a ha) ((Ld hbs).1.1 g))) (λb hb=>aq2 ((Ld hbs).1.2 (h2 b hb))),hb]
  rw [List.set_eq_take_append_cons_drop,if_pos hn]
 have hl:(dn l x).length<=32:=by rw [hp,List.length_set];exact h.len
 have:=JJ h hx hl
 rw [this.1,this.2,hp];exact ⟨rfl,rfl⟩
theorem TP {l:List Tg} {x:Tg} {n:Nat} (h:RT l) (hx:gH x=true) (hf:FndT l x n false):dn l x=l.take n++([x]++l.drop n)/\(dn l x).length=l.length+1:=by
 obtain ⟨h1,h2,h3⟩:=Wy h.srt hf
 have hb:jK l x=x:=by
  unfold jK
  rw [oW h3,aq1 (by have:=(iZ.1 hx).2.1;show ¬ x.2.2 < -1;omega)];rfl
 have hp:dn l x=l.take n++([x]++l.drop n):=by
  show mq (oZ l x.1 x.2.1) (jK l x)=_
  rw [Nh h3,hb]
  conv=>lhs;rw [← as7 n l]
  exact H2 (λa ha=>aq1 λg=>p4 _ (gu (h1 a ha) g)) (λb hb=>aq2 (h2 b hb))
 refine ⟨hp,?_⟩
 rw [hp,aq7,aq7,au0,at2,List.length_singleton]
 have:=hf.le
 omega
theorem Rj {l:List Tg} {x:Tg} {n:Nat} (h:RT l) (hx:gH x=true) (hf:FndT l x n false) (hl:l.length=32):iD l x=8/\mr l x=[]:=
 Px (d7.2 h) hx (aq1 (by rw [(TP h hx hf).2];omega))
theorem Re {l:List Tg} {x:Tg} {n:Nat} (h:RT l) (hx:gH x=true) (hf:FndT l x n false) (hl:¬ l.length=32):iD l x=0/\mr l x=l.take n++([x]++l.drop n):=by
 have h9:=W3 (d7.2 h) hx (aq2 (show (dn l x).length<=32 by rw [(TP h hx hf).2];have:=h.len;omega))
 rw [h9.1,h9.2,(TP h hx hf).1];exact ⟨rfl,rfl⟩
theorem St.grp1 {w0 w:World} {a:Value} {M:TypeId} {sa n:Nat} {xs:List Value} {ks:List Nat} {S S':World->Prop} {B:List Own} (s:St w0 (.sl a M sa n xs::.grp ks S::B) w) (h:∀ w9,a7 w9 a sa n xs->S w9->S' w9):∃ kn,St w0 (.grp kn S'::B) w:=
 ⟨_,(St.group (A:=[.sl a M sa n xs,.grp ks S]) (B:=B) s).weak λw9 h9=>h w9 (a7.of_own (h9 (.sl a M sa n xs) (by simp))) ((h9 (.grp ks S) (by simp)).2 w9 λ_ _=>rfl)⟩
theorem vH (ls:List (List Tg)) (k:Nat) (h:k<ls.length):(ls.take (k+1)).flatten=(ls.take k).flatten++ls.getD k []:=by
 rw [List.take_succ_eq_append_getElem h,List.flatten_append,as6,aq8 h];simp
theorem t7 (ls:List (List Tg)) (k:Nat) (h:k<ls.length):(ls.take k).flatten.length+(ls.getD k []).length=(ls.take (k+1)).flatten.length:=by
 rw [vH ls k h,aq7]
theorem BZ (ls:List (List Tg)) (k:Nat) (h:k<ls.length):bz (ls.take k).flatten++bz (ls.getD k [])=bz (ls.take (k+1)).flatten:=by
 rw [vH ls k h,gW]
theorem Et (ls:List (List Tg)) (k:Nat):(ls.take k).flatten.length<=ls.flatten.length:=by
 have:=aq3 (λx=>x.flatten.length) (as7 k ls)
 simp only [List.flatten_append,aq7] at this
 omega
theorem AG {w:World} {base:Nat} {e:TypeId} {v:Value} {ls:List (List Tg)} {i:Nat} (hi:ls.length<=i) (h:cd w base e 67 v (ls.take i).flatten.length (bz (ls.take i).flatten)):cd w base e 67 v ls.flatten.length (bz ls.flatten):=by
 rwa [as9 hi] at h
theorem FG {w:World} {u v x:Value} {a b c:List Tg} (h1:ma w u a) (h2:ma w v b) (h3:ma w x c):∀ k,k<[u,v,x].length->a7 w ([u,v,x].getD k undef) 67 ([a,b,c].getD k []).length (bz ([a,b,c].getD k [])):=λk hk=>by
 match k,hk with
 |0,_=>exact h1
 |1,_=>exact h2
 |2,_=>exact h3
theorem lD (a b c:List Tg):[a,b,c].flatten=a++(b++c):=by simp
theorem Cv {w:World} {a:Option Addr} {n c:Nat} {l:List Tg} (ha:a.isNone=true) (h:a7 w (.slice a n c) 67 l.length (bz l)):l=[]:=by
 cases a with
 |some p=>cases ha
 |none=>
  rcases h.2 with ⟨h1,h2⟩|⟨p,cap,h1,_⟩
  ·exact List.eq_nil_of_length_eq_zero h2
  ·cases h1
theorem wD {w:World} {v:Value} {l:List Tg} (h:ma w v l) (k:Nat) (hk:k<=l.length):ma w (hQ v 67 k) (l.drop k):=by
 have:=h.drop k hk
 unfold bz at this
 rw [r8 _ 67 oN] at this
 unfold ma bz
 rw [at2];exact this
section
variable {P:Program} {ρ:Operand->Value} {d:Option Tmp} {ty:TypeId} {pos:String} {af:Array Edge} {g:Option (Nat × Bool)} {x y z:Operand} {t:TypeId}
theorem Vn {k:IntKind} {m n:Int} {tys:Array TypeId} (hx:ρ x=.int k m) (hy:ρ y=.int k n):a8 P ⟨d,.call {callee:=.builtin .max,args:=#[x,y],argTypes:=tys},ty,pos,af,g⟩ ρ (.int k (if n>m then n else m)):=λw=>by
 simp [execOp,resolve,hx,hy,invoke,builtin,Builtin.max_,Builtin.max2,au7]
theorem yU {C:Array Value} {V:Value} {len:Nat} {e:TypeId} {ps rs:Array TypeId} {vr:Bool} {k:IntKind} {m:Int} (j:Nat) (hd:P.underlying t=some (.array len e)) (he:(P.info? e).map (·.size)=some 1) (ha:P.underlying e=some (.func ps rs vr)) (hx:ρ x=.agg C) (hy:ρ y=.int k m) (hj:m=(j:Int)) (hlt:j<len) (hC:C[j]? = some V):a8 P ⟨d,.index t x y,ty,pos,af,g⟩ ρ V:=λw=>by
 subst hj
 cases hi:P.info? e with
 |none=>simp [hi] at he
 |some i=>
  have h1:i.size=1:=by simpa [hi] using he
  have h2:(0:Int)<=(j:Int)/\(j:Int)<(len:Int):=by omega
  simp only [execOp,hx,hy,Instr.index,asIntOf,au7,au8,aq9,ar1 hd w]
  rw [if_pos h2]
  have h3:(isAgg e).run P w=.ok false w:=by unfold isAgg;rw [au7,ar1 ha w];rfl
  simp [au7,sizeOf,typeInfo,hi,h1,part,h3,hC]
end
def fn4 (a b c d k:Nat):Nat:=match k with|0=>a|1=>b|2=>c|_=>d
theorem T0 {a b c d k:Nat} (hk:k<4):(#[Value.func (.func a) #[] #[],.func (.func b) #[] #[],.func (.func c) #[] #[],.func (.func d) #[] #[]]:Array Value)[k]? = some (.func (.func (fn4 a b c d k)) #[] #[]):=by
 match k,hk with
 |0,_=>rfl
 |1,_=>rfl
 |2,_=>rfl
 |3,_=>rfl
theorem MH (i j:Nat):((i:Int)+(j:Int)).fdiv (2 ^ (min (1:Int).toNat IntKind.u64.bits))=(((i+j) / 2:Nat):Int):=by
 rw [show (2:Int) ^ (min (1:Int).toNat IntKind.u64.bits)=2 from rfl,Int.fdiv_eq_ediv_of_nonneg _ (by decide)]
 omega
section
variable {P:Program} {ρ:Operand->Value} {d:Option Tmp} {ty:TypeId} {pos:String} {af:Array Edge} {g:Option (Nat × Bool)} {x y z:Operand} {t:TypeId}
end
theorem Rf {v:Value} (h:v.oneCell'=true):v.cells.size=1/\v.cells.toList=[v]:=by cases v<;>first|exact ⟨rfl,rfl⟩|cases h
theorem EM {w w':World} {vh v:Value} {N:TypeId} {l K L:List Tg} {E e:Int} (hE:E=e) (hK:K=L) (s:St w [.sl v N 67 L.length (bz L)] w'):TbP w vh l K E (.tuple #[v,.int .i64 e]) w':=by
 subst hE;subst hK
 obtain ⟨kn,s⟩:=((s.grp0 (S:=λ_=>True) (λ_=>trivial)).perm (ax3 ..)).grp1 (S':=λw9=>ma w9 vh l->ma w9 v K) (λw9 h _ _=>h)
 exact ⟨v,kn,rfl,s⟩
theorem yw {w w':World} {vh:Value} {l K:List Tg} {E e:Int} (hE:E=e) (hK:K=[]) (s:St w [] w'):TbP w vh l K E (.tuple #[.slice none 0 0,.int .i64 e]) w':=by
 subst hE;subst hK
 exact ⟨_,[],rfl,s.grp0 (S:=λw9=>ma w9 vh l->ma w9 aq []) (λw9 _=>rD w9)⟩
theorem X2 (l:List Tg) (n:Nat) (hn:n<l.length):(bz l)[n*67+66]? = some (.int .i64 (l.getD n cr).2.2):=by
 have h:=iO l n hn
 have h1:=aq3 (λa=>a[66]?) h
 simp only [as8] at h1
 rw [gd,aw7 (by decide),aw8] at h1
 exact h1
theorem TD {l:List Tg} {n:Nat} (hn:n<l.length) (y:Tg) (off:Nat) (V:Value) (hoff:off<67) (h:(aV (l.getD n cr)).setIfInBounds off V=aV y):(bz l).set (n*67+off) V=bz (l.set n y):=by
 have hl:bz l=bz (l.take n)++((aV (l.getD n cr)).toList++bz (l.drop (n+1))):=by
  conv=>lhs;rw [Ev hn]
  rw [gW,show l.getD n cr::l.drop (n+1)=[l.getD n cr]++l.drop (n+1) from rfl,gW,kU]
 have h1:(bz (l.take n)).length=n*67:=by rw [zc,au0,Nat.min_eq_left (by omega)]
 have h2:((aV (l.getD n cr)).toList.set off V)=(aV y).toList:=by rw [← h,Array.toList_setIfInBounds]
 rw [hl,List.set_append_right _ _ (by omega),h1,Nat.add_sub_cancel_left,List.set_append_left _ _ (by rw [ar2,aN];exact hoff),h2]
 rw [List.set_eq_take_append_cons_drop,if_pos hn,gW,show y::l.drop (n+1)=[y]++l.drop (n+1) from rfl,gW,kU]
def pC (m:Int) (n:Nat):Nat:=((m.tmod n+n) % (n:Int)).toNat
theorem P1 (m:Int) {n:Nat} (h:1<=n):(m.tmod n+n) % (n:Int)=(pC m n:Int)/\pC m n<n:=by
 have h1:=Int.emod_nonneg (m.tmod n+n) (show (n:Int)≠0 by omega)
 have h2:=Int.emod_lt_of_pos (m.tmod n+n) (show (0:Int)<n by omega)
 unfold pC
 exact ⟨(Int.toNat_of_nonneg h1).symm,by omega⟩
end Go.Proofs.YthmlflaiidhoiaaGreatDoor
namespace Go.Proofs.YthmlflaiidhoiaaGreatDoor
open Go.RowKit Go.ChangeShapes Go.WideShapes Go.ChangeAt
theorem LK {H:Type} {enc:TypeId × Value->H} {P:Program} {w:World} {base:Nat} {spare:Nat->Bool} {held:Bool} {t te tn ti e:TypeId} {f0 f1 f2 g0 g1 g2:Field} {fuel:Nat} {cs:List Value} {x:DataW H × List MemPlace} (T:IdTy P ti e) (hc:P.cellsOf ti=32) (hce:P.cellsOf e=1) (hn:P.underlying tn=some (.int .i64)) (hcn:P.cellsOf tn=1)
 (hte:P.underlying te=some (.struct #[f0,f1,f2])) (h0:f0.type=tn) (h1:f1.type=ti) (h2:f2.type=tn) (o0:f0.offset=0) (o1:f1.offset=1) (o2:f2.offset=33) (hcte:P.cellsOf te=34)
 (ht:P.underlying t=some (.struct #[g0,g1,g2])) (k0:g0.type=ti) (k1:g1.type=te) (k2:g2.type=tn) (p0:g0.offset=0) (p1:g1.offset=32) (p2:g2.offset=66) (hct:P.cellsOf t=67)
 (h:DataW.trod enc P w base spare held fuel t cs=some x):∃ l:Tg,cs=(aV l).toList:=by
 obtain ⟨xs,n,rfl,_,hl,hxl,hel⟩:=DataW.trod_struct ht h
 rw [hct] at hl
 have hx2:xs.length=3:=by simpa using hxl
 have e0:=hel 0 g0 rfl
 have e1:=hel 1 g1 rfl
 have e2:=hel 2 g2 rfl
 rw [k0,p0,hc,aq8 (by omega)] at e0
 rw [k1,p1,hcte,aq8 (by omega)] at e1
 rw [k2,p2,hcn,aq8 (by omega)] at e2
 obtain ⟨a,ha⟩:=lg T hc hce e0
 obtain ⟨b,hb⟩:=Gr T hc hce hn hcn hte h0 h1 h2 o0 o1 o2 hcte e1
 obtain ⟨u,hu,_⟩:=DataW.trod_int hn e2
 refine ⟨(a,b,u),?_⟩
 show cs=(aJ a).toList++((eR b).toList++[.int .i64 u])
 rw [← ha,← hb,← hu,List.drop_zero]
 have s1:(cs.drop 66).take 1=cs.drop 66:=as9 (by rw [at2];omega)
 have s2:(cs.drop 32).take 34++cs.drop 66=cs.drop 32:=by
  have:=as7 34 (cs.drop 32)
  rw [List.drop_drop] at this
  exact this
 rw [s1,s2,as7]
end Go.Proofs.YthmlflaiidhoiaaGreatDoor
