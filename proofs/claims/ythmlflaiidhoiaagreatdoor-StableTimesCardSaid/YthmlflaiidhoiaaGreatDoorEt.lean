/- Entries, stacks and their bytes: what may be, what is written, what is read; slices of entries; no Go in it. -/
import Derived.Lib.AppendZeros
import Derived.Deep.Slices
import Derived.Test.YthmlflaiidhoiaaGreatDoorPr
set_option linter.unusedVariables false
set_option linter.unusedSimpArgs false
set_option linter.unusedSectionVars false
namespace Go.Proofs.YthmlflaiidhoiaaGreatDoor
open Go.RowKit
abbrev eA:=Int × Id × Int
def eR (e:eA):Array Value:=(Value.int .i64 e.1::((aJ e.2.1).toList++[.int .i64 e.2.2])).toArray
theorem eU (e:eA):(eR e).size=34:=by simp [eR]
theorem f5 (e:eA):(eR e).toList=Value.int .i64 e.1::((aJ e.2.1).toList++[.int .i64 e.2.2]):=rfl
theorem GJ (e:eA):∀ v∈(eR e).toList,v.oneCell'=true:=λv hv=>by
 rw [f5] at hv
 rcases ar6.1 hv with rfl|hv
 ·simp [Value.oneCell',Value.cells]
 ·rcases at9.1 hv with hv|hv
  ·rw [fh] at hv;exact ff _ _ v hv
  ·rw [ar4] at hv;subst hv;simp [Value.oneCell',Value.cells]
theorem qj (e:eA):(eR e)[0]? = some (.int .i64 e.1):=rfl
theorem iH (e:eA):(eR e)[33]? = some (.int .i64 e.2.2):=by
 rw [← aw9,f5,List.getElem?_cons_succ,at7 (by simp)]
 simp
theorem rm (e:eA):(eR e).extract 1 (1+32)=aJ e.2.1:=by
 apply Array.ext'
 rw [Array.toList_extract,List.extract_eq_take_drop,f5]
 simp
theorem Al {x y:eA} (h:(eR x).toList=(eR y).toList):x=y:=by
 have h':=Array.toList_inj.1 h
 have h0:=qj x;rw [h',qj] at h0
 have h1:=iH x;rw [h',iH] at h1
 have h2:=rm x;rw [h',rm] at h2
 simp at h0 h1
 have h3:=pI h2
 exact Prod.ext h0.symm (Prod.ext h3.symm h1.symm)
theorem eEq (x y:eA):decide (x=y)=true↔(eR x).toList=(eR y).toList:=by
 rw [ar0];exact ⟨λh=>by rw [h],Al⟩
def Us (l:List eA):List Value:=l.flatMap λe=>(eR e).toList
def kR (e:eA):Bool:=(decide (e.1=1) && decide (e.2.2=0)) || (decide (e.1=2) && decide (e.2.1=0#256) && decide (0<=e.2.2) && decide (e.2.2<16))
def dw (l:List eA):Bool:=decide (0<l.length) && decide (l.length<=4) && l.all kR
theorem kA (e:eA):kR e=true↔(e.1=1/\e.2.2=0)∨(e.1=2/\e.2.1=0#256/\0<=e.2.2/\e.2.2<16):=by
 unfold kR;simp [and_assoc]
theorem eQ (l:List eA):dw l=true↔0<l.length/\l.length<=4/\∀ e∈l,kR e=true:=by
 unfold dw;rw [aq5,aq5,ar0,ar0,aq6,and_assoc]
def A6 (a:Id):List Nat:=(List.range 32).map (bA a)
theorem ex (a:Id):(A6 a).length=32:=by simp [A6]
def dz (e:eA):List Nat:=if e.1=1 then 1::A6 e.2.1 else [2,e.2.2.toNat]
def ca (ns:List Nat):ByteArray:=⟨(ns.map UInt8.ofNat).toArray⟩
def mU (l:List eA):List Nat:=l.length::l.flatMap dz
def iq (l:List eA):ByteArray:=ca (mU l)
theorem cF (ns:List Nat):(ca ns).size=ns.length:=by simp [ca,ByteArray.size]
theorem lx (a b:List Nat):ca (a++b)=ca a++ca b:=by
 apply ByteArray.ext
 rw [ByteArray.data_append]
 simp [ca]
theorem y7 (e:eA):(dz e).length<=33/\2<=(dz e).length:=by
 unfold dz;split
 ·simp [A6]
 ·simp
theorem BQ (l:List eA):(iq l).size=1+(l.flatMap dz).length:=by
 rw [iq,cF,mU,at5];omega
def mA (t:ByteArray):Int × eA × Nat:=
 if t.size=0 then (3,(0,0#256,0),0)
 else if sb t 0=1 then
  if t.size<33 then (3,(0,0#256,0),0) else (0,(1,nk λi=>sb t (1+i),0),33)
 else if sb t 0=2 then
  if t.size<2 then (3,(0,0#256,0),0) else if 16<=sb t 1 then (5,(0,0#256,0),0) else (0,(2,0#256,(sb t 1:Int)),2)
 else (5,(0,0#256,0),0)
def ig (s:ByteArray) (n:Nat):ByteArray:=s.extract n s.size
def n3 (s:ByteArray):Nat->Int × List eA × Nat
 |0=>(0,[],1)
 |k+1=>if (n3 s k).1=0 then
  if (mA (ig s (n3 s k).2.2)).1=0 then (0,(n3 s k).2.1++[(mA (ig s (n3 s k).2.2)).2.1],(n3 s k).2.2+(mA (ig s (n3 s k).2.2)).2.2)
  else ((mA (ig s (n3 s k).2.2)).1,[],0)
  else n3 s k
def gy (s:ByteArray):Int × List eA × Nat:=
 if s.size=0 then (3,[],0) else if sb s 0<1∨4<sb s 0 then (5,[],0) else n3 s (sb s 0)
theorem jb {x y:ByteArray} (hs:x.size=y.size) (h:∀ i,i<x.size->sb x i=sb y i):x=y:=by
 apply ByteArray.ext
 apply Array.ext
 ·exact hs
 ·intro i h1 h2
  have h3:=h i h1
  unfold sb at h3
  rw [as6,as6,aw9,aw9,ax0 h1,ax0 h2] at h3
  exact UInt8.toNat.inj h3
theorem gN (ns:List Nat) (i:Nat) (hi:i<ns.length) (hb:∀ n∈ns,n<256):sb (ca ns) i=ns[i]:=by
 unfold sb ca
 simp only [as6,av0,aq8 hi,Option.map_some,Option.getD_some]
 have:=hb _ (aw0 hi)
 rw [UInt8.toNat_ofNat']
 omega
theorem SE (s:ByteArray):s.extract 0 s.size=s:=ByteArray.extract_zero_size
theorem db (s:ByteArray) (a b:Nat) (h:b<=s.size):(s.extract a b).size=b - a:=by rw [ByteArray.size_extract];omega
theorem jn (s:ByteArray) (a b i:Nat) (hb:b<=s.size) (h:a+i<b):sb (s.extract a b) i=sb s (a+i):=R8 s a b i hb h
theorem jM (s:ByteArray) (n:Nat):(ig s n).size=s.size - n:=by unfold ig;rw [db _ _ _ (as1 _)]
theorem wu (x y:ByteArray):ig (x++y) x.size=y:=by
 refine jb (by rw [jM,aw2];omega) λi hi=>?_
 rw [jM,aw2] at hi
 unfold ig
 rw [jn _ _ _ _ (as1 _) (by rw [aw2];omega),kE]
theorem Qt (e:eA) (h:kR e=true):∀ n∈dz e,n<256:=λn hn=>by
 unfold dz at hn
 rcases (kA e).1 h with ⟨h1,h2⟩|⟨h1,h2,h3,h4⟩
 ·rw [if_pos h1] at hn
  rcases ar6.1 hn with rfl|hn
  ·decide
  ·obtain ⟨i,_,rfl⟩:=au9.1 hn;exact f4 _ _
 ·rw [if_neg (by omega)] at hn
  simp only [ar6,ar9,or_false] at hn
  rcases hn with rfl|rfl<;>omega
theorem FX (e:eA) (h:kR e=true) (u:ByteArray):mA (ca (dz e)++u)=(0,e,(dz e).length):=by
 have hlt:=Qt e h
 have hsz:=cF (dz e)
 have hl:=(y7 e).2
 have hne:¬ (ca (dz e)++u).size=0:=by rw [aw2];omega
 unfold mA
 rw [if_neg hne]
 have h0:sb (ca (dz e)++u) 0=(dz e)[0]'(by omega):=by rw [dW _ _ _ (by omega),gN _ _ (by omega) hlt]
 have h1:sb (ca (dz e)++u) 1=(dz e)[1]'(by omega):=by rw [dW _ _ _ (by omega),gN _ _ (by omega) hlt]
 rcases (kA e).1 h with ⟨hk,hh⟩|⟨hk,hz,h3,h4⟩
 ·have hE:dz e=1::A6 e.2.1:=by unfold dz;rw [if_pos hk]
  have hlen:(dz e).length=33:=by rw [hE,at5,ex]
  rw [h0,if_pos (by simp [hE]),if_neg (by rw [aw2];omega),hlen]
  refine aq3 (λx=>((0:Int),x,33)) (Prod.ext hk.symm (Prod.ext ?_ hh.symm))
  refine rP λi hi=>?_
  show bA (nk _) i=_
  rw [gb _ (λi=>oQ _ _) i hi]
  rw [dW _ _ _ (by omega),gN _ _ (by omega) hlt]
  have:(dz e)[1+i]'(by omega)=(1::A6 e.2.1)[1+i]'(by rw [at5,ex];omega):=by simp only [hE]
  rw [this]
  have h9:1+i=i+1:=Nat.add_comm _ _
  simp only [h9,List.getElem_cons_succ]
  simp [A6]
 ·have hE:dz e=[2,e.2.2.toNat]:=by unfold dz;rw [if_neg (by omega)]
  have hlen:(dz e).length=2:=by rw [hE];rfl
  have hg1:(dz e)[1]'(by omega)=e.2.2.toNat:=by simp [hE]
  rw [h0,if_neg (by simp [hE]),if_pos (by simp [hE]),if_neg (by rw [aw2];omega),h1,hg1,if_neg (by omega),hlen]
  exact aq3 (λx=>((0:Int),x,2)) (Prod.ext hk.symm (Prod.ext hz.symm (by show ((e.2.2.toNat:Nat):Int)=_;omega)))
theorem C3 (l:List eA) (h:∀ e∈l,kR e=true) (s:ByteArray):∀ k,k<=l.length->n3 (iq l++s) k=(0,l.take k,1+((l.take k).flatMap dz).length)
 |0,_=>rfl
 |k+1,hk=>by
  have ih:=C3 l h s k (by omega)
  have hk':k<l.length:=by omega
  have hsuf:ig (iq l++s) (1+((l.take k).flatMap dz).length)=ca (dz l[k])++(ca ((l.drop (k+1)).flatMap dz)++s):=by
   have e1:iq l=ca (l.length::(l.take k).flatMap dz)++(ca (dz l[k])++ca ((l.drop (k+1)).flatMap dz)):=by
    unfold iq mU
    rw [← lx,← lx,List.cons_append]
    refine aq3 (λx=>ca (l.length::x)) ?_
    rw [show dz l[k]++(l.drop (k+1)).flatMap dz=(l.drop k).flatMap dz from by rw [List.drop_eq_getElem_cons hk',List.flatMap_cons],← av2,as7]
   have e2:1+((l.take k).flatMap dz).length=(ca (l.length::(l.take k).flatMap dz)).size:=by rw [cF,at5];omega
   rw [e1,e2,ByteArray.append_assoc,wu,ByteArray.append_assoc]
  have hent:=FX l[k] (h _ (aw0 hk')) (ca ((l.drop (k+1)).flatMap dz)++s)
  rw [n3,ih]
  simp only [hsuf,hent,if_true]
  rw [List.take_succ_eq_append_getElem hk',av2,aq7]
  simp only [List.flatMap_cons,List.flatMap_nil,av4]
  rw [Nat.add_assoc]
theorem vG (l:List eA) (h:dw l=true) (s:ByteArray):gy (iq l++s)=(0,l,(iq l).size):=by
 obtain ⟨h1,h2,h3⟩:=(eQ l).1 h
 have hsz:=BQ l
 have h0:sb (iq l++s) 0=l.length:=by
  rw [dW _ _ _ (by omega)]
  show sb (ca (mU l)) 0=_
  unfold sb ca mU
  simp
  omega
 unfold gy
 rw [if_neg (by rw [aw2];omega),h0,if_neg (by omega),C3 l h3 s l.length (as1 _),List.take_length,hsz]
theorem Pr (t:ByteArray) (h:(mA t).1=0):kR (mA t).2.1=true/\(mA t).2.2<=t.size/\2<=(mA t).2.2/\t.extract 0 (mA t).2.2=ca (dz (mA t).2.1):=by
 unfold mA at h ⊢
 by_cases c0:t.size=0
 ·rw [if_pos c0] at h;exact ax7 h (by decide)
 rw [if_neg c0] at h ⊢
 by_cases c1:sb t 0=1
 ·rw [if_pos c1] at h ⊢
  by_cases c2:t.size<33
  ·rw [if_pos c2] at h;exact ax7 h (by decide)
  rw [if_neg c2]
  refine ⟨(kA _).2 (.inl ⟨rfl,rfl⟩),by show 33<=_;omega,by show 2<=33;decide,?_⟩
  show t.extract 0 33=ca (dz (1,nk λi=>sb t (1+i),0))
  have hE:dz (1,nk λi=>sb t (1+i),0)=1::A6 (nk λi=>sb t (1+i)):=by unfold dz;rw [if_pos rfl]
  rw [hE]
  refine jb (by rw [db _ _ _ (by omega),cF,at5,ex]) λi hi=>?_
  rw [db _ _ _ (by omega)] at hi
  rw [jn _ _ _ _ (by omega) (by omega),Nat.zero_add,gN _ _ (by rw [at5,ex];omega) (λn hn=>by
   rcases ar6.1 hn with rfl|hn
   ·decide
   ·obtain ⟨i,_,rfl⟩:=au9.1 hn;exact f4 _ _)]
  cases i with
  |zero=>simpa using c1
  |succ i=>
   simp only [List.getElem_cons_succ]
   simp only [A6,List.getElem_map,List.getElem_range]
   rw [gb _ (λi=>oQ _ _) i (by omega),Nat.add_comm]
 rw [if_neg c1] at h ⊢
 by_cases c2:sb t 0=2
 ·rw [if_pos c2] at h ⊢
  by_cases c3:t.size<2
  ·rw [if_pos c3] at h;exact ax7 h (by decide)
  rw [if_neg c3] at h ⊢
  by_cases c4:16<=sb t 1
  ·rw [if_pos c4] at h;exact ax7 h (by decide)
  rw [if_neg c4]
  refine ⟨(kA _).2 (.inr ⟨rfl,rfl,by show (0:Int)<=(sb t 1:Int);omega,by show (sb t 1:Int)<16;omega⟩),by show 2<=_;omega,by show 2<=2;decide,?_⟩
  show t.extract 0 2=ca (dz (2,0#256,(sb t 1:Int)))
  have hE:dz (2,0#256,(sb t 1:Int))=[2,sb t 1]:=by unfold dz;rw [if_neg (by show ¬ (2:Int)=1;decide)];rfl
  rw [hE]
  refine jb (by rw [db _ _ _ (by omega),cF];rfl) λi hi=>?_
  rw [db _ _ _ (by omega)] at hi
  rw [jn _ _ _ _ (by omega) (by omega),Nat.zero_add,gN _ _ (by show i<2;omega) (λn hn=>by
   simp only [ar6,ar9,or_false] at hn
   rcases hn with rfl|rfl
   ·decide
   ·exact oQ _ _)]
  match i,hi with
  |0,_=>simpa using c2
  |1,_=>rfl
 rw [if_neg c2] at h;exact ax7 h (by decide)
theorem VL (s:ByteArray) (a n:Nat) (h:a+n<=s.size):(ig s a).extract 0 n=s.extract a (a+n):=by
 refine jb (by rw [db _ _ _ (by rw [jM];omega),db _ _ _ h];omega) λi hi=>?_
 rw [db _ _ _ (by rw [jM];omega)] at hi
 rw [jn _ _ _ _ (by rw [jM];omega) (by omega),jn _ _ _ _ h (by omega)]
 unfold ig
 rw [jn _ _ _ _ (as1 _) (by omega),Nat.zero_add]
theorem Cx (s:ByteArray) (a b c:Nat) (h1:a<=b) (h2:b<=c) (h3:c<=s.size):s.extract a c=s.extract a b++s.extract b c:=by
 refine jb (by rw [aw2,db _ _ _ h3,db _ _ _ (by omega),db _ _ _ h3];omega) λi hi=>?_
 rw [db _ _ _ h3] at hi
 rw [jn _ _ _ _ h3 (by omega)]
 by_cases h:i<b - a
 ·rw [dW _ _ _ (by rw [db _ _ _ (by omega)];exact h),jn _ _ _ _ (by omega) (by omega)]
 ·have e:i=(s.extract a b).size+(i - (b - a)):=by rw [db _ _ _ (by omega)];omega
  have:sb (s.extract a b++s.extract b c) i=sb (s.extract b c) (i - (b - a)):=by
   rw [show sb (s.extract a b++s.extract b c) i=sb (s.extract a b++s.extract b c) ((s.extract a b).size+(i - (b - a))) from by rw [← e]]
   exact kE _ _ _
  rw [this,jn _ _ _ _ h3 (by omega),show b+(i - (b - a))=a+i from by omega]
theorem RJ (s:ByteArray) (hs:1<=s.size):∀ k,(n3 s k).1=0->(n3 s k).2.1.length=k/\(∀ e∈(n3 s k).2.1,kR e=true)/\1<=(n3 s k).2.2/\(n3 s k).2.2<=s.size/\s.extract 1 (n3 s k).2.2=ca ((n3 s k).2.1.flatMap dz)
 |0,_=>by
  refine ⟨rfl,λe he=>ax7 he (ar9),as1 _,hs,?_⟩
  show s.extract 1 1=ca []
  exact jb (by rw [db _ _ _ hs,cF];rfl) λi hi=>by rw [db _ _ _ hs] at hi;omega
 |k+1,h=>by
  rw [n3] at h ⊢
  by_cases c1:(n3 s k).1=0
  ·rw [if_pos c1] at h ⊢
   by_cases c2:(mA (ig s (n3 s k).2.2)).1=0
   ·rw [if_pos c2]
    obtain ⟨i1,i2,i3,i4,i5⟩:=RJ s hs k c1
    obtain ⟨j1,j2,_,j3⟩:=Pr _ c2
    rw [jM] at j2
    refine ⟨by simp [i1],λe he=>?_,by show 1<=_+_;omega,by show _+_<=_;omega,?_⟩
    ·rcases at9.1 he with he|he
     ·exact i2 e he
     ·rw [ar4] at he;rw [he];exact j1
    ·show s.extract 1 ((n3 s k).2.2+(mA (ig s (n3 s k).2.2)).2.2)=ca (((n3 s k).2.1++[(mA (ig s (n3 s k).2.2)).2.1]).flatMap dz)
     rw [av2,lx,← i5,Cx s 1 (n3 s k).2.2 _ i3 (by omega) (by omega),← VL _ _ _ (by omega),j3]
     simp
   ·rw [if_neg c2] at h;exact ax7 h c2
  ·rw [if_neg c1] at h;exact ax7 h c1
theorem vA (s:ByteArray) (h:(gy s).1=0):dw (gy s).2.1=true/\(gy s).2.2<=s.size/\iq (gy s).2.1=s.extract 0 (gy s).2.2:=by
 unfold gy at h ⊢
 by_cases c0:s.size=0
 ·rw [if_pos c0] at h;exact ax7 h (by decide)
 rw [if_neg c0] at h ⊢
 by_cases c1:sb s 0<1∨4<sb s 0
 ·rw [if_pos c1] at h;exact ax7 h (by decide)
 rw [if_neg c1] at h ⊢
 obtain ⟨h1,h2,h3,h4,h5⟩:=RJ s (by omega) _ h
 refine ⟨(eQ _).2 ⟨by omega,by omega,h2⟩,h4,?_⟩
 rw [Cx s 0 1 _ (by omega) h3 h4,h5]
 show ca (_::_)=_
 rw [show (n3 s (sb s 0)).2.1.length::(n3 s (sb s 0)).2.1.flatMap dz=[(n3 s (sb s 0)).2.1.length]++(n3 s (sb s 0)).2.1.flatMap dz from rfl,lx,h1]
 congr 1
 refine jb (by rw [db _ _ _ (by omega)];rfl) λi hi=>?_
 have:i<1:=hi
 obtain rfl:i=0:=by omega
 rw [jn _ _ _ _ (by omega) (by omega),gN _ _ (by show 0<1;decide) (λn hn=>by rw [ar4] at hn;rw [hn];exact oQ _ _)]
 rfl
end Go.Proofs.YthmlflaiidhoiaaGreatDoor
namespace Go.Proofs.YthmlflaiidhoiaaGreatDoor
open Go.RowKit Go.ChangeShapes Go.WideShapes Go.ChangeAt
theorem EqV.up {P:Program} {D:Nat} {e:TypeId} {sz:Nat} {V:List Value->Prop} {vl:List Value->Value} (E:EqV P D e sz V vl):EqV P (D+1) e sz V vl:=
 ⟨E.len,E.size,E.part,λd xs ys w hx hy=>by
  have:=E.eq (d+1) xs ys w hx hy
  rwa [show d+(D+1)=d+1+D from by omega]⟩
theorem D5 (e:eA):((eR e).toList.drop 0).take 1=[Value.int .i64 e.1]:=rfl
theorem Dr (e:eA):((eR e).toList.drop 1).take 32=(eX (bA e.2.1) 32).toList:=by
 rw [f5,List.drop_succ_cons,List.drop_zero,List.take_append_of_le_length (by simp),as9 (by simp),fh]
theorem ER (e:eA):((eR e).toList.drop 33).take 1=[Value.int .i64 e.2.2]:=by
 rw [f5,List.drop_succ_cons,List.drop_append,List.drop_eq_nil_of_le (by simp)]
 simp
theorem uL:eR (0,0#256,0)=(Value.int .i64 0::(List.replicate 32 (Value.int .u8 0)++[.int .i64 0])).toArray:=by
 unfold eR;rw [fe];rfl
section
variable {P:Program} {a:Act} {w w0:World} {N:Nat} {L:List (Nat × Value)} {B:List Own} {fn:Func} {T:cX}
theorem sh {p q r t:Tmp} {b n:Nat} {C:Array Value} {u:TypeId} {V U:Value} (i:Nat) (hres:fn.results=#[.cell p t,.tmp q,.tmp r]) (h:Sl N a L) (s:St w0 B w) (hr:Row P t n) (hp:lk L p=some (.pointer (some ⟨b,0,none⟩))) (hi:B[i]? = some (.blk b (.cells C u))) (hn:C.size=n)
 (hq:lk L q=some V) (hu:lk L r=some U) (hT:T (.tuple #[.agg C,V,U]) w):bodyPost P fn (bW w0 T) .ret a w:=by
 refine ⟨h.defers,.tuple #[.agg C,V,U],?_,_,rfl,hT,s.ext⟩
 have hp':a.tmps[p]?.getD undef=.pointer (some ⟨b,0,none⟩):=by simpa using h.holds p _ hp
 have hq':a.tmps[q]?.getD undef=V:=by simpa using h.holds q _ hq
 have hu':a.tmps[r]?.getD undef=U:=by simpa using h.holds r _ hu
 simp [results,hres,hp',hq',hu',asAddr,eo hr w b C u (0,0) (s.get i hi) hn]
end
section
variable {P:Program} {ρ:Operand->Value} {d:Option Tmp} {ty:TypeId} {pos:String} {af:Array Edge} {g:Option (Nat × Bool)} {x y:Operand} {t t' e:TypeId} {k:IntKind} {m n:Int}
theorem a7.of_has {w:World} {b o n c:Nat} {C:Array Value} (h:aX w ⟨b,o,none⟩ C) (hn:C.size=n) (hc:n<=c):a7 w (.slice (Option.some ⟨b,o,none⟩) n c) 1 n C.toList:=
 ⟨by rw [ar2];omega,.inr ⟨⟨b,o,none⟩,c,rfl,hc,by simpa using h⟩⟩
theorem kg (ht:P.underlying t=some (.slice e)) (hx:ρ x=.slice none 0 0):a8 P ⟨d,.call {callee:=.builtin .cap,args:=#[x],argTypes:=#[t]},ty,pos,af,g⟩ ρ (.int .i64 0):=λw=>by
 simp [execOp,resolve,invoke,builtin,hx,au7,ar1 ht,Builtin.cap_,goInt]
theorem oh {sz:Nat} (ht:P.underlying t=some (.slice e)) (he:(P.info? e).map (·.size)=some sz) (hx:ρ x=.slice none 0 0) (hy:ρ y=.int .i64 0):a8 P ⟨d,.slice t x none (some y) none,ty,pos,af,g⟩ ρ (.slice none 0 0):=λw=>by
 simp [execOp,hx,hy,Instr.sliceAt,Instr.slice,Instr.sliceBounds,Instr.sliceBound,asIntOf,au7,ar1 ht,Instr.sureAddr,cy he]
theorem mN {sz n:Nat} {v:Value} {w0:World} {base:Nat} {u:TypeId} {xs:List Value} (hO:cd w0 base u sz v n xs) (ht:P.underlying t=some (.slice e)) (he:(P.info? e).map (·.size)=some sz) (hx:ρ x=v) (hy:ρ y=.int .i64 0):a8 P ⟨d,.slice t x none (some y) none,ty,pos,af,g⟩ ρ (gG v 0):=by
 have h1:=ei (P:=P) (ρ:=ρ) (d:=d) (ty:=ty) (pos:=pos) (af:=af) (g:=g) (a7.of_own hO) 0 ht he hx hy rfl (as3 _)
 exact h1
theorem cd.cut0 {w:World} {base:Nat} {e:TypeId} {sz n:Nat} {v:Value} {xs:List Value} (h:cd w base e sz v n xs):cd w base e sz (gG v 0) 0 []:=by
 refine ⟨by simp,?_⟩
 rcases h.2 with ⟨rfl,_⟩|⟨g,cap,cur,fz,rfl,h1,h2,h3,h4,h5,h6,_⟩
 ·exact .inl ⟨rfl,rfl⟩
 ·exact .inr ⟨g,cap,cur,fz,rfl,h1,h2,h3,as3 _,h5,h6,by simp⟩
end
section
variable {P:Program} {ops:Array Oper} {Q:Act->World->Prop} {l:List Oper} {a:Act} {w w0:World} {N:Nat} {L:List (Nat × Value)} {Df:List Deferred} {B:List Own} {d:Tmp} {ty:TypeId} {pos:String} {af:Array Edge} {x y:Operand} {t t' e:TypeId}
theorem lj {sz by_ n base:Nat} {kn:IntKind} (h:Sl N a L Df) (ht:P.underlying t=some (.slice e)) (htn:P.underlying t'=some (.int kn)) (E:Elm P e sz by_) (hx:ec L x=some (.slice none 0 0)) (hy:ec L y=some (.int .i64 (n:Int))) (h0:0<n) (hb:n*by_<=140737488355328) (hb1:n<=1000000) (hbase:base<=w.heap.size) (hd:Nat.blt d N=true)
 (k:∀ a' w' v' xs,Sl N a' ((d,v')::L) Df->Ext w w'->cd w' base e sz v' n xs->ce P ops Q l a' w'):
 ce P ops Q (⟨some d,.call {callee:=.builtin .append,args:=#[x,y],argTypes:=#[t,t']},ty,pos,af,none⟩::l) a w:=by
 obtain ⟨i,z,hi,hz,rfl,rfl,hzs⟩:=E.info
 have hpos:=E.pos
 have hr:=Go.Lib.run_append_nil_zeros (P:=P) w t t' ty e i z .i64 kn ht htn hi hz n h0 hpos (by omega) (by omega)
 have hge:=grownCap_ge w n 0 e
 obtain ⟨V9,W9,hr9,hE9,hO9⟩:∃ V W,(Builtin.append_ #[t,t'] ty #[.slice none 0 0,.int .i64 (n:Int)]).run P w=.ok V W/\Ext w W/\cd W base e i.size V n (Builtin.zeroCells z.cells n).toList:=by
  refine ⟨_,_,hr,(Ext.refl w).drew.alloc _,by rw [ar2,size_zeroCells,hzs],.inr ⟨w.heap.size,grownCap w n 0 e,_,(0,0),rfl,hbase,heap_alloc_new w.drew _,.inl rfl,hge,grownCap_le_maxLen w _ 0 e (by unfold maxLen;omega),?_,?_⟩⟩
  ·simp only [Array.size_append,size_zeroCells,hzs]
   rw [← Nat.add_mul]
   congr 1
   omega
  ·rw [Array.toList_append,List.take_append_of_le_length (by rw [ar2,size_zeroCells,hzs];exact as1 _),as9 (by rw [ar2,size_zeroCells,hzs];exact as1 _)]
 refine dR (R:=λu w''=>u=V9/\w''=W9) h (by
  unfold cL
  simp only [execOp,resolve,invoke,builtin,au7,au8,aq9,List.map_toArray,List.map_cons,List.map_nil,h.ev hx,h.ev hy,hr9]
  first|exact ⟨rfl,rfl⟩|exact ⟨trivial,rfl⟩|exact ⟨trivial,trivial⟩|trivial) hd λa' w'' u ⟨e1,e2⟩ hs=>?_
 subst e1;subst e2
 exact k _ _ _ _ hs hE9 hO9
end
theorem Gr {H:Type} {enc:TypeId × Value->H} {P:Program} {w:World} {base:Nat} {spare:Nat->Bool} {held:Bool} {t tn ti e:TypeId} {f0 f1 f2:Field} {fuel:Nat} {cs:List Value} {x:DataW H × List MemPlace} (T:IdTy P ti e) (hc:P.cellsOf ti=32) (hce:P.cellsOf e=1) (hn:P.underlying tn=some (.int .i64)) (hcn:P.cellsOf tn=1)
 (ht:P.underlying t=some (.struct #[f0,f1,f2])) (h0:f0.type=tn) (h1:f1.type=ti) (h2:f2.type=tn) (o0:f0.offset=0) (o1:f1.offset=1) (o2:f2.offset=33) (hct:P.cellsOf t=34) (h:DataW.trod enc P w base spare held fuel t cs=some x):∃ l:eA,cs=(eR l).toList:=by
 obtain ⟨xs,n,rfl,_,hl,hxl,hel⟩:=DataW.trod_struct ht h
 rw [hct] at hl
 have hx2:xs.length=3:=by simpa using hxl
 have e0:=hel 0 f0 rfl
 have e1:=hel 1 f1 rfl
 have e2:=hel 2 f2 rfl
 rw [h0,o0,hcn,aq8 (by omega)] at e0
 rw [h1,o1,hc,aq8 (by omega)] at e1
 rw [h2,o2,hcn,aq8 (by omega)] at e2
 obtain ⟨k,hk,_⟩:=DataW.trod_int hn e0
 obtain ⟨a,ha⟩:=lg T hc hce e1
 obtain ⟨h9,hh,_⟩:=DataW.trod_int hn e2
 refine ⟨(k,a,h9),?_⟩
 rw [f5,← ha]
 have hdrop:cs.drop 33=[Value.int .i64 h9]:=by
  rw [as9 (by rw [at2];omega)] at hh
  exact hh
 have hsplit:cs=(cs.drop 0).take 1++((cs.drop 1).take 32++cs.drop 33):=by
  rw [List.drop_zero,show cs.drop 33=(cs.drop 1).drop 32 from by rw [List.drop_drop],as7,as7]
 rw [hk,hdrop] at hsplit
 exact hsplit
theorem OL (e:eA) (h:e.1=1):kR e=decide (e.2.2=0):=by
 unfold kR;rw [h];simp
theorem yn (e:eA) (h:e.1=2):kR e=(decide (e.2.1=0#256) && decide (0<=e.2.2) && decide (e.2.2<16)):=by
 unfold kR;rw [h];simp
theorem Hd (e:eA) (h:¬ e.1=1) (h2:¬ e.1=2):kR e=false:=by
 unfold kR;simp [h,h2]
theorem Is {e:eA} (h:kR e=true) (h1:¬ e.1=1):e.1=2/\e.2.1=0#256/\0<=e.2.2/\e.2.2<16:=by
 rcases (kA e).1 h with h|h
 ·exact ax7 h.1 h1
 ·exact h
theorem dT (w:World) (base:Nat) (e:TypeId) (sz:Nat):cd w base e sz (.slice none 0 0) 0 []:=⟨by simp,.inl ⟨rfl,rfl⟩⟩
section
variable {t:ByteArray}
end
theorem St.recell {w0 w:World} {B:List Own} {b:Nat} {C D:Array Value} {u:TypeId} (s:St w0 B w) (i:Nat) (hi:B[i]? = some (.blk b (.cells C u))) (e:C=D):St w0 (B.set i (.blk b (.cells D u))) w:=by
 subst e
 have:B.set i (.blk b (.cells C u))=B:=by
  apply List.ext_getElem?
  intro j
  by_cases h:i=j
  ·subst h
   have hl:=(aq4.1 hi).1
   rw [List.getElem?_set_self hl,hi]
  ·rw [List.getElem?_set_ne h]
 rw [this];exact s
section
variable {P:Program} {ρ:Operand->Value} {d:Option Tmp} {ty:TypeId} {pos:String} {af:Array Edge} {g:Option (Nat × Bool)} {x y:Operand} {t:TypeId}
end
theorem rL {vs:List Value} {k:Nat} (h:k<vs.length):vs[k]? = some (vs.getD k undef):=by
 rw [as6,aq8 h];rfl
end Go.Proofs.YthmlflaiidhoiaaGreatDoor
