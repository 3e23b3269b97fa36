/- Members on the ring: ways, members found; own slices that are set; members that come in; the closest of those that are known; no Go in it. -/
import Derived.Test.YthggibfkgofncaaGreatEm
set_option linter.unusedVariables false
set_option linter.unusedSimpArgs false
set_option linter.unusedSectionVars false
namespace Go.Proofs.YthggibfkgofncaaGreat
open Go.RowKit
def NN:Nat:=2 ^ 256
def fd (s x:Id):Nat:=(x - s).toNat
theorem l8 (s x:Id):fd s x<NN:=(x - s).isLt
theorem pC (x:Id):x.toNat<NN:=x.isLt
theorem gk (s x:Id):(s.toNat≤x.toNat∧fd s x+s.toNat=x.toNat)∨(x.toNat<s.toNat∧fd s x+s.toNat=NN+x.toNat):=by
 have h1:=pC s
 have h2:=pC x
 have h3:fd s x=(NN - s.toNat+x.toNat) % NN:=BitVec.toNat_sub ..
 by_cases h:s.toNat≤x.toNat
 ·refine .inl ⟨h,?_⟩
  have h4:NN - s.toNat+x.toNat=(x.toNat - s.toNat)+NN:=by omega
  rw [h3,h4,Nat.add_mod_right,Nat.mod_eq_of_lt (by omega)]
  omega
 ·refine .inr ⟨by omega,?_⟩
  rw [h3,Nat.mod_eq_of_lt (by omega)]
  omega
theorem nL (s:Id):fd s s=0:=by
 have h1:=l8 s s
 have h2:=pC s
 rcases gk s s with h|h<;>omega
theorem l4 {s x y:Id} (h:fd s x=fd s y):x=y:=by
 have h1:=gk s x
 have h2:=gk s y
 have h3:=pC x
 have h4:=pC y
 exact BitVec.eq_of_toNat_eq (by omega)
theorem yg {s x:Id} (h:fd s x=0):x=s:=l4 (h.trans (nL s).symm)
theorem C7 {s x y:Id} (h:x≠y):fd s x≠fd s y:=fun e=>h (l4 e)
theorem oR (s a x:Id):(fd s a≤fd s x∧fd a x+fd s a=fd s x)∨(fd s x<fd s a∧fd a x+fd s a=NN+fd s x):=by
 have h1:=gk s a
 have h2:=gk s x
 have h3:=gk a x
 have l1:=l8 s a
 have l2:=l8 s x
 have l3:=l8 a x
 omega
theorem BD (m:Id):fd m (m+mp 0)=1:=by
 unfold fd
 have h:m+mp 0 - m=mp 0:=CK m 0
 rw [h]
 rfl
theorem rE (m x:Id):(x=m∧fd (m+mp 0) x+1=NN)∨(x≠m∧fd (m+mp 0) x+1=fd m x):=by
 have h1:=oR m (m+mp 0) x
 rw [BD] at h1
 by_cases h:x=m
 ·subst h
  rw [nL] at h1
  exact .inl ⟨rfl,by omega⟩
 ·have h2:fd m x≠0:=fun e=>h (yg e)
  exact .inr ⟨h,by omega⟩
theorem we (a b:Id):gE a b<0↔a.toNat<b.toNat:=by
 have:=zf a b
 rw [decide_eq_decide] at this
 exact this
theorem u4 (a b:Id):0<gE a b↔b.toNat<a.toNat:=by
 unfold gE
 split
 ·omega
 ·split<;>omega
abbrev Mb:=Int × Id
def aZ:Mb:=(0,0#256)
def dB:Mb:=(-1,0#256)
def iP (m:Mb):List Value:=.int .i64 m.1::(bO m.2).toList
def av (m:Mb):Array Value:=(iP m).toArray
theorem cz (m:Mb):(iP m).length=33:=by simp [iP]
theorem aj (m:Mb):(av m).size=33:=by simp [av,cz]
theorem iD (m:Mb):∀ v∈iP m,v.oneCell'=true:=fun v hv=>by
 rcases List.mem_cons.1 hv with rfl|hv
 ·simp [Value.oneCell',Value.cells]
 ·rw [fS] at hv;exact kV _ _ v hv
theorem aS (m:Mb):∀ v∈(av m).toList,v.oneCell'=true:=iD m
theorem aP (m:Mb):(av m)[0]? = some (.int .i64 m.1):=rfl
theorem cw (m:Mb):(av m).extract 1 (1+32)=bO m.2:=by
 apply Array.ext'
 rw [Array.toList_extract,List.extract_eq_take_drop]
 show (((iP m).drop 1).take 32)=_
 exact List.take_of_length_le (by rw [List.length_drop,cz];exact Nat.le_refl _)
theorem tk {x y:Mb} (h:(av x).toList=(av y).toList):x=y:=by
 have h':=Array.toList_inj.1 h
 have h0:=aP x;rw [h',aP] at h0
 have h2:=cw x;rw [h',cw] at h2
 simp at h0
 exact Prod.ext h0.symm (tI h2).symm
theorem cR (x y:Mb):decide (x=y)=true↔(av x).toList=(av y).toList:=by
 rw [decide_eq_true_eq];exact ⟨fun h=>by rw [h],tk⟩
def ar (l:List Mb):List Value:=l.flatMap iP
theorem dS (l:List Mb):(ar l).length=l.length*33:=eQ _ 33 cz l
theorem dI (l r:List Mb):ar (l++r)=ar l++ar r:=List.flatMap_append
theorem cQ (x:Mb):ar [x]=(av x).toList:=by simp [ar,av]
theorem eL (l:List Mb):∀ u∈ar l,u.oneCell'=true:=fun u hu=>by
 obtain ⟨x,_,hx⟩:=List.mem_flatMap.1 hu
 exact iD x u hx
theorem rY (l:List Mb) (j:Nat) (hj:j<l.length):(((ar l).drop (j*33)).take 33).toArray=av l[j]:=by
 unfold ar
 rw [ip _ 33 cz l j hj];rfl
theorem fc {w:World} {v:Value} {l:List Mb} (h:bX w v 33 l.length (ar l)) (k:Nat) (hk:k≤l.length):bX w (gn v k) 33 (l.take k).length (ar (l.take k)):=by
 have:=h.cut k hk
 unfold ar at this
 rw [jx _ 33 cz] at this
 rw [List.length_take,Nat.min_eq_left hk]
 exact this
theorem mG {l:List Mb} {j:Nat} (hj:j<l.length):l[j]=l.getD j aZ:=by
 rw [List.getD_eq_getElem?_getD,List.getElem?_eq_getElem hj];rfl
theorem cI (l:List Mb) (j:Nat) (hj:j<l.length):(((ar l).drop (j*33)).take 33).toArray=av (l.getD j aZ):=by rw [rY l j hj,mG hj]
theorem eG {l:List Mb} {j:Nat} (hj:j<l.length):l.getD j aZ∈l:=by rw [← mG hj];exact List.getElem_mem hj
theorem j3 {l:List Mb} {x:Mb} (h:x∈l):∃ j,j<l.length∧l.getD j aZ=x:=by
 obtain ⟨j,hj,rfl⟩:=List.mem_iff_getElem.1 h
 exact ⟨j,hj,(mG hj).symm⟩
def gU (m x:Mb):Bool:=decide (x.1=m.1) || decide (x.2=m.2)
def iz (l:List Mb) (d:Nat):Bool:=decide ((l.getD d aZ).1<0) || (decide (16≤(l.getD d aZ).1) || (l.take d).any (gU (l.getD d aZ)))
def dd (l:List Mb):Bool:=decide (l.length≤16) && (List.range l.length).all fun d => !iz l d
structure Rg (l:List Mb):Prop where
 len:l.length≤16
 nos:∀ m∈l,0≤m.1∧m.1<16
 nd:l.Pairwise fun a b=>a.1≠b.1∧a.2≠b.2
theorem gB (l:List Mb):dd l=true↔l.length≤16∧∀ d,d<l.length→iz l d=false:=by
 unfold dd
 rw [Bool.and_eq_true,decide_eq_true_eq,List.all_eq_true]
 refine ⟨fun ⟨h1,h2⟩=>⟨h1,fun d hd=>?_⟩,fun ⟨h1,h2⟩=>⟨h1,fun d hd=>?_⟩⟩
 ·have:=h2 d (List.mem_range.2 hd);simpa using this
 ·rw [h2 d (List.mem_range.1 hd)];rfl
theorem ee {l:List Mb} {d:Nat} (hd:d<l.length) (hb:iz l d=true):dd l=false:=by
 rw [← Bool.not_eq_true,gB]
 rintro ⟨_,h⟩
 rw [h d hd] at hb;cases hb
theorem kB {l:List Mb} (h:¬ l.length≤16):dd l=false:=by
 rw [← Bool.not_eq_true,gB]
 exact fun h9=>h h9.1
theorem kL {l:List Mb} (h0:l.length≤16) (h:∀ d,d<l.length→iz l d=false):dd l=true:=(gB l).2 ⟨h0,h⟩
theorem lL {l:List Mb} {d:Nat} (hd:d<l.length):iz l d=false↔(0≤l[d].1∧l[d].1<16)∧∀ j (hj:j<d),l[j].1≠l[d].1∧l[j].2≠l[d].2:=by
 unfold iz
 rw [← mG hd,Bool.or_eq_false_iff,Bool.or_eq_false_iff,decide_eq_false_iff_not,decide_eq_false_iff_not,List.any_eq_false]
 refine ⟨fun ⟨h1,h2,h3⟩=>⟨by omega,fun j hj=>?_⟩,fun ⟨h1,h2⟩=>⟨by omega,by omega,fun x hx=>?_⟩⟩
 ·have h4:=h3 l[j] (List.mem_iff_getElem.2 ⟨j,by rw [List.length_take];omega,by rw [List.getElem_take]⟩)
  unfold gU at h4
  simpa using h4
 ·obtain ⟨j,hj,rfl⟩:=List.mem_iff_getElem.1 hx
  rw [List.length_take] at hj
  rw [List.getElem_take]
  have:=h2 j (by omega)
  unfold gU
  simpa using this
theorem kv (l:List Mb):dd l=true↔Rg l:=by
 rw [gB]
 refine ⟨fun ⟨h1,h2⟩=>⟨h1,fun m hm=>?_,List.pairwise_iff_getElem.2 fun i j hi hj hij=>?_⟩,fun h=>⟨h.len,fun d hd=>(lL hd).2 ⟨h.nos _ (List.getElem_mem hd),fun j hj=>List.pairwise_iff_getElem.1 h.nd j d (by omega) hd hj⟩⟩⟩
 ·obtain ⟨j,hj,rfl⟩:=List.mem_iff_getElem.1 hm
  exact((lL hj).1 (h2 j hj)).1
 ·exact((lL hj).1 (h2 j hj)).2 i hij
theorem zD {α:Type} {R:α→α→Prop} (hs:∀ a b,R a b→R b a) {l:List α} (h:l.Pairwise R) {x y:α} (hx:x∈l) (hy:y∈l) (hn:¬ R x y):x=y:=by
 obtain ⟨i,hi,rfl⟩:=List.mem_iff_getElem.1 hx
 obtain ⟨j,hj,rfl⟩:=List.mem_iff_getElem.1 hy
 rcases Nat.lt_trichotomy i j with h1|h1|h1
 ·exact absurd (List.pairwise_iff_getElem.1 h i j hi hj h1) hn
 ·subst h1;rfl
 ·exact absurd (hs _ _ (List.pairwise_iff_getElem.1 h j i hj hi h1)) hn
theorem Rg.no {l:List Mb} (h:Rg l) {x y:Mb} (hx:x∈l) (hy:y∈l) (e:x.1=y.1):x=y:=
 zD (fun _ _ h9=>⟨h9.1.symm,h9.2.symm⟩) h.nd hx hy fun h9=>h9.1 e
theorem Rg.id {l:List Mb} (h:Rg l) {x y:Mb} (hx:x∈l) (hy:y∈l) (e:x.2=y.2):x=y:=
 zD (fun _ _ h9=>⟨h9.1.symm,h9.2.symm⟩) h.nd hx hy fun h9=>h9.2 e
theorem Rg.sub {l r:List Mb} (h:Rg l) (hs:r.Sublist l):Rg r:=⟨Nat.le_trans hs.length_le h.len,fun m hm=>h.nos m (hs.subset hm),h.nd.sublist hs⟩
theorem Rg.fd {l:List Mb} (h:Rg l) {x y:Mb} (s:Id) (hx:x∈l) (hy:y∈l) (hn:x≠y):fd s x.2≠fd s y.2:=fun e=>hn (h.id hx hy (l4 e))
def i7 (f:Mb→Nat) (l:List Mb):Nat→Mb
 |0=>l.getD 0 aZ
 |k+1=>bif decide (f (l.getD (k+1) aZ)<f (i7 f l k)) then l.getD (k+1) aZ else i7 f l k
def k4 (f:Mb→Nat) (l:List Mb):Nat→Mb
 |0=>l.getD 0 aZ
 |k+1=>bif decide (f (k4 f l k)<f (l.getD (k+1) aZ)) then l.getD (k+1) aZ else k4 f l k
theorem nk (f:Mb→Nat) (l:List Mb):∀ k,k<l.length→i7 f l k∈l
 |0,h=>eG h
 |k+1,h=>by
  unfold i7
  cases decide (f (l.getD (k+1) aZ)<f (i7 f l k)) with
  |true=>exact eG h
  |false=>exact nk f l k (by omega)
theorem oX (f:Mb→Nat) (l:List Mb):∀ k j,j≤k→f (i7 f l k)≤f (l.getD j aZ)
 |0,j,h=>by obtain rfl:j=0:=by omega
            exact Nat.le_refl _
 |k+1,j,h=>by
  unfold i7
  by_cases hj:j=k+1
  ·subst hj
   cases hd:decide (f (l.getD (k+1) aZ)<f (i7 f l k)) with
   |true=>exact Nat.le_refl _
   |false=>exact Nat.le_of_not_lt (of_decide_eq_false hd)
  ·have h1:=oX f l k j (by omega)
   cases hd:decide (f (l.getD (k+1) aZ)<f (i7 f l k)) with
   |true=>exact Nat.le_trans (Nat.le_of_lt (of_decide_eq_true hd)) h1
   |false=>exact h1
def nw (s:Id) (m:Mb):Nat:=fd s m.2
def xM (l:List Mb) (x:Id):Mb:=i7 (nw x) l (l.length - 1)
def qy (l:List Mb) (m:Mb):Mb:=k4 (nw m.2) l (l.length - 1)
def yS (l:List Mb) (m:Mb):Mb:=xM l (m.2+mp 0)
theorem y9 {l:List Mb} (x:Id) (h:0<l.length):xM l x∈l:=nk _ l _ (by omega)
theorem A1 {l:List Mb} (x:Id) {y:Mb} (hy:y∈l):fd x (xM l x).2≤fd x y.2:=by
 obtain ⟨j,hj,rfl⟩:=j3 hy
 exact oX (nw x) l _ j (by omega)
theorem jZ {l:List Mb} {y:Mb} (hy:y∈l):0<l.length:=List.length_pos_iff.2 (List.ne_nil_of_mem hy)
theorem Au {l:List Mb} (h:Rg l) (x:Id) {o:Mb} (ho:o∈l) (hle:∀ y∈l,fd x o.2≤fd x y.2):xM l x=o:=by
 have h1:=y9 x (jZ ho)
 have h2:=A1 x ho
 have h3:=hle _ h1
 exact h.id h1 ho (l4 (s:=x) (by omega))
theorem AD {l:List Mb} (h:Rg l) {m x:Mb} (hm:m∈l) (hx:x∈l) (hn:∀ y∈l,y≠m→x≠m∧fd m.2 x.2≤fd m.2 y.2):yS l m=x:=by
 refine Au h _ hx fun y hy=>?_
 have h1:=rE m.2 x.2
 have h2:=rE m.2 y.2
 have h3:=l8 m.2 x.2
 by_cases hym:y=m
 ·subst hym
  rcases h2 with h2|h2
  ·have:=l8 (y.2+mp 0) x.2;omega
  ·exact absurd rfl h2.1
 ·obtain ⟨h4,h5⟩:=hn y hy hym
  rcases h1 with h1|h1
  ·exact absurd (h.id hx hm h1.1) h4
  ·rcases h2 with h2|h2
   ·exact absurd (h.id hy hm h2.1) hym
   ·omega
end Go.Proofs.YthggibfkgofncaaGreat
namespace Go.Proofs.YthggibfkgofncaaGreat
open Go.RowKit
theorem je (m:Mb):(av m).toList=Value.int .i64 m.1::(bO m.2).toList:=rfl
theorem oI:av aZ=(Value.int .i64 0::List.replicate 32 (Value.int .u8 0)).toArray:=by
 unfold av iP aZ;rw [jr];rfl
theorem pB (m:Mb):((av m).toList.drop 0).take 1=[Value.int .i64 m.1]:=rfl
theorem pF (m:Mb):((av m).toList.drop 1).take 32=(dK (cg m.2) 32).toList:=by
 rw [je,List.drop_succ_cons,List.drop_zero,List.take_of_length_le (by simp),fS]
def DA:List (List Value):=[[.int .i64 0],List.replicate 32 (.int .u8 0)]
section
variable {P:Program} {ρ:Operand→Value} {d:Option Tmp} {ty:TypeId} {pos:String} {af:Array Edge} {g:Option (Nat × Bool)} {x y:Operand} {t:TypeId}
theorem gF (S:Stt P t DA):ca P ⟨d,.build t #[],ty,pos,af,g⟩ ρ (.agg (av aZ)):=by
 have:=ec (P:=P) (ρ:=ρ) (d:=d) (ty:=ty) (pos:=pos) (af:=af) (g:=g) (parts:=#[]) S [] (by simp) (fun i v hm=>by simp at hm) (D:=(av aZ).toList) (by rw [oI];rfl)
 simpa using this
theorem dU {q:Int} (S:Stt P t DA) (hx:ρ x=.int .i64 q):ca P ⟨d,.build t #[(0,x)],ty,pos,af,g⟩ ρ (.agg (av (q,0#256))):=by
 have:=ec (P:=P) (ρ:=ρ) (d:=d) (ty:=ty) (pos:=pos) (af:=af) (g:=g) (parts:=#[(0,x)]) S [(0,.int .i64 q)] (by simp [hx]) (fun i v hm=>by simp at hm;rcases hm with ⟨rfl,rfl⟩;exact ⟨_,rfl,rfl⟩) (D:=(av (q,0#256)).toList) (by rw [je,jr];rfl)
 simpa using this
end
theorem eI (m:Mb):∀ v∈([.agg (av m)]:List Value),v.cells.size=33:=fun v hv=>by
 rw [List.mem_singleton] at hv;subst hv;exact aj m
theorem dh (m:Mb):([Value.agg (av m)].flatMap fun v=>v.cells.toList)=(av m).toList:=by simp [Value.cells]
theorem gA (l:List Mb) (x:Mb):ar l++(av x).toList=ar (l++[x]):=by rw [dI,cQ]
theorem yf {l:List Mb} {p:Mb→Bool} {r:Int} (hr:(r = -1∧∀ x∈l,p x=false)∨∃ k:Nat,∃ hk:k<l.length,r=(k:Int)∧p l[k]=true):decide (0≤r)=l.any p:=by
 rcases hr with ⟨rfl,h⟩|⟨k,hk,rfl,h⟩
 ·symm
  refine(List.any_eq_false.2 fun x hx=>?_).trans (by decide)
  rw [h x hx];decide
 ·rw [decide_eq_true (by omega)]
  exact(List.any_eq_true.2 ⟨_,List.getElem_mem hk,h⟩).symm
theorem xk {l:List Mb} {d:Nat} (h:decide ((l.getD d aZ).1<0)=true):iz l d=true:=by unfold iz;rw [h];rfl
theorem vD {l:List Mb} {d:Nat} (h:decide (16≤(l.getD d aZ).1)=true):iz l d=true:=by unfold iz;rw [h];simp
theorem l7 {l:List Mb} {d:Nat} (h0:decide ((l.getD d aZ).1<0)=false) (h1:decide (16≤(l.getD d aZ).1)=false):iz l d=(l.take d).any (gU (l.getD d aZ)):=by unfold iz;rw [h0,h1];rfl
theorem pU {l:List Mb} {d:Nat} {p:Mb→Bool} (hd:d≤l.length) (h:∀ j,j<d→p (l.getD j aZ)=false):(l.take d).any p=false:=by
 rw [List.any_eq_false]
 intro x hx
 obtain ⟨j,hj,rfl⟩:=List.mem_iff_getElem.1 hx
 rw [List.length_take] at hj
 rw [List.getElem_take,mG (by omega),h j (by omega)];decide
theorem ke {l:List Mb} {d j:Nat} {p:Mb→Bool} (hd:d≤l.length) (hj:j<d) (h:p (l.getD j aZ)=true):(l.take d).any p=true:=
 List.any_eq_true.2 ⟨l.getD j aZ,List.mem_iff_getElem.2 ⟨j,by rw [List.length_take];omega,by rw [List.getElem_take,mG (by omega)]⟩,h⟩
def ej (l:List Mb) (no:Int):Option Mb:=l.find? fun m=>decide (m.1=no)
theorem lw {l:List Mb} {no:Int} {k:Nat} (hk:k<l.length) (h:∀ j,j<k→decide ((l.getD j aZ).1=no)=false) (he:decide ((l.getD k aZ).1=no)=true):ej l no=some (l.getD k aZ):=by
 unfold ej
 rw [List.find?_eq_some_iff_getElem]
 refine ⟨he,k,hk,mG hk,fun j hj=>?_⟩
 rw [mG (by omega),h j hj];rfl
theorem lg {l:List Mb} {no:Int} {k:Nat} (hk:l.length≤k) (h:∀ j,j<k→decide ((l.getD j aZ).1=no)=false):ej l no=none:=by
 unfold ej
 rw [List.find?_eq_none]
 intro x hx
 obtain ⟨j,hj,rfl⟩:=j3 hx
 rw [h j (by omega)];decide
theorem lQ {l:List Mb} {no:Int} {m:Mb} (h:ej l no=some m):m∈l∧m.1=no:=by
 refine ⟨List.mem_of_find?_eq_some h,?_⟩
 have:=List.find?_some h
 exact of_decide_eq_true this
theorem ri {l:List Mb} (h:Rg l) {m:Mb} (hm:m∈l):ej l m.1=some m:=by
 cases hf:ej l m.1 with
 |none=>
  unfold ej at hf
  have:=List.find?_eq_none.1 hf m hm
  simp at this
 |some x=>
  obtain ⟨h1,h2⟩:=lQ hf
  rw [h.no h1 hm h2]
theorem xy {l:List Mb} {no:Int}:ej l no=none∨∃ m,ej l no=some m∧m∈l∧m.1=no:=by
 cases h:ej l no with
 |none=>exact .inl rfl
 |some m=>exact .inr ⟨m,rfl,lQ h⟩
def fA (l:List Mb) (no:Int):Int:=bif dd l then (match ej l no with|some _=>0|none=>6) else 1
def ek (l:List Mb) (no:Int):Mb:=bif dd l then (ej l no).getD aZ else aZ
def ft (l:List Mb) (no:Int):Mb:=(ej l no).getD dB
theorem nS {l:List Mb} (no:Int) (h:dd l=false):fA l no=1∧ek l no=aZ:=by unfold fA ek;rw [h];exact ⟨rfl,rfl⟩
theorem j5 {l:List Mb} {no:Int} {m:Mb} (h:dd l=true) (hf:ej l no=some m):fA l no=0∧ek l no=m:=by unfold fA ek;rw [h,hf];exact ⟨rfl,rfl⟩
theorem mt {l:List Mb} {no:Int} (h:dd l=true) (hf:ej l no=none):fA l no=6∧ek l no=aZ:=by unfold fA ek;rw [h,hf];exact ⟨rfl,rfl⟩
theorem za (l:List Mb) (no:Int):(dd l=false∧fA l no=1∧ek l no=aZ)∨(dd l=true∧ej l no=none∧fA l no=6∧ek l no=aZ)∨(dd l=true∧ej l no=some (ek l no)∧fA l no=0∧ek l no∈l∧(ek l no).1=no):=by
 cases h:dd l with
 |false=>exact .inl ⟨rfl,nS no h⟩
 |true=>
  cases hf:ej l no with
  |none=>exact .inr (.inl ⟨rfl,rfl,mt h hf⟩)
  |some m=>
   obtain ⟨h1,h2⟩:=j5 h hf
   obtain ⟨h3,h4⟩:=lQ hf
   exact .inr (.inr ⟨rfl,by rw [h2],h1,by rw [h2];exact h3,by rw [h2];exact h4⟩)
theorem wh {l:List Mb} {no:Int} (h:fA l no=0):dd l=true∧Rg l∧ej l no=some (ek l no)∧ek l no∈l∧(ek l no).1=no:=by
 rcases za l no with h9|h9|h9
 ·omega
 ·omega
 ·exact ⟨h9.1,(kv l).1 h9.1,h9.2.1,h9.2.2.2⟩
theorem yK {f:Mb→Nat} {l:List Mb} {k:Nat} (h:f (k4 f l k)<f (l.getD (k+1) aZ)):k4 f l (k+1)=l.getD (k+1) aZ:=by
 show (bif _ then _ else _)=_;rw [decide_eq_true h];rfl
theorem Bf {f:Mb→Nat} {l:List Mb} {k:Nat} (h:¬ f (k4 f l k)<f (l.getD (k+1) aZ)):k4 f l (k+1)=k4 f l k:=by
 show (bif _ then _ else _)=_;rw [decide_eq_false h];rfl
theorem x6 (s x y:Id):decide (gE (x - s) (y - s)<0)=decide (fd s x<fd s y):=decide_eq_decide.2 (we _ _)
theorem xO (s x y:Id):decide (0<gE (x - s) (y - s))=decide (fd s y<fd s x):=decide_eq_decide.2 (u4 _ _)
def sY (l:List Mb) (no:Int):Mb:=bif decide (fA l no=0) then qy l (ek l no) else aZ
theorem uT {l:List Mb} {no:Int} (h:fA l no=0):sY l no=qy l (ek l no):=by unfold sY;rw [decide_eq_true h];rfl
theorem Bj {l:List Mb} {no:Int} (h:¬ fA l no=0):sY l no=aZ:=by unfold sY;rw [decide_eq_false h];rfl
def qo (l:List Mb) (m:Mb):Nat→Mb
 |0=>m
 |k+1=>yS l (qo l m k)
def iZ (l:List Mb) (m:Mb) (k:Nat):List Mb:=(List.range k).map fun i=>qo l m (i+1)
theorem lC (l:List Mb) (m:Mb) (k:Nat):(iZ l m k).length=k:=by simp [iZ]
theorem uQ (l:List Mb) (m:Mb) (k:Nat):iZ l m (k+1)=iZ l m k++[qo l m (k+1)]:=by simp [iZ,List.range_succ]
def ey (s:Id) (l:List Mb):List Mb:=l.mergeSort fun x y=>decide (fd s x.2≤fd s y.2)
theorem xD (s:Id):ey s []=[]:=by unfold ey;rw [List.mergeSort_nil]
theorem fm (s:Id) (l:List Mb):(ey s l).Perm l:=List.mergeSort_perm _ _
theorem gy (s:Id) (l:List Mb):(ey s l).length=l.length:=(fm s l).length_eq
theorem mc (s:Id) (l:List Mb):(ey s l).Pairwise fun x y=>fd s x.2≤fd s y.2:=by
 have:=List.pairwise_mergeSort (le:=fun x y:Mb=>decide (fd s x.2≤fd s y.2)) (fun a b c h1 h2=>decide_eq_true (Nat.le_trans (of_decide_eq_true h1) (of_decide_eq_true h2))) (fun a b=>by
  by_cases h:fd s a.2≤fd s b.2
  ·simp [h]
  ·simp [h];omega) l
 exact this.imp fun h=>of_decide_eq_true h
theorem Bv {l:List Mb} (h:Rg l) (s:Id):Rg (ey s l):=
 ⟨by rw [gy];exact h.len,fun m hm=>h.nos m ((fm s l).mem_iff.1 hm),h.nd.perm (fm s l).symm fun h9=>⟨h9.1.symm,h9.2.symm⟩⟩
theorem BB {l r:List Mb} (h:Rg l) (s:Id) (hp:r.Perm l) (hs:r.Pairwise fun x y=>fd s x.2≤fd s y.2):r=ey s l:=by
 refine List.Perm.eq_of_pairwise (le:=fun x y:Mb=>fd s x.2≤fd s y.2) (fun a b ha hb h1 h2=>?_) hs (mc s l) (hp.trans (fm s l).symm)
 exact h.id (hp.mem_iff.1 ha) ((fm s l).mem_iff.1 hb) (l4 (s:=s) (by omega))
theorem wa {l:List Mb} (h:Rg l) (s:Id) {i j:Nat} (hij:i<j) (hj:j<l.length):fd s ((ey s l).getD i aZ).2<fd s ((ey s l).getD j aZ).2:=by
 have hl:=gy s l
 have h1:=List.pairwise_iff_getElem.1 (mc s l) i j (by omega) (by omega) hij
 have h2:=List.pairwise_iff_getElem.1 (Bv h s).nd i j (by omega) (by omega) hij
 rw [mG (by omega),mG (by omega)] at h1 h2
 have h3:=C7 (s:=s) h2.2
 omega
theorem uZ {l:List Mb} (h:Rg l) (s:Id) {i:Nat} (hi:i<l.length):yS l ((ey s l).getD i aZ)=(ey s l).getD ((i+1) % l.length) aZ:=by
 have hl:=gy s l
 have hmem:∀ j,j<l.length→(ey s l).getD j aZ∈l:=fun j hj=>(fm s l).mem_iff.1 (eG (by omega))
 have hmod:=Nat.mod_lt (i+1) (show 0<l.length by omega)
 refine AD h (hmem i hi) (hmem _ hmod) fun y hy hne=>?_
 obtain ⟨j,hj,rfl⟩:=j3 ((fm s l).mem_iff.2 hy)
 have hji:j≠i:=fun e=>hne (by rw [e])
 have hjl:j<l.length:=by omega
 have hx:∀ p q,p<l.length→q<l.length→p<q→fd s ((ey s l).getD p aZ).2<fd s ((ey s l).getD q aZ).2:=fun p q _ hq hpq=>wa h s hpq hq
 by_cases hlast:i+1<l.length
 ·rw [Nat.mod_eq_of_lt hlast]
  have h1:=hx i (i+1) hi hlast (by omega)
  refine ⟨fun e=>by rw [e] at h1;omega,?_⟩
  have k1:=oR s ((ey s l).getD i aZ).2 ((ey s l).getD (i+1) aZ).2
  have k2:=oR s ((ey s l).getD i aZ).2 ((ey s l).getD j aZ).2
  have k3:=l8 s ((ey s l).getD (i+1) aZ).2
  rcases Nat.lt_or_gt_of_ne hji with hlt|hgt
  ·have h2:=hx j i hjl hi hlt
   omega
  ·by_cases hj1:j=i+1
   ·subst hj1;exact Nat.le_refl _
   ·have h2:=hx (i+1) j hlast hjl (by omega)
    omega
 ·have hil:i+1=l.length:=by omega
  rw [hil,Nat.mod_self]
  have hj0:j<i:=by omega
  have h1:=hx 0 i (by omega) hi (by omega)
  refine ⟨fun e=>by rw [e] at h1;omega,?_⟩
  have k1:=oR s ((ey s l).getD i aZ).2 ((ey s l).getD 0 aZ).2
  have k2:=oR s ((ey s l).getD i aZ).2 ((ey s l).getD j aZ).2
  have h2:=hx j i hjl hi hj0
  by_cases hj00:j=0
  ·subst hj00;exact Nat.le_refl _
  ·have h3:=hx 0 j (by omega) hjl (by omega)
   omega
theorem wn {l:List Mb} (h:Rg l) {m:Mb} (hm:m∈l):(ey m.2 l).getD 0 aZ=m:=by
 obtain ⟨j,hj,he⟩:=j3 ((fm m.2 l).mem_iff.2 hm)
 by_cases h0:j=0
 ·subst h0;exact he
 ·have:=wa h m.2 (i:=0) (j:=j) (by omega) (by rw [← gy m.2 l];exact hj)
  rw [he,nL] at this
  omega
theorem pP {l:List Mb} (h:Rg l) {m:Mb} (hm:m∈l):∀ k,(ey m.2 l).getD (k % l.length) aZ=qo l m k
 |0=>by rw [Nat.zero_mod];exact wn h hm
 |k+1=>by
  have hp:=jZ hm
  show _=yS l (qo l m k)
  rw [← pP h hm k,uZ h m.2 (Nat.mod_lt _ hp),Nat.mod_add_mod]
def kX (l:List Mb) (no many:Int):Int:=bif decide (many<0) || decide (16<many) then 1 else fA l no
def mI (l:List Mb) (no many:Int):List Mb:=bif decide (kX l no many=0) then iZ l (ek l no) many.toNat else []
theorem lx {l:List Mb} {no many:Int} (h:many<0∨16<many):kX l no many=1∧mI l no many=[]:=by
 have h1:kX l no many=1:=by unfold kX;rcases h with h|h<;>simp [h]
 exact ⟨h1,by unfold mI;rw [h1];rfl⟩
theorem pE {l:List Mb} {no many:Int} (h0:0≤many) (h1:many≤16):kX l no many=fA l no:=by
 unfold kX;rw [decide_eq_false (by omega),decide_eq_false (by omega)];rfl
theorem yw {l:List Mb} {no many:Int} (h:¬ kX l no many=0):mI l no many=[]:=by unfold mI;rw [decide_eq_false h];rfl
theorem wm {l:List Mb} {no many:Int} (h:kX l no many=0):mI l no many=iZ l (ek l no) many.toNat:=by unfold mI;rw [decide_eq_true h];rfl
section
variable {P:Program} {ops:List Oper} {K:Act→World→Prop} {l:List Oper} {a:Act} {w:World} {N:Nat} {L:List (Nat × Value)} {Df:List Deferred} {d:Tmp} {ty:TypeId} {pos:String} {af:Array Edge}
theorem nv {f:FuncId} {caps:List Value} {cal:Operand} {args:Array Operand} {tys:Array TypeId} (vs:List Value) {X:Value} (h:Sl N a L Df) (hf:Fnc P f) (hc:eF L cal=some (.func (.func f) #[] caps.toArray))
 (hC:∀ w',Ext w w'→Calls P f (vs++caps).toArray w' (cU w' (is X))) (hvs:args.toList.map (eF L)=vs.map some) (hd:Nat.blt d N=true)
 (k:∀ a',Sl N a' ((d,X)::L) Df→j7 P ops.toArray K w l a'):
 j7 P ops.toArray K w (⟨some d,.call {callee:=.value cal,args:=args,argTypes:=tys},ty,pos,af,none⟩::l) a:=
 jC X h (fun w' hE=>lG hf (h.ev hc) (jE h hvs) (by rw [show vs.toArray++caps.toArray=(vs++caps).toArray from by simp];exact hC w' hE)) hd k
end
section
variable {P:Program} {a:Act} {w w0:World} {N:Nat} {L:List (Nat × Value)} {B:List Own} {fn:Func}
theorem mm {T:cX} {t:Tmp} {V:Value} {D:Nat} (j:Nat) (hres:fn.results=#[.tmp t]) (h:Sl N a L [{target:=.collected D,args:=#[]}]) (s:St w0 B w) (hv:lk L t=some V)
 (hj:B[j]? = some (.blk D (.deferred (some [])))) (hT:∀ w',St w0 (B.set j (.blk D (.deferred none))) w'→T V w'):bodyPostM (FR none) 0 P fn (cU w0 T) .ret a w:=by
 show LeavesInM (FR none) 0 P fn a.tmps (cU w0 T) a.defers .returning w
 rw [h.defers]
 have s2:=s.putObj j hj (.deferred none)
 exact ⟨by simp,.inl ⟨D,_,rfl,run_takeDeferred (s.get j hj),V,by rw [results_tmp hres,h.holds t V hv],V,rfl,hT _ s2,s2.ext⟩⟩
end
theorem mX (a:Id):(bO a).extract 0 (0+32)=bO a:=by
 apply Array.ext'
 rw [Array.toList_extract,List.extract_eq_take_drop,List.drop_zero,Nat.zero_add,Nat.sub_zero]
 exact List.take_of_length_le (by simp)
theorem wC (l:List Mb) {j k:Nat} (hj:j<k) (hk:k≤l.length):(((ar (l.take k)).drop (j*33)).take 33).toArray=av (l.getD j aZ):=by
 rw [rY (l.take k) j (by rw [List.length_take];omega),List.getElem_take,mG (by omega)]
theorem qb {l:List Mb} (h:∀ d,d<l.length→iz l d=false):dd l=decide (l.length≤16):=by
 by_cases h0:l.length≤16
 ·rw [kL h0 h,decide_eq_true h0]
 ·rw [kB h0,decide_eq_false h0]
theorem r8 {m x:Mb} (h:decide (x.1=m.1)=true):gU m x=true:=by unfold gU;rw [h];rfl
theorem n3 {m x:Mb} (h:decide (x.1=m.1)=false):gU m x=decide (x.2=m.2):=by unfold gU;rw [h];rfl
theorem gP {l:List Mb} {d:Nat} (hd:d<l.length):l.take (d+1)=l.take d++[l.getD d aZ]:=by rw [List.take_succ_eq_append_getElem hd,mG hd]
theorem pK {l r:List Mb} {k:Nat} (h:∀ j,j<k→l.getD j aZ=r.getD j aZ) (he:l.getD k aZ=r.getD k aZ):∀ j,j<k+1→l.getD j aZ=r.getD j aZ:=fun j hj=>by
 by_cases h1:j<k
 ·exact h j h1
 ·obtain rfl:j=k:=by omega
  exact he
theorem rO {l r:List Mb} (hl:l.length=r.length) (h:∀ j,j<l.length→l.getD j aZ=r.getD j aZ):l=r:=by
 apply List.ext_getElem hl
 intro i h1 h2
 rw [mG h1,mG h2,h i h1]
end Go.Proofs.YthggibfkgofncaaGreat
namespace Go.Proofs.YthggibfkgofncaaGreat
open Go.RowKit
section
variable {P:Program} {ops:Array Oper} {Q:Act→World→Prop} {l:List Oper} {a:Act} {w w0:World} {N:Nat} {L:List (Nat × Value)} {Df:List Deferred} {B:List Own} {d:Tmp} {ty:TypeId} {pos:String} {af:Array Edge} {x y:Operand} {t e:TypeId}
theorem tE {sz by_ n:Nat} {m:Int} {z:Value} {xs:List Value} (h:Sl N a L Df) (s:St w0 B w) (ht:P.underlying t=some (.slice e)) (E:Elm P e sz by_) (hz:(P.info? e).bind (·.zero)=some z) (hx:eF L x=some (.int .i64 m)) (hy:eF L y=some (.int .i64 m)) (hm:m=(n:Int)) (hb:by_*n≤281474976710656) (hn:n≤maxLen)
 (hxs:(madeCells z.cells (n*sz)).toList=xs) (hl:xs.length=n*sz) (hd:Nat.blt d N=true)
 (k:∀ a' w' v',Sl N a' ((d,v')::L) Df→St w0 (.sl v' e sz n xs::B) w'→cM P ops Q l a' w'):cM P ops Q (⟨some d,.makeSlice t x y,ty,pos,af,none⟩::l) a w:=by
 subst hm
 obtain ⟨i,z',h1,h2,h3,h4,h5⟩:=E.info
 have hzz:z'=z:=by rw [h1] at hz;simp only [Option.bind_some] at hz;exact Option.some.inj (h2.symm.trans hz)
 subst hzz
 have hmx:maxLen≤9223372036854775807:=by unfold maxLen;omega
 have hr:=run_make (P:=P) w t e i _ ht h1 h2 .i64 .i64 (n:Int) (n:Int) (by omega) (Int.le_refl _) (by rw [h4];omega) (by omega)
 simp only [Int.toNat_natCast,h3] at hr
 refine dJ h (R:=fun v w'=>v=.slice (some ⟨w.heap.size,0,none⟩) n n∧w'=w.alloc (.cells (madeCells z'.cells (n*sz)) e)) ?_ hd fun a' w' v ⟨hv,hw⟩ h'=>by
  subst hv;subst hw
  refine k _ _ _ h' (s.plus ((Ext.refl w).alloc _) _ ⟨hl,.inr ⟨w.heap.size,n,_,(0,0),rfl,s.ext.le,heap_alloc_new w _,.inl rfl,Nat.le_refl _,hn,?_,?_⟩⟩ fun k hk=>?_)
  ·rw [← Array.length_toList,hxs,hl]
  ·rw [hxs,← hl,List.take_length]
  ·rw [Own.at_sl] at hk;simp [Value.ownBlock] at hk;omega
 simp [c7,execOp,h.ev hx,h.ev hy,hr,Result.andThen]
theorem eX {v:Value} {sz n:Nat} {xs ys:List Value} {D:Array Value} (i j:Nat) (h:Sl N a L Df) (s:St w0 B w) (hr:Row P t sz) (hx:eF L x=some (.pointer (some (a2 v (j*sz))))) (hy:eF L y=some (.agg D)) (hi:B[i]? = some (.sl v e sz n xs)) (hD:D.size=sz) (hj:j<n) (hv:∀ u∈D.toList,u.oneCell'=true)
 (hys:xs.take (j*sz)++D.toList++xs.drop (j*sz+sz)=ys)
 (k:∀ w',St w0 (B.set i (.sl v e sz n ys)) w'→cM P ops Q l a w'):cM P ops Q (⟨none,.store t x y,ty,pos,af,none⟩::l) a w:=by
 have ho:=s.getSl i hi
 rcases ho.2 with ⟨_,h0⟩|⟨g,cap,cur,fz,rfl,hb,hg,hfz,hnc,hcm,hcs,htk⟩
 ·omega
 ·have hle:j*sz+sz≤n*sz:=by
   have:=Nat.mul_le_mul_right sz (show j+1≤n from hj)
   rwa [Nat.add_mul,Nat.one_mul] at this
  have hcl:n*sz≤cur.size:=by rw [hcs];exact Nat.mul_le_mul_right _ hnc
  have hxl:xs.length=n*sz:=ho.1
  have hcx:cur.toList=xs++cur.toList.drop (n*sz):=by rw [← htk];exact(List.take_append_drop _ _).symm
  have hyl:ys.length=n*sz:=by
   rw [← hys];simp only [List.length_append,List.length_take,List.length_drop,Array.length_toList];omega
  have hnew:cur.toList.take (j*sz)++D.toList++cur.toList.drop (j*sz+D.size)=ys++cur.toList.drop (n*sz):=by
   rw [← hys,hD]
   conv=>lhs;rw [hcx]
   rw [List.take_append_of_le_length (by omega),List.drop_append_of_le_length (by omega)]
   simp only [List.append_assoc]
  have hst:(storeVar t ⟨g,j*sz,none⟩ (.agg D)).run P w=.ok () (w.setRow g (ys++cur.toList.drop (n*sz)).toArray):=by
   have hs:(sizeOf t).run P w=.ok D.size w:=by
    cases hq:P.info? t with
    |none=>have:=hr.size;simp [hq] at this
    |some i=>have:=hr.size;simp [hq] at this;simp [sizeOf,typeInfo,Sem.run_bind,hq,this,hD]
   have:=cZ P g (j*sz) e fz D.toList 0 cur w hg hfz (by rw [Array.length_toList];omega) hv
   simp only [Nat.add_zero,Array.length_toList] at this
   rw [hnew] at this
   simp [storeVar,Sem.run_bind,hs,Value.cells,this]
  have hsz:(ys++cur.toList.drop (n*sz)).toArray.size=cur.size:=by
   rw [List.size_toArray,List.length_append,List.length_drop,hyl];have:=Array.length_toList (xs:=cur);omega
  refine gz (R:=fun _ w'=>w'=w.setRow g (ys++cur.toList.drop (n*sz)).toArray) ?_ fun w' _ hw=>by
   subst hw
   refine k _ (s.upd i hi (p':=.sl _ e sz n ys) rfl rfl rfl (by simp) ⟨hyl,.inr ⟨g,cap,_,fz,rfl,hb,setRow_heap w g cur _ e fz hg,?_,hnc,hcm,?_,?_⟩⟩ (fun k hk=>.inl hk) (fun k hk hne=>setRow_other w g k _ fun e9=>hne (Own.at_sl.2 (by simp [Value.ownBlock,e9]))))
   ·rw [hsz];exact hfz
   ·rw [hsz];exact hcs
   ·show (ys++cur.toList.drop (n*sz)).take (n*sz)=ys
    rw [← hyl];exact List.take_left
  unfold c7
  have hel:(some (a2 (Value.slice (some ⟨g,0,none⟩) n cap) (j*sz)):Option Addr)=some ⟨g,j*sz,none⟩:=by show some (Addr.add _ _)=_;rw [Addr.add_lit,Nat.zero_add]
  rw [hel] at hx
  simp only [execOp,h.ev hx,h.ev hy,Instr.storeAt,Instr.sureAddr,Sem.run_bind,Sem.run_pure,Result.andThen_ok,hst]
end
theorem qi {l:List Mb} {j:Nat} (x:Mb) (hj:j<l.length):(ar l).take (j*33)++(av x).toList++(ar l).drop (j*33+33)=ar (l.set j x):=by
 have h1:(ar l).take (j*33)=ar (l.take j):=by unfold ar;rw [jx _ 33 cz]
 have h2:(ar l).drop (j*33+33)=ar (l.drop (j+1)):=by
  have:=congrArg (List.drop ((j+1)*33)) (dI (l.take (j+1)) (l.drop (j+1)))
  rw [List.take_append_drop,List.drop_left' (by rw [dS,List.length_take,Nat.min_eq_left (by omega)])] at this
  rw [← this];congr 1;omega
 rw [h1,h2,← cQ,← dI,← dI,List.set_eq_take_append_cons_drop,if_pos hj,List.append_assoc,List.singleton_append]
theorem pL (z:Array Value):(List.range z.size).map (fun i=>z[i]!)=z.toList:=by
 apply List.ext_getElem
 ·simp
 ·intro i h1 h2
  have h3:i<z.size:=by simpa using h1
  rw [List.getElem_map,List.getElem_range,getElem!_pos z i h3,Array.getElem_toList]
theorem tG (z:Array Value) (n:Nat):(madeCells z (n*z.size)).toList=(List.replicate n z.toList).flatten:=by
 unfold madeCells
 rw [Array.toList_map,Array.toList_range]
 induction n with
 |zero=>simp
 |succ n ih=>
  rw [Nat.succ_mul,List.range_add,List.map_append,ih,List.map_map,List.replicate_succ',List.flatten_append]
  congr 1
  have h9:(List.range z.size).map ((fun i=>z[i % z.size]!) ∘ fun i=>n*z.size+i)=(List.range z.size).map fun i=>z[i]! := by
   apply List.map_congr_left
   intro i hi
   have hi:=List.mem_range.1 hi
   show z[(n*z.size+i) % z.size]! = z[i]!
   rw [Nat.add_comm,Nat.add_mul_mod_self_right,Nat.mod_eq_of_lt hi]
  rw [h9,pL];simp
theorem zd (n:Nat):(madeCells (Value.agg (av aZ)).cells (n*33)).toList=ar (List.replicate n aZ):=by
 have h:=tG (av aZ) n
 rw [aj] at h
 refine h.trans ?_
 unfold ar
 rw [List.flatMap_def,List.map_replicate]
 rfl
def mo (l:List Mb) (m:Mb) (n k:Nat):List Mb:=iZ l m k++List.replicate (n - k) aZ
theorem l9 (l:List Mb) (m:Mb) {n k:Nat} (h:k≤n):(mo l m n k).length=n:=by
 unfold mo;rw [List.length_append,lC,List.length_replicate];omega
theorem tx (l:List Mb) (m:Mb) (n:Nat):mo l m n 0=List.replicate n aZ:=rfl
theorem vS (l:List Mb) (m:Mb) (n:Nat):mo l m n n=iZ l m n:=by unfold mo;simp
theorem sE (l:List Mb) (m:Mb) {n k:Nat} (h:k<n):(mo l m n k).set k (qo l m (k+1))=mo l m n (k+1):=by
 unfold mo
 obtain ⟨r,hr⟩:∃ r,n - k=r+1:=⟨n - k - 1,by omega⟩
 rw [hr,List.replicate_succ,List.set_append_right _ _ (by rw [lC];exact Nat.le_refl _),lC,Nat.sub_self,List.set_cons_zero,uQ,show n - (k+1)=r from by omega]
 simp
theorem sd (n:Int):∀ (es:List MapEntry) (i:Nat),(∀ e∈es,∃ m:Int,m≠n∧e.key=.int .i64 m)→Instr.findNow (.int .i64) (.int .i64 n) es i=some none
 |[],_,_=>rfl
 |e::es,i,h=>by
  obtain ⟨m,hm,he⟩:=h e List.mem_cons_self
  have ih:=sd n es (i+1) fun e9 h9=>h e9 (List.mem_cons_of_mem _ h9)
  unfold Instr.findNow
  have hs:Instr.sameNow (.int .i64) (.int .i64 n) (.int .i64 m)=some false:=by
   simp only [Instr.sameNow,if_true]
   congr 1
   rw [beq_eq_false_iff_ne];exact fun e9=>hm e9.symm
  rw [he]
  simp only [hs,ih]
section
variable {P:Program} {ops:Array Oper} {Q:Act→World→Prop} {l:List Oper} {a:Act} {w w0:World} {N:Nat} {L:List (Nat × Value)} {Df:List Deferred} {B:List Own} {d:Tmp} {ty:TypeId} {pos:String} {af:Array Edge} {x y z:Operand} {t kt et:TypeId}
end
theorem nM {l:List Mb} (h:Rg l) {m:Mb} (hm:m∈l):fA l m.1=0∧ek l m.1=m:=j5 ((kv l).2 h) (ri h hm)
theorem Bp {l:List Mb} (h:Rg l) {m:Mb} (hm:m∈l):sY l m.1=qy l m:=by rw [uT (nM h hm).1,(nM h hm).2]
theorem Bz {l:List Mb} (h:Rg l) {m:Mb} (hm:m∈l) {n:Nat} (hn:n≤16):kX l m.1 n=0∧mI l m.1 n=iZ l m n:=by
 have h1:kX l m.1 n=0:=(pE (by omega) (by omega)).trans (nM h hm).1
 exact ⟨h1,by rw [wm h1,(nM h hm).2,Int.toNat_natCast]⟩
theorem ld {w:World} {b:Nat} {M:TypeId} {vs:Value} {r r':List Mb} {e e':Int} (hr:r'=r) (he:e'=e) (o:cS w b M 33 vs r.length (ar r)):∃ v8,Value.tuple #[vs,.int .i64 e]=.tuple #[v8,.int .i64 e']∧cS w b M 33 v8 r'.length (ar r'):=by
 subst hr;subst he;exact ⟨vs,rfl,o⟩
theorem yU {l:List Mb} {no many:Int} {m:Nat} (hm:many=(m:Int)) (h:kX l no many=fA l no) (h0:fA l no=0):mI l no many=iZ l (ek l no) m:=by rw [wm (h.trans h0),hm,Int.toNat_natCast]
end Go.Proofs.YthggibfkgofncaaGreat
namespace Go.Proofs.YthggibfkgofncaaGreat
open Go.RowKit Go.ChangeShapes Go.WideShapes Go.ChangeAt
theorem fJ {H:Type} {enc:TypeId × Value→H} {P:Program} {w:World} {base:Nat} {spare:Nat→Bool} {held:Bool} {t tn ti e:TypeId} {f0 f1:Field} {fuel:Nat} {cs:List Value} {x:DataW H × List MemPlace} (T:IdTy P ti e) (hc:P.cellsOf ti=32) (hce:P.cellsOf e=1) (hn:P.underlying tn=some (.int .i64)) (hcn:P.cellsOf tn=1)
 (ht:P.underlying t=some (.struct #[f0,f1])) (h0:f0.type=tn) (h1:f1.type=ti) (o0:f0.offset=0) (o1:f1.offset=1) (hct:P.cellsOf t=33) (h:DataW.trod enc P w base spare held fuel t cs=some x):∃ l:Mb,cs=(av l).toList:=by
 obtain ⟨xs,n,rfl,_,hl,hxl,hel⟩:=DataW.trod_struct ht h
 rw [hct] at hl
 have hx2:xs.length=2:=by simpa using hxl
 have e0:=hel 0 f0 rfl
 have e1:=hel 1 f1 rfl
 rw [h0,o0,hcn,List.getElem?_eq_getElem (by omega)] at e0
 rw [h1,o1,hc,List.getElem?_eq_getElem (by omega)] at e1
 obtain ⟨k,hk,_⟩:=DataW.trod_int hn e0
 obtain ⟨a,ha⟩:=jS T hc hce e1
 refine ⟨(k,a),?_⟩
 rw [je,← ha]
 have hdrop:(cs.drop 1).take 32=cs.drop 1:=List.take_of_length_le (by rw [List.length_drop];omega)
 have hsplit:cs=(cs.drop 0).take 1++cs.drop 1:=by
  rw [List.drop_zero,List.take_append_drop]
 rw [hk] at hsplit
 rw [hdrop]
 exact hsplit
theorem Dl {H:Type} {enc:TypeId × Value→H} {P:Program} {W:World} {r:Reach} {b0:Nat} {t tn ti e:TypeId} {f0 f1:Field} {v:Value} {d:DataW H} {ps:List MemPlace} (T:IdTy P ti e) (hc:P.cellsOf ti=32) (hce:P.cellsOf e=1) (hn:P.underlying tn=some (.int .i64)) (hcn:P.cellsOf tn=1)
 (ht:P.underlying t=some (.struct #[f0,f1])) (h0:f0.type=tn) (h1:f1.type=ti) (o0:f0.offset=0) (o1:f1.offset=1) (hct:P.cellsOf t=33)
 (hval:Value.okWide P W r b0 t v) (h:DataW.Trod enc P W 0 (fun _=>true) true t v d ps):∃ l:Mb,v=.agg (av l):=by
 have hv:∃ cs,v=.agg cs:=by
  unfold Value.okWide at hval
  simp only [ht] at hval
  obtain ⟨cs,h9,_⟩:=hval
  exact ⟨cs,h9⟩
 obtain ⟨cs,rfl⟩:=hv
 obtain ⟨fuel,hf⟩:=h
 obtain ⟨l,hl⟩:=fJ T hc hce hn hcn ht h0 h1 o0 o1 hct hf
 refine ⟨l,?_⟩
 have:cs.toList=(av l).toList:=by simpa [Value.cells] using hl
 rw [Array.toList_inj.1 this]
theorem CW {H:Type} {enc:TypeId × Value→H} {P:Program} {W:World} {r:Reach} {b0:Nat} {ts t tn ti e:TypeId} {f0 f1:Field} {v:Value} {d:DataW H} {ps:List MemPlace} (T:IdTy P ti e) (hc:P.cellsOf ti=32) (hce:P.cellsOf e=1) (hn:P.underlying tn=some (.int .i64)) (hcn:P.cellsOf tn=1)
 (hts:P.underlying ts=some (.slice t)) (ht:P.underlying t=some (.struct #[f0,f1])) (h0:f0.type=tn) (h1:f1.type=ti) (o0:f0.offset=0) (o1:f1.offset=1) (hct:P.cellsOf t=33)
 (hval:Value.okWide P W r b0 ts v) (h:DataW.Trod enc P W 0 (fun _=>true) true ts v d ps):∃ ls:List Mb,bX W v 33 ls.length (ar ls):=by
 obtain ⟨a,n,c,rfl⟩:=okWide_slice hts hval
 obtain ⟨fuel,hf⟩:=h
 rcases Go.Deep.open_slice hts hf with ⟨hcs,_⟩|⟨a',len,cap,m,k,D,Pl,hcs,_,hl,_,hm,_,hel⟩
 ·have:Value.slice a n c=.slice none 0 0:=by simpa [Value.cells] using hcs
  exact ⟨[],rfl,.inl ⟨this,rfl⟩⟩
 ·have hv:Value.slice a n c=.slice (some a') len cap:=by simpa [Value.cells] using hcs
  have hml:len≤m:=by rw [hm];split<;>omega
  have each:∀ i,∃ l:Mb,i<len→aL W (a'.add (i*33)) (av l):=fun i=>by
   by_cases hi:i<len
   ·obtain ⟨cs',hc1,hc2⟩:=hel i (by omega)
    obtain ⟨l,rfl⟩:=fJ T hc hce hn hcn ht h0 h1 o0 o1 hct hc2
    refine ⟨l,fun _ j u hj=>?_⟩
    rw [hct] at hc1
    obtain ⟨_,hlen,hall⟩:=World.cells?_some hc1
    have hj33:j<33:=by have:=(Array.getElem?_eq_some_iff.1 hj).1;rw [aj] at this;exact this
    have:=hall j hj33
    rw [this,Array.getElem?_toList];exact hj
   ·exact ⟨aZ,fun h9=>absurd h9 hi⟩
  obtain ⟨L,hL⟩:=Classical.axiomOfChoice each
  refine ⟨(List.range len).map L,?_,.inr ⟨a',cap,by rw [hv];simp,by simpa using hl,?_⟩⟩
  ·rw [dS]
  ·refine ga _ 33 (by decide) cz _ fun i hi=>?_
   have hi':i<len:=by simpa using hi
   have h9:((List.range len).map L)[i]=L i:=by simp
   rw [h9]
   exact hL i hi'
end Go.Proofs.YthggibfkgofncaaGreat
namespace Go.Proofs.YthggibfkgofncaaGreat
open Go.RowKit
end Go.Proofs.YthggibfkgofncaaGreat
namespace Go.Proofs.YthggibfkgofncaaGreat
open Go.RowKit
section
variable {P:Program} {a:Act} {w w0:World} {N:Nat} {L:List (Nat × Value)} {B:List Own} {fn:Func} {T:cX} {R:Ending→World→Prop}
theorem tW {f:FuncId} {c:Code} {args:List Value} {n:Nat} (hf:P.funcs[f]? = some fn) (hb:fn.body=some c) (hn:fn.ntmps=n) (hs:Nat.ble args.length n=true) (L:List (Nat × Value)) (hL:∀ p∈L,args[p.1]? = some p.2)
 (h:∀ a,Sl n a L→c.wpIn (FR none) 0 P (bodyPostM (FR none) 0 P fn R) a w):Calls P f args.toArray w R:=by
 refine callsIn_wide.1 (callsIn_of_wp_marks (n:=0) hf hb trivial ?_)
 rw [hn]
 exact h _ (Sl.enter L (by simpa using hs) (by simpa using hL))
theorem ox {D:Nat} (j:Nat) (hres:fn.results=#[]) (h:Sl N a L [{target:=.collected D,args:=#[]}]) (s:St w0 B w)
 (hj:B[j]? = some (.blk D (.deferred (some [])))) (hR:∀ w',St w0 (B.set j (.blk D (.deferred none))) w'→R (.returned (.tuple #[])) w'):bodyPostM (FR none) 0 P fn R .normal a w:=by
 show LeavesInM (FR none) 0 P fn a.tmps R a.defers .returning w
 rw [h.defers]
 have s2:=s.putObj j hj (.deferred none)
 exact ⟨by simp,.inl ⟨D,_,rfl,run_takeDeferred (s.get j hj),_,results_none hres _ _ _,hR _ s2⟩⟩
end
theorem bX.elF {w:World} {v:Value} {sz n:Nat} {xs:List Value} (h:bX w v sz n xs) (j off m:Nat) (hj:j<n) (hz:0<sz) {C D:Array Value} (hC:((xs.drop (j*sz)).take sz).toArray=C) (hD:C.extract off (off+m)=D):aL w (a2 v (j*sz+off)) D:=by
 have h1:=(h.el j hj hz hC).sub off m hD
 obtain ⟨p,q,c,rfl⟩:=h.some (by omega)
 have e:(a2 (.slice (Option.some p) q c) (j*sz)).add off=a2 (.slice (Option.some p) q c) (j*sz+off):=iT _ _ _
 rwa [e] at h1
end Go.Proofs.YthggibfkgofncaaGreat
