/- Members on the ring: ways, members found; own slices that are set; members that come in; the closest of those that are known; no Go in it. -/
import Derived.Test.YthggibfkgofncaaGreatEm
set_option linter.unusedVariables false
set_option linter.unusedSimpArgs false
set_option linter.unusedSectionVars false
namespace Go.Proofs.YthggibfkgofncaaGreat
open Go.RowKit
def NN:Nat:=2 ^ 256
def fd (s x:Id):Nat:=(x - s).toNat
theorem jO (s x:Id):fd s x<NN:=(x - s).isLt
theorem pG (x:Id):x.toNat<NN:=x.isLt
theorem f4 (s x:Id):(s.toNat≤x.toNat∧fd s x+s.toNat=x.toNat)∨(x.toNat<s.toNat∧fd s x+s.toNat=NN+x.toNat):=by
 have h1:=pG s
 have h2:=pG x
 have h3:fd s x=(NN - s.toNat+x.toNat) % NN:=BitVec.toNat_sub ..
 by_cases h:s.toNat≤x.toNat
 ·refine .inl ⟨h,?_⟩
  have h4:NN - s.toNat+x.toNat=(x.toNat - s.toNat)+NN:=by omega
  rw [h3,h4,Nat.add_mod_right,Nat.mod_eq_of_lt (by omega)]
  omega
 ·refine .inr ⟨by omega,?_⟩
  rw [h3,Nat.mod_eq_of_lt (by omega)]
  omega
theorem gy (s:Id):fd s s=0:=by
 have h1:=jO s s
 have h2:=pG s
 rcases f4 s s with h|h<;>omega
theorem iW {s x y:Id} (h:fd s x=fd s y):x=y:=by
 have h1:=f4 s x
 have h2:=f4 s y
 have h3:=pG x
 have h4:=pG y
 exact BitVec.eq_of_toNat_eq (by omega)
theorem qR {s x:Id} (h:fd s x=0):x=s:=iW (h.trans (gy s).symm)
theorem Aq {s x y:Id} (h:x≠y):fd s x≠fd s y:=fun e=>h (iW e)
theorem jv (s a x:Id):(fd s a≤fd s x∧fd a x+fd s a=fd s x)∨(fd s x<fd s a∧fd a x+fd s a=NN+fd s x):=by
 have h1:=f4 s a
 have h2:=f4 s x
 have h3:=f4 a x
 have l1:=jO s a
 have l2:=jO s x
 have l3:=jO a x
 omega
theorem y7 (m:Id):fd m (m+gO 0)=1:=by
 unfold fd
 have h:m+gO 0 - m=gO 0:=Ac m 0
 rw [h]
 rfl
theorem kY (m x:Id):(x=m∧fd (m+gO 0) x+1=NN)∨(x≠m∧fd (m+gO 0) x+1=fd m x):=by
 have h1:=jv m (m+gO 0) x
 rw [y7] at h1
 by_cases h:x=m
 ·subst h
  rw [gy] at h1
  exact .inl ⟨rfl,by omega⟩
 ·have h2:fd m x≠0:=fun e=>h (qR e)
  exact .inr ⟨h,by omega⟩
theorem te (a b:Id):fk a b<0↔a.toNat<b.toNat:=by
 have:=iz a b
 rw [decide_eq_decide] at this
 exact this
theorem uY (a b:Id):0<fk a b↔b.toNat<a.toNat:=by
 unfold fk
 split
 ·omega
 ·split<;>omega
abbrev Mb:=Int × Id
def a8:Mb:=(0,0#256)
def d5:Mb:=(-1,0#256)
def iG (m:Mb):List Value:=.int .i64 m.1::(bq m.2).toList
def au (m:Mb):Array Value:=(iG m).toArray
theorem ct (m:Mb):(iG m).length=33:=by simp [iG]
theorem ak (m:Mb):(au m).size=33:=by simp [au,ct]
theorem gW (m:Mb):∀ v∈iG m,v.oneCell'=true:=fun v hv=>by
 rcases List.mem_cons.1 hv with rfl|hv
 ·simp [Value.oneCell',Value.cells]
 ·rw [fS] at hv;exact dm _ _ v hv
theorem bf (m:Mb):∀ v∈(au m).toList,v.oneCell'=true:=gW m
theorem aV (m:Mb):(au m)[0]? = some (.int .i64 m.1):=rfl
theorem cW (m:Mb):(au m).extract 1 (1+32)=bq m.2:=by
 apply Array.ext'
 rw [Array.toList_extract,List.extract_eq_take_drop]
 show (((iG m).drop 1).take 32)=_
 exact List.take_of_length_le (by rw [List.length_drop,ct];exact Nat.le_refl _)
theorem sH {x y:Mb} (h:(au x).toList=(au y).toList):x=y:=by
 have h':=Array.toList_inj.1 h
 have h0:=aV x;rw [h',aV] at h0
 have h2:=cW x;rw [h',cW] at h2
 simp at h0
 exact Prod.ext h0.symm (rQ h2).symm
theorem dE (x y:Mb):decide (x=y)=true↔(au x).toList=(au y).toList:=by
 rw [decide_eq_true_eq];exact ⟨fun h=>by rw [h],sH⟩
def av (l:List Mb):List Value:=l.flatMap iG
theorem es (l:List Mb):(av l).length=l.length*33:=eM _ 33 ct l
theorem dR (l r:List Mb):av (l++r)=av l++av r:=List.flatMap_append
theorem dx (x:Mb):av [x]=(au x).toList:=by simp [av,au]
theorem fe (l:List Mb):∀ u∈av l,u.oneCell'=true:=fun u hu=>by
 obtain ⟨x,_,hx⟩:=List.mem_flatMap.1 hu
 exact gW x u hx
theorem vB (l:List Mb) (j:Nat) (hj:j<l.length):(((av l).drop (j*33)).take 33).toArray=au l[j]:=by
 unfold av
 rw [hZ _ 33 ct l j hj];rfl
theorem eO {w:World} {v:Value} {l:List Mb} (h:bK w v 33 l.length (av l)) (k:Nat) (hk:k≤l.length):bK w (gb v k) 33 (l.take k).length (av (l.take k)):=by
 have:=h.cut k hk
 unfold av at this
 rw [ja _ 33 ct] at this
 rw [List.length_take,Nat.min_eq_left hk]
 exact this
theorem oq {l:List Mb} {j:Nat} (hj:j<l.length):l[j]=l.getD j a8:=by
 rw [List.getD_eq_getElem?_getD,List.getElem?_eq_getElem hj];rfl
theorem cK (l:List Mb) (j:Nat) (hj:j<l.length):(((av l).drop (j*33)).take 33).toArray=au (l.getD j a8):=by rw [vB l j hj,oq hj]
theorem fB {l:List Mb} {j:Nat} (hj:j<l.length):l.getD j a8∈l:=by rw [← oq hj];exact List.getElem_mem hj
theorem hQ {l:List Mb} {x:Mb} (h:x∈l):∃ j,j<l.length∧l.getD j a8=x:=by
 obtain ⟨j,hj,rfl⟩:=List.mem_iff_getElem.1 h
 exact ⟨j,hj,(oq hj).symm⟩
def gN (m x:Mb):Bool:=decide (x.1=m.1) || decide (x.2=m.2)
def ie (l:List Mb) (d:Nat):Bool:=decide ((l.getD d a8).1<0) || (decide (16≤(l.getD d a8).1) || (l.take d).any (gN (l.getD d a8)))
def cY (l:List Mb):Bool:=decide (l.length≤16) && (List.range l.length).all fun d => !ie l d
structure Rg (l:List Mb):Prop where
 len:l.length≤16
 nos:∀ m∈l,0≤m.1∧m.1<16
 nd:l.Pairwise fun a b=>a.1≠b.1∧a.2≠b.2
theorem gJ (l:List Mb):cY l=true↔l.length≤16∧∀ d,d<l.length→ie l d=false:=by
 unfold cY
 rw [Bool.and_eq_true,decide_eq_true_eq,List.all_eq_true]
 refine ⟨fun ⟨h1,h2⟩=>⟨h1,fun d hd=>?_⟩,fun ⟨h1,h2⟩=>⟨h1,fun d hd=>?_⟩⟩
 ·have:=h2 d (List.mem_range.2 hd);simpa using this
 ·rw [h2 d (List.mem_range.1 hd)];rfl
theorem dQ {l:List Mb} {d:Nat} (hd:d<l.length) (hb:ie l d=true):cY l=false:=by
 rw [← Bool.not_eq_true,gJ]
 rintro ⟨_,h⟩
 rw [h d hd] at hb;cases hb
theorem ku {l:List Mb} (h:¬ l.length≤16):cY l=false:=by
 rw [← Bool.not_eq_true,gJ]
 exact fun h9=>h h9.1
theorem kI {l:List Mb} (h0:l.length≤16) (h:∀ d,d<l.length→ie l d=false):cY l=true:=(gJ l).2 ⟨h0,h⟩
theorem l6 {l:List Mb} {d:Nat} (hd:d<l.length):ie l d=false↔(0≤l[d].1∧l[d].1<16)∧∀ j (hj:j<d),l[j].1≠l[d].1∧l[j].2≠l[d].2:=by
 unfold ie
 rw [← oq hd,Bool.or_eq_false_iff,Bool.or_eq_false_iff,decide_eq_false_iff_not,decide_eq_false_iff_not,List.any_eq_false]
 refine ⟨fun ⟨h1,h2,h3⟩=>⟨by omega,fun j hj=>?_⟩,fun ⟨h1,h2⟩=>⟨by omega,by omega,fun x hx=>?_⟩⟩
 ·have h4:=h3 l[j] (List.mem_iff_getElem.2 ⟨j,by rw [List.length_take];omega,by rw [List.getElem_take]⟩)
  unfold gN at h4
  simpa using h4
 ·obtain ⟨j,hj,rfl⟩:=List.mem_iff_getElem.1 hx
  rw [List.length_take] at hj
  rw [List.getElem_take]
  have:=h2 j (by omega)
  unfold gN
  simpa using this
theorem j3 (l:List Mb):cY l=true↔Rg l:=by
 rw [gJ]
 refine ⟨fun ⟨h1,h2⟩=>⟨h1,fun m hm=>?_,List.pairwise_iff_getElem.2 fun i j hi hj hij=>?_⟩,fun h=>⟨h.len,fun d hd=>(l6 hd).2 ⟨h.nos _ (List.getElem_mem hd),fun j hj=>List.pairwise_iff_getElem.1 h.nd j d (by omega) hd hj⟩⟩⟩
 ·obtain ⟨j,hj,rfl⟩:=List.mem_iff_getElem.1 hm
  exact((l6 hj).1 (h2 j hj)).1
 ·exact((l6 hj).1 (h2 j hj)).2 i hij
theorem yw {α:Type} {R:α→α→Prop} (hs:∀ a b,R a b→R b a) {l:List α} (h:l.Pairwise R) {x y:α} (hx:x∈l) (hy:y∈l) (hn:¬ R x y):x=y:=by
 obtain ⟨i,hi,rfl⟩:=List.mem_iff_getElem.1 hx
 obtain ⟨j,hj,rfl⟩:=List.mem_iff_getElem.1 hy
 rcases Nat.lt_trichotomy i j with h1|h1|h1
 ·exact absurd (List.pairwise_iff_getElem.1 h i j hi hj h1) hn
 ·subst h1;rfl
 ·exact absurd (hs _ _ (List.pairwise_iff_getElem.1 h j i hj hi h1)) hn
theorem Rg.no {l:List Mb} (h:Rg l) {x y:Mb} (hx:x∈l) (hy:y∈l) (e:x.1=y.1):x=y:=
 yw (fun _ _ h9=>⟨h9.1.symm,h9.2.symm⟩) h.nd hx hy fun h9=>h9.1 e
theorem Rg.id {l:List Mb} (h:Rg l) {x y:Mb} (hx:x∈l) (hy:y∈l) (e:x.2=y.2):x=y:=
 yw (fun _ _ h9=>⟨h9.1.symm,h9.2.symm⟩) h.nd hx hy fun h9=>h9.2 e
theorem Rg.sub {l r:List Mb} (h:Rg l) (hs:r.Sublist l):Rg r:=⟨Nat.le_trans hs.length_le h.len,fun m hm=>h.nos m (hs.subset hm),h.nd.sublist hs⟩
theorem Rg.fd {l:List Mb} (h:Rg l) {x y:Mb} (s:Id) (hx:x∈l) (hy:y∈l) (hn:x≠y):fd s x.2≠fd s y.2:=fun e=>hn (h.id hx hy (iW e))
def eF (f:Mb→Nat) (l:List Mb):Nat→Mb
 |0=>l.getD 0 a8
 |k+1=>bif decide (f (l.getD (k+1) a8)<f (eF f l k)) then l.getD (k+1) a8 else eF f l k
def gr (f:Mb→Nat) (l:List Mb):Nat→Mb
 |0=>l.getD 0 a8
 |k+1=>bif decide (f (gr f l k)<f (l.getD (k+1) a8)) then l.getD (k+1) a8 else gr f l k
theorem ke (f:Mb→Nat) (l:List Mb):∀ k,k<l.length→eF f l k∈l
 |0,h=>fB h
 |k+1,h=>by
  unfold eF
  cases decide (f (l.getD (k+1) a8)<f (eF f l k)) with
  |true=>exact fB h
  |false=>exact ke f l k (by omega)
theorem pu (f:Mb→Nat) (l:List Mb):∀ k,k<l.length→gr f l k∈l
 |0,h=>fB h
 |k+1,h=>by
  unfold gr
  cases decide (f (gr f l k)<f (l.getD (k+1) a8)) with
  |true=>exact fB h
  |false=>exact pu f l k (by omega)
theorem pJ (f:Mb→Nat) (l:List Mb):∀ k j,j≤k→f (eF f l k)≤f (l.getD j a8)
 |0,j,h=>by obtain rfl:j=0:=by omega
            exact Nat.le_refl _
 |k+1,j,h=>by
  unfold eF
  by_cases hj:j=k+1
  ·subst hj
   cases hd:decide (f (l.getD (k+1) a8)<f (eF f l k)) with
   |true=>exact Nat.le_refl _
   |false=>exact Nat.le_of_not_lt (of_decide_eq_false hd)
  ·have h1:=pJ f l k j (by omega)
   cases hd:decide (f (l.getD (k+1) a8)<f (eF f l k)) with
   |true=>exact Nat.le_trans (Nat.le_of_lt (of_decide_eq_true hd)) h1
   |false=>exact h1
theorem rh (f:Mb→Nat) (l:List Mb):∀ k j,j≤k→f (l.getD j a8)≤f (gr f l k)
 |0,j,h=>by obtain rfl:j=0:=by omega
            exact Nat.le_refl _
 |k+1,j,h=>by
  unfold gr
  by_cases hj:j=k+1
  ·subst hj
   cases hd:decide (f (gr f l k)<f (l.getD (k+1) a8)) with
   |true=>exact Nat.le_refl _
   |false=>exact Nat.le_of_not_lt (of_decide_eq_false hd)
  ·have h1:=rh f l k j (by omega)
   cases hd:decide (f (gr f l k)<f (l.getD (k+1) a8)) with
   |true=>exact Nat.le_trans h1 (Nat.le_of_lt (of_decide_eq_true hd))
   |false=>exact h1
def je (s:Id) (m:Mb):Nat:=fd s m.2
def sh (l:List Mb) (x:Id):Mb:=eF (je x) l (l.length - 1)
def ec (l:List Mb) (m:Mb):Mb:=gr (je m.2) l (l.length - 1)
def gz (l:List Mb) (m:Mb):Mb:=sh l (m.2+gO 0)
theorem rG {l:List Mb} (x:Id) (h:0<l.length):sh l x∈l:=ke _ l _ (by omega)
theorem tc {l:List Mb} (x:Id) {y:Mb} (hy:y∈l):fd x (sh l x).2≤fd x y.2:=by
 obtain ⟨j,hj,rfl⟩:=hQ hy
 exact pJ (je x) l _ j (by omega)
theorem eN {l:List Mb} {y:Mb} (hy:y∈l):0<l.length:=List.length_pos_iff.2 (List.ne_nil_of_mem hy)
theorem zz {l:List Mb} (h:Rg l) (x:Id) {o:Mb} (ho:o∈l) (hle:∀ y∈l,fd x o.2≤fd x y.2):sh l x=o:=by
 have h1:=rG x (eN ho)
 have h2:=tc x ho
 have h3:=hle _ h1
 exact h.id h1 ho (iW (s:=x) (by omega))
theorem nZ {l:List Mb} (m:Mb) (h:0<l.length):ec l m∈l:=pu _ l _ (by omega)
theorem uc {l:List Mb} (m:Mb) {y:Mb} (hy:y∈l):fd m.2 y.2≤fd m.2 (ec l m).2:=by
 obtain ⟨j,hj,rfl⟩:=hQ hy
 exact rh (je m.2) l _ j (by omega)
theorem y5 {l:List Mb} (h:Rg l) (m:Mb) {o:Mb} (ho:o∈l) (hle:∀ y∈l,fd m.2 y.2≤fd m.2 o.2):ec l m=o:=by
 have h1:=nZ m (eN ho)
 have h2:=uc m ho
 have h3:=hle _ h1
 exact h.id h1 ho (iW (s:=m.2) (by omega))
theorem sZ {l:List Mb} (h:Rg l) {m x:Mb} (hm:m∈l) (hx:x∈l) (hn:∀ y∈l,y≠m→x≠m∧fd m.2 x.2≤fd m.2 y.2):gz l m=x:=by
 refine zz h _ hx fun y hy=>?_
 have h1:=kY m.2 x.2
 have h2:=kY m.2 y.2
 have h3:=jO m.2 x.2
 by_cases hym:y=m
 ·subst hym
  rcases h2 with h2|h2
  ·have:=jO (y.2+gO 0) x.2;omega
  ·exact absurd rfl h2.1
 ·obtain ⟨h4,h5⟩:=hn y hy hym
  rcases h1 with h1|h1
  ·exact absurd (h.id hx hm h1.1) h4
  ·rcases h2 with h2|h2
   ·exact absurd (h.id hy hm h2.1) hym
   ·omega
theorem wB {l:List Mb} {m:Mb} (hm:m∈l):gz l m∈l:=rG _ (eN hm)
theorem zA {l:List Mb} (h:Rg l) {m y:Mb} (hm:m∈l) (hy:y∈l) (hn:y≠m):gz l m≠m∧fd m.2 (gz l m).2≤fd m.2 y.2:=by
 have h0:=tc (m.2+gO 0) hy
 have h1:=kY m.2 (gz l m).2
 have h2:=kY m.2 y.2
 have h3:=jO m.2 y.2
 change fd (m.2+gO 0) (gz l m).2≤_ at h0
 rcases h2 with h2|h2
 ·exact absurd (h.id hy hm h2.1) hn
 ·rcases h1 with h1|h1
  ·omega
  ·exact ⟨fun e=>h1.1 (by rw [e]),by omega⟩
theorem vN {l:List Mb} (h:Rg l) {m:Mb} (hm:m∈l):ec l (gz l m)=m:=by
 refine y5 h _ hm fun y hy=>?_
 by_cases hym:y=m
 ·subst hym;exact Nat.le_refl _
 ·obtain ⟨h1,h2⟩:=zA h hm hy hym
  have h3:=jv m.2 (gz l m).2 y.2
  have h4:=jv m.2 (gz l m).2 m.2
  rw [gy] at h4
  have h5:fd m.2 (gz l m).2≠0:=fun e=>h1 (h.id (wB hm) hm (qR e))
  have h6:=jO m.2 y.2
  omega
theorem xw {l:List Mb} (h:Rg l) {m:Mb} (hm:m∈l):gz l (ec l m)=m:=by
 have hb:=nZ m (eN hm)
 refine sZ h hb hm fun y hy hyb=>?_
 have h0:=uc m hy
 have h1:fd m.2 y.2≠fd m.2 (ec l m).2:=fun e=>hyb (h.id hy hb (iW e))
 refine ⟨fun e=>?_,?_⟩
 ·rw [← e] at h1
  rw [gy] at h1
  rw [← e,gy] at h0
  omega
 ·have h3:=jv m.2 (ec l m).2 y.2
  have h4:=jv m.2 (ec l m).2 m.2
  rw [gy] at h4
  omega
theorem zK {l:List Mb} (h:Rg l) {x m:Mb} (hx:x∈l) (e:gz l x=m):ec l m=x:=by rw [← e];exact vN h hx
end Go.Proofs.YthggibfkgofncaaGreat
namespace Go.Proofs.YthggibfkgofncaaGreat
open Go.RowKit
theorem iY (m:Mb):(au m).toList=Value.int .i64 m.1::(bq m.2).toList:=rfl
theorem om:au a8=(Value.int .i64 0::List.replicate 32 (Value.int .u8 0)).toArray:=by
 unfold au iG a8;rw [iV];rfl
theorem o3 (m:Mb):((au m).toList.drop 0).take 1=[Value.int .i64 m.1]:=rfl
theorem oQ (m:Mb):((au m).toList.drop 1).take 32=(dq (bE m.2) 32).toList:=by
 rw [iY,List.drop_succ_cons,List.drop_zero,List.take_of_length_le (by simp),fS]
def Bk:List (List Value):=[[.int .i64 0],List.replicate 32 (.int .u8 0)]
section
variable {P:Program} {ρ:Operand→Value} {d:Option Tmp} {ty:TypeId} {pos:String} {af:Array Edge} {g:Option (Nat × Bool)} {x y:Operand} {t:TypeId}
theorem gp (S:Stt P t Bk):bR P ⟨d,.build t #[],ty,pos,af,g⟩ ρ (.agg (au a8)):=by
 have:=eu (P:=P) (ρ:=ρ) (d:=d) (ty:=ty) (pos:=pos) (af:=af) (g:=g) (parts:=#[]) S [] (by simp) (fun i v hm=>by simp at hm) (D:=(au a8).toList) (by rw [om];rfl)
 simpa using this
theorem dz {q:Int} (S:Stt P t Bk) (hx:ρ x=.int .i64 q):bR P ⟨d,.build t #[(0,x)],ty,pos,af,g⟩ ρ (.agg (au (q,0#256))):=by
 have:=eu (P:=P) (ρ:=ρ) (d:=d) (ty:=ty) (pos:=pos) (af:=af) (g:=g) (parts:=#[(0,x)]) S [(0,.int .i64 q)] (by simp [hx]) (fun i v hm=>by simp at hm;rcases hm with ⟨rfl,rfl⟩;exact ⟨_,rfl,rfl⟩) (D:=(au (q,0#256)).toList) (by rw [iY,iV];rfl)
 simpa using this
end
theorem gU (m:Mb):∀ v∈([.agg (au m)]:List Value),v.cells.size=33:=fun v hv=>by
 rw [List.mem_singleton] at hv;subst hv;exact ak m
theorem eh (m:Mb):([Value.agg (au m)].flatMap fun v=>v.cells.toList)=(au m).toList:=by simp [Value.cells]
theorem jD (l:List Mb) (x:Mb):av l++(au x).toList=av (l++[x]):=by rw [dR,dx]
theorem wu {l:List Mb} {p:Mb→Bool} {r:Int} (hr:(r = -1∧∀ x∈l,p x=false)∨∃ k:Nat,∃ hk:k<l.length,r=(k:Int)∧p l[k]=true):decide (0≤r)=l.any p:=by
 rcases hr with ⟨rfl,h⟩|⟨k,hk,rfl,h⟩
 ·symm
  refine(List.any_eq_false.2 fun x hx=>?_).trans (by decide)
  rw [h x hx];decide
 ·rw [decide_eq_true (by omega)]
  exact(List.any_eq_true.2 ⟨_,List.getElem_mem hk,h⟩).symm
theorem tA {l:List Mb} {d:Nat} (h:decide ((l.getD d a8).1<0)=true):ie l d=true:=by unfold ie;rw [h];rfl
theorem vD {l:List Mb} {d:Nat} (h:decide (16≤(l.getD d a8).1)=true):ie l d=true:=by unfold ie;rw [h];simp
theorem lD {l:List Mb} {d:Nat} (h0:decide ((l.getD d a8).1<0)=false) (h1:decide (16≤(l.getD d a8).1)=false):ie l d=(l.take d).any (gN (l.getD d a8)):=by unfold ie;rw [h0,h1];rfl
theorem pi {l:List Mb} {d:Nat} {p:Mb→Bool} (hd:d≤l.length) (h:∀ j,j<d→p (l.getD j a8)=false):(l.take d).any p=false:=by
 rw [List.any_eq_false]
 intro x hx
 obtain ⟨j,hj,rfl⟩:=List.mem_iff_getElem.1 hx
 rw [List.length_take] at hj
 rw [List.getElem_take,oq (by omega),h j (by omega)];decide
theorem km {l:List Mb} {d j:Nat} {p:Mb→Bool} (hd:d≤l.length) (hj:j<d) (h:p (l.getD j a8)=true):(l.take d).any p=true:=
 List.any_eq_true.2 ⟨l.getD j a8,List.mem_iff_getElem.2 ⟨j,by rw [List.length_take];omega,by rw [List.getElem_take,oq (by omega)]⟩,h⟩
def dW (l:List Mb) (no:Int):Option Mb:=l.find? fun m=>decide (m.1=no)
theorem ld {l:List Mb} {no:Int} {k:Nat} (hk:k<l.length) (h:∀ j,j<k→decide ((l.getD j a8).1=no)=false) (he:decide ((l.getD k a8).1=no)=true):dW l no=some (l.getD k a8):=by
 unfold dW
 rw [List.find?_eq_some_iff_getElem]
 refine ⟨he,k,hk,oq hk,fun j hj=>?_⟩
 rw [oq (by omega),h j hj];rfl
theorem k4 {l:List Mb} {no:Int} {k:Nat} (hk:l.length≤k) (h:∀ j,j<k→decide ((l.getD j a8).1=no)=false):dW l no=none:=by
 unfold dW
 rw [List.find?_eq_none]
 intro x hx
 obtain ⟨j,hj,rfl⟩:=hQ hx
 rw [h j (by omega)];decide
theorem lM {l:List Mb} {no:Int} {m:Mb} (h:dW l no=some m):m∈l∧m.1=no:=by
 refine ⟨List.mem_of_find?_eq_some h,?_⟩
 have:=List.find?_some h
 exact of_decide_eq_true this
theorem rp {l:List Mb} (h:Rg l) {m:Mb} (hm:m∈l):dW l m.1=some m:=by
 cases hf:dW l m.1 with
 |none=>
  unfold dW at hf
  have:=List.find?_eq_none.1 hf m hm
  simp at this
 |some x=>
  obtain ⟨h1,h2⟩:=lM hf
  rw [h.no h1 hm h2]
theorem xF {l:List Mb} {no:Int}:dW l no=none∨∃ m,dW l no=some m∧m∈l∧m.1=no:=by
 cases h:dW l no with
 |none=>exact .inl rfl
 |some m=>exact .inr ⟨m,rfl,lM h⟩
def fl (l:List Mb) (no:Int):Int:=bif cY l then (match dW l no with|some _=>0|none=>6) else 1
def dX (l:List Mb) (no:Int):Mb:=bif cY l then (dW l no).getD a8 else a8
def fm (l:List Mb) (no:Int):Mb:=(dW l no).getD d5
theorem ob {l:List Mb} (no:Int) (h:cY l=false):fl l no=1∧dX l no=a8:=by unfold fl dX;rw [h];exact ⟨rfl,rfl⟩
theorem jN {l:List Mb} {no:Int} {m:Mb} (h:cY l=true) (hf:dW l no=some m):fl l no=0∧dX l no=m:=by unfold fl dX;rw [h,hf];exact ⟨rfl,rfl⟩
theorem lx {l:List Mb} {no:Int} (h:cY l=true) (hf:dW l no=none):fl l no=6∧dX l no=a8:=by unfold fl dX;rw [h,hf];exact ⟨rfl,rfl⟩
theorem we (l:List Mb) (no:Int):(cY l=false∧fl l no=1∧dX l no=a8)∨(cY l=true∧dW l no=none∧fl l no=6∧dX l no=a8)∨(cY l=true∧dW l no=some (dX l no)∧fl l no=0∧dX l no∈l∧(dX l no).1=no):=by
 cases h:cY l with
 |false=>exact .inl ⟨rfl,ob no h⟩
 |true=>
  cases hf:dW l no with
  |none=>exact .inr (.inl ⟨rfl,rfl,lx h hf⟩)
  |some m=>
   obtain ⟨h1,h2⟩:=jN h hf
   obtain ⟨h3,h4⟩:=lM hf
   exact .inr (.inr ⟨rfl,by rw [h2],h1,by rw [h2];exact h3,by rw [h2];exact h4⟩)
theorem sT {l:List Mb} {no:Int} (h:fl l no=0):cY l=true∧Rg l∧dW l no=some (dX l no)∧dX l no∈l∧(dX l no).1=no:=by
 rcases we l no with h9|h9|h9
 ·omega
 ·omega
 ·exact ⟨h9.1,(j3 l).1 h9.1,h9.2.1,h9.2.2.2⟩
def fK (l:List Mb) (x:Id):Nat→Mb
 |0=>d5
 |k+1=>eF (je x) l k
theorem tE {l:List Mb} {x:Id} (h0:¬ l.length=0):fK l x l.length=sh l x:=by
 obtain ⟨k,hk⟩:∃ k,l.length=k+1:=⟨l.length - 1,by omega⟩
 unfold sh
 rw [hk];rfl
theorem ue {f:Mb→Nat} {l:List Mb} {k:Nat} (h:f (l.getD (k+1) a8)<f (eF f l k)):eF f l (k+1)=l.getD (k+1) a8:=by
 show (bif _ then _ else _)=_;rw [decide_eq_true h];rfl
theorem wy {f:Mb→Nat} {l:List Mb} {k:Nat} (h:¬ f (l.getD (k+1) a8)<f (eF f l k)):eF f l (k+1)=eF f l k:=by
 show (bif _ then _ else _)=_;rw [decide_eq_false h];rfl
theorem xx {f:Mb→Nat} {l:List Mb} {k:Nat} (h:f (gr f l k)<f (l.getD (k+1) a8)):gr f l (k+1)=l.getD (k+1) a8:=by
 show (bif _ then _ else _)=_;rw [decide_eq_true h];rfl
theorem zo {f:Mb→Nat} {l:List Mb} {k:Nat} (h:¬ f (gr f l k)<f (l.getD (k+1) a8)):gr f l (k+1)=gr f l k:=by
 show (bif _ then _ else _)=_;rw [decide_eq_false h];rfl
theorem rD (s x y:Id):decide (fk (x - s) (y - s)<0)=decide (fd s x<fd s y):=decide_eq_decide.2 (te _ _)
theorem wQ (s x y:Id):decide (0<fk (x - s) (y - s))=decide (fd s y<fd s x):=decide_eq_decide.2 (uY _ _)
theorem uF:(d5.1<0):=by decide
theorem tq {l:List Mb} (hn:∀ m∈l,0≤m.1) (f:Mb→Nat) {k:Nat} (hk:k<l.length):0≤(eF f l k).1:=hn _ (ke f l k hk)
def rW (l:List Mb) (no:Int):Mb:=bif decide (fl l no=0) then ec l (dX l no) else a8
theorem tt {l:List Mb} {no:Int} (h:fl l no=0):rW l no=ec l (dX l no):=by unfold rW;rw [decide_eq_true h];rfl
theorem zj {l:List Mb} {no:Int} (h:¬ fl l no=0):rW l no=a8:=by unfold rW;rw [decide_eq_false h];rfl
def mt (l:List Mb) (m:Mb):Nat→Mb
 |0=>m
 |k+1=>gz l (mt l m k)
def dV (l:List Mb) (m:Mb) (k:Nat):List Mb:=(List.range k).map fun i=>mt l m (i+1)
theorem fL (l:List Mb) (m:Mb) (k:Nat):(dV l m k).length=k:=by simp [dV]
theorem l9 (l:List Mb) (m:Mb) (k:Nat):dV l m (k+1)=dV l m k++[mt l m (k+1)]:=by simp [dV,List.range_succ]
def ei (s:Id) (l:List Mb):List Mb:=l.mergeSort fun x y=>decide (fd s x.2≤fd s y.2)
theorem vM (s:Id):ei s []=[]:=by unfold ei;rw [List.mergeSort_nil]
theorem eZ (s:Id) (l:List Mb):(ei s l).Perm l:=List.mergeSort_perm _ _
theorem gC (s:Id) (l:List Mb):(ei s l).length=l.length:=(eZ s l).length_eq
theorem lQ (s:Id) (l:List Mb):(ei s l).Pairwise fun x y=>fd s x.2≤fd s y.2:=by
 have:=List.pairwise_mergeSort (le:=fun x y:Mb=>decide (fd s x.2≤fd s y.2)) (fun a b c h1 h2=>decide_eq_true (Nat.le_trans (of_decide_eq_true h1) (of_decide_eq_true h2))) (fun a b=>by
  by_cases h:fd s a.2≤fd s b.2
  ·simp [h]
  ·simp [h];omega) l
 exact this.imp fun h=>of_decide_eq_true h
theorem yY {l:List Mb} (h:Rg l) (s:Id):Rg (ei s l):=
 ⟨by rw [gC];exact h.len,fun m hm=>h.nos m ((eZ s l).mem_iff.1 hm),h.nd.perm (eZ s l).symm fun h9=>⟨h9.1.symm,h9.2.symm⟩⟩
theorem zb {l r:List Mb} (h:Rg l) (s:Id) (hp:r.Perm l) (hs:r.Pairwise fun x y=>fd s x.2≤fd s y.2):r=ei s l:=by
 refine List.Perm.eq_of_pairwise (le:=fun x y:Mb=>fd s x.2≤fd s y.2) (fun a b ha hb h1 h2=>?_) hs (lQ s l) (hp.trans (eZ s l).symm)
 exact h.id (hp.mem_iff.1 ha) ((eZ s l).mem_iff.1 hb) (iW (s:=s) (by omega))
theorem vj {l:List Mb} (h:Rg l) (s:Id) {i j:Nat} (hij:i<j) (hj:j<l.length):fd s ((ei s l).getD i a8).2<fd s ((ei s l).getD j a8).2:=by
 have hl:=gC s l
 have h1:=List.pairwise_iff_getElem.1 (lQ s l) i j (by omega) (by omega) hij
 have h2:=List.pairwise_iff_getElem.1 (yY h s).nd i j (by omega) (by omega) hij
 rw [oq (by omega),oq (by omega)] at h1 h2
 have h3:=Aq (s:=s) h2.2
 omega
theorem tS {l:List Mb} (h:Rg l) (s:Id) {i:Nat} (hi:i<l.length):gz l ((ei s l).getD i a8)=(ei s l).getD ((i+1) % l.length) a8:=by
 have hl:=gC s l
 have hmem:∀ j,j<l.length→(ei s l).getD j a8∈l:=fun j hj=>(eZ s l).mem_iff.1 (fB (by omega))
 have hmod:=Nat.mod_lt (i+1) (show 0<l.length by omega)
 refine sZ h (hmem i hi) (hmem _ hmod) fun y hy hne=>?_
 obtain ⟨j,hj,rfl⟩:=hQ ((eZ s l).mem_iff.2 hy)
 have hji:j≠i:=fun e=>hne (by rw [e])
 have hjl:j<l.length:=by omega
 have hx:∀ p q,p<l.length→q<l.length→p<q→fd s ((ei s l).getD p a8).2<fd s ((ei s l).getD q a8).2:=fun p q _ hq hpq=>vj h s hpq hq
 by_cases hlast:i+1<l.length
 ·rw [Nat.mod_eq_of_lt hlast]
  have h1:=hx i (i+1) hi hlast (by omega)
  refine ⟨fun e=>by rw [e] at h1;omega,?_⟩
  have k1:=jv s ((ei s l).getD i a8).2 ((ei s l).getD (i+1) a8).2
  have k2:=jv s ((ei s l).getD i a8).2 ((ei s l).getD j a8).2
  have k3:=jO s ((ei s l).getD (i+1) a8).2
  rcases Nat.lt_or_gt_of_ne hji with hlt|hgt
  ·have h2:=hx j i hjl hi hlt
   omega
  ·by_cases hj1:j=i+1
   ·subst hj1;exact Nat.le_refl _
   ·have h2:=hx (i+1) j hlast hjl (by omega)
    omega
 ·have hil:i+1=l.length:=by omega
  rw [hil,Nat.mod_self]
  have hj0:j<i:=by omega
  have h1:=hx 0 i (by omega) hi (by omega)
  refine ⟨fun e=>by rw [e] at h1;omega,?_⟩
  have k1:=jv s ((ei s l).getD i a8).2 ((ei s l).getD 0 a8).2
  have k2:=jv s ((ei s l).getD i a8).2 ((ei s l).getD j a8).2
  have h2:=hx j i hjl hi hj0
  by_cases hj00:j=0
  ·subst hj00;exact Nat.le_refl _
  ·have h3:=hx 0 j (by omega) hjl (by omega)
   omega
theorem tv {l:List Mb} (h:Rg l) {m:Mb} (hm:m∈l):(ei m.2 l).getD 0 a8=m:=by
 obtain ⟨j,hj,he⟩:=hQ ((eZ m.2 l).mem_iff.2 hm)
 by_cases h0:j=0
 ·subst h0;exact he
 ·have:=vj h m.2 (i:=0) (j:=j) (by omega) (by rw [← gC m.2 l];exact hj)
  rw [he,gy] at this
  omega
theorem pI {l:List Mb} (h:Rg l) {m:Mb} (hm:m∈l):∀ k,(ei m.2 l).getD (k % l.length) a8=mt l m k
 |0=>by rw [Nat.zero_mod];exact tv h hm
 |k+1=>by
  have hp:=eN hm
  show _=gz l (mt l m k)
  rw [← pI h hm k,tS h m.2 (Nat.mod_lt _ hp),Nat.mod_add_mod]
def kU (l:List Mb) (no many:Int):Int:=bif decide (many<0) || decide (16<many) then 1 else fl l no
def mB (l:List Mb) (no many:Int):List Mb:=bif decide (kU l no many=0) then dV l (dX l no) many.toNat else []
theorem lf {l:List Mb} {no many:Int} (h:many<0∨16<many):kU l no many=1∧mB l no many=[]:=by
 have h1:kU l no many=1:=by unfold kU;rcases h with h|h<;>simp [h]
 exact ⟨h1,by unfold mB;rw [h1];rfl⟩
theorem pD {l:List Mb} {no many:Int} (h0:0≤many) (h1:many≤16):kU l no many=fl l no:=by
 unfold kU;rw [decide_eq_false (by omega),decide_eq_false (by omega)];rfl
theorem wd {l:List Mb} {no many:Int} (h:¬ kU l no many=0):mB l no many=[]:=by unfold mB;rw [decide_eq_false h];rfl
theorem uj {l:List Mb} {no many:Int} (h:kU l no many=0):mB l no many=dV l (dX l no) many.toNat:=by unfold mB;rw [decide_eq_true h];rfl
section
variable {P:Program} {ops:List Oper} {K:Act→World→Prop} {l:List Oper} {a:Act} {w:World} {N:Nat} {L:List (Nat × Value)} {Df:List Deferred} {d:Tmp} {ty:TypeId} {pos:String} {af:Array Edge}
theorem nF {f:FuncId} {caps:List Value} {cal:Operand} {args:Array Operand} {tys:Array TypeId} (vs:List Value) {X:Value} (h:Sl N a L Df) (hf:Fnc P f) (hc:fb L cal=some (.func (.func f) #[] caps.toArray))
 (hC:∀ w',Ext w w'→Calls P f (vs++caps).toArray w' (cT w' (is X))) (hvs:args.toList.map (fb L)=vs.map some) (hd:Nat.blt d N=true)
 (k:∀ a',Sl N a' ((d,X)::L) Df→jW P ops.toArray K w l a'):
 jW P ops.toArray K w (⟨some d,.call {callee:=.value cal,args:=args,argTypes:=tys},ty,pos,af,none⟩::l) a:=
 jf X h (fun w' hE=>lI hf (h.ev hc) (mx h hvs) (by rw [show vs.toArray++caps.toArray=(vs++caps).toArray from by simp];exact hC w' hE)) hd k
end
section
variable {P:Program} {a:Act} {w w0:World} {N:Nat} {L:List (Nat × Value)} {B:List Own} {fn:Func}
theorem ph {T:cQ} {t:Tmp} {V:Value} {D:Nat} (j:Nat) (hres:fn.results=#[.tmp t]) (h:Sl N a L [{target:=.collected D,args:=#[]}]) (s:St w0 B w) (hv:lk L t=some V)
 (hj:B[j]? = some (.blk D (.deferred (some [])))) (hT:∀ w',St w0 (B.set j (.blk D (.deferred none))) w'→T V w'):bodyPostM (FR none) 0 P fn (cT w0 T) .ret a w:=by
 show LeavesInM (FR none) 0 P fn a.tmps (cT w0 T) a.defers .returning w
 rw [h.defers]
 have s2:=s.putObj j hj (.deferred none)
 exact ⟨by simp,.inl ⟨D,_,rfl,run_takeDeferred (s.get j hj),V,by rw [results_tmp hres,h.holds t V hv],V,rfl,hT _ s2,s2.ext⟩⟩
end
theorem mV (a:Id):(bq a).extract 0 (0+32)=bq a:=by
 apply Array.ext'
 rw [Array.toList_extract,List.extract_eq_take_drop,List.drop_zero,Nat.zero_add,Nat.sub_zero]
 exact List.take_of_length_le (by simp)
theorem tH (l:List Mb) {j k:Nat} (hj:j<k) (hk:k≤l.length):(((av (l.take k)).drop (j*33)).take 33).toArray=au (l.getD j a8):=by
 rw [vB (l.take k) j (by rw [List.length_take];omega),List.getElem_take,oq (by omega)]
theorem qp {l:List Mb} (h:∀ d,d<l.length→ie l d=false):cY l=decide (l.length≤16):=by
 by_cases h0:l.length≤16
 ·rw [kI h0 h,decide_eq_true h0]
 ·rw [ku h0,decide_eq_false h0]
theorem qU {m x:Mb} (h:decide (x.1=m.1)=true):gN m x=true:=by unfold gN;rw [h];rfl
theorem nN {m x:Mb} (h:decide (x.1=m.1)=false):gN m x=decide (x.2=m.2):=by unfold gN;rw [h];rfl
theorem sS {l:List Mb} {x:Id} {k:Nat} (hn:∀ m∈l,0≤m.1) (hk:k<l.length) (h:(fK l x k).1<0):fK l x (k+1)=l.getD k a8:=by
 cases k with
 |zero=>rfl
 |succ k=>have:=tq hn (je x) (k:=k) (by omega);change (eF (je x) l k).1<0 at h;omega
theorem u0 {l:List Mb} {x:Id} {k:Nat} (h:¬ (fK l x k).1<0) (hc:fd x (l.getD k a8).2<fd x (fK l x k).2):fK l x (k+1)=l.getD k a8:=by
 cases k with
 |zero=>exact absurd uF h
 |succ k=>exact ue (f:=je x) hc
theorem xt {l:List Mb} {x:Id} {k:Nat} (h:¬ (fK l x k).1<0) (hc:¬ fd x (l.getD k a8).2<fd x (fK l x k).2):fK l x (k+1)=fK l x k:=by
 cases k with
 |zero=>exact absurd uF h
 |succ k=>exact wy (f:=je x) hc
theorem yh {l:List Mb} {d:Nat} (hd:d<l.length):l.take (d+1)=l.take d++[l.getD d a8]:=by rw [List.take_succ_eq_append_getElem hd,oq hd]
theorem pt {l r:List Mb} {k:Nat} (h:∀ j,j<k→l.getD j a8=r.getD j a8) (he:l.getD k a8=r.getD k a8):∀ j,j<k+1→l.getD j a8=r.getD j a8:=fun j hj=>by
 by_cases h1:j<k
 ·exact h j h1
 ·obtain rfl:j=k:=by omega
  exact he
theorem qY {l r:List Mb} (hl:l.length=r.length) (h:∀ j,j<l.length→l.getD j a8=r.getD j a8):l=r:=by
 apply List.ext_getElem hl
 intro i h1 h2
 rw [oq h1,oq h2,h i h1]
end Go.Proofs.YthggibfkgofncaaGreat
namespace Go.Proofs.YthggibfkgofncaaGreat
open Go.RowKit
section
variable {P:Program} {ops:Array Oper} {Q:Act→World→Prop} {l:List Oper} {a:Act} {w w0:World} {N:Nat} {L:List (Nat × Value)} {Df:List Deferred} {B:List Own} {d:Tmp} {ty:TypeId} {pos:String} {af:Array Edge} {x y:Operand} {t e:TypeId}
theorem rS {sz by_ n:Nat} {m:Int} {z:Value} {xs:List Value} (h:Sl N a L Df) (s:St w0 B w) (ht:P.underlying t=some (.slice e)) (E:Elm P e sz by_) (hz:(P.info? e).bind (·.zero)=some z) (hx:fb L x=some (.int .i64 m)) (hy:fb L y=some (.int .i64 m)) (hm:m=(n:Int)) (hb:by_*n≤281474976710656) (hn:n≤maxLen)
 (hxs:(madeCells z.cells (n*sz)).toList=xs) (hl:xs.length=n*sz) (hd:Nat.blt d N=true)
 (k:∀ a' w' v',Sl N a' ((d,v')::L) Df→St w0 (.sl v' e sz n xs::B) w'→cJ P ops Q l a' w'):cJ P ops Q (⟨some d,.makeSlice t x y,ty,pos,af,none⟩::l) a w:=by
 subst hm
 obtain ⟨i,z',h1,h2,h3,h4,h5⟩:=E.info
 have hzz:z'=z:=by rw [h1] at hz;simp only [Option.bind_some] at hz;exact Option.some.inj (h2.symm.trans hz)
 subst hzz
 have hmx:maxLen≤9223372036854775807:=by unfold maxLen;omega
 have hr:=run_make (P:=P) w t e i _ ht h1 h2 .i64 .i64 (n:Int) (n:Int) (by omega) (Int.le_refl _) (by rw [h4];omega) (by omega)
 simp only [Int.toNat_natCast,h3] at hr
 refine dy h (R:=fun v w'=>v=.slice (some ⟨w.heap.size,0,none⟩) n n∧w'=w.alloc (.cells (madeCells z'.cells (n*sz)) e)) ?_ hd fun a' w' v ⟨hv,hw⟩ h'=>by
  subst hv;subst hw
  refine k _ _ _ h' (s.plus ((Ext.refl w).alloc _) _ ⟨hl,.inr ⟨w.heap.size,n,_,(0,0),rfl,s.ext.le,heap_alloc_new w _,.inl rfl,Nat.le_refl _,hn,?_,?_⟩⟩ fun k hk=>?_)
  ·rw [← Array.length_toList,hxs,hl]
  ·rw [hxs,← hl,List.take_length]
  ·rw [Own.at_sl] at hk;simp [Value.ownBlock] at hk;omega
 simp [cX,execOp,h.ev hx,h.ev hy,hr,Result.andThen]
theorem jo {v:Value} {sz n:Nat} {xs ys:List Value} {D:Array Value} (i j:Nat) (h:Sl N a L Df) (s:St w0 B w) (hr:Row P t sz) (hx:fb L x=some (.pointer (some (bs v (j*sz))))) (hy:fb L y=some (.agg D)) (hi:B[i]? = some (.sl v e sz n xs)) (hD:D.size=sz) (hj:j<n) (hv:∀ u∈D.toList,u.oneCell'=true)
 (hys:xs.take (j*sz)++D.toList++xs.drop (j*sz+sz)=ys)
 (k:∀ w',St w0 (B.set i (.sl v e sz n ys)) w'→cJ P ops Q l a w'):cJ P ops Q (⟨none,.store t x y,ty,pos,af,none⟩::l) a w:=by
 have ho:=s.getSl i hi
 rcases ho.2 with ⟨_,h0⟩|⟨g,cap,cur,fz,rfl,hb,hg,hfz,hnc,hcm,hcs,htk⟩
 ·omega
 ·have hle:j*sz+sz≤n*sz:=by
   have:=Nat.mul_le_mul_right sz (show j+1≤n from hj)
   rwa [Nat.add_mul,Nat.one_mul] at this
  have hcl:n*sz≤cur.size:=by rw [hcs];exact Nat.mul_le_mul_right _ hnc
  have hxl:xs.length=n*sz:=ho.1
  have hcx:cur.toList=xs++cur.toList.drop (n*sz):=by rw [← htk];exact(List.take_append_drop _ _).symm
  have hyl:ys.length=n*sz:=by
   rw [← hys];simp only [List.length_append,List.length_take,List.length_drop,Array.length_toList];omega
  have hnew:cur.toList.take (j*sz)++D.toList++cur.toList.drop (j*sz+D.size)=ys++cur.toList.drop (n*sz):=by
   rw [← hys,hD]
   conv=>lhs;rw [hcx]
   rw [List.take_append_of_le_length (by omega),List.drop_append_of_le_length (by omega)]
   simp only [List.append_assoc]
  have hst:(storeVar t ⟨g,j*sz,none⟩ (.agg D)).run P w=.ok () (w.setRow g (ys++cur.toList.drop (n*sz)).toArray):=by
   have hs:(sizeOf t).run P w=.ok D.size w:=by
    cases hq:P.info? t with
    |none=>have:=hr.size;simp [hq] at this
    |some i=>have:=hr.size;simp [hq] at this;simp [sizeOf,typeInfo,Sem.run_bind,hq,this,hD]
   have:=dA P g (j*sz) e fz D.toList 0 cur w hg hfz (by rw [Array.length_toList];omega) hv
   simp only [Nat.add_zero,Array.length_toList] at this
   rw [hnew] at this
   simp [storeVar,Sem.run_bind,hs,Value.cells,this]
  have hsz:(ys++cur.toList.drop (n*sz)).toArray.size=cur.size:=by
   rw [List.size_toArray,List.length_append,List.length_drop,hyl];have:=Array.length_toList (xs:=cur);omega
  refine lg (R:=fun _ w'=>w'=w.setRow g (ys++cur.toList.drop (n*sz)).toArray) ?_ fun w' _ hw=>by
   subst hw
   refine k _ (s.upd i hi (p':=.sl _ e sz n ys) rfl rfl rfl (by simp) ⟨hyl,.inr ⟨g,cap,_,fz,rfl,hb,setRow_heap w g cur _ e fz hg,?_,hnc,hcm,?_,?_⟩⟩ (fun k hk=>.inl hk) (fun k hk hne=>setRow_other w g k _ fun e9=>hne (Own.at_sl.2 (by simp [Value.ownBlock,e9]))))
   ·rw [hsz];exact hfz
   ·rw [hsz];exact hcs
   ·show (ys++cur.toList.drop (n*sz)).take (n*sz)=ys
    rw [← hyl];exact List.take_left
  unfold cX
  have hel:(some (bs (Value.slice (some ⟨g,0,none⟩) n cap) (j*sz)):Option Addr)=some ⟨g,j*sz,none⟩:=by show some (Addr.add _ _)=_;rw [Addr.add_lit,Nat.zero_add]
  rw [hel] at hx
  simp only [execOp,h.ev hx,h.ev hy,Instr.storeAt,Instr.sureAddr,Sem.run_bind,Sem.run_pure,Result.andThen_ok,hst]
end
theorem ut {l:List Mb} {j:Nat} (x:Mb) (hj:j<l.length):(av l).take (j*33)++(au x).toList++(av l).drop (j*33+33)=av (l.set j x):=by
 have h1:(av l).take (j*33)=av (l.take j):=by unfold av;rw [ja _ 33 ct]
 have h2:(av l).drop (j*33+33)=av (l.drop (j+1)):=by
  have:=congrArg (List.drop ((j+1)*33)) (dR (l.take (j+1)) (l.drop (j+1)))
  rw [List.take_append_drop,List.drop_left' (by rw [es,List.length_take,Nat.min_eq_left (by omega)])] at this
  rw [← this];congr 1;omega
 rw [h1,h2,← dx,← dR,← dR,List.set_eq_take_append_cons_drop,if_pos hj,List.append_assoc,List.singleton_append]
theorem pM (z:Array Value):(List.range z.size).map (fun i=>z[i]!)=z.toList:=by
 apply List.ext_getElem
 ·simp
 ·intro i h1 h2
  have h3:i<z.size:=by simpa using h1
  rw [List.getElem_map,List.getElem_range,getElem!_pos z i h3,Array.getElem_toList]
theorem r5 (z:Array Value) (n:Nat):(madeCells z (n*z.size)).toList=(List.replicate n z.toList).flatten:=by
 unfold madeCells
 rw [Array.toList_map,Array.toList_range]
 induction n with
 |zero=>simp
 |succ n ih=>
  rw [Nat.succ_mul,List.range_add,List.map_append,ih,List.map_map,List.replicate_succ',List.flatten_append]
  congr 1
  have h9:(List.range z.size).map ((fun i=>z[i % z.size]!) ∘ fun i=>n*z.size+i)=(List.range z.size).map fun i=>z[i]! := by
   apply List.map_congr_left
   intro i hi
   have hi:=List.mem_range.1 hi
   show z[(n*z.size+i) % z.size]! = z[i]!
   rw [Nat.add_comm,Nat.add_mul_mod_self_right,Nat.mod_eq_of_lt hi]
  rw [h9,pM];simp
theorem xg (n:Nat):(madeCells (Value.agg (au a8)).cells (n*33)).toList=av (List.replicate n a8):=by
 have h:=r5 (au a8) n
 rw [ak] at h
 refine h.trans ?_
 unfold av
 rw [List.flatMap_def,List.map_replicate]
 rfl
def lZ (l:List Mb) (m:Mb) (n k:Nat):List Mb:=dV l m k++List.replicate (n - k) a8
theorem mc (l:List Mb) (m:Mb) {n k:Nat} (h:k≤n):(lZ l m n k).length=n:=by
 unfold lZ;rw [List.length_append,fL,List.length_replicate];omega
theorem sE (l:List Mb) (m:Mb) (n:Nat):lZ l m n 0=List.replicate n a8:=rfl
theorem ul (l:List Mb) (m:Mb) (n:Nat):lZ l m n n=dV l m n:=by unfold lZ;simp
theorem sA (l:List Mb) (m:Mb) {n k:Nat} (h:k<n):(lZ l m n k).set k (mt l m (k+1))=lZ l m n (k+1):=by
 unfold lZ
 obtain ⟨r,hr⟩:∃ r,n - k=r+1:=⟨n - k - 1,by omega⟩
 rw [hr,List.replicate_succ,List.set_append_right _ _ (by rw [fL];exact Nat.le_refl _),fL,Nat.sub_self,List.set_cons_zero,l9,show n - (k+1)=r from by omega]
 simp
section
variable {P:Program} {ops:Array Oper} {Q:Act→World→Prop} {l:List Oper} {a:Act} {w w0:World} {N:Nat} {L:List (Nat × Value)} {Df:List Deferred} {B:List Own} {d:Tmp} {ty:TypeId} {pos:String} {af:Array Edge} {x y z:Operand} {t kt et:TypeId}
end
theorem nT {l:List Mb} (h:Rg l) {m:Mb} (hm:m∈l):fl l m.1=0∧dX l m.1=m:=jN ((j3 l).2 h) (rp h hm)
theorem y3 {l:List Mb} (h:Rg l) {m:Mb} (hm:m∈l):rW l m.1=ec l m:=by rw [tt (nT h hm).1,(nT h hm).2]
theorem yG {l:List Mb} (h:Rg l) {m:Mb} (hm:m∈l) {n:Nat} (hn:n≤16):kU l m.1 n=0∧mB l m.1 n=dV l m n:=by
 have h1:kU l m.1 n=0:=(pD (by omega) (by omega)).trans (nT h hm).1
 exact ⟨h1,by rw [uj h1,(nT h hm).2,Int.toNat_natCast]⟩
theorem li {w:World} {b:Nat} {M:TypeId} {vs:Value} {r r':List Mb} {e e':Int} (hr:r'=r) (he:e'=e) (o:cN w b M 33 vs r.length (av r)):∃ v8,Value.tuple #[vs,.int .i64 e]=.tuple #[v8,.int .i64 e']∧cN w b M 33 v8 r'.length (av r'):=by
 subst hr;subst he;exact ⟨vs,rfl,o⟩
theorem xb {l:List Mb} {no many:Int} {m:Nat} (hm:many=(m:Int)) (h:kU l no many=fl l no) (h0:fl l no=0):mB l no many=dV l (dX l no) m:=by rw [uj (h.trans h0),hm,Int.toNat_natCast]
end Go.Proofs.YthggibfkgofncaaGreat
namespace Go.Proofs.YthggibfkgofncaaGreat
open Go.RowKit Go.ChangeShapes Go.WideShapes Go.ChangeAt
theorem fC {H:Type} {enc:TypeId × Value→H} {P:Program} {w:World} {base:Nat} {spare:Nat→Bool} {held:Bool} {t tn ti e:TypeId} {f0 f1:Field} {fuel:Nat} {cs:List Value} {x:DataW H × List MemPlace} (T:IdTy P ti e) (hc:P.cellsOf ti=32) (hce:P.cellsOf e=1) (hn:P.underlying tn=some (.int .i64)) (hcn:P.cellsOf tn=1)
 (ht:P.underlying t=some (.struct #[f0,f1])) (h0:f0.type=tn) (h1:f1.type=ti) (o0:f0.offset=0) (o1:f1.offset=1) (hct:P.cellsOf t=33) (h:DataW.trod enc P w base spare held fuel t cs=some x):∃ l:Mb,cs=(au l).toList:=by
 obtain ⟨xs,n,rfl,_,hl,hxl,hel⟩:=DataW.trod_struct ht h
 rw [hct] at hl
 have hx2:xs.length=2:=by simpa using hxl
 have e0:=hel 0 f0 rfl
 have e1:=hel 1 f1 rfl
 rw [h0,o0,hcn,List.getElem?_eq_getElem (by omega)] at e0
 rw [h1,o1,hc,List.getElem?_eq_getElem (by omega)] at e1
 obtain ⟨k,hk,_⟩:=DataW.trod_int hn e0
 obtain ⟨a,ha⟩:=jR T hc hce e1
 refine ⟨(k,a),?_⟩
 rw [iY,← ha]
 have hdrop:(cs.drop 1).take 32=cs.drop 1:=List.take_of_length_le (by rw [List.length_drop];omega)
 have hsplit:cs=(cs.drop 0).take 1++cs.drop 1:=by
  rw [List.drop_zero,List.take_append_drop]
 rw [hk] at hsplit
 rw [hdrop]
 exact hsplit
theorem wS {H:Type} {enc:TypeId × Value→H} {P:Program} {W:World} {r:Reach} {b0:Nat} {t tn ti e:TypeId} {f0 f1:Field} {v:Value} {d:DataW H} {ps:List MemPlace} (T:IdTy P ti e) (hc:P.cellsOf ti=32) (hce:P.cellsOf e=1) (hn:P.underlying tn=some (.int .i64)) (hcn:P.cellsOf tn=1)
 (ht:P.underlying t=some (.struct #[f0,f1])) (h0:f0.type=tn) (h1:f1.type=ti) (o0:f0.offset=0) (o1:f1.offset=1) (hct:P.cellsOf t=33)
 (hval:Value.okWide P W r b0 t v) (h:DataW.Trod enc P W 0 (fun _=>true) true t v d ps):∃ l:Mb,v=.agg (au l):=by
 have hv:∃ cs,v=.agg cs:=by
  unfold Value.okWide at hval
  simp only [ht] at hval
  obtain ⟨cs,h9,_⟩:=hval
  exact ⟨cs,h9⟩
 obtain ⟨cs,rfl⟩:=hv
 obtain ⟨fuel,hf⟩:=h
 obtain ⟨l,hl⟩:=fC T hc hce hn hcn ht h0 h1 o0 o1 hct hf
 refine ⟨l,?_⟩
 have:cs.toList=(au l).toList:=by simpa [Value.cells] using hl
 rw [Array.toList_inj.1 this]
theorem AY {H:Type} {enc:TypeId × Value→H} {P:Program} {W:World} {r:Reach} {b0:Nat} {ts t tn ti e:TypeId} {f0 f1:Field} {v:Value} {d:DataW H} {ps:List MemPlace} (T:IdTy P ti e) (hc:P.cellsOf ti=32) (hce:P.cellsOf e=1) (hn:P.underlying tn=some (.int .i64)) (hcn:P.cellsOf tn=1)
 (hts:P.underlying ts=some (.slice t)) (ht:P.underlying t=some (.struct #[f0,f1])) (h0:f0.type=tn) (h1:f1.type=ti) (o0:f0.offset=0) (o1:f1.offset=1) (hct:P.cellsOf t=33)
 (hval:Value.okWide P W r b0 ts v) (h:DataW.Trod enc P W 0 (fun _=>true) true ts v d ps):∃ ls:List Mb,bK W v 33 ls.length (av ls):=by
 obtain ⟨a,n,c,rfl⟩:=okWide_slice hts hval
 obtain ⟨fuel,hf⟩:=h
 rcases Go.Deep.open_slice hts hf with ⟨hcs,_⟩|⟨a',len,cap,m,k,D,Pl,hcs,_,hl,_,hm,_,hel⟩
 ·have:Value.slice a n c=.slice none 0 0:=by simpa [Value.cells] using hcs
  exact ⟨[],rfl,.inl ⟨this,rfl⟩⟩
 ·have hv:Value.slice a n c=.slice (some a') len cap:=by simpa [Value.cells] using hcs
  have hml:len≤m:=by rw [hm];split<;>omega
  have each:∀ i,∃ l:Mb,i<len→bc W (a'.add (i*33)) (au l):=fun i=>by
   by_cases hi:i<len
   ·obtain ⟨cs',hc1,hc2⟩:=hel i (by omega)
    obtain ⟨l,rfl⟩:=fC T hc hce hn hcn ht h0 h1 o0 o1 hct hc2
    refine ⟨l,fun _ j u hj=>?_⟩
    rw [hct] at hc1
    obtain ⟨_,hlen,hall⟩:=World.cells?_some hc1
    have hj33:j<33:=by have:=(Array.getElem?_eq_some_iff.1 hj).1;rw [ak] at this;exact this
    have:=hall j hj33
    rw [this,Array.getElem?_toList];exact hj
   ·exact ⟨a8,fun h9=>absurd h9 hi⟩
  obtain ⟨L,hL⟩:=Classical.axiomOfChoice each
  refine ⟨(List.range len).map L,?_,.inr ⟨a',cap,by rw [hv];simp,by simpa using hl,?_⟩⟩
  ·rw [es]
  ·refine gl _ 33 (by decide) ct _ fun i hi=>?_
   have hi':i<len:=by simpa using hi
   have h9:((List.range len).map L)[i]=L i:=by simp
   rw [h9]
   exact hL i hi'
end Go.Proofs.YthggibfkgofncaaGreat
namespace Go.Proofs.YthggibfkgofncaaGreat
open Go.RowKit
def zy (s9 t9:Id) (x:Mb):Bool:=decide (x.2≠t9) && (decide (x.2≠s9) && sO x.2 s9 t9)
theorem AJ {s9 t9:Id} {x:Mb} (h:decide (x.2≠t9)=false):zy s9 t9 x=false:=by unfold zy;rw [h];rfl
theorem An {s9 t9:Id} {x:Mb} (h:decide (x.2≠s9)=false):zy s9 t9 x=false:=by unfold zy;rw [h,Bool.false_and,Bool.and_false]
theorem AH {s9 t9:Id} {x:Mb} (h0:decide (x.2≠t9)=true) (h1:decide (x.2≠s9)=true):zy s9 t9 x=sO x.2 s9 t9:=by unfold zy;rw [h0,h1];rfl
end Go.Proofs.YthggibfkgofncaaGreat
namespace Go.Proofs.YthggibfkgofncaaGreat
open Go.RowKit
section
variable {P:Program} {a:Act} {w w0:World} {N:Nat} {L:List (Nat × Value)} {B:List Own} {fn:Func} {T:cQ} {R:Ending→World→Prop}
end
theorem bK.elF {w:World} {v:Value} {sz n:Nat} {xs:List Value} (h:bK w v sz n xs) (j off m:Nat) (hj:j<n) (hz:0<sz) {C D:Array Value} (hC:((xs.drop (j*sz)).take sz).toArray=C) (hD:C.extract off (off+m)=D):bc w (bs v (j*sz+off)) D:=by
 have h1:=(h.el j hj hz hC).sub off m hD
 obtain ⟨p,q,c,rfl⟩:=h.some (by omega)
 have e:(bs (.slice (Option.some p) q c) (j*sz)).add off=bs (.slice (Option.some p) q c) (j*sz+off):=iw _ _ _
 rwa [e] at h1
end Go.Proofs.YthggibfkgofncaaGreat
