/- Members on the ring: ways, members found; own slices that are set; members that come in; the closest of those that are known; no Go in it. -/
import Derived.Test.YthggibfkgofncaaGreatEm
set_option linter.unusedVariables false
set_option linter.unusedSimpArgs false
set_option linter.unusedSectionVars false
namespace Go.Proofs.YthggibfkgofncaaGreat
open Go.RowKit
def NN:Nat:=2 ^ 256
def fd (s x:Id):Nat:=(x - s).toNat
theorem mW (s x:Id):fd s x<NN:=(x - s).isLt
theorem p4 (x:Id):x.toNat<NN:=x.isLt
theorem gz (s x:Id):(s.toNat≤x.toNat∧fd s x+s.toNat=x.toNat)∨(x.toNat<s.toNat∧fd s x+s.toNat=NN+x.toNat):=by
 have h1:=p4 s
 have h2:=p4 x
 have h3:fd s x=(NN - s.toNat+x.toNat) % NN:=BitVec.toNat_sub ..
 by_cases h:s.toNat≤x.toNat
 ·refine .inl ⟨h,?_⟩
  have h4:NN - s.toNat+x.toNat=(x.toNat - s.toNat)+NN:=by omega
  rw [h3,h4,Nat.add_mod_right,Nat.mod_eq_of_lt (by omega)]
  omega
 ·refine .inr ⟨by omega,?_⟩
  rw [h3,Nat.mod_eq_of_lt (by omega)]
  omega
theorem oT (s:Id):fd s s=0:=by
 have h1:=mW s s
 have h2:=p4 s
 rcases gz s s with h|h<;>omega
theorem mm {s x y:Id} (h:fd s x=fd s y):x=y:=by
 have h1:=gz s x
 have h2:=gz s y
 have h3:=p4 x
 have h4:=p4 y
 exact BitVec.eq_of_toNat_eq (by omega)
theorem zZ {s x:Id} (h:fd s x=0):x=s:=mm (h.trans (oT s).symm)
theorem C6 {s x y:Id} (h:x≠y):fd s x≠fd s y:=fun e=>h (mm e)
theorem qZ (s a x:Id):(fd s a≤fd s x∧fd a x+fd s a=fd s x)∨(fd s x<fd s a∧fd a x+fd s a=NN+fd s x):=by
 have h1:=gz s a
 have h2:=gz s x
 have h3:=gz a x
 have l1:=mW s a
 have l2:=mW s x
 have l3:=mW a x
 omega
theorem BR (m:Id):fd m (m+mp 0)=1:=by
 unfold fd
 have h:m+mp 0 - m=mp 0:=DN m 0
 rw [h]
 rfl
theorem sS (m x:Id):(x=m∧fd (m+mp 0) x+1=NN)∨(x≠m∧fd (m+mp 0) x+1=fd m x):=by
 have h1:=qZ m (m+mp 0) x
 rw [BR] at h1
 by_cases h:x=m
 ·subst h
  rw [oT] at h1
  exact .inl ⟨rfl,by omega⟩
 ·have h2:fd m x≠0:=fun e=>h (zZ e)
  exact .inr ⟨h,by omega⟩
theorem wI (a b:Id):fJ a b<0↔a.toNat<b.toNat:=by
 have:=iU a b
 rw [decide_eq_decide] at this
 exact this
theorem xp (a b:Id):0<fJ a b↔b.toNat<a.toNat:=by
 unfold fJ
 split
 ·omega
 ·split<;>omega
abbrev Mb:=Int × Id
def aT:Mb:=(0,0#256)
def de:Mb:=(-1,0#256)
def iV (m:Mb):List Value:=.int .i64 m.1::(bA m.2).toList
def aw (m:Mb):Array Value:=(iV m).toArray
theorem cF (m:Mb):(iV m).length=33:=by simp [iV]
theorem ak (m:Mb):(aw m).size=33:=by simp [aw,cF]
theorem iq (m:Mb):∀ v∈iV m,v.oneCell'=true:=fun v hv=>by
 rcases List.mem_cons.1 hv with rfl|hv
 ·simp [Value.oneCell',Value.cells]
 ·rw [lF] at hv;exact k6 _ _ v hv
theorem aS (m:Mb):∀ v∈(aw m).toList,v.oneCell'=true:=iq m
theorem aP (m:Mb):(aw m)[0]? = some (.int .i64 m.1):=rfl
theorem cj (m:Mb):(aw m).extract 1 (1+32)=bA m.2:=by
 apply Array.ext'
 rw [Array.toList_extract,List.extract_eq_take_drop]
 show (((iV m).drop 1).take 32)=_
 exact List.take_of_length_le (by rw [List.length_drop,cF];exact Nat.le_refl _)
theorem ug {x y:Mb} (h:(aw x).toList=(aw y).toList):x=y:=by
 have h':=Array.toList_inj.1 h
 have h0:=aP x;rw [h',aP] at h0
 have h2:=cj x;rw [h',cj] at h2
 simp at h0
 exact Prod.ext h0.symm (uc h2).symm
theorem ee (x y:Mb):decide (x=y)=true↔(aw x).toList=(aw y).toList:=by
 rw [decide_eq_true_eq];exact ⟨fun h=>by rw [h],ug⟩
def ap (l:List Mb):List Value:=l.flatMap iV
theorem eu (l:List Mb):(ap l).length=l.length*33:=gC _ 33 cF l
theorem dz (l r:List Mb):ap (l++r)=ap l++ap r:=List.flatMap_append
theorem cM (x:Mb):ap [x]=(aw x).toList:=by simp [ap,aw]
theorem eG (l:List Mb):∀ u∈ap l,u.oneCell'=true:=fun u hu=>by
 obtain ⟨x,_,hx⟩:=List.mem_flatMap.1 hu
 exact iq x u hx
theorem th (l:List Mb) (j:Nat) (hj:j<l.length):(((ap l).drop (j*33)).take 33).toArray=aw l[j]:=by
 unfold ap
 rw [iF _ 33 cF l j hj];rfl
theorem fp {w:World} {v:Value} {l:List Mb} (h:bq w v 33 l.length (ap l)) (k:Nat) (hk:k≤l.length):bq w (gr v k) 33 (l.take k).length (ap (l.take k)):=by
 have:=h.cut k hk
 unfold ap at this
 rw [jl _ 33 cF] at this
 rw [List.length_take,Nat.min_eq_left hk]
 exact this
theorem nB {l:List Mb} {j:Nat} (hj:j<l.length):l[j]=l.getD j aT:=by
 rw [List.getD_eq_getElem?_getD,List.getElem?_eq_getElem hj];rfl
theorem cL (l:List Mb) (j:Nat) (hj:j<l.length):(((ap l).drop (j*33)).take 33).toArray=aw (l.getD j aT):=by rw [th l j hj,nB hj]
theorem eA {l:List Mb} {j:Nat} (hj:j<l.length):l.getD j aT∈l:=by rw [← nB hj];exact List.getElem_mem hj
theorem jN {l:List Mb} {x:Mb} (h:x∈l):∃ j,j<l.length∧l.getD j aT=x:=by
 obtain ⟨j,hj,rfl⟩:=List.mem_iff_getElem.1 h
 exact ⟨j,hj,(nB hj).symm⟩
def g6 (m x:Mb):Bool:=decide (x.1=m.1) || decide (x.2=m.2)
def ip (l:List Mb) (d:Nat):Bool:=decide ((l.getD d aT).1<0) || (decide (16≤(l.getD d aT).1) || (l.take d).any (g6 (l.getD d aT)))
def dc (l:List Mb):Bool:=decide (l.length≤16) && (List.range l.length).all fun d => !ip l d
structure Rg (l:List Mb):Prop where
 len:l.length≤16
 nos:∀ m∈l,0≤m.1∧m.1<16
 nd:l.Pairwise fun a b=>a.1≠b.1∧a.2≠b.2
theorem gE (l:List Mb):dc l=true↔l.length≤16∧∀ d,d<l.length→ip l d=false:=by
 unfold dc
 rw [Bool.and_eq_true,decide_eq_true_eq,List.all_eq_true]
 refine ⟨fun ⟨h1,h2⟩=>⟨h1,fun d hd=>?_⟩,fun ⟨h1,h2⟩=>⟨h1,fun d hd=>?_⟩⟩
 ·have:=h2 d (List.mem_range.2 hd);simpa using this
 ·rw [h2 d (List.mem_range.1 hd)];rfl
theorem ez {l:List Mb} {d:Nat} (hd:d<l.length) (hb:ip l d=true):dc l=false:=by
 rw [← Bool.not_eq_true,gE]
 rintro ⟨_,h⟩
 rw [h d hd] at hb;cases hb
theorem kZ {l:List Mb} (h:¬ l.length≤16):dc l=false:=by
 rw [← Bool.not_eq_true,gE]
 exact fun h9=>h h9.1
theorem kY {l:List Mb} (h0:l.length≤16) (h:∀ d,d<l.length→ip l d=false):dc l=true:=(gE l).2 ⟨h0,h⟩
theorem mX {l:List Mb} {d:Nat} (hd:d<l.length):ip l d=false↔(0≤l[d].1∧l[d].1<16)∧∀ j (hj:j<d),l[j].1≠l[d].1∧l[j].2≠l[d].2:=by
 unfold ip
 rw [← nB hd,Bool.or_eq_false_iff,Bool.or_eq_false_iff,decide_eq_false_iff_not,decide_eq_false_iff_not,List.any_eq_false]
 refine ⟨fun ⟨h1,h2,h3⟩=>⟨by omega,fun j hj=>?_⟩,fun ⟨h1,h2⟩=>⟨by omega,by omega,fun x hx=>?_⟩⟩
 ·have h4:=h3 l[j] (List.mem_iff_getElem.2 ⟨j,by rw [List.length_take];omega,by rw [List.getElem_take]⟩)
  unfold g6 at h4
  simpa using h4
 ·obtain ⟨j,hj,rfl⟩:=List.mem_iff_getElem.1 hx
  rw [List.length_take] at hj
  rw [List.getElem_take]
  have:=h2 j (by omega)
  unfold g6
  simpa using this
theorem kz (l:List Mb):dc l=true↔Rg l:=by
 rw [gE]
 refine ⟨fun ⟨h1,h2⟩=>⟨h1,fun m hm=>?_,List.pairwise_iff_getElem.2 fun i j hi hj hij=>?_⟩,fun h=>⟨h.len,fun d hd=>(mX hd).2 ⟨h.nos _ (List.getElem_mem hd),fun j hj=>List.pairwise_iff_getElem.1 h.nd j d (by omega) hd hj⟩⟩⟩
 ·obtain ⟨j,hj,rfl⟩:=List.mem_iff_getElem.1 hm
  exact((mX hj).1 (h2 j hj)).1
 ·exact((mX hj).1 (h2 j hj)).2 i hij
theorem AI {α:Type} {R:α→α→Prop} (hs:∀ a b,R a b→R b a) {l:List α} (h:l.Pairwise R) {x y:α} (hx:x∈l) (hy:y∈l) (hn:¬ R x y):x=y:=by
 obtain ⟨i,hi,rfl⟩:=List.mem_iff_getElem.1 hx
 obtain ⟨j,hj,rfl⟩:=List.mem_iff_getElem.1 hy
 rcases Nat.lt_trichotomy i j with h1|h1|h1
 ·exact absurd (List.pairwise_iff_getElem.1 h i j hi hj h1) hn
 ·subst h1;rfl
 ·exact absurd (hs _ _ (List.pairwise_iff_getElem.1 h j i hj hi h1)) hn
theorem Rg.no {l:List Mb} (h:Rg l) {x y:Mb} (hx:x∈l) (hy:y∈l) (e:x.1=y.1):x=y:=
 AI (fun _ _ h9=>⟨h9.1.symm,h9.2.symm⟩) h.nd hx hy fun h9=>h9.1 e
theorem Rg.id {l:List Mb} (h:Rg l) {x y:Mb} (hx:x∈l) (hy:y∈l) (e:x.2=y.2):x=y:=
 AI (fun _ _ h9=>⟨h9.1.symm,h9.2.symm⟩) h.nd hx hy fun h9=>h9.2 e
theorem Rg.sub {l r:List Mb} (h:Rg l) (hs:r.Sublist l):Rg r:=⟨Nat.le_trans hs.length_le h.len,fun m hm=>h.nos m (hs.subset hm),h.nd.sublist hs⟩
theorem Rg.fd {l:List Mb} (h:Rg l) {x y:Mb} (s:Id) (hx:x∈l) (hy:y∈l) (hn:x≠y):fd s x.2≠fd s y.2:=fun e=>hn (h.id hx hy (mm e))
def jf (f:Mb→Nat) (l:List Mb):Nat→Mb
 |0=>l.getD 0 aT
 |k+1=>bif decide (f (l.getD (k+1) aT)<f (jf f l k)) then l.getD (k+1) aT else jf f l k
def lV (f:Mb→Nat) (l:List Mb):Nat→Mb
 |0=>l.getD 0 aT
 |k+1=>bif decide (f (lV f l k)<f (l.getD (k+1) aT)) then l.getD (k+1) aT else lV f l k
theorem nM (f:Mb→Nat) (l:List Mb):∀ k,k<l.length→jf f l k∈l
 |0,h=>eA h
 |k+1,h=>by
  unfold jf
  cases decide (f (l.getD (k+1) aT)<f (jf f l k)) with
  |true=>exact eA h
  |false=>exact nM f l k (by omega)
theorem p7 (f:Mb→Nat) (l:List Mb):∀ k j,j≤k→f (jf f l k)≤f (l.getD j aT)
 |0,j,h=>by obtain rfl:j=0:=by omega
            exact Nat.le_refl _
 |k+1,j,h=>by
  unfold jf
  by_cases hj:j=k+1
  ·subst hj
   cases hd:decide (f (l.getD (k+1) aT)<f (jf f l k)) with
   |true=>exact Nat.le_refl _
   |false=>exact Nat.le_of_not_lt (of_decide_eq_false hd)
  ·have h1:=p7 f l k j (by omega)
   cases hd:decide (f (l.getD (k+1) aT)<f (jf f l k)) with
   |true=>exact Nat.le_trans (Nat.le_of_lt (of_decide_eq_true hd)) h1
   |false=>exact h1
def oI (s:Id) (m:Mb):Nat:=fd s m.2
def yT (l:List Mb) (x:Id):Mb:=jf (oI x) l (l.length - 1)
def rl (l:List Mb) (m:Mb):Mb:=lV (oI m.2) l (l.length - 1)
def yP (l:List Mb) (m:Mb):Mb:=yT l (m.2+mp 0)
theorem zP {l:List Mb} (x:Id) (h:0<l.length):yT l x∈l:=nM _ l _ (by omega)
theorem Cn {l:List Mb} (x:Id) {y:Mb} (hy:y∈l):fd x (yT l x).2≤fd x y.2:=by
 obtain ⟨j,hj,rfl⟩:=jN hy
 exact p7 (oI x) l _ j (by omega)
theorem jS {l:List Mb} {y:Mb} (hy:y∈l):0<l.length:=List.length_pos_iff.2 (List.ne_nil_of_mem hy)
theorem BB {l:List Mb} (h:Rg l) (x:Id) {o:Mb} (ho:o∈l) (hle:∀ y∈l,fd x o.2≤fd x y.2):yT l x=o:=by
 have h1:=zP x (jS ho)
 have h2:=Cn x ho
 have h3:=hle _ h1
 exact h.id h1 ho (mm (s:=x) (by omega))
theorem BG {l:List Mb} (h:Rg l) {m x:Mb} (hm:m∈l) (hx:x∈l) (hn:∀ y∈l,y≠m→x≠m∧fd m.2 x.2≤fd m.2 y.2):yP l m=x:=by
 refine BB h _ hx fun y hy=>?_
 have h1:=sS m.2 x.2
 have h2:=sS m.2 y.2
 have h3:=mW m.2 x.2
 by_cases hym:y=m
 ·subst hym
  rcases h2 with h2|h2
  ·have:=mW (y.2+mp 0) x.2;omega
  ·exact absurd rfl h2.1
 ·obtain ⟨h4,h5⟩:=hn y hy hym
  rcases h1 with h1|h1
  ·exact absurd (h.id hx hm h1.1) h4
  ·rcases h2 with h2|h2
   ·exact absurd (h.id hy hm h2.1) hym
   ·omega
end Go.Proofs.YthggibfkgofncaaGreat
namespace Go.Proofs.YthggibfkgofncaaGreat
open Go.RowKit
theorem jD (m:Mb):(aw m).toList=Value.int .i64 m.1::(bA m.2).toList:=rfl
theorem oL:aw aT=(Value.int .i64 0::List.replicate 32 (Value.int .u8 0)).toArray:=by
 unfold aw iV aT;rw [jx];rfl
theorem qk (m:Mb):((aw m).toList.drop 0).take 1=[Value.int .i64 m.1]:=rfl
theorem qC (m:Mb):((aw m).toList.drop 1).take 32=(eB (ci m.2) 32).toList:=by
 rw [jD,List.drop_succ_cons,List.drop_zero,List.take_of_length_le (by simp),lF]
def Ep:List (List Value):=[[.int .i64 0],List.replicate 32 (.int .u8 0)]
section
variable {P:Program} {ρ:Operand→Value} {d:Option Tmp} {ty:TypeId} {pos:String} {af:Array Edge} {g:Option (Nat × Bool)} {x y:Operand} {t:TypeId}
theorem gV (S:Stt P t Ep):ca P ⟨d,.build t #[],ty,pos,af,g⟩ ρ (.agg (aw aT)):=by
 have:=ew (P:=P) (ρ:=ρ) (d:=d) (ty:=ty) (pos:=pos) (af:=af) (g:=g) (parts:=#[]) S [] (by simp) (fun i v hm=>by simp at hm) (D:=(aw aT).toList) (by rw [oL];rfl)
 simpa using this
theorem dO {q:Int} (S:Stt P t Ep) (hx:ρ x=.int .i64 q):ca P ⟨d,.build t #[(0,x)],ty,pos,af,g⟩ ρ (.agg (aw (q,0#256))):=by
 have:=ew (P:=P) (ρ:=ρ) (d:=d) (ty:=ty) (pos:=pos) (af:=af) (g:=g) (parts:=#[(0,x)]) S [(0,.int .i64 q)] (by simp [hx]) (fun i v hm=>by simp at hm;rcases hm with ⟨rfl,rfl⟩;exact ⟨_,rfl,rfl⟩) (D:=(aw (q,0#256)).toList) (by rw [jD,jx];rfl)
 simpa using this
end
theorem eS (m:Mb):∀ v∈([.agg (aw m)]:List Value),v.cells.size=33:=fun v hv=>by
 rw [List.mem_singleton] at hv;subst hv;exact ak m
theorem c0 (m:Mb):([Value.agg (aw m)].flatMap fun v=>v.cells.toList)=(aw m).toList:=by simp [Value.cells]
theorem gJ (l:List Mb) (x:Mb):ap l++(aw x).toList=ap (l++[x]):=by rw [dz,cM]
theorem zp {l:List Mb} {p:Mb→Bool} {r:Int} (hr:(r = -1∧∀ x∈l,p x=false)∨∃ k:Nat,∃ hk:k<l.length,r=(k:Int)∧p l[k]=true):decide (0≤r)=l.any p:=by
 rcases hr with ⟨rfl,h⟩|⟨k,hk,rfl,h⟩
 ·symm
  refine(List.any_eq_false.2 fun x hx=>?_).trans (by decide)
  rw [h x hx];decide
 ·rw [decide_eq_true (by omega)]
  exact(List.any_eq_true.2 ⟨_,List.getElem_mem hk,h⟩).symm
theorem vA {l:List Mb} {d:Nat} (h:decide ((l.getD d aT).1<0)=true):ip l d=true:=by unfold ip;rw [h];rfl
theorem vL {l:List Mb} {d:Nat} (h:decide (16≤(l.getD d aT).1)=true):ip l d=true:=by unfold ip;rw [h];simp
theorem nz {l:List Mb} {d:Nat} (h0:decide ((l.getD d aT).1<0)=false) (h1:decide (16≤(l.getD d aT).1)=false):ip l d=(l.take d).any (g6 (l.getD d aT)):=by unfold ip;rw [h0,h1];rfl
theorem pQ {l:List Mb} {d:Nat} {p:Mb→Bool} (hd:d≤l.length) (h:∀ j,j<d→p (l.getD j aT)=false):(l.take d).any p=false:=by
 rw [List.any_eq_false]
 intro x hx
 obtain ⟨j,hj,rfl⟩:=List.mem_iff_getElem.1 hx
 rw [List.length_take] at hj
 rw [List.getElem_take,nB (by omega),h j (by omega)];decide
theorem kJ {l:List Mb} {d j:Nat} {p:Mb→Bool} (hd:d≤l.length) (hj:j<d) (h:p (l.getD j aT)=true):(l.take d).any p=true:=
 List.any_eq_true.2 ⟨l.getD j aT,List.mem_iff_getElem.2 ⟨j,by rw [List.length_take];omega,by rw [List.getElem_take,nB (by omega)]⟩,h⟩
def eH (l:List Mb) (no:Int):Option Mb:=l.find? fun m=>decide (m.1=no)
theorem mg {l:List Mb} {no:Int} {k:Nat} (hk:k<l.length) (h:∀ j,j<k→decide ((l.getD j aT).1=no)=false) (he:decide ((l.getD k aT).1=no)=true):eH l no=some (l.getD k aT):=by
 unfold eH
 rw [List.find?_eq_some_iff_getElem]
 refine ⟨he,k,hk,nB hk,fun j hj=>?_⟩
 rw [nB (by omega),h j hj];rfl
theorem l7 {l:List Mb} {no:Int} {k:Nat} (hk:l.length≤k) (h:∀ j,j<k→decide ((l.getD j aT).1=no)=false):eH l no=none:=by
 unfold eH
 rw [List.find?_eq_none]
 intro x hx
 obtain ⟨j,hj,rfl⟩:=jN hx
 rw [h j (by omega)];decide
theorem mj {l:List Mb} {no:Int} {m:Mb} (h:eH l no=some m):m∈l∧m.1=no:=by
 refine ⟨List.mem_of_find?_eq_some h,?_⟩
 have:=List.find?_some h
 exact of_decide_eq_true this
theorem sN {l:List Mb} (h:Rg l) {m:Mb} (hm:m∈l):eH l m.1=some m:=by
 cases hf:eH l m.1 with
 |none=>
  unfold eH at hf
  have:=List.find?_eq_none.1 hf m hm
  simp at this
 |some x=>
  obtain ⟨h1,h2⟩:=mj hf
  rw [h.no h1 hm h2]
theorem sB {l:List Mb} {no:Int}:eH l no=none∨∃ m,eH l no=some m∧m∈l∧m.1=no:=by
 cases h:eH l no with
 |none=>exact .inl rfl
 |some m=>exact .inr ⟨m,rfl,mj h⟩
def fM (l:List Mb) (no:Int):Int:=bif dc l then (match eH l no with|some _=>0|none=>6) else 1
def eI (l:List Mb) (no:Int):Mb:=bif dc l then (eH l no).getD aT else aT
def fB (l:List Mb) (no:Int):Mb:=(eH l no).getD de
theorem pn {l:List Mb} (no:Int) (h:dc l=false):fM l no=1∧eI l no=aT:=by unfold fM eI;rw [h];exact ⟨rfl,rfl⟩
theorem j6 {l:List Mb} {no:Int} {m:Mb} (h:dc l=true) (hf:eH l no=some m):fM l no=0∧eI l no=m:=by unfold fM eI;rw [h,hf];exact ⟨rfl,rfl⟩
theorem nx {l:List Mb} {no:Int} (h:dc l=true) (hf:eH l no=none):fM l no=6∧eI l no=aT:=by unfold fM eI;rw [h,hf];exact ⟨rfl,rfl⟩
theorem zm (l:List Mb) (no:Int):(dc l=false∧fM l no=1∧eI l no=aT)∨(dc l=true∧eH l no=none∧fM l no=6∧eI l no=aT)∨(dc l=true∧eH l no=some (eI l no)∧fM l no=0∧eI l no∈l∧(eI l no).1=no):=by
 cases h:dc l with
 |false=>exact .inl ⟨rfl,pn no h⟩
 |true=>
  cases hf:eH l no with
  |none=>exact .inr (.inl ⟨rfl,rfl,nx h hf⟩)
  |some m=>
   obtain ⟨h1,h2⟩:=j6 h hf
   obtain ⟨h3,h4⟩:=mj hf
   exact .inr (.inr ⟨rfl,by rw [h2],h1,by rw [h2];exact h3,by rw [h2];exact h4⟩)
theorem xq {l:List Mb} {no:Int} (h:fM l no=0):dc l=true∧Rg l∧eH l no=some (eI l no)∧eI l no∈l∧(eI l no).1=no:=by
 rcases zm l no with h9|h9|h9
 ·omega
 ·omega
 ·exact ⟨h9.1,(kz l).1 h9.1,h9.2.1,h9.2.2.2⟩
theorem zu {f:Mb→Nat} {l:List Mb} {k:Nat} (h:f (lV f l k)<f (l.getD (k+1) aT)):lV f l (k+1)=l.getD (k+1) aT:=by
 show (bif _ then _ else _)=_;rw [decide_eq_true h];rfl
theorem BV {f:Mb→Nat} {l:List Mb} {k:Nat} (h:¬ f (lV f l k)<f (l.getD (k+1) aT)):lV f l (k+1)=lV f l k:=by
 show (bif _ then _ else _)=_;rw [decide_eq_false h];rfl
theorem zI (s x y:Id):decide (fJ (x - s) (y - s)<0)=decide (fd s x<fd s y):=decide_eq_decide.2 (wI _ _)
theorem ym (s x y:Id):decide (0<fJ (x - s) (y - s))=decide (fd s y<fd s x):=decide_eq_decide.2 (xp _ _)
def t7 (l:List Mb) (no:Int):Mb:=bif decide (fM l no=0) then rl l (eI l no) else aT
theorem xZ {l:List Mb} {no:Int} (h:fM l no=0):t7 l no=rl l (eI l no):=by unfold t7;rw [decide_eq_true h];rfl
theorem Cb {l:List Mb} {no:Int} (h:¬ fM l no=0):t7 l no=aT:=by unfold t7;rw [decide_eq_false h];rfl
def rW (l:List Mb) (m:Mb):Nat→Mb
 |0=>m
 |k+1=>yP l (rW l m k)
def i3 (l:List Mb) (m:Mb) (k:Nat):List Mb:=(List.range k).map fun i=>rW l m (i+1)
theorem ma (l:List Mb) (m:Mb) (k:Nat):(i3 l m k).length=k:=by simp [i3]
theorem vB (l:List Mb) (m:Mb) (k:Nat):i3 l m (k+1)=i3 l m k++[rW l m (k+1)]:=by simp [i3,List.range_succ]
def eM (s:Id) (l:List Mb):List Mb:=l.mergeSort fun x y=>decide (fd s x.2≤fd s y.2)
theorem zL (s:Id):eM s []=[]:=by unfold eM;rw [List.mergeSort_nil]
theorem fA (s:Id) (l:List Mb):(eM s l).Perm l:=List.mergeSort_perm _ _
theorem gF (s:Id) (l:List Mb):(eM s l).length=l.length:=(fA s l).length_eq
theorem mN (s:Id) (l:List Mb):(eM s l).Pairwise fun x y=>fd s x.2≤fd s y.2:=by
 have:=List.pairwise_mergeSort (le:=fun x y:Mb=>decide (fd s x.2≤fd s y.2)) (fun a b c h1 h2=>decide_eq_true (Nat.le_trans (of_decide_eq_true h1) (of_decide_eq_true h2))) (fun a b=>by
  by_cases h:fd s a.2≤fd s b.2
  ·simp [h]
  ·simp [h];omega) l
 exact this.imp fun h=>of_decide_eq_true h
theorem By {l:List Mb} (h:Rg l) (s:Id):Rg (eM s l):=
 ⟨by rw [gF];exact h.len,fun m hm=>h.nos m ((fA s l).mem_iff.1 hm),h.nd.perm (fA s l).symm fun h9=>⟨h9.1.symm,h9.2.symm⟩⟩
theorem BJ {l r:List Mb} (h:Rg l) (s:Id) (hp:r.Perm l) (hs:r.Pairwise fun x y=>fd s x.2≤fd s y.2):r=eM s l:=by
 refine List.Perm.eq_of_pairwise (le:=fun x y:Mb=>fd s x.2≤fd s y.2) (fun a b ha hb h1 h2=>?_) hs (mN s l) (hp.trans (fA s l).symm)
 exact h.id (hp.mem_iff.1 ha) ((fA s l).mem_iff.1 hb) (mm (s:=s) (by omega))
theorem vW {l:List Mb} (h:Rg l) (s:Id) {i j:Nat} (hij:i<j) (hj:j<l.length):fd s ((eM s l).getD i aT).2<fd s ((eM s l).getD j aT).2:=by
 have hl:=gF s l
 have h1:=List.pairwise_iff_getElem.1 (mN s l) i j (by omega) (by omega) hij
 have h2:=List.pairwise_iff_getElem.1 (By h s).nd i j (by omega) (by omega) hij
 rw [nB (by omega),nB (by omega)] at h1 h2
 have h3:=C6 (s:=s) h2.2
 omega
theorem xW {l:List Mb} (h:Rg l) (s:Id) {i:Nat} (hi:i<l.length):yP l ((eM s l).getD i aT)=(eM s l).getD ((i+1) % l.length) aT:=by
 have hl:=gF s l
 have hmem:∀ j,j<l.length→(eM s l).getD j aT∈l:=fun j hj=>(fA s l).mem_iff.1 (eA (by omega))
 have hmod:=Nat.mod_lt (i+1) (show 0<l.length by omega)
 refine BG h (hmem i hi) (hmem _ hmod) fun y hy hne=>?_
 obtain ⟨j,hj,rfl⟩:=jN ((fA s l).mem_iff.2 hy)
 have hji:j≠i:=fun e=>hne (by rw [e])
 have hjl:j<l.length:=by omega
 have hx:∀ p q,p<l.length→q<l.length→p<q→fd s ((eM s l).getD p aT).2<fd s ((eM s l).getD q aT).2:=fun p q _ hq hpq=>vW h s hpq hq
 by_cases hlast:i+1<l.length
 ·rw [Nat.mod_eq_of_lt hlast]
  have h1:=hx i (i+1) hi hlast (by omega)
  refine ⟨fun e=>by rw [e] at h1;omega,?_⟩
  have k1:=qZ s ((eM s l).getD i aT).2 ((eM s l).getD (i+1) aT).2
  have k2:=qZ s ((eM s l).getD i aT).2 ((eM s l).getD j aT).2
  have k3:=mW s ((eM s l).getD (i+1) aT).2
  rcases Nat.lt_or_gt_of_ne hji with hlt|hgt
  ·have h2:=hx j i hjl hi hlt
   omega
  ·by_cases hj1:j=i+1
   ·subst hj1;exact Nat.le_refl _
   ·have h2:=hx (i+1) j hlast hjl (by omega)
    omega
 ·have hil:i+1=l.length:=by omega
  rw [hil,Nat.mod_self]
  have hj0:j<i:=by omega
  have h1:=hx 0 i (by omega) hi (by omega)
  refine ⟨fun e=>by rw [e] at h1;omega,?_⟩
  have k1:=qZ s ((eM s l).getD i aT).2 ((eM s l).getD 0 aT).2
  have k2:=qZ s ((eM s l).getD i aT).2 ((eM s l).getD j aT).2
  have h2:=hx j i hjl hi hj0
  by_cases hj00:j=0
  ·subst hj00;exact Nat.le_refl _
  ·have h3:=hx 0 j (by omega) hjl (by omega)
   omega
theorem x3 {l:List Mb} (h:Rg l) {m:Mb} (hm:m∈l):(eM m.2 l).getD 0 aT=m:=by
 obtain ⟨j,hj,he⟩:=jN ((fA m.2 l).mem_iff.2 hm)
 by_cases h0:j=0
 ·subst h0;exact he
 ·have:=vW h m.2 (i:=0) (j:=j) (by omega) (by rw [← gF m.2 l];exact hj)
  rw [he,oT] at this
  omega
theorem qE {l:List Mb} (h:Rg l) {m:Mb} (hm:m∈l):∀ k,(eM m.2 l).getD (k % l.length) aT=rW l m k
 |0=>by rw [Nat.zero_mod];exact x3 h hm
 |k+1=>by
  have hp:=jS hm
  show _=yP l (rW l m k)
  rw [← qE h hm k,xW h m.2 (Nat.mod_lt _ hp),Nat.mod_add_mod]
def lS (l:List Mb) (no many:Int):Int:=bif decide (many<0) || decide (16<many) then 1 else fM l no
def nD (l:List Mb) (no many:Int):List Mb:=bif decide (lS l no many=0) then i3 l (eI l no) many.toNat else []
theorem l9 {l:List Mb} {no many:Int} (h:many<0∨16<many):lS l no many=1∧nD l no many=[]:=by
 have h1:lS l no many=1:=by unfold lS;rcases h with h|h<;>simp [h]
 exact ⟨h1,by unfold nD;rw [h1];rfl⟩
theorem qg {l:List Mb} {no many:Int} (h0:0≤many) (h1:many≤16):lS l no many=fM l no:=by
 unfold lS;rw [decide_eq_false (by omega),decide_eq_false (by omega)];rfl
theorem zM {l:List Mb} {no many:Int} (h:¬ lS l no many=0):nD l no many=[]:=by unfold nD;rw [decide_eq_false h];rfl
theorem wg {l:List Mb} {no many:Int} (h:lS l no many=0):nD l no many=i3 l (eI l no) many.toNat:=by unfold nD;rw [decide_eq_true h];rfl
section
variable {P:Program} {ops:List Oper} {K:Act→World→Prop} {l:List Oper} {a:Act} {w:World} {N:Nat} {L:List (Nat × Value)} {Df:List Deferred} {d:Tmp} {ty:TypeId} {pos:String} {af:Array Edge}
theorem oM {f:FuncId} {caps:List Value} {cal:Operand} {args:Array Operand} {tys:Array TypeId} (vs:List Value) {X:Value} (h:Sl N a L Df) (hf:Fnc P f) (hc:eZ L cal=some (.func (.func f) #[] caps.toArray))
 (hC:∀ w',Ext w w'→Calls P f (vs++caps).toArray w' (cU w' (is X))) (hvs:args.toList.map (eZ L)=vs.map some) (hd:Nat.blt d N=true)
 (k:∀ a',Sl N a' ((d,X)::L) Df→kX P ops.toArray K w l a'):
 kX P ops.toArray K w (⟨some d,.call {callee:=.value cal,args:=args,argTypes:=tys},ty,pos,af,none⟩::l) a:=
 jC X h (fun w' hE=>np hf (h.ev hc) (lQ h hvs) (by rw [show vs.toArray++caps.toArray=(vs++caps).toArray from by simp];exact hC w' hE)) hd k
end
section
variable {P:Program} {a:Act} {w w0:World} {N:Nat} {L:List (Nat × Value)} {B:List Own} {fn:Func}
theorem mR {T:cX} {t:Tmp} {V:Value} {D:Nat} (j:Nat) (hres:fn.results=#[.tmp t]) (h:Sl N a L [{target:=.collected D,args:=#[]}]) (s:St w0 B w) (hv:lk L t=some V)
 (hj:B[j]? = some (.blk D (.deferred (some [])))) (hT:∀ w',St w0 (B.set j (.blk D (.deferred none))) w'→T V w'):bodyPostM (FR none) 0 P fn (cU w0 T) .ret a w:=by
 show LeavesInM (FR none) 0 P fn a.tmps (cU w0 T) a.defers .returning w
 rw [h.defers]
 have s2:=s.putObj j hj (.deferred none)
 exact ⟨by simp,.inl ⟨D,_,rfl,run_takeDeferred (s.get j hj),V,by rw [results_tmp hres,h.holds t V hv],V,rfl,hT _ s2,s2.ext⟩⟩
end
theorem oo (a:Id):(bA a).extract 0 (0+32)=bA a:=by
 apply Array.ext'
 rw [Array.toList_extract,List.extract_eq_take_drop,List.drop_zero,Nat.zero_add,Nat.sub_zero]
 exact List.take_of_length_le (by simp)
theorem wm (l:List Mb) {j k:Nat} (hj:j<k) (hk:k≤l.length):(((ap (l.take k)).drop (j*33)).take 33).toArray=aw (l.getD j aT):=by
 rw [th (l.take k) j (by rw [List.length_take];omega),List.getElem_take,nB (by omega)]
theorem sj {l:List Mb} (h:∀ d,d<l.length→ip l d=false):dc l=decide (l.length≤16):=by
 by_cases h0:l.length≤16
 ·rw [kY h0 h,decide_eq_true h0]
 ·rw [kZ h0,decide_eq_false h0]
theorem te {m x:Mb} (h:decide (x.1=m.1)=true):g6 m x=true:=by unfold g6;rw [h];rfl
theorem pk {m x:Mb} (h:decide (x.1=m.1)=false):g6 m x=decide (x.2=m.2):=by unfold g6;rw [h];rfl
theorem j7 {l:List Mb} {d:Nat} (hd:d<l.length):l.take (d+1)=l.take d++[l.getD d aT]:=by rw [List.take_succ_eq_append_getElem hd,nB hd]
theorem qY {l r:List Mb} {k:Nat} (h:∀ j,j<k→l.getD j aT=r.getD j aT) (he:l.getD k aT=r.getD k aT):∀ j,j<k+1→l.getD j aT=r.getD j aT:=fun j hj=>by
 by_cases h1:j<k
 ·exact h j h1
 ·obtain rfl:j=k:=by omega
  exact he
theorem sw {l r:List Mb} (hl:l.length=r.length) (h:∀ j,j<l.length→l.getD j aT=r.getD j aT):l=r:=by
 apply List.ext_getElem hl
 intro i h1 h2
 rw [nB h1,nB h2,h i h1]
end Go.Proofs.YthggibfkgofncaaGreat
namespace Go.Proofs.YthggibfkgofncaaGreat
open Go.RowKit
section
variable {P:Program} {ops:Array Oper} {Q:Act→World→Prop} {l:List Oper} {a:Act} {w w0:World} {N:Nat} {L:List (Nat × Value)} {Df:List Deferred} {B:List Own} {d:Tmp} {ty:TypeId} {pos:String} {af:Array Edge} {x y:Operand} {t e:TypeId}
theorem un {sz by_ n:Nat} {m:Int} {z:Value} {xs:List Value} (h:Sl N a L Df) (s:St w0 B w) (ht:P.underlying t=some (.slice e)) (E:Elm P e sz by_) (hz:(P.info? e).bind (·.zero)=some z) (hx:eZ L x=some (.int .i64 m)) (hy:eZ L y=some (.int .i64 m)) (hm:m=(n:Int)) (hb:by_*n≤281474976710656) (hn:n≤maxLen)
 (hxs:(madeCells z.cells (n*sz)).toList=xs) (hl:xs.length=n*sz) (hd:Nat.blt d N=true)
 (k:∀ a' w' v',Sl N a' ((d,v')::L) Df→St w0 (.sl v' e sz n xs::B) w'→cJ P ops Q l a' w'):cJ P ops Q (⟨some d,.makeSlice t x y,ty,pos,af,none⟩::l) a w:=by
 subst hm
 obtain ⟨i,z',h1,h2,h3,h4,h5⟩:=E.info
 have hzz:z'=z:=by rw [h1] at hz;simp only [Option.bind_some] at hz;exact Option.some.inj (h2.symm.trans hz)
 subst hzz
 have hmx:maxLen≤9223372036854775807:=by unfold maxLen;omega
 have hr:=run_make (P:=P) w t e i _ ht h1 h2 .i64 .i64 (n:Int) (n:Int) (by omega) (Int.le_refl _) (by rw [h4];omega) (by omega)
 simp only [Int.toNat_natCast,h3] at hr
 refine dR h (R:=fun v w'=>v=.slice (some ⟨w.heap.size,0,none⟩) n n∧w'=w.alloc (.cells (madeCells z'.cells (n*sz)) e)) ?_ hd fun a' w' v ⟨hv,hw⟩ h'=>by
  subst hv;subst hw
  refine k _ _ _ h' (s.plus ((Ext.refl w).alloc _) _ ⟨hl,.inr ⟨w.heap.size,n,_,(0,0),rfl,s.ext.le,heap_alloc_new w _,.inl rfl,Nat.le_refl _,hn,?_,?_⟩⟩ fun k hk=>?_)
  ·rw [← Array.length_toList,hxs,hl]
  ·rw [hxs,← hl,List.take_length]
  ·rw [Own.at_sl] at hk;simp [Value.ownBlock] at hk;omega
 simp [c5,execOp,h.ev hx,h.ev hy,hr,Result.andThen]
theorem er {v:Value} {sz n:Nat} {xs ys:List Value} {D:Array Value} (i j:Nat) (h:Sl N a L Df) (s:St w0 B w) (hr:Row P t sz) (hx:eZ L x=some (.pointer (some (aN v (j*sz))))) (hy:eZ L y=some (.agg D)) (hi:B[i]? = some (.sl v e sz n xs)) (hD:D.size=sz) (hj:j<n) (hv:∀ u∈D.toList,u.oneCell'=true)
 (hys:xs.take (j*sz)++D.toList++xs.drop (j*sz+sz)=ys)
 (k:∀ w',St w0 (B.set i (.sl v e sz n ys)) w'→cJ P ops Q l a w'):cJ P ops Q (⟨none,.store t x y,ty,pos,af,none⟩::l) a w:=by
 have ho:=s.getSl i hi
 rcases ho.2 with ⟨_,h0⟩|⟨g,cap,cur,fz,rfl,hb,hg,hfz,hnc,hcm,hcs,htk⟩
 ·omega
 ·have hle:j*sz+sz≤n*sz:=by
   have:=Nat.mul_le_mul_right sz (show j+1≤n from hj)
   rwa [Nat.add_mul,Nat.one_mul] at this
  have hcl:n*sz≤cur.size:=by rw [hcs];exact Nat.mul_le_mul_right _ hnc
  have hxl:xs.length=n*sz:=ho.1
  have hcx:cur.toList=xs++cur.toList.drop (n*sz):=by rw [← htk];exact(List.take_append_drop _ _).symm
  have hyl:ys.length=n*sz:=by
   rw [← hys];simp only [List.length_append,List.length_take,List.length_drop,Array.length_toList];omega
  have hnew:cur.toList.take (j*sz)++D.toList++cur.toList.drop (j*sz+D.size)=ys++cur.toList.drop (n*sz):=by
   rw [← hys,hD]
   conv=>lhs;rw [hcx]
   rw [List.take_append_of_le_length (by omega),List.drop_append_of_le_length (by omega)]
   simp only [List.append_assoc]
  have hst:(storeVar t ⟨g,j*sz,none⟩ (.agg D)).run P w=.ok () (w.setRow g (ys++cur.toList.drop (n*sz)).toArray):=by
   have hs:(sizeOf t).run P w=.ok D.size w:=by
    cases hq:P.info? t with
    |none=>have:=hr.size;simp [hq] at this
    |some i=>have:=hr.size;simp [hq] at this;simp [sizeOf,typeInfo,Sem.run_bind,hq,this,hD]
   have:=db P g (j*sz) e fz D.toList 0 cur w hg hfz (by rw [Array.length_toList];omega) hv
   simp only [Nat.add_zero,Array.length_toList] at this
   rw [hnew] at this
   simp [storeVar,Sem.run_bind,hs,Value.cells,this]
  have hsz:(ys++cur.toList.drop (n*sz)).toArray.size=cur.size:=by
   rw [List.size_toArray,List.length_append,List.length_drop,hyl];have:=Array.length_toList (xs:=cur);omega
  refine gT (R:=fun _ w'=>w'=w.setRow g (ys++cur.toList.drop (n*sz)).toArray) ?_ fun w' _ hw=>by
   subst hw
   refine k _ (s.upd i hi (p':=.sl _ e sz n ys) rfl rfl rfl (by simp) ⟨hyl,.inr ⟨g,cap,_,fz,rfl,hb,setRow_heap w g cur _ e fz hg,?_,hnc,hcm,?_,?_⟩⟩ (fun k hk=>.inl hk) (fun k hk hne=>setRow_other w g k _ fun e9=>hne (Own.at_sl.2 (by simp [Value.ownBlock,e9]))))
   ·rw [hsz];exact hfz
   ·rw [hsz];exact hcs
   ·show (ys++cur.toList.drop (n*sz)).take (n*sz)=ys
    rw [← hyl];exact List.take_left
  unfold c5
  have hel:(some (aN (Value.slice (some ⟨g,0,none⟩) n cap) (j*sz)):Option Addr)=some ⟨g,j*sz,none⟩:=by show some (Addr.add _ _)=_;rw [Addr.add_lit,Nat.zero_add]
  rw [hel] at hx
  simp only [execOp,h.ev hx,h.ev hy,Instr.storeAt,Instr.sureAddr,Sem.run_bind,Sem.run_pure,Result.andThen_ok,hst]
end
theorem q8 {l:List Mb} {j:Nat} (x:Mb) (hj:j<l.length):(ap l).take (j*33)++(aw x).toList++(ap l).drop (j*33+33)=ap (l.set j x):=by
 have h1:(ap l).take (j*33)=ap (l.take j):=by unfold ap;rw [jl _ 33 cF]
 have h2:(ap l).drop (j*33+33)=ap (l.drop (j+1)):=by
  have:=congrArg (List.drop ((j+1)*33)) (dz (l.take (j+1)) (l.drop (j+1)))
  rw [List.take_append_drop,List.drop_left' (by rw [eu,List.length_take,Nat.min_eq_left (by omega)])] at this
  rw [← this];congr 1;omega
 rw [h1,h2,← cM,← dz,← dz,List.set_eq_take_append_cons_drop,if_pos hj,List.append_assoc,List.singleton_append]
theorem qq (z:Array Value):(List.range z.size).map (fun i=>z[i]!)=z.toList:=by
 apply List.ext_getElem
 ·simp
 ·intro i h1 h2
  have h3:i<z.size:=by simpa using h1
  rw [List.getElem_map,List.getElem_range,getElem!_pos z i h3,Array.getElem_toList]
theorem ud (z:Array Value) (n:Nat):(madeCells z (n*z.size)).toList=(List.replicate n z.toList).flatten:=by
 unfold madeCells
 rw [Array.toList_map,Array.toList_range]
 induction n with
 |zero=>simp
 |succ n ih=>
  rw [Nat.succ_mul,List.range_add,List.map_append,ih,List.map_map,List.replicate_succ',List.flatten_append]
  congr 1
  have h9:(List.range z.size).map ((fun i=>z[i % z.size]!) ∘ fun i=>n*z.size+i)=(List.range z.size).map fun i=>z[i]! := by
   apply List.map_congr_left
   intro i hi
   have hi:=List.mem_range.1 hi
   show z[(n*z.size+i) % z.size]! = z[i]!
   rw [Nat.add_comm,Nat.add_mul_mod_self_right,Nat.mod_eq_of_lt hi]
  rw [h9,qq];simp
theorem zw (n:Nat):(madeCells (Value.agg (aw aT)).cells (n*33)).toList=ap (List.replicate n aT):=by
 have h:=ud (aw aT) n
 rw [ak] at h
 refine h.trans ?_
 unfold ap
 rw [List.flatMap_def,List.map_replicate]
 rfl
def mE (l:List Mb) (m:Mb) (n k:Nat):List Mb:=i3 l m k++List.replicate (n - k) aT
theorem m5 (l:List Mb) (m:Mb) {n k:Nat} (h:k≤n):(mE l m n k).length=n:=by
 unfold mE;rw [List.length_append,ma,List.length_replicate];omega
theorem ub (l:List Mb) (m:Mb) (n:Nat):mE l m n 0=List.replicate n aT:=rfl
theorem xx (l:List Mb) (m:Mb) (n:Nat):mE l m n n=i3 l m n:=by unfold mE;simp
theorem uL (l:List Mb) (m:Mb) {n k:Nat} (h:k<n):(mE l m n k).set k (rW l m (k+1))=mE l m n (k+1):=by
 unfold mE
 obtain ⟨r,hr⟩:∃ r,n - k=r+1:=⟨n - k - 1,by omega⟩
 rw [hr,List.replicate_succ,List.set_append_right _ _ (by rw [ma];exact Nat.le_refl _),ma,Nat.sub_self,List.set_cons_zero,vB,show n - (k+1)=r from by omega]
 simp
theorem sv (n:Int):∀ (es:List MapEntry) (i:Nat),(∀ e∈es,∃ m:Int,m≠n∧e.key=.int .i64 m)→Instr.findNow (.int .i64) (.int .i64 n) es i=some none
 |[],_,_=>rfl
 |e::es,i,h=>by
  obtain ⟨m,hm,he⟩:=h e List.mem_cons_self
  have ih:=sv n es (i+1) fun e9 h9=>h e9 (List.mem_cons_of_mem _ h9)
  unfold Instr.findNow
  have hs:Instr.sameNow (.int .i64) (.int .i64 n) (.int .i64 m)=some false:=by
   simp only [Instr.sameNow,if_true]
   congr 1
   rw [beq_eq_false_iff_ne];exact fun e9=>hm e9.symm
  rw [he]
  simp only [hs,ih]
section
variable {P:Program} {ops:Array Oper} {Q:Act→World→Prop} {l:List Oper} {a:Act} {w w0:World} {N:Nat} {L:List (Nat × Value)} {Df:List Deferred} {B:List Own} {d:Tmp} {ty:TypeId} {pos:String} {af:Array Edge} {x y z:Operand} {t kt et:TypeId}
end
theorem pt {l:List Mb} (h:Rg l) {m:Mb} (hm:m∈l):fM l m.1=0∧eI l m.1=m:=j6 ((kz l).2 h) (sN h hm)
theorem BI {l:List Mb} (h:Rg l) {m:Mb} (hm:m∈l):t7 l m.1=rl l m:=by rw [xZ (pt h hm).1,(pt h hm).2]
theorem Cf {l:List Mb} (h:Rg l) {m:Mb} (hm:m∈l) {n:Nat} (hn:n≤16):lS l m.1 n=0∧nD l m.1 n=i3 l m n:=by
 have h1:lS l m.1 n=0:=(qg (by omega) (by omega)).trans (pt h hm).1
 exact ⟨h1,by rw [wg h1,(pt h hm).2,Int.toNat_natCast]⟩
theorem mb {w:World} {b:Nat} {M:TypeId} {vs:Value} {r r':List Mb} {e e':Int} (hr:r'=r) (he:e'=e) (o:cQ w b M 33 vs r.length (ap r)):∃ v8,Value.tuple #[vs,.int .i64 e]=.tuple #[v8,.int .i64 e']∧cQ w b M 33 v8 r'.length (ap r'):=by
 subst hr;subst he;exact ⟨vs,rfl,o⟩
theorem yJ {l:List Mb} {no many:Int} {m:Nat} (hm:many=(m:Int)) (h:lS l no many=fM l no) (h0:fM l no=0):nD l no many=i3 l (eI l no) m:=by rw [wg (h.trans h0),hm,Int.toNat_natCast]
end Go.Proofs.YthggibfkgofncaaGreat
namespace Go.Proofs.YthggibfkgofncaaGreat
open Go.RowKit Go.ChangeShapes Go.WideShapes Go.ChangeAt
theorem ms {H:Type} {enc:TypeId × Value→H} {P:Program} {w:World} {base:Nat} {spare:Nat→Bool} {held:Bool} {t tn ti e:TypeId} {f0 f1:Field} {fuel:Nat} {cs:List Value} {x:DataW H × List MemPlace} (T:IdTy P ti e) (hc:P.cellsOf ti=32) (hce:P.cellsOf e=1) (hn:P.underlying tn=some (.int .i64)) (hcn:P.cellsOf tn=1)
 (ht:P.underlying t=some (.struct #[f0,f1])) (h0:f0.type=tn) (h1:f1.type=ti) (o0:f0.offset=0) (o1:f1.offset=1) (hct:P.cellsOf t=33) (h:DataW.trod enc P w base spare held fuel t cs=some x):∃ l:Mb,cs=(aw l).toList:=by
 obtain ⟨xs,n,rfl,_,hl,hxl,hel⟩:=DataW.trod_struct ht h
 rw [hct] at hl
 have hx2:xs.length=2:=by simpa using hxl
 have e0:=hel 0 f0 rfl
 have e1:=hel 1 f1 rfl
 rw [h0,o0,hcn,List.getElem?_eq_getElem (by omega)] at e0
 rw [h1,o1,hc,List.getElem?_eq_getElem (by omega)] at e1
 obtain ⟨k,hk,_⟩:=DataW.trod_int hn e0
 obtain ⟨a,ha⟩:=vT T hc hce e1
 refine ⟨(k,a),?_⟩
 rw [jD,← ha]
 have hdrop:(cs.drop 1).take 32=cs.drop 1:=List.take_of_length_le (by rw [List.length_drop];omega)
 have hsplit:cs=(cs.drop 0).take 1++cs.drop 1:=by
  rw [List.drop_zero,List.take_append_drop]
 rw [hk] at hsplit
 rw [hdrop]
 exact hsplit
end Go.Proofs.YthggibfkgofncaaGreat
namespace Go.Proofs.YthggibfkgofncaaGreat
open Go.RowKit
def vd (s9 t9:Id) (x:Mb):Bool:=decide (x.2≠t9) && (decide (x.2≠s9) && nk x.2 s9 t9)
theorem DM {s9 t9:Id} {x:Mb} (h:decide (x.2≠t9)=false):vd s9 t9 x=false:=by unfold vd;rw [h];rfl
theorem C2 {s9 t9:Id} {x:Mb} (h:decide (x.2≠s9)=false):vd s9 t9 x=false:=by unfold vd;rw [h,Bool.false_and,Bool.and_false]
theorem CV {s9 t9:Id} {x:Mb} (h0:decide (x.2≠t9)=true) (h1:decide (x.2≠s9)=true):vd s9 t9 x=nk x.2 s9 t9:=by unfold vd;rw [h0,h1];rfl
end Go.Proofs.YthggibfkgofncaaGreat
namespace Go.Proofs.YthggibfkgofncaaGreat
open Go.RowKit
section
variable {P:Program} {a:Act} {w w0:World} {N:Nat} {L:List (Nat × Value)} {B:List Own} {fn:Func} {T:cX} {R:Ending→World→Prop}
theorem uG {f:FuncId} {c:Code} {args:List Value} {n:Nat} (hf:P.funcs[f]? = some fn) (hb:fn.body=some c) (hn:fn.ntmps=n) (hs:Nat.ble args.length n=true) (L:List (Nat × Value)) (hL:∀ p∈L,args[p.1]? = some p.2)
 (h:∀ a,Sl n a L→c.wpIn (FR none) 0 P (bodyPostM (FR none) 0 P fn R) a w):Calls P f args.toArray w R:=by
 refine callsIn_wide.1 (callsIn_of_wp_marks (n:=0) hf hb trivial ?_)
 rw [hn]
 exact h _ (Sl.enter L (by simpa using hs) (by simpa using hL))
theorem oO {D:Nat} (j:Nat) (hres:fn.results=#[]) (h:Sl N a L [{target:=.collected D,args:=#[]}]) (s:St w0 B w)
 (hj:B[j]? = some (.blk D (.deferred (some [])))) (hR:∀ w',St w0 (B.set j (.blk D (.deferred none))) w'→R (.returned (.tuple #[])) w'):bodyPostM (FR none) 0 P fn R .normal a w:=by
 show LeavesInM (FR none) 0 P fn a.tmps R a.defers .returning w
 rw [h.defers]
 have s2:=s.putObj j hj (.deferred none)
 exact ⟨by simp,.inl ⟨D,_,rfl,run_takeDeferred (s.get j hj),_,results_none hres _ _ _,hR _ s2⟩⟩
end
theorem bq.elF {w:World} {v:Value} {sz n:Nat} {xs:List Value} (h:bq w v sz n xs) (j off m:Nat) (hj:j<n) (hz:0<sz) {C D:Array Value} (hC:((xs.drop (j*sz)).take sz).toArray=C) (hD:C.extract off (off+m)=D):aU w (aN v (j*sz+off)) D:=by
 have h1:=(h.el j hj hz hC).sub off m hD
 obtain ⟨p,q,c,rfl⟩:=h.some (by omega)
 have e:(aN (.slice (Option.some p) q c) (j*sz)).add off=aN (.slice (Option.some p) q c) (j*sz+off):=iL _ _ _
 rwa [e] at h1
theorem ld (l:List Mb) (j:Nat) (hj:j<l.length):(ap l)[j*33+0]? = some (.int .i64 (l.getD j aT).1):=by
 have h1:=congrArg (fun a:Array Value=>a[0]?) (cL l j hj)
 simp only [aP] at h1
 rw [← h1]
 simp
end Go.Proofs.YthggibfkgofncaaGreat
