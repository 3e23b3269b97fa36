/- Members on the ring: ways, members found; own slices that are set; members that come in; the closest of those that are known; no Go in it. -/
import Derived.Test.YthmlflaiidhoiaaGreatDoorEm
set_option linter.unusedVariables false
set_option linter.unusedSimpArgs false
set_option linter.unusedSectionVars false
namespace Go.Proofs.YthmlflaiidhoiaaGreatDoor
open Go.RowKit
def NN:Nat:=2 ^ 256
def fd (s x:Id):Nat:=(x - s).toNat
theorem om (s x:Id):fd s x<NN:=(x - s).isLt
theorem Aj (x:Id):x.toNat<NN:=x.isLt
theorem jU (s x:Id):(s.toNat<=x.toNat/\fd s x+s.toNat=x.toNat)∨(x.toNat<s.toNat/\fd s x+s.toNat=NN+x.toNat):=by
 have h1:=Aj s
 have h2:=Aj x
 have h3:fd s x=(NN - s.toNat+x.toNat) % NN:=BitVec.toNat_sub ..
 by_cases h:s.toNat<=x.toNat
 ·refine .inl ⟨h,?_⟩
  have h4:NN - s.toNat+x.toNat=(x.toNat - s.toNat)+NN:=by omega
  rw [h3,h4,Nat.add_mod_right,Nat.mod_eq_of_lt (by omega)]
  omega
 ·refine .inr ⟨by omega,?_⟩
  rw [h3,Nat.mod_eq_of_lt (by omega)]
  omega
theorem rp (s:Id):fd s s=0:=by
 have h1:=om s s
 have h2:=Aj s
 rcases jU s s with h|h<;>omega
theorem qd {s x y:Id} (h:fd s x=fd s y):x=y:=by
 have h1:=jU s x
 have h2:=jU s y
 have h3:=Aj x
 have h4:=Aj y
 exact BitVec.eq_of_toNat_eq (by omega)
theorem EQ {s x:Id} (h:fd s x=0):x=s:=qd (h.trans (rp s).symm)
theorem WJ {s x y:Id} (h:x≠y):fd s x≠fd s y:=λe=>h (qd e)
theorem tQ (s a x:Id):(fd s a<=fd s x/\fd a x+fd s a=fd s x)∨(fd s x<fd s a/\fd a x+fd s a=NN+fd s x):=by
 have h1:=jU s a
 have h2:=jU s x
 have h3:=jU a x
 have l1:=om s a
 have l2:=om s x
 have l3:=om a x
 omega
theorem U7 (m:Id):fd m (m+pR 0)=1:=by
 unfold fd
 have h:m+pR 0 - m=pR 0:=XO m 0
 rw [h]
 rfl
theorem rr (m x:Id):(x=m/\fd (m+pR 0) x+1=NN)∨(x≠m/\fd (m+pR 0) x+1=fd m x):=by
 have h1:=tQ m (m+pR 0) x
 rw [U7] at h1
 by_cases h:x=m
 ·subst h
  rw [rp] at h1
  exact .inl ⟨rfl,by omega⟩
 ·have h2:fd m x≠0:=λe=>h (EQ e)
  exact .inr ⟨h,by omega⟩
theorem Lq (a b:Id):eW a b<0↔a.toNat<b.toNat:=by
 have:=Qu a b
 rw [ar3] at this
 exact this
theorem Jp (a b:Id):0<eW a b↔b.toNat<a.toNat:=by
 unfold eW
 split
 ·omega
 ·split<;>omega
abbrev Mb:=Int × Id
def aS:Mb:=(0,0#256)
def fj:Mb:=(-1,0#256)
def lV (m:Mb):List Value:=.int .i64 m.1::(aJ m.2).toList
def ar (m:Mb):Array Value:=(lV m).toArray
theorem cf (m:Mb):(lV m).length=33:=by simp [lV]
theorem ae (m:Mb):(ar m).size=33:=by simp [ar,cf]
theorem lf (m:Mb):∀ v∈lV m,v.oneCell'=true:=λv hv=>by
 rcases ar6.1 hv with rfl|hv
 ·simp [Value.oneCell',Value.cells]
 ·rw [fh] at hv;exact ff _ _ v hv
theorem aP (m:Mb):∀ v∈(ar m).toList,v.oneCell'=true:=lf m
theorem bH (m:Mb):(ar m)[0]? = some (.int .i64 m.1):=rfl
theorem cz (m:Mb):(ar m).extract 1 (1+32)=aJ m.2:=by
 apply Array.ext'
 rw [Array.toList_extract,List.extract_eq_take_drop]
 show (((lV m).drop 1).take 32)=_
 exact as9 (by rw [at2,cf];exact as1 _)
theorem F2 {x y:Mb} (h:(ar x).toList=(ar y).toList):x=y:=by
 have h':=Array.toList_inj.1 h
 have h0:=bH x;rw [h',bH] at h0
 have h2:=cz x;rw [h',cz] at h2
 simp at h0
 exact Prod.ext h0.symm (pI h2).symm
theorem mm (x y:Mb):decide (x=y)=true↔(ar x).toList=(ar y).toList:=by
 rw [ar0];exact ⟨λh=>by rw [h],F2⟩
def aj (l:List Mb):List Value:=l.flatMap lV
theorem fo (l:List Mb):(aj l).length=l.length*33:=f7 _ 33 cf l
theorem fu (l r:List Mb):aj (l++r)=aj l++aj r:=av2
theorem gX (x:Mb):aj [x]=(ar x).toList:=by simp [aj,ar]
theorem kp (l:List Mb):∀ u∈aj l,u.oneCell'=true:=λu hu=>by
 obtain ⟨x,_,hx⟩:=List.mem_flatMap.1 hu
 exact lf x u hx
theorem Lb (l:List Mb) (j:Nat) (hj:j<l.length):(((aj l).drop (j*33)).take 33).toArray=ar l[j]:=by
 unfold aj
 rw [fS _ 33 cf l j hj];rfl
theorem DB {w:World} {v:Value} {l:List Mb} (h:a7 w v 33 l.length (aj l)) (k:Nat) (hk:k<=l.length):a7 w (gG v k) 33 (l.take k).length (aj (l.take k)):=by
 have:=h.cut k hk
 unfold aj at this
 rw [gE _ 33 cf] at this
 rw [au0,Nat.min_eq_left hk]
 exact this
theorem u3 {l:List Mb} {j:Nat} (hj:j<l.length):l[j]=l.getD j aS:=by
 rw [as6,aq8 hj];rfl
theorem dI (l:List Mb) (j:Nat) (hj:j<l.length):(((aj l).drop (j*33)).take 33).toArray=ar (l.getD j aS):=by rw [Lb l j hj,u3 hj]
theorem fL {l:List Mb} {j:Nat} (hj:j<l.length):l.getD j aS∈l:=by rw [← u3 hj];exact aw0 hj
theorem mC {l:List Mb} {x:Mb} (h:x∈l):∃ j,j<l.length/\l.getD j aS=x:=by
 obtain ⟨j,hj,rfl⟩:=List.mem_iff_getElem.1 h
 exact ⟨j,hj,(u3 hj).symm⟩
def li (m x:Mb):Bool:=decide (x.1=m.1) || decide (x.2=m.2)
def oC (l:List Mb) (d:Nat):Bool:=decide ((l.getD d aS).1<0) || (decide (16<=(l.getD d aS).1) || (l.take d).any (li (l.getD d aS)))
def c8 (l:List Mb):Bool:=decide (l.length<=16) && (List.range l.length).all λd => !oC l d
structure Rg (l:List Mb):Prop where
 len:l.length<=16
 nos:∀ m∈l,0<=m.1/\m.1<16
 nd:l.Pairwise λa b=>a.1≠b.1/\a.2≠b.2
theorem j4 (l:List Mb):c8 l=true↔l.length<=16/\∀ d,d<l.length->oC l d=false:=by
 unfold c8
 rw [aq5,ar0,aq6]
 refine ⟨λ⟨h1,h2⟩=>⟨h1,λd hd=>?_⟩,λ⟨h1,h2⟩=>⟨h1,λd hd=>?_⟩⟩
 ·have:=h2 d (ar7.2 hd);simpa using this
 ·rw [h2 d (ar7.1 hd)];rfl
theorem lh {l:List Mb} {d:Nat} (hd:d<l.length) (hb:oC l d=true):c8 l=false:=by
 rw [← Bool.not_eq_true,j4]
 rintro ⟨_,h⟩
 rw [h d hd] at hb;cases hb
theorem yA {l:List Mb} (h:¬ l.length<=16):c8 l=false:=by
 rw [← Bool.not_eq_true,j4]
 exact λh9=>h h9.1
theorem zn {l:List Mb} (h0:l.length<=16) (h:∀ d,d<l.length->oC l d=false):c8 l=true:=(j4 l).2 ⟨h0,h⟩
theorem tP {l:List Mb} {d:Nat} (hd:d<l.length):oC l d=false↔(0<=l[d].1/\l[d].1<16)/\∀ j (hj:j<d),l[j].1≠l[d].1/\l[j].2≠l[d].2:=by
 unfold oC
 rw [← u3 hd,Bool.or_eq_false_iff,Bool.or_eq_false_iff,decide_eq_false_iff_not,decide_eq_false_iff_not,aw5]
 refine ⟨λ⟨h1,h2,h3⟩=>⟨by omega,λj hj=>?_⟩,λ⟨h1,h2⟩=>⟨by omega,by omega,λx hx=>?_⟩⟩
 ·have h4:=h3 l[j] (List.mem_iff_getElem.2 ⟨j,by rw [au0];omega,by rw [List.getElem_take]⟩)
  unfold li at h4
  simpa using h4
 ·obtain ⟨j,hj,rfl⟩:=List.mem_iff_getElem.1 hx
  rw [au0] at hj
  rw [List.getElem_take]
  have:=h2 j (by omega)
  unfold li
  simpa using this
theorem lH (l:List Mb):c8 l=true↔Rg l:=by
 rw [j4]
 refine ⟨λ⟨h1,h2⟩=>⟨h1,λm hm=>?_,List.pairwise_iff_getElem.2 λi j hi hj hij=>?_⟩,λh=>⟨h.len,λd hd=>(tP hd).2 ⟨h.nos _ (aw0 hd),λj hj=>List.pairwise_iff_getElem.1 h.nd j d (by omega) hd hj⟩⟩⟩
 ·obtain ⟨j,hj,rfl⟩:=List.mem_iff_getElem.1 hm
  exact((tP hj).1 (h2 j hj)).1
 ·exact((tP hj).1 (h2 j hj)).2 i hij
theorem QG {α:Type} {R:α->α->Prop} (hs:∀ a b,R a b->R b a) {l:List α} (h:l.Pairwise R) {x y:α} (hx:x∈l) (hy:y∈l) (hn:¬ R x y):x=y:=by
 obtain ⟨i,hi,rfl⟩:=List.mem_iff_getElem.1 hx
 obtain ⟨j,hj,rfl⟩:=List.mem_iff_getElem.1 hy
 rcases Nat.lt_trichotomy i j with h1|h1|h1
 ·exact ax7 (List.pairwise_iff_getElem.1 h i j hi hj h1) hn
 ·subst h1;rfl
 ·exact ax7 (hs _ _ (List.pairwise_iff_getElem.1 h j i hj hi h1)) hn
theorem Rg.no {l:List Mb} (h:Rg l) {x y:Mb} (hx:x∈l) (hy:y∈l) (e:x.1=y.1):x=y:=
 QG (λ_ _ h9=>⟨h9.1.symm,h9.2.symm⟩) h.nd hx hy λh9=>h9.1 e
theorem Rg.id {l:List Mb} (h:Rg l) {x y:Mb} (hx:x∈l) (hy:y∈l) (e:x.2=y.2):x=y:=
 QG (λ_ _ h9=>⟨h9.1.symm,h9.2.symm⟩) h.nd hx hy λh9=>h9.2 e
theorem Rg.sub {l r:List Mb} (h:Rg l) (hs:r.Sublist l):Rg r:=⟨av5 hs.length_le h.len,λm hm=>h.nos m (hs.subset hm),h.nd.sublist hs⟩
theorem Rg.fd {l:List Mb} (h:Rg l) {x y:Mb} (s:Id) (hx:x∈l) (hy:y∈l) (hn:x≠y):fd s x.2≠fd s y.2:=λe=>hn (h.id hx hy (qd e))
def gc (f:Mb->Nat) (l:List Mb):Nat->Mb
 |0=>l.getD 0 aS
 |k+1=>bif decide (f (l.getD (k+1) aS)<f (gc f l k)) then l.getD (k+1) aS else gc f l k
def ku (f:Mb->Nat) (l:List Mb):Nat->Mb
 |0=>l.getD 0 aS
 |k+1=>bif decide (f (ku f l k)<f (l.getD (k+1) aS)) then l.getD (k+1) aS else ku f l k
theorem vZ (f:Mb->Nat) (l:List Mb):∀ k,k<l.length->gc f l k∈l
 |0,h=>fL h
 |k+1,h=>by
  unfold gc
  cases decide (f (l.getD (k+1) aS)<f (gc f l k)) with
  |true=>exact fL h
  |false=>exact vZ f l k (by omega)
theorem AN (f:Mb->Nat) (l:List Mb):∀ k,k<l.length->ku f l k∈l
 |0,h=>fL h
 |k+1,h=>by
  unfold ku
  cases decide (f (ku f l k)<f (l.getD (k+1) aS)) with
  |true=>exact fL h
  |false=>exact AN f l k (by omega)
theorem y8 (f:Mb->Nat) (l:List Mb):∀ k j,j<=k->f (gc f l k)<=f (l.getD j aS)
 |0,j,h=>by obtain rfl:j=0:=by omega
            exact as1 _
 |k+1,j,h=>by
  unfold gc
  by_cases hj:j=k+1
  ·subst hj
   cases hd:decide (f (l.getD (k+1) aS)<f (gc f l k)) with
   |true=>exact as1 _
   |false=>exact Nat.le_of_not_lt (aq0 hd)
  ·have h1:=y8 f l k j (by omega)
   cases hd:decide (f (l.getD (k+1) aS)<f (gc f l k)) with
   |true=>exact av5 (Nat.le_of_lt (ap9 hd)) h1
   |false=>exact h1
theorem Ed (f:Mb->Nat) (l:List Mb):∀ k j,j<=k->f (l.getD j aS)<=f (ku f l k)
 |0,j,h=>by obtain rfl:j=0:=by omega
            exact as1 _
 |k+1,j,h=>by
  unfold ku
  by_cases hj:j=k+1
  ·subst hj
   cases hd:decide (f (ku f l k)<f (l.getD (k+1) aS)) with
   |true=>exact as1 _
   |false=>exact Nat.le_of_not_lt (aq0 hd)
  ·have h1:=Ed f l k j (by omega)
   cases hd:decide (f (ku f l k)<f (l.getD (k+1) aS)) with
   |true=>exact av5 h1 (Nat.le_of_lt (ap9 hd))
   |false=>exact h1
def ld (s:Id) (m:Mb):Nat:=fd s m.2
def xC (l:List Mb) (x:Id):Mb:=gc (ld x) l (l.length - 1)
def oI (l:List Mb) (m:Mb):Mb:=ku (ld m.2) l (l.length - 1)
def fV (l:List Mb) (m:Mb):Mb:=xC l (m.2+pR 0)
theorem rJ {l:List Mb} (x:Id) (h:0<l.length):xC l x∈l:=vZ _ l _ (by omega)
theorem Iv {l:List Mb} (x:Id) {y:Mb} (hy:y∈l):fd x (xC l x).2<=fd x y.2:=by
 obtain ⟨j,hj,rfl⟩:=mC hy
 exact y8 (ld x) l _ j (by omega)
theorem gP {l:List Mb} {y:Mb} (hy:y∈l):0<l.length:=List.length_pos_iff.2 (List.ne_nil_of_mem hy)
theorem Up {l:List Mb} (h:Rg l) (x:Id) {o:Mb} (ho:o∈l) (hle:∀ y∈l,fd x o.2<=fd x y.2):xC l x=o:=by
 have h1:=rJ x (gP ho)
 have h2:=Iv x ho
 have h3:=hle _ h1
 exact h.id h1 ho (qd (s:=x) (by omega))
theorem ye {l:List Mb} (m:Mb) (h:0<l.length):oI l m∈l:=AN _ l _ (by omega)
theorem Tu {l:List Mb} (m:Mb) {y:Mb} (hy:y∈l):fd m.2 y.2<=fd m.2 (oI l m).2:=by
 obtain ⟨j,hj,rfl⟩:=mC hy
 exact Ed (ld m.2) l _ j (by omega)
theorem Sr {l:List Mb} (h:Rg l) (m:Mb) {o:Mb} (ho:o∈l) (hle:∀ y∈l,fd m.2 y.2<=fd m.2 o.2):oI l m=o:=by
 have h1:=ye m (gP ho)
 have h2:=Tu m ho
 have h3:=hle _ h1
 exact h.id h1 ho (qd (s:=m.2) (by omega))
theorem Tk {l:List Mb} (h:Rg l) {m x:Mb} (hm:m∈l) (hx:x∈l) (hn:∀ y∈l,y≠m->x≠m/\fd m.2 x.2<=fd m.2 y.2):fV l m=x:=by
 refine Up h _ hx λy hy=>?_
 have h1:=rr m.2 x.2
 have h2:=rr m.2 y.2
 have h3:=om m.2 x.2
 by_cases hym:y=m
 ·subst hym
  rcases h2 with h2|h2
  ·have:=om (y.2+pR 0) x.2;omega
  ·exact ax7 rfl h2.1
 ·obtain ⟨h4,h5⟩:=hn y hy hym
  rcases h1 with h1|h1
  ·exact ax7 (h.id hx hm h1.1) h4
  ·rcases h2 with h2|h2
   ·exact ax7 (h.id hy hm h2.1) hym
   ·omega
theorem md {l:List Mb} {m:Mb} (hm:m∈l):fV l m∈l:=rJ _ (gP hm)
theorem IF {l:List Mb} (h:Rg l) {m y:Mb} (hm:m∈l) (hy:y∈l) (hn:y≠m):fV l m≠m/\fd m.2 (fV l m).2<=fd m.2 y.2:=by
 have h0:=Iv (m.2+pR 0) hy
 have h1:=rr m.2 (fV l m).2
 have h2:=rr m.2 y.2
 have h3:=om m.2 y.2
 change fd (m.2+pR 0) (fV l m).2<=_ at h0
 rcases h2 with h2|h2
 ·exact ax7 (h.id hy hm h2.1) hn
 ·rcases h1 with h1|h1
  ·omega
  ·exact ⟨λe=>h1.1 (by rw [e]),by omega⟩
theorem Ew {l:List Mb} (h:Rg l) {m:Mb} (hm:m∈l):oI l (fV l m)=m:=by
 refine Sr h _ hm λy hy=>?_
 by_cases hym:y=m
 ·subst hym;exact as1 _
 ·obtain ⟨h1,h2⟩:=IF h hm hy hym
  have h3:=tQ m.2 (fV l m).2 y.2
  have h4:=tQ m.2 (fV l m).2 m.2
  rw [rp] at h4
  have h5:fd m.2 (fV l m).2≠0:=λe=>h1 (h.id (md hm) hm (EQ e))
  have h6:=om m.2 y.2
  omega
theorem nh (m:Mb):(ar m).toList=Value.int .i64 m.1::(aJ m.2).toList:=rfl
theorem xX:ar aS=(Value.int .i64 0::List.replicate 32 (Value.int .u8 0)).toArray:=by
 unfold ar lV aS;rw [fe];rfl
theorem zK (m:Mb):((ar m).toList.drop 0).take 1=[Value.int .i64 m.1]:=rfl
theorem yI (m:Mb):((ar m).toList.drop 1).take 32=(eX (bA m.2) 32).toList:=by
 rw [nh,List.drop_succ_cons,List.drop_zero,as9 (by simp),fh]
def mbZ:List (List Value):=[[.int .i64 0],List.replicate 32 (.int .u8 0)]
section
variable {P:Program} {ρ:Operand->Value} {d:Option Tmp} {ty:TypeId} {pos:String} {af:Array Edge} {g:Option (Nat × Bool)} {x y:Operand} {t:TypeId}
theorem gm (S:Stt P t mbZ):a8 P ⟨d,.build t #[],ty,pos,af,g⟩ ρ (.agg (ar aS)):=by
 have:=cx (P:=P) (ρ:=ρ) (d:=d) (ty:=ty) (pos:=pos) (af:=af) (g:=g) (parts:=#[]) S [] (by simp) (λi v hm=>by simp at hm) (D:=(ar aS).toList) (by rw [xX];rfl)
 simpa using this
theorem oO {q:Int} (S:Stt P t mbZ) (hx:ρ x=.int .i64 q):a8 P ⟨d,.build t #[(0,x)],ty,pos,af,g⟩ ρ (.agg (ar (q,0#256))):=by
 have:=cx (P:=P) (ρ:=ρ) (d:=d) (ty:=ty) (pos:=pos) (af:=af) (g:=g) (parts:=#[(0,x)]) S [(0,.int .i64 q)] (by simp [hx]) (λi v hm=>by simp at hm;rcases hm with ⟨rfl,rfl⟩;exact ⟨_,rfl,rfl⟩) (D:=(ar (q,0#256)).toList) (by rw [nh,fe];rfl)
 simpa using this
end
theorem vy (m:Mb):∀ v∈([.agg (ar m)]:List Value),v.cells.size=33:=λv hv=>by
 rw [ar4] at hv;subst hv;exact ae m
theorem lF (m:Mb):([Value.agg (ar m)].flatMap λv=>v.cells.toList)=(ar m).toList:=by simp [Value.cells]
theorem yq (l:List Mb) (x:Mb):aj l++(ar x).toList=aj (l++[x]):=by rw [fu,gX]
theorem Po {l:List Mb} {p:Mb->Bool} {r:Int} (hr:(r = -1/\∀ x∈l,p x=false)∨∃ k:Nat,∃ hk:k<l.length,r=(k:Int)/\p l[k]=true):decide (0<=r)=l.any p:=by
 rcases hr with ⟨rfl,h⟩|⟨k,hk,rfl,h⟩
 ·symm
  refine(aw5.2 λx hx=>?_).trans (by decide)
  rw [h x hx];decide
 ·rw [aq2 (by omega)]
  exact(aw4.2 ⟨_,aw0 hk,h⟩).symm
theorem UL {l:List Mb} {d:Nat} (h:decide ((l.getD d aS).1<0)=true):oC l d=true:=by unfold oC;rw [h];rfl
theorem SR {l:List Mb} {d:Nat} (h:decide (16<=(l.getD d aS).1)=true):oC l d=true:=by unfold oC;rw [h];simp
theorem L9 {l:List Mb} {d:Nat} (h0:decide ((l.getD d aS).1<0)=false) (h1:decide (16<=(l.getD d aS).1)=false):oC l d=(l.take d).any (li (l.getD d aS)):=by unfold oC;rw [h0,h1];rfl
def fE (l:List Mb) (no:Int):Option Mb:=l.find? λm=>decide (m.1=no)
theorem xV {l:List Mb} {no:Int} {k:Nat} (hk:k<l.length) (h:∀ j,j<k->decide ((l.getD j aS).1=no)=false) (he:decide ((l.getD k aS).1=no)=true):fE l no=some (l.getD k aS):=by
 unfold fE
 rw [List.find?_eq_some_iff_getElem]
 refine ⟨he,k,hk,u3 hk,λj hj=>?_⟩
 rw [u3 (by omega),h j hj];rfl
theorem wS {l:List Mb} {no:Int} {k:Nat} (hk:l.length<=k) (h:∀ j,j<k->decide ((l.getD j aS).1=no)=false):fE l no=none:=by
 unfold fE
 rw [List.find?_eq_none]
 intro x hx
 obtain ⟨j,hj,rfl⟩:=mC hx
 rw [h j (by omega)];decide
theorem sf {l:List Mb} {no:Int} {m:Mb} (h:fE l no=some m):m∈l/\m.1=no:=by
 refine ⟨List.mem_of_find?_eq_some h,?_⟩
 have:=List.find?_some h
 exact ap9 this
theorem Dl {l:List Mb} (h:Rg l) {m:Mb} (hm:m∈l):fE l m.1=some m:=by
 cases hf:fE l m.1 with
 |none=>
  unfold fE at hf
  have:=List.find?_eq_none.1 hf m hm
  simp at this
 |some x=>
  obtain ⟨h1,h2⟩:=sf hf
  rw [h.no h1 hm h2]
theorem DF {l:List Mb} {no:Int}:fE l no=none∨∃ m,fE l no=some m/\m∈l/\m.1=no:=by
 cases h:fE l no with
 |none=>exact .inl rfl
 |some m=>exact .inr ⟨m,rfl,sf h⟩
def iy (l:List Mb) (no:Int):Int:=bif c8 l then (match fE l no with|some _=>0|none=>6) else 1
def fJ (l:List Mb) (no:Int):Mb:=bif c8 l then (fE l no).getD aS else aS
def o8 (l:List Mb) (no:Int):Mb:=(fE l no).getD fj
theorem wj {l:List Mb} (no:Int) (h:c8 l=false):iy l no=1/\fJ l no=aS:=by unfold iy fJ;rw [h];exact ⟨rfl,rfl⟩
theorem oL {l:List Mb} {no:Int} {m:Mb} (h:c8 l=true) (hf:fE l no=some m):iy l no=0/\fJ l no=m:=by unfold iy fJ;rw [h,hf];exact ⟨rfl,rfl⟩
theorem uv {l:List Mb} {no:Int} (h:c8 l=true) (hf:fE l no=none):iy l no=6/\fJ l no=aS:=by unfold iy fJ;rw [h,hf];exact ⟨rfl,rfl⟩
theorem Ph (l:List Mb) (no:Int):(c8 l=false/\iy l no=1/\fJ l no=aS)∨(c8 l=true/\fE l no=none/\iy l no=6/\fJ l no=aS)∨(c8 l=true/\fE l no=some (fJ l no)/\iy l no=0/\fJ l no∈l/\(fJ l no).1=no):=by
 cases h:c8 l with
 |false=>exact .inl ⟨rfl,wj no h⟩
 |true=>
  cases hf:fE l no with
  |none=>exact .inr (.inl ⟨rfl,rfl,uv h hf⟩)
  |some m=>
   obtain ⟨h1,h2⟩:=oL h hf
   obtain ⟨h3,h4⟩:=sf hf
   exact .inr (.inr ⟨rfl,by rw [h2],h1,by rw [h2];exact h3,by rw [h2];exact h4⟩)
theorem LN {l:List Mb} {no:Int} (h:iy l no=0):c8 l=true/\Rg l/\fE l no=some (fJ l no)/\fJ l no∈l/\(fJ l no).1=no:=by
 rcases Ph l no with h9|h9|h9
 ·omega
 ·omega
 ·exact ⟨h9.1,(lH l).1 h9.1,h9.2.1,h9.2.2.2⟩
def Bm (l:List Mb):Int:=bif c8 l then (bif decide (l.length=0) then 6 else 0) else 1
def wC (l:List Mb) (x:Id):Mb:=bif c8 l then (bif decide (l.length=0) then aS else xC l x) else aS
theorem Db {l:List Mb} (x:Id) (h:c8 l=false):Bm l=1/\wC l x=aS:=by unfold Bm wC;rw [h];exact ⟨rfl,rfl⟩
theorem Az {l:List Mb} (x:Id) (h:c8 l=true) (h0:l.length=0):Bm l=6/\wC l x=aS:=by unfold Bm wC;rw [h,aq2 h0];exact ⟨rfl,rfl⟩
theorem B7 {l:List Mb} (x:Id) (h:c8 l=true) (h0:¬ l.length=0):Bm l=0/\wC l x=xC l x:=by unfold Bm wC;rw [h,aq1 h0];exact ⟨rfl,rfl⟩
def Dd (l:List Mb) (x:Id):Nat->Mb
 |0=>fj
 |k+1=>gc (ld x) l k
theorem KT {l:List Mb} {x:Id} (h0:¬ l.length=0):Dd l x l.length=xC l x:=by
 obtain ⟨k,hk⟩:∃ k,l.length=k+1:=⟨l.length - 1,by omega⟩
 unfold xC
 rw [hk];rfl
theorem Ju {f:Mb->Nat} {l:List Mb} {k:Nat} (h:f (l.getD (k+1) aS)<f (gc f l k)):gc f l (k+1)=l.getD (k+1) aS:=by
 show (bif _ then _ else _)=_;rw [aq2 h];rfl
theorem P3 {f:Mb->Nat} {l:List Mb} {k:Nat} (h:¬ f (l.getD (k+1) aS)<f (gc f l k)):gc f l (k+1)=gc f l k:=by
 show (bif _ then _ else _)=_;rw [aq1 h];rfl
theorem M9 {f:Mb->Nat} {l:List Mb} {k:Nat} (h:f (ku f l k)<f (l.getD (k+1) aS)):ku f l (k+1)=l.getD (k+1) aS:=by
 show (bif _ then _ else _)=_;rw [aq2 h];rfl
theorem Vw {f:Mb->Nat} {l:List Mb} {k:Nat} (h:¬ f (ku f l k)<f (l.getD (k+1) aS)):ku f l (k+1)=ku f l k:=by
 show (bif _ then _ else _)=_;rw [aq1 h];rfl
theorem Ej (s x y:Id):decide (eW (x - s) (y - s)<0)=decide (fd s x<fd s y):=ar3.2 (Lq _ _)
theorem MU (s x y:Id):decide (0<eW (x - s) (y - s))=decide (fd s y<fd s x):=ar3.2 (Jp _ _)
def F3 (l:List Mb) (no:Int):Mb:=bif decide (iy l no=0) then oI l (fJ l no) else aS
theorem Ht {l:List Mb} {no:Int} (h:iy l no=0):F3 l no=oI l (fJ l no):=by unfold F3;rw [aq2 h];rfl
theorem Sk {l:List Mb} {no:Int} (h:¬ iy l no=0):F3 l no=aS:=by unfold F3;rw [aq1 h];rfl
def jz (l:List Mb) (m:Mb):Nat->Mb
 |0=>m
 |k+1=>fV l (jz l m k)
theorem oE {l:List Mb} {m:Mb} (hm:m∈l):∀ k,jz l m k∈l
 |0=>hm
 |k+1=>md (oE hm k)
def eV (l:List Mb) (m:Mb) (k:Nat):List Mb:=(List.range k).map λi=>jz l m (i+1)
theorem jl (l:List Mb) (m:Mb) (k:Nat):(eV l m k).length=k:=by simp [eV]
theorem jN (l:List Mb) (m:Mb) (k:Nat):eV l m (k+1)=eV l m k++[jz l m (k+1)]:=by simp [eV,List.range_succ]
theorem D3 (l:List Mb) (m:Mb) {i k:Nat} (h:i<k):(eV l m k).getD i aS=jz l m (i+1):=by
 rw [← u3 (by rw [jl];exact h)];simp [eV]
def fW (s:Id) (l:List Mb):List Mb:=l.mergeSort λx y=>decide (fd s x.2<=fd s y.2)
theorem P4 (s:Id):fW s []=[]:=by unfold fW;rw [List.mergeSort_nil]
theorem gU (s:Id) (l:List Mb):(fW s l).Perm l:=List.mergeSort_perm _ _
theorem ky (s:Id) (l:List Mb):(fW s l).length=l.length:=(gU s l).length_eq
theorem sd (s:Id) (l:List Mb):(fW s l).Pairwise λx y=>fd s x.2<=fd s y.2:=by
 have:=List.pairwise_mergeSort (le:=λx y:Mb=>decide (fd s x.2<=fd s y.2)) (λa b c h1 h2=>aq2 (av5 (ap9 h1) (ap9 h2))) (λa b=>by
  by_cases h:fd s a.2<=fd s b.2
  ·simp [h]
  ·simp [h];omega) l
 exact this.imp λh=>ap9 h
theorem UN {l:List Mb} (h:Rg l) (s:Id):Rg (fW s l):=
 ⟨by rw [ky];exact h.len,λm hm=>h.nos m ((gU s l).mem_iff.1 hm),h.nd.perm (gU s l).symm λh9=>⟨h9.1.symm,h9.2.symm⟩⟩
theorem SQ {l r:List Mb} (h:Rg l) (s:Id) (hp:r.Perm l) (hs:r.Pairwise λx y=>fd s x.2<=fd s y.2):r=fW s l:=by
 refine List.Perm.eq_of_pairwise (le:=λx y:Mb=>fd s x.2<=fd s y.2) (λa b ha hb h1 h2=>?_) hs (sd s l) (hp.trans (gU s l).symm)
 exact h.id (hp.mem_iff.1 ha) ((gU s l).mem_iff.1 hb) (qd (s:=s) (by omega))
theorem xT {l:List Mb} (h:Rg l) (s:Id) {i j:Nat} (hij:i<j) (hj:j<l.length):fd s ((fW s l).getD i aS).2<fd s ((fW s l).getD j aS).2:=by
 have hl:=ky s l
 have h1:=List.pairwise_iff_getElem.1 (sd s l) i j (by omega) (by omega) hij
 have h2:=List.pairwise_iff_getElem.1 (UN h s).nd i j (by omega) (by omega) hij
 rw [u3 (by omega),u3 (by omega)] at h1 h2
 have h3:=WJ (s:=s) h2.2
 omega
theorem J8 {l:List Mb} (h:Rg l) (s:Id) {i:Nat} (hi:i<l.length):fV l ((fW s l).getD i aS)=(fW s l).getD ((i+1) % l.length) aS:=by
 have hl:=ky s l
 have hmem:∀ j,j<l.length->(fW s l).getD j aS∈l:=λj hj=>(gU s l).mem_iff.1 (fL (by omega))
 have hmod:=ax6 (i+1) (show 0<l.length by omega)
 refine Tk h (hmem i hi) (hmem _ hmod) λy hy hne=>?_
 obtain ⟨j,hj,rfl⟩:=mC ((gU s l).mem_iff.2 hy)
 have hji:j≠i:=λe=>hne (by rw [e])
 have hjl:j<l.length:=by omega
 have hx:∀ p q,p<l.length->q<l.length->p<q->fd s ((fW s l).getD p aS).2<fd s ((fW s l).getD q aS).2:=λp q _ hq hpq=>xT h s hpq hq
 by_cases hlast:i+1<l.length
 ·rw [Nat.mod_eq_of_lt hlast]
  have h1:=hx i (i+1) hi hlast (by omega)
  refine ⟨λe=>by rw [e] at h1;omega,?_⟩
  have k1:=tQ s ((fW s l).getD i aS).2 ((fW s l).getD (i+1) aS).2
  have k2:=tQ s ((fW s l).getD i aS).2 ((fW s l).getD j aS).2
  have k3:=om s ((fW s l).getD (i+1) aS).2
  rcases Nat.lt_or_gt_of_ne hji with hlt|hgt
  ·have h2:=hx j i hjl hi hlt
   omega
  ·by_cases hj1:j=i+1
   ·subst hj1;exact as1 _
   ·have h2:=hx (i+1) j hlast hjl (by omega)
    omega
 ·have hil:i+1=l.length:=by omega
  rw [hil,Nat.mod_self]
  have hj0:j<i:=by omega
  have h1:=hx 0 i (by omega) hi (by omega)
  refine ⟨λe=>by rw [e] at h1;omega,?_⟩
  have k1:=tQ s ((fW s l).getD i aS).2 ((fW s l).getD 0 aS).2
  have k2:=tQ s ((fW s l).getD i aS).2 ((fW s l).getD j aS).2
  have h2:=hx j i hjl hi hj0
  by_cases hj00:j=0
  ·subst hj00;exact as1 _
  ·have h3:=hx 0 j (by omega) hjl (by omega)
   omega
theorem yM {l:List Mb} (h:Rg l) {m:Mb} (hm:m∈l):(fW m.2 l).getD 0 aS=m:=by
 obtain ⟨j,hj,he⟩:=mC ((gU m.2 l).mem_iff.2 hm)
 by_cases h0:j=0
 ·subst h0;exact he
 ·have:=xT h m.2 (i:=0) (j:=j) (by omega) (by rw [← ky m.2 l];exact hj)
  rw [he,rp] at this
  omega
theorem kY {l:List Mb} (h:Rg l) {m:Mb} (hm:m∈l):∀ k,(fW m.2 l).getD (k % l.length) aS=jz l m k
 |0=>by rw [Nat.zero_mod];exact yM h hm
 |k+1=>by
  have hp:=gP hm
  show _=fV l (jz l m k)
  rw [← kY h hm k,J8 h m.2 (ax6 _ hp),Nat.mod_add_mod]
theorem Kq {l:List Mb} (h:Rg l) {m:Mb} (hm:m∈l):jz l m l.length=m:=by
 rw [← kY h hm l.length,Nat.mod_self];exact yM h hm
theorem PO {l:List Mb} (h:Rg l) {m:Mb} (hm:m∈l) {i j:Nat} (hij:i<j) (hj:j<i+l.length):jz l m i≠jz l m j:=λe=>by
 have hp:=gP hm
 rw [← kY h hm i,← kY h hm j] at e
 have h1:=ax6 i hp
 have h2:=ax6 j hp
 have hne:i % l.length≠j % l.length:=λe9=>by
  have h3:=Nat.div_add_mod i l.length
  have h4:=Nat.div_add_mod j l.length
  rcases Nat.lt_trichotomy (i / l.length) (j / l.length) with h5|h5|h5
  ·have h6:l.length*(i / l.length)+l.length<=l.length*(j / l.length):=by
    have:=Nat.mul_le_mul_left l.length (show i / l.length+1<=j / l.length from h5)
    rwa [Nat.mul_add,Nat.mul_one] at this
   omega
  ·rw [h5] at h3;omega
  ·have h6:l.length*(j / l.length)<=l.length*(i / l.length):=Nat.mul_le_mul_left _ (Nat.le_of_lt h5)
   omega
 rcases Nat.lt_or_gt_of_ne hne with h5|h5
 ·have:=xT h m.2 h5 h2;rw [e] at this;omega
 ·have:=xT h m.2 h5 h1;rw [e] at this;omega
def q8 (l:List Mb) (no many:Int):Int:=bif decide (many<0) || decide (16<many) then 1 else iy l no
def uD (l:List Mb) (no many:Int):List Mb:=bif decide (q8 l no many=0) then eV l (fJ l no) many.toNat else []
theorem rC {l:List Mb} {no many:Int} (h:many<0∨16<many):q8 l no many=1/\uD l no many=[]:=by
 have h1:q8 l no many=1:=by unfold q8;rcases h with h|h<;>simp [h]
 exact ⟨h1,by unfold uD;rw [h1];rfl⟩
theorem zb {l:List Mb} {no many:Int} (h0:0<=many) (h1:many<=16):q8 l no many=iy l no:=by
 unfold q8;rw [aq1 (by omega),aq1 (by omega)];rfl
theorem MO {l:List Mb} {no many:Int} (h:¬ q8 l no many=0):uD l no many=[]:=by unfold uD;rw [aq1 h];rfl
theorem IA {l:List Mb} {no many:Int} (h:q8 l no many=0):uD l no many=eV l (fJ l no) many.toNat:=by unfold uD;rw [aq2 h];rfl
section
variable {P:Program} {ops:List Oper} {K:Act->World->Prop} {l:List Oper} {a:Act} {w:World} {N:Nat} {L:List (Nat × Value)} {Df:List Deferred} {d:Tmp} {ty:TypeId} {pos:String} {af:Array Edge}
theorem je {f:FuncId} {caps:List Value} {cal:Operand} {args:Array Operand} {tys:Array TypeId} (vs:List Value) {X:Value} (h:Sl N a L Df) (hf:Fnc P f) (hc:ec L cal=some (.func (.func f) #[] caps.toArray))
 (hC:∀ w',Ext w w'->Calls P f (vs++caps).toArray w' (bW w' (is X))) (hvs:args.toList.map (ec L)=vs.map some) (hd:Nat.blt d N=true)
 (k:∀ a',Sl N a' ((d,X)::L) Df->ip P ops.toArray K w l a'):
 ip P ops.toArray K w (⟨some d,.call {callee:=.value cal,args:=args,argTypes:=tys},ty,pos,af,none⟩::l) a:=
 j8 X h (λw' hE=>nv hf (h.ev hc) (lL h hvs) (by rw [show vs.toArray++caps.toArray=(vs++caps).toArray from by simp];exact hC w' hE)) hd k
end
section
variable {P:Program} {a:Act} {w w0:World} {N:Nat} {L:List (Nat × Value)} {B:List Own} {fn:Func}
theorem tU {T:cX} {t:Tmp} {V:Value} {D:Nat} (j:Nat) (hres:fn.results=#[.tmp t]) (h:Sl N a L [{target:=.collected D,args:=#[]}]) (s:St w0 B w) (hv:lk L t=some V)
 (hj:B[j]? = some (.blk D (.deferred (some [])))) (hT:∀ w',St w0 (B.set j (.blk D (.deferred none))) w'->T V w'):bodyPostM (FR none) 0 P fn (bW w0 T) .ret a w:=by
 show LeavesInM (FR none) 0 P fn a.tmps (bW w0 T) a.defers .returning w
 rw [h.defers]
 have s2:=s.putObj j hj (.deferred none)
 exact ⟨by simp,.inl ⟨D,_,rfl,run_takeDeferred (s.get j hj),V,by rw [results_tmp hres,h.holds t V hv],V,rfl,hT _ s2,s2.ext⟩⟩
end
theorem wc (a:Id):(aJ a).extract 0 (0+32)=aJ a:=by
 apply Array.ext'
 rw [Array.toList_extract,List.extract_eq_take_drop,List.drop_zero,Nat.zero_add,Nat.sub_zero]
 exact as9 (by simp)
theorem PG {m x:Mb} (h:decide (x.1=m.1)=true):li m x=true:=by unfold li;rw [h];rfl
theorem M4 {m x:Mb} (h:decide (x.1=m.1)=false):li m x=decide (x.2=m.2):=by unfold li;rw [h];rfl
theorem qO {l:List Mb} {d:Nat} (hd:d<l.length):l.take (d+1)=l.take d++[l.getD d aS]:=by rw [List.take_succ_eq_append_getElem hd,u3 hd]
theorem Hc {l r:List Mb} {k:Nat} (h:∀ j,j<k->l.getD j aS=r.getD j aS) (he:l.getD k aS=r.getD k aS):∀ j,j<k+1->l.getD j aS=r.getD j aS:=λj hj=>by
 by_cases h1:j<k
 ·exact h j h1
 ·obtain rfl:j=k:=by omega
  exact he
theorem Qk {l r:List Mb} (hl:l.length=r.length) (h:∀ j,j<l.length->l.getD j aS=r.getD j aS):l=r:=by
 apply List.ext_getElem hl
 intro i h1 h2
 rw [u3 h1,u3 h2,h i h1]
section
variable {P:Program} {ops:Array Oper} {Q:Act->World->Prop} {l:List Oper} {a:Act} {w w0:World} {N:Nat} {L:List (Nat × Value)} {Df:List Deferred} {B:List Own} {d:Tmp} {ty:TypeId} {pos:String} {af:Array Edge} {x y:Operand} {t e:TypeId}
theorem FH {sz by_ n:Nat} {m:Int} {z:Value} {xs:List Value} (h:Sl N a L Df) (s:St w0 B w) (ht:P.underlying t=some (.slice e)) (E:Elm P e sz by_) (hz:(P.info? e).bind (·.zero)=some z) (hx:ec L x=some (.int .i64 m)) (hy:ec L y=some (.int .i64 m)) (hm:m=(n:Int)) (hb:by_*n<=281474976710656) (hn:n<=maxLen)
 (hxs:(madeCells z.cells (n*sz)).toList=xs) (hl:xs.length=n*sz) (hd:Nat.blt d N=true)
 (k:∀ a' w' v',Sl N a' ((d,v')::L) Df->St w0 (.sl v' e sz n xs::B) w'->ce P ops Q l a' w'):ce P ops Q (⟨some d,.makeSlice t x y,ty,pos,af,none⟩::l) a w:=by
 subst hm
 obtain ⟨i,z',h1,h2,h3,h4,h5⟩:=E.info
 have hzz:z'=z:=by rw [h1] at hz;simp only [Option.bind_some] at hz;exact av9 (h2.symm.trans hz)
 subst hzz
 have hmx:maxLen<=9223372036854775807:=by unfold maxLen;omega
 have hr:=run_make (P:=P) w t e i _ ht h1 h2 .i64 .i64 (n:Int) (n:Int) (by omega) (Int.le_refl _) (by rw [h4];omega) (by omega)
 simp only [Int.toNat_natCast,h3] at hr
 refine dR h (R:=λv w'=>v=.slice (some ⟨w.heap.size,0,none⟩) n n/\w'=w.alloc (.cells (madeCells z'.cells (n*sz)) e)) ?_ hd λa' w' v ⟨hv,hw⟩ h'=>by
  subst hv;subst hw
  refine k _ _ _ h' (s.plus ((Ext.refl w).alloc _) _ ⟨hl,.inr ⟨w.heap.size,n,_,(0,0),rfl,s.ext.le,heap_alloc_new w _,.inl rfl,as1 _,hn,?_,?_⟩⟩ λk hk=>?_)
  ·rw [← ar2,hxs,hl]
  ·rw [hxs,← hl,List.take_length]
  ·rw [Own.at_sl] at hk;simp [Value.ownBlock] at hk;omega
 simp [cL,execOp,h.ev hx,h.ev hy,hr,Result.andThen]
theorem fX {v:Value} {sz n:Nat} {xs ys:List Value} {D:Array Value} (i j:Nat) (h:Sl N a L Df) (s:St w0 B w) (hr:Row P t sz) (hx:ec L x=some (.pointer (some (bf v (j*sz))))) (hy:ec L y=some (.agg D)) (hi:B[i]? = some (.sl v e sz n xs)) (hD:D.size=sz) (hj:j<n) (hv:∀ u∈D.toList,u.oneCell'=true)
 (hys:xs.take (j*sz)++D.toList++xs.drop (j*sz+sz)=ys)
 (k:∀ w',St w0 (B.set i (.sl v e sz n ys)) w'->ce P ops Q l a w'):ce P ops Q (⟨none,.store t x y,ty,pos,af,none⟩::l) a w:=by
 have ho:=s.getSl i hi
 rcases ho.2 with ⟨_,h0⟩|⟨g,cap,cur,fz,rfl,hb,hg,hfz,hnc,hcm,hcs,htk⟩
 ·omega
 ·have hle:j*sz+sz<=n*sz:=by
   have:=Nat.mul_le_mul_right sz (show j+1<=n from hj)
   rwa [Nat.add_mul,Nat.one_mul] at this
  have hcl:n*sz<=cur.size:=by rw [hcs];exact Nat.mul_le_mul_right _ hnc
  have hxl:xs.length=n*sz:=ho.1
  have hcx:cur.toList=xs++cur.toList.drop (n*sz):=by rw [← htk];exact(as7 _ _).symm
  have hyl:ys.length=n*sz:=by
   rw [← hys];simp only [aq7,au0,at2,ar2];omega
  have hnew:cur.toList.take (j*sz)++D.toList++cur.toList.drop (j*sz+D.size)=ys++cur.toList.drop (n*sz):=by
   rw [← hys,hD]
   conv=>lhs;rw [hcx]
   rw [List.take_append_of_le_length (by omega),List.drop_append_of_le_length (by omega)]
   simp only [av3]
  have hst:(storeVar t ⟨g,j*sz,none⟩ (.agg D)).run P w=.ok () (w.setRow g (ys++cur.toList.drop (n*sz)).toArray):=by
   have hs:(sizeOf t).run P w=.ok D.size w:=by
    cases hq:P.info? t with
    |none=>have:=hr.size;simp [hq] at this
    |some i=>have:=hr.size;simp [hq] at this;simp [sizeOf,typeInfo,au7,hq,this,hD]
   have:=dl P g (j*sz) e fz D.toList 0 cur w hg hfz (by rw [ar2];omega) hv
   simp only [Nat.add_zero,ar2] at this
   rw [hnew] at this
   simp [storeVar,au7,hs,Value.cells,this]
  have hsz:(ys++cur.toList.drop (n*sz)).toArray.size=cur.size:=by
   rw [List.size_toArray,aq7,at2,hyl];have:=ar2 (xs:=cur);omega
  refine ji (R:=λ_ w'=>w'=w.setRow g (ys++cur.toList.drop (n*sz)).toArray) ?_ λw' _ hw=>by
   subst hw
   refine k _ (s.upd i hi (p':=.sl _ e sz n ys) rfl rfl rfl (by simp) ⟨hyl,.inr ⟨g,cap,_,fz,rfl,hb,setRow_heap w g cur _ e fz hg,?_,hnc,hcm,?_,?_⟩⟩ (λk hk=>.inl hk) (λk hk hne=>setRow_other w g k _ λe9=>hne (Own.at_sl.2 (by simp [Value.ownBlock,e9]))))
   ·rw [hsz];exact hfz
   ·rw [hsz];exact hcs
   ·show (ys++cur.toList.drop (n*sz)).take (n*sz)=ys
    rw [← hyl];exact List.take_left
  unfold cL
  have hel:(some (bf (Value.slice (some ⟨g,0,none⟩) n cap) (j*sz)):Option Addr)=some ⟨g,j*sz,none⟩:=by show some (Addr.add _ _)=_;rw [Addr.add_lit,Nat.zero_add]
  rw [hel] at hx
  simp only [execOp,h.ev hx,h.ev hy,Instr.storeAt,Instr.sureAddr,au7,au8,aq9,hst]
end
theorem ID {l:List Mb} {j:Nat} (x:Mb) (hj:j<l.length):(aj l).take (j*33)++(ar x).toList++(aj l).drop (j*33+33)=aj (l.set j x):=by
 have h1:(aj l).take (j*33)=aj (l.take j):=by unfold aj;rw [gE _ 33 cf]
 have h2:(aj l).drop (j*33+33)=aj (l.drop (j+1)):=by
  have:=aq3 (List.drop ((j+1)*33)) (fu (l.take (j+1)) (l.drop (j+1)))
  rw [as7,List.drop_left' (by rw [fo,au0,Nat.min_eq_left (by omega)])] at this
  rw [← this];congr 1;omega
 rw [h1,h2,← gX,← fu,← fu,List.set_eq_take_append_cons_drop,if_pos hj,av3,List.singleton_append]
theorem yK (z:Array Value):(List.range z.size).map (λi=>z[i]!)=z.toList:=by
 apply List.ext_getElem
 ·simp
 ·intro i h1 h2
  have h3:i<z.size:=by simpa using h1
  rw [List.getElem_map,List.getElem_range,getElem!_pos z i h3,Array.getElem_toList]
theorem Fp (z:Array Value) (n:Nat):(madeCells z (n*z.size)).toList=(List.replicate n z.toList).flatten:=by
 unfold madeCells
 rw [Array.toList_map,Array.toList_range]
 induction n with
 |zero=>simp
 |succ n ih=>
  rw [Nat.succ_mul,List.range_add,ax5,ih,List.map_map,List.replicate_succ',List.flatten_append]
  congr 1
  have h9:(List.range z.size).map ((λi=>z[i % z.size]!) ∘ λi=>n*z.size+i)=(List.range z.size).map λi=>z[i]! := by
   apply List.map_congr_left
   intro i hi
   have hi:=ar7.1 hi
   show z[(n*z.size+i) % z.size]! = z[i]!
   rw [Nat.add_comm,Nat.add_mul_mod_self_right,Nat.mod_eq_of_lt hi]
  rw [h9,yK];simp
theorem Ms (n:Nat):(madeCells (Value.agg (ar aS)).cells (n*33)).toList=aj (List.replicate n aS):=by
 have h:=Fp (ar aS) n
 rw [ae] at h
 refine h.trans ?_
 unfold aj
 rw [List.flatMap_def,List.map_replicate]
 rfl
def r4 (l:List Mb) (m:Mb) (n k:Nat):List Mb:=eV l m k++List.replicate (n - k) aS
theorem um (l:List Mb) (m:Mb) {n k:Nat} (h:k<=n):(r4 l m n k).length=n:=by
 unfold r4;rw [aq7,jl,List.length_replicate];omega
theorem FB (l:List Mb) (m:Mb) (n:Nat):r4 l m n 0=List.replicate n aS:=rfl
theorem KX (l:List Mb) (m:Mb) (n:Nat):r4 l m n n=eV l m n:=by unfold r4;simp
theorem GQ (l:List Mb) (m:Mb) {n k:Nat} (h:k<n):(r4 l m n k).set k (jz l m (k+1))=r4 l m n (k+1):=by
 unfold r4
 obtain ⟨r,hr⟩:∃ r,n - k=r+1:=⟨n - k - 1,by omega⟩
 rw [hr,List.replicate_succ,List.set_append_right _ _ (by rw [jl];exact as1 _),jl,Nat.sub_self,List.set_cons_zero,jN,show n - (k+1)=r from by omega]
 simp
theorem ES (n:Int):∀ (es:List MapEntry) (i:Nat),(∀ e∈es,∃ m:Int,m≠n/\e.key=.int .i64 m)->Instr.findNow (.int .i64) (.int .i64 n) es i=some none
 |[],_,_=>rfl
 |e::es,i,h=>by
  obtain ⟨m,hm,he⟩:=h e ar5
  have ih:=ES n es (i+1) λe9 h9=>h e9 (as5 _ h9)
  unfold Instr.findNow
  have hs:Instr.sameNow (.int .i64) (.int .i64 n) (.int .i64 m)=some false:=by
   simp only [Instr.sameNow,if_true]
   congr 1
   rw [beq_eq_false_iff_ne];exact λe9=>hm e9.symm
  rw [he]
  simp only [hs,ih]
section
variable {P:Program} {ops:Array Oper} {Q:Act->World->Prop} {l:List Oper} {a:Act} {w w0:World} {N:Nat} {L:List (Nat × Value)} {Df:List Deferred} {B:List Own} {d:Tmp} {ty:TypeId} {pos:String} {af:Array Edge} {x y z:Operand} {t kt et:TypeId}
end
theorem wW {l:List Mb} (h:Rg l) {m:Mb} (hm:m∈l):iy l m.1=0/\fJ l m.1=m:=oL ((lH l).2 h) (Dl h hm)
theorem UG {l:List Mb} (h:Rg l) {m:Mb} (hm:m∈l):F3 l m.1=oI l m:=by rw [Ht (wW h hm).1,(wW h hm).2]
theorem TO {l:List Mb} (h:Rg l) {m:Mb} (hm:m∈l) {n:Nat} (hn:n<=16):q8 l m.1 n=0/\uD l m.1 n=eV l m n:=by
 have h1:q8 l m.1 n=0:=(zb (by omega) (by omega)).trans (wW h hm).1
 exact ⟨h1,by rw [IA h1,(wW h hm).2,Int.toNat_natCast]⟩
theorem ri {w:World} {b:Nat} {M:TypeId} {vs:Value} {r r':List Mb} {e e':Int} (hr:r'=r) (he:e'=e) (o:cd w b M 33 vs r.length (aj r)):∃ v8,Value.tuple #[vs,.int .i64 e]=.tuple #[v8,.int .i64 e']/\cd w b M 33 v8 r'.length (aj r'):=by
 subst hr;subst he;exact ⟨vs,rfl,o⟩
theorem NB {l:List Mb} {no many:Int} {m:Nat} (hm:many=(m:Int)) (h:q8 l no many=iy l no) (h0:iy l no=0):uD l no many=eV l (fJ l no) m:=by rw [IA (h.trans h0),hm,Int.toNat_natCast]
end Go.Proofs.YthmlflaiidhoiaaGreatDoor
namespace Go.Proofs.YthmlflaiidhoiaaGreatDoor
open Go.RowKit Go.ChangeShapes Go.WideShapes Go.ChangeAt
theorem sX {H:Type} {enc:TypeId × Value->H} {P:Program} {w:World} {base:Nat} {spare:Nat->Bool} {held:Bool} {t tn ti e:TypeId} {f0 f1:Field} {fuel:Nat} {cs:List Value} {x:DataW H × List MemPlace} (T:IdTy P ti e) (hc:P.cellsOf ti=32) (hce:P.cellsOf e=1) (hn:P.underlying tn=some (.int .i64)) (hcn:P.cellsOf tn=1)
 (ht:P.underlying t=some (.struct #[f0,f1])) (h0:f0.type=tn) (h1:f1.type=ti) (o0:f0.offset=0) (o1:f1.offset=1) (hct:P.cellsOf t=33) (h:DataW.trod enc P w base spare held fuel t cs=some x):∃ l:Mb,cs=(ar l).toList:=by
 obtain ⟨xs,n,rfl,_,hl,hxl,hel⟩:=DataW.trod_struct ht h
 rw [hct] at hl
 have hx2:xs.length=2:=by simpa using hxl
 have e0:=hel 0 f0 rfl
 have e1:=hel 1 f1 rfl
 rw [h0,o0,hcn,aq8 (by omega)] at e0
 rw [h1,o1,hc,aq8 (by omega)] at e1
 obtain ⟨k,hk,_⟩:=DataW.trod_int hn e0
 obtain ⟨a,ha⟩:=lg T hc hce e1
 refine ⟨(k,a),?_⟩
 rw [nh,← ha]
 have hdrop:(cs.drop 1).take 32=cs.drop 1:=as9 (by rw [at2];omega)
 have hsplit:cs=(cs.drop 0).take 1++cs.drop 1:=by
  rw [List.drop_zero,as7]
 rw [hk] at hsplit
 rw [hdrop]
 exact hsplit
def btw (s9 t9:Id) (x:Mb):Bool:=decide (x.2≠t9) && (decide (x.2≠s9) && xq x.2 s9 t9)
def csS (s9:Id) (p:Mb × Id) (m:Mb):Mb × Id:=bif decide (p.2.toNat<fd s9 m.2) then (m,m.2 - s9) else p
def csK (s9:Id) (r:List Mb):Mb × Id:=r.foldl (csS s9) (aS,0#256)
abbrev onW (s9 t9:Id) (l:List Mb):List Mb:=l.filter (btw s9 t9)
def csE (s9 t9:Id) (l:List Mb):Int:=bif (onW s9 t9 l).isEmpty then 6 else 0
def csM (s9 t9:Id) (l:List Mb):Mb:=(csK s9 (onW s9 t9 l)).1
section
variable {P:Program} {a:Act} {w w0:World} {N:Nat} {L:List (Nat × Value)} {B:List Own} {fn:Func} {T:cX} {R:Ending->World->Prop}
theorem GZ {f:FuncId} {c:Code} {args:List Value} {n:Nat} (hf:P.funcs[f]? = some fn) (hb:fn.body=some c) (hn:fn.ntmps=n) (hs:Nat.ble args.length n=true) (L:List (Nat × Value)) (hL:∀ p∈L,args[p.1]? = some p.2)
 (h:∀ a,Sl n a L->c.wpIn (FR none) 0 P (bodyPostM (FR none) 0 P fn R) a w):Calls P f args.toArray w R:=by
 refine callsIn_wide.1 (callsIn_of_wp_marks (n:=0) hf hb trivial ?_)
 rw [hn]
 exact h _ (Sl.enter L (by simpa using hs) (by simpa using hL))
theorem wU {D:Nat} (j:Nat) (hres:fn.results=#[]) (h:Sl N a L [{target:=.collected D,args:=#[]}]) (s:St w0 B w)
 (hj:B[j]? = some (.blk D (.deferred (some [])))) (hR:∀ w',St w0 (B.set j (.blk D (.deferred none))) w'->R (.returned (.tuple #[])) w'):bodyPostM (FR none) 0 P fn R .normal a w:=by
 show LeavesInM (FR none) 0 P fn a.tmps R a.defers .returning w
 rw [h.defers]
 have s2:=s.putObj j hj (.deferred none)
 exact ⟨by simp,.inl ⟨D,_,rfl,run_takeDeferred (s.get j hj),_,results_none hres _ _ _,hR _ s2⟩⟩
end
theorem a7.elF {w:World} {v:Value} {sz n:Nat} {xs:List Value} (h:a7 w v sz n xs) (j off m:Nat) (hj:j<n) (hz:0<sz) {C D:Array Value} (hC:((xs.drop (j*sz)).take sz).toArray=C) (hD:C.extract off (off+m)=D):aX w (bf v (j*sz+off)) D:=by
 have h1:=(h.el j hj hz hC).sub off m hD
 obtain ⟨p,q,c,rfl⟩:=h.some (by omega)
 have e:(bf (.slice (Option.some p) q c) (j*sz)).add off=bf (.slice (Option.some p) q c) (j*sz+off):=l4 _ _ _
 rwa [e] at h1
theorem z6 (l:List Mb) (j:Nat) (hj:j<l.length):(aj l)[j*33+0]? = some (.int .i64 (l.getD j aS).1):=by
 have h1:=aq3 (λa:Array Value=>a[0]?) (dI l j hj)
 simp only [bH] at h1
 rw [← h1]
 simp
end Go.Proofs.YthmlflaiidhoiaaGreatDoor
