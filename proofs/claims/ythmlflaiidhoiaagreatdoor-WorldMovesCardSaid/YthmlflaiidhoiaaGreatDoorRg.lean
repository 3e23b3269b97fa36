/- Members on the ring, and the closest of them; members that come in. -/
import Derived.Test.YthmlflaiidhoiaaGreatDoorEm
set_option linter.unusedVariables false
set_option linter.unusedSimpArgs false
set_option linter.unusedSectionVars false
namespace Go.Proofs.YthmlflaiidhoiaaGreatDoor
open Go.RowKit
def NN:Nat:=2 ^ 256
def fd (s x:Id):Nat:=(x - s).toNat
theorem q8 (s x:Id):fd s x<NN:=(x - s).isLt
theorem zP (x:Id):x.toNat<NN:=x.isLt
theorem kF (s x:Id):(s.toNat<=x.toNat/\fd s x+s.toNat=x.toNat)∨(x.toNat<s.toNat/\fd s x+s.toNat=NN+x.toNat):=by
 have h1:=zP s
 have h2:=zP x
 have h3:fd s x=(NN - s.toNat+x.toNat) % NN:=BitVec.toNat_sub ..
 by_cases h:s.toNat<=x.toNat
 ·refine .inl ⟨h,?_⟩
  have h4:NN - s.toNat+x.toNat=(x.toNat - s.toNat)+NN:=by omega
  rw [h3,h4,Nat.add_mod_right,Nat.mod_eq_of_lt (by omega)]
  omega
 ·refine .inr ⟨by omega,?_⟩
  rw [h3,Nat.mod_eq_of_lt (by omega)]
  omega
theorem yF (s:Id):fd s s=0:=by
 have h1:=q8 s s
 have h2:=zP s
 rcases kF s s with h|h<;>omega
theorem x5 {s x y:Id} (h:fd s x=fd s y):x=y:=by
 have h1:=kF s x
 have h2:=kF s y
 have h3:=zP x
 have h4:=zP y
 exact BitVec.eq_of_toNat_eq (by omega)
theorem O7 {s x:Id} (h:fd s x=0):x=s:=x5 (h.trans (yF s).symm)
theorem aa1 {s x y:Id} (h:x≠y):fd s x≠fd s y:=λe=>h (x5 e)
theorem zQ (s a x:Id):(fd s a<=fd s x/\fd a x+fd s a=fd s x)∨(fd s x<fd s a/\fd a x+fd s a=NN+fd s x):=by
 have h1:=kF s a
 have h2:=kF s x
 have h3:=kF a x
 have l1:=q8 s a
 have l2:=q8 s x
 have l3:=q8 a x
 omega
theorem VG (m:Id):fd m (m+qi 0)=1:=by
 unfold fd
 have h:m+qi 0 - m=qi 0:=ah7 m 0
 rw [h]
 rfl
theorem sj (m x:Id):(x=m/\fd (m+qi 0) x+1=NN)∨(x≠m/\fd (m+qi 0) x+1=fd m x):=by
 have h1:=zQ m (m+qi 0) x
 rw [VG] at h1
 by_cases h:x=m
 ·subst h
  rw [yF] at h1
  exact .inl ⟨rfl,by omega⟩
 ·have h2:fd m x≠0:=λe=>h (O7 e)
  exact .inr ⟨h,by omega⟩
theorem uH (a b:Id):ei a b<0↔a.toNat<b.toNat:=by
 have:=SK a b
 rw [aI3] at this
 exact this
theorem Nc (a b:Id):0<ei a b↔b.toNat<a.toNat:=by
 unfold ei
 split
 ·omega
 ·split<;>omega
abbrev Mb:=Int × Id
def bH:Mb:=(0,0#256)
def i1:Mb:=(-1,0#256)
def nq (m:Mb):List Value:=.int .i64 m.1::(aH m.2).toList
def ar (m:Mb):Array Value:=(nq m).toArray
theorem cD (m:Mb):(nq m).length=33:=by simp [nq]
theorem aj (m:Mb):(ar m).size=33:=by simp [ar,cD]
theorem mB (m:Mb):∀ v∈nq m,v.oneCell'=true:=λv hv=>by
 rcases aI6.1 hv with rfl|hv
 ·simp [Value.oneCell',Value.cells]
 ·rw [eg] at hv;exact eE _ _ v hv
theorem bD (m:Mb):∀ v∈(ar m).toList,v.oneCell'=true:=mB m
theorem cp (m:Mb):(ar m)[0]? = some (.int .i64 m.1):=rfl
theorem fv (m:Mb):(ar m).extract 1 (1+32)=aH m.2:=by
 apply Array.ext'
 rw [Array.toList_extract,List.extract_eq_take_drop]
 show (((nq m).drop 1).take 32)=_
 exact aJ9 (by rw [aK2,cD];exact aJ1 _)
theorem GU {x y:Mb} (h:(ar x).toList=(ar y).toList):x=y:=by
 have h':=Array.toList_inj.1 h
 have h0:=cp x;rw [h',cp] at h0
 have h2:=fv x;rw [h',fv] at h2
 simp at h0
 exact Prod.ext h0.symm (qF h2).symm
theorem lg (x y:Mb):decide (x=y)=true↔(ar x).toList=(ar y).toList:=by
 rw [aI0];exact ⟨λh=>by rw [h],GU⟩
def aq (l:List Mb):List Value:=l.flatMap nq
theorem fM (l:List Mb):(aq l).length=l.length*33:=eF _ 33 cD l
theorem gM (l r:List Mb):aq (l++r)=aq l++aq r:=aM2
theorem fO (x:Mb):aq [x]=(ar x).toList:=by simp [aq,ar]
theorem pI (l:List Mb):∀ u∈aq l,u.oneCell'=true:=λu hu=>by
 obtain ⟨x,_,hx⟩:=List.mem_flatMap.1 hu
 exact mB x u hx
theorem Kl (l:List Mb) (j:Nat) (hj:j<l.length):(((aq l).drop (j*33)).take 33).toArray=ar l[j]:=by
 unfold aq
 rw [eU _ 33 cD l j hj];rfl
theorem Fz {w:World} {v:Value} {l:List Mb} (h:bs w v 33 l.length (aq l)) (k:Nat) (hk:k<=l.length):bs w (eT v k) 33 (l.take k).length (aq (l.take k)):=by
 have:=h.cut k hk
 unfold aq at this
 rw [gA _ 33 cD] at this
 rw [aL0,Nat.min_eq_left hk]
 exact this
theorem yI {l:List Mb} {j:Nat} (hj:j<l.length):l[j]=l.getD j bH:=by
 rw [aJ6,aH8 hj];rfl
theorem eM (l:List Mb) (j:Nat) (hj:j<l.length):(((aq l).drop (j*33)).take 33).toArray=ar (l.getD j bH):=by rw [Kl l j hj,yI hj]
theorem i8 {l:List Mb} {j:Nat} (hj:j<l.length):l.getD j bH∈l:=by rw [← yI hj];exact aN1 hj
theorem pA {l:List Mb} {x:Mb} (h:x∈l):∃ j,j<l.length/\l.getD j bH=x:=by
 obtain ⟨j,hj,rfl⟩:=List.mem_iff_getElem.1 h
 exact ⟨j,hj,(yI hj).symm⟩
def mi (m x:Mb):Bool:=decide (x.1=m.1) || decide (x.2=m.2)
def pc (l:List Mb) (d:Nat):Bool:=decide ((l.getD d bH).1<0) || (decide (16<=(l.getD d bH).1) || (l.take d).any (mi (l.getD d bH)))
def dL (l:List Mb):Bool:=decide (l.length<=16) && (List.range l.length).all λd => !pc l d
structure Rg (l:List Mb):Prop where
 len:l.length<=16
 nos:∀ m∈l,0<=m.1/\m.1<16
 nd:l.Pairwise λa b=>a.1≠b.1/\a.2≠b.2
theorem li (l:List Mb):dL l=true↔l.length<=16/\∀ d,d<l.length->pc l d=false:=by
 unfold dL
 rw [aH5,aI0,aH6]
 refine ⟨λ⟨h1,h2⟩=>⟨h1,λd hd=>?_⟩,λ⟨h1,h2⟩=>⟨h1,λd hd=>?_⟩⟩
 ·have:=h2 d (aI7.2 hd);simpa using this
 ·rw [h2 d (aI7.1 hd)];rfl
theorem mr {l:List Mb} {d:Nat} (hd:d<l.length) (hb:pc l d=true):dL l=false:=by
 rw [← Bool.not_eq_true,li]
 rintro ⟨_,h⟩
 rw [h d hd] at hb;cases hb
theorem Cl {l:List Mb} (h:¬ l.length<=16):dL l=false:=by
 rw [← Bool.not_eq_true,li]
 exact λh9=>h h9.1
theorem AT {l:List Mb} (h0:l.length<=16) (h:∀ d,d<l.length->pc l d=false):dL l=true:=(li l).2 ⟨h0,h⟩
theorem uU {l:List Mb} {d:Nat} (hd:d<l.length):pc l d=false↔(0<=l[d].1/\l[d].1<16)/\∀ j (hj:j<d),l[j].1≠l[d].1/\l[j].2≠l[d].2:=by
 unfold pc
 rw [← yI hd,Bool.or_eq_false_iff,Bool.or_eq_false_iff,decide_eq_false_iff_not,decide_eq_false_iff_not,aN5]
 refine ⟨λ⟨h1,h2,h3⟩=>⟨by omega,λj hj=>?_⟩,λ⟨h1,h2⟩=>⟨by omega,by omega,λx hx=>?_⟩⟩
 ·have h4:=h3 l[j] (List.mem_iff_getElem.2 ⟨j,by rw [aL0];omega,by rw [List.getElem_take]⟩)
  unfold mi at h4
  simpa using h4
 ·obtain ⟨j,hj,rfl⟩:=List.mem_iff_getElem.1 hx
  rw [aL0] at hj
  rw [List.getElem_take]
  have:=h2 j (by omega)
  unfold mi
  simpa using this
theorem lU (l:List Mb):dL l=true↔Rg l:=by
 rw [li]
 refine ⟨λ⟨h1,h2⟩=>⟨h1,λm hm=>?_,List.pairwise_iff_getElem.2 λi j hi hj hij=>?_⟩,λh=>⟨h.len,λd hd=>(uU hd).2 ⟨h.nos _ (aN1 hd),λj hj=>List.pairwise_iff_getElem.1 h.nd j d (by omega) hd hj⟩⟩⟩
 ·obtain ⟨j,hj,rfl⟩:=List.mem_iff_getElem.1 hm
  exact((uU hj).1 (h2 j hj)).1
 ·exact((uU hj).1 (h2 j hj)).2 i hij
theorem SZ {α:Type} {R:α->α->Prop} (hs:∀ a b,R a b->R b a) {l:List α} (h:l.Pairwise R) {x y:α} (hx:x∈l) (hy:y∈l) (hn:¬ R x y):x=y:=by
 obtain ⟨i,hi,rfl⟩:=List.mem_iff_getElem.1 hx
 obtain ⟨j,hj,rfl⟩:=List.mem_iff_getElem.1 hy
 rcases Nat.lt_trichotomy i j with h1|h1|h1
 ·exact aO7 (List.pairwise_iff_getElem.1 h i j hi hj h1) hn
 ·subst h1;rfl
 ·exact aO7 (hs _ _ (List.pairwise_iff_getElem.1 h j i hj hi h1)) hn
theorem Rg.no {l:List Mb} (h:Rg l) {x y:Mb} (hx:x∈l) (hy:y∈l) (e:x.1=y.1):x=y:=
 SZ (λ_ _ h9=>⟨h9.1.symm,h9.2.symm⟩) h.nd hx hy λh9=>h9.1 e
theorem Rg.id {l:List Mb} (h:Rg l) {x y:Mb} (hx:x∈l) (hy:y∈l) (e:x.2=y.2):x=y:=
 SZ (λ_ _ h9=>⟨h9.1.symm,h9.2.symm⟩) h.nd hx hy λh9=>h9.2 e
theorem Rg.sub {l r:List Mb} (h:Rg l) (hs:r.Sublist l):Rg r:=⟨aM5 hs.length_le h.len,λm hm=>h.nos m (hs.subset hm),h.nd.sublist hs⟩
def gX (f:Mb->Nat) (l:List Mb):Nat->Mb
 |0=>l.getD 0 bH
 |k+1=>bif decide (f (l.getD (k+1) bH)<f (gX f l k)) then l.getD (k+1) bH else gX f l k
def rQ (f:Mb->Nat) (l:List Mb):Nat->Mb
 |0=>l.getD 0 bH
 |k+1=>bif decide (f (rQ f l k)<f (l.getD (k+1) bH)) then l.getD (k+1) bH else rQ f l k
theorem vU (f:Mb->Nat) (l:List Mb):∀ k,k<l.length->gX f l k∈l
 |0,h=>i8 h
 |k+1,h=>by
  unfold gX
  cases decide (f (l.getD (k+1) bH)<f (gX f l k)) with
  |true=>exact i8 h
  |false=>exact vU f l k (by omega)
theorem zO (f:Mb->Nat) (l:List Mb):∀ k j,j<=k->f (gX f l k)<=f (l.getD j bH)
 |0,j,h=>by obtain rfl:j=0:=by omega
            exact aJ1 _
 |k+1,j,h=>by
  unfold gX
  by_cases hj:j=k+1
  ·subst hj
   cases hd:decide (f (l.getD (k+1) bH)<f (gX f l k)) with
   |true=>exact aJ1 _
   |false=>exact Nat.le_of_not_lt (aH0 hd)
  ·have h1:=zO f l k j (by omega)
   cases hd:decide (f (l.getD (k+1) bH)<f (gX f l k)) with
   |true=>exact aM5 (Nat.le_of_lt (aG9 hd)) h1
   |false=>exact h1
def oz (s:Id) (m:Mb):Nat:=fd s m.2
def Cx (l:List Mb) (x:Id):Mb:=gX (oz x) l (l.length - 1)
def Hb (l:List Mb) (m:Mb):Mb:=rQ (oz m.2) l (l.length - 1)
def fH (l:List Mb) (m:Mb):Mb:=Cx l (m.2+qi 0)
theorem sf {l:List Mb} (x:Id) (h:0<l.length):Cx l x∈l:=vU _ l _ (by omega)
theorem LI {l:List Mb} (x:Id) {y:Mb} (hy:y∈l):fd x (Cx l x).2<=fd x y.2:=by
 obtain ⟨j,hj,rfl⟩:=pA hy
 exact zO (oz x) l _ j (by omega)
theorem pp {l:List Mb} {y:Mb} (hy:y∈l):0<l.length:=List.length_pos_iff.2 (List.ne_nil_of_mem hy)
theorem V0 {l:List Mb} (h:Rg l) (x:Id) {o:Mb} (ho:o∈l) (hle:∀ y∈l,fd x o.2<=fd x y.2):Cx l x=o:=by
 have h1:=sf x (pp ho)
 have h2:=LI x ho
 have h3:=hle _ h1
 exact h.id h1 ho (x5 (s:=x) (by omega))
theorem Wt {l:List Mb} (h:Rg l) {m x:Mb} (hm:m∈l) (hx:x∈l) (hn:∀ y∈l,y≠m->x≠m/\fd m.2 x.2<=fd m.2 y.2):fH l m=x:=by
 refine V0 h _ hx λy hy=>?_
 have h1:=sj m.2 x.2
 have h2:=sj m.2 y.2
 have h3:=q8 m.2 x.2
 by_cases hym:y=m
 ·subst hym
  rcases h2 with h2|h2
  ·have:=q8 (y.2+qi 0) x.2;omega
  ·exact aO7 rfl h2.1
 ·obtain ⟨h4,h5⟩:=hn y hy hym
  rcases h1 with h1|h1
  ·exact aO7 (h.id hx hm h1.1) h4
  ·rcases h2 with h2|h2
   ·exact aO7 (h.id hy hm h2.1) hym
   ·omega
theorem F8 {l:List Mb} {m:Mb} (hm:m∈l):fH l m∈l:=sf _ (pp hm)
theorem Mv {l:List Mb} (h:Rg l) {m y:Mb} (hm:m∈l) (hy:y∈l) (hn:y≠m):fH l m≠m/\fd m.2 (fH l m).2<=fd m.2 y.2:=by
 have h0:=LI (m.2+qi 0) hy
 have h1:=sj m.2 (fH l m).2
 have h2:=sj m.2 y.2
 have h3:=q8 m.2 y.2
 change fd (m.2+qi 0) (fH l m).2<=_ at h0
 rcases h2 with h2|h2
 ·exact aO7 (h.id hy hm h2.1) hn
 ·rcases h1 with h1|h1
  ·omega
  ·exact ⟨λe=>h1.1 (by rw [e]),by omega⟩
theorem k5 (m:Mb):(ar m).toList=Value.int .i64 m.1::(aH m.2).toList:=rfl
theorem yG:ar bH=(Value.int .i64 0::List.replicate 32 (Value.int .u8 0)).toArray:=by
 unfold ar nq bH;rw [eJ];rfl
theorem BJ (m:Mb):((ar m).toList.drop 0).take 1=[Value.int .i64 m.1]:=rfl
theorem Cm (m:Mb):((ar m).toList.drop 1).take 32=(cS (bP m.2) 32).toList:=by
 rw [k5,List.drop_succ_cons,List.drop_zero,aJ9 (by simp),eg]
def mbZ:List (List Value):=[[.int .i64 0],List.replicate 32 (.int .u8 0)]
section
variable {P:Program} {ρ:Operand->Value} {d:Option Tmp} {ty:TypeId} {pos:String} {af:Array Edge} {g:Option (Nat × Bool)} {x y:Operand} {t:TypeId}
theorem ib (S:Stt P t mbZ):aZ P ⟨d,.build t #[],ty,pos,af,g⟩ ρ (.agg (ar bH)):=by
 have:=bw (P:=P) (ρ:=ρ) (d:=d) (ty:=ty) (pos:=pos) (af:=af) (g:=g) (parts:=#[]) S [] (by simp) (λi v hm=>by simp at hm) (D:=(ar bH).toList) (by rw [yG];rfl)
 simpa using this
theorem yl {q:Int} (S:Stt P t mbZ) (hx:ρ x=.int .i64 q):aZ P ⟨d,.build t #[(0,x)],ty,pos,af,g⟩ ρ (.agg (ar (q,0#256))):=by
 have:=bw (P:=P) (ρ:=ρ) (d:=d) (ty:=ty) (pos:=pos) (af:=af) (g:=g) (parts:=#[(0,x)]) S [(0,.int .i64 q)] (by simp [hx]) (λi v hm=>by simp at hm;rcases hm with ⟨rfl,rfl⟩;exact ⟨_,rfl,rfl⟩) (D:=(ar (q,0#256)).toList) (by rw [k5,eJ];rfl)
 simpa using this
theorem xz {q:Int} {b:Id} (S:Stt P t mbZ) (hx:ρ x=.int .i64 q) (hy:ρ y=.agg (aH b)):aZ P ⟨d,.build t #[(0,x),(1,y)],ty,pos,af,g⟩ ρ (.agg (ar (q,b))):=by
 have:=bw (P:=P) (ρ:=ρ) (d:=d) (ty:=ty) (pos:=pos) (af:=af) (g:=g) (parts:=#[(0,x),(1,y)]) S [(0,.int .i64 q),(1,.agg (aH b))] (by simp [hx,hy]) (λi v hm=>by
  simp at hm
  rcases hm with ⟨rfl,rfl⟩|⟨rfl,rfl⟩
  ·exact ⟨_,rfl,rfl⟩
  ·exact ⟨_,rfl,by show (aH b).size=_;rw [aA];rfl⟩) (D:=(ar (q,b)).toList) (by rw [k5];show [_]++((aH b).toList++[])=_;rw [aM4];rfl)
 simpa using this
end
theorem rx (m:Mb):∀ v∈([.agg (ar m)]:List Value),v.cells.size=33:=λv hv=>by
 rw [aI4] at hv;subst hv;exact aj m
theorem j3 (m:Mb):([Value.agg (ar m)].flatMap λv=>v.cells.toList)=(ar m).toList:=by simp [Value.cells]
theorem zk (l:List Mb) (x:Mb):aq l++(ar x).toList=aq (l++[x]):=by rw [gM,fO]
theorem PB {l:List Mb} {p:Mb->Bool} {r:Int} (hr:(r = -1/\∀ x∈l,p x=false)∨∃ k:Nat,∃ hk:k<l.length,r=(k:Int)/\p l[k]=true):decide (0<=r)=l.any p:=by
 rcases hr with ⟨rfl,h⟩|⟨k,hk,rfl,h⟩
 ·symm
  refine(aN5.2 λx hx=>?_).trans (by decide)
  rw [h x hx];decide
 ·rw [aH2 (by omega)]
  exact(aN4.2 ⟨_,aN1 hk,h⟩).symm
theorem XI {l:List Mb} {d:Nat} (h:decide ((l.getD d bH).1<0)=true):pc l d=true:=by unfold pc;rw [h];rfl
theorem V6 {l:List Mb} {d:Nat} (h:decide (16<=(l.getD d bH).1)=true):pc l d=true:=by unfold pc;rw [h];simp
theorem My {l:List Mb} {d:Nat} (h0:decide ((l.getD d bH).1<0)=false) (h1:decide (16<=(l.getD d bH).1)=false):pc l d=(l.take d).any (mi (l.getD d bH)):=by unfold pc;rw [h0,h1];rfl
def gb (l:List Mb) (no:Int):Option Mb:=l.find? λm=>decide (m.1=no)
theorem zq {l:List Mb} {no:Int} {k:Nat} (hk:k<l.length) (h:∀ j,j<k->decide ((l.getD j bH).1=no)=false) (he:decide ((l.getD k bH).1=no)=true):gb l no=some (l.getD k bH):=by
 unfold gb
 rw [List.find?_eq_some_iff_getElem]
 refine ⟨he,k,hk,yI hk,λj hj=>?_⟩
 rw [yI (by omega),h j hj];rfl
theorem yA {l:List Mb} {no:Int} {k:Nat} (hk:l.length<=k) (h:∀ j,j<k->decide ((l.getD j bH).1=no)=false):gb l no=none:=by
 unfold gb
 rw [List.find?_eq_none]
 intro x hx
 obtain ⟨j,hj,rfl⟩:=pA hx
 rw [h j (by omega)];decide
theorem ut {l:List Mb} {no:Int} {m:Mb} (h:gb l no=some m):m∈l/\m.1=no:=by
 refine ⟨List.mem_of_find?_eq_some h,?_⟩
 have:=List.find?_some h
 exact aG9 this
theorem Gf {l:List Mb} (h:Rg l) {m:Mb} (hm:m∈l):gb l m.1=some m:=by
 cases hf:gb l m.1 with
 |none=>
  unfold gb at hf
  have:=List.find?_eq_none.1 hf m hm
  simp at this
 |some x=>
  obtain ⟨h1,h2⟩:=ut hf
  rw [h.no h1 hm h2]
theorem F0 {l:List Mb} {no:Int}:gb l no=none∨∃ m,gb l no=some m/\m∈l/\m.1=no:=by
 cases h:gb l no with
 |none=>exact .inl rfl
 |some m=>exact .inr ⟨m,rfl,ut h⟩
def i9 (l:List Mb) (no:Int):Int:=bif dL l then (match gb l no with|some _=>0|none=>6) else 1
def gl (l:List Mb) (no:Int):Mb:=bif dL l then (gb l no).getD bH else bH
def pj (l:List Mb) (no:Int):Mb:=(gb l no).getD i1
theorem yq {l:List Mb} (no:Int) (h:dL l=false):i9 l no=1/\gl l no=bH:=by unfold i9 gl;rw [h];exact ⟨rfl,rfl⟩
theorem o7 {l:List Mb} {no:Int} {m:Mb} (h:dL l=true) (hf:gb l no=some m):i9 l no=0/\gl l no=m:=by unfold i9 gl;rw [h,hf];exact ⟨rfl,rfl⟩
theorem tV {l:List Mb} {no:Int} (h:dL l=true) (hf:gb l no=none):i9 l no=6/\gl l no=bH:=by unfold i9 gl;rw [h,hf];exact ⟨rfl,rfl⟩
theorem Sy (l:List Mb) (no:Int):(dL l=false/\i9 l no=1/\gl l no=bH)∨(dL l=true/\gb l no=none/\i9 l no=6/\gl l no=bH)∨(dL l=true/\gb l no=some (gl l no)/\i9 l no=0/\gl l no∈l/\(gl l no).1=no):=by
 cases h:dL l with
 |false=>exact .inl ⟨rfl,yq no h⟩
 |true=>
  cases hf:gb l no with
  |none=>exact .inr (.inl ⟨rfl,rfl,tV h hf⟩)
  |some m=>
   obtain ⟨h1,h2⟩:=o7 h hf
   obtain ⟨h3,h4⟩:=ut hf
   exact .inr (.inr ⟨rfl,by rw [h2],h1,by rw [h2];exact h3,by rw [h2];exact h4⟩)
theorem MA {l:List Mb} {no:Int} (h:i9 l no=0):dL l=true/\Rg l/\gb l no=some (gl l no)/\gl l no∈l/\(gl l no).1=no:=by
 rcases Sy l no with h9|h9|h9
 ·omega
 ·omega
 ·exact ⟨h9.1,(lU l).1 h9.1,h9.2.1,h9.2.2.2⟩
def rJ (l:List Mb):Int:=bif dL l then (bif decide (l.length=0) then 6 else 0) else 1
def dI (l:List Mb) (x:Id):Mb:=bif dL l then (bif decide (l.length=0) then bH else Cx l x) else bH
theorem GP {l:List Mb} (x:Id) (h:dL l=false):rJ l=1/\dI l x=bH:=by unfold rJ dI;rw [h];exact ⟨rfl,rfl⟩
theorem BW {l:List Mb} (x:Id) (h:dL l=true) (h0:l.length=0):rJ l=6/\dI l x=bH:=by unfold rJ dI;rw [h,aH2 h0];exact ⟨rfl,rfl⟩
theorem ze {l:List Mb} (x:Id) (h:dL l=true) (h0:¬ l.length=0):rJ l=0/\dI l x=Cx l x:=by unfold rJ dI;rw [h,aH1 h0];exact ⟨rfl,rfl⟩
theorem OJ {f:Mb->Nat} {l:List Mb} {k:Nat} (h:f (l.getD (k+1) bH)<f (gX f l k)):gX f l (k+1)=l.getD (k+1) bH:=by
 show (bif _ then _ else _)=_;rw [aH2 h];rfl
theorem Q5 {f:Mb->Nat} {l:List Mb} {k:Nat} (h:¬ f (l.getD (k+1) bH)<f (gX f l k)):gX f l (k+1)=gX f l k:=by
 show (bif _ then _ else _)=_;rw [aH1 h];rfl
theorem RL {f:Mb->Nat} {l:List Mb} {k:Nat} (h:f (rQ f l k)<f (l.getD (k+1) bH)):rQ f l (k+1)=l.getD (k+1) bH:=by
 show (bif _ then _ else _)=_;rw [aH2 h];rfl
theorem WB {f:Mb->Nat} {l:List Mb} {k:Nat} (h:¬ f (rQ f l k)<f (l.getD (k+1) bH)):rQ f l (k+1)=rQ f l k:=by
 show (bif _ then _ else _)=_;rw [aH1 h];rfl
theorem Fo (s x y:Id):decide (ei (x - s) (y - s)<0)=decide (fd s x<fd s y):=aI3.2 (uH _ _)
theorem Qx (s x y:Id):decide (0<ei (x - s) (y - s))=decide (fd s y<fd s x):=aI3.2 (Nc _ _)
def rX (l:List Mb) (no:Int):Mb:=bif decide (i9 l no=0) then Hb l (gl l no) else bH
theorem NU {l:List Mb} {no:Int} (h:i9 l no=0):rX l no=Hb l (gl l no):=by unfold rX;rw [aH2 h];rfl
theorem VI {l:List Mb} {no:Int} (h:¬ i9 l no=0):rX l no=bH:=by unfold rX;rw [aH1 h];rfl
def CU (l:List Mb) (m:Mb):Nat->Mb
 |0=>m
 |k+1=>fH l (CU l m k)
def rF (l:List Mb) (m:Mb) (k:Nat):List Mb:=(List.range k).map λi=>CU l m (i+1)
theorem zC (l:List Mb) (m:Mb) (k:Nat):(rF l m k).length=k:=by simp [rF]
theorem MN (l:List Mb) (m:Mb) (k:Nat):rF l m (k+1)=rF l m k++[CU l m (k+1)]:=by simp [rF,List.range_succ]
def gI (s:Id) (l:List Mb):List Mb:=l.mergeSort λx y=>decide (fd s x.2<=fd s y.2)
theorem Pu (s:Id):gI s []=[]:=by unfold gI;rw [List.mergeSort_nil]
theorem iW (s:Id) (l:List Mb):(gI s l).Perm l:=List.mergeSort_perm _ _
theorem lf (s:Id) (l:List Mb):(gI s l).length=l.length:=(iW s l).length_eq
theorem uX (s:Id) (l:List Mb):(gI s l).Pairwise λx y=>fd s x.2<=fd s y.2:=by
 have:=List.pairwise_mergeSort (le:=λx y:Mb=>decide (fd s x.2<=fd s y.2)) (λa b c h1 h2=>aH2 (aM5 (aG9 h1) (aG9 h2))) (λa b=>by
  by_cases h:fd s a.2<=fd s b.2
  ·simp [h]
  ·simp [h];omega) l
 exact this.imp λh=>aG9 h
theorem VO {l:List Mb} (h:Rg l) (s:Id):Rg (gI s l):=
 ⟨by rw [lf];exact h.len,λm hm=>h.nos m ((iW s l).mem_iff.1 hm),h.nd.perm (iW s l).symm λh9=>⟨h9.1.symm,h9.2.symm⟩⟩
theorem XO {l r:List Mb} (h:Rg l) (s:Id) (hp:r.Perm l) (hs:r.Pairwise λx y=>fd s x.2<=fd s y.2):r=gI s l:=by
 refine List.Perm.eq_of_pairwise (le:=λx y:Mb=>fd s x.2<=fd s y.2) (λa b ha hb h1 h2=>?_) hs (uX s l) (hp.trans (iW s l).symm)
 exact h.id (hp.mem_iff.1 ha) ((iW s l).mem_iff.1 hb) (x5 (s:=s) (by omega))
theorem N0 {l:List Mb} (h:Rg l) (s:Id) {i j:Nat} (hij:i<j) (hj:j<l.length):fd s ((gI s l).getD i bH).2<fd s ((gI s l).getD j bH).2:=by
 have hl:=lf s l
 have h1:=List.pairwise_iff_getElem.1 (uX s l) i j (by omega) (by omega) hij
 have h2:=List.pairwise_iff_getElem.1 (VO h s).nd i j (by omega) (by omega) hij
 rw [yI (by omega),yI (by omega)] at h1 h2
 have h3:=aa1 (s:=s) h2.2
 omega
theorem Nm {l:List Mb} (h:Rg l) (s:Id) {i:Nat} (hi:i<l.length):fH l ((gI s l).getD i bH)=(gI s l).getD ((i+1) % l.length) bH:=by
 have hl:=lf s l
 have hmem:∀ j,j<l.length->(gI s l).getD j bH∈l:=λj hj=>(iW s l).mem_iff.1 (i8 (by omega))
 have hmod:=aO6 (i+1) (show 0<l.length by omega)
 refine Wt h (hmem i hi) (hmem _ hmod) λy hy hne=>?_
 obtain ⟨j,hj,rfl⟩:=pA ((iW s l).mem_iff.2 hy)
 have hji:j≠i:=λe=>hne (by rw [e])
 have hjl:j<l.length:=by omega
 have hx:∀ p q,p<l.length->q<l.length->p<q->fd s ((gI s l).getD p bH).2<fd s ((gI s l).getD q bH).2:=λp q _ hq hpq=>N0 h s hpq hq
 by_cases hlast:i+1<l.length
 ·rw [Nat.mod_eq_of_lt hlast]
  have h1:=hx i (i+1) hi hlast (by omega)
  refine ⟨λe=>by rw [e] at h1;omega,?_⟩
  have k1:=zQ s ((gI s l).getD i bH).2 ((gI s l).getD (i+1) bH).2
  have k2:=zQ s ((gI s l).getD i bH).2 ((gI s l).getD j bH).2
  have k3:=q8 s ((gI s l).getD (i+1) bH).2
  rcases Nat.lt_or_gt_of_ne hji with hlt|hgt
  ·have h2:=hx j i hjl hi hlt
   omega
  ·by_cases hj1:j=i+1
   ·subst hj1;exact aJ1 _
   ·have h2:=hx (i+1) j hlast hjl (by omega)
    omega
 ·have hil:i+1=l.length:=by omega
  rw [hil,Nat.mod_self]
  have hj0:j<i:=by omega
  have h1:=hx 0 i (by omega) hi (by omega)
  refine ⟨λe=>by rw [e] at h1;omega,?_⟩
  have k1:=zQ s ((gI s l).getD i bH).2 ((gI s l).getD 0 bH).2
  have k2:=zQ s ((gI s l).getD i bH).2 ((gI s l).getD j bH).2
  have h2:=hx j i hjl hi hj0
  by_cases hj00:j=0
  ·subst hj00;exact aJ1 _
  ·have h3:=hx 0 j (by omega) hjl (by omega)
   omega
theorem MH {l:List Mb} (h:Rg l) {m:Mb} (hm:m∈l):(gI m.2 l).getD 0 bH=m:=by
 obtain ⟨j,hj,he⟩:=pA ((iW m.2 l).mem_iff.2 hm)
 by_cases h0:j=0
 ·subst h0;exact he
 ·have:=N0 h m.2 (i:=0) (j:=j) (by omega) (by rw [← lf m.2 l];exact hj)
  rw [he,yF] at this
  omega
theorem z8 {l:List Mb} (h:Rg l) {m:Mb} (hm:m∈l):∀ k,(gI m.2 l).getD (k % l.length) bH=CU l m k
 |0=>by rw [Nat.zero_mod];exact MH h hm
 |k+1=>by
  have hp:=pp hm
  show _=fH l (CU l m k)
  rw [← z8 h hm k,Nm h m.2 (aO6 _ hp),Nat.mod_add_mod]
def lM (l:List Mb) (no many:Int):Int:=bif decide (many<0) || decide (16<many) then 1 else i9 l no
def iQ (l:List Mb) (no many:Int):List Mb:=bif decide (lM l no many=0) then rF l (gl l no) many.toNat else []
theorem sm {l:List Mb} {no many:Int} (h:many<0∨16<many):lM l no many=1/\iQ l no many=[]:=by
 have h1:lM l no many=1:=by unfold lM;rcases h with h|h<;>simp [h]
 exact ⟨h1,by unfold iQ;rw [h1];rfl⟩
theorem Ce {l:List Mb} {no many:Int} (h0:0<=many) (h1:many<=16):lM l no many=i9 l no:=by
 unfold lM;rw [aH1 (by omega),aH1 (by omega)];rfl
theorem QI {l:List Mb} {no many:Int} (h:¬ lM l no many=0):iQ l no many=[]:=by unfold iQ;rw [aH1 h];rfl
theorem L0 {l:List Mb} {no many:Int} (h:lM l no many=0):iQ l no many=rF l (gl l no) many.toNat:=by unfold iQ;rw [aH2 h];rfl
section
variable {P:Program} {ops:List Oper} {K:Act->World->Prop} {l:List Oper} {a:Act} {w:World} {N:Nat} {L:List (Nat × Value)} {Df:List Deferred} {d:Tmp} {ty:TypeId} {pos:String} {af:Array Edge}
theorem jP {f:FuncId} {caps:List Value} {cal:Operand} {args:Array Operand} {tys:Array TypeId} (vs:List Value) {X:Value} (h:Sl N a L Df) (hf:Fnc P f) (hc:eI L cal=some (.func (.func f) #[] caps.toArray))
 (hC:∀ w',Ext w w'->Calls P f (vs++caps).toArray w' (cb w' (is X))) (hvs:args.toList.map (eI L)=vs.map some) (hd:Nat.blt d N=true)
 (k:∀ a',Sl N a' ((d,X)::L) Df->jd P ops.toArray K w l a'):
 jd P ops.toArray K w (⟨some d,.call {callee:=.value cal,args:=args,argTypes:=tys},ty,pos,af,none⟩::l) a:=
 kN X h (λw' hE=>oP hf (h.ev hc) (ke h hvs) (by rw [show vs.toArray++caps.toArray=(vs++caps).toArray from by simp];exact hC w' hE)) hd k
end
section
variable {P:Program} {a:Act} {w w0:World} {N:Nat} {L:List (Nat × Value)} {B:List Own} {fn:Func}
theorem sZ {T:ez} {t:Tmp} {V:Value} {D:Nat} (j:Nat) (hres:fn.results=#[.tmp t]) (h:Sl N a L [{target:=.collected D,args:=#[]}]) (s:St w0 B w) (hv:lk L t=some V)
 (hj:B[j]? = some (.blk D (.deferred (some [])))) (hT:∀ w',St w0 (B.set j (.blk D (.deferred none))) w'->T V w'):bodyPostM (FR none) 0 P fn (cb w0 T) .ret a w:=by
 show LeavesInM (FR none) 0 P fn a.tmps (cb w0 T) a.defers .returning w
 rw [h.defers]
 have s2:=s.putObj j hj (.deferred none)
 exact ⟨by simp,.inl ⟨D,_,rfl,run_takeDeferred (s.get j hj),V,by rw [results_tmp hres,h.holds t V hv],V,rfl,hT _ s2,s2.ext⟩⟩
end
theorem mV (a:Id):(aH a).extract 0 (0+32)=aH a:=by
 apply Array.ext'
 rw [Array.toList_extract,List.extract_eq_take_drop,List.drop_zero,Nat.zero_add,Nat.sub_zero]
 exact aJ9 (by simp)
theorem Ru {m x:Mb} (h:decide (x.1=m.1)=true):mi m x=true:=by unfold mi;rw [h];rfl
theorem Rz {m x:Mb} (h:decide (x.1=m.1)=false):mi m x=decide (x.2=m.2):=by unfold mi;rw [h];rfl
theorem wy {l:List Mb} {d:Nat} (hd:d<l.length):l.take (d+1)=l.take d++[l.getD d bH]:=by rw [List.take_succ_eq_append_getElem hd,yI hd]
theorem M0 {l r:List Mb} {k:Nat} (h:∀ j,j<k->l.getD j bH=r.getD j bH) (he:l.getD k bH=r.getD k bH):∀ j,j<k+1->l.getD j bH=r.getD j bH:=λj hj=>by
 by_cases h1:j<k
 ·exact h j h1
 ·obtain rfl:j=k:=by omega
  exact he
theorem PX {l r:List Mb} (hl:l.length=r.length) (h:∀ j,j<l.length->l.getD j bH=r.getD j bH):l=r:=by
 apply List.ext_getElem hl
 intro i h1 h2
 rw [yI h1,yI h2,h i h1]
section
variable {P:Program} {ops:Array Oper} {Q:Act->World->Prop} {l:List Oper} {a:Act} {w w0:World} {N:Nat} {L:List (Nat × Value)} {Df:List Deferred} {B:List Own} {d:Tmp} {ty:TypeId} {pos:String} {af:Array Edge} {x y:Operand} {t e:TypeId}
theorem HM {sz by_ n:Nat} {m:Int} {z:Value} {xs:List Value} (h:Sl N a L Df) (s:St w0 B w) (ht:P.underlying t=some (.slice e)) (E:Elm P e sz by_) (hz:(P.info? e).bind (·.zero)=some z) (hx:eI L x=some (.int .i64 m)) (hy:eI L y=some (.int .i64 m)) (hm:m=(n:Int)) (hb:by_*n<=281474976710656) (hn:n<=maxLen)
 (hxs:(madeCells z.cells (n*sz)).toList=xs) (hl:xs.length=n*sz) (hd:Nat.blt d N=true)
 (k:∀ a' w' v',Sl N a' ((d,v')::L) Df->St w0 (.sl v' e sz n xs::B) w'->cQ P ops Q l a' w'):cQ P ops Q (⟨some d,.makeSlice t x y,ty,pos,af,none⟩::l) a w:=by
 subst hm
 obtain ⟨i,z',h1,h2,h3,h4,h5⟩:=E.info
 have hzz:z'=z:=by rw [h1] at hz;simp only [Option.bind_some] at hz;exact aN0 (h2.symm.trans hz)
 subst hzz
 have hmx:maxLen<=9223372036854775807:=by unfold maxLen;omega
 have hr:=run_make (P:=P) w t e i _ ht h1 h2 .i64 .i64 (n:Int) (n:Int) (by omega) (Int.le_refl _) (by rw [h4];omega) (by omega)
 simp only [Int.toNat_natCast,h3] at hr
 refine ee h (R:=λv w'=>v=.slice (some ⟨w.heap.size,0,none⟩) n n/\w'=w.alloc (.cells (madeCells z'.cells (n*sz)) e)) ?_ hd λa' w' v ⟨hv,hw⟩ h'=>by
  subst hv;subst hw
  refine k _ _ _ h' (s.plus ((Ext.refl w).alloc _) _ ⟨hl,.inr ⟨w.heap.size,n,_,(0,0),rfl,s.ext.le,heap_alloc_new w _,.inl rfl,aJ1 _,hn,?_,?_⟩⟩ λk hk=>?_)
  ·rw [← aI2,hxs,hl]
  ·rw [hxs,← hl,List.take_length]
  ·rw [Own.at_sl] at hk;simp [Value.ownBlock] at hk;omega
 simp [dp,execOp,h.ev hx,h.ev hy,hr,Result.andThen]
theorem fI {v:Value} {sz n:Nat} {xs ys:List Value} {D:Array Value} (i j:Nat) (h:Sl N a L Df) (s:St w0 B w) (hr:Row P t sz) (hx:eI L x=some (.pointer (some (bO v (j*sz))))) (hy:eI L y=some (.agg D)) (hi:B[i]? = some (.sl v e sz n xs)) (hD:D.size=sz) (hj:j<n) (hv:∀ u∈D.toList,u.oneCell'=true)
 (hys:xs.take (j*sz)++D.toList++xs.drop (j*sz+sz)=ys)
 (k:∀ w',St w0 (B.set i (.sl v e sz n ys)) w'->cQ P ops Q l a w'):cQ P ops Q (⟨none,.store t x y,ty,pos,af,none⟩::l) a w:=by
 have ho:=s.getSl i hi
 rcases ho.2 with ⟨_,h0⟩|⟨g,cap,cur,fz,rfl,hb,hg,hfz,hnc,hcm,hcs,htk⟩
 ·omega
 ·have hle:j*sz+sz<=n*sz:=by
   have:=Nat.mul_le_mul_right sz (show j+1<=n from hj)
   rwa [Nat.add_mul,Nat.one_mul] at this
  have hcl:n*sz<=cur.size:=by rw [hcs];exact Nat.mul_le_mul_right _ hnc
  have hxl:xs.length=n*sz:=ho.1
  have hcx:cur.toList=xs++cur.toList.drop (n*sz):=by rw [← htk];exact(aJ7 _ _).symm
  have hyl:ys.length=n*sz:=by
   rw [← hys];simp only [aH7,aL0,aK2,aI2];omega
  have hnew:cur.toList.take (j*sz)++D.toList++cur.toList.drop (j*sz+D.size)=ys++cur.toList.drop (n*sz):=by
   rw [← hys,hD]
   conv=>lhs;rw [hcx]
   rw [List.take_append_of_le_length (by omega),List.drop_append_of_le_length (by omega)]
   simp only [aM3]
  have hst:(storeVar t ⟨g,j*sz,none⟩ (.agg D)).run P w=.ok () (w.setRow g (ys++cur.toList.drop (n*sz)).toArray):=by
   have hs:(sizeOf t).run P w=.ok D.size w:=by
    cases hq:P.info? t with
    |none=>have:=hr.size;simp [hq] at this
    |some i=>have:=hr.size;simp [hq] at this;simp [sizeOf,typeInfo,aL7,hq,this,hD]
   have:=c8 P g (j*sz) e fz D.toList 0 cur w hg hfz (by rw [aI2];omega) hv
   simp only [Nat.add_zero,aI2] at this
   rw [hnew] at this
   simp [storeVar,aL7,hs,Value.cells,this]
  have hsz:(ys++cur.toList.drop (n*sz)).toArray.size=cur.size:=by
   rw [List.size_toArray,aH7,aK2,hyl];have:=aI2 (xs:=cur);omega
  refine jV (R:=λ_ w'=>w'=w.setRow g (ys++cur.toList.drop (n*sz)).toArray) ?_ λw' _ hw=>by
   subst hw
   refine k _ (s.upd i hi (p':=.sl _ e sz n ys) rfl rfl rfl (by simp) ⟨hyl,.inr ⟨g,cap,_,fz,rfl,hb,setRow_heap w g cur _ e fz hg,?_,hnc,hcm,?_,?_⟩⟩ (λk hk=>.inl hk) (λk hk hne=>setRow_other w g k _ λe9=>hne (Own.at_sl.2 (by simp [Value.ownBlock,e9]))))
   ·rw [hsz];exact hfz
   ·rw [hsz];exact hcs
   ·show (ys++cur.toList.drop (n*sz)).take (n*sz)=ys
    rw [← hyl];exact List.take_left
  unfold dp
  have hel:(some (bO (Value.slice (some ⟨g,0,none⟩) n cap) (j*sz)):Option Addr)=some ⟨g,j*sz,none⟩:=by show some (Addr.add _ _)=_;rw [Addr.add_lit,Nat.zero_add]
  rw [hel] at hx
  simp only [execOp,h.ev hx,h.ev hy,Instr.storeAt,Instr.sureAddr,aL7,aL8,aH9,hst]
end
theorem DJ {l:List Mb} {j:Nat} (x:Mb) (hj:j<l.length):(aq l).take (j*33)++(ar x).toList++(aq l).drop (j*33+33)=aq (l.set j x):=by
 have h1:(aq l).take (j*33)=aq (l.take j):=by unfold aq;rw [gA _ 33 cD]
 have h2:(aq l).drop (j*33+33)=aq (l.drop (j+1)):=by
  have:=aH3 (List.drop ((j+1)*33)) (gM (l.take (j+1)) (l.drop (j+1)))
  rw [aJ7,List.drop_left' (by rw [fM,aL0,Nat.min_eq_left (by omega)])] at this
  rw [← this];congr 1;omega
 rw [h1,h2,← fO,← gM,← gM,List.set_eq_take_append_cons_drop,if_pos hj,aM3,List.singleton_append]
theorem BE (z:Array Value):(List.range z.size).map (λi=>z[i]!)=z.toList:=by
 apply List.ext_getElem
 ·simp
 ·intro i h1 h2
  have h3:i<z.size:=by simpa using h1
  rw [List.getElem_map,List.getElem_range,getElem!_pos z i h3,Array.getElem_toList]
theorem HA (z:Array Value) (n:Nat):(madeCells z (n*z.size)).toList=(List.replicate n z.toList).flatten:=by
 unfold madeCells
 rw [Array.toList_map,Array.toList_range]
 induction n with
 |zero=>simp
 |succ n ih=>
  rw [Nat.succ_mul,List.range_add,aO5,ih,List.map_map,List.replicate_succ',List.flatten_append]
  congr 1
  have h9:(List.range z.size).map ((λi=>z[i % z.size]!) ∘ λi=>n*z.size+i)=(List.range z.size).map λi=>z[i]! := by
   apply List.map_congr_left
   intro i hi
   have hi:=aI7.1 hi
   show z[(n*z.size+i) % z.size]! = z[i]!
   rw [Nat.add_comm,Nat.add_mul_mod_self_right,Nat.mod_eq_of_lt hi]
  rw [h9,BE];simp
theorem Qb (n:Nat):(madeCells (Value.agg (ar bH)).cells (n*33)).toList=aq (List.replicate n bH):=by
 have h:=HA (ar bH) n
 rw [aj] at h
 refine h.trans ?_
 unfold aq
 rw [List.flatMap_def,List.map_replicate]
 rfl
def tE (l:List Mb) (m:Mb) (n k:Nat):List Mb:=rF l m k++List.replicate (n - k) bH
theorem uq (l:List Mb) (m:Mb) {n k:Nat} (h:k<=n):(tE l m n k).length=n:=by
 unfold tE;rw [aH7,zC,List.length_replicate];omega
theorem Iq (l:List Mb) (m:Mb) (n:Nat):tE l m n 0=List.replicate n bH:=rfl
theorem OR (l:List Mb) (m:Mb) (n:Nat):tE l m n n=rF l m n:=by unfold tE;simp
theorem HD (l:List Mb) (m:Mb) {n k:Nat} (h:k<n):(tE l m n k).set k (CU l m (k+1))=tE l m n (k+1):=by
 unfold tE
 obtain ⟨r,hr⟩:∃ r,n - k=r+1:=⟨n - k - 1,by omega⟩
 rw [hr,List.replicate_succ,List.set_append_right _ _ (by rw [zC];exact aJ1 _),zC,Nat.sub_self,List.set_cons_zero,MN,show n - (k+1)=r from by omega]
 simp
theorem GE (n:Int):∀ (es:List MapEntry) (i:Nat),(∀ e∈es,∃ m:Int,m≠n/\e.key=.int .i64 m)->Instr.findNow (.int .i64) (.int .i64 n) es i=some none
 |[],_,_=>rfl
 |e::es,i,h=>by
  obtain ⟨m,hm,he⟩:=h e aI5
  have ih:=GE n es (i+1) λe9 h9=>h e9 (aJ5 _ h9)
  unfold Instr.findNow
  have hs:Instr.sameNow (.int .i64) (.int .i64 n) (.int .i64 m)=some false:=by
   simp only [Instr.sameNow,if_true]
   congr 1
   rw [beq_eq_false_iff_ne];exact λe9=>hm e9.symm
  rw [he]
  simp only [hs,ih]
section
variable {P:Program} {ops:Array Oper} {Q:Act->World->Prop} {l:List Oper} {a:Act} {w w0:World} {N:Nat} {L:List (Nat × Value)} {Df:List Deferred} {B:List Own} {d:Tmp} {ty:TypeId} {pos:String} {af:Array Edge} {x y z:Operand} {t kt et:TypeId}
end
theorem y8 {l:List Mb} (h:Rg l) {m:Mb} (hm:m∈l):i9 l m.1=0/\gl l m.1=m:=o7 ((lU l).2 h) (Gf h hm)
theorem WY {l:List Mb} (h:Rg l) {m:Mb} (hm:m∈l):rX l m.1=Hb l m:=by rw [NU (y8 h hm).1,(y8 h hm).2]
theorem Wc {l:List Mb} (h:Rg l) {m:Mb} (hm:m∈l) {n:Nat} (hn:n<=16):lM l m.1 n=0/\iQ l m.1 n=rF l m n:=by
 have h1:lM l m.1 n=0:=(Ce (by omega) (by omega)).trans (y8 h hm).1
 exact ⟨h1,by rw [L0 h1,(y8 h hm).2,Int.toNat_natCast]⟩
theorem Pz (l:List Mb) (m:Mb):rF l m 1=[fH l m]:=rfl
theorem sy {w:World} {b:Nat} {M:TypeId} {vs:Value} {r r':List Mb} {e e':Int} (hr:r'=r) (he:e'=e) (o:cF w b M 33 vs r.length (aq r)):∃ v8,Value.tuple #[vs,.int .i64 e]=.tuple #[v8,.int .i64 e']/\cF w b M 33 v8 r'.length (aq r'):=by
 subst hr;subst he;exact ⟨vs,rfl,o⟩
theorem PK {l:List Mb} {no many:Int} {m:Nat} (hm:many=(m:Int)) (h:lM l no many=i9 l no) (h0:i9 l no=0):iQ l no many=rF l (gl l no) m:=by rw [L0 (h.trans h0),hm,Int.toNat_natCast]
end Go.Proofs.YthmlflaiidhoiaaGreatDoor
namespace Go.Proofs.YthmlflaiidhoiaaGreatDoor
open Go.RowKit Go.ChangeShapes Go.WideShapes Go.ChangeAt
theorem tC {H:Type} {enc:TypeId × Value->H} {P:Program} {w:World} {base:Nat} {spare:Nat->Bool} {held:Bool} {t tn ti e:TypeId} {f0 f1:Field} {fuel:Nat} {cs:List Value} {x:DataW H × List MemPlace} (T:IdTy P ti e) (hc:P.cellsOf ti=32) (hce:P.cellsOf e=1) (hn:P.underlying tn=some (.int .i64)) (hcn:P.cellsOf tn=1)
 (ht:P.underlying t=some (.struct #[f0,f1])) (h0:f0.type=tn) (h1:f1.type=ti) (o0:f0.offset=0) (o1:f1.offset=1) (hct:P.cellsOf t=33) (h:DataW.trod enc P w base spare held fuel t cs=some x):∃ l:Mb,cs=(ar l).toList:=by
 obtain ⟨xs,n,rfl,_,hl,hxl,hel⟩:=DataW.trod_struct ht h
 rw [hct] at hl
 have hx2:xs.length=2:=by simpa using hxl
 have e0:=hel 0 f0 rfl
 have e1:=hel 1 f1 rfl
 rw [h0,o0,hcn,aH8 (by omega)] at e0
 rw [h1,o1,hc,aH8 (by omega)] at e1
 obtain ⟨k,hk,_⟩:=DataW.trod_int hn e0
 obtain ⟨a,ha⟩:=ky T hc hce e1
 refine ⟨(k,a),?_⟩
 rw [k5,← ha]
 have hdrop:(cs.drop 1).take 32=cs.drop 1:=aJ9 (by rw [aK2];omega)
 have hsplit:cs=(cs.drop 0).take 1++cs.drop 1:=by
  rw [List.drop_zero,aJ7]
 rw [hk] at hsplit
 rw [hdrop]
 exact hsplit
def btw (s9 t9:Id) (x:Mb):Bool:=decide (x.2≠t9) && (decide (x.2≠s9) && zb x.2 s9 t9)
def csS (s9:Id) (p:Mb × Id) (m:Mb):Mb × Id:=bif decide (p.2.toNat<fd s9 m.2) then (m,m.2 - s9) else p
def csK (s9:Id) (r:List Mb):Mb × Id:=r.foldl (csS s9) (bH,0#256)
abbrev onW (s9 t9:Id) (l:List Mb):List Mb:=l.filter (btw s9 t9)
def csE (s9 t9:Id) (l:List Mb):Int:=bif (onW s9 t9 l).isEmpty then 6 else 0
def csM (s9 t9:Id) (l:List Mb):Mb:=(csK s9 (onW s9 t9 l)).1
section
variable {P:Program} {a:Act} {w w0:World} {N:Nat} {L:List (Nat × Value)} {B:List Own} {fn:Func} {T:ez} {R:Ending->World->Prop}
end
theorem bs.elF {w:World} {v:Value} {sz n:Nat} {xs:List Value} (h:bs w v sz n xs) (j off m:Nat) (hj:j<n) (hz:0<sz) {C D:Array Value} (hC:((xs.drop (j*sz)).take sz).toArray=C) (hD:C.extract off (off+m)=D):aJ w (bO v (j*sz+off)) D:=by
 have h1:=(h.el j hj hz hC).sub off m hD
 obtain ⟨p,q,c,rfl⟩:=h.some (by omega)
 have e:(bO (.slice (Option.some p) q c) (j*sz)).add off=bO (.slice (Option.some p) q c) (j*sz+off):=mI _ _ _
 rwa [e] at h1
end Go.Proofs.YthmlflaiidhoiaaGreatDoor
