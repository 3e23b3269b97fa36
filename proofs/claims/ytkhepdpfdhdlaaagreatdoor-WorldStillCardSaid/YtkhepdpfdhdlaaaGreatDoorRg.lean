/- Members on the ring: ways, members found; own slices that are set; members that come in; the closest of those that are known; no Go in it. -/
import Derived.Test.YtkhepdpfdhdlaaaGreatDoorEm
set_option linter.unusedVariables false
set_option linter.unusedSimpArgs false
set_option linter.unusedSectionVars false
namespace Go.Proofs.YtkhepdpfdhdlaaaGreatDoor
open Go.RowKit
def NN:Nat:=2 ^ 256
def fd (s x:Id):Nat:=(x - s).toNat
theorem CZ (x:Id):x.toNat<NN:=x.isLt
theorem z8 (s x:Id):(s.toNat<=x.toNat/\fd s x+s.toNat=x.toNat)∨(x.toNat<s.toNat/\fd s x+s.toNat=NN+x.toNat):=by
 have h1:=CZ s
 have h2:=CZ x
 have h3:fd s x=(NN - s.toNat+x.toNat) % NN:=BitVec.toNat_sub ..
 by_cases h:s.toNat<=x.toNat
 ·refine .inl ⟨h,?_⟩
  have h4:NN - s.toNat+x.toNat=(x.toNat - s.toNat)+NN:=by omega
  rw [h3,h4,Nat.add_mod_right,Nat.mod_eq_of_lt (by omega)]
  omega
 ·refine .inr ⟨by omega,?_⟩
  rw [h3,Nat.mod_eq_of_lt (by omega)]
  omega
theorem UT {s x y:Id} (h:fd s x=fd s y):x=y:=by
 have h1:=z8 s x
 have h2:=z8 s y
 have h3:=CZ x
 have h4:=CZ y
 exact BitVec.eq_of_toNat_eq (by omega)
theorem HT (a b:Id):gr a b<0↔a.toNat<b.toNat:=by
 have:=O7 a b
 rw [as8] at this
 exact this
abbrev Mb:=Int × Id
def bz:Mb:=(0,0#256)
def fe:Mb:=(-1,0#256)
def EC (m:Mb):List Value:=.int .i64 m.1::(aI m.2).toList
def ay (m:Mb):Array Value:=(EC m).toArray
theorem cT (m:Mb):(EC m).length=33:=by simp [EC]
theorem ai (m:Mb):(ay m).size=33:=by simp [ay,cT]
theorem nS (m:Mb):∀ v∈EC m,v.oneCell'=true:=λv hv=>by
 rcases at1.1 hv with rfl|hv
 ·simp [Value.oneCell',Value.cells]
 ·rw [dU] at hv;exact ef _ _ v hv
theorem bI (m:Mb):∀ v∈(ay m).toList,v.oneCell'=true:=nS m
theorem cf (m:Mb):(ay m)[0]? = some (.int .i64 m.1):=rfl
theorem c8 (m:Mb):(ay m).extract 1 (1+32)=aI m.2:=by
 apply Array.ext'
 rw [Array.toList_extract,List.extract_eq_take_drop]
 show (((EC m).drop 1).take 32)=_
 exact au4 (by rw [au7,cT];exact at6 _)
theorem Fp {x y:Mb} (h:(ay x).toList=(ay y).toList):x=y:=by
 have h':=Array.toList_inj.1 h
 have h0:=cf x;rw [h',cf] at h0
 have h2:=c8 x;rw [h',c8] at h2
 simp at h0
 exact Prod.ext h0.symm (jr h2).symm
theorem jC (x y:Mb):decide (x=y)=true↔(ay x).toList=(ay y).toList:=by
 rw [as5];exact ⟨λh=>by rw [h],Fp⟩
def ap (l:List Mb):List Value:=l.flatMap EC
theorem i1 (l:List Mb):(ap l).length=l.length*33:=fq _ 33 cT l
theorem fF (l r:List Mb):ap (l++r)=ap l++ap r:=aw7
theorem ic (x:Mb):ap [x]=(ay x).toList:=by simp [ap,ay]
theorem jX (l:List Mb):∀ u∈ap l,u.oneCell'=true:=λu hu=>by
 obtain ⟨x,_,hx⟩:=List.mem_flatMap.1 hu
 exact nS x u hx
theorem L9 (l:List Mb) (j:Nat) (hj:j<l.length):(((ap l).drop (j*33)).take 33).toArray=ay l[j]:=by
 unfold ap
 rw [fk _ 33 cT l j hj];rfl
theorem De {w:World} {v:Value} {l:List Mb} (h:br w v 33 l.length (ap l)) (k:Nat) (hk:k<=l.length):br w (jK v k) 33 (l.take k).length (ap (l.take k)):=by
 have:=h.cut k hk
 unfold ap at this
 rw [iS _ 33 cT] at this
 rw [av5,Nat.min_eq_left hk]
 exact this
theorem yo {l:List Mb} {j:Nat} (hj:j<l.length):l[j]=l.getD j bz:=by
 rw [au1,as3 hj];rfl
theorem fu (l:List Mb) (j:Nat) (hj:j<l.length):(((ap l).drop (j*33)).take 33).toArray=ay (l.getD j bz):=by rw [L9 l j hj,yo hj]
theorem iI {l:List Mb} {j:Nat} (hj:j<l.length):l.getD j bz∈l:=by rw [← yo hj];exact ax6 hj
theorem uD {l:List Mb} {x:Mb} (h:x∈l):∃ j,j<l.length/\l.getD j bz=x:=by
 obtain ⟨j,hj,rfl⟩:=List.mem_iff_getElem.1 h
 exact ⟨j,hj,(yo hj).symm⟩
def kT (m x:Mb):Bool:=decide (x.1=m.1) || decide (x.2=m.2)
def nr (l:List Mb) (d:Nat):Bool:=decide ((l.getD d bz).1<0) || (decide (16<=(l.getD d bz).1) || (l.take d).any (kT (l.getD d bz)))
def ft (l:List Mb):Bool:=decide (l.length<=16) && (List.range l.length).all λd => !nr l d
structure Rg (l:List Mb):Prop where
 len:l.length<=16
 nos:∀ m∈l,0<=m.1/\m.1<16
 nd:l.Pairwise λa b=>a.1≠b.1/\a.2≠b.2
theorem jF (l:List Mb):ft l=true↔l.length<=16/\∀ d,d<l.length->nr l d=false:=by
 unfold ft
 rw [as0,as5,as1]
 refine ⟨λ⟨h1,h2⟩=>⟨h1,λd hd=>?_⟩,λ⟨h1,h2⟩=>⟨h1,λd hd=>?_⟩⟩
 ·have:=h2 d (at2.2 hd);simpa using this
 ·rw [h2 d (at2.1 hd)];rfl
theorem lA {l:List Mb} {d:Nat} (hd:d<l.length) (hb:nr l d=true):ft l=false:=by
 rw [← Bool.not_eq_true,jF]
 rintro ⟨_,h⟩
 rw [h d hd] at hb;cases hb
theorem zD {l:List Mb} (h:¬ l.length<=16):ft l=false:=by
 rw [← Bool.not_eq_true,jF]
 exact λh9=>h h9.1
theorem yT {l:List Mb} (h0:l.length<=16) (h:∀ d,d<l.length->nr l d=false):ft l=true:=(jF l).2 ⟨h0,h⟩
theorem rm {l:List Mb} {d:Nat} (hd:d<l.length):nr l d=false↔(0<=l[d].1/\l[d].1<16)/\∀ j (hj:j<d),l[j].1≠l[d].1/\l[j].2≠l[d].2:=by
 unfold nr
 rw [← yo hd,Bool.or_eq_false_iff,Bool.or_eq_false_iff,decide_eq_false_iff_not,decide_eq_false_iff_not,ay0]
 refine ⟨λ⟨h1,h2,h3⟩=>⟨by omega,λj hj=>?_⟩,λ⟨h1,h2⟩=>⟨by omega,by omega,λx hx=>?_⟩⟩
 ·have h4:=h3 l[j] (List.mem_iff_getElem.2 ⟨j,by rw [av5];omega,by rw [List.getElem_take]⟩)
  unfold kT at h4
  simpa using h4
 ·obtain ⟨j,hj,rfl⟩:=List.mem_iff_getElem.1 hx
  rw [av5] at hj
  rw [List.getElem_take]
  have:=h2 j (by omega)
  unfold kT
  simpa using this
theorem rU (l:List Mb):ft l=true↔Rg l:=by
 rw [jF]
 refine ⟨λ⟨h1,h2⟩=>⟨h1,λm hm=>?_,List.pairwise_iff_getElem.2 λi j hi hj hij=>?_⟩,λh=>⟨h.len,λd hd=>(rm hd).2 ⟨h.nos _ (ax6 hd),λj hj=>List.pairwise_iff_getElem.1 h.nd j d (by omega) hd hj⟩⟩⟩
 ·obtain ⟨j,hj,rfl⟩:=List.mem_iff_getElem.1 hm
  exact((rm hj).1 (h2 j hj)).1
 ·exact((rm hj).1 (h2 j hj)).2 i hij
theorem QA {α:Type} {R:α->α->Prop} (hs:∀ a b,R a b->R b a) {l:List α} (h:l.Pairwise R) {x y:α} (hx:x∈l) (hy:y∈l) (hn:¬ R x y):x=y:=by
 obtain ⟨i,hi,rfl⟩:=List.mem_iff_getElem.1 hx
 obtain ⟨j,hj,rfl⟩:=List.mem_iff_getElem.1 hy
 rcases Nat.lt_trichotomy i j with h1|h1|h1
 ·exact az2 (List.pairwise_iff_getElem.1 h i j hi hj h1) hn
 ·subst h1;rfl
 ·exact az2 (hs _ _ (List.pairwise_iff_getElem.1 h j i hj hi h1)) hn
theorem Rg.no {l:List Mb} (h:Rg l) {x y:Mb} (hx:x∈l) (hy:y∈l) (e:x.1=y.1):x=y:=
 QA (λ_ _ h9=>⟨h9.1.symm,h9.2.symm⟩) h.nd hx hy λh9=>h9.1 e
theorem Rg.id {l:List Mb} (h:Rg l) {x y:Mb} (hx:x∈l) (hy:y∈l) (e:x.2=y.2):x=y:=
 QA (λ_ _ h9=>⟨h9.1.symm,h9.2.symm⟩) h.nd hx hy λh9=>h9.2 e
theorem Rg.sub {l r:List Mb} (h:Rg l) (hs:r.Sublist l):Rg r:=⟨ax0 hs.length_le h.len,λm hm=>h.nos m (hs.subset hm),h.nd.sublist hs⟩
theorem Rg.fd {l:List Mb} (h:Rg l) {x y:Mb} (s:Id) (hx:x∈l) (hy:y∈l) (hn:x≠y):fd s x.2≠fd s y.2:=λe=>hn (h.id hx hy (UT e))
def kr (f:Mb->Nat) (l:List Mb):Nat->Mb
 |0=>l.getD 0 bz
 |k+1=>bif decide (f (l.getD (k+1) bz)<f (kr f l k)) then l.getD (k+1) bz else kr f l k
def UO (f:Mb->Nat) (l:List Mb):Nat->Mb
 |0=>l.getD 0 bz
 |k+1=>bif decide (f (UO f l k)<f (l.getD (k+1) bz)) then l.getD (k+1) bz else UO f l k
def yB (s:Id) (m:Mb):Nat:=fd s m.2
def Mt (l:List Mb) (x:Id):Mb:=kr (yB x) l (l.length - 1)
def ag8 (l:List Mb) (m:Mb):Mb:=UO (yB m.2) l (l.length - 1)
def aa6 (l:List Mb) (m:Mb):Mb:=Mt l (m.2+af7 0)
theorem jR (m:Mb):(ay m).toList=Value.int .i64 m.1::(aI m.2).toList:=rfl
theorem xV:ay bz=(Value.int .i64 0::List.replicate 32 (Value.int .u8 0)).toArray:=by
 unfold ay EC bz;rw [ei];rfl
theorem AR (m:Mb):((ay m).toList.drop 0).take 1=[Value.int .i64 m.1]:=rfl
theorem yd (m:Mb):((ay m).toList.drop 1).take 32=(cG (bQ m.2) 32).toList:=by
 rw [jR,List.drop_succ_cons,List.drop_zero,au4 (by simp),dU]
def Zj:List (List Value):=[[.int .i64 0],List.replicate 32 (.int .u8 0)]
section
variable {P:Program} {ρ:Operand->Value} {d:Option Tmp} {ty:TypeId} {pos:String} {af:Array Edge} {g:Option (Nat × Bool)} {x y:Operand} {t:TypeId}
theorem oo (S:Stt P t Zj):a7 P ⟨d,.build t #[],ty,pos,af,g⟩ ρ (.agg (ay bz)):=by
 have:=bk (P:=P) (ρ:=ρ) (d:=d) (ty:=ty) (pos:=pos) (af:=af) (g:=g) (parts:=#[]) S [] (by simp) (λi v hm=>by simp at hm) (D:=(ay bz).toList) (by rw [xV];rfl)
 simpa using this
theorem nY {q:Int} (S:Stt P t Zj) (hx:ρ x=.int .i64 q):a7 P ⟨d,.build t #[(0,x)],ty,pos,af,g⟩ ρ (.agg (ay (q,0#256))):=by
 have:=bk (P:=P) (ρ:=ρ) (d:=d) (ty:=ty) (pos:=pos) (af:=af) (g:=g) (parts:=#[(0,x)]) S [(0,.int .i64 q)] (by simp [hx]) (λi v hm=>by simp at hm;rcases hm with ⟨rfl,rfl⟩;exact ⟨_,rfl,rfl⟩) (D:=(ay (q,0#256)).toList) (by rw [jR,ei];rfl)
 simpa using this
theorem xI {q:Int} {b:Id} (S:Stt P t Zj) (hx:ρ x=.int .i64 q) (hy:ρ y=.agg (aI b)):a7 P ⟨d,.build t #[(0,x),(1,y)],ty,pos,af,g⟩ ρ (.agg (ay (q,b))):=by
 have:=bk (P:=P) (ρ:=ρ) (d:=d) (ty:=ty) (pos:=pos) (af:=af) (g:=g) (parts:=#[(0,x),(1,y)]) S [(0,.int .i64 q),(1,.agg (aI b))] (by simp [hx,hy]) (λi v hm=>by
  simp at hm
  rcases hm with ⟨rfl,rfl⟩|⟨rfl,rfl⟩
  ·exact ⟨_,rfl,rfl⟩
  ·exact ⟨_,rfl,by show (aI b).size=_;rw [aC];rfl⟩) (D:=(ay (q,b)).toList) (by rw [jR];show [_]++((aI b).toList++[])=_;rw [aw9];rfl)
 simpa using this
end
theorem yf (m:Mb):∀ v∈([.agg (ay m)]:List Value),v.cells.size=33:=λv hv=>by
 rw [as9] at hv;subst hv;exact ai m
theorem oM (m:Mb):([Value.agg (ay m)].flatMap λv=>v.cells.toList)=(ay m).toList:=by simp [Value.cells]
theorem DB (l:List Mb) (x:Mb):ap l++(ay x).toList=ap (l++[x]):=by rw [fF,ic]
theorem Pb {l:List Mb} {p:Mb->Bool} {r:Int} (hr:(r = -1/\∀ x∈l,p x=false)∨∃ k:Nat,∃ hk:k<l.length,r=(k:Int)/\p l[k]=true):decide (0<=r)=l.any p:=by
 rcases hr with ⟨rfl,h⟩|⟨k,hk,rfl,h⟩
 ·symm
  refine(ay0.2 λx hx=>?_).trans (by decide)
  rw [h x hx];decide
 ·rw [ar7 (by omega)]
  exact(ax9.2 ⟨_,ax6 hk,h⟩).symm
theorem SW {l:List Mb} {d:Nat} (h:decide ((l.getD d bz).1<0)=true):nr l d=true:=by unfold nr;rw [h];rfl
theorem Sf {l:List Mb} {d:Nat} (h:decide (16<=(l.getD d bz).1)=true):nr l d=true:=by unfold nr;rw [h];simp
theorem Hw {l:List Mb} {d:Nat} (h0:decide ((l.getD d bz).1<0)=false) (h1:decide (16<=(l.getD d bz).1)=false):nr l d=(l.take d).any (kT (l.getD d bz)):=by unfold nr;rw [h0,h1];rfl
def iY (l:List Mb) (no:Int):Option Mb:=l.find? λm=>decide (m.1=no)
theorem PT {l:List Mb} {no:Int} {k:Nat} (hk:k<l.length) (h:∀ j,j<k->decide ((l.getD j bz).1=no)=false) (he:decide ((l.getD k bz).1=no)=true):iY l no=some (l.getD k bz):=by
 unfold iY
 rw [List.find?_eq_some_iff_getElem]
 refine ⟨he,k,hk,yo hk,λj hj=>?_⟩
 rw [yo (by omega),h j hj];rfl
theorem PP {l:List Mb} {no:Int} {k:Nat} (hk:l.length<=k) (h:∀ j,j<k->decide ((l.getD j bz).1=no)=false):iY l no=none:=by
 unfold iY
 rw [List.find?_eq_none]
 intro x hx
 obtain ⟨j,hj,rfl⟩:=uD hx
 rw [h j (by omega)];decide
theorem zU {l:List Mb} {no:Int} {m:Mb} (h:iY l no=some m):m∈l/\m.1=no:=by
 refine ⟨List.mem_of_find?_eq_some h,?_⟩
 have:=List.find?_some h
 exact ar4 this
theorem PZ {l:List Mb} (h:Rg l) {m:Mb} (hm:m∈l):iY l m.1=some m:=by
 cases hf:iY l m.1 with
 |none=>
  unfold iY at hf
  have:=List.find?_eq_none.1 hf m hm
  simp at this
 |some x=>
  obtain ⟨h1,h2⟩:=zU hf
  rw [h.no h1 hm h2]
theorem DT {l:List Mb} {no:Int}:iY l no=none∨∃ m,iY l no=some m/\m∈l/\m.1=no:=by
 cases h:iY l no with
 |none=>exact .inl rfl
 |some m=>exact .inr ⟨m,rfl,zU h⟩
def nG (l:List Mb) (no:Int):Mb:=(iY l no).getD fe
def u0 (l:List Mb):Int:=bif ft l then (bif decide (l.length=0) then 6 else 0) else 1
def fl (l:List Mb) (x:Id):Mb:=bif ft l then (bif decide (l.length=0) then bz else Mt l x) else bz
theorem DX {l:List Mb} (x:Id) (h:ft l=false):u0 l=1/\fl l x=bz:=by unfold u0 fl;rw [h];exact ⟨rfl,rfl⟩
theorem zO {l:List Mb} (x:Id) (h:ft l=true) (h0:l.length=0):u0 l=6/\fl l x=bz:=by unfold u0 fl;rw [h,ar7 h0];exact ⟨rfl,rfl⟩
theorem Ji {l:List Mb} (x:Id) (h:ft l=true) (h0:¬ l.length=0):u0 l=0/\fl l x=Mt l x:=by unfold u0 fl;rw [h,ar6 h0];exact ⟨rfl,rfl⟩
theorem G2 {f:Mb->Nat} {l:List Mb} {k:Nat} (h:f (l.getD (k+1) bz)<f (kr f l k)):kr f l (k+1)=l.getD (k+1) bz:=by
 show (bif _ then _ else _)=_;rw [ar7 h];rfl
theorem PI {f:Mb->Nat} {l:List Mb} {k:Nat} (h:¬ f (l.getD (k+1) bz)<f (kr f l k)):kr f l (k+1)=kr f l k:=by
 show (bif _ then _ else _)=_;rw [ar6 h];rfl
theorem NR (s x y:Id):decide (gr (x - s) (y - s)<0)=decide (fd s x<fd s y):=as8.2 (HT _ _)
section
variable {P:Program} {ops:List Oper} {K:Act->World->Prop} {l:List Oper} {a:Act} {w:World} {N:Nat} {L:List (Nat × Value)} {Df:List Deferred} {d:Tmp} {ty:TypeId} {pos:String} {af:Array Edge}
theorem vE {f:FuncId} {caps:List Value} {cal:Operand} {args:Array Operand} {tys:Array TypeId} (vs:List Value) {X:Value} (h:Sl N a L Df) (hf:Fnc P f) (hc:ep L cal=some (.func (.func f) #[] caps.toArray))
 (hC:∀ w',Ext w w'->Calls P f (vs++caps).toArray w' (cd w' (is X))) (hvs:args.toList.map (ep L)=vs.map some) (hd:Nat.blt d N=true)
 (k:∀ a',Sl N a' ((d,X)::L) Df->im P ops.toArray K w l a'):
 im P ops.toArray K w (⟨some d,.call {callee:=.value cal,args:=args,argTypes:=tys},ty,pos,af,none⟩::l) a:=
 jY X h (λw' hE=>m4 hf (h.ev hc) (kQ h hvs) (by rw [show vs.toArray++caps.toArray=(vs++caps).toArray from by simp];exact hC w' hE)) hd k
end
section
variable {P:Program} {a:Act} {w w0:World} {N:Nat} {L:List (Nat × Value)} {B:List Own} {fn:Func}
theorem AA {T:dz} {t:Tmp} {V:Value} {D:Nat} (j:Nat) (hres:fn.results=#[.tmp t]) (h:Sl N a L [{target:=.collected D,args:=#[]}]) (s:St w0 B w) (hv:lk L t=some V)
 (hj:B[j]? = some (.blk D (.deferred (some [])))) (hT:∀ w',St w0 (B.set j (.blk D (.deferred none))) w'->T V w'):bodyPostM (FR none) 0 P fn (cd w0 T) .ret a w:=by
 show LeavesInM (FR none) 0 P fn a.tmps (cd w0 T) a.defers .returning w
 rw [h.defers]
 have s2:=s.putObj j hj (.deferred none)
 exact ⟨by simp,.inl ⟨D,_,rfl,run_takeDeferred (s.get j hj),V,by rw [results_tmp hres,h.holds t V hv],V,rfl,hT _ s2,s2.ext⟩⟩
end
theorem uC (a:Id):(aI a).extract 0 (0+32)=aI a:=by
 apply Array.ext'
 rw [Array.toList_extract,List.extract_eq_take_drop,List.drop_zero,Nat.zero_add,Nat.sub_zero]
 exact au4 (by simp)
theorem Mw {m x:Mb} (h:decide (x.1=m.1)=true):kT m x=true:=by unfold kT;rw [h];rfl
theorem Oc {m x:Mb} (h:decide (x.1=m.1)=false):kT m x=decide (x.2=m.2):=by unfold kT;rw [h];rfl
theorem tK {l:List Mb} {d:Nat} (hd:d<l.length):l.take (d+1)=l.take d++[l.getD d bz]:=by rw [List.take_succ_eq_append_getElem hd,yo hd]
theorem H8 {l r:List Mb} {k:Nat} (h:∀ j,j<k->l.getD j bz=r.getD j bz) (he:l.getD k bz=r.getD k bz):∀ j,j<k+1->l.getD j bz=r.getD j bz:=λj hj=>by
 by_cases h1:j<k
 ·exact h j h1
 ·obtain rfl:j=k:=by omega
  exact he
theorem OA {l r:List Mb} (hl:l.length=r.length) (h:∀ j,j<l.length->l.getD j bz=r.getD j bz):l=r:=by
 apply List.ext_getElem hl
 intro i h1 h2
 rw [yo h1,yo h2,h i h1]
section
variable {P:Program} {ops:Array Oper} {Q:Act->World->Prop} {l:List Oper} {a:Act} {w w0:World} {N:Nat} {L:List (Nat × Value)} {Df:List Deferred} {B:List Own} {d:Tmp} {ty:TypeId} {pos:String} {af:Array Edge} {x y:Operand} {t e:TypeId}
theorem gl {v:Value} {sz n:Nat} {xs ys:List Value} {D:Array Value} (i j:Nat) (h:Sl N a L Df) (s:St w0 B w) (hr:Row P t sz) (hx:ep L x=some (.pointer (some (bC v (j*sz))))) (hy:ep L y=some (.agg D)) (hi:B[i]? = some (.sl v e sz n xs)) (hD:D.size=sz) (hj:j<n) (hv:∀ u∈D.toList,u.oneCell'=true)
 (hys:xs.take (j*sz)++D.toList++xs.drop (j*sz+sz)=ys)
 (k:∀ w',St w0 (B.set i (.sl v e sz n ys)) w'->cB P ops Q l a w'):cB P ops Q (⟨none,.store t x y,ty,pos,af,none⟩::l) a w:=by
 have ho:=s.getSl i hi
 rcases ho.2 with ⟨_,h0⟩|⟨g,cap,cur,fz,rfl,hb,hg,hfz,hnc,hcm,hcs,htk⟩
 ·omega
 ·have hle:j*sz+sz<=n*sz:=by
   have:=Nat.mul_le_mul_right sz (show j+1<=n from hj)
   rwa [Nat.add_mul,Nat.one_mul] at this
  have hcl:n*sz<=cur.size:=by rw [hcs];exact Nat.mul_le_mul_right _ hnc
  have hxl:xs.length=n*sz:=ho.1
  have hcx:cur.toList=xs++cur.toList.drop (n*sz):=by rw [← htk];exact(au2 _ _).symm
  have hyl:ys.length=n*sz:=by
   rw [← hys];simp only [as2,av5,au7,as7];omega
  have hnew:cur.toList.take (j*sz)++D.toList++cur.toList.drop (j*sz+D.size)=ys++cur.toList.drop (n*sz):=by
   rw [← hys,hD]
   conv=>lhs;rw [hcx]
   rw [List.take_append_of_le_length (by omega),List.drop_append_of_le_length (by omega)]
   simp only [aw8]
  have hst:(storeVar t ⟨g,j*sz,none⟩ (.agg D)).run P w=.ok () (w.setRow g (ys++cur.toList.drop (n*sz)).toArray):=by
   have hs:(sizeOf t).run P w=.ok D.size w:=by
    cases hq:P.info? t with
    |none=>have:=hr.size;simp [hq] at this
    |some i=>have:=hr.size;simp [hq] at this;simp [sizeOf,typeInfo,aw2,hq,this,hD]
   have:=dp P g (j*sz) e fz D.toList 0 cur w hg hfz (by rw [as7];omega) hv
   simp only [Nat.add_zero,as7] at this
   rw [hnew] at this
   simp [storeVar,aw2,hs,Value.cells,this]
  have hsz:(ys++cur.toList.drop (n*sz)).toArray.size=cur.size:=by
   rw [List.size_toArray,as2,au7,hyl];have:=as7 (xs:=cur);omega
  refine iZ (R:=λ_ w'=>w'=w.setRow g (ys++cur.toList.drop (n*sz)).toArray) ?_ λw' _ hw=>by
   subst hw
   refine k _ (s.upd i hi (p':=.sl _ e sz n ys) rfl rfl rfl (by simp) ⟨hyl,.inr ⟨g,cap,_,fz,rfl,hb,setRow_heap w g cur _ e fz hg,?_,hnc,hcm,?_,?_⟩⟩ (λk hk=>.inl hk) (λk hk hne=>setRow_other w g k _ λe9=>hne (Own.at_sl.2 (by simp [Value.ownBlock,e9]))))
   ·rw [hsz];exact hfz
   ·rw [hsz];exact hcs
   ·show (ys++cur.toList.drop (n*sz)).take (n*sz)=ys
    rw [← hyl];exact List.take_left
  unfold dh
  have hel:(some (bC (Value.slice (some ⟨g,0,none⟩) n cap) (j*sz)):Option Addr)=some ⟨g,j*sz,none⟩:=by show some (Addr.add _ _)=_;rw [Addr.add_lit,Nat.zero_add]
  rw [hel] at hx
  simp only [execOp,h.ev hx,h.ev hy,Instr.storeAt,Instr.sureAddr,aw2,aw3,as4,hst]
end
theorem KV {l:List Mb} {j:Nat} (x:Mb) (hj:j<l.length):(ap l).take (j*33)++(ay x).toList++(ap l).drop (j*33+33)=ap (l.set j x):=by
 have h1:(ap l).take (j*33)=ap (l.take j):=by unfold ap;rw [iS _ 33 cT]
 have h2:(ap l).drop (j*33+33)=ap (l.drop (j+1)):=by
  have:=ar8 (List.drop ((j+1)*33)) (fF (l.take (j+1)) (l.drop (j+1)))
  rw [au2,List.drop_left' (by rw [i1,av5,Nat.min_eq_left (by omega)])] at this
  rw [← this];congr 1;omega
 rw [h1,h2,← ic,← fF,← fF,List.set_eq_take_append_cons_drop,if_pos hj,aw8,List.singleton_append]
theorem DC (n:Int):∀ (es:List MapEntry) (i:Nat),(∀ e∈es,∃ m:Int,m≠n/\e.key=.int .i64 m)->Instr.findNow (.int .i64) (.int .i64 n) es i=some none
 |[],_,_=>rfl
 |e::es,i,h=>by
  obtain ⟨m,hm,he⟩:=h e at0
  have ih:=DC n es (i+1) λe9 h9=>h e9 (au0 _ h9)
  unfold Instr.findNow
  have hs:Instr.sameNow (.int .i64) (.int .i64 n) (.int .i64 m)=some false:=by
   simp only [Instr.sameNow,if_true]
   congr 1
   rw [beq_eq_false_iff_ne];exact λe9=>hm e9.symm
  rw [he]
  simp only [hs,ih]
section
variable {P:Program} {ops:Array Oper} {Q:Act->World->Prop} {l:List Oper} {a:Act} {w w0:World} {N:Nat} {L:List (Nat × Value)} {Df:List Deferred} {B:List Own} {d:Tmp} {ty:TypeId} {pos:String} {af:Array Edge} {x y z:Operand} {t kt et:TypeId}
end
end Go.Proofs.YtkhepdpfdhdlaaaGreatDoor
namespace Go.Proofs.YtkhepdpfdhdlaaaGreatDoor
open Go.RowKit Go.ChangeShapes Go.WideShapes Go.ChangeAt
theorem rJ {H:Type} {enc:TypeId × Value->H} {P:Program} {w:World} {base:Nat} {spare:Nat->Bool} {held:Bool} {t tn ti e:TypeId} {f0 f1:Field} {fuel:Nat} {cs:List Value} {x:DataW H × List MemPlace} (T:IdTy P ti e) (hc:P.cellsOf ti=32) (hce:P.cellsOf e=1) (hn:P.underlying tn=some (.int .i64)) (hcn:P.cellsOf tn=1)
 (ht:P.underlying t=some (.struct #[f0,f1])) (h0:f0.type=tn) (h1:f1.type=ti) (o0:f0.offset=0) (o1:f1.offset=1) (hct:P.cellsOf t=33) (h:DataW.trod enc P w base spare held fuel t cs=some x):∃ l:Mb,cs=(ay l).toList:=by
 obtain ⟨xs,n,rfl,_,hl,hxl,hel⟩:=DataW.trod_struct ht h
 rw [hct] at hl
 have hx2:xs.length=2:=by simpa using hxl
 have e0:=hel 0 f0 rfl
 have e1:=hel 1 f1 rfl
 rw [h0,o0,hcn,as3 (by omega)] at e0
 rw [h1,o1,hc,as3 (by omega)] at e1
 obtain ⟨k,hk,_⟩:=DataW.trod_int hn e0
 obtain ⟨a,ha⟩:=lm T hc hce e1
 refine ⟨(k,a),?_⟩
 rw [jR,← ha]
 have hdrop:(cs.drop 1).take 32=cs.drop 1:=au4 (by rw [au7];omega)
 have hsplit:cs=(cs.drop 0).take 1++cs.drop 1:=by
  rw [List.drop_zero,au2]
 rw [hk] at hsplit
 rw [hdrop]
 exact hsplit
def btw (s9 t9:Id) (x:Mb):Bool:=decide (x.2≠t9) && (decide (x.2≠s9) && x8 x.2 s9 t9)
def csS (s9:Id) (p:Mb × Id) (m:Mb):Mb × Id:=bif decide (p.2.toNat<fd s9 m.2) then (m,m.2 - s9) else p
def csK (s9:Id) (r:List Mb):Mb × Id:=r.foldl (csS s9) (bz,0#256)
abbrev onW (s9 t9:Id) (l:List Mb):List Mb:=l.filter (btw s9 t9)
def csE (s9 t9:Id) (l:List Mb):Int:=bif (onW s9 t9 l).isEmpty then 6 else 0
def csM (s9 t9:Id) (l:List Mb):Mb:=(csK s9 (onW s9 t9 l)).1
section
variable {P:Program} {a:Act} {w w0:World} {N:Nat} {L:List (Nat × Value)} {B:List Own} {fn:Func} {T:dz} {R:Ending->World->Prop}
theorem Fl {f:FuncId} {c:Code} {args:List Value} {n:Nat} (hf:P.funcs[f]? = some fn) (hb:fn.body=some c) (hn:fn.ntmps=n) (hs:Nat.ble args.length n=true) (L:List (Nat × Value)) (hL:∀ p∈L,args[p.1]? = some p.2)
 (h:∀ a,Sl n a L->c.wpIn (FR none) 0 P (bodyPostM (FR none) 0 P fn R) a w):Calls P f args.toArray w R:=by
 refine callsIn_wide.1 (callsIn_of_wp_marks (n:=0) hf hb trivial ?_)
 rw [hn]
 exact h _ (Sl.enter L (by simpa using hs) (by simpa using hL))
theorem wX {D:Nat} (j:Nat) (hres:fn.results=#[]) (h:Sl N a L [{target:=.collected D,args:=#[]}]) (s:St w0 B w)
 (hj:B[j]? = some (.blk D (.deferred (some [])))) (hR:∀ w',St w0 (B.set j (.blk D (.deferred none))) w'->R (.returned (.tuple #[])) w'):bodyPostM (FR none) 0 P fn R .normal a w:=by
 show LeavesInM (FR none) 0 P fn a.tmps R a.defers .returning w
 rw [h.defers]
 have s2:=s.putObj j hj (.deferred none)
 exact ⟨by simp,.inl ⟨D,_,rfl,run_takeDeferred (s.get j hj),_,results_none hres _ _ _,hR _ s2⟩⟩
end
theorem br.elF {w:World} {v:Value} {sz n:Nat} {xs:List Value} (h:br w v sz n xs) (j off m:Nat) (hj:j<n) (hz:0<sz) {C D:Array Value} (hC:((xs.drop (j*sz)).take sz).toArray=C) (hD:C.extract off (off+m)=D):aF w (bC v (j*sz+off)) D:=by
 have h1:=(h.el j hj hz hC).sub off m hD
 obtain ⟨p,q,c,rfl⟩:=h.some (by omega)
 have e:(bC (.slice (Option.some p) q c) (j*sz)).add off=bC (.slice (Option.some p) q c) (j*sz+off):=lL _ _ _
 rwa [e] at h1
theorem ym (l:List Mb) (j:Nat) (hj:j<l.length):(ap l)[j*33+0]? = some (.int .i64 (l.getD j bz).1):=by
 have h1:=ar8 (λa:Array Value=>a[0]?) (fu l j hj)
 simp only [cf] at h1
 rw [← h1]
 simp
end Go.Proofs.YtkhepdpfdhdlaaaGreatDoor
