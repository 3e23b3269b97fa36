/- Members on the ring: ways, members found; own slices that are set; members that come in; the closest of those that are known; no Go in it. -/
import Derived.Test.YtkhepdpfdhdlaaaGreatDoorEm
set_option linter.unusedVariables false
set_option linter.unusedSimpArgs false
set_option linter.unusedSectionVars false
namespace Go.Proofs.YtkhepdpfdhdlaaaGreatDoor
open Go.RowKit
def NN:Nat:=2 ^ 256
def fd (s x:Id):Nat:=(x - s).toNat
theorem AR (x:Id):x.toNat<NN:=x.isLt
theorem xa (s x:Id):(s.toNat<=x.toNat/\fd s x+s.toNat=x.toNat)∨(x.toNat<s.toNat/\fd s x+s.toNat=NN+x.toNat):=by
 have h1:=AR s
 have h2:=AR x
 have h3:fd s x=(NN - s.toNat+x.toNat) % NN:=BitVec.toNat_sub ..
 by_cases h:s.toNat<=x.toNat
 ·refine .inl ⟨h,?_⟩
  have h4:NN - s.toNat+x.toNat=(x.toNat - s.toNat)+NN:=by omega
  rw [h3,h4,Nat.add_mod_right,Nat.mod_eq_of_lt (by omega)]
  omega
 ·refine .inr ⟨by omega,?_⟩
  rw [h3,Nat.mod_eq_of_lt (by omega)]
  omega
theorem P2 {s x y:Id} (h:fd s x=fd s y):x=y:=by
 have h1:=xa s x
 have h2:=xa s y
 have h3:=AR x
 have h4:=AR y
 exact BitVec.eq_of_toNat_eq (by omega)
theorem Ik (a b:Id):fA a b<0↔a.toNat<b.toNat:=by
 have:=ID a b
 rw [YE] at this
 exact this
abbrev Mb:=Int × Id
def bE:Mb:=(0,0#256)
def fc:Mb:=(-1,0#256)
def Dm (m:Mb):List Value:=.int .i64 m.1::(aA m.2).toList
def az (m:Mb):Array Value:=(Dm m).toArray
theorem cy (m:Mb):(Dm m).length=33:=by simp [Dm]
theorem am (m:Mb):(az m).size=33:=by simp [az,cy]
theorem l7 (m:Mb):∀ v∈Dm m,v.oneCell'=true:=λv hv=>by
 rcases YH.1 hv with rfl|hv
 ·simp [Value.oneCell',Value.cells]
 ·rw [di] at hv;exact dB _ _ v hv
theorem cz (m:Mb):∀ v∈(az m).toList,v.oneCell'=true:=l7 m
theorem cg (m:Mb):(az m)[0]? = some (.int .i64 m.1):=rfl
theorem fl (m:Mb):(az m).extract 1 (1+32)=aA m.2:=by
 apply Array.ext'
 rw [Array.toList_extract,List.extract_eq_take_drop]
 show (((Dm m).drop 1).take 32)=_
 exact YU (by rw [YX,cy];exact YM _)
theorem Cl {x y:Mb} (h:(az x).toList=(az y).toList):x=y:=by
 have h':=Array.toList_inj.1 h
 have h0:=cg x;rw [h',cg] at h0
 have h2:=fl x;rw [h',fl] at h2
 simp at h0
 exact Prod.ext h0.symm (rm h2).symm
theorem tI (x y:Mb):decide (x=y)=true↔(az x).toList=(az y).toList:=by
 rw [YB];exact ⟨λh=>by rw [h],Cl⟩
def aw (l:List Mb):List Value:=l.flatMap Dm
theorem nr (l:List Mb):(aw l).length=l.length*33:=dW _ 33 cy l
theorem fT (l r:List Mb):aw (l++r)=aw l++aw r:=Zh
theorem gU (x:Mb):aw [x]=(az x).toList:=by simp [aw,az]
theorem mn (l:List Mb):∀ u∈aw l,u.oneCell'=true:=λu hu=>by
 obtain ⟨x,_,hx⟩:=List.mem_flatMap.1 hu
 exact l7 x u hx
theorem Mw (l:List Mb) (j:Nat) (hj:j<l.length):(((aw l).drop (j*33)).take 33).toArray=az l[j]:=by
 unfold aw
 rw [dS _ 33 cy l j hj];rfl
theorem AT {w:World} {v:Value} {l:List Mb} (h:bp w v 33 l.length (aw l)) (k:Nat) (hk:k<=l.length):bp w (fI v k) 33 (l.take k).length (aw (l.take k)):=by
 have:=h.cut k hk
 unfold aw at this
 rw [fN _ 33 cy] at this
 rw [Y5,Nat.min_eq_left hk]
 exact this
theorem Fe {l:List Mb} {j:Nat} (hj:j<l.length):l[j]=l.getD j bE:=by
 rw [YR,Yz hj];rfl
theorem fL (l:List Mb) (j:Nat) (hj:j<l.length):(((aw l).drop (j*33)).take 33).toArray=az (l.getD j bE):=by rw [Mw l j hj,Fe hj]
theorem mC {l:List Mb} {j:Nat} (hj:j<l.length):l.getD j bE∈l:=by rw [← Fe hj];exact Zq hj
theorem rr {l:List Mb} {x:Mb} (h:x∈l):∃ j,j<l.length/\l.getD j bE=x:=by
 obtain ⟨j,hj,rfl⟩:=List.mem_iff_getElem.1 h
 exact ⟨j,hj,(Fe hj).symm⟩
def jF (m x:Mb):Bool:=decide (x.1=m.1) || decide (x.2=m.2)
def mo (l:List Mb) (d:Nat):Bool:=decide ((l.getD d bE).1<0) || (decide (16<=(l.getD d bE).1) || (l.take d).any (jF (l.getD d bE)))
def eo (l:List Mb):Bool:=decide (l.length<=16) && (List.range l.length).all λd => !mo l d
structure Rg (l:List Mb):Prop where
 len:l.length<=16
 nos:∀ m∈l,0<=m.1/\m.1<16
 nd:l.Pairwise λa b=>a.1≠b.1/\a.2≠b.2
theorem i1 (l:List Mb):eo l=true↔l.length<=16/\∀ d,d<l.length->mo l d=false:=by
 unfold eo
 rw [Yw,YB,Yx]
 refine ⟨λ⟨h1,h2⟩=>⟨h1,λd hd=>?_⟩,λ⟨h1,h2⟩=>⟨h1,λd hd=>?_⟩⟩
 ·have:=h2 d (YI.2 hd);simpa using this
 ·rw [h2 d (YI.1 hd)];rfl
theorem jx {l:List Mb} {d:Nat} (hd:d<l.length) (hb:mo l d=true):eo l=false:=by
 rw [← Bool.not_eq_true,i1]
 rintro ⟨_,h⟩
 rw [h d hd] at hb;cases hb
theorem xA {l:List Mb} (h:¬ l.length<=16):eo l=false:=by
 rw [← Bool.not_eq_true,i1]
 exact λh9=>h h9.1
theorem xJ {l:List Mb} (h0:l.length<=16) (h:∀ d,d<l.length->mo l d=false):eo l=true:=(i1 l).2 ⟨h0,h⟩
theorem pF {l:List Mb} {d:Nat} (hd:d<l.length):mo l d=false↔(0<=l[d].1/\l[d].1<16)/\∀ j (hj:j<d),l[j].1≠l[d].1/\l[j].2≠l[d].2:=by
 unfold mo
 rw [← Fe hd,Bool.or_eq_false_iff,Bool.or_eq_false_iff,decide_eq_false_iff_not,decide_eq_false_iff_not,Zu]
 refine ⟨λ⟨h1,h2,h3⟩=>⟨by omega,λj hj=>?_⟩,λ⟨h1,h2⟩=>⟨by omega,by omega,λx hx=>?_⟩⟩
 ·have h4:=h3 l[j] (List.mem_iff_getElem.2 ⟨j,by rw [Y5];omega,by rw [List.getElem_take]⟩)
  unfold jF at h4
  simpa using h4
 ·obtain ⟨j,hj,rfl⟩:=List.mem_iff_getElem.1 hx
  rw [Y5] at hj
  rw [List.getElem_take]
  have:=h2 j (by omega)
  unfold jF
  simpa using this
theorem qq (l:List Mb):eo l=true↔Rg l:=by
 rw [i1]
 refine ⟨λ⟨h1,h2⟩=>⟨h1,λm hm=>?_,List.pairwise_iff_getElem.2 λi j hi hj hij=>?_⟩,λh=>⟨h.len,λd hd=>(pF hd).2 ⟨h.nos _ (Zq hd),λj hj=>List.pairwise_iff_getElem.1 h.nd j d (by omega) hd hj⟩⟩⟩
 ·obtain ⟨j,hj,rfl⟩:=List.mem_iff_getElem.1 hm
  exact((pF hj).1 (h2 j hj)).1
 ·exact((pF hj).1 (h2 j hj)).2 i hij
theorem Mz {α:Type} {R:α->α->Prop} (hs:∀ a b,R a b->R b a) {l:List α} (h:l.Pairwise R) {x y:α} (hx:x∈l) (hy:y∈l) (hn:¬ R x y):x=y:=by
 obtain ⟨i,hi,rfl⟩:=List.mem_iff_getElem.1 hx
 obtain ⟨j,hj,rfl⟩:=List.mem_iff_getElem.1 hy
 rcases Nat.lt_trichotomy i j with h1|h1|h1
 ·exact ZF (List.pairwise_iff_getElem.1 h i j hi hj h1) hn
 ·subst h1;rfl
 ·exact ZF (hs _ _ (List.pairwise_iff_getElem.1 h j i hj hi h1)) hn
theorem Rg.no {l:List Mb} (h:Rg l) {x y:Mb} (hx:x∈l) (hy:y∈l) (e:x.1=y.1):x=y:=
 Mz (λ_ _ h9=>⟨h9.1.symm,h9.2.symm⟩) h.nd hx hy λh9=>h9.1 e
theorem Rg.id {l:List Mb} (h:Rg l) {x y:Mb} (hx:x∈l) (hy:y∈l) (e:x.2=y.2):x=y:=
 Mz (λ_ _ h9=>⟨h9.1.symm,h9.2.symm⟩) h.nd hx hy λh9=>h9.2 e
theorem Rg.sub {l r:List Mb} (h:Rg l) (hs:r.Sublist l):Rg r:=⟨Zk hs.length_le h.len,λm hm=>h.nos m (hs.subset hm),h.nd.sublist hs⟩
theorem Rg.fd {l:List Mb} (h:Rg l) {x y:Mb} (s:Id) (hx:x∈l) (hy:y∈l) (hn:x≠y):fd s x.2≠fd s y.2:=λe=>hn (h.id hx hy (P2 e))
def jb (f:Mb->Nat) (l:List Mb):Nat->Mb
 |0=>l.getD 0 bE
 |k+1=>bif decide (f (l.getD (k+1) bE)<f (jb f l k)) then l.getD (k+1) bE else jb f l k
def Qx (f:Mb->Nat) (l:List Mb):Nat->Mb
 |0=>l.getD 0 bE
 |k+1=>bif decide (f (Qx f l k)<f (l.getD (k+1) bE)) then l.getD (k+1) bE else Qx f l k
def w5 (s:Id) (m:Mb):Nat:=fd s m.2
def I1 (l:List Mb) (x:Id):Mb:=jb (w5 x) l (l.length - 1)
def Vd (l:List Mb) (m:Mb):Mb:=Qx (w5 m.2) l (l.length - 1)
def Wk (l:List Mb) (m:Mb):Mb:=I1 l (m.2+V4 0)
theorem iY (m:Mb):(az m).toList=Value.int .i64 m.1::(aA m.2).toList:=rfl
theorem tU:az bE=(Value.int .i64 0::List.replicate 32 (Value.int .u8 0)).toArray:=by
 unfold az Dm bE;rw [dC];rfl
theorem xo (m:Mb):((az m).toList.drop 0).take 1=[Value.int .i64 m.1]:=rfl
theorem vW (m:Mb):((az m).toList.drop 1).take 32=(ca (bu m.2) 32).toList:=by
 rw [iY,List.drop_succ_cons,List.drop_zero,YU (by simp),di]
def UB:List (List Value):=[[.int .i64 0],List.replicate 32 (.int .u8 0)]
section
variable {P:Program} {ρ:Operand->Value} {d:Option Tmp} {ty:TypeId} {pos:String} {af:Array Edge} {g:Option (Nat × Bool)} {x y:Operand} {t:TypeId}
theorem lT (S:Stt P t UB):aP P ⟨d,.build t #[],ty,pos,af,g⟩ ρ (.agg (az bE)):=by
 have:=aU (P:=P) (ρ:=ρ) (d:=d) (ty:=ty) (pos:=pos) (af:=af) (g:=g) (parts:=#[]) S [] (by simp) (λi v hm=>by simp at hm) (D:=(az bE).toList) (by rw [tU];rfl)
 simpa using this
theorem tk {q:Int} (S:Stt P t UB) (hx:ρ x=.int .i64 q):aP P ⟨d,.build t #[(0,x)],ty,pos,af,g⟩ ρ (.agg (az (q,0#256))):=by
 have:=aU (P:=P) (ρ:=ρ) (d:=d) (ty:=ty) (pos:=pos) (af:=af) (g:=g) (parts:=#[(0,x)]) S [(0,.int .i64 q)] (by simp [hx]) (λi v hm=>by simp at hm;rcases hm with ⟨rfl,rfl⟩;exact ⟨_,rfl,rfl⟩) (D:=(az (q,0#256)).toList) (by rw [iY,dC];rfl)
 simpa using this
theorem uv {q:Int} {b:Id} (S:Stt P t UB) (hx:ρ x=.int .i64 q) (hy:ρ y=.agg (aA b)):aP P ⟨d,.build t #[(0,x),(1,y)],ty,pos,af,g⟩ ρ (.agg (az (q,b))):=by
 have:=aU (P:=P) (ρ:=ρ) (d:=d) (ty:=ty) (pos:=pos) (af:=af) (g:=g) (parts:=#[(0,x),(1,y)]) S [(0,.int .i64 q),(1,.agg (aA b))] (by simp [hx,hy]) (λi v hm=>by
  simp at hm
  rcases hm with ⟨rfl,rfl⟩|⟨rfl,rfl⟩
  ·exact ⟨_,rfl,rfl⟩
  ·exact ⟨_,rfl,by show (aA b).size=_;rw [aF];rfl⟩) (D:=(az (q,b)).toList) (by rw [iY];show [_]++((aA b).toList++[])=_;rw [Zj];rfl)
 simpa using this
end
theorem Fu (m:Mb):∀ v∈([.agg (az m)]:List Value),v.cells.size=33:=λv hv=>by
 rw [YF] at hv;subst hv;exact am m
theorem zV (m:Mb):([Value.agg (az m)].flatMap λv=>v.cells.toList)=(az m).toList:=by simp [Value.cells]
theorem Kr (l:List Mb) (x:Mb):aw l++(az x).toList=aw (l++[x]):=by rw [fT,gU]
theorem IN {l:List Mb} {p:Mb->Bool} {r:Int} (hr:(r = -1/\∀ x∈l,p x=false)∨∃ k:Nat,∃ hk:k<l.length,r=(k:Int)/\p l[k]=true):decide (0<=r)=l.any p:=by
 rcases hr with ⟨rfl,h⟩|⟨k,hk,rfl,h⟩
 ·symm
  refine(Zu.2 λx hx=>?_).trans (by decide)
  rw [h x hx];decide
 ·rw [Yt (by omega)]
  exact(Zt.2 ⟨_,Zq hk,h⟩).symm
theorem Qg {l:List Mb} {d:Nat} (h:decide ((l.getD d bE).1<0)=true):mo l d=true:=by unfold mo;rw [h];rfl
theorem OI {l:List Mb} {d:Nat} (h:decide (16<=(l.getD d bE).1)=true):mo l d=true:=by unfold mo;rw [h];simp
theorem Fx {l:List Mb} {d:Nat} (h0:decide ((l.getD d bE).1<0)=false) (h1:decide (16<=(l.getD d bE).1)=false):mo l d=(l.take d).any (jF (l.getD d bE)):=by unfold mo;rw [h0,h1];rfl
def g5 (l:List Mb) (no:Int):Option Mb:=l.find? λm=>decide (m.1=no)
theorem KH {l:List Mb} {no:Int} {k:Nat} (hk:k<l.length) (h:∀ j,j<k->decide ((l.getD j bE).1=no)=false) (he:decide ((l.getD k bE).1=no)=true):g5 l no=some (l.getD k bE):=by
 unfold g5
 rw [List.find?_eq_some_iff_getElem]
 refine ⟨he,k,hk,Fe hk,λj hj=>?_⟩
 rw [Fe (by omega),h j hj];rfl
theorem Iy {l:List Mb} {no:Int} {k:Nat} (hk:l.length<=k) (h:∀ j,j<k->decide ((l.getD j bE).1=no)=false):g5 l no=none:=by
 unfold g5
 rw [List.find?_eq_none]
 intro x hx
 obtain ⟨j,hj,rfl⟩:=rr hx
 rw [h j (by omega)];decide
theorem vY {l:List Mb} {no:Int} {m:Mb} (h:g5 l no=some m):m∈l/\m.1=no:=by
 refine ⟨List.mem_of_find?_eq_some h,?_⟩
 have:=List.find?_some h
 exact Yq this
theorem J6 {l:List Mb} (h:Rg l) {m:Mb} (hm:m∈l):g5 l m.1=some m:=by
 cases hf:g5 l m.1 with
 |none=>
  unfold g5 at hf
  have:=List.find?_eq_none.1 hf m hm
  simp at this
 |some x=>
  obtain ⟨h1,h2⟩:=vY hf
  rw [h.no h1 hm h2]
theorem Bi {l:List Mb} {no:Int}:g5 l no=none∨∃ m,g5 l no=some m/\m∈l/\m.1=no:=by
 cases h:g5 l no with
 |none=>exact .inl rfl
 |some m=>exact .inr ⟨m,rfl,vY h⟩
def lH (l:List Mb) (no:Int):Mb:=(g5 l no).getD fc
def si (l:List Mb):Int:=bif eo l then (bif decide (l.length=0) then 6 else 0) else 1
def eh (l:List Mb) (x:Id):Mb:=bif eo l then (bif decide (l.length=0) then bE else I1 l x) else bE
theorem Bk {l:List Mb} (x:Id) (h:eo l=false):si l=1/\eh l x=bE:=by unfold si eh;rw [h];exact ⟨rfl,rfl⟩
theorem wc {l:List Mb} (x:Id) (h:eo l=true) (h0:l.length=0):si l=6/\eh l x=bE:=by unfold si eh;rw [h,Yt h0];exact ⟨rfl,rfl⟩
theorem Hk {l:List Mb} (x:Id) (h:eo l=true) (h0:¬ l.length=0):si l=0/\eh l x=I1 l x:=by unfold si eh;rw [h,Ys h0];exact ⟨rfl,rfl⟩
theorem DY {f:Mb->Nat} {l:List Mb} {k:Nat} (h:f (l.getD (k+1) bE)<f (jb f l k)):jb f l (k+1)=l.getD (k+1) bE:=by
 show (bif _ then _ else _)=_;rw [Yt h];rfl
theorem Kz {f:Mb->Nat} {l:List Mb} {k:Nat} (h:¬ f (l.getD (k+1) bE)<f (jb f l k)):jb f l (k+1)=jb f l k:=by
 show (bif _ then _ else _)=_;rw [Ys h];rfl
theorem Iw (s x y:Id):decide (fA (x - s) (y - s)<0)=decide (fd s x<fd s y):=YE.2 (Ik _ _)
section
variable {P:Program} {ops:List Oper} {K:Act->World->Prop} {l:List Oper} {a:Act} {w:World} {N:Nat} {L:List (Nat × Value)} {Df:List Deferred} {d:Tmp} {ty:TypeId} {pos:String} {af:Array Edge}
theorem uP {f:FuncId} {caps:List Value} {cal:Operand} {args:Array Operand} {tys:Array TypeId} (vs:List Value) {X:Value} (h:Sl N a L Df) (hf:Fnc P f) (hc:dO L cal=some (.func (.func f) #[] caps.toArray))
 (hC:∀ w',Ext w w'->Calls P f (vs++caps).toArray w' (bW w' (is X))) (hvs:args.toList.map (dO L)=vs.map some) (hd:Nat.blt d N=true)
 (k:∀ a',Sl N a' ((d,X)::L) Df->gd P ops.toArray K w l a'):
 gd P ops.toArray K w (⟨some d,.call {callee:=.value cal,args:=args,argTypes:=tys},ty,pos,af,none⟩::l) a:=
 iy X h (λw' hE=>kZ hf (h.ev hc) (kT h hvs) (by rw [show vs.toArray++caps.toArray=(vs++caps).toArray from by simp];exact hC w' hE)) hd k
end
section
variable {P:Program} {a:Act} {w w0:World} {N:Nat} {L:List (Nat × Value)} {B:List Own} {fn:Func}
theorem Dz {T:c8} {t:Tmp} {V:Value} {D:Nat} (j:Nat) (hres:fn.results=#[.tmp t]) (h:Sl N a L [{target:=.collected D,args:=#[]}]) (s:St w0 B w) (hv:lk L t=some V)
 (hj:B[j]? = some (.blk D (.deferred (some [])))) (hT:∀ w',St w0 (B.set j (.blk D (.deferred none))) w'->T V w'):bodyPostM (FR none) 0 P fn (bW w0 T) .ret a w:=by
 show LeavesInM (FR none) 0 P fn a.tmps (bW w0 T) a.defers .returning w
 rw [h.defers]
 have s2:=s.putObj j hj (.deferred none)
 exact ⟨by simp,.inl ⟨D,_,rfl,run_takeDeferred (s.get j hj),V,by rw [results_tmp hres,h.holds t V hv],V,rfl,hT _ s2,s2.ext⟩⟩
end
theorem q7 (a:Id):(aA a).extract 0 (0+32)=aA a:=by
 apply Array.ext'
 rw [Array.toList_extract,List.extract_eq_take_drop,List.drop_zero,Nat.zero_add,Nat.sub_zero]
 exact YU (by simp)
theorem JX {m x:Mb} (h:decide (x.1=m.1)=true):jF m x=true:=by unfold jF;rw [h];rfl
theorem Ju {m x:Mb} (h:decide (x.1=m.1)=false):jF m x=decide (x.2=m.2):=by unfold jF;rw [h];rfl
section
variable {P:Program} {ops:Array Oper} {Q:Act->World->Prop} {l:List Oper} {a:Act} {w w0:World} {N:Nat} {L:List (Nat × Value)} {Df:List Deferred} {B:List Own} {d:Tmp} {ty:TypeId} {pos:String} {af:Array Edge} {x y:Operand} {t e:TypeId}
theorem yj {v:Value} {sz n:Nat} {xs ys:List Value} {D:Array Value} (i j:Nat) (h:Sl N a L Df) (s:St w0 B w) (hr:Row P t sz) (hx:dO L x=some (.pointer (some (bI v (j*sz))))) (hy:dO L y=some (.agg D)) (hi:B[i]? = some (.sl v e sz n xs)) (hD:D.size=sz) (hj:j<n) (hv:∀ u∈D.toList,u.oneCell'=true)
 (hys:xs.take (j*sz)++D.toList++xs.drop (j*sz+sz)=ys)
 (k:∀ w',St w0 (B.set i (.sl v e sz n ys)) w'->bZ P ops Q l a w'):bZ P ops Q (⟨none,.store t x y,ty,pos,af,none⟩::l) a w:=by
 have ho:=s.getSl i hi
 rcases ho.2 with ⟨_,h0⟩|⟨g,cap,cur,fz,rfl,hb,hg,hfz,hnc,hcm,hcs,htk⟩
 ·omega
 ·have hle:j*sz+sz<=n*sz:=by
   have:=Nat.mul_le_mul_right sz (show j+1<=n from hj)
   rwa [Nat.add_mul,Nat.one_mul] at this
  have hcl:n*sz<=cur.size:=by rw [hcs];exact Nat.mul_le_mul_right _ hnc
  have hxl:xs.length=n*sz:=ho.1
  have hcx:cur.toList=xs++cur.toList.drop (n*sz):=by rw [← htk];exact(YS _ _).symm
  have hyl:ys.length=n*sz:=by
   rw [← hys];simp only [Yy,Y5,YX,YD];omega
  have hnew:cur.toList.take (j*sz)++D.toList++cur.toList.drop (j*sz+D.size)=ys++cur.toList.drop (n*sz):=by
   rw [← hys,hD]
   conv=>lhs;rw [hcx]
   rw [List.take_append_of_le_length (by omega),List.drop_append_of_le_length (by omega)]
   simp only [Zi]
  have hst:(storeVar t ⟨g,j*sz,none⟩ (.agg D)).run P w=.ok () (w.setRow g (ys++cur.toList.drop (n*sz)).toArray):=by
   have hs:(sizeOf t).run P w=.ok D.size w:=by
    cases hq:P.info? t with
    |none=>have:=hr.size;simp [hq] at this
    |some i=>have:=hr.size;simp [hq] at this;simp [sizeOf,typeInfo,Zc,hq,this,hD]
   have:=dc P g (j*sz) e fz D.toList 0 cur w hg hfz (by rw [YD];omega) hv
   simp only [Nat.add_zero,YD] at this
   rw [hnew] at this
   simp [storeVar,Zc,hs,Value.cells,this]
  have hsz:(ys++cur.toList.drop (n*sz)).toArray.size=cur.size:=by
   rw [List.size_toArray,Yy,YX,hyl];have:=YD (xs:=cur);omega
  refine kp (R:=λ_ w'=>w'=w.setRow g (ys++cur.toList.drop (n*sz)).toArray) ?_ λw' _ hw=>by
   subst hw
   refine k _ (s.upd i hi (p':=.sl _ e sz n ys) rfl rfl rfl (by simp) ⟨hyl,.inr ⟨g,cap,_,fz,rfl,hb,setRow_heap w g cur _ e fz hg,?_,hnc,hcm,?_,?_⟩⟩ (λk hk=>.inl hk) (λk hk hne=>setRow_other w g k _ λe9=>hne (Own.at_sl.2 (by simp [Value.ownBlock,e9]))))
   ·rw [hsz];exact hfz
   ·rw [hsz];exact hcs
   ·show (ys++cur.toList.drop (n*sz)).take (n*sz)=ys
    rw [← hyl];exact List.take_left
  unfold cN
  have hel:(some (bI (Value.slice (some ⟨g,0,none⟩) n cap) (j*sz)):Option Addr)=some ⟨g,j*sz,none⟩:=by show some (Addr.add _ _)=_;rw [Addr.add_lit,Nat.zero_add]
  rw [hel] at hx
  simp only [execOp,h.ev hx,h.ev hy,Instr.storeAt,Instr.sureAddr,Zc,Zd,YA,hst]
end
theorem PB {l:List Mb} {j:Nat} (x:Mb) (hj:j<l.length):(aw l).take (j*33)++(az x).toList++(aw l).drop (j*33+33)=aw (l.set j x):=by
 have h1:(aw l).take (j*33)=aw (l.take j):=by unfold aw;rw [fN _ 33 cy]
 have h2:(aw l).drop (j*33+33)=aw (l.drop (j+1)):=by
  have:=Yu (List.drop ((j+1)*33)) (fT (l.take (j+1)) (l.drop (j+1)))
  rw [YS,List.drop_left' (by rw [nr,Y5,Nat.min_eq_left (by omega)])] at this
  rw [← this];congr 1;omega
 rw [h1,h2,← gU,← fT,← fT,List.set_eq_take_append_cons_drop,if_pos hj,Zi,List.singleton_append]
section
variable {P:Program} {ops:Array Oper} {Q:Act->World->Prop} {l:List Oper} {a:Act} {w w0:World} {N:Nat} {L:List (Nat × Value)} {Df:List Deferred} {B:List Own} {d:Tmp} {ty:TypeId} {pos:String} {af:Array Edge} {x y z:Operand} {t kt et:TypeId}
end
end Go.Proofs.YtkhepdpfdhdlaaaGreatDoor
namespace Go.Proofs.YtkhepdpfdhdlaaaGreatDoor
open Go.RowKit Go.ChangeShapes Go.WideShapes Go.ChangeAt
theorem o6 {H:Type} {enc:TypeId × Value->H} {P:Program} {w:World} {base:Nat} {spare:Nat->Bool} {held:Bool} {t tn ti e:TypeId} {f0 f1:Field} {fuel:Nat} {cs:List Value} {x:DataW H × List MemPlace} (T:IdTy P ti e) (hc:P.cellsOf ti=32) (hce:P.cellsOf e=1) (hn:P.underlying tn=some (.int .i64)) (hcn:P.cellsOf tn=1)
 (ht:P.underlying t=some (.struct #[f0,f1])) (h0:f0.type=tn) (h1:f1.type=ti) (o0:f0.offset=0) (o1:f1.offset=1) (hct:P.cellsOf t=33) (h:DataW.trod enc P w base spare held fuel t cs=some x):∃ l:Mb,cs=(az l).toList:=by
 obtain ⟨xs,n,rfl,_,hl,hxl,hel⟩:=DataW.trod_struct ht h
 rw [hct] at hl
 have hx2:xs.length=2:=by simpa using hxl
 have e0:=hel 0 f0 rfl
 have e1:=hel 1 f1 rfl
 rw [h0,o0,hcn,Yz (by omega)] at e0
 rw [h1,o1,hc,Yz (by omega)] at e1
 obtain ⟨k,hk,_⟩:=DataW.trod_int hn e0
 obtain ⟨a,ha⟩:=jr T hc hce e1
 refine ⟨(k,a),?_⟩
 rw [iY,← ha]
 have hdrop:(cs.drop 1).take 32=cs.drop 1:=YU (by rw [YX];omega)
 have hsplit:cs=(cs.drop 0).take 1++cs.drop 1:=by
  rw [List.drop_zero,YS]
 rw [hk] at hsplit
 rw [hdrop]
 exact hsplit
def XB (s9 t9:Id) (x:Mb):Bool:=decide (x.2≠t9) && (decide (x.2≠s9) && L4 x.2 s9 t9)
def XK (s9:Id) (p:Mb × Id) (m:Mb):Mb × Id:=bif decide (p.2.toNat<fd s9 m.2) then (m,m.2 - s9) else p
def XH (s9:Id) (r:List Mb):Mb × Id:=r.foldl (XK s9) (bE,0#256)
abbrev Xg (s9 t9:Id) (l:List Mb):List Mb:=l.filter (XB s9 t9)
def XA (s9 t9:Id) (l:List Mb):Int:=bif (Xg s9 t9 l).isEmpty then 6 else 0
def X5 (s9 t9:Id) (l:List Mb):Mb:=(XH s9 (Xg s9 t9 l)).1
section
variable {P:Program} {a:Act} {w w0:World} {N:Nat} {L:List (Nat × Value)} {B:List Own} {fn:Func} {T:c8} {R:Ending->World->Prop}
end
theorem bp.elF {w:World} {v:Value} {sz n:Nat} {xs:List Value} (h:bp w v sz n xs) (j off m:Nat) (hj:j<n) (hz:0<sz) {C D:Array Value} (hC:((xs.drop (j*sz)).take sz).toArray=C) (hD:C.extract off (off+m)=D):aJ w (bI v (j*sz+off)) D:=by
 have h1:=(h.el j hj hz hC).sub off m hD
 obtain ⟨p,q,c,rfl⟩:=h.some (by omega)
 have e:(bI (.slice (Option.some p) q c) (j*sz)).add off=bI (.slice (Option.some p) q c) (j*sz+off):=kj _ _ _
 rwa [e] at h1
end Go.Proofs.YtkhepdpfdhdlaaaGreatDoor
