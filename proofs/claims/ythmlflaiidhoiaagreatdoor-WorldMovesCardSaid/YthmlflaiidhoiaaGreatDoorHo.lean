/- Hosts: what they ask, send, take; hosts that come in. -/
import Derived.Test.YthmlflaiidhoiaaGreatDoorSv
set_option linter.unusedVariables false
set_option linter.unusedSimpArgs false
set_option linter.unusedSectionVars false
namespace Go.Proofs.YthmlflaiidhoiaaGreatDoor
open Go.RowKit
abbrev Wn:=Id × Int
abbrev Hn:=Id × Int × Int
structure Ho where
 no:Int
 gt:Int
 ws:List Wn
 hs:List Hn
 bx:List ByteArray
deriving DecidableEq
def sO:Ho:=⟨0,0,[],[],[]⟩
def jJ:Wn:=(0#256,0)
def gC:Hn:=(0#256,0,0)
def IT (t:Wn):List Value:=(aH t.1).toList++[.int .i64 t.2]
def ef (t:Wn):Array Value:=(IT t).toArray
theorem yR (t:Wn):(IT t).length=33:=by simp [IT]
theorem dA (t:Wn):(ef t).size=33:=by simp [ef,yR]
theorem Ax (t:Wn):∀ v∈IT t,v.oneCell'=true:=λv hv=>by
 unfold IT at hv
 rcases aK9.1 hv with hv|hv
 ·rw [eg] at hv;exact eE _ _ v hv
 ·rw [aI4] at hv;subst hv;rfl
theorem oT (t:Wn):∀ v∈(ef t).toList,v.oneCell'=true:=Ax t
theorem al6 (t:Wn):((ef t).toList.drop 0).take 32=(aH t.1).toList:=by
 show ((IT t).drop 0).take 32=_
 unfold IT
 rw [List.drop_zero,List.take_left' (d4 _)]
theorem BZ (t:Wn):(ef t).extract 0 (0+32)=aH t.1:=mL _ _ _ _ (al6 t)
theorem n3 (t:Wn):(ef t)[32]? = some (.int .i64 t.2):=by
 unfold ef IT
 rw [aJ8,aK7 (by rw [d4];exact aJ1 _),d4];rfl
def wnZ:List (List Value):=[(aH 0#256).toList,[.int .i64 0]]
theorem Fq:ef jJ=wnZ.flatten.toArray:=by unfold ef IT jJ wnZ;simp
def cV (l:List Wn):List Value:=l.flatMap IT
theorem A3 (l r:List Wn):cV (l++r)=cV l++cV r:=aM2
theorem AF (t:Wn):cV [t]=(ef t).toList:=by simp [cV,ef]
theorem yx (l:List Wn):∀ u∈cV l,u.oneCell'=true:=λu hu=>by
 obtain ⟨x,_,hx⟩:=List.mem_flatMap.1 hu
 exact Ax x u hx
theorem Zp (m:Wn):∀ v∈([.agg (ef m)]:List Value),v.cells.size=33:=λv hv=>by
 rw [aI4] at hv;subst hv;exact dA m
theorem Lp (m:Wn):([Value.agg (ef m)].flatMap λv=>v.cells.toList)=(ef m).toList:=by simp [Value.cells]
theorem O8 (l:List Wn) (x:Wn):cV l++(ef x).toList=cV (l++[x]):=by rw [A3,AF]
theorem wnD {l:List Wn} {j:Nat} (hj:j<l.length):l[j]=l.getD j jJ:=by
 rw [aJ6,aH8 hj];rfl
theorem LS (l:List Wn) (j:Nat) (hj:j<l.length):(((cV l).drop (j*33)).take 33).toArray=ef (l.getD j jJ):=by
 unfold cV
 rw [eU _ 33 yR l j hj,wnD hj];rfl
theorem DZ {l:List Wn} {j:Nat} (hj:j<l.length):l.getD j jJ∈l:=by rw [← wnD hj];exact aN1 hj
theorem Tm {l:List Wn} {x:Wn} (h:x∈l):∃ j,j<l.length/\l.getD j jJ=x:=by
 obtain ⟨j,hj,rfl⟩:=List.mem_iff_getElem.1 h
 exact ⟨j,hj,(wnD hj).symm⟩
theorem ED {w:World} {v:Value} {l:List Wn} (h:bs w v 33 l.length (cV l)) (k:Nat) (hk:k<=l.length):bs w (eT v k) 33 (l.take k).length (cV (l.take k)):=by
 have:=h.cut k hk
 unfold cV at this
 rw [gA _ 33 yR] at this
 rw [aL0,Nat.min_eq_left hk]
 exact this
def G3 (t:Hn):List Value:=(aH t.1).toList++[.int .i64 t.2.1,.int .i64 t.2.2]
def dT (t:Hn):Array Value:=(G3 t).toArray
theorem zy (t:Hn):(G3 t).length=34:=by simp [G3]
theorem dB (t:Hn):(dT t).size=34:=by simp [dT,zy]
theorem Bf (t:Hn):∀ v∈G3 t,v.oneCell'=true:=λv hv=>by
 unfold G3 at hv
 rcases aK9.1 hv with hv|hv
 ·rw [eg] at hv;exact eE _ _ v hv
 ·simp only [aI6,aI9,or_false] at hv
  rcases hv with rfl|rfl<;>rfl
theorem oI (t:Hn):∀ v∈(dT t).toList,v.oneCell'=true:=Bf t
theorem al8 (t:Hn):((dT t).toList.drop 0).take 32=(aH t.1).toList:=by
 show ((G3 t).drop 0).take 32=_
 unfold G3
 rw [List.drop_zero,List.take_left' (d4 _)]
theorem B1 (t:Hn):(dT t).extract 0 (0+32)=aH t.1:=mL _ _ _ _ (al8 t)
theorem tX (t:Hn):(dT t)[32]? = some (.int .i64 t.2.1):=by
 unfold dT G3
 rw [aJ8,aK7 (by rw [d4];exact aJ1 _),d4];rfl
theorem lV (t:Hn):(dT t)[33]? = some (.int .i64 t.2.2):=by
 unfold dT G3
 rw [aJ8,aK7 (by rw [d4];omega),d4];rfl
def hnZ:List (List Value):=[(aH 0#256).toList,[.int .i64 0],[.int .i64 0]]
theorem GR:dT gC=hnZ.flatten.toArray:=by unfold dT G3 gC hnZ;simp
def cU (l:List Hn):List Value:=l.flatMap G3
theorem Cg (l r:List Hn):cU (l++r)=cU l++cU r:=aM2
theorem Ak (t:Hn):cU [t]=(dT t).toList:=by simp [cU,dT]
theorem xv (l:List Hn):∀ u∈cU l,u.oneCell'=true:=λu hu=>by
 obtain ⟨x,_,hx⟩:=List.mem_flatMap.1 hu
 exact Bf x u hx
theorem af2 (m:Hn):∀ v∈([.agg (dT m)]:List Value),v.cells.size=34:=λv hv=>by
 rw [aI4] at hv;subst hv;exact dB m
theorem KK (m:Hn):([Value.agg (dT m)].flatMap λv=>v.cells.toList)=(dT m).toList:=by simp [Value.cells]
theorem Qa (l:List Hn) (x:Hn):cU l++(dT x).toList=cU (l++[x]):=by rw [Cg,Ak]
theorem hnD {l:List Hn} {j:Nat} (hj:j<l.length):l[j]=l.getD j gC:=by
 rw [aJ6,aH8 hj];rfl
theorem BQ (l:List Hn) (j:Nat) (hj:j<l.length):(((cU l).drop (j*34)).take 34).toArray=dT (l.getD j gC):=by
 unfold cU
 rw [eU _ 34 zy l j hj,hnD hj];rfl
theorem yQ {l:List Hn} {j:Nat} (hj:j<l.length):l.getD j gC∈l:=by rw [← hnD hj];exact aN1 hj
theorem Tb {l:List Hn} {x:Hn} (h:x∈l):∃ j,j<l.length/\l.getD j gC=x:=by
 obtain ⟨j,hj,rfl⟩:=List.mem_iff_getElem.1 h
 exact ⟨j,hj,(hnD hj).symm⟩
theorem Fl {w:World} {v:Value} {l:List Hn} (h:bs w v 34 l.length (cU l)) (k:Nat) (hk:k<=l.length):bs w (eT v k) 34 (l.take k).length (cU (l.take k)):=by
 have:=h.cut k hk
 unfold cU at this
 rw [gA _ 34 zy] at this
 rw [aL0,Nat.min_eq_left hk]
 exact this
def zJ (l:List ByteArray):List Value:=l.map Value.string
theorem Ny (l:List ByteArray):∀ u∈zJ l,u.oneCell'=true:=λu hu=>by
 obtain ⟨x,_,rfl⟩:=aL9.1 hu
 rfl
theorem stD {l:List ByteArray} {j:Nat} (hj:j<l.length):l[j]=l.getD j ByteArray.empty:=by
 rw [aJ6,aH8 hj];rfl
theorem VA {l:List ByteArray} {j:Nat} (hj:j<l.length):(zJ l)[j]? = some (.string (l.getD j ByteArray.empty)):=by
 unfold zJ
 rw [aM0,aH8 hj,stD hj];rfl
theorem CM {l:List ByteArray} {j:Nat} (hj:j<l.length):l.getD j ByteArray.empty∈l:=by rw [← stD hj];exact aN1 hj
def OV (n g:Int) (vw vh vi:Value):List Value:=[.int .i64 n,.int .i64 g,vw,vh,vi]
def ca (n g:Int) (vw vh vi:Value):Array Value:=(OV n g vw vh vi).toArray
theorem bG (n g:Int) (vw vh vi:Value):(ca n g vw vh vi).size=5:=rfl
theorem fe {vw vh vi:Value} (n g:Int) (h1:vw.oneCell'=true) (h2:vh.oneCell'=true) (h3:vi.oneCell'=true):∀ u∈(ca n g vw vh vi).toList,u.oneCell'=true:=λu hu=>by
 have hu:u∈OV n g vw vh vi:=hu
 unfold OV at hu
 simp only [aI6,aI9,or_false] at hu
 rcases hu with rfl|rfl|rfl|rfl|rfl
 ·rfl
 ·rfl
 ·exact h1
 ·exact h2
 ·exact h3
section
variable (n g:Int) (vw vh vi x:Value)
theorem O3:(ca n g vw vh vi)[0]? = some (.int .i64 n):=rfl
theorem Ow:(ca n g vw vh vi)[1]? = some (.int .i64 g):=rfl
theorem R0:(ca n g vw vh vi)[2]? = some vw:=rfl
theorem Al:(ca n g vw vh vi)[3]? = some vh:=rfl
theorem SH:(ca n g vw vh vi)[4]? = some vi:=rfl
end
def YT:List (List Value):=[[.int .i64 0],[.int .i64 0],[.slice none 0 0],[.slice none 0 0],[.slice none 0 0]]
def pE (w:World) (vw vh vi:Value) (h:Ho):Prop:=bs w vw 33 h.ws.length (cV h.ws)/\bs w vh 34 h.hs.length (cU h.hs)/\bs w vi 1 h.bx.length (zJ h.bx)
theorem pE.keep {w w':World} {vw vh vi:Value} {h:Ho} (H:pE w vw vh vi h) (e:Ext w w'):pE w' vw vh vi h:=⟨H.1.keep e,H.2.1.keep e,H.2.2.keep e⟩
theorem kR (w:World) (n g:Int):pE w ax ax ax ⟨n,g,[],[],[]⟩:=⟨⟨rfl,.inl ⟨rfl,rfl⟩⟩,⟨rfl,.inl ⟨rfl,rfl⟩⟩,⟨rfl,.inl ⟨rfl,rfl⟩⟩⟩
def mO (l:List Id) (x:Id):Int:=if l.findIdx (λy=>decide (y=x))<l.length then ((l.findIdx (λy=>decide (y=x)):Nat):Int) else -1
theorem IQ {l:List Id} {j:Nat} (hj:j<l.length):l[j]=l.getD j 0#256:=by
 rw [aJ6,aH8 hj];rfl
theorem zF {l:List Id} {x:Id} {k:Nat} (hk:k<l.length) (h:l.getD k 0#256=x) (hb:∀ j,j<k->l.getD j 0#256≠x):mO l x=(k:Int):=by
 have e:l.findIdx (λy=>decide (y=x))=k:=by
  rw [List.findIdx_eq hk]
  refine ⟨by rw [IQ hk,h];simp,λj hj=>?_⟩
  rw [IQ (by omega)]
  exact aH1 (hb j hj)
 unfold mO
 rw [e,if_pos hk]
theorem MW {l:List Id} {x:Id} (h:∀ j,j<l.length->l.getD j 0#256≠x):mO l x = -1:=by
 have e:l.findIdx (λy=>decide (y=x))=l.length:=by
  rw [List.findIdx_eq_length]
  intro y hy
  obtain ⟨j,hj,rfl⟩:=List.mem_iff_getElem.1 hy
  rw [IQ hj]
  simpa using h j hj
 unfold mO
 rw [e,if_neg (Nat.lt_irrefl _)]
theorem qz (l:List Id) (x:Id):(mO l x = -1/\∀ y∈l,y≠x)∨∃ k,k<l.length/\mO l x=(k:Int)/\l.getD k 0#256=x/\∀ j,j<k->l.getD j 0#256≠x:=by
 by_cases h:l.findIdx (λy=>decide (y=x))<l.length
 ·refine .inr ⟨_,h,by unfold mO;rw [if_pos h],?_,λj hj=>?_⟩
  ·rw [← IQ h]
   have:=List.findIdx_getElem (w:=h)
   simpa using this
  ·rw [← IQ (by omega)]
   have:=List.not_of_lt_findIdx hj
   simpa using this
 ·refine .inl ⟨by unfold mO;rw [if_neg h],λy hy=>?_⟩
  have e:l.findIdx (λy=>decide (y=x))=l.length:=by have:=List.findIdx_le_length (p:=λy=>decide (y=x)) (xs:=l);omega
  rw [List.findIdx_eq_length] at e
  simpa using e y hy
theorem QP {l:List Id} {x:Id}:mO l x<0↔∀ y∈l,y≠x:=by
 rcases qz l x with ⟨h,g⟩|⟨k,hk,h,h1,_⟩
 ·rw [h];exact ⟨λ_=>g,λ_=>by decide⟩
 ·rw [h]
  refine ⟨λh=>by omega,λg=>aO7 h1 (g _ ?_)⟩
  rw [← IQ hk];exact aN1 hk
theorem nk {l:List Id}:(∀ j,j<l.length->mO l (l.getD j 0#256)=(j:Int))↔l.Nodup:=by
 unfold List.Nodup
 rw [List.pairwise_iff_getElem]
 constructor
 ·intro h a b ha hb hab e
  have h1:=h a ha
  have h2:=h b hb
  rw [← IQ ha] at h1
  rw [← IQ hb] at h2
  rw [e,h2] at h1
  omega
 ·intro h j hj
  refine zF hj rfl λi hi e=>?_
  rw [← IQ (by omega),← IQ hj] at e
  exact h i j (by omega) hj hi e
def wk (l:List Wn):List Id:=l.map (·.1)
def hk (l:List Hn):List Id:=l.map (·.1)
theorem ug (l:List Wn):(wk l).length=l.length:=aL1 ..
theorem qm (l:List Hn):(hk l).length=l.length:=aL1 ..
theorem xg (l:List Wn) (j:Nat):(wk l).getD j 0#256=(l.getD j jJ).1:=by
 unfold wk
 rw [aJ6,aJ6,aM0]
 cases l[j]? <;> rfl
theorem rg (l:List Hn) (j:Nat):(hk l).getD j 0#256=(l.getD j gC).1:=by
 unfold hk
 rw [aJ6,aJ6,aM0]
 cases l[j]? <;> rfl
def gU (n a b:Int):Bool:=decide (a<=n) && decide (n<=b)
theorem gy {n a b:Int}:gU n a b=true↔a<=n/\n<=b:=by unfold gU;rw [aH5,aI0,aI0]
def He (l:List Wn) (j:Nat):Bool:=gU (l.getD j jJ).2 1 1048576 && decide (mO (wk l) (l.getD j jJ).1=(j:Int))
def oo (l:List Hn) (j:Nat):Bool:=gU (l.getD j gC).2.1 0 15 && (gU (l.getD j gC).2.2 0 1099511627776 && decide (mO (hk l) (l.getD j gC).1=(j:Int)))
def W5 (l:List ByteArray) (j:Nat):Bool:=decide ((l.getD j ByteArray.empty).size<=64)
def okB (h:Ho):Bool:=gU h.no 0 15 && (gU h.gt 0 15 && (decide (h.ws.length<=8) && (decide (h.hs.length<=8) && decide (h.bx.length<=32))))
def dc (h:Ho):Bool:=(List.range h.ws.length).all (He h.ws) && ((List.range h.hs.length).all (oo h.hs) && ((List.range h.bx.length).all (W5 h.bx) && okB h))
theorem nj {p:Nat->Bool} {n:Nat} (h:∀ j,j<n->p j=true):(List.range n).all p=true:=aH6.2 λj hj=>h j (aI7.1 hj)
theorem o8 {p:Nat->Bool} {n:Nat} (h:(List.range n).all p=true) {j:Nat} (hj:j<n):p j=true:=aH6.1 h j (aI7.2 hj)
structure RH (h:Ho):Prop where
 ws:∀ x∈h.ws,1<=x.2/\x.2<=1048576
 wn:(wk h.ws).Nodup
 hs:∀ x∈h.hs,(0<=x.2.1/\x.2.1<=15)/\0<=x.2.2/\x.2.2<=1099511627776
 hn:(hk h.hs).Nodup
 bx:∀ s∈h.bx,s.size<=64
 no:0<=h.no/\h.no<=15
 gt:0<=h.gt/\h.gt<=15
 wl:h.ws.length<=8
 hl:h.hs.length<=8
 bl:h.bx.length<=32
theorem yh {l:List Wn} {j:Nat}:He l j=true↔(1<=(l.getD j jJ).2/\(l.getD j jJ).2<=1048576)/\mO (wk l) (l.getD j jJ).1=(j:Int):=by unfold He;rw [aH5,gy,aI0]
theorem tN {l:List Hn} {j:Nat}:oo l j=true↔(0<=(l.getD j gC).2.1/\(l.getD j gC).2.1<=15)/\(0<=(l.getD j gC).2.2/\(l.getD j gC).2.2<=1099511627776)/\mO (hk l) (l.getD j gC).1=(j:Int):=by unfold oo;rw [aH5,aH5,gy,gy,aI0]
theorem RD {h:Ho}:okB h=true↔(0<=h.no/\h.no<=15)/\(0<=h.gt/\h.gt<=15)/\h.ws.length<=8/\h.hs.length<=8/\h.bx.length<=32:=by
 unfold okB
 rw [aH5,aH5,aH5,aH5,gy,gy,aI0,aI0,aI0]
theorem Lj {h:Ho}:dc h=true↔RH h:=by
 unfold dc
 rw [aH5,aH5,aH5,RD]
 constructor
 ·rintro ⟨h1,h2,h3,h4,h5,h6,h7,h8⟩
  refine ⟨λx hx=>?_,nk.1 λj hj=>?_,λx hx=>?_,nk.1 λj hj=>?_,λx hx=>?_,h4,h5,h6,h7,h8⟩
  ·obtain ⟨j,hj,rfl⟩:=Tm hx
   exact(yh.1 (o8 h1 hj)).1
  ·rw [ug] at hj;rw [xg]
   exact(yh.1 (o8 h1 hj)).2
  ·obtain ⟨j,hj,rfl⟩:=Tb hx
   have:=tN.1 (o8 h2 hj)
   exact ⟨this.1,this.2.1⟩
  ·rw [qm] at hj;rw [rg]
   exact(tN.1 (o8 h2 hj)).2.2
  ·obtain ⟨j,hj,rfl⟩:=List.mem_iff_getElem.1 hx
   rw [stD hj]
   exact aG9 (o8 h3 hj)
 ·intro R
  refine ⟨nj λj hj=>yh.2 ⟨R.ws _ (DZ hj),?_⟩,nj λj hj=>tN.2 ⟨(R.hs _ (yQ hj)).1,(R.hs _ (yQ hj)).2,?_⟩,nj λj hj=>aH2 (R.bx _ (CM hj)),R.no,R.gt,R.wl,R.hl,R.bl⟩
  ·have:=nk.2 R.wn j (by rw [ug];exact hj)
   rwa [xg] at this
  ·have:=nk.2 R.hn j (by rw [qm];exact hj)
   rwa [rg] at this
def QG (h:Ho) (x:Id):Int:=mO (wk h.ws) x
def pD (h:Ho) (x:Id):Int:=mO (hk h.hs) x
def qv (h:Ho) (x:Id) (now:Int):Int:=bif decide (0<=pD h x) && decide (now<(h.hs.getD (pD h x).toNat gC).2.2) then (h.hs.getD (pD h x).toNat gC).2.1 else h.gt
def BA (h:Ho):dN:=(2,0#256,h.no)
def ar0 (h:Ho) (x:Wn):Mg:=⟨2,x.1,BA h,[],x.2,⟨#[]⟩,⟨#[]⟩⟩
def av0 (h:Ho) (now:Int) (x:Wn):Se:=(qv h x.1 now,ar0 h x,cr)
def YC (h:Ho) (now:Int):List Se:=h.ws.map (av0 h now)
def Vf (l:List dN) (d:ByteArray):Mg:=⟨1,0#256,(0,0#256,0),l,64,⟨#[]⟩,d⟩
def xR (h:Ho) (l:List dN) (now:Int):Int:=bif decide ((l.getD 0 (0,0#256,0)).1=1) then qv h (l.getD 0 (0,0#256,0)).2.1 now else h.gt
def wH (h:Ho) (l:List dN) (d:ByteArray) (now:Int):Se:=(xR h l now,Vf l d,cr)
def ZW (l:List Hn) (x:Id):List Hn:=l.filter λy => !decide (y.1=x)
def ai3 (h:Ho) (x:Id):Ho:=⟨h.no,h.gt,h.ws,ZW h.hs x,h.bx⟩
def au7 (now:Int):Int:=if 1099511627776<now+1000 then 1099511627776 else now+1000
def ax1 (l:List Hn):List Hn:=if l.length<8 then l else l.drop 1
def ag8 (l:List Hn) (x:Id) (n now:Int):List Hn:=ax1 (ZW l x)++[(x,n,au7 now)]
structure Hq where
 h:Ho
 l:List Se
 e:Int
def rr (e:Int):Hq:=⟨sO,[],e⟩
def au3 (h:Ho) (m:Mg) (now:Int):Hq:=bif decide (15<m.n) then rr 1 else ⟨⟨h.no,h.gt,h.ws,ag8 h.hs m.i m.n now,h.bx⟩,[],0⟩
def YY (h:Ho) (m:Mg):Mg:=⟨4,m.i,m.t,[],(h.ws.getD (QG h m.i).toNat jJ).2,m.o,⟨#[]⟩⟩
def Y2 (h:Ho) (m:Mg):Hq:=bif !decide (m.l.getD 0 (0,0#256,0)=BA h) then rr 1 else bif decide (h.bx.length=32) then rr 8 else ⟨⟨h.no,h.gt,h.ws,h.hs,h.bx++[m.d]⟩,[],0⟩
def as0 (h:Ho) (fr:Int) (m:Mg):Hq:=bif !decide (m.t=BA h) then rr 1 else bif decide (QG h m.i<0) then rr 6 else ⟨h,[(fr,YY h m,cr)],0⟩
def aq7 (h:Ho) (m:Mg):Hq:=bif decide (QG h m.i<0) then rr 6 else ⟨h,[],0⟩
def at5 (h:Ho) (fr:Int) (m:Mg) (now:Int):Hq:=
 bif decide (m.k=1) then Y2 h m else bif decide (m.k=3) then as0 h fr m else bif decide (m.k=5) then aq7 h m else bif decide (m.k=7) then ⟨ai3 h m.i,[],0⟩ else bif decide (m.k=8) then au3 h m now else rr 1
def av2 (h:Ho) (fr:Int) (m:Mg) (now:Int):Bool:=dc h && (gU now 0 1099511627776 && (gU fr 0 31 && ey m))
def JM (h:Ho) (fr:Int) (m:Mg) (now:Int):Hq:=bif av2 h fr m now then at5 h fr m now else rr 1
section
variable {P:Program} {ρ:Operand->Value} {d:Option Tmp} {ty:TypeId} {pos:String} {af:Array Edge} {g:Option (Nat × Bool)} {x y z u:Operand} {t:TypeId}
theorem xN (S:Stt P t YT):aZ P ⟨d,.build t #[],ty,pos,af,g⟩ ρ (.agg (ca 0 0 ax ax ax)):=
 bw (P:=P) (ρ:=ρ) (d:=d) (ty:=ty) (pos:=pos) (af:=af) (g:=g) (parts:=#[]) S [] (by simp) (λi v hm=>by simp at hm) (D:=OV 0 0 ax ax ax) rfl
theorem yv {n m:Int} (S:Stt P t YT) (hx:ρ x=.int .i64 n) (hy:ρ y=.int .i64 m):aZ P ⟨d,.build t #[(0,x),(1,y)],ty,pos,af,g⟩ ρ (.agg (ca n m ax ax ax)):=by
 have:=bw (P:=P) (ρ:=ρ) (d:=d) (ty:=ty) (pos:=pos) (af:=af) (g:=g) (parts:=#[(0,x),(1,y)]) S [(0,.int .i64 n),(1,.int .i64 m)] (by simp [hx,hy]) (λj u hm=>by
  simp only [aI6,aM8,aI9,or_false] at hm
  rcases hm with ⟨rfl,rfl⟩|⟨rfl,rfl⟩
  ·exact ⟨_,rfl,rfl⟩
  ·exact ⟨_,rfl,rfl⟩) (D:=OV n m ax ax ax) rfl
 exact this
theorem AM {i:Id} {n:Int} (S:Stt P t wnZ) (hx:ρ x=.agg (aH i)) (hy:ρ y=.int .i64 n):aZ P ⟨d,.build t #[(0,x),(1,y)],ty,pos,af,g⟩ ρ (.agg (ef (i,n))):=by
 have:=bw (P:=P) (ρ:=ρ) (d:=d) (ty:=ty) (pos:=pos) (af:=af) (g:=g) (parts:=#[(0,x),(1,y)]) S [(0,.agg (aH i)),(1,.int .i64 n)] (by simp [hx,hy]) (λj u hm=>by
  simp only [aI6,aM8,aI9,or_false] at hm
  rcases hm with ⟨rfl,rfl⟩|⟨rfl,rfl⟩
  ·exact ⟨_,rfl,by simp [Value.cells]⟩
  ·exact ⟨_,rfl,rfl⟩) (D:=IT (i,n)) (by unfold IT;rfl)
 exact this
theorem BH {i:Id} {n m:Int} (S:Stt P t hnZ) (hx:ρ x=.agg (aH i)) (hy:ρ y=.int .i64 n) (hz:ρ z=.int .i64 m):aZ P ⟨d,.build t #[(0,x),(1,y),(2,z)],ty,pos,af,g⟩ ρ (.agg (dT (i,n,m))):=by
 have:=bw (P:=P) (ρ:=ρ) (d:=d) (ty:=ty) (pos:=pos) (af:=af) (g:=g) (parts:=#[(0,x),(1,y),(2,z)]) S [(0,.agg (aH i)),(1,.int .i64 n),(2,.int .i64 m)] (by simp [hx,hy,hz]) (λj u hm=>by
  simp only [aI6,aM8,aI9,or_false] at hm
  rcases hm with ⟨rfl,rfl⟩|⟨rfl,rfl⟩|⟨rfl,rfl⟩
  ·exact ⟨_,rfl,by simp [Value.cells]⟩
  ·exact ⟨_,rfl,rfl⟩
  ·exact ⟨_,rfl,rfl⟩) (D:=G3 (i,n,m)) (by unfold G3;rfl)
 exact this
theorem pS {n:Int} {m:Mg} {v:Value} (S:Stt P t seZ) (hx:ρ x=.int .i64 n) (hy:ρ y=.agg (eG m v)):aZ P ⟨d,.build t #[(0,x),(1,y)],ty,pos,af,g⟩ ρ (.agg (dP n m v cr)):=by
 have:=bw (P:=P) (ρ:=ρ) (d:=d) (ty:=ty) (pos:=pos) (af:=af) (g:=g) (parts:=#[(0,x),(1,y)]) S [(0,.int .i64 n),(1,.agg (eG m v))] (by simp [hx,hy]) (λj u hm=>by
  simp only [aI6,aM8,aI9,or_false] at hm
  rcases hm with ⟨rfl,rfl⟩|⟨rfl,rfl⟩
  ·exact ⟨_,rfl,rfl⟩
  ·exact ⟨_,rfl,by show (eG m v).size=_;rw [eV];rfl⟩) (D:=TY n m v cr) (by
   show [Value.int .i64 n]++((eG m v).toList++(LN.flatten++[]))=_
   rw [aM4,← tA];rfl)
 exact this
theorem jf (S:Stt P t seZ):aZ P ⟨d,.build t #[],ty,pos,af,g⟩ ρ (.agg (dP 0 mZ ax cr)):=by
 have:=bw (P:=P) (ρ:=ρ) (d:=d) (ty:=ty) (pos:=pos) (af:=af) (g:=g) (parts:=#[]) S [] (by simp) (λj u hm=>by simp at hm) (D:=TY 0 mZ ax cr) (by
  show [Value.int .i64 0]++(Yh.flatten++(LN.flatten++[]))=_
  rw [aM4,← tA,← FL];rfl)
 exact this
end
section
variable (n g:Int) (a b c u:Value) (e:Int)
end
section
variable {P:Program} {ρ:Operand->Value} {d:Option Tmp} {ty:TypeId} {pos:String} {af:Array Edge} {g:Option (Nat × Bool)} {x y z:Operand} {t:TypeId}
end
theorem gv {p:Nat->Prop} {k:Nat} (h:∀ j,j<k->p j) (hk:p k):∀ j,j<k+1->p j:=λj hj=>by
 rcases aJ4 j k with g|g
 ·exact h j g
 ·obtain rfl:j=k:=by omega
  exact hk
theorem JI (h:Ho) (x:Id):(pD h x = -1/\∀ y∈h.hs,y.1≠x)∨∃ k,k<h.hs.length/\pD h x=(k:Int)/\(h.hs.getD k gC).1=x/\∀ j,j<k->(h.hs.getD j gC).1≠x:=by
 rcases qz (hk h.hs) x with ⟨h1,h2⟩|⟨k,h1,h2,h3,h4⟩
 ·exact .inl ⟨h1,λy hy=>h2 _ (List.mem_map_of_mem hy)⟩
 ·rw [qm] at h1;rw [rg] at h3
  exact .inr ⟨k,h1,h2,h3,λj hj=>by have:=h4 j hj;rwa [rg] at this⟩
theorem jz {h:Ho} {x:Id} (e:decide (0<=pD h x)=true):pD h x=((pD h x).toNat:Int)/\(pD h x).toNat<h.hs.length:=by
 have e:=aG9 e
 rcases JI h x with ⟨h1,_⟩|⟨k,h1,h2,_⟩
 ·omega
 ·rw [h2];exact ⟨rfl,h1⟩
theorem ab2 {l:List Wn} {k:Nat} (h:gU (l.getD k jJ).2 1 1048576=false):He l k=false:=by unfold He;rw [h];rfl
theorem TV {l:List Wn} {k:Nat} (h:gU (l.getD k jJ).2 1 1048576=true) {b:Bool} (h2:decide (mO (wk l) (l.getD k jJ).1=(k:Int))=b):He l k=b:=by unfold He;rw [h,h2];rfl
theorem af3 {h:Ho} {x:Id} {now:Int} (h0:decide (0<=pD h x)=true) (h1:decide (now<(h.hs.getD (pD h x).toNat gC).2.2)=true):qv h x now=(h.hs.getD (pD h x).toNat gC).2.1:=by unfold qv;rw [h0,h1];rfl
theorem VD {h:Ho} {x:Id} {now:Int} (h0:decide (0<=pD h x)=false):qv h x now=h.gt:=by unfold qv;rw [h0];rfl
theorem Xb {h:Ho} {x:Id} {now:Int} (h1:decide (now<(h.hs.getD (pD h x).toNat gC).2.2)=false):qv h x now=h.gt:=by unfold qv;rw [h1,Bool.and_false];rfl
theorem FV {l:List Wn} {d:Nat} (hd:d<l.length):l.take (d+1)=l.take d++[l.getD d jJ]:=by rw [List.take_succ_eq_append_getElem hd,wnD hd]
theorem EE {l:List Hn} {d:Nat} (hd:d<l.length):l.take (d+1)=l.take d++[l.getD d gC]:=by rw [List.take_succ_eq_append_getElem hd,hnD hd]
section
variable {w w':World} {vw vh vi vs:Value} {h:Ho} {l:List dN} {H:Hq} {N:TypeId}
end
section
variable {h:Ho} {fr:Int} {m:Mg} {now:Int}
end
theorem WH (l:List Hn) (j:Nat) (hj:j<l.length):(cU l)[j*34+32]? = some (.int .i64 (l.getD j gC).2.1):=by
 have h:=aH3 (λa:Array Value=>a[32]?) (BQ l j hj)
 simp only [tX,aJ8] at h
 rw [← h,aN7 (by decide),aN8]
theorem MS (l:List Hn) (j:Nat) (hj:j<l.length):(cU l)[j*34+33]? = some (.int .i64 (l.getD j gC).2.2):=by
 have h:=aH3 (λa:Array Value=>a[33]?) (BQ l j hj)
 simp only [lV,aJ8] at h
 rw [← h,aN7 (by decide),aN8]
def qn (n g:Int):Int:=bif gU n 0 15 && gU g 0 15 then 0 else 1
def jl (n g:Int):Ho:=bif gU n 0 15 && gU g 0 15 then ⟨n,g,[],[],[]⟩ else sO
def X4 (h:Ho) (x:Id) (l:Int):Int:=bif dc h && gU l 1 1048576 then (bif decide (0<=QG h x) then 7 else bif decide (h.ws.length=8) then 8 else 0) else 1
def ax8 (h:Ho) (x:Id) (l:Int):Ho:=⟨h.no,h.gt,h.ws++[(x,l)],h.hs,h.bx⟩
def ay4 (h:Ho) (x:Id) (l:Int):Ho:=bif decide (X4 h x l=0) then ax8 h x l else sO
def WJ (h:Ho) (x:Id):Int:=bif dc h then (bif decide (QG h x<0) then 6 else 0) else 1
def at6 (h:Ho) (x:Id):Ho:=⟨h.no,h.gt,h.ws.take (QG h x).toNat++h.ws.drop ((QG h x).toNat+1),h.hs,h.bx⟩
def au4 (h:Ho) (x:Id):Ho:=bif decide (WJ h x=0) then at6 h x else sO
def oA (h:Ho) (l:List dN) (d:ByteArray) (now:Int):Int:=bif dc h && (gU now 0 1099511627776 && dQ l) then (bif decide (d.size<=64) then 0 else 2) else 1
def dM (h:Ho) (l:List dN) (d:ByteArray) (now:Int):Se:=bif decide (oA h l d now=0) then wH h l d now else Yq
def HoP (w:World) (vw vh vi:Value) (h H:Ho) (E:Int):ez:=λv w'=>∃ uw uh ui ks,v=.tuple #[.agg (ca H.no H.gt uw uh ui),.int .i64 E]/\St w [.grp ks λw9=>pE w9 vw vh vi h->pE w9 uw uh ui H] w'
def SdP (w:World) (vl:Value) (l:List dN) (x:Se) (E:Int):ez:=λv w'=>∃ us ks,v=.tuple #[.agg (dP x.1 x.2.1 us x.2.2),.int .i64 E]/\St w [.grp ks λw9=>iJ w9 vl l->iJ w9 us x.2.1.l] w'
def Zz (s:ByteArray):ByteArray:=s.extract 0 (min s.size 70)
def fbL (h:Ho):List ByteArray:=h.bx.take (min h.bx.length 34)
def fbK (l:List ByteArray) (k:Nat):List ByteArray:=(l.take k).map Zz
def Rh:Ho->List ByteArray:=λh=>fbK (fbL h) (fbL h).length
def B9 (h:Ho):Prop:=h.ws.length<=1000/\h.hs.length<=1000/\h.bx.length<=1000
theorem ah2 (w:World):pE w ax ax ax sO:=kR w 0 0
theorem XF {n g:Int} (h:(gU n 0 15 && gU g 0 15)=false):qn n g=1/\jl n g=sO:=by unfold qn jl;rw [h];exact ⟨rfl,rfl⟩
theorem ae7 {n g:Int} (h:(gU n 0 15 && gU g 0 15)=true):qn n g=0/\jl n g=⟨n,g,[],[],[]⟩:=by unfold qn jl;rw [h];exact ⟨rfl,rfl⟩
theorem Pe {h:Ho} {l:List dN} {d:ByteArray} {now:Int} (hb:¬ (dc h=true/\(0<=now/\now<=1099511627776)/\dQ l=true)):oA h l d now=1/\dM h l d now=Yq:=by
 have e:(dc h && (gU now 0 1099511627776 && dQ l))=false:=by
  cases g:(dc h && (gU now 0 1099511627776 && dQ l)) with
  |false=>rfl
  |true=>rw [aH5,aH5,gy] at g;exact aO7 g hb
 have e1:oA h l d now=1:=by unfold oA;rw [e];rfl
 refine ⟨e1,?_⟩
 unfold dM;rw [e1];rfl
theorem Z9 {h:Ho} {l:List dN} {d:ByteArray} {now:Int} (hb:dc h=true/\(0<=now/\now<=1099511627776)/\dQ l=true) (hd:¬ d.size<=64):oA h l d now=2/\dM h l d now=Yq:=by
 have e:(dc h && (gU now 0 1099511627776 && dQ l))=true:=by rw [aH5,aH5,gy];exact hb
 have e1:oA h l d now=2:=by unfold oA;rw [e,aH1 hd];rfl
 refine ⟨e1,?_⟩
 unfold dM;rw [e1];rfl
theorem ZC {h:Ho} {l:List dN} {d:ByteArray} {now:Int} (hb:dc h=true/\(0<=now/\now<=1099511627776)/\dQ l=true) (hd:d.size<=64):oA h l d now=0/\dM h l d now=wH h l d now:=by
 have e:(dc h && (gU now 0 1099511627776 && dQ l))=true:=by rw [aH5,aH5,gy];exact hb
 have e1:oA h l d now=0:=by unfold oA;rw [e,aH2 hd];rfl
 refine ⟨e1,?_⟩
 unfold dM;rw [e1];rfl
section
variable {h:Ho} {fr:Int} {m:Mg} {now:Int}
inductive HqC (h:Ho) (fr:Int) (m:Mg) (now:Int) (H:Hq):Prop where
 |data (k:m.k=1) (q:m.l.getD 0 (0,0#256,0)=BA h) (b:h.bx.length≠32) (e:H=⟨⟨h.no,h.gt,h.ws,h.hs,h.bx++[m.d]⟩,[],0⟩)
 |ask (k:m.k=3) (q:m.t=BA h) (b:¬ QG h m.i<0) (e:H=⟨h,[(fr,YY h m,cr)],0⟩)
 |ack (k:m.k=5) (b:¬ QG h m.i<0) (e:H=⟨h,[],0⟩)
 |push (k:m.k=7) (e:H=⟨ai3 h m.i,[],0⟩)
 |cache (k:m.k=8) (b:m.n<=15) (e:H=⟨⟨h.no,h.gt,h.ws,ag8 h.hs m.i m.n now,h.bx⟩,[],0⟩)
end
section
variable {h:Ho} {fr:Int} {m:Mg} {now:Int}
end
section
variable {h:Ho} {x:Id} {n now:Int}
end
section
variable {h:Ho} {x:Id} {now:Int}
end
end Go.Proofs.YthmlflaiidhoiaaGreatDoor
namespace Go.Proofs.YthmlflaiidhoiaaGreatDoor
open Go.RowKit Go.ChangeShapes Go.WideShapes Go.ChangeAt
theorem LW {H:Type} {enc:TypeId × Value->H} {P:Program} {w:World} {base:Nat} {spare:Nat->Bool} {held:Bool} {t tn ti e:TypeId} {g0 g1:Field} {fuel:Nat} {cs:List Value} {x:DataW H × List MemPlace} (T:IdTy P ti e) (hc:P.cellsOf ti=32) (hce:P.cellsOf e=1) (hn:P.underlying tn=some (.int .i64)) (hcn:P.cellsOf tn=1)
 (ht:P.underlying t=some (.struct #[g0,g1])) (k0:g0.type=ti) (k1:g1.type=tn) (p0:g0.offset=0) (p1:g1.offset=32) (hct:P.cellsOf t=33)
 (h:DataW.trod enc P w base spare held fuel t cs=some x):∃ l:Wn,cs=(ef l).toList:=by
 obtain ⟨xs,n,rfl,_,hl,hxl,hel⟩:=DataW.trod_struct ht h
 rw [hct] at hl
 have hx2:xs.length=2:=by simpa using hxl
 have e0:=hel 0 g0 rfl
 have e1:=hel 1 g1 rfl
 rw [k0,p0,hc,aH8 (by omega)] at e0
 rw [k1,p1,hcn,aH8 (by omega)] at e1
 obtain ⟨a,ha⟩:=ky T hc hce e0
 obtain ⟨u,hu,_⟩:=DataW.trod_int hn e1
 refine ⟨(a,u),?_⟩
 show cs=(aH a).toList++[.int .i64 u]
 rw [← ha,← hu,List.drop_zero]
 have s1:(cs.drop 32).take 1=cs.drop 32:=aJ9 (by rw [aK2];omega)
 rw [s1,aJ7]
theorem KO {H:Type} {enc:TypeId × Value->H} {P:Program} {w:World} {base:Nat} {spare:Nat->Bool} {held:Bool} {t tn ti e:TypeId} {g0 g1 g2:Field} {fuel:Nat} {cs:List Value} {x:DataW H × List MemPlace} (T:IdTy P ti e) (hc:P.cellsOf ti=32) (hce:P.cellsOf e=1) (hn:P.underlying tn=some (.int .i64)) (hcn:P.cellsOf tn=1)
 (ht:P.underlying t=some (.struct #[g0,g1,g2])) (k0:g0.type=ti) (k1:g1.type=tn) (k2:g2.type=tn) (p0:g0.offset=0) (p1:g1.offset=32) (p2:g2.offset=33) (hct:P.cellsOf t=34)
 (h:DataW.trod enc P w base spare held fuel t cs=some x):∃ l:Hn,cs=(dT l).toList:=by
 obtain ⟨xs,n,rfl,_,hl,hxl,hel⟩:=DataW.trod_struct ht h
 rw [hct] at hl
 have hx2:xs.length=3:=by simpa using hxl
 have e0:=hel 0 g0 rfl
 have e1:=hel 1 g1 rfl
 have e2:=hel 2 g2 rfl
 rw [k0,p0,hc,aH8 (by omega)] at e0
 rw [k1,p1,hcn,aH8 (by omega)] at e1
 rw [k2,p2,hcn,aH8 (by omega)] at e2
 obtain ⟨a,ha⟩:=ky T hc hce e0
 obtain ⟨u,hu,_⟩:=DataW.trod_int hn e1
 obtain ⟨q,hq,_⟩:=DataW.trod_int hn e2
 refine ⟨(a,u,q),?_⟩
 show cs=(aH a).toList++([.int .i64 u]++[.int .i64 q])
 rw [← ha,← hu,← hq,List.drop_zero]
 have s1:(cs.drop 33).take 1=cs.drop 33:=aJ9 (by rw [aK2];omega)
 have s2:(cs.drop 32).take 1++cs.drop 33=cs.drop 32:=by
  have:=aJ7 1 (cs.drop 32)
  rw [List.drop_drop] at this
  exact this
 rw [s1,s2,aJ7]
theorem Ka {H:Type} {enc:TypeId × Value->H} {P:Program} {w:World} {base:Nat} {spare:Nat->Bool} {held:Bool} {t:TypeId} {fuel:Nat} {cs:List Value} {x:DataW H × List MemPlace} (hz:P.underlying t=some .string)
 (h:DataW.trod enc P w base spare held fuel t cs=some x):∃ l:ByteArray,cs=(#[Value.string l]:Array Value).toList:=by
 obtain ⟨d9,hd9,_⟩:=DataW.trod_string hz h
 exact ⟨d9,by simpa [Value.cells] using hd9⟩
theorem PL (ls:List ByteArray):(ls.flatMap λa=>(#[Value.string a]:Array Value).toList)=zJ ls:=by
 unfold zJ
 induction ls with
 |nil=>rfl
 |cons a l ih=>rw [List.flatMap_cons,List.map_cons,ih];rfl
def Qc (P:Program) (T:TypeId) (rv:Value) (nm:String) (f:FuncId) (ru:Value):Prop:=∀ w,(method (P.types.size+Made.depth) T rv nm).run P w=.ok (f,ru) w
theorem Dx {P:Program} {ρ:Operand->Value} {dst:Option Tmp} {g:Option (Nat × Bool)} {ty:TypeId} {pos:String} {af:Array Edge} {f:FuncId} {T:TypeId} {rv ru:Value} {nm:String} {cal:Operand} {tys:Array TypeId} {w:World} (hf:Fnc P f)
 (hm:Qc P T rv nm f ru) (hc:ρ cal=.iface T rv) {R:Value->World->Prop} (hC:Calls P f #[ru] w λe w'=>∃ v,e=.returned v/\R v w'):dp P ⟨dst,.call {callee:=.invoke cal nm,args:=#[],argTypes:=tys},ty,pos,af,g⟩ ρ w R:=by
 obtain ⟨fn,h1,h2,h3⟩:=hf.has
 unfold dp
 have hm':=hm w
 simp only [execOp,resolve,hc,aL7,aL8,aH9,invoke,callMethod]
 have e0:(#[Value.iface T rv]++Array.map ρ #[])[0]? = some (Value.iface T rv):=by simp
 rw [e0]
 simp only [callMethod,aL7,show ∀ w,Sem.run P program w=.ok P w from λ_=>rfl,aH9,hm']
 have e1:#[ru]++(#[Value.iface T rv]++Array.map ρ #[]).extract 1=#[ru]:=by simp
 rw [e1]
 rw [fX h1 h2 h3]
 exact hC
section
variable {P:Program} {ops:Array Oper} {Q:Act->World->Prop} {l:List Oper} {a:Act} {w w0:World} {N:Nat} {L:List (Nat × Value)} {Df:List Deferred} {B:List Own} {d:Tmp} {ty:TypeId} {pos:String} {af:Array Edge}
end
section
variable {P:Program} {ops:List Oper} {K:Act->World->Prop} {l:List Oper} {a:Act} {w:World} {N:Nat} {L:List (Nat × Value)} {Df:List Deferred} {d:Tmp} {ty:TypeId} {pos:String} {af:Array Edge}
theorem mN {f:FuncId} {T9:TypeId} {rv ru X:Value} {nm:String} {cal:Operand} {tys:Array TypeId} (h:Sl N a L Df) (hf:Fnc P f) (hm:Qc P T9 rv nm f ru) (hc:eI L cal=some (.iface T9 rv))
 (hC:∀ w',Ext w w'->Calls P f #[ru] w' (cb w' (is X))) (hd:Nat.blt d N=true) (k:∀ a',Sl N a' ((d,X)::L) Df->jd P ops.toArray K w l a'):
 jd P ops.toArray K w (⟨some d,.call {callee:=.invoke cal nm,args:=#[],argTypes:=tys},ty,pos,af,none⟩::l) a:=
 kN X h (λw' hE=>Dx hf hm (h.ev hc) (hC w' hE)) hd k
variable {ρ:Operand->Value} {e:Option Tmp} {g:Option (Nat × Bool)} {x:Operand} {t:TypeId}
def nmZ:List (List Value):=[(aH 0#256).toList]
theorem qW {i:Id} (S:Stt P t nmZ) (hx:ρ x=.agg (aH i)):aZ P ⟨e,.build t #[(0,x)],ty,pos,af,g⟩ ρ (.agg (aH i)):=by
 have:=bw (P:=P) (ρ:=ρ) (d:=e) (ty:=ty) (pos:=pos) (af:=af) (g:=g) (parts:=#[(0,x)]) S [(0,.agg (aH i))] (by simp [hx]) (λj u hm=>by
  simp only [aI6,aM8,aI9,or_false] at hm
  rcases hm with ⟨rfl,rfl⟩
  exact ⟨_,rfl,by simp [Value.cells]⟩) (D:=(aH i).toList) (by show (aH i).toList++[]=_;rw [aM4])
 exact this
theorem yk {y z:Operand} {n m:Int} {v:Value} (S:Stt P t YT) (hv:v.cells.size=1) (hc:v.cells.toList=[v]) (hx:ρ x=.int .i64 n) (hy:ρ y=.int .i64 m) (hz:ρ z=v):aZ P ⟨e,.build t #[(0,x),(1,y),(4,z)],ty,pos,af,g⟩ ρ (.agg (ca n m ax ax v)):=by
 have:=bw (P:=P) (ρ:=ρ) (d:=e) (ty:=ty) (pos:=pos) (af:=af) (g:=g) (parts:=#[(0,x),(1,y),(4,z)]) S [(0,.int .i64 n),(1,.int .i64 m),(4,v)] (by simp [hx,hy,hz]) (λj u hm=>by
  simp only [aI6,aM8,aI9,or_false] at hm
  rcases hm with ⟨rfl,rfl⟩|⟨rfl,rfl⟩|⟨rfl,rfl⟩
  ·exact ⟨_,rfl,rfl⟩
  ·exact ⟨_,rfl,rfl⟩
  ·exact ⟨_,rfl,hv⟩) (D:=OV n m ax ax v) (by
   show [Value.int .i64 n]++([Value.int .i64 m]++([ax]++([ax]++(v.cells.toList++[]))))=_
   rw [hc];rfl)
 exact this
end
section
variable {fn:Func} {P:Program} {a:Act} {w:World} {N:Nat} {L:List (Nat × Value)} {R:Ending->World->Prop}
theorem Fu {t u:Tmp} {V U:Value} (hr:fn.results=#[.tmp t,.tmp u]) (h:Sl N a L) (hv:lk L t=some V) (hu:lk L u=some U) (hR:R (.returned (.tuple #[V,U])) w):bodyPost P fn R .ret a w:=
 ⟨h.defers,.tuple #[V,U],by rw [results_tmp2 hr,h.holds t V hv,h.holds u U hu],hR⟩
end
section
variable {α:Type} (z:α) (q:α->Bool) (l:List α)
def zI (j:Nat):List α:=(l.take j).filter q++l.drop ((l.take j).filter q).length
def oY (j:Nat):Nat:=((l.take j).filter q).length
theorem gD {l:List α} {j:Nat} (hj:j<l.length):l[j]=l.getD j z:=by
 rw [aJ6,aH8 hj];rfl
theorem ah4 {l:List α} {j:Nat} (hj:j<l.length):l.getD j z∈l:=by rw [← gD z hj];exact aN1 hj
theorem Mq {l:List α} {d:Nat} (hd:d<l.length):l.take (d+1)=l.take d++[l.getD d z]:=by rw [List.take_succ_eq_append_getElem hd,gD z hd]
theorem DU (j:Nat):oY q l j<=j:=by
 unfold oY
 have:=aL2 q (l.take j)
 rw [aL0] at this;omega
theorem Rb (j:Nat):oY q l j<=l.length:=by
 unfold oY
 have:=aL2 q (l.take j)
 rw [aL0] at this;omega
theorem Gv (j:Nat):(zI q l j).length=l.length:=by
 have:=Rb q l j
 unfold oY at this
 unfold zI;rw [aH7,aK2];omega
variable {q l}
theorem QN {j:Nat} (_hj:j<l.length):(zI q l j).getD j z=l.getD j z:=by
 have h1:=DU q l j
 unfold oY at h1
 unfold zI
 rw [aJ6,aK7 h1,aN8,aJ6]
 congr 2
 omega
theorem Kv {j:Nat} (hj:j<l.length) (h:q (l.getD j z)=false):zI q l (j+1)=zI q l j/\oY q l (j+1)=oY q l j:=by
 have e:(l.take (j+1)).filter q=(l.take j).filter q:=by rw [Mq z hj,aO4,List.filter_cons,h];simp
 unfold zI oY;rw [e];exact ⟨rfl,rfl⟩
theorem EZ {j:Nat} (hj:j<l.length) (h:q (l.getD j z)=true):zI q l (j+1)=(zI q l j).set (oY q l j) (l.getD j z)/\oY q l (j+1)=oY q l j+1:=by
 have e:(l.take (j+1)).filter q=(l.take j).filter q++[l.getD j z]:=by rw [Mq z hj,aO4,List.filter_cons,h];simp
 have h1:=DU q l j
 refine ⟨?_,by unfold oY;rw [e,aH7];rfl⟩
 unfold oY at h1
 unfold zI oY
 rw [e,aH7]
 show (_++[_])++l.drop (_+1)=_
 rw [List.set_append_right _ _ (aJ1 _),Nat.sub_self,aM3]
 congr 1
 rw [List.drop_eq_getElem_cons (show ((l.take j).filter q).length<l.length by omega),List.set_cons_zero];rfl
theorem Ir {k:Nat} (hk:k<l.length) (h:∀ i,i<k->q (l.getD i z)=true) (hq:q (l.getD k z)=false):zI q l (k+1)=l/\oY q l (k+1)=k:=by
 have e:(l.take k).filter q=l.take k:=by
  rw [List.filter_eq_self]
  intro x hx
  obtain ⟨i,hi,rfl⟩:=List.mem_iff_getElem.1 hx
  rw [aL0] at hi
  rw [List.getElem_take,gD z (by omega)]
  exact h i (by omega)
 obtain ⟨e1,e2⟩:=Kv z hk hq
 rw [e1,e2]
 unfold zI oY
 rw [e,aL0,Nat.min_eq_left (by omega),aJ7]
 exact ⟨rfl,rfl⟩
variable (q l)
theorem Rm:oY q l l.length=(l.filter q).length:=by unfold oY;rw [List.take_length]
variable {q l}
theorem UV {k:Nat} (hk:k<l.length) (hq:q (l.getD k z)=false):(l.filter q).length<l.length:=by
 rcases aJ4 (l.filter q).length l.length with h|h
 ·exact h
 ·have h1:=aL2 q l
  have h2:l.filter q=l:=List.filter_eq_self.2 (List.length_filter_eq_length_iff.1 (show (l.filter q).length=l.length by omega))
  have h3:=List.filter_eq_self.1 h2 _ (ah4 z hk)
  rw [hq] at h3;cases h3
theorem Dp {p:α->Bool} (h:∀ x∈l,p x=false):(l.filter λx => !p x)=l:=List.filter_eq_self.2 λx hx=>by rw [h x hx];rfl
variable {f:α->List Value} {sz:Nat}
theorem Zr (hf:∀ x,(f x).length=sz) {j:Nat} (hj:j<l.length) (x:α):(l.flatMap f).take (j*sz)++f x++(l.flatMap f).drop (j*sz+sz)=(l.set j x).flatMap f:=by
 rw [gA f sz hf,show j*sz+sz=(j+1)*sz from (Nat.succ_mul j sz).symm,oV f sz hf,List.set_eq_take_append_cons_drop,if_pos hj,aM2,List.flatMap_cons,aM3]
theorem H0 (hf:∀ x,(f x).length=sz) (cur:List Value) (zs:List Value) (q:α->Bool) (l:List α) (h1:cur.take (l.length*sz)=(zI q l l.length).flatMap f) (hl:l.length*sz<=cur.length) (hz:zs.length=(l.length - (l.filter q).length)*sz) (o:Nat) (ho:o=(l.filter q).length*sz) (m:Nat) (hm:m=(l.length - (l.filter q).length)*sz):
 (cur.take o++zs++cur.drop (o+m)).length=cur.length/\(cur.take o++zs++cur.drop (o+m)).take o=(l.filter q).flatMap f:=by
 subst ho;subst hm
 have hle:=aL2 q l
 obtain ⟨e1,e2⟩:=xm cur zs ((l.filter q).length*sz) ((l.length - (l.filter q).length)*sz) (by rw [← Nat.add_mul];rw [show (l.filter q).length+(l.length - (l.filter q).length)=l.length by omega];exact hl) hz
 refine ⟨e1,e2.trans ?_⟩
 have h9:=aH3 (List.take ((l.filter q).length*sz)) h1
 rw [List.take_take,Nat.min_eq_left (Nat.mul_le_mul_right sz hle)] at h9
 rw [h9]
 unfold zI
 rw [List.take_length,aM2,List.take_left' (eF f sz hf _)]
end
theorem iv {α:Type} {C:List α->List Value} {l:List α} {w:World} {a:Option Addr} {n c sz:Nat} (ha:a.isNone=true) (h:bs w (.slice a n c) sz l.length (C l)):l=[]:=by
 rcases h.2 with ⟨_,e2⟩|⟨p,c9,e,_⟩
 ·exact List.eq_nil_of_length_eq_zero e2
 ·injection e with e1;subst e1;cases ha
theorem IZ {w:World} {B:List Own} {w':World} {v:Value} {M:TypeId} {sz:Nat} {α:Type} {C:List α->List Value} {l r:List α} (h:l=r) (s:St w (.sl v M sz l.length (C l)::B) w'):St w (.sl v M sz r.length (C r)::B) w':=by subst h;exact s
theorem Cr (x:Id):(aH x).extract 0 (0+32)=aH x:=by
 apply Array.ext'
 rw [Array.toList_extract,List.extract_eq_take_drop]
 show (List.drop 0 (aH x).toList).take 32=_
 rw [List.drop_zero,aJ9 (by rw [aI2,aA];exact aJ1 _)]
theorem ah3 {l:List Wn} {x:Id} {r:Int} (hr:(r = -1/\∀ y∈l,decide (y.1=x)=false)∨∃ k:Nat,k<l.length/\r=(k:Int)/\decide ((l.getD k jJ).1=x)=true/\∀ i,i<k->decide ((l.getD i jJ).1=x)=false):r=mO (wk l) x:=by
 rcases hr with ⟨rfl,h⟩|⟨k,hk,rfl,h,hb⟩
 ·exact(MW λj hj=>by rw [xg];rw [ug] at hj;exact aH0 (h _ (DZ hj))).symm
 ·exact(zF (by rw [ug];exact hk) (by rw [xg];exact aG9 h) λj hj=>by rw [xg];exact aH0 (hb j hj)).symm
theorem Y0 {l:List Hn} {x:Id} {r:Int} (hr:(r = -1/\∀ y∈l,decide (y.1=x)=false)∨∃ k:Nat,k<l.length/\r=(k:Int)/\decide ((l.getD k gC).1=x)=true/\∀ i,i<k->decide ((l.getD i gC).1=x)=false):r=mO (hk l) x:=by
 rcases hr with ⟨rfl,h⟩|⟨k,hk',rfl,h,hb⟩
 ·exact(MW λj hj=>by rw [rg];rw [qm] at hj;exact aH0 (h _ (yQ hj))).symm
 ·exact(zF (by rw [qm];exact hk') (by rw [rg];exact aG9 h) λj hj=>by rw [rg];exact aH0 (hb j hj)).symm
theorem FW {l:List Id} {k:Nat} (hk:k<l.length):decide (0<=mO (l.take k) (l.getD k 0#256)) = !decide (mO l (l.getD k 0#256)=(k:Int)):=by
 have key:mO (l.take k) (l.getD k 0#256)<0↔mO l (l.getD k 0#256)=(k:Int):=by
  rw [QP]
  constructor
  ·intro h
   refine zF hk rfl λj hj=>h _ ?_
   have hj2:j<(l.take k).length:=by rw [aL0];omega
   rw [← IQ (by omega),← List.getElem_take (h:=hj2)]
   exact aN1 hj2
  ·intro h y hy
   obtain ⟨j,hj,rfl⟩:=List.mem_iff_getElem.1 hy
   rw [aL0] at hj
   rw [List.getElem_take,IQ (by omega)]
   rcases qz l (l.getD k 0#256) with ⟨h1,_⟩|⟨k2,h1,h2,_,h4⟩
   ·omega
   ·exact h4 j (by omega)
 rw [← decide_not]
 exact aI3.2 ⟨λh e=>by have:=key.2 e;omega,λh=>by
  rcases Int.lt_or_le (mO (l.take k) (l.getD k 0#256)) 0 with g|g
  ·exact aO7 (key.1 g) h
  ·exact g⟩
theorem Uc {l:List Wn} {k:Nat} (h9:k<l.length):decide (0<=mO (wk (l.take k)) (l.getD k jJ).1) = !decide (mO (wk l) (l.getD k jJ).1=(k:Int)):=by
 have:=FW (l:=wk l) (k:=k) (by rw [ug];exact h9)
 rw [xg] at this
 rw [show wk (l.take k)=(wk l).take k from List.map_take ..]
 exact this
theorem Tt {l:List Hn} {k:Nat} (h9:k<l.length):decide (0<=mO (hk (l.take k)) (l.getD k gC).1) = !decide (mO (hk l) (l.getD k gC).1=(k:Int)):=by
 have:=FW (l:=hk l) (k:=k) (by rw [qm];exact h9)
 rw [rg] at this
 rw [show hk (l.take k)=(hk l).take k from List.map_take ..]
 exact this
def IL (l:List Wn):Bool:=decide (l.length<=8) && (List.range l.length).all (He l)
def Og (l:List Hn):Bool:=decide (l.length<=8) && (List.range l.length).all (oo l)
def SX (x:Hn):Bool:=gU x.2.1 0 15 && gU x.2.2 0 1099511627776
theorem Yd {l:List Wn} (h:8<l.length):IL l=false:=by unfold IL;rw [aH1 (by omega)];rfl
theorem VP {l:List Hn} (h:8<l.length):Og l=false:=by unfold Og;rw [aH1 (by omega)];rfl
theorem TX {l:List Wn} {k:Nat} (hk:k<l.length) (e:He l k=false):IL l=false:=by
 unfold IL
 rw [show (List.range l.length).all (He l)=false from by
  rw [List.all_eq_false];exact ⟨k,aI7.2 hk,by rw [e];decide⟩,Bool.and_false]
theorem Ur {l:List Hn} {k:Nat} (hk:k<l.length) (e:oo l k=false):Og l=false:=by
 unfold Og
 rw [show (List.range l.length).all (oo l)=false from by
  rw [List.all_eq_false];exact ⟨k,aI7.2 hk,by rw [e];decide⟩,Bool.and_false]
theorem Vq {l:List Wn} (h:l.length<=8) (e:∀ j,j<l.length->He l j=true):IL l=true:=by unfold IL;rw [nj e,aH2 h];rfl
theorem Wb {l:List Hn} (h:l.length<=8) (e:∀ j,j<l.length->oo l j=true):Og l=true:=by unfold Og;rw [nj e,aH2 h];rfl
theorem Zy {l:List Hn} {k:Nat} (h:SX (l.getD k gC)=false):oo l k=false:=by
 unfold SX at h;unfold oo
 rw [← Bool.and_assoc,h];rfl
theorem S3 {l:List Hn} {k:Nat} (h:SX (l.getD k gC)=true) {b:Bool} (h2:decide (mO (hk l) (l.getD k gC).1=(k:Int))=b):oo l k=b:=by
 unfold SX at h;unfold oo
 rw [← Bool.and_assoc,h,h2];rfl
def wz (s:ByteArray):Bool:=decide (64<s.size)
def WA (h:Ho):Bool:=gU h.no 0 15 && (gU h.gt 0 15 && (IL h.ws && (Og h.hs && (decide (h.bx.length<=32) && !h.bx.any wz))))
theorem Wz (l:List ByteArray):(List.range l.length).all (W5 l) = !l.any wz:=by
 cases e:l.any wz with
 |false=>
  refine nj λj hj=>aH2 ?_
  have:=aN5.1 e _ (CM hj)
  unfold wz at this
  rw [aI0] at this;omega
 |true=>
  obtain ⟨s,hs,h9⟩:=aN4.1 e
  obtain ⟨j,hj,rfl⟩:=List.mem_iff_getElem.1 hs
  show _=false
  rw [List.all_eq_false]
  refine ⟨j,aI7.2 hj,?_⟩
  unfold W5
  unfold wz at h9
  rw [← stD hj,aI0]
  have:=aG9 h9;omega
theorem qs (h:Ho):WA h=dc h:=by
 unfold WA dc okB IL Og
 rw [Wz]
 generalize gU h.no 0 15=a;generalize gU h.gt 0 15=b;generalize decide (h.ws.length<=8)=c;generalize decide (h.hs.length<=8)=d;generalize decide (h.bx.length<=32)=e
 generalize (List.range h.ws.length).all (He h.ws)=f;generalize (List.range h.hs.length).all (oo h.hs)=g;generalize (!h.bx.any wz)=i
 cases a<;>cases b<;>cases c<;>cases d<;>cases e<;>cases f<;>cases g<;>cases i<;>rfl
section
variable {h:Ho}
theorem ag9 (a:gU h.no 0 15=false):dc h=false:=by rw [← qs];unfold WA;rw [a];rfl
theorem YP (a:gU h.no 0 15=true) (b:gU h.gt 0 15=false):dc h=false:=by rw [← qs];unfold WA;rw [a,b];rfl
theorem ad4 (a:gU h.no 0 15=true) (b:gU h.gt 0 15=true) (c:IL h.ws=false):dc h=false:=by rw [← qs];unfold WA;rw [a,b,c];rfl
theorem aj6 (a:gU h.no 0 15=true) (b:gU h.gt 0 15=true) (c:IL h.ws=true) (d:Og h.hs=false):dc h=false:=by rw [← qs];unfold WA;rw [a,b,c,d];rfl
theorem TS (a:gU h.no 0 15=true) (b:gU h.gt 0 15=true) (c:IL h.ws=true) (d:Og h.hs=true) {e:Bool} (f:decide (h.bx.length<=32)=e):dc h=(e && !h.bx.any wz):=by rw [← qs];unfold WA;rw [a,b,c,d,f];rfl
end
def OwH (w:World) (N1 N2 N3:TypeId) (h:Ho):ez:=λv w'=>∃ a b c,v=.agg (ca h.no h.gt a b c)/\St w [.sl a N1 33 h.ws.length (cV h.ws),.sl b N2 34 h.hs.length (cU h.hs),.sl c N3 1 h.bx.length (zJ h.bx)] w'
section
variable {w w':World} {vw vh vi:Value} {h:Ho} {N1 N2 N3:TypeId}
theorem Rl {H:Ho} {E e:Int} (hH:H=sO) (hE:E=e) (s:St w [] w'):HoP w vw vh vi h H E (.tuple #[.agg (ca 0 0 ax ax ax),.int .i64 e]) w':=by
 subst hH;subst hE
 exact ⟨ax,ax,ax,[],rfl,s.grp0 (S:=λw9=>pE w9 vw vh vi h->pE w9 ax ax ax sO) λw9 _=>ah2 w9⟩
end
theorem KY {w w':World} {a b c:Value} {h:Ho} {N1 N2 N3:TypeId} {B:List Own} (s:St w (.sl a N1 33 h.ws.length (cV h.ws)::.sl b N2 34 h.hs.length (cU h.hs)::.sl c N3 1 h.bx.length (zJ h.bx)::B) w'):∃ ks,St w (.grp ks (λw9=>pE w9 a b c h)::B) w':=by
 have s:=s.grp0 (S:=λ_=>True) (λ_=>trivial)
 obtain ⟨k1,s⟩:=(s.perm (aO3 ..)).grp1 (S':=λw9=>bs w9 a 33 h.ws.length (cV h.ws)) (λw9 h9 _=>h9)
 obtain ⟨k2,s⟩:=(s.perm (aO3 ..)).grp1 (S':=λw9=>bs w9 a 33 h.ws.length (cV h.ws)/\bs w9 b 34 h.hs.length (cU h.hs)) (λw9 h9 h8=>⟨h8,h9⟩)
 exact(s.perm (aO3 ..)).grp1 (S':=λw9=>pE w9 a b c h) (λw9 h9 h8=>⟨h8.1,h8.2,h9⟩)
theorem VC {l:List ByteArray} {r:Int} (hr:(r = -1/\∀ x∈l,wz x=false)∨∃ k:Nat,k<l.length/\r=(k:Int)/\wz (l.getD k ByteArray.empty)=true):decide (r≥0)=l.any wz:=by
 rcases hr with ⟨rfl,h⟩|⟨k,hk,rfl,h⟩
 ·rw [aN5.2 λx hx=>by rw [h x hx];decide];rfl
 ·rw [aN4.2 ⟨_,CM hk,h⟩,aH2 (by omega)]
theorem Oi (n g:Int):dc ⟨n,g,[],[],[]⟩=(gU n 0 15 && gU g 0 15):=by
 rw [← qs]
 show (gU n 0 15 && (gU g 0 15 && true))=_
 rw [Bool.and_true]
theorem Rw {w w':World} {n g:Int} (s:St w [] w'):HoP w ax ax ax sO ⟨n,g,[],[],[]⟩ 0 (.tuple #[.agg (ca n g ax ax ax),.int .i64 0]) w':=
 ⟨ax,ax,ax,[],rfl,s.grp0 (S:=λw9=>pE w9 ax ax ax sO->pE w9 ax ax ax ⟨n,g,[],[],[]⟩) λw9 _=>kR w9 n g⟩
section
variable {w w':World} {vw vh vi vl:Value} {h:Ho} {now:Int} {N:TypeId} {l:List dN} {d:ByteArray}
theorem r7 {e:Int} (hE:oA h l d now=e/\dM h l d now=Yq) (s:St w [] w'):SdP w vl l (dM h l d now) (oA h l d now) (.tuple #[.agg (dP 0 mZ ax cr),.int .i64 e]) w':=by
 rw [hE.1,hE.2]
 exact ⟨ax,[],rfl,s.grp0 (S:=λw9=>iJ w9 vl l->iJ w9 ax Yq.2.1.l) λw9 _=>cT w9⟩
theorem ND {u:Value} (hE:oA h l d now=0/\dM h l d now=wH h l d now) (s:St w [.sl u N 34 l.length (ed l)] w'):SdP w vl l (dM h l d now) (oA h l d now) (.tuple #[.agg (dP (xR h l now) (Vf l d) u cr),.int .i64 0]) w':=by
 rw [hE.1,hE.2]
 obtain ⟨kn,s⟩:=((s.grp0 (S:=λ_=>True) (λ_=>trivial)).perm (aO3 ..)).grp1 (S':=λw9=>iJ w9 vl l->iJ w9 u (wH h l d now).2.1.l) (λw9 h9 _ _=>h9)
 exact ⟨u,kn,rfl,s⟩
end
section
variable {h:Ho} {fr:Int} {m:Mg} {now:Int}
end
section
variable {w w':World} {h:Ho} {fr:Int} {m:Mg} {e:Int} {N:TypeId}
end
section
variable {w0 w9:World} {bi:Nat} {N N1 N2 N3:TypeId} {B9:List Own} {h H:Ho} {fr:Int} {m:Mg} {now E n g:Int} {a b c:Value}
end
section
variable {w w':World} {vw vh vi vs:Value} {h:Ho} {l:List dN} {fr:Int} {m:Mg} {now e:Int} {N1 N2:TypeId}
end
end Go.Proofs.YthmlflaiidhoiaaGreatDoor
