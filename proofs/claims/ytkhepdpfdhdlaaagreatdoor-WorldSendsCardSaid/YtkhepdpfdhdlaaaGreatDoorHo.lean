/- Hosts: wants, hints, an inbox; what they ask, send, take; hosts that come in; no Go in it. -/
import Derived.Test.YtkhepdpfdhdlaaaGreatDoorSv
set_option linter.unusedVariables false
set_option linter.unusedSimpArgs false
set_option linter.unusedSectionVars false
namespace Go.Proofs.YtkhepdpfdhdlaaaGreatDoor
open Go.RowKit
abbrev Wn:=Id × Int
abbrev Hn:=Id × Int × Int
structure Ho where
 no:Int
 gt:Int
 ws:List Wn
 hs:List Hn
 bx:List ByteArray
deriving DecidableEq
def n5:Ho:=⟨0,0,[],[],[]⟩
def dR:Wn:=(0#256,0)
def eV:Hn:=(0#256,0,0)
def Ds (t:Wn):List Value:=(aA t.1).toList++[.int .i64 t.2]
def cP (t:Wn):Array Value:=(Ds t).toArray
theorem uB (t:Wn):(Ds t).length=33:=by simp [Ds]
theorem ck (t:Wn):(cP t).size=33:=by simp [cP,uB]
theorem wA (t:Wn):∀ v∈Ds t,v.oneCell'=true:=λv hv=>by
 unfold Ds at hv
 rcases Y4.1 hv with hv|hv
 ·rw [di] at hv;exact dB _ _ v hv
 ·rw [YF] at hv;subst hv;rfl
theorem iX (t:Wn):∀ v∈(cP t).toList,v.oneCell'=true:=wA t
theorem Rj (t:Wn):((cP t).toList.drop 0).take 32=(aA t.1).toList:=by
 show ((Ds t).drop 0).take 32=_
 unfold Ds
 rw [List.drop_zero,List.take_left' (dH _)]
theorem lW (t:Wn):(cP t).extract 0 (0+32)=aA t.1:=jZ _ _ _ _ (Rj t)
theorem iQ (t:Wn):(cP t)[32]? = some (.int .i64 t.2):=by
 unfold cP Ds
 rw [YT,Y2 (by rw [dH];exact YM _),dH];rfl
def UG:List (List Value):=[(aA 0#256).toList,[.int .i64 0]]
theorem An:cP dR=UG.flatten.toArray:=by unfold cP Ds dR UG;simp
def cn (l:List Wn):List Value:=l.flatMap Ds
theorem u4 (l r:List Wn):cn (l++r)=cn l++cn r:=Zh
theorem xS (t:Wn):cn [t]=(cP t).toList:=by simp [cn,cP]
theorem tM (l:List Wn):∀ u∈cn l,u.oneCell'=true:=λu hu=>by
 obtain ⟨x,_,hx⟩:=List.mem_flatMap.1 hu
 exact wA x u hx
theorem T3 (m:Wn):∀ v∈([.agg (cP m)]:List Value),v.cells.size=33:=λv hv=>by
 rw [YF] at hv;subst hv;exact ck m
theorem E7 (m:Wn):([Value.agg (cP m)].flatMap λv=>v.cells.toList)=(cP m).toList:=by simp [Value.cells]
theorem IB (l:List Wn) (x:Wn):cn l++(cP x).toList=cn (l++[x]):=by rw [u4,xS]
theorem UX {l:List Wn} {j:Nat} (hj:j<l.length):l[j]=l.getD j dR:=by
 rw [YR,Yz hj];rfl
theorem Ag (l:List Wn) (j:Nat) (hj:j<l.length):(((cn l).drop (j*33)).take 33).toArray=cP (l.getD j dR):=by
 unfold cn
 rw [dS _ 33 uB l j hj,UX hj];rfl
theorem z8 {l:List Wn} {j:Nat} (hj:j<l.length):l.getD j dR∈l:=by rw [← UX hj];exact Zq hj
theorem MT {l:List Wn} {x:Wn} (h:x∈l):∃ j,j<l.length/\l.getD j dR=x:=by
 obtain ⟨j,hj,rfl⟩:=List.mem_iff_getElem.1 h
 exact ⟨j,hj,(UX hj).symm⟩
theorem AA {w:World} {v:Value} {l:List Wn} (h:bp w v 33 l.length (cn l)) (k:Nat) (hk:k<=l.length):bp w (fI v k) 33 (l.take k).length (cn (l.take k)):=by
 have:=h.cut k hk
 unfold cn at this
 rw [fN _ 33 uB] at this
 rw [Y5,Nat.min_eq_left hk]
 exact this
def Db (t:Hn):List Value:=(aA t.1).toList++[.int .i64 t.2.1,.int .i64 t.2.2]
def c7 (t:Hn):Array Value:=(Db t).toArray
theorem ux (t:Hn):(Db t).length=34:=by simp [Db]
theorem cL (t:Hn):(c7 t).size=34:=by simp [c7,ux]
theorem wB (t:Hn):∀ v∈Db t,v.oneCell'=true:=λv hv=>by
 unfold Db at hv
 rcases Y4.1 hv with hv|hv
 ·rw [di] at hv;exact dB _ _ v hv
 ·simp only [YH,YK,or_false] at hv
  rcases hv with rfl|rfl<;>rfl
theorem kV (t:Hn):∀ v∈(c7 t).toList,v.oneCell'=true:=wB t
theorem Uh (t:Hn):((c7 t).toList.drop 0).take 32=(aA t.1).toList:=by
 show ((Db t).drop 0).take 32=_
 unfold Db
 rw [List.drop_zero,List.take_left' (dH _)]
theorem wE (t:Hn):(c7 t).extract 0 (0+32)=aA t.1:=jZ _ _ _ _ (Uh t)
theorem qp (t:Hn):(c7 t)[32]? = some (.int .i64 t.2.1):=by
 unfold c7 Db
 rw [YT,Y2 (by rw [dH];exact YM _),dH];rfl
theorem jE (t:Hn):(c7 t)[33]? = some (.int .i64 t.2.2):=by
 unfold c7 Db
 rw [YT,Y2 (by rw [dH];omega),dH];rfl
def UL:List (List Value):=[(aA 0#256).toList,[.int .i64 0],[.int .i64 0]]
theorem Bw:c7 eV=UL.flatten.toArray:=by unfold c7 Db eV UL;simp
def cm (l:List Hn):List Value:=l.flatMap Db
theorem vJ (l r:List Hn):cm (l++r)=cm l++cm r:=Zh
theorem xP (t:Hn):cm [t]=(c7 t).toList:=by simp [cm,c7]
theorem tT (l:List Hn):∀ u∈cm l,u.oneCell'=true:=λu hu=>by
 obtain ⟨x,_,hx⟩:=List.mem_flatMap.1 hu
 exact wB x u hx
theorem Q6 (m:Hn):∀ v∈([.agg (c7 m)]:List Value),v.cells.size=34:=λv hv=>by
 rw [YF] at hv;subst hv;exact cL m
theorem HN (m:Hn):([Value.agg (c7 m)].flatMap λv=>v.cells.toList)=(c7 m).toList:=by simp [Value.cells]
theorem JA (l:List Hn) (x:Hn):cm l++(c7 x).toList=cm (l++[x]):=by rw [vJ,xP]
theorem UF {l:List Hn} {j:Nat} (hj:j<l.length):l[j]=l.getD j eV:=by
 rw [YR,Yz hj];rfl
theorem vv (l:List Hn) (j:Nat) (hj:j<l.length):(((cm l).drop (j*34)).take 34).toArray=c7 (l.getD j eV):=by
 unfold cm
 rw [dS _ 34 ux l j hj,UF hj];rfl
theorem sn {l:List Hn} {j:Nat} (hj:j<l.length):l.getD j eV∈l:=by rw [← UF hj];exact Zq hj
theorem MC {l:List Hn} {x:Hn} (h:x∈l):∃ j,j<l.length/\l.getD j eV=x:=by
 obtain ⟨j,hj,rfl⟩:=List.mem_iff_getElem.1 h
 exact ⟨j,hj,(UF hj).symm⟩
theorem Aj {w:World} {v:Value} {l:List Hn} (h:bp w v 34 l.length (cm l)) (k:Nat) (hk:k<=l.length):bp w (fI v k) 34 (l.take k).length (cm (l.take k)):=by
 have:=h.cut k hk
 unfold cm at this
 rw [fN _ 34 ux] at this
 rw [Y5,Nat.min_eq_left hk]
 exact this
def rQ (l:List ByteArray):List Value:=l.map Value.string
theorem HP (l:List ByteArray):∀ u∈rQ l,u.oneCell'=true:=λu hu=>by
 obtain ⟨x,_,rfl⟩:=Ze.1 hu
 rfl
theorem T6 {l:List ByteArray} {j:Nat} (hj:j<l.length):l[j]=l.getD j ByteArray.empty:=by
 rw [YR,Yz hj];rfl
theorem P8 {l:List ByteArray} {j:Nat} (hj:j<l.length):(rQ l)[j]? = some (.string (l.getD j ByteArray.empty)):=by
 unfold rQ
 rw [Zf,Yz hj,T6 hj];rfl
theorem zt {l:List ByteArray} {j:Nat} (hj:j<l.length):l.getD j ByteArray.empty∈l:=by rw [← T6 hj];exact Zq hj
def Ip (n g:Int) (vw vh vi:Value):List Value:=[.int .i64 n,.int .i64 g,vw,vh,vi]
def a8 (n g:Int) (vw vh vi:Value):Array Value:=(Ip n g vw vh vi).toArray
theorem aN (n g:Int) (vw vh vi:Value):(a8 n g vw vh vi).size=5:=rfl
theorem dE {vw vh vi:Value} (n g:Int) (h1:vw.oneCell'=true) (h2:vh.oneCell'=true) (h3:vi.oneCell'=true):∀ u∈(a8 n g vw vh vi).toList,u.oneCell'=true:=λu hu=>by
 have hu:u∈Ip n g vw vh vi:=hu
 unfold Ip at hu
 simp only [YH,YK,or_false] at hu
 rcases hu with rfl|rfl|rfl|rfl|rfl
 ·rfl
 ·rfl
 ·exact h1
 ·exact h2
 ·exact h3
section
variable (n g:Int) (vw vh vi x:Value)
theorem CH:(a8 n g vw vh vi)[0]? = some (.int .i64 n):=rfl
theorem GJ:(a8 n g vw vh vi)[1]? = some (.int .i64 g):=rfl
theorem CW:(a8 n g vw vh vi)[2]? = some vw:=rfl
theorem xZ:(a8 n g vw vh vi)[3]? = some vh:=rfl
theorem Jh:(a8 n g vw vh vi)[4]? = some vi:=rfl
end
def Sr:List (List Value):=[[.int .i64 0],[.int .i64 0],[.slice none 0 0],[.slice none 0 0],[.slice none 0 0]]
def gn (w:World) (vw vh vi:Value) (h:Ho):Prop:=bp w vw 33 h.ws.length (cn h.ws)/\bp w vh 34 h.hs.length (cm h.hs)/\bp w vi 1 h.bx.length (rQ h.bx)
theorem gn.keep {w w':World} {vw vh vi:Value} {h:Ho} (H:gn w vw vh vi h) (e:Ext w w'):gn w' vw vh vi h:=⟨H.1.keep e,H.2.1.keep e,H.2.2.keep e⟩
theorem iM (w:World) (n g:Int):gn w aj aj aj ⟨n,g,[],[],[]⟩:=⟨⟨rfl,.inl ⟨rfl,rfl⟩⟩,⟨rfl,.inl ⟨rfl,rfl⟩⟩,⟨rfl,.inl ⟨rfl,rfl⟩⟩⟩
def jY (l:List Id) (x:Id):Int:=if l.findIdx (λy=>decide (y=x))<l.length then ((l.findIdx (λy=>decide (y=x)):Nat):Int) else -1
theorem Dv {l:List Id} {j:Nat} (hj:j<l.length):l[j]=l.getD j 0#256:=by
 rw [YR,Yz hj];rfl
theorem uy {l:List Id} {x:Id} {k:Nat} (hk:k<l.length) (h:l.getD k 0#256=x) (hb:∀ j,j<k->l.getD j 0#256≠x):jY l x=(k:Int):=by
 have e:l.findIdx (λy=>decide (y=x))=k:=by
  rw [List.findIdx_eq hk]
  refine ⟨by rw [Dv hk,h];simp,λj hj=>?_⟩
  rw [Dv (by omega)]
  exact Ys (hb j hj)
 unfold jY
 rw [e,if_pos hk]
theorem DQ {l:List Id} {x:Id} (h:∀ j,j<l.length->l.getD j 0#256≠x):jY l x = -1:=by
 have e:l.findIdx (λy=>decide (y=x))=l.length:=by
  rw [List.findIdx_eq_length]
  intro y hy
  obtain ⟨j,hj,rfl⟩:=List.mem_iff_getElem.1 hy
  rw [Dv hj]
  simpa using h j hj
 unfold jY
 rw [e,if_neg (Nat.lt_irrefl _)]
theorem mJ (l:List Id) (x:Id):(jY l x = -1/\∀ y∈l,y≠x)∨∃ k,k<l.length/\jY l x=(k:Int)/\l.getD k 0#256=x/\∀ j,j<k->l.getD j 0#256≠x:=by
 by_cases h:l.findIdx (λy=>decide (y=x))<l.length
 ·refine .inr ⟨_,h,by unfold jY;rw [if_pos h],?_,λj hj=>?_⟩
  ·rw [← Dv h]
   have:=List.findIdx_getElem (w:=h)
   simpa using this
  ·rw [← Dv (by omega)]
   have:=List.not_of_lt_findIdx hj
   simpa using this
 ·refine .inl ⟨by unfold jY;rw [if_neg h],λy hy=>?_⟩
  have e:l.findIdx (λy=>decide (y=x))=l.length:=by have:=List.findIdx_le_length (p:=λy=>decide (y=x)) (xs:=l);omega
  rw [List.findIdx_eq_length] at e
  simpa using e y hy
theorem K0 {l:List Id} {x:Id}:jY l x<0↔∀ y∈l,y≠x:=by
 rcases mJ l x with ⟨h,g⟩|⟨k,hk,h,h1,_⟩
 ·rw [h];exact ⟨λ_=>g,λ_=>by decide⟩
 ·rw [h]
  refine ⟨λh=>by omega,λg=>ZF h1 (g _ ?_)⟩
  rw [← Dv hk];exact Zq hk
theorem j7 {l:List Id}:(∀ j,j<l.length->jY l (l.getD j 0#256)=(j:Int))↔l.Nodup:=by
 unfold List.Nodup
 rw [List.pairwise_iff_getElem]
 constructor
 ·intro h a b ha hb hab e
  have h1:=h a ha
  have h2:=h b hb
  rw [← Dv ha] at h1
  rw [← Dv hb] at h2
  rw [e,h2] at h1
  omega
 ·intro h j hj
  refine uy hj rfl λi hi e=>?_
  rw [← Dv (by omega),← Dv hj] at e
  exact h i j (by omega) hj hi e
def wk (l:List Wn):List Id:=l.map (·.1)
def hk (l:List Hn):List Id:=l.map (·.1)
theorem oL (l:List Wn):(wk l).length=l.length:=Y6 ..
theorem mI (l:List Hn):(hk l).length=l.length:=Y6 ..
theorem rC (l:List Wn) (j:Nat):(wk l).getD j 0#256=(l.getD j dR).1:=by
 unfold wk
 rw [YR,YR,Zf]
 cases l[j]? <;> rfl
theorem nD (l:List Hn) (j:Nat):(hk l).getD j 0#256=(l.getD j eV).1:=by
 unfold hk
 rw [YR,YR,Zf]
 cases l[j]? <;> rfl
def eN (n a b:Int):Bool:=decide (a<=n) && decide (n<=b)
theorem dJ {n a b:Int}:eN n a b=true↔a<=n/\n<=b:=by unfold eN;rw [Yw,YB,YB]
def CT (l:List Wn) (j:Nat):Bool:=eN (l.getD j dR).2 1 1048576 && decide (jY (wk l) (l.getD j dR).1=(j:Int))
def lg (l:List Hn) (j:Nat):Bool:=eN (l.getD j eV).2.1 0 15 && (eN (l.getD j eV).2.2 0 1099511627776 && decide (jY (hk l) (l.getD j eV).1=(j:Int)))
def PZ (l:List ByteArray) (j:Nat):Bool:=decide ((l.getD j ByteArray.empty).size<=64)
def Tl (h:Ho):Bool:=eN h.no 0 15 && (eN h.gt 0 15 && (decide (h.ws.length<=8) && (decide (h.hs.length<=8) && decide (h.bx.length<=32))))
def bT (h:Ho):Bool:=(List.range h.ws.length).all (CT h.ws) && ((List.range h.hs.length).all (lg h.hs) && ((List.range h.bx.length).all (PZ h.bx) && Tl h))
theorem j6 {p:Nat->Bool} {n:Nat} (h:∀ j,j<n->p j=true):(List.range n).all p=true:=Yx.2 λj hj=>h j (YI.1 hj)
theorem md {p:Nat->Bool} {n:Nat} (h:(List.range n).all p=true) {j:Nat} (hj:j<n):p j=true:=Yx.1 h j (YI.2 hj)
structure RH (h:Ho):Prop where
 ws:∀ x∈h.ws,1<=x.2/\x.2<=1048576
 wn:(wk h.ws).Nodup
 hs:∀ x∈h.hs,(0<=x.2.1/\x.2.1<=15)/\0<=x.2.2/\x.2.2<=1099511627776
 hn:(hk h.hs).Nodup
 bx:∀ s∈h.bx,s.size<=64
 no:0<=h.no/\h.no<=15
 gt:0<=h.gt/\h.gt<=15
 wl:h.ws.length<=8
 hl:h.hs.length<=8
 bl:h.bx.length<=32
theorem uH {l:List Wn} {j:Nat}:CT l j=true↔(1<=(l.getD j dR).2/\(l.getD j dR).2<=1048576)/\jY (wk l) (l.getD j dR).1=(j:Int):=by unfold CT;rw [Yw,dJ,YB]
theorem pu {l:List Hn} {j:Nat}:lg l j=true↔(0<=(l.getD j eV).2.1/\(l.getD j eV).2.1<=15)/\(0<=(l.getD j eV).2.2/\(l.getD j eV).2.2<=1099511627776)/\jY (hk l) (l.getD j eV).1=(j:Int):=by unfold lg;rw [Yw,Yw,dJ,dJ,YB]
theorem JW {h:Ho}:Tl h=true↔(0<=h.no/\h.no<=15)/\(0<=h.gt/\h.gt<=15)/\h.ws.length<=8/\h.hs.length<=8/\h.bx.length<=32:=by
 unfold Tl
 rw [Yw,Yw,Yw,Yw,dJ,dJ,YB,YB,YB]
theorem gb {h:Ho}:bT h=true↔RH h:=by
 unfold bT
 rw [Yw,Yw,Yw,JW]
 constructor
 ·rintro ⟨h1,h2,h3,h4,h5,h6,h7,h8⟩
  refine ⟨λx hx=>?_,j7.1 λj hj=>?_,λx hx=>?_,j7.1 λj hj=>?_,λx hx=>?_,h4,h5,h6,h7,h8⟩
  ·obtain ⟨j,hj,rfl⟩:=MT hx
   exact(uH.1 (md h1 hj)).1
  ·rw [oL] at hj;rw [rC]
   exact(uH.1 (md h1 hj)).2
  ·obtain ⟨j,hj,rfl⟩:=MC hx
   have:=pu.1 (md h2 hj)
   exact ⟨this.1,this.2.1⟩
  ·rw [mI] at hj;rw [nD]
   exact(pu.1 (md h2 hj)).2.2
  ·obtain ⟨j,hj,rfl⟩:=List.mem_iff_getElem.1 hx
   rw [T6 hj]
   exact Yq (md h3 hj)
 ·intro R
  refine ⟨j6 λj hj=>uH.2 ⟨R.ws _ (z8 hj),?_⟩,j6 λj hj=>pu.2 ⟨(R.hs _ (sn hj)).1,(R.hs _ (sn hj)).2,?_⟩,j6 λj hj=>Yt (R.bx _ (zt hj)),R.no,R.gt,R.wl,R.hl,R.bl⟩
  ·have:=j7.2 R.wn j (by rw [oL];exact hj)
   rwa [rC] at this
  ·have:=j7.2 R.hn j (by rw [mI];exact hj)
   rwa [nD] at this
def yU (h:Ho) (x:Id):Int:=jY (wk h.ws) x
def mt (h:Ho) (x:Id):Int:=jY (hk h.hs) x
def kA (h:Ho) (x:Id) (now:Int):Int:=bif decide (0<=mt h x) && decide (now<(h.hs.getD (mt h x).toNat eV).2.2) then (h.hs.getD (mt h x).toNat eV).2.1 else h.gt
def gh (h:Ho):cO:=(2,0#256,h.no)
def yv (h:Ho) (x:Wn):Mg:=⟨2,x.1,gh h,[],x.2,⟨#[]⟩,⟨#[]⟩⟩
def mf (h:Ho) (now:Int) (x:Wn):Se:=(kA h x.1 now,yv h x,eg)
def iu (h:Ho) (now:Int):List Se:=h.ws.map (mf h now)
def NA (l:List cO) (d:ByteArray):Mg:=⟨1,0#256,(0,0#256,0),l,64,⟨#[]⟩,d⟩
def pK (h:Ho) (l:List cO) (now:Int):Int:=bif decide ((l.getD 0 (0,0#256,0)).1=1) then kA h (l.getD 0 (0,0#256,0)).2.1 now else h.gt
def jS (h:Ho) (l:List cO) (d:ByteArray) (now:Int):Se:=(pK h l now,NA l d,eg)
def uO (l:List Hn) (x:Id):List Hn:=l.filter λy => !decide (y.1=x)
def Le (h:Ho) (x:Id):Ho:=⟨h.no,h.gt,h.ws,uO h.hs x,h.bx⟩
def yO (now:Int):Int:=if 1099511627776<now+1000 then 1099511627776 else now+1000
def wq (l:List Hn):List Hn:=if l.length<8 then l else l.drop 1
def KN (l:List Hn) (x:Id) (n now:Int):List Hn:=wq (uO l x)++[(x,n,yO now)]
structure Hq where
 h:Ho
 l:List Se
 e:Int
def f8 (e:Int):Hq:=⟨n5,[],e⟩
def C8 (h:Ho) (m:Mg) (now:Int):Hq:=bif decide (15<m.n) then f8 1 else ⟨⟨h.no,h.gt,h.ws,KN h.hs m.i m.n now,h.bx⟩,[],0⟩
def Qc (h:Ho) (m:Mg):Mg:=⟨4,m.i,m.t,[],(h.ws.getD (yU h m.i).toNat dR).2,m.o,⟨#[]⟩⟩
def nf (h:Ho) (m:Mg):Hq:=bif !decide (m.l.getD 0 (0,0#256,0)=gh h) then f8 1 else bif decide (h.bx.length=32) then f8 8 else ⟨⟨h.no,h.gt,h.ws,h.hs,h.bx++[m.d]⟩,[],0⟩
def vV (h:Ho) (fr:Int) (m:Mg):Hq:=bif !decide (m.t=gh h) then f8 1 else bif decide (yU h m.i<0) then f8 6 else ⟨h,[(fr,Qc h m,eg)],0⟩
def BZ (h:Ho) (m:Mg):Hq:=bif decide (yU h m.i<0) then f8 6 else ⟨h,[],0⟩
def lV (h:Ho) (fr:Int) (m:Mg) (now:Int):Hq:=
 bif decide (m.k=1) then nf h m else bif decide (m.k=3) then vV h fr m else bif decide (m.k=5) then BZ h m else bif decide (m.k=7) then ⟨Le h m.i,[],0⟩ else bif decide (m.k=8) then C8 h m now else f8 1
def xk (h:Ho) (fr:Int) (m:Mg) (now:Int):Bool:=bT h && (eN now 0 1099511627776 && (eN fr 0 31 && cR m))
def ip (h:Ho) (fr:Int) (m:Mg) (now:Int):Hq:=bif xk h fr m now then lV h fr m now else f8 1
section
variable {P:Program} {ρ:Operand->Value} {d:Option Tmp} {ty:TypeId} {pos:String} {af:Array Edge} {g:Option (Nat × Bool)} {x y z u:Operand} {t:TypeId}
theorem sM (S:Stt P t Sr):aP P ⟨d,.build t #[],ty,pos,af,g⟩ ρ (.agg (a8 0 0 aj aj aj)):=
 aU (P:=P) (ρ:=ρ) (d:=d) (ty:=ty) (pos:=pos) (af:=af) (g:=g) (parts:=#[]) S [] (by simp) (λi v hm=>by simp at hm) (D:=Ip 0 0 aj aj aj) rfl
theorem sf {n m:Int} (S:Stt P t Sr) (hx:ρ x=.int .i64 n) (hy:ρ y=.int .i64 m):aP P ⟨d,.build t #[(0,x),(1,y)],ty,pos,af,g⟩ ρ (.agg (a8 n m aj aj aj)):=by
 have:=aU (P:=P) (ρ:=ρ) (d:=d) (ty:=ty) (pos:=pos) (af:=af) (g:=g) (parts:=#[(0,x),(1,y)]) S [(0,.int .i64 n),(1,.int .i64 m)] (by simp [hx,hy]) (λj u hm=>by
  simp only [YH,Zn,YK,or_false] at hm
  rcases hm with ⟨rfl,rfl⟩|⟨rfl,rfl⟩
  ·exact ⟨_,rfl,rfl⟩
  ·exact ⟨_,rfl,rfl⟩) (D:=Ip n m aj aj aj) rfl
 exact this
theorem vG {i:Id} {n:Int} (S:Stt P t UG) (hx:ρ x=.agg (aA i)) (hy:ρ y=.int .i64 n):aP P ⟨d,.build t #[(0,x),(1,y)],ty,pos,af,g⟩ ρ (.agg (cP (i,n))):=by
 have:=aU (P:=P) (ρ:=ρ) (d:=d) (ty:=ty) (pos:=pos) (af:=af) (g:=g) (parts:=#[(0,x),(1,y)]) S [(0,.agg (aA i)),(1,.int .i64 n)] (by simp [hx,hy]) (λj u hm=>by
  simp only [YH,Zn,YK,or_false] at hm
  rcases hm with ⟨rfl,rfl⟩|⟨rfl,rfl⟩
  ·exact ⟨_,rfl,by simp [Value.cells]⟩
  ·exact ⟨_,rfl,rfl⟩) (D:=Ds (i,n)) (by unfold Ds;rfl)
 exact this
theorem xl {i:Id} {n m:Int} (S:Stt P t UL) (hx:ρ x=.agg (aA i)) (hy:ρ y=.int .i64 n) (hz:ρ z=.int .i64 m):aP P ⟨d,.build t #[(0,x),(1,y),(2,z)],ty,pos,af,g⟩ ρ (.agg (c7 (i,n,m))):=by
 have:=aU (P:=P) (ρ:=ρ) (d:=d) (ty:=ty) (pos:=pos) (af:=af) (g:=g) (parts:=#[(0,x),(1,y),(2,z)]) S [(0,.agg (aA i)),(1,.int .i64 n),(2,.int .i64 m)] (by simp [hx,hy,hz]) (λj u hm=>by
  simp only [YH,Zn,YK,or_false] at hm
  rcases hm with ⟨rfl,rfl⟩|⟨rfl,rfl⟩|⟨rfl,rfl⟩
  ·exact ⟨_,rfl,by simp [Value.cells]⟩
  ·exact ⟨_,rfl,rfl⟩
  ·exact ⟨_,rfl,rfl⟩) (D:=Db (i,n,m)) (by unfold Db;rfl)
 exact this
theorem iw {n:Int} {m:Mg} {v:Value} (S:Stt P t US) (hx:ρ x=.int .i64 n) (hy:ρ y=.agg (cW m v)):aP P ⟨d,.build t #[(0,x),(1,y)],ty,pos,af,g⟩ ρ (.agg (bK n m v eg)):=by
 have:=aU (P:=P) (ρ:=ρ) (d:=d) (ty:=ty) (pos:=pos) (af:=af) (g:=g) (parts:=#[(0,x),(1,y)]) S [(0,.int .i64 n),(1,.agg (cW m v))] (by simp [hx,hy]) (λj u hm=>by
  simp only [YH,Zn,YK,or_false] at hm
  rcases hm with ⟨rfl,rfl⟩|⟨rfl,rfl⟩
  ·exact ⟨_,rfl,rfl⟩
  ·exact ⟨_,rfl,by show (cW m v).size=_;rw [dp];rfl⟩) (D:=LR n m v eg) (by
   show [Value.int .i64 n]++((cW m v).toList++(LA.flatten++[]))=_
   rw [Zj,← pg];rfl)
 exact this
theorem gl (S:Stt P t US):aP P ⟨d,.build t #[],ty,pos,af,g⟩ ρ (.agg (bK 0 mZ aj eg)):=by
 have:=aU (P:=P) (ρ:=ρ) (d:=d) (ty:=ty) (pos:=pos) (af:=af) (g:=g) (parts:=#[]) S [] (by simp) (λj u hm=>by simp at hm) (D:=LR 0 mZ aj eg) (by
  show [Value.int .i64 0]++(P4.flatten++(LA.flatten++[]))=_
  rw [Zj,← pg,← BR];rfl)
 exact this
end
section
variable (n g:Int) (a b c u:Value) (e:Int)
end
section
variable {P:Program} {ρ:Operand->Value} {d:Option Tmp} {ty:TypeId} {pos:String} {af:Array Edge} {g:Option (Nat × Bool)} {x y z:Operand} {t:TypeId}
end
theorem fm {p:Nat->Prop} {k:Nat} (h:∀ j,j<k->p j) (hk:p k):∀ j,j<k+1->p j:=λj hj=>by
 rcases YP j k with g|g
 ·exact h j g
 ·obtain rfl:j=k:=by omega
  exact hk
theorem Hy (h:Ho) (x:Id):(mt h x = -1/\∀ y∈h.hs,y.1≠x)∨∃ k,k<h.hs.length/\mt h x=(k:Int)/\(h.hs.getD k eV).1=x/\∀ j,j<k->(h.hs.getD j eV).1≠x:=by
 rcases mJ (hk h.hs) x with ⟨h1,h2⟩|⟨k,h1,h2,h3,h4⟩
 ·exact .inl ⟨h1,λy hy=>h2 _ (List.mem_map_of_mem hy)⟩
 ·rw [mI] at h1;rw [nD] at h3
  exact .inr ⟨k,h1,h2,h3,λj hj=>by have:=h4 j hj;rwa [nD] at this⟩
theorem gv {h:Ho} {x:Id} (e:decide (0<=mt h x)=true):mt h x=((mt h x).toNat:Int)/\(mt h x).toNat<h.hs.length:=by
 have e:=Yq e
 rcases Hy h x with ⟨h1,_⟩|⟨k,h1,h2,_⟩
 ·omega
 ·rw [h2];exact ⟨rfl,h1⟩
theorem RL {l:List Wn} {k:Nat} (h:eN (l.getD k dR).2 1 1048576=false):CT l k=false:=by unfold CT;rw [h];rfl
theorem Md {l:List Wn} {k:Nat} (h:eN (l.getD k dR).2 1 1048576=true) {b:Bool} (h2:decide (jY (wk l) (l.getD k dR).1=(k:Int))=b):CT l k=b:=by unfold CT;rw [h,h2];rfl
theorem TR {h:Ho} {x:Id} {now:Int} (h0:decide (0<=mt h x)=true) (h1:decide (now<(h.hs.getD (mt h x).toNat eV).2.2)=true):kA h x now=(h.hs.getD (mt h x).toNat eV).2.1:=by unfold kA;rw [h0,h1];rfl
theorem NL {h:Ho} {x:Id} {now:Int} (h0:decide (0<=mt h x)=false):kA h x now=h.gt:=by unfold kA;rw [h0];rfl
theorem ON {h:Ho} {x:Id} {now:Int} (h1:decide (now<(h.hs.getD (mt h x).toNat eV).2.2)=false):kA h x now=h.gt:=by unfold kA;rw [h1,Bool.and_false];rfl
theorem tV {l:List Wn} {d:Nat} (hd:d<l.length):l.take (d+1)=l.take d++[l.getD d dR]:=by rw [List.take_succ_eq_append_getElem hd,UX hd]
theorem AH {l:List Hn} {d:Nat} (hd:d<l.length):l.take (d+1)=l.take d++[l.getD d eV]:=by rw [List.take_succ_eq_append_getElem hd,UF hd]
theorem Fo (l:List Hn) (x:Id):(uO l x).length<=l.length:=Y7 _ _
theorem Lg (w:World):zZ w aj []:=⟨⟨rfl,.inl ⟨rfl,rfl⟩⟩,Ae w⟩
section
variable {w w':World} {vw vh vi vs:Value} {h:Ho} {l:List cO} {H:Hq} {N:TypeId}
end
section
variable {h:Ho} {fr:Int} {m:Mg} {now:Int}
theorem OK (e:xk h fr m now=false):ip h fr m now=f8 1:=by unfold ip;rw [e];rfl
theorem Uw (e:xk h fr m now=true):ip h fr m now=lV h fr m now:=by unfold ip;rw [e];rfl
theorem Vu (e:decide (m.k=1)=true):lV h fr m now=nf h m:=by unfold lV;rw [e];rfl
theorem U4 (e1:decide (m.k=1)=false) (e:decide (m.k=3)=true):lV h fr m now=vV h fr m:=by unfold lV;rw [e1,e];rfl
theorem WG (e1:decide (m.k=1)=false) (e3:decide (m.k=3)=false) (e:decide (m.k=5)=true):lV h fr m now=BZ h m:=by unfold lV;rw [e1,e3,e];rfl
theorem Vy (e1:decide (m.k=1)=false) (e3:decide (m.k=3)=false) (e5:decide (m.k=5)=false) (e:decide (m.k=7)=true):lV h fr m now=⟨Le h m.i,[],0⟩:=by unfold lV;rw [e1,e3,e5,e];rfl
theorem VK (e1:decide (m.k=1)=false) (e3:decide (m.k=3)=false) (e5:decide (m.k=5)=false) (e7:decide (m.k=7)=false) (e:decide (m.k=8)=true):lV h fr m now=C8 h m now:=by unfold lV;rw [e1,e3,e5,e7,e];rfl
theorem Vc (e1:decide (m.k=1)=false) (e3:decide (m.k=3)=false) (e5:decide (m.k=5)=false) (e7:decide (m.k=7)=false) (e:decide (m.k=8)=false):lV h fr m now=f8 1:=by unfold lV;rw [e1,e3,e5,e7,e];rfl
theorem VH (e:decide (m.l.getD 0 (0,0#256,0)=gh h)=false):nf h m=f8 1:=by unfold nf;rw [e];rfl
theorem Vk (e:decide (m.l.getD 0 (0,0#256,0)=gh h)=true) (e2:decide (h.bx.length=32)=true):nf h m=f8 8:=by unfold nf;rw [e,e2];rfl
theorem Va (e:decide (m.l.getD 0 (0,0#256,0)=gh h)=true) (e2:decide (h.bx.length=32)=false):nf h m=⟨⟨h.no,h.gt,h.ws,h.hs,h.bx++[m.d]⟩,[],0⟩:=by unfold nf;rw [e,e2];rfl
theorem Vq (e:decide (m.t=gh h)=false):vV h fr m=f8 1:=by unfold vV;rw [e];rfl
theorem V1 (e:decide (m.t=gh h)=true) (e2:decide (yU h m.i<0)=true):vV h fr m=f8 6:=by unfold vV;rw [e,e2];rfl
theorem WS (e:decide (m.t=gh h)=true) (e2:decide (yU h m.i<0)=false):vV h fr m=⟨h,[(fr,Qc h m,eg)],0⟩:=by unfold vV;rw [e,e2];rfl
theorem Wt (e2:decide (yU h m.i<0)=true):BZ h m=f8 6:=by unfold BZ;rw [e2];rfl
theorem Wb (e2:decide (yU h m.i<0)=false):BZ h m=⟨h,[],0⟩:=by unfold BZ;rw [e2];rfl
theorem VE (e:decide (15<m.n)=true):C8 h m now=f8 1:=by unfold C8;rw [e];rfl
theorem VP (e:decide (15<m.n)=false):C8 h m now=⟨⟨h.no,h.gt,h.ws,KN h.hs m.i m.n now,h.bx⟩,[],0⟩:=by unfold C8;rw [e];rfl
end
theorem Oi (l:List Hn) (j:Nat) (hj:j<l.length):(cm l)[j*34+32]? = some (.int .i64 (l.getD j eV).2.1):=by
 have h:=Yu (λa:Array Value=>a[32]?) (vv l j hj)
 simp only [qp,YT] at h
 rw [← h,Zw (by decide),Zx]
theorem Dw (l:List Hn) (j:Nat) (hj:j<l.length):(cm l)[j*34+33]? = some (.int .i64 (l.getD j eV).2.2):=by
 have h:=Yu (λa:Array Value=>a[33]?) (vv l j hj)
 simp only [jE,YT] at h
 rw [← h,Zw (by decide),Zx]
def nS (h:Ho) (now:Int) (k:Nat):List S2:=(h.ws.take k).map λx=>(mf h now x,aj)
theorem KW {h:Ho} {now:Int} {k:Nat} (hk:k<=h.ws.length):(nS h now k).length=k:=by unfold nS;rw [Y6,Y5];omega
theorem L5 {h:Ho} {now:Int} {k:Nat} (hk:k<h.ws.length):nS h now (k+1)=nS h now k++[(mf h now (h.ws.getD k dR),aj)]:=by
 unfold nS
 rw [tV hk,ZD];rfl
theorem Je {h:Ho} {now:Int}:iq (nS h now h.ws.length)=iu h now:=by
 unfold nS iq iu
 rw [List.take_length,List.map_map];rfl
theorem Po (h:Ho) (now:Int) (k:Nat) (w:World):My (nS h now k) w:=λx hx=>by
 obtain ⟨y,_,rfl⟩:=Ze.1 hx
 exact bU w
def mF (n g:Int):Int:=bif eN n 0 15 && eN g 0 15 then 0 else 1
def fE (n g:Int):Ho:=bif eN n 0 15 && eN g 0 15 then ⟨n,g,[],[],[]⟩ else n5
def PQ (h:Ho) (x:Id) (l:Int):Int:=bif bT h && eN l 1 1048576 then (bif decide (0<=yU h x) then 7 else bif decide (h.ws.length=8) then 8 else 0) else 1
def WR (h:Ho) (x:Id) (l:Int):Ho:=⟨h.no,h.gt,h.ws++[(x,l)],h.hs,h.bx⟩
def WA (h:Ho) (x:Id) (l:Int):Ho:=bif decide (PQ h x l=0) then WR h x l else n5
def Oc (h:Ho) (x:Id):Int:=bif bT h then (bif decide (yU h x<0) then 6 else 0) else 1
def WC (h:Ho) (x:Id):Ho:=⟨h.no,h.gt,h.ws.take (yU h x).toNat++h.ws.drop ((yU h x).toNat+1),h.hs,h.bx⟩
def Vf (h:Ho) (x:Id):Ho:=bif decide (Oc h x=0) then WC h x else n5
def uU (h:Ho) (now:Int):Int:=bif bT h && eN now 0 1099511627776 then 0 else 1
def eB (h:Ho) (now:Int):List Se:=bif bT h && eN now 0 1099511627776 then iu h now else []
def ji (h:Ho) (l:List cO) (d:ByteArray) (now:Int):Int:=bif bT h && (eN now 0 1099511627776 && cZ l) then (bif decide (d.size<=64) then 0 else 2) else 1
def bV (h:Ho) (l:List cO) (d:ByteArray) (now:Int):Se:=bif decide (ji h l d now=0) then jS h l d now else Du
def VL (w:World) (vw vh vi:Value) (h H:Ho) (E:Int):c8:=λv w'=>∃ uw uh ui ks,v=.tuple #[.agg (a8 H.no H.gt uw uh ui),.int .i64 E]/\St w [.grp ks λw9=>gn w9 vw vh vi h->gn w9 uw uh ui H] w'
def Wj (w:World) (vw vh vi:Value) (h:Ho) (L:List Se) (E:Int):c8:=λv w'=>∃ ul K ks,v=.tuple #[ul,.int .i64 E]/\iq K=L/\St w [.grp ks λw9=>gn w9 vw vh vi h->zZ w9 ul K] w'
def WF (w:World) (vl:Value) (l:List cO) (x:Se) (E:Int):c8:=λv w'=>∃ us ks,v=.tuple #[.agg (bK x.1 x.2.1 us x.2.2),.int .i64 E]/\St w [.grp ks λw9=>ez w9 vl l->ez w9 us x.2.1.l] w'
def SB (s:ByteArray):ByteArray:=s.extract 0 (min s.size 70)
def Xr (h:Ho):List ByteArray:=h.bx.take (min h.bx.length 34)
def XP (l:List ByteArray) (k:Nat):List ByteArray:=(l.take k).map SB
def Nn:Ho->List ByteArray:=λh=>XP (Xr h) (Xr h).length
def B9 (h:Ho):Prop:=h.ws.length<=1000/\h.hs.length<=1000/\h.bx.length<=1000
theorem SS (w:World):gn w aj aj aj n5:=iM w 0 0
theorem OW {n g:Int} (h:(eN n 0 15 && eN g 0 15)=false):mF n g=1/\fE n g=n5:=by unfold mF fE;rw [h];exact ⟨rfl,rfl⟩
theorem TL {n g:Int} (h:(eN n 0 15 && eN g 0 15)=true):mF n g=0/\fE n g=⟨n,g,[],[],[]⟩:=by unfold mF fE;rw [h];exact ⟨rfl,rfl⟩
theorem D2 {h:Ho} {now:Int} (hb:¬ (bT h=true/\0<=now/\now<=1099511627776)):uU h now=1/\eB h now=[]:=by
 have e:(bT h && eN now 0 1099511627776)=false:=by
  cases g:(bT h && eN now 0 1099511627776) with
  |false=>rfl
  |true=>rw [Yw,dJ] at g;exact ZF g hb
 unfold uU eB;rw [e];exact ⟨rfl,rfl⟩
theorem L6 {h:Ho} {now:Int} (hb:bT h=true/\0<=now/\now<=1099511627776):uU h now=0/\eB h now=iu h now:=by
 have e:(bT h && eN now 0 1099511627776)=true:=by rw [Yw,dJ];exact hb
 unfold uU eB;rw [e];exact ⟨rfl,rfl⟩
theorem JZ {h:Ho} {l:List cO} {d:ByteArray} {now:Int} (hb:¬ (bT h=true/\(0<=now/\now<=1099511627776)/\cZ l=true)):ji h l d now=1/\bV h l d now=Du:=by
 have e:(bT h && (eN now 0 1099511627776 && cZ l))=false:=by
  cases g:(bT h && (eN now 0 1099511627776 && cZ l)) with
  |false=>rfl
  |true=>rw [Yw,Yw,dJ] at g;exact ZF g hb
 have e1:ji h l d now=1:=by unfold ji;rw [e];rfl
 refine ⟨e1,?_⟩
 unfold bV;rw [e1];rfl
theorem SA {h:Ho} {l:List cO} {d:ByteArray} {now:Int} (hb:bT h=true/\(0<=now/\now<=1099511627776)/\cZ l=true) (hd:¬ d.size<=64):ji h l d now=2/\bV h l d now=Du:=by
 have e:(bT h && (eN now 0 1099511627776 && cZ l))=true:=by rw [Yw,Yw,dJ];exact hb
 have e1:ji h l d now=2:=by unfold ji;rw [e,Ys hd];rfl
 refine ⟨e1,?_⟩
 unfold bV;rw [e1];rfl
theorem Te {h:Ho} {l:List cO} {d:ByteArray} {now:Int} (hb:bT h=true/\(0<=now/\now<=1099511627776)/\cZ l=true) (hd:d.size<=64):ji h l d now=0/\bV h l d now=jS h l d now:=by
 have e:(bT h && (eN now 0 1099511627776 && cZ l))=true:=by rw [Yw,Yw,dJ];exact hb
 have e1:ji h l d now=0:=by unfold ji;rw [e,Yt hd];rfl
 refine ⟨e1,?_⟩
 unfold bV;rw [e1];rfl
section
variable {h:Ho} {fr:Int} {m:Mg} {now:Int}
theorem IZ:xk h fr m now=true↔bT h=true/\(0<=now/\now<=1099511627776)/\(0<=fr/\fr<=31)/\cR m=true:=by
 unfold xk
 rw [Yw,Yw,Yw,dJ,dJ]
inductive HqC (h:Ho) (fr:Int) (m:Mg) (now:Int) (H:Hq):Prop where
 |data (k:m.k=1) (q:m.l.getD 0 (0,0#256,0)=gh h) (b:h.bx.length≠32) (e:H=⟨⟨h.no,h.gt,h.ws,h.hs,h.bx++[m.d]⟩,[],0⟩)
 |ask (k:m.k=3) (q:m.t=gh h) (b:¬ yU h m.i<0) (e:H=⟨h,[(fr,Qc h m,eg)],0⟩)
 |ack (k:m.k=5) (b:¬ yU h m.i<0) (e:H=⟨h,[],0⟩)
 |push (k:m.k=7) (e:H=⟨Le h m.i,[],0⟩)
 |cache (k:m.k=8) (b:m.n<=15) (e:H=⟨⟨h.no,h.gt,h.ws,KN h.hs m.i m.n now,h.bx⟩,[],0⟩)
theorem Ou (h:Ho) (fr:Int) (m:Mg) (now:Int):(xk h fr m now=true/\HqC h fr m now (ip h fr m now))∨∃ e,e≠0/\ip h fr m now=f8 e:=by
 cases hb:xk h fr m now with
 |false=>exact .inr ⟨1,by decide,OK hb⟩
 |true=>
  rw [Uw hb]
  cases k1:decide (m.k=1) with
  |true=>
   rw [Vu k1]
   cases q:decide (m.l.getD 0 (0,0#256,0)=gh h) with
   |false=>exact .inr ⟨1,by decide,VH q⟩
   |true=>
    cases b:decide (h.bx.length=32) with
    |true=>exact .inr ⟨8,by decide,Vk q b⟩
    |false=>exact .inl ⟨rfl,.data (Yq k1) (Yq q) (Yr b) (Va q b)⟩
  |false=>
  cases k3:decide (m.k=3) with
  |true=>
   rw [U4 k1 k3]
   cases q:decide (m.t=gh h) with
   |false=>exact .inr ⟨1,by decide,Vq q⟩
   |true=>
    cases b:decide (yU h m.i<0) with
    |true=>exact .inr ⟨6,by decide,V1 q b⟩
    |false=>exact .inl ⟨rfl,.ask (Yq k3) (Yq q) (Yr b) (WS q b)⟩
  |false=>
  cases k5:decide (m.k=5) with
  |true=>
   rw [WG k1 k3 k5]
   cases b:decide (yU h m.i<0) with
   |true=>exact .inr ⟨6,by decide,Wt b⟩
   |false=>exact .inl ⟨rfl,.ack (Yq k5) (Yr b) (Wb b)⟩
  |false=>
  cases k7:decide (m.k=7) with
  |true=>
   rw [Vy k1 k3 k5 k7]
   exact .inl ⟨rfl,.push (Yq k7) rfl⟩
  |false=>
  cases k8:decide (m.k=8) with
  |true=>
   rw [VK k1 k3 k5 k7 k8]
   cases b:decide (15<m.n) with
   |true=>exact .inr ⟨1,by decide,VE b⟩
   |false=>exact .inl ⟨rfl,.cache (Yq k8) (by have:=Yr b;omega) (VP b)⟩
  |false=>
   rw [Vc k1 k3 k5 k7 k8]
   exact .inr ⟨1,by decide,rfl⟩
theorem LI (e:(ip h fr m now).e=0):xk h fr m now=true/\HqC h fr m now (ip h fr m now):=by
 rcases Ou h fr m now with g|⟨e',he,g⟩
 ·exact g
 ·rw [g] at e;exact ZF e he
end
theorem uz {l:List Hn} {x:Id} {y:Hn} (h:y∈uO l x):y∈l/\y.1≠x:=by
 have:=YZ.1 h
 refine ⟨this.1,λe=>?_⟩
 have h2:=this.2
 rw [Yt e] at h2
 cases h2
theorem Ff {l:List Hn} (x:Id) (h:(hk l).Nodup):(hk (uO l x)).Nodup:=h.sublist (List.Sublist.map _ List.filter_sublist)
theorem sF (l:List Hn):(wq l).Sublist l:=by
 unfold wq
 split
 ·exact List.Sublist.refl _
 ·exact List.drop_sublist _ _
theorem TY {l:List Hn} (h:l.length<=8):(wq l).length<=7:=by
 unfold wq
 split
 ·omega
 ·rw [YX];omega
theorem PO {now:Int} (h:0<=now):0<=yO now/\yO now<=1099511627776:=by unfold yO;split<;>omega
theorem Qi {h:Ho} (R:RH h) (x:Id):RH (Le h x):=
 ⟨R.ws,R.wn,λy hy=>R.hs y (uz hy).1,Ff x R.hn,R.bx,R.no,R.gt,R.wl,Zk (Fo _ _) R.hl,R.bl⟩
theorem N5 {h:Ho} (R:RH h) {x:Id} {n now:Int} (h0:0<=n) (h1:n<=15) (hn:0<=now):RH ⟨h.no,h.gt,h.ws,KN h.hs x n now,h.bx⟩:=by
 refine ⟨R.ws,R.wn,λy hy=>?_,?_,R.bx,R.no,R.gt,R.wl,?_,R.bl⟩
 ·have hy:y∈wq (uO h.hs x)++[(x,n,yO now)]:=hy
  rcases Y4.1 hy with hy|hy
  ·exact R.hs y (uz ((sF _).mem hy)).1
  ·rw [YF.1 hy]
   exact ⟨⟨h0,h1⟩,PO hn⟩
 ·show (hk (wq (uO h.hs x)++[(x,n,yO now)])).Nodup
  unfold hk
  rw [ZD,List.nodup_append]
  refine ⟨(Ff x R.hn).sublist (List.Sublist.map _ (sF _)),by simp,λa ha b hb=>?_⟩
  obtain ⟨y,hy,rfl⟩:=Ze.1 ha
  have hb:b=x:=by simpa using hb
  subst hb
  exact(uz ((sF _).mem hy)).2
 ·show (wq (uO h.hs x)++[(x,n,yO now)]).length<=8
  rw [Yy]
  have:=TY (l:=uO h.hs x) (Zk (Fo _ _) R.hl)
  simp;omega
theorem E8 {m:Mg} (h:cR m=true) (hk:m.k=8):0<=m.n:=by
 obtain ⟨_,_,_,_,h4,_⟩:=gV h
 unfold c4 at h4
 rw [hk] at h4
 simp [jg] at h4
 exact h4.1
section
variable {h:Ho} {fr:Int} {m:Mg} {now:Int}
theorem G1 (e:(ip h fr m now).e=0):bT (ip h fr m now).h=true/\(ip h fr m now).h.no=h.no/\(ip h fr m now).h.gt=h.gt/\(ip h fr m now).h.ws.length=h.ws.length:=by
 obtain ⟨hb,g⟩:=LI e
 obtain ⟨hr,hn,_,hm⟩:=IZ.1 hb
 have R:=gb.1 hr
 cases g with
 |data k q b g=>
  rw [g]
  have hp:=iO.1 (Fq hm k)
  refine ⟨gb.2 ⟨R.ws,R.wn,R.hs,R.hn,λs hs=>?_,R.no,R.gt,R.wl,R.hl,?_⟩,rfl,rfl,rfl⟩
  ·rcases Y4.1 hs with hs|hs
   ·exact R.bx s hs
   ·rw [YF.1 hs];exact hp.2.2.2
  ·show (h.bx++[m.d]).length<=32
   have:=R.bl
   rw [Yy];simp;omega
 |ask _ _ _ g=>rw [g];exact ⟨hr,rfl,rfl,rfl⟩
 |ack _ _ g=>rw [g];exact ⟨hr,rfl,rfl,rfl⟩
 |push _ g=>rw [g];exact ⟨gb.2 (Qi R _),rfl,rfl,rfl⟩
 |cache k b g=>rw [g];exact ⟨gb.2 (N5 R (E8 hm k) b hn.1),rfl,rfl,rfl⟩
end
section
variable {h:Ho} {x:Id} {n now:Int}
end
section
variable {h:Ho} {x:Id} {now:Int}
end
end Go.Proofs.YtkhepdpfdhdlaaaGreatDoor
namespace Go.Proofs.YtkhepdpfdhdlaaaGreatDoor
open Go.RowKit Go.ChangeShapes Go.WideShapes Go.ChangeAt
theorem F6 {H:Type} {enc:TypeId × Value->H} {P:Program} {w:World} {base:Nat} {spare:Nat->Bool} {held:Bool} {t tn ti e:TypeId} {g0 g1:Field} {fuel:Nat} {cs:List Value} {x:DataW H × List MemPlace} (T:IdTy P ti e) (hc:P.cellsOf ti=32) (hce:P.cellsOf e=1) (hn:P.underlying tn=some (.int .i64)) (hcn:P.cellsOf tn=1)
 (ht:P.underlying t=some (.struct #[g0,g1])) (k0:g0.type=ti) (k1:g1.type=tn) (p0:g0.offset=0) (p1:g1.offset=32) (hct:P.cellsOf t=33)
 (h:DataW.trod enc P w base spare held fuel t cs=some x):∃ l:Wn,cs=(cP l).toList:=by
 obtain ⟨xs,n,rfl,_,hl,hxl,hel⟩:=DataW.trod_struct ht h
 rw [hct] at hl
 have hx2:xs.length=2:=by simpa using hxl
 have e0:=hel 0 g0 rfl
 have e1:=hel 1 g1 rfl
 rw [k0,p0,hc,Yz (by omega)] at e0
 rw [k1,p1,hcn,Yz (by omega)] at e1
 obtain ⟨a,ha⟩:=jr T hc hce e0
 obtain ⟨u,hu,_⟩:=DataW.trod_int hn e1
 refine ⟨(a,u),?_⟩
 show cs=(aA a).toList++[.int .i64 u]
 rw [← ha,← hu,List.drop_zero]
 have s1:(cs.drop 32).take 1=cs.drop 32:=YU (by rw [YX];omega)
 rw [s1,YS]
theorem Gn {H:Type} {enc:TypeId × Value->H} {P:Program} {w:World} {base:Nat} {spare:Nat->Bool} {held:Bool} {t tn ti e:TypeId} {g0 g1 g2:Field} {fuel:Nat} {cs:List Value} {x:DataW H × List MemPlace} (T:IdTy P ti e) (hc:P.cellsOf ti=32) (hce:P.cellsOf e=1) (hn:P.underlying tn=some (.int .i64)) (hcn:P.cellsOf tn=1)
 (ht:P.underlying t=some (.struct #[g0,g1,g2])) (k0:g0.type=ti) (k1:g1.type=tn) (k2:g2.type=tn) (p0:g0.offset=0) (p1:g1.offset=32) (p2:g2.offset=33) (hct:P.cellsOf t=34)
 (h:DataW.trod enc P w base spare held fuel t cs=some x):∃ l:Hn,cs=(c7 l).toList:=by
 obtain ⟨xs,n,rfl,_,hl,hxl,hel⟩:=DataW.trod_struct ht h
 rw [hct] at hl
 have hx2:xs.length=3:=by simpa using hxl
 have e0:=hel 0 g0 rfl
 have e1:=hel 1 g1 rfl
 have e2:=hel 2 g2 rfl
 rw [k0,p0,hc,Yz (by omega)] at e0
 rw [k1,p1,hcn,Yz (by omega)] at e1
 rw [k2,p2,hcn,Yz (by omega)] at e2
 obtain ⟨a,ha⟩:=jr T hc hce e0
 obtain ⟨u,hu,_⟩:=DataW.trod_int hn e1
 obtain ⟨q,hq,_⟩:=DataW.trod_int hn e2
 refine ⟨(a,u,q),?_⟩
 show cs=(aA a).toList++([.int .i64 u]++[.int .i64 q])
 rw [← ha,← hu,← hq,List.drop_zero]
 have s1:(cs.drop 33).take 1=cs.drop 33:=YU (by rw [YX];omega)
 have s2:(cs.drop 32).take 1++cs.drop 33=cs.drop 32:=by
  have:=YS 1 (cs.drop 32)
  rw [List.drop_drop] at this
  exact this
 rw [s1,s2,YS]
theorem Ft {H:Type} {enc:TypeId × Value->H} {P:Program} {w:World} {base:Nat} {spare:Nat->Bool} {held:Bool} {t:TypeId} {fuel:Nat} {cs:List Value} {x:DataW H × List MemPlace} (hz:P.underlying t=some .string)
 (h:DataW.trod enc P w base spare held fuel t cs=some x):∃ l:ByteArray,cs=(#[Value.string l]:Array Value).toList:=by
 obtain ⟨d9,hd9,_⟩:=DataW.trod_string hz h
 exact ⟨d9,by simpa [Value.cells] using hd9⟩
theorem JY (ls:List ByteArray):(ls.flatMap λa=>(#[Value.string a]:Array Value).toList)=rQ ls:=by
 unfold rQ
 induction ls with
 |nil=>rfl
 |cons a l ih=>rw [List.flatMap_cons,List.map_cons,ih];rfl
def Ja (P:Program) (T:TypeId) (rv:Value) (nm:String) (f:FuncId) (ru:Value):Prop:=∀ w,(method (P.types.size+Made.depth) T rv nm).run P w=.ok (f,ru) w
theorem zS {P:Program} {ρ:Operand->Value} {dst:Option Tmp} {g:Option (Nat × Bool)} {ty:TypeId} {pos:String} {af:Array Edge} {f:FuncId} {T:TypeId} {rv ru:Value} {nm:String} {cal:Operand} {tys:Array TypeId} {w:World} (hf:Fnc P f)
 (hm:Ja P T rv nm f ru) (hc:ρ cal=.iface T rv) {R:Value->World->Prop} (hC:Calls P f #[ru] w λe w'=>∃ v,e=.returned v/\R v w'):cN P ⟨dst,.call {callee:=.invoke cal nm,args:=#[],argTypes:=tys},ty,pos,af,g⟩ ρ w R:=by
 obtain ⟨fn,h1,h2,h3⟩:=hf.has
 unfold cN
 have hm':=hm w
 simp only [execOp,resolve,hc,Zc,Zd,YA,invoke,callMethod]
 have e0:(#[Value.iface T rv]++Array.map ρ #[])[0]? = some (Value.iface T rv):=by simp
 rw [e0]
 simp only [callMethod,Zc,show ∀ w,Sem.run P program w=.ok P w from λ_=>rfl,YA,hm']
 have e1:#[ru]++(#[Value.iface T rv]++Array.map ρ #[]).extract 1=#[ru]:=by simp
 rw [e1]
 rw [eC h1 h2 h3]
 exact hC
section
variable {P:Program} {ops:Array Oper} {Q:Act->World->Prop} {l:List Oper} {a:Act} {w w0:World} {N:Nat} {L:List (Nat × Value)} {Df:List Deferred} {B:List Own} {d:Tmp} {ty:TypeId} {pos:String} {af:Array Edge}
end
section
variable {P:Program} {ops:List Oper} {K:Act->World->Prop} {l:List Oper} {a:Act} {w:World} {N:Nat} {L:List (Nat × Value)} {Df:List Deferred} {d:Tmp} {ty:TypeId} {pos:String} {af:Array Edge}
theorem j4 {f:FuncId} {T9:TypeId} {rv ru X:Value} {nm:String} {cal:Operand} {tys:Array TypeId} (h:Sl N a L Df) (hf:Fnc P f) (hm:Ja P T9 rv nm f ru) (hc:dO L cal=some (.iface T9 rv))
 (hC:∀ w',Ext w w'->Calls P f #[ru] w' (bW w' (is X))) (hd:Nat.blt d N=true) (k:∀ a',Sl N a' ((d,X)::L) Df->gd P ops.toArray K w l a'):
 gd P ops.toArray K w (⟨some d,.call {callee:=.invoke cal nm,args:=#[],argTypes:=tys},ty,pos,af,none⟩::l) a:=
 iy X h (λw' hE=>zS hf hm (h.ev hc) (hC w' hE)) hd k
variable {ρ:Operand->Value} {e:Option Tmp} {g:Option (Nat × Bool)} {x:Operand} {t:TypeId}
def Xu:List (List Value):=[(aA 0#256).toList]
theorem ng {i:Id} (S:Stt P t Xu) (hx:ρ x=.agg (aA i)):aP P ⟨e,.build t #[(0,x)],ty,pos,af,g⟩ ρ (.agg (aA i)):=by
 have:=aU (P:=P) (ρ:=ρ) (d:=e) (ty:=ty) (pos:=pos) (af:=af) (g:=g) (parts:=#[(0,x)]) S [(0,.agg (aA i))] (by simp [hx]) (λj u hm=>by
  simp only [YH,Zn,YK,or_false] at hm
  rcases hm with ⟨rfl,rfl⟩
  exact ⟨_,rfl,by simp [Value.cells]⟩) (D:=(aA i).toList) (by show (aA i).toList++[]=_;rw [Zj])
 exact this
theorem sC {y z:Operand} {n m:Int} {v:Value} (S:Stt P t Sr) (hv:v.cells.size=1) (hc:v.cells.toList=[v]) (hx:ρ x=.int .i64 n) (hy:ρ y=.int .i64 m) (hz:ρ z=v):aP P ⟨e,.build t #[(0,x),(1,y),(4,z)],ty,pos,af,g⟩ ρ (.agg (a8 n m aj aj v)):=by
 have:=aU (P:=P) (ρ:=ρ) (d:=e) (ty:=ty) (pos:=pos) (af:=af) (g:=g) (parts:=#[(0,x),(1,y),(4,z)]) S [(0,.int .i64 n),(1,.int .i64 m),(4,v)] (by simp [hx,hy,hz]) (λj u hm=>by
  simp only [YH,Zn,YK,or_false] at hm
  rcases hm with ⟨rfl,rfl⟩|⟨rfl,rfl⟩|⟨rfl,rfl⟩
  ·exact ⟨_,rfl,rfl⟩
  ·exact ⟨_,rfl,rfl⟩
  ·exact ⟨_,rfl,hv⟩) (D:=Ip n m aj aj v) (by
   show [Value.int .i64 n]++([Value.int .i64 m]++([aj]++([aj]++(v.cells.toList++[]))))=_
   rw [hc];rfl)
 exact this
end
section
variable {fn:Func} {P:Program} {a:Act} {w:World} {N:Nat} {L:List (Nat × Value)} {R:Ending->World->Prop}
theorem AP {t u:Tmp} {V U:Value} (hr:fn.results=#[.tmp t,.tmp u]) (h:Sl N a L) (hv:lk L t=some V) (hu:lk L u=some U) (hR:R (.returned (.tuple #[V,U])) w):bodyPost P fn R .ret a w:=
 ⟨h.defers,.tuple #[V,U],by rw [results_tmp2 hr,h.holds t V hv,h.holds u U hu],hR⟩
end
section
variable {α:Type} (z:α) (q:α->Bool) (l:List α)
variable {q l}
variable (q l)
variable {q l}
variable {f:α->List Value} {sz:Nat}
end
theorem fO {α:Type} {C:List α->List Value} {l:List α} {w:World} {a:Option Addr} {n c sz:Nat} (ha:a.isNone=true) (h:bp w (.slice a n c) sz l.length (C l)):l=[]:=by
 rcases h.2 with ⟨_,e2⟩|⟨p,c9,e,_⟩
 ·exact List.eq_nil_of_length_eq_zero e2
 ·injection e with e1;subst e1;cases ha
theorem y7 (x:Id):(aA x).extract 0 (0+32)=aA x:=by
 apply Array.ext'
 rw [Array.toList_extract,List.extract_eq_take_drop]
 show (List.drop 0 (aA x).toList).take 32=_
 rw [List.drop_zero,YU (by rw [YD,aF];exact YM _)]
theorem Sj {l:List Wn} {x:Id} {r:Int} (hr:(r = -1/\∀ y∈l,decide (y.1=x)=false)∨∃ k:Nat,k<l.length/\r=(k:Int)/\decide ((l.getD k dR).1=x)=true/\∀ i,i<k->decide ((l.getD i dR).1=x)=false):r=jY (wk l) x:=by
 rcases hr with ⟨rfl,h⟩|⟨k,hk,rfl,h,hb⟩
 ·exact(DQ λj hj=>by rw [rC];rw [oL] at hj;exact Yr (h _ (z8 hj))).symm
 ·exact(uy (by rw [oL];exact hk) (by rw [rC];exact Yq h) λj hj=>by rw [rC];exact Yr (hb j hj)).symm
theorem SF {l:List Hn} {x:Id} {r:Int} (hr:(r = -1/\∀ y∈l,decide (y.1=x)=false)∨∃ k:Nat,k<l.length/\r=(k:Int)/\decide ((l.getD k eV).1=x)=true/\∀ i,i<k->decide ((l.getD i eV).1=x)=false):r=jY (hk l) x:=by
 rcases hr with ⟨rfl,h⟩|⟨k,hk',rfl,h,hb⟩
 ·exact(DQ λj hj=>by rw [nD];rw [mI] at hj;exact Yr (h _ (sn hj))).symm
 ·exact(uy (by rw [mI];exact hk') (by rw [nD];exact Yq h) λj hj=>by rw [nD];exact Yr (hb j hj)).symm
theorem Am {l:List Id} {k:Nat} (hk:k<l.length):decide (0<=jY (l.take k) (l.getD k 0#256)) = !decide (jY l (l.getD k 0#256)=(k:Int)):=by
 have key:jY (l.take k) (l.getD k 0#256)<0↔jY l (l.getD k 0#256)=(k:Int):=by
  rw [K0]
  constructor
  ·intro h
   refine uy hk rfl λj hj=>h _ ?_
   have hj2:j<(l.take k).length:=by rw [Y5];omega
   rw [← Dv (by omega),← List.getElem_take (h:=hj2)]
   exact Zq hj2
  ·intro h y hy
   obtain ⟨j,hj,rfl⟩:=List.mem_iff_getElem.1 hy
   rw [Y5] at hj
   rw [List.getElem_take,Dv (by omega)]
   rcases mJ l (l.getD k 0#256) with ⟨h1,_⟩|⟨k2,h1,h2,_,h4⟩
   ·omega
   ·exact h4 j (by omega)
 rw [← decide_not]
 exact YE.2 ⟨λh e=>by have:=key.2 e;omega,λh=>by
  rcases Int.lt_or_le (jY (l.take k) (l.getD k 0#256)) 0 with g|g
  ·exact ZF (key.1 g) h
  ·exact g⟩
theorem ML {l:List Wn} {k:Nat} (h9:k<l.length):decide (0<=jY (wk (l.take k)) (l.getD k dR).1) = !decide (jY (wk l) (l.getD k dR).1=(k:Int)):=by
 have:=Am (l:=wk l) (k:=k) (by rw [oL];exact h9)
 rw [rC] at this
 rw [show wk (l.take k)=(wk l).take k from List.map_take ..]
 exact this
theorem L3 {l:List Hn} {k:Nat} (h9:k<l.length):decide (0<=jY (hk (l.take k)) (l.getD k eV).1) = !decide (jY (hk l) (l.getD k eV).1=(k:Int)):=by
 have:=Am (l:=hk l) (k:=k) (by rw [mI];exact h9)
 rw [nD] at this
 rw [show hk (l.take k)=(hk l).take k from List.map_take ..]
 exact this
def Dr (l:List Wn):Bool:=decide (l.length<=8) && (List.range l.length).all (CT l)
def EH (l:List Hn):Bool:=decide (l.length<=8) && (List.range l.length).all (lg l)
def MV (x:Hn):Bool:=eN x.2.1 0 15 && eN x.2.2 0 1099511627776
theorem NQ {l:List Wn} (h:8<l.length):Dr l=false:=by unfold Dr;rw [Ys (by omega)];rfl
theorem N6 {l:List Hn} (h:8<l.length):EH l=false:=by unfold EH;rw [Ys (by omega)];rfl
theorem MN {l:List Wn} {k:Nat} (hk:k<l.length) (e:CT l k=false):Dr l=false:=by
 unfold Dr
 rw [show (List.range l.length).all (CT l)=false from by
  rw [List.all_eq_false];exact ⟨k,YI.2 hk,by rw [e];decide⟩,Bool.and_false]
theorem Mn {l:List Hn} {k:Nat} (hk:k<l.length) (e:lg l k=false):EH l=false:=by
 unfold EH
 rw [show (List.range l.length).all (lg l)=false from by
  rw [List.all_eq_false];exact ⟨k,YI.2 hk,by rw [e];decide⟩,Bool.and_false]
theorem Qv {l:List Wn} (h:l.length<=8) (e:∀ j,j<l.length->CT l j=true):Dr l=true:=by unfold Dr;rw [j6 e,Yt h];rfl
theorem PP {l:List Hn} (h:l.length<=8) (e:∀ j,j<l.length->lg l j=true):EH l=true:=by unfold EH;rw [j6 e,Yt h];rfl
theorem Ud {l:List Hn} {k:Nat} (h:MV (l.getD k eV)=false):lg l k=false:=by
 unfold MV at h;unfold lg
 rw [← Bool.and_assoc,h];rfl
theorem Nc {l:List Hn} {k:Nat} (h:MV (l.getD k eV)=true) {b:Bool} (h2:decide (jY (hk l) (l.getD k eV).1=(k:Int))=b):lg l k=b:=by
 unfold MV at h;unfold lg
 rw [← Bool.and_assoc,h,h2];rfl
def rH (s:ByteArray):Bool:=decide (64<s.size)
def QB (h:Ho):Bool:=eN h.no 0 15 && (eN h.gt 0 15 && (Dr h.ws && (EH h.hs && (decide (h.bx.length<=32) && !h.bx.any rH))))
theorem Ol (l:List ByteArray):(List.range l.length).all (PZ l) = !l.any rH:=by
 cases e:l.any rH with
 |false=>
  refine j6 λj hj=>Yt ?_
  have:=Zu.1 e _ (zt hj)
  unfold rH at this
  rw [YB] at this;omega
 |true=>
  obtain ⟨s,hs,h9⟩:=Zt.1 e
  obtain ⟨j,hj,rfl⟩:=List.mem_iff_getElem.1 hs
  show _=false
  rw [List.all_eq_false]
  refine ⟨j,YI.2 hj,?_⟩
  unfold PZ
  unfold rH at h9
  rw [← T6 hj,YB]
  have:=Yq h9;omega
theorem m3 (h:Ho):QB h=bT h:=by
 unfold QB bT Tl Dr EH
 rw [Ol]
 generalize eN h.no 0 15=a;generalize eN h.gt 0 15=b;generalize decide (h.ws.length<=8)=c;generalize decide (h.hs.length<=8)=d;generalize decide (h.bx.length<=32)=e
 generalize (List.range h.ws.length).all (CT h.ws)=f;generalize (List.range h.hs.length).all (lg h.hs)=g;generalize (!h.bx.any rH)=i
 cases a<;>cases b<;>cases c<;>cases d<;>cases e<;>cases f<;>cases g<;>cases i<;>rfl
section
variable {h:Ho}
theorem Uz (a:eN h.no 0 15=false):bT h=false:=by rw [← m3];unfold QB;rw [a];rfl
theorem Sq (a:eN h.no 0 15=true) (b:eN h.gt 0 15=false):bT h=false:=by rw [← m3];unfold QB;rw [a,b];rfl
theorem TC (a:eN h.no 0 15=true) (b:eN h.gt 0 15=true) (c:Dr h.ws=false):bT h=false:=by rw [← m3];unfold QB;rw [a,b,c];rfl
theorem Su (a:eN h.no 0 15=true) (b:eN h.gt 0 15=true) (c:Dr h.ws=true) (d:EH h.hs=false):bT h=false:=by rw [← m3];unfold QB;rw [a,b,c,d];rfl
theorem MS (a:eN h.no 0 15=true) (b:eN h.gt 0 15=true) (c:Dr h.ws=true) (d:EH h.hs=true) {e:Bool} (f:decide (h.bx.length<=32)=e):bT h=(e && !h.bx.any rH):=by rw [← m3];unfold QB;rw [a,b,c,d,f];rfl
end
def Yk (w:World) (N1 N2 N3:TypeId) (h:Ho):c8:=λv w'=>∃ a b c,v=.agg (a8 h.no h.gt a b c)/\St w [.sl a N1 33 h.ws.length (cn h.ws),.sl b N2 34 h.hs.length (cm h.hs),.sl c N3 1 h.bx.length (rQ h.bx)] w'
section
variable {w w':World} {vw vh vi:Value} {h:Ho} {N1 N2 N3:TypeId}
theorem JE {H:Ho} {E e:Int} (hH:H=n5) (hE:E=e) (s:St w [] w'):VL w vw vh vi h H E (.tuple #[.agg (a8 0 0 aj aj aj),.int .i64 e]) w':=by
 subst hH;subst hE
 exact ⟨aj,aj,aj,[],rfl,s.grp0 (S:=λw9=>gn w9 vw vh vi h->gn w9 aj aj aj n5) λw9 _=>SS w9⟩
end
theorem yM {w w':World} {a b c:Value} {h:Ho} {N1 N2 N3:TypeId} {B:List Own} (s:St w (.sl a N1 33 h.ws.length (cn h.ws)::.sl b N2 34 h.hs.length (cm h.hs)::.sl c N3 1 h.bx.length (rQ h.bx)::B) w'):∃ ks,St w (.grp ks (λw9=>gn w9 a b c h)::B) w':=by
 have s:=s.grp0 (S:=λ_=>True) (λ_=>trivial)
 obtain ⟨k1,s⟩:=(s.perm (ZC ..)).grp1 (S':=λw9=>bp w9 a 33 h.ws.length (cn h.ws)) (λw9 h9 _=>h9)
 obtain ⟨k2,s⟩:=(s.perm (ZC ..)).grp1 (S':=λw9=>bp w9 a 33 h.ws.length (cn h.ws)/\bp w9 b 34 h.hs.length (cm h.hs)) (λw9 h9 h8=>⟨h8,h9⟩)
 exact(s.perm (ZC ..)).grp1 (S':=λw9=>gn w9 a b c h) (λw9 h9 h8=>⟨h8.1,h8.2,h9⟩)
theorem NY {l:List ByteArray} {r:Int} (hr:(r = -1/\∀ x∈l,rH x=false)∨∃ k:Nat,k<l.length/\r=(k:Int)/\rH (l.getD k ByteArray.empty)=true):decide (r≥0)=l.any rH:=by
 rcases hr with ⟨rfl,h⟩|⟨k,hk,rfl,h⟩
 ·rw [Zu.2 λx hx=>by rw [h x hx];decide];rfl
 ·rw [Zt.2 ⟨_,zt hk,h⟩,Yt (by omega)]
theorem FS (n g:Int):bT ⟨n,g,[],[],[]⟩=(eN n 0 15 && eN g 0 15):=by
 rw [← m3]
 show (eN n 0 15 && (eN g 0 15 && true))=_
 rw [Bool.and_true]
theorem JU {w w':World} {n g:Int} (s:St w [] w'):VL w aj aj aj n5 ⟨n,g,[],[],[]⟩ 0 (.tuple #[.agg (a8 n g aj aj aj),.int .i64 0]) w':=
 ⟨aj,aj,aj,[],rfl,s.grp0 (S:=λw9=>gn w9 aj aj aj n5->gn w9 aj aj aj ⟨n,g,[],[],[]⟩) λw9 _=>iM w9 n g⟩
section
variable {w w':World} {vw vh vi vl:Value} {h:Ho} {now:Int} {N:TypeId} {l:List cO} {d:ByteArray}
theorem Ao (hE:uU h now=1/\eB h now=[]) (s:St w [] w'):Wj w vw vh vi h (eB h now) (uU h now) (.tuple #[aj,.int .i64 1]) w':=by
 rw [hE.1,hE.2]
 exact ⟨aj,[],[],rfl,rfl,s.grp0 (S:=λw9=>gn w9 vw vh vi h->zZ w9 aj []) λw9 _=>Lg w9⟩
theorem P1 {u:Value} (hE:uU h now=0/\eB h now=iu h now) (s:St w [.sl u N 139 (nS h now h.ws.length).length (dm (nS h now h.ws.length))] w'):Wj w vw vh vi h (eB h now) (uU h now) (.tuple #[u,.int .i64 0]) w':=by
 rw [hE.1,hE.2]
 obtain ⟨kn,s⟩:=((s.grp0 (S:=λ_=>True) (λ_=>trivial)).perm (ZC ..)).grp1 (S':=λw9=>gn w9 vw vh vi h->zZ w9 u (nS h now h.ws.length)) (λw9 h9 _ _=>⟨h9,Po _ _ _ _⟩)
 exact ⟨u,_,kn,rfl,Je,s⟩
theorem om {e:Int} (hE:ji h l d now=e/\bV h l d now=Du) (s:St w [] w'):WF w vl l (bV h l d now) (ji h l d now) (.tuple #[.agg (bK 0 mZ aj eg),.int .i64 e]) w':=by
 rw [hE.1,hE.2]
 exact ⟨aj,[],rfl,s.grp0 (S:=λw9=>ez w9 vl l->ez w9 aj Du.2.1.l) λw9 _=>bU w9⟩
theorem G8 {u:Value} (hE:ji h l d now=0/\bV h l d now=jS h l d now) (s:St w [.sl u N 34 l.length (db l)] w'):WF w vl l (bV h l d now) (ji h l d now) (.tuple #[.agg (bK (pK h l now) (NA l d) u eg),.int .i64 0]) w':=by
 rw [hE.1,hE.2]
 obtain ⟨kn,s⟩:=((s.grp0 (S:=λ_=>True) (λ_=>trivial)).perm (ZC ..)).grp1 (S':=λw9=>ez w9 vl l->ez w9 u (jS h l d now).2.1.l) (λw9 h9 _ _=>h9)
 exact ⟨u,kn,rfl,s⟩
end
section
variable {h:Ho} {fr:Int} {m:Mg} {now:Int}
end
section
variable {w w':World} {h:Ho} {fr:Int} {m:Mg} {e:Int} {N:TypeId}
end
section
variable {w0 w9:World} {bi:Nat} {N N1 N2 N3:TypeId} {B9:List Own} {h H:Ho} {fr:Int} {m:Mg} {now E n g:Int} {a b c:Value}
end
section
variable {w w':World} {vw vh vi vs:Value} {h:Ho} {l:List cO} {fr:Int} {m:Mg} {now e:Int} {N1 N2:TypeId}
end
end Go.Proofs.YtkhepdpfdhdlaaaGreatDoor
