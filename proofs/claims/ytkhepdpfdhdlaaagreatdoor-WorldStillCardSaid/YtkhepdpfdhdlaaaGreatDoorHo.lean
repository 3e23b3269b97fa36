/- Hosts: wants, hints, an inbox; what they ask, send, take; hosts that come in; no Go in it. -/
import Derived.Test.YtkhepdpfdhdlaaaGreatDoorSv
set_option linter.unusedVariables false
set_option linter.unusedSimpArgs false
set_option linter.unusedSectionVars false
namespace Go.Proofs.YtkhepdpfdhdlaaaGreatDoor
open Go.RowKit
abbrev Wn:=Id × Int
abbrev Hn:=Id × Int × Int
structure Ho where
 no:Int
 gt:Int
 ws:List Wn
 hs:List Hn
 bx:List ByteArray
deriving DecidableEq
def oT:Ho:=⟨0,0,[],[],[]⟩
def gm:Wn:=(0#256,0)
def eO:Hn:=(0#256,0,0)
def Ek (t:Wn):List Value:=(aI t.1).toList++[.int .i64 t.2]
def dc (t:Wn):Array Value:=(Ek t).toArray
theorem xM (t:Wn):(Ek t).length=33:=by simp [Ek]
theorem cA (t:Wn):(dc t).size=33:=by simp [dc,xM]
theorem yg (t:Wn):∀ v∈Ek t,v.oneCell'=true:=λv hv=>by
 unfold Ek at hv
 rcases av4.1 hv with hv|hv
 ·rw [dU] at hv;exact ef _ _ v hv
 ·rw [as9] at hv;subst hv;rfl
theorem mA (t:Wn):∀ v∈(dc t).toList,v.oneCell'=true:=yg t
theorem Aa (t:Wn):((dc t).toList.drop 0).take 32=(aI t.1).toList:=by
 show ((Ek t).drop 0).take 32=_
 unfold Ek
 rw [List.drop_zero,List.take_left' (dL _)]
theorem DK (t:Wn):((dc t).toList.drop 32).take 1=[Value.int .i64 t.2]:=by
 show ((Ek t).drop 32).take 1=_
 unfold Ek
 rw [List.drop_left' (dL _)];rfl
theorem yK (t:Wn):(dc t).extract 0 (0+32)=aI t.1:=lG _ _ _ _ (Aa t)
theorem m9 (t:Wn):(dc t)[32]? = some (.int .i64 t.2):=by
 unfold dc Ek
 rw [au3,av2 (by rw [dL];exact at6 _),dL];rfl
theorem Gz {x y:Wn} (h:(dc x).toList=(dc y).toList):x=y:=by
 have h0:=Aa x;rw [h,Aa] at h0
 have h1:=DK x;rw [h,DK] at h1
 refine Prod.ext (jr (Array.toList_inj.1 h0)).symm ?_
 have:=List.head_eq_of_cons_eq h1
 injection this with _ h2
 exact h2.symm
theorem V0 (x y:Wn):decide (x=y)=true↔(dc x).toList=(dc y).toList:=by
 rw [as5];exact ⟨λh=>by rw [h],Gz⟩
def Zx:List (List Value):=[(aI 0#256).toList,[.int .i64 0]]
theorem Eg:dc gm=Zx.flatten.toArray:=by unfold dc Ek gm Zx;simp
def cX (l:List Wn):List Value:=l.flatMap Ek
theorem yp (l r:List Wn):cX (l++r)=cX l++cX r:=aw7
theorem yJ (t:Wn):cX [t]=(dc t).toList:=by simp [cX,dc]
theorem xr (l:List Wn):∀ u∈cX l,u.oneCell'=true:=λu hu=>by
 obtain ⟨x,_,hx⟩:=List.mem_flatMap.1 hu
 exact yg x u hx
theorem XD (m:Wn):∀ v∈([.agg (dc m)]:List Value),v.cells.size=33:=λv hv=>by
 rw [as9] at hv;subst hv;exact cA m
theorem Hf (m:Wn):([Value.agg (dc m)].flatMap λv=>v.cells.toList)=(dc m).toList:=by simp [Value.cells]
theorem OJ (l:List Wn) (x:Wn):cX l++(dc x).toList=cX (l++[x]):=by rw [yp,yJ]
theorem Vx {l:List Wn} {j:Nat} (hj:j<l.length):l[j]=l.getD j gm:=by
 rw [au1,as3 hj];rfl
theorem qR (l:List Wn) (j:Nat) (hj:j<l.length):(((cX l).drop (j*33)).take 33).toArray=dc (l.getD j gm):=by
 unfold cX
 rw [fk _ 33 xM l j hj,Vx hj];rfl
theorem B1 {l:List Wn} {j:Nat} (hj:j<l.length):l.getD j gm∈l:=by rw [← Vx hj];exact ax6 hj
theorem Rh {l:List Wn} {x:Wn} (h:x∈l):∃ j,j<l.length/\l.getD j gm=x:=by
 obtain ⟨j,hj,rfl⟩:=List.mem_iff_getElem.1 h
 exact ⟨j,hj,(Vx hj).symm⟩
theorem Di {w:World} {v:Value} {l:List Wn} (h:br w v 33 l.length (cX l)) (k:Nat) (hk:k<=l.length):br w (jK v k) 33 (l.take k).length (cX (l.take k)):=by
 have:=h.cut k hk
 unfold cX at this
 rw [iS _ 33 xM] at this
 rw [av5,Nat.min_eq_left hk]
 exact this
def yc (t:Hn):List Value:=(aI t.1).toList++[.int .i64 t.2.1,.int .i64 t.2.2]
def cW (t:Hn):Array Value:=(yc t).toArray
theorem xt (t:Hn):(yc t).length=34:=by simp [yc]
theorem cy (t:Hn):(cW t).size=34:=by simp [cW,xt]
theorem Av (t:Hn):∀ v∈yc t,v.oneCell'=true:=λv hv=>by
 unfold yc at hv
 rcases av4.1 hv with hv|hv
 ·rw [dU] at hv;exact ef _ _ v hv
 ·simp only [at1,at4,or_false] at hv
  rcases hv with rfl|rfl<;>rfl
theorem m5 (t:Hn):∀ v∈(cW t).toList,v.oneCell'=true:=Av t
theorem yy (t:Hn):((cW t).toList.drop 0).take 32=(aI t.1).toList:=by
 show ((yc t).drop 0).take 32=_
 unfold yc
 rw [List.drop_zero,List.take_left' (dL _)]
theorem EF (t:Hn):((cW t).toList.drop 32).take 1=[Value.int .i64 t.2.1]:=by
 show ((yc t).drop 32).take 1=_
 unfold yc
 rw [List.drop_left' (dL _)];rfl
theorem Ed (t:Hn):((cW t).toList.drop 33).take 1=[Value.int .i64 t.2.2]:=by
 show ((yc t).drop 33).take 1=_
 unfold yc
 rw [show 33=32+1 from rfl,← List.drop_drop,List.drop_left' (dL _)];rfl
theorem zv (t:Hn):(cW t).extract 0 (0+32)=aI t.1:=lG _ _ _ _ (yy t)
theorem rz (t:Hn):(cW t)[32]? = some (.int .i64 t.2.1):=by
 unfold cW yc
 rw [au3,av2 (by rw [dL];exact at6 _),dL];rfl
theorem lx (t:Hn):(cW t)[33]? = some (.int .i64 t.2.2):=by
 unfold cW yc
 rw [au3,av2 (by rw [dL];omega),dL];rfl
theorem GC {x y:Hn} (h:(cW x).toList=(cW y).toList):x=y:=by
 have h0:=yy x;rw [h,yy] at h0
 have h1:=EF x;rw [h,EF] at h1
 have h2:=Ed x;rw [h,Ed] at h2
 have g1:=List.head_eq_of_cons_eq h1
 have g2:=List.head_eq_of_cons_eq h2
 injection g1 with _ g1
 injection g2 with _ g2
 exact Prod.ext (jr (Array.toList_inj.1 h0)).symm (Prod.ext g1.symm g2.symm)
theorem Xn (x y:Hn):decide (x=y)=true↔(cW x).toList=(cW y).toList:=by
 rw [as5];exact ⟨λh=>by rw [h],GC⟩
def Zs:List (List Value):=[(aI 0#256).toList,[.int .i64 0],[.int .i64 0]]
theorem EV:cW eO=Zs.flatten.toArray:=by unfold cW yc eO Zs;simp
def cV (l:List Hn):List Value:=l.flatMap yc
theorem yX (l r:List Hn):cV (l++r)=cV l++cV r:=aw7
theorem yI (t:Hn):cV [t]=(cW t).toList:=by simp [cV,cW]
theorem xg (l:List Hn):∀ u∈cV l,u.oneCell'=true:=λu hu=>by
 obtain ⟨x,_,hx⟩:=List.mem_flatMap.1 hu
 exact Av x u hx
theorem X9 (m:Hn):∀ v∈([.agg (cW m)]:List Value),v.cells.size=34:=λv hv=>by
 rw [as9] at hv;subst hv;exact cy m
theorem G6 (m:Hn):([Value.agg (cW m)].flatMap λv=>v.cells.toList)=(cW m).toList:=by simp [Value.cells]
theorem Oz (l:List Hn) (x:Hn):cV l++(cW x).toList=cV (l++[x]):=by rw [yX,yI]
theorem VP {l:List Hn} {j:Nat} (hj:j<l.length):l[j]=l.getD j eO:=by
 rw [au1,as3 hj];rfl
theorem om (l:List Hn) (j:Nat) (hj:j<l.length):(((cV l).drop (j*34)).take 34).toArray=cW (l.getD j eO):=by
 unfold cV
 rw [fk _ 34 xt l j hj,VP hj];rfl
theorem xm {l:List Hn} {j:Nat} (hj:j<l.length):l.getD j eO∈l:=by rw [← VP hj];exact ax6 hj
theorem Qx {l:List Hn} {x:Hn} (h:x∈l):∃ j,j<l.length/\l.getD j eO=x:=by
 obtain ⟨j,hj,rfl⟩:=List.mem_iff_getElem.1 h
 exact ⟨j,hj,(VP hj).symm⟩
theorem Eo {w:World} {v:Value} {l:List Hn} (h:br w v 34 l.length (cV l)) (k:Nat) (hk:k<=l.length):br w (jK v k) 34 (l.take k).length (cV (l.take k)):=by
 have:=h.cut k hk
 unfold cV at this
 rw [iS _ 34 xt] at this
 rw [av5,Nat.min_eq_left hk]
 exact this
def tP (l:List ByteArray):List Value:=l.map Value.string
theorem K6 (l:List ByteArray):∀ u∈tP l,u.oneCell'=true:=λu hu=>by
 obtain ⟨x,_,rfl⟩:=aw4.1 hu
 rfl
theorem Uy {l:List ByteArray} {j:Nat} (hj:j<l.length):l[j]=l.getD j ByteArray.empty:=by
 rw [au1,as3 hj];rfl
theorem sn {l:List ByteArray} {j:Nat} (hj:j<l.length):(tP l)[j]? = some (.string (l.getD j ByteArray.empty)):=by
 unfold tP
 rw [aw5,as3 hj,Uy hj];rfl
theorem AW {l:List ByteArray} {j:Nat} (hj:j<l.length):l.getD j ByteArray.empty∈l:=by rw [← Uy hj];exact ax6 hj
def Mo (n g:Int) (vw vh vi:Value):List Value:=[.int .i64 n,.int .i64 g,vw,vh,vi]
def bE (n g:Int) (vw vh vi:Value):Array Value:=(Mo n g vw vh vi).toArray
theorem bq (n g:Int) (vw vh vi:Value):(bE n g vw vh vi).size=5:=rfl
theorem eW {vw vh vi:Value} (n g:Int) (h1:vw.oneCell'=true) (h2:vh.oneCell'=true) (h3:vi.oneCell'=true):∀ u∈(bE n g vw vh vi).toList,u.oneCell'=true:=λu hu=>by
 have hu:u∈Mo n g vw vh vi:=hu
 unfold Mo at hu
 simp only [at1,at4,or_false] at hu
 rcases hu with rfl|rfl|rfl|rfl|rfl
 ·rfl
 ·rfl
 ·exact h1
 ·exact h2
 ·exact h3
section
variable (n g:Int) (vw vh vi x:Value)
theorem l9:(bE n g vw vh vi)[0]? = some (.int .i64 n):=rfl
theorem ni:(bE n g vw vh vi)[1]? = some (.int .i64 g):=rfl
theorem kY:(bE n g vw vh vi)[2]? = some vw:=rfl
theorem j4:(bE n g vw vh vi)[3]? = some vh:=rfl
theorem pm:(bE n g vw vh vi)[4]? = some vi:=rfl
end
def Xr:List (List Value):=[[.int .i64 0],[.int .i64 0],[.slice none 0 0],[.slice none 0 0],[.slice none 0 0]]
def ma (w:World) (vw vh vi:Value) (h:Ho):Prop:=br w vw 33 h.ws.length (cX h.ws)/\br w vh 34 h.hs.length (cV h.hs)/\br w vi 1 h.bx.length (tP h.bx)
theorem ma.keep {w w':World} {vw vh vi:Value} {h:Ho} (H:ma w vw vh vi h) (e:Ext w w'):ma w' vw vh vi h:=⟨H.1.keep e,H.2.1.keep e,H.2.2.keep e⟩
theorem jS (w:World) (n g:Int):ma w au au au ⟨n,g,[],[],[]⟩:=⟨⟨rfl,.inl ⟨rfl,rfl⟩⟩,⟨rfl,.inl ⟨rfl,rfl⟩⟩,⟨rfl,.inl ⟨rfl,rfl⟩⟩⟩
def l7 (l:List Id) (x:Id):Int:=if l.findIdx (λy=>decide (y=x))<l.length then ((l.findIdx (λy=>decide (y=x)):Nat):Int) else -1
theorem GS {l:List Id} {j:Nat} (hj:j<l.length):l[j]=l.getD j 0#256:=by
 rw [au1,as3 hj];rfl
theorem wZ {l:List Id} {x:Id} {k:Nat} (hk:k<l.length) (h:l.getD k 0#256=x) (hb:∀ j,j<k->l.getD j 0#256≠x):l7 l x=(k:Int):=by
 have e:l.findIdx (λy=>decide (y=x))=k:=by
  rw [List.findIdx_eq hk]
  refine ⟨by rw [GS hk,h];simp,λj hj=>?_⟩
  rw [GS (by omega)]
  exact ar6 (hb j hj)
 unfold l7
 rw [e,if_pos hk]
theorem HJ {l:List Id} {x:Id} (h:∀ j,j<l.length->l.getD j 0#256≠x):l7 l x = -1:=by
 have e:l.findIdx (λy=>decide (y=x))=l.length:=by
  rw [List.findIdx_eq_length]
  intro y hy
  obtain ⟨j,hj,rfl⟩:=List.mem_iff_getElem.1 hy
  rw [GS hj]
  simpa using h j hj
 unfold l7
 rw [e,if_neg (Nat.lt_irrefl _)]
theorem oD (l:List Id) (x:Id):(l7 l x = -1/\∀ y∈l,y≠x)∨∃ k,k<l.length/\l7 l x=(k:Int)/\l.getD k 0#256=x/\∀ j,j<k->l.getD j 0#256≠x:=by
 by_cases h:l.findIdx (λy=>decide (y=x))<l.length
 ·refine .inr ⟨_,h,by unfold l7;rw [if_pos h],?_,λj hj=>?_⟩
  ·rw [← GS h]
   have:=List.findIdx_getElem (w:=h)
   simpa using this
  ·rw [← GS (by omega)]
   have:=List.not_of_lt_findIdx hj
   simpa using this
 ·refine .inl ⟨by unfold l7;rw [if_neg h],λy hy=>?_⟩
  have e:l.findIdx (λy=>decide (y=x))=l.length:=by have:=List.findIdx_le_length (p:=λy=>decide (y=x)) (xs:=l);omega
  rw [List.findIdx_eq_length] at e
  simpa using e y hy
theorem Na {l:List Id} {x:Id}:l7 l x<0↔∀ y∈l,y≠x:=by
 rcases oD l x with ⟨h,g⟩|⟨k,hk,h,h1,_⟩
 ·rw [h];exact ⟨λ_=>g,λ_=>by decide⟩
 ·rw [h]
  refine ⟨λh=>by omega,λg=>az2 h1 (g _ ?_)⟩
  rw [← GS hk];exact ax6 hk
theorem lI {l:List Id}:(∀ j,j<l.length->l7 l (l.getD j 0#256)=(j:Int))↔l.Nodup:=by
 unfold List.Nodup
 rw [List.pairwise_iff_getElem]
 constructor
 ·intro h a b ha hb hab e
  have h1:=h a ha
  have h2:=h b hb
  rw [← GS ha] at h1
  rw [← GS hb] at h2
  rw [e,h2] at h1
  omega
 ·intro h j hj
  refine wZ hj rfl λi hi e=>?_
  rw [← GS (by omega),← GS hj] at e
  exact h i j (by omega) hj hi e
def wk (l:List Wn):List Id:=l.map (·.1)
def hk (l:List Hn):List Id:=l.map (·.1)
theorem r5 (l:List Wn):(wk l).length=l.length:=av6 ..
theorem oV (l:List Hn):(hk l).length=l.length:=av6 ..
theorem uH (l:List Wn) (j:Nat):(wk l).getD j 0#256=(l.getD j gm).1:=by
 unfold wk
 rw [au1,au1,aw5]
 cases l[j]? <;> rfl
theorem pP (l:List Hn) (j:Nat):(hk l).getD j 0#256=(l.getD j eO).1:=by
 unfold hk
 rw [au1,au1,aw5]
 cases l[j]? <;> rfl
def gv (n a b:Int):Bool:=decide (a<=n) && decide (n<=b)
theorem fv {n a b:Int}:gv n a b=true↔a<=n/\n<=b:=by unfold gv;rw [as0,as5,as5]
def Gt (l:List Wn) (j:Nat):Bool:=gv (l.getD j gm).2 1 1048576 && decide (l7 (wk l) (l.getD j gm).1=(j:Int))
def mO (l:List Hn) (j:Nat):Bool:=gv (l.getD j eO).2.1 0 15 && (gv (l.getD j eO).2.2 0 1099511627776 && decide (l7 (hk l) (l.getD j eO).1=(j:Int)))
def SY (l:List ByteArray) (j:Nat):Bool:=decide ((l.getD j ByteArray.empty).size<=64)
def VV (h:Ho):Bool:=gv h.no 0 15 && (gv h.gt 0 15 && (decide (h.ws.length<=8) && (decide (h.hs.length<=8) && decide (h.bx.length<=32))))
def cS (h:Ho):Bool:=(List.range h.ws.length).all (Gt h.ws) && ((List.range h.hs.length).all (mO h.hs) && ((List.range h.bx.length).all (SY h.bx) && VV h))
theorem l6 {p:Nat->Bool} {n:Nat} (h:∀ j,j<n->p j=true):(List.range n).all p=true:=as1.2 λj hj=>h j (at2.1 hj)
theorem nE {p:Nat->Bool} {n:Nat} (h:(List.range n).all p=true) {j:Nat} (hj:j<n):p j=true:=as1.1 h j (at2.2 hj)
structure RH (h:Ho):Prop where
 ws:∀ x∈h.ws,1<=x.2/\x.2<=1048576
 wn:(wk h.ws).Nodup
 hs:∀ x∈h.hs,(0<=x.2.1/\x.2.1<=15)/\0<=x.2.2/\x.2.2<=1099511627776
 hn:(hk h.hs).Nodup
 bx:∀ s∈h.bx,s.size<=64
 no:0<=h.no/\h.no<=15
 gt:0<=h.gt/\h.gt<=15
 wl:h.ws.length<=8
 hl:h.hs.length<=8
 bl:h.bx.length<=32
theorem wV {l:List Wn} {j:Nat}:Gt l j=true↔(1<=(l.getD j gm).2/\(l.getD j gm).2<=1048576)/\l7 (wk l) (l.getD j gm).1=(j:Int):=by unfold Gt;rw [as0,fv,as5]
theorem sk {l:List Hn} {j:Nat}:mO l j=true↔(0<=(l.getD j eO).2.1/\(l.getD j eO).2.1<=15)/\(0<=(l.getD j eO).2.2/\(l.getD j eO).2.2<=1099511627776)/\l7 (hk l) (l.getD j eO).1=(j:Int):=by unfold mO;rw [as0,as0,fv,fv,as5]
theorem P0 {h:Ho}:VV h=true↔(0<=h.no/\h.no<=15)/\(0<=h.gt/\h.gt<=15)/\h.ws.length<=8/\h.hs.length<=8/\h.bx.length<=32:=by
 unfold VV
 rw [as0,as0,as0,as0,fv,fv,as5,as5,as5]
theorem oF {h:Ho}:cS h=true↔RH h:=by
 unfold cS
 rw [as0,as0,as0,P0]
 constructor
 ·rintro ⟨h1,h2,h3,h4,h5,h6,h7,h8⟩
  refine ⟨λx hx=>?_,lI.1 λj hj=>?_,λx hx=>?_,lI.1 λj hj=>?_,λx hx=>?_,h4,h5,h6,h7,h8⟩
  ·obtain ⟨j,hj,rfl⟩:=Rh hx
   exact(wV.1 (nE h1 hj)).1
  ·rw [r5] at hj;rw [uH]
   exact(wV.1 (nE h1 hj)).2
  ·obtain ⟨j,hj,rfl⟩:=Qx hx
   have:=sk.1 (nE h2 hj)
   exact ⟨this.1,this.2.1⟩
  ·rw [oV] at hj;rw [pP]
   exact(sk.1 (nE h2 hj)).2.2
  ·obtain ⟨j,hj,rfl⟩:=List.mem_iff_getElem.1 hx
   rw [Uy hj]
   exact ar4 (nE h3 hj)
 ·intro R
  refine ⟨l6 λj hj=>wV.2 ⟨R.ws _ (B1 hj),?_⟩,l6 λj hj=>sk.2 ⟨(R.hs _ (xm hj)).1,(R.hs _ (xm hj)).2,?_⟩,l6 λj hj=>ar7 (R.bx _ (AW hj)),R.no,R.gt,R.wl,R.hl,R.bl⟩
  ·have:=lI.2 R.wn j (by rw [r5];exact hj)
   rwa [uH] at this
  ·have:=lI.2 R.hn j (by rw [oV];exact hj)
   rwa [pP] at this
def B0 (h:Ho) (x:Id):Int:=l7 (wk h.ws) x
def nz (h:Ho) (x:Id):Int:=l7 (hk h.hs) x
def oK (h:Ho) (x:Id) (now:Int):Int:=bif decide (0<=nz h x) && decide (now<(h.hs.getD (nz h x).toNat eO).2.2) then (h.hs.getD (nz h x).toNat eO).2.1 else h.gt
def jy (h:Ho):dN:=(2,0#256,h.no)
def ad1 (h:Ho) (x:Wn):Mg:=⟨2,x.1,jy h,[],x.2,⟨#[]⟩,⟨#[]⟩⟩
def aa3 (h:Ho) (now:Int) (x:Wn):Se:=(oK h x.1 now,ad1 h x,eA)
def XA (h:Ho) (now:Int):List Se:=h.ws.map (aa3 h now)
def S7 (l:List dN) (d:ByteArray):Mg:=⟨1,0#256,(0,0#256,0),l,64,⟨#[]⟩,d⟩
def xb (h:Ho) (l:List dN) (now:Int):Int:=bif decide ((l.getD 0 (0,0#256,0)).1=1) then oK h (l.getD 0 (0,0#256,0)).2.1 now else h.gt
def uk (h:Ho) (l:List dN) (d:ByteArray) (now:Int):Se:=(xb h l now,S7 l d,eA)
def xq (l:List Hn) (x:Id):List Hn:=l.filter λy => !decide (y.1=x)
def PE (h:Ho) (x:Id):Ho:=⟨h.no,h.gt,h.ws,xq h.hs x,h.bx⟩
def Bj (now:Int):Int:=if 1099511627776<now+1000 then 1099511627776 else now+1000
def AF (l:List Hn):List Hn:=if l.length<8 then l else l.drop 1
def M8 (l:List Hn) (x:Id) (n now:Int):List Hn:=AF (xq l x)++[(x,n,Bj now)]
structure Hq where
 h:Ho
 l:List Se
 e:Int
def ie (e:Int):Hq:=⟨oT,[],e⟩
def Fe (h:Ho) (m:Mg) (now:Int):Hq:=bif decide (15<m.n) then ie 1 else ⟨⟨h.no,h.gt,h.ws,M8 h.hs m.i m.n now,h.bx⟩,[],0⟩
def UB (h:Ho) (m:Mg):Mg:=⟨4,m.i,m.t,[],(h.ws.getD (B0 h m.i).toNat gm).2,m.o,⟨#[]⟩⟩
def pK (h:Ho) (m:Mg):Hq:=bif !decide (m.l.getD 0 (0,0#256,0)=jy h) then ie 1 else bif decide (h.bx.length=32) then ie 8 else ⟨⟨h.no,h.gt,h.ws,h.hs,h.bx++[m.d]⟩,[],0⟩
def zP (h:Ho) (fr:Int) (m:Mg):Hq:=bif !decide (m.t=jy h) then ie 1 else bif decide (B0 h m.i<0) then ie 6 else ⟨h,[(fr,UB h m,eA)],0⟩
def Gi (h:Ho) (m:Mg):Hq:=bif decide (B0 h m.i<0) then ie 6 else ⟨h,[],0⟩
def n8 (h:Ho) (fr:Int) (m:Mg) (now:Int):Hq:=
 bif decide (m.k=1) then pK h m else bif decide (m.k=3) then zP h fr m else bif decide (m.k=5) then Gi h m else bif decide (m.k=7) then ⟨PE h m.i,[],0⟩ else bif decide (m.k=8) then Fe h m now else ie 1
def AO (h:Ho) (fr:Int) (m:Mg) (now:Int):Bool:=cS h && (gv now 0 1099511627776 && (gv fr 0 31 && dI m))
def jx (h:Ho) (fr:Int) (m:Mg) (now:Int):Hq:=bif AO h fr m now then n8 h fr m now else ie 1
section
variable {P:Program} {ρ:Operand->Value} {d:Option Tmp} {ty:TypeId} {pos:String} {af:Array Edge} {g:Option (Nat × Bool)} {x y z u:Operand} {t:TypeId}
theorem wG (S:Stt P t Xr):a7 P ⟨d,.build t #[],ty,pos,af,g⟩ ρ (.agg (bE 0 0 au au au)):=
 bk (P:=P) (ρ:=ρ) (d:=d) (ty:=ty) (pos:=pos) (af:=af) (g:=g) (parts:=#[]) S [] (by simp) (λi v hm=>by simp at hm) (D:=Mo 0 0 au au au) rfl
theorem wD {n m:Int} (S:Stt P t Xr) (hx:ρ x=.int .i64 n) (hy:ρ y=.int .i64 m):a7 P ⟨d,.build t #[(0,x),(1,y)],ty,pos,af,g⟩ ρ (.agg (bE n m au au au)):=by
 have:=bk (P:=P) (ρ:=ρ) (d:=d) (ty:=ty) (pos:=pos) (af:=af) (g:=g) (parts:=#[(0,x),(1,y)]) S [(0,.int .i64 n),(1,.int .i64 m)] (by simp [hx,hy]) (λj u hm=>by
  simp only [at1,ax3,at4,or_false] at hm
  rcases hm with ⟨rfl,rfl⟩|⟨rfl,rfl⟩
  ·exact ⟨_,rfl,rfl⟩
  ·exact ⟨_,rfl,rfl⟩) (D:=Mo n m au au au) rfl
 exact this
theorem zq {i:Id} {n:Int} (S:Stt P t Zx) (hx:ρ x=.agg (aI i)) (hy:ρ y=.int .i64 n):a7 P ⟨d,.build t #[(0,x),(1,y)],ty,pos,af,g⟩ ρ (.agg (dc (i,n))):=by
 have:=bk (P:=P) (ρ:=ρ) (d:=d) (ty:=ty) (pos:=pos) (af:=af) (g:=g) (parts:=#[(0,x),(1,y)]) S [(0,.agg (aI i)),(1,.int .i64 n)] (by simp [hx,hy]) (λj u hm=>by
  simp only [at1,ax3,at4,or_false] at hm
  rcases hm with ⟨rfl,rfl⟩|⟨rfl,rfl⟩
  ·exact ⟨_,rfl,by simp [Value.cells]⟩
  ·exact ⟨_,rfl,rfl⟩) (D:=Ek (i,n)) (by unfold Ek;rfl)
 exact this
theorem AS {i:Id} {n m:Int} (S:Stt P t Zs) (hx:ρ x=.agg (aI i)) (hy:ρ y=.int .i64 n) (hz:ρ z=.int .i64 m):a7 P ⟨d,.build t #[(0,x),(1,y),(2,z)],ty,pos,af,g⟩ ρ (.agg (cW (i,n,m))):=by
 have:=bk (P:=P) (ρ:=ρ) (d:=d) (ty:=ty) (pos:=pos) (af:=af) (g:=g) (parts:=#[(0,x),(1,y),(2,z)]) S [(0,.agg (aI i)),(1,.int .i64 n),(2,.int .i64 m)] (by simp [hx,hy,hz]) (λj u hm=>by
  simp only [at1,ax3,at4,or_false] at hm
  rcases hm with ⟨rfl,rfl⟩|⟨rfl,rfl⟩|⟨rfl,rfl⟩
  ·exact ⟨_,rfl,by simp [Value.cells]⟩
  ·exact ⟨_,rfl,rfl⟩
  ·exact ⟨_,rfl,rfl⟩) (D:=yc (i,n,m)) (by unfold yc;rfl)
 exact this
theorem oi {n:Int} {m:Mg} {v:Value} (S:Stt P t ZA) (hx:ρ x=.int .i64 n) (hy:ρ y=.agg (eh m v)):a7 P ⟨d,.build t #[(0,x),(1,y)],ty,pos,af,g⟩ ρ (.agg (cH n m v eA)):=by
 have:=bk (P:=P) (ρ:=ρ) (d:=d) (ty:=ty) (pos:=pos) (af:=af) (g:=g) (parts:=#[(0,x),(1,y)]) S [(0,.int .i64 n),(1,.agg (eh m v))] (by simp [hx,hy]) (λj u hm=>by
  simp only [at1,ax3,at4,or_false] at hm
  rcases hm with ⟨rfl,rfl⟩|⟨rfl,rfl⟩
  ·exact ⟨_,rfl,rfl⟩
  ·exact ⟨_,rfl,by show (eh m v).size=_;rw [eJ];rfl⟩) (D:=Ou n m v eA) (by
   show [Value.int .i64 n]++((eh m v).toList++(PK.flatten++[]))=_
   rw [aw9,← si];rfl)
 exact this
theorem ir (S:Stt P t ZA):a7 P ⟨d,.build t #[],ty,pos,af,g⟩ ρ (.agg (cH 0 mZ au eA)):=by
 have:=bk (P:=P) (ρ:=ρ) (d:=d) (ty:=ty) (pos:=pos) (af:=af) (g:=g) (parts:=#[]) S [] (by simp) (λj u hm=>by simp at hm) (D:=Ou 0 mZ au eA) (by
  show [Value.int .i64 0]++(VC.flatten++(PK.flatten++[]))=_
  rw [aw9,← si,← C8];rfl)
 exact this
end
section
variable (n g:Int) (a b c u:Value) (e:Int)
end
section
variable {P:Program} {ρ:Operand->Value} {d:Option Tmp} {ty:TypeId} {pos:String} {af:Array Edge} {g:Option (Nat × Bool)} {x y z:Operand} {t:TypeId}
end
theorem eu {p:Nat->Prop} {k:Nat} (h:∀ j,j<k->p j) (hk:p k):∀ j,j<k+1->p j:=λj hj=>by
 rcases at9 j k with g|g
 ·exact h j g
 ·obtain rfl:j=k:=by omega
  exact hk
theorem G0 (h:Ho) (x:Id):(nz h x = -1/\∀ y∈h.hs,y.1≠x)∨∃ k,k<h.hs.length/\nz h x=(k:Int)/\(h.hs.getD k eO).1=x/\∀ j,j<k->(h.hs.getD j eO).1≠x:=by
 rcases oD (hk h.hs) x with ⟨h1,h2⟩|⟨k,h1,h2,h3,h4⟩
 ·exact .inl ⟨h1,λy hy=>h2 _ (List.mem_map_of_mem hy)⟩
 ·rw [oV] at h1;rw [pP] at h3
  exact .inr ⟨k,h1,h2,h3,λj hj=>by have:=h4 j hj;rwa [pP] at this⟩
theorem iH {h:Ho} {x:Id} (e:decide (0<=nz h x)=true):nz h x=((nz h x).toNat:Int)/\(nz h x).toNat<h.hs.length:=by
 have e:=ar4 e
 rcases G0 h x with ⟨h1,_⟩|⟨k,h1,h2,_⟩
 ·omega
 ·rw [h2];exact ⟨rfl,h1⟩
theorem VR {l:List Wn} {k:Nat} (h:gv (l.getD k gm).2 1 1048576=false):Gt l k=false:=by unfold Gt;rw [h];rfl
theorem Qt {l:List Wn} {k:Nat} (h:gv (l.getD k gm).2 1 1048576=true) {b:Bool} (h2:decide (l7 (wk l) (l.getD k gm).1=(k:Int))=b):Gt l k=b:=by unfold Gt;rw [h,h2];rfl
theorem pw {α:Type} [DecidableEq α] {a b:Ho} (f:Ho->α) (h:f a≠f b):decide (a=b)=false:=ar6 λe=>h (by rw [e])
theorem Ue {a b:Ho} (h0:a.no=b.no) (h1:a.gt=b.gt) (l1:a.ws.length=b.ws.length) (l2:a.hs.length=b.hs.length) (l3:a.bx.length=b.bx.length)
 (e1:∀ j,j<a.ws.length->a.ws.getD j gm=b.ws.getD j gm) (e2:∀ j,j<a.hs.length->a.hs.getD j eO=b.hs.getD j eO) (e3:∀ j,j<a.bx.length->a.bx.getD j ByteArray.empty=b.bx.getD j ByteArray.empty):decide (a=b)=true:=by
 have x1:a.ws=b.ws:=List.ext_getElem l1 λj g1 g2=>by rw [Vx g1,Vx g2];exact e1 j g1
 have x2:a.hs=b.hs:=List.ext_getElem l2 λj g1 g2=>by rw [VP g1,VP g2];exact e2 j g1
 have x3:a.bx=b.bx:=List.ext_getElem l3 λj g1 g2=>by rw [Uy g1,Uy g2];exact e3 j g1
 cases a;cases b
 simp only at h0 h1 x1 x2 x3
 subst h0;subst h1;subst x1;subst x2;subst x3
 exact ar7 rfl
theorem WC {h:Ho} {x:Id} {now:Int} (h0:decide (0<=nz h x)=true) (h1:decide (now<(h.hs.getD (nz h x).toNat eO).2.2)=true):oK h x now=(h.hs.getD (nz h x).toNat eO).2.1:=by unfold oK;rw [h0,h1];rfl
theorem SO {h:Ho} {x:Id} {now:Int} (h0:decide (0<=nz h x)=false):oK h x now=h.gt:=by unfold oK;rw [h0];rfl
theorem Tf {h:Ho} {x:Id} {now:Int} (h1:decide (now<(h.hs.getD (nz h x).toNat eO).2.2)=false):oK h x now=h.gt:=by unfold oK;rw [h1,Bool.and_false];rfl
theorem DY {l:List Wn} {d:Nat} (hd:d<l.length):l.take (d+1)=l.take d++[l.getD d gm]:=by rw [List.take_succ_eq_append_getElem hd,Vx hd]
theorem C0 {l:List Hn} {d:Nat} (hd:d<l.length):l.take (d+1)=l.take d++[l.getD d eO]:=by rw [List.take_succ_eq_append_getElem hd,VP hd]
theorem HM (l:List Hn) (x:Id):(xq l x).length<=l.length:=av7 _ _
section
variable {w w':World} {vw vh vi vs:Value} {h:Ho} {l:List dN} {H:Hq} {N:TypeId}
end
section
variable {h:Ho} {fr:Int} {m:Mg} {now:Int}
theorem UV (e:AO h fr m now=false):jx h fr m now=ie 1:=by unfold jx;rw [e];rfl
theorem Wu (e:AO h fr m now=true):jx h fr m now=n8 h fr m now:=by unfold jx;rw [e];rfl
theorem ad6 (e:decide (m.k=1)=true):n8 h fr m now=pK h m:=by unfold n8;rw [e];rfl
theorem ai4 (e1:decide (m.k=1)=false) (e:decide (m.k=3)=true):n8 h fr m now=zP h fr m:=by unfold n8;rw [e1,e];rfl
theorem ad9 (e1:decide (m.k=1)=false) (e3:decide (m.k=3)=false) (e:decide (m.k=5)=true):n8 h fr m now=Gi h m:=by unfold n8;rw [e1,e3,e];rfl
theorem ZM (e1:decide (m.k=1)=false) (e3:decide (m.k=3)=false) (e5:decide (m.k=5)=false) (e:decide (m.k=7)=true):n8 h fr m now=⟨PE h m.i,[],0⟩:=by unfold n8;rw [e1,e3,e5,e];rfl
theorem ac4 (e1:decide (m.k=1)=false) (e3:decide (m.k=3)=false) (e5:decide (m.k=5)=false) (e7:decide (m.k=7)=false) (e:decide (m.k=8)=true):n8 h fr m now=Fe h m now:=by unfold n8;rw [e1,e3,e5,e7,e];rfl
theorem ag2 (e1:decide (m.k=1)=false) (e3:decide (m.k=3)=false) (e5:decide (m.k=5)=false) (e7:decide (m.k=7)=false) (e:decide (m.k=8)=false):n8 h fr m now=ie 1:=by unfold n8;rw [e1,e3,e5,e7,e];rfl
theorem ag3 (e:decide (m.l.getD 0 (0,0#256,0)=jy h)=false):pK h m=ie 1:=by unfold pK;rw [e];rfl
theorem ZZ (e:decide (m.l.getD 0 (0,0#256,0)=jy h)=true) (e2:decide (h.bx.length=32)=true):pK h m=ie 8:=by unfold pK;rw [e,e2];rfl
theorem ZX (e:decide (m.l.getD 0 (0,0#256,0)=jy h)=true) (e2:decide (h.bx.length=32)=false):pK h m=⟨⟨h.no,h.gt,h.ws,h.hs,h.bx++[m.d]⟩,[],0⟩:=by unfold pK;rw [e,e2];rfl
theorem Z9 (e:decide (m.t=jy h)=false):zP h fr m=ie 1:=by unfold zP;rw [e];rfl
theorem Z2 (e:decide (m.t=jy h)=true) (e2:decide (B0 h m.i<0)=true):zP h fr m=ie 6:=by unfold zP;rw [e,e2];rfl
theorem ai1 (e:decide (m.t=jy h)=true) (e2:decide (B0 h m.i<0)=false):zP h fr m=⟨h,[(fr,UB h m,eA)],0⟩:=by unfold zP;rw [e,e2];rfl
theorem ZG (e2:decide (B0 h m.i<0)=true):Gi h m=ie 6:=by unfold Gi;rw [e2];rfl
theorem af8 (e2:decide (B0 h m.i<0)=false):Gi h m=⟨h,[],0⟩:=by unfold Gi;rw [e2];rfl
theorem ZS (e:decide (15<m.n)=true):Fe h m now=ie 1:=by unfold Fe;rw [e];rfl
theorem ad2 (e:decide (15<m.n)=false):Fe h m now=⟨⟨h.no,h.gt,h.ws,M8 h.hs m.i m.n now,h.bx⟩,[],0⟩:=by unfold Fe;rw [e];rfl
end
theorem US (l:List Hn) (j:Nat) (hj:j<l.length):(cV l)[j*34+32]? = some (.int .i64 (l.getD j eO).2.1):=by
 have h:=ar8 (λa:Array Value=>a[32]?) (om l j hj)
 simp only [rz,au3] at h
 rw [← h,ay2 (by decide),ay3]
theorem IG (l:List Hn) (j:Nat) (hj:j<l.length):(cV l)[j*34+33]? = some (.int .i64 (l.getD j eO).2.2):=by
 have h:=ar8 (λa:Array Value=>a[33]?) (om l j hj)
 simp only [lx,au3] at h
 rw [← h,ay2 (by decide),ay3]
def oL (n g:Int):Int:=bif gv n 0 15 && gv g 0 15 then 0 else 1
def gS (n g:Int):Ho:=bif gv n 0 15 && gv g 0 15 then ⟨n,g,[],[],[]⟩ else oT
def Sw (h:Ho) (x:Id) (l:Int):Int:=bif cS h && gv l 1 1048576 then (bif decide (0<=B0 h x) then 7 else bif decide (h.ws.length=8) then 8 else 0) else 1
def ab6 (h:Ho) (x:Id) (l:Int):Ho:=⟨h.no,h.gt,h.ws++[(x,l)],h.hs,h.bx⟩
def af2 (h:Ho) (x:Id) (l:Int):Ho:=bif decide (Sw h x l=0) then ab6 h x l else oT
def Sa (h:Ho) (x:Id):Int:=bif cS h then (bif decide (B0 h x<0) then 6 else 0) else 1
def ag5 (h:Ho) (x:Id):Ho:=⟨h.no,h.gt,h.ws.take (B0 h x).toNat++h.ws.drop ((B0 h x).toNat+1),h.hs,h.bx⟩
def aa5 (h:Ho) (x:Id):Ho:=bif decide (Sa h x=0) then ag5 h x else oT
def lQ (h:Ho) (l:List dN) (d:ByteArray) (now:Int):Int:=bif cS h && (gv now 0 1099511627776 && dH l) then (bif decide (d.size<=64) then 0 else 2) else 1
def cz (h:Ho) (l:List dN) (d:ByteArray) (now:Int):Se:=bif decide (lQ h l d now=0) then uk h l d now else Vy
def HoP (w:World) (vw vh vi:Value) (h H:Ho) (E:Int):dz:=λv w'=>∃ uw uh ui ks,v=.tuple #[.agg (bE H.no H.gt uw uh ui),.int .i64 E]/\St w [.grp ks λw9=>ma w9 vw vh vi h->ma w9 uw uh ui H] w'
def Z8 (w:World) (vl:Value) (l:List dN) (x:Se) (E:Int):dz:=λv w'=>∃ us ks,v=.tuple #[.agg (cH x.1 x.2.1 us x.2.2),.int .i64 E]/\St w [.grp ks λw9=>gf w9 vl l->gf w9 us x.2.1.l] w'
def Yj (s:ByteArray):ByteArray:=s.extract 0 (min s.size 70)
def fbL (h:Ho):List ByteArray:=h.bx.take (min h.bx.length 34)
def fbK (l:List ByteArray) (k:Nat):List ByteArray:=(l.take k).map Yj
def Qs:Ho->List ByteArray:=λh=>fbK (fbL h) (fbL h).length
def B9 (h:Ho):Prop:=h.ws.length<=1000/\h.hs.length<=1000/\h.bx.length<=1000
theorem XJ (w:World):ma w au au au oT:=jS w 0 0
theorem UN {n g:Int} (h:(gv n 0 15 && gv g 0 15)=false):oL n g=1/\gS n g=oT:=by unfold oL gS;rw [h];exact ⟨rfl,rfl⟩
theorem Xd {n g:Int} (h:(gv n 0 15 && gv g 0 15)=true):oL n g=0/\gS n g=⟨n,g,[],[],[]⟩:=by unfold oL gS;rw [h];exact ⟨rfl,rfl⟩
theorem Qj {h:Ho} {l:List dN} {d:ByteArray} {now:Int} (hb:¬ (cS h=true/\(0<=now/\now<=1099511627776)/\dH l=true)):lQ h l d now=1/\cz h l d now=Vy:=by
 have e:(cS h && (gv now 0 1099511627776 && dH l))=false:=by
  cases g:(cS h && (gv now 0 1099511627776 && dH l)) with
  |false=>rfl
  |true=>rw [as0,as0,fv] at g;exact az2 g hb
 have e1:lQ h l d now=1:=by unfold lQ;rw [e];rfl
 refine ⟨e1,?_⟩
 unfold cz;rw [e1];rfl
theorem WE {h:Ho} {l:List dN} {d:ByteArray} {now:Int} (hb:cS h=true/\(0<=now/\now<=1099511627776)/\dH l=true) (hd:¬ d.size<=64):lQ h l d now=2/\cz h l d now=Vy:=by
 have e:(cS h && (gv now 0 1099511627776 && dH l))=true:=by rw [as0,as0,fv];exact hb
 have e1:lQ h l d now=2:=by unfold lQ;rw [e,ar6 hd];rfl
 refine ⟨e1,?_⟩
 unfold cz;rw [e1];rfl
theorem W3 {h:Ho} {l:List dN} {d:ByteArray} {now:Int} (hb:cS h=true/\(0<=now/\now<=1099511627776)/\dH l=true) (hd:d.size<=64):lQ h l d now=0/\cz h l d now=uk h l d now:=by
 have e:(cS h && (gv now 0 1099511627776 && dH l))=true:=by rw [as0,as0,fv];exact hb
 have e1:lQ h l d now=0:=by unfold lQ;rw [e,ar7 hd];rfl
 refine ⟨e1,?_⟩
 unfold cz;rw [e1];rfl
section
variable {h:Ho} {fr:Int} {m:Mg} {now:Int}
theorem NB:AO h fr m now=true↔cS h=true/\(0<=now/\now<=1099511627776)/\(0<=fr/\fr<=31)/\dI m=true:=by
 unfold AO
 rw [as0,as0,as0,fv,fv]
inductive HqC (h:Ho) (fr:Int) (m:Mg) (now:Int) (H:Hq):Prop where
 |data (k:m.k=1) (q:m.l.getD 0 (0,0#256,0)=jy h) (b:h.bx.length≠32) (e:H=⟨⟨h.no,h.gt,h.ws,h.hs,h.bx++[m.d]⟩,[],0⟩)
 |ask (k:m.k=3) (q:m.t=jy h) (b:¬ B0 h m.i<0) (e:H=⟨h,[(fr,UB h m,eA)],0⟩)
 |ack (k:m.k=5) (b:¬ B0 h m.i<0) (e:H=⟨h,[],0⟩)
 |push (k:m.k=7) (e:H=⟨PE h m.i,[],0⟩)
 |cache (k:m.k=8) (b:m.n<=15) (e:H=⟨⟨h.no,h.gt,h.ws,M8 h.hs m.i m.n now,h.bx⟩,[],0⟩)
theorem R0 (h:Ho) (fr:Int) (m:Mg) (now:Int):(AO h fr m now=true/\HqC h fr m now (jx h fr m now))∨∃ e,e≠0/\jx h fr m now=ie e:=by
 cases hb:AO h fr m now with
 |false=>exact .inr ⟨1,by decide,UV hb⟩
 |true=>
  rw [Wu hb]
  cases k1:decide (m.k=1) with
  |true=>
   rw [ad6 k1]
   cases q:decide (m.l.getD 0 (0,0#256,0)=jy h) with
   |false=>exact .inr ⟨1,by decide,ag3 q⟩
   |true=>
    cases b:decide (h.bx.length=32) with
    |true=>exact .inr ⟨8,by decide,ZZ q b⟩
    |false=>exact .inl ⟨rfl,.data (ar4 k1) (ar4 q) (ar5 b) (ZX q b)⟩
  |false=>
  cases k3:decide (m.k=3) with
  |true=>
   rw [ai4 k1 k3]
   cases q:decide (m.t=jy h) with
   |false=>exact .inr ⟨1,by decide,Z9 q⟩
   |true=>
    cases b:decide (B0 h m.i<0) with
    |true=>exact .inr ⟨6,by decide,Z2 q b⟩
    |false=>exact .inl ⟨rfl,.ask (ar4 k3) (ar4 q) (ar5 b) (ai1 q b)⟩
  |false=>
  cases k5:decide (m.k=5) with
  |true=>
   rw [ad9 k1 k3 k5]
   cases b:decide (B0 h m.i<0) with
   |true=>exact .inr ⟨6,by decide,ZG b⟩
   |false=>exact .inl ⟨rfl,.ack (ar4 k5) (ar5 b) (af8 b)⟩
  |false=>
  cases k7:decide (m.k=7) with
  |true=>
   rw [ZM k1 k3 k5 k7]
   exact .inl ⟨rfl,.push (ar4 k7) rfl⟩
  |false=>
  cases k8:decide (m.k=8) with
  |true=>
   rw [ac4 k1 k3 k5 k7 k8]
   cases b:decide (15<m.n) with
   |true=>exact .inr ⟨1,by decide,ZS b⟩
   |false=>exact .inl ⟨rfl,.cache (ar4 k8) (by have:=ar5 b;omega) (ad2 b)⟩
  |false=>
   rw [ag2 k1 k3 k5 k7 k8]
   exact .inr ⟨1,by decide,rfl⟩
theorem Pz (e:(jx h fr m now).e=0):AO h fr m now=true/\HqC h fr m now (jx h fr m now):=by
 rcases R0 h fr m now with g|⟨e',he,g⟩
 ·exact g
 ·rw [g] at e;exact az2 e he
end
theorem xX {l:List Hn} {x:Id} {y:Hn} (h:y∈xq l x):y∈l/\y.1≠x:=by
 have:=au9.1 h
 refine ⟨this.1,λe=>?_⟩
 have h2:=this.2
 rw [ar7 e] at h2
 cases h2
theorem It {l:List Hn} (x:Id) (h:(hk l).Nodup):(hk (xq l x)).Nodup:=h.sublist (List.Sublist.map _ List.filter_sublist)
theorem xa (l:List Hn):(AF l).Sublist l:=by
 unfold AF
 split
 ·exact List.Sublist.refl _
 ·exact List.drop_sublist _ _
theorem Wb {l:List Hn} (h:l.length<=8):(AF l).length<=7:=by
 unfold AF
 split
 ·omega
 ·rw [au7];omega
theorem S5 {now:Int} (h:0<=now):0<=Bj now/\Bj now<=1099511627776:=by unfold Bj;split<;>omega
theorem SE {h:Ho} (R:RH h) (x:Id):RH (PE h x):=
 ⟨R.ws,R.wn,λy hy=>R.hs y (xX hy).1,It x R.hn,R.bx,R.no,R.gt,R.wl,ax0 (HM _ _) R.hl,R.bl⟩
theorem SR {h:Ho} (R:RH h) {x:Id} {n now:Int} (h0:0<=n) (h1:n<=15) (hn:0<=now):RH ⟨h.no,h.gt,h.ws,M8 h.hs x n now,h.bx⟩:=by
 refine ⟨R.ws,R.wn,λy hy=>?_,?_,R.bx,R.no,R.gt,R.wl,?_,R.bl⟩
 ·have hy:y∈AF (xq h.hs x)++[(x,n,Bj now)]:=hy
  rcases av4.1 hy with hy|hy
  ·exact R.hs y (xX ((xa _).mem hy)).1
  ·rw [as9.1 hy]
   exact ⟨⟨h0,h1⟩,S5 hn⟩
 ·show (hk (AF (xq h.hs x)++[(x,n,Bj now)])).Nodup
  unfold hk
  rw [az0,List.nodup_append]
  refine ⟨(It x R.hn).sublist (List.Sublist.map _ (xa _)),by simp,λa ha b hb=>?_⟩
  obtain ⟨y,hy,rfl⟩:=aw4.1 ha
  have hb:b=x:=by simpa using hb
  subst hb
  exact(xX ((xa _).mem hy)).2
 ·show (AF (xq h.hs x)++[(x,n,Bj now)]).length<=8
  rw [as2]
  have:=Wb (l:=xq h.hs x) (ax0 (HM _ _) R.hl)
  simp;omega
theorem Ij {m:Mg} (h:dI m=true) (hk:m.k=8):0<=m.n:=by
 obtain ⟨_,_,_,_,h4,_⟩:=i9 h
 unfold c4 at h4
 rw [hk] at h4
 simp [li] at h4
 exact h4.1
section
variable {h:Ho} {fr:Int} {m:Mg} {now:Int}
theorem JX (e:(jx h fr m now).e=0):cS (jx h fr m now).h=true/\(jx h fr m now).h.no=h.no/\(jx h fr m now).h.gt=h.gt/\(jx h fr m now).h.ws.length=h.ws.length:=by
 obtain ⟨hb,g⟩:=Pz e
 obtain ⟨hr,hn,_,hm⟩:=NB.1 hb
 have R:=oF.1 hr
 cases g with
 |data k q b g=>
  rw [g]
  have hp:=jZ.1 (JR hm k)
  refine ⟨oF.2 ⟨R.ws,R.wn,R.hs,R.hn,λs hs=>?_,R.no,R.gt,R.wl,R.hl,?_⟩,rfl,rfl,rfl⟩
  ·rcases av4.1 hs with hs|hs
   ·exact R.bx s hs
   ·rw [as9.1 hs];exact hp.2.2.2
  ·show (h.bx++[m.d]).length<=32
   have:=R.bl
   rw [as2];simp;omega
 |ask _ _ _ g=>rw [g];exact ⟨hr,rfl,rfl,rfl⟩
 |ack _ _ g=>rw [g];exact ⟨hr,rfl,rfl,rfl⟩
 |push _ g=>rw [g];exact ⟨oF.2 (SE R _),rfl,rfl,rfl⟩
 |cache k b g=>rw [g];exact ⟨oF.2 (SR R (Ij hm k) b hn.1),rfl,rfl,rfl⟩
end
section
variable {h:Ho} {x:Id} {n now:Int}
end
section
variable {h:Ho} {x:Id} {now:Int}
end
end Go.Proofs.YtkhepdpfdhdlaaaGreatDoor
namespace Go.Proofs.YtkhepdpfdhdlaaaGreatDoor
open Go.RowKit Go.ChangeShapes Go.WideShapes Go.ChangeAt
theorem Jt {H:Type} {enc:TypeId × Value->H} {P:Program} {w:World} {base:Nat} {spare:Nat->Bool} {held:Bool} {t tn ti e:TypeId} {g0 g1:Field} {fuel:Nat} {cs:List Value} {x:DataW H × List MemPlace} (T:IdTy P ti e) (hc:P.cellsOf ti=32) (hce:P.cellsOf e=1) (hn:P.underlying tn=some (.int .i64)) (hcn:P.cellsOf tn=1)
 (ht:P.underlying t=some (.struct #[g0,g1])) (k0:g0.type=ti) (k1:g1.type=tn) (p0:g0.offset=0) (p1:g1.offset=32) (hct:P.cellsOf t=33)
 (h:DataW.trod enc P w base spare held fuel t cs=some x):∃ l:Wn,cs=(dc l).toList:=by
 obtain ⟨xs,n,rfl,_,hl,hxl,hel⟩:=DataW.trod_struct ht h
 rw [hct] at hl
 have hx2:xs.length=2:=by simpa using hxl
 have e0:=hel 0 g0 rfl
 have e1:=hel 1 g1 rfl
 rw [k0,p0,hc,as3 (by omega)] at e0
 rw [k1,p1,hcn,as3 (by omega)] at e1
 obtain ⟨a,ha⟩:=lm T hc hce e0
 obtain ⟨u,hu,_⟩:=DataW.trod_int hn e1
 refine ⟨(a,u),?_⟩
 show cs=(aI a).toList++[.int .i64 u]
 rw [← ha,← hu,List.drop_zero]
 have s1:(cs.drop 32).take 1=cs.drop 32:=au4 (by rw [au7];omega)
 rw [s1,au2]
theorem JB {H:Type} {enc:TypeId × Value->H} {P:Program} {w:World} {base:Nat} {spare:Nat->Bool} {held:Bool} {t tn ti e:TypeId} {g0 g1 g2:Field} {fuel:Nat} {cs:List Value} {x:DataW H × List MemPlace} (T:IdTy P ti e) (hc:P.cellsOf ti=32) (hce:P.cellsOf e=1) (hn:P.underlying tn=some (.int .i64)) (hcn:P.cellsOf tn=1)
 (ht:P.underlying t=some (.struct #[g0,g1,g2])) (k0:g0.type=ti) (k1:g1.type=tn) (k2:g2.type=tn) (p0:g0.offset=0) (p1:g1.offset=32) (p2:g2.offset=33) (hct:P.cellsOf t=34)
 (h:DataW.trod enc P w base spare held fuel t cs=some x):∃ l:Hn,cs=(cW l).toList:=by
 obtain ⟨xs,n,rfl,_,hl,hxl,hel⟩:=DataW.trod_struct ht h
 rw [hct] at hl
 have hx2:xs.length=3:=by simpa using hxl
 have e0:=hel 0 g0 rfl
 have e1:=hel 1 g1 rfl
 have e2:=hel 2 g2 rfl
 rw [k0,p0,hc,as3 (by omega)] at e0
 rw [k1,p1,hcn,as3 (by omega)] at e1
 rw [k2,p2,hcn,as3 (by omega)] at e2
 obtain ⟨a,ha⟩:=lm T hc hce e0
 obtain ⟨u,hu,_⟩:=DataW.trod_int hn e1
 obtain ⟨q,hq,_⟩:=DataW.trod_int hn e2
 refine ⟨(a,u,q),?_⟩
 show cs=(aI a).toList++([.int .i64 u]++[.int .i64 q])
 rw [← ha,← hu,← hq,List.drop_zero]
 have s1:(cs.drop 33).take 1=cs.drop 33:=au4 (by rw [au7];omega)
 have s2:(cs.drop 32).take 1++cs.drop 33=cs.drop 32:=by
  have:=au2 1 (cs.drop 32)
  rw [List.drop_drop] at this
  exact this
 rw [s1,s2,au2]
theorem Lu {H:Type} {enc:TypeId × Value->H} {P:Program} {w:World} {base:Nat} {spare:Nat->Bool} {held:Bool} {t:TypeId} {fuel:Nat} {cs:List Value} {x:DataW H × List MemPlace} (hz:P.underlying t=some .string)
 (h:DataW.trod enc P w base spare held fuel t cs=some x):∃ l:ByteArray,cs=(#[Value.string l]:Array Value).toList:=by
 obtain ⟨d9,hd9,_⟩:=DataW.trod_string hz h
 exact ⟨d9,by simpa [Value.cells] using hd9⟩
theorem M0 (ls:List ByteArray):(ls.flatMap λa=>(#[Value.string a]:Array Value).toList)=tP ls:=by
 unfold tP
 induction ls with
 |nil=>rfl
 |cons a l ih=>rw [List.flatMap_cons,List.map_cons,ih];rfl
def MF (P:Program) (T:TypeId) (rv:Value) (nm:String) (f:FuncId) (ru:Value):Prop:=∀ w,(method (P.types.size+Made.depth) T rv nm).run P w=.ok (f,ru) w
theorem Cw {P:Program} {ρ:Operand->Value} {dst:Option Tmp} {g:Option (Nat × Bool)} {ty:TypeId} {pos:String} {af:Array Edge} {f:FuncId} {T:TypeId} {rv ru:Value} {nm:String} {cal:Operand} {tys:Array TypeId} {w:World} (hf:Fnc P f)
 (hm:MF P T rv nm f ru) (hc:ρ cal=.iface T rv) {R:Value->World->Prop} (hC:Calls P f #[ru] w λe w'=>∃ v,e=.returned v/\R v w'):dh P ⟨dst,.call {callee:=.invoke cal nm,args:=#[],argTypes:=tys},ty,pos,af,g⟩ ρ w R:=by
 obtain ⟨fn,h1,h2,h3⟩:=hf.has
 unfold dh
 have hm':=hm w
 simp only [execOp,resolve,hc,aw2,aw3,as4,invoke,callMethod]
 have e0:(#[Value.iface T rv]++Array.map ρ #[])[0]? = some (Value.iface T rv):=by simp
 rw [e0]
 simp only [callMethod,aw2,show ∀ w,Sem.run P program w=.ok P w from λ_=>rfl,as4,hm']
 have e1:#[ru]++(#[Value.iface T rv]++Array.map ρ #[]).extract 1=#[ru]:=by simp
 rw [e1]
 rw [fP h1 h2 h3]
 exact hC
section
variable {P:Program} {ops:Array Oper} {Q:Act->World->Prop} {l:List Oper} {a:Act} {w w0:World} {N:Nat} {L:List (Nat × Value)} {Df:List Deferred} {B:List Own} {d:Tmp} {ty:TypeId} {pos:String} {af:Array Edge}
end
section
variable {P:Program} {ops:List Oper} {K:Act->World->Prop} {l:List Oper} {a:Act} {w:World} {N:Nat} {L:List (Nat × Value)} {Df:List Deferred} {d:Tmp} {ty:TypeId} {pos:String} {af:Array Edge}
theorem lN {f:FuncId} {T9:TypeId} {rv ru X:Value} {nm:String} {cal:Operand} {tys:Array TypeId} (h:Sl N a L Df) (hf:Fnc P f) (hm:MF P T9 rv nm f ru) (hc:ep L cal=some (.iface T9 rv))
 (hC:∀ w',Ext w w'->Calls P f #[ru] w' (cd w' (is X))) (hd:Nat.blt d N=true) (k:∀ a',Sl N a' ((d,X)::L) Df->im P ops.toArray K w l a'):
 im P ops.toArray K w (⟨some d,.call {callee:=.invoke cal nm,args:=#[],argTypes:=tys},ty,pos,af,none⟩::l) a:=
 jY X h (λw' hE=>Cw hf hm (h.ev hc) (hC w' hE)) hd k
variable {ρ:Operand->Value} {e:Option Tmp} {g:Option (Nat × Bool)} {x:Operand} {t:TypeId}
def nmZ:List (List Value):=[(aI 0#256).toList]
theorem pO {i:Id} (S:Stt P t nmZ) (hx:ρ x=.agg (aI i)):a7 P ⟨e,.build t #[(0,x)],ty,pos,af,g⟩ ρ (.agg (aI i)):=by
 have:=bk (P:=P) (ρ:=ρ) (d:=e) (ty:=ty) (pos:=pos) (af:=af) (g:=g) (parts:=#[(0,x)]) S [(0,.agg (aI i))] (by simp [hx]) (λj u hm=>by
  simp only [at1,ax3,at4,or_false] at hm
  rcases hm with ⟨rfl,rfl⟩
  exact ⟨_,rfl,by simp [Value.cells]⟩) (D:=(aI i).toList) (by show (aI i).toList++[]=_;rw [aw9])
 exact this
theorem xF {y z:Operand} {n m:Int} {v:Value} (S:Stt P t Xr) (hv:v.cells.size=1) (hc:v.cells.toList=[v]) (hx:ρ x=.int .i64 n) (hy:ρ y=.int .i64 m) (hz:ρ z=v):a7 P ⟨e,.build t #[(0,x),(1,y),(4,z)],ty,pos,af,g⟩ ρ (.agg (bE n m au au v)):=by
 have:=bk (P:=P) (ρ:=ρ) (d:=e) (ty:=ty) (pos:=pos) (af:=af) (g:=g) (parts:=#[(0,x),(1,y),(4,z)]) S [(0,.int .i64 n),(1,.int .i64 m),(4,v)] (by simp [hx,hy,hz]) (λj u hm=>by
  simp only [at1,ax3,at4,or_false] at hm
  rcases hm with ⟨rfl,rfl⟩|⟨rfl,rfl⟩|⟨rfl,rfl⟩
  ·exact ⟨_,rfl,rfl⟩
  ·exact ⟨_,rfl,rfl⟩
  ·exact ⟨_,rfl,hv⟩) (D:=Mo n m au au v) (by
   show [Value.int .i64 n]++([Value.int .i64 m]++([au]++([au]++(v.cells.toList++[]))))=_
   rw [hc];rfl)
 exact this
end
section
variable {fn:Func} {P:Program} {a:Act} {w:World} {N:Nat} {L:List (Nat × Value)} {R:Ending->World->Prop}
theorem DN {t u:Tmp} {V U:Value} (hr:fn.results=#[.tmp t,.tmp u]) (h:Sl N a L) (hv:lk L t=some V) (hu:lk L u=some U) (hR:R (.returned (.tuple #[V,U])) w):bodyPost P fn R .ret a w:=
 ⟨h.defers,.tuple #[V,U],by rw [results_tmp2 hr,h.holds t V hv,h.holds u U hu],hR⟩
end
section
variable {α:Type} (z:α) (q:α->Bool) (l:List α)
variable {q l}
variable (q l)
variable {q l}
variable {f:α->List Value} {sz:Nat}
end
theorem gQ {α:Type} {C:List α->List Value} {l:List α} {w:World} {a:Option Addr} {n c sz:Nat} (ha:a.isNone=true) (h:br w (.slice a n c) sz l.length (C l)):l=[]:=by
 rcases h.2 with ⟨_,e2⟩|⟨p,c9,e,_⟩
 ·exact List.eq_nil_of_length_eq_zero e2
 ·injection e with e1;subst e1;cases ha
theorem A2 (x:Id):(aI x).extract 0 (0+32)=aI x:=by
 apply Array.ext'
 rw [Array.toList_extract,List.extract_eq_take_drop]
 show (List.drop 0 (aI x).toList).take 32=_
 rw [List.drop_zero,au4 (by rw [as7,aC];exact at6 _)]
theorem VY {l:List Wn} {x:Id} {r:Int} (hr:(r = -1/\∀ y∈l,decide (y.1=x)=false)∨∃ k:Nat,k<l.length/\r=(k:Int)/\decide ((l.getD k gm).1=x)=true/\∀ i,i<k->decide ((l.getD i gm).1=x)=false):r=l7 (wk l) x:=by
 rcases hr with ⟨rfl,h⟩|⟨k,hk,rfl,h,hb⟩
 ·exact(HJ λj hj=>by rw [uH];rw [r5] at hj;exact ar5 (h _ (B1 hj))).symm
 ·exact(wZ (by rw [r5];exact hk) (by rw [uH];exact ar4 h) λj hj=>by rw [uH];exact ar5 (hb j hj)).symm
theorem X3 {l:List Hn} {x:Id} {r:Int} (hr:(r = -1/\∀ y∈l,decide (y.1=x)=false)∨∃ k:Nat,k<l.length/\r=(k:Int)/\decide ((l.getD k eO).1=x)=true/\∀ i,i<k->decide ((l.getD i eO).1=x)=false):r=l7 (hk l) x:=by
 rcases hr with ⟨rfl,h⟩|⟨k,hk',rfl,h,hb⟩
 ·exact(HJ λj hj=>by rw [pP];rw [oV] at hj;exact ar5 (h _ (xm hj))).symm
 ·exact(wZ (by rw [oV];exact hk') (by rw [pP];exact ar4 h) λj hj=>by rw [pP];exact ar5 (hb j hj)).symm
theorem EN {l:List Id} {k:Nat} (hk:k<l.length):decide (0<=l7 (l.take k) (l.getD k 0#256)) = !decide (l7 l (l.getD k 0#256)=(k:Int)):=by
 have key:l7 (l.take k) (l.getD k 0#256)<0↔l7 l (l.getD k 0#256)=(k:Int):=by
  rw [Na]
  constructor
  ·intro h
   refine wZ hk rfl λj hj=>h _ ?_
   have hj2:j<(l.take k).length:=by rw [av5];omega
   rw [← GS (by omega),← List.getElem_take (h:=hj2)]
   exact ax6 hj2
  ·intro h y hy
   obtain ⟨j,hj,rfl⟩:=List.mem_iff_getElem.1 hy
   rw [av5] at hj
   rw [List.getElem_take,GS (by omega)]
   rcases oD l (l.getD k 0#256) with ⟨h1,_⟩|⟨k2,h1,h2,_,h4⟩
   ·omega
   ·exact h4 j (by omega)
 rw [← decide_not]
 exact as8.2 ⟨λh e=>by have:=key.2 e;omega,λh=>by
  rcases Int.lt_or_le (l7 (l.take k) (l.getD k 0#256)) 0 with g|g
  ·exact az2 (key.1 g) h
  ·exact g⟩
theorem Rm {l:List Wn} {k:Nat} (h9:k<l.length):decide (0<=l7 (wk (l.take k)) (l.getD k gm).1) = !decide (l7 (wk l) (l.getD k gm).1=(k:Int)):=by
 have:=EN (l:=wk l) (k:=k) (by rw [r5];exact h9)
 rw [uH] at this
 rw [show wk (l.take k)=(wk l).take k from List.map_take ..]
 exact this
theorem Q7 {l:List Hn} {k:Nat} (h9:k<l.length):decide (0<=l7 (hk (l.take k)) (l.getD k eO).1) = !decide (l7 (hk l) (l.getD k eO).1=(k:Int)):=by
 have:=EN (l:=hk l) (k:=k) (by rw [oV];exact h9)
 rw [pP] at this
 rw [show hk (l.take k)=(hk l).take k from List.map_take ..]
 exact this
def GR (l:List Wn):Bool:=decide (l.length<=8) && (List.range l.length).all (Gt l)
def Ll (l:List Hn):Bool:=decide (l.length<=8) && (List.range l.length).all (mO l)
def QH (x:Hn):Bool:=gv x.2.1 0 15 && gv x.2.2 0 1099511627776
theorem Tq {l:List Wn} (h:8<l.length):GR l=false:=by unfold GR;rw [ar6 (by omega)];rfl
theorem UD {l:List Hn} (h:8<l.length):Ll l=false:=by unfold Ll;rw [ar6 (by omega)];rfl
theorem QI {l:List Wn} {k:Nat} (hk:k<l.length) (e:Gt l k=false):GR l=false:=by
 unfold GR
 rw [show (List.range l.length).all (Gt l)=false from by
  rw [List.all_eq_false];exact ⟨k,at2.2 hk,by rw [e];decide⟩,Bool.and_false]
theorem Q6 {l:List Hn} {k:Nat} (hk:k<l.length) (e:mO l k=false):Ll l=false:=by
 unfold Ll
 rw [show (List.range l.length).all (mO l)=false from by
  rw [List.all_eq_false];exact ⟨k,at2.2 hk,by rw [e];decide⟩,Bool.and_false]
theorem Vd {l:List Wn} (h:l.length<=8) (e:∀ j,j<l.length->Gt l j=true):GR l=true:=by unfold GR;rw [l6 e,ar7 h];rfl
theorem TL {l:List Hn} (h:l.length<=8) (e:∀ j,j<l.length->mO l j=true):Ll l=true:=by unfold Ll;rw [l6 e,ar7 h];rfl
theorem YG {l:List Hn} {k:Nat} (h:QH (l.getD k eO)=false):mO l k=false:=by
 unfold QH at h;unfold mO
 rw [← Bool.and_assoc,h];rfl
theorem Qk {l:List Hn} {k:Nat} (h:QH (l.getD k eO)=true) {b:Bool} (h2:decide (l7 (hk l) (l.getD k eO).1=(k:Int))=b):mO l k=b:=by
 unfold QH at h;unfold mO
 rw [← Bool.and_assoc,h,h2];rfl
def uQ (s:ByteArray):Bool:=decide (64<s.size)
def Va (h:Ho):Bool:=gv h.no 0 15 && (gv h.gt 0 15 && (GR h.ws && (Ll h.hs && (decide (h.bx.length<=32) && !h.bx.any uQ))))
theorem TN (l:List ByteArray):(List.range l.length).all (SY l) = !l.any uQ:=by
 cases e:l.any uQ with
 |false=>
  refine l6 λj hj=>ar7 ?_
  have:=ay0.1 e _ (AW hj)
  unfold uQ at this
  rw [as5] at this;omega
 |true=>
  obtain ⟨s,hs,h9⟩:=ax9.1 e
  obtain ⟨j,hj,rfl⟩:=List.mem_iff_getElem.1 hs
  show _=false
  rw [List.all_eq_false]
  refine ⟨j,at2.2 hj,?_⟩
  unfold SY
  unfold uQ at h9
  rw [← Uy hj,as5]
  have:=ar4 h9;omega
theorem o6 (h:Ho):Va h=cS h:=by
 unfold Va cS VV GR Ll
 rw [TN]
 generalize gv h.no 0 15=a;generalize gv h.gt 0 15=b;generalize decide (h.ws.length<=8)=c;generalize decide (h.hs.length<=8)=d;generalize decide (h.bx.length<=32)=e
 generalize (List.range h.ws.length).all (Gt h.ws)=f;generalize (List.range h.hs.length).all (mO h.hs)=g;generalize (!h.bx.any uQ)=i
 cases a<;>cases b<;>cases c<;>cases d<;>cases e<;>cases f<;>cases g<;>cases i<;>rfl
section
variable {h:Ho}
theorem YF (a:gv h.no 0 15=false):cS h=false:=by rw [← o6];unfold Va;rw [a];rfl
theorem Ws (a:gv h.no 0 15=true) (b:gv h.gt 0 15=false):cS h=false:=by rw [← o6];unfold Va;rw [a,b];rfl
theorem Yp (a:gv h.no 0 15=true) (b:gv h.gt 0 15=true) (c:GR h.ws=false):cS h=false:=by rw [← o6];unfold Va;rw [a,b,c];rfl
theorem Yi (a:gv h.no 0 15=true) (b:gv h.gt 0 15=true) (c:GR h.ws=true) (d:Ll h.hs=false):cS h=false:=by rw [← o6];unfold Va;rw [a,b,c,d];rfl
theorem RJ (a:gv h.no 0 15=true) (b:gv h.gt 0 15=true) (c:GR h.ws=true) (d:Ll h.hs=true) {e:Bool} (f:decide (h.bx.length<=32)=e):cS h=(e && !h.bx.any uQ):=by rw [← o6];unfold Va;rw [a,b,c,d,f];rfl
end
def OwH (w:World) (N1 N2 N3:TypeId) (h:Ho):dz:=λv w'=>∃ a b c,v=.agg (bE h.no h.gt a b c)/\St w [.sl a N1 33 h.ws.length (cX h.ws),.sl b N2 34 h.hs.length (cV h.hs),.sl c N3 1 h.bx.length (tP h.bx)] w'
section
variable {w w':World} {vw vh vi:Value} {h:Ho} {N1 N2 N3:TypeId}
theorem Qg {H:Ho} {E e:Int} (hH:H=oT) (hE:E=e) (s:St w [] w'):HoP w vw vh vi h H E (.tuple #[.agg (bE 0 0 au au au),.int .i64 e]) w':=by
 subst hH;subst hE
 exact ⟨au,au,au,[],rfl,s.grp0 (S:=λw9=>ma w9 vw vh vi h->ma w9 au au au oT) λw9 _=>XJ w9⟩
end
theorem Km {w w':World} {a b c:Value} {h:Ho} {N1 N2 N3:TypeId} {B:List Own} (s:St w (.sl a N1 33 h.ws.length (cX h.ws)::.sl b N2 34 h.hs.length (cV h.hs)::.sl c N3 1 h.bx.length (tP h.bx)::B) w'):∃ ks,St w (.grp ks (λw9=>ma w9 a b c h)::B) w':=by
 have s:=s.grp0 (S:=λ_=>True) (λ_=>trivial)
 obtain ⟨k1,s⟩:=(s.perm (ay8 ..)).grp1 (S':=λw9=>br w9 a 33 h.ws.length (cX h.ws)) (λw9 h9 _=>h9)
 obtain ⟨k2,s⟩:=(s.perm (ay8 ..)).grp1 (S':=λw9=>br w9 a 33 h.ws.length (cX h.ws)/\br w9 b 34 h.hs.length (cV h.hs)) (λw9 h9 h8=>⟨h8,h9⟩)
 exact(s.perm (ay8 ..)).grp1 (S':=λw9=>ma w9 a b c h) (λw9 h9 h8=>⟨h8.1,h8.2,h9⟩)
theorem R4 {l:List ByteArray} {r:Int} (hr:(r = -1/\∀ x∈l,uQ x=false)∨∃ k:Nat,k<l.length/\r=(k:Int)/\uQ (l.getD k ByteArray.empty)=true):decide (r≥0)=l.any uQ:=by
 rcases hr with ⟨rfl,h⟩|⟨k,hk,rfl,h⟩
 ·rw [ay0.2 λx hx=>by rw [h x hx];decide];rfl
 ·rw [ax9.2 ⟨_,AW hk,h⟩,ar7 (by omega)]
theorem IE (n g:Int):cS ⟨n,g,[],[],[]⟩=(gv n 0 15 && gv g 0 15):=by
 rw [← o6]
 show (gv n 0 15 && (gv g 0 15 && true))=_
 rw [Bool.and_true]
theorem Of {w w':World} {n g:Int} (s:St w [] w'):HoP w au au au oT ⟨n,g,[],[],[]⟩ 0 (.tuple #[.agg (bE n g au au au),.int .i64 0]) w':=
 ⟨au,au,au,[],rfl,s.grp0 (S:=λw9=>ma w9 au au au oT->ma w9 au au au ⟨n,g,[],[],[]⟩) λw9 _=>jS w9 n g⟩
section
variable {w w':World} {vw vh vi vl:Value} {h:Ho} {now:Int} {N:TypeId} {l:List dN} {d:ByteArray}
theorem qC {e:Int} (hE:lQ h l d now=e/\cz h l d now=Vy) (s:St w [] w'):Z8 w vl l (cz h l d now) (lQ h l d now) (.tuple #[.agg (cH 0 mZ au eA),.int .i64 e]) w':=by
 rw [hE.1,hE.2]
 exact ⟨au,[],rfl,s.grp0 (S:=λw9=>gf w9 vl l->gf w9 au Vy.2.1.l) λw9 _=>bO w9⟩
theorem HR {u:Value} (hE:lQ h l d now=0/\cz h l d now=uk h l d now) (s:St w [.sl u N 34 l.length (eo l)] w'):Z8 w vl l (cz h l d now) (lQ h l d now) (.tuple #[.agg (cH (xb h l now) (S7 l d) u eA),.int .i64 0]) w':=by
 rw [hE.1,hE.2]
 obtain ⟨kn,s⟩:=((s.grp0 (S:=λ_=>True) (λ_=>trivial)).perm (ay8 ..)).grp1 (S':=λw9=>gf w9 vl l->gf w9 u (uk h l d now).2.1.l) (λw9 h9 _ _=>h9)
 exact ⟨u,kn,rfl,s⟩
end
section
variable {h:Ho} {fr:Int} {m:Mg} {now:Int}
end
section
variable {w w':World} {h:Ho} {fr:Int} {m:Mg} {e:Int} {N:TypeId}
end
section
variable {w0 w9:World} {bi:Nat} {N N1 N2 N3:TypeId} {B9:List Own} {h H:Ho} {fr:Int} {m:Mg} {now E n g:Int} {a b c:Value}
end
section
variable {w w':World} {vw vh vi vs:Value} {h:Ho} {l:List dN} {fr:Int} {m:Mg} {now e:Int} {N1 N2:TypeId}
end
end Go.Proofs.YtkhepdpfdhdlaaaGreatDoor
