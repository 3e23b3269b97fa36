/- Hosts: wants, hints, an inbox; what they ask, send, take; hosts that come in; no Go in it. -/
import Derived.Test.YthmlflaiidhoiaaGreatDoorSv
set_option linter.unusedVariables false
set_option linter.unusedSimpArgs false
set_option linter.unusedSectionVars false
namespace Go.Proofs.YthmlflaiidhoiaaGreatDoor
open Go.RowKit
abbrev Wn:=Id × Int
abbrev Hn:=Id × Int × Int
structure Ho where
 no:Int
 gt:Int
 ws:List Wn
 hs:List Hn
 bx:List ByteArray
deriving DecidableEq
def EU:Ho:=⟨0,0,[],[],[]⟩
def iI:Wn:=(0#256,0)
def ij:Hn:=(0#256,0,0)
def G8 (t:Wn):List Value:=(aJ t.1).toList++[.int .i64 t.2]
def dq (t:Wn):Array Value:=(G8 t).toArray
theorem wz (t:Wn):(G8 t).length=33:=by simp [G8]
theorem cR (t:Wn):(dq t).size=33:=by simp [dq,wz]
theorem AT (t:Wn):∀ v∈G8 t,v.oneCell'=true:=λv hv=>by
 unfold G8 at hv
 rcases at9.1 hv with hv|hv
 ·rw [fh] at hv;exact ff _ _ v hv
 ·rw [ar4] at hv;subst hv;rfl
theorem nV (t:Wn):∀ v∈(dq t).toList,v.oneCell'=true:=AT t
theorem XX (t:Wn):((dq t).toList.drop 0).take 32=(aJ t.1).toList:=by
 show ((G8 t).drop 0).take 32=_
 unfold G8
 rw [List.drop_zero,List.take_left' (dp _)]
theorem zh (t:Wn):(dq t).extract 0 (0+32)=aJ t.1:=oD _ _ _ _ (XX t)
theorem nC (t:Wn):(dq t)[32]? = some (.int .i64 t.2):=by
 unfold dq G8
 rw [as8,at7 (by rw [dp];exact as1 _),dp];rfl
def ZD:List (List Value):=[(aJ 0#256).toList,[.int .i64 0]]
theorem DI:dq iI=ZD.flatten.toArray:=by unfold dq G8 iI ZD;simp
def cm (l:List Wn):List Value:=l.flatMap G8
theorem yW (l r:List Wn):cm (l++r)=cm l++cm r:=av2
theorem yG (t:Wn):cm [t]=(dq t).toList:=by simp [cm,dq]
theorem wQ (l:List Wn):∀ u∈cm l,u.oneCell'=true:=λu hu=>by
 obtain ⟨x,_,hx⟩:=List.mem_flatMap.1 hu
 exact AT x u hx
theorem XM (m:Wn):∀ v∈([.agg (dq m)]:List Value),v.cells.size=33:=λv hv=>by
 rw [ar4] at hv;subst hv;exact cR m
theorem G9 (m:Wn):([Value.agg (dq m)].flatMap λv=>v.cells.toList)=(dq m).toList:=by simp [Value.cells]
theorem Qa (l:List Wn) (x:Wn):cm l++(dq x).toList=cm (l++[x]):=by rw [yW,yG]
theorem ZW {l:List Wn} {j:Nat} (hj:j<l.length):l[j]=l.getD j iI:=by
 rw [as6,aq8 hj];rfl
theorem Jb (l:List Wn) (j:Nat) (hj:j<l.length):(((cm l).drop (j*33)).take 33).toArray=dq (l.getD j iI):=by
 unfold cm
 rw [fS _ 33 wz l j hj,ZW hj];rfl
theorem xz {l:List Wn} {j:Nat} (hj:j<l.length):l.getD j iI∈l:=by rw [← ZW hj];exact aw0 hj
theorem Rv {l:List Wn} {x:Wn} (h:x∈l):∃ j,j<l.length/\l.getD j iI=x:=by
 obtain ⟨j,hj,rfl⟩:=List.mem_iff_getElem.1 h
 exact ⟨j,hj,(ZW hj).symm⟩
theorem Di {w:World} {v:Value} {l:List Wn} (h:a7 w v 33 l.length (cm l)) (k:Nat) (hk:k<=l.length):a7 w (gG v k) 33 (l.take k).length (cm (l.take k)):=by
 have:=h.cut k hk
 unfold cm at this
 rw [gE _ 33 wz] at this
 rw [au0,Nat.min_eq_left hk]
 exact this
def Gn (t:Hn):List Value:=(aJ t.1).toList++[.int .i64 t.2.1,.int .i64 t.2.2]
def dh (t:Hn):Array Value:=(Gn t).toArray
theorem xj (t:Hn):(Gn t).length=34:=by simp [Gn]
theorem cP (t:Hn):(dh t).size=34:=by simp [dh,xj]
theorem yZ (t:Hn):∀ v∈Gn t,v.oneCell'=true:=λv hv=>by
 unfold Gn at hv
 rcases at9.1 hv with hv|hv
 ·rw [fh] at hv;exact ff _ _ v hv
 ·simp only [ar6,ar9,or_false] at hv
  rcases hv with rfl|rfl<;>rfl
theorem mY (t:Hn):∀ v∈(dh t).toList,v.oneCell'=true:=yZ t
theorem X4 (t:Hn):((dh t).toList.drop 0).take 32=(aJ t.1).toList:=by
 show ((Gn t).drop 0).take 32=_
 unfold Gn
 rw [List.drop_zero,List.take_left' (dp _)]
theorem yN (t:Hn):(dh t).extract 0 (0+32)=aJ t.1:=oD _ _ _ _ (X4 t)
theorem zZ (t:Hn):(dh t)[32]? = some (.int .i64 t.2.1):=by
 unfold dh Gn
 rw [as8,at7 (by rw [dp];exact as1 _),dp];rfl
theorem qo (t:Hn):(dh t)[33]? = some (.int .i64 t.2.2):=by
 unfold dh Gn
 rw [as8,at7 (by rw [dp];omega),dp];rfl
def ZS:List (List Value):=[(aJ 0#256).toList,[.int .i64 0],[.int .i64 0]]
theorem Dp:dh ij=ZS.flatten.toArray:=by unfold dh Gn ij ZS;simp
def cG (l:List Hn):List Value:=l.flatMap Gn
theorem za (l r:List Hn):cG (l++r)=cG l++cG r:=av2
theorem zH (t:Hn):cG [t]=(dh t).toList:=by simp [cG,dh]
theorem yu (l:List Hn):∀ u∈cG l,u.oneCell'=true:=λu hu=>by
 obtain ⟨x,_,hx⟩:=List.mem_flatMap.1 hu
 exact yZ x u hx
theorem Y0 (m:Hn):∀ v∈([.agg (dh m)]:List Value),v.cells.size=34:=λv hv=>by
 rw [ar4] at hv;subst hv;exact cP m
theorem Lv (m:Hn):([Value.agg (dh m)].flatMap λv=>v.cells.toList)=(dh m).toList:=by simp [Value.cells]
theorem Ol (l:List Hn) (x:Hn):cG l++(dh x).toList=cG (l++[x]):=by rw [za,zH]
theorem ZA {l:List Hn} {j:Nat} (hj:j<l.length):l[j]=l.getD j ij:=by
 rw [as6,aq8 hj];rfl
theorem Hu (l:List Hn) (j:Nat) (hj:j<l.length):(((cG l).drop (j*34)).take 34).toArray=dh (l.getD j ij):=by
 unfold cG
 rw [fS _ 34 xj l j hj,ZA hj];rfl
theorem xg {l:List Hn} {j:Nat} (hj:j<l.length):l.getD j ij∈l:=by rw [← ZA hj];exact aw0 hj
theorem RI {l:List Hn} {x:Hn} (h:x∈l):∃ j,j<l.length/\l.getD j ij=x:=by
 obtain ⟨j,hj,rfl⟩:=List.mem_iff_getElem.1 h
 exact ⟨j,hj,(ZA hj).symm⟩
theorem EN {w:World} {v:Value} {l:List Hn} (h:a7 w v 34 l.length (cG l)) (k:Nat) (hk:k<=l.length):a7 w (gG v k) 34 (l.take k).length (cG (l.take k)):=by
 have:=h.cut k hk
 unfold cG at this
 rw [gE _ 34 xj] at this
 rw [au0,Nat.min_eq_left hk]
 exact this
def uN (l:List ByteArray):List Value:=l.map Value.string
theorem IZ (l:List ByteArray):∀ u∈uN l,u.oneCell'=true:=λu hu=>by
 obtain ⟨x,_,rfl⟩:=au9.1 hu
 rfl
theorem WK {l:List ByteArray} {j:Nat} (hj:j<l.length):l[j]=l.getD j ByteArray.empty:=by
 rw [as6,aq8 hj];rfl
theorem SK {l:List ByteArray} {j:Nat} (hj:j<l.length):(uN l)[j]? = some (.string (l.getD j ByteArray.empty)):=by
 unfold uN
 rw [av0,aq8 hj,WK hj];rfl
theorem CO {l:List ByteArray} {j:Nat} (hj:j<l.length):l.getD j ByteArray.empty∈l:=by rw [← WK hj];exact aw0 hj
def Yh (n g:Int) (vw vh vi:Value):List Value:=[.int .i64 n,.int .i64 g,vw,vh,vi]
def cB (n g:Int) (vw vh vi:Value):Array Value:=(Yh n g vw vh vi).toArray
theorem ct (n g:Int) (vw vh vi:Value):(cB n g vw vh vi).size=5:=rfl
theorem kB {vw vh vi:Value} (n g:Int) (h1:vw.oneCell'=true) (h2:vh.oneCell'=true) (h3:vi.oneCell'=true):∀ u∈(cB n g vw vh vi).toList,u.oneCell'=true:=λu hu=>by
 have hu:u∈Yh n g vw vh vi:=hu
 unfold Yh at hu
 simp only [ar6,ar9,or_false] at hu
 rcases hu with rfl|rfl|rfl|rfl|rfl
 ·rfl
 ·rfl
 ·exact h1
 ·exact h2
 ·exact h3
section
variable (n g:Int) (vw vh vi x:Value)
theorem TX:(cB n g vw vh vi)[0]? = some (.int .i64 n):=rfl
theorem Wk:(cB n g vw vh vi)[1]? = some (.int .i64 g):=rfl
theorem N9:(cB n g vw vh vi)[2]? = some vw:=rfl
theorem Od:(cB n g vw vh vi)[3]? = some vh:=rfl
theorem OB:(cB n g vw vh vi)[4]? = some vi:=rfl
end
def hoZ:List (List Value):=[[.int .i64 0],[.int .i64 0],[.slice none 0 0],[.slice none 0 0],[.slice none 0 0]]
def EV (w:World) (vw vh vi:Value) (h:Ho):Prop:=a7 w vw 33 h.ws.length (cm h.ws)/\a7 w vh 34 h.hs.length (cG h.hs)/\a7 w vi 1 h.bx.length (uN h.bx)
theorem EV.keep {w w':World} {vw vh vi:Value} {h:Ho} (H:EV w vw vh vi h) (e:Ext w w'):EV w' vw vh vi h:=⟨H.1.keep e,H.2.1.keep e,H.2.2.keep e⟩
def l8 (l:List Id) (x:Id):Int:=if l.findIdx (λy=>decide (y=x))<l.length then ((l.findIdx (λy=>decide (y=x)):Nat):Int) else -1
theorem G7 {l:List Id} {j:Nat} (hj:j<l.length):l[j]=l.getD j 0#256:=by
 rw [as6,aq8 hj];rfl
theorem x7 {l:List Id} {x:Id} {k:Nat} (hk:k<l.length) (h:l.getD k 0#256=x) (hb:∀ j,j<k->l.getD j 0#256≠x):l8 l x=(k:Int):=by
 have e:l.findIdx (λy=>decide (y=x))=k:=by
  rw [List.findIdx_eq hk]
  refine ⟨by rw [G7 hk,h];simp,λj hj=>?_⟩
  rw [G7 (by omega)]
  exact aq1 (hb j hj)
 unfold l8
 rw [e,if_pos hk]
theorem K7 {l:List Id} {x:Id} (h:∀ j,j<l.length->l.getD j 0#256≠x):l8 l x = -1:=by
 have e:l.findIdx (λy=>decide (y=x))=l.length:=by
  rw [List.findIdx_eq_length]
  intro y hy
  obtain ⟨j,hj,rfl⟩:=List.mem_iff_getElem.1 hy
  rw [G7 hj]
  simpa using h j hj
 unfold l8
 rw [e,if_neg (Nat.lt_irrefl _)]
theorem qi (l:List Id) (x:Id):(l8 l x = -1/\∀ y∈l,y≠x)∨∃ k,k<l.length/\l8 l x=(k:Int)/\l.getD k 0#256=x/\∀ j,j<k->l.getD j 0#256≠x:=by
 by_cases h:l.findIdx (λy=>decide (y=x))<l.length
 ·refine .inr ⟨_,h,by unfold l8;rw [if_pos h],?_,λj hj=>?_⟩
  ·rw [← G7 h]
   have:=List.findIdx_getElem (w:=h)
   simpa using this
  ·rw [← G7 (by omega)]
   have:=List.not_of_lt_findIdx hj
   simpa using this
 ·refine .inl ⟨by unfold l8;rw [if_neg h],λy hy=>?_⟩
  have e:l.findIdx (λy=>decide (y=x))=l.length:=by have:=List.findIdx_le_length (p:=λy=>decide (y=x)) (xs:=l);omega
  rw [List.findIdx_eq_length] at e
  simpa using e y hy
theorem ED {l:List Id} {x:Id}:l8 l x<0↔∀ y∈l,y≠x:=by
 rcases qi l x with ⟨h,g⟩|⟨k,hk,h,h1,_⟩
 ·rw [h];exact ⟨λ_=>g,λ_=>by decide⟩
 ·rw [h]
  refine ⟨λh=>by omega,λg=>ax7 h1 (g _ ?_)⟩
  rw [← G7 hk];exact aw0 hk
theorem l5 {l:List Id}:(∀ j,j<l.length->l8 l (l.getD j 0#256)=(j:Int))↔l.Nodup:=by
 unfold List.Nodup
 rw [List.pairwise_iff_getElem]
 constructor
 ·intro h a b ha hb hab e
  have h1:=h a ha
  have h2:=h b hb
  rw [← G7 ha] at h1
  rw [← G7 hb] at h2
  rw [e,h2] at h1
  omega
 ·intro h j hj
  refine x7 hj rfl λi hi e=>?_
  rw [← G7 (by omega),← G7 hj] at e
  exact h i j (by omega) hj hi e
def wk (l:List Wn):List Id:=l.map (·.1)
def hk (l:List Hn):List Id:=l.map (·.1)
theorem p6 (l:List Wn):(wk l).length=l.length:=au1 ..
theorem rM (l:List Hn):(hk l).length=l.length:=au1 ..
theorem qp (l:List Wn) (j:Nat):(wk l).getD j 0#256=(l.getD j iI).1:=by
 unfold wk
 rw [as6,as6,av0]
 cases l[j]? <;> rfl
theorem vF (l:List Hn) (j:Nat):(hk l).getD j 0#256=(l.getD j ij).1:=by
 unfold hk
 rw [as6,as6,av0]
 cases l[j]? <;> rfl
def gh (n a b:Int):Bool:=decide (a<=n) && decide (n<=b)
theorem fD {n a b:Int}:gh n a b=true↔a<=n/\n<=b:=by unfold gh;rw [aq5,ar0,ar0]
def Fq (l:List Wn) (j:Nat):Bool:=gh (l.getD j iI).2 1 1048576 && decide (l8 (wk l) (l.getD j iI).1=(j:Int))
def qc (l:List Hn) (j:Nat):Bool:=gh (l.getD j ij).2.1 0 15 && (gh (l.getD j ij).2.2 0 1099511627776 && decide (l8 (hk l) (l.getD j ij).1=(j:Int)))
def UF (l:List ByteArray) (j:Nat):Bool:=decide ((l.getD j ByteArray.empty).size<=64)
def Zz (h:Ho):Bool:=gh h.no 0 15 && (gh h.gt 0 15 && (decide (h.ws.length<=8) && (decide (h.hs.length<=8) && decide (h.bx.length<=32))))
def cp (h:Ho):Bool:=(List.range h.ws.length).all (Fq h.ws) && ((List.range h.hs.length).all (qc h.hs) && ((List.range h.bx.length).all (UF h.bx) && Zz h))
theorem mc {p:Nat->Bool} {n:Nat} (h:∀ j,j<n->p j=true):(List.range n).all p=true:=aq6.2 λj hj=>h j (ar7.1 hj)
theorem o7 {p:Nat->Bool} {n:Nat} (h:(List.range n).all p=true) {j:Nat} (hj:j<n):p j=true:=aq6.1 h j (ar7.2 hj)
structure RH (h:Ho):Prop where
 ws:∀ x∈h.ws,1<=x.2/\x.2<=1048576
 wn:(wk h.ws).Nodup
 hs:∀ x∈h.hs,(0<=x.2.1/\x.2.1<=15)/\0<=x.2.2/\x.2.2<=1099511627776
 hn:(hk h.hs).Nodup
 bx:∀ s∈h.bx,s.size<=64
 no:0<=h.no/\h.no<=15
 gt:0<=h.gt/\h.gt<=15
 wl:h.ws.length<=8
 hl:h.hs.length<=8
 bl:h.bx.length<=32
theorem w5 {l:List Wn} {j:Nat}:Fq l j=true↔(1<=(l.getD j iI).2/\(l.getD j iI).2<=1048576)/\l8 (wk l) (l.getD j iI).1=(j:Int):=by unfold Fq;rw [aq5,fD,ar0]
theorem sr {l:List Hn} {j:Nat}:qc l j=true↔(0<=(l.getD j ij).2.1/\(l.getD j ij).2.1<=15)/\(0<=(l.getD j ij).2.2/\(l.getD j ij).2.2<=1099511627776)/\l8 (hk l) (l.getD j ij).1=(j:Int):=by unfold qc;rw [aq5,aq5,fD,fD,ar0]
theorem Ox {h:Ho}:Zz h=true↔(0<=h.no/\h.no<=15)/\(0<=h.gt/\h.gt<=15)/\h.ws.length<=8/\h.hs.length<=8/\h.bx.length<=32:=by
 unfold Zz
 rw [aq5,aq5,aq5,aq5,fD,fD,ar0,ar0,ar0]
theorem fM {h:Ho}:cp h=true↔RH h:=by
 unfold cp
 rw [aq5,aq5,aq5,Ox]
 constructor
 ·rintro ⟨h1,h2,h3,h4,h5,h6,h7,h8⟩
  refine ⟨λx hx=>?_,l5.1 λj hj=>?_,λx hx=>?_,l5.1 λj hj=>?_,λx hx=>?_,h4,h5,h6,h7,h8⟩
  ·obtain ⟨j,hj,rfl⟩:=Rv hx
   exact(w5.1 (o7 h1 hj)).1
  ·rw [p6] at hj;rw [qp]
   exact(w5.1 (o7 h1 hj)).2
  ·obtain ⟨j,hj,rfl⟩:=RI hx
   have:=sr.1 (o7 h2 hj)
   exact ⟨this.1,this.2.1⟩
  ·rw [rM] at hj;rw [vF]
   exact(sr.1 (o7 h2 hj)).2.2
  ·obtain ⟨j,hj,rfl⟩:=List.mem_iff_getElem.1 hx
   rw [WK hj]
   exact ap9 (o7 h3 hj)
 ·intro R
  refine ⟨mc λj hj=>w5.2 ⟨R.ws _ (xz hj),?_⟩,mc λj hj=>sr.2 ⟨(R.hs _ (xg hj)).1,(R.hs _ (xg hj)).2,?_⟩,mc λj hj=>aq2 (R.bx _ (CO hj)),R.no,R.gt,R.wl,R.hl,R.bl⟩
  ·have:=l5.2 R.wn j (by rw [p6];exact hj)
   rwa [qp] at this
  ·have:=l5.2 R.hn j (by rw [rM];exact hj)
   rwa [vF] at this
def p9 (h:Ho) (x:Id):Int:=l8 (wk h.ws) x
def htI (h:Ho) (x:Id):Int:=l8 (hk h.hs) x
def Zf (h:Ho) (x:Id) (now:Int):Int:=bif decide (0<=htI h x) && decide (now<(h.hs.getD (htI h x).toNat ij).2.2) then (h.hs.getD (htI h x).toNat ij).2.1 else h.gt
def jp (h:Ho):eA:=(2,0#256,h.no)
def Y9 (h:Ho) (x:Wn):Mg:=⟨2,x.1,jp h,[],x.2,⟨#[]⟩,⟨#[]⟩⟩
def aa6 (h:Ho) (now:Int) (x:Wn):Se:=(Zf h x.1 now,Y9 h x,cr)
def I6 (h:Ho) (now:Int):List Se:=h.ws.map (aa6 h now)
def YK (l:List eA) (d:ByteArray):Mg:=⟨1,0#256,(0,0#256,0),l,64,⟨#[]⟩,d⟩
def ad4 (h:Ho) (l:List eA) (now:Int):Int:=bif decide ((l.getD 0 (0,0#256,0)).1=1) then Zf h (l.getD 0 (0,0#256,0)).2.1 now else h.gt
def J0 (h:Ho) (l:List eA) (d:ByteArray) (now:Int):Se:=(ad4 h l now,YK l d,cr)
def w6 (l:List Hn) (x:Id):List Hn:=l.filter λy => !decide (y.1=x)
def MC (h:Ho) (x:Id):Ho:=⟨h.no,h.gt,h.ws,w6 h.hs x,h.bx⟩
def BS (now:Int):Int:=if 1099511627776<now+1000 then 1099511627776 else now+1000
def zg (l:List Hn):List Hn:=if l.length<8 then l else l.drop 1
def Mu (l:List Hn) (x:Id) (n now:Int):List Hn:=zg (w6 l x)++[(x,n,BS now)]
structure Hq where
 h:Ho
 l:List Se
 e:Int
def ia (e:Int):Hq:=⟨EU,[],e⟩
def FY (h:Ho) (m:Mg) (now:Int):Hq:=bif decide (15<m.n) then ia 1 else ⟨⟨h.no,h.gt,h.ws,Mu h.hs m.i m.n now,h.bx⟩,[],0⟩
def Mx (h:Ho) (m:Mg):Mg:=⟨4,m.i,m.t,[],(h.ws.getD (p9 h m.i).toNat iI).2,m.o,⟨#[]⟩⟩
def qE (h:Ho) (m:Mg):Hq:=bif !decide (m.l.getD 0 (0,0#256,0)=jp h) then ia 1 else bif decide (h.bx.length=32) then ia 8 else ⟨⟨h.no,h.gt,h.ws,h.hs,h.bx++[m.d]⟩,[],0⟩
def Ak (h:Ho) (fr:Int) (m:Mg):Hq:=bif !decide (m.t=jp h) then ia 1 else bif decide (p9 h m.i<0) then ia 6 else ⟨h,[(fr,Mx h m,cr)],0⟩
def GS (h:Ho) (m:Mg):Hq:=bif decide (p9 h m.i<0) then ia 6 else ⟨h,[],0⟩
def pf (h:Ho) (fr:Int) (m:Mg) (now:Int):Hq:=
 bif decide (m.k=1) then qE h m else bif decide (m.k=3) then Ak h fr m else bif decide (m.k=5) then GS h m else bif decide (m.k=7) then ⟨MC h m.i,[],0⟩ else bif decide (m.k=8) then FY h m now else ia 1
def yR (h:Ho) (fr:Int) (m:Mg) (now:Int):Bool:=cp h && (gh now 0 1099511627776 && (gh fr 0 31 && cn m))
def eD (h:Ho) (fr:Int) (m:Mg) (now:Int):Hq:=bif yR h fr m now then pf h fr m now else ia 1
section
variable {P:Program} {ρ:Operand->Value} {d:Option Tmp} {ty:TypeId} {pos:String} {af:Array Edge} {g:Option (Nat × Bool)} {x y z u:Operand} {t:TypeId}
theorem zR {i:Id} {n:Int} (S:Stt P t ZD) (hx:ρ x=.agg (aJ i)) (hy:ρ y=.int .i64 n):a8 P ⟨d,.build t #[(0,x),(1,y)],ty,pos,af,g⟩ ρ (.agg (dq (i,n))):=by
 have:=cx (P:=P) (ρ:=ρ) (d:=d) (ty:=ty) (pos:=pos) (af:=af) (g:=g) (parts:=#[(0,x),(1,y)]) S [(0,.agg (aJ i)),(1,.int .i64 n)] (by simp [hx,hy]) (λj u hm=>by
  simp only [ar6,av8,ar9,or_false] at hm
  rcases hm with ⟨rfl,rfl⟩|⟨rfl,rfl⟩
  ·exact ⟨_,rfl,by simp [Value.cells]⟩
  ·exact ⟨_,rfl,rfl⟩) (D:=G8 (i,n)) (by unfold G8;rfl)
 exact this
theorem yS {i:Id} {n m:Int} (S:Stt P t ZS) (hx:ρ x=.agg (aJ i)) (hy:ρ y=.int .i64 n) (hz:ρ z=.int .i64 m):a8 P ⟨d,.build t #[(0,x),(1,y),(2,z)],ty,pos,af,g⟩ ρ (.agg (dh (i,n,m))):=by
 have:=cx (P:=P) (ρ:=ρ) (d:=d) (ty:=ty) (pos:=pos) (af:=af) (g:=g) (parts:=#[(0,x),(1,y),(2,z)]) S [(0,.agg (aJ i)),(1,.int .i64 n),(2,.int .i64 m)] (by simp [hx,hy,hz]) (λj u hm=>by
  simp only [ar6,av8,ar9,or_false] at hm
  rcases hm with ⟨rfl,rfl⟩|⟨rfl,rfl⟩|⟨rfl,rfl⟩
  ·exact ⟨_,rfl,by simp [Value.cells]⟩
  ·exact ⟨_,rfl,rfl⟩
  ·exact ⟨_,rfl,rfl⟩) (D:=Gn (i,n,m)) (by unfold Gn;rfl)
 exact this
end
section
variable (n g:Int) (a b c u:Value) (e:Int)
end
section
variable {P:Program} {ρ:Operand->Value} {d:Option Tmp} {ty:TypeId} {pos:String} {af:Array Edge} {g:Option (Nat × Bool)} {x y z:Operand} {t:TypeId}
end
theorem gM {p:Nat->Prop} {k:Nat} (h:∀ j,j<k->p j) (hk:p k):∀ j,j<k+1->p j:=λj hj=>by
 rcases as4 j k with g|g
 ·exact h j g
 ·obtain rfl:j=k:=by omega
  exact hk
theorem KN (h:Ho) (x:Id):(p9 h x = -1/\∀ y∈h.ws,y.1≠x)∨∃ k,k<h.ws.length/\p9 h x=(k:Int)/\(h.ws.getD k iI).1=x/\∀ j,j<k->(h.ws.getD j iI).1≠x:=by
 rcases qi (wk h.ws) x with ⟨h1,h2⟩|⟨k,h1,h2,h3,h4⟩
 ·exact .inl ⟨h1,λy hy=>h2 _ (List.mem_map_of_mem hy)⟩
 ·rw [p6] at h1;rw [qp] at h3
  exact .inr ⟨k,h1,h2,h3,λj hj=>by have:=h4 j hj;rwa [qp] at this⟩
theorem UZ {h:Ho} {x:Id} (e:¬ p9 h x<0):p9 h x=((p9 h x).toNat:Int)/\(p9 h x).toNat<h.ws.length:=by
 rcases KN h x with ⟨h1,_⟩|⟨k,h1,h2,_⟩
 ·omega
 ·rw [h2];exact ⟨rfl,h1⟩
theorem Xj {l:List Wn} {k:Nat} (h:gh (l.getD k iI).2 1 1048576=false):Fq l k=false:=by unfold Fq;rw [h];rfl
theorem R0 {l:List Wn} {k:Nat} (h:gh (l.getD k iI).2 1 1048576=true) {b:Bool} (h2:decide (l8 (wk l) (l.getD k iI).1=(k:Int))=b):Fq l k=b:=by unfold Fq;rw [h,h2];rfl
theorem ET {l:List Wn} {d:Nat} (hd:d<l.length):l.take (d+1)=l.take d++[l.getD d iI]:=by rw [List.take_succ_eq_append_getElem hd,ZW hd]
theorem DE {l:List Hn} {d:Nat} (hd:d<l.length):l.take (d+1)=l.take d++[l.getD d ij]:=by rw [List.take_succ_eq_append_getElem hd,ZA hd]
theorem LX (l:List Hn) (x:Id):(w6 l x).length<=l.length:=au2 _ _
section
variable {w w':World} {vw vh vi vs:Value} {h:Ho} {l:List eA} {H:Hq} {N:TypeId}
end
section
variable {h:Ho} {fr:Int} {m:Mg} {now:Int}
theorem SG (e:yR h fr m now=false):eD h fr m now=ia 1:=by unfold eD;rw [e];rfl
theorem WO (e:yR h fr m now=true):eD h fr m now=pf h fr m now:=by unfold eD;rw [e];rfl
theorem Z5 (e:decide (m.k=1)=true):pf h fr m now=qE h m:=by unfold pf;rw [e];rfl
theorem ac3 (e1:decide (m.k=1)=false) (e:decide (m.k=3)=true):pf h fr m now=Ak h fr m:=by unfold pf;rw [e1,e];rfl
theorem af4 (e1:decide (m.k=1)=false) (e3:decide (m.k=3)=false) (e:decide (m.k=5)=true):pf h fr m now=GS h m:=by unfold pf;rw [e1,e3,e];rfl
theorem ac7 (e1:decide (m.k=1)=false) (e3:decide (m.k=3)=false) (e5:decide (m.k=5)=false) (e:decide (m.k=7)=true):pf h fr m now=⟨MC h m.i,[],0⟩:=by unfold pf;rw [e1,e3,e5,e];rfl
theorem ai7 (e1:decide (m.k=1)=false) (e3:decide (m.k=3)=false) (e5:decide (m.k=5)=false) (e7:decide (m.k=7)=false) (e:decide (m.k=8)=true):pf h fr m now=FY h m now:=by unfold pf;rw [e1,e3,e5,e7,e];rfl
theorem Z7 (e1:decide (m.k=1)=false) (e3:decide (m.k=3)=false) (e5:decide (m.k=5)=false) (e7:decide (m.k=7)=false) (e:decide (m.k=8)=false):pf h fr m now=ia 1:=by unfold pf;rw [e1,e3,e5,e7,e];rfl
theorem ag4 (e:decide (m.l.getD 0 (0,0#256,0)=jp h)=false):qE h m=ia 1:=by unfold qE;rw [e];rfl
theorem ab5 (e:decide (m.l.getD 0 (0,0#256,0)=jp h)=true) (e2:decide (h.bx.length=32)=true):qE h m=ia 8:=by unfold qE;rw [e,e2];rfl
theorem af1 (e:decide (m.l.getD 0 (0,0#256,0)=jp h)=true) (e2:decide (h.bx.length=32)=false):qE h m=⟨⟨h.no,h.gt,h.ws,h.hs,h.bx++[m.d]⟩,[],0⟩:=by unfold qE;rw [e,e2];rfl
theorem Z9 (e:decide (m.t=jp h)=false):Ak h fr m=ia 1:=by unfold Ak;rw [e];rfl
theorem ab8 (e:decide (m.t=jp h)=true) (e2:decide (p9 h m.i<0)=true):Ak h fr m=ia 6:=by unfold Ak;rw [e,e2];rfl
theorem ab9 (e:decide (m.t=jp h)=true) (e2:decide (p9 h m.i<0)=false):Ak h fr m=⟨h,[(fr,Mx h m,cr)],0⟩:=by unfold Ak;rw [e,e2];rfl
theorem ai1 (e2:decide (p9 h m.i<0)=true):GS h m=ia 6:=by unfold GS;rw [e2];rfl
theorem ae4 (e2:decide (p9 h m.i<0)=false):GS h m=⟨h,[],0⟩:=by unfold GS;rw [e2];rfl
theorem af0 (e:decide (15<m.n)=true):FY h m now=ia 1:=by unfold FY;rw [e];rfl
theorem ag1 (e:decide (15<m.n)=false):FY h m now=⟨⟨h.no,h.gt,h.ws,Mu h.hs m.i m.n now,h.bx⟩,[],0⟩:=by unfold FY;rw [e];rfl
end
def yL (n g:Int):Int:=bif gh n 0 15 && gh g 0 15 then 0 else 1
def wo (n g:Int):Ho:=bif gh n 0 15 && gh g 0 15 then ⟨n,g,[],[],[]⟩ else EU
def oT (h:Ho) (x:Id) (l:Int):Int:=bif cp h && gh l 1 1048576 then (bif decide (0<=p9 h x) then 7 else bif decide (h.ws.length=8) then 8 else 0) else 1
def WD (h:Ho) (x:Id) (l:Int):Ho:=⟨h.no,h.gt,h.ws++[(x,l)],h.hs,h.bx⟩
def xw (h:Ho) (x:Id) (l:Int):Ho:=bif decide (oT h x l=0) then WD h x l else EU
def qU (h:Ho) (x:Id):Int:=bif cp h then (bif decide (p9 h x<0) then 6 else 0) else 1
def MP (h:Ho) (x:Id):Ho:=⟨h.no,h.gt,h.ws.take (p9 h x).toNat++h.ws.drop ((p9 h x).toNat+1),h.hs,h.bx⟩
def zQ (h:Ho) (x:Id):Ho:=bif decide (qU h x=0) then MP h x else EU
def yz (h:Ho) (l:List eA) (d:ByteArray) (now:Int):Int:=bif cp h && (gh now 0 1099511627776 && dw l) then (bif decide (d.size<=64) then 0 else 2) else 1
def ZI (h:Ho) (l:List eA) (d:ByteArray) (now:Int):Se:=bif decide (yz h l d now=0) then J0 h l d now else RG
def Zl (s:ByteArray):ByteArray:=s.extract 0 (min s.size 70)
def fbL (h:Ho):List ByteArray:=h.bx.take (min h.bx.length 34)
def fbK (l:List ByteArray) (k:Nat):List ByteArray:=(l.take k).map Zl
def Q4:Ho->List ByteArray:=λh=>fbK (fbL h) (fbL h).length
def B9 (h:Ho):Prop:=h.ws.length<=1000/\h.hs.length<=1000/\h.bx.length<=1000
theorem ab4 {h:Ho} {l:List eA} {d:ByteArray} {now:Int} (hb:¬ (cp h=true/\(0<=now/\now<=1099511627776)/\dw l=true)):yz h l d now=1/\ZI h l d now=RG:=by
 have e:(cp h && (gh now 0 1099511627776 && dw l))=false:=by
  cases g:(cp h && (gh now 0 1099511627776 && dw l)) with
  |false=>rfl
  |true=>rw [aq5,aq5,fD] at g;exact ax7 g hb
 have e1:yz h l d now=1:=by unfold yz;rw [e];rfl
 refine ⟨e1,?_⟩
 unfold ZI;rw [e1];rfl
theorem af9 {h:Ho} {l:List eA} {d:ByteArray} {now:Int} (hb:cp h=true/\(0<=now/\now<=1099511627776)/\dw l=true) (hd:¬ d.size<=64):yz h l d now=2/\ZI h l d now=RG:=by
 have e:(cp h && (gh now 0 1099511627776 && dw l))=true:=by rw [aq5,aq5,fD];exact hb
 have e1:yz h l d now=2:=by unfold yz;rw [e,aq1 hd];rfl
 refine ⟨e1,?_⟩
 unfold ZI;rw [e1];rfl
section
variable {h:Ho} {fr:Int} {m:Mg} {now:Int}
theorem xb:yR h fr m now=true↔cp h=true/\(0<=now/\now<=1099511627776)/\(0<=fr/\fr<=31)/\cn m=true:=by
 unfold yR
 rw [aq5,aq5,aq5,fD,fD]
inductive HqC (h:Ho) (fr:Int) (m:Mg) (now:Int) (H:Hq):Prop where
 |data (k:m.k=1) (q:m.l.getD 0 (0,0#256,0)=jp h) (b:h.bx.length≠32) (e:H=⟨⟨h.no,h.gt,h.ws,h.hs,h.bx++[m.d]⟩,[],0⟩)
 |ask (k:m.k=3) (q:m.t=jp h) (b:¬ p9 h m.i<0) (e:H=⟨h,[(fr,Mx h m,cr)],0⟩)
 |ack (k:m.k=5) (b:¬ p9 h m.i<0) (e:H=⟨h,[],0⟩)
 |push (k:m.k=7) (e:H=⟨MC h m.i,[],0⟩)
 |cache (k:m.k=8) (b:m.n<=15) (e:H=⟨⟨h.no,h.gt,h.ws,Mu h.hs m.i m.n now,h.bx⟩,[],0⟩)
theorem Sb (h:Ho) (fr:Int) (m:Mg) (now:Int):(yR h fr m now=true/\HqC h fr m now (eD h fr m now))∨∃ e,e≠0/\eD h fr m now=ia e:=by
 cases hb:yR h fr m now with
 |false=>exact .inr ⟨1,by decide,SG hb⟩
 |true=>
  rw [WO hb]
  cases k1:decide (m.k=1) with
  |true=>
   rw [Z5 k1]
   cases q:decide (m.l.getD 0 (0,0#256,0)=jp h) with
   |false=>exact .inr ⟨1,by decide,ag4 q⟩
   |true=>
    cases b:decide (h.bx.length=32) with
    |true=>exact .inr ⟨8,by decide,ab5 q b⟩
    |false=>exact .inl ⟨rfl,.data (ap9 k1) (ap9 q) (aq0 b) (af1 q b)⟩
  |false=>
  cases k3:decide (m.k=3) with
  |true=>
   rw [ac3 k1 k3]
   cases q:decide (m.t=jp h) with
   |false=>exact .inr ⟨1,by decide,Z9 q⟩
   |true=>
    cases b:decide (p9 h m.i<0) with
    |true=>exact .inr ⟨6,by decide,ab8 q b⟩
    |false=>exact .inl ⟨rfl,.ask (ap9 k3) (ap9 q) (aq0 b) (ab9 q b)⟩
  |false=>
  cases k5:decide (m.k=5) with
  |true=>
   rw [af4 k1 k3 k5]
   cases b:decide (p9 h m.i<0) with
   |true=>exact .inr ⟨6,by decide,ai1 b⟩
   |false=>exact .inl ⟨rfl,.ack (ap9 k5) (aq0 b) (ae4 b)⟩
  |false=>
  cases k7:decide (m.k=7) with
  |true=>
   rw [ac7 k1 k3 k5 k7]
   exact .inl ⟨rfl,.push (ap9 k7) rfl⟩
  |false=>
  cases k8:decide (m.k=8) with
  |true=>
   rw [ai7 k1 k3 k5 k7 k8]
   cases b:decide (15<m.n) with
   |true=>exact .inr ⟨1,by decide,af0 b⟩
   |false=>exact .inl ⟨rfl,.cache (ap9 k8) (by have:=aq0 b;omega) (ag1 b)⟩
  |false=>
   rw [Z7 k1 k3 k5 k7 k8]
   exact .inr ⟨1,by decide,rfl⟩
theorem rG (e:(eD h fr m now).e=0):yR h fr m now=true/\HqC h fr m now (eD h fr m now):=by
 rcases Sb h fr m now with g|⟨e',he,g⟩
 ·exact g
 ·rw [g] at e;exact ax7 e he
end
theorem xf {l:List Hn} {x:Id} {y:Hn} (h:y∈w6 l x):y∈l/\y.1≠x:=by
 have:=at4.1 h
 refine ⟨this.1,λe=>?_⟩
 have h2:=this.2
 rw [aq2 e] at h2
 cases h2
theorem K6 {l:List Hn} (x:Id) (h:(hk l).Nodup):(hk (w6 l x)).Nodup:=h.sublist (List.Sublist.map _ List.filter_sublist)
theorem yg (l:List Hn):(zg l).Sublist l:=by
 unfold zg
 split
 ·exact List.Sublist.refl _
 ·exact List.drop_sublist _ _
theorem Ys {l:List Hn} (h:l.length<=8):(zg l).length<=7:=by
 unfold zg
 split
 ·omega
 ·rw [at2];omega
theorem Si {now:Int} (h:0<=now):0<=BS now/\BS now<=1099511627776:=by unfold BS;split<;>omega
theorem UW {h:Ho} (R:RH h) (x:Id):RH (MC h x):=
 ⟨R.ws,R.wn,λy hy=>R.hs y (xf hy).1,K6 x R.hn,R.bx,R.no,R.gt,R.wl,av5 (LX _ _) R.hl,R.bl⟩
theorem U3 {h:Ho} (R:RH h) {x:Id} {n now:Int} (h0:0<=n) (h1:n<=15) (hn:0<=now):RH ⟨h.no,h.gt,h.ws,Mu h.hs x n now,h.bx⟩:=by
 refine ⟨R.ws,R.wn,λy hy=>?_,?_,R.bx,R.no,R.gt,R.wl,?_,R.bl⟩
 ·have hy:y∈zg (w6 h.hs x)++[(x,n,BS now)]:=hy
  rcases at9.1 hy with hy|hy
  ·exact R.hs y (xf ((yg _).mem hy)).1
  ·rw [ar4.1 hy]
   exact ⟨⟨h0,h1⟩,Si hn⟩
 ·show (hk (zg (w6 h.hs x)++[(x,n,BS now)])).Nodup
  unfold hk
  rw [ax5,List.nodup_append]
  refine ⟨(K6 x R.hn).sublist (List.Sublist.map _ (yg _)),by simp,λa ha b hb=>?_⟩
  obtain ⟨y,hy,rfl⟩:=au9.1 ha
  have hb:b=x:=by simpa using hb
  subst hb
  exact(xf ((yg _).mem hy)).2
 ·show (zg (w6 h.hs x)++[(x,n,BS now)]).length<=8
  rw [aq7]
  have:=Ys (l:=w6 h.hs x) (av5 (LX _ _) R.hl)
  simp;omega
theorem Kp {m:Mg} (h:cn m=true) (hk:m.k=3):kR m.t=true/\m.o.size=16:=by
 obtain ⟨_,_,h2,_,_,h5,_⟩:=gZ h
 unfold c2 at h2;unfold c5 at h5
 rw [hk] at h2 h5
 simp [jw,kW] at h2 h5
 exact ⟨h2,h5⟩
theorem KE {m:Mg} (h:cn m=true) (hk:m.k=8):0<=m.n:=by
 obtain ⟨_,_,_,_,h4,_⟩:=gZ h
 unfold c4 at h4
 rw [hk] at h4
 simp [jc] at h4
 exact h4.1
theorem SF {h:Ho} (R:RH h) {m:Mg} (hm:cn m=true) (hk:m.k=3) (hw:¬ p9 h m.i<0):cn (Mx h m)=true:=by
 obtain ⟨h1,h2⟩:=Kp hm hk
 have hl:=R.ws _ (xz (UZ hw).2)
 exact(gA.1 (kT h1 (.inr (.inl ⟨rfl,by omega,by omega,h2⟩)))).1
section
variable {h:Ho} {fr:Int} {m:Mg} {now:Int}
theorem AE (e:(eD h fr m now).e=0):cp (eD h fr m now).h=true/\(eD h fr m now).h.no=h.no/\(eD h fr m now).h.gt=h.gt/\(eD h fr m now).h.ws.length=h.ws.length:=by
 obtain ⟨hb,g⟩:=rG e
 obtain ⟨hr,hn,_,hm⟩:=xb.1 hb
 have R:=fM.1 hr
 cases g with
 |data k q b g=>
  rw [g]
  have hp:=ey.1 (oR hm k)
  refine ⟨fM.2 ⟨R.ws,R.wn,R.hs,R.hn,λs hs=>?_,R.no,R.gt,R.wl,R.hl,?_⟩,rfl,rfl,rfl⟩
  ·rcases at9.1 hs with hs|hs
   ·exact R.bx s hs
   ·rw [ar4.1 hs];exact hp.2.2.2
  ·show (h.bx++[m.d]).length<=32
   have:=R.bl
   rw [aq7];simp;omega
 |ask _ _ _ g=>rw [g];exact ⟨hr,rfl,rfl,rfl⟩
 |ack _ _ g=>rw [g];exact ⟨hr,rfl,rfl,rfl⟩
 |push _ g=>rw [g];exact ⟨fM.2 (UW R _),rfl,rfl,rfl⟩
 |cache k b g=>rw [g];exact ⟨fM.2 (U3 R (KE hm k) b hn.1),rfl,rfl,rfl⟩
theorem Uc (e:(eD h fr m now).e=0):∀ x∈(eD h fr m now).l,cn x.2.1=true/\x.2.1.k=4/\m.k=3/\x.1=fr/\x.2.1.o=m.o/\x.2.1.i=m.i/\x.2.1.t=m.t/\m.t.2.2=h.no/\¬ p9 h m.i<0:=λx hx=>by
 obtain ⟨hb,g⟩:=rG e
 obtain ⟨hr,hn,_,hm⟩:=xb.1 hb
 have R:=fM.1 hr
 cases g with
 |data _ _ _ g=>rw [g] at hx;cases hx
 |ask k q b g=>
  rw [g] at hx
  rw [ar4.1 hx]
  exact ⟨SF R hm k b,rfl,k,rfl,rfl,rfl,rfl,by rw [q];rfl,b⟩
 |ack _ _ g=>rw [g] at hx;cases hx
 |push _ g=>rw [g] at hx;cases hx
 |cache _ _ g=>rw [g] at hx;cases hx
theorem U1 (e:(eD h fr m now).e=0) (k1:m.k=1):(eD h fr m now).h.bx=h.bx++[m.d]/\0<m.l.length/\(m.l.getD 0 (0,0#256,0)).1=2/\(m.l.getD 0 (0,0#256,0)).2.2=h.no:=by
 obtain ⟨hb,g⟩:=rG e
 obtain ⟨hr,hn,_,hm⟩:=xb.1 hb
 cases g with
 |data k q b g=>
  rw [g,q]
  exact ⟨rfl,(ey.1 (oR hm k)).1.1,rfl,rfl⟩
 |ask k=>omega
 |ack k=>omega
 |push k=>omega
 |cache k=>omega
end
section
variable {h:Ho} {x:Id} {n now:Int}
end
section
variable {h:Ho} {x:Id} {now:Int}
theorem xa (h:Ho) (x:Id):(MP h x).ws.Sublist h.ws:=by
 show (h.ws.take _++h.ws.drop _).Sublist h.ws
 conv=>rhs;rw [← as7 (p9 h x).toNat h.ws]
 refine List.Sublist.append (List.Sublist.refl _) ?_
 rw [← List.drop_drop]
 exact List.drop_sublist _ _
theorem FJ (r:cp h=true):cp (MP h x)=true:=by
 have R:=fM.1 r
 refine fM.2 ⟨λy hy=>R.ws y ((xa h x).mem hy),R.wn.sublist (List.Sublist.map _ (xa h x)),R.hs,R.hn,R.bx,R.no,R.gt,av5 (xa h x).length_le R.wl,R.hl,R.bl⟩
end
end Go.Proofs.YthmlflaiidhoiaaGreatDoor
namespace Go.Proofs.YthmlflaiidhoiaaGreatDoor
open Go.RowKit Go.ChangeShapes Go.WideShapes Go.ChangeAt
theorem Kr {H:Type} {enc:TypeId × Value->H} {P:Program} {w:World} {base:Nat} {spare:Nat->Bool} {held:Bool} {t tn ti e:TypeId} {g0 g1:Field} {fuel:Nat} {cs:List Value} {x:DataW H × List MemPlace} (T:IdTy P ti e) (hc:P.cellsOf ti=32) (hce:P.cellsOf e=1) (hn:P.underlying tn=some (.int .i64)) (hcn:P.cellsOf tn=1)
 (ht:P.underlying t=some (.struct #[g0,g1])) (k0:g0.type=ti) (k1:g1.type=tn) (p0:g0.offset=0) (p1:g1.offset=32) (hct:P.cellsOf t=33)
 (h:DataW.trod enc P w base spare held fuel t cs=some x):∃ l:Wn,cs=(dq l).toList:=by
 obtain ⟨xs,n,rfl,_,hl,hxl,hel⟩:=DataW.trod_struct ht h
 rw [hct] at hl
 have hx2:xs.length=2:=by simpa using hxl
 have e0:=hel 0 g0 rfl
 have e1:=hel 1 g1 rfl
 rw [k0,p0,hc,aq8 (by omega)] at e0
 rw [k1,p1,hcn,aq8 (by omega)] at e1
 obtain ⟨a,ha⟩:=lg T hc hce e0
 obtain ⟨u,hu,_⟩:=DataW.trod_int hn e1
 refine ⟨(a,u),?_⟩
 show cs=(aJ a).toList++[.int .i64 u]
 rw [← ha,← hu,List.drop_zero]
 have s1:(cs.drop 32).take 1=cs.drop 32:=as9 (by rw [at2];omega)
 rw [s1,as7]
theorem JF {H:Type} {enc:TypeId × Value->H} {P:Program} {w:World} {base:Nat} {spare:Nat->Bool} {held:Bool} {t tn ti e:TypeId} {g0 g1 g2:Field} {fuel:Nat} {cs:List Value} {x:DataW H × List MemPlace} (T:IdTy P ti e) (hc:P.cellsOf ti=32) (hce:P.cellsOf e=1) (hn:P.underlying tn=some (.int .i64)) (hcn:P.cellsOf tn=1)
 (ht:P.underlying t=some (.struct #[g0,g1,g2])) (k0:g0.type=ti) (k1:g1.type=tn) (k2:g2.type=tn) (p0:g0.offset=0) (p1:g1.offset=32) (p2:g2.offset=33) (hct:P.cellsOf t=34)
 (h:DataW.trod enc P w base spare held fuel t cs=some x):∃ l:Hn,cs=(dh l).toList:=by
 obtain ⟨xs,n,rfl,_,hl,hxl,hel⟩:=DataW.trod_struct ht h
 rw [hct] at hl
 have hx2:xs.length=3:=by simpa using hxl
 have e0:=hel 0 g0 rfl
 have e1:=hel 1 g1 rfl
 have e2:=hel 2 g2 rfl
 rw [k0,p0,hc,aq8 (by omega)] at e0
 rw [k1,p1,hcn,aq8 (by omega)] at e1
 rw [k2,p2,hcn,aq8 (by omega)] at e2
 obtain ⟨a,ha⟩:=lg T hc hce e0
 obtain ⟨u,hu,_⟩:=DataW.trod_int hn e1
 obtain ⟨q,hq,_⟩:=DataW.trod_int hn e2
 refine ⟨(a,u,q),?_⟩
 show cs=(aJ a).toList++([.int .i64 u]++[.int .i64 q])
 rw [← ha,← hu,← hq,List.drop_zero]
 have s1:(cs.drop 33).take 1=cs.drop 33:=as9 (by rw [at2];omega)
 have s2:(cs.drop 32).take 1++cs.drop 33=cs.drop 32:=by
  have:=as7 1 (cs.drop 32)
  rw [List.drop_drop] at this
  exact this
 rw [s1,s2,as7]
theorem Jh {H:Type} {enc:TypeId × Value->H} {P:Program} {w:World} {base:Nat} {spare:Nat->Bool} {held:Bool} {t:TypeId} {fuel:Nat} {cs:List Value} {x:DataW H × List MemPlace} (hz:P.underlying t=some .string)
 (h:DataW.trod enc P w base spare held fuel t cs=some x):∃ l:ByteArray,cs=(#[Value.string l]:Array Value).toList:=by
 obtain ⟨d9,hd9,_⟩:=DataW.trod_string hz h
 exact ⟨d9,by simpa [Value.cells] using hd9⟩
theorem Nw (ls:List ByteArray):(ls.flatMap λa=>(#[Value.string a]:Array Value).toList)=uN ls:=by
 unfold uN
 induction ls with
 |nil=>rfl
 |cons a l ih=>rw [List.flatMap_cons,List.map_cons,ih];rfl
def Oe (P:Program) (T:TypeId) (rv:Value) (nm:String) (f:FuncId) (ru:Value):Prop:=∀ w,(method (P.types.size+Made.depth) T rv nm).run P w=.ok (f,ru) w
theorem BF {P:Program} {ρ:Operand->Value} {dst:Option Tmp} {g:Option (Nat × Bool)} {ty:TypeId} {pos:String} {af:Array Edge} {f:FuncId} {T:TypeId} {rv ru:Value} {nm:String} {cal:Operand} {tys:Array TypeId} {w:World} (hf:Fnc P f)
 (hm:Oe P T rv nm f ru) (hc:ρ cal=.iface T rv) {R:Value->World->Prop} (hC:Calls P f #[ru] w λe w'=>∃ v,e=.returned v/\R v w'):cL P ⟨dst,.call {callee:=.invoke cal nm,args:=#[],argTypes:=tys},ty,pos,af,g⟩ ρ w R:=by
 obtain ⟨fn,h1,h2,h3⟩:=hf.has
 unfold cL
 have hm':=hm w
 simp only [execOp,resolve,hc,au7,au8,aq9,invoke,callMethod]
 have e0:(#[Value.iface T rv]++Array.map ρ #[])[0]? = some (Value.iface T rv):=by simp
 rw [e0]
 simp only [callMethod,au7,show ∀ w,Sem.run P program w=.ok P w from λ_=>rfl,aq9,hm']
 have e1:#[ru]++(#[Value.iface T rv]++Array.map ρ #[]).extract 1=#[ru]:=by simp
 rw [e1]
 rw [fB h1 h2 h3]
 exact hC
section
variable {P:Program} {ops:Array Oper} {Q:Act->World->Prop} {l:List Oper} {a:Act} {w w0:World} {N:Nat} {L:List (Nat × Value)} {Df:List Deferred} {B:List Own} {d:Tmp} {ty:TypeId} {pos:String} {af:Array Edge}
end
section
variable {P:Program} {ops:List Oper} {K:Act->World->Prop} {l:List Oper} {a:Act} {w:World} {N:Nat} {L:List (Nat × Value)} {Df:List Deferred} {d:Tmp} {ty:TypeId} {pos:String} {af:Array Edge}
theorem lX {f:FuncId} {T9:TypeId} {rv ru X:Value} {nm:String} {cal:Operand} {tys:Array TypeId} (h:Sl N a L Df) (hf:Fnc P f) (hm:Oe P T9 rv nm f ru) (hc:ec L cal=some (.iface T9 rv))
 (hC:∀ w',Ext w w'->Calls P f #[ru] w' (bW w' (is X))) (hd:Nat.blt d N=true) (k:∀ a',Sl N a' ((d,X)::L) Df->ip P ops.toArray K w l a'):
 ip P ops.toArray K w (⟨some d,.call {callee:=.invoke cal nm,args:=#[],argTypes:=tys},ty,pos,af,none⟩::l) a:=
 j8 X h (λw' hE=>BF hf hm (h.ev hc) (hC w' hE)) hd k
variable {ρ:Operand->Value} {e:Option Tmp} {g:Option (Nat × Bool)} {x:Operand} {t:TypeId}
def nmZ:List (List Value):=[(aJ 0#256).toList]
theorem qH {i:Id} (S:Stt P t nmZ) (hx:ρ x=.agg (aJ i)):a8 P ⟨e,.build t #[(0,x)],ty,pos,af,g⟩ ρ (.agg (aJ i)):=by
 have:=cx (P:=P) (ρ:=ρ) (d:=e) (ty:=ty) (pos:=pos) (af:=af) (g:=g) (parts:=#[(0,x)]) S [(0,.agg (aJ i))] (by simp [hx]) (λj u hm=>by
  simp only [ar6,av8,ar9,or_false] at hm
  rcases hm with ⟨rfl,rfl⟩
  exact ⟨_,rfl,by simp [Value.cells]⟩) (D:=(aJ i).toList) (by show (aJ i).toList++[]=_;rw [av4])
 exact this
theorem xN {y z:Operand} {n m:Int} {v:Value} (S:Stt P t hoZ) (hv:v.cells.size=1) (hc:v.cells.toList=[v]) (hx:ρ x=.int .i64 n) (hy:ρ y=.int .i64 m) (hz:ρ z=v):a8 P ⟨e,.build t #[(0,x),(1,y),(4,z)],ty,pos,af,g⟩ ρ (.agg (cB n m aq aq v)):=by
 have:=cx (P:=P) (ρ:=ρ) (d:=e) (ty:=ty) (pos:=pos) (af:=af) (g:=g) (parts:=#[(0,x),(1,y),(4,z)]) S [(0,.int .i64 n),(1,.int .i64 m),(4,v)] (by simp [hx,hy,hz]) (λj u hm=>by
  simp only [ar6,av8,ar9,or_false] at hm
  rcases hm with ⟨rfl,rfl⟩|⟨rfl,rfl⟩|⟨rfl,rfl⟩
  ·exact ⟨_,rfl,rfl⟩
  ·exact ⟨_,rfl,rfl⟩
  ·exact ⟨_,rfl,hv⟩) (D:=Yh n m aq aq v) (by
   show [Value.int .i64 n]++([Value.int .i64 m]++([aq]++([aq]++(v.cells.toList++[]))))=_
   rw [hc];rfl)
 exact this
end
section
variable {fn:Func} {P:Program} {a:Act} {w:World} {N:Nat} {L:List (Nat × Value)} {R:Ending->World->Prop}
end
section
variable {α:Type} (z:α) (q:α->Bool) (l:List α)
variable {q l}
variable (q l)
variable {q l}
variable {f:α->List Value} {sz:Nat}
end
theorem i8 {α:Type} {C:List α->List Value} {l:List α} {w:World} {a:Option Addr} {n c sz:Nat} (ha:a.isNone=true) (h:a7 w (.slice a n c) sz l.length (C l)):l=[]:=by
 rcases h.2 with ⟨_,e2⟩|⟨p,c9,e,_⟩
 ·exact List.eq_nil_of_length_eq_zero e2
 ·injection e with e1;subst e1;cases ha
theorem Cm (x:Id):(aJ x).extract 0 (0+32)=aJ x:=by
 apply Array.ext'
 rw [Array.toList_extract,List.extract_eq_take_drop]
 show (List.drop 0 (aJ x).toList).take 32=_
 rw [List.drop_zero,as9 (by rw [ar2,az];exact as1 _)]
theorem Xo {l:List Wn} {x:Id} {r:Int} (hr:(r = -1/\∀ y∈l,decide (y.1=x)=false)∨∃ k:Nat,k<l.length/\r=(k:Int)/\decide ((l.getD k iI).1=x)=true/\∀ i,i<k->decide ((l.getD i iI).1=x)=false):r=l8 (wk l) x:=by
 rcases hr with ⟨rfl,h⟩|⟨k,hk,rfl,h,hb⟩
 ·exact(K7 λj hj=>by rw [qp];rw [p6] at hj;exact aq0 (h _ (xz hj))).symm
 ·exact(x7 (by rw [p6];exact hk) (by rw [qp];exact ap9 h) λj hj=>by rw [qp];exact aq0 (hb j hj)).symm
theorem W5 {l:List Hn} {x:Id} {r:Int} (hr:(r = -1/\∀ y∈l,decide (y.1=x)=false)∨∃ k:Nat,k<l.length/\r=(k:Int)/\decide ((l.getD k ij).1=x)=true/\∀ i,i<k->decide ((l.getD i ij).1=x)=false):r=l8 (hk l) x:=by
 rcases hr with ⟨rfl,h⟩|⟨k,hk',rfl,h,hb⟩
 ·exact(K7 λj hj=>by rw [vF];rw [rM] at hj;exact aq0 (h _ (xg hj))).symm
 ·exact(x7 (by rw [rM];exact hk') (by rw [vF];exact ap9 h) λj hj=>by rw [vF];exact aq0 (hb j hj)).symm
theorem C6 {l:List Id} {k:Nat} (hk:k<l.length):decide (0<=l8 (l.take k) (l.getD k 0#256)) = !decide (l8 l (l.getD k 0#256)=(k:Int)):=by
 have key:l8 (l.take k) (l.getD k 0#256)<0↔l8 l (l.getD k 0#256)=(k:Int):=by
  rw [ED]
  constructor
  ·intro h
   refine x7 hk rfl λj hj=>h _ ?_
   have hj2:j<(l.take k).length:=by rw [au0];omega
   rw [← G7 (by omega),← List.getElem_take (h:=hj2)]
   exact aw0 hj2
  ·intro h y hy
   obtain ⟨j,hj,rfl⟩:=List.mem_iff_getElem.1 hy
   rw [au0] at hj
   rw [List.getElem_take,G7 (by omega)]
   rcases qi l (l.getD k 0#256) with ⟨h1,_⟩|⟨k2,h1,h2,_,h4⟩
   ·omega
   ·exact h4 j (by omega)
 rw [← decide_not]
 exact ar3.2 ⟨λh e=>by have:=key.2 e;omega,λh=>by
  rcases Int.lt_or_le (l8 (l.take k) (l.getD k 0#256)) 0 with g|g
  ·exact ax7 (key.1 g) h
  ·exact g⟩
theorem QT {l:List Wn} {k:Nat} (h9:k<l.length):decide (0<=l8 (wk (l.take k)) (l.getD k iI).1) = !decide (l8 (wk l) (l.getD k iI).1=(k:Int)):=by
 have:=C6 (l:=wk l) (k:=k) (by rw [p6];exact h9)
 rw [qp] at this
 rw [show wk (l.take k)=(wk l).take k from List.map_take ..]
 exact this
theorem Ri {l:List Hn} {k:Nat} (h9:k<l.length):decide (0<=l8 (hk (l.take k)) (l.getD k ij).1) = !decide (l8 (hk l) (l.getD k ij).1=(k:Int)):=by
 have:=C6 (l:=hk l) (k:=k) (by rw [rM];exact h9)
 rw [vF] at this
 rw [show hk (l.take k)=(hk l).take k from List.map_take ..]
 exact this
def G6 (l:List Wn):Bool:=decide (l.length<=8) && (List.range l.length).all (Fq l)
def Jv (l:List Hn):Bool:=decide (l.length<=8) && (List.range l.length).all (qc l)
def QQ (x:Hn):Bool:=gh x.2.1 0 15 && gh x.2.2 0 1099511627776
theorem VH {l:List Wn} (h:8<l.length):G6 l=false:=by unfold G6;rw [aq1 (by omega)];rfl
theorem UX {l:List Hn} (h:8<l.length):Jv l=false:=by unfold Jv;rw [aq1 (by omega)];rfl
theorem QC {l:List Wn} {k:Nat} (hk:k<l.length) (e:Fq l k=false):G6 l=false:=by
 unfold G6
 rw [show (List.range l.length).all (Fq l)=false from by
  rw [List.all_eq_false];exact ⟨k,ar7.2 hk,by rw [e];decide⟩,Bool.and_false]
theorem RZ {l:List Hn} {k:Nat} (hk:k<l.length) (e:qc l k=false):Jv l=false:=by
 unfold Jv
 rw [show (List.range l.length).all (qc l)=false from by
  rw [List.all_eq_false];exact ⟨k,ar7.2 hk,by rw [e];decide⟩,Bool.and_false]
theorem SA {l:List Wn} (h:l.length<=8) (e:∀ j,j<l.length->Fq l j=true):G6 l=true:=by unfold G6;rw [mc e,aq2 h];rfl
theorem VO {l:List Hn} (h:l.length<=8) (e:∀ j,j<l.length->qc l j=true):Jv l=true:=by unfold Jv;rw [mc e,aq2 h];rfl
theorem WV {l:List Hn} {k:Nat} (h:QQ (l.getD k ij)=false):qc l k=false:=by
 unfold QQ at h;unfold qc
 rw [← Bool.and_assoc,h];rfl
theorem QY {l:List Hn} {k:Nat} (h:QQ (l.getD k ij)=true) {b:Bool} (h2:decide (l8 (hk l) (l.getD k ij).1=(k:Int))=b):qc l k=b:=by
 unfold QQ at h;unfold qc
 rw [← Bool.and_assoc,h,h2];rfl
def uS (s:ByteArray):Bool:=decide (64<s.size)
def Vx (h:Ho):Bool:=gh h.no 0 15 && (gh h.gt 0 15 && (G6 h.ws && (Jv h.hs && (decide (h.bx.length<=32) && !h.bx.any uS))))
theorem Uw (l:List ByteArray):(List.range l.length).all (UF l) = !l.any uS:=by
 cases e:l.any uS with
 |false=>
  refine mc λj hj=>aq2 ?_
  have:=aw5.1 e _ (CO hj)
  unfold uS at this
  rw [ar0] at this;omega
 |true=>
  obtain ⟨s,hs,h9⟩:=aw4.1 e
  obtain ⟨j,hj,rfl⟩:=List.mem_iff_getElem.1 hs
  show _=false
  rw [List.all_eq_false]
  refine ⟨j,ar7.2 hj,?_⟩
  unfold UF
  unfold uS at h9
  rw [← WK hj,ar0]
  have:=ap9 h9;omega
theorem si (h:Ho):Vx h=cp h:=by
 unfold Vx cp Zz G6 Jv
 rw [Uw]
 generalize gh h.no 0 15=a;generalize gh h.gt 0 15=b;generalize decide (h.ws.length<=8)=c;generalize decide (h.hs.length<=8)=d;generalize decide (h.bx.length<=32)=e
 generalize (List.range h.ws.length).all (Fq h.ws)=f;generalize (List.range h.hs.length).all (qc h.hs)=g;generalize (!h.bx.any uS)=i
 cases a<;>cases b<;>cases c<;>cases d<;>cases e<;>cases f<;>cases g<;>cases i<;>rfl
section
variable {h:Ho}
theorem XE (a:gh h.no 0 15=false):cp h=false:=by rw [← si];unfold Vx;rw [a];rfl
theorem Xy (a:gh h.no 0 15=true) (b:gh h.gt 0 15=false):cp h=false:=by rw [← si];unfold Vx;rw [a,b];rfl
theorem XH (a:gh h.no 0 15=true) (b:gh h.gt 0 15=true) (c:G6 h.ws=false):cp h=false:=by rw [← si];unfold Vx;rw [a,b,c];rfl
theorem WB (a:gh h.no 0 15=true) (b:gh h.gt 0 15=true) (c:G6 h.ws=true) (d:Jv h.hs=false):cp h=false:=by rw [← si];unfold Vx;rw [a,b,c,d];rfl
theorem R1 (a:gh h.no 0 15=true) (b:gh h.gt 0 15=true) (c:G6 h.ws=true) (d:Jv h.hs=true) {e:Bool} (f:decide (h.bx.length<=32)=e):cp h=(e && !h.bx.any uS):=by rw [← si];unfold Vx;rw [a,b,c,d,f];rfl
end
def OwH (w:World) (N1 N2 N3:TypeId) (h:Ho):cX:=λv w'=>∃ a b c,v=.agg (cB h.no h.gt a b c)/\St w [.sl a N1 33 h.ws.length (cm h.ws),.sl b N2 34 h.hs.length (cG h.hs),.sl c N3 1 h.bx.length (uN h.bx)] w'
section
variable {w w':World} {vw vh vi:Value} {h:Ho} {N1 N2 N3:TypeId}
end
theorem UV {w w':World} {a b c:Value} {h:Ho} {N1 N2 N3:TypeId} {B:List Own} (s:St w (.sl a N1 33 h.ws.length (cm h.ws)::.sl b N2 34 h.hs.length (cG h.hs)::.sl c N3 1 h.bx.length (uN h.bx)::B) w'):∃ ks,St w (.grp ks (λw9=>EV w9 a b c h)::B) w':=by
 have s:=s.grp0 (S:=λ_=>True) (λ_=>trivial)
 obtain ⟨k1,s⟩:=(s.perm (ax3 ..)).grp1 (S':=λw9=>a7 w9 a 33 h.ws.length (cm h.ws)) (λw9 h9 _=>h9)
 obtain ⟨k2,s⟩:=(s.perm (ax3 ..)).grp1 (S':=λw9=>a7 w9 a 33 h.ws.length (cm h.ws)/\a7 w9 b 34 h.hs.length (cG h.hs)) (λw9 h9 h8=>⟨h8,h9⟩)
 exact(s.perm (ax3 ..)).grp1 (S':=λw9=>EV w9 a b c h) (λw9 h9 h8=>⟨h8.1,h8.2,h9⟩)
theorem TM {l:List ByteArray} {r:Int} (hr:(r = -1/\∀ x∈l,uS x=false)∨∃ k:Nat,k<l.length/\r=(k:Int)/\uS (l.getD k ByteArray.empty)=true):decide (r≥0)=l.any uS:=by
 rcases hr with ⟨rfl,h⟩|⟨k,hk,rfl,h⟩
 ·rw [aw5.2 λx hx=>by rw [h x hx];decide];rfl
 ·rw [aw4.2 ⟨_,CO hk,h⟩,aq2 (by omega)]
section
variable {w w':World} {vw vh vi vl:Value} {h:Ho} {now:Int} {N:TypeId} {l:List eA} {d:ByteArray}
end
section
variable {h:Ho} {fr:Int} {m:Mg} {now:Int}
end
section
variable {w w':World} {h:Ho} {fr:Int} {m:Mg} {e:Int} {N:TypeId}
end
section
variable {w0 w9:World} {bi:Nat} {N N1 N2 N3:TypeId} {B9:List Own} {h H:Ho} {fr:Int} {m:Mg} {now E n g:Int} {a b c:Value}
end
section
variable {w w':World} {vw vh vi vs:Value} {h:Ho} {l:List eA} {fr:Int} {m:Mg} {now e:Int} {N1 N2:TypeId}
end
end Go.Proofs.YthmlflaiidhoiaaGreatDoor
