/- Worlds: what they are, what acts make of them. -/
import Derived.Test.YthmlflaiidhoiaaGreatDoorHo
set_option linter.unusedVariables false
set_option linter.unusedSimpArgs false
set_option linter.unusedSectionVars false
namespace Go.Proofs.YthmlflaiidhoiaaGreatDoor
open Go.RowKit
structure Nt where
 k:Int
 tm:Int
 no:Int
 wa:Int
 le:Int
 tr:Tg
 d:ByteArray
 y:Int
deriving DecidableEq
def D5:Nt:=⟨0,0,0,0,0,cr,ByteArray.empty,0⟩
def Uh (k tm no wa le:Int) (t:Tg) (d:ByteArray) (y:Int):List Value:=.int .i64 k::.int .i64 tm::.int .i64 no::.int .i64 wa::.int .i64 le::(pX t++[.string d,.int .i64 y])
def zG (k tm no wa le:Int) (t:Tg) (d:ByteArray) (y:Int):Array Value:=(Uh k tm no wa le t d y).toArray
section
variable (k tm no wa le:Int) (t:Tg) (d e:ByteArray) (y:Int)
theorem FB:(Uh k tm no wa le t d y).length=74:=by simp [Uh,lh]
theorem tY:(zG k tm no wa le t d y).size=74:=by simp [zG,FB]
theorem Je:∀ v∈Uh k tm no wa le t d y,v.oneCell'=true:=λv hv=>by
 unfold Uh at hv
 simp only [aI6,aK9,aI9,or_false] at hv
 rcases hv with rfl|rfl|rfl|rfl|rfl|hv|rfl|rfl
 ·rfl
 ·rfl
 ·rfl
 ·rfl
 ·rfl
 ·exact pK t v hv
 ·rfl
 ·rfl
end
def Yu (x:Nt):List Value:=Uh x.k x.tm x.no x.wa x.le x.tr x.d x.y
theorem Ri (x:Nt):(Yu x).length=74:=FB ..
def bM (l:List Nt):List Value:=l.flatMap Yu
theorem rh (l r:List Nt):bM (l++r)=bM l++bM r:=aM2
theorem xY (l:List Nt):∀ u∈bM l,u.oneCell'=true:=λu hu=>by
 obtain ⟨x,_,hx⟩:=List.mem_flatMap.1 hu
 exact Je _ _ _ _ _ _ _ _ u hx
theorem ntD {l:List Nt} {j:Nat} (hj:j<l.length):l[j]=l.getD j D5:=by
 rw [aJ6,aH8 hj];rfl
theorem Z0 (l:List Nt) (j:Nat) (hj:j<l.length):(((bM l).drop (j*74)).take 74).toArray=zG (l.getD j D5).k (l.getD j D5).tm (l.getD j D5).no (l.getD j D5).wa (l.getD j D5).le (l.getD j D5).tr (l.getD j D5).d (l.getD j D5).y:=by
 unfold bM
 rw [eU _ 74 Ri l j hj,ntD hj];rfl
theorem Pd {l:List Nt} {j:Nat} (hj:j<l.length) (o:Nat) (ho:o<74):(bM l)[j*74+o]? = (Yu (l.getD j D5))[o]? := by
 have h:=Z0 l j hj
 have:(((bM l).drop (j*74)).take 74)=Yu (l.getD j D5):=aH3 Array.toList h
 rw [← this,aN7 ho,aN8]
theorem af5 {l:List Nt} {j:Nat} (hj:j<l.length):(bM l)[j*74+0]? = some (.int .i64 (l.getD j D5).k):=(Pd hj 0 (by decide)).trans rfl
theorem V4 (x:Nt):([Value.agg (zG x.k x.tm x.no x.wa x.le x.tr x.d x.y)].flatMap λv=>v.cells.toList)=Yu x:=by simp [Value.cells,zG,Yu]
theorem WF (l:List Nt) (x:Nt):bM l++([Value.agg (zG x.k x.tm x.no x.wa x.le x.tr x.d x.y)].flatMap λv=>v.cells.toList)=bM (l++[x]):=by rw [V4,rh];simp [bM]
theorem Jj:pX cr=LN.flatten:=by
 have:=aH3 Array.toList xT
 exact this
def ntZ:List (List Value):=[[.int .i64 0],[.int .i64 0],[.int .i64 0],[.int .i64 0],[.int .i64 0],LN.flatten,[.string ByteArray.empty],[.int .i64 0]]
section
variable {P:Program} {ρ:Operand->Value} {d:Option Tmp} {ty:TypeId} {pos:String} {af:Array Edge} {g:Option (Nat × Bool)} {x y z u v:Operand} {t:TypeId}
theorem sS {a b c:Int} {s:ByteArray} (S:Stt P t ntZ) (hx:ρ x=.int .i64 a) (hy:ρ y=.int .i64 b) (hz:ρ z=.int .i64 c) (hu:ρ u=.string s):aZ P ⟨d,.build t #[(0,x),(2,y),(4,z),(6,u)],ty,pos,af,g⟩ ρ (.agg (zG a 0 b 0 c cr s 0)):=by
 have:=bw (P:=P) (ρ:=ρ) (d:=d) (ty:=ty) (pos:=pos) (af:=af) (g:=g) (parts:=#[(0,x),(2,y),(4,z),(6,u)]) S [(0,.int .i64 a),(2,.int .i64 b),(4,.int .i64 c),(6,.string s)] (by simp [hx,hy,hz,hu]) (λj q hm=>by
  simp only [aI6,aM8,aI9,or_false] at hm
  rcases hm with ⟨rfl,rfl⟩|⟨rfl,rfl⟩|⟨rfl,rfl⟩|⟨rfl,rfl⟩<;>exact ⟨_,rfl,rfl⟩) (D:=Uh a 0 b 0 c cr s 0) (by
   show [Value.int .i64 a]++([Value.int .i64 0]++([Value.int .i64 b]++([Value.int .i64 0]++([Value.int .i64 c]++(LN.flatten++([Value.string s]++([Value.int .i64 0]++[])))))))=_
   rw [← Jj];rfl)
 exact this
end
structure Ac where
 k:Int
 no:Int
 tO:Int
 n:Int
 i:Id
 l:List dN
 d:ByteArray
def Yi:Ac:=⟨0,0,0,0,0#256,[],ByteArray.empty⟩
def IM (a:Ac) (v:Value):List Value:=.int .i64 a.k::.int .i64 a.no::.int .i64 a.tO::.int .i64 a.n::((aH a.i).toList++[v,.string a.d])
def bQ (a:Ac) (v:Value):Array Value:=(IM a v).toArray
theorem Ql (a:Ac) (v:Value):(IM a v).length=38:=by simp only [IM,aK5,aH7,jc,aK6]
theorem eo (a:Ac) (v:Value):(bQ a v).size=38:=by simp only [bQ,List.size_toArray,Ql]
theorem EB (a:Ac) (v:Value):(bQ a v).toList=IM a v:=rfl
theorem uy (a:Ac) (v:Value) (hv:v.oneCell'=true):∀ u∈(bQ a v).toList,u.oneCell'=true:=by
 intro u hu
 rw [EB] at hu
 unfold IM at hu
 simp only [aI6,aK9,aI9,or_false] at hu
 rcases hu with rfl|rfl|rfl|rfl|hu|rfl|rfl
 ·rfl
 ·rfl
 ·rfl
 ·rfl
 ·exact k6 _ _ hu
 ·exact hv
 ·rfl
section
variable (a:Ac) (v:Value)
theorem ZL:(bQ a v)[0]? = some (.int .i64 a.k):=rfl
theorem vG:(bQ a v)[1]? = some (.int .i64 a.no):=rfl
theorem au0:(bQ a v)[2]? = some (.int .i64 a.tO):=rfl
theorem Fy (j:Nat):(bQ a v)[36+j]? = ([v,.string a.d]:List Value)[j]? := by
 unfold bQ
 rw [aJ8,show 36+j=32+j+4 by omega]
 show ((aH a.i).toList++[v,.string a.d])[32+j]? = _
 rw [aK7 (by rw [jc];omega),jc,Nat.add_sub_cancel_left]
theorem WV:(bQ a v)[36]? = some v:=Fy a v 0
theorem H7:(bQ a v)[37]? = some (.string a.d):=Fy a v 1
theorem LM:(bQ a v).extract 4 (4+32)=aH a.i:=qK (by
 show ((aH a.i).toList++[v,.string a.d]).take 32=_
 rw [List.take_append_of_le_length (by rw [jc];omega),aJ9 (by rw [jc];omega)])
theorem RB (u:Value) (l:List dN):(bQ a v).setIfInBounds 36 u=bQ {a with l:=l} u:=uc (by
 show (IM a v).set 36 u=_
 unfold IM
 rw [show (36:Nat)=32+4 from rfl]
 simp only [List.set_cons_succ]
 rw [List.set_append_right _ _ (by rw [jc];omega),jc];rfl)
theorem LT (u:Value):(bQ a v).setIfInBounds 36 u=bQ a u:=RB a v u a.l
theorem Qt (q:ByteArray):(bQ a v).setIfInBounds 37 (.string q)=bQ {a with d:=q} v:=uc (by
 show (IM a v).set 37 _=_
 unfold IM
 rw [show (37:Nat)=33+4 from rfl]
 simp only [List.set_cons_succ]
 rw [List.set_append_right _ _ (by rw [jc];omega),jc];rfl)
end
abbrev A2:=Ac × Value
def d7 (a:Ac):Ac:=⟨a.k,a.no,a.tO,a.n,a.i,a.l.take (min a.l.length 6),a.d.extract 0 (min a.d.size 70)⟩
def acZ:List (List Value):=[[.int .i64 0],[.int .i64 0],[.int .i64 0],[.int .i64 0],List.replicate 32 (.int .u8 0),[.slice none 0 0],[.string ByteArray.empty]]
theorem A7 {P:Program} {ρ:Operand->Value} {d:Option Tmp} {ty:TypeId} {pos:String} {af:Array Edge} {g:Option (Nat × Bool)} {x y z u:Operand} {t:TypeId} {a b:Int} {v:Value} {s:ByteArray} (l:List dN) (S:Stt P t acZ) (hv:v.cells.size=1) (hc:v.cells.toList=[v]) (hx:ρ x=.int .i64 a) (hy:ρ y=.int .i64 b) (hz:ρ z=v) (hu:ρ u=.string s):aZ P ⟨d,.build t #[(0,x),(1,y),(5,z),(6,u)],ty,pos,af,g⟩ ρ (.agg (bQ ⟨a,b,0,0,0#256,l,s⟩ v)):=by
 have:=bw (P:=P) (ρ:=ρ) (d:=d) (ty:=ty) (pos:=pos) (af:=af) (g:=g) (parts:=#[(0,x),(1,y),(5,z),(6,u)]) S [(0,.int .i64 a),(1,.int .i64 b),(5,v),(6,.string s)] (by simp [hx,hy,hz,hu]) (λj q hm=>by
  simp only [aI6,aM8,aI9,or_false] at hm
  rcases hm with ⟨rfl,rfl⟩|⟨rfl,rfl⟩|⟨rfl,rfl⟩|⟨rfl,rfl⟩
  ·exact ⟨_,rfl,rfl⟩
  ·exact ⟨_,rfl,rfl⟩
  ·exact ⟨_,rfl,hv⟩
  ·exact ⟨_,rfl,rfl⟩) (D:=IM ⟨a,b,0,0,0#256,l,s⟩ v) (by
   show [Value.int .i64 a]++([Value.int .i64 b]++([Value.int .i64 0]++([Value.int .i64 0]++(List.replicate 32 (Value.int .u8 0)++(v.cells.toList++([Value.string s]++[]))))))=_
   rw [hc,show List.replicate 32 (Value.int .u8 0)=(aH 0#256).toList from by rw [eJ];rfl];rfl)
 exact this
end Go.Proofs.YthmlflaiidhoiaaGreatDoor
namespace Go.Proofs.YthmlflaiidhoiaaGreatDoor
open Go.RowKit Go.ChangeShapes Go.WideShapes Go.ChangeAt
theorem IY {H α:Type} {enc:TypeId × Value->H} {P:Program} {W:World} {ts t:TypeId} {fuel:Nat} {cs:List Value} {x:DataW H × List MemPlace} (C:α->Array Value) (sz:Nat) (h0:0<sz) (hC:∀ a,(C a).size=sz) (z:α) (Q:α->Prop)
 (hts:P.underlying ts=some (.slice t)) (hct:P.cellsOf t=sz) (op:∀ (fuel:Nat) (cs:List Value) (x:DataW H × List MemPlace),DataW.trod enc P W 0 (λ_=>true) true fuel t cs=some x->∃ l:α,cs=(C l).toList/\Q l)
 (hf:DataW.trod enc P W 0 (λ_=>true) true fuel ts cs=some x):∃ (v:Value) (ls:List α),cs=[v]/\bs W v sz ls.length (ls.flatMap λa=>(C a).toList)/\∀ x∈ls,Q x:=by
 rcases Go.Deep.open_slice hts hf with ⟨hcs,_⟩|⟨a',len,cap,m,k,D,Pl,hcs,_,hl,_,hm,_,hel⟩
 ·exact ⟨_,[],hcs,⟨by simp,.inl ⟨rfl,rfl⟩⟩,λx h=>by cases h⟩
 ·have hml:len<=m:=by rw [hm];split<;>omega
  have each:∀ i,∃ l:α,i<len->aJ W (a'.add (i*sz)) (C l)/\Q l:=λi=>by
   by_cases hi:i<len
   ·obtain ⟨cs',hc1,hc2⟩:=hel i (by omega)
    obtain ⟨l,rfl,hq⟩:=op _ _ _ hc2
    refine ⟨l,λ_=>⟨λj u hj=>?_,hq⟩⟩
    rw [hct] at hc1
    obtain ⟨_,hlen,hall⟩:=World.cells?_some hc1
    have hj34:j<sz:=by have:=(aO1.1 hj).1;rw [hC] at this;exact this
    have:=hall j hj34
    rw [this,aN9];exact hj
   ·exact ⟨z,λh9=>aO7 h9 hi⟩
  obtain ⟨L,hL⟩:=Classical.axiomOfChoice each
  refine ⟨_,(List.range len).map L,hcs,⟨?_,.inr ⟨a',cap,by simp,by simpa using hl,?_⟩⟩,λx hx=>?_⟩
  ·exact eF _ sz (λa=>by rw [aI2,hC]) _
  ·refine pU _ sz h0 (λx=>by rw [aI2,hC]) _ λi hi=>?_
   have hi':i<len:=by simpa using hi
   have:=(hL i hi').1
   simpa using this
  ·obtain ⟨j,hj,rfl⟩:=aL9.1 hx
   exact(hL j (aI7.1 hj)).2
theorem KI {H:Type} {enc:TypeId × Value->H} {P:Program} {w:World} {t te tn ti tz tl e:TypeId} {f0 f1 f2 a0 a1 a2 a3 a4 a5 a6:Field} {fuel:Nat} {cs:List Value} {x:DataW H × List MemPlace} (T:IdTy P ti e) (hc:P.cellsOf ti=32) (hce:P.cellsOf e=1) (hn:P.underlying tn=some (.int .i64)) (hcn:P.cellsOf tn=1)
 (hz:P.underlying tz=some .string) (hcz:P.cellsOf tz=1) (hcl:P.cellsOf tl=1) (htl:P.underlying tl=some (.slice te))
 (hte:P.underlying te=some (.struct #[f0,f1,f2])) (h0:f0.type=tn) (h1:f1.type=ti) (h2:f2.type=tn) (o0:f0.offset=0) (o1:f1.offset=1) (o2:f2.offset=33) (hcte:P.cellsOf te=34)
 (ht:P.underlying t=some (.struct #[a0,a1,a2,a3,a4,a5,a6])) (m0:a0.type=tn) (m1:a1.type=tn) (m2:a2.type=tn) (m3:a3.type=tn) (m4:a4.type=ti) (m5:a5.type=tl) (m6:a6.type=tz)
 (q0:a0.offset=0) (q1:a1.offset=1) (q2:a2.offset=2) (q3:a3.offset=3) (q4:a4.offset=4) (q5:a5.offset=36) (q6:a6.offset=37) (hct:P.cellsOf t=38)
 (h:DataW.trod enc P w 0 (λ_=>true) true fuel t cs=some x):∃ l:A2,cs=(bQ l.1 l.2).toList/\iJ w l.2 l.1.l:=by
 obtain ⟨xs,n,rfl,_,hl,hxl,hel⟩:=DataW.trod_struct ht h
 rw [hct] at hl
 have hx2:xs.length=7:=by simpa using hxl
 have e0:=hel 0 a0 rfl
 have e1:=hel 1 a1 rfl
 have e2:=hel 2 a2 rfl
 have e3:=hel 3 a3 rfl
 have e4:=hel 4 a4 rfl
 have e5:=hel 5 a5 rfl
 have e6:=hel 6 a6 rfl
 rw [m0,q0,hcn,aH8 (by omega)] at e0
 rw [m1,q1,hcn,aH8 (by omega)] at e1
 rw [m2,q2,hcn,aH8 (by omega)] at e2
 rw [m3,q3,hcn,aH8 (by omega)] at e3
 rw [m4,q4,hc,aH8 (by omega)] at e4
 rw [m5,q5,hcl,aH8 (by omega)] at e5
 rw [m6,q6,hcz,aH8 (by omega)] at e6
 obtain ⟨u0,z0,_⟩:=DataW.trod_int hn e0
 obtain ⟨u1,z1,_⟩:=DataW.trod_int hn e1
 obtain ⟨u2,z2,_⟩:=DataW.trod_int hn e2
 obtain ⟨u3,z3,_⟩:=DataW.trod_int hn e3
 obtain ⟨u4,z4⟩:=ky T hc hce e4
 obtain ⟨u5,ls,z5,hR⟩:=mf cG 34 (by decide) bR (0,0#256,0) htl hcte (λ_ _ _ h9=>wR T hc hce hn hcn hte h0 h1 h2 o0 o1 o2 hcte h9) e5
 obtain ⟨u6,z6,_⟩:=DataW.trod_string hz e6
 refine ⟨(⟨u0,u1,u2,u3,u4,ls,u6⟩,u5),?_,hR⟩
 show cs=[.int .i64 u0]++([.int .i64 u1]++([.int .i64 u2]++([.int .i64 u3]++((aH u4).toList++([u5]++[.string u6])))))
 rw [← z0,← z1,← z2,← z3,← z4,← z5,← z6,List.drop_zero]
 have s7:(cs.drop 37).take 1=cs.drop 37:=aJ9 (by rw [aK2];omega)
 have st:∀ a b:Nat,(cs.drop a).take b++cs.drop (a+b)=cs.drop a:=λa b=>by
  have:=aJ7 b (cs.drop a)
  rw [List.drop_drop] at this
  exact this
 rw [s7,st 36 1,st 4 32,st 3 1,st 2 1,st 1 1,aJ7]
structure Wd where
 ov:List Nd
 sv:List Sv
 ho:List Ho
 ml:Ml
def LY:Wd:=⟨[],[],[],CX⟩
abbrev V2:=Sv × Value
abbrev H4:=Ho × Value × Value × Value
def cd:V2:=(qA,ax)
def bX:H4:=(sO,ax,ax,ax)
structure Wx where
 L:List N3
 S:List V2
 H:List H4
 M:Ml
def zWx:Wx:=⟨[],[],[],CX⟩
def Zv (vo vs vh vl:Value) (la nw:Int):List Value:=[vo,vs,vh,vl,.int .i64 la,.int .i64 nw]
def fA (vo vs vh vl:Value) (la nw:Int):Array Value:=(Zv vo vs vh vl la nw).toArray
theorem cx (vo vs vh vl:Value) (la nw:Int):(fA vo vs vh vl la nw).size=6:=rfl
theorem js {vo vs vh vl:Value} (la nw:Int) (h1:vo.oneCell'=true) (h2:vs.oneCell'=true) (h3:vh.oneCell'=true) (h4:vl.oneCell'=true):∀ u∈(fA vo vs vh vl la nw).toList,u.oneCell'=true:=λu hu=>by
 have hu:u∈Zv vo vs vh vl la nw:=hu
 unfold Zv at hu
 simp only [aI6,aI9,or_false] at hu
 rcases hu with rfl|rfl|rfl|rfl|rfl|rfl<;>first|assumption|rfl
section
variable (vo vs vh vl:Value) (la nw:Int)
theorem al4:(fA vo vs vh vl la nw).extract 0 (0+1)=#[vo]:=rfl
theorem zM:(fA vo vs vh vl la nw)[0]? = some vo:=rfl
theorem vA:(fA vo vs vh vl la nw)[1]? = some vs:=rfl
theorem Hl:(fA vo vs vh vl la nw)[2]? = some vh:=rfl
theorem at4:(fA vo vs vh vl la nw).extract 3 (3+3)=#[vl,.int .i64 la,.int .i64 nw]:=rfl
theorem WM:(fA vo vs vh vl la nw)[3]? = some vl:=rfl
end
def wdZ:List (List Value):=[[.slice none 0 0],[.slice none 0 0],[.slice none 0 0],[.slice none 0 0,.int .i64 0,.int .i64 0]]
def vy (x:V2):List Value:=UA x.1.no x.1.sec x.2
theorem jY (x:V2):(vy x).length=3:=rfl
def a8 (l:List V2):List Value:=l.flatMap vy
theorem Cj (l:List V2):(a8 l).length=l.length*3:=eF _ 3 jY l
theorem U0 {l:List V2} {j:Nat} (hj:j<l.length):l[j]=l.getD j cd:=by rw [aJ6,aH8 hj];rfl
theorem nJ (l:List V2) (j:Nat) (hj:j<l.length):(((a8 l).drop (j*3)).take 3).toArray=bC (l.getD j cd).1.no (l.getD j cd).1.sec (l.getD j cd).2:=by
 unfold a8
 rw [eU _ 3 jY l j hj,U0 hj];rfl
theorem cK {l:List V2} {j:Nat} (hj:j<l.length):l.getD j cd∈l:=by rw [← U0 hj];exact aN1 hj
def pY (x:H4):List Value:=OV x.1.no x.1.gt x.2.1 x.2.2.1 x.2.2.2
theorem iL (x:H4):(pY x).length=5:=rfl
def bB (l:List H4):List Value:=l.flatMap pY
theorem h4D {l:List H4} {j:Nat} (hj:j<l.length):l[j]=l.getD j bX:=by rw [aJ6,aH8 hj];rfl
theorem Bi (l:List H4) (j:Nat) (hj:j<l.length):(((bB l).drop (j*5)).take 5).toArray=ca (l.getD j bX).1.no (l.getD j bX).1.gt (l.getD j bX).2.1 (l.getD j bX).2.2.1 (l.getD j bX).2.2.2:=by
 unfold bB
 rw [eU _ 5 iL l j hj,h4D hj];rfl
theorem eB {l:List H4} {j:Nat} (hj:j<l.length):l.getD j bX∈l:=by rw [← h4D hj];exact aN1 hj
structure RdW (w:World) (vo vs vh vl:Value) (X:Wx):Prop where
 ov:kr w vo X.L
 sv:bs w vs 3 X.S.length (a8 X.S)
 sw:∀ x∈X.S,eP w x.2 x.1.tb
 ho:bs w vh 5 X.H.length (bB X.H)
 hw:∀ x∈X.H,pE w x.2.1 x.2.2.1 x.2.2.2 x.1
 ml:bs w vl 4 X.M.l.length (cg X.M.l)
theorem RdW.keep {w w':World} {vo vs vh vl:Value} {X:Wx} (h:RdW w vo vs vh vl X) (e:Ext w w'):RdW w' vo vs vh vl X:=
 ⟨⟨h.ov.1.keep e,λx hx=>⟨(h.ov.2 x hx).1.keep e,(h.ov.2 x hx).2.keep e⟩⟩,h.sv.keep e,λx hx=>(h.sw x hx).keep e,h.ho.keep e,λx hx=>⟨(h.hw x hx).1.keep e,(h.hw x hx).2.1.keep e,(h.hw x hx).2.2.keep e⟩,h.ml.keep e⟩
def aC (X:Wx):Wd:=⟨nds X.L,X.S.map (·.1),X.H.map (·.1),X.M⟩
theorem dY (w:World):RdW w ax ax ax ax zWx:=
 ⟨⟨⟨rfl,.inl ⟨rfl,rfl⟩⟩,λ_ h=>(by cases h)⟩,⟨rfl,.inl ⟨rfl,rfl⟩⟩,λ_ h=>(by cases h),⟨rfl,.inl ⟨rfl,rfl⟩⟩,λ_ h=>(by cases h),⟨rfl,.inl ⟨rfl,rfl⟩⟩⟩
def jg (i:Id):Bool:=(List.range 16).all λk=>decide (bP i (k+16)=255)
def qX (W:Wd) (k:Nat):Bool:=cW (W.sv.getD k qA) && (decide ((W.sv.getD k qA).no=(W.ov.getD k zN).me.1) && jg (W.ov.getD k zN).me.2)
def zt (l:List Ho) (k:Nat):Bool:=dc (l.getD k sO) && !(decide (0<k) && decide ((l.getD k sO).no<=(l.getD (k - 1) sO).no))
def bZ (W:Wd):Bool:=kK (ej W.ov) && (dV W.ml && (decide (W.sv.length=W.ov.length) && ((List.range W.sv.length).all (qX W) && (List.range W.ho.length).all (zt W.ho))))
structure Wr where
 w:Wd
 n:List Nt
 e:Int
def gF (e:Int):Wr:=⟨LY,[],e⟩
def iG (W:Wd):Wr:=⟨W,[],0⟩
def w6 {α:Type} (f:α->Int) (z:α) (l:List α) (n:Int):α:=(l.find? λx=>decide (f x=n)).getD z
def ft {α:Type} (f:α->Int) (l:List α) (x:α):List α:=(l.filter λy=>decide (f y<f x))++x::l.filter λy=>decide (f x<f y)
def EW {α:Type} (f:α->Int) (l:List α) (n:Int):List α:=l.filter λy => !decide (f y=n)
def noS:Sv:=⟨-1,ByteArray.empty,[]⟩
def noH:Ho:=⟨-1,0,[],[],[]⟩
def j4 (W:Wd) (n:Int):Sv:=w6 (·.no) noS W.sv n
def fQ (W:Wd) (n:Int):Ho:=w6 (·.no) noH W.ho n
def rf (W:Wd) (s:Sv):Wd:={W with sv:=ft (·.no) W.sv s}
def tG (W:Wd) (h:Ho):Wd:={W with ho:=ft (·.no) W.ho h}
structure Pt where
 w:Wd
 n:List Nt
 no:Int
def pt (t:Pt) (x:Nt):Pt:=⟨t.w,t.n++[{x with tm:=t.w.ml.now}],t.no⟩
def A5 (no wa y:Int):Nt:=⟨5,0,no,wa,0,cr,ByteArray.empty,y⟩
def aj4 (m:Mg):dN:=m.l.getD 0 (0,0#256,0)
def abG (m:Mg):Bool:=NC m || (decide (m.k=1) && decide ((aj4 m).1=1))
def Yk (m:Mg):Id:=bif decide (m.k=1) then (aj4 m).2.1 else m.i
def Yt (W:Wd) (fr:Int) (s:Se):Int:=bif decide (s.1<0) then wkE (ej W.ov) (Yk s.2.1) fr 16 else 0
def Tx (W:Wd) (fr:Int) (s:Se):Int:=bif decide (s.1<0) then (wkM (ej W.ov) (Yk s.2.1) fr 16).1 else s.1
def BR (W:Wd) (fr:Int) (s:Se):Int:=bif decide (Yt W fr s=0) then dw W.ml fr (Tx W fr s) (db s.2.1) else Yt W fr s
def bT (t:Pt) (fr:Int) (s:Se):Pt:=
 bif decide (BR t.w fr s=0) then ⟨{t.w with ml:=iX t.w.ml fr (Tx t.w fr s) (db s.2.1)},t.n,lQ t.w.ml fr (Tx t.w fr s) (db s.2.1)⟩
 else pt ⟨t.w,t.n,0⟩ (A5 fr 0 (BR t.w fr s))
def Tq (t:Pt) (fr:Int) (l:List Se):Pt:=l.foldl (λt s=>bT t fr s) t
def onN (no wa le:Int) (tr:Tg):Nt:=⟨3,0,no,wa,le,tr,ByteArray.empty,0⟩
def goP (t:Pt) (fr no wa:Int) (s:Se):Pt:=bif decide (0<(bT t fr s).no) && decide (s.2.1.k=1) then pt (bT t fr s) (onN no wa (bT t fr s).no s.2.2) else bT t fr s
def ax0 (t:Pt) (fr no wa:Int) (l:List Se):Pt:=l.foldl (λt s=>goP t fr no wa s) t
def pF (t:Pt):Wr:=⟨t.w,t.n,0⟩
def wD (W:Wd) (x:Lt) (y:Int):Wr:=pF (pt ⟨W,[],0⟩ (A5 x.2.2.1 x.1 y))
def al9 (no:Int) (tr:Tg):Nt:=⟨2,0,no,0,0,tr,ByteArray.empty,0⟩
def ae0 (no wa:Int) (d:ByteArray):Nt:=⟨4,0,no,wa,0,cr,d,0⟩
noncomputable def Vx (W:Wd) (s:Sv) (x:Lt) (m:Mg):Wr:=
 bif !decide ((DV s x.2.1 m W.ml.now).e=0) then wD W x (DV s x.2.1 m W.ml.now).e else
 pF (ax0 (bif decide (0<(DV s x.2.1 m W.ml.now).l.length) && decide (((DV s x.2.1 m W.ml.now).l.getD 0 Yq).2.1.k=5) then pt ⟨rf W (DV s x.2.1 m W.ml.now).s,[],0⟩ (al9 s.no (XR m W.ml.now)) else ⟨rf W (DV s x.2.1 m W.ml.now).s,[],0⟩) s.no s.no x.1 (DV s x.2.1 m W.ml.now).l)
noncomputable def Y9 (W:Wd) (s:Sv) (x:Lt) (m:Mg):Wr:=
 bif abG m then (bif !decide (wkE (ej W.ov) (Yk m) s.no 16=0) then wD W x (wkE (ej W.ov) (Yk m) s.no 16) else
  bif !decide ((wkM (ej W.ov) (Yk m) s.no 16).1=s.no) then pF (goP ⟨W,[],0⟩ x.2.1 s.no x.1 ((wkM (ej W.ov) (Yk m) s.no 16).1,m,cr)) else Vx W s x m) else Vx W s x m
def aa2 (W:Wd) (h:Ho) (x:Lt) (m:Mg):Wr:=
 bif !decide ((JM h x.2.1 m W.ml.now).e=0) then wD W x (JM h x.2.1 m W.ml.now).e else
 pF (Tq (bif decide (m.k=1) then pt ⟨tG W (JM h x.2.1 m W.ml.now).h,[],0⟩ (ae0 h.no x.1 m.d) else ⟨tG W (JM h x.2.1 m W.ml.now).h,[],0⟩) x.2.2.1 (JM h x.2.1 m W.ml.now).l)
noncomputable def Y5 (W:Wd) (x:Lt):Wr:=
 bif !decide (aw7 x.2.2.2=0) then wD W x 4 else
 bif decide (0<=(j4 W x.2.2.1).no) then Y9 W (j4 W x.2.2.1) x (YF x.2.2.2) else
 bif decide (16<=x.2.2.1) && decide (0<=(fQ W (x.2.2.1 - 16)).no) then aa2 W (fQ W (x.2.2.1 - 16)) x (YF x.2.2.2) else wD W x 10
def tF (W:Wd) (a:Ac):Mb:=Cx (dO W.ov) a.i
def rG (W:Wd) (a:Ac):Int:=bif decide (64<a.d.size) || !jg a.i then 1 else lG (ej W.ov) (a.no,a.i) (tF W a).1
def AE (W:Wd) (a:Ac):List Nd:=nB (ej W.ov) (a.no,a.i) (tF W a).1
def rH (W:Wd) (a:Ac):Id:=(Hb (dO (AE W a)) (a.no,a.i)).2
def ii (W:Wd) (a:Ac):Sv:=j4 W (tF W a).1
def iE (W:Wd) (a:Ac):Wr:=
 bif !decide (rG W a=0) then gF (rG W a) else
 bif decide (0<W.ov.length) then iG {rf (rf W ⟨(ii W a).no,(ii W a).sec,p5 (ii W a).tb (rH W a) a.i false⟩) ⟨a.no,a.d,p5 (ii W a).tb (rH W a) a.i true⟩ with ov:=AE W a}
 else iG {rf W ⟨a.no,a.d,[]⟩ with ov:=AE W a}
def t6 (W:Wd) (n:Int):List Sv:=EW (·.no) W.sv n
def jZ (W:Wd) (n:Int):Wr:=
 bif !decide (cE (ej W.ov) n=0) then gF (cE (ej W.ov) n) else
 bif decide (1<W.ov.length) then iG {rf {W with sv:=t6 W n} (gP (j4 W (fH (dO W.ov) (nG W.ov n).me).1) (j4 W n).tb) with ov:=ja W.ov n}
 else iG {W with sv:=t6 W n,ov:=ja W.ov n}
def Z5 (W:Wd) (n:Int):Wr:=bif !decide (cE (ej W.ov) n=0) then gF (cE (ej W.ov) n) else iG {W with sv:=t6 W n,ov:=sU W.ov n}
def ae2 (W:Wd):Wr:=iG {W with ov:=UJ W.ov}
def Y7 (W:Wd) (n:Int):Wr:=bif decide (LG W.ml n=0) then iG {W with ml:=ac1 W.ml n} else gF (LG W.ml n)
def ue (W:Wd) (n g:Int):Wr:=bif !decide (qn n g=0) then gF (qn n g) else bif decide (0<=(fQ W n).no) then gF 7 else iG (tG W (jl n g))
def ad1 (W:Wd) (a:Ac):Wr:=bif decide ((fQ W a.no).no<0) then gF 6 else bif decide (X4 (fQ W a.no) a.i a.n=0) then iG (tG W (ay4 (fQ W a.no) a.i a.n)) else gF (X4 (fQ W a.no) a.i a.n)
def Yy (W:Wd) (a:Ac):Wr:=bif decide ((fQ W a.no).no<0) then gF 6 else bif decide (WJ (fQ W a.no) a.i=0) then iG (tG W (au4 (fQ W a.no) a.i)) else gF (WJ (fQ W a.no) a.i)
def ad2 (W:Wd) (n:Int):Wr:=bif decide ((fQ W n).no<0) then gF 6 else pF (Tq ⟨W,[],0⟩ (16+n) (YC (fQ W n) W.ml.now))
def uS (no le:Int) (d:ByteArray):Nt:=⟨1,0,no,0,le,cr,d,0⟩
def lK (W:Wd) (a:Ac):Pt:=bT ⟨W,[],0⟩ (16+a.no) (wH (fQ W a.no) a.l a.d W.ml.now)
def pV (W:Wd) (a:Ac):Wr:=bif decide ((fQ W a.no).no<0) then gF 6 else bif !decide (oA (fQ W a.no) a.l a.d W.ml.now=0) then gF (oA (fQ W a.no) a.l a.d W.ml.now) else
 bif decide (0<(lK W a).no) then pF (pt (lK W a) (uS a.no (lK W a).no a.d)) else pF (lK W a)
def ar5 (a:Ac):Mg:=⟨2,a.i,a.l.getD 0 (0,0#256,0),[],a.n,ByteArray.empty,ByteArray.empty⟩
def ZT (W:Wd) (a:Ac):Wr:=bif decide ((fQ W a.no).no<0) then gF 6 else
 bif decide (a.l.length=1) && (decide ((a.l.getD 0 (0,0#256,0)).1=1) && (dQ a.l && gU a.n 1 1048576)) then pF (bT ⟨W,[],0⟩ (16+a.no) ((fQ W a.no).gt,ar5 a,cr)) else gF 1
def ag3 (W:Wd) (n:Int):Wr:=bif decide (twE W.ml n=0) then iG {W with ml:=twM W.ml n} else gF (twE W.ml n)
def Z8 (W:Wd) (n:Int):Wr:=bif decide (Mi W.ml n=0) then iG {W with ml:=TP W.ml n} else gF (Mi W.ml n)
def aj1 (W:Wd) (n:Int):Wr:=bif decide (Mi W.ml n=0) then iG {W with ml:=Z1 W.ml n} else gF (Mi W.ml n)
noncomputable def ac7 (W:Wd) (n:Int):Wr:=bif decide (Mi W.ml n=0) then Y5 {W with ml:=TP W.ml n} (atL W.ml n) else gF (Mi W.ml n)
noncomputable def D8 (W:Wd) (a:Ac):Nat->Wr
 |1=>iE W a|2=>jZ W a.no|3=>Z5 W a.no|4=>ae2 W|5=>Y7 W a.n|6=>ue W a.no a.tO|7=>ad1 W a|8=>Yy W a|9=>ad2 W a.no|10=>pV W a
 |11=>ac7 W a.n|12=>ag3 W a.n|13=>Z8 W a.n|14=>aj1 W a.n|15=>ZT W a|_=>gF 1
noncomputable def dW (W:Wd) (a:Ac):Wr:=bif bZ W && (decide (1<=a.k) && decide (a.k<=15)) then D8 W a a.k.toNat else gF 1
def S7 (w:World) (vo vs vh vl:Value) (X:Wx) (va:Value) (l:List dN) (R:Wr):ez:=λv w'=>∃ uo us uh ul un Y ks,v=.tuple #[.agg (fA uo us uh ul Y.M.last Y.M.now),un,.int .i64 R.e]/\aC Y=R.w/\
 St w [.grp ks λw9=>RdW w9 vo vs vh vl X->iJ w9 va l->RdW w9 uo us uh ul Y/\bs w9 un 74 R.n.length (bM R.n)] w'
theorem sM {H α:Type} {enc:TypeId × Value->H} {P:Program} {W:World} {ts t:TypeId} {fuel:Nat} {cs:List Value} {x:DataW H × List MemPlace} (C:α->Array Value) (sz:Nat) (h0:0<sz) (hC:∀ a,(C a).size=sz) (z:α) (Q:α->Prop)
 (hts:P.underlying ts=some (.slice t)) (hct:P.cellsOf t=sz) (op:∀ (fuel:Nat) (cs:List Value) (x:DataW H × List MemPlace),DataW.trod enc P W 0 (λ_=>true) true fuel t cs=some x->∃ l:α,cs=(C l).toList/\Q l)
 (hf:DataW.trod enc P W 0 (λ_=>true) true fuel ts cs=some x):∃ (v:Value) (ls:List α),cs=[v]/\bs W v sz ls.length (ls.flatMap λa=>(C a).toList)/\(∀ x∈ls,Q x)/\ls.length<=maxLen:=by
 obtain ⟨v,ls,h1,h2,h3⟩:=IY C sz h0 hC z Q hts hct op hf
 refine ⟨v,ls,h1,h2,h3,?_⟩
 rcases Go.Deep.open_slice hts hf with ⟨hcs,_⟩|⟨a',len,cap,m,k,D,Pl,hcs,_,hl,hcap,_⟩
 ·rcases h2.2 with ⟨_,h9⟩|⟨p,c,h9,_⟩
  ·rw [h9];exact aJ3 _
  ·rw [h1] at hcs
   rw [h9] at hcs
   simp at hcs
 ·rw [h1] at hcs
  obtain rfl:=(List.cons.inj hcs).1
  rcases h2.2 with ⟨h9,_⟩|⟨p,c,h9,_⟩
  ·cases h9
  ·have e:=(Value.slice.inj h9).2.1
   omega
theorem DT {cs:List Value} {a b c d e:Value} (hl:cs.length=5) (h0:(cs.drop 0).take 1=[a]) (h1:(cs.drop 1).take 1=[b]) (h2:(cs.drop 2).take 1=[c]) (h3:(cs.drop 3).take 1=[d]) (h4:(cs.drop 4).take 1=[e]):cs=[a,b,c,d,e]:=by
 match cs,hl with
 |[x,y,z,u,v],_=>simp at h0 h1 h2 h3 h4;subst h0;subst h1;subst h2;subst h3;subst h4;rfl
theorem QM {cs:List Value} {a b c d e f:Value} (hl:cs.length=6) (h0:(cs.drop 0).take 1=[a]) (h1:(cs.drop 1).take 1=[b]) (h2:(cs.drop 2).take 1=[c]) (h3:(cs.drop 3).take 3=[d,e,f]):cs=[a,b,c,d,e,f]:=by
 match cs,hl with
 |[x,y,z,u,v,w],_=>simp at h0 h1 h2 h3;obtain ⟨rfl,rfl,rfl⟩:=h3;subst h0;subst h1;subst h2;rfl
theorem Mo {H:Type} {enc:TypeId × Value->H} {P:Program} {W:World} {ti e tn tz tb tsb td tsd to:TypeId} {b0 b1 d0 d1 d2 d3 q0:Field} {fuel:Nat} {cs:List Value} {x:DataW H × List MemPlace} (T:IdTy P ti e) (hc:P.cellsOf ti=32) (hce:P.cellsOf e=1) (hn:P.underlying tn=some (.int .i64)) (hcn:P.cellsOf tn=1) (hz:P.underlying tz=some .string) (hcz:P.cellsOf tz=1) (hb:P.underlying tb=some (.struct #[b0,b1])) (hb0:b0.type=tn) (hb1:b1.type=ti) (ob0:b0.offset=0) (ob1:b1.offset=1) (hcb:P.cellsOf tb=33) (htsb:P.underlying tsb=some (.slice tb)) (hcsb:P.cellsOf tsb=1) (hd:P.underlying td=some (.struct #[d0,d1,d2,d3])) (hd0:d0.type=tb) (HL:d1.type=tb) (hd2:d2.type=tsb) (hd3:d3.type=tsb) (od0:d0.offset=0) (od1:d1.offset=33) (od2:d2.offset=66) (od3:d3.offset=67) (hcd:P.cellsOf td=68) (htsd:P.underlying tsd=some (.slice td)) (hcsd:P.cellsOf tsd=1) (hto:P.underlying to=some (.struct #[q0])) (oW:q0.type=tsd) (oq0:q0.offset=0) (hcto:P.cellsOf to=1) (hf:DataW.trod enc P W 0 (λ_=>true) true fuel to cs=some x):∃ (v:Value) (L:List N3),cs=[v]/\kr W v L/\L.length<=maxLen:=by
 obtain ⟨xs,n,hcells,_,hl,hxl,hel⟩:=DataW.trod_struct hto hf
 have hcl:cs.length=1:=by rw [← hcto];simpa using hl
 have hx1:xs.length=1:=by simpa using hxl
 have e0:=hel 0 q0 rfl
 rw [oW,oq0,hcsd,aH8 (by omega)] at e0
 obtain ⟨u,L,hu,hL,hL2,hL3⟩:=sM (λy:N3=>bu y.1.me y.1.pr y.2.1 y.2.2) 68 (by decide) (λy=>aP ..) z3 (λy=>wQ W y) htsd hcd (λ_ _ _ h=>Km T hc hce hn hcn hcsb htsb hb hb0 hb1 ob0 ob1 hcb hd hd0 HL hd2 hd3 od0 od1 od2 od3 hcd h) e0
 refine ⟨u,L,?_,⟨hL,hL2⟩,hL3⟩
 rw [List.drop_zero,aJ9 (by omega)] at hu
 exact hu
theorem I7 {H:Type} {enc:TypeId × Value->H} {P:Program} {W:World} {ti e tn tz tl tsl ty:TypeId} {l0 l1 l2 l3 y0 y1 y2:Field} {fuel:Nat} {cs:List Value} {x:DataW H × List MemPlace} (T:IdTy P ti e) (hc:P.cellsOf ti=32) (hce:P.cellsOf e=1) (hn:P.underlying tn=some (.int .i64)) (hcn:P.cellsOf tn=1) (hz:P.underlying tz=some .string) (hcz:P.cellsOf tz=1) (hl:P.underlying tl=some (.struct #[l0,l1,l2,l3])) (hl0:l0.type=tn) (hl1:l1.type=tn) (hl2:l2.type=tn) (hl3:l3.type=tz) (ol0:l0.offset=0) (ol1:l1.offset=1) (ol2:l2.offset=2) (ol3:l3.offset=3) (hcl:P.cellsOf tl=4) (htsl:P.underlying tsl=some (.slice tl)) (hcsl:P.cellsOf tsl=1) (hy:P.underlying ty=some (.struct #[y0,y1,y2])) (hy0:y0.type=tsl) (hy1:y1.type=tn) (hy2:y2.type=tn) (oy0:y0.offset=0) (oy1:y1.offset=1) (oy2:y2.offset=2) (hcy:P.cellsOf ty=3) (hf:DataW.trod enc P W 0 (λ_=>true) true fuel ty cs=some x):∃ (v:Value) (m:Ml),cs=[v,.int .i64 m.last,.int .i64 m.now]/\bs W v 4 m.l.length (cg m.l):=by
 obtain ⟨xs,n,hcells,_,hl9,hxl,hel⟩:=DataW.trod_struct hy hf
 have hcl9:cs.length=3:=by rw [← hcy];simpa using hl9
 have hx3:xs.length=3:=by simpa using hxl
 have e0:=hel 0 y0 rfl
 have e1:=hel 1 y1 rfl
 have e2:=hel 2 y2 rfl
 rw [hy0,oy0,hcsl,aH8 (by omega)] at e0
 rw [hy1,oy1,hcn,aH8 (by omega)] at e1
 rw [hy2,oy2,hcn,aH8 (by omega)] at e2
 obtain ⟨u,ls,hu,hls⟩:=Is hn hcn hz hcz htsl hl hl0 hl1 hl2 hl3 ol0 ol1 ol2 ol3 hcl e0
 obtain ⟨a,ha,_⟩:=DataW.trod_int hn e1
 obtain ⟨b,hb,_⟩:=DataW.trod_int hn e2
 exact ⟨u,⟨ls,a,b⟩,t8 hcl9 hu ha hb,hls⟩
theorem Nn {H:Type} {enc:TypeId × Value->H} {P:Program} {W:World} {ti e tn tz te ts tg tm:TypeId} {f0 f1 f2 k0 k1 k2 g0 g1 g2:Field} {fuel:Nat} {cs:List Value} {x:DataW H × List MemPlace} (T:IdTy P ti e) (hc:P.cellsOf ti=32) (hce:P.cellsOf e=1) (hn:P.underlying tn=some (.int .i64)) (hcn:P.cellsOf tn=1) (hz:P.underlying tz=some .string) (hcz:P.cellsOf tz=1) (hte:P.underlying te=some (.struct #[f0,f1,f2])) (h0:f0.type=tn) (h1:f1.type=ti) (h2:f2.type=tn) (o0:f0.offset=0) (o1:f1.offset=1) (o2:f2.offset=33) (hcte:P.cellsOf te=34) (hts:P.underlying ts=some (.slice tg)) (hcs:P.cellsOf ts=1) (htg:P.underlying tg=some (.struct #[k0,k1,k2])) (j0:k0.type=ti) (j1:k1.type=te) (j2:k2.type=tn) (p0:k0.offset=0) (p1:k1.offset=32) (p2:k2.offset=66) (hctg:P.cellsOf tg=67) (htm:P.underlying tm=some (.struct #[g0,g1,g2])) (ht0:g0.type=tn) (ht1:g1.type=tz) (ht2:g2.type=ts) (Rh:g0.offset=0) (ho1:g1.offset=1) (ho2:g2.offset=2) (hctm:P.cellsOf tm=3) (hf:DataW.trod enc P W 0 (λ_=>true) true fuel tm cs=some x):∃ y:V2,cs=(bC y.1.no y.1.sec y.2).toList/\eP W y.2 y.1.tb:=by
 obtain ⟨xs,n,hcells,_,hl,hxl,hel⟩:=DataW.trod_struct htm hf
 have hcl:cs.length=3:=by rw [← hctm];simpa using hl
 have hx3:xs.length=3:=by simpa using hxl
 have e0:=hel 0 g0 rfl
 have e1:=hel 1 g1 rfl
 have e2:=hel 2 g2 rfl
 rw [ht0,Rh,hcn,aH8 (by omega)] at e0
 rw [ht1,ho1,hcz,aH8 (by omega)] at e1
 rw [ht2,ho2,hcs,aH8 (by omega)] at e2
 obtain ⟨k,ie,_⟩:=DataW.trod_int hn e0
 obtain ⟨d9,hd9,_⟩:=DataW.trod_string hz e1
 obtain ⟨u,ls,hu,hls⟩:=mf aU 67 (by decide) aE cr hts hctg (λ_ _ _ h=>NE T hc hce hn hcn hte h0 h1 h2 o0 o1 o2 hcte htg j0 j1 j2 p0 p1 p2 hctg h) e2
 exact ⟨(⟨k,d9,ls⟩,u),t8 hcl ie hd9 hu,hls⟩
theorem Lz {H:Type} {enc:TypeId × Value->H} {P:Program} {W:World} {ti e tn tz tw tsw th tsh tst tx:TypeId} {a0 a1 c0 c1 c2 x0 x1 x2 x3 x4:Field} {fuel:Nat} {cs:List Value} {x:DataW H × List MemPlace} (T:IdTy P ti e) (hc:P.cellsOf ti=32) (hce:P.cellsOf e=1) (hn:P.underlying tn=some (.int .i64)) (hcn:P.cellsOf tn=1) (hz:P.underlying tz=some .string) (hcz:P.cellsOf tz=1) (hw:P.underlying tw=some (.struct #[a0,a1])) (ha0:a0.type=ti) (ha1:a1.type=tn) (oa0:a0.offset=0) (oa1:a1.offset=32) (hcw:P.cellsOf tw=33) (htsw:P.underlying tsw=some (.slice tw)) (hcsw:P.cellsOf tsw=1) (hh:P.underlying th=some (.struct #[c0,c1,c2])) (hc0:c0.type=ti) (hc1:c1.type=tn) (hc2:c2.type=tn) (oc0:c0.offset=0) (oc1:c1.offset=32) (oc2:c2.offset=33) (hch:P.cellsOf th=34) (htsh:P.underlying tsh=some (.slice th)) (hcsh:P.cellsOf tsh=1) (htst:P.underlying tst=some (.slice tz)) (hcst:P.cellsOf tst=1) (hx:P.underlying tx=some (.struct #[x0,x1,x2,x3,x4])) (hx0:x0.type=tn) (hx1:x1.type=tn) (hx2:x2.type=tsw) (hx3:x3.type=tsh) (hx4:x4.type=tst) (ox0:x0.offset=0) (ox1:x1.offset=1) (ox2:x2.offset=2) (ox3:x3.offset=3) (ox4:x4.offset=4) (hcx:P.cellsOf tx=5) (hf:DataW.trod enc P W 0 (λ_=>true) true fuel tx cs=some x):∃ y:H4,cs=(ca y.1.no y.1.gt y.2.1 y.2.2.1 y.2.2.2).toList/\pE W y.2.1 y.2.2.1 y.2.2.2 y.1:=by
 obtain ⟨xs,n,hcells,_,hl,hxl,hel⟩:=DataW.trod_struct hx hf
 have hcl:cs.length=5:=by rw [← hcx];simpa using hl
 have hx5:xs.length=5:=by simpa using hxl
 have e0:=hel 0 x0 rfl
 have e1:=hel 1 x1 rfl
 have e2:=hel 2 x2 rfl
 have e3:=hel 3 x3 rfl
 have e4:=hel 4 x4 rfl
 rw [hx0,ox0,hcn,aH8 (by omega)] at e0
 rw [hx1,ox1,hcn,aH8 (by omega)] at e1
 rw [hx2,ox2,hcsw,aH8 (by omega)] at e2
 rw [hx3,ox3,hcsh,aH8 (by omega)] at e3
 rw [hx4,ox4,hcst,aH8 (by omega)] at e4
 obtain ⟨k,ie,_⟩:=DataW.trod_int hn e0
 obtain ⟨k2,hk2,_⟩:=DataW.trod_int hn e1
 obtain ⟨vw,ws,hvw,hws⟩:=mf ef 33 (by decide) dA jJ htsw hcw (λ_ _ _ h=>LW T hc hce hn hcn hw ha0 ha1 oa0 oa1 hcw h) e2
 obtain ⟨vh,hs,hvh,hhs⟩:=mf dT 34 (by decide) dB gC htsh hch (λ_ _ _ h=>KO T hc hce hn hcn hh hc0 hc1 hc2 oc0 oc1 oc2 hch h) e3
 obtain ⟨vi,bx,hvi,hbx⟩:=mf (λa=>#[Value.string a]) 1 (by decide) (λ_=>rfl) ByteArray.empty htst hcz (λ_ _ _ h=>Ka hz h) e4
 rw [PL] at hbx
 exact ⟨(⟨k,k2,ws,hs,bx⟩,vw,vh,vi),DT hcl ie hk2 hvw hvh hvi,hws,hhs,hbx⟩
theorem Nl {H:Type} {enc:TypeId × Value->H} {P:Program} {W:World} {ti e tn tz te ts tg tm tb tsb td tsd to tw tsw th tsh tst tx tl tsl ty tW tss tsx:TypeId} {f0 f1 f2 k0 k1 k2 g0 g1 g2 b0 b1 d0 d1 d2 d3 q0 a0 a1 c0 c1 c2 x0 x1 x2 x3 x4 l0 l1 l2 l3 y0 y1 y2 w0 w1 w2 w3:Field} {fuel:Nat} {cs:List Value} {x:DataW H × List MemPlace} (T:IdTy P ti e) (hc:P.cellsOf ti=32) (hce:P.cellsOf e=1) (hn:P.underlying tn=some (.int .i64)) (hcn:P.cellsOf tn=1) (hz:P.underlying tz=some .string) (hcz:P.cellsOf tz=1) (hte:P.underlying te=some (.struct #[f0,f1,f2])) (h0:f0.type=tn) (h1:f1.type=ti) (h2:f2.type=tn) (o0:f0.offset=0) (o1:f1.offset=1) (o2:f2.offset=33) (hcte:P.cellsOf te=34) (hts:P.underlying ts=some (.slice tg)) (hcs:P.cellsOf ts=1) (htg:P.underlying tg=some (.struct #[k0,k1,k2])) (j0:k0.type=ti) (j1:k1.type=te) (j2:k2.type=tn) (p0:k0.offset=0) (p1:k1.offset=32) (p2:k2.offset=66) (hctg:P.cellsOf tg=67) (htm:P.underlying tm=some (.struct #[g0,g1,g2])) (ht0:g0.type=tn) (ht1:g1.type=tz) (ht2:g2.type=ts) (Rh:g0.offset=0) (ho1:g1.offset=1) (ho2:g2.offset=2) (hctm:P.cellsOf tm=3) (hb:P.underlying tb=some (.struct #[b0,b1])) (hb0:b0.type=tn) (hb1:b1.type=ti) (ob0:b0.offset=0) (ob1:b1.offset=1) (hcb:P.cellsOf tb=33) (htsb:P.underlying tsb=some (.slice tb)) (hcsb:P.cellsOf tsb=1) (hd:P.underlying td=some (.struct #[d0,d1,d2,d3])) (hd0:d0.type=tb) (HL:d1.type=tb) (hd2:d2.type=tsb) (hd3:d3.type=tsb) (od0:d0.offset=0) (od1:d1.offset=33) (od2:d2.offset=66) (od3:d3.offset=67) (hcd:P.cellsOf td=68) (htsd:P.underlying tsd=some (.slice td)) (hcsd:P.cellsOf tsd=1) (hto:P.underlying to=some (.struct #[q0])) (oW:q0.type=tsd) (oq0:q0.offset=0) (hcto:P.cellsOf to=1) (hw:P.underlying tw=some (.struct #[a0,a1])) (ha0:a0.type=ti) (ha1:a1.type=tn) (oa0:a0.offset=0) (oa1:a1.offset=32) (hcw:P.cellsOf tw=33) (htsw:P.underlying tsw=some (.slice tw)) (hcsw:P.cellsOf tsw=1) (hh:P.underlying th=some (.struct #[c0,c1,c2])) (hc0:c0.type=ti) (hc1:c1.type=tn) (hc2:c2.type=tn) (oc0:c0.offset=0) (oc1:c1.offset=32) (oc2:c2.offset=33) (hch:P.cellsOf th=34) (htsh:P.underlying tsh=some (.slice th)) (hcsh:P.cellsOf tsh=1) (htst:P.underlying tst=some (.slice tz)) (hcst:P.cellsOf tst=1) (hx:P.underlying tx=some (.struct #[x0,x1,x2,x3,x4])) (hx0:x0.type=tn) (hx1:x1.type=tn) (hx2:x2.type=tsw) (hx3:x3.type=tsh) (hx4:x4.type=tst) (ox0:x0.offset=0) (ox1:x1.offset=1) (ox2:x2.offset=2) (ox3:x3.offset=3) (ox4:x4.offset=4) (hcx:P.cellsOf tx=5) (hl:P.underlying tl=some (.struct #[l0,l1,l2,l3])) (hl0:l0.type=tn) (hl1:l1.type=tn) (hl2:l2.type=tn) (hl3:l3.type=tz) (ol0:l0.offset=0) (ol1:l1.offset=1) (ol2:l2.offset=2) (ol3:l3.offset=3) (hcl:P.cellsOf tl=4) (htsl:P.underlying tsl=some (.slice tl)) (hcsl:P.cellsOf tsl=1) (hy:P.underlying ty=some (.struct #[y0,y1,y2])) (hy0:y0.type=tsl) (hy1:y1.type=tn) (hy2:y2.type=tn) (oy0:y0.offset=0) (oy1:y1.offset=1) (oy2:y2.offset=2) (hcy:P.cellsOf ty=3) (hW:P.underlying tW=some (.struct #[w0,w1,w2,w3])) (hw0:w0.type=to) (hw1:w1.type=tss) (hw2:w2.type=tsx) (hw3:w3.type=ty) (ow0:w0.offset=0) (ow1:w1.offset=1) (ow2:w2.offset=2) (ow3:w3.offset=3) (hcW:P.cellsOf tW=6) (htss:P.underlying tss=some (.slice tm)) (hcss:P.cellsOf tss=1) (htsx:P.underlying tsx=some (.slice tx)) (hcsx:P.cellsOf tsx=1) (hf:DataW.trod enc P W 0 (λ_=>true) true fuel tW cs=some x):∃ (X:Wx) (vo vs vh vl:Value),cs=Zv vo vs vh vl X.M.last X.M.now/\RdW W vo vs vh vl X/\X.L.length<=maxLen/\X.S.length<=maxLen/\X.H.length<=maxLen:=by
 obtain ⟨xs,n,hcells,_,hl9,hxl,hel⟩:=DataW.trod_struct hW hf
 have hcl9:cs.length=6:=by rw [← hcW];simpa using hl9
 have hxl4:xs.length=4:=by simpa using hxl
 have e0:=hel 0 w0 rfl
 have e1:=hel 1 w1 rfl
 have e2:=hel 2 w2 rfl
 have e3:=hel 3 w3 rfl
 rw [hw0,ow0,hcto,aH8 (by omega)] at e0
 rw [hw1,ow1,hcss,aH8 (by omega)] at e1
 rw [hw2,ow2,hcsx,aH8 (by omega)] at e2
 rw [hw3,ow3,hcy,aH8 (by omega)] at e3
 obtain ⟨vo,L,ho,hL,hbL⟩:=Mo T hc hce hn hcn hz hcz hb hb0 hb1 ob0 ob1 hcb htsb hcsb hd hd0 HL hd2 hd3 od0 od1 od2 od3 hcd htsd hcsd hto oW oq0 hcto e0
 obtain ⟨vs,S,hs,hS,hS2,hbS⟩:=sM (λy:V2=>bC y.1.no y.1.sec y.2) 3 (by decide) (λy=>aG ..) cd (λy=>eP W y.2 y.1.tb) htss hctm (λ_ _ _ h=>Nn T hc hce hn hcn hz hcz hte h0 h1 h2 o0 o1 o2 hcte hts hcs htg j0 j1 j2 p0 p1 p2 hctg htm ht0 ht1 ht2 Rh ho1 ho2 hctm h) e1
 obtain ⟨vh,Hs,hh9,hH,hH2,hbH⟩:=sM (λy:H4=>ca y.1.no y.1.gt y.2.1 y.2.2.1 y.2.2.2) 5 (by decide) (λy=>rfl) bX (λy=>pE W y.2.1 y.2.2.1 y.2.2.2 y.1) htsx hcx (λ_ _ _ h=>Lz T hc hce hn hcn hz hcz hw ha0 ha1 oa0 oa1 hcw htsw hcsw hh hc0 hc1 hc2 oc0 oc1 oc2 hch htsh hcsh htst hcst hx hx0 hx1 hx2 hx3 hx4 ox0 ox1 ox2 ox3 ox4 hcx h) e2
 obtain ⟨vl,m,hm,hM⟩:=I7 T hc hce hn hcn hz hcz hl hl0 hl1 hl2 hl3 ol0 ol1 ol2 ol3 hcl htsl hcsl hy hy0 hy1 hy2 oy0 oy1 oy2 hcy e3
 exact ⟨⟨L,S,Hs,m⟩,vo,vs,vh,vl,QM hcl9 ho hs hh9 hm,⟨hL,hS,hS2,hH,hH2,hM⟩,hbL,hbS,hbH⟩
theorem Ph {H:Type} {enc:TypeId × Value->H} {P:Program} {W:World} {r:Reach} {bb:Nat} {v:Value} {d:DataW H} {ps:List MemPlace} {ti e tn tz te ts tg tm tb tsb td tsd to tw tsw th tsh tst tx tl tsl ty tW tss tsx:TypeId} {f0 f1 f2 k0 k1 k2 g0 g1 g2 b0 b1 d0 d1 d2 d3 q0 a0 a1 c0 c1 c2 x0 x1 x2 x3 x4 l0 l1 l2 l3 y0 y1 y2 w0 w1 w2 w3:Field} (T:IdTy P ti e) (hc:P.cellsOf ti=32) (hce:P.cellsOf e=1) (hn:P.underlying tn=some (.int .i64)) (hcn:P.cellsOf tn=1) (hz:P.underlying tz=some .string) (hcz:P.cellsOf tz=1) (hte:P.underlying te=some (.struct #[f0,f1,f2])) (h0:f0.type=tn) (h1:f1.type=ti) (h2:f2.type=tn) (o0:f0.offset=0) (o1:f1.offset=1) (o2:f2.offset=33) (hcte:P.cellsOf te=34) (hts:P.underlying ts=some (.slice tg)) (hcs:P.cellsOf ts=1) (htg:P.underlying tg=some (.struct #[k0,k1,k2])) (j0:k0.type=ti) (j1:k1.type=te) (j2:k2.type=tn) (p0:k0.offset=0) (p1:k1.offset=32) (p2:k2.offset=66) (hctg:P.cellsOf tg=67) (htm:P.underlying tm=some (.struct #[g0,g1,g2])) (ht0:g0.type=tn) (ht1:g1.type=tz) (ht2:g2.type=ts) (Rh:g0.offset=0) (ho1:g1.offset=1) (ho2:g2.offset=2) (hctm:P.cellsOf tm=3) (hb:P.underlying tb=some (.struct #[b0,b1])) (hb0:b0.type=tn) (hb1:b1.type=ti) (ob0:b0.offset=0) (ob1:b1.offset=1) (hcb:P.cellsOf tb=33) (htsb:P.underlying tsb=some (.slice tb)) (hcsb:P.cellsOf tsb=1) (hd:P.underlying td=some (.struct #[d0,d1,d2,d3])) (hd0:d0.type=tb) (HL:d1.type=tb) (hd2:d2.type=tsb) (hd3:d3.type=tsb) (od0:d0.offset=0) (od1:d1.offset=33) (od2:d2.offset=66) (od3:d3.offset=67) (hcd:P.cellsOf td=68) (htsd:P.underlying tsd=some (.slice td)) (hcsd:P.cellsOf tsd=1) (hto:P.underlying to=some (.struct #[q0])) (oW:q0.type=tsd) (oq0:q0.offset=0) (hcto:P.cellsOf to=1) (hw:P.underlying tw=some (.struct #[a0,a1])) (ha0:a0.type=ti) (ha1:a1.type=tn) (oa0:a0.offset=0) (oa1:a1.offset=32) (hcw:P.cellsOf tw=33) (htsw:P.underlying tsw=some (.slice tw)) (hcsw:P.cellsOf tsw=1) (hh:P.underlying th=some (.struct #[c0,c1,c2])) (hc0:c0.type=ti) (hc1:c1.type=tn) (hc2:c2.type=tn) (oc0:c0.offset=0) (oc1:c1.offset=32) (oc2:c2.offset=33) (hch:P.cellsOf th=34) (htsh:P.underlying tsh=some (.slice th)) (hcsh:P.cellsOf tsh=1) (htst:P.underlying tst=some (.slice tz)) (hcst:P.cellsOf tst=1) (hx:P.underlying tx=some (.struct #[x0,x1,x2,x3,x4])) (hx0:x0.type=tn) (hx1:x1.type=tn) (hx2:x2.type=tsw) (hx3:x3.type=tsh) (hx4:x4.type=tst) (ox0:x0.offset=0) (ox1:x1.offset=1) (ox2:x2.offset=2) (ox3:x3.offset=3) (ox4:x4.offset=4) (hcx:P.cellsOf tx=5) (hl:P.underlying tl=some (.struct #[l0,l1,l2,l3])) (hl0:l0.type=tn) (hl1:l1.type=tn) (hl2:l2.type=tn) (hl3:l3.type=tz) (ol0:l0.offset=0) (ol1:l1.offset=1) (ol2:l2.offset=2) (ol3:l3.offset=3) (hcl:P.cellsOf tl=4) (htsl:P.underlying tsl=some (.slice tl)) (hcsl:P.cellsOf tsl=1) (hy:P.underlying ty=some (.struct #[y0,y1,y2])) (hy0:y0.type=tsl) (hy1:y1.type=tn) (hy2:y2.type=tn) (oy0:y0.offset=0) (oy1:y1.offset=1) (oy2:y2.offset=2) (hcy:P.cellsOf ty=3) (hW:P.underlying tW=some (.struct #[w0,w1,w2,w3])) (hw0:w0.type=to) (hw1:w1.type=tss) (hw2:w2.type=tsx) (hw3:w3.type=ty) (ow0:w0.offset=0) (ow1:w1.offset=1) (ow2:w2.offset=2) (ow3:w3.offset=3) (hcW:P.cellsOf tW=6) (htss:P.underlying tss=some (.slice tm)) (hcss:P.cellsOf tss=1) (htsx:P.underlying tsx=some (.slice tx)) (hcsx:P.cellsOf tsx=1) (hval:Value.okWide P W r bb tW v) (h:DataW.Trod enc P W 0 (λ_=>true) true tW v d ps):∃ (X:Wx) (vo vs vh vl:Value),v=.agg (fA vo vs vh vl X.M.last X.M.now)/\RdW W vo vs vh vl X/\X.L.length<=maxLen/\X.S.length<=maxLen/\X.H.length<=maxLen:=by
 have hv:∃ cs,v=.agg cs:=by
  unfold Value.okWide at hval
  simp only [hW] at hval
  obtain ⟨cs,h9,_⟩:=hval
  exact ⟨cs,h9⟩
 obtain ⟨cs,rfl⟩:=hv
 obtain ⟨fuel,hf⟩:=h
 obtain ⟨X,vo,vs,vh,vl,hcs9,hX⟩:=Nl T hc hce hn hcn hz hcz hte h0 h1 h2 o0 o1 o2 hcte hts hcs htg j0 j1 j2 p0 p1 p2 hctg htm ht0 ht1 ht2 Rh ho1 ho2 hctm hb hb0 hb1 ob0 ob1 hcb htsb hcsb hd hd0 HL hd2 hd3 od0 od1 od2 od3 hcd htsd hcsd hto oW oq0 hcto hw ha0 ha1 oa0 oa1 hcw htsw hcsw hh hc0 hc1 hc2 oc0 oc1 oc2 hch htsh hcsh htst hcst hx hx0 hx1 hx2 hx3 hx4 ox0 ox1 ox2 ox3 ox4 hcx hl hl0 hl1 hl2 hl3 ol0 ol1 ol2 ol3 hcl htsl hcsl hy hy0 hy1 hy2 oy0 oy1 oy2 hcy hW hw0 hw1 hw2 hw3 ow0 ow1 ow2 ow3 hcW htss hcss htsx hcsx hf
 refine ⟨X,vo,vs,vh,vl,?_,hX⟩
 have key:cs.toList=(fA vo vs vh vl X.M.last X.M.now).toList:=hcs9
 rw [Array.toList_inj.1 key]
def oi (W:Wd):Bool:=W.sv.any (λs=>decide (34<s.tb.length)) || (W.ov.any (λn=>decide (6<n.sc.length) || decide (18<n.fg.length)) || (W.ho.any (λh=>decide (10<h.ws.length) || (decide (10<h.hs.length) || decide (34<h.bx.length))) ||
 (decide (18<W.sv.length) || (decide (18<W.ov.length) || (decide (18<W.ho.length) || decide (66<W.ml.l.length))))))
structure BdW (W:Wd):Prop where
 sv:W.sv.length<=40
 tb:∀ s∈W.sv,s.tb.length<=100
 ov:W.ov.length<=40
 nd:∀ n∈W.ov,n.sc.length<=100/\n.fg.length<=100
 ho:W.ho.length<=40
 hb:∀ h∈W.ho,h.ws.length<=100/\h.hs.length<=100/\h.bx.length<=100
 ml:W.ml.l.length<=100
theorem Lb {W:Wd} (h:oi W=false):BdW W:=by
 unfold oi at h
 simp only [Bool.or_eq_false_iff,decide_eq_false_iff_not,aN5,Bool.or_eq_true,aI0,not_or] at h
 obtain ⟨h1,h2,h3,h4,h5,h6,h7⟩:=h
 exact ⟨by omega,λs hs=>by have:=h1 s hs;omega,by omega,λn hn=>by have:=h2 n hn;omega,by omega,λy hy=>by have:=h3 y hy;omega,by omega⟩
theorem qe {W:Wd} {a:Ac} (h:bZ W=true) (h1:1<=a.k) (h2:a.k<=15):dW W a=D8 W a a.k.toNat:=by
 unfold dW
 rw [h,aH2 h1,aH2 h2];rfl
def SQ:Id:=BitVec.ofNat 256 (2 ^ 128 - 1)
def Ui:Ac:=⟨1,1,0,0,SQ,[],ByteArray.empty⟩
def hsA:Ac:=⟨6,3,1,0,0#256,[],ByteArray.empty⟩
def sF:Ac:=⟨10,3,0,0,0#256,[(2,0#256,3)],⟨#[120]⟩⟩
def V1:Nd:=⟨(1,SQ),i1,[(1,SQ)],[]⟩
def XN:Wd:=⟨[V1],[⟨1,ByteArray.empty,[]⟩],[],CX⟩
def wI:Wd:=⟨[V1],[⟨1,ByteArray.empty,[]⟩],[⟨3,1,[],[],[]⟩],CX⟩
theorem NP:bZ LY=true:=by decide +kernel
theorem Ua:bZ XN=true:=by decide +kernel
theorem Uo:bZ wI=true:=by decide +kernel
theorem Ty:dW LY Ui=iG XN:=by
 rw [qe NP (by decide) (by decide)]
 show iE LY Ui=_
 have e1:rG LY Ui=0:=by decide +kernel
 have e2:AE LY Ui=[V1]:=by decide +kernel
 unfold iE
 rw [e1,e2];rfl
theorem Ug:dW XN hsA=iG wI:=by
 rw [qe Ua (by decide) (by decide)]
 show ue XN 3 1=_
 rfl
theorem ac9:(dW wI sF).e=0/\(dW wI sF).n.length=1/\((dW wI sF).n.getD 0 D5).k=1/\(dW wI sF).w.ml.l.length=1:=by
 have h0:pV wI sF=dW wI sF:=(qe (a:=sF) Uo (by decide) (by decide)).symm
 have h1:(fQ wI sF.no).no=3:=by decide +kernel
 have h2:oA (fQ wI sF.no) sF.l sF.d wI.ml.now=0:=by decide +kernel
 have h3:(lK wI sF).no=1:=by decide +kernel
 have h4:(lK wI sF).n=[]:=by decide +kernel
 have h5:(lK wI sF).w.ml.l.length=1:=by decide +kernel
 rw [← h0]
 unfold pV
 rw [h1,h2,h3]
 show (pF (pt (lK wI sF) (uS sF.no 1 sF.d))).e=0/\(pF (pt (lK wI sF) (uS sF.no 1 sF.d))).n.length=1/\_/\_
 refine ⟨rfl,?_,?_,h5⟩
 ·show ((lK wI sF).n++[_]).length=1
  rw [h4];rfl
 ·show (((lK wI sF).n++[_]).getD 0 D5).k=1
  rw [h4];rfl
structure RWd (W:Wd):Prop where
 ov:kK (ej W.ov)=true
 ml:dV W.ml=true
 len:W.sv.length=W.ov.length
 sv:∀ k,k<W.sv.length->qX W k=true
 ho:∀ k,k<W.ho.length->zt W.ho k=true
theorem gx {W:Wd}:bZ W=true↔RWd W:=by
 unfold bZ
 rw [aH5,aH5,aH5,aH5,aI0,aH6,aH6]
 refine ⟨λ⟨h1,h2,h3,h4,h5⟩=>⟨h1,h2,h3,λk hk=>h4 k (aI7.2 hk),λk hk=>h5 k (aI7.2 hk)⟩,λh=>⟨h.ov,h.ml,h.len,λk hk=>h.sv k (aI7.1 hk),λk hk=>h.ho k (aI7.1 hk)⟩⟩
theorem Yj {l:List Ho} {j:Nat} (hj:j<l.length):l[j]=l.getD j sO:=by rw [aJ6,aH8 hj];rfl
theorem RWd.right {W:Wd} (h:RWd W) {y:Ho} (hy:y∈W.ho):dc y=true:=by
 obtain ⟨k,hk,rfl⟩:=List.mem_iff_getElem.1 hy
 have:=h.ho k hk
 unfold zt at this
 rw [aH5] at this
 rw [Yj hk];exact this.1
theorem RWd.inc {W:Wd} (h:RWd W):∀ i j,i<j->j<W.ho.length->(W.ho.getD i sO).no<(W.ho.getD j sO).no:=λi j hij hj=>by
 induction j with
 |zero=>omega
 |succ j ih=>
  have h1:=h.ho (j+1) hj
  unfold zt at h1
  rw [aH5] at h1
  have h2:=h1.2
  simp only [Nat.zero_lt_succ,decide_true,Bool.true_and,Nat.add_sub_cancel,Bool.not_eq_true',decide_eq_false_iff_not] at h2
  rcases aJ4 i j with g|g
  ·have:=ih g (by omega);omega
  ·obtain rfl:i=j:=by omega
   omega
theorem AZ {h:Ho} (hr:dc h=true):(0<=h.no/\h.no<=15)/\(0<=h.gt/\h.gt<=15)/\h.ws.length<=8/\∀ k,k<h.hs.length->oo h.hs k=true:=by
 unfold dc okB gU at hr
 simp only [aH5,aI0,aH6,aI7] at hr
 obtain ⟨_,h2,_,h4,h5,h6,_⟩:=hr
 exact ⟨h4,h5,h6,h2⟩
theorem QT {h:Ho} (hr:dc h=true) (x:Id) (now:Int):0<=qv h x now/\qv h x now<=15:=by
 obtain ⟨_,hg,_,hh⟩:=AZ hr
 unfold qv
 cases hb:decide (0<=pD h x) && decide (now<(h.hs.getD (pD h x).toNat gC).2.2) with
 |false=>exact hg
 |true=>
  rw [aH5,aI0] at hb
  have hlt:(pD h x).toNat<h.hs.length:=by
   have h0:=hb.1
   unfold pD mO at h0 ⊢
   split at h0
   ·next hl=>
    rw [if_pos hl]
    have:(hk h.hs).length=h.hs.length:=aL1 _
    omega
   ·omega
  have:=hh _ hlt
  unfold oo gU at this
  simp only [aH5,aI0] at this
  exact this.1
theorem SB {h:Ho} (hr:dc h=true) (l:List dN) (now:Int):0<=xR h l now/\xR h l now<=15:=by
 unfold xR
 cases decide ((l.getD 0 (0,0#256,0)).1=1) with
 |true=>exact QT hr _ _
 |false=>exact (AZ hr).2.1
def jm (l:List Sv):List Tg:=l.flatMap (·.tb)
def gu (W:Wd):List Tg:=(jm W.sv).foldl ce []
theorem pb:∀ (l:List Tg) (A:List Tg),nC A->nC (l.foldl ce A)
 |[],_,h=>h
 |x::l,A,h=>pb l _ (eX h x)
theorem FH {A:List Tg} (h:nC A) (x:Tg):A.length<=(ce A x).length:=by
 obtain ⟨_,h2,h3⟩:=ON h x
 by_cases e:∃ y∈A,i3 y x
 ·rw [h2 e];exact aJ1 _
 ·rw [h3 λy hy hs=>e ⟨y,hy,hs⟩];omega
theorem nv:∀ (l:List Tg) {A:List Tg},nC A->A.length<=(l.foldl ce A).length
 |[],_,_=>aJ1 _
 |x::l,A,h=>aM5 (FH h x) (nv l (eX h x))
theorem ip {α:Type} (f:α->Int) (l:List α) (x:α):(ft f l x).Perm (x::l.filter λy => !decide (f y=f x)):=by
 unfold ft
 refine List.perm_middle.trans (List.Perm.cons _ ?_)
 induction l with
 |nil=>exact List.Perm.nil
 |cons y l ih=>
  rcases Int.lt_trichotomy (f y) (f x) with g|g|g
  ·rw [List.filter_cons_of_pos (by simpa using g),List.filter_cons_of_neg (by simp;omega),List.filter_cons_of_pos (by simp;omega)]
   exact List.Perm.cons _ ih
  ·rw [List.filter_cons_of_neg (by simp;omega),List.filter_cons_of_neg (by simp;omega),List.filter_cons_of_neg (by simp;omega)]
   exact ih
  ·rw [List.filter_cons_of_neg (by simp;omega),List.filter_cons_of_pos (by simpa using g),List.filter_cons_of_pos (by simp;omega)]
   exact List.perm_middle.trans (List.Perm.cons _ ih)
structure Inj {α:Type} (f:α->Int) (l:List α):Prop where
 eq:∀ x∈l,∀ y∈l,f x=f y->x=y
 nd:l.Nodup
theorem pg {α:Type} {f:α->Int}:∀ {l:List α},Inj f l->∀ {x:α},x∈l->l.Perm (x::l.filter λy => !decide (f y=f x))
 |[],_,_,hx=>by cases hx
 |y::l,h,x,hx=>by
  have hl:Inj f l:=⟨λa ha b hb=>h.eq a (aJ5 _ ha) b (aJ5 _ hb),(List.nodup_cons.1 h.nd).2⟩
  have hy:=(List.nodup_cons.1 h.nd).1
  by_cases e:f y=f x
  ·obtain rfl:=h.eq y aI5 x hx e
   rw [List.filter_cons_of_neg (by simp)]
   refine List.Perm.cons _ ?_
   rw [List.filter_eq_self.2 λz hz=>by
    simp only [Bool.not_eq_true',decide_eq_false_iff_not]
    intro e9
    exact hy ((h.eq z (aJ5 _ hz) y aI5 e9)▸hz)]
  ·rw [List.filter_cons_of_pos (by simpa using e)]
   rcases aI6.1 hx with rfl|hx
   ·exact aO7 rfl e
   ·exact((pg hl hx).cons y).trans (aO3 _ _ _)
theorem nx {l r:List Sv} (h:l.Perm r):(jm l).Perm (jm r):=h.flatMap_right _
theorem ud {l r:List Tg} (h:l.Perm r):l.foldl ce []=r.foldl ce []:=GY h [] List.Pairwise.nil
theorem Iz (p:Tg->Bool) (l:List Tg):(l.filter (λy=>p y == false)++l.filter λy=>p y == true).Perm l:=by
 induction l with
 |nil=>exact List.Perm.nil
 |cons y l ih=>
  cases h:p y with
  |false=>rw [List.filter_cons_of_pos (by rw [h];rfl),List.filter_cons_of_neg (by rw [h];decide)];exact ih.cons _
  |true=>rw [List.filter_cons_of_neg (by rw [h];decide),List.filter_cons_of_pos (by rw [h];rfl)];exact List.perm_middle.trans (ih.cons _)
theorem qP {t:List Tg} (h:RT t):t.foldl ce []=t:=by
 have hm:∀ y∈t,0<=y.2.2:=λy hy=>(l7.1 (h.may y hy)).2.1
 have key:∀ (n:Nat) (l r:List Tg),l.length=n->l++r=t->l.foldl ce []=t.filter λy=>decide (y∈l):=λn=>by
  induction n with
  |zero=>intro l r hn _;obtain rfl:=List.eq_nil_of_length_eq_zero hn;simp
  |succ n ih=>
   intro l' r hn e
   obtain ⟨l,x,rfl⟩:∃ l x,l'=l++[x]:=⟨l'.dropLast,l'.getLast (by intro h9;rw [h9] at hn;cases hn),(List.dropLast_concat_getLast _).symm⟩
   have hn:l.length=n:=by simpa using hn
   have hx:x∈t:=by rw [← e];simp
   have hnd:t.Nodup:=by
    refine List.Pairwise.imp ?_ h.srt
    intro a b hab e9
    subst e9
    exact oq _ hab
   have hp:decide (x∈l)=false:=by
    refine aH1 λh9=>?_
    rw [← e,aM3] at hnd
    have:=(List.nodup_append.1 hnd).2.2 x h9 x (by simp)
    exact this rfl
   rw [List.foldl_append,ih l (x::r) hn (by rw [← e];simp)]
   show ce _ x=_
   rw [Ix h.srt hm (λy=>decide (y∈l)) hx hp]
   refine List.filter_congr λy _=>?_
   simp [aK9]
 rw [key t.length t [] rfl (aM4 _)]
 exact List.filter_eq_self.2 λy hy=>aH2 hy
theorem RWd.ro {W:Wd} (h:RWd W):RO W.ov:=by have:=jw h.ov;rwa [p6] at this
theorem YD {l:List Sv} {j:Nat} (hj:j<l.length):l[j]=l.getD j qA:=by rw [aJ6,aH8 hj];rfl
theorem ndD {l:List Nd} {j:Nat} (hj:j<l.length):l[j]=l.getD j zN:=by rw [aJ6,aH8 hj];rfl
theorem RWd.nos {W:Wd} (h:RWd W):W.sv.map (·.no)=W.ov.map (·.me.1):=by
 refine List.ext_getElem (by rw [aL1,aL1];exact h.len) λk h1 h2=>?_
 rw [aL1] at h1 h2
 rw [List.getElem_map,List.getElem_map,YD h1,ndD h2]
 have:=h.sv k h1
 unfold qX at this
 simp only [aH5,aI0] at this
 exact this.2.1
theorem RWd.sright {W:Wd} (h:RWd W) {s:Sv} (hs:s∈W.sv):cW s=true:=by
 obtain ⟨k,hk,rfl⟩:=List.mem_iff_getElem.1 hs
 have:=h.sv k hk
 unfold qX at this
 rw [aH5] at this
 rw [YD hk];exact this.1
theorem RWd.inj {W:Wd} (h:RWd W):Inj (·.no) W.sv:=by
 have hp:W.sv.Pairwise λa b=>a.no<b.no:=by
  have h1:(W.ov.map (·.me.1)).Pairwise (· < ·):=List.pairwise_map.2 h.ro.inc
  rw [← h.nos] at h1
  exact List.pairwise_map.1 h1
 refine ⟨λx hx y hy e=>?_,hp.imp λ{a b} hab e=>by subst e;omega⟩
 obtain ⟨i,hi,rfl⟩:=List.mem_iff_getElem.1 hx
 obtain ⟨j,hj,rfl⟩:=List.mem_iff_getElem.1 hy
 have hg:=List.pairwise_iff_getElem.1 hp
 rcases Nat.lt_trichotomy i j with g|g|g
 ·have:=hg i j hi hj g;omega
 ·subst g;rfl
 ·have:=hg j i hj hi g;omega
theorem sh {W:Wd} {n:Int} (h:n∈W.sv.map (·.no)):j4 W n∈W.sv/\(j4 W n).no=n:=by
 obtain ⟨s,hs,rfl⟩:=aL9.1 h
 unfold j4 w6
 cases hf:W.sv.find? λx=>decide (x.no=s.no) with
 |none=>have:=List.find?_eq_none.1 hf s hs;simp at this
 |some y=>exact ⟨List.mem_of_find?_eq_some hf,by simpa using List.find?_some hf⟩
theorem jq (s:Sv) (l:List Sv):jm (s::l)=s.tb++jm l:=rfl
theorem PE {W:Wd} (h:RWd W) {a:Ac} (he:(iE W a).e=0):gu (iE W a).w=gu W:=by
 unfold iE at he ⊢
 cases h1:decide (rG W a=0) with
 |false=>
  rw [h1] at he
  exact aO7 he (aH0 h1)
 |true=>
  have hE:=aG9 h1
  show gu (bif false then _ else _:Wr).w=_
  rw [cond_false]
  cases h2:decide (0<W.ov.length) with
  |false=>
   have h0:W.ov.length=0:=by have:=aH0 h2;omega
   have hs:W.sv=[]:=List.eq_nil_of_length_eq_zero (h.len.trans h0)
   show (jm (ft (·.no) W.sv ⟨a.no,a.d,[]⟩)).foldl ce []=(jm W.sv).foldl ce []
   rw [hs];rfl
  |true=>
   have hl:0<W.ov.length:=aG9 h2
   have hml:0<(dO W.ov).length:=by unfold dO;rw [aL1];exact hl
   have hom:(tF W a).1∈W.sv.map (·.no):=by
    rw [h.nos]
    have:=sf (l:=dO W.ov) a.i hml
    obtain ⟨n,hn,e⟩:=aL9.1 this
    exact aL9.2 ⟨n,hn,by rw [e];rfl⟩
   obtain ⟨hs,hno⟩:=sh hom
   have hnew:∀ s∈W.sv,s.no≠a.no:=λs hs9 e9=>by
    have hx:a.no∈W.ov.map (·.me.1):=by rw [← h.nos];exact aL9.2 ⟨s,hs9,e9⟩
    obtain ⟨n,hn,e⟩:=aL9.1 hx
    unfold rG at hE
    cases h3:(decide (64<a.d.size) || !jg a.i) with
    |true=>rw [h3] at hE;cases hE
    |false=>
     rw [h3] at hE
     have hE:lG (ej W.ov) (a.no,a.i) (tF W a).1=0:=hE
     unfold lG at hE
     cases h4:Bt (ej W.ov) (a.no,a.i) with
     |false=>rw [h4] at hE;cases hE
     |true=>
      rw [h4] at hE
      have hE:AN (ej W.ov) (a.no,a.i) (tF W a).1=0:=hE
      unfold AN at hE
      have hT:zH (ej W.ov) (a.no,a.i)=true:=by
       obtain ⟨k,hk,ek⟩:=List.mem_iff_getElem.1 hn
       unfold zH
       refine aN4.2 ⟨k,aI7.2 (by unfold ej;rw [aL1];exact hk),?_⟩
       unfold nA
       have:((ej W.ov).getD k z3).1=n:=by
        unfold ej
        rw [aJ6,aM0,aH8 hk,ek];rfl
       rw [this,aH2 e];rfl
      rw [hT] at hE;cases hE
   have p0:=pg h.inj hs
   have hjo:ii W a=j4 W (tF W a).1:=rfl
   rw [← hjo] at p0 hs hno
   have p1:(ft (·.no) W.sv ⟨(ii W a).no,(ii W a).sec,p5 (ii W a).tb (rH W a) a.i false⟩).Perm (⟨(ii W a).no,(ii W a).sec,p5 (ii W a).tb (rH W a) a.i false⟩::W.sv.filter λy => !decide (y.no=(ii W a).no)):=ip (·.no) W.sv _
   have p2:=ip (·.no) (ft (·.no) W.sv ⟨(ii W a).no,(ii W a).sec,p5 (ii W a).tb (rH W a) a.i false⟩) (⟨a.no,a.d,p5 (ii W a).tb (rH W a) a.i true⟩:Sv)
   have hself:(ft (·.no) W.sv ⟨(ii W a).no,(ii W a).sec,p5 (ii W a).tb (rH W a) a.i false⟩).filter (λy => !decide (y.no=a.no))=ft (·.no) W.sv ⟨(ii W a).no,(ii W a).sec,p5 (ii W a).tb (rH W a) a.i false⟩:=by
    refine List.filter_eq_self.2 λy hy=>?_
    have hy:=p1.mem_iff.1 hy
    rcases aI6.1 hy with rfl|hy
    ·simpa using hnew _ hs
    ·simpa using hnew _ (aK4.1 hy).1
   rw [hself] at p2
   have q:=nx (p2.trans (p1.cons _))
   show (jm (ft (·.no) (ft (·.no) W.sv _) _)).foldl ce []=(jm W.sv).foldl ce []
   refine ud (q.trans (List.Perm.trans ?_ (nx p0).symm))
   rw [jq,jq,jq,← aM3]
   refine List.Perm.append_right _ ?_
   exact(List.perm_append_comm).trans (Iz (λy:Tg=>zb y.1 (rH W a) a.i) (ii W a).tb)
theorem tu:∀ (l:List Tg) (A:List Tg) (n:Nat),nC A->(l.foldl ce A).length<=32->lN l (A,n)=(l.foldl ce A,n)
 |[],_,_,_,_=>rfl
 |x::l,A,n,hA,h=>by
  have h1:(ce A x).length<=32:=aM5 (nv l (eX hA x)) h
  show lN l (bif decide ((ce A x).length<=32) then (ce A x,n) else (A,n+1))=_
  rw [aH2 h1]
  exact tu l (ce A x) n (eX hA x) h
theorem IX {W:Wd} (h:RWd W) {n:Int} (he:(jZ W n).e=0) (hr:(gu W).length<=32) (hx:0<(jZ W n).w.sv.length):gu (jZ W n).w=gu W:=by
 unfold jZ at he hx ⊢
 cases h1:decide (cE (ej W.ov) n=0) with
 |false=>rw [h1] at he;exact aO7 he (aH0 h1)
 |true=>
  rw [h1] at hx
  have hc:=YE (aG9 h1)
  show gu (bif false then _ else _:Wr).w=_
  have hx:0<(bif decide (1<W.ov.length) then iG {rf {W with sv:=t6 W n} (gP (j4 W (fH (dO W.ov) (nG W.ov n).me).1) (j4 W n).tb) with ov:=ja W.ov n} else iG {W with sv:=t6 W n,ov:=ja W.ov n}:Wr).w.sv.length:=hx
  rw [cond_false]
  have hlv:∃ g∈W.ov,g.me.1=n/\nG W.ov n=g:=by
   have h2:=hc.2
   have hme:aN (ej W.ov)=dO W.ov:=by unfold ej dO aN;rw [List.map_map];rfl
   have hm:∃ g∈W.ov,g.me.1=n:=by
    rw [hme] at h2
    obtain ⟨m,hm,e⟩:=Gb h.ro.ring h2
    obtain ⟨g,hg,rfl⟩:=aL9.1 hm
    exact ⟨g,hg,e⟩
   unfold nG
   cases hf:W.ov.find? λx=>decide (x.me.1=n) with
   |none=>obtain ⟨g,hg,e⟩:=hm;have:=List.find?_eq_none.1 hf g hg;simp [e] at this
   |some y=>exact ⟨y,List.mem_of_find?_eq_some hf,by simpa using List.find?_some hf,rfl⟩
  obtain ⟨g,hg,hgn,hgN⟩:=hlv
  obtain ⟨hs,hno⟩:=sh (W:=W) (n:=n) (by rw [h.nos];exact aL9.2 ⟨g,hg,hgn⟩)
  have p0:=pg h.inj hs
  rw [hno] at p0
  cases h2:decide (1<W.ov.length) with
  |false=>
   rw [h2] at hx
   have hx:0<(W.sv.filter λy => !decide (y.no=n)).length:=hx
   have:=p0.length_eq
   rw [aK5,h.len] at this
   have:=aH0 h2
   omega
  |true=>
   have h2:=aG9 h2
   have hmem:g.me∈dO W.ov:=aL9.2 ⟨g,hg,rfl⟩
   have hRg:Rg (dO W.ov):=h.ro.ring
   obtain ⟨y,hy,hyn⟩:∃ y∈dO W.ov,y≠g.me:=by
    apply Classical.byContradiction
    intro h9
    have hall:∀ y∈W.ov,y.me=g.me:=λy hy=>Classical.byContradiction λe=>h9 ⟨y.me,aL9.2 ⟨y,hy,rfl⟩,e⟩
    have hp:=List.pairwise_iff_getElem.1 h.ro.inc 0 1 (by omega) h2 (by decide)
    have e0:=hall _ (aN1 (show 0<W.ov.length by omega))
    have e1:=hall _ (aN1 h2)
    rw [e0,e1] at hp;omega
   have hnx:=(Mv hRg hmem hy hyn).1
   have hnm:=F8 hmem
   rw [hgN]
   obtain ⟨ht,htn⟩:=sh (W:=W) (n:=(fH (dO W.ov) g.me).1) (by
    rw [h.nos]
    obtain ⟨z,hz,e⟩:=aL9.1 hnm
    exact aL9.2 ⟨z,hz,by rw [e]⟩)
   have hne:(fH (dO W.ov) g.me).1≠n:=λe9=>hnx (hRg.no hnm hmem (by rw [e9,hgn]))
   generalize hS:j4 W n=s at *
   generalize hT:j4 W (fH (dO W.ov) g.me).1=t at *
   have htw:t∈W.sv.filter λy => !decide (y.no=n):=aK4.2 ⟨ht,by rw [htn];simpa using hne⟩
   have hinj2:Inj (·.no) (W.sv.filter λy => !decide (y.no=n)):=⟨λa ha b hb=>h.inj.eq a (aK4.1 ha).1 b (aK4.1 hb).1,h.inj.nd.filter _⟩
   have p1:=pg hinj2 htw
   have hrs:=(fk.1 (h.sright hs)).2.2.2
   have hrt:=(fk.1 (h.sright ht)).2.2.2
   have hRT:=gh.1 hrt
   have hRS:=gh.1 hrs
   generalize hR:((W.sv.filter λy => !decide (y.no=n)).filter λy => !decide (y.no=t.no))=R at *
   have pall:W.sv.Perm (t::s::R):=p0.trans ((p1.cons _).trans (aO3 _ _ _))
   have huni:gu W=(jm R).foldl ce (s.tb.foldl ce t.tb):=by
    show (jm W.sv).foldl ce []=_
    rw [ud (nx pall),jq,jq,List.foldl_append,List.foldl_append,qP hRT]
   have hroom:(s.tb.foldl ce t.tb).length<=32:=by
    rw [huni] at hr
    exact aM5 (nv _ (pb _ _ hRT.srt)) hr
   have hha:gP t s.tb=⟨t.no,t.sec,s.tb.foldl ce t.tb⟩:=by
    unfold gP P1
    rw [h.sright ht,hrs]
    show (⟨t.no,t.sec,(lN s.tb (t.tb,0)).1⟩:Sv)=_
    rw [tu _ _ _ hRT.srt hroom]
   rw [cond_true,hha]
   show (jm (ft (·.no) (EW (·.no) W.sv n) ⟨t.no,t.sec,s.tb.foldl ce t.tb⟩)).foldl ce []=_
   have p2:=ip (·.no) (EW (·.no) W.sv n) (⟨t.no,t.sec,s.tb.foldl ce t.tb⟩:Sv)
   have e2:((EW (·.no) W.sv n).filter λy => !decide (y.no=t.no))=R:=hR
   rw [e2] at p2
   rw [ud (nx p2),jq,List.foldl_append,huni,qP]
   have hgen:∀ (l A:List Tg),RT A->(∀ y∈l,iV y=true)->(l.foldl ce A).length<=32->RT (l.foldl ce A):=λl=>by
    induction l with
    |nil=>intro A hA _ _;exact hA
    |cons x l ih=>
     intro A hA hm hl
     exact ih _ (uB hA (hm x aI5) (aM5 (nv l (eX hA.srt x)) hl)) (λy hy=>hm y (aJ5 _ hy)) hl
   exact hgen _ _ hRT (λy hy=>hRS.may y hy) hroom
section
variable {P:Program} {ρ:Operand->Value} {d:Option Tmp} {ty:TypeId} {pos:String} {af:Array Edge} {g:Option (Nat × Bool)} {x y z u:Operand} {t:TypeId}
theorem AV {v:Value} (a b:Int) (h:v.oneCell'=true):∀ u∈(#[v,.int .i64 a,.int .i64 b]:Array Value).toList,u.oneCell'=true:=λu hu=>by
 simp only [aI6,aI9,or_false] at hu
 rcases hu with rfl|rfl|rfl<;>first|assumption|rfl
theorem pv (S:Stt P t wdZ):aZ P ⟨d,.build t #[],ty,pos,af,g⟩ ρ (.agg (fA ax ax ax ax 0 0)):=
 bw (P:=P) (ρ:=ρ) (d:=d) (ty:=ty) (pos:=pos) (af:=af) (g:=g) (parts:=#[]) S [] (by simp) (λi v hm=>by simp at hm) (D:=Zv ax ax ax ax 0 0) rfl
theorem zB {a b c:Int} (S:Stt P t acZ) (hx:ρ x=.int .i64 a) (hy:ρ y=.int .i64 b) (hz:ρ z=.int .i64 c):aZ P ⟨d,.build t #[(0,x),(1,y),(2,z)],ty,pos,af,g⟩ ρ (.agg (bQ ⟨a,b,c,0,0#256,[],ByteArray.empty⟩ ax)):=by
 have:=bw (P:=P) (ρ:=ρ) (d:=d) (ty:=ty) (pos:=pos) (af:=af) (g:=g) (parts:=#[(0,x),(1,y),(2,z)]) S [(0,.int .i64 a),(1,.int .i64 b),(2,.int .i64 c)] (by simp [hx,hy,hz]) (λj q hm=>by
  simp only [aI6,aM8,aI9,or_false] at hm
  rcases hm with ⟨rfl,rfl⟩|⟨rfl,rfl⟩|⟨rfl,rfl⟩
  ·exact ⟨_,rfl,rfl⟩
  ·exact ⟨_,rfl,rfl⟩
  ·exact ⟨_,rfl,rfl⟩) (D:=IM ⟨a,b,c,0,0#256,[],ByteArray.empty⟩ ax) (by
   show [Value.int .i64 a]++([Value.int .i64 b]++([Value.int .i64 c]++([Value.int .i64 0]++(List.replicate 32 (Value.int .u8 0)++([ax]++([Value.string ByteArray.empty]++[]))))))=_
   rw [show List.replicate 32 (Value.int .u8 0)=(aH 0#256).toList from by rw [eJ];rfl];rfl)
 exact this
theorem xI {a b:Int} {i:Id} (S:Stt P t acZ) (hx:ρ x=.int .i64 a) (hy:ρ y=.int .i64 b) (hz:ρ z=iy i):aZ P ⟨d,.build t #[(0,x),(1,y),(4,z)],ty,pos,af,g⟩ ρ (.agg (bQ ⟨a,b,0,0,i,[],ByteArray.empty⟩ ax)):=by
 have:=bw (P:=P) (ρ:=ρ) (d:=d) (ty:=ty) (pos:=pos) (af:=af) (g:=g) (parts:=#[(0,x),(1,y),(4,z)]) S [(0,.int .i64 a),(1,.int .i64 b),(4,iy i)] (by simp [hx,hy,hz]) (λj q hm=>by
  simp only [aI6,aM8,aI9,or_false] at hm
  rcases hm with ⟨rfl,rfl⟩|⟨rfl,rfl⟩|⟨rfl,rfl⟩
  ·exact ⟨_,rfl,rfl⟩
  ·exact ⟨_,rfl,rfl⟩
  ·exact ⟨_,rfl,aA _⟩) (D:=IM ⟨a,b,0,0,i,[],ByteArray.empty⟩ ax) rfl
 exact this
end
def IF:Nat->Id
 |0=>0#256
 |k+1=>JC (IF k) (k+16) 255
theorem LQ:IF 16=SQ:=by decide +kernel
theorem I3 (k:Nat):(aH (IF k)).setIfInBounds (k+16) (.int .u8 255)=aH (IF (k+1)):=wc (IF k) (k+16) 255 (by decide)
def Hf (s:Sv):Bool:=decide (34<s.tb.length)
def Cb (n:Nd):Bool:=decide (6<n.sc.length) || decide (18<n.fg.length)
def A4 (h:Ho):Bool:=decide (10<h.ws.length) || (decide (10<h.hs.length) || decide (34<h.bx.length))
theorem Ey (l:List V2) (k:Nat):(l.map (·.1)).getD k qA=(l.getD k cd).1:=by
 rw [aJ6,aJ6,aM0];cases l[k]? <;> rfl
theorem OP (l:List H4) (k:Nat):(l.map (·.1)).getD k sO=(l.getD k bX).1:=by
 rw [aJ6,aJ6,aM0];cases l[k]? <;> rfl
theorem ai2 {X:Wx} {k:Nat} (hk:k<X.S.length) (h:Hf (X.S.getD k cd).1=true):oi (aC X)=true:=by
 unfold oi
 rw [show (aC X).sv.any (λs=>decide (34<s.tb.length))=true from aN4.2 ⟨_,aL9.2 ⟨_,cK hk,rfl⟩,h⟩];rfl
theorem TW {X:Wx} {k:Nat} (hk:k<X.L.length) (h:Cb (X.L.getD k z3).1=true):oi (aC X)=true:=by
 unfold oi
 rw [show (aC X).ov.any (λn=>decide (6<n.sc.length) || decide (18<n.fg.length))=true from aN4.2 ⟨_,aL9.2 ⟨_,ci hk,rfl⟩,h⟩,Bool.true_or,Bool.or_true]
theorem Nu {X:Wx} {k:Nat} (hk:k<X.H.length) (h:A4 (X.H.getD k bX).1=true):oi (aC X)=true:=by
 unfold oi
 rw [show (aC X).ho.any (λh=>decide (10<h.ws.length) || (decide (10<h.hs.length) || decide (34<h.bx.length)))=true from aN4.2 ⟨_,aL9.2 ⟨_,eB hk,rfl⟩,h⟩,Bool.true_or,Bool.or_true,Bool.or_true]
theorem BB {X:Wx} (h1:∀ j,j<X.S.length->Hf (X.S.getD j cd).1=false) (h2:∀ j,j<X.L.length->Cb (X.L.getD j z3).1=false) (h3:∀ j,j<X.H.length->A4 (X.H.getD j bX).1=false):
 oi (aC X)=(decide (18<X.S.length) || (decide (18<X.L.length) || (decide (18<X.H.length) || decide (66<X.M.l.length)))):=by
 have e1:(aC X).sv.any (λs=>decide (34<s.tb.length))=false:=aN5.2 λs hs=>by
  obtain ⟨x,hx,rfl⟩:=aL9.1 hs
  obtain ⟨j,hj,rfl⟩:=List.mem_iff_getElem.1 hx
  rw [U0 hj];exact λh=>by have:=h1 j hj;unfold Hf at this;rw [this] at h;cases h
 have e2:(aC X).ov.any (λn=>decide (6<n.sc.length) || decide (18<n.fg.length))=false:=aN5.2 λs hs=>by
  obtain ⟨x,hx,rfl⟩:=aL9.1 hs
  obtain ⟨j,hj,rfl⟩:=List.mem_iff_getElem.1 hx
  rw [tB hj];exact λh=>by have:=h2 j hj;unfold Cb at this;rw [this] at h;cases h
 have e3:(aC X).ho.any (λh=>decide (10<h.ws.length) || (decide (10<h.hs.length) || decide (34<h.bx.length)))=false:=aN5.2 λs hs=>by
  obtain ⟨x,hx,rfl⟩:=aL9.1 hs
  obtain ⟨j,hj,rfl⟩:=List.mem_iff_getElem.1 hx
  rw [h4D hj];exact λh=>by have:=h3 j hj;unfold A4 at this;rw [this] at h;cases h
 unfold oi
 rw [e1,e2,e3,Bool.false_or,Bool.false_or,Bool.false_or]
 show (decide (18<(X.S.map _).length) || (decide (18<(X.L.map _).length) || (decide (18<(X.H.map _).length) || _)))=_
 rw [aL1,aL1,aL1];rfl
theorem BdW.sx {X:Wx} (h:BdW (aC X)):X.S.length<=40:=by have:=h.sv;unfold aC at this;simpa using this
theorem BdW.hx {X:Wx} (h:BdW (aC X)):X.H.length<=40:=by have:=h.ho;unfold aC at this;simpa using this
theorem BdW.ox {X:Wx} (h:BdW (aC X)):X.L.length<=40:=by have:=h.ov;unfold aC nds at this;simpa using this
theorem BdW.se {X:Wx} (h:BdW (aC X)) {k:Nat} (hk:k<X.S.length):(X.S.getD k cd).1.tb.length<=1000:=aM5 (h.tb _ (aL9.2 ⟨_,cK hk,rfl⟩)) (by decide)
theorem BdW.he {X:Wx} (h:BdW (aC X)) {k:Nat} (hk:k<X.H.length):(X.H.getD k bX).1.ws.length<=1000/\(X.H.getD k bX).1.hs.length<=1000/\(X.H.getD k bX).1.bx.length<=1000:=by
 obtain ⟨a,b,c⟩:=h.hb _ (aL9.2 ⟨_,eB hk,rfl⟩)
 exact ⟨by omega,by omega,by omega⟩
theorem BdW.oe {X:Wx} (h:BdW (aC X)):RwB X.L:=⟨λy hy=>by
 have:=h.nd _ (aL9.2 ⟨y,hy,rfl⟩)
 omega⟩
theorem as8:BdW LY:=⟨by decide,λs h=>(by cases h),by decide,λs h=>(by cases h),by decide,λs h=>(by cases h),by decide⟩
theorem ap2:BdW XN:=⟨by decide,λs h=>(by obtain rfl:=aI4.1 h;decide),by decide,λs h=>(by obtain rfl:=aI4.1 h;exact ⟨by decide,by decide⟩),by decide,λs h=>(by cases h),by decide⟩
theorem ap9:BdW wI:=⟨by decide,λs h=>(by obtain rfl:=aI4.1 h;decide),by decide,λs h=>(by obtain rfl:=aI4.1 h;exact ⟨by decide,by decide⟩),by decide,λs h=>(by obtain rfl:=aI4.1 h;exact ⟨by decide,by decide,by decide⟩),by decide⟩
theorem Zk {X:Wx} {W:Wd} (h:aC X=W) (hb:BdW W):BdW (aC X):=by rw [h];exact hb
def zo (l:List Sv) (k:Nat):List Tg:=(jm (l.take k)).foldl ce []
def rU (l:List Sv) (k j:Nat):List Tg:=((l.getD k qA).tb.take j).foldl ce (zo l k)
theorem mC {l:List Sv} {k j:Nat} (hj:j<(l.getD k qA).tb.length):rU l k (j+1)=ce (rU l k j) ((l.getD k qA).tb.getD j cr):=by
 unfold rU
 rw [kP hj,List.foldl_append];rfl
theorem JZ {l:List Sv} {k:Nat} (hk:k<l.length):rU l k (l.getD k qA).tb.length=zo l (k+1):=by
 unfold rU zo
 rw [List.take_length,List.take_succ_eq_append_getElem hk,YD hk]
 show _=(List.flatMap _ _).foldl ce []
 rw [aM2,List.foldl_append]
 simp [jm]
theorem MM (l:List Sv):zo l l.length=(jm l).foldl ce []:=by unfold zo;rw [List.take_length]
theorem F7 (l:List Sv) (k:Nat):nC (zo l k):=pb _ _ List.Pairwise.nil
theorem EP (l:List Sv) (k j:Nat):nC (rU l k j):=pb _ _ (F7 l k)
theorem U1 (l:List Sv) (k:Nat):(zo l k).length<=((jm l).foldl ce []).length:=by
 have e:jm l=jm (l.take k)++jm (l.drop k):=by
  unfold jm
  rw [← aM2,aJ7]
 rw [e,List.foldl_append]
 exact nv _ (F7 l k)
theorem N6 (l:List Sv) {k j:Nat} (hk:k<l.length):(rU l k j).length<=((jm l).foldl ce []).length:=by
 refine aM5 ?_ (U1 l (k+1))
 rw [← JZ hk]
 show _<=((List.take _ _).foldl ce (zo l k)).length
 rw [List.take_length]
 have e:=aJ7 j (l.getD k qA).tb
 have h:=nv ((l.getD k qA).tb.drop j) (EP l k j)
 unfold rU at h ⊢
 rw [← List.foldl_append,e] at h
 exact h
theorem TL {l:List Sv} {k j:Nat} (hj:j<(l.getD k qA).tb.length) (h:decide ((rU l k j).length<=32)=false):decide ((rU l k (j+1)).length<=32)=false:=by
 rw [mC hj]
 have:=FH (EP l k j) ((l.getD k qA).tb.getD j cr)
 have:=aH0 h
 exact aH1 (by omega)
theorem EO:∀ (l A:List Tg),(l.foldl ce A).length<=A.length+l.length
 |[],_=>aJ1 _
 |x::l,A=>by
  have h1:=EO l (ce A x)
  have h2:=Pm A x
  rw [aK5]
  show (l.foldl ce (ce A x)).length<=_
  omega
theorem Gc {c:Nat}:∀ (l:List Sv),(∀ s∈l,s.tb.length<=c)->(jm l).length<=l.length*c
 |[],_=>aJ3 _
 |s::l,h=>by
  have h1:=Gc l λy hy=>h y (aJ5 _ hy)
  have h2:=h s aI5
  show (s.tb++jm l).length<=_
  rw [aH7,aK5,Nat.succ_mul];omega
theorem Nx {W:Wd} {c n:Nat} (h:∀ s∈W.sv,s.tb.length<=c) (hn:W.sv.length<=n):(gu W).length<=n*c:=by
 have h1:=EO (jm W.sv) []
 have h2:=Gc W.sv h
 have h3:=Nat.mul_le_mul_right c hn
 unfold gu
 simp only [aK6] at h1
 omega
theorem Ed {W:Wd} (h:oi W=false):W.sv.length<=18:=by
 unfold oi at h
 simp only [Bool.or_eq_false_iff,decide_eq_false_iff_not] at h
 omega
theorem RWd.tb32 {W:Wd} (h:RWd W):∀ s∈W.sv,s.tb.length<=32:=λs hs=>(gh.1 (fk.1 (h.sright hs)).2.2.2).len
theorem yU {W:Wd} (h:RWd W) (n:Int):(j4 W n).tb.length<=32:=by
 unfold j4 w6
 cases e:W.sv.find? λx=>decide (x.no=n) with
 |none=>exact aJ3 _
 |some y=>exact h.tb32 y (List.mem_of_find?_eq_some e)
theorem NV:∀ (l:List Tg) (a:List Tg × Nat),a.1.length<=32->(lN l a).1.length<=32
 |[],_,h=>h
 |x::l,a,h=>by
  refine NV l _ ?_
  cases e:decide ((ce a.1 x).length<=32) with
  |true=>exact aG9 e
  |false=>exact h
theorem aa7 {t:Sv} (ht:t.tb.length<=32) (l:List Tg):(gP t l).tb.length<=32:=by
 unfold gP
 cases P1 t l with
 |true=>exact NV l (t.tb,0) ht
 |false=>exact aJ3 _
theorem mS {α:Type} (f:α->Int) (l:List α) (x:α):(ft f l x).length<=l.length+1:=by
 have h1:=(ip f l x).length_eq
 have h2:=aL2 (λy => !decide (f y=f x)) l
 rw [aK5] at h1
 omega
theorem mW {α:Type} {f:α->Int} {l:List α} {x y:α} (h:y∈ft f l x):y=x∨y∈l:=by
 rcases aI6.1 ((ip f l x).mem_iff.1 h) with h|h
 ·exact .inl h
 ·exact .inr (aK4.1 h).1
theorem Oj {l:List Tg} (h:l.length<=32) (a b:Id) (on:Bool):(p5 l a b on).length<=32:=aM5 (aL2 _ _) h
theorem Vt {W:Wd} (h:RWd W) (hb:W.sv.length<=18) {a:Ac} (he:(iE W a).e=0):(∀ s∈(iE W a).w.sv,s.tb.length<=32)/\(iE W a).w.sv.length<=20:=by
 unfold iE at he ⊢
 cases h1:decide (rG W a=0) with
 |false=>rw [h1] at he;exact aO7 he (aH0 h1)
 |true=>
  cases h2:decide (0<W.ov.length) with
  |true=>
   refine ⟨λs hs=>?_,?_⟩
   ·rcases mW hs with rfl|hs
    ·exact Oj (yU h _) _ _ _
    ·rcases mW hs with rfl|hs
     ·exact Oj (yU h _) _ _ _
     ·exact h.tb32 s hs
   ·have h3:=mS (·.no) W.sv ⟨(ii W a).no,(ii W a).sec,p5 (ii W a).tb (rH W a) a.i false⟩
    exact aM5 (mS _ _ _) (by show (ft _ _ _).length+1<=20;omega)
  |false=>
   refine ⟨λs hs=>?_,?_⟩
   ·rcases mW hs with rfl|hs
    ·exact aJ3 _
    ·exact h.tb32 s hs
   ·have h3:=mS (·.no) W.sv ⟨a.no,a.d,[]⟩
    exact aM5 h3 (by omega)
theorem UT {W:Wd} (h:RWd W) (hb:W.sv.length<=18) {n:Int} (he:(jZ W n).e=0):(∀ s∈(jZ W n).w.sv,s.tb.length<=32)/\(jZ W n).w.sv.length<=20:=by
 unfold jZ at he ⊢
 cases h1:decide (cE (ej W.ov) n=0) with
 |false=>rw [h1] at he;exact aO7 he (aH0 h1)
 |true=>
  have hw:∀ s∈t6 W n,s.tb.length<=32:=λs hs=>h.tb32 s (aK4.1 hs).1
  have hl:(t6 W n).length<=18:=aM5 (aL2 _ _) hb
  cases h2:decide (1<W.ov.length) with
  |true=>
   refine ⟨λs hs=>?_,?_⟩
   ·rcases mW hs with rfl|hs
    ·exact aa7 (yU h _) _
    ·exact hw s hs
   ·have h9:=mS (·.no) (t6 W n) (gP (j4 W (fH (dO W.ov) (nG W.ov n).me).1) (j4 W n).tb)
    exact aM5 h9 (by omega)
  |false=>exact ⟨hw,aM5 hl (by decide)⟩
theorem Xc {W:Wd} {c:Ac} (h:bZ W=true) (hb:oi W=false) (hk:c.k=1∨c.k=2) (he:(dW W c).e=0):
 ((∀ s∈(dW W c).w.sv,s.tb.length<=32)/\(dW W c).w.sv.length<=20)/\(0<(dW W c).w.sv.length->(gu W).length<=32->gu (dW W c).w=gu W):=by
 have hR:=gx.1 h
 rcases hk with hk|hk
 ·have e:dW W c=iE W c:=by
   rw [qe h (by omega) (by omega),hk];rfl
  rw [e] at he ⊢
  exact ⟨Vt hR (Ed hb) he,λ_ _=>PE hR he⟩
 ·have e:dW W c=jZ W c.no:=by
   rw [qe h (by omega) (by omega),hk];rfl
  rw [e] at he ⊢
  exact ⟨UT hR (Ed hb) he,λhx hr=>IX hR he hr hx⟩
theorem ai0 {W:Wd} (h:bZ W=true) (hb:oi W=false):(gu W).length<=700:=aM5 (Nx (c:=32) (n:=18) (gx.1 h).tb32 (Ed hb)) (by decide)
theorem RI (a:Ac) (v:Value) (q:Int):(bQ a v).setIfInBounds 0 (.int .i64 q)=bQ {a with k:=q} v:=uc rfl
theorem ap6 (kd:Int):(kd.tmod 2+2) % 2=((gT kd 2:Nat):Int)/\gT kd 2<2:=P5 kd (n:=2) (by decide)
theorem ZA {u:Bool} {l:List Sv} {k j:Nat} (hj:j<(l.getD k qA).tb.length) (h:(u && decide ((rU l k j).length<=32))=false):(u && decide ((rU l k (j+1)).length<=32))=false:=by
 cases u with
 |false=>rfl
 |true=>exact TL hj h
theorem ZK {u b c:Bool} (h:(u && b)=true):(u && c)=c:=by
 cases u with
 |false=>cases h
 |true=>rfl
theorem RZ {H:Type} {enc:TypeId × Value->H} {P:Program} {W:World} {r:Reach} {b0:Nat} {t te tn ti tz tl e:TypeId} {f0 f1 f2 a0 a1 a2 a3 a4 a5 a6:Field} {v:Value} {d:DataW H} {ps:List MemPlace} (T:IdTy P ti e) (hc:P.cellsOf ti=32) (hce:P.cellsOf e=1) (hn:P.underlying tn=some (.int .i64)) (hcn:P.cellsOf tn=1)
 (hz:P.underlying tz=some .string) (hcz:P.cellsOf tz=1) (hcl:P.cellsOf tl=1) (htl:P.underlying tl=some (.slice te))
 (hte:P.underlying te=some (.struct #[f0,f1,f2])) (h0:f0.type=tn) (h1:f1.type=ti) (h2:f2.type=tn) (o0:f0.offset=0) (o1:f1.offset=1) (o2:f2.offset=33) (hcte:P.cellsOf te=34)
 (ht:P.underlying t=some (.struct #[a0,a1,a2,a3,a4,a5,a6])) (m0:a0.type=tn) (m1:a1.type=tn) (m2:a2.type=tn) (m3:a3.type=tn) (m4:a4.type=ti) (m5:a5.type=tl) (m6:a6.type=tz)
 (q0:a0.offset=0) (q1:a1.offset=1) (q2:a2.offset=2) (q3:a3.offset=3) (q4:a4.offset=4) (q5:a5.offset=36) (q6:a6.offset=37) (hct:P.cellsOf t=38)
 (hval:Value.okWide P W r b0 t v) (h:DataW.Trod enc P W 0 (λ_=>true) true t v d ps):∃ (a:Ac) (u:Value),v=.agg (bQ a u)/\iJ W u a.l:=by
 have hv:∃ cs,v=.agg cs:=by
  unfold Value.okWide at hval
  simp only [ht] at hval
  obtain ⟨cs,h9,_⟩:=hval
  exact ⟨cs,h9⟩
 obtain ⟨cs,rfl⟩:=hv
 obtain ⟨fuel,hf⟩:=h
 obtain ⟨l,hcs9,hR⟩:=KI T hc hce hn hcn hz hcz hcl htl hte h0 h1 h2 o0 o1 o2 hcte ht m0 m1 m2 m3 m4 m5 m6 q0 q1 q2 q3 q4 q5 q6 hct hf
 refine ⟨l.1,l.2,?_,hR⟩
 have key:cs.toList=(bQ l.1 l.2).toList:=hcs9
 rw [Array.toList_inj.1 key]
structure RW (W:Wd):Prop where
 ov:RK (ej W.ov)
 ml:dV W.ml=true
 nos:W.sv.map (·.no)=W.ov.map (·.me.1)
 sv:∀ s∈W.sv,cW s=true
 en:∀ n∈W.ov,jg n.me.2=true
 ho:∀ h∈W.ho,dc h=true
 inc:W.ho.Pairwise λa b=>a.no<b.no
theorem ai4 {W:Wd} (h:RWd W):RW W:=by
 refine ⟨ah1 h.ov,h.ml,h.nos,λs hs=>h.sright hs,λn hn=>?_,λy hy=>h.right hy,?_⟩
 ·obtain ⟨k,hk,rfl⟩:=List.mem_iff_getElem.1 hn
  have h9:=h.sv k (by rw [h.len];exact hk)
  unfold qX at h9
  simp only [aH5] at h9
  rw [ndD hk];exact h9.2.2
 ·refine List.pairwise_iff_getElem.2 λi j hi hj hij=>?_
  have:=h.inc i j hij hj
  rw [Yj hi,Yj hj];exact this
theorem RW.wd {W:Wd} (h:RW W):RWd W:=by
 have hl:W.sv.length=W.ov.length:=by have:=aH3 List.length h.nos;simpa using this
 refine ⟨h.ov.ov,h.ml,hl,λk hk=>?_,λk hk=>?_⟩
 ·have hk2:k<W.ov.length:=by omega
  unfold qX
  rw [aH5,aH5,aI0]
  refine ⟨by rw [← YD hk];exact h.sv _ (aN1 hk),?_,by rw [← ndD hk2];exact h.en _ (aN1 hk2)⟩
  have h1:(W.sv.map (·.no))[k]? = (W.ov.map (·.me.1))[k]? := by rw [h.nos]
  rw [aM0,aM0,aH8 hk,aH8 hk2] at h1
  rw [← YD hk,← ndD hk2]
  simpa using h1
 ·unfold zt
  rw [aH5]
  refine ⟨by rw [← Yj hk];exact h.ho _ (aN1 hk),?_⟩
  by_cases h0:0<k
  ·have:=List.pairwise_iff_getElem.1 h.inc (k - 1) k (by omega) hk (by omega)
   rw [Yj (show k - 1<W.ho.length by omega),Yj hk] at this
   rw [aH1 (show ¬ (W.ho.getD k sO).no<=(W.ho.getD (k - 1) sO).no by omega),Bool.and_false];rfl
  ·rw [aH1 h0];rfl
theorem Uz {W:Wd}:bZ W=true↔RW W:=⟨λh=>ai4 (gx.1 h),λh=>gx.2 h.wd⟩
theorem Fb {α:Type} {f:α->Int} {l:List α} {x:α} (h:l.Pairwise λa b=>f a<f b):(ft f l x).Pairwise λa b=>f a<f b:=by
 unfold ft
 refine List.pairwise_append.2 ⟨h.filter _,List.pairwise_cons.2 ⟨λy hy=>?_,h.filter _⟩,λa ha b hb=>?_⟩
 ·exact aG9 (aK4.1 hy).2
 ·have h1:=aG9 (aK4.1 ha).2
  rcases aI6.1 hb with rfl|hb
  ·exact h1
  ·have:=aG9 (aK4.1 hb).2;omega
theorem nh (E:List Nd):aN (ej E)=dO E:=by unfold ej dO aN;rw [List.map_map];rfl
theorem zw (L:List N3) (k:Nat):((ej (nds L)).getD k z3).1=(L.getD k z3).1:=by
 unfold ej nds
 rw [aJ6,aJ6,aM0,aM0]
 cases L[k]? <;> rfl
theorem r3 (L:List N3):kK (ej (nds L))=kK L:=by
 have e1:(ej (nds L)).length=L.length:=by unfold ej nds;rw [aL1,aL1]
 have e2:aN (ej (nds L))=aN L:=by rw [nh,jQ]
 unfold kK
 have:mE (ej (nds L))=mE L:=funext λk=>by unfold mE;rw [zw,zw,e2]
 rw [e1,e2,this]
theorem PG {x:Id} {k:Nat} (hk:k<16) (h:¬ bP x (k+16)=255):jg x=false:=by
 rw [← Bool.not_eq_true]
 intro h9
 exact h (aG9 (aH6.1 h9 k (aI7.2 hk)))
theorem Qe {x:Id} (h:∀ j,j<16->bP x (j+16)=255):jg x=true:=
 aH6.2 λj hj=>aH2 (h j (aI7.1 hj))
theorem DA (X:Wx):(aC X).sv.length=X.S.length/\(aC X).ov.length=X.L.length/\(aC X).ho.length=X.H.length:=⟨aL1 _,aL1 _,aL1 _⟩
theorem n3m (L:List N3) (k:Nat):(nds L).getD k zN=(L.getD k z3).1:=by
 unfold nds
 rw [aJ6,aJ6,aM0];cases L[k]? <;> rfl
theorem Xx (X:Wx) (k:Nat):qX (aC X) k=(cW (X.S.getD k cd).1 && (decide ((X.S.getD k cd).1.no=(X.L.getD k z3).1.me.1) && jg (X.L.getD k z3).1.me.2)):=by
 unfold qX
 rw [show (aC X).sv.getD k qA=(X.S.getD k cd).1 from Ey X.S k,show (aC X).ov.getD k zN=(X.L.getD k z3).1 from n3m X.L k]
theorem Y4 (l:List H4) (j:Nat) (hj:j<l.length):(bB l)[j*5+0]? = some (.int .i64 (l.getD j bX).1.no):=by
 have h1:=aH3 (λa:Array Value=>a[0]?) (Bi l j hj)
 rw [show ∀ x:H4,(ca x.1.no x.1.gt x.2.1 x.2.2.1 x.2.2.2)[0]? = some (.int .i64 x.1.no) from λ_=>rfl] at h1
 rw [← h1];simp
def crL (vo vs vh vl:Value) (la nw:Int) (vn:Value):List Value:=[vo,vs,vh,vl,.int .i64 la,.int .i64 nw,vn]
def gJ (vo vs vh vl:Value) (la nw:Int) (vn:Value):Array Value:=(crL vo vs vh vl la nw vn).toArray
def crZ:List (List Value):=[[ax,ax,ax,ax,.int .i64 0,.int .i64 0],[ax]]
section
variable (vo vs vh vl:Value) (la nw:Int) (vn:Value)
theorem fR:(gJ vo vs vh vl la nw vn).size=7:=rfl
theorem ax2:(gJ vo vs vh vl la nw vn).extract 0 (0+6)=fA vo vs vh vl la nw:=rfl
theorem Qu:(gJ vo vs vh vl la nw vn).extract 0 (0+1)=#[vo]:=rfl
theorem az0:(gJ vo vs vh vl la nw vn).extract 3 (3+3)=#[vl,.int .i64 la,.int .i64 nw]:=rfl
theorem Xo:(gJ vo vs vh vl la nw vn)[1]? = some vs:=rfl
theorem ay1:(gJ vo vs vh vl la nw vn)[2]? = some vh:=rfl
theorem TH:(gJ vo vs vh vl la nw vn)[5]? = some (.int .i64 nw):=rfl
theorem ah0:(gJ vo vs vh vl la nw vn)[6]? = some vn:=rfl
end
theorem Ov {vo vs vh vl vn:Value} (la nw:Int) (h1:vo.oneCell'=true) (h2:vs.oneCell'=true) (h3:vh.oneCell'=true) (h4:vl.oneCell'=true) (h5:vn.oneCell'=true):∀ u∈(gJ vo vs vh vl la nw vn).toList,u.oneCell'=true:=λu hu=>by
 have hu:u∈crL vo vs vh vl la nw vn:=hu
 unfold crL at hu
 simp only [aI6,aI9,or_false] at hu
 rcases hu with rfl|rfl|rfl|rfl|rfl|rfl|rfl<;>first|assumption|rfl
structure RdC (w:World) (vo vl:Value) (X:Wx):Prop where
 ov:kr w vo X.L
 sw:∀ x∈X.S,eP w x.2 x.1.tb
 hw:∀ x∈X.H,pE w x.2.1 x.2.2.1 x.2.2.2 x.1
 ml:bs w vl 4 X.M.l.length (cg X.M.l)
theorem RdC.keep {w w':World} {vo vl:Value} {X:Wx} (h:RdC w vo vl X) (e:Ext w w'):RdC w' vo vl X:=
 ⟨⟨h.ov.1.keep e,λx hx=>⟨(h.ov.2 x hx).1.keep e,(h.ov.2 x hx).2.keep e⟩⟩,λx hx=>(h.sw x hx).keep e,λx hx=>⟨(h.hw x hx).1.keep e,(h.hw x hx).2.1.keep e,(h.hw x hx).2.2.keep e⟩,h.ml.keep e⟩
abbrev Yp (c:Nat) (tc ts th tn:TypeId) (vo vs vh vl vn:Value) (X:Wx) (N:List Nt) (kk:List Nat) (B9:List Own):List Own:=
 .blk c (.cells (gJ vo vs vh vl X.M.last X.M.now vn) tc)::.sl vs ts 3 X.S.length (a8 X.S)::.sl vh th 5 X.H.length (bB X.H)::.sl vn tn 74 N.length (bM N)::.grp kk (λw9=>RdC w9 vo vl X)::B9
def IS (w0:World) (c:Nat) (tc ts th tn:TypeId) (R:Wr) (B9:List Own) (v:Value) (w9:World):Prop:=
 v=.int .i64 R.e/\∃ vo vs vh vl vn Y N kk,(R.e=0->aC Y=R.w/\N=R.n)/\St w0 (Yp c tc ts th tn vo vs vh vl vn Y N kk B9) w9
def az1 (P:Program) (g:FuncId) (tc ts th tn:TypeId) (X0:Wx) (a:Ac) (va:Value):Prop:=
 ∀ (vo vs vh vl vn:Value) (X:Wx) (kk:List Nat) (c:Nat) (B9:List Own) (w0 w:World),aC X=aC X0->(∀ w9,St w0 B9 w9->iJ w9 va a.l)->
  St w0 (Yp c tc ts th tn vo vs vh vl vn X [] kk B9) w->Calls P g [.pointer (some ⟨c,0,none⟩),.agg (bQ a va)].toArray w (λe w9=>∃ v,e=.returned v/\IS w0 c tc ts th tn (D8 (aC X0) a a.k.toNat) B9 v w9)
theorem St.dropN {w0 w:World} {B:List Own} (n:Nat) (s:St w0 B w):St w0 (B.drop n) w:=s.pick _ (List.drop_sublist _ _)
theorem YO {w0 w:World} {B:List Own} {kk:List Nat} {vo vl vx:Value} {X:Wx} {e:TypeId} {m:Ml} (s:St w0 (.sl vx e 4 m.l.length (cg m.l)::.grp kk (λw9=>RdC w9 vo vl X)::B) w):∃ kn,St w0 (.grp kn (λw9=>RdC w9 vo vx {X with M:=m})::B) w:=
 ⟨_,(St.group (A:=[.sl vx e 4 m.l.length (cg m.l),.grp kk (λw9=>RdC w9 vo vl X)]) (B:=B) s).weak λw9 h9=>
  have h:=(h9 (.grp kk (λw9=>RdC w9 vo vl X)) (by simp)).2 w9 λ_ _=>rfl
  ⟨h.ov,h.sw,h.hw,bs.of_own (h9 (.sl vx e 4 m.l.length (cg m.l)) (by simp))⟩⟩
theorem Mf {w0 w:World} {B:List Own} {k1 kk:List Nat} {vo vl vp:Value} {X:Wx} {L:List N3} (s:St w0 (.grp k1 (λw9=>wZ vo X.L w9->kr w9 vp L)::.grp kk (λw9=>RdC w9 vo vl X)::B) w):St w0 (.grp (k1++kk) (λw9=>RdC w9 vp vl {X with L:=L})::B) w:=
 s.merge λw9 a h=>⟨a h.ov,h.sw,h.hw,h.ml⟩
theorem Wu {w0 w:World} {c:Nat} {tc ts th tn:TypeId} {vo vs vh vl vn:Value} {X:Wx} {N:List Nt} {kk:List Nat} {B9:List Own} (s:St w0 (Yp c tc ts th tn vo vs vh vl vn X N kk B9) w):
 ∃ kn,St w0 [.grp kn λw9=>RdW w9 vo vs vh vl X/\bs w9 vn 74 N.length (bM N)] w:=by
 have s1:=s.sel [1,2,3,4] (B':=[.sl vs ts 3 X.S.length (a8 X.S),.sl vh th 5 X.H.length (bB X.H),.sl vn tn 74 N.length (bM N),.grp kk (λw9=>RdC w9 vo vl X)]) rfl (by decide)
 exact ⟨_,(St.group (A:=[.sl vs ts 3 X.S.length (a8 X.S),.sl vh th 5 X.H.length (bB X.H),.sl vn tn 74 N.length (bM N),.grp kk (λw9=>RdC w9 vo vl X)]) (B:=[]) s1).weak λw9 h9=>
  have h:=(h9 (.grp kk (λw9=>RdC w9 vo vl X)) (by simp)).2 w9 λ_ _=>rfl
  ⟨⟨h.ov,bs.of_own (h9 (.sl vs ts 3 X.S.length (a8 X.S)) (by simp)),h.sw,bs.of_own (h9 (.sl vh th 5 X.H.length (bB X.H)) (by simp)),h.hw,h.ml⟩,bs.of_own (h9 (.sl vn tn 74 N.length (bM N)) (by simp))⟩⟩
def VR (R:Wr):Prop:=R.e=0∨(R.w=LY/\R.n=[])
theorem Sj (e:Int):VR (gF e):=.inr ⟨rfl,rfl⟩
theorem UM (W:Wd):VR (iG W):=.inl rfl
theorem QE (t:Pt):VR (pF t):=.inl rfl
theorem Vw {c:Bool} {a b:Wr} (h:VR a) (h':VR b):VR (bif c then a else b):=by cases c<;>assumption
theorem EL (W:Wd) (a:Ac) (k:Nat):VR (D8 W a k):=by
 unfold D8
 split<;>(try unfold iE)<;>(try unfold jZ)<;>(try unfold Z5)<;>(try unfold ae2)<;>(try unfold Y7)<;>(try unfold ue)<;>(try unfold ad1)<;>(try unfold Yy)<;>(try unfold ad2)<;>(try unfold pV)<;>(try unfold ag3)<;>(try unfold Z8)<;>(try unfold aj1)<;>(try unfold ZT)<;>(try unfold ac7)<;>(try unfold Y5)<;>(try unfold Y9)<;>(try unfold Vx)<;>(try unfold aa2)<;>(try unfold wD)<;>repeat (first|exact Sj _|exact UM _|exact QE _|apply Vw)
theorem ZP {w0 w:World} {c:Nat} {tc ts th tn:TypeId} {po ps ph pl va:Value} {X:Wx} {l:List dN} {R:Wr} {vo vs vh vl vn:Value} {Y:Wx} {N:List Nt} {kk:List Nat} {B9:List Own} (hr:R.e=0->aC Y=R.w/\N=R.n) (he:R.e=0)
 (s:St w0 (Yp c tc ts th tn vo vs vh vl vn Y N kk B9) w):S7 w0 po ps ph pl X va l R (.tuple #[.agg (fA vo vs vh vl Y.M.last Y.M.now),vn,.int .i64 0]) w:=by
 obtain ⟨kn,s⟩:=Wu s
 obtain ⟨h1,h2⟩:=hr he
 refine ⟨vo,vs,vh,vl,vn,Y,kn,by rw [he],h1,s.weak λw9 h9 _ _=>?_⟩
 rw [← h2];exact h9
theorem ab7 {w0 w:World} {po ps ph pl va:Value} {X:Wx} {l:List dN} {R:Wr} {B:List Own} {e:Int} (hw:R.w=LY) (hn:R.n=[]) (he:R.e=e) (s:St w0 B w):S7 w0 po ps ph pl X va l R (.tuple #[.agg (fA ax ax ax ax 0 0),ax,.int .i64 e]) w:=
 ⟨ax,ax,ax,ax,ax,zWx,[],by rw [he];rfl,hw.symm,(s.pick [] (aJ0 _)).grp0 λw9 _ _=>⟨dY w9,by rw [hn];exact ⟨rfl,.inl ⟨rfl,rfl⟩⟩⟩⟩
section
variable {P:Program} {ρ:Operand->Value} {d:Option Tmp} {t ty:TypeId} {pos:String} {af:Array Edge} {g:Option (Nat × Bool)} {x y z u:Operand}
theorem Ba {vo vs vh vl:Value} {la nw:Int} (S:Stt P t crZ) (hx:ρ x=.agg (fA vo vs vh vl la nw)):aZ P ⟨d,.build t #[(0,x)],ty,pos,af,g⟩ ρ (.agg (gJ vo vs vh vl la nw ax)):=by
 have:=bw (P:=P) (ρ:=ρ) (d:=d) (ty:=ty) (pos:=pos) (af:=af) (g:=g) (parts:=#[(0,x)]) S [(0,.agg (fA vo vs vh vl la nw))] (by simp [hx]) (λj q hm=>by
  simp only [aI6,aM8,aI9,or_false] at hm
  obtain ⟨rfl,rfl⟩:=hm
  exact ⟨_,rfl,rfl⟩) (D:=crL vo vs vh vl la nw ax) (by
   show (fA vo vs vh vl la nw).toList++([ax]++[])=_
   rfl)
 exact this
theorem vz {a b c:Int} (S:Stt P t ntZ) (hx:ρ x=.int .i64 a) (hy:ρ y=.int .i64 b) (hz:ρ z=.int .i64 c):aZ P ⟨d,.build t #[(0,x),(2,y),(7,z)],ty,pos,af,g⟩ ρ (.agg (zG a 0 b 0 0 cr ByteArray.empty c)):=by
 have:=bw (P:=P) (ρ:=ρ) (d:=d) (ty:=ty) (pos:=pos) (af:=af) (g:=g) (parts:=#[(0,x),(2,y),(7,z)]) S [(0,.int .i64 a),(2,.int .i64 b),(7,.int .i64 c)] (by simp [hx,hy,hz]) (λj u hm=>by
  simp only [aI6,aM8,aI9,or_false] at hm
  rcases hm with ⟨rfl,rfl⟩|⟨rfl,rfl⟩|⟨rfl,rfl⟩<;>exact ⟨_,rfl,rfl⟩) (D:=Uh a 0 b 0 0 cr ByteArray.empty c) (by
   show [Value.int .i64 a]++([Value.int .i64 0]++([Value.int .i64 b]++([Value.int .i64 0]++([Value.int .i64 0]++(LN.flatten++([Value.string ByteArray.empty]++([Value.int .i64 c]++[])))))))=_
   rw [← Jj];rfl)
 exact this
theorem yu {n:Int} {s:ByteArray} (S:Stt P t svZ) (hx:ρ x=.int .i64 n) (hy:ρ y=.string s):aZ P ⟨d,.build t #[(0,x),(1,y)],ty,pos,af,g⟩ ρ (.agg (bC n s ax)):=by
 have:=bw (P:=P) (ρ:=ρ) (d:=d) (ty:=ty) (pos:=pos) (af:=af) (g:=g) (parts:=#[(0,x),(1,y)]) S [(0,.int .i64 n),(1,.string s)] (by simp [hx,hy]) (λj u hm=>by
  simp only [aI6,aM8,aI9,or_false] at hm
  rcases hm with ⟨rfl,rfl⟩|⟨rfl,rfl⟩<;>exact ⟨_,rfl,rfl⟩) (D:=UA n s ax) rfl
 exact this
end
theorem KH (x:Id):(aH x).extract 16 (16+16)=((fo x).drop 16).toArray:=by
 show ((fo x).toArray).extract 16 32=_
 rw [List.extract_toArray,List.extract_eq_take_drop]
 rw [aJ9 (by rw [aK2,lW];exact aJ1 _)]
theorem qw (x:Id):((fo x).drop 16).toArray.size=16:=by rw [List.size_toArray,aK2,lW]
theorem M4 (x:Id) {k:Nat} (hk:k<16):((fo x).drop 16).toArray.toList[k]? = some (.int .u8 (bP x (k+16):Int)):=by
 rw [show k+16=16+k from Nat.add_comm _ _]
 rw [aN8]
 exact rz x (16+k) (by omega)
def pM (S:List V2) (L:List N3):Bool:=decide (S.length=L.length) && (List.range S.length).all λk=>cW (S.getD k cd).1 && decide ((S.getD k cd).1.no=(L.getD k z3).1.me.1)
def pN (L:List N3):Bool:=kK L && (List.range L.length).all λk=>jg (L.getD k z3).1.me.2
def uV (H:List H4):Bool:=(List.range H.length).all λk=>zt (H.map (·.1)) k
theorem Wk {n:Nat} {f:Nat->Bool} (h:∀ j,j<n->f j=true):(List.range n).all f=true:=aH6.2 λj hj=>h j (aI7.1 hj)
theorem zm {n k:Nat} {f:Nat->Bool} (hk:k<n) (h:f k=false):(List.range n).all f=false:=by
 rw [← Bool.not_eq_true,aH6]
 intro h9
 have:=h9 k (aI7.2 hk)
 rw [h] at this;cases this
theorem DO (X:Wx):bZ (aC X)=(pN X.L && (pM X.S X.L && (uV X.H && dV X.M))):=by
 rw [aN6]
 have e1:kK (ej (aC X).ov)=kK X.L:=r3 X.L
 have e2:(aC X).sv.length=X.S.length:=(DA X).1
 have e3:(aC X).ov.length=X.L.length:=(DA X).2.1
 have e4:(aC X).ho.length=X.H.length:=(DA X).2.2
 unfold bZ pN pM uV
 rw [e1,e2,e3,e4]
 simp only [aH5,aH6,aI7,aI0,Xx]
 constructor
 ·rintro ⟨a,b,c,d,e⟩
  exact ⟨⟨a,λk hk=>(d k (by omega)).2.2⟩,⟨c,λk hk=>⟨(d k hk).1,(d k hk).2.1⟩⟩,e,b⟩
 ·rintro ⟨⟨a,f⟩,⟨c,d⟩,e,b⟩
  exact ⟨a,b,c,λk hk=>⟨(d k hk).1,(d k hk).2,f k (by omega)⟩,e⟩
theorem Xw (L:List N3) (h:kK L=false):pN L=false:=by unfold pN;rw [h];rfl
theorem J0 {L:List N3} {k:Nat} (hk:k<L.length) (h:jg (L.getD k z3).1.me.2=false):pN L=false:=by unfold pN;rw [zm hk h,Bool.and_false]
theorem LE {L:List N3} (h:kK L=true) (h1:∀ j,j<L.length->jg (L.getD j z3).1.me.2=true):pN L=true:=by unfold pN;rw [h,Wk h1];rfl
theorem U6 {S:List V2} {L:List N3} (h:¬ S.length=L.length):pM S L=false:=by unfold pM;rw [aH1 h];rfl
theorem AD {S:List V2} {L:List N3} {k:Nat} (hk:k<S.length) (h:(cW (S.getD k cd).1 && decide ((S.getD k cd).1.no=(L.getD k z3).1.me.1))=false):pM S L=false:=by unfold pM;rw [zm hk h,Bool.and_false]
theorem Ji {S:List V2} {L:List N3} (h:S.length=L.length) (h1:∀ j,j<S.length->(cW (S.getD j cd).1 && decide ((S.getD j cd).1.no=(L.getD j z3).1.me.1))=true):pM S L=true:=by unfold pM;rw [aH2 h,Wk h1];rfl
theorem Mx {L:List N3} (k:Nat):(aN L).getD k bH=(L.getD k z3).1.me:=by
 unfold aN
 rw [aJ6,aJ6,aM0];cases L[k]? <;> rfl
theorem t7 (H:List H4) (k:Nat):zt (H.map (·.1)) k=(dc (H.getD k bX).1 && !(decide (0<k) && decide ((H.getD k bX).1.no<=(H.getD (k - 1) bX).1.no))):=by
 unfold zt
 rw [OP,OP]
theorem BdW.s8 {X:Wx} (h:BdW (aC X)):X.S.length<=1000:=by have:=h.sx;omega
theorem BdW.h8 {X:Wx} (h:BdW (aC X)):X.H.length<=1000:=by have:=h.hx;omega
theorem BdW.s9 {X:Wx} (h:BdW (aC X)):∀ x∈X.S,x.1.tb.length<=1000:=λx hx=>aM5 (h.tb _ (aL9.2 ⟨x,hx,rfl⟩)) (by decide)
theorem BdW.h9 {X:Wx} (h:BdW (aC X)):∀ x∈X.H,B9 x.1:=λx hx=>by
 obtain ⟨k,hk,e⟩:=aN2 hx
 have h1:=h.he hk
 rw [h4D hk |>.symm,e] at h1
 exact h1
theorem jG {α:Type} (C:α->List Value) (sz:Nat) (hC:∀ x,(C x).length=sz) (z:α):∀ (l:List α) {j off:Nat},j<l.length->off<sz->∀ {V:Value} {x:α},(C (l.getD j z)).set off V=C x->(l.flatMap C).set (j*sz+off) V=(l.set j x).flatMap C
 |[],_,_,hj,_,_,_,_=>aO7 hj (aM6 _)
 |a::l,0,off,_,ho,V,x,h=>by
  rw [List.flatMap_cons,List.set_cons_zero,List.flatMap_cons,Nat.zero_mul,Nat.zero_add,List.set_append_left _ _ (by rw [hC];exact ho)]
  rw [← h];rfl
 |a::l,j+1,off,hj,ho,V,x,h=>by
  have hj':j<l.length:=by simpa using hj
  rw [List.flatMap_cons,List.set_cons_succ,List.flatMap_cons,List.set_append_right _ _ (by rw [hC,Nat.succ_mul];omega),hC,show (j+1)*sz+off - sz=j*sz+off by rw [Nat.succ_mul];omega,
   jG C sz hC z l hj' ho h]
theorem iF {α:Type} (C:α->List Value) (sz:Nat) (hC:∀ x,(C x).length=sz) (z:α):∀ (l:List α) {j off:Nat},j<l.length->off<sz->(l.flatMap C)[j*sz+off]? = (C (l.getD j z))[off]?
 |[],_,_,hj,_=>aO7 hj (aM6 _)
 |a::l,0,off,_,ho=>by
  rw [List.flatMap_cons,Nat.zero_mul,Nat.zero_add,aK8 (by rw [hC];exact ho)];rfl
 |a::l,j+1,off,hj,ho=>by
  have hj':j<l.length:=by simpa using hj
  rw [List.flatMap_cons,aK7 (by rw [hC,Nat.succ_mul];omega),hC,show (j+1)*sz+off - sz=j*sz+off by rw [Nat.succ_mul];omega,iF C sz hC z l hj' ho];rfl
theorem tL {α:Type} (C:α->List Value) (l:List α) (h:∀ x∈l,∀ u∈C x,u.oneCell'=true):∀ u∈l.flatMap C,u.oneCell'=true:=λu hu=>by
 obtain ⟨x,hx,hu⟩:=List.mem_flatMap.1 hu
 exact h x hx u hu
theorem yp {l:List V2} (h:∀ x∈l,x.2.oneCell'=true):∀ u∈a8 l,u.oneCell'=true:=tL _ l λx hx u hu=>by
 have hu:u∈[Value.int .i64 x.1.no,.string x.1.sec,x.2]:=hu
 simp only [aI6,aI9,or_false] at hu
 rcases hu with rfl|rfl|rfl
 ·rfl
 ·rfl
 ·exact h x hx
theorem xo {l:List H4} (h:∀ x∈l,x.2.1.oneCell'=true/\x.2.2.1.oneCell'=true/\x.2.2.2.oneCell'=true):∀ u∈bB l,u.oneCell'=true:=tL _ l λx hx u hu=>by
 have hu:u∈[Value.int .i64 x.1.no,.int .i64 x.1.gt,x.2.1,x.2.2.1,x.2.2.2]:=hu
 simp only [aI6,aI9,or_false] at hu
 obtain ⟨a,b,c⟩:=h x hx
 rcases hu with rfl|rfl|rfl|rfl|rfl
 ·rfl
 ·rfl
 ·exact a
 ·exact b
 ·exact c
theorem WS {l:List V2} {j:Nat} (hj:j<l.length):(a8 l)[j*3+2]? = some (l.getD j cd).2:=iF vy 3 jY cd l hj (by decide)
theorem MG {l:List H4} {j:Nat} (hj:j<l.length):(bB l)[j*5+0]? = some (.int .i64 (l.getD j bX).1.no):=iF pY 5 iL bX l hj (by decide)
theorem Xu {l:List H4} {j:Nat} (hj:j<l.length):(bB l)[j*5+2]? = some (l.getD j bX).2.1:=iF pY 5 iL bX l hj (by decide)
theorem Vd {l:List H4} {j:Nat} (hj:j<l.length):(bB l)[j*5+3]? = some (l.getD j bX).2.2.1:=iF pY 5 iL bX l hj (by decide)
theorem X5 {l:List H4} {j:Nat} (hj:j<l.length):(bB l)[j*5+4]? = some (l.getD j bX).2.2.2:=iF pY 5 iL bX l hj (by decide)
theorem RM {l:List V2} {j:Nat} (hj:j<l.length) (V:Value):(a8 l).set (j*3+2) V=a8 (l.set j ((l.getD j cd).1,V)):=jG vy 3 jY cd l hj (by decide) rfl
theorem Sz {l:List H4} {j:Nat} (hj:j<l.length) (V:Value):(bB l).set (j*5+2) V=bB (l.set j ((l.getD j bX).1,V,(l.getD j bX).2.2)):=jG pY 5 iL bX l hj (by decide) rfl
theorem Sc {l:List H4} {j:Nat} (hj:j<l.length) (V:Value):(bB l).set (j*5+3) V=bB (l.set j ((l.getD j bX).1,(l.getD j bX).2.1,V,(l.getD j bX).2.2.2)):=jG pY 5 iL bX l hj (by decide) rfl
theorem SE {l:List H4} {j:Nat} (hj:j<l.length) (V:Value):(bB l).set (j*5+4) V=bB (l.set j ((l.getD j bX).1,(l.getD j bX).2.1,(l.getD j bX).2.2.1,V)):=jG pY 5 iL bX l hj (by decide) rfl
theorem sn {α:Type} {l:List α} {j:Nat} (hj:j<l.length) (x z:α):(l.set j x).getD j z=x:=by
 rw [aJ6,List.getElem?_set_self hj];rfl
theorem Kk {α:Type} {l:List α} {i j:Nat} (h:i≠j) (x z:α):(l.set j x).getD i z=l.getD i z:=by
 rw [aJ6,List.getElem?_set_ne (λe=>h e.symm),aJ6]
theorem AJ {α β:Type} (f:α->β) {l:List α} {j:Nat} {x z:α} (hj:j<l.length) (h:f x=f (l.getD j z)):(l.set j x).map f=l.map f:=by
 rw [List.map_set]
 apply List.ext_getElem?
 intro i
 by_cases e:j=i
 ·subst e
  rw [List.getElem?_set_self (by rw [aL1];exact hj),aM0,aH8 hj,h,aJ6,aH8 hj];rfl
 ·rw [List.getElem?_set_ne e]
theorem Nf {α:Type} {l:List α} {j:Nat} (hj:j<l.length) (x:α):(l.set j x).take (j+1)=l.take j++[x]:=by
 rw [List.take_set,List.take_succ_eq_append_getElem hj,List.set_append_right _ _ (by rw [aL0];omega)]
 rw [aL0,Nat.min_eq_left (by omega),Nat.sub_self];rfl
theorem AU {α:Type} {Q:α->Prop} {l:List α} {j:Nat} {x:α} (hj:j<l.length) (h:∀ y∈l.take j,Q y) (hx:Q x):∀ y∈(l.set j x).take (j+1),Q y:=λy hy=>by
 rw [Nf hj] at hy
 rcases aK9.1 hy with hy|hy
 ·exact h y hy
 ·rw [aI4.1 hy];exact hx
def Pn (l:List V2) (w:World):Prop:=∀ x∈l,eP w x.2 x.1.tb
def DK (l:List H4) (w:World):Prop:=∀ x∈l,pE w x.2.1 x.2.2.1 x.2.2.2 x.1
theorem St.slG {w0 w:World} {a:Value} {M:TypeId} {sa n:Nat} {xs:List Value} {ks:List Nat} {S S':World->Prop} {B:List Own} (s:St w0 (.sl a M sa n xs::.grp ks S::B) w) (h:∀ w9,bs w9 a sa n xs->S w9->S' w9):∃ kn,St w0 (.grp kn S'::B) w:=
 ⟨_,(St.group (A:=[.sl a M sa n xs,.grp ks S]) (B:=B) s).weak λw9 h9=>h w9 (bs.of_own (h9 (.sl a M sa n xs) (by simp))) ((h9 (.grp ks S) (by simp)).2 w9 λ_ _=>rfl)⟩
theorem St.sl3G {w0 w:World} {a b c:Value} {M N K:TypeId} {sa sb sc n m k:Nat} {xs ys zs:List Value} {ks:List Nat} {S S':World->Prop} {B:List Own} (s:St w0 (.sl a M sa n xs::.sl b N sb m ys::.sl c K sc k zs::.grp ks S::B) w) (h:∀ w9,bs w9 a sa n xs->bs w9 b sb m ys->bs w9 c sc k zs->S w9->S' w9):∃ kn,St w0 (.grp kn S'::B) w:=
 ⟨_,(St.group (A:=[.sl a M sa n xs,.sl b N sb m ys,.sl c K sc k zs,.grp ks S]) (B:=B) s).weak λw9 h9=>h w9 (bs.of_own (h9 (.sl a M sa n xs) (by simp))) (bs.of_own (h9 (.sl b N sb m ys) (by simp))) (bs.of_own (h9 (.sl c K sc k zs) (by simp))) ((h9 (.grp ks S) (by simp)).2 w9 λ_ _=>rfl)⟩
def CpW (w:World) (ts th:TypeId) (X:Wx):ez:=λv w9=>∃ uo us uh ul Y ks,v=.agg (fA uo us uh ul X.M.last X.M.now)/\aC Y=aC X/\St w [.sl us ts 3 Y.S.length (a8 Y.S),.sl uh th 5 Y.H.length (bB Y.H),.grp ks λw9=>RdC w9 uo ul Y] w9
theorem VQ {w w9:World} {tn ts th tl:TypeId} {X:Wx} {uo us uh ul:Value} {Kn:List N3} {Ks:List V2} {Kh:List H4} {k1 k2 k3:List Nat} (e1:nds Kn=nds X.L) (e2:Ks.map (·.1)=X.S.map (·.1)) (e3:Kh.map (·.1)=X.H.map (·.1))
 (s:St w [.sl us ts 3 Ks.length (a8 Ks),.sl uh th 5 Kh.length (bB Kh),.sl uo tn 68 Kn.length (aI Kn),.sl ul tl 4 X.M.l.length (cg X.M.l),.grp k1 (iZ Kn),.grp k2 (Pn Ks),.grp k3 (DK Kh)] w9):CpW w ts th X (.agg (fA uo us uh ul X.M.last X.M.now)) w9:=by
 have s1:=s.sel [2,3,4,5,6,0,1] (B':=[.sl uo tn 68 Kn.length (aI Kn),.sl ul tl 4 X.M.l.length (cg X.M.l),.grp k1 (iZ Kn),.grp k2 (Pn Ks),.grp k3 (DK Kh),.sl us ts 3 Ks.length (a8 Ks),.sl uh th 5 Kh.length (bB Kh)]) rfl (by decide)
 have s2:=St.group (A:=[.sl uo tn 68 Kn.length (aI Kn),.sl ul tl 4 X.M.l.length (cg X.M.l),.grp k1 (iZ Kn),.grp k2 (Pn Ks),.grp k3 (DK Kh)]) (B:=[.sl us ts 3 Ks.length (a8 Ks),.sl uh th 5 Kh.length (bB Kh)]) s1
 have s3:=s2.weak (S':=λw9=>RdC w9 uo ul ⟨Kn,Ks,Kh,X.M⟩) λw9 h9=>⟨⟨bs.of_own (h9 (.sl uo tn 68 Kn.length (aI Kn)) (by simp)),(h9 (.grp k1 (iZ Kn)) (by simp)).2 w9 λ_ _=>rfl⟩,(h9 (.grp k2 (Pn Ks)) (by simp)).2 w9 λ_ _=>rfl,(h9 (.grp k3 (DK Kh)) (by simp)).2 w9 λ_ _=>rfl,bs.of_own (h9 (.sl ul tl 4 X.M.l.length (cg X.M.l)) (by simp))⟩
 refine ⟨uo,us,uh,ul,⟨Kn,Ks,Kh,X.M⟩,_,rfl,?_,s3.sel [1,2,0] rfl (by decide)⟩
 unfold aC
 rw [e1,e2,e3]
def jn (v:Value):Value:=g7 (match v with
 |.tuple a=>match (a[0]?).getD (.bool false) with
  |.agg c=>(c[0]?).getD (.bool false)
  |_=>.bool false
 |_=>.bool false)
theorem pW (v:Value):(jn v).oneCell'=true:=jW _
theorem St.o5 {w0 w:World} {a b c d e:Own} {B:List Own} (s:St w0 (a::b::c::d::e::B) w):St w0 (b::c::d::e::a::B) w:=s.perm (aO2 (l₁:=[b,c,d,e]) (a:=a) (l₂:=B)).symm
end Go.Proofs.YthmlflaiidhoiaaGreatDoor
namespace Go.Proofs.YthmlflaiidhoiaaGreatDoor
open Go.RowKit Go.Sort
section
variable {α:Type} (f:α->List Value) (sz:Nat) (z:α) (num:α->Int)
def ig (f:α->List Value):Type:={x:α // ∀ u∈f x,u.oneCell'=true}
abbrev YS (h:∀ u∈f z,u.oneCell'=true):Inhabited (ig f):=⟨⟨z,h⟩⟩
def subL (x:ig f):List Value:=f x.1
variable [Inhabited (ig f)] (hf:∀ x,(f x).length=sz) (hz:0<sz)
include hf in
theorem kC (x:ig f):(subL f x).length=sz:=hf _
theorem wN (x:ig f):∀ v∈subL f x,v.oneCell'=true:=x.2
include hf hz in
theorem qT (d:Array (ig f)):(flatK (subL f) sz d).toList=d.toList.flatMap (subL f):=by
 apply List.ext_getElem?
 intro t
 by_cases ht:t<d.size*sz
 ·have hj:t / sz<d.size:=Nat.div_lt_of_lt_mul (by rw [Nat.mul_comm];exact ht)
  have hr:t % sz<sz:=aO6 _ hz
  have h1:(d.toList.flatMap (subL f))[t]? = (subL f d[t / sz])[t % sz]? := by
   have h2:t=t / sz*sz+t % sz:=(Nat.div_add_mod' t sz).symm
   conv=>lhs;rw [h2]
   rw [iF (subL f) sz (kC f sz hf) d[t / sz] d.toList (by simpa using hj) hr]
   congr 2
   rw [aJ6,aN9,aO0 hj];rfl
  rw [h1]
  have h3:=get_flatK (subL f) sz d t ht
  have h4:t<(flatK (subL f) sz d).size:=by rw [size_flatK];exact ht
  rw [getElem!_pos _ t h4,getElem!_pos d _ hj] at h3
  rw [aN9,aO0 h4,h3]
  have h5:t % sz<(subL f d[t / sz]).length:=by rw [kC f sz hf];exact hr
  rw [getElem!_pos (subL f d[t / sz]) (t % sz) h5,aH8 h5]
 ·rw [aM1 (by rw [aI2,size_flatK];omega),aM1 (by rw [eF _ sz (kC f sz hf),aI2];omega)]
theorem mx (w:World) (g m:Nat) (d:Array (ig f)) (os:Array Obj):(sortWorldK (subL f) sz w g 0 m d os).heap=w.heap.modify g (onCells (putCells id 0 (flatK (subL f) sz d)))++os:=rfl
theorem xF (w:World) (g m:Nat) (d:Array (ig f)) (os:Array Obj) {k:Nat} (hk:k<w.heap.size) (hne:k≠g):(sortWorldK (subL f) sz w g 0 m d os).heap[k]? = w.heap[k]? := by
 rw [mx,aN3 (by rw [Array.size_modify];exact hk),Array.getElem?_modify,if_neg (λe=>hne e.symm)]
theorem Ep (w:World) (g m:Nat) (d:Array (ig f)) (os:Array Obj) {cur:Array Value} {e:TypeId} {fz:Nat × Nat} (hg:w.heap[g]? = some (.cells cur e fz)):(sortWorldK (subL f) sz w g 0 m d os).heap[g]? = some (.cells (putCells id 0 (flatK (subL f) sz d) cur) e fz):=by
 have hk:g<w.heap.size:=(aO1.1 hg).1
 rw [mx,aN3 (by rw [Array.size_modify];exact hk),Array.getElem?_modify,if_pos rfl,hg]
 rfl
include hf hz in
theorem Az {w0 w:World} {B:List Own} {v:Value} {e:TypeId} {n:Nat} {l:List (ig f)} (s:St w0 (.sl v e sz n (l.flatMap (subL f))::B) w) (hl:l.length=n) (hn:1<=n):
 ∃ g cap,v=.slice (some ⟨g,0,none⟩) n cap/\g<w.heap.size/\w0.heap.size<=g/\HoldsK (subL f) sz w g 0 l.toArray/\
  ∀ (m:Nat) (os:Array Obj) (d:Array (ig f)),d.size=n->St w0 (.sl v e sz n (d.toList.flatMap (subL f))::B) (sortWorldK (subL f) sz w g 0 m d os):=by
 obtain ⟨g,cap,cur,fz,rfl,hfz,hnc,hcm,hcs,htk,s⟩:=s.open_sl hn
 have hg:=s.get 0 rfl
 have hlt:g<w.heap.size:=(aO1.1 hg).1
 have hroom:n*sz<=cur.size:=by rw [hcs];exact Nat.mul_le_mul_right _ hnc
 refine ⟨g,cap,rfl,hlt,s.own _ aI5 g (Own.at_blk.2 rfl),λj hj=>?_,λm os d hd=>?_⟩
 ·have hjs:j<n*sz:=by rw [size_flatK] at hj;simpa [hl] using hj
  constructor
  ·rw [Nat.zero_add,cell_of_row w g j cur e fz hg]
   have h1:(flatK (subL f) sz l.toArray).toList=cur.toList.take (n*sz):=by rw [qT f sz hf hz,htk]
   have h2:(flatK (subL f) sz l.toArray).toList[j]? = cur.toList[j]? := by rw [h1,aN7 hjs]
   rw [aN9,aN9,aO0 hj] at h2
   rw [getElem!_pos _ j hj]
   exact h2.symm
  ·simp only [World.frozen?,hg,Nat.zero_add]
   obtain ⟨lo,hi⟩:=fz
   rcases hfz with h9|h9
   ·change hi=0 at h9;subst h9;simp
   ·change cur.size<=lo at h9
    have:¬ lo<=j:=by omega
    simp [this]
 ·have hF:(flatK (subL f) sz d).size=n*sz:=by rw [size_flatK,hd]
  have s2:=s.upd 0 (w':=sortWorldK (subL f) sz w g 0 m d os) (p':=.blk g (.cells (putCells id 0 (flatK (subL f) sz d) cur) e fz)) rfl rfl rfl rfl (by rw [mx];simp) (Ep f sz w g m d os hg) (λk hk=>.inl hk) (λk hk hne=>xF f sz w g m d os hk (λe9=>hne (Own.at_blk.2 e9))) (Nat.le_add_right _ _)
  refine s2.close_sl (by rw [kG];exact hfz) hnc hcm (by rw [kG];exact hcs) ?_ ?_
  ·rw [← hF,tP _ _ (by omega),qT f sz hf hz]
  ·rw [eF _ sz (kC f sz hf),aI2,hd]
theorem r8 (a b:ig f):ltOf (λx y:ig f=>cH (num x.1) (num y.1)) a b=decide (num a.1<num b.1):=aI3.2 (kL _ _)
theorem AC:SWO (ltOf λx y:ig f=>cH (num x.1) (num y.1)) where
 irrefl x:=by rw [r8];simp
 trans x y z h1 h2:=by rw [r8] at *;simp at *;omega
 ntrans x y z h1 h2:=by rw [r8] at *;simp at *;omega
theorem B3 {l:List (ig f)} (hd:l.Pairwise λa b=>num a.1≠num b.1) {d:Array (ig f)} (hp:PermIn 0 l.toArray.size l.toArray d) (hs:SortedIn (ltOf λx y:ig f=>cH (num x.1) (num y.1)) 0 l.toArray.size d):
 d.toList.Perm l/\d.toList.Pairwise λa b=>num a.1<num b.1:=by
 obtain ⟨hsz,_,hpm⟩:=hp
 have e1:d.extract 0 l.toArray.size=d:=by rw [← hsz];exact Array.extract_size
 rw [e1,Array.extract_size] at hpm
 have hpl:d.toList.Perm l:=by first|exact hpm|exact hpm.symm|exact hpm.toList|exact hpm.toList.symm
 have hd2:d.toList.Pairwise λa b=>num a.1≠num b.1:=(hpl.pairwise_iff (λh=>λe=>h e.symm)).2 hd
 refine ⟨hpl,?_⟩
 rw [List.pairwise_iff_getElem] at hd2 ⊢
 intro i j hi hj hij
 have hi':i<d.size:=by simpa using hi
 have hj':j<d.size:=by simpa using hj
 have h1:=hs i j (aJ3 _) hij (by omega)
 rw [getElem!_pos d j hj',getElem!_pos d i hi',r8] at h1
 have h2:=hd2 i j hi hj hij
 have h3:=aH0 h1
 simp only [Array.getElem_toList] at h2 ⊢
 omega
def mk9 (L:List α) (h:∀ x∈L,∀ u∈f x,u.oneCell'=true):List (ig f):=L.attach.map λx=>(⟨x.1,h x.1 x.2⟩:ig f)
theorem yY (L:List α) (h:∀ x∈L,∀ u∈f x,u.oneCell'=true):(mk9 f L h).map (·.1)=L:=by
 refine(List.map_map (f:=λx:{x // x∈L}=>(⟨x.1,h x.1 x.2⟩:ig f)) (g:=λx:ig f=>x.1) (l:=L.attach)).trans ?_
 exact List.attach_map_subtype_val L
theorem GN (L:List α) (h:∀ x∈L,∀ u∈f x,u.oneCell'=true):(mk9 f L h).length=L.length:=by
 have:=aH3 List.length (yY f L h);simpa using this
theorem nf (l:List (ig f)):l.flatMap (subL f)=(l.map (·.1)).flatMap f:=by rw [List.flatMap_map];rfl
end
theorem CP {α:Type} (num:α->Int) {a b:List α} (hp:a.Perm b) (ha:a.Pairwise λx y=>num x<num y) (hb:b.Pairwise λx y=>num x<num y):a=b:=
 hp.eq_of_pairwise (λx y _ _ h1 h2=>aO7 (Int.lt_trans h1 h2) (Int.lt_irrefl _)) ha hb
instance:Inhabited (ig vy):=YS vy cd (by decide)
instance:Inhabited (ig pY):=YS pY bX (by decide)
def rL {α:Type} (num:α->Int) (l:List α) (no:Int):Nat:=l.findIdx λx=>decide (num x=no)
def rZ {α:Type} (num:α->Int) (sz:Nat) (v:Value) (l:List α) (no:Int):Value:=bif decide (rL num l no<l.length) then .pointer (some (bO v (rL num l no*sz))) else .pointer none
theorem ZQ {α:Type} {num:α->Int} {l:List α} {no:Int} {k:Nat} (z:α) (hk:k<l.length) (h:∀ j,j<k->decide (num (l.getD j z)=no)=false) (hq:decide (num (l.getD k z)=no)=true):rL num l no=k:=by
 unfold rL
 have e:∀ j (hj:j<l.length),l[j]=l.getD j z:=λj hj=>by rw [aJ6,aH8 hj];rfl
 refine(List.findIdx_eq hk).2 ⟨by rw [e];exact hq,λj hj=>by rw [e j (by omega)];exact h j hj⟩
theorem ad6 {α:Type} {num:α->Int} {l:List α} {no:Int} {k:Nat} (z:α) (hk:l.length<=k) (h:∀ j,j<k->decide (num (l.getD j z)=no)=false):rL num l no=l.length:=by
 unfold rL
 refine List.findIdx_eq_length.2 λx hx=>?_
 obtain ⟨j,hj,rfl⟩:=aN2 hx
 have:=h j (by omega)
 rwa [aJ6,aH8 hj] at this
theorem Mk {α:Type} {num:α->Int} {sz:Nat} {v:Value} {l:List α} {no:Int} {k:Nat} (z:α) (hk:k<l.length) (h:∀ j,j<k->decide (num (l.getD j z)=no)=false) (hq:decide (num (l.getD k z)=no)=true):rZ num sz v l no=.pointer (some (bO v (k*sz))):=by
 unfold rZ;rw [ZQ z hk h hq,aH2 hk];rfl
theorem Jq {α:Type} {num:α->Int} {sz:Nat} {v:Value} {l:List α} {no:Int} {k:Nat} (z:α) (hk:l.length<=k) (h:∀ j,j<k->decide (num (l.getD j z)=no)=false):rZ num sz v l no=.pointer none:=by
 unfold rZ;rw [ad6 z hk h,aH1 (Nat.lt_irrefl _)];rfl
theorem sg {α:Type} {num:α->Int} {sz:Nat} {v:Value} {l:List α} {no:Int} (h:rL num l no<l.length):rZ num sz v l no=.pointer (some (bO v (rL num l no*sz))):=by unfold rZ;rw [aH2 h];rfl
theorem uQ {α:Type} {num:α->Int} {sz:Nat} {v:Value} {l:List α} {no:Int} (h:¬ rL num l no<l.length):rZ num sz v l no=.pointer none:=by unfold rZ;rw [aH1 h];rfl
theorem yy {α:Type} {num:α->Int} {l:List α} {no:Int} (z:α) (h:rL num l no<l.length):num (l.getD (rL num l no) z)=no:=by
 have h1:=List.findIdx_getElem (p:=λx=>decide (num x=no)) (xs:=l) (w:=h)
 rw [aJ6,aH8 h]
 exact aG9 h1
theorem CE {α β:Type} {num:β->Int} {f:α->β} {l:List α} {no:Int} (z:α) (z':β):w6 num z' (l.map f) no=bif decide (rL (λx=>num (f x)) l no<l.length) then f (l.getD (rL (λx=>num (f x)) l no) z) else z':=by
 unfold w6 rL
 rw [List.find?_map]
 by_cases h:l.findIdx (λx=>decide (num (f x)=no))<l.length
 ·rw [aH2 h,cond_true]
  have h1:l.find? (λx=>decide (num (f x)=no))=some l[l.findIdx λx=>decide (num (f x)=no)]:=by
   rw [List.find?_eq_some_iff_getElem]
   exact ⟨List.findIdx_getElem (w:=h),_,h,rfl,λj hj=>by simpa using List.not_of_lt_findIdx hj⟩
  show ((l.find? (λx=>decide (num (f x)=no))).map f).getD z'=_
  rw [h1,aJ6,aH8 h];rfl
 ·rw [aH1 h,cond_false]
  have h1:l.find? (λx=>decide (num (f x)=no))=none:=by
   rw [List.find?_eq_none]
   intro x hx hq
   exact h (List.findIdx_lt_length_of_exists ⟨x,hx,hq⟩)
  show ((l.find? (λx=>decide (num (f x)=no))).map f).getD z'=_
  rw [h1];rfl
abbrev Own.tie9 (w0:World) (A:List Own):Own:=.grp (A.flatMap Own.ks) λw9=>(∀ p∈A,p.holds w0 w9)/\(∀ p∈A,∀ k,p.at k->w0.heap.size<=k)/\A.Pairwise (λp q=>∀ k,p.at k->¬ q.at k)
theorem St.tie9 {w0 w:World} (A:List Own) {B:List Own} (s:St w0 (A++B) w):St w0 (Own.tie9 w0 A::B) w:=by
 have hnd:=List.pairwise_append.1 s.nd
 have hA:∀ p∈A,p.holds w0 w:=λp hp=>s.has p (List.mem_append_left _ hp)
 have hO:∀ p∈A,∀ k,p.at k->w0.heap.size<=k:=λp hp=>s.own p (List.mem_append_left _ hp)
 refine ⟨s.ext,λp hp=>?_,λp hp k hk=>?_,List.pairwise_cons.2 ⟨λq hq k hk hqk=>?_,hnd.2.1⟩⟩
 ·rcases aI6.1 hp with rfl|hp
  ·refine ⟨λk hk=>?_,λw' hw=>⟨λp hp=>Own.keep (hA p hp) λk hk=>hw k (List.mem_flatMap.2 ⟨p,hp,hk⟩),hO,hnd.1⟩⟩
   obtain ⟨p,hp,hk⟩:=List.mem_flatMap.1 hk
   exact Own.lt (hA p hp) hk
  ·exact s.has p (List.mem_append_right _ hp)
 ·rcases aI6.1 hp with rfl|hp
  ·obtain ⟨p,hp,hk⟩:=List.mem_flatMap.1 (show k∈A.flatMap Own.ks from hk)
   exact hO p hp k hk
  ·exact s.own p (List.mem_append_right _ hp) k hk
 ·obtain ⟨p,hp,hk⟩:=List.mem_flatMap.1 (show k∈A.flatMap Own.ks from hk)
  exact hnd.2.2 p hp q hq k hk hqk
theorem St.untie9 {w0 w:World} {A B:List Own} (s:St w0 (Own.tie9 w0 A::B) w):St w0 (A++B) w:=by
 have h:=(s.has _ aI5).2 w λ_ _=>rfl
 have hnd:=List.pairwise_cons.1 s.nd
 refine ⟨s.ext,λp hp=>?_,λp hp k hk=>?_,List.pairwise_append.2 ⟨h.2.2,hnd.2,λp hp q hq k hk=>hnd.1 q hq k (List.mem_flatMap.2 ⟨p,hp,hk⟩)⟩⟩
 ·rcases aK9.1 hp with hp|hp
  ·exact h.1 p hp
  ·exact s.has p (aJ5 _ hp)
 ·rcases aK9.1 hp with hp|hp
  ·exact h.2.1 p hp k hk
  ·exact s.own p (aJ5 _ hp) k hk
theorem NI {W:Wd} {N:List Nt} {z fr:Int} {x:Se} (h0:0<=x.1) (hE:dw W.ml fr x.1 (db x.2.1)=0):bT ⟨W,N,z⟩ fr x=⟨{W with ml:=iX W.ml fr x.1 (db x.2.1)},N,lQ W.ml fr x.1 (db x.2.1)⟩:=by
 have h1:Yt W fr x=0:=by unfold Yt;rw [aH1 (by omega)];rfl
 have h2:Tx W fr x=x.1:=by unfold Tx;rw [aH1 (by omega)];rfl
 have h3:BR W fr x=0:=by unfold BR;rw [h1,h2,hE];rfl
 unfold bT
 rw [show BR (⟨W,N,z⟩:Pt).w fr x=0 from h3,show Tx (⟨W,N,z⟩:Pt).w fr x=x.1 from h2];rfl
theorem Lc {W:Wd} {N:List Nt} {z fr:Int} {x:Se} (h0:0<=x.1) (hE:¬ dw W.ml fr x.1 (db x.2.1)=0):bT ⟨W,N,z⟩ fr x=⟨W,N++[{A5 fr 0 (dw W.ml fr x.1 (db x.2.1)) with tm:=W.ml.now}],0⟩:=by
 have h1:Yt W fr x=0:=by unfold Yt;rw [aH1 (by omega)];rfl
 have h2:Tx W fr x=x.1:=by unfold Tx;rw [aH1 (by omega)];rfl
 have h3:BR W fr x=dw W.ml fr x.1 (db x.2.1):=by unfold BR;rw [h1,h2];rfl
 unfold bT
 rw [show BR (⟨W,N,z⟩:Pt).w fr x=dw W.ml fr x.1 (db x.2.1) from h3,aH1 hE];rfl
theorem ER {X:Wx} {N:List Nt} {fr:Int} {x:Se} (h0:0<=x.1):(bT ⟨aC X,N,0⟩ fr x).w=aC {X with M:=(bT ⟨aC X,N,0⟩ fr x).w.ml}:=by
 by_cases hE:dw (aC X).ml fr x.1 (db x.2.1)=0
 ·rw [NI h0 hE];rfl
 ·rw [Lc h0 hE];rfl
def IN (m:Ml) (fr to:Int) (d:ByteArray):Ml:=bif decide (dw m fr to d=0) then iX m fr to d else m
def SV (m:Ml) (fr to:Int) (d:ByteArray):Int:=bif decide (dw m fr to d=0) then lQ m fr to d else 0
theorem Kt {m:Ml} {fr to:Int} {d:ByteArray} (h:dw m fr to d=0):IN m fr to d=iX m fr to d/\SV m fr to d=lQ m fr to d:=by unfold IN SV;rw [aH2 h];exact ⟨rfl,rfl⟩
theorem C8 {m:Ml} {fr to:Int} {d:ByteArray} (h:¬ dw m fr to d=0):IN m fr to d=m/\SV m fr to d=0:=by unfold IN SV;rw [aH1 h];exact ⟨rfl,rfl⟩
theorem sT {W:Wd} {N:List Nt} {z fr:Int} {x:Se} (h0:0<=x.1) (hE:dw W.ml fr x.1 (db x.2.1)=0):(bT ⟨W,N,z⟩ fr x).w.ml=IN W.ml fr x.1 (db x.2.1)/\(bT ⟨W,N,z⟩ fr x).n=N/\(bT ⟨W,N,z⟩ fr x).no=SV W.ml fr x.1 (db x.2.1):=by
 rw [NI h0 hE,(Kt hE).1,(Kt hE).2];exact ⟨rfl,rfl,rfl⟩
theorem sP {W:Wd} {N:List Nt} {z fr:Int} {x:Se} (h0:0<=x.1) (hE:¬ dw W.ml fr x.1 (db x.2.1)=0):(bT ⟨W,N,z⟩ fr x).w.ml=IN W.ml fr x.1 (db x.2.1)/\(bT ⟨W,N,z⟩ fr x).n=N++[{A5 fr 0 (dw W.ml fr x.1 (db x.2.1)) with tm:=W.ml.now}]/\(bT ⟨W,N,z⟩ fr x).no=SV W.ml fr x.1 (db x.2.1):=by
 rw [Lc h0 hE,(C8 hE).1,(C8 hE).2];exact ⟨rfl,rfl,rfl⟩
abbrev df (X:Wx) (no:Int):Nat:=rL (λx:H4=>x.1.no) X.H no
theorem P6 {X:Wx} {no:Int} (h:df X no<X.H.length):fQ (aC X) no=(X.H.getD (df X no) bX).1:=by
 unfold fQ
 rw [show (aC X).ho=X.H.map (·.1) from rfl,CE (f:=λx:H4=>x.1) (num:=λx:Ho=>x.no) bX noH,aH2 h];rfl
theorem Hx {X:Wx} {no:Int} (h:¬ df X no<X.H.length):fQ (aC X) no=noH:=by
 unfold fQ
 rw [show (aC X).ho=X.H.map (·.1) from rfl,CE (f:=λx:H4=>x.1) (num:=λx:Ho=>x.no) bX noH,aH1 h];rfl
theorem Pv {X:Wx} {no:Int} (h:df X no<X.H.length):(X.H.getD (df X no) bX).1.no=no:=yy (num:=λx:H4=>x.1.no) bX h
theorem Np {X:Wx} (h:bZ (aC X)=true) {k:Nat} (hk:k<X.H.length):dc (X.H.getD k bX).1=true:=by
 rw [DO] at h
 unfold uV at h
 simp only [aH5,aH6,aI7] at h
 have:=h.2.2.1 k hk
 rw [t7] at this
 simp only [aH5] at this
 exact this.1
theorem I4 {X:Wx} (h:bZ (aC X)=true):dV X.M=true:=by
 rw [DO] at h
 simp only [aH5] at h
 exact h.2.2.2
theorem Js {h:Ho} {l:List dN} {d:ByteArray} {now:Int} (e:oA h l d now=0):ey (Vf l d)=true:=by
 have hcond:(dc h=true/\(0<=now/\now<=1099511627776)/\dQ l=true):=Classical.byContradiction λhb=>by rw [(Pe (d:=d) hb).1] at e;cases e
 have hsz:d.size<=64:=Classical.byContradiction λhb=>by rw [(Z9 hcond hb).1] at e;cases e
 exact DX (p:=(l,64,d)) (uL.2 ⟨(fN _).1 hcond.2.2,by show (0:Int)<=64;decide,by show (64:Int)<=64;decide,hsz⟩)
theorem aj0 {h:Ho} {l:List dN} {d:ByteArray} {now:Int} (e:oA h l d now=0):dM h l d now=wH h l d now:=by unfold dM;rw [e];rfl
theorem Un {m:Ml} (h:dV m=true) {fr to:Int} {d:ByteArray}:0<=SV m fr to d:=by
 have:=((np m).1 h).2.1.1
 by_cases hE:dw m fr to d=0
 ·rw [(Kt hE).2];unfold lQ;rw [hE];show 0<=m.last+1;omega
 ·rw [(C8 hE).2];exact Int.le_refl _
theorem Nr {X:Wx} {N:List Nt} {fr:Int} {x:Se} (h0:0<=x.1) (h:dV X.M=true):0<=(bT ⟨aC X,N,0⟩ fr x).no:=by
 by_cases hE:dw (aC X).ml fr x.1 (db x.2.1)=0
 ·rw [(sT h0 hE).2.2];exact Un h
 ·rw [(sP h0 hE).2.2];exact Un h
section
variable {W:Wd} {a:Ac}
theorem U5 (h:(fQ W a.no).no<0):pV W a=gF 6:=by unfold pV;rw [aH2 h];rfl
theorem WK (h:¬ (fQ W a.no).no<0) (he:¬ oA (fQ W a.no) a.l a.d W.ml.now=0):pV W a=gF (oA (fQ W a.no) a.l a.d W.ml.now):=by unfold pV;rw [aH1 h,aH1 he];rfl
theorem Vp (h:¬ (fQ W a.no).no<0) (he:oA (fQ W a.no) a.l a.d W.ml.now=0) (hp:0<(lK W a).no):pV W a=pF (pt (lK W a) (uS a.no (lK W a).no a.d)):=by unfold pV;rw [aH1 h,he,aH2 hp];rfl
theorem W7 (h:¬ (fQ W a.no).no<0) (he:oA (fQ W a.no) a.l a.d W.ml.now=0) (hp:¬ 0<(lK W a).no):pV W a=pF (lK W a):=by unfold pV;rw [aH1 h,he,aH1 hp];rfl
end
theorem kU {w0 w9:World} {c:Nat} {tc ts th tn:TypeId} {vo vs vh vl vn:Value} {X:Wx} {kk:List Nat} {B9:List Own} {R:Wr} {e:Int} (hR:R=gF e) (he:e≠0) (s:St w0 (Yp c tc ts th tn vo vs vh vl vn X [] kk B9) w9):IS w0 c tc ts th tn R B9 (.int .i64 e) w9:=by
 subst hR
 exact ⟨rfl,vo,vs,vh,vl,vn,X,[],kk,λh=>aO7 h he,s⟩
theorem EK {w0 w9:World} {c:Nat} {tc ts th tn:TypeId} {vo vs vh vl vn:Value} {Y:Wx} {N:List Nt} {kk:List Nat} {B9:List Own} {R:Wr} (t:Pt) (hR:R=pF t) (hY:aC Y=t.w) (hN:N=t.n) (s:St w0 (Yp c tc ts th tn vo vs vh vl vn Y N kk B9) w9):IS w0 c tc ts th tn R B9 (.int .i64 0) w9:=by
 subst hR
 exact ⟨rfl,vo,vs,vh,vl,vn,Y,N,kk,λ_=>⟨hY,hN⟩,s⟩
theorem Px {X:Wx} {N:List Nt} {fr:Int} {x:Se} (h0:0<=x.1):(bT ⟨aC X,N,0⟩ fr x).n.length<=N.length+1:=by
 by_cases hE:dw (aC X).ml fr x.1 (db x.2.1)=0
 ·rw [(sT h0 hE).2.1];omega
 ·rw [(sP h0 hE).2.1,aH7];exact aJ1 _
theorem Kj {W:Wd} {a:Ac} (h:(decide (64<a.d.size) || !jg a.i)=true):iE W a=gF 1:=by
 have he:rG W a=1:=by unfold rG;rw [h];rfl
 unfold iE;rw [he];rfl
theorem KT (m:Mb) (p q:Int):lG [] m p=lG [] m q/\nB [] m p=nB [] m q:=by
 unfold lG nB
 cases Bt [] m with
 |false=>exact ⟨rfl,rfl⟩
 |true=>exact ⟨rfl,rfl⟩
theorem CA {X:Wx} {a:Ac} (hL:X.L=[]) (h:(decide (64<a.d.size) || !jg a.i)=false) (q:Int):rG (aC X) a=lG X.L (a.no,a.i) q/\AE (aC X) a=nB X.L (a.no,a.i) q:=by
 unfold rG AE
 rw [h,show (aC X).ov=[] from by unfold aC nds;rw [hL];rfl,hL]
 exact ⟨(KT _ _ q).1,(KT _ _ q).2⟩
theorem XU {X:Wx} {a:Ac} (hL:X.L=[]) (h:(decide (64<a.d.size) || !jg a.i)=false) (q:Int) (he:¬ lG X.L (a.no,a.i) q=0):iE (aC X) a=gF (lG X.L (a.no,a.i) q):=by
 unfold iE
 rw [(CA hL h q).1,aH1 he];rfl
theorem JX {X:Wx} {a:Ac} (hL:X.L=[]) (h:(decide (64<a.d.size) || !jg a.i)=false) (q:Int) (he:lG X.L (a.no,a.i) q=0):iE (aC X) a=iG {rf (aC X) ⟨a.no,a.d,[]⟩ with ov:=nB X.L (a.no,a.i) q}:=by
 unfold iE
 rw [(CA hL h q).1,he,(CA hL h q).2,show (aC X).ov.length=0 from by unfold aC nds;rw [hL];rfl];rfl
theorem PV (L:List N3) (h:L=[]):rJ (aN L)=6:=by subst h;rfl
theorem LO (w:World):eP w ax []:=⟨rfl,.inl ⟨rfl,rfl⟩⟩
theorem yV {w0 w9:World} {a b c d:Own} {k:List Nat} {S S':World->Prop} {B:List Own} (s:St w0 (a::b::c::d::.grp k S::B) w9) (h:∀ w9,S w9->S' w9):St w0 (a::b::c::d::.grp k S'::B) w9:=
 (St.weak (s.perm (aO2 (l₁:=[a,b,c,d]))) h).o5
theorem HZ {w0 w9:World} {c:Nat} {tc ts th tn:TypeId} {vo vh vl vp v9 vn:Value} {X:Wx} {L:List N3} {k1 kk:List Nat} {B9:List Own} {a:Ac} {q:Int} (hL0:X.L=[]) (hS0:X.S=[]) (hd:(decide (64<a.d.size) || !jg a.i)=false) (he:lG X.L (a.no,a.i) q=0)
 (s:St w0 (.grp k1 (λw9=>nds L=nB X.L (a.no,a.i) q/\(wZ vo X.L w9->kr w9 vp L))::.grp kk (λw9=>RdC w9 vo vl X)::.blk c (.cells (gJ vp v9 vh vl X.M.last X.M.now vn) tc)::.sl v9 ts 3 1 (a8 [((⟨a.no,a.d,[]⟩:Sv),ax)])::.sl vh th 5 X.H.length (bB X.H)::.sl vn tn 74 0 []::B9) w9):
 IS w0 c tc ts th tn (iE (aC X) a) B9 (.int .i64 0) w9:=by
 have hL1:=(s.getG 0 rfl).1
 have s2:=(Mf (s.weak (S':=λw9=>wZ vo X.L w9->kr w9 vp L) λ_ h=>h.2)).o5
 refine ⟨by rw [JX hL0 hd q he];rfl,vp,v9,vh,vl,vn,⟨L,[((⟨a.no,a.d,[]⟩:Sv),ax)],X.H,X.M⟩,[],_,λ_=>?_,yV s2 λw9 h=>⟨h.ov,λx hx=>by rw [aI4.1 hx];exact LO _,h.hw,h.ml⟩⟩
 rw [JX hL0 hd q he]
 refine ⟨?_,rfl⟩
 show (⟨nds L,_,_,_⟩:Wd)=⟨nB X.L (a.no,a.i) q,ft (·.no) (X.S.map (·.1)) ⟨a.no,a.d,[]⟩,X.H.map (·.1),X.M⟩
 rw [hL1,hS0];rfl
theorem af0 {W:Wd} {n g:Int} (he:¬ qn n g=0):ue W n g=gF (qn n g):=by unfold ue;rw [aH1 he];rfl
theorem ah6 {W:Wd} {n g:Int} (hH:W.ho=[]) (he:qn n g=0):ue W n g=iG (tG W (jl n g)):=by
 unfold ue fQ
 rw [he,hH];rfl
theorem G9 {w0 w9:World} {c:Nat} {tc ts th tn:TypeId} {vo vs vl vn v9 uw uh ui:Value} {X:Wx} {k1 kk:List Nat} {B9:List Own} {n g:Int} (hH0:X.H=[]) (he:qn n g=0)
 (s:St w0 (.grp k1 (λw9=>pE w9 ax ax ax sO->pE w9 uw uh ui (jl n g))::.grp kk (λw9=>RdC w9 vo vl X)::.blk c (.cells (gJ vo vs v9 vl X.M.last X.M.now vn) tc)::.sl vs ts 3 X.S.length (a8 X.S)::.sl v9 th 5 1 (bB [(jl n g,uw,uh,ui)])::.sl vn tn 74 0 []::B9) w9):
 IS w0 c tc ts th tn (ue (aC X) n g) B9 (.int .i64 0) w9:=by
 have s2:=(s.merge (S:=λw9=>RdC w9 vo vl {X with H:=[(jl n g,uw,uh,ui)]}) λw9 a h=>⟨h.ov,h.sw,λx hx=>by rw [aI4.1 hx];exact a (kR _ 0 0),h.ml⟩).o5
 have hy:ue (aC X) n g=iG (tG (aC X) (jl n g)):=ah6 (by unfold aC;rw [hH0];rfl) he
 refine ⟨by rw [hy];rfl,vo,vs,v9,vl,vn,{X with H:=[(jl n g,uw,uh,ui)]},[],_,λ_=>?_,s2⟩
 rw [hy]
 refine ⟨?_,rfl⟩
 show (⟨_,_,[jl n g],_⟩:Wd)=⟨_,_,ft (·.no) (X.H.map (·.1)) (jl n g),_⟩
 rw [hH0];rfl
def Xq (v:Value):Value:=g7 (match v with
 |.agg c=>(c[0]?).getD (.bool false)
 |_=>.bool false)
theorem Qi (v:Value):(Xq v).oneCell'=true:=jW _
def OU (v:Value):Nat:=match v with
 |.func _ _ c=>match (c[0]?).getD (.bool false) with
  |.pointer (some p)=>p.block
  |_=>0
 |_=>0
theorem YV {l:List V2} {x:V2} (h:x∈l):∃ j,j<l.length/\l.getD j cd=x:=by
 obtain ⟨j,hj,rfl⟩:=List.mem_iff_getElem.1 h
 exact ⟨j,hj,(U0 hj).symm⟩
theorem CI {K:List V2} {j:Nat} (hj:j<K.length) (x:V2):(a8 K).take (j*3)++(bC x.1.no x.1.sec x.2).toList++(a8 K).drop (j*3+3)=a8 (K.set j x):=Zr jY hj x
theorem XX (cur zs:List Value) (q:V2->Bool) (l:List V2) (h1:cur.take (l.length*3)=a8 (zI q l l.length)) (hl:l.length*3<=cur.length) (hz:zs.length=(l.length - (l.filter q).length)*3) (o:Nat) (ho:o=(l.filter q).length*3) (m:Nat) (hm:m=(l.length - (l.filter q).length)*3):
 (cur.take o++zs++cur.drop (o+m)).length=cur.length/\(cur.take o++zs++cur.drop (o+m)).take o=a8 (l.filter q):=H0 jY cur zs q l h1 hl hz o ho m hm
def Am (v:Value):Value:=g7 (match v with
 |.tuple a=>(a[0]?).getD (.bool false)
 |_=>.bool false)
abbrev fp (X:Wx) (no:Int):Nat:=rL (λx:V2=>x.1.no) X.S no
theorem GM {X:Wx} {no:Int} (h:fp X no<X.S.length):j4 (aC X) no=(X.S.getD (fp X no) cd).1:=by
 unfold j4
 rw [show (aC X).sv=X.S.map (·.1) from rfl,CE (f:=λx:V2=>x.1) (num:=λx:Sv=>x.no) cd noS,aH2 h];rfl
theorem SJ {X:Wx} {no:Int} (h:fp X no<X.S.length):(X.S.getD (fp X no) cd).1.no=no:=yy (num:=λx:V2=>x.1.no) cd h
theorem Om {α:Type} {num:α->Int} {l:List α} {no:Int} (h:∃ x∈l,num x=no):rL num l no<l.length:=by
 obtain ⟨x,hx,e⟩:=h
 exact List.findIdx_lt_length_of_exists ⟨x,hx,by simpa using e⟩
theorem sR {X:Wx} (h:bZ (aC X)=true):X.S.map (λx=>x.1.no)=(aN X.L).map (·.1):=by
 have h1:=(gx.1 h).nos
 have e1:(aC X).sv.map (·.no)=X.S.map λx=>x.1.no:=by show (X.S.map (·.1)).map _=_;rw [List.map_map];rfl
 have e2:(aC X).ov.map (·.me.1)=(aN X.L).map (·.1):=by show (nds X.L).map _=_;unfold nds aN;rw [List.map_map,List.map_map];rfl
 rw [← e1,h1,e2]
theorem Gd {X:Wx} {no:Int} (h:bZ (aC X)=true) (he:dd (aN X.L) no=true):fp X no<X.S.length:=by
 have hg:Rg (aN X.L):=by
  have this:Rg (dO (aC X).ov):=(gx.1 h).ro.ring
  have e:dO (aC X).ov=aN X.L:=by show dO (nds X.L)=_;unfold dO nds aN;rw [List.map_map];rfl
  rwa [e] at this
 obtain ⟨m,hm,e⟩:=Gb hg he
 have:no∈X.S.map λx=>x.1.no:=by rw [sR h];exact aL9.2 ⟨m,hm,e⟩
 obtain ⟨x,hx,e⟩:=aL9.1 this
 exact Om ⟨x,hx,e⟩
theorem qj {X:Wx} (h:bZ (aC X)=true):Rg (aN X.L):=by
 have this:Rg (dO (aC X).ov):=(gx.1 h).ro.ring
 have e:dO (aC X).ov=aN X.L:=by show dO (nds X.L)=_;unfold dO nds aN;rw [List.map_map];rfl
 rwa [e] at this
theorem YR {X:Wx} {no:Int} (h:bZ (aC X)=true) (he:dd (aN X.L) no=true):∃ m∈aN X.L,m.1=no/\iQ (aN X.L) no 1=[fH (aN X.L) m]:=by
 obtain ⟨m,hm,e⟩:=Gb (qj h) he
 refine ⟨m,hm,e,?_⟩
 have:=(Wc (qj h) hm (n:=1) (by decide)).2
 rw [e,Pz] at this
 exact this
theorem L6 (L:List N3) (no:Int):cE (ej (nds L)) no=cE L no:=by
 have e:aN (ej (nds L))=aN L:=by unfold ej nds aN;rw [List.map_map,List.map_map];rfl
 unfold cE
 rw [r3,e]
theorem VK {X:Wx} {no:Int} (h:¬ cE X.L no=0):jZ (aC X) no=gF (cE X.L no):=by
 unfold jZ
 rw [show ej (aC X).ov=ej (nds X.L) from rfl,L6,aH1 h];rfl
theorem M6 {X:Wx} {no:Int} (h:cE X.L no=0) (h1:¬ 1<X.L.length):jZ (aC X) no=iG {aC X with sv:=t6 (aC X) no,ov:=ja (aC X).ov no}:=by
 unfold jZ
 rw [show ej (aC X).ov=ej (nds X.L) from rfl,L6,aH2 h,show (aC X).ov.length=X.L.length from by show (nds X.L).length=_;unfold nds;rw [aL1],aH1 h1];rfl
theorem M2 {X:Wx} {no:Int} (h:bZ (aC X)=true) {m:Mb} (hm:m∈aN X.L) (hmn:m.1=no) (h1:1<X.L.length):rL (λx:V2=>x.1.no) (X.S.filter λx => !decide (x.1.no=no)) (fH (aN X.L) m).1<(X.S.filter λx => !decide (x.1.no=no)).length:=by
 have hRg:=qj h
 have hro:=(gx.1 h).ro
 have e:dO (aC X).ov=aN X.L:=by show dO (nds X.L)=_;unfold dO nds aN;rw [List.map_map];rfl
 have h2:1<(aC X).ov.length:=by show 1<(nds X.L).length;unfold nds;rw [aL1];exact h1
 obtain ⟨y,hy,hyn⟩:∃ y∈aN X.L,y≠m:=by
  rw [← e]
  apply Classical.byContradiction
  intro h9
  have hall:∀ y∈(aC X).ov,y.me=m:=λy hy=>Classical.byContradiction λe=>h9 ⟨y.me,aL9.2 ⟨y,hy,rfl⟩,e⟩
  have hp:=List.pairwise_iff_getElem.1 hro.inc 0 1 (by omega) h2 (by decide)
  have e0:=hall _ (aN1 (show 0<(aC X).ov.length by omega))
  have e1:=hall _ (aN1 h2)
  rw [e0,e1] at hp;omega
 have hnx:=(Mv hRg hm hy hyn).1
 have hnm:=F8 hm
 have hne:(fH (aN X.L) m).1≠no:=λe9=>hnx (hRg.no hnm hm (by rw [e9,hmn]))
 have hin:(fH (aN X.L) m).1∈X.S.map λx=>x.1.no:=by rw [sR h];exact aL9.2 ⟨_,hnm,rfl⟩
 obtain ⟨x,hx,e9⟩:=aL9.1 hin
 exact Om ⟨x,aK4.2 ⟨hx,by simpa [e9] using hne⟩,e9⟩
theorem C2 {w0 w9:World} {c:Nat} {tc ts th tn:TypeId} {vo vh vl vp vd vn:Value} {X:Wx} {L:List N3} {k1 kk:List Nat} {B9:List Own} {no:Int} (he:cE X.L no=0) (h1:¬ 1<X.L.length)
 (s:St w0 (.grp k1 (λw9=>nds L=NO X.L no/\(wZ vo X.L w9->kr w9 vp L))::.grp kk (λw9=>RdC w9 vo vl X)::.blk c (.cells (gJ vp vd vh vl X.M.last X.M.now vn) tc)::.sl vd ts 3 (X.S.filter λx => !decide (x.1.no=no)).length (a8 (X.S.filter λx => !decide (x.1.no=no)))::.sl vh th 5 X.H.length (bB X.H)::.sl vn tn 74 0 []::B9) w9):
 IS w0 c tc ts th tn (jZ (aC X) no) B9 (.int .i64 0) w9:=by
 have hL1:=(s.getG 0 rfl).1
 have s2:=(Mf (s.weak (S':=λw9=>wZ vo X.L w9->kr w9 vp L) λ_ h=>h.2)).o5
 refine ⟨by rw [M6 he h1];rfl,vp,vd,vh,vl,vn,⟨L,X.S.filter λx => !decide (x.1.no=no),X.H,X.M⟩,[],_,λ_=>?_,yV s2 λw9 h=>⟨h.ov,λx hx=>h.sw x (aK4.1 hx).1,h.hw,h.ml⟩⟩
 rw [M6 he h1]
 refine ⟨?_,rfl⟩
 show (⟨nds L,(X.S.filter λx => !decide (x.1.no=no)).map (·.1),_,_⟩:Wd)=⟨ja (nds X.L) no,(X.S.map (·.1)).filter λy => !decide (y.no=no),X.H.map (·.1),X.M⟩
 rw [hL1,Ns he,List.filter_map];rfl
theorem Gg {E:List Nd} {n:Nd} (h:n∈E):(n,ax,ax)∈ej E:=aL9.2 ⟨n,h,rfl⟩
theorem Zd {E:List Nd} (rn:∀ n∈E,RN n) (inc:E.Pairwise λa b=>a.me.1<b.me.1) (ring:Rg (dO E)) (kn:∀ n∈E,∀ m∈bp n,Ys (dO E) m):RK (ej E):=by
 refine ⟨⟨λx hx=>?_,List.pairwise_map.2 inc,by rw [nh];exact ring⟩,λx hx m hm=>?_⟩
 ·obtain ⟨n,hn,rfl⟩:=aL9.1 hx;exact rn n hn
 ·obtain ⟨n,hn,rfl⟩:=aL9.1 hx;rw [nh];exact kn n hn m hm
theorem RK.rn {E:List Nd} (h:RK (ej E)) {n:Nd} (hn:n∈E):RN n:=h.rs.rn _ (Gg hn)
theorem RK.kno {E:List Nd} (h:RK (ej E)) {n:Nd} (hn:n∈E):∀ m∈bp n,Ys (dO E) m:=by
 have:=h.kn _ (Gg hn);rwa [nh] at this
theorem RK.inc {E:List Nd} (h:RK (ej E)):E.Pairwise λa b=>a.me.1<b.me.1:=by
 have:=h.rs.inc
 unfold ej at this;rw [List.pairwise_map] at this
 exact this
theorem RK.ring {E:List Nd} (h:RK (ej E)):Rg (dO E):=by have:=h.rs.ring;rwa [nh] at this
theorem SP {E:List Nd} {n:Int} (h:RK (ej E)) (hl:dd (dO E) n=true):nG E n∈E/\(nG E n).me.1=n:=by
 obtain ⟨m,hm,e⟩:=Gb h.ring hl
 obtain ⟨g,hg,rfl⟩:=aL9.1 hm
 unfold nG
 cases hf:E.find? λx=>decide (x.me.1=n) with
 |none=>have:=List.find?_eq_none.1 hf g hg;simp [e] at this
 |some y=>exact ⟨List.mem_of_find?_eq_some hf,by simpa using List.find?_some hf⟩
theorem uv {E:List Nd} {m:Mb} {no:Int} (h:RK (ej E)) (he:lG (ej E) m no=0):
 (0<=m.1/\m.1<16)/\(∀ n∈E,n.me.1≠m.1/\n.me.2≠m.2/\∀ y∈bp n,y.1=m.1->y=m)/\(0<E.length->dd (dO E) no=true)/\
 nB (ej E) m no=xV E ⟨m,i1,[Cp (ej E) m no],[]⟩:=by
 unfold lG at he
 cases h4:Bt (ej E) m with
 |false=>rw [h4] at he;cases he
 |true=>
  rw [h4] at he
  have he:AN (ej E) m no=0:=he
  have hN:nB (ej E) m no=xV E ⟨m,i1,[Cp (ej E) m no],[]⟩:=by
   unfold nB WX
   rw [h4,he,p6];rfl
  unfold Bt at h4
  rw [aH5] at h4
  unfold AN at he
  cases hT:zH (ej E) m with
  |true=>rw [hT] at he;cases he
  |false=>
   rw [hT] at he
   refine ⟨r4.1 h4.2,λn hn=>?_,λhl=>?_,hN⟩
   ·obtain ⟨k,hk,ek⟩:=List.mem_iff_getElem.1 hn
    have hk3:k<(ej E).length:=by unfold ej;rw [aL1];exact hk
    have hg:((ej E).getD k z3).1=n:=by
     unfold ej
     rw [aJ6,aM0,aH8 hk,ek];rfl
    unfold zH at hT
    have hb:=aN5.1 hT k (aI7.2 hk3)
    unfold nA at hb
    rw [hg] at hb
    simp only [Bool.or_eq_true,aI0,not_or] at hb
    refine ⟨hb.1,hb.2.1,λy hy e=>Classical.byContradiction λe9=>hb.2.2 (aN4.2 ⟨y,hy,?_⟩)⟩
    unfold pf
    rw [aH2 e,aH1 e9];rfl
   ·rw [nh] at he
    have hl3:0<(ej E).length:=by unfold ej;rw [aL1];exact hl
    rw [aH2 hl3] at he
    cases hb:dd (dO E) no with
    |true=>rfl
    |false=>rw [hb] at he;cases he
theorem M1 {E:List Nd} {x:Nd} (hi:E.Pairwise λa b=>a.me.1<b.me.1) (hx:∀ y∈E,y.me.1≠x.me.1):∃ A B,E=A++B/\(∀ a∈A,a.me.1<x.me.1)/\(∀ b∈B,x.me.1<b.me.1)/\xV E x=A++x::B:=by
 have hi3:(ej E).Pairwise λa b=>a.1.me.1<b.1.me.1:=by unfold ej;exact List.pairwise_map.2 hi
 obtain ⟨A,B,e,hA,hB⟩:=qo (x:=(x,ax,ax)) (ej E) hi3 λy hy=>by
  obtain ⟨n,hn,rfl⟩:=aL9.1 hy;exact hx n hn
 have hE:E=nds A++nds B:=by
  have:=aH3 nds e
  rw [p6] at this
  rw [this];unfold nds;exact aO5
 refine ⟨nds A,nds B,hE,λa ha=>?_,λb hb=>?_,?_⟩
 ·obtain ⟨z,hz,rfl⟩:=aL9.1 ha;exact hA z hz
 ·obtain ⟨z,hz,rfl⟩:=aL9.1 hb;exact hB z hz
 ·have h9:=OQ (ej E) (x,ax,ax)
  rw [p6,e,FQ hA hB] at h9
  rw [← h9]
  unfold nds
  rw [aO5,List.map_cons]
theorem FA:∀ (l:List Int) (lo hi:Int),l.Pairwise (· < ·)->(∀ x∈l,lo<=x/\x<hi)->lo<=hi->(l.length:Int)<=hi - lo
 |[],lo,hi,_,_,h=>by simp;omega
 |x::l,lo,hi,hp,hx,_=>by
  have h1:=hx x aI5
  have hp:=List.pairwise_cons.1 hp
  have:=FA l (x+1) hi hp.2 (λy hy=>by have:=hp.1 y hy;have:=(hx y (aJ5 _ hy)).2;omega) (by omega)
  rw [aK5];omega
theorem RE {E:List Nd} {m:Mb} {no:Int} (h:RK (ej E)) (he:lG (ej E) m no=0):
 RK (ej (nB (ej E) m no))/\(∀ n∈nB (ej E) m no,n∈E∨n.me=m)/\
 (nB (ej E) m no).map (·.me.1)=((E.map (·.me.1)).filter λk=>decide (k<m.1))++m.1::((E.map (·.me.1)).filter λk=>decide (m.1<k)):=by
 obtain ⟨hm,hE,hl,hN⟩:=uv h he
 obtain ⟨x,hx⟩:∃ x:Nd,x=⟨m,i1,[Cp (ej E) m no],[]⟩:=⟨_,rfl⟩
 rw [← hx] at hN
 have hxm:x.me=m:=by rw [hx]
 obtain ⟨A,B,rfl,hA,hB,hP⟩:=M1 (x:=x) h.inc λy hy=>by rw [hxm];exact(hE y hy).1
 rw [hN,hP]
 have hring:=h.ring
 have hjs:Cp (ej (A++B)) m no=m/\(A++B).length=0∨Cp (ej (A++B)) m no∈dO (A++B):=by
  unfold Cp
  by_cases h0:0<(A++B).length
  ·rw [aH2 (show 0<(ej (A++B)).length by unfold ej;rw [aL1];exact h0)]
   obtain ⟨h1,_⟩:=SP h (hl h0)
   refine .inr ?_
   show (kE (ej (A++B)) no).1.me∈_
   rw [FS,p6]
   exact aL9.2 ⟨_,h1,rfl⟩
  ·rw [aH1 (show ¬ 0<(ej (A++B)).length by unfold ej;rw [aL1];exact h0)]
   exact .inl ⟨rfl,by omega⟩
 have hmem:∀ y,y∈dO (A++x::B)↔y=m∨y∈dO (A++B):=λy=>by
  unfold dO
  rw [aO5,List.map_cons,aO5,hxm]
  simp only [aK9,aI6]
  constructor
  ·rintro (g|g|g)
   ·exact .inr (.inl g)
   ·exact .inl g
   ·exact .inr (.inr g)
  ·rintro (g|g|g)
   ·exact .inr (.inl g)
   ·exact .inl g
   ·exact .inr (.inr g)
 have hinc:(A++x::B).Pairwise λa b=>a.me.1<b.me.1:=by
  have hp:=List.pairwise_append.1 h.inc
  refine List.pairwise_append.2 ⟨hp.1,List.pairwise_cons.2 ⟨hB,hp.2.1⟩,λa ha b hb=>?_⟩
  rcases aI6.1 hb with rfl|hb
  ·exact hA a ha
  ·exact hp.2.2 a ha b hb
 have hrx:RN x:=by
  rw [hx]
  refine ⟨hm,.inl rfl,?_,⟨aJ3 _,λy hy=>(by cases hy),λy hy=>(by cases hy),List.Pairwise.nil⟩⟩
  rcases hjs with ⟨e,_⟩|e
  ·exact .inl (by show [Cp (ej (A++B)) m no]=[m];rw [e])
  ·refine .inr ⟨aJ1 _,by show 1<=4;decide,⟨λy hy=>?_,λy hy=>?_,List.pairwise_singleton _ _⟩⟩
   ·rw [aI4.1 hy];exact hring.nos _ e
   ·rw [aI4.1 hy]
    obtain ⟨n,hn,en⟩:=aL9.1 e
    show (Cp (ej (A++B)) m no).1≠m.1
    rw [← en];exact(hE n hn).1
 have hnos:∀ y∈dO (A++x::B),0<=y.1/\y.1<16:=λy hy=>by
  rcases (hmem y).1 hy with rfl|g
  ·exact hm
  ·exact hring.nos y g
 have hR:Rg (dO (A++x::B)):=by
  refine ⟨?_,hnos,?_⟩
  ·have h1:((A++x::B).map (·.me.1)).Pairwise (· < ·):=List.pairwise_map.2 hinc
   have h2:=FA _ 0 16 h1 (λk hk=>by
    obtain ⟨n,hn,rfl⟩:=aL9.1 hk
    exact hnos n.me (aL9.2 ⟨n,hn,rfl⟩)) (by decide)
   unfold dO
   rw [aL1] at h2 ⊢
   omega
  ·have hnd:=hring.nd
   unfold dO at hnd ⊢
   rw [aO5] at hnd
   rw [aO5,List.map_cons,hxm]
   have hp:=List.pairwise_append.1 hnd
   have hmA:∀ y∈A.map (·.me),y.1≠m.1/\y.2≠m.2:=λy hy=>by
    obtain ⟨n,hn,rfl⟩:=aL9.1 hy
    have:=hE n (List.mem_append_left _ hn);exact ⟨this.1,this.2.1⟩
   have hmB:∀ y∈B.map (·.me),m.1≠y.1/\m.2≠y.2:=λy hy=>by
    obtain ⟨n,hn,rfl⟩:=aL9.1 hy
    have:=hE n (List.mem_append_right _ hn);exact ⟨this.1.symm,this.2.1.symm⟩
   refine List.pairwise_append.2 ⟨hp.1,List.pairwise_cons.2 ⟨hmB,hp.2.1⟩,λa ha b hb=>?_⟩
   rcases aI6.1 hb with rfl|hb
   ·exact hmA a ha
   ·exact hp.2.2 a ha b hb
 refine ⟨Zd (λn hn=>?_) hinc hR (λn hn y hy=>?_),λn hn=>?_,?_⟩
 ·rcases aK9.1 hn with g|g
  ·exact h.rn (List.mem_append_left _ g)
  ·rcases aI6.1 g with rfl|g
   ·exact hrx
   ·exact h.rn (List.mem_append_right _ g)
 ·have hold:n∈A++B->Ys (dO (A++x::B)) y:=λg s hs e=>by
   rcases (hmem s).1 hs with rfl|hs
   ·exact((hE n g).2.2 y hy e.symm).symm
   ·exact h.kno g y hy s hs e
  rcases aK9.1 hn with g|g
  ·exact hold (List.mem_append_left _ g)
  ·rcases aI6.1 g with rfl|g
   ·rw [hx] at hy
    have hy:y∈i1::([Cp (ej (A++B)) m no]++[]):=hy
    rcases aI6.1 hy with rfl|hy
    ·exact Zq hR
    ·rw [aM4,aI4] at hy
     rw [hy]
     rcases hjs with ⟨e,_⟩|e
     ·rw [e];exact Tv hR ((hmem m).2 (.inl rfl))
     ·exact Tv hR ((hmem _).2 (.inr e))
   ·exact hold (List.mem_append_right _ g)
 ·rcases aK9.1 hn with g|g
  ·exact .inl (List.mem_append_left _ g)
  ·rcases aI6.1 g with rfl|g
   ·exact .inr hxm
   ·exact .inl (List.mem_append_right _ g)
 ·have a1:(A.map (·.me.1)).filter (λk=>decide (k<m.1))=A.map (·.me.1):=List.filter_eq_self.2 λk hk=>by
   obtain ⟨n,hn,rfl⟩:=aL9.1 hk;have:=hA n hn;rw [hxm] at this;exact aH2 this
  have b1:(B.map (·.me.1)).filter (λk=>decide (k<m.1))=[]:=List.filter_eq_nil_iff.2 λk hk=>by
   obtain ⟨n,hn,rfl⟩:=aL9.1 hk;have:=hB n hn;rw [hxm] at this;simp;omega
  have a2:(A.map (·.me.1)).filter (λk=>decide (m.1<k))=[]:=List.filter_eq_nil_iff.2 λk hk=>by
   obtain ⟨n,hn,rfl⟩:=aL9.1 hk;have:=hA n hn;rw [hxm] at this;simp;omega
  have b2:(B.map (·.me.1)).filter (λk=>decide (m.1<k))=B.map (·.me.1):=List.filter_eq_self.2 λk hk=>by
   obtain ⟨n,hn,rfl⟩:=aL9.1 hk;have:=hB n hn;rw [hxm] at this;exact aH2 this
  rw [show (A++B).map (·.me.1)=A.map (·.me.1)++B.map (·.me.1) from aO5,aO4,aO4,a1,b1,a2,b2,aM4,List.nil_append,aO5,List.map_cons,hxm]
theorem mR {α:Type} (f:α->Int):∀ {l:List α} {i:Nat} {x:α} (hi:i<l.length),(l.Pairwise λa b=>f a<f b)->f l[i]=f x->ft f l x=l.set i x
 |a::t,0,x,_,hp,e=>by
  have e:f a=f x:=e
  have hp:=List.pairwise_cons.1 hp
  unfold ft
  have h1:(a::t).filter (λy=>decide (f y<f x))=[]:=List.filter_eq_nil_iff.2 λy hy=>by
   rcases aI6.1 hy with rfl|hy
   ·simp;omega
   ·have:=hp.1 y hy;simp;omega
  have h2:(a::t).filter (λy=>decide (f x<f y))=t:=by
   rw [List.filter_cons_of_neg (by simp;omega)]
   exact List.filter_eq_self.2 λy hy=>by have:=hp.1 y hy;simp;omega
  rw [h1,h2];rfl
 |a::t,i+1,x,hi,hp,e=>by
  have hi':i<t.length:=Nat.lt_of_succ_lt_succ hi
  have e:f t[i]=f x:=e
  have hp:=List.pairwise_cons.1 hp
  have ha:=hp.1 _ (aN1 hi')
  have ih:=mR f hi' hp.2 e
  unfold ft at ih ⊢
  rw [List.filter_cons_of_pos (by simp;omega),List.filter_cons_of_neg (by simp;omega),List.set_cons_succ,← ih];rfl
theorem Rc {w0 w:World} {k1 k2:List Nat} {S1 S2:World->Prop} {B:List Own} (s:St w0 (.grp k1 S1::.grp k2 S2::B) w):∃ k,St w0 (.grp k (λw9=>S1 w9/\S2 w9)::B) w:=
 ⟨_,(St.group (A:=[.grp k1 S1,.grp k2 S2]) (B:=B) s).weak λw9 h9=>⟨(h9 (.grp k1 S1) (by simp)).2 w9 λ_ _=>rfl,(h9 (.grp k2 S2) (by simp)).2 w9 λ_ _=>rfl⟩⟩
theorem CG {X:Wx} (h:bZ (aC X)=true):X.S.Pairwise λa b=>a.1.no<b.1.no:=by
 have hr:=gx.1 h
 have h1:((aC X).ov.map (·.me.1)).Pairwise (· < ·):=List.pairwise_map.2 hr.ro.inc
 rw [← hr.nos] at h1
 have h2:(X.S.map (·.1)).Pairwise λa b=>a.no<b.no:=List.pairwise_map.1 h1
 rw [List.pairwise_map] at h2
 exact h2
theorem WW {X:Wx} {no:Int} (hrt:bZ (aC X)=true) (he:cE X.L no=0) {m:Mb} (hm:m∈aN X.L) (hmn:m.1=no) {i:Nat} (hid:i<(X.S.filter λx => !decide (x.1.no=no)).length) {d:V2} (hd:d=(X.S.filter λx => !decide (x.1.no=no)).getD i cd) (hdn:d.1.no=(fH (aN X.L) m).1) (p:Value) (h1:1<X.L.length) (hix:fp X no<X.S.length):
 jZ (aC X) no=iG ⟨ja (nds X.L) no,((X.S.filter λx => !decide (x.1.no=no)).set i ((gP d.1 (X.S.getD (fp X no) cd).1.tb,p):V2)).map (·.1),X.H.map (·.1),X.M⟩:=by
 have hr:=gx.1 hrt
 have hRg:=qj hrt
 have e:dO (aC X).ov=aN X.L:=by show dO (nds X.L)=_;unfold dO nds aN;rw [List.map_map];rfl
 have hov:(aC X).ov.length=X.L.length:=by show (nds X.L).length=_;unfold nds;rw [aL1]
 have hds:d∈X.S:=by rw [hd];exact(aK4.1 (cK hid)).1
 have hdw:d.1∈(aC X).sv:=aL9.2 ⟨d,hds,rfl⟩
 have hgw:(X.S.getD (fp X no) cd).1∈(aC X).sv:=aL9.2 ⟨_,cK hix,rfl⟩
 have hgm:(nG (aC X).ov no).me=m:=by
  have hex:∃ g∈(aC X).ov,g.me=m:=by
   have:m∈dO (aC X).ov:=by rw [e];exact hm
   obtain ⟨g,hg,e9⟩:=aL9.1 this
   exact ⟨g,hg,e9⟩
  unfold nG
  cases hf:(aC X).ov.find? λx=>decide (x.me.1=no) with
  |none=>obtain ⟨g,hg,e9⟩:=hex;have:=List.find?_eq_none.1 hf g hg;rw [e9] at this;simp [hmn] at this
  |some y=>
   have hy:y.me∈aN X.L:=by rw [← e];exact aL9.2 ⟨y,List.mem_of_find?_eq_some hf,rfl⟩
   have hyn:y.me.1=no:=by simpa using List.find?_some hf
   show y.me=m
   exact hRg.no hy hm (by rw [hyn,hmn])
 have hgd:j4 (aC X) (fH (aN X.L) m).1=d.1:=by
  obtain ⟨ht,htn⟩:=sh (W:=aC X) (n:=(fH (aN X.L) m).1) (by rw [← hdn];exact aL9.2 ⟨d.1,hdw,rfl⟩)
  exact hr.inj.eq _ ht _ hdw (by rw [htn,hdn])
 have hgg:j4 (aC X) no=(X.S.getD (fp X no) cd).1:=GM hix
 have hrd:=hr.sright hdw
 have hrs:=(fk.1 (hr.sright hgw)).2.2.2
 have hnn:(gP d.1 (X.S.getD (fp X no) cd).1.tb).no=d.1.no:=by unfold gP P1;rw [hrd,hrs];rfl
 have hw:t6 (aC X) no=(X.S.filter λx => !decide (x.1.no=no)).map (·.1):=by
  show (X.S.map (·.1)).filter (λy => !decide (y.no=no))=_
  rw [List.filter_map];rfl
 unfold jZ
 rw [show ej (aC X).ov=ej (nds X.L) from rfl,L6,aH2 he,hov,aH2 h1,e,hgm,hgd,hgg]
 show iG _=iG _
 refine aH3 iG ?_
 show (⟨ja (nds X.L) no,ft (·.no) (t6 (aC X) no) (gP d.1 (X.S.getD (fp X no) cd).1.tb),X.H.map (·.1),X.M⟩:Wd)=_
 have hil:i<((X.S.filter λx => !decide (x.1.no=no)).map (·.1)).length:=by rw [aL1];exact hid
 rw [hw,mR (·.no) hil (List.pairwise_map.2 ((CG hrt).filter _)) (by rw [hnn,List.getElem_map,U0 hid,← hd]),List.map_set]
theorem D6 {w0 w9:World} {c:Nat} {tc ts th tn:TypeId} {vo vh vl vp vd vn p:Value} {X:Wx} {L:List N3} {k1 kk kt:List Nat} {B9:List Own} {no:Int} (hrt:bZ (aC X)=true) (he:cE X.L no=0) {m:Mb} (hm:m∈aN X.L) (hmn:m.1=no) {i:Nat} (hid:i<(X.S.filter λx => !decide (x.1.no=no)).length) {d:V2} (hd:d=(X.S.filter λx => !decide (x.1.no=no)).getD i cd) (hdn:d.1.no=(fH (aN X.L) m).1) (hix:fp X no<X.S.length)
 (s:St w0 (.grp k1 (λw9=>nds L=NO X.L no/\(wZ vo X.L w9->kr w9 vp L))::.grp kk (λw9=>RdC w9 vo vl X)::.grp kt (λw9=>eP w9 d.2 d.1.tb->eP w9 (X.S.getD (fp X no) cd).2 (X.S.getD (fp X no) cd).1.tb->eP w9 p (gP d.1 (X.S.getD (fp X no) cd).1.tb).tb)::.blk c (.cells (gJ vp vd vh vl X.M.last X.M.now vn) tc)::.sl vd ts 3 (X.S.filter λx => !decide (x.1.no=no)).length (a8 ((X.S.filter λx => !decide (x.1.no=no)).set i ((gP d.1 (X.S.getD (fp X no) cd).1.tb,p):V2)))::.sl vh th 5 X.H.length (bB X.H)::.sl vn tn 74 0 []::B9) w9):
 IS w0 c tc ts th tn (jZ (aC X) no) B9 (.int .i64 0) w9:=by
 have hds:d∈X.S:=by rw [hd];exact(aK4.1 (cK hid)).1
 have h1:1<X.L.length:=by
  have e1:=sR hrt
  have hlen:X.S.length=X.L.length:=by have:=aH3 List.length e1;rw [aL1,aL1] at this;rw [this];unfold aN;rw [aL1]
  have hf:(X.S.filter λx => !decide (x.1.no=no)).length<X.S.length:=by
   refine Classical.byContradiction λh9=>?_
   have h8:=List.length_filter_eq_length_iff.1 (Nat.le_antisymm (aL2 _ _) (Nat.le_of_not_lt h9)) _ (cK hix)
   rw [SJ hix] at h8
   simp at h8
  omega
 have hL1:=(s.getG 0 rfl).1
 obtain ⟨kn,s3⟩:=Rc (Mf (s.weak (S':=λw9=>wZ vo X.L w9->kr w9 vp L) λ_ h=>h.2))
 have s2:=s3.o5
 rw [show (X.S.filter λx => !decide (x.1.no=no)).length=((X.S.filter λx => !decide (x.1.no=no)).set i ((gP d.1 (X.S.getD (fp X no) cd).1.tb,p):V2)).length from List.length_set.symm] at s2
 have hle:=WW hrt he hm hmn hid hd hdn p h1 hix
 refine ⟨by rw [hle];rfl,vp,vd,vh,vl,vn,⟨L,(X.S.filter λx => !decide (x.1.no=no)).set i ((gP d.1 (X.S.getD (fp X no) cd).1.tb,p):V2),X.H,X.M⟩,[],_,λ_=>?_,yV s2 λw9 h=>⟨h.1.ov,λx hx=>?_,h.1.hw,h.1.ml⟩⟩
 ·rw [hle]
  refine ⟨?_,rfl⟩
  show (⟨nds L,_,_,_⟩:Wd)=_
  rw [hL1,Ns he];rfl
 ·rcases List.mem_or_eq_of_mem_set hx with hx|rfl
  ·exact h.1.sw x (aK4.1 hx).1
  ·exact h.2 (h.1.sw _ hds) (h.1.sw _ (cK hix))
theorem W3 (L:List N3) (no:Int):(kE (ej (nds L)) no).1=(kE L no).1:=by
 unfold kE ej nds
 rw [List.map_map,List.find?_map]
 show ((Option.map _ (L.find? λx=>decide (x.1.me.1=no))).getD no3).1=_
 cases L.find? λx=>decide (x.1.me.1=no)<;>rfl
theorem yB (L:List N3):aN (ej (nds L))=aN L:=by unfold ej nds aN;rw [List.map_map,List.map_map];rfl
theorem FY (L:List N3):(ej (nds L)).length=L.length:=by unfold ej nds;rw [aL1,aL1]
theorem Ou (L:List N3) (m:Mb) (no:Int):lG (ej (nds L)) m no=lG L m no:=by
 have hb:nA (ej (nds L)) m=nA L m:=funext λk=>by unfold nA;rw [zw]
 unfold lG Bt AN zH
 rw [r3,yB,FY,hb]
theorem KZ (L:List N3) (m:Mb) (no:Int):nB (ej (nds L)) m no=nB L m no:=by
 have hb:nA (ej (nds L)) m=nA L m:=funext λk=>by unfold nA;rw [zw]
 unfold nB Bt WX AN zH Cp
 rw [r3,yB,FY,hb,p6,W3]
section
variable {X:Wx} {a:Ac}
theorem AY (hrt:bZ (aC X)=true) (hn:¬ X.L.length=0):rJ (aN X.L)=0/\dI (aN X.L) a.i=tF (aC X) a/\(tF (aC X) a)∈aN X.L:=by
 have hr:dL (aN X.L)=true:=(lU _).2 (qj hrt)
 have h0:¬ (aN X.L).length=0:=by unfold aN;rw [aL1];exact hn
 have e:dO (aC X).ov=aN X.L:=jQ X.L
 refine ⟨(ze a.i hr h0).1,?_,?_⟩
 ·rw [(ze a.i hr h0).2];unfold tF;rw [e]
 ·unfold tF;rw [e];exact sf a.i (by omega)
theorem Gi (hrt:bZ (aC X)=true) (hn:¬ X.L.length=0) (hd:(decide (64<a.d.size) || !jg a.i)=false):rG (aC X) a=lG X.L (a.no,a.i) (dI (aN X.L) a.i).1/\AE (aC X) a=nB X.L (a.no,a.i) (dI (aN X.L) a.i).1:=by
 rw [(AY (a:=a) hrt hn).2.1]
 unfold rG AE
 rw [hd]
 exact ⟨Ou _ _ _,KZ _ _ _⟩
theorem Pa (hrt:bZ (aC X)=true) (hn:¬ X.L.length=0) (hd:(decide (64<a.d.size) || !jg a.i)=false) (he:¬ lG X.L (a.no,a.i) (dI (aN X.L) a.i).1=0):iE (aC X) a=gF (lG X.L (a.no,a.i) (dI (aN X.L) a.i).1):=by
 unfold iE
 rw [(Gi hrt hn hd).1,aH1 he];rfl
theorem DY (hrt:bZ (aC X)=true) (hn:¬ X.L.length=0):fp X (dI (aN X.L) a.i).1<X.S.length:=by
 obtain ⟨_,h2,h3⟩:=AY (a:=a) hrt hn
 refine Gd hrt ?_
 rw [h2]
 exact(mX λm hm=>((qj hrt).nos m hm).1).2 ⟨_,h3,rfl⟩
theorem ZY (hrt:bZ (aC X)=true) (hn:¬ X.L.length=0):ii (aC X) a=(X.S.getD (fp X (dI (aN X.L) a.i).1) cd).1:=by
 unfold ii
 rw [← (AY (a:=a) hrt hn).2.1]
 exact GM (DY hrt hn)
theorem T5 (hrt:bZ (aC X)=true) (hn:¬ X.L.length=0) (hd:(decide (64<a.d.size) || !jg a.i)=false) (he:lG X.L (a.no,a.i) (dI (aN X.L) a.i).1=0) {L:List N3} (hL:nds L=nB X.L (a.no,a.i) (dI (aN X.L) a.i).1):
 rX (aN L) a.no=Hb (aN L) (a.no,a.i)/\rH (aC X) a=(rX (aN L) a.no).2/\(aN L).length<=16/\(∀ x∈X.S,x.1.no≠a.no)/\0<=a.no/\a.no<=15:=by
 have hrk:RK (ej (aC X).ov):=(Uz.1 hrt).ov
 have he2:lG (ej (aC X).ov) (a.no,a.i) (dI (aN X.L) a.i).1=0:=(Ou X.L _ _).trans he
 obtain ⟨hm,hx,_,_⟩:=uv hrk he2
 obtain ⟨h1,h2,h3⟩:=RE hrk he2
 have hN:nB (ej (aC X).ov) (a.no,a.i) (dI (aN X.L) a.i).1=nds L:=(KZ X.L _ _).trans hL.symm
 rw [hN] at h1 h2 h3
 have hRg:Rg (aN L):=by have:=h1.rs.ring;rwa [yB] at this
 have hmm:(a.no,a.i)∈aN L:=by
  have h4:a.no∈(nds L).map (·.me.1):=by rw [h3];exact List.mem_append_right _ aI5
  obtain ⟨n,hn9,e⟩:=aL9.1 h4
  have e2:n.me=(a.no,a.i):=by
   rcases h2 n hn9 with g|g
   ·exact aO7 e (hx n g).1
   ·exact g
  rw [← jQ L,← e2]
  exact aL9.2 ⟨n,hn9,rfl⟩
 have e1:rX (aN L) a.no=Hb (aN L) (a.no,a.i):=WY hRg hmm
 refine ⟨e1,?_,hRg.len,λx hx9 e9=>?_,hm.1,by have:=hm.2;show a.no<=15;change a.no<16 at this;omega⟩
 ·unfold rH
  rw [(Gi hrt hn hd).2,← hL,jQ,e1]
 ·have h5:a.no∈X.S.map λx=>x.1.no:=aL9.2 ⟨x,hx9,e9⟩
  rw [sR hrt] at h5
  obtain ⟨m,hm9,e8⟩:=aL9.1 h5
  rw [← jQ X.L] at hm9
  obtain ⟨n,hn9,rfl⟩:=aL9.1 hm9
  exact(hx n hn9).1 e8
theorem TF {g:Sv} {be:Mb} (hg:cW g=true) (hs:a.d.size<=64) (h0:0<=a.no) (h1:a.no<=15):
 jR g be.2 a.i=⟨g.no,g.sec,p5 g.tb be.2 a.i false⟩/\gP ⟨a.no,a.d,[]⟩ (mw g be.2 a.i)=⟨a.no,a.d,p5 g.tb be.2 a.i true⟩:=by
 have hRT:=gh.1 (fk.1 hg).2.2.2
 have hF:RT (p5 g.tb be.2 a.i true):=hRT.filter _
 have e1:mw g be.2 a.i=p5 g.tb be.2 a.i true:=by unfold mw;rw [hg];rfl
 have e2:jR g be.2 a.i=⟨g.no,g.sec,p5 g.tb be.2 a.i false⟩:=by unfold jR;rw [hg];rfl
 refine ⟨e2,?_⟩
 have hv:cW ⟨a.no,a.d,[]⟩=true:=fk.2 ⟨h0,h1,hs,rfl⟩
 rw [e1,(YU hv (gh.2 hF)).2.1]
 show (⟨a.no,a.d,(lN _ ([],0)).1⟩:Sv)=_
 have hself:=qP hF
 have hr:=tu (p5 g.tb be.2 a.i true) [] 0 List.Pairwise.nil (by rw [hself];exact hF.len)
 rw [hr,hself]
end
theorem U4 (s:Sv) (a b:Id):(mw s a b).length<=s.tb.length:=by
 unfold mw
 cases cW s with
 |true=>exact aL2 _ _
 |false=>exact aJ3 _
theorem Wj {X:Wx} (hrt:bZ (aC X)=true) {i:Nat} (hi:i<X.S.length) {x y:V2} (hx:x.1.no=(X.S.getD i cd).1.no) (hy:∀ z∈X.S,z.1.no≠y.1.no):(X.S.set i x++[y]).Pairwise λa b=>a.1.no≠b.1.no:=by
 have hm:(X.S.set i x).map (λz:V2=>z.1.no)=X.S.map λz=>z.1.no:=by
  rw [List.map_set,hx]
  have:(X.S.map λz:V2=>z.1.no)[i]? = some (X.S.getD i cd).1.no:=by rw [aM0,aH8 hi,aJ6,aH8 hi];rfl
  refine List.ext_getElem? λj=>?_
  rw [List.getElem?_set]
  by_cases hj:i=j
  ·subst hj
   rw [if_pos rfl,this,if_pos (by rw [aL1];exact hi)]
  ·rw [if_neg hj]
 refine List.pairwise_append.2 ⟨?_,List.pairwise_singleton _ _,λp hp q hq=>?_⟩
 ·have h1:(X.S.map λz:V2=>z.1.no).Pairwise (· < ·):=List.pairwise_map.2 (CG hrt)
  rw [← hm] at h1
  exact(List.pairwise_map.1 h1).imp λh=>Int.ne_of_lt h
 ·rw [aI4.1 hq]
  have h1:p.1.no∈(X.S.set i x).map λz:V2=>z.1.no:=aL9.2 ⟨p,hp,rfl⟩
  rw [hm] at h1
  obtain ⟨z,hz,e⟩:=aL9.1 h1
  rw [← e];exact hy z hz
theorem Hd {w0 w9:World} {c:Nat} {tc ts th tn:TypeId} {vo vh vl vp v9 vn p q:Value} {X:Wx} {L:List N3} {K:List V2} {k1 k2 kk:List Nat} {B9:List Own} {a:Ac} {i:Nat} {gd:V2} {be:Mb} (hrt:bZ (aC X)=true) (hn:¬ X.L.length=0) (hd:(decide (64<a.d.size) || !jg a.i)=false) (he:lG X.L (a.no,a.i) (dI (aN X.L) a.i).1=0)
 (hi:i=fp X (dI (aN X.L) a.i).1) (hgd:gd=X.S.getD i cd) (hbe:be=rX (aN L) a.no)
 (hkp:K.Perm (X.S.set i ((jR gd.1 be.2 a.i,q):V2)++[((gP ⟨a.no,a.d,[]⟩ (mw gd.1 be.2 a.i),p):V2)])) (hks:K.Pairwise λa b=>a.1.no<b.1.no)
 (s:St w0 (.grp k1 (λw9=>nds L=nB X.L (a.no,a.i) (dI (aN X.L) a.i).1/\(wZ vo X.L w9->kr w9 vp L))::.grp kk (λw9=>RdC w9 vo vl X)::.grp k2 (λw9=>RdC w9 vo vl X->eP w9 q (jR gd.1 be.2 a.i).tb/\eP w9 p (gP ⟨a.no,a.d,[]⟩ (mw gd.1 be.2 a.i)).tb)::.blk c (.cells (gJ vp v9 vh vl X.M.last X.M.now vn) tc)::.sl v9 ts 3 K.length (a8 K)::.sl vh th 5 X.H.length (bB X.H)::.sl vn tn 74 0 []::B9) w9):
 IS w0 c tc ts th tn (iE (aC X) a) B9 (.int .i64 0) w9:=by
 have hL1:=(s.getG 0 rfl).1
 have sB:=((s.bring 2 rfl).bring 2 rfl).merge (S:=λw9=>RdC w9 vo vl X/\(eP w9 q (jR gd.1 be.2 a.i).tb/\eP w9 p (gP ⟨a.no,a.d,[]⟩ (mw gd.1 be.2 a.i)).tb)) (λw9 h1 h2=>⟨h1,h2 h1⟩)
 have sC:=(sB.bring 1 rfl).merge (S:=λw9=>RdC w9 vp vl {X with L:=L}/\(eP w9 q (jR gd.1 be.2 a.i).tb/\eP w9 p (gP ⟨a.no,a.d,[]⟩ (mw gd.1 be.2 a.i)).tb)) (λw9 h1 h2=>⟨⟨h1.2 h2.1.ov,h2.1.sw,h2.1.hw,h2.1.ml⟩,h2.2⟩)
 have s2:=sC.o5
 obtain ⟨b1,b2,b3,b4,b5,b6⟩:=T5 hrt hn hd he hL1
 have hix:=DY (a:=a) hrt hn
 have hjg:=ZY (a:=a) hrt hn
 rw [← hi] at hix hjg
 rw [← hgd] at hjg
 rw [← hbe] at b2
 have hgm:gd∈X.S:=by rw [hgd];exact cK hix
 have hgr:cW gd.1=true:=(gx.1 hrt).sright (aL9.2 ⟨gd,hgm,rfl⟩)
 have hd2:a.d.size<=64:=by
  simp only [Bool.or_eq_false_iff,decide_eq_false_iff_not] at hd;omega
 obtain ⟨g1,g2⟩:=TF (a:=a) (be:=be) hgr hd2 b5 b6
 have hkq:=hkp
 rw [g1,g2] at hkp
 have hgn:gd.1.no=(X.S.getD i cd).1.no:=by rw [hgd]
 have hKm:K.map (·.1)=ft (·.no) (ft (·.no) (X.S.map (·.1)) ⟨gd.1.no,gd.1.sec,p5 gd.1.tb be.2 a.i false⟩) ⟨a.no,a.d,p5 gd.1.tb be.2 a.i true⟩:=by
  have hsi:(X.S.map (·.1)).Pairwise λa b=>a.no<b.no:=List.pairwise_map.2 (CG hrt)
  have hil:i<(X.S.map (·.1)).length:=by rw [aL1];exact hix
  rw [mR (·.no) hil hsi (by rw [List.getElem_map,U0 hix,← hgd])]
  have hsi2:((X.S.map (·.1)).set i (⟨gd.1.no,gd.1.sec,p5 gd.1.tb be.2 a.i false⟩:Sv)).Pairwise λa b=>a.no<b.no:=by
   have:=Fb (f:=λs:Sv=>s.no) (x:=(⟨gd.1.no,gd.1.sec,p5 gd.1.tb be.2 a.i false⟩:Sv)) hsi
   rwa [mR (·.no) hil hsi (by rw [List.getElem_map,U0 hix,← hgd])] at this
  refine CP (λs:Sv=>s.no) ?_ (List.pairwise_map.2 hks) (Fb (f:=λs:Sv=>s.no) hsi2)
  refine(hkp.map _).trans ?_
  rw [aO5,List.map_set,List.map_cons,List.map_nil]
  refine(List.perm_append_comm).trans ?_
  refine List.Perm.trans ?_ (ip (λs:Sv=>s.no) _ _).symm
  rw [List.singleton_append]
  refine List.Perm.cons _ ?_
  rw [List.filter_eq_self.2 λy hy=>?_]
  have hy2:y.no∈((X.S.map (·.1)).set i (⟨gd.1.no,gd.1.sec,p5 gd.1.tb be.2 a.i false⟩:Sv)).map (·.no):=aL9.2 ⟨y,hy,rfl⟩
  rcases List.mem_or_eq_of_mem_set hy with h9|rfl
  ·obtain ⟨z,hz,rfl⟩:=aL9.1 h9
   simpa using b4 z hz
  ·simpa using b4 gd hgm
 have hjw:iE (aC X) a=iG ⟨nds L,K.map (·.1),X.H.map (·.1),X.M⟩:=by
  unfold iE
  rw [(Gi hrt hn hd).1,he,show (aC X).ov.length=X.L.length from aL1 _,aH2 (show 0<X.L.length by omega),(Gi hrt hn hd).2,hjg,b2,← hL1,hKm]
  rfl
 refine ⟨by rw [hjw];rfl,vp,v9,vh,vl,vn,⟨L,K,X.H,X.M⟩,[],_,λ_=>?_,yV s2 λw9 h=>⟨h.1.ov,λx hx=>?_,h.1.hw,h.1.ml⟩⟩
 ·rw [hjw];exact ⟨rfl,rfl⟩
 ·rcases aK9.1 (hkq.mem_iff.1 hx) with hx|hx
  ·rcases List.mem_or_eq_of_mem_set hx with hx|rfl
   ·exact h.1.sw x hx
   ·exact h.2.1
  ·rw [aI4.1 hx];exact h.2.2
theorem WN {X:Wx} {a:Ac} (hrt:bZ (aC X)=true) (hd:(decide (64<a.d.size) || !jg a.i)=false) (he:¬ lG X.L (a.no,a.i) (dI (aN X.L) a.i).1=0):iE (aC X) a=gF (lG X.L (a.no,a.i) (dI (aN X.L) a.i).1):=by
 by_cases hn:X.L.length=0
 ·exact XU (List.eq_nil_of_length_eq_zero hn) hd _ he
 ·exact Pa hrt hn hd he
theorem af8 {X:Wx} (hrt:bZ (aC X)=true) (h:¬ rJ (aN X.L)=0):X.L=[]/\X.S=[]:=by
 by_cases hn:X.L.length=0
 ·have hL:X.L=[]:=List.eq_nil_of_length_eq_zero hn
  have h1:=aH3 List.length (sR hrt)
  rw [aL1,aL1,hL] at h1
  exact ⟨hL,List.eq_nil_of_length_eq_zero h1⟩
 ·exact aO7 (AY (a:=⟨0,0,0,0,0#256,[],ByteArray.empty⟩) hrt hn).1 h
theorem aj7 {X:Wx} (h:rJ (aN X.L)=0):¬ X.L.length=0:=λh0=>by
 rw [PV X.L (List.eq_nil_of_length_eq_zero h0)] at h;cases h
end Go.Proofs.YthmlflaiidhoiaaGreatDoor
