/- Worlds: what they are, what acts make of them; a course in memory; rows sorted in place; no Go in it. -/
import Derived.Test.YtkhepdpfdhdlaaaGreatDoorHo
set_option linter.unusedVariables false
set_option linter.unusedSimpArgs false
set_option linter.unusedSectionVars false
namespace Go.Proofs.YtkhepdpfdhdlaaaGreatDoor
open Go.RowKit
structure Nt where
 k:Int
 tm:Int
 no:Int
 wa:Int
 le:Int
 tr:Tg
 d:ByteArray
 y:Int
deriving DecidableEq
def Bu:Nt:=⟨0,0,0,0,0,eA,ByteArray.empty,0⟩
def Rv (k tm no wa le:Int) (t:Tg) (d:ByteArray) (y:Int):List Value:=.int .i64 k::.int .i64 tm::.int .i64 no::.int .i64 wa::.int .i64 le::(qA t++[.string d,.int .i64 y])
def xR (k tm no wa le:Int) (t:Tg) (d:ByteArray) (y:Int):Array Value:=(Rv k tm no wa le t d y).toArray
section
variable (k tm no wa le:Int) (t:Tg) (d e:ByteArray) (y:Int)
theorem EP:(Rv k tm no wa le t d y).length=74:=by simp [Rv,qp]
theorem r7:(xR k tm no wa le t d y).size=74:=by simp [xR,EP]
theorem IN:∀ v∈Rv k tm no wa le t d y,v.oneCell'=true:=λv hv=>by
 unfold Rv at hv
 simp only [at1,av4,at4,or_false] at hv
 rcases hv with rfl|rfl|rfl|rfl|rfl|hv|rfl|rfl
 ·rfl
 ·rfl
 ·rfl
 ·rfl
 ·rfl
 ·exact ow t v hv
 ·rfl
 ·rfl
end
def VI (x:Nt):List Value:=Rv x.k x.tm x.no x.wa x.le x.tr x.d x.y
theorem Qc (x:Nt):(VI x).length=74:=EP ..
def aW (l:List Nt):List Value:=l.flatMap VI
theorem pU (l r:List Nt):aW (l++r)=aW l++aW r:=aw7
theorem xT (l:List Nt):∀ u∈aW l,u.oneCell'=true:=λu hu=>by
 obtain ⟨x,_,hx⟩:=List.mem_flatMap.1 hu
 exact IN _ _ _ _ _ _ _ _ u hx
theorem ntD {l:List Nt} {j:Nat} (hj:j<l.length):l[j]=l.getD j Bu:=by
 rw [au1,as3 hj];rfl
theorem Yl (l:List Nt) (j:Nat) (hj:j<l.length):(((aW l).drop (j*74)).take 74).toArray=xR (l.getD j Bu).k (l.getD j Bu).tm (l.getD j Bu).no (l.getD j Bu).wa (l.getD j Bu).le (l.getD j Bu).tr (l.getD j Bu).d (l.getD j Bu).y:=by
 unfold aW
 rw [fk _ 74 Qc l j hj,ntD hj];rfl
theorem MW {l:List Nt} {j:Nat} (hj:j<l.length) (o:Nat) (ho:o<74):(aW l)[j*74+o]? = (VI (l.getD j Bu))[o]? := by
 have h:=Yl l j hj
 have:(((aW l).drop (j*74)).take 74)=VI (l.getD j Bu):=ar8 Array.toList h
 rw [← this,ay2 ho,ay3]
theorem X8 {l:List Nt} {j:Nat} (hj:j<l.length):(aW l)[j*74+0]? = some (.int .i64 (l.getD j Bu).k):=(MW hj 0 (by decide)).trans rfl
theorem Vb (x:Nt):([Value.agg (xR x.k x.tm x.no x.wa x.le x.tr x.d x.y)].flatMap λv=>v.cells.toList)=VI x:=by simp [Value.cells,xR,VI]
theorem T3 (l:List Nt) (x:Nt):aW l++([Value.agg (xR x.k x.tm x.no x.wa x.le x.tr x.d x.y)].flatMap λv=>v.cells.toList)=aW (l++[x]):=by rw [Vb,pU];simp [aW]
theorem Jr:qA eA=PK.flatten:=by
 have:=ar8 Array.toList wN
 exact this
def ntZ:List (List Value):=[[.int .i64 0],[.int .i64 0],[.int .i64 0],[.int .i64 0],[.int .i64 0],PK.flatten,[.string ByteArray.empty],[.int .i64 0]]
section
variable {P:Program} {ρ:Operand->Value} {d:Option Tmp} {ty:TypeId} {pos:String} {af:Array Edge} {g:Option (Nat × Bool)} {x y z u v:Operand} {t:TypeId}
theorem rP {a b c:Int} {s:ByteArray} (S:Stt P t ntZ) (hx:ρ x=.int .i64 a) (hy:ρ y=.int .i64 b) (hz:ρ z=.int .i64 c) (hu:ρ u=.string s):a7 P ⟨d,.build t #[(0,x),(2,y),(4,z),(6,u)],ty,pos,af,g⟩ ρ (.agg (xR a 0 b 0 c eA s 0)):=by
 have:=bk (P:=P) (ρ:=ρ) (d:=d) (ty:=ty) (pos:=pos) (af:=af) (g:=g) (parts:=#[(0,x),(2,y),(4,z),(6,u)]) S [(0,.int .i64 a),(2,.int .i64 b),(4,.int .i64 c),(6,.string s)] (by simp [hx,hy,hz,hu]) (λj q hm=>by
  simp only [at1,ax3,at4,or_false] at hm
  rcases hm with ⟨rfl,rfl⟩|⟨rfl,rfl⟩|⟨rfl,rfl⟩|⟨rfl,rfl⟩<;>exact ⟨_,rfl,rfl⟩) (D:=Rv a 0 b 0 c eA s 0) (by
   show [Value.int .i64 a]++([Value.int .i64 0]++([Value.int .i64 b]++([Value.int .i64 0]++([Value.int .i64 c]++(PK.flatten++([Value.string s]++([Value.int .i64 0]++[])))))))=_
   rw [← Jr];rfl)
 exact this
end
structure Ac where
 k:Int
 no:Int
 tO:Int
 n:Int
 i:Id
 l:List dN
 d:ByteArray
def R3 (a:Ac) (v:Value):List Value:=.int .i64 a.k::.int .i64 a.no::.int .i64 a.tO::.int .i64 a.n::((aI a.i).toList++[v,.string a.d])
def bM (a:Ac) (v:Value):Array Value:=(R3 a v).toArray
theorem O1 (a:Ac) (v:Value):(R3 a v).length=38:=by simp only [R3,av0,as2,kz,av1]
theorem Ce (a:Ac) (v:Value):(bM a v).size=38:=by simp only [bM,List.size_toArray,O1]
section
variable (a:Ac) (v:Value)
theorem ZR:(bM a v)[0]? = some (.int .i64 a.k):=rfl
theorem FW:(bM a v)[1]? = some (.int .i64 a.no):=rfl
theorem af5:(bM a v)[2]? = some (.int .i64 a.tO):=rfl
theorem Pd:(bM a v)[3]? = some (.int .i64 a.n):=rfl
theorem Dg (j:Nat):(bM a v)[36+j]? = ([v,.string a.d]:List Value)[j]? := by
 unfold bM
 rw [au3,show 36+j=32+j+4 by omega]
 show ((aI a.i).toList++[v,.string a.d])[32+j]? = _
 rw [av2 (by rw [kz];omega),kz,Nat.add_sub_cancel_left]
theorem ai0:(bM a v)[36]? = some v:=Dg a v 0
theorem M1:(bM a v)[37]? = some (.string a.d):=Dg a v 1
theorem P2:(bM a v).extract 4 (4+32)=aI a.i:=oH (by
 show ((aI a.i).toList++[v,.string a.d]).take 32=_
 rw [List.take_append_of_le_length (by rw [kz];omega),au4 (by rw [kz];omega)])
end
def Yy:List (List Value):=[[.int .i64 0],[.int .i64 0],[.int .i64 0],[.int .i64 0],List.replicate 32 (.int .u8 0),[.slice none 0 0],[.string ByteArray.empty]]
theorem zA {P:Program} {ρ:Operand->Value} {d:Option Tmp} {ty:TypeId} {pos:String} {af:Array Edge} {g:Option (Nat × Bool)} {x y z u:Operand} {t:TypeId} {a b:Int} {v:Value} {s:ByteArray} (l:List dN) (S:Stt P t Yy) (hv:v.cells.size=1) (hc:v.cells.toList=[v]) (hx:ρ x=.int .i64 a) (hy:ρ y=.int .i64 b) (hz:ρ z=v) (hu:ρ u=.string s):a7 P ⟨d,.build t #[(0,x),(1,y),(5,z),(6,u)],ty,pos,af,g⟩ ρ (.agg (bM ⟨a,b,0,0,0#256,l,s⟩ v)):=by
 have:=bk (P:=P) (ρ:=ρ) (d:=d) (ty:=ty) (pos:=pos) (af:=af) (g:=g) (parts:=#[(0,x),(1,y),(5,z),(6,u)]) S [(0,.int .i64 a),(1,.int .i64 b),(5,v),(6,.string s)] (by simp [hx,hy,hz,hu]) (λj q hm=>by
  simp only [at1,ax3,at4,or_false] at hm
  rcases hm with ⟨rfl,rfl⟩|⟨rfl,rfl⟩|⟨rfl,rfl⟩|⟨rfl,rfl⟩
  ·exact ⟨_,rfl,rfl⟩
  ·exact ⟨_,rfl,rfl⟩
  ·exact ⟨_,rfl,hv⟩
  ·exact ⟨_,rfl,rfl⟩) (D:=R3 ⟨a,b,0,0,0#256,l,s⟩ v) (by
   show [Value.int .i64 a]++([Value.int .i64 b]++([Value.int .i64 0]++([Value.int .i64 0]++(List.replicate 32 (Value.int .u8 0)++(v.cells.toList++([Value.string s]++[]))))))=_
   rw [hc,show List.replicate 32 (Value.int .u8 0)=(aI 0#256).toList from by rw [ei];rfl];rfl)
 exact this
end Go.Proofs.YtkhepdpfdhdlaaaGreatDoor
namespace Go.Proofs.YtkhepdpfdhdlaaaGreatDoor
open Go.RowKit Go.ChangeShapes Go.WideShapes Go.ChangeAt
theorem HH {H α:Type} {enc:TypeId × Value->H} {P:Program} {W:World} {ts t:TypeId} {fuel:Nat} {cs:List Value} {x:DataW H × List MemPlace} (C:α->Array Value) (sz:Nat) (h0:0<sz) (hC:∀ a,(C a).size=sz) (z:α) (Q:α->Prop)
 (hts:P.underlying ts=some (.slice t)) (hct:P.cellsOf t=sz) (op:∀ (fuel:Nat) (cs:List Value) (x:DataW H × List MemPlace),DataW.trod enc P W 0 (λ_=>true) true fuel t cs=some x->∃ l:α,cs=(C l).toList/\Q l)
 (hf:DataW.trod enc P W 0 (λ_=>true) true fuel ts cs=some x):∃ (v:Value) (ls:List α),cs=[v]/\br W v sz ls.length (ls.flatMap λa=>(C a).toList)/\∀ x∈ls,Q x:=by
 rcases Go.Deep.open_slice hts hf with ⟨hcs,_⟩|⟨a',len,cap,m,k,D,Pl,hcs,_,hl,_,hm,_,hel⟩
 ·exact ⟨_,[],hcs,⟨by simp,.inl ⟨rfl,rfl⟩⟩,λx h=>by cases h⟩
 ·have hml:len<=m:=by rw [hm];split<;>omega
  have each:∀ i,∃ l:α,i<len->aF W (a'.add (i*sz)) (C l)/\Q l:=λi=>by
   by_cases hi:i<len
   ·obtain ⟨cs',hc1,hc2⟩:=hel i (by omega)
    obtain ⟨l,rfl,hq⟩:=op _ _ _ hc2
    refine ⟨l,λ_=>⟨λj u hj=>?_,hq⟩⟩
    rw [hct] at hc1
    obtain ⟨_,hlen,hall⟩:=World.cells?_some hc1
    have hj34:j<sz:=by have:=(ay6.1 hj).1;rw [hC] at this;exact this
    have:=hall j hj34
    rw [this,ay4];exact hj
   ·exact ⟨z,λh9=>az2 h9 hi⟩
  obtain ⟨L,hL⟩:=Classical.axiomOfChoice each
  refine ⟨_,(List.range len).map L,hcs,⟨?_,.inr ⟨a',cap,by simp,by simpa using hl,?_⟩⟩,λx hx=>?_⟩
  ·exact fq _ sz (λa=>by rw [as7,hC]) _
  ·refine n7 _ sz h0 (λx=>by rw [as7,hC]) _ λi hi=>?_
   have hi':i<len:=by simpa using hi
   have:=(hL i hi').1
   simpa using this
  ·obtain ⟨j,hj,rfl⟩:=aw4.1 hx
   exact(hL j (at2.1 hj)).2
structure Wd where
 ov:List Nd
 sv:List Sv
 ho:List Ho
 ml:Ml
def I3:Wd:=⟨[],[],[],kG⟩
abbrev V2:=Sv × Value
abbrev H4:=Ho × Value × Value × Value
def d4:V2:=(HC,au)
def bp:H4:=(oT,au,au,au)
structure Wx where
 L:List N3
 S:List V2
 H:List H4
 M:Ml
def Zo:Wx:=⟨[],[],[],kG⟩
def Xg (vo vs vh vl:Value) (la nw:Int):List Value:=[vo,vs,vh,vl,.int .i64 la,.int .i64 nw]
def dV (vo vs vh vl:Value) (la nw:Int):Array Value:=(Xg vo vs vh vl la nw).toArray
theorem bX (vo vs vh vl:Value) (la nw:Int):(dV vo vs vh vl la nw).size=6:=rfl
theorem iL {vo vs vh vl:Value} (la nw:Int) (h1:vo.oneCell'=true) (h2:vs.oneCell'=true) (h3:vh.oneCell'=true) (h4:vl.oneCell'=true):∀ u∈(dV vo vs vh vl la nw).toList,u.oneCell'=true:=λu hu=>by
 have hu:u∈Xg vo vs vh vl la nw:=hu
 unfold Xg at hu
 simp only [at1,at4,or_false] at hu
 rcases hu with rfl|rfl|rfl|rfl|rfl|rfl<;>first|assumption|rfl
section
variable (vo vs vh vl:Value) (la nw:Int)
theorem LB:(dV vo vs vh vl la nw).extract 0 (0+1)=#[vo]:=rfl
theorem zW:(dV vo vs vh vl la nw)[0]? = some vo:=rfl
theorem jv:(dV vo vs vh vl la nw)[1]? = some vs:=rfl
theorem lj:(dV vo vs vh vl la nw)[2]? = some vh:=rfl
theorem We:(dV vo vs vh vl la nw).extract 3 (3+3)=#[vl,.int .i64 la,.int .i64 nw]:=rfl
theorem qk:(dV vo vs vh vl la nw)[3]? = some vl:=rfl
theorem YN:(dV vo vs vh vl la nw)[4]? = some (.int .i64 la):=rfl
theorem Tw:(dV vo vs vh vl la nw)[5]? = some (.int .i64 nw):=rfl
end
def wdZ:List (List Value):=[[.slice none 0 0],[.slice none 0 0],[.slice none 0 0],[.slice none 0 0,.int .i64 0,.int .i64 0]]
def tq (x:V2):List Value:=VE x.1.no x.1.sec x.2
theorem n4 (x:V2):(tq x).length=3:=rfl
def aR (l:List V2):List Value:=l.flatMap tq
theorem YV {l:List V2} {j:Nat} (hj:j<l.length):l[j]=l.getD j d4:=by rw [au1,as3 hj];rfl
theorem uA (l:List V2) (j:Nat) (hj:j<l.length):(((aR l).drop (j*3)).take 3).toArray=de (l.getD j d4).1.no (l.getD j d4).1.sec (l.getD j d4).2:=by
 unfold aR
 rw [fk _ 3 n4 l j hj,YV hj];rfl
theorem fY {l:List V2} {j:Nat} (hj:j<l.length):l.getD j d4∈l:=by rw [← YV hj];exact ax6 hj
def oA (x:H4):List Value:=Mo x.1.no x.1.gt x.2.1 x.2.2.1 x.2.2.2
theorem g8 (x:H4):(oA x).length=5:=rfl
def aM (l:List H4):List Value:=l.flatMap oA
theorem VB {l:List H4} {j:Nat} (hj:j<l.length):l[j]=l.getD j bp:=by rw [au1,as3 hj];rfl
theorem ny (l:List H4) (j:Nat) (hj:j<l.length):(((aM l).drop (j*5)).take 5).toArray=bE (l.getD j bp).1.no (l.getD j bp).1.gt (l.getD j bp).2.1 (l.getD j bp).2.2.1 (l.getD j bp).2.2.2:=by
 unfold aM
 rw [fk _ 5 g8 l j hj,VB hj];rfl
theorem dK {l:List H4} {j:Nat} (hj:j<l.length):l.getD j bp∈l:=by rw [← VB hj];exact ax6 hj
structure RdW (w:World) (vo vs vh vl:Value) (X:Wx):Prop where
 ov:kB w vo X.L
 sv:br w vs 3 X.S.length (aR X.S)
 sw:∀ x∈X.S,Mk w x.2 x.1.tb
 ho:br w vh 5 X.H.length (aM X.H)
 hw:∀ x∈X.H,ma w x.2.1 x.2.2.1 x.2.2.2 x.1
 ml:br w vl 4 X.M.l.length (bw X.M.l)
theorem RdW.keep {w w':World} {vo vs vh vl:Value} {X:Wx} (h:RdW w vo vs vh vl X) (e:Ext w w'):RdW w' vo vs vh vl X:=
 ⟨⟨h.ov.1.keep e,λx hx=>⟨(h.ov.2 x hx).1.keep e,(h.ov.2 x hx).2.keep e⟩⟩,h.sv.keep e,λx hx=>(h.sw x hx).keep e,h.ho.keep e,λx hx=>⟨(h.hw x hx).1.keep e,(h.hw x hx).2.1.keep e,(h.hw x hx).2.2.keep e⟩,h.ml.keep e⟩
def aH (X:Wx):Wd:=⟨nds X.L,X.S.map (·.1),X.H.map (·.1),X.M⟩
theorem dR (w:World):RdW w au au au au Zo:=
 ⟨⟨⟨rfl,.inl ⟨rfl,rfl⟩⟩,λ_ h=>(by cases h)⟩,⟨rfl,.inl ⟨rfl,rfl⟩⟩,λ_ h=>(by cases h),⟨rfl,.inl ⟨rfl,rfl⟩⟩,λ_ h=>(by cases h),⟨rfl,.inl ⟨rfl,rfl⟩⟩⟩
def kC (i:Id):Bool:=(List.range 16).all λk=>decide (bQ i (k+16)=255)
def uT (W:Wd) (k:Nat):Bool:=fI (W.sv.getD k HC) && (decide ((W.sv.getD k HC).no=(W.ov.getD k zN).me.1) && kC (W.ov.getD k zN).me.2)
def wY (l:List Ho) (k:Nat):Bool:=cS (l.getD k oT) && !(decide (0<k) && decide ((l.getD k oT).no<=(l.getD (k - 1) oT).no))
def cg (W:Wd):Bool:=kH (kI W.ov) && (cn W.ml && (decide (W.sv.length=W.ov.length) && ((List.range W.sv.length).all (uT W) && (List.range W.ho.length).all (wY W.ho))))
structure Wr where
 w:Wd
 n:List Nt
 e:Int
def gu (e:Int):Wr:=⟨I3,[],e⟩
def jf (W:Wd):Wr:=⟨W,[],0⟩
def DS {α:Type} (f:α->Int) (z:α) (l:List α) (n:Int):α:=(l.find? λx=>decide (f x=n)).getD z
def kJ {α:Type} (f:α->Int) (l:List α) (x:α):List α:=(l.filter λy=>decide (f y<f x))++x::l.filter λy=>decide (f x<f y)
def V1 {α:Type} (f:α->Int) (l:List α) (n:Int):List α:=l.filter λy => !decide (f y=n)
def noS:Sv:=⟨-1,ByteArray.empty,[]⟩
def ZD:Ho:=⟨-1,0,[],[],[]⟩
def Kc (W:Wd) (n:Int):Sv:=DS (·.no) noS W.sv n
def fD (W:Wd) (n:Int):Ho:=DS (·.no) ZD W.ho n
def pB (W:Wd) (s:Sv):Wd:={W with sv:=kJ (·.no) W.sv s}
def nC (W:Wd) (h:Ho):Wd:={W with ho:=kJ (·.no) W.ho h}
structure Pt where
 w:Wd
 n:List Nt
 no:Int
def mr (t:Pt) (x:Nt):Pt:=⟨t.w,t.n++[{x with tm:=t.w.ml.now}],t.no⟩
def tQ (no wa y:Int):Nt:=⟨5,0,no,wa,0,eA,ByteArray.empty,y⟩
def XQ (m:Mg):dN:=m.l.getD 0 (0,0#256,0)
def abG (m:Mg):Bool:=KQ m || (decide (m.k=1) && decide ((XQ m).1=1))
def VA (m:Mg):Id:=bif decide (m.k=1) then (XQ m).2.1 else m.i
def MT (W:Wd) (fr:Int) (s:Se):Int:=bif decide (s.1<0) then wkE (kI W.ov) (VA s.2.1) fr 16 else 0
def Lf (W:Wd) (fr:Int) (s:Se):Int:=bif decide (s.1<0) then (wkM (kI W.ov) (VA s.2.1) fr 16).1 else s.1
def m3 (W:Wd) (fr:Int) (s:Se):Int:=bif decide (MT W fr s=0) then db W.ml fr (Lf W fr s) (cL s.2.1) else MT W fr s
def bA (t:Pt) (fr:Int) (s:Se):Pt:=
 bif decide (m3 t.w fr s=0) then ⟨{t.w with ml:=hQ t.w.ml fr (Lf t.w fr s) (cL s.2.1)},t.n,lz t.w.ml fr (Lf t.w fr s) (cL s.2.1)⟩
 else mr ⟨t.w,t.n,0⟩ (tQ fr 0 (m3 t.w fr s))
def DD (t:Pt) (fr:Int) (l:List Se):Pt:=l.foldl (λt s=>bA t fr s) t
def onN (no wa le:Int) (tr:Tg):Nt:=⟨3,0,no,wa,le,tr,ByteArray.empty,0⟩
def goP (t:Pt) (fr no wa:Int) (s:Se):Pt:=bif decide (0<(bA t fr s).no) && decide (s.2.1.k=1) then mr (bA t fr s) (onN no wa (bA t fr s).no s.2.2) else bA t fr s
def ae1 (t:Pt) (fr no wa:Int) (l:List Se):Pt:=l.foldl (λt s=>goP t fr no wa s) t
def oh (t:Pt):Wr:=⟨t.w,t.n,0⟩
def rg (W:Wd) (x:Lt) (y:Int):Wr:=oh (mr ⟨W,[],0⟩ (tQ x.2.2.1 x.1 y))
def Wm (no:Int) (tr:Tg):Nt:=⟨2,0,no,0,0,tr,ByteArray.empty,0⟩
def Wv (no wa:Int) (d:ByteArray):Nt:=⟨4,0,no,wa,0,eA,d,0⟩
noncomputable def TB (W:Wd) (s:Sv) (x:Lt) (m:Mg):Wr:=
 bif !decide ((CR s x.2.1 m W.ml.now).e=0) then rg W x (CR s x.2.1 m W.ml.now).e else
 oh (ae1 (bif decide (0<(CR s x.2.1 m W.ml.now).l.length) && decide (((CR s x.2.1 m W.ml.now).l.getD 0 Vy).2.1.k=5) then mr ⟨pB W (CR s x.2.1 m W.ml.now).s,[],0⟩ (Wm s.no (S4 m W.ml.now)) else ⟨pB W (CR s x.2.1 m W.ml.now).s,[],0⟩) s.no s.no x.1 (CR s x.2.1 m W.ml.now).l)
noncomputable def Yt (W:Wd) (s:Sv) (x:Lt) (m:Mg):Wr:=
 bif abG m then (bif !decide (wkE (kI W.ov) (VA m) s.no 16=0) then rg W x (wkE (kI W.ov) (VA m) s.no 16) else
  bif !decide ((wkM (kI W.ov) (VA m) s.no 16).1=s.no) then oh (goP ⟨W,[],0⟩ x.2.1 s.no x.1 ((wkM (kI W.ov) (VA m) s.no 16).1,m,eA)) else TB W s x m) else TB W s x m
def MZ (W:Wd) (h:Ho) (x:Lt) (m:Mg):Wr:=
 bif !decide ((jx h x.2.1 m W.ml.now).e=0) then rg W x (jx h x.2.1 m W.ml.now).e else
 oh (DD (bif decide (m.k=1) then mr ⟨nC W (jx h x.2.1 m W.ml.now).h,[],0⟩ (Wv h.no x.1 m.d) else ⟨nC W (jx h x.2.1 m W.ml.now).h,[],0⟩) x.2.2.1 (jx h x.2.1 m W.ml.now).l)
noncomputable def X6 (W:Wd) (x:Lt):Wr:=
 bif !decide (ah0 x.2.2.2=0) then rg W x 4 else
 bif decide (0<=(Kc W x.2.2.1).no) then Yt W (Kc W x.2.2.1) x (Y7 x.2.2.2) else
 bif decide (16<=x.2.2.1) && decide (0<=(fD W (x.2.2.1 - 16)).no) then MZ W (fD W (x.2.2.1 - 16)) x (Y7 x.2.2.2) else rg W x 10
def Ub (W:Wd) (a:Ac):Mb:=Mt (ia W.ov) a.i
def Bh (W:Wd) (a:Ac):Int:=bif decide (64<a.d.size) || !kC a.i then 1 else p8 (kI W.ov) (a.no,a.i) (Ub W a).1
def FK (W:Wd) (a:Ac):List Nd:=um (kI W.ov) (a.no,a.i) (Ub W a).1
def WZ (W:Wd) (a:Ac):Id:=(ag8 (ia (FK W a)) (a.no,a.i)).2
def Pp (W:Wd) (a:Ac):Sv:=Kc W (Ub W a).1
def oI (W:Wd) (a:Ac):Wr:=
 bif !decide (Bh W a=0) then gu (Bh W a) else
 bif decide (0<W.ov.length) then jf {pB (pB W ⟨(Pp W a).no,(Pp W a).sec,onF (Pp W a).tb (WZ W a) a.i false⟩) ⟨a.no,a.d,onF (Pp W a).tb (WZ W a) a.i true⟩ with ov:=FK W a}
 else jf {pB W ⟨a.no,a.d,[]⟩ with ov:=FK W a}
def Uz (W:Wd) (n:Int):List Sv:=V1 (·.no) W.sv n
def XU (W:Wd) (n:Int):Wr:=
 bif !decide (cE (kI W.ov) n=0) then gu (cE (kI W.ov) n) else
 bif decide (1<W.ov.length) then jf {pB {W with sv:=Uz W n} (haS (Kc W (aa6 (ia W.ov) (vH W.ov n).me).1) (Kc W n).tb) with ov:=Iu W.ov n}
 else jf {W with sv:=Uz W n,ov:=Iu W.ov n}
def Ys (W:Wd) (n:Int):Wr:=bif !decide (cE (kI W.ov) n=0) then gu (cE (kI W.ov) n) else jf {W with sv:=Uz W n,ov:=Bc W.ov n}
def Ga (W:Wd):Wr:=jf {W with ov:=ra W.ov}
def sS (W:Wd) (n:Int):Wr:=bif decide (fG W.ml n=0) then jf {W with ml:=dP W.ml n} else gu (fG W.ml n)
def qK (W:Wd) (n g:Int):Wr:=bif !decide (oL n g=0) then gu (oL n g) else bif decide (0<=(fD W n).no) then gu 7 else jf (nC W (gS n g))
def Xq (W:Wd) (a:Ac):Wr:=bif decide ((fD W a.no).no<0) then gu 6 else bif decide (Sw (fD W a.no) a.i a.n=0) then jf (nC W (af2 (fD W a.no) a.i a.n)) else gu (Sw (fD W a.no) a.i a.n)
def W6 (W:Wd) (a:Ac):Wr:=bif decide ((fD W a.no).no<0) then gu 6 else bif decide (Sa (fD W a.no) a.i=0) then jf (nC W (aa5 (fD W a.no) a.i)) else gu (Sa (fD W a.no) a.i)
def Xa (W:Wd) (n:Int):Wr:=bif decide ((fD W n).no<0) then gu 6 else oh (DD ⟨W,[],0⟩ (16+n) (XA (fD W n) W.ml.now))
def oR (no le:Int) (d:ByteArray):Nt:=⟨1,0,no,0,le,eA,d,0⟩
def kD (W:Wd) (a:Ac):Pt:=bA ⟨W,[],0⟩ (16+a.no) (uk (fD W a.no) a.l a.d W.ml.now)
def nH (W:Wd) (a:Ac):Wr:=bif decide ((fD W a.no).no<0) then gu 6 else bif !decide (lQ (fD W a.no) a.l a.d W.ml.now=0) then gu (lQ (fD W a.no) a.l a.d W.ml.now) else
 bif decide (0<(kD W a).no) then oh (mr (kD W a) (oR a.no (kD W a).no a.d)) else oh (kD W a)
def ae4 (a:Ac):Mg:=⟨2,a.i,a.l.getD 0 (0,0#256,0),[],a.n,ByteArray.empty,ByteArray.empty⟩
def Yr (W:Wd) (a:Ac):Wr:=bif decide ((fD W a.no).no<0) then gu 6 else
 bif decide (a.l.length=1) && (decide ((a.l.getD 0 (0,0#256,0)).1=1) && (dH a.l && gv a.n 1 1048576)) then oh (bA ⟨W,[],0⟩ (16+a.no) ((fD W a.no).gt,ae4 a,eA)) else gu 1
def xp (W:Wd) (n:Int):Wr:=bif decide (tj W.ml n=0) then jf {W with ml:=l8 W.ml n} else gu (tj W.ml n)
def wj (W:Wd) (n:Int):Wr:=bif decide (fO W.ml n=0) then jf {W with ml:=dB W.ml n} else gu (fO W.ml n)
def vP (W:Wd) (n:Int):Wr:=bif decide (fO W.ml n=0) then jf {W with ml:=d7 W.ml n} else gu (fO W.ml n)
noncomputable def Zc (W:Wd) (n:Int):Wr:=bif decide (fO W.ml n=0) then X6 {W with ml:=dB W.ml n} (qt W.ml n) else gu (fO W.ml n)
noncomputable def Bo (W:Wd) (a:Ac):Nat->Wr
 |1=>oI W a|2=>XU W a.no|3=>Ys W a.no|4=>Ga W|5=>sS W a.n|6=>qK W a.no a.tO|7=>Xq W a|8=>W6 W a|9=>Xa W a.no|10=>nH W a
 |11=>Zc W a.n|12=>xp W a.n|13=>wj W a.n|14=>vP W a.n|15=>Yr W a|_=>gu 1
noncomputable def dD (W:Wd) (a:Ac):Wr:=bif cg W && (decide (1<=a.k) && decide (a.k<=15)) then Bo W a a.k.toNat else gu 1
def GT (w:World) (vo vs vh vl:Value) (X:Wx) (va:Value) (l:List dN) (R:Wr):dz:=λv w'=>∃ uo us uh ul un Y ks,v=.tuple #[.agg (dV uo us uh ul Y.M.last Y.M.now),un,.int .i64 R.e]/\aH Y=R.w/\
 St w [.grp ks λw9=>RdW w9 vo vs vh vl X->gf w9 va l->RdW w9 uo us uh ul Y/\br w9 un 74 R.n.length (aW R.n)] w'
theorem qX {H α:Type} {enc:TypeId × Value->H} {P:Program} {W:World} {ts t:TypeId} {fuel:Nat} {cs:List Value} {x:DataW H × List MemPlace} (C:α->Array Value) (sz:Nat) (h0:0<sz) (hC:∀ a,(C a).size=sz) (z:α) (Q:α->Prop)
 (hts:P.underlying ts=some (.slice t)) (hct:P.cellsOf t=sz) (op:∀ (fuel:Nat) (cs:List Value) (x:DataW H × List MemPlace),DataW.trod enc P W 0 (λ_=>true) true fuel t cs=some x->∃ l:α,cs=(C l).toList/\Q l)
 (hf:DataW.trod enc P W 0 (λ_=>true) true fuel ts cs=some x):∃ (v:Value) (ls:List α),cs=[v]/\br W v sz ls.length (ls.flatMap λa=>(C a).toList)/\(∀ x∈ls,Q x)/\ls.length<=maxLen:=by
 obtain ⟨v,ls,h1,h2,h3⟩:=HH C sz h0 hC z Q hts hct op hf
 refine ⟨v,ls,h1,h2,h3,?_⟩
 rcases Go.Deep.open_slice hts hf with ⟨hcs,_⟩|⟨a',len,cap,m,k,D,Pl,hcs,_,hl,hcap,_⟩
 ·rcases h2.2 with ⟨_,h9⟩|⟨p,c,h9,_⟩
  ·rw [h9];exact at8 _
  ·rw [h1] at hcs
   rw [h9] at hcs
   simp at hcs
 ·rw [h1] at hcs
  obtain rfl:=(List.cons.inj hcs).1
  rcases h2.2 with ⟨h9,_⟩|⟨p,c,h9,_⟩
  ·cases h9
  ·have e:=(Value.slice.inj h9).2.1
   omega
theorem AZ {cs:List Value} {a b c d e:Value} (hl:cs.length=5) (h0:(cs.drop 0).take 1=[a]) (h1:(cs.drop 1).take 1=[b]) (h2:(cs.drop 2).take 1=[c]) (h3:(cs.drop 3).take 1=[d]) (h4:(cs.drop 4).take 1=[e]):cs=[a,b,c,d,e]:=by
 match cs,hl with
 |[x,y,z,u,v],_=>simp at h0 h1 h2 h3 h4;subst h0;subst h1;subst h2;subst h3;subst h4;rfl
theorem MI {cs:List Value} {a b c d e f:Value} (hl:cs.length=6) (h0:(cs.drop 0).take 1=[a]) (h1:(cs.drop 1).take 1=[b]) (h2:(cs.drop 2).take 1=[c]) (h3:(cs.drop 3).take 3=[d,e,f]):cs=[a,b,c,d,e,f]:=by
 match cs,hl with
 |[x,y,z,u,v,w],_=>simp at h0 h1 h2 h3;obtain ⟨rfl,rfl,rfl⟩:=h3;subst h0;subst h1;subst h2;rfl
theorem LU {H:Type} {enc:TypeId × Value->H} {P:Program} {W:World} {ti e tn tz tb tsb td tsd to:TypeId} {b0 b1 d0 d1 d2 d3 q0:Field} {fuel:Nat} {cs:List Value} {x:DataW H × List MemPlace} (T:IdTy P ti e) (hc:P.cellsOf ti=32) (hce:P.cellsOf e=1) (hn:P.underlying tn=some (.int .i64)) (hcn:P.cellsOf tn=1) (hz:P.underlying tz=some .string) (hcz:P.cellsOf tz=1) (hb:P.underlying tb=some (.struct #[b0,b1])) (hb0:b0.type=tn) (hb1:b1.type=ti) (ob0:b0.offset=0) (ob1:b1.offset=1) (hcb:P.cellsOf tb=33) (htsb:P.underlying tsb=some (.slice tb)) (hcsb:P.cellsOf tsb=1) (hd:P.underlying td=some (.struct #[d0,d1,d2,d3])) (hd0:d0.type=tb) (sQ:d1.type=tb) (hd2:d2.type=tsb) (hd3:d3.type=tsb) (od0:d0.offset=0) (od1:d1.offset=33) (od2:d2.offset=66) (od3:d3.offset=67) (hcd:P.cellsOf td=68) (htsd:P.underlying tsd=some (.slice td)) (hcsd:P.cellsOf tsd=1) (hto:P.underlying to=some (.struct #[q0])) (mW:q0.type=tsd) (oq0:q0.offset=0) (hcto:P.cellsOf to=1) (hf:DataW.trod enc P W 0 (λ_=>true) true fuel to cs=some x):∃ (v:Value) (L:List N3),cs=[v]/\kB W v L/\L.length<=maxLen:=by
 obtain ⟨xs,n,hcells,_,hl,hxl,hel⟩:=DataW.trod_struct hto hf
 have hcl:cs.length=1:=by rw [← hcto];simpa using hl
 have hx1:xs.length=1:=by simpa using hxl
 have e0:=hel 0 q0 rfl
 rw [mW,oq0,hcsd,as3 (by omega)] at e0
 obtain ⟨u,L,hu,hL,hL2,hL3⟩:=qX (λy:N3=>aP y.1.me y.1.pr y.2.1 y.2.2) 68 (by decide) (λy=>aq ..) z3 (λy=>CU W y) htsd hcd (λ_ _ _ h=>KF T hc hce hn hcn hcsb htsb hb hb0 hb1 ob0 ob1 hcb hd hd0 sQ hd2 hd3 od0 od1 od2 od3 hcd h) e0
 refine ⟨u,L,?_,⟨hL,hL2⟩,hL3⟩
 rw [List.drop_zero,au4 (by omega)] at hu
 exact hu
theorem JM {H:Type} {enc:TypeId × Value->H} {P:Program} {W:World} {ti e tn tz tl tsl ty:TypeId} {l0 l1 l2 l3 y0 y1 y2:Field} {fuel:Nat} {cs:List Value} {x:DataW H × List MemPlace} (T:IdTy P ti e) (hc:P.cellsOf ti=32) (hce:P.cellsOf e=1) (hn:P.underlying tn=some (.int .i64)) (hcn:P.cellsOf tn=1) (hz:P.underlying tz=some .string) (hcz:P.cellsOf tz=1) (hl:P.underlying tl=some (.struct #[l0,l1,l2,l3])) (hl0:l0.type=tn) (hl1:l1.type=tn) (hl2:l2.type=tn) (hl3:l3.type=tz) (ol0:l0.offset=0) (ol1:l1.offset=1) (ol2:l2.offset=2) (ol3:l3.offset=3) (hcl:P.cellsOf tl=4) (htsl:P.underlying tsl=some (.slice tl)) (hcsl:P.cellsOf tsl=1) (hy:P.underlying ty=some (.struct #[y0,y1,y2])) (hy0:y0.type=tsl) (hy1:y1.type=tn) (hy2:y2.type=tn) (oy0:y0.offset=0) (oy1:y1.offset=1) (oy2:y2.offset=2) (hcy:P.cellsOf ty=3) (hf:DataW.trod enc P W 0 (λ_=>true) true fuel ty cs=some x):∃ (v:Value) (m:Ml),cs=[v,.int .i64 m.last,.int .i64 m.now]/\br W v 4 m.l.length (bw m.l):=by
 obtain ⟨xs,n,hcells,_,hl9,hxl,hel⟩:=DataW.trod_struct hy hf
 have hcl9:cs.length=3:=by rw [← hcy];simpa using hl9
 have hx3:xs.length=3:=by simpa using hxl
 have e0:=hel 0 y0 rfl
 have e1:=hel 1 y1 rfl
 have e2:=hel 2 y2 rfl
 rw [hy0,oy0,hcsl,as3 (by omega)] at e0
 rw [hy1,oy1,hcn,as3 (by omega)] at e1
 rw [hy2,oy2,hcn,as3 (by omega)] at e2
 obtain ⟨u,ls,hu,hls⟩:=Gl hn hcn hz hcz htsl hl hl0 hl1 hl2 hl3 ol0 ol1 ol2 ol3 hcl e0
 obtain ⟨a,ha,_⟩:=DataW.trod_int hn e1
 obtain ⟨b,hb,_⟩:=DataW.trod_int hn e2
 exact ⟨u,⟨ls,a,b⟩,sh hcl9 hu ha hb,hls⟩
theorem G1 {H:Type} {enc:TypeId × Value->H} {P:Program} {W:World} {ti e tn tz te ts tg tm:TypeId} {f0 f1 f2 k0 k1 k2 g0 g1 g2:Field} {fuel:Nat} {cs:List Value} {x:DataW H × List MemPlace} (T:IdTy P ti e) (hc:P.cellsOf ti=32) (hce:P.cellsOf e=1) (hn:P.underlying tn=some (.int .i64)) (hcn:P.cellsOf tn=1) (hz:P.underlying tz=some .string) (hcz:P.cellsOf tz=1) (hte:P.underlying te=some (.struct #[f0,f1,f2])) (h0:f0.type=tn) (h1:f1.type=ti) (h2:f2.type=tn) (o0:f0.offset=0) (o1:f1.offset=1) (o2:f2.offset=33) (hcte:P.cellsOf te=34) (hts:P.underlying ts=some (.slice tg)) (hcs:P.cellsOf ts=1) (htg:P.underlying tg=some (.struct #[k0,k1,k2])) (j0:k0.type=ti) (j1:k1.type=te) (j2:k2.type=tn) (p0:k0.offset=0) (p1:k1.offset=32) (p2:k2.offset=66) (hctg:P.cellsOf tg=67) (htm:P.underlying tm=some (.struct #[g0,g1,g2])) (ht0:g0.type=tn) (ht1:g1.type=tz) (ht2:g2.type=ts) (Qs:g0.offset=0) (ho1:g1.offset=1) (ho2:g2.offset=2) (hctm:P.cellsOf tm=3) (hf:DataW.trod enc P W 0 (λ_=>true) true fuel tm cs=some x):∃ y:V2,cs=(de y.1.no y.1.sec y.2).toList/\Mk W y.2 y.1.tb:=by
 obtain ⟨xs,n,hcells,_,hl,hxl,hel⟩:=DataW.trod_struct htm hf
 have hcl:cs.length=3:=by rw [← hctm];simpa using hl
 have hx3:xs.length=3:=by simpa using hxl
 have e0:=hel 0 g0 rfl
 have e1:=hel 1 g1 rfl
 have e2:=hel 2 g2 rfl
 rw [ht0,Qs,hcn,as3 (by omega)] at e0
 rw [ht1,ho1,hcz,as3 (by omega)] at e1
 rw [ht2,ho2,hcs,as3 (by omega)] at e2
 obtain ⟨k,Dw,_⟩:=DataW.trod_int hn e0
 obtain ⟨d9,hd9,_⟩:=DataW.trod_string hz e1
 obtain ⟨u,ls,hu,hls⟩:=nW co 67 (by decide) cR eA hts hctg (λ_ _ _ h=>KH T hc hce hn hcn hte h0 h1 h2 o0 o1 o2 hcte htg j0 j1 j2 p0 p1 p2 hctg h) e2
 exact ⟨(⟨k,d9,ls⟩,u),sh hcl Dw hd9 hu,hls⟩
theorem HV {H:Type} {enc:TypeId × Value->H} {P:Program} {W:World} {ti e tn tz tw tsw th tsh tst tx:TypeId} {a0 a1 c0 c1 c2 x0 x1 x2 x3 x4:Field} {fuel:Nat} {cs:List Value} {x:DataW H × List MemPlace} (T:IdTy P ti e) (hc:P.cellsOf ti=32) (hce:P.cellsOf e=1) (hn:P.underlying tn=some (.int .i64)) (hcn:P.cellsOf tn=1) (hz:P.underlying tz=some .string) (hcz:P.cellsOf tz=1) (hw:P.underlying tw=some (.struct #[a0,a1])) (ha0:a0.type=ti) (ha1:a1.type=tn) (oa0:a0.offset=0) (oa1:a1.offset=32) (hcw:P.cellsOf tw=33) (htsw:P.underlying tsw=some (.slice tw)) (hcsw:P.cellsOf tsw=1) (hh:P.underlying th=some (.struct #[c0,c1,c2])) (hc0:c0.type=ti) (hc1:c1.type=tn) (hc2:c2.type=tn) (oc0:c0.offset=0) (oc1:c1.offset=32) (oc2:c2.offset=33) (hch:P.cellsOf th=34) (htsh:P.underlying tsh=some (.slice th)) (hcsh:P.cellsOf tsh=1) (htst:P.underlying tst=some (.slice tz)) (hcst:P.cellsOf tst=1) (hx:P.underlying tx=some (.struct #[x0,x1,x2,x3,x4])) (hx0:x0.type=tn) (hx1:x1.type=tn) (hx2:x2.type=tsw) (hx3:x3.type=tsh) (hx4:x4.type=tst) (ox0:x0.offset=0) (ox1:x1.offset=1) (ox2:x2.offset=2) (ox3:x3.offset=3) (ox4:x4.offset=4) (hcx:P.cellsOf tx=5) (hf:DataW.trod enc P W 0 (λ_=>true) true fuel tx cs=some x):∃ y:H4,cs=(bE y.1.no y.1.gt y.2.1 y.2.2.1 y.2.2.2).toList/\ma W y.2.1 y.2.2.1 y.2.2.2 y.1:=by
 obtain ⟨xs,n,hcells,_,hl,hxl,hel⟩:=DataW.trod_struct hx hf
 have hcl:cs.length=5:=by rw [← hcx];simpa using hl
 have hx5:xs.length=5:=by simpa using hxl
 have e0:=hel 0 x0 rfl
 have e1:=hel 1 x1 rfl
 have e2:=hel 2 x2 rfl
 have e3:=hel 3 x3 rfl
 have e4:=hel 4 x4 rfl
 rw [hx0,ox0,hcn,as3 (by omega)] at e0
 rw [hx1,ox1,hcn,as3 (by omega)] at e1
 rw [hx2,ox2,hcsw,as3 (by omega)] at e2
 rw [hx3,ox3,hcsh,as3 (by omega)] at e3
 rw [hx4,ox4,hcst,as3 (by omega)] at e4
 obtain ⟨k,Dw,_⟩:=DataW.trod_int hn e0
 obtain ⟨k2,hk2,_⟩:=DataW.trod_int hn e1
 obtain ⟨vw,ws,hvw,hws⟩:=nW dc 33 (by decide) cA gm htsw hcw (λ_ _ _ h=>Jt T hc hce hn hcn hw ha0 ha1 oa0 oa1 hcw h) e2
 obtain ⟨vh,hs,hvh,hhs⟩:=nW cW 34 (by decide) cy eO htsh hch (λ_ _ _ h=>JB T hc hce hn hcn hh hc0 hc1 hc2 oc0 oc1 oc2 hch h) e3
 obtain ⟨vi,bx,hvi,hbx⟩:=nW (λa=>#[Value.string a]) 1 (by decide) (λ_=>rfl) ByteArray.empty htst hcz (λ_ _ _ h=>Lu hz h) e4
 rw [M0] at hbx
 exact ⟨(⟨k,k2,ws,hs,bx⟩,vw,vh,vi),AZ hcl Dw hk2 hvw hvh hvi,hws,hhs,hbx⟩
theorem Lo {H:Type} {enc:TypeId × Value->H} {P:Program} {W:World} {ti e tn tz te ts tg tm tb tsb td tsd to tw tsw th tsh tst tx tl tsl ty tW tss tsx:TypeId} {f0 f1 f2 k0 k1 k2 g0 g1 g2 b0 b1 d0 d1 d2 d3 q0 a0 a1 c0 c1 c2 x0 x1 x2 x3 x4 l0 l1 l2 l3 y0 y1 y2 w0 w1 w2 w3:Field} {fuel:Nat} {cs:List Value} {x:DataW H × List MemPlace} (T:IdTy P ti e) (hc:P.cellsOf ti=32) (hce:P.cellsOf e=1) (hn:P.underlying tn=some (.int .i64)) (hcn:P.cellsOf tn=1) (hz:P.underlying tz=some .string) (hcz:P.cellsOf tz=1) (hte:P.underlying te=some (.struct #[f0,f1,f2])) (h0:f0.type=tn) (h1:f1.type=ti) (h2:f2.type=tn) (o0:f0.offset=0) (o1:f1.offset=1) (o2:f2.offset=33) (hcte:P.cellsOf te=34) (hts:P.underlying ts=some (.slice tg)) (hcs:P.cellsOf ts=1) (htg:P.underlying tg=some (.struct #[k0,k1,k2])) (j0:k0.type=ti) (j1:k1.type=te) (j2:k2.type=tn) (p0:k0.offset=0) (p1:k1.offset=32) (p2:k2.offset=66) (hctg:P.cellsOf tg=67) (htm:P.underlying tm=some (.struct #[g0,g1,g2])) (ht0:g0.type=tn) (ht1:g1.type=tz) (ht2:g2.type=ts) (Qs:g0.offset=0) (ho1:g1.offset=1) (ho2:g2.offset=2) (hctm:P.cellsOf tm=3) (hb:P.underlying tb=some (.struct #[b0,b1])) (hb0:b0.type=tn) (hb1:b1.type=ti) (ob0:b0.offset=0) (ob1:b1.offset=1) (hcb:P.cellsOf tb=33) (htsb:P.underlying tsb=some (.slice tb)) (hcsb:P.cellsOf tsb=1) (hd:P.underlying td=some (.struct #[d0,d1,d2,d3])) (hd0:d0.type=tb) (sQ:d1.type=tb) (hd2:d2.type=tsb) (hd3:d3.type=tsb) (od0:d0.offset=0) (od1:d1.offset=33) (od2:d2.offset=66) (od3:d3.offset=67) (hcd:P.cellsOf td=68) (htsd:P.underlying tsd=some (.slice td)) (hcsd:P.cellsOf tsd=1) (hto:P.underlying to=some (.struct #[q0])) (mW:q0.type=tsd) (oq0:q0.offset=0) (hcto:P.cellsOf to=1) (hw:P.underlying tw=some (.struct #[a0,a1])) (ha0:a0.type=ti) (ha1:a1.type=tn) (oa0:a0.offset=0) (oa1:a1.offset=32) (hcw:P.cellsOf tw=33) (htsw:P.underlying tsw=some (.slice tw)) (hcsw:P.cellsOf tsw=1) (hh:P.underlying th=some (.struct #[c0,c1,c2])) (hc0:c0.type=ti) (hc1:c1.type=tn) (hc2:c2.type=tn) (oc0:c0.offset=0) (oc1:c1.offset=32) (oc2:c2.offset=33) (hch:P.cellsOf th=34) (htsh:P.underlying tsh=some (.slice th)) (hcsh:P.cellsOf tsh=1) (htst:P.underlying tst=some (.slice tz)) (hcst:P.cellsOf tst=1) (hx:P.underlying tx=some (.struct #[x0,x1,x2,x3,x4])) (hx0:x0.type=tn) (hx1:x1.type=tn) (hx2:x2.type=tsw) (hx3:x3.type=tsh) (hx4:x4.type=tst) (ox0:x0.offset=0) (ox1:x1.offset=1) (ox2:x2.offset=2) (ox3:x3.offset=3) (ox4:x4.offset=4) (hcx:P.cellsOf tx=5) (hl:P.underlying tl=some (.struct #[l0,l1,l2,l3])) (hl0:l0.type=tn) (hl1:l1.type=tn) (hl2:l2.type=tn) (hl3:l3.type=tz) (ol0:l0.offset=0) (ol1:l1.offset=1) (ol2:l2.offset=2) (ol3:l3.offset=3) (hcl:P.cellsOf tl=4) (htsl:P.underlying tsl=some (.slice tl)) (hcsl:P.cellsOf tsl=1) (hy:P.underlying ty=some (.struct #[y0,y1,y2])) (hy0:y0.type=tsl) (hy1:y1.type=tn) (hy2:y2.type=tn) (oy0:y0.offset=0) (oy1:y1.offset=1) (oy2:y2.offset=2) (hcy:P.cellsOf ty=3) (hW:P.underlying tW=some (.struct #[w0,w1,w2,w3])) (hw0:w0.type=to) (hw1:w1.type=tss) (hw2:w2.type=tsx) (hw3:w3.type=ty) (ow0:w0.offset=0) (ow1:w1.offset=1) (ow2:w2.offset=2) (ow3:w3.offset=3) (hcW:P.cellsOf tW=6) (htss:P.underlying tss=some (.slice tm)) (hcss:P.cellsOf tss=1) (htsx:P.underlying tsx=some (.slice tx)) (hcsx:P.cellsOf tsx=1) (hf:DataW.trod enc P W 0 (λ_=>true) true fuel tW cs=some x):∃ (X:Wx) (vo vs vh vl:Value),cs=Xg vo vs vh vl X.M.last X.M.now/\RdW W vo vs vh vl X/\X.L.length<=maxLen/\X.S.length<=maxLen/\X.H.length<=maxLen:=by
 obtain ⟨xs,n,hcells,_,hl9,hxl,hel⟩:=DataW.trod_struct hW hf
 have hcl9:cs.length=6:=by rw [← hcW];simpa using hl9
 have hxl4:xs.length=4:=by simpa using hxl
 have e0:=hel 0 w0 rfl
 have e1:=hel 1 w1 rfl
 have e2:=hel 2 w2 rfl
 have e3:=hel 3 w3 rfl
 rw [hw0,ow0,hcto,as3 (by omega)] at e0
 rw [hw1,ow1,hcss,as3 (by omega)] at e1
 rw [hw2,ow2,hcsx,as3 (by omega)] at e2
 rw [hw3,ow3,hcy,as3 (by omega)] at e3
 obtain ⟨vo,L,ho,hL,hbL⟩:=LU T hc hce hn hcn hz hcz hb hb0 hb1 ob0 ob1 hcb htsb hcsb hd hd0 sQ hd2 hd3 od0 od1 od2 od3 hcd htsd hcsd hto mW oq0 hcto e0
 obtain ⟨vs,S,hs,hS,hS2,hbS⟩:=qX (λy:V2=>de y.1.no y.1.sec y.2) 3 (by decide) (λy=>cD ..) d4 (λy=>Mk W y.2 y.1.tb) htss hctm (λ_ _ _ h=>G1 T hc hce hn hcn hz hcz hte h0 h1 h2 o0 o1 o2 hcte hts hcs htg j0 j1 j2 p0 p1 p2 hctg htm ht0 ht1 ht2 Qs ho1 ho2 hctm h) e1
 obtain ⟨vh,Hs,hh9,hH,hH2,hbH⟩:=qX (λy:H4=>bE y.1.no y.1.gt y.2.1 y.2.2.1 y.2.2.2) 5 (by decide) (λy=>rfl) bp (λy=>ma W y.2.1 y.2.2.1 y.2.2.2 y.1) htsx hcx (λ_ _ _ h=>HV T hc hce hn hcn hz hcz hw ha0 ha1 oa0 oa1 hcw htsw hcsw hh hc0 hc1 hc2 oc0 oc1 oc2 hch htsh hcsh htst hcst hx hx0 hx1 hx2 hx3 hx4 ox0 ox1 ox2 ox3 ox4 hcx h) e2
 obtain ⟨vl,m,hm,hM⟩:=JM T hc hce hn hcn hz hcz hl hl0 hl1 hl2 hl3 ol0 ol1 ol2 ol3 hcl htsl hcsl hy hy0 hy1 hy2 oy0 oy1 oy2 hcy e3
 exact ⟨⟨L,S,Hs,m⟩,vo,vs,vh,vl,MI hcl9 ho hs hh9 hm,⟨hL,hS,hS2,hH,hH2,hM⟩,hbL,hbS,hbH⟩
theorem OW {H:Type} {enc:TypeId × Value->H} {P:Program} {W:World} {r:Reach} {bb:Nat} {v:Value} {d:DataW H} {ps:List MemPlace} {ti e tn tz te ts tg tm tb tsb td tsd to tw tsw th tsh tst tx tl tsl ty tW tss tsx:TypeId} {f0 f1 f2 k0 k1 k2 g0 g1 g2 b0 b1 d0 d1 d2 d3 q0 a0 a1 c0 c1 c2 x0 x1 x2 x3 x4 l0 l1 l2 l3 y0 y1 y2 w0 w1 w2 w3:Field} (T:IdTy P ti e) (hc:P.cellsOf ti=32) (hce:P.cellsOf e=1) (hn:P.underlying tn=some (.int .i64)) (hcn:P.cellsOf tn=1) (hz:P.underlying tz=some .string) (hcz:P.cellsOf tz=1) (hte:P.underlying te=some (.struct #[f0,f1,f2])) (h0:f0.type=tn) (h1:f1.type=ti) (h2:f2.type=tn) (o0:f0.offset=0) (o1:f1.offset=1) (o2:f2.offset=33) (hcte:P.cellsOf te=34) (hts:P.underlying ts=some (.slice tg)) (hcs:P.cellsOf ts=1) (htg:P.underlying tg=some (.struct #[k0,k1,k2])) (j0:k0.type=ti) (j1:k1.type=te) (j2:k2.type=tn) (p0:k0.offset=0) (p1:k1.offset=32) (p2:k2.offset=66) (hctg:P.cellsOf tg=67) (htm:P.underlying tm=some (.struct #[g0,g1,g2])) (ht0:g0.type=tn) (ht1:g1.type=tz) (ht2:g2.type=ts) (Qs:g0.offset=0) (ho1:g1.offset=1) (ho2:g2.offset=2) (hctm:P.cellsOf tm=3) (hb:P.underlying tb=some (.struct #[b0,b1])) (hb0:b0.type=tn) (hb1:b1.type=ti) (ob0:b0.offset=0) (ob1:b1.offset=1) (hcb:P.cellsOf tb=33) (htsb:P.underlying tsb=some (.slice tb)) (hcsb:P.cellsOf tsb=1) (hd:P.underlying td=some (.struct #[d0,d1,d2,d3])) (hd0:d0.type=tb) (sQ:d1.type=tb) (hd2:d2.type=tsb) (hd3:d3.type=tsb) (od0:d0.offset=0) (od1:d1.offset=33) (od2:d2.offset=66) (od3:d3.offset=67) (hcd:P.cellsOf td=68) (htsd:P.underlying tsd=some (.slice td)) (hcsd:P.cellsOf tsd=1) (hto:P.underlying to=some (.struct #[q0])) (mW:q0.type=tsd) (oq0:q0.offset=0) (hcto:P.cellsOf to=1) (hw:P.underlying tw=some (.struct #[a0,a1])) (ha0:a0.type=ti) (ha1:a1.type=tn) (oa0:a0.offset=0) (oa1:a1.offset=32) (hcw:P.cellsOf tw=33) (htsw:P.underlying tsw=some (.slice tw)) (hcsw:P.cellsOf tsw=1) (hh:P.underlying th=some (.struct #[c0,c1,c2])) (hc0:c0.type=ti) (hc1:c1.type=tn) (hc2:c2.type=tn) (oc0:c0.offset=0) (oc1:c1.offset=32) (oc2:c2.offset=33) (hch:P.cellsOf th=34) (htsh:P.underlying tsh=some (.slice th)) (hcsh:P.cellsOf tsh=1) (htst:P.underlying tst=some (.slice tz)) (hcst:P.cellsOf tst=1) (hx:P.underlying tx=some (.struct #[x0,x1,x2,x3,x4])) (hx0:x0.type=tn) (hx1:x1.type=tn) (hx2:x2.type=tsw) (hx3:x3.type=tsh) (hx4:x4.type=tst) (ox0:x0.offset=0) (ox1:x1.offset=1) (ox2:x2.offset=2) (ox3:x3.offset=3) (ox4:x4.offset=4) (hcx:P.cellsOf tx=5) (hl:P.underlying tl=some (.struct #[l0,l1,l2,l3])) (hl0:l0.type=tn) (hl1:l1.type=tn) (hl2:l2.type=tn) (hl3:l3.type=tz) (ol0:l0.offset=0) (ol1:l1.offset=1) (ol2:l2.offset=2) (ol3:l3.offset=3) (hcl:P.cellsOf tl=4) (htsl:P.underlying tsl=some (.slice tl)) (hcsl:P.cellsOf tsl=1) (hy:P.underlying ty=some (.struct #[y0,y1,y2])) (hy0:y0.type=tsl) (hy1:y1.type=tn) (hy2:y2.type=tn) (oy0:y0.offset=0) (oy1:y1.offset=1) (oy2:y2.offset=2) (hcy:P.cellsOf ty=3) (hW:P.underlying tW=some (.struct #[w0,w1,w2,w3])) (hw0:w0.type=to) (hw1:w1.type=tss) (hw2:w2.type=tsx) (hw3:w3.type=ty) (ow0:w0.offset=0) (ow1:w1.offset=1) (ow2:w2.offset=2) (ow3:w3.offset=3) (hcW:P.cellsOf tW=6) (htss:P.underlying tss=some (.slice tm)) (hcss:P.cellsOf tss=1) (htsx:P.underlying tsx=some (.slice tx)) (hcsx:P.cellsOf tsx=1) (hval:Value.okWide P W r bb tW v) (h:DataW.Trod enc P W 0 (λ_=>true) true tW v d ps):∃ (X:Wx) (vo vs vh vl:Value),v=.agg (dV vo vs vh vl X.M.last X.M.now)/\RdW W vo vs vh vl X/\X.L.length<=maxLen/\X.S.length<=maxLen/\X.H.length<=maxLen:=by
 have hv:∃ cs,v=.agg cs:=by
  unfold Value.okWide at hval
  simp only [hW] at hval
  obtain ⟨cs,h9,_⟩:=hval
  exact ⟨cs,h9⟩
 obtain ⟨cs,rfl⟩:=hv
 obtain ⟨fuel,hf⟩:=h
 obtain ⟨X,vo,vs,vh,vl,hcs9,hX⟩:=Lo T hc hce hn hcn hz hcz hte h0 h1 h2 o0 o1 o2 hcte hts hcs htg j0 j1 j2 p0 p1 p2 hctg htm ht0 ht1 ht2 Qs ho1 ho2 hctm hb hb0 hb1 ob0 ob1 hcb htsb hcsb hd hd0 sQ hd2 hd3 od0 od1 od2 od3 hcd htsd hcsd hto mW oq0 hcto hw ha0 ha1 oa0 oa1 hcw htsw hcsw hh hc0 hc1 hc2 oc0 oc1 oc2 hch htsh hcsh htst hcst hx hx0 hx1 hx2 hx3 hx4 ox0 ox1 ox2 ox3 ox4 hcx hl hl0 hl1 hl2 hl3 ol0 ol1 ol2 ol3 hcl htsl hcsl hy hy0 hy1 hy2 oy0 oy1 oy2 hcy hW hw0 hw1 hw2 hw3 ow0 ow1 ow2 ow3 hcW htss hcss htsx hcsx hf
 refine ⟨X,vo,vs,vh,vl,?_,hX⟩
 have key:cs.toList=(dV vo vs vh vl X.M.last X.M.now).toList:=hcs9
 rw [Array.toList_inj.1 key]
def ju (a b:Wd):Bool:=decide (a.ov=b.ov) && (decide (a.sv=b.sv) && (decide (a.ho=b.ho) && qH a.ml b.ml))
theorem GJ (a:Wd):ju a a=true:=by
 unfold ju qH
 simp
theorem rA {a b:Wd} (h:a=b):ju a b=true:=by subst h;exact GJ a
def rQ (W:Wd):Bool:=W.sv.any (λs=>decide (34<s.tb.length)) || (W.ov.any (λn=>decide (6<n.sc.length) || decide (18<n.fg.length)) || (W.ho.any (λh=>decide (10<h.ws.length) || (decide (10<h.hs.length) || decide (34<h.bx.length))) ||
 (decide (18<W.sv.length) || (decide (18<W.ov.length) || (decide (18<W.ho.length) || decide (66<W.ml.l.length))))))
structure BdW (W:Wd):Prop where
 sv:W.sv.length<=40
 tb:∀ s∈W.sv,s.tb.length<=100
 ov:W.ov.length<=40
 nd:∀ n∈W.ov,n.sc.length<=100/\n.fg.length<=100
 ho:W.ho.length<=40
 hb:∀ h∈W.ho,h.ws.length<=100/\h.hs.length<=100/\h.bx.length<=100
 ml:W.ml.l.length<=100
theorem H5 {W:Wd} (h:rQ W=false):BdW W:=by
 unfold rQ at h
 simp only [Bool.or_eq_false_iff,decide_eq_false_iff_not,ay0,Bool.or_eq_true,as5,not_or] at h
 obtain ⟨h1,h2,h3,h4,h5,h6,h7⟩:=h
 exact ⟨by omega,λs hs=>by have:=h1 s hs;omega,by omega,λn hn=>by have:=h2 n hn;omega,by omega,λy hy=>by have:=h3 y hy;omega,by omega⟩
def jU (k n:Int):Ac:=⟨k,0,0,n,0#256,[],ByteArray.empty⟩
theorem jL {W:Wd} {a:Ac} (h:cg W=true) (h1:1<=a.k) (h2:a.k<=15):dD W a=Bo W a a.k.toNat:=by
 unfold dD
 rw [h,ar7 h1,ar7 h2];rfl
def gy (i:Nat):Int:=[4,5,12,13,14].getD i 0
theorem nJ {W:Wd} (h:cg W=true) (n:Int) (i:Nat) (hi:i<5):dD W (jU (gy i) n)=(match i with|0=>Ga W|1=>sS W n|2=>xp W n|3=>wj W n|_=>vP W n):=by
 match i,hi with
 |0,_=>exact jL h (show (1:Int)<=4 by decide) (show (4:Int)<=15 by decide)
 |1,_=>exact jL h (show (1:Int)<=5 by decide) (show (5:Int)<=15 by decide)
 |2,_=>exact jL h (show (1:Int)<=12 by decide) (show (12:Int)<=15 by decide)
 |3,_=>exact jL h (show (1:Int)<=13 by decide) (show (13:Int)<=15 by decide)
 |4,_=>exact jL h (show (1:Int)<=14 by decide) (show (14:Int)<=15 by decide)
theorem VU {W:Wd} (h:cg W=true) (n:Int) (i:Nat) (hi:i<5):(dD W (jU (gy i) n)).n=[]:=by
 rw [nJ h n i hi]
 match i,hi with
 |0,_=>rfl
 |1,_=>show (sS W n).n=[];unfold sS;cases decide (fG W.ml n=0)<;>rfl
 |2,_=>show (xp W n).n=[];unfold xp;cases decide (tj W.ml n=0)<;>rfl
 |3,_=>show (wj W n).n=[];unfold wj;cases decide (fO W.ml n=0)<;>rfl
 |4,_=>show (vP W n).n=[];unfold vP;cases decide (fO W.ml n=0)<;>rfl
theorem Yk {W:Wd} (h:cg W=true) (n:Int):{(dD W (jU (gy 0) n)).w with ov:=W.ov}=W:=by rw [nJ h n 0 (by decide)];rfl
theorem XC {W:Wd} (h:cg W=true) {n:Int} (he:(dD W (jU (gy 1) n)).e=0):{(dD W (jU (gy 1) n)).w with ml:={(dD W (jU (gy 1) n)).w.ml with now:=W.ml.now}}=W:=by
 rw [nJ h n 1 (by decide)] at he ⊢
 show {(sS W n).w with ml:={(sS W n).w.ml with now:=W.ml.now}}=W
 have he:(sS W n).e=0:=he
 unfold sS at he ⊢
 cases hp:decide (fG W.ml n=0) with
 |true=>
  show {W with ml:={(dP W.ml n) with now:=W.ml.now}}=W
  unfold dP
  rw [hp];rfl
 |false=>rw [hp] at he;exact az2 he (ar5 hp)
theorem Xl {W:Wd} (h:cg W=true) {n:Int} {i:Nat} (hi:i<5) (h2:2<=i) (he:(dD W (jU (gy i) n)).e=0):{(dD W (jU (gy i) n)).w with ml:=W.ml}=W:=by
 rw [nJ h n i hi] at he ⊢
 match i,hi,h2 with
 |2,_,_=>
  show {(xp W n).w with ml:=W.ml}=W
  have he:(xp W n).e=0:=he
  unfold xp at he ⊢
  cases hp:decide (tj W.ml n=0) with
  |true=>rfl
  |false=>rw [hp] at he;exact az2 he (ar5 hp)
 |3,_,_=>
  show {(wj W n).w with ml:=W.ml}=W
  have he:(wj W n).e=0:=he
  unfold wj at he ⊢
  cases hp:decide (fO W.ml n=0) with
  |true=>rfl
  |false=>rw [hp] at he;exact az2 he (ar5 hp)
 |4,_,_=>
  show {(vP W n).w with ml:=W.ml}=W
  have he:(vP W n).e=0:=he
  unfold vP at he ⊢
  cases hp:decide (fO W.ml n=0) with
  |true=>rfl
  |false=>rw [hp] at he;exact az2 he (ar5 hp)
def PN:Id:=BitVec.ofNat 256 (2 ^ 128 - 1)
def QM:Ac:=⟨1,1,0,0,PN,[],ByteArray.empty⟩
def hsA:Ac:=⟨6,3,1,0,0#256,[],ByteArray.empty⟩
def qx:Ac:=⟨10,3,0,0,0#256,[(2,0#256,3)],⟨#[120]⟩⟩
def RU:Nd:=⟨(1,PN),fe,[(1,PN)],[]⟩
def UK:Wd:=⟨[RU],[⟨1,ByteArray.empty,[]⟩],[],kG⟩
def ug:Wd:=⟨[RU],[⟨1,ByteArray.empty,[]⟩],[⟨3,1,[],[],[]⟩],kG⟩
theorem Ig:cg I3=true:=by decide +kernel
theorem Rz:cg UK=true:=by decide +kernel
theorem Q9:cg ug=true:=by decide +kernel
theorem Qm:dD I3 QM=jf UK:=by
 rw [jL Ig (by decide) (by decide)]
 show oI I3 QM=_
 have e1:Bh I3 QM=0:=by decide +kernel
 have e2:FK I3 QM=[RU]:=by decide +kernel
 unfold oI
 rw [e1,e2];rfl
theorem QG:dD UK hsA=jf ug:=by
 rw [jL Rz (by decide) (by decide)]
 show qK UK 3 1=_
 rfl
theorem W0:(dD ug qx).e=0/\(dD ug qx).n.length=1/\((dD ug qx).n.getD 0 Bu).k=1/\(dD ug qx).w.ml.l.length=1:=by
 have h0:nH ug qx=dD ug qx:=(jL (a:=qx) Q9 (by decide) (by decide)).symm
 have h1:(fD ug qx.no).no=3:=by decide +kernel
 have h2:lQ (fD ug qx.no) qx.l qx.d ug.ml.now=0:=by decide +kernel
 have h3:(kD ug qx).no=1:=by decide +kernel
 have h4:(kD ug qx).n=[]:=by decide +kernel
 have h5:(kD ug qx).w.ml.l.length=1:=by decide +kernel
 rw [← h0]
 unfold nH
 rw [h1,h2,h3]
 show (oh (mr (kD ug qx) (oR qx.no 1 qx.d))).e=0/\(oh (mr (kD ug qx) (oR qx.no 1 qx.d))).n.length=1/\_/\_
 refine ⟨rfl,?_,?_,h5⟩
 ·show ((kD ug qx).n++[_]).length=1
  rw [h4];rfl
 ·show (((kD ug qx).n++[_]).getD 0 Bu).k=1
  rw [h4];rfl
structure RWd (W:Wd):Prop where
 ov:kH (kI W.ov)=true
 ml:cn W.ml=true
 len:W.sv.length=W.ov.length
 sv:∀ k,k<W.sv.length->uT W k=true
 ho:∀ k,k<W.ho.length->wY W.ho k=true
theorem Zr {l:List Ho} {j:Nat} (hj:j<l.length):l[j]=l.getD j oT:=by rw [au1,as3 hj];rfl
theorem RWd.right {W:Wd} (h:RWd W) {y:Ho} (hy:y∈W.ho):cS y=true:=by
 obtain ⟨k,hk,rfl⟩:=List.mem_iff_getElem.1 hy
 have:=h.ho k hk
 unfold wY at this
 rw [as0] at this
 rw [Zr hk];exact this.1
theorem RWd.inc {W:Wd} (h:RWd W):∀ i j,i<j->j<W.ho.length->(W.ho.getD i oT).no<(W.ho.getD j oT).no:=λi j hij hj=>by
 induction j with
 |zero=>omega
 |succ j ih=>
  have h1:=h.ho (j+1) hj
  unfold wY at h1
  rw [as0] at h1
  have h2:=h1.2
  simp only [Nat.zero_lt_succ,decide_true,Bool.true_and,Nat.add_sub_cancel,Bool.not_eq_true',decide_eq_false_iff_not] at h2
  rcases at9 i j with g|g
  ·have:=ih g (by omega);omega
  ·obtain rfl:i=j:=by omega
   omega
theorem At {h:Ho} (hr:cS h=true):(0<=h.no/\h.no<=15)/\(0<=h.gt/\h.gt<=15)/\h.ws.length<=8/\∀ k,k<h.hs.length->mO h.hs k=true:=by
 unfold cS VV gv at hr
 simp only [as0,as5,as1,at2] at hr
 obtain ⟨_,h2,_,h4,h5,h6,_⟩:=hr
 exact ⟨h4,h5,h6,h2⟩
theorem Bv (t:Pt) (fr:Int) (s:Se):
 (m3 t.w fr s=0/\bA t fr s=⟨{t.w with ml:=⟨t.w.ml.l++[(t.w.ml.last+1,fr,Lf t.w fr s,cL s.2.1)],t.w.ml.last+1,t.w.ml.now⟩},t.n,t.w.ml.last+1⟩) ∨
 (m3 t.w fr s≠0/\bA t fr s=mr ⟨t.w,t.n,0⟩ (tQ fr 0 (m3 t.w fr s))):=by
 cases h:decide (m3 t.w fr s=0) with
 |true=>
  have h0:=ar4 h
  have h1:MT t.w fr s=0/\db t.w.ml fr (Lf t.w fr s) (cL s.2.1)=0:=by
   unfold m3 at h0
   cases h9:decide (MT t.w fr s=0) with
   |true=>rw [h9] at h0;exact ⟨ar4 h9,h0⟩
   |false=>rw [h9] at h0;exact az2 h0 (ar5 h9)
  refine .inl ⟨h0,?_⟩
  unfold bA
  rw [h]
  show Pt.mk _ _ _=_
  rw [(sy h1.2).1,(sy h1.2).2]
 |false=>
  refine .inr ⟨ar5 h,?_⟩
  unfold bA
  rw [h];rfl
theorem OU {h:Ho} (hr:cS h=true) (x:Id) (now:Int):0<=oK h x now/\oK h x now<=15:=by
 obtain ⟨_,hg,_,hh⟩:=At hr
 unfold oK
 cases hb:decide (0<=nz h x) && decide (now<(h.hs.getD (nz h x).toNat eO).2.2) with
 |false=>exact hg
 |true=>
  rw [as0,as5] at hb
  have hlt:(nz h x).toNat<h.hs.length:=by
   have h0:=hb.1
   unfold nz l7 at h0 ⊢
   split at h0
   ·next hl=>
    rw [if_pos hl]
    have:(hk h.hs).length=h.hs.length:=av6 _
    omega
   ·omega
  have:=hh _ hlt
  unfold mO gv at this
  simp only [as0,as5] at this
  exact this.1
theorem Pm {h:Ho} (hr:cS h=true) (l:List dN) (now:Int):0<=xb h l now/\xb h l now<=15:=by
 unfold xb
 cases decide ((l.getD 0 (0,0#256,0)).1=1) with
 |true=>exact OU hr _ _
 |false=>exact (At hr).2.1
structure Inj {α:Type} (f:α->Int) (l:List α):Prop where
 eq:∀ x∈l,∀ y∈l,f x=f y->x=y
 nd:l.Nodup
theorem RWd.ro {W:Wd} (h:RWd W):RO W.ov:=by have:=oO h.ov;rwa [Bn] at this
theorem svD {l:List Sv} {j:Nat} (hj:j<l.length):l[j]=l.getD j HC:=by rw [au1,as3 hj];rfl
theorem ndD {l:List Nd} {j:Nat} (hj:j<l.length):l[j]=l.getD j zN:=by rw [au1,as3 hj];rfl
theorem RWd.nos {W:Wd} (h:RWd W):W.sv.map (·.no)=W.ov.map (·.me.1):=by
 refine List.ext_getElem (by rw [av6,av6];exact h.len) λk h1 h2=>?_
 rw [av6] at h1 h2
 rw [List.getElem_map,List.getElem_map,svD h1,ndD h2]
 have:=h.sv k h1
 unfold uT at this
 simp only [as0,as5] at this
 exact this.2.1
theorem RWd.inj {W:Wd} (h:RWd W):Inj (·.no) W.sv:=by
 have hp:W.sv.Pairwise λa b=>a.no<b.no:=by
  have h1:(W.ov.map (·.me.1)).Pairwise (· < ·):=List.pairwise_map.2 h.ro.inc
  rw [← h.nos] at h1
  exact List.pairwise_map.1 h1
 refine ⟨λx hx y hy e=>?_,hp.imp λ{a b} hab e=>by subst e;omega⟩
 obtain ⟨i,hi,rfl⟩:=List.mem_iff_getElem.1 hx
 obtain ⟨j,hj,rfl⟩:=List.mem_iff_getElem.1 hy
 have hg:=List.pairwise_iff_getElem.1 hp
 rcases Nat.lt_trichotomy i j with g|g|g
 ·have:=hg i j hi hj g;omega
 ·subst g;rfl
 ·have:=hg j i hj hi g;omega
section
variable {P:Program} {ρ:Operand->Value} {d:Option Tmp} {ty:TypeId} {pos:String} {af:Array Edge} {g:Option (Nat × Bool)} {x y z u:Operand} {t:TypeId}
theorem nF {v:Value} (a b:Int) (h:v.oneCell'=true):∀ u∈(#[v,.int .i64 a,.int .i64 b]:Array Value).toList,u.oneCell'=true:=λu hu=>by
 simp only [at1,at4,or_false] at hu
 rcases hu with rfl|rfl|rfl<;>first|assumption|rfl
theorem nK (S:Stt P t wdZ):a7 P ⟨d,.build t #[],ty,pos,af,g⟩ ρ (.agg (dV au au au au 0 0)):=
 bk (P:=P) (ρ:=ρ) (d:=d) (ty:=ty) (pos:=pos) (af:=af) (g:=g) (parts:=#[]) S [] (by simp) (λi v hm=>by simp at hm) (D:=Xg au au au au 0 0) rfl
theorem xv {a b:Int} (S:Stt P t Yy) (hx:ρ x=.int .i64 a) (hy:ρ y=.int .i64 b):a7 P ⟨d,.build t #[(0,x),(3,y)],ty,pos,af,g⟩ ρ (.agg (bM (jU a b) au)):=by
 have:=bk (P:=P) (ρ:=ρ) (d:=d) (ty:=ty) (pos:=pos) (af:=af) (g:=g) (parts:=#[(0,x),(3,y)]) S [(0,.int .i64 a),(3,.int .i64 b)] (by simp [hx,hy]) (λj q hm=>by
  simp only [at1,ax3,at4,or_false] at hm
  rcases hm with ⟨rfl,rfl⟩|⟨rfl,rfl⟩
  ·exact ⟨_,rfl,rfl⟩
  ·exact ⟨_,rfl,rfl⟩) (D:=R3 (jU a b) au) (by
   show [Value.int .i64 a]++([Value.int .i64 0]++([Value.int .i64 0]++([Value.int .i64 b]++(List.replicate 32 (Value.int .u8 0)++([au]++([Value.string ByteArray.empty]++[]))))))=_
   rw [show List.replicate 32 (Value.int .u8 0)=(aI 0#256).toList from by rw [ei];rfl];rfl)
 exact this
theorem xi {a b c:Int} (S:Stt P t Yy) (hx:ρ x=.int .i64 a) (hy:ρ y=.int .i64 b) (hz:ρ z=.int .i64 c):a7 P ⟨d,.build t #[(0,x),(1,y),(2,z)],ty,pos,af,g⟩ ρ (.agg (bM ⟨a,b,c,0,0#256,[],ByteArray.empty⟩ au)):=by
 have:=bk (P:=P) (ρ:=ρ) (d:=d) (ty:=ty) (pos:=pos) (af:=af) (g:=g) (parts:=#[(0,x),(1,y),(2,z)]) S [(0,.int .i64 a),(1,.int .i64 b),(2,.int .i64 c)] (by simp [hx,hy,hz]) (λj q hm=>by
  simp only [at1,ax3,at4,or_false] at hm
  rcases hm with ⟨rfl,rfl⟩|⟨rfl,rfl⟩|⟨rfl,rfl⟩
  ·exact ⟨_,rfl,rfl⟩
  ·exact ⟨_,rfl,rfl⟩
  ·exact ⟨_,rfl,rfl⟩) (D:=R3 ⟨a,b,c,0,0#256,[],ByteArray.empty⟩ au) (by
   show [Value.int .i64 a]++([Value.int .i64 b]++([Value.int .i64 c]++([Value.int .i64 0]++(List.replicate 32 (Value.int .u8 0)++([au]++([Value.string ByteArray.empty]++[]))))))=_
   rw [show List.replicate 32 (Value.int .u8 0)=(aI 0#256).toList from by rw [ei];rfl];rfl)
 exact this
theorem w8 {a b:Int} {i:Id} (S:Stt P t Yy) (hx:ρ x=.int .i64 a) (hy:ρ y=.int .i64 b) (hz:ρ z=kF i):a7 P ⟨d,.build t #[(0,x),(1,y),(4,z)],ty,pos,af,g⟩ ρ (.agg (bM ⟨a,b,0,0,i,[],ByteArray.empty⟩ au)):=by
 have:=bk (P:=P) (ρ:=ρ) (d:=d) (ty:=ty) (pos:=pos) (af:=af) (g:=g) (parts:=#[(0,x),(1,y),(4,z)]) S [(0,.int .i64 a),(1,.int .i64 b),(4,kF i)] (by simp [hx,hy,hz]) (λj q hm=>by
  simp only [at1,ax3,at4,or_false] at hm
  rcases hm with ⟨rfl,rfl⟩|⟨rfl,rfl⟩|⟨rfl,rfl⟩
  ·exact ⟨_,rfl,rfl⟩
  ·exact ⟨_,rfl,rfl⟩
  ·exact ⟨_,rfl,aC _⟩) (D:=R3 ⟨a,b,0,0,i,[],ByteArray.empty⟩ au) rfl
 exact this
end
def Gc:Nat->Id
 |0=>0#256
 |k+1=>ID (Gc k) (k+16) 255
theorem Hz:Gc 16=PN:=by decide +kernel
theorem L0 (k:Nat):(aI (Gc k)).setIfInBounds (k+16) (.int .u8 255)=aI (Gc (k+1)):=uz (Gc k) (k+16) 255 (by decide)
def GB (s:Sv):Bool:=decide (34<s.tb.length)
def yw (n:Nd):Bool:=decide (6<n.sc.length) || decide (18<n.fg.length)
def yE (h:Ho):Bool:=decide (10<h.ws.length) || (decide (10<h.hs.length) || decide (34<h.bx.length))
theorem Be (l:List V2) (k:Nat):(l.map (·.1)).getD k HC=(l.getD k d4).1:=by
 rw [au1,au1,aw5];cases l[k]? <;> rfl
theorem wt (l:List H4) (k:Nat):(l.map (·.1)).getD k oT=(l.getD k bp).1:=by
 rw [au1,au1,aw5];cases l[k]? <;> rfl
theorem Yf {X:Wx} {k:Nat} (hk:k<X.S.length) (h:GB (X.S.getD k d4).1=true):rQ (aH X)=true:=by
 unfold rQ
 rw [show (aH X).sv.any (λs=>decide (34<s.tb.length))=true from ax9.2 ⟨_,aw4.2 ⟨_,fY hk,rfl⟩,h⟩];rfl
theorem Qo {X:Wx} {k:Nat} (hk:k<X.L.length) (h:yw (X.L.getD k z3).1=true):rQ (aH X)=true:=by
 unfold rQ
 rw [show (aH X).ov.any (λn=>decide (6<n.sc.length) || decide (18<n.fg.length))=true from ax9.2 ⟨_,aw4.2 ⟨_,bU hk,rfl⟩,h⟩,Bool.true_or,Bool.or_true]
theorem Hp {X:Wx} {k:Nat} (hk:k<X.H.length) (h:yE (X.H.getD k bp).1=true):rQ (aH X)=true:=by
 unfold rQ
 rw [show (aH X).ho.any (λh=>decide (10<h.ws.length) || (decide (10<h.hs.length) || decide (34<h.bx.length)))=true from ax9.2 ⟨_,aw4.2 ⟨_,dK hk,rfl⟩,h⟩,Bool.true_or,Bool.or_true,Bool.or_true]
theorem zz {X:Wx} (h1:∀ j,j<X.S.length->GB (X.S.getD j d4).1=false) (h2:∀ j,j<X.L.length->yw (X.L.getD j z3).1=false) (h3:∀ j,j<X.H.length->yE (X.H.getD j bp).1=false):
 rQ (aH X)=(decide (18<X.S.length) || (decide (18<X.L.length) || (decide (18<X.H.length) || decide (66<X.M.l.length)))):=by
 have e1:(aH X).sv.any (λs=>decide (34<s.tb.length))=false:=ay0.2 λs hs=>by
  obtain ⟨x,hx,rfl⟩:=aw4.1 hs
  obtain ⟨j,hj,rfl⟩:=List.mem_iff_getElem.1 hx
  rw [YV hj];exact λh=>by have:=h1 j hj;unfold GB at this;rw [this] at h;cases h
 have e2:(aH X).ov.any (λn=>decide (6<n.sc.length) || decide (18<n.fg.length))=false:=ay0.2 λs hs=>by
  obtain ⟨x,hx,rfl⟩:=aw4.1 hs
  obtain ⟨j,hj,rfl⟩:=List.mem_iff_getElem.1 hx
  rw [pz hj];exact λh=>by have:=h2 j hj;unfold yw at this;rw [this] at h;cases h
 have e3:(aH X).ho.any (λh=>decide (10<h.ws.length) || (decide (10<h.hs.length) || decide (34<h.bx.length)))=false:=ay0.2 λs hs=>by
  obtain ⟨x,hx,rfl⟩:=aw4.1 hs
  obtain ⟨j,hj,rfl⟩:=List.mem_iff_getElem.1 hx
  rw [VB hj];exact λh=>by have:=h3 j hj;unfold yE at this;rw [this] at h;cases h
 unfold rQ
 rw [e1,e2,e3,Bool.false_or,Bool.false_or,Bool.false_or]
 show (decide (18<(X.S.map _).length) || (decide (18<(X.L.map _).length) || (decide (18<(X.H.map _).length) || _)))=_
 rw [av6,av6,av6];rfl
theorem Gu {a b:Wd}:ju a b=true↔a=b:=by
 unfold ju
 rw [as0,as0,as0,as5,as5,as5,IJ]
 exact ⟨λ⟨h1,h2,h3,h4⟩=>by cases a;cases b;simp only at h1 h2 h3 h4;subst h1;subst h2;subst h3;subst h4;rfl,λh=>by subst h;exact ⟨rfl,rfl,rfl,rfl⟩⟩
theorem uU {α:Type} {a b:Wd} (f:Wd->α) (h:f a≠f b):ju a b=false:=by
 cases e:ju a b with
 |false=>rfl
 |true=>exact az2 (ar8 f (Gu.1 e)) h
theorem ab1 {X Y:Wx} {k:Nat} (h:(X.S.getD k d4).1≠(Y.S.getD k d4).1):ju (aH X) (aH Y)=false:=
 uU (λW=>W.sv.getD k HC) (by show (X.S.map (·.1)).getD k HC≠(Y.S.map (·.1)).getD k HC;rw [Be,Be];exact h)
theorem aa7 {X Y:Wx} {k:Nat} (h:(X.H.getD k bp).1≠(Y.H.getD k bp).1):ju (aH X) (aH Y)=false:=
 uU (λW=>W.ho.getD k oT) (by show (X.H.map (·.1)).getD k oT≠(Y.H.map (·.1)).getD k oT;rw [wt,wt];exact h)
theorem ag9 {X Y:Wx} {k:Nat} (h:X.M.l.getD k gq≠Y.M.l.getD k gq):ju (aH X) (aH Y)=false:=uU (λW=>W.ml.l.getD k gq) h
theorem Nn {X Y:Wx} (l1:X.S.length=Y.S.length) (l2:X.H.length=Y.H.length) (l3:X.M.l.length=Y.M.l.length) (h1:∀ j,j<X.S.length->(X.S.getD j d4).1=(Y.S.getD j d4).1)
 (h2:∀ j,j<X.H.length->(X.H.getD j bp).1=(Y.H.getD j bp).1) (h3:∀ j,j<X.M.l.length->X.M.l.getD j gq=Y.M.l.getD j gq):
 ju (aH X) (aH Y)=(decide (X.M.last=Y.M.last) && (decide (X.M.now=Y.M.now) && uL (nds X.L) (nds Y.L))):=by
 have e1:(aH X).sv=(aH Y).sv:=by
  show X.S.map (·.1)=Y.S.map (·.1)
  refine List.ext_getElem (by simpa using l1) λj g1 g2=>?_
  rw [av6] at g1 g2
  rw [List.getElem_map,List.getElem_map,YV g1,YV g2];exact h1 j g1
 have e2:(aH X).ho=(aH Y).ho:=by
  show X.H.map (·.1)=Y.H.map (·.1)
  refine List.ext_getElem (by simpa using l2) λj g1 g2=>?_
  rw [av6] at g1 g2
  rw [List.getElem_map,List.getElem_map,VB g1,VB g2];exact h2 j g1
 have e3:(aH X).ml.l=(aH Y).ml.l:=List.ext_getElem l3 λj g1 g2=>by
  have g1:j<X.M.l.length:=g1
  have g2:j<Y.M.l.length:=g2
  have h9:=h3 j g1
  rw [au1,au1,as3 g1,as3 g2] at h9
  exact h9
 unfold ju qH
 rw [e1,e2,e3,ar7 rfl,ar7 rfl,ar7 rfl,Bool.true_and,Bool.true_and,Bool.true_and]
 show (decide (nds X.L=nds Y.L) && (decide (X.M.last=Y.M.last) && decide (X.M.now=Y.M.now)))=_
 unfold uL
 cases decide (nds X.L=nds Y.L)<;>cases decide (X.M.last=Y.M.last)<;>cases decide (X.M.now=Y.M.now)<;>rfl
theorem BdW.sx {X:Wx} (h:BdW (aH X)):X.S.length<=40:=by have:=h.sv;unfold aH at this;simpa using this
theorem BdW.hx {X:Wx} (h:BdW (aH X)):X.H.length<=40:=by have:=h.ho;unfold aH at this;simpa using this
theorem BdW.ox {X:Wx} (h:BdW (aH X)):X.L.length<=40:=by have:=h.ov;unfold aH nds at this;simpa using this
theorem BdW.se {X:Wx} (h:BdW (aH X)) {k:Nat} (hk:k<X.S.length):(X.S.getD k d4).1.tb.length<=1000:=ax0 (h.tb _ (aw4.2 ⟨_,fY hk,rfl⟩)) (by decide)
theorem BdW.he {X:Wx} (h:BdW (aH X)) {k:Nat} (hk:k<X.H.length):(X.H.getD k bp).1.ws.length<=1000/\(X.H.getD k bp).1.hs.length<=1000/\(X.H.getD k bp).1.bx.length<=1000:=by
 obtain ⟨a,b,c⟩:=h.hb _ (aw4.2 ⟨_,dK hk,rfl⟩)
 exact ⟨by omega,by omega,by omega⟩
theorem BdW.oe {X:Wx} (h:BdW (aH X)):RwB X.L:=⟨λy hy=>by
 have:=h.nd _ (aw4.2 ⟨y,hy,rfl⟩)
 omega⟩
theorem ae2:BdW I3:=⟨by decide,λs h=>(by cases h),by decide,λs h=>(by cases h),by decide,λs h=>(by cases h),by decide⟩
theorem af1:BdW UK:=⟨by decide,λs h=>(by obtain rfl:=as9.1 h;decide),by decide,λs h=>(by obtain rfl:=as9.1 h;exact ⟨by decide,by decide⟩),by decide,λs h=>(by cases h),by decide⟩
theorem ZK:BdW ug:=⟨by decide,λs h=>(by obtain rfl:=as9.1 h;decide),by decide,λs h=>(by obtain rfl:=as9.1 h;exact ⟨by decide,by decide⟩),by decide,λs h=>(by obtain rfl:=as9.1 h;exact ⟨by decide,by decide,by decide⟩),by decide⟩
theorem He {X:Wx} {W:Wd} (h:aH X=W) (hb:BdW W):BdW (aH X):=by rw [h];exact hb
theorem JZ {i:Nat} (hi:i<5) (h:gy i=4):i=0:=by
 have:∀ i<5,gy i=4->i=0:=by decide
 exact this i hi h
theorem Im {i:Nat} (hi:i<5) (h:gy i=5):i=1:=by
 have:∀ i<5,gy i=5->i=1:=by decide
 exact this i hi h
theorem Ss {i:Nat} (hi:i<5) (h:¬ gy i=4) (h':¬ gy i=5):2<=i/\12<=gy i:=by
 have:∀ i<5,¬ gy i=4->¬ gy i=5->2<=i/\12<=gy i:=by decide
 exact this i hi h h'
theorem xZ {W:Wd} (h:cg W=true) {n:Int} {i:Nat} (hi:i<5):(dD W (jU (gy i) n)).n.length=0:=by rw [VU h n i hi];rfl
theorem If {X Y:Wx} {n:Int} {i:Nat} (h:cg (aH X)=true) (hY:aH Y=(dD (aH X) (jU (gy i) n)).w) (hi:i=0):aH ⟨X.L,Y.S,Y.H,Y.M⟩=aH X:=by
 subst hi
 have h9:=Yk h n
 rw [← hY] at h9
 exact h9
theorem I2 {X Y:Wx} {n:Int} {i:Nat} (h:cg (aH X)=true) (hY:aH Y=(dD (aH X) (jU (gy i) n)).w) (hi:i=1) (he:(dD (aH X) (jU (gy i) n)).e=0):aH ⟨Y.L,Y.S,Y.H,⟨Y.M.l,Y.M.last,X.M.now⟩⟩=aH X:=by
 subst hi
 have h9:=XC h he
 rw [← hY] at h9
 exact h9
theorem Ir {X Y:Wx} {n:Int} {i:Nat} (h:cg (aH X)=true) (hY:aH Y=(dD (aH X) (jU (gy i) n)).w) (hi:i<5) (h2:2<=i) (he:(dD (aH X) (jU (gy i) n)).e=0):aH ⟨Y.L,Y.S,Y.H,X.M⟩=aH X:=by
 have h9:=Xl h hi h2 he
 rw [← hY] at h9
 exact h9
def Zw:List Value:=[.int .i64 4,.int .i64 5,.int .i64 12,.int .i64 13,.int .i64 14]
theorem SD:∀ v∈Zw,v.cells.size=1:=λv hv=>by
 unfold Zw at hv
 simp only [at1,at4,or_false] at hv
 rcases hv with rfl|rfl|rfl|rfl|rfl<;>rfl
theorem Th {i:Nat} (hi:i<5):Zw[i]? = some (.int .i64 (gy i)):=by
 match i,hi with
 |0,_=>rfl
 |1,_=>rfl
 |2,_=>rfl
 |3,_=>rfl
 |4,_=>rfl
theorem Yg (kd:Int):(kd.tmod 5+5) % 5=((pq kd 5:Nat):Int)/\pq kd 5<5:=NP kd (n:=5) (by decide)
structure RW (W:Wd):Prop where
 ov:RK (kI W.ov)
 ml:cn W.ml=true
 nos:W.sv.map (·.no)=W.ov.map (·.me.1)
 sv:∀ s∈W.sv,fI s=true
 en:∀ n∈W.ov,kC n.me.2=true
 ho:∀ h∈W.ho,cS h=true
 inc:W.ho.Pairwise λa b=>a.no<b.no
theorem RW.wd {W:Wd} (h:RW W):RWd W:=by
 have hl:W.sv.length=W.ov.length:=by have:=ar8 List.length h.nos;simpa using this
 refine ⟨h.ov.ov,h.ml,hl,λk hk=>?_,λk hk=>?_⟩
 ·have hk2:k<W.ov.length:=by omega
  unfold uT
  rw [as0,as0,as5]
  refine ⟨by rw [← svD hk];exact h.sv _ (ax6 hk),?_,by rw [← ndD hk2];exact h.en _ (ax6 hk2)⟩
  have h1:(W.sv.map (·.no))[k]? = (W.ov.map (·.me.1))[k]? := by rw [h.nos]
  rw [aw5,aw5,as3 hk,as3 hk2] at h1
  rw [← svD hk,← ndD hk2]
  simpa using h1
 ·unfold wY
  rw [as0]
  refine ⟨by rw [← Zr hk];exact h.ho _ (ax6 hk),?_⟩
  by_cases h0:0<k
  ·have:=List.pairwise_iff_getElem.1 h.inc (k - 1) k (by omega) hk (by omega)
   rw [Zr (show k - 1<W.ho.length by omega),Zr hk] at this
   rw [ar6 (show ¬ (W.ho.getD k oT).no<=(W.ho.getD (k - 1) oT).no by omega),Bool.and_false];rfl
  ·rw [ar6 h0];rfl
theorem RW.mail {W:Wd} (h:RW W) {m:Ml} (hm:cn m=true):RW {W with ml:=m}:=⟨h.ov,hm,h.nos,h.sv,h.en,h.ho,h.inc⟩
theorem DA {α:Type} {f:α->Int} {l:List α} {x y:α} (h:y∈kJ f l x):y=x∨y∈l:=by
 unfold kJ at h
 rcases av4.1 h with g|g
 ·exact .inr (au9.1 g).1
 ·rcases at1.1 g with g|g
  ·exact .inl g
  ·exact .inr (au9.1 g).1
theorem OM {α:Type} {f:α->Int} {l:List α} {x:α} (h:l.Pairwise λa b=>f a<f b):(kJ f l x).Pairwise λa b=>f a<f b:=by
 unfold kJ
 refine List.pairwise_append.2 ⟨h.filter _,List.pairwise_cons.2 ⟨λy hy=>?_,h.filter _⟩,λa ha b hb=>?_⟩
 ·exact ar4 (au9.1 hy).2
 ·have h1:=ar4 (au9.1 ha).2
  rcases at1.1 hb with rfl|hb
  ·exact h1
  ·have:=ar4 (au9.1 hb).2;omega
theorem ES {α:Type} {f:α->Int}:∀ {l:List α} {x:α},(l.Pairwise λa b=>f a<f b)->f x∈l.map f->(kJ f l x).map f=l.map f
 |[],x,_,h=>by simp at h
 |y::r,x,hp,h=>by
  have hp':=List.pairwise_cons.1 hp
  have hlo:∀ (q:α->Bool),(∀ z∈r,q z=true)->r.filter q=r:=λq hq=>List.filter_eq_self.2 hq
  have hno:∀ (q:α->Bool),(∀ z∈r,q z=false)->r.filter q=[]:=λq hq=>List.filter_eq_nil_iff.2 λz hz=>by rw [hq z hz];decide
  rcases at1.1 (by simpa using h:f x∈f y::r.map f) with e|hm
  ·unfold kJ
   rw [List.filter_cons_of_neg (by simp;omega),hno _ (λz hz=>ar6 (by have:=hp'.1 z hz;omega)),List.filter_cons_of_neg (by simp;omega),hlo _ (λz hz=>ar7 (by have:=hp'.1 z hz;omega))]
   simp [e]
  ·obtain ⟨z,hz,hzx⟩:=aw4.1 hm
   have hyx:f y<f x:=by have:=hp'.1 z hz;omega
   have ih:=ES (f:=f) (l:=r) (x:=x) hp'.2 hm
   unfold kJ at ih ⊢
   rw [List.filter_cons_of_pos (by simpa using hyx),List.filter_cons_of_neg (by simp;omega)]
   simp only [List.cons_append,List.map_cons]
   rw [ih]
theorem RW.putH {W:Wd} (h:RW W) {x:Ho} (hx:cS x=true):RW (nC W x):=
 ⟨h.ov,h.ml,h.nos,h.sv,h.en,λy hy=>by rcases DA hy with rfl|g;exact hx;exact h.ho y g,OM h.inc⟩
theorem RW.sinc {W:Wd} (h:RW W):W.sv.Pairwise λa b=>a.no<b.no:=by
 have h1:(W.ov.map (·.me.1)).Pairwise (· < ·):=List.pairwise_map.2 h.wd.ro.inc
 rw [← h.nos] at h1
 exact List.pairwise_map.1 h1
theorem RW.putS {W:Wd} (h:RW W) {x:Sv} (hx:fI x=true) (hn:x.no∈W.sv.map (·.no)):RW (pB W x):=
 ⟨h.ov,h.ml,(ES h.sinc hn).trans h.nos,λy hy=>by rcases DA hy with rfl|g;exact hx;exact h.sv y g,h.en,h.ho,h.inc⟩
theorem YM {W:Wd} {fr:Int} {s:Se} (h:m3 W fr s=0):db W.ml fr (Lf W fr s) (cL s.2.1)=0:=by
 unfold m3 at h
 cases h9:decide (MT W fr s=0) with
 |true=>rw [h9] at h;exact h
 |false=>rw [h9] at h;exact az2 h (ar5 h9)
theorem RW.post {t:Pt} (h:RW t.w) (fr:Int) (s:Se):RW (bA t fr s).w:=by
 rcases Bv t fr s with ⟨h0,e⟩|⟨_,e⟩
 ·rw [e];exact h.mail (Co (YM h0))
 ·rw [e];exact h
theorem RW.pstK:∀ (l:List Se) {t:Pt} (_:RW t.w) (fr:Int),RW (DD t fr l).w
 |[],_,h,_=>h
 |s::l,_,h,fr=>RW.pstK l (h.post fr s) fr
theorem RW.lost {W:Wd} (h:RW W) (x:Lt) (y:Int):RW (rg W x y).w:=h
theorem RW.hst {W:Wd} (h:RW W) (y:Ho) (x:Lt) (m:Mg):RW (MZ W y x m).w:=by
 unfold MZ
 cases he:decide ((jx y x.2.1 m W.ml.now).e=0) with
 |false=>exact h.lost x _
 |true=>
  have hp:RW (nC W (jx y x.2.1 m W.ml.now).h):=h.putH (JX (ar4 he)).1
  show RW (DD (bif _ then _ else _) _ _).w
  refine RW.pstK _ ?_ _
  cases decide (m.k=1)<;>exact hp
theorem nN (E:List Nd):aQ (kI E)=ia E:=by unfold kI ia aQ;rw [List.map_map];rfl
theorem RW.over {W:Wd} (h:RW W) {E:List Nd} (hE:RK (kI E)) (hm:ia E=ia W.ov):RW {W with ov:=E}:=by
 have hm1:E.map (·.me.1)=W.ov.map (·.me.1):=by
  have:=ar8 (List.map (·.1)) hm
  unfold ia at this
  rwa [List.map_map,List.map_map] at this
 refine ⟨hE,h.ml,h.nos.trans hm1.symm,h.sv,λn hn=>?_,h.ho,h.inc⟩
 have:n.me∈ia E:=aw4.2 ⟨n,hn,rfl⟩
 rw [hm] at this
 obtain ⟨z,hz,e⟩:=aw4.1 this
 rw [← e];exact h.en z hz
theorem Vh {E:List Nd} {no:Int} (h:RK (kI E)) (hl:ck (ia E) no=true):RK (kI (iq E no))/\ia (iq E no)=ia E:=by
 have hl':ck (aQ (kI E)) no=true:=by rw [nN];exact hl
 have hK:nds (kI (iq E no))=iq (nds (kI E)) no:=by rw [Bn,Bn]
 have:=(DR h.rs hl' hK).2
 rw [nN,nN] at this
 exact ⟨Od h hl' hK,this⟩
theorem RK.live {E:List Nd} (h:RK (kI E)) {m:Mb} (hm:m∈ia E):ck (ia E) m.1=true:=by
 rw [← nN] at hm ⊢
 exact(jz h.rs.nos).2 ⟨m,hm,rfl⟩
theorem EB:∀ (ms:List Mb) {E:List Nd} (_:RK (kI E)) (_:∀ m∈ms,m∈ia E),RK (kI (ms.foldl (λF m=>iq F m.1) E))/\ia (ms.foldl (λF m=>iq F m.1) E)=ia E
 |[],_,h,_=>⟨h,rfl⟩
 |m::ms,E,h,hm=>by
  obtain ⟨h1,h2⟩:=Vh h (RK.live h (hm m at0))
  obtain ⟨h3,h4⟩:=EB ms h1 λx hx=>by rw [h2];exact hm x (au0 _ hx)
  exact ⟨h3,h4.trans h2⟩
theorem RW.rnd {W:Wd} (h:RW W):RW (Ga W).w:=by
 obtain ⟨h1,h2⟩:=EB (ia W.ov) h.ov λm hm=>hm
 exact h.over h1 h2
theorem KT (L:List N3) (k:Nat):((kI (nds L)).getD k z3).1=(L.getD k z3).1:=by
 unfold kI nds
 rw [au1,au1,aw5,aw5]
 cases L[k]? <;> rfl
theorem Ow (L:List N3):kH (kI (nds L))=kH L:=by
 have e1:(kI (nds L)).length=L.length:=by unfold kI nds;rw [av6,av6]
 have e2:aQ (kI (nds L))=aQ L:=by rw [nN,ec]
 unfold kH
 have:kK (kI (nds L))=kK L:=funext λk=>by unfold kK;rw [KT,KT,e2]
 rw [e1,e2,this]
theorem PA {x:Id} {k:Nat} (hk:k<16) (h:¬ bQ x (k+16)=255):kC x=false:=by
 rw [← Bool.not_eq_true]
 intro h9
 exact h (ar4 (as1.1 h9 k (at2.2 hk)))
theorem OX {x:Id} (h:∀ j,j<16->bQ x (j+16)=255):kC x=true:=
 as1.2 λj hj=>ar7 (h j (at2.1 hj))
theorem BV (X:Wx):(aH X).sv.length=X.S.length/\(aH X).ov.length=X.L.length/\(aH X).ho.length=X.H.length:=⟨av6 _,av6 _,av6 _⟩
theorem n3m (L:List N3) (k:Nat):(nds L).getD k zN=(L.getD k z3).1:=by
 unfold nds
 rw [au1,au1,aw5];cases L[k]? <;> rfl
theorem SX (X:Wx) (k:Nat):uT (aH X) k=(fI (X.S.getD k d4).1 && (decide ((X.S.getD k d4).1.no=(X.L.getD k z3).1.me.1) && kC (X.L.getD k z3).1.me.2)):=by
 unfold uT
 rw [show (aH X).sv.getD k HC=(X.S.getD k d4).1 from Be X.S k,show (aH X).ov.getD k zN=(X.L.getD k z3).1 from n3m X.L k]
theorem Za (l:List H4) (j:Nat) (hj:j<l.length):(aM l)[j*5+0]? = some (.int .i64 (l.getD j bp).1.no):=by
 have h1:=ar8 (λa:Array Value=>a[0]?) (ny l j hj)
 rw [show ∀ x:H4,(bE x.1.no x.1.gt x.2.1 x.2.2.1 x.2.2.2)[0]? = some (.int .i64 x.1.no) from λ_=>rfl] at h1
 rw [← h1];simp
def Zk (vo vs vh vl:Value) (la nw:Int) (vn:Value):List Value:=[vo,vs,vh,vl,.int .i64 la,.int .i64 nw,vn]
def dZ (vo vs vh vl:Value) (la nw:Int) (vn:Value):Array Value:=(Zk vo vs vh vl la nw vn).toArray
def crZ:List (List Value):=[[au,au,au,au,.int .i64 0,.int .i64 0],[au]]
section
variable (vo vs vh vl:Value) (la nw:Int) (vn:Value)
theorem gH:(dZ vo vs vh vl la nw vn).size=7:=rfl
theorem ae7:(dZ vo vs vh vl la nw vn).extract 0 (0+6)=dV vo vs vh vl la nw:=rfl
theorem Vl:(dZ vo vs vh vl la nw vn).extract 0 (0+1)=#[vo]:=rfl
theorem IF:(dZ vo vs vh vl la nw vn).extract 3 (3+3)=#[vl,.int .i64 la,.int .i64 nw]:=rfl
theorem ad4:(dZ vo vs vh vl la nw vn)[1]? = some vs:=rfl
theorem ae5:(dZ vo vs vh vl la nw vn)[2]? = some vh:=rfl
theorem QZ:(dZ vo vs vh vl la nw vn)[5]? = some (.int .i64 nw):=rfl
theorem X2:(dZ vo vs vh vl la nw vn)[6]? = some vn:=rfl
end
theorem HU {vo vs vh vl vn:Value} (la nw:Int) (h1:vo.oneCell'=true) (h2:vs.oneCell'=true) (h3:vh.oneCell'=true) (h4:vl.oneCell'=true) (h5:vn.oneCell'=true):∀ u∈(dZ vo vs vh vl la nw vn).toList,u.oneCell'=true:=λu hu=>by
 have hu:u∈Zk vo vs vh vl la nw vn:=hu
 unfold Zk at hu
 simp only [at1,at4,or_false] at hu
 rcases hu with rfl|rfl|rfl|rfl|rfl|rfl|rfl<;>first|assumption|rfl
structure RdC (w:World) (vo vl:Value) (X:Wx):Prop where
 ov:kB w vo X.L
 sw:∀ x∈X.S,Mk w x.2 x.1.tb
 hw:∀ x∈X.H,ma w x.2.1 x.2.2.1 x.2.2.2 x.1
 ml:br w vl 4 X.M.l.length (bw X.M.l)
theorem RdC.keep {w w':World} {vo vl:Value} {X:Wx} (h:RdC w vo vl X) (e:Ext w w'):RdC w' vo vl X:=
 ⟨⟨h.ov.1.keep e,λx hx=>⟨(h.ov.2 x hx).1.keep e,(h.ov.2 x hx).2.keep e⟩⟩,λx hx=>(h.sw x hx).keep e,λx hx=>⟨(h.hw x hx).1.keep e,(h.hw x hx).2.1.keep e,(h.hw x hx).2.2.keep e⟩,h.ml.keep e⟩
abbrev VN (c:Nat) (tc ts th tn:TypeId) (vo vs vh vl vn:Value) (X:Wx) (N:List Nt) (kk:List Nat) (B9:List Own):List Own:=
 .blk c (.cells (dZ vo vs vh vl X.M.last X.M.now vn) tc)::.sl vs ts 3 X.S.length (aR X.S)::.sl vh th 5 X.H.length (aM X.H)::.sl vn tn 74 N.length (aW N)::.grp kk (λw9=>RdC w9 vo vl X)::B9
def Cf (w0:World) (c:Nat) (tc ts th tn:TypeId) (R:Wr) (B9:List Own) (v:Value) (w9:World):Prop:=
 v=.int .i64 R.e/\∃ vo vs vh vl vn Y N kk,(R.e=0->aH Y=R.w/\N=R.n)/\St w0 (VN c tc ts th tn vo vs vh vl vn Y N kk B9) w9
def ah6 (P:Program) (g:FuncId) (tc ts th tn:TypeId) (X0:Wx) (a:Ac) (va:Value):Prop:=
 ∀ (vo vs vh vl vn:Value) (X:Wx) (kk:List Nat) (c:Nat) (B9:List Own) (w0 w:World),aH X=aH X0->(∀ w9,St w0 B9 w9->gf w9 va a.l)->
  St w0 (VN c tc ts th tn vo vs vh vl vn X [] kk B9) w->Calls P g [.pointer (some ⟨c,0,none⟩),.agg (bM a va)].toArray w (λe w9=>∃ v,e=.returned v/\Cf w0 c tc ts th tn (Bo (aH X0) a a.k.toNat) B9 v w9)
theorem St.dropN {w0 w:World} {B:List Own} (n:Nat) (s:St w0 B w):St w0 (B.drop n) w:=s.pick _ (List.drop_sublist _ _)
theorem QR {w0 w:World} {B:List Own} {kk:List Nat} {vo vl vx:Value} {X:Wx} {e:TypeId} {m:Ml} (s:St w0 (.sl vx e 4 m.l.length (bw m.l)::.grp kk (λw9=>RdC w9 vo vl X)::B) w):∃ kn,St w0 (.grp kn (λw9=>RdC w9 vo vx {X with M:=m})::B) w:=
 ⟨_,(St.group (A:=[.sl vx e 4 m.l.length (bw m.l),.grp kk (λw9=>RdC w9 vo vl X)]) (B:=B) s).weak λw9 h9=>
  have h:=(h9 (.grp kk (λw9=>RdC w9 vo vl X)) (by simp)).2 w9 λ_ _=>rfl
  ⟨h.ov,h.sw,h.hw,br.of_own (h9 (.sl vx e 4 m.l.length (bw m.l)) (by simp))⟩⟩
theorem Qw {w0 w:World} {B:List Own} {k1 kk:List Nat} {vo vl vp:Value} {X:Wx} {L:List N3} (s:St w0 (.grp k1 (λw9=>EY vo X.L w9->kB w9 vp L)::.grp kk (λw9=>RdC w9 vo vl X)::B) w):St w0 (.grp (k1++kk) (λw9=>RdC w9 vp vl {X with L:=L})::B) w:=
 s.merge λw9 a h=>⟨a h.ov,h.sw,h.hw,h.ml⟩
theorem Ta {w0 w:World} {c:Nat} {tc ts th tn:TypeId} {vo vs vh vl vn:Value} {X:Wx} {N:List Nt} {kk:List Nat} {B9:List Own} (s:St w0 (VN c tc ts th tn vo vs vh vl vn X N kk B9) w):
 ∃ kn,St w0 [.grp kn λw9=>RdW w9 vo vs vh vl X/\br w9 vn 74 N.length (aW N)] w:=by
 have s1:=s.sel [1,2,3,4] (B':=[.sl vs ts 3 X.S.length (aR X.S),.sl vh th 5 X.H.length (aM X.H),.sl vn tn 74 N.length (aW N),.grp kk (λw9=>RdC w9 vo vl X)]) rfl (by decide)
 exact ⟨_,(St.group (A:=[.sl vs ts 3 X.S.length (aR X.S),.sl vh th 5 X.H.length (aM X.H),.sl vn tn 74 N.length (aW N),.grp kk (λw9=>RdC w9 vo vl X)]) (B:=[]) s1).weak λw9 h9=>
  have h:=(h9 (.grp kk (λw9=>RdC w9 vo vl X)) (by simp)).2 w9 λ_ _=>rfl
  ⟨⟨h.ov,br.of_own (h9 (.sl vs ts 3 X.S.length (aR X.S)) (by simp)),h.sw,br.of_own (h9 (.sl vh th 5 X.H.length (aM X.H)) (by simp)),h.hw,h.ml⟩,br.of_own (h9 (.sl vn tn 74 N.length (aW N)) (by simp))⟩⟩
def Uu (R:Wr):Prop:=R.e=0∨(R.w=I3/\R.n=[])
theorem Pw (e:Int):Uu (gu e):=.inr ⟨rfl,rfl⟩
theorem RX (W:Wd):Uu (jf W):=.inl rfl
theorem Pg (t:Pt):Uu (oh t):=.inl rfl
theorem Tm {c:Bool} {a b:Wr} (h:Uu a) (h':Uu b):Uu (bif c then a else b):=by cases c<;>assumption
theorem EQ (W:Wd) (a:Ac) (k:Nat):Uu (Bo W a k):=by
 unfold Bo
 split<;>(try unfold oI)<;>(try unfold XU)<;>(try unfold Ys)<;>(try unfold Ga)<;>(try unfold sS)<;>(try unfold qK)<;>(try unfold Xq)<;>(try unfold W6)<;>(try unfold Xa)<;>(try unfold nH)<;>(try unfold xp)<;>(try unfold wj)<;>(try unfold vP)<;>(try unfold Yr)<;>(try unfold Zc)<;>(try unfold X6)<;>(try unfold Yt)<;>(try unfold TB)<;>(try unfold MZ)<;>(try unfold rg)<;>repeat (first|exact Pw _|exact RX _|exact Pg _|apply Tm)
theorem WG {w0 w:World} {c:Nat} {tc ts th tn:TypeId} {po ps ph pl va:Value} {X:Wx} {l:List dN} {R:Wr} {vo vs vh vl vn:Value} {Y:Wx} {N:List Nt} {kk:List Nat} {B9:List Own} (hr:R.e=0->aH Y=R.w/\N=R.n) (he:R.e=0)
 (s:St w0 (VN c tc ts th tn vo vs vh vl vn Y N kk B9) w):GT w0 po ps ph pl X va l R (.tuple #[.agg (dV vo vs vh vl Y.M.last Y.M.now),vn,.int .i64 0]) w:=by
 obtain ⟨kn,s⟩:=Ta s
 obtain ⟨h1,h2⟩:=hr he
 refine ⟨vo,vs,vh,vl,vn,Y,kn,by rw [he],h1,s.weak λw9 h9 _ _=>?_⟩
 rw [← h2];exact h9
theorem WU {w0 w:World} {po ps ph pl va:Value} {X:Wx} {l:List dN} {R:Wr} {B:List Own} {e:Int} (hw:R.w=I3) (hn:R.n=[]) (he:R.e=e) (s:St w0 B w):GT w0 po ps ph pl X va l R (.tuple #[.agg (dV au au au au 0 0),au,.int .i64 e]) w:=
 ⟨au,au,au,au,au,Zo,[],by rw [he];rfl,hw.symm,(s.pick [] (at5 _)).grp0 λw9 _ _=>⟨dR w9,by rw [hn];exact ⟨rfl,.inl ⟨rfl,rfl⟩⟩⟩⟩
section
variable {P:Program} {ρ:Operand->Value} {d:Option Tmp} {t ty:TypeId} {pos:String} {af:Array Edge} {g:Option (Nat × Bool)} {x y z u:Operand}
theorem zX {vo vs vh vl:Value} {la nw:Int} (S:Stt P t crZ) (hx:ρ x=.agg (dV vo vs vh vl la nw)):a7 P ⟨d,.build t #[(0,x)],ty,pos,af,g⟩ ρ (.agg (dZ vo vs vh vl la nw au)):=by
 have:=bk (P:=P) (ρ:=ρ) (d:=d) (ty:=ty) (pos:=pos) (af:=af) (g:=g) (parts:=#[(0,x)]) S [(0,.agg (dV vo vs vh vl la nw))] (by simp [hx]) (λj q hm=>by
  simp only [at1,ax3,at4,or_false] at hm
  obtain ⟨rfl,rfl⟩:=hm
  exact ⟨_,rfl,rfl⟩) (D:=Zk vo vs vh vl la nw au) (by
   show (dV vo vs vh vl la nw).toList++([au]++[])=_
   rfl)
 exact this
theorem sW {a b c:Int} (S:Stt P t ntZ) (hx:ρ x=.int .i64 a) (hy:ρ y=.int .i64 b) (hz:ρ z=.int .i64 c):a7 P ⟨d,.build t #[(0,x),(2,y),(7,z)],ty,pos,af,g⟩ ρ (.agg (xR a 0 b 0 0 eA ByteArray.empty c)):=by
 have:=bk (P:=P) (ρ:=ρ) (d:=d) (ty:=ty) (pos:=pos) (af:=af) (g:=g) (parts:=#[(0,x),(2,y),(7,z)]) S [(0,.int .i64 a),(2,.int .i64 b),(7,.int .i64 c)] (by simp [hx,hy,hz]) (λj u hm=>by
  simp only [at1,ax3,at4,or_false] at hm
  rcases hm with ⟨rfl,rfl⟩|⟨rfl,rfl⟩|⟨rfl,rfl⟩<;>exact ⟨_,rfl,rfl⟩) (D:=Rv a 0 b 0 0 eA ByteArray.empty c) (by
   show [Value.int .i64 a]++([Value.int .i64 0]++([Value.int .i64 b]++([Value.int .i64 0]++([Value.int .i64 0]++(PK.flatten++([Value.string ByteArray.empty]++([Value.int .i64 c]++[])))))))=_
   rw [← Jr];rfl)
 exact this
theorem vz {n:Int} {s:ByteArray} (S:Stt P t svZ) (hx:ρ x=.int .i64 n) (hy:ρ y=.string s):a7 P ⟨d,.build t #[(0,x),(1,y)],ty,pos,af,g⟩ ρ (.agg (de n s au)):=by
 have:=bk (P:=P) (ρ:=ρ) (d:=d) (ty:=ty) (pos:=pos) (af:=af) (g:=g) (parts:=#[(0,x),(1,y)]) S [(0,.int .i64 n),(1,.string s)] (by simp [hx,hy]) (λj u hm=>by
  simp only [at1,ax3,at4,or_false] at hm
  rcases hm with ⟨rfl,rfl⟩|⟨rfl,rfl⟩<;>exact ⟨_,rfl,rfl⟩) (D:=VE n s au) rfl
 exact this
end
theorem KC (x:Id):(aI x).extract 16 (16+16)=((eR x).drop 16).toArray:=by
 show ((eR x).toArray).extract 16 32=_
 rw [List.extract_toArray,List.extract_eq_take_drop]
 rw [au4 (by rw [au7,kN];exact at6 _)]
theorem pp (x:Id):((eR x).drop 16).toArray.size=16:=by rw [List.size_toArray,au7,kN]
theorem Il (x:Id) {k:Nat} (hk:k<16):((eR x).drop 16).toArray.toList[k]? = some (.int .u8 (bQ x (k+16):Int)):=by
 rw [show k+16=16+k from Nat.add_comm _ _]
 rw [ay3]
 exact pD x (16+k) (by omega)
def nD (S:List V2) (L:List N3):Bool:=decide (S.length=L.length) && (List.range S.length).all λk=>fI (S.getD k d4).1 && decide ((S.getD k d4).1.no=(L.getD k z3).1.me.1)
def mi (L:List N3):Bool:=kH L && (List.range L.length).all λk=>kC (L.getD k z3).1.me.2
def rV (H:List H4):Bool:=(List.range H.length).all λk=>wY (H.map (·.1)) k
theorem UU {n:Nat} {f:Nat->Bool} (h:∀ j,j<n->f j=true):(List.range n).all f=true:=as1.2 λj hj=>h j (at2.1 hj)
theorem u3 {n k:Nat} {f:Nat->Bool} (hk:k<n) (h:f k=false):(List.range n).all f=false:=by
 rw [← Bool.not_eq_true,as1]
 intro h9
 have:=h9 k (at2.2 hk)
 rw [h] at this;cases this
theorem Ao (X:Wx):cg (aH X)=(mi X.L && (nD X.S X.L && (rV X.H && cn X.M))):=by
 rw [ay1]
 have e1:kH (kI (aH X).ov)=kH X.L:=Ow X.L
 have e2:(aH X).sv.length=X.S.length:=(BV X).1
 have e3:(aH X).ov.length=X.L.length:=(BV X).2.1
 have e4:(aH X).ho.length=X.H.length:=(BV X).2.2
 unfold cg mi nD rV
 rw [e1,e2,e3,e4]
 simp only [as0,as1,at2,as5,SX]
 constructor
 ·rintro ⟨a,b,c,d,e⟩
  exact ⟨⟨a,λk hk=>(d k (by omega)).2.2⟩,⟨c,λk hk=>⟨(d k hk).1,(d k hk).2.1⟩⟩,e,b⟩
 ·rintro ⟨⟨a,f⟩,⟨c,d⟩,e,b⟩
  exact ⟨a,b,c,λk hk=>⟨(d k hk).1,(d k hk).2,f k (by omega)⟩,e⟩
theorem S0 (L:List N3) (h:kH L=false):mi L=false:=by unfold mi;rw [h];rfl
theorem I8 {L:List N3} {k:Nat} (hk:k<L.length) (h:kC (L.getD k z3).1.me.2=false):mi L=false:=by unfold mi;rw [u3 hk h,Bool.and_false]
theorem KI {L:List N3} (h:kH L=true) (h1:∀ j,j<L.length->kC (L.getD j z3).1.me.2=true):mi L=true:=by unfold mi;rw [h,UU h1];rfl
theorem Vm {S:List V2} {L:List N3} (h:¬ S.length=L.length):nD S L=false:=by unfold nD;rw [ar6 h];rfl
theorem yC {S:List V2} {L:List N3} {k:Nat} (hk:k<S.length) (h:(fI (S.getD k d4).1 && decide ((S.getD k d4).1.no=(L.getD k z3).1.me.1))=false):nD S L=false:=by unfold nD;rw [u3 hk h,Bool.and_false]
theorem Mi {S:List V2} {L:List N3} (h:S.length=L.length) (h1:∀ j,j<S.length->(fI (S.getD j d4).1 && decide ((S.getD j d4).1.no=(L.getD j z3).1.me.1))=true):nD S L=true:=by unfold nD;rw [ar7 h,UU h1];rfl
theorem J0 {L:List N3} (k:Nat):(aQ L).getD k bz=(L.getD k z3).1.me:=by
 unfold aQ
 rw [au1,au1,aw5];cases L[k]? <;> rfl
theorem sL (H:List H4) (k:Nat):wY (H.map (·.1)) k=(cS (H.getD k bp).1 && !(decide (0<k) && decide ((H.getD k bp).1.no<=(H.getD (k - 1) bp).1.no))):=by
 unfold wY
 rw [wt,wt]
theorem BdW.s8 {X:Wx} (h:BdW (aH X)):X.S.length<=1000:=by have:=h.sx;omega
theorem BdW.h8 {X:Wx} (h:BdW (aH X)):X.H.length<=1000:=by have:=h.hx;omega
theorem BdW.s9 {X:Wx} (h:BdW (aH X)):∀ x∈X.S,x.1.tb.length<=1000:=λx hx=>ax0 (h.tb _ (aw4.2 ⟨x,hx,rfl⟩)) (by decide)
theorem BdW.h9 {X:Wx} (h:BdW (aH X)):∀ x∈X.H,B9 x.1:=λx hx=>by
 obtain ⟨k,hk,e⟩:=ax7 hx
 have h1:=h.he hk
 rw [VB hk |>.symm,e] at h1
 exact h1
theorem iB {α:Type} (C:α->List Value) (sz:Nat) (hC:∀ x,(C x).length=sz) (z:α):∀ (l:List α) {j off:Nat},j<l.length->off<sz->∀ {V:Value} {x:α},(C (l.getD j z)).set off V=C x->(l.flatMap C).set (j*sz+off) V=(l.set j x).flatMap C
 |[],_,_,hj,_,_,_,_=>az2 hj (ax1 _)
 |a::l,0,off,_,ho,V,x,h=>by
  rw [List.flatMap_cons,List.set_cons_zero,List.flatMap_cons,Nat.zero_mul,Nat.zero_add,List.set_append_left _ _ (by rw [hC];exact ho)]
  rw [← h];rfl
 |a::l,j+1,off,hj,ho,V,x,h=>by
  have hj':j<l.length:=by simpa using hj
  rw [List.flatMap_cons,List.set_cons_succ,List.flatMap_cons,List.set_append_right _ _ (by rw [hC,Nat.succ_mul];omega),hC,show (j+1)*sz+off - sz=j*sz+off by rw [Nat.succ_mul];omega,
   iB C sz hC z l hj' ho h]
theorem gN {α:Type} (C:α->List Value) (sz:Nat) (hC:∀ x,(C x).length=sz) (z:α):∀ (l:List α) {j off:Nat},j<l.length->off<sz->(l.flatMap C)[j*sz+off]? = (C (l.getD j z))[off]?
 |[],_,_,hj,_=>az2 hj (ax1 _)
 |a::l,0,off,_,ho=>by
  rw [List.flatMap_cons,Nat.zero_mul,Nat.zero_add,av3 (by rw [hC];exact ho)];rfl
 |a::l,j+1,off,hj,ho=>by
  have hj':j<l.length:=by simpa using hj
  rw [List.flatMap_cons,av2 (by rw [hC,Nat.succ_mul];omega),hC,show (j+1)*sz+off - sz=j*sz+off by rw [Nat.succ_mul];omega,gN C sz hC z l hj' ho];rfl
theorem sj {α:Type} (C:α->List Value) (l:List α) (h:∀ x∈l,∀ u∈C x,u.oneCell'=true):∀ u∈l.flatMap C,u.oneCell'=true:=λu hu=>by
 obtain ⟨x,hx,hu⟩:=List.mem_flatMap.1 hu
 exact h x hx u hu
theorem u4 {l:List V2} (h:∀ x∈l,x.2.oneCell'=true):∀ u∈aR l,u.oneCell'=true:=sj _ l λx hx u hu=>by
 have hu:u∈[Value.int .i64 x.1.no,.string x.1.sec,x.2]:=hu
 simp only [at1,at4,or_false] at hu
 rcases hu with rfl|rfl|rfl
 ·rfl
 ·rfl
 ·exact h x hx
theorem wh {l:List H4} (h:∀ x∈l,x.2.1.oneCell'=true/\x.2.2.1.oneCell'=true/\x.2.2.2.oneCell'=true):∀ u∈aM l,u.oneCell'=true:=sj _ l λx hx u hu=>by
 have hu:u∈[Value.int .i64 x.1.no,.int .i64 x.1.gt,x.2.1,x.2.2.1,x.2.2.2]:=hu
 simp only [at1,at4,or_false] at hu
 obtain ⟨a,b,c⟩:=h x hx
 rcases hu with rfl|rfl|rfl|rfl|rfl
 ·rfl
 ·rfl
 ·exact a
 ·exact b
 ·exact c
theorem U6 {l:List V2} {j:Nat} (hj:j<l.length):(aR l)[j*3+2]? = some (l.getD j d4).2:=gN tq 3 n4 d4 l hj (by decide)
theorem K0 {l:List H4} {j:Nat} (hj:j<l.length):(aM l)[j*5+0]? = some (.int .i64 (l.getD j bp).1.no):=gN oA 5 g8 bp l hj (by decide)
theorem TA {l:List H4} {j:Nat} (hj:j<l.length):(aM l)[j*5+2]? = some (l.getD j bp).2.1:=gN oA 5 g8 bp l hj (by decide)
theorem SV {l:List H4} {j:Nat} (hj:j<l.length):(aM l)[j*5+3]? = some (l.getD j bp).2.2.1:=gN oA 5 g8 bp l hj (by decide)
theorem Ug {l:List H4} {j:Nat} (hj:j<l.length):(aM l)[j*5+4]? = some (l.getD j bp).2.2.2:=gN oA 5 g8 bp l hj (by decide)
theorem Qh {l:List V2} {j:Nat} (hj:j<l.length) (V:Value):(aR l).set (j*3+2) V=aR (l.set j ((l.getD j d4).1,V)):=iB tq 3 n4 d4 l hj (by decide) rfl
theorem Py {l:List H4} {j:Nat} (hj:j<l.length) (V:Value):(aM l).set (j*5+2) V=aM (l.set j ((l.getD j bp).1,V,(l.getD j bp).2.2)):=iB oA 5 g8 bp l hj (by decide) rfl
theorem P7 {l:List H4} {j:Nat} (hj:j<l.length) (V:Value):(aM l).set (j*5+3) V=aM (l.set j ((l.getD j bp).1,(l.getD j bp).2.1,V,(l.getD j bp).2.2.2)):=iB oA 5 g8 bp l hj (by decide) rfl
theorem Qe {l:List H4} {j:Nat} (hj:j<l.length) (V:Value):(aM l).set (j*5+4) V=aM (l.set j ((l.getD j bp).1,(l.getD j bp).2.1,(l.getD j bp).2.2.1,V)):=iB oA 5 g8 bp l hj (by decide) rfl
theorem qy {α:Type} {l:List α} {j:Nat} (hj:j<l.length) (x z:α):(l.set j x).getD j z=x:=by
 rw [au1,List.getElem?_set_self hj];rfl
theorem HW {α:Type} {l:List α} {i j:Nat} (h:i≠j) (x z:α):(l.set j x).getD i z=l.getD i z:=by
 rw [au1,List.getElem?_set_ne (λe=>h e.symm),au1]
theorem zy {α β:Type} (f:α->β) {l:List α} {j:Nat} {x z:α} (hj:j<l.length) (h:f x=f (l.getD j z)):(l.set j x).map f=l.map f:=by
 rw [List.map_set]
 apply List.ext_getElem?
 intro i
 by_cases e:j=i
 ·subst e
  rw [List.getElem?_set_self (by rw [av6];exact hj),aw5,as3 hj,h,au1,as3 hj];rfl
 ·rw [List.getElem?_set_ne e]
theorem KJ {α:Type} {l:List α} {j:Nat} (hj:j<l.length) (x:α):(l.set j x).take (j+1)=l.take j++[x]:=by
 rw [List.take_set,List.take_succ_eq_append_getElem hj,List.set_append_right _ _ (by rw [av5];omega)]
 rw [av5,Nat.min_eq_left (by omega),Nat.sub_self];rfl
theorem As {α:Type} {Q:α->Prop} {l:List α} {j:Nat} {x:α} (hj:j<l.length) (h:∀ y∈l.take j,Q y) (hx:Q x):∀ y∈(l.set j x).take (j+1),Q y:=λy hy=>by
 rw [KJ hj] at hy
 rcases av4.1 hy with hy|hy
 ·exact h y hy
 ·rw [as9.1 hy];exact hx
def FU (l:List V2) (w:World):Prop:=∀ x∈l,Mk w x.2 x.1.tb
def xn (l:List H4) (w:World):Prop:=∀ x∈l,ma w x.2.1 x.2.2.1 x.2.2.2 x.1
theorem St.slG {w0 w:World} {a:Value} {M:TypeId} {sa n:Nat} {xs:List Value} {ks:List Nat} {S S':World->Prop} {B:List Own} (s:St w0 (.sl a M sa n xs::.grp ks S::B) w) (h:∀ w9,br w9 a sa n xs->S w9->S' w9):∃ kn,St w0 (.grp kn S'::B) w:=
 ⟨_,(St.group (A:=[.sl a M sa n xs,.grp ks S]) (B:=B) s).weak λw9 h9=>h w9 (br.of_own (h9 (.sl a M sa n xs) (by simp))) ((h9 (.grp ks S) (by simp)).2 w9 λ_ _=>rfl)⟩
theorem St.sl3G {w0 w:World} {a b c:Value} {M N K:TypeId} {sa sb sc n m k:Nat} {xs ys zs:List Value} {ks:List Nat} {S S':World->Prop} {B:List Own} (s:St w0 (.sl a M sa n xs::.sl b N sb m ys::.sl c K sc k zs::.grp ks S::B) w) (h:∀ w9,br w9 a sa n xs->br w9 b sb m ys->br w9 c sc k zs->S w9->S' w9):∃ kn,St w0 (.grp kn S'::B) w:=
 ⟨_,(St.group (A:=[.sl a M sa n xs,.sl b N sb m ys,.sl c K sc k zs,.grp ks S]) (B:=B) s).weak λw9 h9=>h w9 (br.of_own (h9 (.sl a M sa n xs) (by simp))) (br.of_own (h9 (.sl b N sb m ys) (by simp))) (br.of_own (h9 (.sl c K sc k zs) (by simp))) ((h9 (.grp ks S) (by simp)).2 w9 λ_ _=>rfl)⟩
def CpW (w:World) (ts th:TypeId) (X:Wx):dz:=λv w9=>∃ uo us uh ul Y ks,v=.agg (dV uo us uh ul X.M.last X.M.now)/\aH Y=aH X/\St w [.sl us ts 3 Y.S.length (aR Y.S),.sl uh th 5 Y.H.length (aM Y.H),.grp ks λw9=>RdC w9 uo ul Y] w9
theorem SC {w w9:World} {tn ts th tl:TypeId} {X:Wx} {uo us uh ul:Value} {Kn:List N3} {Ks:List V2} {Kh:List H4} {k1 k2 k3:List Nat} (e1:nds Kn=nds X.L) (e2:Ks.map (·.1)=X.S.map (·.1)) (e3:Kh.map (·.1)=X.H.map (·.1))
 (s:St w [.sl us ts 3 Ks.length (aR Ks),.sl uh th 5 Kh.length (aM Kh),.sl uo tn 68 Kn.length (ax Kn),.sl ul tl 4 X.M.l.length (bw X.M.l),.grp k1 (eG Kn),.grp k2 (FU Ks),.grp k3 (xn Kh)] w9):CpW w ts th X (.agg (dV uo us uh ul X.M.last X.M.now)) w9:=by
 have s1:=s.sel [2,3,4,5,6,0,1] (B':=[.sl uo tn 68 Kn.length (ax Kn),.sl ul tl 4 X.M.l.length (bw X.M.l),.grp k1 (eG Kn),.grp k2 (FU Ks),.grp k3 (xn Kh),.sl us ts 3 Ks.length (aR Ks),.sl uh th 5 Kh.length (aM Kh)]) rfl (by decide)
 have s2:=St.group (A:=[.sl uo tn 68 Kn.length (ax Kn),.sl ul tl 4 X.M.l.length (bw X.M.l),.grp k1 (eG Kn),.grp k2 (FU Ks),.grp k3 (xn Kh)]) (B:=[.sl us ts 3 Ks.length (aR Ks),.sl uh th 5 Kh.length (aM Kh)]) s1
 have s3:=s2.weak (S':=λw9=>RdC w9 uo ul ⟨Kn,Ks,Kh,X.M⟩) λw9 h9=>⟨⟨br.of_own (h9 (.sl uo tn 68 Kn.length (ax Kn)) (by simp)),(h9 (.grp k1 (eG Kn)) (by simp)).2 w9 λ_ _=>rfl⟩,(h9 (.grp k2 (FU Ks)) (by simp)).2 w9 λ_ _=>rfl,(h9 (.grp k3 (xn Kh)) (by simp)).2 w9 λ_ _=>rfl,br.of_own (h9 (.sl ul tl 4 X.M.l.length (bw X.M.l)) (by simp))⟩
 refine ⟨uo,us,uh,ul,⟨Kn,Ks,Kh,X.M⟩,_,rfl,?_,s3.sel [1,2,0] rfl (by decide)⟩
 unfold aH
 rw [e1,e2,e3]
def eL (v:Value):Value:=kl (match v with
 |.tuple a=>match (a[0]?).getD (.bool false) with
  |.agg c=>(c[0]?).getD (.bool false)
  |_=>.bool false
 |_=>.bool false)
theorem lT (v:Value):(eL v).oneCell'=true:=xk _
theorem St.o5 {w0 w:World} {a b c d e:Own} {B:List Own} (s:St w0 (a::b::c::d::e::B) w):St w0 (b::c::d::e::a::B) w:=s.perm (ay7 (l₁:=[b,c,d,e]) (a:=a) (l₂:=B)).symm
theorem xf {w0 w9:World} {c:Nat} {tc ts th tn tl:TypeId} {vo vs vh vl vx vn:Value} {X:Wx} {kk:List Nat} {B9:List Own} {e:Int} {m:Ml}
 (s:St w0 (.sl vx tl 4 m.l.length (bw m.l)::.grp kk (λw9=>RdC w9 vo vl X)::.blk c (.cells (dZ vo vs vh vx m.last m.now vn) tc)::.sl vs ts 3 X.S.length (aR X.S)::.sl vh th 5 X.H.length (aM X.H)::.sl vn tn 74 0 []::B9) w9):
 Cf w0 c tc ts th tn (bif decide (e=0) then jf {aH X with ml:=m} else gu e) B9 (.int .i64 e) w9:=by
 obtain ⟨kn,s⟩:=QR s
 have he:(bif decide (e=0) then jf {aH X with ml:=m} else gu e:Wr).e=e:=by
  by_cases h:e=0
  ·rw [ar7 h];exact h.symm
  ·rw [ar6 h];rfl
 refine ⟨by rw [he],vo,vs,vh,vx,vn,{X with M:=m},[],kn,λh=>?_,s.o5⟩
 rw [he] at h
 rw [ar7 h]
 exact ⟨rfl,rfl⟩
theorem SB {w0 w9:World} {c:Nat} {tc ts th tn:TypeId} {vo vs vh vl vp vn:Value} {X:Wx} {L:List N3} {k1 kk:List Nat} {B9:List Own} (hr:cg (aH X)=true) (hL:nds L=VF X.L)
 (s:St w0 (.grp k1 (λw9=>EY vo X.L w9->kB w9 vp L)::.grp kk (λw9=>RdC w9 vo vl X)::.blk c (.cells (dZ vp vs vh vl X.M.last X.M.now vn) tc)::.sl vs ts 3 X.S.length (aR X.S)::.sl vh th 5 X.H.length (aM X.H)::.sl vn tn 74 0 []::B9) w9):
 VM X.L=0/\Cf w0 c tc ts th tn (Ga (aH X)) B9 (.int .i64 0) w9:=by
 have ho:kH X.L=true:=by
  have h:=hr
  rw [Ao] at h
  unfold mi at h
  simp only [as0] at h
  exact h.1.1
 refine ⟨(DL ho).1,rfl,vp,vs,vh,vl,vn,{X with L:=L},[],_,λ_=>⟨?_,rfl⟩,(Qw s).o5⟩
 show (⟨nds L,_,_,_⟩:Wd)=_
 rw [hL,(DL ho).2];rfl
end Go.Proofs.YtkhepdpfdhdlaaaGreatDoor
namespace Go.Proofs.YtkhepdpfdhdlaaaGreatDoor
open Go.RowKit Go.Sort
section
variable {α:Type} (f:α->List Value) (sz:Nat) (z:α) (num:α->Int)
def gL (f:α->List Value):Type:={x:α // ∀ u∈f x,u.oneCell'=true}
abbrev YC (h:∀ u∈f z,u.oneCell'=true):Inhabited (gL f):=⟨⟨z,h⟩⟩
def subL (x:gL f):List Value:=f x.1
variable [Inhabited (gL f)] (hf:∀ x,(f x).length=sz) (hz:0<sz)
include hf in
theorem jn (x:gL f):(subL f x).length=sz:=hf _
theorem tU (x:gL f):∀ v∈subL f x,v.oneCell'=true:=x.2
include hf hz in
theorem pE (d:Array (gL f)):(flatK (subL f) sz d).toList=d.toList.flatMap (subL f):=by
 apply List.ext_getElem?
 intro t
 by_cases ht:t<d.size*sz
 ·have hj:t / sz<d.size:=Nat.div_lt_of_lt_mul (by rw [Nat.mul_comm];exact ht)
  have hr:t % sz<sz:=az1 _ hz
  have h1:(d.toList.flatMap (subL f))[t]? = (subL f d[t / sz])[t % sz]? := by
   have h2:t=t / sz*sz+t % sz:=(Nat.div_add_mod' t sz).symm
   conv=>lhs;rw [h2]
   rw [gN (subL f) sz (jn f sz hf) d[t / sz] d.toList (by simpa using hj) hr]
   congr 2
   rw [au1,ay4,ay5 hj];rfl
  rw [h1]
  have h3:=get_flatK (subL f) sz d t ht
  have h4:t<(flatK (subL f) sz d).size:=by rw [size_flatK];exact ht
  rw [getElem!_pos _ t h4,getElem!_pos d _ hj] at h3
  rw [ay4,ay5 h4,h3]
  have h5:t % sz<(subL f d[t / sz]).length:=by rw [jn f sz hf];exact hr
  rw [getElem!_pos (subL f d[t / sz]) (t % sz) h5,as3 h5]
 ·rw [aw6 (by rw [as7,size_flatK];omega),aw6 (by rw [fq _ sz (jn f sz hf),as7];omega)]
theorem kL (w:World) (g m:Nat) (d:Array (gL f)) (os:Array Obj):(sortWorldK (subL f) sz w g 0 m d os).heap=w.heap.modify g (onCells (putCells id 0 (flatK (subL f) sz d)))++os:=rfl
theorem xu (w:World) (g m:Nat) (d:Array (gL f)) (os:Array Obj) {k:Nat} (hk:k<w.heap.size) (hne:k≠g):(sortWorldK (subL f) sz w g 0 m d os).heap[k]? = w.heap[k]? := by
 rw [kL,ax8 (by rw [Array.size_modify];exact hk),Array.getElem?_modify,if_neg (λe=>hne e.symm)]
theorem Bf (w:World) (g m:Nat) (d:Array (gL f)) (os:Array Obj) {cur:Array Value} {e:TypeId} {fz:Nat × Nat} (hg:w.heap[g]? = some (.cells cur e fz)):(sortWorldK (subL f) sz w g 0 m d os).heap[g]? = some (.cells (putCells id 0 (flatK (subL f) sz d) cur) e fz):=by
 have hk:g<w.heap.size:=(ay6.1 hg).1
 rw [kL,ax8 (by rw [Array.size_modify];exact hk),Array.getElem?_modify,if_pos rfl,hg]
 rfl
include hf hz in
theorem zB {w0 w:World} {B:List Own} {v:Value} {e:TypeId} {n:Nat} {l:List (gL f)} (s:St w0 (.sl v e sz n (l.flatMap (subL f))::B) w) (hl:l.length=n) (hn:1<=n):
 ∃ g cap,v=.slice (some ⟨g,0,none⟩) n cap/\g<w.heap.size/\w0.heap.size<=g/\HoldsK (subL f) sz w g 0 l.toArray/\
  ∀ (m:Nat) (os:Array Obj) (d:Array (gL f)),d.size=n->St w0 (.sl v e sz n (d.toList.flatMap (subL f))::B) (sortWorldK (subL f) sz w g 0 m d os):=by
 obtain ⟨g,cap,cur,fz,rfl,hfz,hnc,hcm,hcs,htk,s⟩:=s.open_sl hn
 have hg:=s.get 0 rfl
 have hlt:g<w.heap.size:=(ay6.1 hg).1
 have hroom:n*sz<=cur.size:=by rw [hcs];exact Nat.mul_le_mul_right _ hnc
 refine ⟨g,cap,rfl,hlt,s.own _ at0 g (Own.at_blk.2 rfl),λj hj=>?_,λm os d hd=>?_⟩
 ·have hjs:j<n*sz:=by rw [size_flatK] at hj;simpa [hl] using hj
  constructor
  ·rw [Nat.zero_add,cell_of_row w g j cur e fz hg]
   have h1:(flatK (subL f) sz l.toArray).toList=cur.toList.take (n*sz):=by rw [pE f sz hf hz,htk]
   have h2:(flatK (subL f) sz l.toArray).toList[j]? = cur.toList[j]? := by rw [h1,ay2 hjs]
   rw [ay4,ay4,ay5 hj] at h2
   rw [getElem!_pos _ j hj]
   exact h2.symm
  ·simp only [World.frozen?,hg,Nat.zero_add]
   obtain ⟨lo,hi⟩:=fz
   rcases hfz with h9|h9
   ·change hi=0 at h9;subst h9;simp
   ·change cur.size<=lo at h9
    have:¬ lo<=j:=by omega
    simp [this]
 ·have hF:(flatK (subL f) sz d).size=n*sz:=by rw [size_flatK,hd]
  have s2:=s.upd 0 (w':=sortWorldK (subL f) sz w g 0 m d os) (p':=.blk g (.cells (putCells id 0 (flatK (subL f) sz d) cur) e fz)) rfl rfl rfl rfl (by rw [kL];simp) (Bf f sz w g m d os hg) (λk hk=>.inl hk) (λk hk hne=>xu f sz w g m d os hk (λe9=>hne (Own.at_blk.2 e9))) (Nat.le_add_right _ _)
  refine s2.close_sl (by rw [nB];exact hfz) hnc hcm (by rw [nB];exact hcs) ?_ ?_
  ·rw [← hF,zd _ _ (by omega),pE f sz hf hz]
  ·rw [fq _ sz (jn f sz hf),as7,hd]
theorem qE (a b:gL f):ltOf (λx y:gL f=>cJ (num x.1) (num y.1)) a b=decide (num a.1<num b.1):=as8.2 (j6 _ _)
theorem Aq:SWO (ltOf λx y:gL f=>cJ (num x.1) (num y.1)) where
 irrefl x:=by rw [qE];simp
 trans x y z h1 h2:=by rw [qE] at *;simp at *;omega
 ntrans x y z h1 h2:=by rw [qE] at *;simp at *;omega
theorem Ap {l:List (gL f)} (hd:l.Pairwise λa b=>num a.1≠num b.1) {d:Array (gL f)} (hp:PermIn 0 l.toArray.size l.toArray d) (hs:SortedIn (ltOf λx y:gL f=>cJ (num x.1) (num y.1)) 0 l.toArray.size d):
 d.toList.Perm l/\d.toList.Pairwise λa b=>num a.1<num b.1:=by
 obtain ⟨hsz,_,hpm⟩:=hp
 have e1:d.extract 0 l.toArray.size=d:=by rw [← hsz];exact Array.extract_size
 rw [e1,Array.extract_size] at hpm
 have hpl:d.toList.Perm l:=by first|exact hpm|exact hpm.symm|exact hpm.toList|exact hpm.toList.symm
 have hd2:d.toList.Pairwise λa b=>num a.1≠num b.1:=(hpl.pairwise_iff (λh=>λe=>h e.symm)).2 hd
 refine ⟨hpl,?_⟩
 rw [List.pairwise_iff_getElem] at hd2 ⊢
 intro i j hi hj hij
 have hi':i<d.size:=by simpa using hi
 have hj':j<d.size:=by simpa using hj
 have h1:=hs i j (at8 _) hij (by omega)
 rw [getElem!_pos d j hj',getElem!_pos d i hi',qE] at h1
 have h2:=hd2 i j hi hj hij
 have h3:=ar5 h1
 simp only [Array.getElem_toList] at h2 ⊢
 omega
def ZB (L:List α) (h:∀ x∈L,∀ u∈f x,u.oneCell'=true):List (gL f):=L.attach.map λx=>(⟨x.1,h x.1 x.2⟩:gL f)
theorem wJ (L:List α) (h:∀ x∈L,∀ u∈f x,u.oneCell'=true):(ZB f L h).map (·.1)=L:=by
 refine(List.map_map (f:=λx:{x // x∈L}=>(⟨x.1,h x.1 x.2⟩:gL f)) (g:=λx:gL f=>x.1) (l:=L.attach)).trans ?_
 exact List.attach_map_subtype_val L
theorem EK (L:List α) (h:∀ x∈L,∀ u∈f x,u.oneCell'=true):(ZB f L h).length=L.length:=by
 have:=ar8 List.length (wJ f L h);simpa using this
theorem lE (l:List (gL f)):l.flatMap (subL f)=(l.map (·.1)).flatMap f:=by rw [List.flatMap_map];rfl
end
instance:Inhabited (gL tq):=YC tq d4 (by decide)
instance:Inhabited (gL oA):=YC oA bp (by decide)
def By {α:Type} (num:α->Int) (l:List α) (no:Int):Nat:=l.findIdx λx=>decide (num x=no)
def sY {α:Type} (num:α->Int) (sz:Nat) (v:Value) (l:List α) (no:Int):Value:=bif decide (By num l no<l.length) then .pointer (some (bC v (By num l no*sz))) else .pointer none
theorem XY {α:Type} {num:α->Int} {l:List α} {no:Int} {k:Nat} (z:α) (hk:k<l.length) (h:∀ j,j<k->decide (num (l.getD j z)=no)=false) (hq:decide (num (l.getD k z)=no)=true):By num l no=k:=by
 unfold By
 have e:∀ j (hj:j<l.length),l[j]=l.getD j z:=λj hj=>by rw [au1,as3 hj];rfl
 refine(List.findIdx_eq hk).2 ⟨by rw [e];exact hq,λj hj=>by rw [e j (by omega)];exact h j hj⟩
theorem YR {α:Type} {num:α->Int} {l:List α} {no:Int} {k:Nat} (z:α) (hk:l.length<=k) (h:∀ j,j<k->decide (num (l.getD j z)=no)=false):By num l no=l.length:=by
 unfold By
 refine List.findIdx_eq_length.2 λx hx=>?_
 obtain ⟨j,hj,rfl⟩:=ax7 hx
 have:=h j (by omega)
 rwa [au1,as3 hj] at this
theorem UY {α:Type} {num:α->Int} {sz:Nat} {v:Value} {l:List α} {no:Int} {k:Nat} (z:α) (hk:k<l.length) (h:∀ j,j<k->decide (num (l.getD j z)=no)=false) (hq:decide (num (l.getD k z)=no)=true):sY num sz v l no=.pointer (some (bC v (k*sz))):=by
 unfold sY;rw [XY z hk h hq,ar7 hk];rfl
theorem TQ {α:Type} {num:α->Int} {sz:Nat} {v:Value} {l:List α} {no:Int} {k:Nat} (z:α) (hk:l.length<=k) (h:∀ j,j<k->decide (num (l.getD j z)=no)=false):sY num sz v l no=.pointer none:=by
 unfold sY;rw [YR z hk h,ar6 (Nat.lt_irrefl _)];rfl
theorem OE {α:Type} {num:α->Int} {sz:Nat} {v:Value} {l:List α} {no:Int} (h:By num l no<l.length):sY num sz v l no=.pointer (some (bC v (By num l no*sz))):=by unfold sY;rw [ar7 h];rfl
theorem zF {α:Type} {num:α->Int} {sz:Nat} {v:Value} {l:List α} {no:Int} (h:¬ By num l no<l.length):sY num sz v l no=.pointer none:=by unfold sY;rw [ar6 h];rfl
theorem P8 {α:Type} {num:α->Int} {l:List α} {no:Int} (z:α) (h:By num l no<l.length):num (l.getD (By num l no) z)=no:=by
 have h1:=List.findIdx_getElem (p:=λx=>decide (num x=no)) (xs:=l) (w:=h)
 rw [au1,as3 h]
 exact ar4 h1
theorem L5 {α β:Type} {num:β->Int} {f:α->β} {l:List α} {no:Int} (z:α) (z':β):DS num z' (l.map f) no=bif decide (By (λx=>num (f x)) l no<l.length) then f (l.getD (By (λx=>num (f x)) l no) z) else z':=by
 unfold DS By
 rw [List.find?_map]
 by_cases h:l.findIdx (λx=>decide (num (f x)=no))<l.length
 ·rw [ar7 h,cond_true]
  have h1:l.find? (λx=>decide (num (f x)=no))=some l[l.findIdx λx=>decide (num (f x)=no)]:=by
   rw [List.find?_eq_some_iff_getElem]
   exact ⟨List.findIdx_getElem (w:=h),_,h,rfl,λj hj=>by simpa using List.not_of_lt_findIdx hj⟩
  show ((l.find? (λx=>decide (num (f x)=no))).map f).getD z'=_
  rw [h1,au1,as3 h];rfl
 ·rw [ar6 h,cond_false]
  have h1:l.find? (λx=>decide (num (f x)=no))=none:=by
   rw [List.find?_eq_none]
   intro x hx hq
   exact h (List.findIdx_lt_length_of_exists ⟨x,hx,hq⟩)
  show ((l.find? (λx=>decide (num (f x)=no))).map f).getD z'=_
  rw [h1];rfl
abbrev Own.tie9 (w0:World) (A:List Own):Own:=.grp (A.flatMap Own.ks) λw9=>(∀ p∈A,p.holds w0 w9)/\(∀ p∈A,∀ k,p.at k->w0.heap.size<=k)/\A.Pairwise (λp q=>∀ k,p.at k->¬ q.at k)
theorem St.tie9 {w0 w:World} (A:List Own) {B:List Own} (s:St w0 (A++B) w):St w0 (Own.tie9 w0 A::B) w:=by
 have hnd:=List.pairwise_append.1 s.nd
 have hA:∀ p∈A,p.holds w0 w:=λp hp=>s.has p (List.mem_append_left _ hp)
 have hO:∀ p∈A,∀ k,p.at k->w0.heap.size<=k:=λp hp=>s.own p (List.mem_append_left _ hp)
 refine ⟨s.ext,λp hp=>?_,λp hp k hk=>?_,List.pairwise_cons.2 ⟨λq hq k hk hqk=>?_,hnd.2.1⟩⟩
 ·rcases at1.1 hp with rfl|hp
  ·refine ⟨λk hk=>?_,λw' hw=>⟨λp hp=>Own.keep (hA p hp) λk hk=>hw k (List.mem_flatMap.2 ⟨p,hp,hk⟩),hO,hnd.1⟩⟩
   obtain ⟨p,hp,hk⟩:=List.mem_flatMap.1 hk
   exact Own.lt (hA p hp) hk
  ·exact s.has p (List.mem_append_right _ hp)
 ·rcases at1.1 hp with rfl|hp
  ·obtain ⟨p,hp,hk⟩:=List.mem_flatMap.1 (show k∈A.flatMap Own.ks from hk)
   exact hO p hp k hk
  ·exact s.own p (List.mem_append_right _ hp) k hk
 ·obtain ⟨p,hp,hk⟩:=List.mem_flatMap.1 (show k∈A.flatMap Own.ks from hk)
  exact hnd.2.2 p hp q hq k hk hqk
theorem St.untie9 {w0 w:World} {A B:List Own} (s:St w0 (Own.tie9 w0 A::B) w):St w0 (A++B) w:=by
 have h:=(s.has _ at0).2 w λ_ _=>rfl
 have hnd:=List.pairwise_cons.1 s.nd
 refine ⟨s.ext,λp hp=>?_,λp hp k hk=>?_,List.pairwise_append.2 ⟨h.2.2,hnd.2,λp hp q hq k hk=>hnd.1 q hq k (List.mem_flatMap.2 ⟨p,hp,hk⟩)⟩⟩
 ·rcases av4.1 hp with hp|hp
  ·exact h.1 p hp
  ·exact s.has p (au0 _ hp)
 ·rcases av4.1 hp with hp|hp
  ·exact h.2.1 p hp k hk
  ·exact s.own p (au0 _ hp) k hk
theorem Jd {W:Wd} {N:List Nt} {z fr:Int} {x:Se} (h0:0<=x.1) (hE:db W.ml fr x.1 (cL x.2.1)=0):bA ⟨W,N,z⟩ fr x=⟨{W with ml:=hQ W.ml fr x.1 (cL x.2.1)},N,lz W.ml fr x.1 (cL x.2.1)⟩:=by
 have h1:MT W fr x=0:=by unfold MT;rw [ar6 (by omega)];rfl
 have h2:Lf W fr x=x.1:=by unfold Lf;rw [ar6 (by omega)];rfl
 have h3:m3 W fr x=0:=by unfold m3;rw [h1,h2,hE];rfl
 unfold bA
 rw [show m3 (⟨W,N,z⟩:Pt).w fr x=0 from h3,show Lf (⟨W,N,z⟩:Pt).w fr x=x.1 from h2];rfl
theorem H0 {W:Wd} {N:List Nt} {z fr:Int} {x:Se} (h0:0<=x.1) (hE:¬ db W.ml fr x.1 (cL x.2.1)=0):bA ⟨W,N,z⟩ fr x=⟨W,N++[{tQ fr 0 (db W.ml fr x.1 (cL x.2.1)) with tm:=W.ml.now}],0⟩:=by
 have h1:MT W fr x=0:=by unfold MT;rw [ar6 (by omega)];rfl
 have h2:Lf W fr x=x.1:=by unfold Lf;rw [ar6 (by omega)];rfl
 have h3:m3 W fr x=db W.ml fr x.1 (cL x.2.1):=by unfold m3;rw [h1,h2];rfl
 unfold bA
 rw [show m3 (⟨W,N,z⟩:Pt).w fr x=db W.ml fr x.1 (cL x.2.1) from h3,ar6 hE];rfl
theorem Dl {X:Wx} {N:List Nt} {fr:Int} {x:Se} (h0:0<=x.1):(bA ⟨aH X,N,0⟩ fr x).w=aH {X with M:=(bA ⟨aH X,N,0⟩ fr x).w.ml}:=by
 by_cases hE:db (aH X).ml fr x.1 (cL x.2.1)=0
 ·rw [Jd h0 hE];rfl
 ·rw [H0 h0 hE];rfl
def B4 (m:Ml) (fr to:Int) (d:ByteArray):Ml:=bif decide (db m fr to d=0) then hQ m fr to d else m
def QK (m:Ml) (fr to:Int) (d:ByteArray):Int:=bif decide (db m fr to d=0) then lz m fr to d else 0
theorem Ia {m:Ml} {fr to:Int} {d:ByteArray} (h:db m fr to d=0):B4 m fr to d=hQ m fr to d/\QK m fr to d=lz m fr to d:=by unfold B4 QK;rw [ar7 h];exact ⟨rfl,rfl⟩
theorem Ct {m:Ml} {fr to:Int} {d:ByteArray} (h:¬ db m fr to d=0):B4 m fr to d=m/\QK m fr to d=0:=by unfold B4 QK;rw [ar6 h];exact ⟨rfl,rfl⟩
theorem rY {W:Wd} {N:List Nt} {z fr:Int} {x:Se} (h0:0<=x.1) (hE:db W.ml fr x.1 (cL x.2.1)=0):(bA ⟨W,N,z⟩ fr x).w.ml=B4 W.ml fr x.1 (cL x.2.1)/\(bA ⟨W,N,z⟩ fr x).n=N/\(bA ⟨W,N,z⟩ fr x).no=QK W.ml fr x.1 (cL x.2.1):=by
 rw [Jd h0 hE,(Ia hE).1,(Ia hE).2];exact ⟨rfl,rfl,rfl⟩
theorem r3 {W:Wd} {N:List Nt} {z fr:Int} {x:Se} (h0:0<=x.1) (hE:¬ db W.ml fr x.1 (cL x.2.1)=0):(bA ⟨W,N,z⟩ fr x).w.ml=B4 W.ml fr x.1 (cL x.2.1)/\(bA ⟨W,N,z⟩ fr x).n=N++[{tQ fr 0 (db W.ml fr x.1 (cL x.2.1)) with tm:=W.ml.now}]/\(bA ⟨W,N,z⟩ fr x).no=QK W.ml fr x.1 (cL x.2.1):=by
 rw [H0 h0 hE,(Ct hE).1,(Ct hE).2];exact ⟨rfl,rfl,rfl⟩
abbrev cm (X:Wx) (no:Int):Nat:=By (λx:H4=>x.1.no) X.H no
theorem NY {X:Wx} {no:Int} (h:cm X no<X.H.length):fD (aH X) no=(X.H.getD (cm X no) bp).1:=by
 unfold fD
 rw [show (aH X).ho=X.H.map (·.1) from rfl,L5 (f:=λx:H4=>x.1) (num:=λx:Ho=>x.no) bp ZD,ar7 h];rfl
theorem FX {X:Wx} {no:Int} (h:¬ cm X no<X.H.length):fD (aH X) no=ZD:=by
 unfold fD
 rw [show (aH X).ho=X.H.map (·.1) from rfl,L5 (f:=λx:H4=>x.1) (num:=λx:Ho=>x.no) bp ZD,ar6 h];rfl
theorem OC {X:Wx} {no:Int} (h:cm X no<X.H.length):(X.H.getD (cm X no) bp).1.no=no:=P8 (num:=λx:H4=>x.1.no) bp h
theorem Kt {X:Wx} (h:cg (aH X)=true) {k:Nat} (hk:k<X.H.length):cS (X.H.getD k bp).1=true:=by
 rw [Ao] at h
 unfold rV at h
 simp only [as0,as1,at2] at h
 have:=h.2.2.1 k hk
 rw [sL] at this
 simp only [as0] at this
 exact this.1
theorem I7 {X:Wx} (h:cg (aH X)=true):cn X.M=true:=by
 rw [Ao] at h
 simp only [as0] at h
 exact h.2.2.2
theorem Lg {h:Ho} {l:List dN} {d:ByteArray} {now:Int} (e:lQ h l d now=0):dI (S7 l d)=true:=by
 have hcond:(cS h=true/\(0<=now/\now<=1099511627776)/\dH l=true):=Classical.byContradiction λhb=>by rw [(Qj (d:=d) hb).1] at e;cases e
 have hsz:d.size<=64:=Classical.byContradiction λhb=>by rw [(WE hcond hb).1] at e;cases e
 exact A3 (p:=(l,64,d)) (jZ.2 ⟨(fc _).1 hcond.2.2,by show (0:Int)<=64;decide,by show (64:Int)<=64;decide,hsz⟩)
theorem VT {h:Ho} {l:List dN} {d:ByteArray} {now:Int} (e:lQ h l d now=0):cz h l d now=uk h l d now:=by unfold cz;rw [e];rfl
theorem Q2 {m:Ml} (h:cn m=true) {fr to:Int} {d:ByteArray}:0<=QK m fr to d:=by
 have:=((iz m).1 h).2.1.1
 by_cases hE:db m fr to d=0
 ·rw [(Ia hE).2];unfold lz;rw [hE];show 0<=m.last+1;omega
 ·rw [(Ct hE).2];exact Int.le_refl _
theorem Is {X:Wx} {N:List Nt} {fr:Int} {x:Se} (h0:0<=x.1) (h:cn X.M=true):0<=(bA ⟨aH X,N,0⟩ fr x).no:=by
 by_cases hE:db (aH X).ml fr x.1 (cL x.2.1)=0
 ·rw [(rY h0 hE).2.2];exact Q2 h
 ·rw [(r3 h0 hE).2.2];exact Q2 h
section
variable {W:Wd} {a:Ac}
theorem Tv (h:(fD W a.no).no<0):nH W a=gu 6:=by unfold nH;rw [ar7 h];rfl
theorem Tn (h:¬ (fD W a.no).no<0) (he:¬ lQ (fD W a.no) a.l a.d W.ml.now=0):nH W a=gu (lQ (fD W a.no) a.l a.d W.ml.now):=by unfold nH;rw [ar6 h,ar6 he];rfl
theorem U3 (h:¬ (fD W a.no).no<0) (he:lQ (fD W a.no) a.l a.d W.ml.now=0) (hp:0<(kD W a).no):nH W a=oh (mr (kD W a) (oR a.no (kD W a).no a.d)):=by unfold nH;rw [ar6 h,he,ar7 hp];rfl
theorem TO (h:¬ (fD W a.no).no<0) (he:lQ (fD W a.no) a.l a.d W.ml.now=0) (hp:¬ 0<(kD W a).no):nH W a=oh (kD W a):=by unfold nH;rw [ar6 h,he,ar6 hp];rfl
end
theorem lR {w0 w9:World} {c:Nat} {tc ts th tn:TypeId} {vo vs vh vl vn:Value} {X:Wx} {kk:List Nat} {B9:List Own} {R:Wr} {e:Int} (hR:R=gu e) (he:e≠0) (s:St w0 (VN c tc ts th tn vo vs vh vl vn X [] kk B9) w9):Cf w0 c tc ts th tn R B9 (.int .i64 e) w9:=by
 subst hR
 exact ⟨rfl,vo,vs,vh,vl,vn,X,[],kk,λh=>az2 h he,s⟩
theorem DU {w0 w9:World} {c:Nat} {tc ts th tn:TypeId} {vo vs vh vl vn:Value} {Y:Wx} {N:List Nt} {kk:List Nat} {B9:List Own} {R:Wr} (t:Pt) (hR:R=oh t) (hY:aH Y=t.w) (hN:N=t.n) (s:St w0 (VN c tc ts th tn vo vs vh vl vn Y N kk B9) w9):Cf w0 c tc ts th tn R B9 (.int .i64 0) w9:=by
 subst hR
 exact ⟨rfl,vo,vs,vh,vl,vn,Y,N,kk,λ_=>⟨hY,hN⟩,s⟩
theorem MK {X:Wx} {N:List Nt} {fr:Int} {x:Se} (h0:0<=x.1):(bA ⟨aH X,N,0⟩ fr x).n.length<=N.length+1:=by
 by_cases hE:db (aH X).ml fr x.1 (cL x.2.1)=0
 ·rw [(rY h0 hE).2.1];omega
 ·rw [(r3 h0 hE).2.1,as2];exact at6 _
theorem JV {W:Wd} {a:Ac} (h:(decide (64<a.d.size) || !kC a.i)=true):oI W a=gu 1:=by
 have he:Bh W a=1:=by unfold Bh;rw [h];rfl
 unfold oI;rw [he];rfl
theorem I6 (m:Mb) (p q:Int):p8 [] m p=p8 [] m q/\um [] m p=um [] m q:=by
 unfold p8 um
 cases GN [] m with
 |false=>exact ⟨rfl,rfl⟩
 |true=>exact ⟨rfl,rfl⟩
theorem BP {X:Wx} {a:Ac} (hL:X.L=[]) (h:(decide (64<a.d.size) || !kC a.i)=false) (q:Int):Bh (aH X) a=p8 X.L (a.no,a.i) q/\FK (aH X) a=um X.L (a.no,a.i) q:=by
 unfold Bh FK
 rw [h,show (aH X).ov=[] from by unfold aH nds;rw [hL];rfl,hL]
 exact ⟨(I6 _ _ q).1,(I6 _ _ q).2⟩
theorem Ud {X:Wx} {a:Ac} (hL:X.L=[]) (h:(decide (64<a.d.size) || !kC a.i)=false) (q:Int) (he:¬ p8 X.L (a.no,a.i) q=0):oI (aH X) a=gu (p8 X.L (a.no,a.i) q):=by
 unfold oI
 rw [(BP hL h q).1,ar6 he];rfl
theorem Kq {X:Wx} {a:Ac} (hL:X.L=[]) (h:(decide (64<a.d.size) || !kC a.i)=false) (q:Int) (he:p8 X.L (a.no,a.i) q=0):oI (aH X) a=jf {pB (aH X) ⟨a.no,a.d,[]⟩ with ov:=um X.L (a.no,a.i) q}:=by
 unfold oI
 rw [(BP hL h q).1,he,(BP hL h q).2,show (aH X).ov.length=0 from by unfold aH nds;rw [hL];rfl];rfl
theorem NX (L:List N3) (h:L=[]):u0 (aQ L)=6:=by subst h;rfl
theorem Kp (w:World):Mk w au []:=⟨rfl,.inl ⟨rfl,rfl⟩⟩
theorem Sp {w0 w9:World} {a b c d:Own} {k:List Nat} {S S':World->Prop} {B:List Own} (s:St w0 (a::b::c::d::.grp k S::B) w9) (h:∀ w9,S w9->S' w9):St w0 (a::b::c::d::.grp k S'::B) w9:=
 (St.weak (s.perm (ay7 (l₁:=[a,b,c,d]))) h).o5
theorem FJ {w0 w9:World} {c:Nat} {tc ts th tn:TypeId} {vo vh vl vp v9 vn:Value} {X:Wx} {L:List N3} {k1 kk:List Nat} {B9:List Own} {a:Ac} {q:Int} (hL0:X.L=[]) (hS0:X.S=[]) (hd:(decide (64<a.d.size) || !kC a.i)=false) (he:p8 X.L (a.no,a.i) q=0)
 (s:St w0 (.grp k1 (λw9=>nds L=um X.L (a.no,a.i) q/\(EY vo X.L w9->kB w9 vp L))::.grp kk (λw9=>RdC w9 vo vl X)::.blk c (.cells (dZ vp v9 vh vl X.M.last X.M.now vn) tc)::.sl v9 ts 3 1 (aR [((⟨a.no,a.d,[]⟩:Sv),au)])::.sl vh th 5 X.H.length (aM X.H)::.sl vn tn 74 0 []::B9) w9):
 Cf w0 c tc ts th tn (oI (aH X) a) B9 (.int .i64 0) w9:=by
 have hL1:=(s.getG 0 rfl).1
 have s2:=(Qw (s.weak (S':=λw9=>EY vo X.L w9->kB w9 vp L) λ_ h=>h.2)).o5
 refine ⟨by rw [Kq hL0 hd q he];rfl,vp,v9,vh,vl,vn,⟨L,[((⟨a.no,a.d,[]⟩:Sv),au)],X.H,X.M⟩,[],_,λ_=>?_,Sp s2 λw9 h=>⟨h.ov,λx hx=>by rw [as9.1 hx];exact Kp _,h.hw,h.ml⟩⟩
 rw [Kq hL0 hd q he]
 refine ⟨?_,rfl⟩
 show (⟨nds L,_,_,_⟩:Wd)=⟨um X.L (a.no,a.i) q,kJ (·.no) (X.S.map (·.1)) ⟨a.no,a.d,[]⟩,X.H.map (·.1),X.M⟩
 rw [hL1,hS0];rfl
theorem Yd {W:Wd} {n g:Int} (he:¬ oL n g=0):qK W n g=gu (oL n g):=by unfold qK;rw [ar6 he];rfl
theorem Wj {W:Wd} {n g:Int} (hH:W.ho=[]) (he:oL n g=0):qK W n g=jf (nC W (gS n g)):=by
 unfold qK fD
 rw [he,hH];rfl
theorem Gm {w0 w9:World} {c:Nat} {tc ts th tn:TypeId} {vo vs vl vn v9 uw uh ui:Value} {X:Wx} {k1 kk:List Nat} {B9:List Own} {n g:Int} (hH0:X.H=[]) (he:oL n g=0)
 (s:St w0 (.grp k1 (λw9=>ma w9 au au au oT->ma w9 uw uh ui (gS n g))::.grp kk (λw9=>RdC w9 vo vl X)::.blk c (.cells (dZ vo vs v9 vl X.M.last X.M.now vn) tc)::.sl vs ts 3 X.S.length (aR X.S)::.sl v9 th 5 1 (aM [(gS n g,uw,uh,ui)])::.sl vn tn 74 0 []::B9) w9):
 Cf w0 c tc ts th tn (qK (aH X) n g) B9 (.int .i64 0) w9:=by
 have s2:=(s.merge (S:=λw9=>RdC w9 vo vl {X with H:=[(gS n g,uw,uh,ui)]}) λw9 a h=>⟨h.ov,h.sw,λx hx=>by rw [as9.1 hx];exact a (jS _ 0 0),h.ml⟩).o5
 have hy:qK (aH X) n g=jf (nC (aH X) (gS n g)):=Wj (by unfold aH;rw [hH0];rfl) he
 refine ⟨by rw [hy];rfl,vo,vs,v9,vl,vn,{X with H:=[(gS n g,uw,uh,ui)]},[],_,λ_=>?_,s2⟩
 rw [hy]
 refine ⟨?_,rfl⟩
 show (⟨_,_,[gS n g],_⟩:Wd)=⟨_,_,kJ (·.no) (X.H.map (·.1)) (gS n g),_⟩
 rw [hH0];rfl
def CO (v:Value):Value:=kl (match v with
 |.agg c=>(c[0]?).getD (.bool false)
 |_=>.bool false)
theorem Dn (v:Value):(CO v).oneCell'=true:=xk _
def VO (v:Value):Nat:=match v with
 |.func _ _ c=>match (c[0]?).getD (.bool false) with
  |.pointer (some p)=>p.block
  |_=>0
 |_=>0
end Go.Proofs.YtkhepdpfdhdlaaaGreatDoor
