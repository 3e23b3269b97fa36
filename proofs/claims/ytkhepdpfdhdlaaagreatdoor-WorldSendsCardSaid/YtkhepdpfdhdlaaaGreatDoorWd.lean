/- Worlds: what they are, what acts make of them; a course in memory; rows sorted in place; no Go in it. -/
import Derived.Test.YtkhepdpfdhdlaaaGreatDoorHo
set_option linter.unusedVariables false
set_option linter.unusedSimpArgs false
set_option linter.unusedSectionVars false
namespace Go.Proofs.YtkhepdpfdhdlaaaGreatDoor
open Go.RowKit
structure Nt where
 k:Int
 tm:Int
 no:Int
 wa:Int
 le:Int
 tr:Tg
 d:ByteArray
 y:Int
deriving DecidableEq
def mh:Nt:=⟨0,0,0,0,0,eg,ByteArray.empty,0⟩
def Mf (k tm no wa le:Int) (t:Tg) (d:ByteArray) (y:Int):List Value:=.int .i64 k::.int .i64 tm::.int .i64 no::.int .i64 wa::.int .i64 le::(oF t++[.string d,.int .i64 y])
def qA (k tm no wa le:Int) (t:Tg) (d:ByteArray) (y:Int):Array Value:=(Mf k tm no wa le t d y).toArray
section
variable (k tm no wa le:Int) (t:Tg) (d e:ByteArray) (y:Int)
theorem BM:(Mf k tm no wa le t d y).length=74:=by simp [Mf,j8]
theorem pa:(qA k tm no wa le t d y).size=74:=by simp [qA,BM]
theorem DC:∀ v∈Mf k tm no wa le t d y,v.oneCell'=true:=λv hv=>by
 unfold Mf at hv
 simp only [YH,Y4,YK,or_false] at hv
 rcases hv with rfl|rfl|rfl|rfl|rfl|hv|rfl|rfl
 ·rfl
 ·rfl
 ·rfl
 ·rfl
 ·rfl
 ·exact l9 t v hv
 ·rfl
 ·rfl
theorem Ji (j:Nat):(qA k tm no wa le t d y)[72+j]? = [Value.string d,Value.int .i64 y][j]? := by
 unfold qA
 rw [YT,show 72+j=67+j+5 by omega]
 show (oF t++[Value.string d,Value.int .i64 y])[67+j]? = _
 rw [Y2 (by rw [j8];omega),j8,Nat.add_sub_cancel_left]
theorem Vj:(qA k tm no wa le t d y)[72]? = some (.string d):=Ji k tm no wa le t d y 0
end
def Q5 (x:Nt):List Value:=Mf x.k x.tm x.no x.wa x.le x.tr x.d x.y
theorem KU (x:Nt):(Q5 x).length=74:=BM ..
def aH (l:List Nt):List Value:=l.flatMap Q5
theorem nv (l r:List Nt):aH (l++r)=aH l++aH r:=Zh
theorem tq (l:List Nt):∀ u∈aH l,u.oneCell'=true:=λu hu=>by
 obtain ⟨x,_,hx⟩:=List.mem_flatMap.1 hu
 exact DC _ _ _ _ _ _ _ _ u hx
theorem Yl {l:List Nt} {j:Nat} (hj:j<l.length):l[j]=l.getD j mh:=by
 rw [YR,Yz hj];rfl
theorem SO (l:List Nt) (j:Nat) (hj:j<l.length):(((aH l).drop (j*74)).take 74).toArray=qA (l.getD j mh).k (l.getD j mh).tm (l.getD j mh).no (l.getD j mh).wa (l.getD j mh).le (l.getD j mh).tr (l.getD j mh).d (l.getD j mh).y:=by
 unfold aH
 rw [dS _ 74 KU l j hj,Yl hj];rfl
theorem oz {l:List Nt} {j:Nat} (hj:j<l.length) (o:Nat) (ho:o<74):(aH l)[j*74+o]? = (Q5 (l.getD j mh))[o]? := by
 have h:=SO l j hj
 have:(((aH l).drop (j*74)).take 74)=Q5 (l.getD j mh):=Yu Array.toList h
 rw [← this,Zw ho,Zx]
theorem Aq {l:List Nt} {j:Nat} (hj:j<l.length):(aH l)[j*74+0]? = some (.int .i64 (l.getD j mh).k):=(oz hj 0 (by decide)).trans rfl
theorem R1 {l:List Nt} {j:Nat} (hj:j<l.length):(aH l)[j*74+2]? = some (.int .i64 (l.getD j mh).no):=(oz hj 2 (by decide)).trans rfl
theorem N7 (x:Nt):([Value.agg (qA x.k x.tm x.no x.wa x.le x.tr x.d x.y)].flatMap λv=>v.cells.toList)=Q5 x:=by simp [Value.cells,qA,Q5]
theorem O1 (l:List Nt) (x:Nt):aH l++([Value.agg (qA x.k x.tm x.no x.wa x.le x.tr x.d x.y)].flatMap λv=>v.cells.toList)=aH (l++[x]):=by rw [N7,nv];simp [aH]
theorem FW:oF eg=LA.flatten:=by
 have:=Yu Array.toList tQ
 exact this
def VF:List (List Value):=[[.int .i64 0],[.int .i64 0],[.int .i64 0],[.int .i64 0],[.int .i64 0],LA.flatten,[.string ByteArray.empty],[.int .i64 0]]
section
variable {P:Program} {ρ:Operand->Value} {d:Option Tmp} {ty:TypeId} {pos:String} {af:Array Edge} {g:Option (Nat × Bool)} {x y z u v:Operand} {t:TypeId}
theorem oX {a b c:Int} {s:ByteArray} (S:Stt P t VF) (hx:ρ x=.int .i64 a) (hy:ρ y=.int .i64 b) (hz:ρ z=.int .i64 c) (hu:ρ u=.string s):aP P ⟨d,.build t #[(0,x),(2,y),(4,z),(6,u)],ty,pos,af,g⟩ ρ (.agg (qA a 0 b 0 c eg s 0)):=by
 have:=aU (P:=P) (ρ:=ρ) (d:=d) (ty:=ty) (pos:=pos) (af:=af) (g:=g) (parts:=#[(0,x),(2,y),(4,z),(6,u)]) S [(0,.int .i64 a),(2,.int .i64 b),(4,.int .i64 c),(6,.string s)] (by simp [hx,hy,hz,hu]) (λj q hm=>by
  simp only [YH,Zn,YK,or_false] at hm
  rcases hm with ⟨rfl,rfl⟩|⟨rfl,rfl⟩|⟨rfl,rfl⟩|⟨rfl,rfl⟩<;>exact ⟨_,rfl,rfl⟩) (D:=Mf a 0 b 0 c eg s 0) (by
   show [Value.int .i64 a]++([Value.int .i64 0]++([Value.int .i64 b]++([Value.int .i64 0]++([Value.int .i64 c]++(LA.flatten++([Value.string s]++([Value.int .i64 0]++[])))))))=_
   rw [← FW];rfl)
 exact this
end
structure Ac where
 k:Int
 no:Int
 tO:Int
 n:Int
 i:Id
 l:List cO
 d:ByteArray
def QJ (a:Ac) (v:Value):List Value:=.int .i64 a.k::.int .i64 a.no::.int .i64 a.tO::.int .i64 a.n::((aA a.i).toList++[v,.string a.d])
def bO (a:Ac) (v:Value):Array Value:=(QJ a v).toArray
theorem KV (a:Ac) (v:Value):(QJ a v).length=38:=by simp only [QJ,Y0,Yy,i4,Y1]
theorem yT (a:Ac) (v:Value):(bO a v).size=38:=by simp only [bO,List.size_toArray,KV]
section
variable (a:Ac) (v:Value)
theorem VI:(bO a v)[0]? = some (.int .i64 a.k):=rfl
theorem w6:(bO a v)[1]? = some (.int .i64 a.no):=rfl
theorem Vz:(bO a v)[2]? = some (.int .i64 a.tO):=rfl
theorem Az (j:Nat):(bO a v)[36+j]? = ([v,.string a.d]:List Value)[j]? := by
 unfold bO
 rw [YT,show 36+j=32+j+4 by omega]
 show ((aA a.i).toList++[v,.string a.d])[32+j]? = _
 rw [Y2 (by rw [i4];omega),i4,Nat.add_sub_cancel_left]
theorem U7:(bO a v)[36]? = some v:=Az a v 0
theorem LQ:(bO a v)[37]? = some (.string a.d):=Az a v 1
theorem Ly:(bO a v).extract 4 (4+32)=aA a.i:=mX (by
 show ((aA a.i).toList++[v,.string a.d]).take 32=_
 rw [List.take_append_of_le_length (by rw [i4];omega),YU (by rw [i4];omega)])
end
def Um:List (List Value):=[[.int .i64 0],[.int .i64 0],[.int .i64 0],[.int .i64 0],List.replicate 32 (.int .u8 0),[.slice none 0 0],[.string ByteArray.empty]]
theorem nL {P:Program} {ρ:Operand->Value} {d:Option Tmp} {ty:TypeId} {pos:String} {af:Array Edge} {g:Option (Nat × Bool)} {x y z u:Operand} {t:TypeId} {a b:Int} {v:Value} {s:ByteArray} (l:List cO) (S:Stt P t Um) (hv:v.cells.size=1) (hc:v.cells.toList=[v]) (hx:ρ x=.int .i64 a) (hy:ρ y=.int .i64 b) (hz:ρ z=v) (hu:ρ u=.string s):aP P ⟨d,.build t #[(0,x),(1,y),(5,z),(6,u)],ty,pos,af,g⟩ ρ (.agg (bO ⟨a,b,0,0,0#256,l,s⟩ v)):=by
 have:=aU (P:=P) (ρ:=ρ) (d:=d) (ty:=ty) (pos:=pos) (af:=af) (g:=g) (parts:=#[(0,x),(1,y),(5,z),(6,u)]) S [(0,.int .i64 a),(1,.int .i64 b),(5,v),(6,.string s)] (by simp [hx,hy,hz,hu]) (λj q hm=>by
  simp only [YH,Zn,YK,or_false] at hm
  rcases hm with ⟨rfl,rfl⟩|⟨rfl,rfl⟩|⟨rfl,rfl⟩|⟨rfl,rfl⟩
  ·exact ⟨_,rfl,rfl⟩
  ·exact ⟨_,rfl,rfl⟩
  ·exact ⟨_,rfl,hv⟩
  ·exact ⟨_,rfl,rfl⟩) (D:=QJ ⟨a,b,0,0,0#256,l,s⟩ v) (by
   show [Value.int .i64 a]++([Value.int .i64 b]++([Value.int .i64 0]++([Value.int .i64 0]++(List.replicate 32 (Value.int .u8 0)++(v.cells.toList++([Value.string s]++[]))))))=_
   rw [hc,show List.replicate 32 (Value.int .u8 0)=(aA 0#256).toList from by rw [dC];rfl];rfl)
 exact this
end Go.Proofs.YtkhepdpfdhdlaaaGreatDoor
namespace Go.Proofs.YtkhepdpfdhdlaaaGreatDoor
open Go.RowKit Go.ChangeShapes Go.WideShapes Go.ChangeAt
theorem Hh {H α:Type} {enc:TypeId × Value->H} {P:Program} {W:World} {ts t:TypeId} {fuel:Nat} {cs:List Value} {x:DataW H × List MemPlace} (C:α->Array Value) (sz:Nat) (h0:0<sz) (hC:∀ a,(C a).size=sz) (z:α) (Q:α->Prop)
 (hts:P.underlying ts=some (.slice t)) (hct:P.cellsOf t=sz) (op:∀ (fuel:Nat) (cs:List Value) (x:DataW H × List MemPlace),DataW.trod enc P W 0 (λ_=>true) true fuel t cs=some x->∃ l:α,cs=(C l).toList/\Q l)
 (hf:DataW.trod enc P W 0 (λ_=>true) true fuel ts cs=some x):∃ (v:Value) (ls:List α),cs=[v]/\bp W v sz ls.length (ls.flatMap λa=>(C a).toList)/\∀ x∈ls,Q x:=by
 rcases Go.Deep.open_slice hts hf with ⟨hcs,_⟩|⟨a',len,cap,m,k,D,Pl,hcs,_,hl,_,hm,_,hel⟩
 ·exact ⟨_,[],hcs,⟨by simp,.inl ⟨rfl,rfl⟩⟩,λx h=>by cases h⟩
 ·have hml:len<=m:=by rw [hm];split<;>omega
  have each:∀ i,∃ l:α,i<len->aJ W (a'.add (i*sz)) (C l)/\Q l:=λi=>by
   by_cases hi:i<len
   ·obtain ⟨cs',hc1,hc2⟩:=hel i (by omega)
    obtain ⟨l,rfl,hq⟩:=op _ _ _ hc2
    refine ⟨l,λ_=>⟨λj u hj=>?_,hq⟩⟩
    rw [hct] at hc1
    obtain ⟨_,hlen,hall⟩:=World.cells?_some hc1
    have hj34:j<sz:=by have:=(ZA.1 hj).1;rw [hC] at this;exact this
    have:=hall j hj34
    rw [this,Zy];exact hj
   ·exact ⟨z,λh9=>ZF h9 hi⟩
  obtain ⟨L,hL⟩:=Classical.axiomOfChoice each
  refine ⟨_,(List.range len).map L,hcs,⟨?_,.inr ⟨a',cap,by simp,by simpa using hl,?_⟩⟩,λx hx=>?_⟩
  ·exact dW _ sz (λa=>by rw [YD,hC]) _
  ·refine js _ sz h0 (λx=>by rw [YD,hC]) _ λi hi=>?_
   have hi':i<len:=by simpa using hi
   have:=(hL i hi').1
   simpa using this
  ·obtain ⟨j,hj,rfl⟩:=Ze.1 hx
   exact(hL j (YI.1 hj)).2
structure Wd where
 ov:List Nd
 sv:List Sv
 ho:List Ho
 ml:Ml
def D5:Wd:=⟨[],[],[],x7⟩
abbrev V2:=Sv × Value
abbrev H4:=Ho × Value × Value × Value
def er:V2:=(M8,aj)
def aD:H4:=(n5,aj,aj,aj)
structure Wx where
 L:List N3
 S:List V2
 H:List H4
 M:Ml
def UV:Wx:=⟨[],[],[],x7⟩
def TB (vo vs vh vl:Value) (la nw:Int):List Value:=[vo,vs,vh,vl,.int .i64 la,.int .i64 nw]
def dM (vo vs vh vl:Value) (la nw:Int):Array Value:=(TB vo vs vh vl la nw).toArray
theorem bL (vo vs vh vl:Value) (la nw:Int):(dM vo vs vh vl la nw).size=6:=rfl
theorem fX {vo vs vh vl:Value} (la nw:Int) (h1:vo.oneCell'=true) (h2:vs.oneCell'=true) (h3:vh.oneCell'=true) (h4:vl.oneCell'=true):∀ u∈(dM vo vs vh vl la nw).toList,u.oneCell'=true:=λu hu=>by
 have hu:u∈TB vo vs vh vl la nw:=hu
 unfold TB at hu
 simp only [YH,YK,or_false] at hu
 rcases hu with rfl|rfl|rfl|rfl|rfl|rfl<;>first|assumption|rfl
section
variable (vo vs vh vl:Value) (la nw:Int)
theorem Ur:(dM vo vs vh vl la nw).extract 0 (0+1)=#[vo]:=rfl
theorem uZ:(dM vo vs vh vl la nw)[0]? = some vo:=rfl
theorem zL:(dM vo vs vh vl la nw)[1]? = some vs:=rfl
theorem yA:(dM vo vs vh vl la nw)[2]? = some vh:=rfl
theorem VG:(dM vo vs vh vl la nw).extract 3 (3+3)=#[vl,.int .i64 la,.int .i64 nw]:=rfl
theorem uq:(dM vo vs vh vl la nw)[3]? = some vl:=rfl
theorem Vx:(dM vo vs vh vl la nw)[4]? = some (.int .i64 la):=rfl
end
def Xq:List (List Value):=[[.slice none 0 0],[.slice none 0 0],[.slice none 0 0],[.slice none 0 0,.int .i64 0,.int .i64 0]]
def qP (x:V2):List Value:=QU x.1.no x.1.sec x.2
theorem mm (x:V2):(qP x).length=3:=rfl
def aQ (l:List V2):List Value:=l.flatMap qP
theorem VV {l:List V2} {j:Nat} (hj:j<l.length):l[j]=l.getD j er:=by rw [YR,Yz hj];rfl
theorem MK (l:List V2) (j:Nat) (hj:j<l.length):(((aQ l).drop (j*3)).take 3).toArray=de (l.getD j er).1.no (l.getD j er).1.sec (l.getD j er).2:=by
 unfold aQ
 rw [dS _ 3 mm l j hj,VV hj];rfl
theorem ga {l:List V2} {j:Nat} (hj:j<l.length):l.getD j er∈l:=by rw [← VV hj];exact Zq hj
def mz (x:H4):List Value:=Ip x.1.no x.1.gt x.2.1 x.2.2.1 x.2.2.2
theorem fS (x:H4):(mz x).length=5:=rfl
def aC (l:List H4):List Value:=l.flatMap mz
theorem UY {l:List H4} {j:Nat} (hj:j<l.length):l[j]=l.getD j aD:=by rw [YR,Yz hj];rfl
theorem pE (l:List H4) (j:Nat) (hj:j<l.length):(((aC l).drop (j*5)).take 5).toArray=a8 (l.getD j aD).1.no (l.getD j aD).1.gt (l.getD j aD).2.1 (l.getD j aD).2.2.1 (l.getD j aD).2.2.2:=by
 unfold aC
 rw [dS _ 5 fS l j hj,UY hj];rfl
theorem cr {l:List H4} {j:Nat} (hj:j<l.length):l.getD j aD∈l:=by rw [← UY hj];exact Zq hj
structure RdW (w:World) (vo vs vh vl:Value) (X:Wx):Prop where
 ov:kC w vo X.L
 sv:bp w vs 3 X.S.length (aQ X.S)
 sw:∀ x∈X.S,MX w x.2 x.1.tb
 ho:bp w vh 5 X.H.length (aC X.H)
 hw:∀ x∈X.H,gn w x.2.1 x.2.2.1 x.2.2.2 x.1
 ml:bp w vl 4 X.M.l.length (bD X.M.l)
theorem RdW.keep {w w':World} {vo vs vh vl:Value} {X:Wx} (h:RdW w vo vs vh vl X) (e:Ext w w'):RdW w' vo vs vh vl X:=
 ⟨⟨h.ov.1.keep e,λx hx=>⟨(h.ov.2 x hx).1.keep e,(h.ov.2 x hx).2.keep e⟩⟩,h.sv.keep e,λx hx=>(h.sw x hx).keep e,h.ho.keep e,λx hx=>⟨(h.hw x hx).1.keep e,(h.hw x hx).2.1.keep e,(h.hw x hx).2.2.keep e⟩,h.ml.keep e⟩
def ax (X:Wx):Wd:=⟨nds X.L,X.S.map (·.1),X.H.map (·.1),X.M⟩
theorem df (w:World):RdW w aj aj aj aj UV:=
 ⟨⟨⟨rfl,.inl ⟨rfl,rfl⟩⟩,λ_ h=>(by cases h)⟩,⟨rfl,.inl ⟨rfl,rfl⟩⟩,λ_ h=>(by cases h),⟨rfl,.inl ⟨rfl,rfl⟩⟩,λ_ h=>(by cases h),⟨rfl,.inl ⟨rfl,rfl⟩⟩⟩
def jh (i:Id):Bool:=(List.range 16).all λk=>decide (bu i (k+16)=255)
def rJ (W:Wd) (k:Nat):Bool:=eL (W.sv.getD k M8) && (decide ((W.sv.getD k M8).no=(W.ov.getD k zN).me.1) && jh (W.ov.getD k zN).me.2)
def sE (l:List Ho) (k:Nat):Bool:=bT (l.getD k n5) && !(decide (0<k) && decide ((l.getD k n5).no<=(l.getD (k - 1) n5).no))
def cj (W:Wd):Bool:=lD (jj W.ov) && (cM W.ml && (decide (W.sv.length=W.ov.length) && ((List.range W.sv.length).all (rJ W) && (List.range W.ho.length).all (sE W.ho))))
structure Wr where
 w:Wd
 n:List Nt
 e:Int
def fw (e:Int):Wr:=⟨D5,[],e⟩
def iG (W:Wd):Wr:=⟨W,[],0⟩
def xd {α:Type} (f:α->Int) (z:α) (l:List α) (n:Int):α:=(l.find? λx=>decide (f x=n)).getD z
def jG {α:Type} (f:α->Int) (l:List α) (x:α):List α:=(l.filter λy=>decide (f y<f x))++x::l.filter λy=>decide (f x<f y)
def Rf {α:Type} (f:α->Int) (l:List α) (n:Int):List α:=l.filter λy => !decide (f y=n)
def XO:Sv:=⟨-1,ByteArray.empty,[]⟩
def RD:Ho:=⟨-1,0,[],[],[]⟩
def En (W:Wd) (n:Int):Sv:=xd (·.no) XO W.sv n
def cQ (W:Wd) (n:Int):Ho:=xd (·.no) RD W.ho n
def nA (W:Wd) (s:Sv):Wd:={W with sv:=jG (·.no) W.sv s}
def mq (W:Wd) (h:Ho):Wd:={W with ho:=jG (·.no) W.ho h}
structure Pt where
 w:Wd
 n:List Nt
 no:Int
def jw (t:Pt) (x:Nt):Pt:=⟨t.w,t.n++[{x with tm:=t.w.ml.now}],t.no⟩
def rA (no wa y:Int):Nt:=⟨5,0,no,wa,0,eg,ByteArray.empty,y⟩
def Tw (m:Mg):cO:=m.l.getD 0 (0,0#256,0)
def Xy (m:Mg):Bool:=qz m || (decide (m.k=1) && decide ((Tw m).1=1))
def QY (m:Mg):Id:=bif decide (m.k=1) then (Tw m).2.1 else m.i
def JT (W:Wd) (fr:Int) (s:Se):Int:=bif decide (s.1<0) then Ww (jj W.ov) (QY s.2.1) fr 16 else 0
def BN (W:Wd) (fr:Int) (s:Se):Int:=bif decide (s.1<0) then (V7 (jj W.ov) (QY s.2.1) fr 16).1 else s.1
def kY (W:Wd) (fr:Int) (s:Se):Int:=bif decide (JT W fr s=0) then cx W.ml fr (BN W fr s) (cf s.2.1) else JT W fr s
def aT (t:Pt) (fr:Int) (s:Se):Pt:=
 bif decide (kY t.w fr s=0) then ⟨{t.w with ml:=f4 t.w.ml fr (BN t.w fr s) (cf s.2.1)},t.n,jJ t.w.ml fr (BN t.w fr s) (cf s.2.1)⟩
 else jw ⟨t.w,t.n,0⟩ (rA fr 0 (kY t.w fr s))
def fC (t:Pt) (fr:Int) (l:List Se):Pt:=l.foldl (λt s=>aT t fr s) t
def XV (no wa le:Int) (tr:Tg):Nt:=⟨3,0,no,wa,le,tr,ByteArray.empty,0⟩
def WU (t:Pt) (fr no wa:Int) (s:Se):Pt:=bif decide (0<(aT t fr s).no) && decide (s.2.1.k=1) then jw (aT t fr s) (XV no wa (aT t fr s).no s.2.2) else aT t fr s
def VZ (t:Pt) (fr no wa:Int) (l:List Se):Pt:=l.foldl (λt s=>WU t fr no wa s) t
def ky (t:Pt):Wr:=⟨t.w,t.n,0⟩
def pk (W:Wd) (x:Lt) (y:Int):Wr:=ky (jw ⟨W,[],0⟩ (rA x.2.2.1 x.1 y))
def RV (no:Int) (tr:Tg):Nt:=⟨2,0,no,0,0,tr,ByteArray.empty,0⟩
def Ua (no wa:Int) (d:ByteArray):Nt:=⟨4,0,no,wa,0,eg,d,0⟩
noncomputable def PR (W:Wd) (s:Sv) (x:Lt) (m:Mg):Wr:=
 bif !decide ((ze s x.2.1 m W.ml.now).e=0) then pk W x (ze s x.2.1 m W.ml.now).e else
 ky (VZ (bif decide (0<(ze s x.2.1 m W.ml.now).l.length) && decide (((ze s x.2.1 m W.ml.now).l.getD 0 Du).2.1.k=5) then jw ⟨nA W (ze s x.2.1 m W.ml.now).s,[],0⟩ (RV s.no (Oa m W.ml.now)) else ⟨nA W (ze s x.2.1 m W.ml.now).s,[],0⟩) s.no s.no x.1 (ze s x.2.1 m W.ml.now).l)
noncomputable def Uf (W:Wd) (s:Sv) (x:Lt) (m:Mg):Wr:=
 bif Xy m then (bif !decide (Ww (jj W.ov) (QY m) s.no 16=0) then pk W x (Ww (jj W.ov) (QY m) s.no 16) else
  bif !decide ((V7 (jj W.ov) (QY m) s.no 16).1=s.no) then ky (WU ⟨W,[],0⟩ x.2.1 s.no x.1 ((V7 (jj W.ov) (QY m) s.no 16).1,m,eg)) else PR W s x m) else PR W s x m
def IQ (W:Wd) (h:Ho) (x:Lt) (m:Mg):Wr:=
 bif !decide ((ip h x.2.1 m W.ml.now).e=0) then pk W x (ip h x.2.1 m W.ml.now).e else
 ky (fC (bif decide (m.k=1) then jw ⟨mq W (ip h x.2.1 m W.ml.now).h,[],0⟩ (Ua h.no x.1 m.d) else ⟨mq W (ip h x.2.1 m W.ml.now).h,[],0⟩) x.2.2.1 (ip h x.2.1 m W.ml.now).l)
noncomputable def Ri (W:Wd) (x:Lt):Wr:=
 bif !decide (WL x.2.2.2=0) then pk W x 4 else
 bif decide (0<=(En W x.2.2.1).no) then Uf W (En W x.2.2.1) x (Tc x.2.2.2) else
 bif decide (16<=x.2.2.1) && decide (0<=(cQ W (x.2.2.1 - 16)).no) then IQ W (cQ W (x.2.2.1 - 16)) x (Tc x.2.2.2) else pk W x 10
def Qo (W:Wd) (a:Ac):Mb:=I1 (gc W.ov) a.i
def zW (W:Wd) (a:Ac):Int:=bif decide (64<a.d.size) || !jh a.i then 1 else nQ (jj W.ov) (a.no,a.i) (Qo W a).1
def CA (W:Wd) (a:Ac):List Nd:=ra (jj W.ov) (a.no,a.i) (Qo W a).1
def TO (W:Wd) (a:Ac):Id:=(Vd (gc (CA W a)) (a.no,a.i)).2
def KI (W:Wd) (a:Ac):Sv:=En W (Qo W a).1
def mR (W:Wd) (a:Ac):Wr:=
 bif !decide (zW W a=0) then fw (zW W a) else
 bif decide (0<W.ov.length) then iG {nA (nA W ⟨(KI W a).no,(KI W a).sec,Xp (KI W a).tb (TO W a) a.i false⟩) ⟨a.no,a.d,Xp (KI W a).tb (TO W a) a.i true⟩ with ov:=CA W a}
 else iG {nA W ⟨a.no,a.d,[]⟩ with ov:=CA W a}
def QG (W:Wd) (n:Int):List Sv:=Rf (·.no) W.sv n
def S9 (W:Wd) (n:Int):Wr:=
 bif !decide (cE (jj W.ov) n=0) then fw (cE (jj W.ov) n) else
 bif decide (1<W.ov.length) then iG {nA {W with sv:=QG W n} (XE (En W (Wk (gc W.ov) (xC W.ov n).me).1) (En W n).tb) with ov:=Dx W.ov n}
 else iG {W with sv:=QG W n,ov:=Dx W.ov n}
def T8 (W:Wd) (n:Int):Wr:=bif !decide (cE (jj W.ov) n=0) then fw (cE (jj W.ov) n) else iG {W with sv:=QG W n,ov:=zR W.ov n}
def Nw (W:Wd):Wr:=iG {W with ov:=ND W.ov}
def Uy (W:Wd) (n:Int):Wr:=bif decide (Hb W.ml n=0) then iG {W with ml:=Tv W.ml n} else fw (Hb W.ml n)
def pt (W:Wd) (n g:Int):Wr:=bif !decide (mF n g=0) then fw (mF n g) else bif decide (0<=(cQ W n).no) then fw 7 else iG (mq W (fE n g))
def RI (W:Wd) (a:Ac):Wr:=bif decide ((cQ W a.no).no<0) then fw 6 else bif decide (PQ (cQ W a.no) a.i a.n=0) then iG (mq W (WA (cQ W a.no) a.i a.n)) else fw (PQ (cQ W a.no) a.i a.n)
def TT (W:Wd) (a:Ac):Wr:=bif decide ((cQ W a.no).no<0) then fw 6 else bif decide (Oc (cQ W a.no) a.i=0) then iG (mq W (Vf (cQ W a.no) a.i)) else fw (Oc (cQ W a.no) a.i)
def lA (W:Wd) (n:Int):Wr:=bif decide ((cQ W n).no<0) then fw 6 else ky (fC ⟨W,[],0⟩ (16+n) (iu (cQ W n) W.ml.now))
def my (no le:Int) (d:ByteArray):Nt:=⟨1,0,no,0,le,eg,d,0⟩
def iJ (W:Wd) (a:Ac):Pt:=aT ⟨W,[],0⟩ (16+a.no) (jS (cQ W a.no) a.l a.d W.ml.now)
def gA (W:Wd) (a:Ac):Wr:=bif decide ((cQ W a.no).no<0) then fw 6 else bif !decide (ji (cQ W a.no) a.l a.d W.ml.now=0) then fw (ji (cQ W a.no) a.l a.d W.ml.now) else
 bif decide (0<(iJ W a).no) then ky (jw (iJ W a) (my a.no (iJ W a).no a.d)) else ky (iJ W a)
def Wa (a:Ac):Mg:=⟨2,a.i,a.l.getD 0 (0,0#256,0),[],a.n,ByteArray.empty,ByteArray.empty⟩
def Ty (W:Wd) (a:Ac):Wr:=bif decide ((cQ W a.no).no<0) then fw 6 else
 bif decide (a.l.length=1) && (decide ((a.l.getD 0 (0,0#256,0)).1=1) && (cZ a.l && eN a.n 1 1048576)) then ky (aT ⟨W,[],0⟩ (16+a.no) ((cQ W a.no).gt,Wa a,eg)) else fw 1
def TV (W:Wd) (n:Int):Wr:=bif decide (Wz W.ml n=0) then iG {W with ml:=XZ W.ml n} else fw (Wz W.ml n)
def Rt (W:Wd) (n:Int):Wr:=bif decide (DU W.ml n=0) then iG {W with ml:=M0 W.ml n} else fw (DU W.ml n)
def SR (W:Wd) (n:Int):Wr:=bif decide (DU W.ml n=0) then iG {W with ml:=T4 W.ml n} else fw (DU W.ml n)
noncomputable def RE (W:Wd) (n:Int):Wr:=bif decide (DU W.ml n=0) then Ri {W with ml:=M0 W.ml n} (U9 W.ml n) else fw (DU W.ml n)
noncomputable def zI (W:Wd) (a:Ac):Nat->Wr
 |1=>mR W a|2=>S9 W a.no|3=>T8 W a.no|4=>Nw W|5=>Uy W a.n|6=>pt W a.no a.tO|7=>RI W a|8=>TT W a|9=>lA W a.no|10=>gA W a
 |11=>RE W a.n|12=>TV W a.n|13=>Rt W a.n|14=>SR W a.n|15=>Ty W a|_=>fw 1
noncomputable def bP (W:Wd) (a:Ac):Wr:=bif cj W && (decide (1<=a.k) && decide (a.k<=15)) then zI W a a.k.toNat else fw 1
def QM (w:World) (vo vs vh vl:Value) (X:Wx) (va:Value) (l:List cO) (R:Wr):c8:=λv w'=>∃ uo us uh ul un Y ks,v=.tuple #[.agg (dM uo us uh ul Y.M.last Y.M.now),un,.int .i64 R.e]/\ax Y=R.w/\
 St w [.grp ks λw9=>RdW w9 vo vs vh vl X->ez w9 va l->RdW w9 uo us uh ul Y/\bp w9 un 74 R.n.length (aH R.n)] w'
theorem pq {H α:Type} {enc:TypeId × Value->H} {P:Program} {W:World} {ts t:TypeId} {fuel:Nat} {cs:List Value} {x:DataW H × List MemPlace} (C:α->Array Value) (sz:Nat) (h0:0<sz) (hC:∀ a,(C a).size=sz) (z:α) (Q:α->Prop)
 (hts:P.underlying ts=some (.slice t)) (hct:P.cellsOf t=sz) (op:∀ (fuel:Nat) (cs:List Value) (x:DataW H × List MemPlace),DataW.trod enc P W 0 (λ_=>true) true fuel t cs=some x->∃ l:α,cs=(C l).toList/\Q l)
 (hf:DataW.trod enc P W 0 (λ_=>true) true fuel ts cs=some x):∃ (v:Value) (ls:List α),cs=[v]/\bp W v sz ls.length (ls.flatMap λa=>(C a).toList)/\(∀ x∈ls,Q x)/\ls.length<=maxLen:=by
 obtain ⟨v,ls,h1,h2,h3⟩:=Hh C sz h0 hC z Q hts hct op hf
 refine ⟨v,ls,h1,h2,h3,?_⟩
 rcases Go.Deep.open_slice hts hf with ⟨hcs,_⟩|⟨a',len,cap,m,k,D,Pl,hcs,_,hl,hcap,_⟩
 ·rcases h2.2 with ⟨_,h9⟩|⟨p,c,h9,_⟩
  ·rw [h9];exact YO _
  ·rw [h1] at hcs
   rw [h9] at hcs
   simp at hcs
 ·rw [h1] at hcs
  obtain rfl:=(List.cons.inj hcs).1
  rcases h2.2 with ⟨h9,_⟩|⟨p,c,h9,_⟩
  ·cases h9
  ·have e:=(Value.slice.inj h9).2.1
   omega
theorem yS {cs:List Value} {a b c d e:Value} (hl:cs.length=5) (h0:(cs.drop 0).take 1=[a]) (h1:(cs.drop 1).take 1=[b]) (h2:(cs.drop 2).take 1=[c]) (h3:(cs.drop 3).take 1=[d]) (h4:(cs.drop 4).take 1=[e]):cs=[a,b,c,d,e]:=by
 match cs,hl with
 |[x,y,z,u,v],_=>simp at h0 h1 h2 h3 h4;subst h0;subst h1;subst h2;subst h3;subst h4;rfl
theorem I8 {cs:List Value} {a b c d e f:Value} (hl:cs.length=6) (h0:(cs.drop 0).take 1=[a]) (h1:(cs.drop 1).take 1=[b]) (h2:(cs.drop 2).take 1=[c]) (h3:(cs.drop 3).take 3=[d,e,f]):cs=[a,b,c,d,e,f]:=by
 match cs,hl with
 |[x,y,z,u,v,w],_=>simp at h0 h1 h2 h3;obtain ⟨rfl,rfl,rfl⟩:=h3;subst h0;subst h1;subst h2;rfl
theorem Fj {H:Type} {enc:TypeId × Value->H} {P:Program} {W:World} {ti e tn tz tb tsb td tsd to:TypeId} {b0 b1 d0 d1 d2 d3 q0:Field} {fuel:Nat} {cs:List Value} {x:DataW H × List MemPlace} (T:IdTy P ti e) (hc:P.cellsOf ti=32) (hce:P.cellsOf e=1) (hn:P.underlying tn=some (.int .i64)) (hcn:P.cellsOf tn=1) (hz:P.underlying tz=some .string) (hcz:P.cellsOf tz=1) (hb:P.underlying tb=some (.struct #[b0,b1])) (hb0:b0.type=tn) (hb1:b1.type=ti) (ob0:b0.offset=0) (ob1:b1.offset=1) (hcb:P.cellsOf tb=33) (htsb:P.underlying tsb=some (.slice tb)) (hcsb:P.cellsOf tsb=1) (hd:P.underlying td=some (.struct #[d0,d1,d2,d3])) (hd0:d0.type=tb) (Cc:d1.type=tb) (hd2:d2.type=tsb) (hd3:d3.type=tsb) (od0:d0.offset=0) (od1:d1.offset=33) (od2:d2.offset=66) (od3:d3.offset=67) (hcd:P.cellsOf td=68) (htsd:P.underlying tsd=some (.slice td)) (hcsd:P.cellsOf tsd=1) (hto:P.underlying to=some (.struct #[q0])) (ln:q0.type=tsd) (oq0:q0.offset=0) (hcto:P.cellsOf to=1) (hf:DataW.trod enc P W 0 (λ_=>true) true fuel to cs=some x):∃ (v:Value) (L:List N3),cs=[v]/\kC W v L/\L.length<=maxLen:=by
 obtain ⟨xs,n,hcells,_,hl,hxl,hel⟩:=DataW.trod_struct hto hf
 have hcl:cs.length=1:=by rw [← hcto];simpa using hl
 have hx1:xs.length=1:=by simpa using hxl
 have e0:=hel 0 q0 rfl
 rw [ln,oq0,hcsd,Yz (by omega)] at e0
 obtain ⟨u,L,hu,hL,hL2,hL3⟩:=pq (λy:N3=>bJ y.1.me y.1.pr y.2.1 y.2.2) 68 (by decide) (λy=>bN ..) z3 (λy=>BT W y) htsd hcd (λ_ _ _ h=>Gv T hc hce hn hcn hcsb htsb hb hb0 hb1 ob0 ob1 hcb hd hd0 Cc hd2 hd3 od0 od1 od2 od3 hcd h) e0
 refine ⟨u,L,?_,⟨hL,hL2⟩,hL3⟩
 rw [List.drop_zero,YU (by omega)] at hu
 exact hu
theorem Hu {H:Type} {enc:TypeId × Value->H} {P:Program} {W:World} {ti e tn tz tl tsl ty:TypeId} {l0 l1 l2 l3 y0 y1 y2:Field} {fuel:Nat} {cs:List Value} {x:DataW H × List MemPlace} (T:IdTy P ti e) (hc:P.cellsOf ti=32) (hce:P.cellsOf e=1) (hn:P.underlying tn=some (.int .i64)) (hcn:P.cellsOf tn=1) (hz:P.underlying tz=some .string) (hcz:P.cellsOf tz=1) (hl:P.underlying tl=some (.struct #[l0,l1,l2,l3])) (hl0:l0.type=tn) (hl1:l1.type=tn) (hl2:l2.type=tn) (hl3:l3.type=tz) (ol0:l0.offset=0) (ol1:l1.offset=1) (ol2:l2.offset=2) (ol3:l3.offset=3) (hcl:P.cellsOf tl=4) (htsl:P.underlying tsl=some (.slice tl)) (hcsl:P.cellsOf tsl=1) (hy:P.underlying ty=some (.struct #[y0,y1,y2])) (hy0:y0.type=tsl) (hy1:y1.type=tn) (hy2:y2.type=tn) (oy0:y0.offset=0) (oy1:y1.offset=1) (oy2:y2.offset=2) (hcy:P.cellsOf ty=3) (hf:DataW.trod enc P W 0 (λ_=>true) true fuel ty cs=some x):∃ (v:Value) (m:Ml),cs=[v,.int .i64 m.last,.int .i64 m.now]/\bp W v 4 m.l.length (bD m.l):=by
 obtain ⟨xs,n,hcells,_,hl9,hxl,hel⟩:=DataW.trod_struct hy hf
 have hcl9:cs.length=3:=by rw [← hcy];simpa using hl9
 have hx3:xs.length=3:=by simpa using hxl
 have e0:=hel 0 y0 rfl
 have e1:=hel 1 y1 rfl
 have e2:=hel 2 y2 rfl
 rw [hy0,oy0,hcsl,Yz (by omega)] at e0
 rw [hy1,oy1,hcn,Yz (by omega)] at e1
 rw [hy2,oy2,hcn,Yz (by omega)] at e2
 obtain ⟨u,ls,hu,hls⟩:=Ca hn hcn hz hcz htsl hl hl0 hl1 hl2 hl3 ol0 ol1 ol2 ol3 hcl e0
 obtain ⟨a,ha,_⟩:=DataW.trod_int hn e1
 obtain ⟨b,hb,_⟩:=DataW.trod_int hn e2
 exact ⟨u,⟨ls,a,b⟩,qs hcl9 hu ha hb,hls⟩
theorem Gw {H:Type} {enc:TypeId × Value->H} {P:Program} {W:World} {ti e tn tz te ts tg tm:TypeId} {f0 f1 f2 k0 k1 k2 g0 g1 g2:Field} {fuel:Nat} {cs:List Value} {x:DataW H × List MemPlace} (T:IdTy P ti e) (hc:P.cellsOf ti=32) (hce:P.cellsOf e=1) (hn:P.underlying tn=some (.int .i64)) (hcn:P.cellsOf tn=1) (hz:P.underlying tz=some .string) (hcz:P.cellsOf tz=1) (hte:P.underlying te=some (.struct #[f0,f1,f2])) (h0:f0.type=tn) (h1:f1.type=ti) (h2:f2.type=tn) (o0:f0.offset=0) (o1:f1.offset=1) (o2:f2.offset=33) (hcte:P.cellsOf te=34) (hts:P.underlying ts=some (.slice tg)) (hcs:P.cellsOf ts=1) (htg:P.underlying tg=some (.struct #[k0,k1,k2])) (j0:k0.type=ti) (j1:k1.type=te) (j2:k2.type=tn) (p0:k0.offset=0) (p1:k1.offset=32) (p2:k2.offset=66) (hctg:P.cellsOf tg=67) (htm:P.underlying tm=some (.struct #[g0,g1,g2])) (ht0:g0.type=tn) (ht1:g1.type=tz) (ht2:g2.type=ts) (Nn:g0.offset=0) (ho1:g1.offset=1) (ho2:g2.offset=2) (hctm:P.cellsOf tm=3) (hf:DataW.trod enc P W 0 (λ_=>true) true fuel tm cs=some x):∃ y:V2,cs=(de y.1.no y.1.sec y.2).toList/\MX W y.2 y.1.tb:=by
 obtain ⟨xs,n,hcells,_,hl,hxl,hel⟩:=DataW.trod_struct htm hf
 have hcl:cs.length=3:=by rw [← hctm];simpa using hl
 have hx3:xs.length=3:=by simpa using hxl
 have e0:=hel 0 g0 rfl
 have e1:=hel 1 g1 rfl
 have e2:=hel 2 g2 rfl
 rw [ht0,Nn,hcn,Yz (by omega)] at e0
 rw [ht1,ho1,hcz,Yz (by omega)] at e1
 rw [ht2,ho2,hcs,Yz (by omega)] at e2
 obtain ⟨k,QZ,_⟩:=DataW.trod_int hn e0
 obtain ⟨d9,hd9,_⟩:=DataW.trod_string hz e1
 obtain ⟨u,ls,hu,hls⟩:=lE bY 67 (by decide) cV eg hts hctg (λ_ _ _ h=>GE T hc hce hn hcn hte h0 h1 h2 o0 o1 o2 hcte htg j0 j1 j2 p0 p1 p2 hctg h) e2
 exact ⟨(⟨k,d9,ls⟩,u),qs hcl QZ hd9 hu,hls⟩
theorem D6 {H:Type} {enc:TypeId × Value->H} {P:Program} {W:World} {ti e tn tz tw tsw th tsh tst tx:TypeId} {a0 a1 c0 c1 c2 x0 x1 x2 x3 x4:Field} {fuel:Nat} {cs:List Value} {x:DataW H × List MemPlace} (T:IdTy P ti e) (hc:P.cellsOf ti=32) (hce:P.cellsOf e=1) (hn:P.underlying tn=some (.int .i64)) (hcn:P.cellsOf tn=1) (hz:P.underlying tz=some .string) (hcz:P.cellsOf tz=1) (hw:P.underlying tw=some (.struct #[a0,a1])) (ha0:a0.type=ti) (ha1:a1.type=tn) (oa0:a0.offset=0) (oa1:a1.offset=32) (hcw:P.cellsOf tw=33) (htsw:P.underlying tsw=some (.slice tw)) (hcsw:P.cellsOf tsw=1) (hh:P.underlying th=some (.struct #[c0,c1,c2])) (hc0:c0.type=ti) (hc1:c1.type=tn) (hc2:c2.type=tn) (oc0:c0.offset=0) (oc1:c1.offset=32) (oc2:c2.offset=33) (hch:P.cellsOf th=34) (htsh:P.underlying tsh=some (.slice th)) (hcsh:P.cellsOf tsh=1) (htst:P.underlying tst=some (.slice tz)) (hcst:P.cellsOf tst=1) (hx:P.underlying tx=some (.struct #[x0,x1,x2,x3,x4])) (hx0:x0.type=tn) (hx1:x1.type=tn) (hx2:x2.type=tsw) (hx3:x3.type=tsh) (hx4:x4.type=tst) (ox0:x0.offset=0) (ox1:x1.offset=1) (ox2:x2.offset=2) (ox3:x3.offset=3) (ox4:x4.offset=4) (hcx:P.cellsOf tx=5) (hf:DataW.trod enc P W 0 (λ_=>true) true fuel tx cs=some x):∃ y:H4,cs=(a8 y.1.no y.1.gt y.2.1 y.2.2.1 y.2.2.2).toList/\gn W y.2.1 y.2.2.1 y.2.2.2 y.1:=by
 obtain ⟨xs,n,hcells,_,hl,hxl,hel⟩:=DataW.trod_struct hx hf
 have hcl:cs.length=5:=by rw [← hcx];simpa using hl
 have hx5:xs.length=5:=by simpa using hxl
 have e0:=hel 0 x0 rfl
 have e1:=hel 1 x1 rfl
 have e2:=hel 2 x2 rfl
 have e3:=hel 3 x3 rfl
 have e4:=hel 4 x4 rfl
 rw [hx0,ox0,hcn,Yz (by omega)] at e0
 rw [hx1,ox1,hcn,Yz (by omega)] at e1
 rw [hx2,ox2,hcsw,Yz (by omega)] at e2
 rw [hx3,ox3,hcsh,Yz (by omega)] at e3
 rw [hx4,ox4,hcst,Yz (by omega)] at e4
 obtain ⟨k,QZ,_⟩:=DataW.trod_int hn e0
 obtain ⟨k2,hk2,_⟩:=DataW.trod_int hn e1
 obtain ⟨vw,ws,hvw,hws⟩:=lE cP 33 (by decide) ck dR htsw hcw (λ_ _ _ h=>F6 T hc hce hn hcn hw ha0 ha1 oa0 oa1 hcw h) e2
 obtain ⟨vh,hs,hvh,hhs⟩:=lE c7 34 (by decide) cL eV htsh hch (λ_ _ _ h=>Gn T hc hce hn hcn hh hc0 hc1 hc2 oc0 oc1 oc2 hch h) e3
 obtain ⟨vi,bx,hvi,hbx⟩:=lE (λa=>#[Value.string a]) 1 (by decide) (λ_=>rfl) ByteArray.empty htst hcz (λ_ _ _ h=>Ft hz h) e4
 rw [JY] at hbx
 exact ⟨(⟨k,k2,ws,hs,bx⟩,vw,vh,vi),yS hcl QZ hk2 hvw hvh hvi,hws,hhs,hbx⟩
theorem DP {H:Type} {enc:TypeId × Value->H} {P:Program} {W:World} {ti e tn tz te ts tg tm tb tsb td tsd to tw tsw th tsh tst tx tl tsl ty tW tss tsx:TypeId} {f0 f1 f2 k0 k1 k2 g0 g1 g2 b0 b1 d0 d1 d2 d3 q0 a0 a1 c0 c1 c2 x0 x1 x2 x3 x4 l0 l1 l2 l3 y0 y1 y2 w0 w1 w2 w3:Field} {fuel:Nat} {cs:List Value} {x:DataW H × List MemPlace} (T:IdTy P ti e) (hc:P.cellsOf ti=32) (hce:P.cellsOf e=1) (hn:P.underlying tn=some (.int .i64)) (hcn:P.cellsOf tn=1) (hz:P.underlying tz=some .string) (hcz:P.cellsOf tz=1) (hte:P.underlying te=some (.struct #[f0,f1,f2])) (h0:f0.type=tn) (h1:f1.type=ti) (h2:f2.type=tn) (o0:f0.offset=0) (o1:f1.offset=1) (o2:f2.offset=33) (hcte:P.cellsOf te=34) (hts:P.underlying ts=some (.slice tg)) (hcs:P.cellsOf ts=1) (htg:P.underlying tg=some (.struct #[k0,k1,k2])) (j0:k0.type=ti) (j1:k1.type=te) (j2:k2.type=tn) (p0:k0.offset=0) (p1:k1.offset=32) (p2:k2.offset=66) (hctg:P.cellsOf tg=67) (htm:P.underlying tm=some (.struct #[g0,g1,g2])) (ht0:g0.type=tn) (ht1:g1.type=tz) (ht2:g2.type=ts) (Nn:g0.offset=0) (ho1:g1.offset=1) (ho2:g2.offset=2) (hctm:P.cellsOf tm=3) (hb:P.underlying tb=some (.struct #[b0,b1])) (hb0:b0.type=tn) (hb1:b1.type=ti) (ob0:b0.offset=0) (ob1:b1.offset=1) (hcb:P.cellsOf tb=33) (htsb:P.underlying tsb=some (.slice tb)) (hcsb:P.cellsOf tsb=1) (hd:P.underlying td=some (.struct #[d0,d1,d2,d3])) (hd0:d0.type=tb) (Cc:d1.type=tb) (hd2:d2.type=tsb) (hd3:d3.type=tsb) (od0:d0.offset=0) (od1:d1.offset=33) (od2:d2.offset=66) (od3:d3.offset=67) (hcd:P.cellsOf td=68) (htsd:P.underlying tsd=some (.slice td)) (hcsd:P.cellsOf tsd=1) (hto:P.underlying to=some (.struct #[q0])) (ln:q0.type=tsd) (oq0:q0.offset=0) (hcto:P.cellsOf to=1) (hw:P.underlying tw=some (.struct #[a0,a1])) (ha0:a0.type=ti) (ha1:a1.type=tn) (oa0:a0.offset=0) (oa1:a1.offset=32) (hcw:P.cellsOf tw=33) (htsw:P.underlying tsw=some (.slice tw)) (hcsw:P.cellsOf tsw=1) (hh:P.underlying th=some (.struct #[c0,c1,c2])) (hc0:c0.type=ti) (hc1:c1.type=tn) (hc2:c2.type=tn) (oc0:c0.offset=0) (oc1:c1.offset=32) (oc2:c2.offset=33) (hch:P.cellsOf th=34) (htsh:P.underlying tsh=some (.slice th)) (hcsh:P.cellsOf tsh=1) (htst:P.underlying tst=some (.slice tz)) (hcst:P.cellsOf tst=1) (hx:P.underlying tx=some (.struct #[x0,x1,x2,x3,x4])) (hx0:x0.type=tn) (hx1:x1.type=tn) (hx2:x2.type=tsw) (hx3:x3.type=tsh) (hx4:x4.type=tst) (ox0:x0.offset=0) (ox1:x1.offset=1) (ox2:x2.offset=2) (ox3:x3.offset=3) (ox4:x4.offset=4) (hcx:P.cellsOf tx=5) (hl:P.underlying tl=some (.struct #[l0,l1,l2,l3])) (hl0:l0.type=tn) (hl1:l1.type=tn) (hl2:l2.type=tn) (hl3:l3.type=tz) (ol0:l0.offset=0) (ol1:l1.offset=1) (ol2:l2.offset=2) (ol3:l3.offset=3) (hcl:P.cellsOf tl=4) (htsl:P.underlying tsl=some (.slice tl)) (hcsl:P.cellsOf tsl=1) (hy:P.underlying ty=some (.struct #[y0,y1,y2])) (hy0:y0.type=tsl) (hy1:y1.type=tn) (hy2:y2.type=tn) (oy0:y0.offset=0) (oy1:y1.offset=1) (oy2:y2.offset=2) (hcy:P.cellsOf ty=3) (hW:P.underlying tW=some (.struct #[w0,w1,w2,w3])) (hw0:w0.type=to) (hw1:w1.type=tss) (hw2:w2.type=tsx) (hw3:w3.type=ty) (ow0:w0.offset=0) (ow1:w1.offset=1) (ow2:w2.offset=2) (ow3:w3.offset=3) (hcW:P.cellsOf tW=6) (htss:P.underlying tss=some (.slice tm)) (hcss:P.cellsOf tss=1) (htsx:P.underlying tsx=some (.slice tx)) (hcsx:P.cellsOf tsx=1) (hf:DataW.trod enc P W 0 (λ_=>true) true fuel tW cs=some x):∃ (X:Wx) (vo vs vh vl:Value),cs=TB vo vs vh vl X.M.last X.M.now/\RdW W vo vs vh vl X/\X.L.length<=maxLen/\X.S.length<=maxLen/\X.H.length<=maxLen:=by
 obtain ⟨xs,n,hcells,_,hl9,hxl,hel⟩:=DataW.trod_struct hW hf
 have hcl9:cs.length=6:=by rw [← hcW];simpa using hl9
 have hxl4:xs.length=4:=by simpa using hxl
 have e0:=hel 0 w0 rfl
 have e1:=hel 1 w1 rfl
 have e2:=hel 2 w2 rfl
 have e3:=hel 3 w3 rfl
 rw [hw0,ow0,hcto,Yz (by omega)] at e0
 rw [hw1,ow1,hcss,Yz (by omega)] at e1
 rw [hw2,ow2,hcsx,Yz (by omega)] at e2
 rw [hw3,ow3,hcy,Yz (by omega)] at e3
 obtain ⟨vo,L,ho,hL,hbL⟩:=Fj T hc hce hn hcn hz hcz hb hb0 hb1 ob0 ob1 hcb htsb hcsb hd hd0 Cc hd2 hd3 od0 od1 od2 od3 hcd htsd hcsd hto ln oq0 hcto e0
 obtain ⟨vs,S,hs,hS,hS2,hbS⟩:=pq (λy:V2=>de y.1.no y.1.sec y.2) 3 (by decide) (λy=>cB ..) er (λy=>MX W y.2 y.1.tb) htss hctm (λ_ _ _ h=>Gw T hc hce hn hcn hz hcz hte h0 h1 h2 o0 o1 o2 hcte hts hcs htg j0 j1 j2 p0 p1 p2 hctg htm ht0 ht1 ht2 Nn ho1 ho2 hctm h) e1
 obtain ⟨vh,Hs,hh9,hH,hH2,hbH⟩:=pq (λy:H4=>a8 y.1.no y.1.gt y.2.1 y.2.2.1 y.2.2.2) 5 (by decide) (λy=>rfl) aD (λy=>gn W y.2.1 y.2.2.1 y.2.2.2 y.1) htsx hcx (λ_ _ _ h=>D6 T hc hce hn hcn hz hcz hw ha0 ha1 oa0 oa1 hcw htsw hcsw hh hc0 hc1 hc2 oc0 oc1 oc2 hch htsh hcsh htst hcst hx hx0 hx1 hx2 hx3 hx4 ox0 ox1 ox2 ox3 ox4 hcx h) e2
 obtain ⟨vl,m,hm,hM⟩:=Hu T hc hce hn hcn hz hcz hl hl0 hl1 hl2 hl3 ol0 ol1 ol2 ol3 hcl htsl hcsl hy hy0 hy1 hy2 oy0 oy1 oy2 hcy e3
 exact ⟨⟨L,S,Hs,m⟩,vo,vs,vh,vl,I8 hcl9 ho hs hh9 hm,⟨hL,hS,hS2,hH,hH2,hM⟩,hbL,hbS,hbH⟩
theorem IU {H:Type} {enc:TypeId × Value->H} {P:Program} {W:World} {r:Reach} {bb:Nat} {v:Value} {d:DataW H} {ps:List MemPlace} {ti e tn tz te ts tg tm tb tsb td tsd to tw tsw th tsh tst tx tl tsl ty tW tss tsx:TypeId} {f0 f1 f2 k0 k1 k2 g0 g1 g2 b0 b1 d0 d1 d2 d3 q0 a0 a1 c0 c1 c2 x0 x1 x2 x3 x4 l0 l1 l2 l3 y0 y1 y2 w0 w1 w2 w3:Field} (T:IdTy P ti e) (hc:P.cellsOf ti=32) (hce:P.cellsOf e=1) (hn:P.underlying tn=some (.int .i64)) (hcn:P.cellsOf tn=1) (hz:P.underlying tz=some .string) (hcz:P.cellsOf tz=1) (hte:P.underlying te=some (.struct #[f0,f1,f2])) (h0:f0.type=tn) (h1:f1.type=ti) (h2:f2.type=tn) (o0:f0.offset=0) (o1:f1.offset=1) (o2:f2.offset=33) (hcte:P.cellsOf te=34) (hts:P.underlying ts=some (.slice tg)) (hcs:P.cellsOf ts=1) (htg:P.underlying tg=some (.struct #[k0,k1,k2])) (j0:k0.type=ti) (j1:k1.type=te) (j2:k2.type=tn) (p0:k0.offset=0) (p1:k1.offset=32) (p2:k2.offset=66) (hctg:P.cellsOf tg=67) (htm:P.underlying tm=some (.struct #[g0,g1,g2])) (ht0:g0.type=tn) (ht1:g1.type=tz) (ht2:g2.type=ts) (Nn:g0.offset=0) (ho1:g1.offset=1) (ho2:g2.offset=2) (hctm:P.cellsOf tm=3) (hb:P.underlying tb=some (.struct #[b0,b1])) (hb0:b0.type=tn) (hb1:b1.type=ti) (ob0:b0.offset=0) (ob1:b1.offset=1) (hcb:P.cellsOf tb=33) (htsb:P.underlying tsb=some (.slice tb)) (hcsb:P.cellsOf tsb=1) (hd:P.underlying td=some (.struct #[d0,d1,d2,d3])) (hd0:d0.type=tb) (Cc:d1.type=tb) (hd2:d2.type=tsb) (hd3:d3.type=tsb) (od0:d0.offset=0) (od1:d1.offset=33) (od2:d2.offset=66) (od3:d3.offset=67) (hcd:P.cellsOf td=68) (htsd:P.underlying tsd=some (.slice td)) (hcsd:P.cellsOf tsd=1) (hto:P.underlying to=some (.struct #[q0])) (ln:q0.type=tsd) (oq0:q0.offset=0) (hcto:P.cellsOf to=1) (hw:P.underlying tw=some (.struct #[a0,a1])) (ha0:a0.type=ti) (ha1:a1.type=tn) (oa0:a0.offset=0) (oa1:a1.offset=32) (hcw:P.cellsOf tw=33) (htsw:P.underlying tsw=some (.slice tw)) (hcsw:P.cellsOf tsw=1) (hh:P.underlying th=some (.struct #[c0,c1,c2])) (hc0:c0.type=ti) (hc1:c1.type=tn) (hc2:c2.type=tn) (oc0:c0.offset=0) (oc1:c1.offset=32) (oc2:c2.offset=33) (hch:P.cellsOf th=34) (htsh:P.underlying tsh=some (.slice th)) (hcsh:P.cellsOf tsh=1) (htst:P.underlying tst=some (.slice tz)) (hcst:P.cellsOf tst=1) (hx:P.underlying tx=some (.struct #[x0,x1,x2,x3,x4])) (hx0:x0.type=tn) (hx1:x1.type=tn) (hx2:x2.type=tsw) (hx3:x3.type=tsh) (hx4:x4.type=tst) (ox0:x0.offset=0) (ox1:x1.offset=1) (ox2:x2.offset=2) (ox3:x3.offset=3) (ox4:x4.offset=4) (hcx:P.cellsOf tx=5) (hl:P.underlying tl=some (.struct #[l0,l1,l2,l3])) (hl0:l0.type=tn) (hl1:l1.type=tn) (hl2:l2.type=tn) (hl3:l3.type=tz) (ol0:l0.offset=0) (ol1:l1.offset=1) (ol2:l2.offset=2) (ol3:l3.offset=3) (hcl:P.cellsOf tl=4) (htsl:P.underlying tsl=some (.slice tl)) (hcsl:P.cellsOf tsl=1) (hy:P.underlying ty=some (.struct #[y0,y1,y2])) (hy0:y0.type=tsl) (hy1:y1.type=tn) (hy2:y2.type=tn) (oy0:y0.offset=0) (oy1:y1.offset=1) (oy2:y2.offset=2) (hcy:P.cellsOf ty=3) (hW:P.underlying tW=some (.struct #[w0,w1,w2,w3])) (hw0:w0.type=to) (hw1:w1.type=tss) (hw2:w2.type=tsx) (hw3:w3.type=ty) (ow0:w0.offset=0) (ow1:w1.offset=1) (ow2:w2.offset=2) (ow3:w3.offset=3) (hcW:P.cellsOf tW=6) (htss:P.underlying tss=some (.slice tm)) (hcss:P.cellsOf tss=1) (htsx:P.underlying tsx=some (.slice tx)) (hcsx:P.cellsOf tsx=1) (hval:Value.okWide P W r bb tW v) (h:DataW.Trod enc P W 0 (λ_=>true) true tW v d ps):∃ (X:Wx) (vo vs vh vl:Value),v=.agg (dM vo vs vh vl X.M.last X.M.now)/\RdW W vo vs vh vl X/\X.L.length<=maxLen/\X.S.length<=maxLen/\X.H.length<=maxLen:=by
 have hv:∃ cs,v=.agg cs:=by
  unfold Value.okWide at hval
  simp only [hW] at hval
  obtain ⟨cs,h9,_⟩:=hval
  exact ⟨cs,h9⟩
 obtain ⟨cs,rfl⟩:=hv
 obtain ⟨fuel,hf⟩:=h
 obtain ⟨X,vo,vs,vh,vl,hcs9,hX⟩:=DP T hc hce hn hcn hz hcz hte h0 h1 h2 o0 o1 o2 hcte hts hcs htg j0 j1 j2 p0 p1 p2 hctg htm ht0 ht1 ht2 Nn ho1 ho2 hctm hb hb0 hb1 ob0 ob1 hcb htsb hcsb hd hd0 Cc hd2 hd3 od0 od1 od2 od3 hcd htsd hcsd hto ln oq0 hcto hw ha0 ha1 oa0 oa1 hcw htsw hcsw hh hc0 hc1 hc2 oc0 oc1 oc2 hch htsh hcsh htst hcst hx hx0 hx1 hx2 hx3 hx4 ox0 ox1 ox2 ox3 ox4 hcx hl hl0 hl1 hl2 hl3 ol0 ol1 ol2 ol3 hcl htsl hcsl hy hy0 hy1 hy2 oy0 oy1 oy2 hcy hW hw0 hw1 hw2 hw3 ow0 ow1 ow2 ow3 hcW htss hcss htsx hcsx hf
 refine ⟨X,vo,vs,vh,vl,?_,hX⟩
 have key:cs.toList=(dM vo vs vh vl X.M.last X.M.now).toList:=hcs9
 rw [Array.toList_inj.1 key]
def qk (W:Wd):Bool:=W.sv.any (λs=>decide (34<s.tb.length)) || (W.ov.any (λn=>decide (6<n.sc.length) || decide (18<n.fg.length)) || (W.ho.any (λh=>decide (10<h.ws.length) || (decide (10<h.hs.length) || decide (34<h.bx.length))) ||
 (decide (18<W.sv.length) || (decide (18<W.ov.length) || (decide (18<W.ho.length) || decide (66<W.ml.l.length))))))
structure BdW (W:Wd):Prop where
 sv:W.sv.length<=40
 tb:∀ s∈W.sv,s.tb.length<=100
 ov:W.ov.length<=40
 nd:∀ n∈W.ov,n.sc.length<=100/\n.fg.length<=100
 ho:W.ho.length<=40
 hb:∀ h∈W.ho,h.ws.length<=100/\h.hs.length<=100/\h.bx.length<=100
 ml:W.ml.l.length<=100
theorem GP {W:Wd} (h:qk W=false):BdW W:=by
 unfold qk at h
 simp only [Bool.or_eq_false_iff,decide_eq_false_iff_not,Zu,Bool.or_eq_true,YB,not_or] at h
 obtain ⟨h1,h2,h3,h4,h5,h6,h7⟩:=h
 exact ⟨by omega,λs hs=>by have:=h1 s hs;omega,by omega,λn hn=>by have:=h2 n hn;omega,by omega,λy hy=>by have:=h3 y hy;omega,by omega⟩
theorem mS {W:Wd} {a:Ac} (h:cj W=true) (h1:1<=a.k) (h2:a.k<=15):bP W a=zI W a a.k.toNat:=by
 unfold bP
 rw [h,Yt h1,Yt h2];rfl
def Kw:Id:=BitVec.ofNat 256 (2 ^ 128 - 1)
def Nr:Ac:=⟨1,1,0,0,Kw,[],ByteArray.empty⟩
def Vr:Ac:=⟨6,3,1,0,0#256,[],ByteArray.empty⟩
def og:Ac:=⟨10,3,0,0,0#256,[(2,0#256,3)],⟨#[120]⟩⟩
def OH:Nd:=⟨(1,Kw),fc,[(1,Kw)],[]⟩
def PX:Wd:=⟨[OH],[⟨1,ByteArray.empty,[]⟩],[],x7⟩
def rL:Wd:=⟨[OH],[⟨1,ByteArray.empty,[]⟩],[⟨3,1,[],[],[]⟩],x7⟩
theorem DZ:cj D5=true:=by decide +kernel
theorem MU:cj PX=true:=by decide +kernel
theorem Mr:cj rL=true:=by decide +kernel
theorem Mp:bP D5 Nr=iG PX:=by
 rw [mS DZ (by decide) (by decide)]
 show mR D5 Nr=_
 have e1:zW D5 Nr=0:=by decide +kernel
 have e2:CA D5 Nr=[OH]:=by decide +kernel
 unfold mR
 rw [e1,e2];rfl
theorem Nf:bP PX Vr=iG rL:=by
 rw [mS MU (by decide) (by decide)]
 show pt PX 3 1=_
 rfl
theorem Rn:(bP rL og).e=0/\(bP rL og).n.length=1/\((bP rL og).n.getD 0 mh).k=1/\(bP rL og).w.ml.l.length=1:=by
 have h0:gA rL og=bP rL og:=(mS (a:=og) Mr (by decide) (by decide)).symm
 have h1:(cQ rL og.no).no=3:=by decide +kernel
 have h2:ji (cQ rL og.no) og.l og.d rL.ml.now=0:=by decide +kernel
 have h3:(iJ rL og).no=1:=by decide +kernel
 have h4:(iJ rL og).n=[]:=by decide +kernel
 have h5:(iJ rL og).w.ml.l.length=1:=by decide +kernel
 rw [← h0]
 unfold gA
 rw [h1,h2,h3]
 show (ky (jw (iJ rL og) (my og.no 1 og.d))).e=0/\(ky (jw (iJ rL og) (my og.no 1 og.d))).n.length=1/\_/\_
 refine ⟨rfl,?_,?_,h5⟩
 ·show ((iJ rL og).n++[_]).length=1
  rw [h4];rfl
 ·show (((iJ rL og).n++[_]).getD 0 mh).k=1
  rw [h4];rfl
structure RWd (W:Wd):Prop where
 ov:lD (jj W.ov)=true
 ml:cM W.ml=true
 len:W.sv.length=W.ov.length
 sv:∀ k,k<W.sv.length->rJ W k=true
 ho:∀ k,k<W.ho.length->sE W.ho k=true
theorem lP {W:Wd}:cj W=true↔RWd W:=by
 unfold cj
 rw [Yw,Yw,Yw,Yw,YB,Yx,Yx]
 refine ⟨λ⟨h1,h2,h3,h4,h5⟩=>⟨h1,h2,h3,λk hk=>h4 k (YI.2 hk),λk hk=>h5 k (YI.2 hk)⟩,λh=>⟨h.ov,h.ml,h.len,λk hk=>h.sv k (YI.1 hk),λk hk=>h.ho k (YI.1 hk)⟩⟩
theorem QV {l:List Ho} {j:Nat} (hj:j<l.length):l[j]=l.getD j n5:=by rw [YR,Yz hj];rfl
theorem RWd.right {W:Wd} (h:RWd W) {y:Ho} (hy:y∈W.ho):bT y=true:=by
 obtain ⟨k,hk,rfl⟩:=List.mem_iff_getElem.1 hy
 have:=h.ho k hk
 unfold sE at this
 rw [Yw] at this
 rw [QV hk];exact this.1
theorem RWd.inc {W:Wd} (h:RWd W):∀ i j,i<j->j<W.ho.length->(W.ho.getD i n5).no<(W.ho.getD j n5).no:=λi j hij hj=>by
 induction j with
 |zero=>omega
 |succ j ih=>
  have h1:=h.ho (j+1) hj
  unfold sE at h1
  rw [Yw] at h1
  have h2:=h1.2
  simp only [Nat.zero_lt_succ,decide_true,Bool.true_and,Nat.add_sub_cancel,Bool.not_eq_true',decide_eq_false_iff_not] at h2
  rcases YP i j with g|g
  ·have:=ih g (by omega);omega
  ·obtain rfl:i=j:=by omega
   omega
theorem lf (W:Wd) (n:Int):((cQ W n).no = -1/\cQ W n=RD/\∀ y∈W.ho,y.no≠n)∨(cQ W n∈W.ho/\(cQ W n).no=n):=by
 unfold cQ xd
 cases h:W.ho.find? λx=>decide (x.no=n) with
 |none=>exact .inl ⟨rfl,rfl,λy hy e=>by have:=List.find?_eq_none.1 h y hy;simp [e] at this⟩
 |some y=>exact .inr ⟨List.mem_of_find?_eq_some h,by simpa using List.find?_some h⟩
theorem LE {W:Wd} (h:RWd W) {y:Ho} (hy:y∈W.ho):cQ W y.no=y:=by
 rcases lf W y.no with ⟨_,_,h9⟩|⟨h1,h2⟩
 ·exact ZF rfl (h9 y hy)
 ·obtain ⟨i,hi,e1⟩:=List.mem_iff_getElem.1 h1
  obtain ⟨j,hj,e2⟩:=List.mem_iff_getElem.1 hy
  rw [QV hi] at e1
  rw [QV hj] at e2
  rcases Nat.lt_trichotomy i j with g|g|g
  ·have:=h.inc i j g hj;rw [e1,e2,h2] at this;omega
  ·subst g;rw [← e1,← e2]
  ·have:=h.inc j i g hi;rw [e1,e2,h2] at this;omega
theorem qh {h:Ho} (hr:bT h=true):(0<=h.no/\h.no<=15)/\(0<=h.gt/\h.gt<=15)/\h.ws.length<=8/\∀ k,k<h.hs.length->lg h.hs k=true:=by
 unfold bT Tl eN at hr
 simp only [Yw,YB,Yx,YI] at hr
 obtain ⟨_,h2,_,h4,h5,h6,_⟩:=hr
 exact ⟨h4,h5,h6,h2⟩
theorem pR {W:Wd} (h:RWd W) (n:Int):(cQ W n).no<0↔∀ y∈W.ho,y.no≠n:=by
 rcases lf W n with ⟨h1,_,h9⟩|⟨h1,h2⟩
 ·exact ⟨λ_=>h9,λ_=>by rw [h1];decide⟩
 ·have:=(qh (h.right h1)).1.1
  exact ⟨λh9=>by omega,λh9=>ZF h2 (h9 _ h1)⟩
theorem iL (t:Pt) (fr:Int) (s:Se):
 (kY t.w fr s=0/\aT t fr s=⟨{t.w with ml:=⟨t.w.ml.l++[(t.w.ml.last+1,fr,BN t.w fr s,cf s.2.1)],t.w.ml.last+1,t.w.ml.now⟩},t.n,t.w.ml.last+1⟩) ∨
 (kY t.w fr s≠0/\aT t fr s=jw ⟨t.w,t.n,0⟩ (rA fr 0 (kY t.w fr s))):=by
 cases h:decide (kY t.w fr s=0) with
 |true=>
  have h0:=Yq h
  have h1:JT t.w fr s=0/\cx t.w.ml fr (BN t.w fr s) (cf s.2.1)=0:=by
   unfold kY at h0
   cases h9:decide (JT t.w fr s=0) with
   |true=>rw [h9] at h0;exact ⟨Yq h9,h0⟩
   |false=>rw [h9] at h0;exact ZF h0 (Yr h9)
  refine .inl ⟨h0,?_⟩
  unfold aT
  rw [h]
  show Pt.mk _ _ _=_
  rw [(pm h1.2).1,(pm h1.2).2]
 |false=>
  refine .inr ⟨Yr h,?_⟩
  unfold aT
  rw [h];rfl
theorem DA (t:Pt) (fr:Int) (s:Se):(aT t fr s).w.ml.l.length+(aT t fr s).n.length=t.w.ml.l.length+t.n.length+1:=by
 rcases iL t fr s with ⟨_,e⟩|⟨_,e⟩<;>rw [e]
 ·show (t.w.ml.l++[_]).length+t.n.length=_
  rw [Yy];simp;omega
 ·show t.w.ml.l.length+(t.n++[_]).length=_
  rw [Yy];simp;omega
theorem I3 (t:Pt) (fr:Int) (s:Se):t.w.ml.l.length<=(aT t fr s).w.ml.l.length:=by
 rcases iL t fr s with ⟨_,e⟩|⟨_,e⟩<;>rw [e]
 ·show _<=(t.w.ml.l++[_]).length
  rw [Yy];omega
 ·exact YM _
theorem mK:∀ (l:List Se) (t:Pt) (fr:Int),(fC t fr l).w.ml.l.length+(fC t fr l).n.length=t.w.ml.l.length+t.n.length+l.length/\t.w.ml.l.length<=(fC t fr l).w.ml.l.length
 |[],_,_=>⟨rfl,YM _⟩
 |s::l,t,fr=>by
  show (fC (aT t fr s) fr l).w.ml.l.length+(fC (aT t fr s) fr l).n.length=_/\_<=(fC (aT t fr s) fr l).w.ml.l.length
  obtain ⟨h1,h2⟩:=mK l (aT t fr s) fr
  have h3:=DA t fr s
  have h4:=I3 t fr s
  refine ⟨?_,by omega⟩
  rw [h1,h3,Y0];omega
theorem BB {h:Ho} (hr:bT h=true) (x:Id) (now:Int):0<=kA h x now/\kA h x now<=15:=by
 obtain ⟨_,hg,_,hh⟩:=qh hr
 unfold kA
 cases hb:decide (0<=mt h x) && decide (now<(h.hs.getD (mt h x).toNat eV).2.2) with
 |false=>exact hg
 |true=>
  rw [Yw,YB] at hb
  have hlt:(mt h x).toNat<h.hs.length:=by
   have h0:=hb.1
   unfold mt jY at h0 ⊢
   split at h0
   ·next hl=>
    rw [if_pos hl]
    have:(hk h.hs).length=h.hs.length:=Y6 _
    omega
   ·omega
  have:=hh _ hlt
  unfold lg eN at this
  simp only [Yw,YB] at this
  exact this.1
theorem At {h:Ho} (hr:bT h=true) (l:List cO) (now:Int):0<=pK h l now/\pK h l now<=15:=by
 unfold pK
 cases decide ((l.getD 0 (0,0#256,0)).1=1) with
 |true=>exact BB hr _ _
 |false=>exact (qh hr).2.1
def dw (no:Int) (l:List cO) (d:ByteArray):Ac:=⟨10,no,0,0,0#256,l,d⟩
def lC (no:Int):Ac:=⟨9,no,0,0,0#256,[],ByteArray.empty⟩
theorem oG {W:Wd} (h:cj W=true) (no:Int) (l:List cO) (d:ByteArray):bP W (dw no l d)=gA W (dw no l d):=mS h (show (1:Int)<=10 by decide) (show (10:Int)<=15 by decide)
theorem xD {W:Wd} (h:cj W=true) (no:Int):bP W (lC no)=lA W no:=mS h (show (1:Int)<=9 by decide) (show (9:Int)<=15 by decide)
theorem G4 {W:Wd} (h:RWd W) {no:Int} {l:List cO} {d:ByteArray} (he:(gA W (dw no l d)).e=0):
 ∃ x,(gA W (dw no l d)).n=[x]/\
  ((x.k=1/\x.d=d/\x.le=(gA W (dw no l d)).w.ml.last/\x.no=no/\∃ y,(gA W (dw no l d)).w.ml.l=W.ml.l++[y]/\y.2.2.1<=15) ∨
   (x.k=5/\(gA W (dw no l d)).w.ml.l=W.ml.l)):=by
 have hlast:0<=W.ml.last:=((fG W.ml).1 h.ml).2.1.1
 unfold gA at he ⊢
 cases h1:decide ((cQ W (dw no l d).no).no<0) with
 |true=>rw [h1] at he;exact ZF (show (6:Int)=0 from he) (by decide)
 |false=>
  rw [h1] at he
  have hin:cQ W no∈W.ho:=by
   rcases lf W no with ⟨h9,_⟩|⟨h9,_⟩
   ·have:=Yr h1
    have h10:(cQ W no).no = -1:=h9
    have h11:¬ (cQ W no).no<0:=this
    omega
   ·exact h9
  cases h2:(!decide (ji (cQ W (dw no l d).no) (dw no l d).l (dw no l d).d W.ml.now=0)) with
  |true=>
   rw [h2] at he
   have h3:¬ ji (cQ W (dw no l d).no) (dw no l d).l (dw no l d).d W.ml.now=0:=by simpa using h2
   exact ZF he h3
  |false=>
   rw [h2] at he
   have hsrv:=At (h.right hin) l W.ml.now
   have hto:BN W (16+no) (jS (cQ W no) l d W.ml.now)=pK (cQ W no) l W.ml.now:=by
    unfold BN
    rw [Ys (show ¬ (jS (cQ W no) l d W.ml.now).1<0 by show ¬ pK (cQ W no) l W.ml.now<0;omega)];rfl
   have hP:iJ W (dw no l d)=aT ⟨W,[],0⟩ (16+no) (jS (cQ W no) l d W.ml.now):=rfl
   rcases iL ⟨W,[],0⟩ (16+no) (jS (cQ W no) l d W.ml.now) with ⟨_,e⟩|⟨_,e⟩
   ·rw [← hP] at e
    rw [e]
    show ∃ x,(bif decide (0<W.ml.last+1) then ky (jw _ (my no (W.ml.last+1) d)) else _).n=[x]/\_
    rw [Yt (show 0<W.ml.last+1 by omega)]
    refine ⟨_,rfl,.inl ⟨rfl,rfl,rfl,rfl,_,rfl,?_⟩⟩
    show BN W (16+no) (jS (cQ W no) l d W.ml.now)<=15
    rw [hto];exact hsrv.2
   ·rw [← hP] at e
    rw [e]
    exact ⟨_,rfl,.inr ⟨rfl,rfl⟩⟩
theorem EL {W:Wd} (h:RWd W) {no:Int}:((lA W no).e=0↔∃ y∈W.ho,y.no=no)/\((lA W no).e≠0->(lA W no).e=6)/\
 ∀ y∈W.ho,y.no=no->(lA W no).w.ml.l.length+(lA W no).n.length=W.ml.l.length+y.ws.length/\W.ml.l.length<=(lA W no).w.ml.l.length:=by
 unfold lA
 cases h1:decide ((cQ W no).no<0) with
 |true=>
  have h2:=(pR h no).1 (Yq h1)
  exact ⟨⟨λh9=>ZF (show (6:Int)=0 from h9) (by decide),λ⟨y,hy,e⟩=>ZF e (h2 y hy)⟩,λ_=>rfl,λy hy e=>ZF e (h2 y hy)⟩
 |false=>
  have h2:¬ ∀ y∈W.ho,y.no≠no:=λh9=>Yr h1 ((pR h no).2 h9)
  refine ⟨⟨λ_=>Classical.byContradiction λh9=>h2 λy hy e=>h9 ⟨y,hy,e⟩,λ_=>rfl⟩,λh9=>ZF rfl h9,λy hy e=>?_⟩
  subst e
  rw [LE h hy]
  show (fC _ _ _).w.ml.l.length+(fC _ _ _).n.length=_/\_<=(fC _ _ _).w.ml.l.length
  obtain ⟨h3,h4⟩:=mK (iu y W.ml.now) ⟨W,[],0⟩ (16+y.no)
  refine ⟨h3.trans ?_,h4⟩
  show W.ml.l.length+0+(y.ws.map _).length=_
  rw [Y6];rfl
theorem Es {W:Wd} (h:RWd W) {no:Int} (l:List cO) (d:ByteArray) (hn:∀ y∈W.ho,y.no≠no):(gA W (dw no l d)).e=6:=by
 unfold gA
 rw [show decide ((cQ W (dw no l d).no).no<0)=true from Yt ((pR h no).2 hn)];rfl
structure Inj {α:Type} (f:α->Int) (l:List α):Prop where
 eq:∀ x∈l,∀ y∈l,f x=f y->x=y
 nd:l.Nodup
theorem RWd.ro {W:Wd} (h:RWd W):RO W.ov:=by have:=ql h.ov;rwa [yD] at this
theorem U1 {l:List Sv} {j:Nat} (hj:j<l.length):l[j]=l.getD j M8:=by rw [YR,Yz hj];rfl
theorem VA {l:List Nd} {j:Nat} (hj:j<l.length):l[j]=l.getD j zN:=by rw [YR,Yz hj];rfl
theorem RWd.nos {W:Wd} (h:RWd W):W.sv.map (·.no)=W.ov.map (·.me.1):=by
 refine List.ext_getElem (by rw [Y6,Y6];exact h.len) λk h1 h2=>?_
 rw [Y6] at h1 h2
 rw [List.getElem_map,List.getElem_map,U1 h1,VA h2]
 have:=h.sv k h1
 unfold rJ at this
 simp only [Yw,YB] at this
 exact this.2.1
theorem RWd.inj {W:Wd} (h:RWd W):Inj (·.no) W.sv:=by
 have hp:W.sv.Pairwise λa b=>a.no<b.no:=by
  have h1:(W.ov.map (·.me.1)).Pairwise (· < ·):=List.pairwise_map.2 h.ro.inc
  rw [← h.nos] at h1
  exact List.pairwise_map.1 h1
 refine ⟨λx hx y hy e=>?_,hp.imp λ{a b} hab e=>by subst e;omega⟩
 obtain ⟨i,hi,rfl⟩:=List.mem_iff_getElem.1 hx
 obtain ⟨j,hj,rfl⟩:=List.mem_iff_getElem.1 hy
 have hg:=List.pairwise_iff_getElem.1 hp
 rcases Nat.lt_trichotomy i j with g|g|g
 ·have:=hg i j hi hj g;omega
 ·subst g;rfl
 ·have:=hg j i hj hi g;omega
section
variable {P:Program} {ρ:Operand->Value} {d:Option Tmp} {ty:TypeId} {pos:String} {af:Array Edge} {g:Option (Nat × Bool)} {x y z u:Operand} {t:TypeId}
theorem wJ {v:Value} (a b:Int) (h:v.oneCell'=true):∀ u∈(#[v,.int .i64 a,.int .i64 b]:Array Value).toList,u.oneCell'=true:=λu hu=>by
 simp only [YH,YK,or_false] at hu
 rcases hu with rfl|rfl|rfl<;>first|assumption|rfl
theorem lO (S:Stt P t Xq):aP P ⟨d,.build t #[],ty,pos,af,g⟩ ρ (.agg (dM aj aj aj aj 0 0)):=
 aU (P:=P) (ρ:=ρ) (d:=d) (ty:=ty) (pos:=pos) (af:=af) (g:=g) (parts:=#[]) S [] (by simp) (λi v hm=>by simp at hm) (D:=TB aj aj aj aj 0 0) rfl
def TJ (k n:Int):Ac:=⟨k,n,0,0,0#256,[],ByteArray.empty⟩
theorem sQ {a b:Int} (S:Stt P t Um) (hx:ρ x=.int .i64 a) (hy:ρ y=.int .i64 b):aP P ⟨d,.build t #[(0,x),(1,y)],ty,pos,af,g⟩ ρ (.agg (bO (TJ a b) aj)):=by
 have:=aU (P:=P) (ρ:=ρ) (d:=d) (ty:=ty) (pos:=pos) (af:=af) (g:=g) (parts:=#[(0,x),(1,y)]) S [(0,.int .i64 a),(1,.int .i64 b)] (by simp [hx,hy]) (λj q hm=>by
  simp only [YH,Zn,YK,or_false] at hm
  rcases hm with ⟨rfl,rfl⟩|⟨rfl,rfl⟩
  ·exact ⟨_,rfl,rfl⟩
  ·exact ⟨_,rfl,rfl⟩) (D:=QJ (TJ a b) aj) (by
   show [Value.int .i64 a]++([Value.int .i64 b]++([Value.int .i64 0]++([Value.int .i64 0]++(List.replicate 32 (Value.int .u8 0)++([aj]++([Value.string ByteArray.empty]++[]))))))=_
   rw [show List.replicate 32 (Value.int .u8 0)=(aA 0#256).toList from by rw [dC];rfl];rfl)
 exact this
theorem uk {a b c:Int} (S:Stt P t Um) (hx:ρ x=.int .i64 a) (hy:ρ y=.int .i64 b) (hz:ρ z=.int .i64 c):aP P ⟨d,.build t #[(0,x),(1,y),(2,z)],ty,pos,af,g⟩ ρ (.agg (bO ⟨a,b,c,0,0#256,[],ByteArray.empty⟩ aj)):=by
 have:=aU (P:=P) (ρ:=ρ) (d:=d) (ty:=ty) (pos:=pos) (af:=af) (g:=g) (parts:=#[(0,x),(1,y),(2,z)]) S [(0,.int .i64 a),(1,.int .i64 b),(2,.int .i64 c)] (by simp [hx,hy,hz]) (λj q hm=>by
  simp only [YH,Zn,YK,or_false] at hm
  rcases hm with ⟨rfl,rfl⟩|⟨rfl,rfl⟩|⟨rfl,rfl⟩
  ·exact ⟨_,rfl,rfl⟩
  ·exact ⟨_,rfl,rfl⟩
  ·exact ⟨_,rfl,rfl⟩) (D:=QJ ⟨a,b,c,0,0#256,[],ByteArray.empty⟩ aj) (by
   show [Value.int .i64 a]++([Value.int .i64 b]++([Value.int .i64 c]++([Value.int .i64 0]++(List.replicate 32 (Value.int .u8 0)++([aj]++([Value.string ByteArray.empty]++[]))))))=_
   rw [show List.replicate 32 (Value.int .u8 0)=(aA 0#256).toList from by rw [dC];rfl];rfl)
 exact this
theorem uE {a b:Int} {i:Id} (S:Stt P t Um) (hx:ρ x=.int .i64 a) (hy:ρ y=.int .i64 b) (hz:ρ z=lx i):aP P ⟨d,.build t #[(0,x),(1,y),(4,z)],ty,pos,af,g⟩ ρ (.agg (bO ⟨a,b,0,0,i,[],ByteArray.empty⟩ aj)):=by
 have:=aU (P:=P) (ρ:=ρ) (d:=d) (ty:=ty) (pos:=pos) (af:=af) (g:=g) (parts:=#[(0,x),(1,y),(4,z)]) S [(0,.int .i64 a),(1,.int .i64 b),(4,lx i)] (by simp [hx,hy,hz]) (λj q hm=>by
  simp only [YH,Zn,YK,or_false] at hm
  rcases hm with ⟨rfl,rfl⟩|⟨rfl,rfl⟩|⟨rfl,rfl⟩
  ·exact ⟨_,rfl,rfl⟩
  ·exact ⟨_,rfl,rfl⟩
  ·exact ⟨_,rfl,aF _⟩) (D:=QJ ⟨a,b,0,0,i,[],ByteArray.empty⟩ aj) rfl
 exact this
end
def B5:Nat->Id
 |0=>0#256
 |k+1=>Ht (B5 k) (k+16) 255
theorem GW:B5 16=Kw:=by decide +kernel
theorem G2 (k:Nat):(aA (B5 k)).setIfInBounds (k+16) (.int .u8 255)=aA (B5 (k+1)):=qU (B5 k) (k+16) 255 (by decide)
def Ck (s:Sv):Bool:=decide (34<s.tb.length)
def u7 (n:Nd):Bool:=decide (6<n.sc.length) || decide (18<n.fg.length)
def wS (h:Ho):Bool:=decide (10<h.ws.length) || (decide (10<h.hs.length) || decide (34<h.bx.length))
theorem OX (l:List V2) (k:Nat):(l.map (·.1)).getD k M8=(l.getD k er).1:=by
 rw [YR,YR,Zf];cases l[k]? <;> rfl
theorem Et (l:List H4) (k:Nat):(l.map (·.1)).getD k n5=(l.getD k aD).1:=by
 rw [YR,YR,Zf];cases l[k]? <;> rfl
theorem Q9 {X:Wx} {k:Nat} (hk:k<X.S.length) (h:Ck (X.S.getD k er).1=true):qk (ax X)=true:=by
 unfold qk
 rw [show (ax X).sv.any (λs=>decide (34<s.tb.length))=true from Zt.2 ⟨_,Ze.2 ⟨_,ga hk,rfl⟩,h⟩];rfl
theorem LZ {X:Wx} {k:Nat} (hk:k<X.L.length) (h:u7 (X.L.getD k z3).1=true):qk (ax X)=true:=by
 unfold qk
 rw [show (ax X).ov.any (λn=>decide (6<n.sc.length) || decide (18<n.fg.length))=true from Zt.2 ⟨_,Ze.2 ⟨_,cF hk,rfl⟩,h⟩,Bool.true_or,Bool.or_true]
theorem DL {X:Wx} {k:Nat} (hk:k<X.H.length) (h:wS (X.H.getD k aD).1=true):qk (ax X)=true:=by
 unfold qk
 rw [show (ax X).ho.any (λh=>decide (10<h.ws.length) || (decide (10<h.hs.length) || decide (34<h.bx.length)))=true from Zt.2 ⟨_,Ze.2 ⟨_,cr hk,rfl⟩,h⟩,Bool.true_or,Bool.or_true,Bool.or_true]
theorem vz {X:Wx} (h1:∀ j,j<X.S.length->Ck (X.S.getD j er).1=false) (h2:∀ j,j<X.L.length->u7 (X.L.getD j z3).1=false) (h3:∀ j,j<X.H.length->wS (X.H.getD j aD).1=false):
 qk (ax X)=(decide (18<X.S.length) || (decide (18<X.L.length) || (decide (18<X.H.length) || decide (66<X.M.l.length)))):=by
 have e1:(ax X).sv.any (λs=>decide (34<s.tb.length))=false:=Zu.2 λs hs=>by
  obtain ⟨x,hx,rfl⟩:=Ze.1 hs
  obtain ⟨j,hj,rfl⟩:=List.mem_iff_getElem.1 hx
  rw [VV hj];exact λh=>by have:=h1 j hj;unfold Ck at this;rw [this] at h;cases h
 have e2:(ax X).ov.any (λn=>decide (6<n.sc.length) || decide (18<n.fg.length))=false:=Zu.2 λs hs=>by
  obtain ⟨x,hx,rfl⟩:=Ze.1 hs
  obtain ⟨j,hj,rfl⟩:=List.mem_iff_getElem.1 hx
  rw [uX hj];exact λh=>by have:=h2 j hj;unfold u7 at this;rw [this] at h;cases h
 have e3:(ax X).ho.any (λh=>decide (10<h.ws.length) || (decide (10<h.hs.length) || decide (34<h.bx.length)))=false:=Zu.2 λs hs=>by
  obtain ⟨x,hx,rfl⟩:=Ze.1 hs
  obtain ⟨j,hj,rfl⟩:=List.mem_iff_getElem.1 hx
  rw [UY hj];exact λh=>by have:=h3 j hj;unfold wS at this;rw [this] at h;cases h
 unfold qk
 rw [e1,e2,e3,Bool.false_or,Bool.false_or,Bool.false_or]
 show (decide (18<(X.S.map _).length) || (decide (18<(X.L.map _).length) || (decide (18<(X.H.map _).length) || _)))=_
 rw [Y6,Y6,Y6];rfl
theorem BdW.sx {X:Wx} (h:BdW (ax X)):X.S.length<=40:=by have:=h.sv;unfold ax at this;simpa using this
theorem BdW.hx {X:Wx} (h:BdW (ax X)):X.H.length<=40:=by have:=h.ho;unfold ax at this;simpa using this
theorem BdW.ox {X:Wx} (h:BdW (ax X)):X.L.length<=40:=by have:=h.ov;unfold ax nds at this;simpa using this
theorem BdW.se {X:Wx} (h:BdW (ax X)) {k:Nat} (hk:k<X.S.length):(X.S.getD k er).1.tb.length<=1000:=Zk (h.tb _ (Ze.2 ⟨_,ga hk,rfl⟩)) (by decide)
theorem BdW.he {X:Wx} (h:BdW (ax X)) {k:Nat} (hk:k<X.H.length):(X.H.getD k aD).1.ws.length<=1000/\(X.H.getD k aD).1.hs.length<=1000/\(X.H.getD k aD).1.bx.length<=1000:=by
 obtain ⟨a,b,c⟩:=h.hb _ (Ze.2 ⟨_,cr hk,rfl⟩)
 exact ⟨by omega,by omega,by omega⟩
theorem BdW.oe {X:Wx} (h:BdW (ax X)):RwB X.L:=⟨λy hy=>by
 have:=h.nd _ (Ze.2 ⟨y,hy,rfl⟩)
 omega⟩
theorem VS:BdW D5:=⟨by decide,λs h=>(by cases h),by decide,λs h=>(by cases h),by decide,λs h=>(by cases h),by decide⟩
theorem WP:BdW PX:=⟨by decide,λs h=>(by obtain rfl:=YF.1 h;decide),by decide,λs h=>(by obtain rfl:=YF.1 h;exact ⟨by decide,by decide⟩),by decide,λs h=>(by cases h),by decide⟩
theorem WN:BdW rL:=⟨by decide,λs h=>(by obtain rfl:=YF.1 h;decide),by decide,λs h=>(by obtain rfl:=YF.1 h;exact ⟨by decide,by decide⟩),by decide,λs h=>(by obtain rfl:=YF.1 h;exact ⟨by decide,by decide,by decide⟩),by decide⟩
theorem Rm {X:Wx} {W:Wd} (h:ax X=W) (hb:BdW W):BdW (ax X):=by rw [h];exact hb
theorem I5 {l:List Lt} {j:Nat} (hj:j<l.length) (o:Nat) (ho:o<4):(bD l)[j*4+o]? = (dl (l.getD j qO)).toList[o]? := by
 have h:=(Me l j hj).trans (Xh hj)
 have:(((bD l).drop (j*4)).take 4)=(dl (l.getD j qO)).toList:=Yu Array.toList h
 rw [← this,Zw ho,Zx]
theorem NJ {l:List Lt} {j:Nat} (hj:j<l.length):(bD l)[j*4+2]? = some (.int .i64 (l.getD j qO).2.2.1):=(I5 hj 2 (by decide)).trans rfl
theorem SI {l:List Nt} {j:Nat} (hj:j<l.length):(aH l)[j*74+4]? = some (.int .i64 (l.getD j mh).le):=(oz hj 4 (by decide)).trans rfl
theorem Uc {l:List Nt} {j:Nat} (hj:j<l.length):(aH l)[j*74+72]? = some (.string (l.getD j mh).d):=(oz hj 72 (by decide)).trans ((YT ..).symm.trans (Vj _ _ _ _ _ _ _ _))
theorem Ry {W:Wd} (h:cj W=true) {no:Int} {l:List cO} {d:ByteArray} (he:(bP W (dw no l d)).e=0) (hg:(bP W (dw no l d)).w.ml.l.length=W.ml.l.length+1):
 (bP W (dw no l d)).n.length=1/\((bP W (dw no l d)).n.getD 0 mh).k=1/\((bP W (dw no l d)).n.getD 0 mh).d=d/\((bP W (dw no l d)).n.getD 0 mh).le=(bP W (dw no l d)).w.ml.last/\
 ((bP W (dw no l d)).n.getD 0 mh).no=no/\((bP W (dw no l d)).w.ml.l.getD W.ml.l.length qO).2.2.1<=15:=by
 rw [oG h] at he hg ⊢
 obtain ⟨x,hn,⟨h1,h2,h3,h4,y,hy,h5⟩|⟨h1,h2⟩⟩:=G4 (lP.1 h) he
 ·rw [hn,hy]
  refine ⟨rfl,h1,h2,h3,h4,?_⟩
  rw [YR,Y2 (YM _),Nat.sub_self]
  exact h5
 ·rw [h2] at hg;omega
theorem M7 {W:Wd} (h:cj W=true) {no:Int} {l:List cO} {d:ByteArray} (he:(bP W (dw no l d)).e=0) (hg:¬ (bP W (dw no l d)).w.ml.l.length=W.ml.l.length+1):
 (bP W (dw no l d)).n.length=1/\((bP W (dw no l d)).n.getD 0 mh).k=5/\(bP W (dw no l d)).w.ml.l.length=W.ml.l.length:=by
 rw [oG h] at he hg ⊢
 obtain ⟨x,hn,⟨h1,h2,h3,h4,y,hy,h5⟩|⟨h1,h2⟩⟩:=G4 (lP.1 h) he
 ·rw [hy,Yy] at hg;exact ZF rfl hg
 ·rw [hn,h2]
  exact ⟨rfl,h1,rfl⟩
theorem NV {W:Wd} (h:cj W=true) {no:Int} {l:List cO} {d:ByteArray} (he:¬ (bP W (lC no)).e=0):(bP W (lC no)).e=6/\(bP W (dw no l d)).e=6:=by
 rw [xD h] at he ⊢
 rw [oG h]
 obtain ⟨h1,h2,_⟩:=EL (lP.1 h) (no:=no)
 exact ⟨h2 he,Es (lP.1 h) l d λy hy e=>he (h1.2 ⟨y,hy,e⟩)⟩
theorem JS {X:Wx} (h:cj (ax X)=true) {no:Int} {k:Nat} (hk:k<X.H.length) (e:(X.H.getD k aD).1.no=no):
 (bP (ax X) (lC no)).w.ml.l.length+(bP (ax X) (lC no)).n.length=X.M.l.length+(X.H.getD k aD).1.ws.length:=by
 rw [xD h]
 exact((EL (lP.1 h) (no:=no)).2.2 _ (Ze.2 ⟨_,cr hk,rfl⟩) e).1
theorem sd {Y:Wx} {W:Wd} (h:ax Y=W):Y.M=W.ml:=Yu Wd.ml h
theorem Pm {W:Wd} (h:cj W=true) {no:Int} {l:List cO} {d:ByteArray} (he:(bP W (dw no l d)).e=0):(bP W (dw no l d)).w.ml.l.length=W.ml.l.length+1∨(bP W (dw no l d)).w.ml.l.length=W.ml.l.length:=by
 by_cases hg:(bP W (dw no l d)).w.ml.l.length=W.ml.l.length+1
 ·exact .inl hg
 ·exact .inr (M7 h he hg).2.2
structure RW (W:Wd):Prop where
 ov:RK (jj W.ov)
 ml:cM W.ml=true
 nos:W.sv.map (·.no)=W.ov.map (·.me.1)
 sv:∀ s∈W.sv,eL s=true
 en:∀ n∈W.ov,jh n.me.2=true
 ho:∀ h∈W.ho,bT h=true
 inc:W.ho.Pairwise λa b=>a.no<b.no
theorem RW.wd {W:Wd} (h:RW W):RWd W:=by
 have hl:W.sv.length=W.ov.length:=by have:=Yu List.length h.nos;simpa using this
 refine ⟨h.ov.ov,h.ml,hl,λk hk=>?_,λk hk=>?_⟩
 ·have hk2:k<W.ov.length:=by omega
  unfold rJ
  rw [Yw,Yw,YB]
  refine ⟨by rw [← U1 hk];exact h.sv _ (Zq hk),?_,by rw [← VA hk2];exact h.en _ (Zq hk2)⟩
  have h1:(W.sv.map (·.no))[k]? = (W.ov.map (·.me.1))[k]? := by rw [h.nos]
  rw [Zf,Zf,Yz hk,Yz hk2] at h1
  rw [← U1 hk,← VA hk2]
  simpa using h1
 ·unfold sE
  rw [Yw]
  refine ⟨by rw [← QV hk];exact h.ho _ (Zq hk),?_⟩
  by_cases h0:0<k
  ·have:=List.pairwise_iff_getElem.1 h.inc (k - 1) k (by omega) hk (by omega)
   rw [QV (show k - 1<W.ho.length by omega),QV hk] at this
   rw [Ys (show ¬ (W.ho.getD k n5).no<=(W.ho.getD (k - 1) n5).no by omega),Bool.and_false];rfl
  ·rw [Ys h0];rfl
theorem RW.mail {W:Wd} (h:RW W) {m:Ml} (hm:cM m=true):RW {W with ml:=m}:=⟨h.ov,hm,h.nos,h.sv,h.en,h.ho,h.inc⟩
theorem Af {α:Type} {f:α->Int} {l:List α} {x y:α} (h:y∈jG f l x):y=x∨y∈l:=by
 unfold jG at h
 rcases Y4.1 h with g|g
 ·exact .inr (YZ.1 g).1
 ·rcases YH.1 g with g|g
  ·exact .inl g
  ·exact .inr (YZ.1 g).1
theorem Ir {α:Type} {f:α->Int} {l:List α} {x:α} (h:l.Pairwise λa b=>f a<f b):(jG f l x).Pairwise λa b=>f a<f b:=by
 unfold jG
 refine List.pairwise_append.2 ⟨h.filter _,List.pairwise_cons.2 ⟨λy hy=>?_,h.filter _⟩,λa ha b hb=>?_⟩
 ·exact Yq (YZ.1 hy).2
 ·have h1:=Yq (YZ.1 ha).2
  rcases YH.1 hb with rfl|hb
  ·exact h1
  ·have:=Yq (YZ.1 hb).2;omega
theorem BH {α:Type} {f:α->Int}:∀ {l:List α} {x:α},(l.Pairwise λa b=>f a<f b)->f x∈l.map f->(jG f l x).map f=l.map f
 |[],x,_,h=>by simp at h
 |y::r,x,hp,h=>by
  have hp':=List.pairwise_cons.1 hp
  have hlo:∀ (q:α->Bool),(∀ z∈r,q z=true)->r.filter q=r:=λq hq=>List.filter_eq_self.2 hq
  have hno:∀ (q:α->Bool),(∀ z∈r,q z=false)->r.filter q=[]:=λq hq=>List.filter_eq_nil_iff.2 λz hz=>by rw [hq z hz];decide
  rcases YH.1 (by simpa using h:f x∈f y::r.map f) with e|hm
  ·unfold jG
   rw [List.filter_cons_of_neg (by simp;omega),hno _ (λz hz=>Ys (by have:=hp'.1 z hz;omega)),List.filter_cons_of_neg (by simp;omega),hlo _ (λz hz=>Yt (by have:=hp'.1 z hz;omega))]
   simp [e]
  ·obtain ⟨z,hz,hzx⟩:=Ze.1 hm
   have hyx:f y<f x:=by have:=hp'.1 z hz;omega
   have ih:=BH (f:=f) (l:=r) (x:=x) hp'.2 hm
   unfold jG at ih ⊢
   rw [List.filter_cons_of_pos (by simpa using hyx),List.filter_cons_of_neg (by simp;omega)]
   simp only [List.cons_append,List.map_cons]
   rw [ih]
theorem RW.putH {W:Wd} (h:RW W) {x:Ho} (hx:bT x=true):RW (mq W x):=
 ⟨h.ov,h.ml,h.nos,h.sv,h.en,λy hy=>by rcases Af hy with rfl|g;exact hx;exact h.ho y g,Ir h.inc⟩
theorem RW.sinc {W:Wd} (h:RW W):W.sv.Pairwise λa b=>a.no<b.no:=by
 have h1:(W.ov.map (·.me.1)).Pairwise (· < ·):=List.pairwise_map.2 h.wd.ro.inc
 rw [← h.nos] at h1
 exact List.pairwise_map.1 h1
theorem RW.putS {W:Wd} (h:RW W) {x:Sv} (hx:eL x=true) (hn:x.no∈W.sv.map (·.no)):RW (nA W x):=
 ⟨h.ov,h.ml,(BH h.sinc hn).trans h.nos,λy hy=>by rcases Af hy with rfl|g;exact hx;exact h.sv y g,h.en,h.ho,h.inc⟩
theorem TZ {W:Wd} {fr:Int} {s:Se} (h:kY W fr s=0):cx W.ml fr (BN W fr s) (cf s.2.1)=0:=by
 unfold kY at h
 cases h9:decide (JT W fr s=0) with
 |true=>rw [h9] at h;exact h
 |false=>rw [h9] at h;exact ZF h (Yr h9)
theorem RW.post {t:Pt} (h:RW t.w) (fr:Int) (s:Se):RW (aT t fr s).w:=by
 rcases iL t fr s with ⟨h0,e⟩|⟨_,e⟩
 ·rw [e];exact h.mail (zw (TZ h0))
 ·rw [e];exact h
theorem RW.pstK:∀ (l:List Se) {t:Pt} (_:RW t.w) (fr:Int),RW (fC t fr l).w
 |[],_,h,_=>h
 |s::l,_,h,fr=>RW.pstK l (h.post fr s) fr
theorem RW.lost {W:Wd} (h:RW W) (x:Lt) (y:Int):RW (pk W x y).w:=h
theorem RW.hst {W:Wd} (h:RW W) (y:Ho) (x:Lt) (m:Mg):RW (IQ W y x m).w:=by
 unfold IQ
 cases he:decide ((ip y x.2.1 m W.ml.now).e=0) with
 |false=>exact h.lost x _
 |true=>
  have hp:RW (mq W (ip y x.2.1 m W.ml.now).h):=h.putH (G1 (Yq he)).1
  show RW (fC (bif _ then _ else _) _ _).w
  refine RW.pstK _ ?_ _
  cases decide (m.k=1)<;>exact hp
theorem mb (E:List Nd):aI (jj E)=gc E:=by unfold jj gc aI;rw [List.map_map];rfl
theorem RW.over {W:Wd} (h:RW W) {E:List Nd} (hE:RK (jj E)) (hm:gc E=gc W.ov):RW {W with ov:=E}:=by
 have hm1:E.map (·.me.1)=W.ov.map (·.me.1):=by
  have:=Yu (List.map (·.1)) hm
  unfold gc at this
  rwa [List.map_map,List.map_map] at this
 refine ⟨hE,h.ml,h.nos.trans hm1.symm,h.sv,λn hn=>?_,h.ho,h.inc⟩
 have:n.me∈gc E:=Ze.2 ⟨n,hn,rfl⟩
 rw [hm] at this
 obtain ⟨z,hz,e⟩:=Ze.1 this
 rw [← e];exact h.en z hz
theorem Qz {E:List Nd} {no:Int} (h:RK (jj E)) (hl:cC (gc E) no=true):RK (jj (jK E no))/\gc (jK E no)=gc E:=by
 have hl':cC (aI (jj E)) no=true:=by rw [mb];exact hl
 have hK:nds (jj (jK E no))=jK (nds (jj E)) no:=by rw [yD,yD]
 have:=(LV h.rs hl' hK).2
 rw [mb,mb] at this
 exact ⟨J8 h hl' hK,this⟩
theorem RK.live {E:List Nd} (h:RK (jj E)) {m:Mb} (hm:m∈gc E):cC (gc E) m.1=true:=by
 rw [← mb] at hm ⊢
 exact(mD h.rs.nos).2 ⟨m,hm,rfl⟩
theorem A7:∀ (ms:List Mb) {E:List Nd} (_:RK (jj E)) (_:∀ m∈ms,m∈gc E),RK (jj (ms.foldl (λF m=>jK F m.1) E))/\gc (ms.foldl (λF m=>jK F m.1) E)=gc E
 |[],_,h,_=>⟨h,rfl⟩
 |m::ms,E,h,hm=>by
  obtain ⟨h1,h2⟩:=Qz h (RK.live h (hm m YG))
  obtain ⟨h3,h4⟩:=A7 ms h1 λx hx=>by rw [h2];exact hm x (YQ _ hx)
  exact ⟨h3,h4.trans h2⟩
theorem RW.rnd {W:Wd} (h:RW W):RW (Nw W).w:=by
 obtain ⟨h1,h2⟩:=A7 (gc W.ov) h.ov λm hm=>hm
 exact h.over h1 h2
theorem DH (L:List N3) (k:Nat):((jj (nds L)).getD k z3).1=(L.getD k z3).1:=by
 unfold jj nds
 rw [YR,YR,Zf,Zf]
 cases L[k]? <;> rfl
theorem I9 (L:List N3):lD (jj (nds L))=lD L:=by
 have e1:(jj (nds L)).length=L.length:=by unfold jj nds;rw [Y6,Y6]
 have e2:aI (jj (nds L))=aI L:=by rw [mb,eR]
 unfold lD
 have:jt (jj (nds L))=jt L:=funext λk=>by unfold jt;rw [DH,DH,e2]
 rw [e1,e2,this]
theorem Lc {x:Id} {k:Nat} (hk:k<16) (h:¬ bu x (k+16)=255):jh x=false:=by
 rw [← Bool.not_eq_true]
 intro h9
 exact h (Yq (Yx.1 h9 k (YI.2 hk)))
theorem Kk {x:Id} (h:∀ j,j<16->bu x (j+16)=255):jh x=true:=
 Yx.2 λj hj=>Yt (h j (YI.1 hj))
theorem zo (X:Wx):(ax X).sv.length=X.S.length/\(ax X).ov.length=X.L.length/\(ax X).ho.length=X.H.length:=⟨Y6 _,Y6 _,Y6 _⟩
theorem X8 (L:List N3) (k:Nat):(nds L).getD k zN=(L.getD k z3).1:=by
 unfold nds
 rw [YR,YR,Zf];cases L[k]? <;> rfl
theorem QA (X:Wx) (k:Nat):rJ (ax X) k=(eL (X.S.getD k er).1 && (decide ((X.S.getD k er).1.no=(X.L.getD k z3).1.me.1) && jh (X.L.getD k z3).1.me.2)):=by
 unfold rJ
 rw [show (ax X).sv.getD k M8=(X.S.getD k er).1 from OX X.S k,show (ax X).ov.getD k zN=(X.L.getD k z3).1 from X8 X.L k]
theorem Td (l:List H4) (j:Nat) (hj:j<l.length):(aC l)[j*5+0]? = some (.int .i64 (l.getD j aD).1.no):=by
 have h1:=Yu (λa:Array Value=>a[0]?) (pE l j hj)
 rw [show ∀ x:H4,(a8 x.1.no x.1.gt x.2.1 x.2.2.1 x.2.2.2)[0]? = some (.int .i64 x.1.no) from λ_=>rfl] at h1
 rw [← h1];simp
def UI (vo vs vh vl:Value) (la nw:Int) (vn:Value):List Value:=[vo,vs,vh,vl,.int .i64 la,.int .i64 nw,vn]
def ef (vo vs vh vl:Value) (la nw:Int) (vn:Value):Array Value:=(UI vo vs vh vl la nw vn).toArray
def W3:List (List Value):=[[aj,aj,aj,aj,.int .i64 0,.int .i64 0],[aj]]
section
variable (vo vs vh vl:Value) (la nw:Int) (vn:Value)
theorem gx:(ef vo vs vh vl la nw vn).size=7:=rfl
theorem WB:(ef vo vs vh vl la nw vn).extract 0 (0+6)=dM vo vs vh vl la nw:=rfl
theorem Rp:(ef vo vs vh vl la nw vn).extract 0 (0+1)=#[vo]:=rfl
theorem WD:(ef vo vs vh vl la nw vn).extract 3 (3+3)=#[vl,.int .i64 la,.int .i64 nw]:=rfl
theorem Vp:(ef vo vs vh vl la nw vn)[1]? = some vs:=rfl
theorem UZ:(ef vo vs vh vl la nw vn)[2]? = some vh:=rfl
theorem GZ:(ef vo vs vh vl la nw vn)[5]? = some (.int .i64 nw):=rfl
theorem Rh:(ef vo vs vh vl la nw vn)[6]? = some vn:=rfl
end
theorem Er {vo vs vh vl vn:Value} (la nw:Int) (h1:vo.oneCell'=true) (h2:vs.oneCell'=true) (h3:vh.oneCell'=true) (h4:vl.oneCell'=true) (h5:vn.oneCell'=true):∀ u∈(ef vo vs vh vl la nw vn).toList,u.oneCell'=true:=λu hu=>by
 have hu:u∈UI vo vs vh vl la nw vn:=hu
 unfold UI at hu
 simp only [YH,YK,or_false] at hu
 rcases hu with rfl|rfl|rfl|rfl|rfl|rfl|rfl<;>first|assumption|rfl
structure RdC (w:World) (vo vl:Value) (X:Wx):Prop where
 ov:kC w vo X.L
 sw:∀ x∈X.S,MX w x.2 x.1.tb
 hw:∀ x∈X.H,gn w x.2.1 x.2.2.1 x.2.2.2 x.1
 ml:bp w vl 4 X.M.l.length (bD X.M.l)
theorem RdC.keep {w w':World} {vo vl:Value} {X:Wx} (h:RdC w vo vl X) (e:Ext w w'):RdC w' vo vl X:=
 ⟨⟨h.ov.1.keep e,λx hx=>⟨(h.ov.2 x hx).1.keep e,(h.ov.2 x hx).2.keep e⟩⟩,λx hx=>(h.sw x hx).keep e,λx hx=>⟨(h.hw x hx).1.keep e,(h.hw x hx).2.1.keep e,(h.hw x hx).2.2.keep e⟩,h.ml.keep e⟩
abbrev QQ (c:Nat) (tc ts th tn:TypeId) (vo vs vh vl vn:Value) (X:Wx) (N:List Nt) (kk:List Nat) (B9:List Own):List Own:=
 .blk c (.cells (ef vo vs vh vl X.M.last X.M.now vn) tc)::.sl vs ts 3 X.S.length (aQ X.S)::.sl vh th 5 X.H.length (aC X.H)::.sl vn tn 74 N.length (aH N)::.grp kk (λw9=>RdC w9 vo vl X)::B9
def Jd (w0:World) (c:Nat) (tc ts th tn:TypeId) (R:Wr) (B9:List Own) (v:Value) (w9:World):Prop:=
 v=.int .i64 R.e/\∃ vo vs vh vl vn Y N kk,(R.e=0->ax Y=R.w/\N=R.n)/\St w0 (QQ c tc ts th tn vo vs vh vl vn Y N kk B9) w9
def Vg (P:Program) (g:FuncId) (tc ts th tn:TypeId) (X0:Wx) (a:Ac) (va:Value):Prop:=
 ∀ (vo vs vh vl vn:Value) (X:Wx) (kk:List Nat) (c:Nat) (B9:List Own) (w0 w:World),ax X=ax X0->(∀ w9,St w0 B9 w9->ez w9 va a.l)->
  St w0 (QQ c tc ts th tn vo vs vh vl vn X [] kk B9) w->Calls P g [.pointer (some ⟨c,0,none⟩),.agg (bO a va)].toArray w (λe w9=>∃ v,e=.returned v/\Jd w0 c tc ts th tn (zI (ax X0) a a.k.toNat) B9 v w9)
theorem St.dropN {w0 w:World} {B:List Own} (n:Nat) (s:St w0 B w):St w0 (B.drop n) w:=s.pick _ (List.drop_sublist _ _)
theorem UA {w0 w:World} {B:List Own} {kk:List Nat} {vo vl vx:Value} {X:Wx} {e:TypeId} {m:Ml} (s:St w0 (.sl vx e 4 m.l.length (bD m.l)::.grp kk (λw9=>RdC w9 vo vl X)::B) w):∃ kn,St w0 (.grp kn (λw9=>RdC w9 vo vx {X with M:=m})::B) w:=
 ⟨_,(St.group (A:=[.sl vx e 4 m.l.length (bD m.l),.grp kk (λw9=>RdC w9 vo vl X)]) (B:=B) s).weak λw9 h9=>
  have h:=(h9 (.grp kk (λw9=>RdC w9 vo vl X)) (by simp)).2 w9 λ_ _=>rfl
  ⟨h.ov,h.sw,h.hw,bp.of_own (h9 (.sl vx e 4 m.l.length (bD m.l)) (by simp))⟩⟩
theorem T7 {w0 w:World} {B:List Own} {k1 kk:List Nat} {vo vl vp:Value} {X:Wx} {L:List N3} (s:St w0 (.grp k1 (λw9=>Em vo X.L w9->kC w9 vp L)::.grp kk (λw9=>RdC w9 vo vl X)::B) w):St w0 (.grp (k1++kk) (λw9=>RdC w9 vp vl {X with L:=L})::B) w:=
 s.merge λw9 a h=>⟨a h.ov,h.sw,h.hw,h.ml⟩
theorem Pi {w0 w:World} {c:Nat} {tc ts th tn:TypeId} {vo vs vh vl vn:Value} {X:Wx} {N:List Nt} {kk:List Nat} {B9:List Own} (s:St w0 (QQ c tc ts th tn vo vs vh vl vn X N kk B9) w):
 ∃ kn,St w0 [.grp kn λw9=>RdW w9 vo vs vh vl X/\bp w9 vn 74 N.length (aH N)] w:=by
 have s1:=s.sel [1,2,3,4] (B':=[.sl vs ts 3 X.S.length (aQ X.S),.sl vh th 5 X.H.length (aC X.H),.sl vn tn 74 N.length (aH N),.grp kk (λw9=>RdC w9 vo vl X)]) rfl (by decide)
 exact ⟨_,(St.group (A:=[.sl vs ts 3 X.S.length (aQ X.S),.sl vh th 5 X.H.length (aC X.H),.sl vn tn 74 N.length (aH N),.grp kk (λw9=>RdC w9 vo vl X)]) (B:=[]) s1).weak λw9 h9=>
  have h:=(h9 (.grp kk (λw9=>RdC w9 vo vl X)) (by simp)).2 w9 λ_ _=>rfl
  ⟨⟨h.ov,bp.of_own (h9 (.sl vs ts 3 X.S.length (aQ X.S)) (by simp)),h.sw,bp.of_own (h9 (.sl vh th 5 X.H.length (aC X.H)) (by simp)),h.hw,h.ml⟩,bp.of_own (h9 (.sl vn tn 74 N.length (aH N)) (by simp))⟩⟩
def OR (R:Wr):Prop:=R.e=0∨(R.w=D5/\R.n=[])
theorem KG (e:Int):OR (fw e):=.inr ⟨rfl,rfl⟩
theorem PJ (W:Wd):OR (iG W):=.inl rfl
theorem KL (t:Pt):OR (ky t):=.inl rfl
theorem O6 {c:Bool} {a b:Wr} (h:OR a) (h':OR b):OR (bif c then a else b):=by cases c<;>assumption
theorem BF (W:Wd) (a:Ac) (k:Nat):OR (zI W a k):=by
 unfold zI
 split<;>(try unfold mR)<;>(try unfold S9)<;>(try unfold T8)<;>(try unfold Nw)<;>(try unfold Uy)<;>(try unfold pt)<;>(try unfold RI)<;>(try unfold TT)<;>(try unfold lA)<;>(try unfold gA)<;>(try unfold TV)<;>(try unfold Rt)<;>(try unfold SR)<;>(try unfold Ty)<;>(try unfold RE)<;>(try unfold Ri)<;>(try unfold Uf)<;>(try unfold PR)<;>(try unfold IQ)<;>(try unfold pk)<;>repeat (first|exact KG _|exact PJ _|exact KL _|apply O6)
theorem T2 {w0 w:World} {c:Nat} {tc ts th tn:TypeId} {po ps ph pl va:Value} {X:Wx} {l:List cO} {R:Wr} {vo vs vh vl vn:Value} {Y:Wx} {N:List Nt} {kk:List Nat} {B9:List Own} (hr:R.e=0->ax Y=R.w/\N=R.n) (he:R.e=0)
 (s:St w0 (QQ c tc ts th tn vo vs vh vl vn Y N kk B9) w):QM w0 po ps ph pl X va l R (.tuple #[.agg (dM vo vs vh vl Y.M.last Y.M.now),vn,.int .i64 0]) w:=by
 obtain ⟨kn,s⟩:=Pi s
 obtain ⟨h1,h2⟩:=hr he
 refine ⟨vo,vs,vh,vl,vn,Y,kn,by rw [he],h1,s.weak λw9 h9 _ _=>?_⟩
 rw [← h2];exact h9
theorem Rr {w0 w:World} {po ps ph pl va:Value} {X:Wx} {l:List cO} {R:Wr} {B:List Own} {e:Int} (hw:R.w=D5) (hn:R.n=[]) (he:R.e=e) (s:St w0 B w):QM w0 po ps ph pl X va l R (.tuple #[.agg (dM aj aj aj aj 0 0),aj,.int .i64 e]) w:=
 ⟨aj,aj,aj,aj,aj,UV,[],by rw [he];rfl,hw.symm,(s.pick [] (YL _)).grp0 λw9 _ _=>⟨df w9,by rw [hn];exact ⟨rfl,.inl ⟨rfl,rfl⟩⟩⟩⟩
section
variable {P:Program} {ρ:Operand->Value} {d:Option Tmp} {t ty:TypeId} {pos:String} {af:Array Edge} {g:Option (Nat × Bool)} {x y z u:Operand}
theorem xc {vo vs vh vl:Value} {la nw:Int} (S:Stt P t W3) (hx:ρ x=.agg (dM vo vs vh vl la nw)):aP P ⟨d,.build t #[(0,x)],ty,pos,af,g⟩ ρ (.agg (ef vo vs vh vl la nw aj)):=by
 have:=aU (P:=P) (ρ:=ρ) (d:=d) (ty:=ty) (pos:=pos) (af:=af) (g:=g) (parts:=#[(0,x)]) S [(0,.agg (dM vo vs vh vl la nw))] (by simp [hx]) (λj q hm=>by
  simp only [YH,Zn,YK,or_false] at hm
  obtain ⟨rfl,rfl⟩:=hm
  exact ⟨_,rfl,rfl⟩) (D:=UI vo vs vh vl la nw aj) (by
   show (dM vo vs vh vl la nw).toList++([aj]++[])=_
   rfl)
 exact this
theorem qT {a b c:Int} (S:Stt P t VF) (hx:ρ x=.int .i64 a) (hy:ρ y=.int .i64 b) (hz:ρ z=.int .i64 c):aP P ⟨d,.build t #[(0,x),(2,y),(7,z)],ty,pos,af,g⟩ ρ (.agg (qA a 0 b 0 0 eg ByteArray.empty c)):=by
 have:=aU (P:=P) (ρ:=ρ) (d:=d) (ty:=ty) (pos:=pos) (af:=af) (g:=g) (parts:=#[(0,x),(2,y),(7,z)]) S [(0,.int .i64 a),(2,.int .i64 b),(7,.int .i64 c)] (by simp [hx,hy,hz]) (λj u hm=>by
  simp only [YH,Zn,YK,or_false] at hm
  rcases hm with ⟨rfl,rfl⟩|⟨rfl,rfl⟩|⟨rfl,rfl⟩<;>exact ⟨_,rfl,rfl⟩) (D:=Mf a 0 b 0 0 eg ByteArray.empty c) (by
   show [Value.int .i64 a]++([Value.int .i64 0]++([Value.int .i64 b]++([Value.int .i64 0]++([Value.int .i64 0]++(LA.flatten++([Value.string ByteArray.empty]++([Value.int .i64 c]++[])))))))=_
   rw [← FW];rfl)
 exact this
theorem sK {n:Int} {s:ByteArray} (S:Stt P t Xv) (hx:ρ x=.int .i64 n) (hy:ρ y=.string s):aP P ⟨d,.build t #[(0,x),(1,y)],ty,pos,af,g⟩ ρ (.agg (de n s aj)):=by
 have:=aU (P:=P) (ρ:=ρ) (d:=d) (ty:=ty) (pos:=pos) (af:=af) (g:=g) (parts:=#[(0,x),(1,y)]) S [(0,.int .i64 n),(1,.string s)] (by simp [hx,hy]) (λj u hm=>by
  simp only [YH,Zn,YK,or_false] at hm
  rcases hm with ⟨rfl,rfl⟩|⟨rfl,rfl⟩<;>exact ⟨_,rfl,rfl⟩) (D:=QU n s aj) rfl
 exact this
end
theorem Gt (x:Id):(aA x).extract 16 (16+16)=((d4 x).drop 16).toArray:=by
 show ((d4 x).toArray).extract 16 32=_
 rw [List.extract_toArray,List.extract_eq_take_drop]
 rw [YU (by rw [YX,jH];exact YM _)]
theorem m6 (x:Id):((d4 x).drop 16).toArray.size=16:=by rw [List.size_toArray,YX,jH]
theorem G7 (x:Id) {k:Nat} (hk:k<16):((d4 x).drop 16).toArray.toList[k]? = some (.int .u8 (bu x (k+16):Int)):=by
 rw [show k+16=16+k from Nat.add_comm _ _]
 rw [Zx]
 exact nN x (16+k) (by omega)
def lQ (S:List V2) (L:List N3):Bool:=decide (S.length=L.length) && (List.range S.length).all λk=>eL (S.getD k er).1 && decide ((S.getD k er).1.no=(L.getD k z3).1.me.1)
def lU (L:List N3):Bool:=lD L && (List.range L.length).all λk=>jh (L.getD k z3).1.me.2
def pS (H:List H4):Bool:=(List.range H.length).all λk=>sE (H.map (·.1)) k
theorem Qq {n:Nat} {f:Nat->Bool} (h:∀ j,j<n->f j=true):(List.range n).all f=true:=Yx.2 λj hj=>h j (YI.1 hj)
theorem ur {n k:Nat} {f:Nat->Bool} (hk:k<n) (h:f k=false):(List.range n).all f=false:=by
 rw [← Bool.not_eq_true,Yx]
 intro h9
 have:=h9 k (YI.2 hk)
 rw [h] at this;cases this
theorem yJ (X:Wx):cj (ax X)=(lU X.L && (lQ X.S X.L && (pS X.H && cM X.M))):=by
 rw [Zv]
 have e1:lD (jj (ax X).ov)=lD X.L:=I9 X.L
 have e2:(ax X).sv.length=X.S.length:=(zo X).1
 have e3:(ax X).ov.length=X.L.length:=(zo X).2.1
 have e4:(ax X).ho.length=X.H.length:=(zo X).2.2
 unfold cj lU lQ pS
 rw [e1,e2,e3,e4]
 simp only [Yw,Yx,YI,YB,QA]
 constructor
 ·rintro ⟨a,b,c,d,e⟩
  exact ⟨⟨a,λk hk=>(d k (by omega)).2.2⟩,⟨c,λk hk=>⟨(d k hk).1,(d k hk).2.1⟩⟩,e,b⟩
 ·rintro ⟨⟨a,f⟩,⟨c,d⟩,e,b⟩
  exact ⟨a,b,c,λk hk=>⟨(d k hk).1,(d k hk).2,f k (by omega)⟩,e⟩
theorem QK (L:List N3) (h:lD L=false):lU L=false:=by unfold lU;rw [h];rfl
theorem GN {L:List N3} {k:Nat} (hk:k<L.length) (h:jh (L.getD k z3).1.me.2=false):lU L=false:=by unfold lU;rw [ur hk h,Bool.and_false]
theorem FX {L:List N3} (h:lD L=true) (h1:∀ j,j<L.length->jh (L.getD j z3).1.me.2=true):lU L=true:=by unfold lU;rw [h,Qq h1];rfl
theorem QN {S:List V2} {L:List N3} (h:¬ S.length=L.length):lQ S L=false:=by unfold lQ;rw [Ys h];rfl
theorem xn {S:List V2} {L:List N3} {k:Nat} (hk:k<S.length) (h:(eL (S.getD k er).1 && decide ((S.getD k er).1.no=(L.getD k z3).1.me.1))=false):lQ S L=false:=by unfold lQ;rw [ur hk h,Bool.and_false]
theorem DB {S:List V2} {L:List N3} (h:S.length=L.length) (h1:∀ j,j<S.length->(eL (S.getD j er).1 && decide ((S.getD j er).1.no=(L.getD j z3).1.me.1))=true):lQ S L=true:=by unfold lQ;rw [Yt h,Qq h1];rfl
theorem F8 {L:List N3} (k:Nat):(aI L).getD k bE=(L.getD k z3).1.me:=by
 unfold aI
 rw [YR,YR,Zf];cases L[k]? <;> rfl
theorem pc (H:List H4) (k:Nat):sE (H.map (·.1)) k=(bT (H.getD k aD).1 && !(decide (0<k) && decide ((H.getD k aD).1.no<=(H.getD (k - 1) aD).1.no))):=by
 unfold sE
 rw [Et,Et]
theorem BdW.s8 {X:Wx} (h:BdW (ax X)):X.S.length<=1000:=by have:=h.sx;omega
theorem BdW.h8 {X:Wx} (h:BdW (ax X)):X.H.length<=1000:=by have:=h.hx;omega
theorem BdW.s9 {X:Wx} (h:BdW (ax X)):∀ x∈X.S,x.1.tb.length<=1000:=λx hx=>Zk (h.tb _ (Ze.2 ⟨x,hx,rfl⟩)) (by decide)
theorem BdW.h9 {X:Wx} (h:BdW (ax X)):∀ x∈X.H,B9 x.1:=λx hx=>by
 obtain ⟨k,hk,e⟩:=Zr hx
 have h1:=h.he hk
 rw [UY hk |>.symm,e] at h1
 exact h1
theorem gB {α:Type} (C:α->List Value) (sz:Nat) (hC:∀ x,(C x).length=sz) (z:α):∀ (l:List α) {j off:Nat},j<l.length->off<sz->∀ {V:Value} {x:α},(C (l.getD j z)).set off V=C x->(l.flatMap C).set (j*sz+off) V=(l.set j x).flatMap C
 |[],_,_,hj,_,_,_,_=>ZF hj (Zl _)
 |a::l,0,off,_,ho,V,x,h=>by
  rw [List.flatMap_cons,List.set_cons_zero,List.flatMap_cons,Nat.zero_mul,Nat.zero_add,List.set_append_left _ _ (by rw [hC];exact ho)]
  rw [← h];rfl
 |a::l,j+1,off,hj,ho,V,x,h=>by
  have hj':j<l.length:=by simpa using hj
  rw [List.flatMap_cons,List.set_cons_succ,List.flatMap_cons,List.set_append_right _ _ (by rw [hC,Nat.succ_mul];omega),hC,show (j+1)*sz+off - sz=j*sz+off by rw [Nat.succ_mul];omega,
   gB C sz hC z l hj' ho h]
theorem fF {α:Type} (C:α->List Value) (sz:Nat) (hC:∀ x,(C x).length=sz) (z:α):∀ (l:List α) {j off:Nat},j<l.length->off<sz->(l.flatMap C)[j*sz+off]? = (C (l.getD j z))[off]?
 |[],_,_,hj,_=>ZF hj (Zl _)
 |a::l,0,off,_,ho=>by
  rw [List.flatMap_cons,Nat.zero_mul,Nat.zero_add,Y3 (by rw [hC];exact ho)];rfl
 |a::l,j+1,off,hj,ho=>by
  have hj':j<l.length:=by simpa using hj
  rw [List.flatMap_cons,Y2 (by rw [hC,Nat.succ_mul];omega),hC,show (j+1)*sz+off - sz=j*sz+off by rw [Nat.succ_mul];omega,fF C sz hC z l hj' ho];rfl
theorem pW {α:Type} (C:α->List Value) (l:List α) (h:∀ x∈l,∀ u∈C x,u.oneCell'=true):∀ u∈l.flatMap C,u.oneCell'=true:=λu hu=>by
 obtain ⟨x,hx,hu⟩:=List.mem_flatMap.1 hu
 exact h x hx u hu
theorem ub {l:List V2} (h:∀ x∈l,x.2.oneCell'=true):∀ u∈aQ l,u.oneCell'=true:=pW _ l λx hx u hu=>by
 have hu:u∈[Value.int .i64 x.1.no,.string x.1.sec,x.2]:=hu
 simp only [YH,YK,or_false] at hu
 rcases hu with rfl|rfl|rfl
 ·rfl
 ·rfl
 ·exact h x hx
theorem uC {l:List H4} (h:∀ x∈l,x.2.1.oneCell'=true/\x.2.2.1.oneCell'=true/\x.2.2.2.oneCell'=true):∀ u∈aC l,u.oneCell'=true:=pW _ l λx hx u hu=>by
 have hu:u∈[Value.int .i64 x.1.no,.int .i64 x.1.gt,x.2.1,x.2.2.1,x.2.2.2]:=hu
 simp only [YH,YK,or_false] at hu
 obtain ⟨a,b,c⟩:=h x hx
 rcases hu with rfl|rfl|rfl|rfl|rfl
 ·rfl
 ·rfl
 ·exact a
 ·exact b
 ·exact c
theorem Ny {l:List V2} {j:Nat} (hj:j<l.length):(aQ l)[j*3+2]? = some (l.getD j er).2:=fF qP 3 mm er l hj (by decide)
theorem zM {l:List H4} {j:Nat} (hj:j<l.length):(aC l)[j*5+0]? = some (.int .i64 (l.getD j aD).1.no):=fF mz 5 fS aD l hj (by decide)
theorem OE {l:List H4} {j:Nat} (hj:j<l.length):(aC l)[j*5+2]? = some (l.getD j aD).2.1:=fF mz 5 fS aD l hj (by decide)
theorem Qk {l:List H4} {j:Nat} (hj:j<l.length):(aC l)[j*5+3]? = some (l.getD j aD).2.2.1:=fF mz 5 fS aD l hj (by decide)
theorem PD {l:List H4} {j:Nat} (hj:j<l.length):(aC l)[j*5+4]? = some (l.getD j aD).2.2.2:=fF mz 5 fS aD l hj (by decide)
theorem LC {l:List V2} {j:Nat} (hj:j<l.length) (V:Value):(aQ l).set (j*3+2) V=aQ (l.set j ((l.getD j er).1,V)):=gB qP 3 mm er l hj (by decide) rfl
theorem KQ {l:List H4} {j:Nat} (hj:j<l.length) (V:Value):(aC l).set (j*5+2) V=aC (l.set j ((l.getD j aD).1,V,(l.getD j aD).2.2)):=gB mz 5 fS aD l hj (by decide) rfl
theorem LO {l:List H4} {j:Nat} (hj:j<l.length) (V:Value):(aC l).set (j*5+3) V=aC (l.set j ((l.getD j aD).1,(l.getD j aD).2.1,V,(l.getD j aD).2.2.2)):=gB mz 5 fS aD l hj (by decide) rfl
theorem IY {l:List H4} {j:Nat} (hj:j<l.length) (V:Value):(aC l).set (j*5+4) V=aC (l.set j ((l.getD j aD).1,(l.getD j aD).2.1,(l.getD j aD).2.2.1,V)):=gB mz 5 fS aD l hj (by decide) rfl
theorem oh {α:Type} {l:List α} {j:Nat} (hj:j<l.length) (x z:α):(l.set j x).getD j z=x:=by
 rw [YR,List.getElem?_set_self hj];rfl
theorem HS {α:Type} {l:List α} {i j:Nat} (h:i≠j) (x z:α):(l.set j x).getD i z=l.getD i z:=by
 rw [YR,List.getElem?_set_ne (λe=>h e.symm),YR]
theorem w8 {α β:Type} (f:α->β) {l:List α} {j:Nat} {x z:α} (hj:j<l.length) (h:f x=f (l.getD j z)):(l.set j x).map f=l.map f:=by
 rw [List.map_set]
 apply List.ext_getElem?
 intro i
 by_cases e:j=i
 ·subst e
  rw [List.getElem?_set_self (by rw [Y6];exact hj),Zf,Yz hj,h,YR,Yz hj];rfl
 ·rw [List.getElem?_set_ne e]
theorem Ev {α:Type} {l:List α} {j:Nat} (hj:j<l.length) (x:α):(l.set j x).take (j+1)=l.take j++[x]:=by
 rw [List.take_set,List.take_succ_eq_append_getElem hj,List.set_append_right _ _ (by rw [Y5];omega)]
 rw [Y5,Nat.min_eq_left (by omega),Nat.sub_self];rfl
theorem vj {α:Type} {Q:α->Prop} {l:List α} {j:Nat} {x:α} (hj:j<l.length) (h:∀ y∈l.take j,Q y) (hx:Q x):∀ y∈(l.set j x).take (j+1),Q y:=λy hy=>by
 rw [Ev hj] at hy
 rcases Y4.1 hy with hy|hy
 ·exact h y hy
 ·rw [YF.1 hy];exact hx
def B3 (l:List V2) (w:World):Prop:=∀ x∈l,MX w x.2 x.1.tb
def sR (l:List H4) (w:World):Prop:=∀ x∈l,gn w x.2.1 x.2.2.1 x.2.2.2 x.1
theorem St.slG {w0 w:World} {a:Value} {M:TypeId} {sa n:Nat} {xs:List Value} {ks:List Nat} {S S':World->Prop} {B:List Own} (s:St w0 (.sl a M sa n xs::.grp ks S::B) w) (h:∀ w9,bp w9 a sa n xs->S w9->S' w9):∃ kn,St w0 (.grp kn S'::B) w:=
 ⟨_,(St.group (A:=[.sl a M sa n xs,.grp ks S]) (B:=B) s).weak λw9 h9=>h w9 (bp.of_own (h9 (.sl a M sa n xs) (by simp))) ((h9 (.grp ks S) (by simp)).2 w9 λ_ _=>rfl)⟩
theorem St.sl3G {w0 w:World} {a b c:Value} {M N K:TypeId} {sa sb sc n m k:Nat} {xs ys zs:List Value} {ks:List Nat} {S S':World->Prop} {B:List Own} (s:St w0 (.sl a M sa n xs::.sl b N sb m ys::.sl c K sc k zs::.grp ks S::B) w) (h:∀ w9,bp w9 a sa n xs->bp w9 b sb m ys->bp w9 c sc k zs->S w9->S' w9):∃ kn,St w0 (.grp kn S'::B) w:=
 ⟨_,(St.group (A:=[.sl a M sa n xs,.sl b N sb m ys,.sl c K sc k zs,.grp ks S]) (B:=B) s).weak λw9 h9=>h w9 (bp.of_own (h9 (.sl a M sa n xs) (by simp))) (bp.of_own (h9 (.sl b N sb m ys) (by simp))) (bp.of_own (h9 (.sl c K sc k zs) (by simp))) ((h9 (.grp ks S) (by simp)).2 w9 λ_ _=>rfl)⟩
def Xk (w:World) (ts th:TypeId) (X:Wx):c8:=λv w9=>∃ uo us uh ul Y ks,v=.agg (dM uo us uh ul X.M.last X.M.now)/\ax Y=ax X/\St w [.sl us ts 3 Y.S.length (aQ Y.S),.sl uh th 5 Y.H.length (aC Y.H),.grp ks λw9=>RdC w9 uo ul Y] w9
theorem Oz {w w9:World} {tn ts th tl:TypeId} {X:Wx} {uo us uh ul:Value} {Kn:List N3} {Ks:List V2} {Kh:List H4} {k1 k2 k3:List Nat} (e1:nds Kn=nds X.L) (e2:Ks.map (·.1)=X.S.map (·.1)) (e3:Kh.map (·.1)=X.H.map (·.1))
 (s:St w [.sl us ts 3 Ks.length (aQ Ks),.sl uh th 5 Kh.length (aC Kh),.sl uo tn 68 Kn.length (aK Kn),.sl ul tl 4 X.M.l.length (bD X.M.l),.grp k1 (jM Kn),.grp k2 (B3 Ks),.grp k3 (sR Kh)] w9):Xk w ts th X (.agg (dM uo us uh ul X.M.last X.M.now)) w9:=by
 have s1:=s.sel [2,3,4,5,6,0,1] (B':=[.sl uo tn 68 Kn.length (aK Kn),.sl ul tl 4 X.M.l.length (bD X.M.l),.grp k1 (jM Kn),.grp k2 (B3 Ks),.grp k3 (sR Kh),.sl us ts 3 Ks.length (aQ Ks),.sl uh th 5 Kh.length (aC Kh)]) rfl (by decide)
 have s2:=St.group (A:=[.sl uo tn 68 Kn.length (aK Kn),.sl ul tl 4 X.M.l.length (bD X.M.l),.grp k1 (jM Kn),.grp k2 (B3 Ks),.grp k3 (sR Kh)]) (B:=[.sl us ts 3 Ks.length (aQ Ks),.sl uh th 5 Kh.length (aC Kh)]) s1
 have s3:=s2.weak (S':=λw9=>RdC w9 uo ul ⟨Kn,Ks,Kh,X.M⟩) λw9 h9=>⟨⟨bp.of_own (h9 (.sl uo tn 68 Kn.length (aK Kn)) (by simp)),(h9 (.grp k1 (jM Kn)) (by simp)).2 w9 λ_ _=>rfl⟩,(h9 (.grp k2 (B3 Ks)) (by simp)).2 w9 λ_ _=>rfl,(h9 (.grp k3 (sR Kh)) (by simp)).2 w9 λ_ _=>rfl,bp.of_own (h9 (.sl ul tl 4 X.M.l.length (bD X.M.l)) (by simp))⟩
 refine ⟨uo,us,uh,ul,⟨Kn,Ks,Kh,X.M⟩,_,rfl,?_,s3.sel [1,2,0] rfl (by decide)⟩
 unfold ax
 rw [e1,e2,e3]
def lF (v:Value):Value:=ft (match v with
 |.tuple a=>match (a[0]?).getD (.bool false) with
  |.agg c=>(c[0]?).getD (.bool false)
  |_=>.bool false
 |_=>.bool false)
theorem BI (v:Value):(lF v).oneCell'=true:=uI _
theorem St.o5 {w0 w:World} {a b c d e:Own} {B:List Own} (s:St w0 (a::b::c::d::e::B) w):St w0 (b::c::d::e::a::B) w:=s.perm (ZB (l₁:=[b,c,d,e]) (a:=a) (l₂:=B)).symm
end Go.Proofs.YtkhepdpfdhdlaaaGreatDoor
namespace Go.Proofs.YtkhepdpfdhdlaaaGreatDoor
open Go.RowKit Go.Sort
section
variable {α:Type} (f:α->List Value) (sz:Nat) (z:α) (num:α->Int)
def fx (f:α->List Value):Type:={x:α // ∀ u∈f x,u.oneCell'=true}
abbrev ST (h:∀ u∈f z,u.oneCell'=true):Inhabited (fx f):=⟨⟨z,h⟩⟩
def subL (x:fx f):List Value:=f x.1
variable [Inhabited (fx f)] (hf:∀ x,(f x).length=sz) (hz:0<sz)
include hf in
theorem il (x:fx f):(subL f x).length=sz:=hf _
theorem q8 (x:fx f):∀ v∈subL f x,v.oneCell'=true:=x.2
include hf hz in
theorem nh (d:Array (fx f)):(flatK (subL f) sz d).toList=d.toList.flatMap (subL f):=by
 apply List.ext_getElem?
 intro t
 by_cases ht:t<d.size*sz
 ·have hj:t / sz<d.size:=Nat.div_lt_of_lt_mul (by rw [Nat.mul_comm];exact ht)
  have hr:t % sz<sz:=ZE _ hz
  have h1:(d.toList.flatMap (subL f))[t]? = (subL f d[t / sz])[t % sz]? := by
   have h2:t=t / sz*sz+t % sz:=(Nat.div_add_mod' t sz).symm
   conv=>lhs;rw [h2]
   rw [fF (subL f) sz (il f sz hf) d[t / sz] d.toList (by simpa using hj) hr]
   congr 2
   rw [YR,Zy,Zz hj];rfl
  rw [h1]
  have h3:=get_flatK (subL f) sz d t ht
  have h4:t<(flatK (subL f) sz d).size:=by rw [size_flatK];exact ht
  rw [getElem!_pos _ t h4,getElem!_pos d _ hj] at h3
  rw [Zy,Zz h4,h3]
  have h5:t % sz<(subL f d[t / sz]).length:=by rw [il f sz hf];exact hr
  rw [getElem!_pos (subL f d[t / sz]) (t % sz) h5,Yz h5]
 ·rw [Zg (by rw [YD,size_flatK];omega),Zg (by rw [dW _ sz (il f sz hf),YD];omega)]
theorem jD (w:World) (g m:Nat) (d:Array (fx f)) (os:Array Obj):(sortWorldK (subL f) sz w g 0 m d os).heap=w.heap.modify g (onCells (putCells id 0 (flatK (subL f) sz d)))++os:=rfl
theorem sJ (w:World) (g m:Nat) (d:Array (fx f)) (os:Array Obj) {k:Nat} (hk:k<w.heap.size) (hne:k≠g):(sortWorldK (subL f) sz w g 0 m d os).heap[k]? = w.heap[k]? := by
 rw [jD,Zs (by rw [Array.size_modify];exact hk),Array.getElem?_modify,if_neg (λe=>hne e.symm)]
theorem zj (w:World) (g m:Nat) (d:Array (fx f)) (os:Array Obj) {cur:Array Value} {e:TypeId} {fz:Nat × Nat} (hg:w.heap[g]? = some (.cells cur e fz)):(sortWorldK (subL f) sz w g 0 m d os).heap[g]? = some (.cells (putCells id 0 (flatK (subL f) sz d) cur) e fz):=by
 have hk:g<w.heap.size:=(ZA.1 hg).1
 rw [jD,Zs (by rw [Array.size_modify];exact hk),Array.getElem?_modify,if_pos rfl,hg]
 rfl
include hf hz in
theorem wx {w0 w:World} {B:List Own} {v:Value} {e:TypeId} {n:Nat} {l:List (fx f)} (s:St w0 (.sl v e sz n (l.flatMap (subL f))::B) w) (hl:l.length=n) (hn:1<=n):
 ∃ g cap,v=.slice (some ⟨g,0,none⟩) n cap/\g<w.heap.size/\w0.heap.size<=g/\HoldsK (subL f) sz w g 0 l.toArray/\
  ∀ (m:Nat) (os:Array Obj) (d:Array (fx f)),d.size=n->St w0 (.sl v e sz n (d.toList.flatMap (subL f))::B) (sortWorldK (subL f) sz w g 0 m d os):=by
 obtain ⟨g,cap,cur,fz,rfl,hfz,hnc,hcm,hcs,htk,s⟩:=s.open_sl hn
 have hg:=s.get 0 rfl
 have hlt:g<w.heap.size:=(ZA.1 hg).1
 have hroom:n*sz<=cur.size:=by rw [hcs];exact Nat.mul_le_mul_right _ hnc
 refine ⟨g,cap,rfl,hlt,s.own _ YG g (Own.at_blk.2 rfl),λj hj=>?_,λm os d hd=>?_⟩
 ·have hjs:j<n*sz:=by rw [size_flatK] at hj;simpa [hl] using hj
  constructor
  ·rw [Nat.zero_add,cell_of_row w g j cur e fz hg]
   have h1:(flatK (subL f) sz l.toArray).toList=cur.toList.take (n*sz):=by rw [nh f sz hf hz,htk]
   have h2:(flatK (subL f) sz l.toArray).toList[j]? = cur.toList[j]? := by rw [h1,Zw hjs]
   rw [Zy,Zy,Zz hj] at h2
   rw [getElem!_pos _ j hj]
   exact h2.symm
  ·simp only [World.frozen?,hg,Nat.zero_add]
   obtain ⟨lo,hi⟩:=fz
   rcases hfz with h9|h9
   ·change hi=0 at h9;subst h9;simp
   ·change cur.size<=lo at h9
    have:¬ lo<=j:=by omega
    simp [this]
 ·have hF:(flatK (subL f) sz d).size=n*sz:=by rw [size_flatK,hd]
  have s2:=s.upd 0 (w':=sortWorldK (subL f) sz w g 0 m d os) (p':=.blk g (.cells (putCells id 0 (flatK (subL f) sz d) cur) e fz)) rfl rfl rfl rfl (by rw [jD];simp) (zj f sz w g m d os hg) (λk hk=>.inl hk) (λk hk hne=>sJ f sz w g m d os hk (λe9=>hne (Own.at_blk.2 e9))) (Nat.le_add_right _ _)
  refine s2.close_sl (by rw [lZ];exact hfz) hnc hcm (by rw [lZ];exact hcs) ?_ ?_
  ·rw [← hF,xi _ _ (by omega),nh f sz hf hz]
  ·rw [dW _ sz (il f sz hf),YD,hd]
theorem oi (a b:fx f):ltOf (λx y:fx f=>cc (num x.1) (num y.1)) a b=decide (num a.1<num b.1):=YE.2 (iK _ _)
theorem xj:SWO (ltOf λx y:fx f=>cc (num x.1) (num y.1)) where
 irrefl x:=by rw [oi];simp
 trans x y z h1 h2:=by rw [oi] at *;simp at *;omega
 ntrans x y z h1 h2:=by rw [oi] at *;simp at *;omega
theorem xh {l:List (fx f)} (hd:l.Pairwise λa b=>num a.1≠num b.1) {d:Array (fx f)} (hp:PermIn 0 l.toArray.size l.toArray d) (hs:SortedIn (ltOf λx y:fx f=>cc (num x.1) (num y.1)) 0 l.toArray.size d):
 d.toList.Perm l/\d.toList.Pairwise λa b=>num a.1<num b.1:=by
 obtain ⟨hsz,_,hpm⟩:=hp
 have e1:d.extract 0 l.toArray.size=d:=by rw [← hsz];exact Array.extract_size
 rw [e1,Array.extract_size] at hpm
 have hpl:d.toList.Perm l:=by first|exact hpm|exact hpm.symm|exact hpm.toList|exact hpm.toList.symm
 have hd2:d.toList.Pairwise λa b=>num a.1≠num b.1:=(hpl.pairwise_iff (λh=>λe=>h e.symm)).2 hd
 refine ⟨hpl,?_⟩
 rw [List.pairwise_iff_getElem] at hd2 ⊢
 intro i j hi hj hij
 have hi':i<d.size:=by simpa using hi
 have hj':j<d.size:=by simpa using hj
 have h1:=hs i j (YO _) hij (by omega)
 rw [getElem!_pos d j hj',getElem!_pos d i hi',oi] at h1
 have h2:=hd2 i j hi hj hij
 have h3:=Yr h1
 simp only [Array.getElem_toList] at h2 ⊢
 omega
def UH (L:List α) (h:∀ x∈L,∀ u∈f x,u.oneCell'=true):List (fx f):=L.attach.map λx=>(⟨x.1,h x.1 x.2⟩:fx f)
theorem um (L:List α) (h:∀ x∈L,∀ u∈f x,u.oneCell'=true):(UH f L h).map (·.1)=L:=by
 refine(List.map_map (f:=λx:{x // x∈L}=>(⟨x.1,h x.1 x.2⟩:fx f)) (g:=λx:fx f=>x.1) (l:=L.attach)).trans ?_
 exact List.attach_map_subtype_val L
theorem Bf (L:List α) (h:∀ x∈L,∀ u∈f x,u.oneCell'=true):(UH f L h).length=L.length:=by
 have:=Yu List.length (um f L h);simpa using this
theorem ke (l:List (fx f)):l.flatMap (subL f)=(l.map (·.1)).flatMap f:=by rw [List.flatMap_map];rfl
end
instance:Inhabited (fx qP):=ST qP er (by decide)
instance:Inhabited (fx mz):=ST mz aD (by decide)
def yf {α:Type} (num:α->Int) (l:List α) (no:Int):Nat:=l.findIdx λx=>decide (num x=no)
def qD {α:Type} (num:α->Int) (sz:Nat) (v:Value) (l:List α) (no:Int):Value:=bif decide (yf num l no<l.length) then .pointer (some (bI v (yf num l no*sz))) else .pointer none
theorem TW {α:Type} {num:α->Int} {l:List α} {no:Int} {k:Nat} (z:α) (hk:k<l.length) (h:∀ j,j<k->decide (num (l.getD j z)=no)=false) (hq:decide (num (l.getD k z)=no)=true):yf num l no=k:=by
 unfold yf
 have e:∀ j (hj:j<l.length),l[j]=l.getD j z:=λj hj=>by rw [YR,Yz hj];rfl
 refine(List.findIdx_eq hk).2 ⟨by rw [e];exact hq,λj hj=>by rw [e j (by omega)];exact h j hj⟩
theorem T5 {α:Type} {num:α->Int} {l:List α} {no:Int} {k:Nat} (z:α) (hk:l.length<=k) (h:∀ j,j<k->decide (num (l.getD j z)=no)=false):yf num l no=l.length:=by
 unfold yf
 refine List.findIdx_eq_length.2 λx hx=>?_
 obtain ⟨j,hj,rfl⟩:=Zr hx
 have:=h j (by omega)
 rwa [YR,Yz hj] at this
theorem Qu {α:Type} {num:α->Int} {sz:Nat} {v:Value} {l:List α} {no:Int} {k:Nat} (z:α) (hk:k<l.length) (h:∀ j,j<k->decide (num (l.getD j z)=no)=false) (hq:decide (num (l.getD k z)=no)=true):qD num sz v l no=.pointer (some (bI v (k*sz))):=by
 unfold qD;rw [TW z hk h hq,Yt hk];rfl
theorem Py {α:Type} {num:α->Int} {sz:Nat} {v:Value} {l:List α} {no:Int} {k:Nat} (z:α) (hk:l.length<=k) (h:∀ j,j<k->decide (num (l.getD j z)=no)=false):qD num sz v l no=.pointer none:=by
 unfold qD;rw [T5 z hk h,Ys (Nat.lt_irrefl _)];rfl
theorem AK {α:Type} {num:α->Int} {sz:Nat} {v:Value} {l:List α} {no:Int} (h:yf num l no<l.length):qD num sz v l no=.pointer (some (bI v (yf num l no*sz))):=by unfold qD;rw [Yt h];rfl
theorem pO {α:Type} {num:α->Int} {sz:Nat} {v:Value} {l:List α} {no:Int} (h:¬ yf num l no<l.length):qD num sz v l no=.pointer none:=by unfold qD;rw [Ys h];rfl
theorem KM {α:Type} {num:α->Int} {l:List α} {no:Int} (z:α) (h:yf num l no<l.length):num (l.getD (yf num l no) z)=no:=by
 have h1:=List.findIdx_getElem (p:=λx=>decide (num x=no)) (xs:=l) (w:=h)
 rw [YR,Yz h]
 exact Yq h1
theorem Gr {α β:Type} {num:β->Int} {f:α->β} {l:List α} {no:Int} (z:α) (z':β):xd num z' (l.map f) no=bif decide (yf (λx=>num (f x)) l no<l.length) then f (l.getD (yf (λx=>num (f x)) l no) z) else z':=by
 unfold xd yf
 rw [List.find?_map]
 by_cases h:l.findIdx (λx=>decide (num (f x)=no))<l.length
 ·rw [Yt h,cond_true]
  have h1:l.find? (λx=>decide (num (f x)=no))=some l[l.findIdx λx=>decide (num (f x)=no)]:=by
   rw [List.find?_eq_some_iff_getElem]
   exact ⟨List.findIdx_getElem (w:=h),_,h,rfl,λj hj=>by simpa using List.not_of_lt_findIdx hj⟩
  show ((l.find? (λx=>decide (num (f x)=no))).map f).getD z'=_
  rw [h1,YR,Yz h];rfl
 ·rw [Ys h,cond_false]
  have h1:l.find? (λx=>decide (num (f x)=no))=none:=by
   rw [List.find?_eq_none]
   intro x hx hq
   exact h (List.findIdx_lt_length_of_exists ⟨x,hx,hq⟩)
  show ((l.find? (λx=>decide (num (f x)=no))).map f).getD z'=_
  rw [h1];rfl
abbrev Own.tie9 (w0:World) (A:List Own):Own:=.grp (A.flatMap Own.ks) λw9=>(∀ p∈A,p.holds w0 w9)/\(∀ p∈A,∀ k,p.at k->w0.heap.size<=k)/\A.Pairwise (λp q=>∀ k,p.at k->¬ q.at k)
theorem St.tie9 {w0 w:World} (A:List Own) {B:List Own} (s:St w0 (A++B) w):St w0 (Own.tie9 w0 A::B) w:=by
 have hnd:=List.pairwise_append.1 s.nd
 have hA:∀ p∈A,p.holds w0 w:=λp hp=>s.has p (List.mem_append_left _ hp)
 have hO:∀ p∈A,∀ k,p.at k->w0.heap.size<=k:=λp hp=>s.own p (List.mem_append_left _ hp)
 refine ⟨s.ext,λp hp=>?_,λp hp k hk=>?_,List.pairwise_cons.2 ⟨λq hq k hk hqk=>?_,hnd.2.1⟩⟩
 ·rcases YH.1 hp with rfl|hp
  ·refine ⟨λk hk=>?_,λw' hw=>⟨λp hp=>Own.keep (hA p hp) λk hk=>hw k (List.mem_flatMap.2 ⟨p,hp,hk⟩),hO,hnd.1⟩⟩
   obtain ⟨p,hp,hk⟩:=List.mem_flatMap.1 hk
   exact Own.lt (hA p hp) hk
  ·exact s.has p (List.mem_append_right _ hp)
 ·rcases YH.1 hp with rfl|hp
  ·obtain ⟨p,hp,hk⟩:=List.mem_flatMap.1 (show k∈A.flatMap Own.ks from hk)
   exact hO p hp k hk
  ·exact s.own p (List.mem_append_right _ hp) k hk
 ·obtain ⟨p,hp,hk⟩:=List.mem_flatMap.1 (show k∈A.flatMap Own.ks from hk)
  exact hnd.2.2 p hp q hq k hk hqk
theorem St.untie9 {w0 w:World} {A B:List Own} (s:St w0 (Own.tie9 w0 A::B) w):St w0 (A++B) w:=by
 have h:=(s.has _ YG).2 w λ_ _=>rfl
 have hnd:=List.pairwise_cons.1 s.nd
 refine ⟨s.ext,λp hp=>?_,λp hp k hk=>?_,List.pairwise_append.2 ⟨h.2.2,hnd.2,λp hp q hq k hk=>hnd.1 q hq k (List.mem_flatMap.2 ⟨p,hp,hk⟩)⟩⟩
 ·rcases Y4.1 hp with hp|hp
  ·exact h.1 p hp
  ·exact s.has p (YQ _ hp)
 ·rcases Y4.1 hp with hp|hp
  ·exact h.2.1 p hp k hk
  ·exact s.own p (YQ _ hp) k hk
theorem Hz {W:Wd} {N:List Nt} {z fr:Int} {x:Se} (h0:0<=x.1) (hE:cx W.ml fr x.1 (cf x.2.1)=0):aT ⟨W,N,z⟩ fr x=⟨{W with ml:=f4 W.ml fr x.1 (cf x.2.1)},N,jJ W.ml fr x.1 (cf x.2.1)⟩:=by
 have h1:JT W fr x=0:=by unfold JT;rw [Ys (by omega)];rfl
 have h2:BN W fr x=x.1:=by unfold BN;rw [Ys (by omega)];rfl
 have h3:kY W fr x=0:=by unfold kY;rw [h1,h2,hE];rfl
 unfold aT
 rw [show kY (⟨W,N,z⟩:Pt).w fr x=0 from h3,show BN (⟨W,N,z⟩:Pt).w fr x=x.1 from h2];rfl
theorem HA {W:Wd} {N:List Nt} {z fr:Int} {x:Se} (h0:0<=x.1) (hE:¬ cx W.ml fr x.1 (cf x.2.1)=0):aT ⟨W,N,z⟩ fr x=⟨W,N++[{rA fr 0 (cx W.ml fr x.1 (cf x.2.1)) with tm:=W.ml.now}],0⟩:=by
 have h1:JT W fr x=0:=by unfold JT;rw [Ys (by omega)];rfl
 have h2:BN W fr x=x.1:=by unfold BN;rw [Ys (by omega)];rfl
 have h3:kY W fr x=cx W.ml fr x.1 (cf x.2.1):=by unfold kY;rw [h1,h2];rfl
 unfold aT
 rw [show kY (⟨W,N,z⟩:Pt).w fr x=cx W.ml fr x.1 (cf x.2.1) from h3,Ys hE];rfl
theorem sA {X:Wx} {N:List Nt} {fr:Int} {x:Se} (h0:0<=x.1):(aT ⟨ax X,N,0⟩ fr x).w=ax {X with M:=(aT ⟨ax X,N,0⟩ fr x).w.ml}:=by
 by_cases hE:cx (ax X).ml fr x.1 (cf x.2.1)=0
 ·rw [Hz h0 hE];rfl
 ·rw [HA h0 hE];rfl
def yu (m:Ml) (fr to:Int) (d:ByteArray):Ml:=bif decide (cx m fr to d=0) then f4 m fr to d else m
def Nq (m:Ml) (fr to:Int) (d:ByteArray):Int:=bif decide (cx m fr to d=0) then jJ m fr to d else 0
theorem GR {m:Ml} {fr to:Int} {d:ByteArray} (h:cx m fr to d=0):yu m fr to d=f4 m fr to d/\Nq m fr to d=jJ m fr to d:=by unfold yu Nq;rw [Yt h];exact ⟨rfl,rfl⟩
theorem ya {m:Ml} {fr to:Int} {d:ByteArray} (h:¬ cx m fr to d=0):yu m fr to d=m/\Nq m fr to d=0:=by unfold yu Nq;rw [Ys h];exact ⟨rfl,rfl⟩
theorem oU {W:Wd} {N:List Nt} {z fr:Int} {x:Se} (h0:0<=x.1) (hE:cx W.ml fr x.1 (cf x.2.1)=0):(aT ⟨W,N,z⟩ fr x).w.ml=yu W.ml fr x.1 (cf x.2.1)/\(aT ⟨W,N,z⟩ fr x).n=N/\(aT ⟨W,N,z⟩ fr x).no=Nq W.ml fr x.1 (cf x.2.1):=by
 rw [Hz h0 hE,(GR hE).1,(GR hE).2];exact ⟨rfl,rfl,rfl⟩
theorem pD {W:Wd} {N:List Nt} {z fr:Int} {x:Se} (h0:0<=x.1) (hE:¬ cx W.ml fr x.1 (cf x.2.1)=0):(aT ⟨W,N,z⟩ fr x).w.ml=yu W.ml fr x.1 (cf x.2.1)/\(aT ⟨W,N,z⟩ fr x).n=N++[{rA fr 0 (cx W.ml fr x.1 (cf x.2.1)) with tm:=W.ml.now}]/\(aT ⟨W,N,z⟩ fr x).no=Nq W.ml fr x.1 (cf x.2.1):=by
 rw [HA h0 hE,(ya hE).1,(ya hE).2];exact ⟨rfl,rfl,rfl⟩
abbrev aZ (X:Wx) (no:Int):Nat:=yf (λx:H4=>x.1.no) X.H no
theorem Ar {X:Wx} {no:Int} (h:aZ X no<X.H.length):cQ (ax X) no=(X.H.getD (aZ X no) aD).1:=by
 unfold cQ
 rw [show (ax X).ho=X.H.map (·.1) from rfl,Gr (f:=λx:H4=>x.1) (num:=λx:Ho=>x.no) aD RD,Yt h];rfl
theorem rb {X:Wx} {no:Int} (h:¬ aZ X no<X.H.length):cQ (ax X) no=RD:=by
 unfold cQ
 rw [show (ax X).ho=X.H.map (·.1) from rfl,Gr (f:=λx:H4=>x.1) (num:=λx:Ho=>x.no) aD RD,Ys h];rfl
theorem AV {X:Wx} {no:Int} (h:aZ X no<X.H.length):(X.H.getD (aZ X no) aD).1.no=no:=KM (num:=λx:H4=>x.1.no) aD h
theorem vB {X:Wx} (h:cj (ax X)=true) {k:Nat} (hk:k<X.H.length):bT (X.H.getD k aD).1=true:=by
 rw [yJ] at h
 unfold pS at h
 simp only [Yw,Yx,YI] at h
 have:=h.2.2.1 k hk
 rw [pc] at this
 simp only [Yw] at this
 exact this.1
theorem xv {X:Wx} (h:cj (ax X)=true):cM X.M=true:=by
 rw [yJ] at h
 simp only [Yw] at h
 exact h.2.2.2
theorem HF {h:Ho} {l:List cO} {d:ByteArray} {now:Int} (e:ji h l d now=0):cR (NA l d)=true:=by
 have hcond:(bT h=true/\(0<=now/\now<=1099511627776)/\cZ l=true):=Classical.byContradiction λhb=>by rw [(JZ (d:=d) hb).1] at e;cases e
 have hsz:d.size<=64:=Classical.byContradiction λhb=>by rw [(SA hcond hb).1] at e;cases e
 exact yz (p:=(l,64,d)) (iO.2 ⟨(ee _).1 hcond.2.2,by show (0:Int)<=64;decide,by show (64:Int)<=64;decide,hsz⟩)
theorem SK {h:Ho} {l:List cO} {d:ByteArray} {now:Int} (e:ji h l d now=0):bV h l d now=jS h l d now:=by unfold bV;rw [e];rfl
theorem MY {m:Ml} (h:cM m=true) {fr to:Int} {d:ByteArray}:0<=Nq m fr to d:=by
 have:=((fG m).1 h).2.1.1
 by_cases hE:cx m fr to d=0
 ·rw [(GR hE).2];unfold jJ;rw [hE];show 0<=m.last+1;omega
 ·rw [(ya hE).2];exact Int.le_refl _
theorem HZ {X:Wx} {N:List Nt} {fr:Int} {x:Se} (h0:0<=x.1) (h:cM X.M=true):0<=(aT ⟨ax X,N,0⟩ fr x).no:=by
 by_cases hE:cx (ax X).ml fr x.1 (cf x.2.1)=0
 ·rw [(oU h0 hE).2.2];exact MY h
 ·rw [(pD h0 hE).2.2];exact MY h
section
variable {W:Wd} {a:Ac}
theorem NM (h:(cQ W a.no).no<0):gA W a=fw 6:=by unfold gA;rw [Yt h];rfl
theorem Qy (h:¬ (cQ W a.no).no<0) (he:¬ ji (cQ W a.no) a.l a.d W.ml.now=0):gA W a=fw (ji (cQ W a.no) a.l a.d W.ml.now):=by unfold gA;rw [Ys h,Ys he];rfl
theorem PS (h:¬ (cQ W a.no).no<0) (he:ji (cQ W a.no) a.l a.d W.ml.now=0) (hp:0<(iJ W a).no):gA W a=ky (jw (iJ W a) (my a.no (iJ W a).no a.d)):=by unfold gA;rw [Ys h,he,Yt hp];rfl
theorem QE (h:¬ (cQ W a.no).no<0) (he:ji (cQ W a.no) a.l a.d W.ml.now=0) (hp:¬ 0<(iJ W a).no):gA W a=ky (iJ W a):=by unfold gA;rw [Ys h,he,Ys hp];rfl
end
theorem iV {w0 w9:World} {c:Nat} {tc ts th tn:TypeId} {vo vs vh vl vn:Value} {X:Wx} {kk:List Nat} {B9:List Own} {R:Wr} {e:Int} (hR:R=fw e) (he:e≠0) (s:St w0 (QQ c tc ts th tn vo vs vh vl vn X [] kk B9) w9):Jd w0 c tc ts th tn R B9 (.int .i64 e) w9:=by
 subst hR
 exact ⟨rfl,vo,vs,vh,vl,vn,X,[],kk,λh=>ZF h he,s⟩
theorem su {w0 w9:World} {c:Nat} {tc ts th tn:TypeId} {vo vs vh vl vn:Value} {Y:Wx} {N:List Nt} {kk:List Nat} {B9:List Own} {R:Wr} (t:Pt) (hR:R=ky t) (hY:ax Y=t.w) (hN:N=t.n) (s:St w0 (QQ c tc ts th tn vo vs vh vl vn Y N kk B9) w9):Jd w0 c tc ts th tn R B9 (.int .i64 0) w9:=by
 subst hR
 exact ⟨rfl,vo,vs,vh,vl,vn,Y,N,kk,λ_=>⟨hY,hN⟩,s⟩
theorem KK {X:Wx} {N:List Nt} {fr:Int} {x:Se} (h0:0<=x.1):(aT ⟨ax X,N,0⟩ fr x).n.length<=N.length+1:=by
 by_cases hE:cx (ax X).ml fr x.1 (cf x.2.1)=0
 ·rw [(oU h0 hE).2.1];omega
 ·rw [(pD h0 hE).2.1,Yy];exact YM _
theorem Gl {W:Wd} {a:Ac} (h:(decide (64<a.d.size) || !jh a.i)=true):mR W a=fw 1:=by
 have he:zW W a=1:=by unfold zW;rw [h];rfl
 unfold mR;rw [he];rfl
theorem DE (m:Mb) (p q:Int):nQ [] m p=nQ [] m q/\ra [] m p=ra [] m q:=by
 unfold nQ ra
 cases Dq [] m with
 |false=>exact ⟨rfl,rfl⟩
 |true=>exact ⟨rfl,rfl⟩
theorem zQ {X:Wx} {a:Ac} (hL:X.L=[]) (h:(decide (64<a.d.size) || !jh a.i)=false) (q:Int):zW (ax X) a=nQ X.L (a.no,a.i) q/\CA (ax X) a=ra X.L (a.no,a.i) q:=by
 unfold zW CA
 rw [h,show (ax X).ov=[] from by unfold ax nds;rw [hL];rfl,hL]
 exact ⟨(DE _ _ q).1,(DE _ _ q).2⟩
theorem OQ {X:Wx} {a:Ac} (hL:X.L=[]) (h:(decide (64<a.d.size) || !jh a.i)=false) (q:Int) (he:¬ nQ X.L (a.no,a.i) q=0):mR (ax X) a=fw (nQ X.L (a.no,a.i) q):=by
 unfold mR
 rw [(zQ hL h q).1,Ys he];rfl
theorem E3 {X:Wx} {a:Ac} (hL:X.L=[]) (h:(decide (64<a.d.size) || !jh a.i)=false) (q:Int) (he:nQ X.L (a.no,a.i) q=0):mR (ax X) a=iG {nA (ax X) ⟨a.no,a.d,[]⟩ with ov:=ra X.L (a.no,a.i) q}:=by
 unfold mR
 rw [(zQ hL h q).1,he,(zQ hL h q).2,show (ax X).ov.length=0 from by unfold ax nds;rw [hL];rfl];rfl
theorem JM (L:List N3) (h:L=[]):si (aI L)=6:=by subst h;rfl
theorem Ie (w:World):MX w aj []:=⟨rfl,.inl ⟨rfl,rfl⟩⟩
theorem O5 {w0 w9:World} {a b c d:Own} {k:List Nat} {S S':World->Prop} {B:List Own} (s:St w0 (a::b::c::d::.grp k S::B) w9) (h:∀ w9,S w9->S' w9):St w0 (a::b::c::d::.grp k S'::B) w9:=
 (St.weak (s.perm (ZB (l₁:=[a,b,c,d]))) h).o5
theorem C7 {w0 w9:World} {c:Nat} {tc ts th tn:TypeId} {vo vh vl vp v9 vn:Value} {X:Wx} {L:List N3} {k1 kk:List Nat} {B9:List Own} {a:Ac} {q:Int} (hL0:X.L=[]) (hS0:X.S=[]) (hd:(decide (64<a.d.size) || !jh a.i)=false) (he:nQ X.L (a.no,a.i) q=0)
 (s:St w0 (.grp k1 (λw9=>nds L=ra X.L (a.no,a.i) q/\(Em vo X.L w9->kC w9 vp L))::.grp kk (λw9=>RdC w9 vo vl X)::.blk c (.cells (ef vp v9 vh vl X.M.last X.M.now vn) tc)::.sl v9 ts 3 1 (aQ [((⟨a.no,a.d,[]⟩:Sv),aj)])::.sl vh th 5 X.H.length (aC X.H)::.sl vn tn 74 0 []::B9) w9):
 Jd w0 c tc ts th tn (mR (ax X) a) B9 (.int .i64 0) w9:=by
 have hL1:=(s.getG 0 rfl).1
 have s2:=(T7 (s.weak (S':=λw9=>Em vo X.L w9->kC w9 vp L) λ_ h=>h.2)).o5
 refine ⟨by rw [E3 hL0 hd q he];rfl,vp,v9,vh,vl,vn,⟨L,[((⟨a.no,a.d,[]⟩:Sv),aj)],X.H,X.M⟩,[],_,λ_=>?_,O5 s2 λw9 h=>⟨h.ov,λx hx=>by rw [YF.1 hx];exact Ie _,h.hw,h.ml⟩⟩
 rw [E3 hL0 hd q he]
 refine ⟨?_,rfl⟩
 show (⟨nds L,_,_,_⟩:Wd)=⟨ra X.L (a.no,a.i) q,jG (·.no) (X.S.map (·.1)) ⟨a.no,a.d,[]⟩,X.H.map (·.1),X.M⟩
 rw [hL1,hS0];rfl
theorem RQ {W:Wd} {n g:Int} (he:¬ mF n g=0):pt W n g=fw (mF n g):=by unfold pt;rw [Ys he];rfl
theorem Th {W:Wd} {n g:Int} (hH:W.ho=[]) (he:mF n g=0):pt W n g=iG (mq W (fE n g)):=by
 unfold pt cQ
 rw [he,hH];rfl
theorem CS {w0 w9:World} {c:Nat} {tc ts th tn:TypeId} {vo vs vl vn v9 uw uh ui:Value} {X:Wx} {k1 kk:List Nat} {B9:List Own} {n g:Int} (hH0:X.H=[]) (he:mF n g=0)
 (s:St w0 (.grp k1 (λw9=>gn w9 aj aj aj n5->gn w9 uw uh ui (fE n g))::.grp kk (λw9=>RdC w9 vo vl X)::.blk c (.cells (ef vo vs v9 vl X.M.last X.M.now vn) tc)::.sl vs ts 3 X.S.length (aQ X.S)::.sl v9 th 5 1 (aC [(fE n g,uw,uh,ui)])::.sl vn tn 74 0 []::B9) w9):
 Jd w0 c tc ts th tn (pt (ax X) n g) B9 (.int .i64 0) w9:=by
 have s2:=(s.merge (S:=λw9=>RdC w9 vo vl {X with H:=[(fE n g,uw,uh,ui)]}) λw9 a h=>⟨h.ov,h.sw,λx hx=>by rw [YF.1 hx];exact a (iM _ 0 0),h.ml⟩).o5
 have hy:pt (ax X) n g=iG (mq (ax X) (fE n g)):=Th (by unfold ax;rw [hH0];rfl) he
 refine ⟨by rw [hy];rfl,vo,vs,v9,vl,vn,{X with H:=[(fE n g,uw,uh,ui)]},[],_,λ_=>?_,s2⟩
 rw [hy]
 refine ⟨?_,rfl⟩
 show (⟨_,_,[fE n g],_⟩:Wd)=⟨_,_,jG (·.no) (X.H.map (·.1)) (fE n g),_⟩
 rw [hH0];rfl
def cS (X:Wx) (fr:Int) (L:List Se) (k:Nat):Pt:=fC ⟨ax X,[],0⟩ fr (L.take k)
theorem Ic {X:Wx} {fr:Int} {L:List Se} {k:Nat} (hk:k<L.length):cS X fr L (k+1)=aT ⟨(cS X fr L k).w,(cS X fr L k).n,0⟩ fr (L.getD k Du):=by
 unfold cS fC
 rw [List.take_succ_eq_append_getElem hk,List.foldl_append,YR,Yz hk];rfl
theorem zv {X:Wx} {fr:Int} {L:List Se} (h0:∀ x∈L,0<=x.1):∀ {k:Nat},k<=L.length->(cS X fr L k).w=ax {X with M:=(cS X fr L k).w.ml}
 |0,_=>rfl
 |k+1,hk=>by
  have hx:0<=(L.getD k Du).1:=by
   rw [YR,Yz (by omega)];exact h0 _ (Zq _)
  rw [Ic (by omega),zv h0 (show k<=L.length by omega)]
  exact sA hx
theorem Qn {X:Wx} {fr:Int} {L:List Se} (h0:∀ x∈L,0<=x.1) {k:Nat} (hk:k<L.length):aT ⟨ax {X with M:=(cS X fr L k).w.ml},(cS X fr L k).n,0⟩ fr (L.getD k Du)=cS X fr L (k+1):=by
 rw [← zv h0 (show k<=L.length by omega),Ic hk]
theorem QL {X:Wx} {fr:Int} {L:List Se} {k:Nat} (hk:k<=L.length):(cS X fr L k).w.ml.l.length<=X.M.l.length+k/\(cS X fr L k).n.length<=k+X.M.l.length:=by
 have:=mK (L.take k) ⟨ax X,[],0⟩ fr
 rw [Y5,Nat.min_eq_left hk] at this
 have h2:(ax X).ml.l.length=X.M.l.length:=rfl
 have h3:((⟨ax X,[],0⟩:Pt).n).length=0:=rfl
 unfold cS
 have h4:(⟨ax X,[],0⟩:Pt).w.ml.l.length=X.M.l.length:=rfl
 omega
theorem HD {X:Wx} {fr:Int} {L:List Se} {k:Nat} (hk:k=L.length):cS X fr L k=fC ⟨ax X,[],0⟩ fr L:=by unfold cS;rw [YU (by omega)]
theorem PV {W:Wd} {n:Int} (h:(cQ W n).no<0):lA W n=fw 6:=by unfold lA;rw [Yt h];rfl
theorem PU {W:Wd} {n:Int} (h:¬ (cQ W n).no<0):lA W n=ky (fC ⟨W,[],0⟩ (16+n) (iu (cQ W n) W.ml.now)):=by unfold lA;rw [Ys h];rfl
theorem AD {h:Ho} (hr:bT h=true) {now:Int} {x:Se} (hx:x∈iu h now):0<=x.1/\cR x.2.1=true/\x.2.1.l.length<=1000:=by
 obtain ⟨y,hy,rfl⟩:=Ze.1 hx
 have hl:=(gb.1 hr).ws y hy
 have hself:lY (gh h)=true:=(ol _).2 (.inr ⟨rfl,rfl,(gb.1 hr).no.1,by have:=(gb.1 hr).no.2;show h.no<16;omega⟩)
 exact ⟨(BB hr _ _).1,(rB.1 (xQ hself (.inl ⟨rfl,by omega,by omega,rfl⟩))).1,YO _⟩
theorem Fm {K:List S2} {L:List Se} (h:iq K=L) (k:Nat):L.getD k Du=(K.getD k gM).1:=by
 subst h
 unfold iq
 rw [YR,YR,Zf];cases K[k]? <;> rfl
theorem K1 {w w':World} {v:Value} {l:List cO} (h:ez w v l) (hl:l=[]):ez w' v l:=by
 subst hl
 refine ⟨rfl,?_⟩
 rcases h.2 with h9|⟨p,c,h1,h2,h3⟩
 ·exact .inl h9
 ·refine .inr ⟨p,c,h1,h2,?_⟩
  intro j v hv;simp [db] at hv
theorem Gc {h:Ho} {now:Int} {x:Se} (hx:x∈iu h now):x.2.1.l=[]:=by
 obtain ⟨y,_,rfl⟩:=Ze.1 hx
 rfl
def Nb (v:Value):Value:=ft (match v with
 |.agg c=>(c[0]?).getD (.bool false)
 |_=>.bool false)
theorem Lx (v:Value):(Nb v).oneCell'=true:=uI _
def Q4 (v:Value):Nat:=match v with
 |.func _ _ c=>match (c[0]?).getD (.bool false) with
  |.pointer (some p)=>p.block
  |_=>0
 |_=>0
end Go.Proofs.YtkhepdpfdhdlaaaGreatDoor
