/- Own slices and marks, said otherwise; iterators; no Go in it. -/
import Derived.Lib.SliceRun
import Derived.Deep.Slices
import Derived.Test.YthmlflaiidhoiaaGreatDoorWp
set_option linter.unusedVariables false
set_option linter.unusedSimpArgs false
set_option linter.unusedSectionVars false
namespace Go.Proofs.YthmlflaiidhoiaaGreatDoor
open Go.RowKit
abbrev Lt:=Int × Int × Int × ByteArray
structure Ml where
 l:List Lt
 last:Int
 now:Int
def Eg:Lt:=(0,0,0,⟨#[]⟩)
def CX:Ml:=⟨[],0,0⟩
def eu (x:Lt):Array Value:=#[.int .i64 x.1,.int .i64 x.2.1,.int .i64 x.2.2.1,.string x.2.2.2]
def dH (m:Ml) (v:Value):Array Value:=#[v,.int .i64 m.last,.int .i64 m.now]
theorem Et (x:Lt):(eu x).size=4:=rfl
theorem lw (x:Lt):∀ v∈(eu x).toList,v.oneCell'=true:=λv hv=>by
 simp only [eu,aI6,aI9,or_false] at hv
 rcases hv with rfl|rfl|rfl|rfl<;>simp [Value.oneCell',Value.cells]
theorem fS (m:Ml) (v:Value) (h:v.oneCell'=true):∀ u∈(dH m v).toList,u.oneCell'=true:=λu hu=>by
 simp only [dH,aI6,aI9,or_false] at hu
 rcases hu with rfl|rfl|rfl
 ·exact h
 ·simp [Value.oneCell',Value.cells]
 ·simp [Value.oneCell',Value.cells]
def cg (l:List Lt):List Value:=l.flatMap λx=>(eu x).toList
theorem lt4:∀ x:Lt,((eu x).toList).length=4:=λ_=>rfl
theorem Bl (l:List Lt):(cg l).length=l.length*4:=eF _ 4 lt4 l
theorem Bw (l r:List Lt):cg (l++r)=cg l++cg r:=aM2
theorem AX (x:Lt):cg [x]=(eu x).toList:=by simp [cg]
theorem zu (l:List Lt):∀ u∈cg l,u.oneCell'=true:=λu hu=>by
 obtain ⟨x,_,hx⟩:=List.mem_flatMap.1 hu
 exact lw x u hx
theorem ac3 (l:List Lt) (j:Nat) (hj:j<l.length):(((cg l).drop (j*4)).take 4).toArray=eu l[j]:=by
 unfold cg
 rw [eU _ 4 lt4 l j hj]
def xH (n:Int):Bool:=decide (0<=n) && decide (n<32)
def IP (n:Int):Bool:=decide (0<=n) && decide (n<=1099511627776)
def oH (last:Int) (x:Lt):Bool:=decide (x.1<1) || (decide (last<x.1) || (!xH x.2.1 || (!xH x.2.2.1 || decide (300<x.2.2.2.size))))
def dV (m:Ml):Bool:=decide (m.l.length<=64) && (IP m.last && (IP m.now && m.l.all λx => !oH m.last x))
theorem sk (n:Int):IP n=true↔0<=n/\n<=1099511627776:=by unfold IP;simp
theorem np (m:Ml):dV m=true↔m.l.length<=64/\(0<=m.last/\m.last<=1099511627776)/\(0<=m.now/\m.now<=1099511627776)/\∀ x∈m.l,oH m.last x=false:=by
 unfold dV
 rw [aH5,aH5,aH5,sk,sk,aI0,aH6]
 simp
def dw (m:Ml) (f t:Int) (d:ByteArray):Int:=
 bif !dV m || (!xH f || !xH t) then 1 else bif decide (300<d.size) then 2 else bif decide (m.l.length=64) || decide (m.last=1099511627776) then 8 else 0
def iX (m:Ml) (f t:Int) (d:ByteArray):Ml:=bif decide (dw m f t d=0) then ⟨m.l++[(m.last+1,f,t,d)],m.last+1,m.now⟩ else CX
def lQ (m:Ml) (f t:Int) (d:ByteArray):Int:=bif decide (dw m f t d=0) then m.last+1 else 0
def LG (m:Ml) (t:Int):Int:=bif !dV m || decide (t<0) then 1 else 0
def ac1 (m:Ml) (t:Int):Ml:=bif decide (LG m t=0) then {m with now:=m.now+min t (1099511627776 - m.now)} else CX
def Mi (m:Ml) (p:Int):Int:=bif !dV m then 1 else bif decide (0<=p) && decide (p<m.l.length) then 0 else 6
def atL (m:Ml) (p:Int):Lt:=bif decide (Mi m p=0) then m.l.getD p.toNat Eg else Eg
def TP (m:Ml) (p:Int):Ml:=bif decide (Mi m p=0) then {m with l:=m.l.eraseIdx p.toNat} else CX
def twE (m:Ml) (p:Int):Int:=bif decide (Mi m p=0) then (bif decide (m.l.length=64) then 8 else 0) else Mi m p
def twM (m:Ml) (p:Int):Ml:=bif decide (twE m p=0) then {m with l:=m.l++[atL m p]} else CX
def Z1 (m:Ml) (p:Int):Ml:=bif decide (Mi m p=0) then {m with l:=m.l.eraseIdx p.toNat++[atL m p]} else CX
theorem er {w:World} {v:Value} {sz n:Nat} {xs:List Value} (h:bs w v sz n xs) (i:Nat) {V:Value} (hV:xs[i]? = some V):w.cell? (bO v i)=some V:=by
 rcases h.2 with ⟨_,h2⟩|⟨p,c,h1,_,h2⟩
 ·have h1:=h.1
  rw [h2,Nat.zero_mul] at h1
  rw [List.eq_nil_of_length_eq_zero h1] at hV;cases hV
 ·subst h1
  exact h2 i V (by simpa using hV)
theorem cF.low {w:World} {base b:Nat} {e:TypeId} {sz:Nat} {v:Value} {n:Nat} {xs:List Value} (h:cF w base e sz v n xs) (hb:b<=base):cF w b e sz v n xs:=by
 refine ⟨h.1,?_⟩
 rcases h.2 with hn|⟨g,cap,cur,fz,hv,h1,rest⟩
 ·exact .inl hn
 ·exact .inr ⟨g,cap,cur,fz,hv,aM5 hb h1,rest⟩
theorem cF.seq {w:World} {b:Nat} {e:TypeId} {sz:Nat} {v:Value} {n m:Nat} {xs ys:List Value} (h:cF w b e sz v n xs) (hn:n=m) (hx:xs=ys):cF w b e sz v m ys:=by subst hn;subst hx;exact h
def ltZ:List (List Value):=[[.int .i64 0],[.int .i64 0],[.int .i64 0],[.string ⟨#[]⟩]]
def mlZ:List (List Value):=[[.slice none 0 0],[.int .i64 0],[.int .i64 0]]
section
variable {P:Program} {ρ:Operand->Value} {d:Option Tmp} {ty:TypeId} {pos:String} {af:Array Edge} {g:Option (Nat × Bool)} {x y z u:Operand} {t t' e:TypeId}
theorem Aw {a b c:Int} {s:ByteArray} (S:Stt P t ltZ) (hx:ρ x=.int .i64 a) (hy:ρ y=.int .i64 b) (hz:ρ z=.int .i64 c) (hu:ρ u=.string s):aZ P ⟨d,.build t #[(0,x),(1,y),(2,z),(3,u)],ty,pos,af,g⟩ ρ (.agg (eu (a,b,c,s))):=
 bw S [(0,.int .i64 a),(1,.int .i64 b),(2,.int .i64 c),(3,.string s)] (by simp [hx,hy,hz,hu]) (by
  intro i v hiv;simp only [aI6,aM8,aI9,or_false] at hiv
  rcases hiv with ⟨rfl,rfl⟩|⟨rfl,rfl⟩|⟨rfl,rfl⟩|⟨rfl,rfl⟩<;>exact ⟨_,rfl,rfl⟩) rfl
theorem fY (S:Stt P t mlZ):aZ P ⟨d,.build t #[],ty,pos,af,g⟩ ρ (.agg (dH CX (.slice none 0 0))):=bw S [] rfl (λ_ _ h=>by cases h) rfl
theorem ct {a:Option Addr} {n c:Nat} (ht:P.underlying t=some (.slice e)) (hx:ρ x=.slice a n c) (hy:ρ y=.slice none 0 0):aZ P ⟨d,.binOp .eql t x y t',ty,pos,af,g⟩ ρ (.bool a.isNone):=λw=>by
 have hg:(eqGuard .eql t x y (.slice a n c) (.slice none 0 0)).run P w=.ok () w:=rfl
 simp only [execOp,hx,hy,aL7,hg,aH9,Lib.run_eql_slice_nil w t e a n c 0 0 ht,aL8]
end
theorem Vb {w:World} {n c:Nat} {l:List Lt} (h:bs w (.slice none n c) 4 l.length (cg l)):l=[]:=by
 rcases h.2 with ⟨h1,h2⟩|⟨p,cap,h1,_⟩
 ·exact List.eq_nil_of_length_eq_zero h2
 ·cases h1
section
variable {P:Program} {ops:Array Oper} {Q:Act->World->Prop} {l:List Oper} {a:Act} {w w0:World} {N:Nat} {L:List (Nat × Value)} {Df:List Deferred} {B:List Own} {d:Tmp} {ty:TypeId} {pos:String} {af:Array Edge} {x y:Operand} {t:TypeId}
theorem iR {lp:Nat} {cal:Operand} {args:Array Operand} {tys:Array TypeId} (vs:List Value) {V:Value} {G:Own->Prop} (i:Nat) (h:Sl N a L Df) (hc:eI L cal=some (.func (.yield lp) #[] #[])) (hvs:args.toList.map (eI L)=vs.map some)
 (hy:l9 P lp vs.toArray w λv w'=>v=V/\∃ g',G g'/\St w0 (B.set i g') w') (hd:Nat.blt d N=true) (k:∀ a' w' g',G g'->Sl N a' ((d,V)::L) Df->St w0 (B.set i g') w'->cQ P ops Q l a' w'):
 cQ P ops Q (⟨some d,.call {callee:=.value cal,args:=args,argTypes:=tys},ty,pos,af,none⟩::l) a w:=
 ee (R:=λv w'=>v=V/\∃ g',G g'/\St w0 (B.set i g') w') h (D4 (h.ev hc) (ke h hvs) hy) hd λa' w' v ⟨h1,g',h2,h3⟩ hs=>by subst h1;exact k a' w' g' h2 hs h3
end
theorem ltD {l:List Lt} {j:Nat} (hj:j<l.length):eu l[j]=eu (l.getD j Eg):=by
 rw [aJ6,aH8 hj];rfl
theorem fF {q:Nat->Bool} {d:Nat} (h:∀ j,j<d->q j=false) (hd:q d=false):∀ j,j<d+1->q j=false:=λj hj=>by
 by_cases h1:j<d
 ·exact h j h1
 ·obtain rfl:j=d:=by omega
  exact hd
def Iw (m:Ml) (d:Nat):Bool:=oH m.last (m.l.getD d Eg)
theorem DB {m:Ml} {d:Nat} (hd:d<m.l.length) (hb:Iw m d=true):dV m=false:=by
 rw [← Bool.not_eq_true,np]
 rintro ⟨_,_,_,h⟩
 unfold Iw at hb
 rw [aJ6,aH8 hd,Option.getD_some,h _ (aN1 hd)] at hb
 cases hb
theorem CQ {m:Ml} (h0:decide (m.l.length<=64)=true) (h1:IP m.last=true) (h2:IP m.now=true) (h:∀ j,j<m.l.length->Iw m j=false):dV m=true:=by
 rw [np]
 refine ⟨aG9 h0,(sk _).1 h1,(sk _).1 h2,λx hx=>?_⟩
 obtain ⟨j,hj,rfl⟩:=List.mem_iff_getElem.1 hx
 have:=h j hj
 unfold Iw at this
 rwa [aJ6,aH8 hj] at this
theorem IK {m:Ml} (h0:decide (m.l.length<=64)=false):dV m=false:=by unfold dV;rw [h0];rfl
theorem Hw {m:Ml} (h1:IP m.last=false):dV m=false:=by unfold dV;rw [h1];cases decide (m.l.length<=64)<;>rfl
theorem G0 {m:Ml} (h2:IP m.now=false):dV m=false:=by unfold dV;rw [h2];cases decide (m.l.length<=64)<;>cases IP m.last<;>rfl
theorem St.resl {w0 w:World} {B:List Own} {v:Value} {e:TypeId} {sz n m:Nat} {xs ys:List Value} (s:St w0 B w) (i:Nat) (hi:B[i]? = some (.sl v e sz n xs)) (hn:n=m) (hx:xs=ys):St w0 (B.set i (.sl v e sz m ys)) w:=by
 subst hn;subst hx
 have:B.set i (.sl v e sz n xs)=B:=by
  apply List.ext_getElem?
  intro j
  by_cases h:i=j
  ·subst h
   rw [List.getElem?_set_self (aH4.1 hi).1,hi]
  ·rw [List.getElem?_set_ne h]
 rw [this];exact s
theorem G4 {w:World} {a:Option Addr} {n c:Nat} {l:List Lt} (ha:a.isNone=true) (h:bs w (.slice a n c) 4 l.length (cg l)):l=[]:=by
 cases a with
 |none=>exact Vb h
 |some p=>cases ha
theorem El (l:List Lt) (x:Lt):cg l++(eu x).toList=cg (l++[x]):=by rw [Bw,AX]
theorem Vv (x:Lt):([Value.agg (eu x)].flatMap (·.cells.toList))=(eu x).toList:=by simp [Value.cells]
theorem Ap (x:Lt):∀ v∈[Value.agg (eu x)],v.cells.size=4:=λv hv=>by rw [aI4] at hv;subst hv;rfl
theorem yw {m:Ml} {f t:Int} {d:ByteArray} (h:(!dV m || (!xH f || !xH t))=true):dw m f t d=1:=by unfold dw;rw [h];rfl
theorem Qp {m:Ml} {f t:Int} {d:ByteArray} (h:(!dV m || (!xH f || !xH t))=false) (h2:300<d.size):dw m f t d=2:=by unfold dw;rw [h,aH2 h2];rfl
theorem EY {m:Ml} {f t:Int} {d:ByteArray} (h:(!dV m || (!xH f || !xH t))=false) (h2:¬ 300<d.size) (h3:(decide (m.l.length=64) || decide (m.last=1099511627776))=true):dw m f t d=8:=by unfold dw;rw [h,aH1 h2,h3];rfl
theorem PC {m:Ml} {f t:Int} {d:ByteArray} (h:(!dV m || (!xH f || !xH t))=false) (h2:¬ 300<d.size) (h3:(decide (m.l.length=64) || decide (m.last=1099511627776))=false):dw m f t d=0:=by unfold dw;rw [h,aH1 h2,h3];rfl
theorem JK {m:Ml} {f t:Int} {d:ByteArray} (h:dw m f t d≠0):iX m f t d=CX/\lQ m f t d=0:=by unfold iX lQ;rw [aH1 h];exact ⟨rfl,rfl⟩
theorem Jb {m:Ml} {f t:Int} {d:ByteArray} (h:dw m f t d=0):iX m f t d=⟨m.l++[(m.last+1,f,t,d)],m.last+1,m.now⟩/\lQ m f t d=m.last+1:=by unfold iX lQ;rw [aH2 h];exact ⟨rfl,rfl⟩
def Oe (e:TypeId) (b:Nat) (m:Ml) (f t:Int) (d:ByteArray):ez:=λv w=>∃ vx,v=.tuple #[.agg (dH (iX m f t d) vx),.int .i64 (lQ m f t d),.int .i64 (dw m f t d)]/\cF w b e 4 vx (iX m f t d).l.length (cg (iX m f t d).l)
theorem mQ {e:TypeId} {b:Nat} {w:World} {m:Ml} {f t:Int} {d:ByteArray} {k:Int} (h:dw m f t d=k) (hk:k≠0):Oe e b m f t d (.tuple #[.agg (dH CX (.slice none 0 0)),.int .i64 0,.int .i64 k]) w:=by
 obtain ⟨h1,h2⟩:=JK (m:=m) (f:=f) (t:=t) (d:=d) (by rw [h];exact hk)
 exact ⟨.slice none 0 0,by rw [h1,h2,h],by rw [h1];exact eh _ _ _ _⟩
theorem QQ {e:TypeId} {b:Nat} {w:World} {m:Ml} {f t:Int} {d:ByteArray} {v:Value} (h:dw m f t d=0) (hO:cF w b e 4 v (m.l++[(m.last+1,f,t,d)]).length (cg (m.l++[(m.last+1,f,t,d)]))):
 Oe e b m f t d (.tuple #[.agg (dH ⟨m.l++[(m.last+1,f,t,d)],m.last+1,m.now⟩ v),.int .i64 (m.last+1),.int .i64 0]) w:=by
 obtain ⟨h1,h2⟩:=Jb h
 exact ⟨v,by rw [h1,h2,h],by rw [h1];exact hO⟩
def ap4 (e:TypeId) (b:Nat) (m:Ml):ez:=λv w=>∃ vx,v=.agg (dH m vx)/\cF w b e 4 vx m.l.length (cg m.l)
end Go.Proofs.YthmlflaiidhoiaaGreatDoor
namespace Go.Proofs.YthmlflaiidhoiaaGreatDoor
open Go.RowKit Go.ChangeShapes Go.WideShapes Go.ChangeAt
theorem Dk {cs:List Value} {a b c d:Value} (hl:cs.length=4) (h0:(cs.drop 0).take 1=[a]) (h1:(cs.drop 1).take 1=[b]) (h2:(cs.drop 2).take 1=[c]) (h3:(cs.drop 3).take 1=[d]):cs=[a,b,c,d]:=by
 match cs,hl with
 |[x,y,z,u],_=>simp at h0 h1 h2 h3;subst h0;subst h1;subst h2;subst h3;rfl
theorem t8 {cs:List Value} {a b c:Value} (hl:cs.length=3) (h0:(cs.drop 0).take 1=[a]) (h1:(cs.drop 1).take 1=[b]) (h2:(cs.drop 2).take 1=[c]):cs=[a,b,c]:=by
 match cs,hl with
 |[x,y,z],_=>simp at h0 h1 h2;subst h0;subst h1;subst h2;rfl
theorem N9 {H:Type} {enc:TypeId × Value->H} {P:Program} {w:World} {base:Nat} {spare:Nat->Bool} {held:Bool} {t tn tz:TypeId} {f0 f1 f2 f3:Field} {fuel:Nat} {cs:List Value} {x:DataW H × List MemPlace} (hn:P.underlying tn=some (.int .i64)) (hcn:P.cellsOf tn=1) (hz:P.underlying tz=some .string) (hcz:P.cellsOf tz=1)
 (ht:P.underlying t=some (.struct #[f0,f1,f2,f3])) (h0:f0.type=tn) (h1:f1.type=tn) (h2:f2.type=tn) (h3:f3.type=tz) (o0:f0.offset=0) (o1:f1.offset=1) (o2:f2.offset=2) (o3:f3.offset=3) (hct:P.cellsOf t=4) (h:DataW.trod enc P w base spare held fuel t cs=some x):∃ l:Lt,cs=(eu l).toList:=by
 obtain ⟨xs,n,rfl,_,hl,hxl,hel⟩:=DataW.trod_struct ht h
 rw [hct] at hl
 have hx4:xs.length=4:=by simpa using hxl
 have e0:=hel 0 f0 rfl
 have e1:=hel 1 f1 rfl
 have e2:=hel 2 f2 rfl
 have e3:=hel 3 f3 rfl
 rw [h0,o0,hcn,aH8 (by omega)] at e0
 rw [h1,o1,hcn,aH8 (by omega)] at e1
 rw [h2,o2,hcn,aH8 (by omega)] at e2
 rw [h3,o3,hcz,aH8 (by omega)] at e3
 obtain ⟨a,ha,_⟩:=DataW.trod_int hn e0
 obtain ⟨b,hb,_⟩:=DataW.trod_int hn e1
 obtain ⟨c,hc,_⟩:=DataW.trod_int hn e2
 obtain ⟨d,hd,_⟩:=DataW.trod_string hz e3
 exact ⟨(a,b,c,d),Dk hl ha hb hc hd⟩
theorem Is {H:Type} {enc:TypeId × Value->H} {P:Program} {W:World} {ts t tn tz:TypeId} {f0 f1 f2 f3:Field} {fuel:Nat} {cs:List Value} {x:DataW H × List MemPlace} (hn:P.underlying tn=some (.int .i64)) (hcn:P.cellsOf tn=1) (hz:P.underlying tz=some .string) (hcz:P.cellsOf tz=1) (hts:P.underlying ts=some (.slice t))
 (ht:P.underlying t=some (.struct #[f0,f1,f2,f3])) (h0:f0.type=tn) (h1:f1.type=tn) (h2:f2.type=tn) (h3:f3.type=tz) (o0:f0.offset=0) (o1:f1.offset=1) (o2:f2.offset=2) (o3:f3.offset=3) (hct:P.cellsOf t=4)
 (hf:DataW.trod enc P W 0 (λ_=>true) true fuel ts cs=some x):∃ (v:Value) (ls:List Lt),cs=[v]/\bs W v 4 ls.length (cg ls):=by
 rcases Go.Deep.open_slice hts hf with ⟨hcs,_⟩|⟨a',len,cap,m,k,D,Pl,hcs,_,hl,_,hm,_,hel⟩
 ·exact ⟨_,[],hcs,rfl,.inl ⟨rfl,rfl⟩⟩
 ·have hml:len<=m:=by rw [hm];split<;>omega
  have each:∀ i,∃ l:Lt,i<len->aJ W (a'.add (i*4)) (eu l):=λi=>by
   by_cases hi:i<len
   ·obtain ⟨cs',hc1,hc2⟩:=hel i (by omega)
    obtain ⟨l,rfl⟩:=N9 hn hcn hz hcz ht h0 h1 h2 h3 o0 o1 o2 o3 hct hc2
    refine ⟨l,λ_ j u hj=>?_⟩
    rw [hct] at hc1
    obtain ⟨_,hlen,hall⟩:=World.cells?_some hc1
    have hj4:j<4:=by have:=(aO1.1 hj).1;rw [Et] at this;exact this
    have:=hall j hj4
    rw [this,aN9];exact hj
   ·exact ⟨Eg,λh9=>aO7 h9 hi⟩
  obtain ⟨L,hL⟩:=Classical.axiomOfChoice each
  refine ⟨_,(List.range len).map L,hcs,?_,.inr ⟨a',cap,by simp,by simpa using hl,?_⟩⟩
  ·rw [Bl]
  ·refine pU _ 4 (by decide) lt4 _ λi hi=>?_
   have hi':i<len:=by simpa using hi
   have:=hL i hi'
   simpa using this
end Go.Proofs.YthmlflaiidhoiaaGreatDoor
