/- Own slices and marks, said otherwise; iterators; no Go in it. -/
import Derived.Lib.SliceRun
import Derived.Deep.Slices
import Derived.Test.YthmlflaiidhoiaaGreatDoorWp
set_option linter.unusedVariables false
set_option linter.unusedSimpArgs false
set_option linter.unusedSectionVars false
namespace Go.Proofs.YthmlflaiidhoiaaGreatDoor
open Go.RowKit
abbrev Lt:=Int × Int × Int × ByteArray
structure Ml where
 l:List Lt
 last:Int
 now:Int
def Ba:Lt:=(0,0,0,⟨#[]⟩)
def Ll:Ml:=⟨[],0,0⟩
def gl (x:Lt):Array Value:=#[.int .i64 x.1,.int .i64 x.2.1,.int .i64 x.2.2.1,.string x.2.2.2]
def eL (m:Ml) (v:Value):Array Value:=#[v,.int .i64 m.last,.int .i64 m.now]
theorem Bw (x:Lt):(gl x).size=4:=rfl
theorem ng (x:Lt):∀ v∈(gl x).toList,v.oneCell'=true:=λv hv=>by
 simp only [gl,ar6,ar9,or_false] at hv
 rcases hv with rfl|rfl|rfl|rfl<;>simp [Value.oneCell',Value.cells]
theorem nx (m:Ml) (v:Value) (h:v.oneCell'=true):∀ u∈(eL m v).toList,u.oneCell'=true:=λu hu=>by
 simp only [eL,ar6,ar9,or_false] at hu
 rcases hu with rfl|rfl|rfl
 ·exact h
 ·simp [Value.oneCell',Value.cells]
 ·simp [Value.oneCell',Value.cells]
def ck (l:List Lt):List Value:=l.flatMap λx=>(gl x).toList
theorem lt4:∀ x:Lt,((gl x).toList).length=4:=λ_=>rfl
theorem Aq (l:List Lt):(ck l).length=l.length*4:=f7 _ 4 lt4 l
theorem xD (l:List Lt):∀ u∈ck l,u.oneCell'=true:=λu hu=>by
 obtain ⟨x,_,hx⟩:=List.mem_flatMap.1 hu
 exact ng x u hx
theorem Xe (l:List Lt) (j:Nat) (hj:j<l.length):(((ck l).drop (j*4)).take 4).toArray=gl l[j]:=by
 unfold ck
 rw [fS _ 4 lt4 l j hj]
def uU (n:Int):Bool:=decide (0<=n) && decide (n<32)
def G2 (n:Int):Bool:=decide (0<=n) && decide (n<=1099511627776)
def ln (last:Int) (x:Lt):Bool:=decide (x.1<1) || (decide (last<x.1) || (!uU x.2.1 || (!uU x.2.2.1 || decide (300<x.2.2.2.size))))
def bU (m:Ml):Bool:=decide (m.l.length<=64) && (G2 m.last && (G2 m.now && m.l.all λx => !ln m.last x))
theorem Na (n:Int):uU n=true↔0<=n/\n<32:=by unfold uU;simp
theorem rE (n:Int):G2 n=true↔0<=n/\n<=1099511627776:=by unfold G2;simp
theorem dP (m:Ml):bU m=true↔m.l.length<=64/\(0<=m.last/\m.last<=1099511627776)/\(0<=m.now/\m.now<=1099511627776)/\∀ x∈m.l,ln m.last x=false:=by
 unfold bU
 rw [aq5,aq5,aq5,rE,rE,ar0,aq6]
 simp
theorem xv (last:Int) (x:Lt):ln last x=false↔1<=x.1/\x.1<=last/\(0<=x.2.1/\x.2.1<32)/\(0<=x.2.2.1/\x.2.2.1<32)/\x.2.2.2.size<=300:=by
 unfold ln uU;simp
def gz (m:Ml) (f t:Int) (d:ByteArray):Int:=
 bif !bU m || (!uU f || !uU t) then 1 else bif decide (300<d.size) then 2 else bif decide (m.l.length=64) || decide (m.last=1099511627776) then 8 else 0
def JH (m:Ml) (f t:Int) (d:ByteArray):Ml:=bif decide (gz m f t d=0) then ⟨m.l++[(m.last+1,f,t,d)],m.last+1,m.now⟩ else Ll
def KU (m:Ml) (f t:Int) (d:ByteArray):Int:=bif decide (gz m f t d=0) then m.last+1 else 0
def eJ (m:Ml) (t:Int):Int:=bif !bU m || decide (t<0) then 1 else 0
def cW (m:Ml) (t:Int):Ml:=bif decide (eJ m t=0) then {m with now:=m.now+min t (1099511627776 - m.now)} else Ll
def mo (m:Ml) (p:Int):Int:=bif !bU m then 1 else bif decide (0<=p) && decide (p<m.l.length) then 0 else 6
def Rx (m:Ml) (p:Int):Lt:=bif decide (mo m p=0) then m.l.getD p.toNat Ba else Ba
def lu (m:Ml) (p:Int):Ml:=bif decide (mo m p=0) then {m with l:=m.l.eraseIdx p.toNat} else Ll
def MT (m:Ml) (p:Int):Int:=bif decide (mo m p=0) then (bif decide (m.l.length=64) then 8 else 0) else mo m p
def XU (m:Ml) (p:Int):Ml:=bif decide (MT m p=0) then {m with l:=m.l++[Rx m p]} else Ll
def yE (m:Ml) (p:Int):Ml:=bif decide (mo m p=0) then {m with l:=m.l.eraseIdx p.toNat++[Rx m p]} else Ll
theorem dt {w:World} {v:Value} {sz n:Nat} {xs:List Value} (h:a7 w v sz n xs) (i:Nat) {V:Value} (hV:xs[i]? = some V):w.cell? (bf v i)=some V:=by
 rcases h.2 with ⟨_,h2⟩|⟨p,c,h1,_,h2⟩
 ·have h1:=h.1
  rw [h2,Nat.zero_mul] at h1
  rw [List.eq_nil_of_length_eq_zero h1] at hV;cases hV
 ·subst h1
  exact h2 i V (by simpa using hV)
theorem cd.low {w:World} {base b:Nat} {e:TypeId} {sz:Nat} {v:Value} {n:Nat} {xs:List Value} (h:cd w base e sz v n xs) (hb:b<=base):cd w b e sz v n xs:=by
 refine ⟨h.1,?_⟩
 rcases h.2 with hn|⟨g,cap,cur,fz,hv,h1,rest⟩
 ·exact .inl hn
 ·exact .inr ⟨g,cap,cur,fz,hv,av5 hb h1,rest⟩
theorem cd.seq {w:World} {b:Nat} {e:TypeId} {sz:Nat} {v:Value} {n m:Nat} {xs ys:List Value} (h:cd w b e sz v n xs) (hn:n=m) (hx:xs=ys):cd w b e sz v m ys:=by subst hn;subst hx;exact h
def mlZ:List (List Value):=[[.slice none 0 0],[.int .i64 0],[.int .i64 0]]
section
variable {P:Program} {ρ:Operand->Value} {d:Option Tmp} {ty:TypeId} {pos:String} {af:Array Edge} {g:Option (Nat × Bool)} {x y z u:Operand} {t t' e:TypeId}
theorem o6 (S:Stt P t mlZ):a8 P ⟨d,.build t #[],ty,pos,af,g⟩ ρ (.agg (eL Ll (.slice none 0 0))):=cx S [] rfl (λ_ _ h=>by cases h) rfl
theorem bZ {a:Option Addr} {n c:Nat} (ht:P.underlying t=some (.slice e)) (hx:ρ x=.slice a n c) (hy:ρ y=.slice none 0 0):a8 P ⟨d,.binOp .eql t x y t',ty,pos,af,g⟩ ρ (.bool a.isNone):=λw=>by
 have hg:(eqGuard .eql t x y (.slice a n c) (.slice none 0 0)).run P w=.ok () w:=rfl
 simp only [execOp,hx,hy,au7,hg,aq9,Lib.run_eql_slice_nil w t e a n c 0 0 ht,au8]
end
theorem Ty {w:World} {n c:Nat} {l:List Lt} (h:a7 w (.slice none n c) 4 l.length (ck l)):l=[]:=by
 rcases h.2 with ⟨h1,h2⟩|⟨p,cap,h1,_⟩
 ·exact List.eq_nil_of_length_eq_zero h2
 ·cases h1
section
variable {P:Program} {ops:Array Oper} {Q:Act->World->Prop} {l:List Oper} {a:Act} {w w0:World} {N:Nat} {L:List (Nat × Value)} {Df:List Deferred} {B:List Own} {d:Tmp} {ty:TypeId} {pos:String} {af:Array Edge} {x y:Operand} {t:TypeId}
theorem eC {lp:Nat} {cal:Operand} {args:Array Operand} {tys:Array TypeId} (vs:List Value) {V:Value} {G:Own->Prop} (i:Nat) (h:Sl N a L Df) (hc:ec L cal=some (.func (.yield lp) #[] #[])) (hvs:args.toList.map (ec L)=vs.map some)
 (hy:i6 P lp vs.toArray w λv w'=>v=V/\∃ g',G g'/\St w0 (B.set i g') w') (hd:Nat.blt d N=true) (k:∀ a' w' g',G g'->Sl N a' ((d,V)::L) Df->St w0 (B.set i g') w'->ce P ops Q l a' w'):
 ce P ops Q (⟨some d,.call {callee:=.value cal,args:=args,argTypes:=tys},ty,pos,af,none⟩::l) a w:=
 dR (R:=λv w'=>v=V/\∃ g',G g'/\St w0 (B.set i g') w') h (CG (h.ev hc) (lL h hvs) hy) hd λa' w' v ⟨h1,g',h2,h3⟩ hs=>by subst h1;exact k a' w' g' h2 hs h3
end
theorem ltD {l:List Lt} {j:Nat} (hj:j<l.length):gl l[j]=gl (l.getD j Ba):=by
 rw [as6,aq8 hj];rfl
theorem eM {q:Nat->Bool} {d:Nat} (h:∀ j,j<d->q j=false) (hd:q d=false):∀ j,j<d+1->q j=false:=λj hj=>by
 by_cases h1:j<d
 ·exact h j h1
 ·obtain rfl:j=d:=by omega
  exact hd
def Fy (m:Ml) (d:Nat):Bool:=ln m.last (m.l.getD d Ba)
theorem BB {m:Ml} {d:Nat} (hd:d<m.l.length) (hb:Fy m d=true):bU m=false:=by
 rw [← Bool.not_eq_true,dP]
 rintro ⟨_,_,_,h⟩
 unfold Fy at hb
 rw [as6,aq8 hd,Option.getD_some,h _ (aw0 hd)] at hb
 cases hb
theorem Bf {m:Ml} (h0:decide (m.l.length<=64)=true) (h1:G2 m.last=true) (h2:G2 m.now=true) (h:∀ j,j<m.l.length->Fy m j=false):bU m=true:=by
 rw [dP]
 refine ⟨ap9 h0,(rE _).1 h1,(rE _).1 h2,λx hx=>?_⟩
 obtain ⟨j,hj,rfl⟩:=List.mem_iff_getElem.1 hx
 have:=h j hj
 unfold Fy at this
 rwa [as6,aq8 hj] at this
theorem GR {m:Ml} (h0:decide (m.l.length<=64)=false):bU m=false:=by unfold bU;rw [h0];rfl
theorem FQ {m:Ml} (h1:G2 m.last=false):bU m=false:=by unfold bU;rw [h1];cases decide (m.l.length<=64)<;>rfl
theorem Gf {m:Ml} (h2:G2 m.now=false):bU m=false:=by unfold bU;rw [h2];cases decide (m.l.length<=64)<;>cases G2 m.last<;>rfl
theorem PB {m:Ml} (p:Int) (h:bU m=false):mo m p=1:=by unfold mo;rw [h];rfl
theorem HK {m:Ml} {p:Int} (h:bU m=true) (h0:0<=p) (hp:p<m.l.length):mo m p=0:=by
 unfold mo;rw [h,aq2 h0,aq2 hp];rfl
theorem Vm {m:Ml} {p:Int} (h:bU m=true) (h0:0<=p) (hp:p<m.l.length):Rx m p=m.l.getD p.toNat Ba:=by
 unfold Rx;rw [HK h h0 hp];rfl
theorem OP {m:Ml} {p:Int} (h:bU m=true) (h0:¬ (0<=p/\p<m.l.length)):mo m p=6:=by
 unfold mo;rw [h]
 have:(decide (0<=p) && decide (p<(m.l.length:Int)))=false:=by rw [← Bool.not_eq_true];simpa using h0
 rw [this];rfl
theorem UQ (m:Ml) (p:Int):(bU m=false/\mo m p=1)∨(bU m=true/\(0<=p/\p<m.l.length)/\mo m p=0)∨(bU m=true/\¬ (0<=p/\p<m.l.length)/\mo m p=6):=by
 cases h:bU m with
 |false=>exact .inl ⟨rfl,PB p h⟩
 |true=>
  by_cases hp:0<=p/\p<(m.l.length:Int)
  ·exact .inr (.inl ⟨rfl,hp,HK h hp.1 hp.2⟩)
  ·exact .inr (.inr ⟨rfl,hp,OP h hp⟩)
theorem St.resl {w0 w:World} {B:List Own} {v:Value} {e:TypeId} {sz n m:Nat} {xs ys:List Value} (s:St w0 B w) (i:Nat) (hi:B[i]? = some (.sl v e sz n xs)) (hn:n=m) (hx:xs=ys):St w0 (B.set i (.sl v e sz m ys)) w:=by
 subst hn;subst hx
 have:B.set i (.sl v e sz n xs)=B:=by
  apply List.ext_getElem?
  intro j
  by_cases h:i=j
  ·subst h
   rw [List.getElem?_set_self (aq4.1 hi).1,hi]
  ·rw [List.getElem?_set_ne h]
 rw [this];exact s
theorem GC {w:World} {a:Option Addr} {n c:Nat} {l:List Lt} (ha:a.isNone=true) (h:a7 w (.slice a n c) 4 l.length (ck l)):l=[]:=by
 cases a with
 |none=>exact Ty h
 |some p=>cases ha
theorem EG {m:Ml} {p:Int} (h:mo m p=0):bU m=true/\0<=p/\p<m.l.length:=by
 rcases UQ m p with ⟨_,h2⟩|⟨h1,h2,_⟩|⟨_,_,h2⟩
 ·omega
 ·exact ⟨h1,h2⟩
 ·omega
theorem OG {m:Ml} {f t:Int} {d:ByteArray} (h:(!bU m || (!uU f || !uU t))=true):gz m f t d=1:=by unfold gz;rw [h];rfl
theorem Qo {m:Ml} {f t:Int} {d:ByteArray} (h:(!bU m || (!uU f || !uU t))=false) (h2:300<d.size):gz m f t d=2:=by unfold gz;rw [h,aq2 h2];rfl
theorem Oq {m:Ml} {f t:Int} {d:ByteArray} (h:(!bU m || (!uU f || !uU t))=false) (h2:¬ 300<d.size) (h3:(decide (m.l.length=64) || decide (m.last=1099511627776))=true):gz m f t d=8:=by unfold gz;rw [h,aq1 h2,h3];rfl
theorem Am {m:Ml} {f t:Int} {d:ByteArray} (h:gz m f t d=0):JH m f t d=⟨m.l++[(m.last+1,f,t,d)],m.last+1,m.now⟩/\KU m f t d=m.last+1:=by unfold JH KU;rw [aq2 h];exact ⟨rfl,rfl⟩
theorem wZ {m:Ml} {t:Int} (h:(!bU m || decide (t<0))=true):eJ m t=1:=by unfold eJ;rw [h];rfl
theorem N6 {m:Ml} {t:Int} (h:(!bU m || decide (t<0))=false):eJ m t=0:=by unfold eJ;rw [h];rfl
theorem Je {m:Ml} {t:Int} (h:eJ m t≠0):cW m t=Ll:=by unfold cW;rw [aq1 h];rfl
theorem Hz {m:Ml} {t:Int} (h:eJ m t=0):cW m t={m with now:=m.now+min t (1099511627776 - m.now)}:=by unfold cW;rw [aq2 h];rfl
def HW (e:TypeId) (b:Nat) (m:Ml) (t:Int):cX:=λv w=>∃ vx,v=.tuple #[.agg (eL (cW m t) vx),.int .i64 (eJ m t)]/\cd w b e 4 vx (cW m t).l.length (ck (cW m t).l)
theorem Dc {e:TypeId} {b:Nat} {w:World} {m:Ml} {t:Int} (h:eJ m t=1):HW e b m t (.tuple #[.agg (eL Ll (.slice none 0 0)),.int .i64 1]) w:=by
 have h1:=Je (m:=m) (t:=t) (by omega)
 exact ⟨.slice none 0 0,by rw [h1,h],by rw [h1];exact dT _ _ _ _⟩
theorem Oc {e:TypeId} {b:Nat} {w:World} {m:Ml} {t:Int} {v:Value} (h:eJ m t=0) (hO:cd w b e 4 v m.l.length (ck m.l)):HW e b m t (.tuple #[.agg (eL {m with now:=m.now+min t (1099511627776 - m.now)} v),.int .i64 0]) w:=by
 have h1:=Hz h
 exact ⟨v,by rw [h1,h],by rw [h1];exact hO⟩
def HY (e:TypeId) (b:Nat) (m:Ml):cX:=λv w=>∃ vx,v=.agg (eL m vx)/\cd w b e 4 vx m.l.length (ck m.l)
theorem HY.mono (e:TypeId) (b:Nat) (m:Ml):qV (HY e b m):=λ_ _ _ ⟨vx,h1,h2⟩ hE=>⟨vx,h1,Y3 _ _ _ _ _ vx _ _ h2 hE⟩
theorem HY.low {e:TypeId} {b c:Nat} {m:Ml} {v:Value} {w:World} (h:HY e c m v w) (hb:b<=c):HY e b m v w:=by
 obtain ⟨vx,h1,h2⟩:=h
 exact ⟨vx,h1,h2.low hb⟩
theorem Ou {m:Ml} {f t:Int} {d:ByteArray} (h:gz m f t d=0):(bU m=true/\uU f=true/\uU t=true)/\d.size<=300/\m.l.length≠64/\m.last≠1099511627776:=by
 cases h1:(!bU m || (!uU f || !uU t)) with
 |true=>rw [OG h1] at h;exact ax7 h (by decide)
 |false=>
  by_cases h2:300<d.size
  ·rw [Qo h1 h2] at h;exact ax7 h (by decide)
  ·cases h3:(decide (m.l.length=64) || decide (m.last=1099511627776)) with
   |true=>rw [Oq h1 h2 h3] at h;exact ax7 h (by decide)
   |false=>
    simp at h1 h3
    exact ⟨h1,by omega,h3.1,h3.2⟩
theorem CT {m:Ml} {f t:Int} {d:ByteArray} (h:gz m f t d=0):bU ⟨m.l++[(m.last+1,f,t,d)],m.last+1,m.now⟩=true:=by
 obtain ⟨⟨h1,h2,h3⟩,h4,h5,h6⟩:=Ou h
 rw [dP] at h1 ⊢
 rw [Na] at h2 h3
 obtain ⟨g1,g2,g3,g4⟩:=h1
 refine ⟨by show (m.l++[_]).length<=64;rw [aq7];show _+1<=64;omega,⟨by show 0<=m.last+1;omega,by show m.last+1<=_;omega⟩,g3,λx hx=>?_⟩
 rcases at9.1 hx with hx|hx
 ·have:=(xv _ _).1 (g4 x hx)
  rw [xv]
  exact ⟨this.1,by show x.1<=m.last+1;omega,this.2.2⟩
 ·rw [ar4] at hx
  subst hx
  rw [xv]
  exact ⟨by show 1<=m.last+1;omega,Int.le_refl _,h2,h3,h4⟩
end Go.Proofs.YthmlflaiidhoiaaGreatDoor
namespace Go.Proofs.YthmlflaiidhoiaaGreatDoor
open Go.RowKit Go.ChangeShapes Go.WideShapes Go.ChangeAt
theorem BX {cs:List Value} {a b c d:Value} (hl:cs.length=4) (h0:(cs.drop 0).take 1=[a]) (h1:(cs.drop 1).take 1=[b]) (h2:(cs.drop 2).take 1=[c]) (h3:(cs.drop 3).take 1=[d]):cs=[a,b,c,d]:=by
 match cs,hl with
 |[x,y,z,u],_=>simp at h0 h1 h2 h3;subst h0;subst h1;subst h2;subst h3;rfl
theorem ue {cs:List Value} {a b c:Value} (hl:cs.length=3) (h0:(cs.drop 0).take 1=[a]) (h1:(cs.drop 1).take 1=[b]) (h2:(cs.drop 2).take 1=[c]):cs=[a,b,c]:=by
 match cs,hl with
 |[x,y,z],_=>simp at h0 h1 h2;subst h0;subst h1;subst h2;rfl
theorem IG {H:Type} {enc:TypeId × Value->H} {P:Program} {w:World} {base:Nat} {spare:Nat->Bool} {held:Bool} {t tn tz:TypeId} {f0 f1 f2 f3:Field} {fuel:Nat} {cs:List Value} {x:DataW H × List MemPlace} (hn:P.underlying tn=some (.int .i64)) (hcn:P.cellsOf tn=1) (hz:P.underlying tz=some .string) (hcz:P.cellsOf tz=1)
 (ht:P.underlying t=some (.struct #[f0,f1,f2,f3])) (h0:f0.type=tn) (h1:f1.type=tn) (h2:f2.type=tn) (h3:f3.type=tz) (o0:f0.offset=0) (o1:f1.offset=1) (o2:f2.offset=2) (o3:f3.offset=3) (hct:P.cellsOf t=4) (h:DataW.trod enc P w base spare held fuel t cs=some x):∃ l:Lt,cs=(gl l).toList:=by
 obtain ⟨xs,n,rfl,_,hl,hxl,hel⟩:=DataW.trod_struct ht h
 rw [hct] at hl
 have hx4:xs.length=4:=by simpa using hxl
 have e0:=hel 0 f0 rfl
 have e1:=hel 1 f1 rfl
 have e2:=hel 2 f2 rfl
 have e3:=hel 3 f3 rfl
 rw [h0,o0,hcn,aq8 (by omega)] at e0
 rw [h1,o1,hcn,aq8 (by omega)] at e1
 rw [h2,o2,hcn,aq8 (by omega)] at e2
 rw [h3,o3,hcz,aq8 (by omega)] at e3
 obtain ⟨a,ha,_⟩:=DataW.trod_int hn e0
 obtain ⟨b,hb,_⟩:=DataW.trod_int hn e1
 obtain ⟨c,hc,_⟩:=DataW.trod_int hn e2
 obtain ⟨d,hd,_⟩:=DataW.trod_string hz e3
 exact ⟨(a,b,c,d),BX hl ha hb hc hd⟩
theorem Fl {H:Type} {enc:TypeId × Value->H} {P:Program} {W:World} {ts t tn tz:TypeId} {f0 f1 f2 f3:Field} {fuel:Nat} {cs:List Value} {x:DataW H × List MemPlace} (hn:P.underlying tn=some (.int .i64)) (hcn:P.cellsOf tn=1) (hz:P.underlying tz=some .string) (hcz:P.cellsOf tz=1) (hts:P.underlying ts=some (.slice t))
 (ht:P.underlying t=some (.struct #[f0,f1,f2,f3])) (h0:f0.type=tn) (h1:f1.type=tn) (h2:f2.type=tn) (h3:f3.type=tz) (o0:f0.offset=0) (o1:f1.offset=1) (o2:f2.offset=2) (o3:f3.offset=3) (hct:P.cellsOf t=4)
 (hf:DataW.trod enc P W 0 (λ_=>true) true fuel ts cs=some x):∃ (v:Value) (ls:List Lt),cs=[v]/\a7 W v 4 ls.length (ck ls):=by
 rcases Go.Deep.open_slice hts hf with ⟨hcs,_⟩|⟨a',len,cap,m,k,D,Pl,hcs,_,hl,_,hm,_,hel⟩
 ·exact ⟨_,[],hcs,rfl,.inl ⟨rfl,rfl⟩⟩
 ·have hml:len<=m:=by rw [hm];split<;>omega
  have each:∀ i,∃ l:Lt,i<len->aX W (a'.add (i*4)) (gl l):=λi=>by
   by_cases hi:i<len
   ·obtain ⟨cs',hc1,hc2⟩:=hel i (by omega)
    obtain ⟨l,rfl⟩:=IG hn hcn hz hcz ht h0 h1 h2 h3 o0 o1 o2 o3 hct hc2
    refine ⟨l,λ_ j u hj=>?_⟩
    rw [hct] at hc1
    obtain ⟨_,hlen,hall⟩:=World.cells?_some hc1
    have hj4:j<4:=by have:=(ax1.1 hj).1;rw [Bw] at this;exact this
    have:=hall j hj4
    rw [this,aw9];exact hj
   ·exact ⟨Ba,λh9=>ax7 h9 hi⟩
  obtain ⟨L,hL⟩:=Classical.axiomOfChoice each
  refine ⟨_,(List.range len).map L,hcs,?_,.inr ⟨a',cap,by simp,by simpa using hl,?_⟩⟩
  ·rw [Aq]
  ·refine oq _ 4 (by decide) lt4 _ λi hi=>?_
   have hi':i<len:=by simpa using hi
   have:=hL i hi'
   simpa using this
end Go.Proofs.YthmlflaiidhoiaaGreatDoor
