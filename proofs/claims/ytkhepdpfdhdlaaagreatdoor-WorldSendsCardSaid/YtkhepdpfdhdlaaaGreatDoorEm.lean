/- Own slices and marks, said otherwise; iterators; no Go in it. -/
import Derived.Lib.SliceRun
import Derived.Deep.Slices
import Derived.Test.YtkhepdpfdhdlaaaGreatDoorWp
set_option linter.unusedVariables false
set_option linter.unusedSimpArgs false
set_option linter.unusedSectionVars false
namespace Go.Proofs.YtkhepdpfdhdlaaaGreatDoor
open Go.RowKit
abbrev Lt:=Int × Int × Int × ByteArray
structure Ml where
 l:List Lt
 last:Int
 now:Int
def qO:Lt:=(0,0,0,⟨#[]⟩)
def x7:Ml:=⟨[],0,0⟩
def dl (x:Lt):Array Value:=#[.int .i64 x.1,.int .i64 x.2.1,.int .i64 x.2.2.1,.string x.2.2.2]
def cK (m:Ml) (v:Value):Array Value:=#[v,.int .i64 m.last,.int .i64 m.now]
theorem yP (x:Lt):(dl x).size=4:=rfl
theorem iN (x:Lt):∀ v∈(dl x).toList,v.oneCell'=true:=λv hv=>by
 simp only [dl,YH,YK,or_false] at hv
 rcases hv with rfl|rfl|rfl|rfl<;>simp [Value.oneCell',Value.cells]
theorem ew (m:Ml) (v:Value) (h:v.oneCell'=true):∀ u∈(cK m v).toList,u.oneCell'=true:=λu hu=>by
 simp only [cK,YH,YK,or_false] at hu
 rcases hu with rfl|rfl|rfl
 ·exact h
 ·simp [Value.oneCell',Value.cells]
 ·simp [Value.oneCell',Value.cells]
def bD (l:List Lt):List Value:=l.flatMap λx=>(dl x).toList
theorem Vn:∀ x:Lt,((dl x).toList).length=4:=λ_=>rfl
theorem vX (l:List Lt):(bD l).length=l.length*4:=dW _ 4 Vn l
theorem xp (l r:List Lt):bD (l++r)=bD l++bD r:=Zh
theorem wP (x:Lt):bD [x]=(dl x).toList:=by simp [bD]
theorem uN (l:List Lt):∀ u∈bD l,u.oneCell'=true:=λu hu=>by
 obtain ⟨x,_,hx⟩:=List.mem_flatMap.1 hu
 exact iN x u hx
theorem Me (l:List Lt) (j:Nat) (hj:j<l.length):(((bD l).drop (j*4)).take 4).toArray=dl l[j]:=by
 unfold bD
 rw [dS _ 4 Vn l j hj]
def nC (n:Int):Bool:=decide (0<=n) && decide (n<32)
def Dn (n:Int):Bool:=decide (0<=n) && decide (n<=1099511627776)
def jk (last:Int) (x:Lt):Bool:=decide (x.1<1) || (decide (last<x.1) || (!nC x.2.1 || (!nC x.2.2.1 || decide (300<x.2.2.2.size))))
def cM (m:Ml):Bool:=decide (m.l.length<=64) && (Dn m.last && (Dn m.now && m.l.all λx => !jk m.last x))
theorem LJ (n:Int):nC n=true↔0<=n/\n<32:=by unfold nC;simp
theorem oy (n:Int):Dn n=true↔0<=n/\n<=1099511627776:=by unfold Dn;simp
theorem fG (m:Ml):cM m=true↔m.l.length<=64/\(0<=m.last/\m.last<=1099511627776)/\(0<=m.now/\m.now<=1099511627776)/\∀ x∈m.l,jk m.last x=false:=by
 unfold cM
 rw [Yw,Yw,Yw,oy,oy,YB,Yx]
 simp
theorem tS (last:Int) (x:Lt):jk last x=false↔1<=x.1/\x.1<=last/\(0<=x.2.1/\x.2.1<32)/\(0<=x.2.2.1/\x.2.2.1<32)/\x.2.2.2.size<=300:=by
 unfold jk nC;simp
def cx (m:Ml) (f t:Int) (d:ByteArray):Int:=
 bif !cM m || (!nC f || !nC t) then 1 else bif decide (300<d.size) then 2 else bif decide (m.l.length=64) || decide (m.last=1099511627776) then 8 else 0
def f4 (m:Ml) (f t:Int) (d:ByteArray):Ml:=bif decide (cx m f t d=0) then ⟨m.l++[(m.last+1,f,t,d)],m.last+1,m.now⟩ else x7
def jJ (m:Ml) (f t:Int) (d:ByteArray):Int:=bif decide (cx m f t d=0) then m.last+1 else 0
def Hb (m:Ml) (t:Int):Int:=bif !cM m || decide (t<0) then 1 else 0
def Tv (m:Ml) (t:Int):Ml:=bif decide (Hb m t=0) then {m with now:=m.now+min t (1099511627776 - m.now)} else x7
def DU (m:Ml) (p:Int):Int:=bif !cM m then 1 else bif decide (0<=p) && decide (p<m.l.length) then 0 else 6
def U9 (m:Ml) (p:Int):Lt:=bif decide (DU m p=0) then m.l.getD p.toNat qO else qO
def M0 (m:Ml) (p:Int):Ml:=bif decide (DU m p=0) then {m with l:=m.l.eraseIdx p.toNat} else x7
def Wz (m:Ml) (p:Int):Int:=bif decide (DU m p=0) then (bif decide (m.l.length=64) then 8 else 0) else DU m p
def XZ (m:Ml) (p:Int):Ml:=bif decide (Wz m p=0) then {m with l:=m.l++[U9 m p]} else x7
def T4 (m:Ml) (p:Int):Ml:=bif decide (DU m p=0) then {m with l:=m.l.eraseIdx p.toNat++[U9 m p]} else x7
theorem cX {w:World} {v:Value} {sz n:Nat} {xs:List Value} (h:bp w v sz n xs) (i:Nat) {V:Value} (hV:xs[i]? = some V):w.cell? (bI v i)=some V:=by
 rcases h.2 with ⟨_,h2⟩|⟨p,c,h1,_,h2⟩
 ·have h1:=h.1
  rw [h2,Nat.zero_mul] at h1
  rw [List.eq_nil_of_length_eq_zero h1] at hV;cases hV
 ·subst h1
  exact h2 i V (by simpa using hV)
theorem cq.low {w:World} {base b:Nat} {e:TypeId} {sz:Nat} {v:Value} {n:Nat} {xs:List Value} (h:cq w base e sz v n xs) (hb:b<=base):cq w b e sz v n xs:=by
 refine ⟨h.1,?_⟩
 rcases h.2 with hn|⟨g,cap,cur,fz,hv,h1,rest⟩
 ·exact .inl hn
 ·exact .inr ⟨g,cap,cur,fz,hv,Zk hb h1,rest⟩
theorem cq.seq {w:World} {b:Nat} {e:TypeId} {sz:Nat} {v:Value} {n m:Nat} {xs ys:List Value} (h:cq w b e sz v n xs) (hn:n=m) (hx:xs=ys):cq w b e sz v m ys:=by subst hn;subst hx;exact h
def Xn:List (List Value):=[[.int .i64 0],[.int .i64 0],[.int .i64 0],[.string ⟨#[]⟩]]
def Xt:List (List Value):=[[.slice none 0 0],[.int .i64 0],[.int .i64 0]]
section
variable {P:Program} {ρ:Operand->Value} {d:Option Tmp} {ty:TypeId} {pos:String} {af:Array Edge} {g:Option (Nat × Bool)} {x y z u:Operand} {t t' e:TypeId}
theorem w7 {a b c:Int} {s:ByteArray} (S:Stt P t Xn) (hx:ρ x=.int .i64 a) (hy:ρ y=.int .i64 b) (hz:ρ z=.int .i64 c) (hu:ρ u=.string s):aP P ⟨d,.build t #[(0,x),(1,y),(2,z),(3,u)],ty,pos,af,g⟩ ρ (.agg (dl (a,b,c,s))):=
 aU S [(0,.int .i64 a),(1,.int .i64 b),(2,.int .i64 c),(3,.string s)] (by simp [hx,hy,hz,hu]) (by
  intro i v hiv;simp only [YH,Zn,YK,or_false] at hiv
  rcases hiv with ⟨rfl,rfl⟩|⟨rfl,rfl⟩|⟨rfl,rfl⟩|⟨rfl,rfl⟩<;>exact ⟨_,rfl,rfl⟩) rfl
theorem eD (S:Stt P t Xt):aP P ⟨d,.build t #[],ty,pos,af,g⟩ ρ (.agg (cK x7 (.slice none 0 0))):=aU S [] rfl (λ_ _ h=>by cases h) rfl
theorem bR {a:Option Addr} {n c:Nat} (ht:P.underlying t=some (.slice e)) (hx:ρ x=.slice a n c) (hy:ρ y=.slice none 0 0):aP P ⟨d,.binOp .eql t x y t',ty,pos,af,g⟩ ρ (.bool a.isNone):=λw=>by
 have hg:(eqGuard .eql t x y (.slice a n c) (.slice none 0 0)).run P w=.ok () w:=rfl
 simp only [execOp,hx,hy,Zc,hg,YA,Lib.run_eql_slice_nil w t e a n c 0 0 ht,Zd]
end
theorem PN {w:World} {n c:Nat} {l:List Lt} (h:bp w (.slice none n c) 4 l.length (bD l)):l=[]:=by
 rcases h.2 with ⟨h1,h2⟩|⟨p,cap,h1,_⟩
 ·exact List.eq_nil_of_length_eq_zero h2
 ·cases h1
section
variable {P:Program} {ops:Array Oper} {Q:Act->World->Prop} {l:List Oper} {a:Act} {w w0:World} {N:Nat} {L:List (Nat × Value)} {Df:List Deferred} {B:List Own} {d:Tmp} {ty:TypeId} {pos:String} {af:Array Edge} {x y:Operand} {t:TypeId}
theorem ik {lp:Nat} {cal:Operand} {args:Array Operand} {tys:Array TypeId} (vs:List Value) {V:Value} {G:Own->Prop} (i:Nat) (h:Sl N a L Df) (hc:dO L cal=some (.func (.yield lp) #[] #[])) (hvs:args.toList.map (dO L)=vs.map some)
 (hy:ld P lp vs.toArray w λv w'=>v=V/\∃ g',G g'/\St w0 (B.set i g') w') (hd:Nat.blt d N=true) (k:∀ a' w' g',G g'->Sl N a' ((d,V)::L) Df->St w0 (B.set i g') w'->bZ P ops Q l a' w'):
 bZ P ops Q (⟨some d,.call {callee:=.value cal,args:=args,argTypes:=tys},ty,pos,af,none⟩::l) a w:=
 dy (R:=λv w'=>v=V/\∃ g',G g'/\St w0 (B.set i g') w') h (yy (h.ev hc) (kT h hvs) hy) hd λa' w' v ⟨h1,g',h2,h3⟩ hs=>by subst h1;exact k a' w' g' h2 hs h3
end
theorem Xh {l:List Lt} {j:Nat} (hj:j<l.length):dl l[j]=dl (l.getD j qO):=by
 rw [YR,Yz hj];rfl
theorem gX {q:Nat->Bool} {d:Nat} (h:∀ j,j<d->q j=false) (hd:q d=false):∀ j,j<d+1->q j=false:=λj hj=>by
 by_cases h1:j<d
 ·exact h j h1
 ·obtain rfl:j=d:=by omega
  exact hd
def Dj (m:Ml) (d:Nat):Bool:=jk m.last (m.l.getD d qO)
theorem zg {m:Ml} {d:Nat} (hd:d<m.l.length) (hb:Dj m d=true):cM m=false:=by
 rw [← Bool.not_eq_true,fG]
 rintro ⟨_,_,_,h⟩
 unfold Dj at hb
 rw [YR,Yz hd,Option.getD_some,h _ (Zq hd)] at hb
 cases hb
theorem zb {m:Ml} (h0:decide (m.l.length<=64)=true) (h1:Dn m.last=true) (h2:Dn m.now=true) (h:∀ j,j<m.l.length->Dj m j=false):cM m=true:=by
 rw [fG]
 refine ⟨Yq h0,(oy _).1 h1,(oy _).1 h2,λx hx=>?_⟩
 obtain ⟨j,hj,rfl⟩:=List.mem_iff_getElem.1 hx
 have:=h j hj
 unfold Dj at this
 rwa [YR,Yz hj] at this
theorem Dl {m:Ml} (h0:decide (m.l.length<=64)=false):cM m=false:=by unfold cM;rw [h0];rfl
theorem CI {m:Ml} (h1:Dn m.last=false):cM m=false:=by unfold cM;rw [h1];cases decide (m.l.length<=64)<;>rfl
theorem Dc {m:Ml} (h2:Dn m.now=false):cM m=false:=by unfold cM;rw [h2];cases decide (m.l.length<=64)<;>cases Dn m.last<;>rfl
theorem St.resl {w0 w:World} {B:List Own} {v:Value} {e:TypeId} {sz n m:Nat} {xs ys:List Value} (s:St w0 B w) (i:Nat) (hi:B[i]? = some (.sl v e sz n xs)) (hn:n=m) (hx:xs=ys):St w0 (B.set i (.sl v e sz m ys)) w:=by
 subst hn;subst hx
 have:B.set i (.sl v e sz n xs)=B:=by
  apply List.ext_getElem?
  intro j
  by_cases h:i=j
  ·subst h
   rw [List.getElem?_set_self (Yv.1 hi).1,hi]
  ·rw [List.getElem?_set_ne h]
 rw [this];exact s
theorem Ci {w:World} {a:Option Addr} {n c:Nat} {l:List Lt} (ha:a.isNone=true) (h:bp w (.slice a n c) 4 l.length (bD l)):l=[]:=by
 cases a with
 |none=>exact PN h
 |some p=>cases ha
theorem zn (l:List Lt) (x:Lt):bD l++(dl x).toList=bD (l++[x]):=by rw [xp,wP]
theorem QO (x:Lt):([Value.agg (dl x)].flatMap (·.cells.toList))=(dl x).toList:=by simp [Value.cells]
theorem xN (x:Lt):∀ v∈[Value.agg (dl x)],v.cells.size=4:=λv hv=>by rw [YF] at hv;subst hv;rfl
theorem ot {m:Ml} {f t:Int} {d:ByteArray} (h:(!cM m || (!nC f || !nC t))=true):cx m f t d=1:=by unfold cx;rw [h];rfl
theorem AO {m:Ml} {f t:Int} {d:ByteArray} (h:(!cM m || (!nC f || !nC t))=false) (h2:300<d.size):cx m f t d=2:=by unfold cx;rw [h,Yt h2];rfl
theorem uK {m:Ml} {f t:Int} {d:ByteArray} (h:(!cM m || (!nC f || !nC t))=false) (h2:¬ 300<d.size) (h3:(decide (m.l.length=64) || decide (m.last=1099511627776))=true):cx m f t d=8:=by unfold cx;rw [h,Ys h2,h3];rfl
theorem IT {m:Ml} {f t:Int} {d:ByteArray} (h:(!cM m || (!nC f || !nC t))=false) (h2:¬ 300<d.size) (h3:(decide (m.l.length=64) || decide (m.last=1099511627776))=false):cx m f t d=0:=by unfold cx;rw [h,Ys h2,h3];rfl
theorem D4 {m:Ml} {f t:Int} {d:ByteArray} (h:cx m f t d≠0):f4 m f t d=x7/\jJ m f t d=0:=by unfold f4 jJ;rw [Ys h];exact ⟨rfl,rfl⟩
theorem pm {m:Ml} {f t:Int} {d:ByteArray} (h:cx m f t d=0):f4 m f t d=⟨m.l++[(m.last+1,f,t,d)],m.last+1,m.now⟩/\jJ m f t d=m.last+1:=by unfold f4 jJ;rw [Yt h];exact ⟨rfl,rfl⟩
def Ec (e:TypeId) (b:Nat) (m:Ml) (f t:Int) (d:ByteArray):c8:=λv w=>∃ vx,v=.tuple #[.agg (cK (f4 m f t d) vx),.int .i64 (jJ m f t d),.int .i64 (cx m f t d)]/\cq w b e 4 vx (f4 m f t d).l.length (bD (f4 m f t d).l)
theorem kg {e:TypeId} {b:Nat} {w:World} {m:Ml} {f t:Int} {d:ByteArray} {k:Int} (h:cx m f t d=k) (hk:k≠0):Ec e b m f t d (.tuple #[.agg (cK x7 (.slice none 0 0)),.int .i64 0,.int .i64 k]) w:=by
 obtain ⟨h1,h2⟩:=D4 (m:=m) (f:=f) (t:=t) (d:=d) (by rw [h];exact hk)
 exact ⟨.slice none 0 0,by rw [h1,h2,h],by rw [h1];exact dT _ _ _ _⟩
theorem Js {e:TypeId} {b:Nat} {w:World} {m:Ml} {f t:Int} {d:ByteArray} {v:Value} (h:cx m f t d=0) (hO:cq w b e 4 v (m.l++[(m.last+1,f,t,d)]).length (bD (m.l++[(m.last+1,f,t,d)]))):
 Ec e b m f t d (.tuple #[.agg (cK ⟨m.l++[(m.last+1,f,t,d)],m.last+1,m.now⟩ v),.int .i64 (m.last+1),.int .i64 0]) w:=by
 obtain ⟨h1,h2⟩:=pm h
 exact ⟨v,by rw [h1,h2,h],by rw [h1];exact hO⟩
def Cj (e:TypeId) (b:Nat) (m:Ml):c8:=λv w=>∃ vx,v=.agg (cK m vx)/\cq w b e 4 vx m.l.length (bD m.l)
theorem Cj.mono (e:TypeId) (b:Nat) (m:Ml):nT (Cj e b m):=λ_ _ _ ⟨vx,h1,h2⟩ hE=>⟨vx,h1,TP _ _ _ _ _ vx _ _ h2 hE⟩
theorem Cj.low {e:TypeId} {b c:Nat} {m:Ml} {v:Value} {w:World} (h:Cj e c m v w) (hb:b<=c):Cj e b m v w:=by
 obtain ⟨vx,h1,h2⟩:=h
 exact ⟨vx,h1,h2.low hb⟩
theorem Ke {m:Ml} {f t:Int} {d:ByteArray} (h:cx m f t d=0):(cM m=true/\nC f=true/\nC t=true)/\d.size<=300/\m.l.length≠64/\m.last≠1099511627776:=by
 cases h1:(!cM m || (!nC f || !nC t)) with
 |true=>rw [ot h1] at h;exact ZF h (by decide)
 |false=>
  by_cases h2:300<d.size
  ·rw [AO h1 h2] at h;exact ZF h (by decide)
  ·cases h3:(decide (m.l.length=64) || decide (m.last=1099511627776)) with
   |true=>rw [uK h1 h2 h3] at h;exact ZF h (by decide)
   |false=>
    simp at h1 h3
    exact ⟨h1,by omega,h3.1,h3.2⟩
theorem zw {m:Ml} {f t:Int} {d:ByteArray} (h:cx m f t d=0):cM ⟨m.l++[(m.last+1,f,t,d)],m.last+1,m.now⟩=true:=by
 obtain ⟨⟨h1,h2,h3⟩,h4,h5,h6⟩:=Ke h
 rw [fG] at h1 ⊢
 rw [LJ] at h2 h3
 obtain ⟨g1,g2,g3,g4⟩:=h1
 refine ⟨by show (m.l++[_]).length<=64;rw [Yy];show _+1<=64;omega,⟨by show 0<=m.last+1;omega,by show m.last+1<=_;omega⟩,g3,λx hx=>?_⟩
 rcases Y4.1 hx with hx|hx
 ·have:=(tS _ _).1 (g4 x hx)
  rw [tS]
  exact ⟨this.1,by show x.1<=m.last+1;omega,this.2.2⟩
 ·rw [YF] at hx
  subst hx
  rw [tS]
  exact ⟨by show 1<=m.last+1;omega,Int.le_refl _,h2,h3,h4⟩
end Go.Proofs.YtkhepdpfdhdlaaaGreatDoor
namespace Go.Proofs.YtkhepdpfdhdlaaaGreatDoor
open Go.RowKit Go.ChangeShapes Go.WideShapes Go.ChangeAt
theorem zB {cs:List Value} {a b c d:Value} (hl:cs.length=4) (h0:(cs.drop 0).take 1=[a]) (h1:(cs.drop 1).take 1=[b]) (h2:(cs.drop 2).take 1=[c]) (h3:(cs.drop 3).take 1=[d]):cs=[a,b,c,d]:=by
 match cs,hl with
 |[x,y,z,u],_=>simp at h0 h1 h2 h3;subst h0;subst h1;subst h2;subst h3;rfl
theorem qs {cs:List Value} {a b c:Value} (hl:cs.length=3) (h0:(cs.drop 0).take 1=[a]) (h1:(cs.drop 1).take 1=[b]) (h2:(cs.drop 2).take 1=[c]):cs=[a,b,c]:=by
 match cs,hl with
 |[x,y,z],_=>simp at h0 h1 h2;subst h0;subst h1;subst h2;rfl
theorem Il {H:Type} {enc:TypeId × Value->H} {P:Program} {w:World} {base:Nat} {spare:Nat->Bool} {held:Bool} {t tn tz:TypeId} {f0 f1 f2 f3:Field} {fuel:Nat} {cs:List Value} {x:DataW H × List MemPlace} (hn:P.underlying tn=some (.int .i64)) (hcn:P.cellsOf tn=1) (hz:P.underlying tz=some .string) (hcz:P.cellsOf tz=1)
 (ht:P.underlying t=some (.struct #[f0,f1,f2,f3])) (h0:f0.type=tn) (h1:f1.type=tn) (h2:f2.type=tn) (h3:f3.type=tz) (o0:f0.offset=0) (o1:f1.offset=1) (o2:f2.offset=2) (o3:f3.offset=3) (hct:P.cellsOf t=4) (h:DataW.trod enc P w base spare held fuel t cs=some x):∃ l:Lt,cs=(dl l).toList:=by
 obtain ⟨xs,n,rfl,_,hl,hxl,hel⟩:=DataW.trod_struct ht h
 rw [hct] at hl
 have hx4:xs.length=4:=by simpa using hxl
 have e0:=hel 0 f0 rfl
 have e1:=hel 1 f1 rfl
 have e2:=hel 2 f2 rfl
 have e3:=hel 3 f3 rfl
 rw [h0,o0,hcn,Yz (by omega)] at e0
 rw [h1,o1,hcn,Yz (by omega)] at e1
 rw [h2,o2,hcn,Yz (by omega)] at e2
 rw [h3,o3,hcz,Yz (by omega)] at e3
 obtain ⟨a,ha,_⟩:=DataW.trod_int hn e0
 obtain ⟨b,hb,_⟩:=DataW.trod_int hn e1
 obtain ⟨c,hc,_⟩:=DataW.trod_int hn e2
 obtain ⟨d,hd,_⟩:=DataW.trod_string hz e3
 exact ⟨(a,b,c,d),zB hl ha hb hc hd⟩
theorem Ca {H:Type} {enc:TypeId × Value->H} {P:Program} {W:World} {ts t tn tz:TypeId} {f0 f1 f2 f3:Field} {fuel:Nat} {cs:List Value} {x:DataW H × List MemPlace} (hn:P.underlying tn=some (.int .i64)) (hcn:P.cellsOf tn=1) (hz:P.underlying tz=some .string) (hcz:P.cellsOf tz=1) (hts:P.underlying ts=some (.slice t))
 (ht:P.underlying t=some (.struct #[f0,f1,f2,f3])) (h0:f0.type=tn) (h1:f1.type=tn) (h2:f2.type=tn) (h3:f3.type=tz) (o0:f0.offset=0) (o1:f1.offset=1) (o2:f2.offset=2) (o3:f3.offset=3) (hct:P.cellsOf t=4)
 (hf:DataW.trod enc P W 0 (λ_=>true) true fuel ts cs=some x):∃ (v:Value) (ls:List Lt),cs=[v]/\bp W v 4 ls.length (bD ls):=by
 rcases Go.Deep.open_slice hts hf with ⟨hcs,_⟩|⟨a',len,cap,m,k,D,Pl,hcs,_,hl,_,hm,_,hel⟩
 ·exact ⟨_,[],hcs,rfl,.inl ⟨rfl,rfl⟩⟩
 ·have hml:len<=m:=by rw [hm];split<;>omega
  have each:∀ i,∃ l:Lt,i<len->aJ W (a'.add (i*4)) (dl l):=λi=>by
   by_cases hi:i<len
   ·obtain ⟨cs',hc1,hc2⟩:=hel i (by omega)
    obtain ⟨l,rfl⟩:=Il hn hcn hz hcz ht h0 h1 h2 h3 o0 o1 o2 o3 hct hc2
    refine ⟨l,λ_ j u hj=>?_⟩
    rw [hct] at hc1
    obtain ⟨_,hlen,hall⟩:=World.cells?_some hc1
    have hj4:j<4:=by have:=(ZA.1 hj).1;rw [yP] at this;exact this
    have:=hall j hj4
    rw [this,Zy];exact hj
   ·exact ⟨qO,λh9=>ZF h9 hi⟩
  obtain ⟨L,hL⟩:=Classical.axiomOfChoice each
  refine ⟨_,(List.range len).map L,hcs,?_,.inr ⟨a',cap,by simp,by simpa using hl,?_⟩⟩
  ·rw [vX]
  ·refine js _ 4 (by decide) Vn _ λi hi=>?_
   have hi':i<len:=by simpa using hi
   have:=hL i hi'
   simpa using this
end Go.Proofs.YtkhepdpfdhdlaaaGreatDoor
