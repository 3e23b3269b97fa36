/- Own slices and marks, said otherwise; iterators; no Go in it. -/
import Derived.Lib.SliceRun
import Derived.Deep.Slices
import Derived.Test.YtkhepdpfdhdlaaaGreatDoorWp
set_option linter.unusedVariables false
set_option linter.unusedSimpArgs false
set_option linter.unusedSectionVars false
namespace Go.Proofs.YtkhepdpfdhdlaaaGreatDoor
open Go.RowKit
abbrev Lt:=Int × Int × Int × ByteArray
structure Ml where
 l:List Lt
 last:Int
 now:Int
def gq:Lt:=(0,0,0,⟨#[]⟩)
def kG:Ml:=⟨[],0,0⟩
def bZ (x:Lt):Array Value:=#[.int .i64 x.1,.int .i64 x.2.1,.int .i64 x.2.2.1,.string x.2.2.2]
def bH (m:Ml) (v:Value):Array Value:=#[v,.int .i64 m.last,.int .i64 m.now]
theorem BK (x:Lt):(bZ x).size=4:=rfl
theorem dd (x:Lt):∀ v∈(bZ x).toList,v.oneCell'=true:=λv hv=>by
 simp only [bZ,at1,at4,or_false] at hv
 rcases hv with rfl|rfl|rfl|rfl<;>simp [Value.oneCell',Value.cells]
theorem ct (m:Ml) (v:Value) (h:v.oneCell'=true):∀ u∈(bH m v).toList,u.oneCell'=true:=λu hu=>by
 simp only [bH,at1,at4,or_false] at hu
 rcases hu with rfl|rfl|rfl
 ·exact h
 ·simp [Value.oneCell',Value.cells]
 ·simp [Value.oneCell',Value.cells]
theorem FM {x y:Lt} (h:(bZ x).toList=(bZ y).toList):x=y:=by
 simp only [bZ,List.cons.injEq,Value.int.injEq,Value.string.injEq,true_and,and_true] at h
 obtain ⟨h1,h2,h3,h4⟩:=h
 exact Prod.ext h1 (Prod.ext h2 (Prod.ext h3 h4))
theorem WR (x y:Lt):decide (x=y)=true↔(bZ x).toList=(bZ y).toList:=by
 rw [as5];exact ⟨λh=>by rw [h],FM⟩
def bw (l:List Lt):List Value:=l.flatMap λx=>(bZ x).toList
theorem lt4:∀ x:Lt,((bZ x).toList).length=4:=λ_=>rfl
theorem yA (l:List Lt):(bw l).length=l.length*4:=fq _ 4 lt4 l
theorem Aj (l r:List Lt):bw (l++r)=bw l++bw r:=aw7
theorem Al (x:Lt):bw [x]=(bZ x).toList:=by simp [bw]
theorem w6 (l:List Lt):∀ u∈bw l,u.oneCell'=true:=λu hu=>by
 obtain ⟨x,_,hx⟩:=List.mem_flatMap.1 hu
 exact dd x u hx
theorem zE (l:List Lt) (j:Nat) (hj:j<l.length):(((bw l).drop (j*4)).take 4).toArray=bZ l[j]:=by
 unfold bw
 rw [fk _ 4 lt4 l j hj]
def pS (n:Int):Bool:=decide (0<=n) && decide (n<32)
def GQ (n:Int):Bool:=decide (0<=n) && decide (n<=1099511627776)
def lC (last:Int) (x:Lt):Bool:=decide (x.1<1) || (decide (last<x.1) || (!pS x.2.1 || (!pS x.2.2.1 || decide (300<x.2.2.2.size))))
def cn (m:Ml):Bool:=decide (m.l.length<=64) && (GQ m.last && (GQ m.now && m.l.all λx => !lC m.last x))
theorem O6 (n:Int):pS n=true↔0<=n/\n<32:=by unfold pS;simp
theorem qw (n:Int):GQ n=true↔0<=n/\n<=1099511627776:=by unfold GQ;simp
theorem iz (m:Ml):cn m=true↔m.l.length<=64/\(0<=m.last/\m.last<=1099511627776)/\(0<=m.now/\m.now<=1099511627776)/\∀ x∈m.l,lC m.last x=false:=by
 unfold cn
 rw [as0,as0,as0,qw,qw,as5,as1]
 simp
theorem u7 (last:Int) (x:Lt):lC last x=false↔1<=x.1/\x.1<=last/\(0<=x.2.1/\x.2.1<32)/\(0<=x.2.2.1/\x.2.2.1<32)/\x.2.2.2.size<=300:=by
 unfold lC pS;simp
def db (m:Ml) (f t:Int) (d:ByteArray):Int:=
 bif !cn m || (!pS f || !pS t) then 1 else bif decide (300<d.size) then 2 else bif decide (m.l.length=64) || decide (m.last=1099511627776) then 8 else 0
def hQ (m:Ml) (f t:Int) (d:ByteArray):Ml:=bif decide (db m f t d=0) then ⟨m.l++[(m.last+1,f,t,d)],m.last+1,m.now⟩ else kG
def lz (m:Ml) (f t:Int) (d:ByteArray):Int:=bif decide (db m f t d=0) then m.last+1 else 0
def fG (m:Ml) (t:Int):Int:=bif !cn m || decide (t<0) then 1 else 0
def dP (m:Ml) (t:Int):Ml:=bif decide (fG m t=0) then {m with now:=m.now+min t (1099511627776 - m.now)} else kG
def fO (m:Ml) (p:Int):Int:=bif !cn m then 1 else bif decide (0<=p) && decide (p<m.l.length) then 0 else 6
def qt (m:Ml) (p:Int):Lt:=bif decide (fO m p=0) then m.l.getD p.toNat gq else gq
def dB (m:Ml) (p:Int):Ml:=bif decide (fO m p=0) then {m with l:=m.l.eraseIdx p.toNat} else kG
def tj (m:Ml) (p:Int):Int:=bif decide (fO m p=0) then (bif decide (m.l.length=64) then 8 else 0) else fO m p
def l8 (m:Ml) (p:Int):Ml:=bif decide (tj m p=0) then {m with l:=m.l++[qt m p]} else kG
def d7 (m:Ml) (p:Int):Ml:=bif decide (fO m p=0) then {m with l:=m.l.eraseIdx p.toNat++[qt m p]} else kG
def qH (a b:Ml):Bool:=decide (a.l=b.l) && (decide (a.last=b.last) && decide (a.now=b.now))
theorem IJ (a b:Ml):qH a b=true↔a=b:=by
 unfold qH
 cases a;cases b;simp
theorem dq {w:World} {v:Value} {sz n:Nat} {xs:List Value} (h:br w v sz n xs) (i:Nat) {V:Value} (hV:xs[i]? = some V):w.cell? (bC v i)=some V:=by
 rcases h.2 with ⟨_,h2⟩|⟨p,c,h1,_,h2⟩
 ·have h1:=h.1
  rw [h2,Nat.zero_mul] at h1
  rw [List.eq_nil_of_length_eq_zero h1] at hV;cases hV
 ·subst h1
  exact h2 i V (by simpa using hV)
theorem cI.low {w:World} {base b:Nat} {e:TypeId} {sz:Nat} {v:Value} {n:Nat} {xs:List Value} (h:cI w base e sz v n xs) (hb:b<=base):cI w b e sz v n xs:=by
 refine ⟨h.1,?_⟩
 rcases h.2 with hn|⟨g,cap,cur,fz,hv,h1,rest⟩
 ·exact .inl hn
 ·exact .inr ⟨g,cap,cur,fz,hv,ax0 hb h1,rest⟩
theorem cI.seq {w:World} {b:Nat} {e:TypeId} {sz:Nat} {v:Value} {n m:Nat} {xs ys:List Value} (h:cI w b e sz v n xs) (hn:n=m) (hx:xs=ys):cI w b e sz v m ys:=by subst hn;subst hx;exact h
def ltZ:List (List Value):=[[.int .i64 0],[.int .i64 0],[.int .i64 0],[.string ⟨#[]⟩]]
def mlZ:List (List Value):=[[.slice none 0 0],[.int .i64 0],[.int .i64 0]]
section
variable {P:Program} {ρ:Operand->Value} {d:Option Tmp} {ty:TypeId} {pos:String} {af:Array Edge} {g:Option (Nat × Bool)} {x y z u:Operand} {t t' e:TypeId}
theorem jT (S:Stt P t ltZ):a7 P ⟨d,.build t #[],ty,pos,af,g⟩ ρ (.agg (bZ gq)):=bk S [] rfl (λ_ _ h=>by cases h) rfl
theorem yj {a b c:Int} {s:ByteArray} (S:Stt P t ltZ) (hx:ρ x=.int .i64 a) (hy:ρ y=.int .i64 b) (hz:ρ z=.int .i64 c) (hu:ρ u=.string s):a7 P ⟨d,.build t #[(0,x),(1,y),(2,z),(3,u)],ty,pos,af,g⟩ ρ (.agg (bZ (a,b,c,s))):=
 bk S [(0,.int .i64 a),(1,.int .i64 b),(2,.int .i64 c),(3,.string s)] (by simp [hx,hy,hz,hu]) (by
  intro i v hiv;simp only [at1,ax3,at4,or_false] at hiv
  rcases hiv with ⟨rfl,rfl⟩|⟨rfl,rfl⟩|⟨rfl,rfl⟩|⟨rfl,rfl⟩<;>exact ⟨_,rfl,rfl⟩) rfl
theorem dn (S:Stt P t mlZ):a7 P ⟨d,.build t #[],ty,pos,af,g⟩ ρ (.agg (bH kG (.slice none 0 0))):=bk S [] rfl (λ_ _ h=>by cases h) rfl
theorem cq {a:Option Addr} {n c:Nat} (ht:P.underlying t=some (.slice e)) (hx:ρ x=.slice a n c) (hy:ρ y=.slice none 0 0):a7 P ⟨d,.binOp .eql t x y t',ty,pos,af,g⟩ ρ (.bool a.isNone):=λw=>by
 have hg:(eqGuard .eql t x y (.slice a n c) (.slice none 0 0)).run P w=.ok () w:=rfl
 simp only [execOp,hx,hy,aw2,hg,as4,Lib.run_eql_slice_nil w t e a n c 0 0 ht,aw3]
end
theorem SQ {w:World} {n c:Nat} {l:List Lt} (h:br w (.slice none n c) 4 l.length (bw l)):l=[]:=by
 rcases h.2 with ⟨h1,h2⟩|⟨p,cap,h1,_⟩
 ·exact List.eq_nil_of_length_eq_zero h2
 ·cases h1
section
variable {P:Program} {ops:Array Oper} {Q:Act->World->Prop} {l:List Oper} {a:Act} {w w0:World} {N:Nat} {L:List (Nat × Value)} {Df:List Deferred} {B:List Own} {d:Tmp} {ty:TypeId} {pos:String} {af:Array Edge} {x y:Operand} {t:TypeId}
theorem ij {lp:Nat} {cal:Operand} {args:Array Operand} {tys:Array TypeId} (vs:List Value) {V:Value} {G:Own->Prop} (i:Nat) (h:Sl N a L Df) (hc:ep L cal=some (.func (.yield lp) #[] #[])) (hvs:args.toList.map (ep L)=vs.map some)
 (hy:lf P lp vs.toArray w λv w'=>v=V/\∃ g',G g'/\St w0 (B.set i g') w') (hd:Nat.blt d N=true) (k:∀ a' w' g',G g'->Sl N a' ((d,V)::L) Df->St w0 (B.set i g') w'->cB P ops Q l a' w'):
 cB P ops Q (⟨some d,.call {callee:=.value cal,args:=args,argTypes:=tys},ty,pos,af,none⟩::l) a w:=
 dW (R:=λv w'=>v=V/\∃ g',G g'/\St w0 (B.set i g') w') h (Cr (h.ev hc) (kQ h hvs) hy) hd λa' w' v ⟨h1,g',h2,h3⟩ hs=>by subst h1;exact k a' w' g' h2 hs h3
end
theorem Y4 {l:List Lt} {j:Nat} (hj:j<l.length):bZ l[j]=bZ (l.getD j gq):=by
 rw [au1,as3 hj];rfl
theorem gY {q:Nat->Bool} {d:Nat} (h:∀ j,j<d->q j=false) (hd:q d=false):∀ j,j<d+1->q j=false:=λj hj=>by
 by_cases h1:j<d
 ·exact h j h1
 ·obtain rfl:j=d:=by omega
  exact hd
def F2 (m:Ml) (d:Nat):Bool:=lC m.last (m.l.getD d gq)
theorem CJ {m:Ml} {d:Nat} (hd:d<m.l.length) (hb:F2 m d=true):cn m=false:=by
 rw [← Bool.not_eq_true,iz]
 rintro ⟨_,_,_,h⟩
 unfold F2 at hb
 rw [au1,as3 hd,Option.getD_some,h _ (ax6 hd)] at hb
 cases hb
theorem BT {m:Ml} (h0:decide (m.l.length<=64)=true) (h1:GQ m.last=true) (h2:GQ m.now=true) (h:∀ j,j<m.l.length->F2 m j=false):cn m=true:=by
 rw [iz]
 refine ⟨ar4 h0,(qw _).1 h1,(qw _).1 h2,λx hx=>?_⟩
 obtain ⟨j,hj,rfl⟩:=List.mem_iff_getElem.1 hx
 have:=h j hj
 unfold F2 at this
 rwa [au1,as3 hj] at this
theorem Gs {m:Ml} (h0:decide (m.l.length<=64)=false):cn m=false:=by unfold cn;rw [h0];rfl
theorem FS {m:Ml} (h1:GQ m.last=false):cn m=false:=by unfold cn;rw [h1];cases decide (m.l.length<=64)<;>rfl
theorem Gh {m:Ml} (h2:GQ m.now=false):cn m=false:=by unfold cn;rw [h2];cases decide (m.l.length<=64)<;>cases GQ m.last<;>rfl
def IY (p:Int) (d:Nat):Bool:=decide ((d:Int)=p)
def Zl (l:List Lt) (q:Nat->Bool):Nat->Lt|0=>gq|d+1=>bif q d then l.getD d gq else gq
theorem PY {l:List Lt} {q:Nat->Bool} {d:Nat} (h:∀ j,j<d->q j=false):Zl l q d=gq:=by
 cases d with
 |zero=>rfl
 |succ d=>show (bif q d then _ else _)=_;rw [h d (Nat.lt_succ_self d)];rfl
theorem vX {m:Ml} (p:Int) (h:cn m=false):fO m p=1:=by unfold fO;rw [h];rfl
theorem OO {m:Ml} (p:Int) (h:cn m=false):qt m p=gq:=by unfold qt;rw [vX p h];rfl
theorem BB {m:Ml} {p:Int} (h:cn m=true) (h0:0<=p) (hp:p<m.l.length):fO m p=0:=by
 unfold fO;rw [h,ar7 h0,ar7 hp];rfl
theorem Vk {m:Ml} {p:Int} (h:cn m=true) (h0:0<=p) (hp:p<m.l.length):qt m p=m.l.getD p.toNat gq:=by
 unfold qt;rw [BB h h0 hp];rfl
theorem xK {m:Ml} {p:Int} (h:cn m=true) (h0:¬ (0<=p/\p<m.l.length)):fO m p=6:=by
 unfold fO;rw [h]
 have:(decide (0<=p) && decide (p<(m.l.length:Int)))=false:=by rw [← Bool.not_eq_true];simpa using h0
 rw [this];rfl
theorem Pc {m:Ml} {p:Int} (h:cn m=true) (h0:¬ (0<=p/\p<m.l.length)):qt m p=gq:=by
 unfold qt;rw [xK h h0];rfl
theorem EH {m:Ml} {p:Int} {d:Nat} (h:cn m=true) (hd:d<m.l.length) (hq:IY p d=true):fO m p=0/\qt m p=m.l.getD d gq:=by
 have:=ar4 hq
 subst this
 refine ⟨BB h (by omega) (by omega),?_⟩
 rw [Vk h (by omega) (by omega)];rfl
theorem DG {m:Ml} {p:Int} (h:cn m=true) (hq:∀ j,j<m.l.length->IY p j=false):fO m p=6/\qt m p=gq:=by
 have h9:¬ (0<=p/\p<(m.l.length:Int)):=λ⟨h1,h2⟩=>ar5 (hq p.toNat (by omega)) (by omega)
 exact ⟨xK h h9,Pc h h9⟩
theorem Ua (m:Ml) (p:Int):(cn m=false/\fO m p=1)∨(cn m=true/\(0<=p/\p<m.l.length)/\fO m p=0)∨(cn m=true/\¬ (0<=p/\p<m.l.length)/\fO m p=6):=by
 cases h:cn m with
 |false=>exact .inl ⟨rfl,vX p h⟩
 |true=>
  by_cases hp:0<=p/\p<(m.l.length:Int)
  ·exact .inr (.inl ⟨rfl,hp,BB h hp.1 hp.2⟩)
  ·exact .inr (.inr ⟨rfl,hp,xK h hp⟩)
def dl (l:List Lt) (k d:Nat):List Lt:=(l.take d).eraseIdx k
theorem My {l:List Lt} {d:Nat} (hd:d<l.length):dl l d (d+1)=dl l d d:=by
 unfold dl
 rw [List.take_succ_eq_append_getElem hd,List.eraseIdx_append_of_length_le (by simp;omega),av5,Nat.min_eq_left (by omega),Nat.sub_self]
 rw [List.eraseIdx_of_length_le (l:=l.take d) (by simp;omega)]
 simp
theorem Do {l:List Lt} {k d:Nat} (hd:d<l.length) (hk:k≠d):dl l k (d+1)=dl l k d++[l.getD d gq]:=by
 unfold dl
 rw [List.take_succ_eq_append_getElem hd,au1,as3 hd,Option.getD_some]
 by_cases h:k<d
 ·rw [List.eraseIdx_append_of_lt_length (by simp;omega)]
 ·rw [List.eraseIdx_append_of_length_le (by simp;omega),av5,Nat.min_eq_left (by omega),List.eraseIdx_of_length_le (l:=l.take d) (by simp;omega)]
  rw [show [l[d]].eraseIdx (k - d)=[l[d]] from List.eraseIdx_of_length_le (by simp;omega)]
theorem S3 (l:List Lt) (k:Nat):dl l k l.length=l.eraseIdx k:=by unfold dl;rw [List.take_length]
theorem Rw (l:List Lt) (k d:Nat):(dl l k d).length<=l.length:=by
 unfold dl
 have:=List.length_eraseIdx_le (l.take d) k
 rw [av5] at this
 omega
theorem St.resl {w0 w:World} {B:List Own} {v:Value} {e:TypeId} {sz n m:Nat} {xs ys:List Value} (s:St w0 B w) (i:Nat) (hi:B[i]? = some (.sl v e sz n xs)) (hn:n=m) (hx:xs=ys):St w0 (B.set i (.sl v e sz m ys)) w:=by
 subst hn;subst hx
 have:B.set i (.sl v e sz n xs)=B:=by
  apply List.ext_getElem?
  intro j
  by_cases h:i=j
  ·subst h
   rw [List.getElem?_set_self (ar9.1 hi).1,hi]
  ·rw [List.getElem?_set_ne h]
 rw [this];exact s
theorem EX {w:World} {a:Option Addr} {n c:Nat} {l:List Lt} (ha:a.isNone=true) (h:br w (.slice a n c) 4 l.length (bw l)):l=[]:=by
 cases a with
 |none=>exact SQ h
 |some p=>cases ha
theorem qN (l:List Lt) (x:Lt):bw l++(bZ x).toList=bw (l++[x]):=by rw [Aj,Al]
theorem B6 (x:Lt):([Value.agg (bZ x)].flatMap (·.cells.toList))=(bZ x).toList:=by simp [Value.cells]
theorem yk (x:Lt):∀ u∈([Value.agg (bZ x)].flatMap (·.cells.toList)),u.oneCell'=true:=by rw [B6];exact dd x
theorem pT (x:Lt):∀ v∈[Value.agg (bZ x)],v.cells.size=4:=λv hv=>by rw [as9] at hv;subst hv;rfl
theorem wA {m:Ml} {p:Int} (h:fO m p≠0):dB m p=kG:=by unfold dB;rw [ar6 h];rfl
theorem qv {m:Ml} {p:Int} (h:fO m p=0):dB m p={m with l:=m.l.eraseIdx p.toNat}:=by unfold dB;rw [ar7 h];rfl
theorem TE {m:Ml} {p:Int} (h:fO m p≠0):qt m p=gq:=by unfold qt;rw [ar6 h];rfl
theorem IC {m:Ml} {p:Int} (h:fO m p=0):cn m=true/\0<=p/\p<m.l.length:=by
 rcases Ua m p with ⟨_,h2⟩|⟨h1,h2,_⟩|⟨_,_,h2⟩
 ·omega
 ·exact ⟨h1,h2⟩
 ·omega
theorem K7 {m:Ml} {p:Int} (h:fO m p≠0):tj m p=fO m p:=by unfold tj;rw [ar6 h];rfl
theorem SH {m:Ml} {p:Int} (h:fO m p≠0):l8 m p=kG:=by unfold l8;rw [K7 h,ar6 h];rfl
theorem y8 {m:Ml} {p:Int} (h:fO m p=0) (hf:decide (m.l.length=64)=true):tj m p=8:=by unfold tj;rw [ar7 h,hf];rfl
theorem IL {m:Ml} {p:Int} (h:fO m p=0) (hf:decide (m.l.length=64)=true):l8 m p=kG:=by unfold l8;rw [y8 h hf];rfl
theorem KU {m:Ml} {p:Int} (h:fO m p=0) (hf:decide (m.l.length=64)=false):tj m p=0:=by unfold tj;rw [ar7 h,hf];rfl
theorem Ui {m:Ml} {p:Int} (h:fO m p=0) (hf:decide (m.l.length=64)=false):l8 m p={m with l:=m.l++[qt m p]}:=by unfold l8;rw [KU h hf];rfl
theorem Md {m:Ml} {p:Int} (h:fO m p≠0):d7 m p=kG:=by unfold d7;rw [ar6 h];rfl
theorem Ly {m:Ml} {p:Int} (h:fO m p=0):d7 m p={m with l:=m.l.eraseIdx p.toNat++[qt m p]}:=by unfold d7;rw [ar7 h];rfl
theorem FN {l:List Lt} {k:Nat} (n:Nat) (h:l.length<=n):(l.eraseIdx k).length<=n:=ax0 (List.length_eraseIdx_le l k) h
theorem Ky {m:Ml} {n:Nat} (p:Int) (h:m.l.length<=n):(dB m p).l.length<=n:=by
 by_cases h0:fO m p=0
 ·rw [qv h0];exact FN n h
 ·rw [wA h0];exact at8 _
theorem qs {m:Ml} {f t:Int} {d:ByteArray} (h:(!cn m || (!pS f || !pS t))=true):db m f t d=1:=by unfold db;rw [h];rfl
theorem Dr {m:Ml} {f t:Int} {d:ByteArray} (h:(!cn m || (!pS f || !pS t))=false) (h2:300<d.size):db m f t d=2:=by unfold db;rw [h,ar7 h2];rfl
theorem xY {m:Ml} {f t:Int} {d:ByteArray} (h:(!cn m || (!pS f || !pS t))=false) (h2:¬ 300<d.size) (h3:(decide (m.l.length=64) || decide (m.last=1099511627776))=true):db m f t d=8:=by unfold db;rw [h,ar6 h2,h3];rfl
theorem PL {m:Ml} {f t:Int} {d:ByteArray} (h:(!cn m || (!pS f || !pS t))=false) (h2:¬ 300<d.size) (h3:(decide (m.l.length=64) || decide (m.last=1099511627776))=false):db m f t d=0:=by unfold db;rw [h,ar6 h2,h3];rfl
theorem Hh {m:Ml} {f t:Int} {d:ByteArray} (h:db m f t d≠0):hQ m f t d=kG/\lz m f t d=0:=by unfold hQ lz;rw [ar6 h];exact ⟨rfl,rfl⟩
theorem sy {m:Ml} {f t:Int} {d:ByteArray} (h:db m f t d=0):hQ m f t d=⟨m.l++[(m.last+1,f,t,d)],m.last+1,m.now⟩/\lz m f t d=m.last+1:=by unfold hQ lz;rw [ar7 h];exact ⟨rfl,rfl⟩
theorem Et {m:Ml} {t:Int} (h:(!cn m || decide (t<0))=true):fG m t=1:=by unfold fG;rw [h];rfl
theorem OR {m:Ml} {t:Int} (h:(!cn m || decide (t<0))=false):fG m t=0:=by unfold fG;rw [h];rfl
theorem HB {m:Ml} {t:Int} (h:fG m t≠0):dP m t=kG:=by unfold dP;rw [ar6 h];rfl
theorem Lq {m:Ml} {t:Int} (h:fG m t=0):dP m t={m with now:=m.now+min t (1099511627776 - m.now)}:=by unfold dP;rw [ar7 h];rfl
theorem sH {P:Program} {fn:Func} {w w0:World} {N:Nat} {a:Act} {L:List (Nat × Value)} {B:List Own} {T:dz} {p q r t t':Tmp} {b b' n n':Nat} {C C':Array Value} {u u':TypeId} {V:Value} (i i':Nat) (hres:fn.results=#[.cell p t,.cell q t',.tmp r]) (h:Sl N a L) (s:St w0 B w) (hr:Row P t n) (hr':Row P t' n')
 (hp:lk L p=some (.pointer (some ⟨b,0,none⟩))) (hq:lk L q=some (.pointer (some ⟨b',0,none⟩))) (hi:B[i]? = some (.blk b (.cells C u))) (hi':B[i']? = some (.blk b' (.cells C' u'))) (hn:C.size=n) (hn':C'.size=n') (hv:lk L r=some V) (hT:T (.tuple #[.agg C,.agg C',V]) w):bodyPost P fn (cd w0 T) .ret a w:=by
 refine ⟨h.defers,.tuple #[.agg C,.agg C',V],?_,_,rfl,hT,s.ext⟩
 have hp':a.tmps[p]?.getD undef=.pointer (some ⟨b,0,none⟩):=by simpa using h.holds p _ hp
 have hq':a.tmps[q]?.getD undef=.pointer (some ⟨b',0,none⟩):=by simpa using h.holds q _ hq
 have hr':a.tmps[r]?.getD undef=V:=by simpa using h.holds r _ hv
 simp [results,hres,hp',hq',hr',asAddr,dC hr w b C u (0,0) (s.get i hi) hn,dC (by assumption) w b' C' u' (0,0) (s.get i' hi') hn']
def Kv (e:TypeId) (b:Nat) (m:Ml) (f t:Int) (d:ByteArray):dz:=λv w=>∃ vx,v=.tuple #[.agg (bH (hQ m f t d) vx),.int .i64 (lz m f t d),.int .i64 (db m f t d)]/\cI w b e 4 vx (hQ m f t d).l.length (bw (hQ m f t d).l)
theorem lK {e:TypeId} {b:Nat} {w:World} {m:Ml} {f t:Int} {d:ByteArray} {k:Int} (h:db m f t d=k) (hk:k≠0):Kv e b m f t d (.tuple #[.agg (bH kG (.slice none 0 0)),.int .i64 0,.int .i64 k]) w:=by
 obtain ⟨h1,h2⟩:=Hh (m:=m) (f:=f) (t:=t) (d:=d) (by rw [h];exact hk)
 exact ⟨.slice none 0 0,by rw [h1,h2,h],by rw [h1];exact d6 _ _ _ _⟩
theorem M9 {e:TypeId} {b:Nat} {w:World} {m:Ml} {f t:Int} {d:ByteArray} {v:Value} (h:db m f t d=0) (hO:cI w b e 4 v (m.l++[(m.last+1,f,t,d)]).length (bw (m.l++[(m.last+1,f,t,d)]))):
 Kv e b m f t d (.tuple #[.agg (bH ⟨m.l++[(m.last+1,f,t,d)],m.last+1,m.now⟩ v),.int .i64 (m.last+1),.int .i64 0]) w:=by
 obtain ⟨h1,h2⟩:=sy h
 exact ⟨v,by rw [h1,h2,h],by rw [h1];exact hO⟩
def Kb (e:TypeId) (b:Nat) (m:Ml) (t:Int):dz:=λv w=>∃ vx,v=.tuple #[.agg (bH (dP m t) vx),.int .i64 (fG m t)]/\cI w b e 4 vx (dP m t).l.length (bw (dP m t).l)
theorem EO {e:TypeId} {b:Nat} {w:World} {m:Ml} {t:Int} (h:fG m t=1):Kb e b m t (.tuple #[.agg (bH kG (.slice none 0 0)),.int .i64 1]) w:=by
 have h1:=HB (m:=m) (t:=t) (by omega)
 exact ⟨.slice none 0 0,by rw [h1,h],by rw [h1];exact d6 _ _ _ _⟩
theorem Ni {e:TypeId} {b:Nat} {w:World} {m:Ml} {t:Int} {v:Value} (h:fG m t=0) (hO:cI w b e 4 v m.l.length (bw m.l)):Kb e b m t (.tuple #[.agg (bH {m with now:=m.now+min t (1099511627776 - m.now)} v),.int .i64 0]) w:=by
 have h1:=Lq h
 exact ⟨v,by rw [h1,h],by rw [h1];exact hO⟩
def Jn (e:TypeId) (b:Nat) (m:Ml) (p:Int):dz:=λv w=>∃ vx,v=.tuple #[.agg (bH (dB m p) vx),.agg (bZ (qt m p)),.int .i64 (fO m p)]/\cI w b e 4 vx (dB m p).l.length (bw (dB m p).l)
theorem I1 {e:TypeId} {b:Nat} {w:World} {m:Ml} {p:Int} (h:fO m p≠0):Jn e b m p (.tuple #[.agg (bH kG (.slice none 0 0)),.agg (bZ gq),.int .i64 (fO m p)]) w:=
 ⟨.slice none 0 0,by rw [wA h,TE h],by rw [wA h];exact d6 _ _ _ _⟩
theorem G3 {e:TypeId} {b:Nat} {w:World} {m:Ml} {p:Int} {v:Value} (h:fO m p=0) (hO:cI w b e 4 v (m.l.eraseIdx p.toNat).length (bw (m.l.eraseIdx p.toNat))):Jn e b m p (.tuple #[.agg (bH {m with l:=m.l.eraseIdx p.toNat} v),.agg (bZ (qt m p)),.int .i64 0]) w:=
 ⟨v,by rw [qv h,h],by rw [qv h];exact hO⟩
def zp (e:TypeId) (b:Nat) (m:Ml) (k:Int):dz:=λv w=>∃ vx,v=.tuple #[.agg (bH m vx),.int .i64 k]/\cI w b e 4 vx m.l.length (bw m.l)
theorem wc {e:TypeId} {b:Nat} {w:World} {m:Ml} {k q:Int} (h:m=kG) (hk:k=q):zp e b m k (.tuple #[.agg (bH kG (.slice none 0 0)),.int .i64 q]) w:=by
 subst h;subst hk
 exact ⟨.slice none 0 0,rfl,d6 _ _ _ _⟩
theorem vZ {e:TypeId} {b:Nat} {w:World} {m n:Ml} {k q:Int} {v:Value} (h:m=n) (hk:k=q) (hO:cI w b e 4 v n.l.length (bw n.l)):zp e b m k (.tuple #[.agg (bH n v),.int .i64 q]) w:=by
 subst h;subst hk
 exact ⟨v,rfl,hO⟩
def CF (e:TypeId) (b:Nat) (m:Ml):dz:=λv w=>∃ vx,v=.agg (bH m vx)/\cI w b e 4 vx m.l.length (bw m.l)
theorem CF.mono (e:TypeId) (b:Nat) (m:Ml):p6 (CF e b m):=λ_ _ _ ⟨vx,h1,h2⟩ hE=>⟨vx,h1,X5 _ _ _ _ _ vx _ _ h2 hE⟩
theorem CF.low {e:TypeId} {b c:Nat} {m:Ml} {v:Value} {w:World} (h:CF e c m v w) (hb:b<=c):CF e b m v w:=by
 obtain ⟨vx,h1,h2⟩:=h
 exact ⟨vx,h1,h2.low hb⟩
theorem Gj {m:Ml} {p:Int} (h:fO m p=0):d7 m p={dB m p with l:=(dB m p).l++[qt m p]}:=by rw [Ly h,qv h]
theorem MP {m:Ml} {f t:Int} {d:ByteArray} (h:db m f t d=0):(cn m=true/\pS f=true/\pS t=true)/\d.size<=300/\m.l.length≠64/\m.last≠1099511627776:=by
 cases h1:(!cn m || (!pS f || !pS t)) with
 |true=>rw [qs h1] at h;exact az2 h (by decide)
 |false=>
  by_cases h2:300<d.size
  ·rw [Dr h1 h2] at h;exact az2 h (by decide)
  ·cases h3:(decide (m.l.length=64) || decide (m.last=1099511627776)) with
   |true=>rw [xY h1 h2 h3] at h;exact az2 h (by decide)
   |false=>
    simp at h1 h3
    exact ⟨h1,by omega,h3.1,h3.2⟩
theorem Co {m:Ml} {f t:Int} {d:ByteArray} (h:db m f t d=0):cn ⟨m.l++[(m.last+1,f,t,d)],m.last+1,m.now⟩=true:=by
 obtain ⟨⟨h1,h2,h3⟩,h4,h5,h6⟩:=MP h
 rw [iz] at h1 ⊢
 rw [O6] at h2 h3
 obtain ⟨g1,g2,g3,g4⟩:=h1
 refine ⟨by show (m.l++[_]).length<=64;rw [as2];show _+1<=64;omega,⟨by show 0<=m.last+1;omega,by show m.last+1<=_;omega⟩,g3,λx hx=>?_⟩
 rcases av4.1 hx with hx|hx
 ·have:=(u7 _ _).1 (g4 x hx)
  rw [u7]
  exact ⟨this.1,by show x.1<=m.last+1;omega,this.2.2⟩
 ·rw [as9] at hx
  subst hx
  rw [u7]
  exact ⟨by show 1<=m.last+1;omega,Int.le_refl _,h2,h3,h4⟩
end Go.Proofs.YtkhepdpfdhdlaaaGreatDoor
namespace Go.Proofs.YtkhepdpfdhdlaaaGreatDoor
open Go.RowKit Go.ChangeShapes Go.WideShapes Go.ChangeAt
theorem BC {cs:List Value} {a b c d:Value} (hl:cs.length=4) (h0:(cs.drop 0).take 1=[a]) (h1:(cs.drop 1).take 1=[b]) (h2:(cs.drop 2).take 1=[c]) (h3:(cs.drop 3).take 1=[d]):cs=[a,b,c,d]:=by
 match cs,hl with
 |[x,y,z,u],_=>simp at h0 h1 h2 h3;subst h0;subst h1;subst h2;subst h3;rfl
theorem sh {cs:List Value} {a b c:Value} (hl:cs.length=3) (h0:(cs.drop 0).take 1=[a]) (h1:(cs.drop 1).take 1=[b]) (h2:(cs.drop 2).take 1=[c]):cs=[a,b,c]:=by
 match cs,hl with
 |[x,y,z],_=>simp at h0 h1 h2;subst h0;subst h1;subst h2;rfl
theorem Lm {H:Type} {enc:TypeId × Value->H} {P:Program} {w:World} {base:Nat} {spare:Nat->Bool} {held:Bool} {t tn tz:TypeId} {f0 f1 f2 f3:Field} {fuel:Nat} {cs:List Value} {x:DataW H × List MemPlace} (hn:P.underlying tn=some (.int .i64)) (hcn:P.cellsOf tn=1) (hz:P.underlying tz=some .string) (hcz:P.cellsOf tz=1)
 (ht:P.underlying t=some (.struct #[f0,f1,f2,f3])) (h0:f0.type=tn) (h1:f1.type=tn) (h2:f2.type=tn) (h3:f3.type=tz) (o0:f0.offset=0) (o1:f1.offset=1) (o2:f2.offset=2) (o3:f3.offset=3) (hct:P.cellsOf t=4) (h:DataW.trod enc P w base spare held fuel t cs=some x):∃ l:Lt,cs=(bZ l).toList:=by
 obtain ⟨xs,n,rfl,_,hl,hxl,hel⟩:=DataW.trod_struct ht h
 rw [hct] at hl
 have hx4:xs.length=4:=by simpa using hxl
 have e0:=hel 0 f0 rfl
 have e1:=hel 1 f1 rfl
 have e2:=hel 2 f2 rfl
 have e3:=hel 3 f3 rfl
 rw [h0,o0,hcn,as3 (by omega)] at e0
 rw [h1,o1,hcn,as3 (by omega)] at e1
 rw [h2,o2,hcn,as3 (by omega)] at e2
 rw [h3,o3,hcz,as3 (by omega)] at e3
 obtain ⟨a,ha,_⟩:=DataW.trod_int hn e0
 obtain ⟨b,hb,_⟩:=DataW.trod_int hn e1
 obtain ⟨c,hc,_⟩:=DataW.trod_int hn e2
 obtain ⟨d,hd,_⟩:=DataW.trod_string hz e3
 exact ⟨(a,b,c,d),BC hl ha hb hc hd⟩
theorem Gl {H:Type} {enc:TypeId × Value->H} {P:Program} {W:World} {ts t tn tz:TypeId} {f0 f1 f2 f3:Field} {fuel:Nat} {cs:List Value} {x:DataW H × List MemPlace} (hn:P.underlying tn=some (.int .i64)) (hcn:P.cellsOf tn=1) (hz:P.underlying tz=some .string) (hcz:P.cellsOf tz=1) (hts:P.underlying ts=some (.slice t))
 (ht:P.underlying t=some (.struct #[f0,f1,f2,f3])) (h0:f0.type=tn) (h1:f1.type=tn) (h2:f2.type=tn) (h3:f3.type=tz) (o0:f0.offset=0) (o1:f1.offset=1) (o2:f2.offset=2) (o3:f3.offset=3) (hct:P.cellsOf t=4)
 (hf:DataW.trod enc P W 0 (λ_=>true) true fuel ts cs=some x):∃ (v:Value) (ls:List Lt),cs=[v]/\br W v 4 ls.length (bw ls):=by
 rcases Go.Deep.open_slice hts hf with ⟨hcs,_⟩|⟨a',len,cap,m,k,D,Pl,hcs,_,hl,_,hm,_,hel⟩
 ·exact ⟨_,[],hcs,rfl,.inl ⟨rfl,rfl⟩⟩
 ·have hml:len<=m:=by rw [hm];split<;>omega
  have each:∀ i,∃ l:Lt,i<len->aF W (a'.add (i*4)) (bZ l):=λi=>by
   by_cases hi:i<len
   ·obtain ⟨cs',hc1,hc2⟩:=hel i (by omega)
    obtain ⟨l,rfl⟩:=Lm hn hcn hz hcz ht h0 h1 h2 h3 o0 o1 o2 o3 hct hc2
    refine ⟨l,λ_ j u hj=>?_⟩
    rw [hct] at hc1
    obtain ⟨_,hlen,hall⟩:=World.cells?_some hc1
    have hj4:j<4:=by have:=(ay6.1 hj).1;rw [BK] at this;exact this
    have:=hall j hj4
    rw [this,ay4];exact hj
   ·exact ⟨gq,λh9=>az2 h9 hi⟩
  obtain ⟨L,hL⟩:=Classical.axiomOfChoice each
  refine ⟨_,(List.range len).map L,hcs,?_,.inr ⟨a',cap,by simp,by simpa using hl,?_⟩⟩
  ·rw [yA]
  ·refine n7 _ 4 (by decide) lt4 _ λi hi=>?_
   have hi':i<len:=by simpa using hi
   have:=hL i hi'
   simpa using this
end Go.Proofs.YtkhepdpfdhdlaaaGreatDoor
