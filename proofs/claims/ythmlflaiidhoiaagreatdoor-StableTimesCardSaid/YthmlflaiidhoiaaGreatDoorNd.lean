/- Nodes: which may be, what hearing, following, dropping and pointing make of them, and that what may be stays such; nodes that come in; no Go in it. -/
import Derived.Test.YthmlflaiidhoiaaGreatDoorRg
set_option linter.unusedVariables false
set_option linter.unusedSimpArgs false
set_option linter.unusedSectionVars false
namespace Go.Proofs.YthmlflaiidhoiaaGreatDoor
open Go.RowKit
structure Nd where
 me:Mb
 pr:Mb
 sc:List Mb
 fg:List Mb
def LE:Nd:=⟨aS,aS,[],[]⟩
def aq:Value:=.slice none 0 0
def nR (m p:Mb) (vs vf:Value):List Value:=lV m++(lV p++[vs,vf])
def aR (m p:Mb) (vs vf:Value):Array Value:=(nR m p vs vf).toArray
theorem DY (m p:Mb) (vs vf:Value):(nR m p vs vf).length=68:=by simp [nR,cf]
theorem ao (m p:Mb) (vs vf:Value):(aR m p vs vf).size=68:=by simp [aR,DY]
theorem bL {m p:Mb} {vs vf:Value} (h1:vs.oneCell'=true) (h2:vf.oneCell'=true):∀ v∈(aR m p vs vf).toList,v.oneCell'=true:=λv hv=>by
 have hv:v∈nR m p vs vf:=hv
 unfold nR at hv
 rcases at9.1 hv with hv|hv
 ·exact lf m v hv
 ·rcases at9.1 hv with hv|hv
  ·exact lf p v hv
  ·simp only [ar6,ar9,or_false] at hv
   rcases hv with rfl|rfl
   ·exact h1
   ·exact h2
theorem Cr (m p:Mb) (vs vf:Value) (i:Nat):(aR m p vs vf)[i]? = (nR m p vs vf)[i]? := by simp [aR]
theorem lG (m p:Mb) (vs vf:Value):(aR m p vs vf)[0]? = some (.int .i64 m.1):=rfl
theorem Jo (m p:Mb) (vs vf:Value) (i:Nat):(nR m p vs vf)[33+i]? = (lV p++[vs,vf])[i]? := by
 unfold nR
 rw [at7 (by rw [cf];omega),cf,Nat.add_sub_cancel_left]
theorem yr (m p:Mb) (vs vf:Value) (i:Nat):(nR m p vs vf)[66+i]? = [vs,vf][i]? := by
 rw [show 66+i=33+(33+i) by omega,Jo,at7 (by rw [cf];omega),cf,Nat.add_sub_cancel_left]
theorem GA (m p:Mb) (vs vf:Value):(aR m p vs vf)[33]? = some (.int .i64 p.1):=by rw [Cr];exact Jo m p vs vf 0
theorem iQ (m p:Mb) (vs vf:Value):(aR m p vs vf)[66]? = some vs:=by rw [Cr];exact yr m p vs vf 0
theorem jP (m p:Mb) (vs vf:Value):(aR m p vs vf)[67]? = some vf:=by rw [Cr];exact yr m p vs vf 1
theorem pt (l:List Value) (o n:Nat) (D:List Value) (h:(l.drop o).take n=D):l.toArray.extract o (o+n)=D.toArray:=by
 apply Array.ext'
 rw [Array.toList_extract,List.extract_eq_take_drop,Nat.add_sub_cancel_left]
 exact h
theorem dx (m p:Mb) (vs vf:Value):(aR m p vs vf).extract 0 (0+33)=ar m:=pt _ _ _ _ (by
 rw [List.drop_zero];unfold nR;rw [List.take_left' (cf m)])
theorem tJ (m p:Mb) (vs vf:Value) (i:Nat) (h:i<=33):(nR m p vs vf).drop (33+i)=(lV p).drop i++[vs,vf]:=by
 unfold nR
 rw [← List.drop_drop,List.drop_left' (cf m),List.drop_append_of_le_length (by rw [cf];exact h)]
theorem fq (m p:Mb) (vs vf:Value):(aR m p vs vf).extract 33 (33+33)=ar p:=pt _ _ _ _ (by
 rw [tJ m p vs vf 0 (by omega),List.drop_zero,List.take_left' (cf p)])
theorem Ay (m:Mb):(lV m).drop 1=(aJ m.2).toList:=rfl
theorem i7 (m p:Mb) (vs vf:Value):(aR m p vs vf).extract 1 (1+32)=aJ m.2:=pt _ _ _ (aJ m.2).toList (by
 unfold nR
 rw [List.drop_append_of_le_length (by rw [cf];omega),Ay,List.take_left' (by rw [ar2,az])])
theorem vL (m p:Mb) (vs vf:Value):(aR m p vs vf).extract 34 (34+32)=aJ p.2:=pt _ _ _ (aJ p.2).toList (by
 rw [show 34=33+1 from rfl,tJ m p vs vf 1 (by omega),Ay,List.take_left' (by rw [ar2,az])])
theorem pq (m p:Mb) (vs vf v:Value):(aR m p vs vf).setIfInBounds 66 v=aR m p v vf:=by
 apply Array.ext'
 rw [Array.toList_setIfInBounds]
 show (nR m p vs vf).set 66 v=nR m p v vf
 unfold nR
 rw [List.set_append_right _ _ (by rw [cf];omega),List.set_append_right _ _ (by rw [cf,cf];omega),cf,cf]
 rfl
theorem rQ (m p:Mb) (vs vf v:Value):(aR m p vs vf).setIfInBounds 67 v=aR m p vs v:=by
 apply Array.ext'
 rw [Array.toList_setIfInBounds]
 show (nR m p vs vf).set 67 v=nR m p vs v
 unfold nR
 rw [List.set_append_right _ _ (by rw [cf];omega),List.set_append_right _ _ (by rw [cf,cf];omega),cf,cf]
 rfl
theorem rh (m p q:Mb) (vs vf:Value):((aR m p vs vf).toList.take 33++(ar q).toList++(aR m p vs vf).toList.drop (33+(ar q).size)).toArray=aR m q vs vf:=by
 rw [ae]
 show ((nR m p vs vf).take 33++lV q++(nR m p vs vf).drop (33+33)).toArray=(nR m q vs vf).toArray
 rw [tJ m p vs vf 33 (as1 _),List.drop_of_length_le (by rw [cf];exact as1 _),List.nil_append]
 unfold nR
 rw [List.take_left' (cf m),av3]
theorem bJ {w:World} {v:Value} {sz n:Nat} {xs:List Value} (h:a7 w v sz n xs):v.oneCell'=true:=by
 obtain ⟨a,c,rfl⟩:=h.len
 rfl
def ndZ:List (List Value):=[.int .i64 0::List.replicate 32 (.int .u8 0),.int .i64 0::List.replicate 32 (.int .u8 0),[.slice none 0 0],[.slice none 0 0]]
theorem At:lV aS=Value.int .i64 0::List.replicate 32 (Value.int .u8 0):=by
 have:=aq3 Array.toList xX
 exact this
theorem O5:aR aS aS aq aq=ndZ.flatten.toArray:=by
 unfold aR nR
 rw [At];rfl
section
variable {P:Program} {ρ:Operand->Value} {d:Option Tmp} {ty:TypeId} {pos:String} {af:Array Edge} {g:Option (Nat × Bool)} {x y z:Operand} {t:TypeId}
theorem gr (S:Stt P t ndZ):a8 P ⟨d,.build t #[],ty,pos,af,g⟩ ρ (.agg (aR aS aS aq aq)):=by
 have:=cx (P:=P) (ρ:=ρ) (d:=d) (ty:=ty) (pos:=pos) (af:=af) (g:=g) (parts:=#[]) S [] (by simp) (λi v hm=>by simp at hm) (D:=nR aS aS aq aq) (by unfold nR;rw [At];rfl)
 exact this
end
def ib (m:Mb):Bool:=decide (0<=m.1) && decide (m.1<16)
theorem iE {m:Mb}:ib m=true↔0<=m.1/\m.1<16:=by unfold ib;rw [aq5,ar0,ar0]
theorem Yr {m:Mb} (h:decide (0<=m.1)=false):ib m=false:=by unfold ib;rw [h];rfl
theorem Zw {m:Mb} (h:decide (0<=m.1)=true):ib m=decide (m.1<16):=by unfold ib;rw [h];rfl
def nD (l:List Mb) (no:Int):Bool:=l.any λx=>decide (x.1=no)
theorem MZ {l:List Mb} {no:Int}:nD l no=true↔∃ x∈l,x.1=no:=by
 unfold nD;rw [aw4]
 exact ⟨λ⟨x,h,e⟩=>⟨x,h,ap9 e⟩,λ⟨x,h,e⟩=>⟨x,h,aq2 e⟩⟩
theorem Ef {l:List Mb} {no:Int}:nD l no=false↔∀ x∈l,x.1≠no:=by
 rw [← Bool.not_eq_true,MZ]
 exact ⟨λh x hx e=>h ⟨x,hx,e⟩,λh ⟨x,hx,e⟩=>h x hx e⟩
def oX (l:List Mb) (no:Int) (d:Nat):Bool := !ib (l.getD d aS) || (decide ((l.getD d aS).1=no) || nD (l.take d) (l.getD d aS).1)
def sL (l:List Mb) (no:Int):Bool:=(List.range l.length).all λd => !oX l no d
structure Oth (l:List Mb) (no:Int):Prop where
 may:∀ x∈l,0<=x.1/\x.1<16
 ne:∀ x∈l,x.1≠no
 nd:l.Pairwise λa b=>a.1≠b.1
theorem oH {l:List Mb} {no:Int} {d:Nat}:oX l no d=false↔ib (l.getD d aS)=true/\(l.getD d aS).1≠no/\∀ x∈l.take d,x.1≠(l.getD d aS).1:=by
 unfold oX
 rw [Bool.or_eq_false_iff,Bool.or_eq_false_iff,Bool.not_eq_false',decide_eq_false_iff_not,Ef]
theorem UJ {l:List Mb} {no:Int} {d:Nat} (h:ib (l.getD d aS)=false):oX l no d=true:=by unfold oX;rw [h];rfl
theorem Uh {l:List Mb} {no:Int} {d:Nat} (h:decide ((l.getD d aS).1=no)=true):oX l no d=true:=by unfold oX;rw [h];simp
theorem Jk {l:List Mb} {no:Int} {d:Nat} (h:ib (l.getD d aS)=true) (h1:decide ((l.getD d aS).1=no)=false):oX l no d=nD (l.take d) (l.getD d aS).1:=by unfold oX;rw [h,h1];rfl
theorem xr {l:List Mb} {no:Int}:sL l no=true↔∀ d,d<l.length->oX l no d=false:=by
 unfold sL;rw [aq6]
 exact ⟨λh d hd=>by have:=h d (ar7.2 hd);simpa using this,λh d hd=>by rw [h d (ar7.1 hd)];rfl⟩
theorem O4 {l:List Mb} {no:Int}:sL l no=true↔Oth l no:=by
 rw [xr]
 constructor
 ·intro h
  refine ⟨λx hx=>?_,λx hx=>?_,?_⟩
  ·obtain ⟨j,hj,rfl⟩:=mC hx
   exact iE.1 (oH.1 (h j hj)).1
  ·obtain ⟨j,hj,rfl⟩:=mC hx
   exact(oH.1 (h j hj)).2.1
  ·rw [List.pairwise_iff_getElem]
   intro i j hi hj hij
   have h9:=(oH.1 (h j hj)).2.2 l[i] (List.mem_iff_getElem.2 ⟨i,by rw [au0];omega,List.getElem_take⟩)
   rwa [← u3 hj] at h9
 ·rintro ⟨h1,h2,h3⟩ d hd
  refine oH.2 ⟨iE.2 (h1 _ (fL hd)),h2 _ (fL hd),λx hx=>?_⟩
  obtain ⟨i,hi,rfl⟩:=List.mem_iff_getElem.1 hx
  rw [au0] at hi
  rw [List.getElem_take,← u3 hd]
  exact List.pairwise_iff_getElem.1 h3 i d (by omega) hd (by omega)
theorem ua {l:List Mb} {no:Int} {d:Nat} (hd:d<l.length) (h:oX l no d=true):sL l no=false:=by
 rw [← Bool.not_eq_true,xr];intro h9;rw [h9 d hd] at h;cases h
theorem Jw {l:List Mb} {no:Int} {k:Nat} (hk:l.length<=k) (h:∀ j,j<k->oX l no j=false):sL l no=true:=xr.2 λd hd=>h d (by omega)
def sE (p:Mb) (no:Int):Bool:=decide (p=fj) || (ib p && decide (p.1≠no))
def qY (l:List Mb) (m:Mb):Bool:=decide (l=[m]) || (decide (1<=l.length) && (decide (l.length<=4) && sL l m.1))
def zE (l:List Mb) (no:Int):Bool:=decide (l.length<=16) && sL l no
def co (n:Nd):Bool:=ib n.me && (sE n.pr n.me.1 && (qY n.sc n.me && zE n.fg n.me.1))
theorem W1 {p:Mb} {no:Int} (h:decide (p=fj)=true):sE p no=true:=by unfold sE;rw [h];rfl
theorem YG {p:Mb} {no:Int} (h:decide (p=fj)=false) (h1:ib p=false):sE p no=false:=by unfold sE;rw [h,h1];rfl
theorem Rl {p:Mb} {no:Int} (h:decide (p=fj)=false) (h1:ib p=true):sE p no=decide (p.1≠no):=by unfold sE;rw [h,h1];rfl
theorem tj {l:List Mb} {m:Mb}:l=[m]↔l.length=1/\l.getD 0 aS=m:=by
 constructor
 ·rintro rfl;exact ⟨rfl,rfl⟩
 ·rintro ⟨h1,h2⟩
  obtain ⟨x,rfl⟩:=List.length_eq_one_iff.1 h1
  have h2:x=m:=h2
  rw [h2]
theorem Zr {l:List Mb} {m:Mb} (h:decide (l.length=1)=true) (h1:decide (l.getD 0 aS=m)=true):qY l m=true:=by
 unfold qY;rw [aq2 (tj.2 ⟨ap9 h,ap9 h1⟩)];rfl
theorem KF {l:List Mb} {m:Mb} (h:¬ (l.length=1/\l.getD 0 aS=m)):qY l m=(decide (1<=l.length) && (decide (l.length<=4) && sL l m.1)):=by
 unfold qY;rw [aq1 λe=>h (tj.1 e)];rfl
theorem Rc {l:List Mb} {m:Mb} (h:¬ (l.length=1/\l.getD 0 aS=m)) (h0:decide (1<=l.length)=false):qY l m=false:=by rw [KF h,h0];rfl
theorem Q5 {l:List Mb} {m:Mb} (h:¬ (l.length=1/\l.getD 0 aS=m)) (h0:decide (l.length<=4)=false):qY l m=false:=by rw [KF h,h0,Bool.false_and,Bool.and_false]
theorem Q8 {l:List Mb} {m:Mb} (h:¬ (l.length=1/\l.getD 0 aS=m)) (h0:decide (1<=l.length)=true) (h1:decide (l.length<=4)=true):qY l m=sL l m.1:=by rw [KF h,h0,h1];rfl
theorem YR {l:List Mb} {no:Int} (h:decide (l.length<=16)=false):zE l no=false:=by unfold zE;rw [h];rfl
theorem Yu {l:List Mb} {no:Int} (h:decide (l.length<=16)=true):zE l no=sL l no:=by unfold zE;rw [h];rfl
theorem PC {n:Nd} (h:ib n.me=false):co n=false:=by unfold co;rw [h];rfl
theorem PE {n:Nd} (h:sE n.pr n.me.1=false):co n=false:=by unfold co;rw [h,Bool.false_and,Bool.and_false]
theorem Pf {n:Nd} (h:qY n.sc n.me=false):co n=false:=by unfold co;rw [h,Bool.false_and,Bool.and_false,Bool.and_false]
theorem Mz {n:Nd} (h:ib n.me=true) (h1:sE n.pr n.me.1=true) (h2:qY n.sc n.me=true):co n=zE n.fg n.me.1:=by unfold co;rw [h,h1,h2];rfl
structure RN (n:Nd):Prop where
 me:0<=n.me.1/\n.me.1<16
 pr:n.pr=fj∨((0<=n.pr.1/\n.pr.1<16)/\n.pr.1≠n.me.1)
 sc:n.sc=[n.me]∨(1<=n.sc.length/\n.sc.length<=4/\Oth n.sc n.me.1)
 fg:n.fg.length<=16/\Oth n.fg n.me.1
theorem kl {n:Nd}:co n=true↔RN n:=by
 unfold co sE qY zE
 simp only [aq5,Bool.or_eq_true,ar0,iE,O4]
 exact ⟨λ⟨h1,h2,h3,h4⟩=>⟨h1,h2,h3,h4⟩,λ⟨h1,h2,h3,h4⟩=>⟨h1,h2,h3,h4⟩⟩
theorem RN.len {n:Nd} (h:RN n):1<=n.sc.length/\n.sc.length<=4:=by
 rcases h.sc with h|h
 ·rw [h];exact ⟨as1 _,by show 1<=4;omega⟩
 ·exact ⟨h.1,h.2.1⟩
def nxI (n:Nd) (x:Id):Bool:=xq x n.me.2 (n.sc.getD 0 aS).2
def nxC (n:Nd) (x:Id):Mb:=bif decide (csE n.me.2 x (n.fg++n.sc)=0) then csM n.me.2 x (n.fg++n.sc) else n.sc.getD 0 aS
def nxM (n:Nd) (x:Id):Mb:=bif co n then (bif nxI n x then n.sc.getD 0 aS else nxC n x) else aS
def nxB (n:Nd) (x:Id):Bool:=co n && nxI n x
def mD (n:Nd) (x:Mb):Mb:=bif decide (x.1≠n.me.1) && (decide (x.2≠n.me.2) && (decide (n.pr=fj) || xq x.2 n.pr.2 n.me.2)) then x else n.pr
def Vb (n:Nd) (x:Mb):Int:=bif co n && ib x then 0 else 1
def VN (n:Nd) (x:Mb):Nd:=bif co n && ib x then {n with pr:=mD n x} else LE
theorem LJ {n:Nd} {x:Mb} (h:co n=false):VN n x=LE/\Vb n x=1:=by unfold VN Vb;rw [h];exact ⟨rfl,rfl⟩
theorem Lk {n:Nd} {x:Mb} (h:ib x=false):VN n x=LE/\Vb n x=1:=by unfold VN Vb;rw [h,Bool.and_false];exact ⟨rfl,rfl⟩
theorem kD {n:Nd} {x:Mb} (h:co n=true) (h1:ib x=true):VN n x={n with pr:=mD n x}/\Vb n x=0:=by unfold VN Vb;rw [h,h1];exact ⟨rfl,rfl⟩
theorem KL {n:Nd} {x:Mb} (h:decide (x.1≠n.me.1)=false):mD n x=n.pr:=by unfold mD;rw [h];rfl
theorem XL {n:Nd} {x:Mb} (h:decide (x.2≠n.me.2)=false):mD n x=n.pr:=by unfold mD;rw [h,Bool.false_and,Bool.and_false];rfl
theorem XK {n:Nd} {x:Mb} (h:decide (x.1≠n.me.1)=true) (h1:decide (x.2≠n.me.2)=true) (h2:decide (n.pr=fj)=true):mD n x=x:=by unfold mD;rw [h,h1,h2];rfl
theorem WR {n:Nd} {x:Mb} (h:decide (x.1≠n.me.1)=true) (h1:decide (x.2≠n.me.2)=true) (h2:decide (n.pr=fj)=false) (h3:xq x.2 n.pr.2 n.me.2=true):mD n x=x:=by unfold mD;rw [h,h1,h2,h3];rfl
theorem WY {n:Nd} {x:Mb} (h2:decide (n.pr=fj)=false) (h3:xq x.2 n.pr.2 n.me.2=false):mD n x=n.pr:=by unfold mD;rw [h2,h3,Bool.or_self,Bool.and_false,Bool.and_false];rfl
def Mp (me:Mb) (s:Nd):Bool := !decide (s.pr=fj) && (!decide (s.pr.1=me.1) && (!decide (s.pr.2=me.2) && (!decide (s.pr.2=s.me.2) && xq s.pr.2 me.2 s.me.2)))
def sy (me:Mb) (s:Nd):Mb:=bif Mp me s then s.pr else s.me
def dH (no:Int) (l:List Mb):List Mb:=l.takeWhile λx=>decide (x.1≠no)
def eE (acc:List Mb) (x:Mb):List Mb:=bif decide (acc.length<4) && !nD acc x.1 then acc++[x] else acc
def jv (l:List Mb):List Mb:=l.foldl eE []
def nY (l:List Mb) (me:Mb):List Mb:=bif decide (l.length=0) then [me] else l
def fK (n s:Nd):List Mb:=sy n.me s::s.me::s.sc
def sI (n s:Nd):List Mb:=nY (jv (dH n.me.1 (fK n s))) n.me
def Uk (n s:Nd):Int:=bif co n && co s then 0 else 1
def Vq (n s:Nd):Nd:=bif co n && co s then {n with sc:=sI n s} else LE
theorem K3 {n s:Nd} (h:co n=false):Vq n s=LE/\Uk n s=1:=by unfold Vq Uk;rw [h];exact ⟨rfl,rfl⟩
theorem H1 {n s:Nd} (h:co s=false):Vq n s=LE/\Uk n s=1:=by unfold Vq Uk;rw [h,Bool.and_false];exact ⟨rfl,rfl⟩
theorem DO {n s:Nd} (h:co n=true) (h1:co s=true):Vq n s={n with sc:=sI n s}/\Uk n s=0:=by unfold Vq Uk;rw [h,h1];exact ⟨rfl,rfl⟩
theorem Y6 {me:Mb} {s:Nd} (h:decide (s.pr=fj)=true):sy me s=s.me:=by unfold sy Mp;rw [h];rfl
theorem Wm {me:Mb} {s:Nd} (h:decide (s.pr.1=me.1)=true):sy me s=s.me:=by unfold sy Mp;rw [h,Bool.not_true,Bool.false_and,Bool.and_false];rfl
theorem af2 {me:Mb} {s:Nd} (h:decide (s.pr.2=me.2)=true):sy me s=s.me:=by unfold sy Mp;rw [h,Bool.not_true,Bool.false_and,Bool.and_false,Bool.and_false];rfl
theorem ab1 {me:Mb} {s:Nd} (h:decide (s.pr.2=s.me.2)=true):sy me s=s.me:=by unfold sy Mp;rw [h,Bool.not_true,Bool.false_and,Bool.and_false,Bool.and_false,Bool.and_false];rfl
theorem ag3 {me:Mb} {s:Nd} (h:xq s.pr.2 me.2 s.me.2=false):sy me s=s.me:=by unfold sy Mp;rw [h,Bool.and_false,Bool.and_false,Bool.and_false,Bool.and_false];rfl
theorem af5 {me:Mb} {s:Nd} (h:decide (s.pr=fj)=false) (h1:decide (s.pr.1=me.1)=false) (h2:decide (s.pr.2=me.2)=false) (h3:decide (s.pr.2=s.me.2)=false) (h4:xq s.pr.2 me.2 s.me.2=true):sy me s=s.pr:=by unfold sy Mp;rw [h,h1,h2,h3,h4];rfl
theorem EK {l:List Mb} {me:Mb} (h:l.length=0):nY l me=[me]:=by unfold nY;rw [aq2 h];rfl
theorem vY {l:List Mb} {me:Mb} (h:¬ l.length=0):nY l me=l:=by unfold nY;rw [aq1 h];rfl
theorem Rm {acc:List Mb} {x:Mb} (h:acc.length<4) (h1:nD acc x.1=false):eE acc x=acc++[x]:=by unfold eE;rw [aq2 h,h1];rfl
theorem BI {acc:List Mb} {x:Mb} (h:¬ acc.length<4):eE acc x=acc:=by unfold eE;rw [aq1 h];rfl
theorem Hb {acc:List Mb} {x:Mb} (h:nD acc x.1=true):eE acc x=acc:=by unfold eE;rw [h,Bool.not_true,Bool.and_false];rfl
theorem FV (l:List Mb) (x:Mb):jv (l++[x])=eE (jv l) x:=by unfold jv;rw [List.foldl_append];rfl
theorem mh {l:List Mb} {d:Nat} (hd:d<l.length):jv (l.take (d+1))=eE (jv (l.take d)) (l.getD d aS):=by rw [qO hd,FV]
theorem O1 (acc:List Mb) (x:Mb):(eE acc x).length<=acc.length+1:=by
 unfold eE
 cases decide (acc.length<4) && !nD acc x.1 with
 |true=>show (acc++[x]).length<=_;rw [aq7];exact as1 _
 |false=>exact Nat.le_succ _
theorem WX {acc:List Mb} (x:Mb) (h:acc.length<=4):(eE acc x).length<=4:=by
 by_cases h4:acc.length<4
 ·have:=O1 acc x;omega
 ·rw [BI h4];exact h
theorem IN:∀ (l acc:List Mb),acc.length<=4->(l.foldl eE acc).length<=4
 |[],_,h=>h
 |x::l,acc,h=>IN l _ (WX x h)
theorem DH (l:List Mb):(jv l).length<=4:=IN l [] (as3 _)
theorem Uf {acc:List Mb} {x y:Mb} (h:y∈eE acc x):y∈acc∨y=x:=by
 unfold eE at h
 cases hb:decide (acc.length<4) && !nD acc x.1 with
 |true=>rw [hb] at h;rcases List.mem_append.1 h with h|h
        ·exact .inl h
        ·exact .inr (ar4.1 h)
 |false=>rw [hb] at h;exact .inl h
theorem SJ {acc:List Mb} (x:Mb) (h:acc.Pairwise λa b=>a.1≠b.1):(eE acc x).Pairwise λa b=>a.1≠b.1:=by
 unfold eE
 cases hb:decide (acc.length<4) && !nD acc x.1 with
 |false=>exact h
 |true=>
  rw [aq5] at hb
  have h2:=Ef.1 (by simpa using hb.2)
  show (acc++[x]).Pairwise _
  rw [List.pairwise_append]
  exact ⟨h,List.pairwise_singleton _ _,λa ha b hb9=>by rw [ar4.1 hb9];exact h2 a ha⟩
theorem xU:∀ (l acc:List Mb) {y:Mb},y∈l.foldl eE acc->y∈acc∨y∈l
 |[],_,_,h=>.inl h
 |x::l,acc,y,h=>by
  rcases xU l _ h with h|h
  ·rcases Uf h with h|h
   ·exact .inl h
   ·exact .inr (by rw [h];exact ar5)
  ·exact .inr (as5 _ h)
theorem EW:∀ (l acc:List Mb),(acc.Pairwise λa b=>a.1≠b.1)->((l.foldl eE acc).Pairwise λa b=>a.1≠b.1)
 |[],_,h=>h
 |x::l,_,h=>EW l _ (SJ x h)
theorem pa {no:Int} {l:List Mb} {x:Mb} (h:x∈dH no l):x∈l/\x.1≠no:=by
 refine ⟨(List.takeWhile_sublist _).subset h,?_⟩
 unfold dH at h
 have:=aq6.1 (List.all_takeWhile (p:=λx:Mb=>decide (x.1≠no)) (l:=l)) x h
 exact ap9 this
theorem NX (no:Int) (l:List Mb):(dH no l).length<=l.length:=(List.takeWhile_sublist _).length_le
theorem IR {a b:List Mb} (h:a <+: b) {d:Nat} (hd:d<a.length):a.getD d aS=b.getD d aS:=by
 obtain ⟨r,rfl⟩:=h
 rw [as6,as6,at8 hd]
theorem oy {no:Int} {l:List Mb} {d:Nat} (hd:d<(dH no l).length):(dH no l).getD d aS=l.getD d aS:=IR (List.takeWhile_prefix _) hd
theorem vB {no:Int}:∀ {l:List Mb} {d:Nat},d<l.length->(∀ j,j<d->(l.getD j aS).1≠no)->(l.getD d aS).1≠no->d<(dH no l).length
 |[],_,h,_,_=>by simp at h
 |x::l,0,_,_,h2=>by
  have h2:x.1≠no:=h2
  unfold dH;rw [List.takeWhile_cons,if_pos (aq2 h2)];exact Nat.zero_lt_succ _
 |x::l,d+1,hd,h1,h2=>by
  have h0:x.1≠no:=h1 0 (Nat.zero_lt_succ _)
  unfold dH;rw [List.takeWhile_cons,if_pos (aq2 h0)]
  have:=vB (l:=l) (d:=d) (by simpa using hd) (λj hj=>h1 (j+1) (Nat.succ_lt_succ hj)) h2
  exact Nat.succ_lt_succ this
theorem Gq {no:Int} {l:List Mb} {d:Nat} (h2:(l.getD d aS).1=no) (hd:d<l.length):(dH no l).length<=d:=by
 rcases as4 d (dH no l).length with h|h
 ·have h3:=(pa (fL h)).2
  rw [oy h] at h3
  exact ax7 h2 h3
 ·exact h
def eK (nos:List Int) (x:Mb):Bool:=nos.any λno=>decide (no=x.1)
theorem rU {nos:List Int} {x:Mb}:eK nos x=true↔x.1∈nos:=by
 unfold eK;rw [aw4]
 exact ⟨λ⟨k,h,e⟩=>by rw [← ap9 e];exact h,λh=>⟨x.1,h,aq2 rfl⟩⟩
def dS (l:List Mb) (nos:List Int):List Mb:=l.filter λx => !eK nos x
def Bd (n:Nd) (nos:List Int):Mb:=bif eK nos n.pr then fj else n.pr
def V4 (n:Nd):Int:=bif co n then 0 else 1
def V3 (n:Nd) (nos:List Int):Nd:=bif co n then ⟨n.me,Bd n nos,nY (dS n.sc nos) n.me,dS n.fg nos⟩ else LE
theorem QB {n:Nd} (nos:List Int) (h:co n=false):V3 n nos=LE/\V4 n=1:=by unfold V3 V4;rw [h];exact ⟨rfl,rfl⟩
theorem vW {n:Nd} (nos:List Int) (h:co n=true):V3 n nos=⟨n.me,Bd n nos,nY (dS n.sc nos) n.me,dS n.fg nos⟩/\V4 n=0:=by unfold V3 V4;rw [h];exact ⟨rfl,rfl⟩
theorem QF {n:Nd} {nos:List Int} (h:eK nos n.pr=true):Bd n nos=fj:=by unfold Bd;rw [h];rfl
theorem QE {n:Nd} {nos:List Int} (h:eK nos n.pr=false):Bd n nos=n.pr:=by unfold Bd;rw [h];rfl
def zX (nos:List Int) (no:Int) (x:Mb):Bool:=nos.any λk=>decide (k=x.1) && decide (k≠no)
def gv (l:List Mb) (nos:List Int) (no:Int):List Mb:=l.filter λx => !zX nos no x
theorem vQ {nos:List Int} {no:Int} {x:Mb}:zX nos no x=true↔x.1∈nos/\x.1≠no:=by
 unfold zX;rw [aw4]
 constructor
 ·rintro ⟨k,h,e⟩
  rw [aq5,ar0,ar0] at e
  obtain ⟨rfl,e2⟩:=e
  exact ⟨h,e2⟩
 ·rintro ⟨h,e⟩
  exact ⟨x.1,h,by rw [aq2 rfl,aq2 e];rfl⟩
theorem Jn {nos:List Int} {no:Int} {x:Mb} (h:x.1≠no):zX nos no x=eK nos x:=by
 rw [aw6,vQ,rU];exact and_iff_left h
theorem GH {nos:List Int} {x:Mb}:zX nos x.1 x=false:=by
 rw [← Bool.not_eq_true,vQ];exact λh=>h.2 rfl
theorem r3 {l:List Mb} {nos:List Int} {no:Int} (h:∀ x∈l,x.1≠no):gv l nos no=dS l nos:=List.filter_congr λx hx=>by rw [Jn (h x hx)]
theorem DU {n:Nd} (h:RN n) (nos:List Int):nY (gv n.sc nos n.me.1) n.me=nY (dS n.sc nos) n.me:=by
 rcases h.sc with h9|h9
 ·rw [h9]
  have h1:gv [n.me] nos n.me.1=[n.me]:=by
   unfold gv;rw [List.filter_cons,GH];rfl
  rw [h1,vY (by show ¬ (1=0);omega)]
  cases hb:eK nos n.me with
  |true=>rw [show dS [n.me] nos=[] by unfold dS;rw [List.filter_cons,hb];rfl];rfl
  |false=>rw [show dS [n.me] nos=[n.me] by unfold dS;rw [List.filter_cons,hb];rfl];rfl
 ·rw [r3 h9.2.2.ne]
theorem DV {n:Nd} (h:RN n) (nos:List Int):gv n.fg nos n.me.1=dS n.fg nos:=r3 h.fg.2.ne
def Mi (n:Nd) (nos:List Int):Mb:=bif !decide (n.pr=fj) && decide ((gv [n.pr] nos n.me.1).length=0) then fj else n.pr
theorem EY {n:Nd} (h:RN n) (nos:List Int):Mi n nos=Bd n nos:=by
 unfold Mi Bd
 rcases h.pr with h9|h9
 ·rw [h9,aq2 rfl]
  cases eK nos fj<;>rfl
 ·have hne:decide (n.pr=fj)=false:=aq1 λe=>by rw [e] at h9;exact ax7 h9.1.1 (by decide)
  rw [hne]
  have h1:gv [n.pr] nos n.me.1=dS [n.pr] nos:=r3 λx hx=>by rw [ar4.1 hx];exact h9.2
  rw [h1]
  unfold dS
  rw [List.filter_cons]
  cases eK nos n.pr<;>rfl
theorem Oth.filter {l:List Mb} {no:Int} (h:Oth l no) (p:Mb->Bool):Oth (l.filter p) no:=
 ⟨λx hx=>h.may x ((at4.1 hx).1),λx hx=>h.ne x ((at4.1 hx).1),h.nd.filter p⟩
theorem Ns {n:Nd} {x:Mb} (h:RN n) (hx:ib x=true):RN {n with pr:=mD n x}:=by
 refine ⟨h.me,?_,h.sc,h.fg⟩
 show mD n x=fj∨_
 cases h0:decide (x.1≠n.me.1) with
 |false=>show mD n x=fj∨((0<=(mD n x).1/\(mD n x).1<16)/\(mD n x).1≠n.me.1);rw [KL h0];exact h.pr
 |true=>
  show mD n x=fj∨((0<=(mD n x).1/\(mD n x).1<16)/\(mD n x).1≠n.me.1)
  have hc:mD n x=x∨mD n x=n.pr:=by
   unfold mD
   cases decide (x.1≠n.me.1) && (decide (x.2≠n.me.2) && (decide (n.pr=fj) || xq x.2 n.pr.2 n.me.2)) with
   |true=>exact .inl rfl
   |false=>exact .inr rfl
  rcases hc with e|e
  ·rw [e];exact .inr ⟨iE.1 hx,ap9 h0⟩
  ·rw [e];exact h.pr
theorem Sw {n s:Nd} (hs:RN s):0<=(sy n.me s).1/\(sy n.me s).1<16:=by
 unfold sy
 cases hb:Mp n.me s with
 |false=>exact hs.me
 |true=>
  show 0<=s.pr.1/\s.pr.1<16
  rcases hs.pr with h|h
  ·unfold Mp at hb;rw [h,aq2 rfl] at hb;cases hb
  ·exact h.1
theorem OY {n s:Nd} (hs:RN s) {x:Mb} (h:x∈fK n s):0<=x.1/\x.1<16:=by
 unfold fK at h
 rcases ar6.1 h with rfl|h
 ·exact Sw hs
 ·rcases ar6.1 h with rfl|h
  ·exact hs.me
  ·rcases hs.sc with h9|h9
   ·rw [h9,ar4] at h;rw [h];exact hs.me
   ·exact h9.2.2.may x h
theorem Oy {n s:Nd} (hs:RN s):Oth (jv (dH n.me.1 (fK n s))) n.me.1:=by
 have hin:∀ {y:Mb},y∈jv (dH n.me.1 (fK n s))->y∈dH n.me.1 (fK n s):=λh=>by
  rcases xU _ [] h with h|h
  ·cases h
  ·exact h
 exact ⟨λx hx=>OY hs (pa (hin hx)).1,λx hx=>(pa (hin hx)).2,EW _ [] List.Pairwise.nil⟩
theorem DG {n:Nd} {l:List Mb} (h:Oth l n.me.1) (h4:l.length<=4):nY l n.me=[n.me]∨(1<=(nY l n.me).length/\(nY l n.me).length<=4/\Oth (nY l n.me) n.me.1):=by
 by_cases h0:l.length=0
 ·exact .inl (EK h0)
 ·rw [vY h0];exact .inr ⟨by omega,h4,h⟩
theorem NU {n s:Nd} (h:RN n) (hs:RN s):RN {n with sc:=sI n s}:=⟨h.me,h.pr,DG (Oy hs) (DH _),h.fg⟩
theorem Dt (l:List Mb) (nos:List Int):(dS l nos).length<=l.length:=au2 _ _
theorem D4 {n:Nd} (h:RN n) (nos:List Int):RN ⟨n.me,Bd n nos,nY (dS n.sc nos) n.me,dS n.fg nos⟩:=by
 refine ⟨h.me,?_,?_,av5 (Dt _ _) h.fg.1,h.fg.2.filter _⟩
 ·show Bd n nos=fj∨((0<=(Bd n nos).1/\(Bd n nos).1<16)/\(Bd n nos).1≠n.me.1)
  cases hb:eK nos n.pr with
  |true=>exact .inl (QF hb)
  |false=>rw [QE hb];exact h.pr
 ·show nY (dS n.sc nos) n.me=[n.me]∨_
  rcases h.sc with h9|h9
  ·rw [h9]
   cases hb:eK nos n.me with
   |true=>rw [show dS [n.me] nos=[] by unfold dS;rw [List.filter_cons,hb];rfl];exact .inl rfl
   |false=>rw [show dS [n.me] nos=[n.me] by unfold dS;rw [List.filter_cons,hb];rfl];exact .inl rfl
  ·exact DG (h9.2.2.filter _) (av5 (Dt _ _) h9.2.1)
theorem St.add {w0 w w':World} {B C:List Own} (s:St w0 B w) (t:St w C w'):St w0 (C++B) w':=by
 refine s.join t.ext C (λp hp=>?_) (λp hp k hk=>t.own p hp k hk) t.nd
 have h:=t.has p hp
 cases p with
 |blk b o=>exact h
 |sl v e sz n xs=>exact cd.low h s.ext.le
 |grp ks S=>exact h
theorem jA.of_mem {w0 w:World} {B:List Own} (s:St w0 B w) {b:Nat} {C:Array Value} {u:TypeId} (h:Own.blk b (.cells C u)∈B):jA w b C:=⟨u,(0,0),s.has _ h⟩
def Xg (w:World) (M:TypeId) (n:Nd):cX:=λv w'=>∃ vs vf,v=.agg (aR n.me n.pr vs vf)/\St w [.sl vs M 33 n.sc.length (aj n.sc),.sl vf M 33 n.fg.length (aj n.fg)] w'
def He (w:World) (M:TypeId) (n:Nd) (k:Int):cX:=λv w'=>∃ vs vf,v=.tuple #[.agg (aR n.me n.pr vs vf),.int .i64 k]/\St w [.sl vs M 33 n.sc.length (aj n.sc),.sl vf M 33 n.fg.length (aj n.fg)] w'
theorem rW {w w':World} {M:TypeId} {B:List Own} {n:Nd} {k q:Int} (s:St w B w') (hn:n=LE) (hk:k=q):He w M n k (.tuple #[.agg (aR aS aS aq aq),.int .i64 q]) w':=by
 subst hn;subst hk
 exact ⟨aq,aq,rfl,((s.pick [] (as0 _)).nilSl M 33).nilSl M 33⟩
theorem lA {w w':World} {M:TypeId} {n:Nd} {a p:Mb} {l f:List Mb} {vs vf:Value} {k q:Int} (hn:n=⟨a,p,l,f⟩) (hk:k=q) (h:St w [.sl vs M 33 l.length (aj l),.sl vf M 33 f.length (aj f)] w'):He w M n k (.tuple #[.agg (aR a p vs vf),.int .i64 q]) w':=by
 subst hn;subst hk
 exact ⟨vs,vf,rfl,h⟩
theorem VG {w w':World} {M:TypeId} {n:Nd} {a p:Mb} {l f:List Mb} {vs vf:Value} (hn:n=⟨a,p,l,f⟩) (h:St w [.sl vs M 33 l.length (aj l),.sl vf M 33 f.length (aj f)] w'):Xg w M n (.agg (aR a p vs vf)) w':=by
 subst hn
 exact ⟨vs,vf,rfl,h⟩
theorem yh {w:World} {B:List Own} {w':World} {v:Value} {M:TypeId} {l r:List Mb} (h:l=r) (s:St w (.sl v M 33 l.length (aj l)::B) w'):St w (.sl v M 33 r.length (aj r)::B) w':=by subst h;exact s
theorem uT (ls:List (List Mb)) (k:Nat) (h:k<ls.length):(ls.take (k+1)).flatten=(ls.take k).flatten++ls.getD k []:=by
 rw [List.take_succ_eq_append_getElem h,List.flatten_append,as6,aq8 h];simp
theorem t8 (ls:List (List Mb)) (k:Nat) (h:k<ls.length):(ls.take k).flatten.length+(ls.getD k []).length=(ls.take (k+1)).flatten.length:=by
 rw [uT ls k h,aq7]
theorem BV (ls:List (List Mb)) (k:Nat) (h:k<ls.length):aj (ls.take k).flatten++aj (ls.getD k [])=aj (ls.take (k+1)).flatten:=by
 rw [uT ls k h,fu]
theorem Dn (ls:List (List Mb)) (k:Nat):(ls.take k).flatten.length<=ls.flatten.length:=by
 have:=aq3 (λx=>x.flatten.length) (as7 k ls)
 simp only [List.flatten_append,aq7] at this
 omega
theorem zw {w:World} {base:Nat} {e:TypeId} {v:Value} {ls:List (List Mb)} {i:Nat} (hi:ls.length<=i) (h:cd w base e 33 v (ls.take i).flatten.length (aj (ls.take i).flatten)):cd w base e 33 v ls.flatten.length (aj ls.flatten):=by
 rwa [as9 hi] at h
theorem Bv {w:World} {a:Option Addr} {n c:Nat} {l:List Mb} (ha:a.isNone=true) (h:a7 w (.slice a n c) 33 l.length (aj l)):l=[]:=by
 cases a with
 |some p=>cases ha
 |none=>
  rcases h.2 with ⟨h1,h2⟩|⟨p,cap,h1,_⟩
  ·exact List.eq_nil_of_length_eq_zero h2
  ·cases h1
def xY (q:Mb->Bool) (l:List Mb) (j:Nat):List Mb:=(l.take j).filter q++l.drop ((l.take j).filter q).length
def nZ (q:Mb->Bool) (l:List Mb) (j:Nat):Nat:=((l.take j).filter q).length
theorem CN (q:Mb->Bool) (l:List Mb) (j:Nat):nZ q l j<=j:=by
 unfold nZ
 have:=au2 q (l.take j)
 rw [au0] at this;omega
theorem Qx (q:Mb->Bool) (l:List Mb) (j:Nat):nZ q l j<=l.length:=by
 unfold nZ
 have:=au2 q (l.take j)
 rw [au0] at this;omega
theorem Ee (q:Mb->Bool) (l:List Mb) (j:Nat):(xY q l j).length=l.length:=by
 have:=Qx q l j
 unfold nZ at this
 unfold xY;rw [aq7,at2];omega
theorem OU {q:Mb->Bool} {l:List Mb} {j:Nat} (hj:j<l.length):(xY q l j).getD j aS=l.getD j aS:=by
 have h1:=CN q l j
 unfold nZ at h1
 unfold xY
 rw [as6,at7 h1,aw8,as6]
 congr 2
 omega
theorem Jq {q:Mb->Bool} {l:List Mb} {j:Nat} (hj:j<l.length) (h:q (l.getD j aS)=false):xY q l (j+1)=xY q l j/\nZ q l (j+1)=nZ q l j:=by
 have e:(l.take (j+1)).filter q=(l.take j).filter q:=by rw [qO hj,ax4,List.filter_cons,h];simp
 unfold xY nZ;rw [e];exact ⟨rfl,rfl⟩
theorem Ez {q:Mb->Bool} {l:List Mb} {j:Nat} (hj:j<l.length) (h:q (l.getD j aS)=true):xY q l (j+1)=(xY q l j).set (nZ q l j) (l.getD j aS)/\nZ q l (j+1)=nZ q l j+1:=by
 have e:(l.take (j+1)).filter q=(l.take j).filter q++[l.getD j aS]:=by rw [qO hj,ax4,List.filter_cons,h];simp
 have h1:=CN q l j
 refine ⟨?_,by unfold nZ;rw [e,aq7];rfl⟩
 unfold nZ at h1
 unfold xY nZ
 rw [e,aq7]
 show (_++[_])++l.drop (_+1)=_
 rw [List.set_append_right _ _ (as1 _),Nat.sub_self,av3]
 congr 1
 rw [List.drop_eq_getElem_cons (show ((l.take j).filter q).length<l.length by omega),List.set_cons_zero];rfl
theorem Fw {q:Mb->Bool} {l:List Mb} {k:Nat} (hk:k<l.length) (h:∀ i,i<k->q (l.getD i aS)=true) (hq:q (l.getD k aS)=false):xY q l (k+1)=l/\nZ q l (k+1)=k:=by
 have e:(l.take k).filter q=l.take k:=by
  rw [List.filter_eq_self]
  intro x hx
  obtain ⟨i,hi,rfl⟩:=List.mem_iff_getElem.1 hx
  rw [au0] at hi
  rw [List.getElem_take,u3 (by omega)]
  exact h i (by omega)
 obtain ⟨e1,e2⟩:=Jq hk hq
 rw [e1,e2]
 unfold xY nZ
 rw [e,au0,Nat.min_eq_left (by omega),as7]
 exact ⟨rfl,rfl⟩
theorem NH (q:Mb->Bool) (l:List Mb):nZ q l l.length=(l.filter q).length:=by unfold nZ;rw [List.take_length]
theorem Ow (q:Mb->Bool) (l:List Mb):xY q l l.length=l.filter q++l.drop (l.filter q).length:=by unfold xY;rw [List.take_length]
theorem UK {q:Mb->Bool} {l:List Mb} {k:Nat} (hk:k<l.length) (hq:q (l.getD k aS)=false):(l.filter q).length<l.length:=by
 rcases as4 (l.filter q).length l.length with h|h
 ·exact h
 ·have h1:=au2 q l
  have h2:l.filter q=l:=List.filter_eq_self.2 (by
   have:=List.length_filter_eq_length_iff.1 (show (l.filter q).length=l.length by omega)
   exact this)
  have h3:=List.filter_eq_self.1 h2 _ (fL hk)
  rw [hq] at h3;cases h3
theorem FI (q:Mb->Bool) (l:List Mb):(aj (xY q l l.length)).take ((l.filter q).length*33)=aj (l.filter q):=by
 rw [Ow,fu,List.take_left' (fo _)]
theorem Fz {l:List Mb} {p:Mb->Bool} (h:∀ x∈l,p x=false):(l.filter λx => !p x)=l:=List.filter_eq_self.2 λx hx=>by rw [h x hx];rfl
theorem XC (nos:List Int) (k:Nat) (h:k<nos.length):(nos.map (Value.int .i64))[k]? = some (.int .i64 (nos.getD k 0)):=by
 rw [av0,as6,aq8 h];rfl
theorem nsD {nos:List Int} {k:Nat} (h:k<nos.length):nos[k]=nos.getD k 0:=by rw [as6,aq8 h];rfl
theorem PW {nos:List Int} {no:Int} {r:Int} (h:(r = -1/\∀ k,k<nos.length->nos.getD k 0≠no)∨∃ k:Nat,k<nos.length/\r=(k:Int)/\nos.getD k 0=no):decide (0<=r)=nos.any λk=>decide (k=no):=by
 rcases h with ⟨rfl,h⟩|⟨k,hk,rfl,h⟩
 ·rw [aq1 (by decide)]
  symm
  rw [aw5]
  intro x hx
  obtain ⟨i,hi,rfl⟩:=List.mem_iff_getElem.1 hx
  have:=h i hi
  rw [← nsD hi] at this
  simpa using this
 ·rw [aq2 (by omega)]
  symm
  rw [aw4]
  exact ⟨nos[k],aw0 hk,by rw [nsD hk];simpa using h⟩
section
variable {P:Program} {ρ:Operand->Value} {d:Option Tmp} {ty:TypeId} {pos:String} {af:Array Edge} {g:Option (Nat × Bool)} {x y z:Operand} {t:TypeId}
end
theorem pb {w:World} {v:Value} {sz n:Nat} {xs:List Value} (h:a7 w v sz n xs):v.cells.size=1:=by obtain ⟨a,c,rfl⟩:=h.len;rfl
theorem k6 {w:World} {v:Value} {sz n:Nat} {xs:List Value} (h:a7 w v sz n xs):v.cells.toList=[v]:=by obtain ⟨a,c,rfl⟩:=h.len;rfl
section
variable {P:Program} {a:Act} {w w0:World} {N:Nat} {L:List (Nat × Value)} {B:List Own} {fn:Func} {T:cX}
theorem oF {p q:Tmp} {b n D:Nat} {C:Array Value} {V:Value} {t u:TypeId} (i j:Nat) (hres:fn.results=#[.cell p t,.tmp q]) (h:Sl N a L [{target:=.collected D,args:=#[]}]) (s:St w0 B w) (hr:Row P t n) (hp:lk L p=some (.pointer (some ⟨b,0,none⟩))) (hq:lk L q=some V)
 (hj:B[j]? = some (.blk D (.deferred (some [])))) (hij:(B.set j (.blk D (.deferred none)))[i]? = some (.blk b (.cells C u))) (hn:C.size=n) (hT:∀ w',St w0 (B.set j (.blk D (.deferred none))) w'->T (.tuple #[.agg C,V]) w'):bodyPostM (FR none) 0 P fn (bW w0 T) .ret a w:=by
 show LeavesInM (FR none) 0 P fn a.tmps (bW w0 T) a.defers .returning w
 rw [h.defers]
 have s2:=s.putObj j hj (.deferred none)
 refine ⟨by simp,.inl ⟨D,_,rfl,run_takeDeferred (s.get j hj),?_⟩⟩
 have hp':a.tmps[p]?.getD undef=.pointer (some ⟨b,0,none⟩):=by simpa using h.holds p _ hp
 have hq':a.tmps[q]?.getD undef=V:=by simpa using h.holds q _ hq
 refine ⟨.tuple #[.agg C,V],?_,_,rfl,hT _ s2,s2.ext⟩
 simp [results,hres,hp',hq',asAddr,eo hr _ b C u (0,0) (s2.get i hij) hn]
theorem jt {p q:Tmp} {b n:Nat} {C:Array Value} {V:Value} {t u:TypeId} (i:Nat) (hres:fn.results=#[.cell p t,.tmp q]) (h:Sl N a L) (s:St w0 B w) (hr:Row P t n) (hp:lk L p=some (.pointer (some ⟨b,0,none⟩))) (hq:lk L q=some V)
 (hi:B[i]? = some (.blk b (.cells C u))) (hn:C.size=n) (hT:T (.tuple #[.agg C,V]) w):bodyPostM (FR none) 0 P fn (bW w0 T) .ret a w:=by
 show LeavesInM (FR none) 0 P fn a.tmps (bW w0 T) a.defers .returning w
 rw [h.defers]
 have hp':a.tmps[p]?.getD undef=.pointer (some ⟨b,0,none⟩):=by simpa using h.holds p _ hp
 have hq':a.tmps[q]?.getD undef=V:=by simpa using h.holds q _ hq
 refine ⟨.tuple #[.agg C,V],?_,_,rfl,hT,s.ext⟩
 simp [results,hres,hp',hq',asAddr,eo hr _ b C u (0,0) (s.get i hi) hn]
end
theorem Dk {no:Int} {l:List Mb} {d:Nat} (hm:d<=(dH no l).length) (hd:d<l.length) (h:decide ((l.getD d aS).1=no)=false):d<(dH no l).length:=
 vB hd (λj hj=>by have h1:=(pa (fL (show j<(dH no l).length by omega))).2;rwa [oy (by omega)] at h1) (aq0 h)
theorem KO (cur:List Value) (z:List Value) (q:Mb->Bool) (l:List Mb) (h1:cur.take (l.length*33)=aj (xY q l l.length)) (hl:l.length*33<=cur.length) (hz:z.length=(l.length - (l.filter q).length)*33) (o:Nat) (ho:o=(l.filter q).length*33) (m:Nat) (hm:m=(l.length - (l.filter q).length)*33):
 (cur.take o++z++cur.drop (o+m)).length=cur.length/\(cur.take o++z++cur.drop (o+m)).take o=aj (l.filter q):=by
 subst ho;subst hm
 have hle:=au2 q l
 obtain ⟨e1,e2⟩:=OD cur z ((l.filter q).length*33) ((l.length - (l.filter q).length)*33) (by rw [← Nat.add_mul];rw [show (l.filter q).length+(l.length - (l.filter q).length)=l.length by omega];exact hl) hz
 refine ⟨e1,e2.trans ?_⟩
 have h9:=aq3 (List.take ((l.filter q).length*33)) h1
 rw [List.take_take,Nat.min_eq_left (Nat.mul_le_mul_right 33 hle),FI] at h9
 exact h9
theorem Vv {w:World} {v:Value} {sz n:Nat} {xs:List Value} (h:a7 w v sz n xs):v.cells=#[v]:=by obtain ⟨a,c,rfl⟩:=h.len;rfl
structure FldT (P:Program) (t:TypeId) (f off:Nat) (tf:TypeId):Prop where
 has:∃ fields fd,P.underlying t=some (.struct fields)/\fields[f]? = some fd/\fd.type=tf/\fd.offset=off
def WQ (w:World) (M:TypeId) (a p:Mb) (l:List Mb) (vf:Value):cX:=λv w'=>∃ vo,v=.agg (aR a p vo vf)/\cd w' w.heap.size M 33 vo l.length (aj l)
def DrR (w:World) (M:TypeId) (a p:Mb) (s f:List Mb):cX:=λv w'=>∃ vs vf,v=.agg (aR a p vs vf)/\St w [.sl vs M 33 s.length (aj s),.sl vf M 33 f.length (aj f)] w'
def Vl (a p:Mb) (l:List Mb) (vf:Value):cX:=λv w=>∃ vo,v=.agg (aR a p vo vf)/\a7 w vo 33 l.length (aj l)
theorem Vl.mono (a p:Mb) (l:List Mb) (vf:Value):qV (Vl a p l vf):=λ_ _ _ ⟨vo,h1,h2⟩ hE=>⟨vo,h1,h2.keep hE⟩
theorem WQ.d {w w':World} {M:TypeId} {a p:Mb} {l:List Mb} {vf v:Value} (h:WQ w M a p l vf v w'):Vl a p l vf v w':=by obtain ⟨vo,h1,h2⟩:=h;exact ⟨vo,h1,a7.of_own h2⟩
def DrD (a p:Mb) (s f:List Mb):cX:=λv w=>∃ vs vf,v=.agg (aR a p vs vf)/\a7 w vs 33 s.length (aj s)/\a7 w vf 33 f.length (aj f)
theorem DrD.mono (a p:Mb) (s f:List Mb):qV (DrD a p s f):=λ_ _ _ ⟨vs,vf,h1,h2,h3⟩ hE=>⟨vs,vf,h1,h2.keep hE,h3.keep hE⟩
theorem DrR.d {w w':World} {M:TypeId} {a p:Mb} {s f:List Mb} {v:Value} (h:DrR w M a p s f v w'):DrD a p s f v w':=by
 obtain ⟨vs,vf,h1,h2⟩:=h
 exact ⟨vs,vf,h1,a7.of_own (h2.getSl 0 rfl),a7.of_own (h2.getSl 1 rfl)⟩
def slc:Option Value->Value
 |some (.slice p n k)=>.slice p n k
 |_=>aq
theorem Pi (o:Option Value):(slc o).oneCell'=true:=by
 unfold slc
 split<;>rfl
def WW (i:Nat):Option Value->Value
 |some (Value.agg c)=>slc (c[i]?)
 |_=>aq
def bh (i:Nat):Value->Value
 |Value.tuple a=>WW i (a[0]?)
 |_=>aq
theorem O0 (i:Nat) (o:Option Value):(WW i o).oneCell'=true:=by
 unfold WW
 split
 ·exact Pi _
 ·rfl
theorem gT (i:Nat) (v:Value):(bh i v).oneCell'=true:=by
 unfold bh
 split
 ·exact O0 _ _
 ·rfl
theorem ud {a p:Mb} {vs vf:Value} {k:Int} {w:World} {sz n:Nat} {xs:List Value} (h:a7 w vs sz n xs):bh 66 (.tuple #[.agg (aR a p vs vf),.int .i64 k])=vs:=by
 obtain ⟨q,c,rfl⟩:=h.len
 have h1:(#[Value.agg (aR a p (.slice q n c) vf),Value.int .i64 k]:Array Value)[0]? = some (Value.agg (aR a p (.slice q n c) vf)):=rfl
 unfold bh
 simp only [h1,WW]
 rw [iQ];rfl
theorem sC {a p:Mb} {vs vf:Value} {k:Int} {w:World} {sz n:Nat} {xs:List Value} (h:a7 w vf sz n xs):bh 67 (.tuple #[.agg (aR a p vs vf),.int .i64 k])=vf:=by
 obtain ⟨q,c,rfl⟩:=h.len
 have h1:(#[Value.agg (aR a p vs (.slice q n c)),Value.int .i64 k]:Array Value)[0]? = some (Value.agg (aR a p vs (.slice q n c))):=rfl
 unfold bh
 simp only [h1,WW]
 rw [jP];rfl
abbrev N3:=Nd × Value × Value
def z3:N3:=(LE,aq,aq)
def Ft (x:N3):List Value:=nR x.1.me x.1.pr x.2.1 x.2.2
def au (l:List N3):List Value:=l.flatMap Ft
theorem lT (x:N3):(Ft x).length=68:=DY _ _ _ _
theorem eZ (l:List N3) (j:Nat) (hj:j<l.length):(((au l).drop (j*68)).take 68).toArray=aR (l.getD j z3).1.me (l.getD j z3).1.pr (l.getD j z3).2.1 (l.getD j z3).2.2:=by
 unfold au
 rw [fS _ 68 lT l j hj,as6,aq8 hj];rfl
def CW (w:World) (x:N3):Prop:=a7 w x.2.1 33 x.1.sc.length (aj x.1.sc)/\a7 w x.2.2 33 x.1.fg.length (aj x.1.fg)
end Go.Proofs.YthmlflaiidhoiaaGreatDoor
namespace Go.Proofs.YthmlflaiidhoiaaGreatDoor
open Go.RowKit Go.ChangeShapes Go.WideShapes Go.ChangeAt
theorem we {H:Type} {enc:TypeId × Value->H} {P:Program} {W:World} {ts t tn ti e:TypeId} {f0 f1:Field} {fuel:Nat} {cs:List Value} {x:DataW H × List MemPlace} (T:IdTy P ti e) (hc:P.cellsOf ti=32) (hce:P.cellsOf e=1) (hn:P.underlying tn=some (.int .i64)) (hcn:P.cellsOf tn=1)
 (hts:P.underlying ts=some (.slice t)) (ht:P.underlying t=some (.struct #[f0,f1])) (h0:f0.type=tn) (h1:f1.type=ti) (o0:f0.offset=0) (o1:f1.offset=1) (hct:P.cellsOf t=33)
 (hf:DataW.trod enc P W 0 (λ_=>true) true fuel ts cs=some x):∃ (v:Value) (ls:List Mb),cs=[v]/\a7 W v 33 ls.length (aj ls):=by
 rcases Go.Deep.open_slice hts hf with ⟨hcs,_⟩|⟨a',len,cap,m,k,D,Pl,hcs,_,hl,_,hm,_,hel⟩
 ·exact ⟨_,[],hcs,rfl,.inl ⟨rfl,rfl⟩⟩
 ·have hml:len<=m:=by rw [hm];split<;>omega
  have each:∀ i,∃ l:Mb,i<len->aX W (a'.add (i*33)) (ar l):=λi=>by
   by_cases hi:i<len
   ·obtain ⟨cs',hc1,hc2⟩:=hel i (by omega)
    obtain ⟨l,rfl⟩:=sX T hc hce hn hcn ht h0 h1 o0 o1 hct hc2
    refine ⟨l,λ_ j u hj=>?_⟩
    rw [hct] at hc1
    obtain ⟨_,hlen,hall⟩:=World.cells?_some hc1
    have hj33:j<33:=by have:=(ax1.1 hj).1;rw [ae] at this;exact this
    have:=hall j hj33
    rw [this,aw9];exact hj
   ·exact ⟨aS,λh9=>ax7 h9 hi⟩
  obtain ⟨L,hL⟩:=Classical.axiomOfChoice each
  refine ⟨_,(List.range len).map L,hcs,?_,.inr ⟨a',cap,by simp,by simpa using hl,?_⟩⟩
  ·rw [fo]
  ·refine oq _ 33 (by decide) cf _ λi hi=>?_
   have hi':i<len:=by simpa using hi
   have h9:((List.range len).map L)[i]=L i:=by simp
   rw [h9]
   exact hL i hi'
theorem PX {cs a b c d:List Value} (hl:cs.length=68) (h0:(cs.drop 0).take 33=a) (h1:(cs.drop 33).take 33=b) (h2:(cs.drop 66).take 1=c) (h3:(cs.drop 67).take 1=d):cs=a++(b++(c++d)):=by
 subst h0;subst h1;subst h2;subst h3
 have e3:(cs.drop 67).take 1=cs.drop 67:=as9 (by rw [at2];omega)
 have e2:(cs.drop 66).take 1++cs.drop 67=cs.drop 66:=by
  have:=as7 1 (cs.drop 66)
  rwa [List.drop_drop] at this
 have e1:(cs.drop 33).take 33++cs.drop 66=cs.drop 33:=by
  have:=as7 33 (cs.drop 33)
  rwa [List.drop_drop] at this
 rw [e3,e2,e1,List.drop_zero,as7]
end Go.Proofs.YthmlflaiidhoiaaGreatDoor
