/- Nodes: which may be, what hearing, following, dropping and pointing make of them, and that what may be stays such; nodes that come in; no Go in it. -/
import Derived.Test.YthggibfkgofncaaGreatRg
set_option linter.unusedVariables false
set_option linter.unusedSimpArgs false
set_option linter.unusedSectionVars false
namespace Go.Proofs.YthggibfkgofncaaGreat
open Go.RowKit
structure Nd where
 me:Mb
 pr:Mb
 sc:List Mb
 fg:List Mb
def u3:Nd:=⟨aT,aT,[],[]⟩
def a8:Value:=.slice none 0 0
def i1 (m p:Mb) (vs vf:Value):List Value:=iV m++(iV p++[vs,vf])
def aC (m p:Mb) (vs vf:Value):Array Value:=(i1 m p vs vf).toArray
theorem tS (m p:Mb) (vs vf:Value):(i1 m p vs vf).length=68:=by simp [i1,cF]
theorem aq (m p:Mb) (vs vf:Value):(aC m p vs vf).size=68:=by simp [aC,tS]
theorem a7 {m p:Mb} {vs vf:Value} (h1:vs.oneCell'=true) (h2:vf.oneCell'=true):∀ v∈(aC m p vs vf).toList,v.oneCell'=true:=fun v hv=>by
 have hv:v∈i1 m p vs vf:=hv
 unfold i1 at hv
 rcases List.mem_append.1 hv with hv|hv
 ·exact iq m v hv
 ·rcases List.mem_append.1 hv with hv|hv
  ·exact iq p v hv
  ·simp only [List.mem_cons,List.not_mem_nil,or_false] at hv
   rcases hv with rfl|rfl
   ·exact h1
   ·exact h2
theorem rS (m p:Mb) (vs vf:Value) (i:Nat):(aC m p vs vf)[i]? = (i1 m p vs vf)[i]? := by simp [aC]
theorem bO (m p:Mb) (vs vf:Value):(aC m p vs vf)[0]? = some (.int .i64 m.1):=rfl
theorem vR (m p:Mb) (vs vf:Value) (i:Nat):(i1 m p vs vf)[33+i]? = (iV p++[vs,vf])[i]? := by
 unfold i1
 rw [List.getElem?_append_right (by rw [cF];omega),cF,Nat.add_sub_cancel_left]
theorem pG (m p:Mb) (vs vf:Value) (i:Nat):(i1 m p vs vf)[66+i]? = [vs,vf][i]? := by
 rw [show 66+i=33+(33+i) by omega,vR,List.getElem?_append_right (by rw [cF];omega),cF,Nat.add_sub_cancel_left]
theorem fS (m p:Mb) (vs vf:Value):(aC m p vs vf)[33]? = some (.int .i64 p.1):=by rw [rS];exact vR m p vs vf 0
theorem bL (m p:Mb) (vs vf:Value):(aC m p vs vf)[66]? = some vs:=by rw [rS];exact pG m p vs vf 0
theorem cT (m p:Mb) (vs vf:Value):(aC m p vs vf)[67]? = some vf:=by rw [rS];exact pG m p vs vf 1
theorem j9 (l:List Value) (o n:Nat) (D:List Value) (h:(l.drop o).take n=D):l.toArray.extract o (o+n)=D.toArray:=by
 apply Array.ext'
 rw [Array.toList_extract,List.extract_eq_take_drop,Nat.add_sub_cancel_left]
 exact h
theorem bT (m p:Mb) (vs vf:Value):(aC m p vs vf).extract 0 (0+33)=aw m:=j9 _ _ _ _ (by
 rw [List.drop_zero];unfold i1;rw [List.take_left' (cF m)])
theorem mJ (m p:Mb) (vs vf:Value) (i:Nat) (h:i≤33):(i1 m p vs vf).drop (33+i)=(iV p).drop i++[vs,vf]:=by
 unfold i1
 rw [← List.drop_drop,List.drop_left' (cF m),List.drop_append_of_le_length (by rw [cF];exact h)]
theorem cb (m p:Mb) (vs vf:Value):(aC m p vs vf).extract 33 (33+33)=aw p:=j9 _ _ _ _ (by
 rw [mJ m p vs vf 0 (by omega),List.drop_zero,List.take_left' (cF p)])
theorem pS (m:Mb):(iV m).drop 1=(bA m.2).toList:=rfl
theorem da (m p:Mb) (vs vf:Value):(aC m p vs vf).extract 1 (1+32)=bA m.2:=j9 _ _ _ (bA m.2).toList (by
 unfold i1
 rw [List.drop_append_of_le_length (by rw [cF];omega),pS,List.take_left' (by rw [Array.length_toList,aK])])
theorem iO (m p:Mb) (vs vf:Value):(aC m p vs vf).extract 34 (34+32)=bA p.2:=j9 _ _ _ (bA p.2).toList (by
 rw [show 34=33+1 from rfl,mJ m p vs vf 1 (by omega),pS,List.take_left' (by rw [Array.length_toList,aK])])
theorem ek (m p:Mb) (vs vf v:Value):(aC m p vs vf).setIfInBounds 66 v=aC m p v vf:=by
 apply Array.ext'
 rw [Array.toList_setIfInBounds]
 show (i1 m p vs vf).set 66 v=i1 m p v vf
 unfold i1
 rw [List.set_append_right _ _ (by rw [cF];omega),List.set_append_right _ _ (by rw [cF,cF];omega),cF,cF]
 rfl
theorem iz (m p:Mb) (vs vf v:Value):(aC m p vs vf).setIfInBounds 67 v=aC m p vs v:=by
 apply Array.ext'
 rw [Array.toList_setIfInBounds]
 show (i1 m p vs vf).set 67 v=i1 m p vs v
 unfold i1
 rw [List.set_append_right _ _ (by rw [cF];omega),List.set_append_right _ _ (by rw [cF,cF];omega),cF,cF]
 rfl
theorem fK (m p q:Mb) (vs vf:Value):((aC m p vs vf).toList.take 33++(aw q).toList++(aC m p vs vf).toList.drop (33+(aw q).size)).toArray=aC m q vs vf:=by
 rw [ak]
 show ((i1 m p vs vf).take 33++iV q++(i1 m p vs vf).drop (33+33)).toArray=(i1 m q vs vf).toArray
 rw [mJ m p vs vf 33 (Nat.le_refl _),List.drop_of_length_le (by rw [cF];exact Nat.le_refl _),List.nil_append]
 unfold i1
 rw [List.take_left' (cF m),List.append_assoc]
theorem co {w:World} {v:Value} {sz n:Nat} {xs:List Value} (h:bq w v sz n xs):v.oneCell'=true:=by
 obtain ⟨a,c,rfl⟩:=h.len
 rfl
def CF:List (List Value):=[.int .i64 0::List.replicate 32 (.int .u8 0),.int .i64 0::List.replicate 32 (.int .u8 0),[.slice none 0 0],[.slice none 0 0]]
theorem mT:iV aT=Value.int .i64 0::List.replicate 32 (Value.int .u8 0):=by
 have:=congrArg Array.toList oL
 exact this
theorem zK:aC aT aT a8 a8=CF.flatten.toArray:=by
 unfold aC i1
 rw [mT];rfl
section
variable {P:Program} {ρ:Operand→Value} {d:Option Tmp} {ty:TypeId} {pos:String} {af:Array Edge} {g:Option (Nat × Bool)} {x y z:Operand} {t:TypeId}
theorem eC (S:Stt P t CF):ca P ⟨d,.build t #[],ty,pos,af,g⟩ ρ (.agg (aC aT aT a8 a8)):=by
 have:=ew (P:=P) (ρ:=ρ) (d:=d) (ty:=ty) (pos:=pos) (af:=af) (g:=g) (parts:=#[]) S [] (by simp) (fun i v hm=>by simp at hm) (D:=i1 aT aT a8 a8) (by unfold i1;rw [mT];rfl)
 exact this
theorem oW {m p:Mb} {v:Value} (S:Stt P t CF) (hv:v.cells.size=1) (hc:v.cells.toList=[v]) (hx:ρ x=.agg (aw m)) (hy:ρ y=.agg (aw p)) (hz:ρ z=v):ca P ⟨d,.build t #[(0,x),(1,y),(2,z)],ty,pos,af,g⟩ ρ (.agg (aC m p v a8)):=by
 have:=ew (P:=P) (ρ:=ρ) (d:=d) (ty:=ty) (pos:=pos) (af:=af) (g:=g) (parts:=#[(0,x),(1,y),(2,z)]) S [(0,.agg (aw m)),(1,.agg (aw p)),(2,v)] (by simp [hx,hy,hz]) (fun i u hm=>by
  simp only [List.mem_cons,Prod.mk.injEq,List.not_mem_nil,or_false] at hm
  rcases hm with ⟨rfl,rfl⟩|⟨rfl,rfl⟩|⟨rfl,rfl⟩
  ·exact ⟨_,rfl,by show (aw m).size=_;rw [ak];rfl⟩
  ·exact ⟨_,rfl,by show (aw p).size=_;rw [ak];rfl⟩
  ·exact ⟨_,rfl,hv⟩) (D:=i1 m p v a8) (by
   show (aw m).toList++((aw p).toList++(v.cells.toList++([a8]++[])))=_
   rw [hc];rfl)
 exact this
end
end Go.Proofs.YthggibfkgofncaaGreat
namespace Go.Proofs.YthggibfkgofncaaGreat
open Go.RowKit
def dT (m:Mb):Bool:=decide (0≤m.1) && decide (m.1<16)
theorem gO {m:Mb}:dT m=true↔0≤m.1∧m.1<16:=by unfold dT;rw [Bool.and_eq_true,decide_eq_true_eq,decide_eq_true_eq]
theorem AL {m:Mb} (h:decide (0≤m.1)=false):dT m=false:=by unfold dT;rw [h];rfl
theorem Aa {m:Mb} (h:decide (0≤m.1)=true):dT m=decide (m.1<16):=by unfold dT;rw [h];rfl
def ia (l:List Mb) (no:Int):Bool:=l.any fun x=>decide (x.1=no)
theorem px {l:List Mb} {no:Int}:ia l no=true↔∃ x∈l,x.1=no:=by
 unfold ia;rw [List.any_eq_true]
 exact ⟨fun ⟨x,h,e⟩=>⟨x,h,of_decide_eq_true e⟩,fun ⟨x,h,e⟩=>⟨x,h,decide_eq_true e⟩⟩
theorem pi {l:List Mb} {no:Int}:ia l no=false↔∀ x∈l,x.1≠no:=by
 rw [← Bool.not_eq_true,px]
 exact ⟨fun h x hx e=>h ⟨x,hx,e⟩,fun h ⟨x,hx,e⟩=>h x hx e⟩
def i0 (l:List Mb) (no:Int) (d:Nat):Bool := !dT (l.getD d aT) || (decide ((l.getD d aT).1=no) || ia (l.take d) (l.getD d aT).1)
def iA (l:List Mb) (no:Int):Bool:=(List.range l.length).all fun d => !i0 l no d
structure Oth (l:List Mb) (no:Int):Prop where
 may:∀ x∈l,0≤x.1∧x.1<16
 ne:∀ x∈l,x.1≠no
 nd:l.Pairwise fun a b=>a.1≠b.1
theorem kq {l:List Mb} {no:Int} {d:Nat}:i0 l no d=false↔dT (l.getD d aT)=true∧(l.getD d aT).1≠no∧∀ x∈l.take d,x.1≠(l.getD d aT).1:=by
 unfold i0
 rw [Bool.or_eq_false_iff,Bool.or_eq_false_iff,Bool.not_eq_false',decide_eq_false_iff_not,pi]
theorem xS {l:List Mb} {no:Int} {d:Nat} (h:dT (l.getD d aT)=false):i0 l no d=true:=by unfold i0;rw [h];rfl
theorem xB {l:List Mb} {no:Int} {d:Nat} (h:decide ((l.getD d aT).1=no)=true):i0 l no d=true:=by unfold i0;rw [h];simp
theorem oY {l:List Mb} {no:Int} {d:Nat} (h:dT (l.getD d aT)=true) (h1:decide ((l.getD d aT).1=no)=false):i0 l no d=ia (l.take d) (l.getD d aT).1:=by unfold i0;rw [h,h1];rfl
theorem oJ {l:List Mb} {no:Int}:iA l no=true↔∀ d,d<l.length→i0 l no d=false:=by
 unfold iA;rw [List.all_eq_true]
 exact ⟨fun h d hd=>by have:=h d (List.mem_range.2 hd);simpa using this,fun h d hd=>by rw [h d (List.mem_range.1 hd)];rfl⟩
theorem yl {l:List Mb} {no:Int}:iA l no=true↔Oth l no:=by
 rw [oJ]
 constructor
 ·intro h
  refine ⟨fun x hx=>?_,fun x hx=>?_,?_⟩
  ·obtain ⟨j,hj,rfl⟩:=jN hx
   exact gO.1 (kq.1 (h j hj)).1
  ·obtain ⟨j,hj,rfl⟩:=jN hx
   exact(kq.1 (h j hj)).2.1
  ·rw [List.pairwise_iff_getElem]
   intro i j hi hj hij
   have h9:=(kq.1 (h j hj)).2.2 l[i] (List.mem_iff_getElem.2 ⟨i,by rw [List.length_take];omega,List.getElem_take⟩)
   rwa [← nB hj] at h9
 ·rintro ⟨h1,h2,h3⟩ d hd
  refine kq.2 ⟨gO.2 (h1 _ (eA hd)),h2 _ (eA hd),fun x hx=>?_⟩
  obtain ⟨i,hi,rfl⟩:=List.mem_iff_getElem.1 hx
  rw [List.length_take] at hi
  rw [List.getElem_take,← nB hd]
  exact List.pairwise_iff_getElem.1 h3 i d (by omega) hd (by omega)
theorem gn {l:List Mb} {no:Int} {d:Nat} (hd:d<l.length) (h:i0 l no d=true):iA l no=false:=by
 rw [← Bool.not_eq_true,oJ];intro h9;rw [h9 d hd] at h;cases h
theorem pT {l:List Mb} {no:Int} {k:Nat} (hk:l.length≤k) (h:∀ j,j<k→i0 l no j=false):iA l no=true:=oJ.2 fun d hd=>h d (by omega)
def jz (p:Mb) (no:Int):Bool:=decide (p=de) || (dT p && decide (p.1≠no))
def iu (l:List Mb) (m:Mb):Bool:=decide (l=[m]) || (decide (1≤l.length) && (decide (l.length≤4) && iA l m.1))
def jP (l:List Mb) (no:Int):Bool:=decide (l.length≤16) && iA l no
def cy (n:Nd):Bool:=dT n.me && (jz n.pr n.me.1 && (iu n.sc n.me && jP n.fg n.me.1))
theorem tV {p:Mb} {no:Int} (h:decide (p=de)=true):jz p no=true:=by unfold jz;rw [h];rfl
theorem Ae {p:Mb} {no:Int} (h:decide (p=de)=false) (h1:dT p=false):jz p no=false:=by unfold jz;rw [h,h1];rfl
theorem tq {p:Mb} {no:Int} (h:decide (p=de)=false) (h1:dT p=true):jz p no=decide (p.1≠no):=by unfold jz;rw [h,h1];rfl
theorem qh {l:List Mb} {m:Mb}:l=[m]↔l.length=1∧l.getD 0 aT=m:=by
 constructor
 ·rintro rfl;exact ⟨rfl,rfl⟩
 ·rintro ⟨h1,h2⟩
  obtain ⟨x,rfl⟩:=List.length_eq_one_iff.1 h1
  have h2:x=m:=h2
  rw [h2]
theorem vP {l:List Mb} {m:Mb} (h:decide (l.length=1)=true) (h1:decide (l.getD 0 aT=m)=true):iu l m=true:=by
 unfold iu;rw [decide_eq_true (qh.2 ⟨of_decide_eq_true h,of_decide_eq_true h1⟩)];rfl
theorem wN {l:List Mb} {m:Mb} (h:¬ (l.length=1∧l.getD 0 aT=m)):iu l m=(decide (1≤l.length) && (decide (l.length≤4) && iA l m.1)):=by
 unfold iu;rw [decide_eq_false fun e=>h (qh.1 e)];rfl
theorem wJ {l:List Mb} {m:Mb} (h:¬ (l.length=1∧l.getD 0 aT=m)) (h0:decide (1≤l.length)=false):iu l m=false:=by rw [wN h,h0];rfl
theorem x1 {l:List Mb} {m:Mb} (h:¬ (l.length=1∧l.getD 0 aT=m)) (h0:decide (l.length≤4)=false):iu l m=false:=by rw [wN h,h0,Bool.false_and,Bool.and_false]
theorem w8 {l:List Mb} {m:Mb} (h:¬ (l.length=1∧l.getD 0 aT=m)) (h0:decide (1≤l.length)=true) (h1:decide (l.length≤4)=true):iu l m=iA l m.1:=by rw [wN h,h0,h1];rfl
theorem Ac {l:List Mb} {no:Int} (h:decide (l.length≤16)=false):jP l no=false:=by unfold jP;rw [h];rfl
theorem An {l:List Mb} {no:Int} (h:decide (l.length≤16)=true):jP l no=iA l no:=by unfold jP;rw [h];rfl
theorem sM {n:Nd} (h:dT n.me=false):cy n=false:=by unfold cy;rw [h];rfl
theorem oS {n:Nd} (h:jz n.pr n.me.1=false):cy n=false:=by unfold cy;rw [h,Bool.false_and,Bool.and_false]
theorem j1 {n:Nd} (h:iu n.sc n.me=false):cy n=false:=by unfold cy;rw [h,Bool.false_and,Bool.and_false,Bool.and_false]
theorem y9 {n:Nd} (h:dT n.me=true) (h1:jz n.pr n.me.1=true) (h2:iu n.sc n.me=true):cy n=jP n.fg n.me.1:=by unfold cy;rw [h,h1,h2];rfl
structure RN (n:Nd):Prop where
 me:0≤n.me.1∧n.me.1<16
 pr:n.pr=de∨((0≤n.pr.1∧n.pr.1<16)∧n.pr.1≠n.me.1)
 sc:n.sc=[n.me]∨(1≤n.sc.length∧n.sc.length≤4∧Oth n.sc n.me.1)
 fg:n.fg.length≤16∧Oth n.fg n.me.1
theorem ik {n:Nd}:cy n=true↔RN n:=by
 unfold cy jz iu jP
 simp only [Bool.and_eq_true,Bool.or_eq_true,decide_eq_true_eq,gO,yl]
 exact ⟨fun ⟨h1,h2,h3,h4⟩=>⟨h1,h2,h3,h4⟩,fun ⟨h1,h2,h3,h4⟩=>⟨h1,h2,h3,h4⟩⟩
theorem RN.len {n:Nd} (h:RN n):1≤n.sc.length∧n.sc.length≤4:=by
 rcases h.sc with h|h
 ·rw [h];exact ⟨Nat.le_refl _,by show 1≤4;omega⟩
 ·exact ⟨h.1,h.2.1⟩
def gN (n:Nd) (x:Mb):Mb:=bif decide (x.1≠n.me.1) && (decide (x.2≠n.me.2) && (decide (n.pr=de) || nk x.2 n.pr.2 n.me.2)) then x else n.pr
def BY (n:Nd) (x:Mb):Int:=bif cy n && dT x then 0 else 1
def Bv (n:Nd) (x:Mb):Nd:=bif cy n && dT x then {n with pr:=gN n x} else u3
theorem xN {n:Nd} {x:Mb} (h:cy n=false):Bv n x=u3∧BY n x=1:=by unfold Bv BY;rw [h];exact ⟨rfl,rfl⟩
theorem wC {n:Nd} {x:Mb} (h:dT x=false):Bv n x=u3∧BY n x=1:=by unfold Bv BY;rw [h,Bool.and_false];exact ⟨rfl,rfl⟩
theorem g8 {n:Nd} {x:Mb} (h:cy n=true) (h1:dT x=true):Bv n x={n with pr:=gN n x}∧BY n x=0:=by unfold Bv BY;rw [h,h1];exact ⟨rfl,rfl⟩
theorem xw {n:Nd} {x:Mb} (h:decide (x.1≠n.me.1)=false):gN n x=n.pr:=by unfold gN;rw [h];rfl
theorem A1 {n:Nd} {x:Mb} (h:decide (x.2≠n.me.2)=false):gN n x=n.pr:=by unfold gN;rw [h,Bool.false_and,Bool.and_false];rfl
theorem Ao {n:Nd} {x:Mb} (h:decide (x.1≠n.me.1)=true) (h1:decide (x.2≠n.me.2)=true) (h2:decide (n.pr=de)=true):gN n x=x:=by unfold gN;rw [h,h1,h2];rfl
theorem Aj {n:Nd} {x:Mb} (h:decide (x.1≠n.me.1)=true) (h1:decide (x.2≠n.me.2)=true) (h2:decide (n.pr=de)=false) (h3:nk x.2 n.pr.2 n.me.2=true):gN n x=x:=by unfold gN;rw [h,h1,h2,h3];rfl
theorem AV {n:Nd} {x:Mb} (h2:decide (n.pr=de)=false) (h3:nk x.2 n.pr.2 n.me.2=false):gN n x=n.pr:=by unfold gN;rw [h2,h3,Bool.or_self,Bool.and_false,Bool.and_false];rfl
def kV (me:Mb) (s:Nd):Bool := !decide (s.pr=de) && (!decide (s.pr.1=me.1) && (!decide (s.pr.2=me.2) && (!decide (s.pr.2=s.me.2) && nk s.pr.2 me.2 s.me.2)))
def kM (me:Mb) (s:Nd):Mb:=bif kV me s then s.pr else s.me
def cD (no:Int) (l:List Mb):List Mb:=l.takeWhile fun x=>decide (x.1≠no)
def dF (acc:List Mb) (x:Mb):List Mb:=bif decide (acc.length<4) && !ia acc x.1 then acc++[x] else acc
def dw (l:List Mb):List Mb:=l.foldl dF []
def ky (l:List Mb) (me:Mb):List Mb:=bif decide (l.length=0) then [me] else l
def d3 (n s:Nd):List Mb:=kM n.me s::s.me::s.sc
def dx (n s:Nd):List Mb:=ky (dw (cD n.me.1 (d3 n s))) n.me
def Be (n s:Nd):Int:=bif cy n && cy s then 0 else 1
def B5 (n s:Nd):Nd:=bif cy n && cy s then {n with sc:=dx n s} else u3
theorem wD {n s:Nd} (h:cy n=false):B5 n s=u3∧Be n s=1:=by unfold B5 Be;rw [h];exact ⟨rfl,rfl⟩
theorem wx {n s:Nd} (h:cy s=false):B5 n s=u3∧Be n s=1:=by unfold B5 Be;rw [h,Bool.and_false];exact ⟨rfl,rfl⟩
theorem sZ {n s:Nd} (h:cy n=true) (h1:cy s=true):B5 n s={n with sc:=dx n s}∧Be n s=0:=by unfold B5 Be;rw [h,h1];exact ⟨rfl,rfl⟩
theorem El {me:Mb} {s:Nd} (h:decide (s.pr=de)=true):kM me s=s.me:=by unfold kM kV;rw [h];rfl
theorem Em {me:Mb} {s:Nd} (h:decide (s.pr.1=me.1)=true):kM me s=s.me:=by unfold kM kV;rw [h,Bool.not_true,Bool.false_and,Bool.and_false];rfl
theorem D8 {me:Mb} {s:Nd} (h:decide (s.pr.2=me.2)=true):kM me s=s.me:=by unfold kM kV;rw [h,Bool.not_true,Bool.false_and,Bool.and_false,Bool.and_false];rfl
theorem Ed {me:Mb} {s:Nd} (h:decide (s.pr.2=s.me.2)=true):kM me s=s.me:=by unfold kM kV;rw [h,Bool.not_true,Bool.false_and,Bool.and_false,Bool.and_false,Bool.and_false];rfl
theorem Ev {me:Mb} {s:Nd} (h:nk s.pr.2 me.2 s.me.2=false):kM me s=s.me:=by unfold kM kV;rw [h,Bool.and_false,Bool.and_false,Bool.and_false,Bool.and_false];rfl
theorem EC {me:Mb} {s:Nd} (h:decide (s.pr=de)=false) (h1:decide (s.pr.1=me.1)=false) (h2:decide (s.pr.2=me.2)=false) (h3:decide (s.pr.2=s.me.2)=false) (h4:nk s.pr.2 me.2 s.me.2=true):kM me s=s.pr:=by unfold kM kV;rw [h,h1,h2,h3,h4];rfl
theorem km {l:List Mb} {me:Mb} (h:l.length=0):ky l me=[me]:=by unfold ky;rw [decide_eq_true h];rfl
theorem jd {l:List Mb} {me:Mb} (h:¬ l.length=0):ky l me=l:=by unfold ky;rw [decide_eq_false h];rfl
theorem qH {acc:List Mb} {x:Mb} (h:acc.length<4) (h1:ia acc x.1=false):dF acc x=acc++[x]:=by unfold dF;rw [decide_eq_true h,h1];rfl
theorem kB {acc:List Mb} {x:Mb} (h:¬ acc.length<4):dF acc x=acc:=by unfold dF;rw [decide_eq_false h];rfl
theorem kG {acc:List Mb} {x:Mb} (h:ia acc x.1=true):dF acc x=acc:=by unfold dF;rw [h,Bool.not_true,Bool.and_false];rfl
theorem uJ (l:List Mb) (x:Mb):dw (l++[x])=dF (dw l) x:=by unfold dw;rw [List.foldl_append];rfl
theorem fN {l:List Mb} {d:Nat} (hd:d<l.length):dw (l.take (d+1))=dF (dw (l.take d)) (l.getD d aT):=by rw [j7 hd,uJ]
theorem y3 (acc:List Mb) (x:Mb):(dF acc x).length≤acc.length+1:=by
 unfold dF
 cases decide (acc.length<4) && !ia acc x.1 with
 |true=>show (acc++[x]).length≤_;rw [List.length_append];exact Nat.le_refl _
 |false=>exact Nat.le_succ _
theorem CX {acc:List Mb} (x:Mb) (h:acc.length≤4):(dF acc x).length≤4:=by
 by_cases h4:acc.length<4
 ·have:=y3 acc x;omega
 ·rw [kB h4];exact h
theorem vI:∀ (l acc:List Mb),acc.length≤4→(l.foldl dF acc).length≤4
 |[],_,h=>h
 |x::l,acc,h=>vI l _ (CX x h)
theorem oe (l:List Mb):(dw l).length≤4:=vI l [] (Nat.zero_le _)
theorem Bx {acc:List Mb} {x y:Mb} (h:y∈dF acc x):y∈acc∨y=x:=by
 unfold dF at h
 cases hb:decide (acc.length<4) && !ia acc x.1 with
 |true=>rw [hb] at h;rcases List.mem_append.1 h with h|h
        ·exact .inl h
        ·exact .inr (List.mem_singleton.1 h)
 |false=>rw [hb] at h;exact .inl h
theorem Bg {acc:List Mb} (x:Mb) (h:acc.Pairwise fun a b=>a.1≠b.1):(dF acc x).Pairwise fun a b=>a.1≠b.1:=by
 unfold dF
 cases hb:decide (acc.length<4) && !ia acc x.1 with
 |false=>exact h
 |true=>
  rw [Bool.and_eq_true] at hb
  have h2:=pi.1 (by simpa using hb.2)
  show (acc++[x]).Pairwise _
  rw [List.pairwise_append]
  exact ⟨h,List.pairwise_singleton _ _,fun a ha b hb9=>by rw [List.mem_singleton.1 hb9];exact h2 a ha⟩
theorem o3:∀ (l acc:List Mb) {y:Mb},y∈l.foldl dF acc→y∈acc∨y∈l
 |[],_,_,h=>.inl h
 |x::l,acc,y,h=>by
  rcases o3 l _ h with h|h
  ·rcases Bx h with h|h
   ·exact .inl h
   ·exact .inr (by rw [h];exact List.mem_cons_self)
  ·exact .inr (List.mem_cons_of_mem _ h)
theorem sI:∀ (l acc:List Mb),(acc.Pairwise fun a b=>a.1≠b.1)→((l.foldl dF acc).Pairwise fun a b=>a.1≠b.1)
 |[],_,h=>h
 |x::l,_,h=>sI l _ (Bg x h)
theorem jM {no:Int} {l:List Mb} {x:Mb} (h:x∈cD no l):x∈l∧x.1≠no:=by
 refine ⟨(List.takeWhile_sublist _).subset h,?_⟩
 unfold cD at h
 have:=List.all_eq_true.1 (List.all_takeWhile (p:=fun x:Mb=>decide (x.1≠no)) (l:=l)) x h
 exact of_decide_eq_true this
theorem tg (no:Int) (l:List Mb):(cD no l).length≤l.length:=(List.takeWhile_sublist _).length_le
theorem xm {a b:List Mb} (h:a <+: b) {d:Nat} (hd:d<a.length):a.getD d aT=b.getD d aT:=by
 obtain ⟨r,rfl⟩:=h
 rw [List.getD_eq_getElem?_getD,List.getD_eq_getElem?_getD,List.getElem?_append_left hd]
theorem fX {no:Int} {l:List Mb} {d:Nat} (hd:d<(cD no l).length):(cD no l).getD d aT=l.getD d aT:=xm (List.takeWhile_prefix _) hd
theorem n3 {no:Int}:∀ {l:List Mb} {d:Nat},d<l.length→(∀ j,j<d→(l.getD j aT).1≠no)→(l.getD d aT).1≠no→d<(cD no l).length
 |[],_,h,_,_=>by simp at h
 |x::l,0,_,_,h2=>by
  have h2:x.1≠no:=h2
  unfold cD;rw [List.takeWhile_cons,if_pos (decide_eq_true h2)];exact Nat.zero_lt_succ _
 |x::l,d+1,hd,h1,h2=>by
  have h0:x.1≠no:=h1 0 (Nat.zero_lt_succ _)
  unfold cD;rw [List.takeWhile_cons,if_pos (decide_eq_true h0)]
  have:=n3 (l:=l) (d:=d) (by simpa using hd) (fun j hj=>h1 (j+1) (Nat.succ_lt_succ hj)) h2
  exact Nat.succ_lt_succ this
theorem kL {no:Int} {l:List Mb} {d:Nat} (h2:(l.getD d aT).1=no) (hd:d<l.length):(cD no l).length≤d:=by
 rcases Nat.lt_or_ge d (cD no l).length with h|h
 ·have h3:=(jM (eA h)).2
  rw [fX h] at h3
  exact absurd h2 h3
 ·exact h
def c7 (n s:Nd):List Mb:=bif kV n.me s then s.pr::s.me::s.sc else s.me::s.sc
theorem rN (x:Mb) (acc:List Mb):dF (dF acc x) x=dF acc x:=by
 by_cases h4:acc.length<4
 ·cases hb:ia acc x.1 with
  |true=>rw [kG hb,kG hb]
  |false=>
   rw [qH h4 hb]
   exact kG (px.2 ⟨x,by simp,rfl⟩)
 ·rw [kB h4,kB h4]
theorem wb (n s:Nd):dw (cD n.me.1 (d3 n s))=dw (cD n.me.1 (c7 n s)):=by
 unfold d3 c7 kM
 cases kV n.me s with
 |true=>rfl
 |false=>
  show dw (cD n.me.1 (s.me::s.me::s.sc))=dw (cD n.me.1 (s.me::s.sc))
  unfold cD
  by_cases h:s.me.1=n.me.1
  ·have h9:¬ (decide (s.me.1≠n.me.1)=true):=by simpa using h
   rw [List.takeWhile_cons,if_neg h9,List.takeWhile_cons,if_neg h9]
  ·have h9:decide (s.me.1≠n.me.1)=true:=by simpa using h
   rw [List.takeWhile_cons,if_pos h9,List.takeWhile_cons,if_pos h9]
   show (List.takeWhile _ s.sc).foldl dF (dF (dF [] s.me) s.me)=(List.takeWhile _ s.sc).foldl dF (dF [] s.me)
   rw [rN]
def dX (nos:List Int) (x:Mb):Bool:=nos.any fun no=>decide (no=x.1)
theorem pN {nos:List Int} {x:Mb}:dX nos x=true↔x.1∈nos:=by
 unfold dX;rw [List.any_eq_true]
 exact ⟨fun ⟨k,h,e⟩=>by rw [← of_decide_eq_true e];exact h,fun h=>⟨x.1,h,decide_eq_true rfl⟩⟩
def dS (l:List Mb) (nos:List Int):List Mb:=l.filter fun x => !dX nos x
def tz (n:Nd) (nos:List Int):Mb:=bif dX nos n.pr then de else n.pr
def Ct (n:Nd):Int:=bif cy n then 0 else 1
def Cu (n:Nd) (nos:List Int):Nd:=bif cy n then ⟨n.me,tz n nos,ky (dS n.sc nos) n.me,dS n.fg nos⟩ else u3
theorem A2 {n:Nd} (nos:List Int) (h:cy n=false):Cu n nos=u3∧Ct n=1:=by unfold Cu Ct;rw [h];exact ⟨rfl,rfl⟩
theorem nY {n:Nd} (nos:List Int) (h:cy n=true):Cu n nos=⟨n.me,tz n nos,ky (dS n.sc nos) n.me,dS n.fg nos⟩∧Ct n=0:=by unfold Cu Ct;rw [h];exact ⟨rfl,rfl⟩
theorem Ai {n:Nd} {nos:List Int} (h:dX nos n.pr=true):tz n nos=de:=by unfold tz;rw [h];rfl
theorem As {n:Nd} {nos:List Int} (h:dX nos n.pr=false):tz n nos=n.pr:=by unfold tz;rw [h];rfl
def ib (nos:List Int) (no:Int) (x:Mb):Bool:=nos.any fun k=>decide (k=x.1) && decide (k≠no)
def dh (l:List Mb) (nos:List Int) (no:Int):List Mb:=l.filter fun x => !ib nos no x
theorem nN {nos:List Int} {no:Int} {x:Mb}:ib nos no x=true↔x.1∈nos∧x.1≠no:=by
 unfold ib;rw [List.any_eq_true]
 constructor
 ·rintro ⟨k,h,e⟩
  rw [Bool.and_eq_true,decide_eq_true_eq,decide_eq_true_eq] at e
  obtain ⟨rfl,e2⟩:=e
  exact ⟨h,e2⟩
 ·rintro ⟨h,e⟩
  exact ⟨x.1,h,by rw [decide_eq_true rfl,decide_eq_true e];rfl⟩
theorem xP {nos:List Int} {no:Int} {x:Mb} (h:x.1≠no):ib nos no x=dX nos x:=by
 rw [Bool.eq_iff_iff,nN,pN];exact and_iff_left h
theorem uZ {nos:List Int} {x:Mb}:ib nos x.1 x=false:=by
 rw [← Bool.not_eq_true,nN];exact fun h=>h.2 rfl
theorem mP {l:List Mb} {nos:List Int} {no:Int} (h:∀ x∈l,x.1≠no):dh l nos no=dS l nos:=List.filter_congr fun x hx=>by rw [xP (h x hx)]
theorem zE {n:Nd} (h:RN n) (nos:List Int):ky (dh n.sc nos n.me.1) n.me=ky (dS n.sc nos) n.me:=by
 rcases h.sc with h9|h9
 ·rw [h9]
  have h1:dh [n.me] nos n.me.1=[n.me]:=by
   unfold dh;rw [List.filter_cons,uZ];rfl
  rw [h1,jd (by show ¬ (1=0);omega)]
  cases hb:dX nos n.me with
  |true=>rw [show dS [n.me] nos=[] by unfold dS;rw [List.filter_cons,hb];rfl];rfl
  |false=>rw [show dS [n.me] nos=[n.me] by unfold dS;rw [List.filter_cons,hb];rfl];rfl
 ·rw [mP h9.2.2.ne]
theorem yo {n:Nd} (h:RN n) (nos:List Int):dh n.fg nos n.me.1=dS n.fg nos:=mP h.fg.2.ne
def yj (n:Nd) (nos:List Int):Mb:=bif !decide (n.pr=de) && decide ((dh [n.pr] nos n.me.1).length=0) then de else n.pr
theorem zA {n:Nd} (h:RN n) (nos:List Int):yj n nos=tz n nos:=by
 unfold yj tz
 rcases h.pr with h9|h9
 ·rw [h9,decide_eq_true rfl]
  cases dX nos de<;>rfl
 ·have hne:decide (n.pr=de)=false:=decide_eq_false fun e=>by rw [e] at h9;exact absurd h9.1.1 (by decide)
  rw [hne]
  have h1:dh [n.pr] nos n.me.1=dS [n.pr] nos:=mP fun x hx=>by rw [List.mem_singleton.1 hx];exact h9.2
  rw [h1]
  unfold dS
  rw [List.filter_cons]
  cases dX nos n.pr<;>rfl
theorem Oth.filter {l:List Mb} {no:Int} (h:Oth l no) (p:Mb→Bool):Oth (l.filter p) no:=
 ⟨fun x hx=>h.may x ((List.mem_filter.1 hx).1),fun x hx=>h.ne x ((List.mem_filter.1 hx).1),h.nd.filter p⟩
theorem z1 {n:Nd} {x:Mb} (h:RN n) (hx:dT x=true):RN {n with pr:=gN n x}:=by
 refine ⟨h.me,?_,h.sc,h.fg⟩
 show gN n x=de∨_
 cases h0:decide (x.1≠n.me.1) with
 |false=>show gN n x=de∨((0≤(gN n x).1∧(gN n x).1<16)∧(gN n x).1≠n.me.1);rw [xw h0];exact h.pr
 |true=>
  show gN n x=de∨((0≤(gN n x).1∧(gN n x).1<16)∧(gN n x).1≠n.me.1)
  have hc:gN n x=x∨gN n x=n.pr:=by
   unfold gN
   cases decide (x.1≠n.me.1) && (decide (x.2≠n.me.2) && (decide (n.pr=de) || nk x.2 n.pr.2 n.me.2)) with
   |true=>exact .inl rfl
   |false=>exact .inr rfl
  rcases hc with e|e
  ·rw [e];exact .inr ⟨gO.1 hx,of_decide_eq_true h0⟩
  ·rw [e];exact h.pr
theorem Bc {n s:Nd} (hs:RN s):0≤(kM n.me s).1∧(kM n.me s).1<16:=by
 unfold kM
 cases hb:kV n.me s with
 |false=>exact hs.me
 |true=>
  show 0≤s.pr.1∧s.pr.1<16
  rcases hs.pr with h|h
  ·unfold kV at hb;rw [h,decide_eq_true rfl] at hb;cases hb
  ·exact h.1
theorem sr {n s:Nd} (hs:RN s) {x:Mb} (h:x∈d3 n s):0≤x.1∧x.1<16:=by
 unfold d3 at h
 rcases List.mem_cons.1 h with rfl|h
 ·exact Bc hs
 ·rcases List.mem_cons.1 h with rfl|h
  ·exact hs.me
  ·rcases hs.sc with h9|h9
   ·rw [h9,List.mem_singleton] at h;rw [h];exact hs.me
   ·exact h9.2.2.may x h
theorem yE {n s:Nd} (hs:RN s):Oth (dw (cD n.me.1 (d3 n s))) n.me.1:=by
 have hin:∀ {y:Mb},y∈dw (cD n.me.1 (d3 n s))→y∈cD n.me.1 (d3 n s):=fun h=>by
  rcases o3 _ [] h with h|h
  ·cases h
  ·exact h
 exact ⟨fun x hx=>sr hs (jM (hin hx)).1,fun x hx=>(jM (hin hx)).2,sI _ [] List.Pairwise.nil⟩
theorem sA {n:Nd} {l:List Mb} (h:Oth l n.me.1) (h4:l.length≤4):ky l n.me=[n.me]∨(1≤(ky l n.me).length∧(ky l n.me).length≤4∧Oth (ky l n.me) n.me.1):=by
 by_cases h0:l.length=0
 ·exact .inl (km h0)
 ·rw [jd h0];exact .inr ⟨by omega,h4,h⟩
theorem zc {n s:Nd} (h:RN n) (hs:RN s):RN {n with sc:=dx n s}:=⟨h.me,h.pr,sA (yE hs) (oe _),h.fg⟩
theorem sR (l:List Mb) (nos:List Int):(dS l nos).length≤l.length:=List.length_filter_le _ _
theorem zC {n:Nd} (h:RN n) (nos:List Int):RN ⟨n.me,tz n nos,ky (dS n.sc nos) n.me,dS n.fg nos⟩:=by
 refine ⟨h.me,?_,?_,Nat.le_trans (sR _ _) h.fg.1,h.fg.2.filter _⟩
 ·show tz n nos=de∨((0≤(tz n nos).1∧(tz n nos).1<16)∧(tz n nos).1≠n.me.1)
  cases hb:dX nos n.pr with
  |true=>exact .inl (Ai hb)
  |false=>rw [As hb];exact h.pr
 ·show ky (dS n.sc nos) n.me=[n.me]∨_
  rcases h.sc with h9|h9
  ·rw [h9]
   cases hb:dX nos n.me with
   |true=>rw [show dS [n.me] nos=[] by unfold dS;rw [List.filter_cons,hb];rfl];exact .inl rfl
   |false=>rw [show dS [n.me] nos=[n.me] by unfold dS;rw [List.filter_cons,hb];rfl];exact .inl rfl
  ·exact sA (h9.2.2.filter _) (Nat.le_trans (sR _ _) h9.2.1)
end Go.Proofs.YthggibfkgofncaaGreat
namespace Go.Proofs.YthggibfkgofncaaGreat
open Go.RowKit
end Go.Proofs.YthggibfkgofncaaGreat
namespace Go.Proofs.YthggibfkgofncaaGreat
open Go.RowKit
theorem St.add {w0 w w':World} {B C:List Own} (s:St w0 B w) (t:St w C w'):St w0 (C++B) w':=by
 refine s.join t.ext C (fun p hp=>?_) (fun p hp k hk=>t.own p hp k hk) t.nd
 have h:=t.has p hp
 cases p with
 |blk b o=>exact h
 |sl v e sz n xs=>exact cQ.low h s.ext.le
 |grp ks S=>exact h
theorem g7.of_mem {w0 w:World} {B:List Own} (s:St w0 B w) {b:Nat} {C:Array Value} {u:TypeId} (h:Own.blk b (.cells C u)∈B):g7 w b C:=⟨u,(0,0),s.has _ h⟩
def C3 (w:World) (M:TypeId) (n:Nd):cX:=fun v w'=>∃ vs vf,v=.agg (aC n.me n.pr vs vf)∧St w [.sl vs M 33 n.sc.length (ap n.sc),.sl vf M 33 n.fg.length (ap n.fg)] w'
def rK (w:World) (M:TypeId) (n:Nd) (k:Int):cX:=fun v w'=>∃ vs vf,v=.tuple #[.agg (aC n.me n.pr vs vf),.int .i64 k]∧St w [.sl vs M 33 n.sc.length (ap n.sc),.sl vf M 33 n.fg.length (ap n.fg)] w'
theorem kO {w w':World} {M:TypeId} {B:List Own} {n:Nd} {k q:Int} (s:St w B w') (hn:n=u3) (hk:k=q):rK w M n k (.tuple #[.agg (aC aT aT a8 a8),.int .i64 q]) w':=by
 subst hn;subst hk
 exact ⟨a8,a8,rfl,((s.pick [] (List.nil_sublist _)).nilSl M 33).nilSl M 33⟩
theorem gI {w w':World} {M:TypeId} {n:Nd} {a p:Mb} {l f:List Mb} {vs vf:Value} {k q:Int} (hn:n=⟨a,p,l,f⟩) (hk:k=q) (h:St w [.sl vs M 33 l.length (ap l),.sl vf M 33 f.length (ap f)] w'):rK w M n k (.tuple #[.agg (aC a p vs vf),.int .i64 q]) w':=by
 subst hn;subst hk
 exact ⟨vs,vf,rfl,h⟩
theorem Bz {w w':World} {M:TypeId} {n:Nd} {a p:Mb} {l f:List Mb} {vs vf:Value} (hn:n=⟨a,p,l,f⟩) (h:St w [.sl vs M 33 l.length (ap l),.sl vf M 33 f.length (ap f)] w'):C3 w M n (.agg (aC a p vs vf)) w':=by
 subst hn
 exact ⟨vs,vf,rfl,h⟩
theorem pA {w:World} {B:List Own} {w':World} {v:Value} {M:TypeId} {l r:List Mb} (h:l=r) (s:St w (.sl v M 33 l.length (ap l)::B) w'):St w (.sl v M 33 r.length (ap r)::B) w':=by subst h;exact s
theorem nZ (ls:List (List Mb)) (k:Nat) (h:k<ls.length):(ls.take (k+1)).flatten=(ls.take k).flatten++ls.getD k []:=by
 rw [List.take_succ_eq_append_getElem h,List.flatten_append,List.getD_eq_getElem?_getD,List.getElem?_eq_getElem h];simp
theorem ng (ls:List (List Mb)) (k:Nat) (h:k<ls.length):(ls.take k).flatten.length+(ls.getD k []).length=(ls.take (k+1)).flatten.length:=by
 rw [nZ ls k h,List.length_append]
theorem sk (ls:List (List Mb)) (k:Nat) (h:k<ls.length):ap (ls.take k).flatten++ap (ls.getD k [])=ap (ls.take (k+1)).flatten:=by
 rw [nZ ls k h,dz]
theorem tc (ls:List (List Mb)) (k:Nat):(ls.take k).flatten.length≤ls.flatten.length:=by
 have:=congrArg (fun x=>x.flatten.length) (List.take_append_drop k ls)
 simp only [List.flatten_append,List.length_append] at this
 omega
theorem pV {w:World} {base:Nat} {e:TypeId} {v:Value} {ls:List (List Mb)} {i:Nat} (hi:ls.length≤i) (h:cQ w base e 33 v (ls.take i).flatten.length (ap (ls.take i).flatten)):cQ w base e 33 v ls.flatten.length (ap ls.flatten):=by
 rwa [List.take_of_length_le hi] at h
theorem rk {w:World} {a:Option Addr} {n c:Nat} {l:List Mb} (ha:a.isNone=true) (h:bq w (.slice a n c) 33 l.length (ap l)):l=[]:=by
 cases a with
 |some p=>cases ha
 |none=>
  rcases h.2 with ⟨h1,h2⟩|⟨p,cap,h1,_⟩
  ·exact List.eq_nil_of_length_eq_zero h2
  ·cases h1
theorem tG (w:World):bq w a8 33 ([]:List Mb).length (ap []):=⟨rfl,.inl ⟨rfl,rfl⟩⟩
def pE (q:Mb→Bool) (l:List Mb) (j:Nat):List Mb:=(l.take j).filter q++l.drop ((l.take j).filter q).length
def jL (q:Mb→Bool) (l:List Mb) (j:Nat):Nat:=((l.take j).filter q).length
theorem rt (q:Mb→Bool) (l:List Mb) (j:Nat):jL q l j≤j:=by
 unfold jL
 have:=List.length_filter_le q (l.take j)
 rw [List.length_take] at this;omega
theorem y0 (q:Mb→Bool) (l:List Mb) (j:Nat):jL q l j≤l.length:=by
 unfold jL
 have:=List.length_filter_le q (l.take j)
 rw [List.length_take] at this;omega
theorem td (q:Mb→Bool) (l:List Mb) (j:Nat):(pE q l j).length=l.length:=by
 have:=y0 q l j
 unfold jL at this
 unfold pE;rw [List.length_append,List.length_drop];omega
theorem zB {q:Mb→Bool} {l:List Mb} {j:Nat} (hj:j<l.length):(pE q l j).getD j aT=l.getD j aT:=by
 have h1:=rt q l j
 unfold jL at h1
 unfold pE
 rw [List.getD_eq_getElem?_getD,List.getElem?_append_right h1,List.getElem?_drop,List.getD_eq_getElem?_getD]
 congr 2
 omega
theorem yf {q:Mb→Bool} {l:List Mb} {j:Nat} (hj:j<l.length) (h:q (l.getD j aT)=false):pE q l (j+1)=pE q l j∧jL q l (j+1)=jL q l j:=by
 have e:(l.take (j+1)).filter q=(l.take j).filter q:=by rw [j7 hj,List.filter_append,List.filter_cons,h];simp
 unfold pE jL;rw [e];exact ⟨rfl,rfl⟩
theorem sD {q:Mb→Bool} {l:List Mb} {j:Nat} (hj:j<l.length) (h:q (l.getD j aT)=true):pE q l (j+1)=(pE q l j).set (jL q l j) (l.getD j aT)∧jL q l (j+1)=jL q l j+1:=by
 have e:(l.take (j+1)).filter q=(l.take j).filter q++[l.getD j aT]:=by rw [j7 hj,List.filter_append,List.filter_cons,h];simp
 have h1:=rt q l j
 refine ⟨?_,by unfold jL;rw [e,List.length_append];rfl⟩
 unfold jL at h1
 unfold pE jL
 rw [e,List.length_append]
 show (_++[_])++l.drop (_+1)=_
 rw [List.set_append_right _ _ (Nat.le_refl _),Nat.sub_self,List.append_assoc]
 congr 1
 rw [List.drop_eq_getElem_cons (show ((l.take j).filter q).length<l.length by omega),List.set_cons_zero];rfl
theorem uw {q:Mb→Bool} {l:List Mb} {k:Nat} (hk:k<l.length) (h:∀ i,i<k→q (l.getD i aT)=true) (hq:q (l.getD k aT)=false):pE q l (k+1)=l∧jL q l (k+1)=k:=by
 have e:(l.take k).filter q=l.take k:=by
  rw [List.filter_eq_self]
  intro x hx
  obtain ⟨i,hi,rfl⟩:=List.mem_iff_getElem.1 hx
  rw [List.length_take] at hi
  rw [List.getElem_take,nB (by omega)]
  exact h i (by omega)
 obtain ⟨e1,e2⟩:=yf hk hq
 rw [e1,e2]
 unfold pE jL
 rw [e,List.length_take,Nat.min_eq_left (by omega),List.take_append_drop]
 exact ⟨rfl,rfl⟩
theorem zO (q:Mb→Bool) (l:List Mb):jL q l l.length=(l.filter q).length:=by unfold jL;rw [List.take_length]
theorem yB (q:Mb→Bool) (l:List Mb):pE q l l.length=l.filter q++l.drop (l.filter q).length:=by unfold pE;rw [List.take_length]
theorem BQ {q:Mb→Bool} {l:List Mb} {k:Nat} (hk:k<l.length) (hq:q (l.getD k aT)=false):(l.filter q).length<l.length:=by
 rcases Nat.lt_or_ge (l.filter q).length l.length with h|h
 ·exact h
 ·have h1:=List.length_filter_le q l
  have h2:l.filter q=l:=List.filter_eq_self.2 (by
   have:=List.length_filter_eq_length_iff.1 (show (l.filter q).length=l.length by omega)
   exact this)
  have h3:=List.filter_eq_self.1 h2 _ (eA hk)
  rw [hq] at h3;cases h3
theorem tW (q:Mb→Bool) (l:List Mb):(ap (pE q l l.length)).take ((l.filter q).length*33)=ap (l.filter q):=by
 rw [yB,dz,List.take_left' (eu _)]
theorem uW {l:List Mb} {p:Mb→Bool} (h:∀ x∈l,p x=false):(l.filter fun x => !p x)=l:=List.filter_eq_self.2 fun x hx=>by rw [h x hx];rfl
theorem Aq (nos:List Int) (k:Nat) (h:k<nos.length):(nos.map (Value.int .i64))[k]? = some (.int .i64 (nos.getD k 0)):=by
 rw [List.getElem?_map,List.getD_eq_getElem?_getD,List.getElem?_eq_getElem h];rfl
theorem D0 {nos:List Int} {k:Nat} (h:k<nos.length):nos[k]=nos.getD k 0:=by rw [List.getD_eq_getElem?_getD,List.getElem?_eq_getElem h];rfl
def fY (nos:List Int) (f:Int→Bool) (k:Nat):Bool:=(nos.take k).any f
theorem gG {nos:List Int} {f:Int→Bool} {k:Nat} (h:k<nos.length):fY nos f (k+1)=(fY nos f k || f (nos.getD k 0)):=by
 unfold fY
 rw [List.take_succ_eq_append_getElem h,List.any_append,D0 h];simp
theorem uO (nos:List Int) (f:Int→Bool):fY nos f nos.length=nos.any f:=by unfold fY;rw [List.take_length]
theorem yQ {nos:List Int} {no:Int} {r:Int} (h:(r = -1∧∀ k,k<nos.length→nos.getD k 0≠no)∨∃ k:Nat,k<nos.length∧r=(k:Int)∧nos.getD k 0=no):decide (0≤r)=nos.any fun k=>decide (k=no):=by
 rcases h with ⟨rfl,h⟩|⟨k,hk,rfl,h⟩
 ·rw [decide_eq_false (by decide)]
  symm
  rw [List.any_eq_false]
  intro x hx
  obtain ⟨i,hi,rfl⟩:=List.mem_iff_getElem.1 hx
  have:=h i hi
  rw [← D0 hi] at this
  simpa using this
 ·rw [decide_eq_true (by omega)]
  symm
  rw [List.any_eq_true]
  exact ⟨nos[k],List.getElem_mem hk,by rw [D0 hk];simpa using h⟩
theorem oU {l:List Mb} {no:Int} (h:∀ x∈l,0≤x.1):decide ((fB l no).1<0) = !ia l no:=by
 unfold fB
 rcases sB (l:=l) (no:=no) with h9|⟨m,h9,hm,hno⟩
 ·rw [h9]
  have:ia l no=false:=pi.2 fun x hx e=>by
   have:=List.find?_eq_none.1 h9 x hx
   exact this (decide_eq_true e)
  rw [this];decide
 ·rw [h9]
  have:ia l no=true:=px.2 ⟨m,hm,hno⟩
  rw [this]
  have:=h m hm
  simp only [Option.getD_some,Bool.not_true,decide_eq_false_iff_not]
  omega
section
variable {P:Program} {ρ:Operand→Value} {d:Option Tmp} {ty:TypeId} {pos:String} {af:Array Edge} {g:Option (Nat × Bool)} {x y z:Operand} {t:TypeId}
end
end Go.Proofs.YthggibfkgofncaaGreat
namespace Go.Proofs.YthggibfkgofncaaGreat
theorem BF {m:Mb} (h:decide (m.1 = -1)=false):decide (m=de)=false:=decide_eq_false fun e=>of_decide_eq_false h (by rw [e];rfl)
theorem Bo {m:Mb} (h:decide (m.1 = -1)=true):decide (m=de)=decide (m.2=0#256):=by
 have h:=of_decide_eq_true h
 rw [decide_eq_decide]
 exact ⟨fun e=>by rw [e];rfl,fun e=>Prod.ext h e⟩
end Go.Proofs.YthggibfkgofncaaGreat
namespace Go.Proofs.YthggibfkgofncaaGreat
open Go.RowKit
def Dg (m:Mb):Nd:=bif dT m then ⟨m,de,[m],[]⟩ else u3
def CR (m:Mb):Int:=bif dT m then 0 else 1
theorem pO {m:Mb} (h:dT m=false):Dg m=u3∧CR m=1:=by unfold Dg CR;rw [h];exact ⟨rfl,rfl⟩
theorem qv {m:Mb} (h:dT m=true):Dg m=⟨m,de,[m],[]⟩∧CR m=0:=by unfold Dg CR;rw [h];exact ⟨rfl,rfl⟩
theorem y4 {w w':World} {M:TypeId} {n:Nd} {a p:Mb} {l:List Mb} {vs:Value} {k q:Int} (hn:n=⟨a,p,l,[]⟩) (hk:k=q) (h:St w [.sl vs M 33 l.length (ap l)] w'):rK w M n k (.tuple #[.agg (aC a p vs a8),.int .i64 q]) w':=
 gI hn hk ((h.nilSl M 33).perm (List.Perm.swap _ _ _))
theorem pD {w:World} {v:Value} {sz n:Nat} {xs:List Value} (h:bq w v sz n xs):v.cells.size=1:=by obtain ⟨a,c,rfl⟩:=h.len;rfl
theorem mL {w:World} {v:Value} {sz n:Nat} {xs:List Value} (h:bq w v sz n xs):v.cells.toList=[v]:=by obtain ⟨a,c,rfl⟩:=h.len;rfl
end Go.Proofs.YthggibfkgofncaaGreat
namespace Go.Proofs.YthggibfkgofncaaGreat
open Go.RowKit
section
variable {P:Program} {a:Act} {w w0:World} {N:Nat} {L:List (Nat × Value)} {B:List Own} {fn:Func} {T:cX}
theorem kp {p q:Tmp} {b n D:Nat} {C:Array Value} {V:Value} {t u:TypeId} (i j:Nat) (hres:fn.results=#[.cell p t,.tmp q]) (h:Sl N a L [{target:=.collected D,args:=#[]}]) (s:St w0 B w) (hr:Row P t n) (hp:lk L p=some (.pointer (some ⟨b,0,none⟩))) (hq:lk L q=some V)
 (hj:B[j]? = some (.blk D (.deferred (some [])))) (hij:(B.set j (.blk D (.deferred none)))[i]? = some (.blk b (.cells C u))) (hn:C.size=n) (hT:∀ w',St w0 (B.set j (.blk D (.deferred none))) w'→T (.tuple #[.agg C,V]) w'):bodyPostM (FR none) 0 P fn (cU w0 T) .ret a w:=by
 show LeavesInM (FR none) 0 P fn a.tmps (cU w0 T) a.defers .returning w
 rw [h.defers]
 have s2:=s.putObj j hj (.deferred none)
 refine ⟨by simp,.inl ⟨D,_,rfl,run_takeDeferred (s.get j hj),?_⟩⟩
 have hp':a.tmps[p]?.getD undef=.pointer (some ⟨b,0,none⟩):=by simpa using h.holds p _ hp
 have hq':a.tmps[q]?.getD undef=V:=by simpa using h.holds q _ hq
 refine ⟨.tuple #[.agg C,V],?_,_,rfl,hT _ s2,s2.ext⟩
 simp [results,hres,hp',hq',asAddr,d6 hr _ b C u (0,0) (s2.get i hij) hn]
theorem gk {p q:Tmp} {b n:Nat} {C:Array Value} {V:Value} {t u:TypeId} (i:Nat) (hres:fn.results=#[.cell p t,.tmp q]) (h:Sl N a L) (s:St w0 B w) (hr:Row P t n) (hp:lk L p=some (.pointer (some ⟨b,0,none⟩))) (hq:lk L q=some V)
 (hi:B[i]? = some (.blk b (.cells C u))) (hn:C.size=n) (hT:T (.tuple #[.agg C,V]) w):bodyPostM (FR none) 0 P fn (cU w0 T) .ret a w:=by
 show LeavesInM (FR none) 0 P fn a.tmps (cU w0 T) a.defers .returning w
 rw [h.defers]
 have hp':a.tmps[p]?.getD undef=.pointer (some ⟨b,0,none⟩):=by simpa using h.holds p _ hp
 have hq':a.tmps[q]?.getD undef=V:=by simpa using h.holds q _ hq
 refine ⟨.tuple #[.agg C,V],?_,_,rfl,hT,s.ext⟩
 simp [results,hres,hp',hq',asAddr,d6 hr _ b C u (0,0) (s.get i hi) hn]
end
theorem jR {no:Int} {l:List Mb} {d:Nat} (hm:d≤(cD no l).length) (hd:d<l.length) (h:decide ((l.getD d aT).1=no)=false):d<(cD no l).length:=
 n3 hd (fun j hj=>by have h1:=(jM (eA (show j<(cD no l).length by omega))).2;rwa [fX (by omega)] at h1) (of_decide_eq_false h)
theorem wS (cur:List Value) (z:List Value) (q:Mb→Bool) (l:List Mb) (h1:cur.take (l.length*33)=ap (pE q l l.length)) (hl:l.length*33≤cur.length) (hz:z.length=(l.length - (l.filter q).length)*33) (o:Nat) (ho:o=(l.filter q).length*33) (m:Nat) (hm:m=(l.length - (l.filter q).length)*33):
 (cur.take o++z++cur.drop (o+m)).length=cur.length∧(cur.take o++z++cur.drop (o+m)).take o=ap (l.filter q):=by
 subst ho;subst hm
 have hle:=List.length_filter_le q l
 obtain ⟨e1,e2⟩:=y2 cur z ((l.filter q).length*33) ((l.length - (l.filter q).length)*33) (by rw [← Nat.add_mul];rw [show (l.filter q).length+(l.length - (l.filter q).length)=l.length by omega];exact hl) hz
 refine ⟨e1,e2.trans ?_⟩
 have h9:=congrArg (List.take ((l.filter q).length*33)) h1
 rw [List.take_take,Nat.min_eq_left (Nat.mul_le_mul_right 33 hle),tW] at h9
 exact h9
end Go.Proofs.YthggibfkgofncaaGreat
namespace Go.Proofs.YthggibfkgofncaaGreat
theorem Bk {w:World} {v:Value} {sz n:Nat} {xs:List Value} (h:bq w v sz n xs):v.cells=#[v]:=by obtain ⟨a,c,rfl⟩:=h.len;rfl
end Go.Proofs.YthggibfkgofncaaGreat
namespace Go.Proofs.YthggibfkgofncaaGreat
open Go.RowKit
structure FldT (P:Program) (t:TypeId) (f off:Nat) (tf:TypeId):Prop where
 has:∃ fields fd,P.underlying t=some (.struct fields)∧fields[f]? = some fd∧fd.type=tf∧fd.offset=off
theorem gt {P:Program} {ρ:Operand→Value} {d:Option Tmp} {ty:TypeId} {pos:String} {af:Array Edge} {g:Option (Nat × Bool)} {x:Operand} {t tf:TypeId} {f off:Nat} {C:Array Value} {V:Value} (F:FldT P t f off tf) (ho:One P tf) (hx:ρ x=.agg C) (hC:C[off]? = some V):
 ca P ⟨d,.field t x f,ty,pos,af,g⟩ ρ V:=fun w=>by
 obtain ⟨fields,fd,h1,h2,h3,h4⟩:=F.has
 simp [execOp,hx,Instr.field,Sem.run_bind,run_underlying h1,h2,asAgg,part,h3,h4,je ho w,hC]
theorem xR {p:Mb} {no:Int} (h:decide (p=de)=false) (h1:dT p=true) (h2:decide (p.1=no)=false):jz p no=true:=by rw [tq h h1,decide_eq_true (of_decide_eq_false h2)]
theorem Dp {p:Mb} {no:Int} (h:decide (p=de)=false) (h1:dT p=true) (h2:decide (p.1=no)=true):jz p no=false:=by rw [tq h h1];exact decide_eq_false fun e=>e (of_decide_eq_true h2)
theorem xD {l:List Mb} {m:Mb} (h:decide (l.length<1)=true):iu l m=false:=by
 have h:=of_decide_eq_true h
 exact wJ (fun e=>by omega) (decide_eq_false (by omega))
theorem wE {l:List Mb} {m:Mb} (h:decide (4<l.length)=true):iu l m=false:=by
 have h:=of_decide_eq_true h
 exact x1 (fun e=>by omega) (decide_eq_false (by omega))
theorem sC {l:List Mb} {m:Mb} (h:decide (l.length<1)=false) (h1:decide (4<l.length)=false) (hn:¬ (l.length=1∧l.getD 0 aT=m)):iu l m=iA l m.1:=by
 have h:=of_decide_eq_false h
 have h1:=of_decide_eq_false h1
 exact w8 hn (decide_eq_true (by omega)) (decide_eq_true (by omega))
theorem w5 {l:List Mb} {no:Int} (h:decide (16<l.length)=true):jP l no=false:=Ac (decide_eq_false (by have:=of_decide_eq_true h;omega))
theorem vy {l:List Mb} {no:Int} (h:iA l no=false):jP l no=false:=by unfold jP;rw [h,Bool.and_false]
theorem kH {l:List Mb} {no:Int} (h:decide (16<l.length)=false) (h1:iA l no=true):jP l no=true:=by
 rw [An (decide_eq_true (by have:=of_decide_eq_false h;omega)),h1]
theorem mf {n:Nd} (h:jP n.fg n.me.1=false):cy n=false:=by unfold cy;rw [h,Bool.and_false,Bool.and_false,Bool.and_false]
theorem iN {n:Nd} (h:dT n.me=true) (h1:jz n.pr n.me.1=true) (h2:jP n.fg n.me.1=true):cy n=iu n.sc n.me:=by unfold cy;rw [h,h1,h2,Bool.and_true];rfl
def fb (a b:Nd):Bool:=decide (a.me=b.me) && (decide (a.pr=b.pr) && (decide (a.sc=b.sc) && decide (a.fg=b.fg)))
theorem vY (a:Nd):fb a a=true:=by unfold fb;simp
theorem BK {a b:Nd} (h:a=b):fb a b=true:=by subst h;exact vY a
theorem Eb {a b:Nd} (h:decide (a.me=b.me)=false):fb a b=false:=by unfold fb;rw [h];rfl
theorem Ec {a b:Nd} (h:decide (a.pr=b.pr)=false):fb a b=false:=by unfold fb;rw [h,Bool.false_and,Bool.and_false]
theorem Eu {a b:Nd} (h:decide (a.sc=b.sc)=false):fb a b=false:=by unfold fb;rw [h,Bool.false_and,Bool.and_false,Bool.and_false]
theorem DY {a b:Nd} (h:decide (a.me=b.me)=true) (h1:decide (a.pr=b.pr)=true) (h2:decide (a.sc=b.sc)=true):fb a b=decide (a.fg=b.fg):=by unfold fb;rw [h,h1,h2];rfl
theorem CI {n:Nd} {x:Mb} (h:decide (x.1=n.me.1)=true):gN n x=n.pr:=xw (decide_eq_false fun e=>e (of_decide_eq_true h))
theorem CG {n:Nd} {x:Mb} (h:decide (x.2=n.me.2)=true):gN n x=n.pr:=A1 (decide_eq_false fun e=>e (of_decide_eq_true h))
theorem CH {n:Nd} {x:Mb} (h:decide (x.1=n.me.1)=false) (h1:decide (x.2=n.me.2)=false) (h2:decide (n.pr=de)=true):gN n x=x:=Ao (decide_eq_true (of_decide_eq_false h)) (decide_eq_true (of_decide_eq_false h1)) h2
theorem CS {n:Nd} {x:Mb} (h:decide (x.1=n.me.1)=false) (h1:decide (x.2=n.me.2)=false) (h2:decide (n.pr=de)=false) (h3:nk x.2 n.pr.2 n.me.2=true):gN n x=x:=Aj (decide_eq_true (of_decide_eq_false h)) (decide_eq_true (of_decide_eq_false h1)) h2 h3
theorem pf {me:Mb} {s:Nd}:kV me s=(!decide (s.pr=de) && (decide (s.pr.1≠me.1) && vd me.2 s.me.2 s.pr)):=by
 unfold kV vd
 by_cases h1:s.pr.1=me.1<;>by_cases h2:s.pr.2=me.2<;>by_cases h3:s.pr.2=s.me.2<;>simp [h1,h2,h3]
theorem Dj {me:Mb} {s:Nd} (h:decide (s.pr=de)=true):kV me s=false:=by rw [pf,h];rfl
theorem CB {me:Mb} {s:Nd} (h:decide (s.pr.1≠me.1)=false):kV me s=false:=by rw [pf,h,Bool.false_and,Bool.and_false]
theorem C0 {me:Mb} {s:Nd} (h:vd me.2 s.me.2 s.pr=false):kV me s=false:=by rw [pf,h,Bool.and_false,Bool.and_false]
theorem EJ {me:Mb} {s:Nd} (h:decide (s.pr=de)=false) (h1:decide (s.pr.1≠me.1)=true) (h2:vd me.2 s.me.2 s.pr=true):kV me s=true:=by rw [pf,h,h1,h2];rfl
theorem xk {n s:Nd} (h:kV n.me s=true):c7 n s=s.pr::s.me::s.sc:=by unfold c7;rw [h];rfl
theorem xU {n s:Nd} (h:kV n.me s=false):c7 n s=s.me::s.sc:=by unfold c7;rw [h];rfl
theorem vU (n s:Nd):(c7 n s).length≤s.sc.length+2:=by
 cases h:kV n.me s with
 |true=>rw [xk h];exact Nat.le_refl _
 |false=>rw [xU h];show s.sc.length+1≤_;omega
theorem wH {n s:Nd} (hs:RN s) {x:Mb} (h:x∈c7 n s):0≤x.1:=by
 refine(sr (n:=n) hs ?_).1
 unfold d3 kM
 cases hb:kV n.me s with
 |true=>rw [xk hb] at h;exact h
 |false=>rw [xU hb] at h;exact List.mem_cons_of_mem _ h
theorem o8 {n s:Nd} (hs:RN s) {d:Nat} {x:Mb} (h:x∈dw ((cD n.me.1 (c7 n s)).take d)):0≤x.1:=by
 rcases o3 _ [] h with h|h
 ·cases h
 ·exact wH hs (jM (List.mem_of_mem_take h)).1
theorem kf (n s:Nd):dx n s=ky (dw (cD n.me.1 (c7 n s))) n.me:=by unfold dx;rw [wb]
def yn (w:World) (M:TypeId) (a p:Mb) (l:List Mb) (vf:Value):cX:=fun v w'=>∃ vo,v=.agg (aC a p vo vf)∧cQ w' w.heap.size M 33 vo l.length (ap l)
theorem lW {w w':World} {M:TypeId} {a p:Mb} {l r:List Mb} {vf vo:Value} (h:l=r) (hO:cQ w' w.heap.size M 33 vo r.length (ap r)):yn w M a p l vf (.agg (aC a p vo vf)) w':=by subst h;exact ⟨vo,rfl,hO⟩
theorem nw {l:List Mb} {nos:List Int} {no:Int} {k:Nat} (hk:k<l.length):dh (l.take (k+1)) nos no=dh (l.take k) nos no++(bif ib nos no (l.getD k aT) then [] else [l.getD k aT]):=by
 unfold dh
 rw [j7 hk,List.filter_append,List.filter_cons]
 cases ib nos no (l.getD k aT)<;>rfl
theorem tH {l:List Mb} {nos:List Int} {no:Int} {k:Nat} (hk:k<l.length) (h:ib nos no (l.getD k aT)=true):dh (l.take (k+1)) nos no=dh (l.take k) nos no:=by rw [nw hk,h,cond_true,List.append_nil]
theorem tv {l:List Mb} {nos:List Int} {no:Int} {k:Nat} (hk:k<l.length) (h:ib nos no (l.getD k aT)=false):dh (l.take (k+1)) nos no=dh (l.take k) nos no++[l.getD k aT]:=by rw [nw hk,h];rfl
theorem pY (l:List Mb) (nos:List Int) (no:Int):(dh l nos no).length≤l.length:=List.length_filter_le _ _
abbrev yh (no:Int) (x:Mb):Int→Bool:=fun k=>decide (k=x.1) && decide (k≠no)
theorem D5 {nos:List Int} {no:Int} {x:Mb} {j:Nat} (hj:j<nos.length) (h:fY nos (yh no x) j=false) (h1:decide (nos.getD j 0=x.1)=false):fY nos (yh no x) (j+1)=false:=by
 rw [gG hj,h]
 show (false || (decide _ && decide _))=false
 rw [h1];rfl
theorem Eo {nos:List Int} {no:Int} {x:Mb} {j:Nat} (hj:j<nos.length) (h:fY nos (yh no x) j=false) (h1:decide (nos.getD j 0≠no)=false):fY nos (yh no x) (j+1)=false:=by
 rw [gG hj,h]
 show (false || (decide _ && decide _))=false
 rw [h1,Bool.and_false];rfl
theorem Eg {nos:List Int} {no:Int} {x:Mb} {j:Nat} (hj:j<nos.length) (h1:decide (nos.getD j 0=x.1)=true) (h2:decide (nos.getD j 0≠no)=true):fY nos (yh no x) (j+1)=true:=by
 rw [gG hj]
 show (_ || (decide _ && decide _))=true
 rw [h1,h2];simp
theorem Ea {nos:List Int} {no:Int} {x:Mb} {j:Nat} (hj:j<nos.length) (h:fY nos (yh no x) j=true):fY nos (yh no x) (j+1)=true:=by rw [gG hj,h];rfl
theorem x7 {nos:List Int} {no:Int} {x:Mb} {j:Nat} (hj:j=nos.length):fY nos (yh no x) j=ib nos no x:=by subst hj;exact uO _ _
def DX (w:World) (M:TypeId) (a p:Mb) (s f:List Mb):cX:=fun v w'=>∃ vs vf,v=.agg (aC a p vs vf)∧St w [.sl vs M 33 s.length (ap s),.sl vf M 33 f.length (ap f)] w'
theorem kE {w w':World} {M:TypeId} {a p q:Mb} {s s' f:List Mb} {vs vf:Value} (hp:p=q) (hs:s=s') (h:St w [.sl vs M 33 s'.length (ap s'),.sl vf M 33 f.length (ap f)] w'):DX w M a p s f (.agg (aC a q vs vf)) w':=by
 subst hp;subst hs
 exact ⟨vs,vf,rfl,h⟩
theorem DF {n:Nd} {nos:List Int} (h:(!decide (n.pr=de))=true) (h1:decide ((dh [n.pr] nos n.me.1).length=0)=true):yj n nos=de:=by unfold yj;rw [h,h1];rfl
theorem Ax {n:Nd} {nos:List Int} (h:(!decide (n.pr=de))=false):yj n nos=n.pr:=by unfold yj;rw [h];rfl
theorem Ah {n:Nd} {nos:List Int} (h1:decide ((dh [n.pr] nos n.me.1).length=0)=false):yj n nos=n.pr:=by unfold yj;rw [h1,Bool.and_false];rfl
end Go.Proofs.YthggibfkgofncaaGreat
namespace Go.Proofs.YthggibfkgofncaaGreat
def lO (n s:Nd):List Mb:=bif kV n.me s then [s.pr] else []
theorem wV {n s:Nd} (h:kV n.me s=true):lO n s=[s.pr]:=by unfold lO;rw [h];rfl
theorem xA {n s:Nd} (h:kV n.me s=false):lO n s=[]:=by unfold lO;rw [h];rfl
theorem tk (n s:Nd):(lO n s).length≤1:=by unfold lO;cases kV n.me s<;>simp
theorem qz (n s:Nd):c7 n s=lO n s++[s.me]++s.sc:=by unfold c7 lO;cases kV n.me s<;>rfl
end Go.Proofs.YthggibfkgofncaaGreat
namespace Go.Proofs.YthggibfkgofncaaGreat
open Go.RowKit
def B3 (a p:Mb) (l:List Mb) (vf:Value):cX:=fun v w=>∃ vo,v=.agg (aC a p vo vf)∧bq w vo 33 l.length (ap l)
theorem B3.mono (a p:Mb) (l:List Mb) (vf:Value):iY (B3 a p l vf):=fun _ _ _ ⟨vo,h1,h2⟩ hE=>⟨vo,h1,h2.keep hE⟩
theorem yn.d {w w':World} {M:TypeId} {a p:Mb} {l:List Mb} {vf v:Value} (h:yn w M a p l vf v w'):B3 a p l vf v w':=by obtain ⟨vo,h1,h2⟩:=h;exact ⟨vo,h1,bq.of_own h2⟩
def D4 (a p:Mb) (s f:List Mb):cX:=fun v w=>∃ vs vf,v=.agg (aC a p vs vf)∧bq w vs 33 s.length (ap s)∧bq w vf 33 f.length (ap f)
theorem D4.mono (a p:Mb) (s f:List Mb):iY (D4 a p s f):=fun _ _ _ ⟨vs,vf,h1,h2,h3⟩ hE=>⟨vs,vf,h1,h2.keep hE,h3.keep hE⟩
theorem DX.d {w w':World} {M:TypeId} {a p:Mb} {s f:List Mb} {v:Value} (h:DX w M a p s f v w'):D4 a p s f v w':=by
 obtain ⟨vs,vf,h1,h2⟩:=h
 exact ⟨vs,vf,h1,bq.of_own (h2.getSl 0 rfl),bq.of_own (h2.getSl 1 rfl)⟩
end Go.Proofs.YthggibfkgofncaaGreat
namespace Go.Proofs.YthggibfkgofncaaGreat
open Go.RowKit
def DU:Option Value→Value
 |some (.slice p n k)=>.slice p n k
 |_=>a8
theorem yH (o:Option Value):(DU o).oneCell'=true:=by
 unfold DU
 split<;>rfl
def Dx (i:Nat):Option Value→Value
 |some (Value.agg c)=>DU (c[i]?)
 |_=>a8
def bH (i:Nat):Value→Value
 |Value.tuple a=>Dx i (a[0]?)
 |_=>a8
theorem yz (i:Nat) (o:Option Value):(Dx i o).oneCell'=true:=by
 unfold Dx
 split
 ·exact yH _
 ·rfl
theorem fl (i:Nat) (v:Value):(bH i v).oneCell'=true:=by
 unfold bH
 split
 ·exact yz _ _
 ·rfl
theorem nu {a p:Mb} {vs vf:Value} {k:Int} {w:World} {sz n:Nat} {xs:List Value} (h:bq w vs sz n xs):bH 66 (.tuple #[.agg (aC a p vs vf),.int .i64 k])=vs:=by
 obtain ⟨q,c,rfl⟩:=h.len
 have h1:(#[Value.agg (aC a p (.slice q n c) vf),Value.int .i64 k]:Array Value)[0]? = some (Value.agg (aC a p (.slice q n c) vf)):=rfl
 unfold bH
 simp only [h1,Dx]
 rw [bL];rfl
theorem nm {a p:Mb} {vs vf:Value} {k:Int} {w:World} {sz n:Nat} {xs:List Value} (h:bq w vf sz n xs):bH 67 (.tuple #[.agg (aC a p vs vf),.int .i64 k])=vf:=by
 obtain ⟨q,c,rfl⟩:=h.len
 have h1:(#[Value.agg (aC a p vs (.slice q n c)),Value.int .i64 k]:Array Value)[0]? = some (Value.agg (aC a p vs (.slice q n c))):=rfl
 unfold bH
 simp only [h1,Dx]
 rw [cT];rfl
abbrev N3:=Nd × Value × Value
def z3:N3:=(u3,a8,a8)
def nG (x:N3):List Value:=i1 x.1.me x.1.pr x.2.1 x.2.2
def aD (l:List N3):List Value:=l.flatMap nG
theorem gf (x:N3):(nG x).length=68:=tS _ _ _ _
theorem df (l:List N3) (j:Nat) (hj:j<l.length):(((aD l).drop (j*68)).take 68).toArray=aC (l.getD j z3).1.me (l.getD j z3).1.pr (l.getD j z3).2.1 (l.getD j z3).2.2:=by
 unfold aD
 rw [iF _ 68 gf l j hj,List.getD_eq_getElem?_getD,List.getElem?_eq_getElem hj];rfl
def jX (w:World) (x:N3):Prop:=bq w x.2.1 33 x.1.sc.length (ap x.1.sc)∧bq w x.2.2 33 x.1.fg.length (ap x.1.fg)
end Go.Proofs.YthggibfkgofncaaGreat
namespace Go.Proofs.YthggibfkgofncaaGreat
open Go.RowKit Go.ChangeShapes Go.WideShapes Go.ChangeAt
theorem nL {H:Type} {enc:TypeId × Value→H} {P:Program} {W:World} {ts t tn ti e:TypeId} {f0 f1:Field} {fuel:Nat} {cs:List Value} {x:DataW H × List MemPlace} (T:IdTy P ti e) (hc:P.cellsOf ti=32) (hce:P.cellsOf e=1) (hn:P.underlying tn=some (.int .i64)) (hcn:P.cellsOf tn=1)
 (hts:P.underlying ts=some (.slice t)) (ht:P.underlying t=some (.struct #[f0,f1])) (h0:f0.type=tn) (h1:f1.type=ti) (o0:f0.offset=0) (o1:f1.offset=1) (hct:P.cellsOf t=33)
 (hf:DataW.trod enc P W 0 (fun _=>true) true fuel ts cs=some x):∃ (v:Value) (ls:List Mb),cs=[v]∧bq W v 33 ls.length (ap ls):=by
 rcases Go.Deep.open_slice hts hf with ⟨hcs,_⟩|⟨a',len,cap,m,k,D,Pl,hcs,_,hl,_,hm,_,hel⟩
 ·exact ⟨_,[],hcs,rfl,.inl ⟨rfl,rfl⟩⟩
 ·have hml:len≤m:=by rw [hm];split<;>omega
  have each:∀ i,∃ l:Mb,i<len→aU W (a'.add (i*33)) (aw l):=fun i=>by
   by_cases hi:i<len
   ·obtain ⟨cs',hc1,hc2⟩:=hel i (by omega)
    obtain ⟨l,rfl⟩:=ms T hc hce hn hcn ht h0 h1 o0 o1 hct hc2
    refine ⟨l,fun _ j u hj=>?_⟩
    rw [hct] at hc1
    obtain ⟨_,hlen,hall⟩:=World.cells?_some hc1
    have hj33:j<33:=by have:=(Array.getElem?_eq_some_iff.1 hj).1;rw [ak] at this;exact this
    have:=hall j hj33
    rw [this,Array.getElem?_toList];exact hj
   ·exact ⟨aT,fun h9=>absurd h9 hi⟩
  obtain ⟨L,hL⟩:=Classical.axiomOfChoice each
  refine ⟨_,(List.range len).map L,hcs,?_,.inr ⟨a',cap,by simp,by simpa using hl,?_⟩⟩
  ·rw [eu]
  ·refine qf _ 33 (by decide) cF _ fun i hi=>?_
   have hi':i<len:=by simpa using hi
   have h9:((List.range len).map L)[i]=L i:=by simp
   rw [h9]
   exact hL i hi'
theorem zb {cs a b c d:List Value} (hl:cs.length=68) (h0:(cs.drop 0).take 33=a) (h1:(cs.drop 33).take 33=b) (h2:(cs.drop 66).take 1=c) (h3:(cs.drop 67).take 1=d):cs=a++(b++(c++d)):=by
 subst h0;subst h1;subst h2;subst h3
 have e3:(cs.drop 67).take 1=cs.drop 67:=List.take_of_length_le (by rw [List.length_drop];omega)
 have e2:(cs.drop 66).take 1++cs.drop 67=cs.drop 66:=by
  have:=List.take_append_drop 1 (cs.drop 66)
  rwa [List.drop_drop] at this
 have e1:(cs.drop 33).take 33++cs.drop 66=cs.drop 33:=by
  have:=List.take_append_drop 33 (cs.drop 33)
  rwa [List.drop_drop] at this
 rw [e3,e2,e1,List.drop_zero,List.take_append_drop]
end Go.Proofs.YthggibfkgofncaaGreat
