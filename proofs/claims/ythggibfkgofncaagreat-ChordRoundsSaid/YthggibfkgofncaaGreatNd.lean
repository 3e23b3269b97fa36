/- Nodes: which may be, what hearing, following, dropping and pointing make of them, and that what may be stays such; nodes that come in; no Go in it. -/
import Derived.Test.YthggibfkgofncaaGreatRg
set_option linter.unusedVariables false
set_option linter.unusedSimpArgs false
set_option linter.unusedSectionVars false
namespace Go.Proofs.YthggibfkgofncaaGreat
open Go.RowKit
structure Nd where
 me:Mb
 pr:Mb
 sc:List Mb
 fg:List Mb
def tH:Nd:=⟨ap,ap,[],[]⟩
def aU:Value:=.slice none 0 0
def il (m p:Mb) (vs vf:Value):List Value:=ib m++(ib p++[vs,vf])
def au (m p:Mb) (vs vf:Value):Array Value:=(il m p vs vf).toArray
theorem q7 (m p:Mb) (vs vf:Value):(il m p vs vf).length=68:=by simp [il,cj]
theorem aw (m p:Mb) (vs vf:Value):(au m p vs vf).size=68:=by simp [au,q7]
theorem br {m p:Mb} {vs vf:Value} (h1:vs.oneCell'=true) (h2:vf.oneCell'=true):∀ v∈(au m p vs vf).toList,v.oneCell'=true:=fun v hv=>by
 have hv:v∈il m p vs vf:=hv
 unfold il at hv
 rcases List.mem_append.1 hv with hv|hv
 ·exact gK m v hv
 ·rcases List.mem_append.1 hv with hv|hv
  ·exact gK p v hv
  ·simp only [List.mem_cons,List.not_mem_nil,or_false] at hv
   rcases hv with rfl|rfl
   ·exact h1
   ·exact h2
theorem qj (m p:Mb) (vs vf:Value) (i:Nat):(au m p vs vf)[i]? = (il m p vs vf)[i]? := by simp [au]
theorem dz (m p:Mb) (vs vf:Value):(au m p vs vf)[0]? = some (.int .i64 m.1):=rfl
theorem wa (m p:Mb) (vs vf:Value) (i:Nat):(il m p vs vf)[33+i]? = (ib p++[vs,vf])[i]? := by
 unfold il
 rw [List.getElem?_append_right (by rw [cj];omega),cj,Nat.add_sub_cancel_left]
theorem nY (m p:Mb) (vs vf:Value) (i:Nat):(il m p vs vf)[66+i]? = [vs,vf][i]? := by
 rw [show 66+i=33+(33+i) by omega,wa,List.getElem?_append_right (by rw [cj];omega),cj,Nat.add_sub_cancel_left]
theorem mV (m p:Mb) (vs vf:Value):(au m p vs vf)[33]? = some (.int .i64 p.1):=by rw [qj];exact wa m p vs vf 0
theorem c7 (m p:Mb) (vs vf:Value):(au m p vs vf)[66]? = some vs:=by rw [qj];exact nY m p vs vf 0
theorem ed (m p:Mb) (vs vf:Value):(au m p vs vf)[67]? = some vf:=by rw [qj];exact nY m p vs vf 1
theorem jo (l:List Value) (o n:Nat) (D:List Value) (h:(l.drop o).take n=D):l.toArray.extract o (o+n)=D.toArray:=by
 apply Array.ext'
 rw [Array.toList_extract,List.extract_eq_take_drop,Nat.add_sub_cancel_left]
 exact h
theorem bZ (m p:Mb) (vs vf:Value):(au m p vs vf).extract 0 (0+33)=av m:=jo _ _ _ _ (by
 rw [List.drop_zero];unfold il;rw [List.take_left' (cj m)])
theorem lF (m p:Mb) (vs vf:Value) (i:Nat) (h:i≤33):(il m p vs vf).drop (33+i)=(ib p).drop i++[vs,vf]:=by
 unfold il
 rw [← List.drop_drop,List.drop_left' (cj m),List.drop_append_of_le_length (by rw [cj];exact h)]
theorem cN (m p:Mb) (vs vf:Value):(au m p vs vf).extract 33 (33+33)=av p:=jo _ _ _ _ (by
 rw [lF m p vs vf 0 (by omega),List.drop_zero,List.take_left' (cj p)])
theorem pd (m:Mb):(ib m).drop 1=(bD m.2).toList:=rfl
theorem ec (m p:Mb) (vs vf:Value):(au m p vs vf).extract 1 (1+32)=bD m.2:=jo _ _ _ (bD m.2).toList (by
 unfold il
 rw [List.drop_append_of_le_length (by rw [cj];omega),pd,List.take_left' (by rw [Array.length_toList,aR])])
theorem mI (m p:Mb) (vs vf:Value):(au m p vs vf).extract 34 (34+32)=bD p.2:=jo _ _ _ (bD p.2).toList (by
 rw [show 34=33+1 from rfl,lF m p vs vf 1 (by omega),pd,List.take_left' (by rw [Array.length_toList,aR])])
theorem gR (m p:Mb) (vs vf v:Value):(au m p vs vf).setIfInBounds 66 v=au m p v vf:=by
 apply Array.ext'
 rw [Array.toList_setIfInBounds]
 show (il m p vs vf).set 66 v=il m p v vf
 unfold il
 rw [List.set_append_right _ _ (by rw [cj];omega),List.set_append_right _ _ (by rw [cj,cj];omega),cj,cj]
 rfl
theorem jv (m p:Mb) (vs vf v:Value):(au m p vs vf).setIfInBounds 67 v=au m p vs v:=by
 apply Array.ext'
 rw [Array.toList_setIfInBounds]
 show (il m p vs vf).set 67 v=il m p vs v
 unfold il
 rw [List.set_append_right _ _ (by rw [cj];omega),List.set_append_right _ _ (by rw [cj,cj];omega),cj,cj]
 rfl
theorem ld (m p q:Mb) (vs vf:Value):((au m p vs vf).toList.take 33++(av q).toList++(au m p vs vf).toList.drop (33+(av q).size)).toArray=au m q vs vf:=by
 rw [al]
 show ((il m p vs vf).take 33++ib q++(il m p vs vf).drop (33+33)).toArray=(il m q vs vf).toArray
 rw [lF m p vs vf 33 (Nat.le_refl _),List.drop_of_length_le (by rw [cj];exact Nat.le_refl _),List.nil_append]
 unfold il
 rw [List.take_left' (cj m),List.append_assoc]
theorem db {w:World} {v:Value} {sz n:Nat} {xs:List Value} (h:bO w v sz n xs):v.oneCell'=true:=by
 obtain ⟨a,c,rfl⟩:=h.len
 rfl
def BK:List (List Value):=[.int .i64 0::List.replicate 32 (.int .u8 0),.int .i64 0::List.replicate 32 (.int .u8 0),[.slice none 0 0],[.slice none 0 0]]
theorem mf:ib ap=Value.int .i64 0::List.replicate 32 (Value.int .u8 0):=by
 have:=congrArg Array.toList oc
 exact this
theorem xN:au ap ap aU aU=BK.flatten.toArray:=by
 unfold au il
 rw [mf];rfl
section
variable {P:Program} {ρ:Operand→Value} {d:Option Tmp} {ty:TypeId} {pos:String} {af:Array Edge} {g:Option (Nat × Bool)} {x y z:Operand} {t:TypeId}
theorem d3 (S:Stt P t BK):bM P ⟨d,.build t #[],ty,pos,af,g⟩ ρ (.agg (au ap ap aU aU)):=by
 have:=dX (P:=P) (ρ:=ρ) (d:=d) (ty:=ty) (pos:=pos) (af:=af) (g:=g) (parts:=#[]) S [] (by simp) (fun i v hm=>by simp at hm) (D:=il ap ap aU aU) (by unfold il;rw [mf];rfl)
 exact this
theorem oh {m p:Mb} {v:Value} (S:Stt P t BK) (hv:v.cells.size=1) (hc:v.cells.toList=[v]) (hx:ρ x=.agg (av m)) (hy:ρ y=.agg (av p)) (hz:ρ z=v):bM P ⟨d,.build t #[(0,x),(1,y),(2,z)],ty,pos,af,g⟩ ρ (.agg (au m p v aU)):=by
 have:=dX (P:=P) (ρ:=ρ) (d:=d) (ty:=ty) (pos:=pos) (af:=af) (g:=g) (parts:=#[(0,x),(1,y),(2,z)]) S [(0,.agg (av m)),(1,.agg (av p)),(2,v)] (by simp [hx,hy,hz]) (fun i u hm=>by
  simp only [List.mem_cons,Prod.mk.injEq,List.not_mem_nil,or_false] at hm
  rcases hm with ⟨rfl,rfl⟩|⟨rfl,rfl⟩|⟨rfl,rfl⟩
  ·exact ⟨_,rfl,by show (av m).size=_;rw [al];rfl⟩
  ·exact ⟨_,rfl,by show (av p).size=_;rw [al];rfl⟩
  ·exact ⟨_,rfl,hv⟩) (D:=il m p v aU) (by
   show (av m).toList++((av p).toList++(v.cells.toList++([aU]++[])))=_
   rw [hc];rfl)
 exact this
end
end Go.Proofs.YthggibfkgofncaaGreat
namespace Go.Proofs.YthggibfkgofncaaGreat
open Go.RowKit
def dI (m:Mb):Bool:=decide (0≤m.1) && decide (m.1<16)
theorem fK {m:Mb}:dI m=true↔0≤m.1∧m.1<16:=by unfold dI;rw [Bool.and_eq_true,decide_eq_true_eq,decide_eq_true_eq]
theorem y1 {m:Mb} (h:decide (0≤m.1)=false):dI m=false:=by unfold dI;rw [h];rfl
theorem y6 {m:Mb} (h:decide (0≤m.1)=true):dI m=decide (m.1<16):=by unfold dI;rw [h];rfl
def jK (l:List Mb) (no:Int):Bool:=l.any fun x=>decide (x.1=no)
theorem yz {l:List Mb} {no:Int}:jK l no=true↔∃ x∈l,x.1=no:=by
 unfold jK;rw [List.any_eq_true]
 exact ⟨fun ⟨x,h,e⟩=>⟨x,h,of_decide_eq_true e⟩,fun ⟨x,h,e⟩=>⟨x,h,decide_eq_true e⟩⟩
theorem rE {l:List Mb} {no:Int}:jK l no=false↔∀ x∈l,x.1≠no:=by
 rw [← Bool.not_eq_true,yz]
 exact ⟨fun h x hx e=>h ⟨x,hx,e⟩,fun h ⟨x,hx,e⟩=>h x hx e⟩
def ip (l:List Mb) (no:Int) (d:Nat):Bool := !dI (l.getD d ap) || (decide ((l.getD d ap).1=no) || jK (l.take d) (l.getD d ap).1)
def kL (l:List Mb) (no:Int):Bool:=(List.range l.length).all fun d => !ip l no d
structure Oth (l:List Mb) (no:Int):Prop where
 may:∀ x∈l,0≤x.1∧x.1<16
 ne:∀ x∈l,x.1≠no
 nd:l.Pairwise fun a b=>a.1≠b.1
theorem jn {l:List Mb} {no:Int} {d:Nat}:ip l no d=false↔dI (l.getD d ap)=true∧(l.getD d ap).1≠no∧∀ x∈l.take d,x.1≠(l.getD d ap).1:=by
 unfold ip
 rw [Bool.or_eq_false_iff,Bool.or_eq_false_iff,Bool.not_eq_false',decide_eq_false_iff_not,rE]
theorem uX {l:List Mb} {no:Int} {d:Nat} (h:dI (l.getD d ap)=false):ip l no d=true:=by unfold ip;rw [h];rfl
theorem wt {l:List Mb} {no:Int} {d:Nat} (h:decide ((l.getD d ap).1=no)=true):ip l no d=true:=by unfold ip;rw [h];simp
theorem n7 {l:List Mb} {no:Int} {d:Nat} (h:dI (l.getD d ap)=true) (h1:decide ((l.getD d ap).1=no)=false):ip l no d=jK (l.take d) (l.getD d ap).1:=by unfold ip;rw [h,h1];rfl
theorem nB {l:List Mb} {no:Int}:kL l no=true↔∀ d,d<l.length→ip l no d=false:=by
 unfold kL;rw [List.all_eq_true]
 exact ⟨fun h d hd=>by have:=h d (List.mem_range.2 hd);simpa using this,fun h d hd=>by rw [h d (List.mem_range.1 hd)];rfl⟩
theorem yB {l:List Mb} {no:Int}:kL l no=true↔Oth l no:=by
 rw [nB]
 constructor
 ·intro h
  refine ⟨fun x hx=>?_,fun x hx=>?_,?_⟩
  ·obtain ⟨j,hj,rfl⟩:=jp hx
   exact fK.1 (jn.1 (h j hj)).1
  ·obtain ⟨j,hj,rfl⟩:=jp hx
   exact(jn.1 (h j hj)).2.1
  ·rw [List.pairwise_iff_getElem]
   intro i j hi hj hij
   have h9:=(jn.1 (h j hj)).2.2 l[i] (List.mem_iff_getElem.2 ⟨i,by rw [List.length_take];omega,List.getElem_take⟩)
   rwa [← ms hj] at h9
 ·rintro ⟨h1,h2,h3⟩ d hd
  refine jn.2 ⟨fK.2 (h1 _ (dx hd)),h2 _ (dx hd),fun x hx=>?_⟩
  obtain ⟨i,hi,rfl⟩:=List.mem_iff_getElem.1 hx
  rw [List.length_take] at hi
  rw [List.getElem_take,← ms hd]
  exact List.pairwise_iff_getElem.1 h3 i d (by omega) hd (by omega)
theorem fP {l:List Mb} {no:Int} {d:Nat} (hd:d<l.length) (h:ip l no d=true):kL l no=false:=by
 rw [← Bool.not_eq_true,nB];intro h9;rw [h9 d hd] at h;cases h
theorem pS {l:List Mb} {no:Int} {k:Nat} (hk:l.length≤k) (h:∀ j,j<k→ip l no j=false):kL l no=true:=nB.2 fun d hd=>h d (by omega)
def kP (p:Mb) (no:Int):Bool:=decide (p=c4) || (dI p && decide (p.1≠no))
def jM (l:List Mb) (m:Mb):Bool:=decide (l=[m]) || (decide (1≤l.length) && (decide (l.length≤4) && kL l m.1))
def pA (l:List Mb) (no:Int):Bool:=decide (l.length≤16) && kL l no
def cr (n:Nd):Bool:=dI n.me && (kP n.pr n.me.1 && (jM n.sc n.me && pA n.fg n.me.1))
theorem Cs {p:Mb} {no:Int} (h:decide (p=c4)=true):kP p no=true:=by unfold kP;rw [h];rfl
theorem Cl {p:Mb} {no:Int} (h:decide (p=c4)=false) (h1:dI p=false):kP p no=false:=by unfold kP;rw [h,h1];rfl
theorem zy {p:Mb} {no:Int} (h:decide (p=c4)=false) (h1:dI p=true):kP p no=decide (p.1≠no):=by unfold kP;rw [h,h1];rfl
theorem o8 {l:List Mb} {m:Mb}:l=[m]↔l.length=1∧l.getD 0 ap=m:=by
 constructor
 ·rintro rfl;exact ⟨rfl,rfl⟩
 ·rintro ⟨h1,h2⟩
  obtain ⟨x,rfl⟩:=List.length_eq_one_iff.1 h1
  have h2:x=m:=h2
  rw [h2]
theorem CI {l:List Mb} {m:Mb} (h:decide (l.length=1)=true) (h1:decide (l.getD 0 ap=m)=true):jM l m=true:=by
 unfold jM;rw [decide_eq_true (o8.2 ⟨of_decide_eq_true h,of_decide_eq_true h1⟩)];rfl
theorem wA {l:List Mb} {m:Mb} (h:¬ (l.length=1∧l.getD 0 ap=m)):jM l m=(decide (1≤l.length) && (decide (l.length≤4) && kL l m.1)):=by
 unfold jM;rw [decide_eq_false fun e=>h (o8.1 e)];rfl
theorem za {l:List Mb} {m:Mb} (h:¬ (l.length=1∧l.getD 0 ap=m)) (h0:decide (1≤l.length)=false):jM l m=false:=by rw [wA h,h0];rfl
theorem y7 {l:List Mb} {m:Mb} (h:¬ (l.length=1∧l.getD 0 ap=m)) (h0:decide (l.length≤4)=false):jM l m=false:=by rw [wA h,h0,Bool.false_and,Bool.and_false]
theorem ze {l:List Mb} {m:Mb} (h:¬ (l.length=1∧l.getD 0 ap=m)) (h0:decide (1≤l.length)=true) (h1:decide (l.length≤4)=true):jM l m=kL l m.1:=by rw [wA h,h0,h1];rfl
theorem Cg {l:List Mb} {no:Int} (h:decide (l.length≤16)=false):pA l no=false:=by unfold pA;rw [h];rfl
theorem BJ {l:List Mb} {no:Int} (h:decide (l.length≤16)=true):pA l no=kL l no:=by unfold pA;rw [h];rfl
theorem wU {n:Nd} (h:dI n.me=false):cr n=false:=by unfold cr;rw [h];rfl
theorem wR {n:Nd} (h:kP n.pr n.me.1=false):cr n=false:=by unfold cr;rw [h,Bool.false_and,Bool.and_false]
theorem wZ {n:Nd} (h:jM n.sc n.me=false):cr n=false:=by unfold cr;rw [h,Bool.false_and,Bool.and_false,Bool.and_false]
theorem ym {n:Nd} (h:dI n.me=true) (h1:kP n.pr n.me.1=true) (h2:jM n.sc n.me=true):cr n=pA n.fg n.me.1:=by unfold cr;rw [h,h1,h2];rfl
structure RN (n:Nd):Prop where
 me:0≤n.me.1∧n.me.1<16
 pr:n.pr=c4∨((0≤n.pr.1∧n.pr.1<16)∧n.pr.1≠n.me.1)
 sc:n.sc=[n.me]∨(1≤n.sc.length∧n.sc.length≤4∧Oth n.sc n.me.1)
 fg:n.fg.length≤16∧Oth n.fg n.me.1
theorem ga {n:Nd}:cr n=true↔RN n:=by
 unfold cr kP jM pA
 simp only [Bool.and_eq_true,Bool.or_eq_true,decide_eq_true_eq,fK,yB]
 exact ⟨fun ⟨h1,h2,h3,h4⟩=>⟨h1,h2,h3,h4⟩,fun ⟨h1,h2,h3,h4⟩=>⟨h1,h2,h3,h4⟩⟩
theorem RN.len {n:Nd} (h:RN n):1≤n.sc.length∧n.sc.length≤4:=by
 rcases h.sc with h|h
 ·rw [h];exact ⟨Nat.le_refl _,by show 1≤4;omega⟩
 ·exact ⟨h.1,h.2.1⟩
def i8 (n:Nd) (x:Mb):Mb:=bif decide (x.1≠n.me.1) && (decide (x.2≠n.me.2) && (decide (n.pr=c4) || qb x.2 n.pr.2 n.me.2)) then x else n.pr
def AQ (n:Nd) (x:Mb):Int:=bif cr n && dI x then 0 else 1
def zZ (n:Nd) (x:Mb):Nd:=bif cr n && dI x then {n with pr:=i8 n x} else tH
theorem vg {n:Nd} {x:Mb} (h:cr n=false):zZ n x=tH∧AQ n x=1:=by unfold zZ AQ;rw [h];exact ⟨rfl,rfl⟩
theorem wh {n:Nd} {x:Mb} (h:dI x=false):zZ n x=tH∧AQ n x=1:=by unfold zZ AQ;rw [h,Bool.and_false];exact ⟨rfl,rfl⟩
theorem gB {n:Nd} {x:Mb} (h:cr n=true) (h1:dI x=true):zZ n x={n with pr:=i8 n x}∧AQ n x=0:=by unfold zZ AQ;rw [h,h1];exact ⟨rfl,rfl⟩
theorem y3 {n:Nd} {x:Mb} (h:decide (x.1≠n.me.1)=false):i8 n x=n.pr:=by unfold i8;rw [h];rfl
theorem B2 {n:Nd} {x:Mb} (h:decide (x.2≠n.me.2)=false):i8 n x=n.pr:=by unfold i8;rw [h,Bool.false_and,Bool.and_false];rfl
theorem Ce {n:Nd} {x:Mb} (h:decide (x.1≠n.me.1)=true) (h1:decide (x.2≠n.me.2)=true) (h2:decide (n.pr=c4)=true):i8 n x=x:=by unfold i8;rw [h,h1,h2];rfl
theorem CD {n:Nd} {x:Mb} (h:decide (x.1≠n.me.1)=true) (h1:decide (x.2≠n.me.2)=true) (h2:decide (n.pr=c4)=false) (h3:qb x.2 n.pr.2 n.me.2=true):i8 n x=x:=by unfold i8;rw [h,h1,h2,h3];rfl
theorem Cr {n:Nd} {x:Mb} (h2:decide (n.pr=c4)=false) (h3:qb x.2 n.pr.2 n.me.2=false):i8 n x=n.pr:=by unfold i8;rw [h2,h3,Bool.or_self,Bool.and_false,Bool.and_false];rfl
def wJ (me:Mb) (s:Nd):Bool := !decide (s.pr=c4) && (!decide (s.pr.1=me.1) && (!decide (s.pr.2=me.2) && (!decide (s.pr.2=s.me.2) && qb s.pr.2 me.2 s.me.2)))
def j2 (me:Mb) (s:Nd):Mb:=bif wJ me s then s.pr else s.me
def c5 (no:Int) (l:List Mb):List Mb:=l.takeWhile fun x=>decide (x.1≠no)
def ex (acc:List Mb) (x:Mb):List Mb:=bif decide (acc.length<4) && !jK acc x.1 then acc++[x] else acc
def fu (l:List Mb):List Mb:=l.foldl ex []
def kj (l:List Mb) (me:Mb):List Mb:=bif decide (l.length=0) then [me] else l
def dQ (n s:Nd):List Mb:=j2 n.me s::s.me::s.sc
def sE (n s:Nd):List Mb:=kj (fu (c5 n.me.1 (dQ n s))) n.me
def AL (n s:Nd):Int:=bif cr n && cr s then 0 else 1
def zM (n s:Nd):Nd:=bif cr n && cr s then {n with sc:=sE n s} else tH
theorem wx {n s:Nd} (h:cr n=false):zM n s=tH∧AL n s=1:=by unfold zM AL;rw [h];exact ⟨rfl,rfl⟩
theorem wz {n s:Nd} (h:cr s=false):zM n s=tH∧AL n s=1:=by unfold zM AL;rw [h,Bool.and_false];exact ⟨rfl,rfl⟩
theorem rU {n s:Nd} (h:cr n=true) (h1:cr s=true):zM n s={n with sc:=sE n s}∧AL n s=0:=by unfold zM AL;rw [h,h1];exact ⟨rfl,rfl⟩
theorem Dk {me:Mb} {s:Nd} (h:decide (s.pr=c4)=true):j2 me s=s.me:=by unfold j2 wJ;rw [h];rfl
theorem C4 {me:Mb} {s:Nd} (h:decide (s.pr.1=me.1)=true):j2 me s=s.me:=by unfold j2 wJ;rw [h,Bool.not_true,Bool.false_and,Bool.and_false];rfl
theorem Dr {me:Mb} {s:Nd} (h:decide (s.pr.2=me.2)=true):j2 me s=s.me:=by unfold j2 wJ;rw [h,Bool.not_true,Bool.false_and,Bool.and_false,Bool.and_false];rfl
theorem Dj {me:Mb} {s:Nd} (h:decide (s.pr.2=s.me.2)=true):j2 me s=s.me:=by unfold j2 wJ;rw [h,Bool.not_true,Bool.false_and,Bool.and_false,Bool.and_false,Bool.and_false];rfl
theorem Dx {me:Mb} {s:Nd} (h:qb s.pr.2 me.2 s.me.2=false):j2 me s=s.me:=by unfold j2 wJ;rw [h,Bool.and_false,Bool.and_false,Bool.and_false,Bool.and_false];rfl
theorem DE {me:Mb} {s:Nd} (h:decide (s.pr=c4)=false) (h1:decide (s.pr.1=me.1)=false) (h2:decide (s.pr.2=me.2)=false) (h3:decide (s.pr.2=s.me.2)=false) (h4:qb s.pr.2 me.2 s.me.2=true):j2 me s=s.pr:=by unfold j2 wJ;rw [h,h1,h2,h3,h4];rfl
theorem rf {l:List Mb} {me:Mb} (h:l.length=0):kj l me=[me]:=by unfold kj;rw [decide_eq_true h];rfl
theorem pv {l:List Mb} {me:Mb} (h:¬ l.length=0):kj l me=l:=by unfold kj;rw [decide_eq_false h];rfl
theorem yN {acc:List Mb} {x:Mb} (h:acc.length<4) (h1:jK acc x.1=false):ex acc x=acc++[x]:=by unfold ex;rw [decide_eq_true h,h1];rfl
theorem qU {acc:List Mb} {x:Mb} (h:¬ acc.length<4):ex acc x=acc:=by unfold ex;rw [decide_eq_false h];rfl
theorem uq {acc:List Mb} {x:Mb} (h:jK acc x.1=true):ex acc x=acc:=by unfold ex;rw [h,Bool.not_true,Bool.and_false];rfl
theorem tc (l:List Mb) (x:Mb):fu (l++[x])=ex (fu l) x:=by unfold fu;rw [List.foldl_append];rfl
theorem ij {l:List Mb} {d:Nat} (hd:d<l.length):fu (l.take (d+1))=ex (fu (l.take d)) (l.getD d ap):=by rw [kF hd,tc]
theorem yx (acc:List Mb) (x:Mb):(ex acc x).length≤acc.length+1:=by
 unfold ex
 cases decide (acc.length<4) && !jK acc x.1 with
 |true=>show (acc++[x]).length≤_;rw [List.length_append];exact Nat.le_refl _
 |false=>exact Nat.le_succ _
theorem Ci {acc:List Mb} (x:Mb) (h:acc.length≤4):(ex acc x).length≤4:=by
 by_cases h4:acc.length<4
 ·have:=yx acc x;omega
 ·rw [qU h4];exact h
theorem vD:∀ (l acc:List Mb),acc.length≤4→(l.foldl ex acc).length≤4
 |[],_,h=>h
 |x::l,acc,h=>vD l _ (Ci x h)
theorem pq (l:List Mb):(fu l).length≤4:=vD l [] (Nat.zero_le _)
theorem AU {acc:List Mb} {x y:Mb} (h:y∈ex acc x):y∈acc∨y=x:=by
 unfold ex at h
 cases hb:decide (acc.length<4) && !jK acc x.1 with
 |true=>rw [hb] at h;rcases List.mem_append.1 h with h|h
        ·exact .inl h
        ·exact .inr (List.mem_singleton.1 h)
 |false=>rw [hb] at h;exact .inl h
theorem Ba {acc:List Mb} (x:Mb) (h:acc.Pairwise fun a b=>a.1≠b.1):(ex acc x).Pairwise fun a b=>a.1≠b.1:=by
 unfold ex
 cases hb:decide (acc.length<4) && !jK acc x.1 with
 |false=>exact h
 |true=>
  rw [Bool.and_eq_true] at hb
  have h2:=rE.1 (by simpa using hb.2)
  show (acc++[x]).Pairwise _
  rw [List.pairwise_append]
  exact ⟨h,List.pairwise_singleton _ _,fun a ha b hb9=>by rw [List.mem_singleton.1 hb9];exact h2 a ha⟩
theorem nC:∀ (l acc:List Mb) {y:Mb},y∈l.foldl ex acc→y∈acc∨y∈l
 |[],_,_,h=>.inl h
 |x::l,acc,y,h=>by
  rcases nC l _ h with h|h
  ·rcases AU h with h|h
   ·exact .inl h
   ·exact .inr (by rw [h];exact List.mem_cons_self)
  ·exact .inr (List.mem_cons_of_mem _ h)
theorem rZ:∀ (l acc:List Mb),(acc.Pairwise fun a b=>a.1≠b.1)→((l.foldl ex acc).Pairwise fun a b=>a.1≠b.1)
 |[],_,h=>h
 |x::l,_,h=>rZ l _ (Ba x h)
theorem jr {no:Int} {l:List Mb} {x:Mb} (h:x∈c5 no l):x∈l∧x.1≠no:=by
 refine ⟨(List.takeWhile_sublist _).subset h,?_⟩
 unfold c5 at h
 have:=List.all_eq_true.1 (List.all_takeWhile (p:=fun x:Mb=>decide (x.1≠no)) (l:=l)) x h
 exact of_decide_eq_true this
theorem wQ (no:Int) (l:List Mb):(c5 no l).length≤l.length:=(List.takeWhile_sublist _).length_le
theorem uV {a b:List Mb} (h:a <+: b) {d:Nat} (hd:d<a.length):a.getD d ap=b.getD d ap:=by
 obtain ⟨r,rfl⟩:=h
 rw [List.getD_eq_getElem?_getD,List.getD_eq_getElem?_getD,List.getElem?_append_left hd]
theorem jc {no:Int} {l:List Mb} {d:Nat} (hd:d<(c5 no l).length):(c5 no l).getD d ap=l.getD d ap:=uV (List.takeWhile_prefix _) hd
theorem mR {no:Int}:∀ {l:List Mb} {d:Nat},d<l.length→(∀ j,j<d→(l.getD j ap).1≠no)→(l.getD d ap).1≠no→d<(c5 no l).length
 |[],_,h,_,_=>by simp at h
 |x::l,0,_,_,h2=>by
  have h2:x.1≠no:=h2
  unfold c5;rw [List.takeWhile_cons,if_pos (decide_eq_true h2)];exact Nat.zero_lt_succ _
 |x::l,d+1,hd,h1,h2=>by
  have h0:x.1≠no:=h1 0 (Nat.zero_lt_succ _)
  unfold c5;rw [List.takeWhile_cons,if_pos (decide_eq_true h0)]
  have:=mR (l:=l) (d:=d) (by simpa using hd) (fun j hj=>h1 (j+1) (Nat.succ_lt_succ hj)) h2
  exact Nat.succ_lt_succ this
theorem sj {no:Int} {l:List Mb} {d:Nat} (h2:(l.getD d ap).1=no) (hd:d<l.length):(c5 no l).length≤d:=by
 rcases Nat.lt_or_ge d (c5 no l).length with h|h
 ·have h3:=(jr (dx h)).2
  rw [jc h] at h3
  exact absurd h2 h3
 ·exact h
def dB (nos:List Int) (x:Mb):Bool:=nos.any fun no=>decide (no=x.1)
theorem o6 {nos:List Int} {x:Mb}:dB nos x=true↔x.1∈nos:=by
 unfold dB;rw [List.any_eq_true]
 exact ⟨fun ⟨k,h,e⟩=>by rw [← of_decide_eq_true e];exact h,fun h=>⟨x.1,h,decide_eq_true rfl⟩⟩
def dt (l:List Mb) (nos:List Int):List Mb:=l.filter fun x => !dB nos x
def rV (n:Nd) (nos:List Int):Mb:=bif dB nos n.pr then c4 else n.pr
def Bw (n:Nd):Int:=bif cr n then 0 else 1
def Bx (n:Nd) (nos:List Int):Nd:=bif cr n then ⟨n.me,rV n nos,kj (dt n.sc nos) n.me,dt n.fg nos⟩ else tH
theorem zg {n:Nd} (nos:List Int) (h:cr n=false):Bx n nos=tH∧Bw n=1:=by unfold Bx Bw;rw [h];exact ⟨rfl,rfl⟩
theorem mG {n:Nd} (nos:List Int) (h:cr n=true):Bx n nos=⟨n.me,rV n nos,kj (dt n.sc nos) n.me,dt n.fg nos⟩∧Bw n=0:=by unfold Bx Bw;rw [h];exact ⟨rfl,rfl⟩
theorem yR {n:Nd} {nos:List Int} (h:dB nos n.pr=true):rV n nos=c4:=by unfold rV;rw [h];rfl
theorem yW {n:Nd} {nos:List Int} (h:dB nos n.pr=false):rV n nos=n.pr:=by unfold rV;rw [h];rfl
def oJ (nos:List Int) (no:Int) (x:Mb):Bool:=nos.any fun k=>decide (k=x.1) && decide (k≠no)
def f4 (l:List Mb) (nos:List Int) (no:Int):List Mb:=l.filter fun x => !oJ nos no x
theorem mX {nos:List Int} {no:Int} {x:Mb}:oJ nos no x=true↔x.1∈nos∧x.1≠no:=by
 unfold oJ;rw [List.any_eq_true]
 constructor
 ·rintro ⟨k,h,e⟩
  rw [Bool.and_eq_true,decide_eq_true_eq,decide_eq_true_eq] at e
  obtain ⟨rfl,e2⟩:=e
  exact ⟨h,e2⟩
 ·rintro ⟨h,e⟩
  exact ⟨x.1,h,by rw [decide_eq_true rfl,decide_eq_true e];rfl⟩
theorem ud {nos:List Int} {no:Int} {x:Mb} (h:x.1≠no):oJ nos no x=dB nos x:=by
 rw [Bool.eq_iff_iff,mX,o6];exact and_iff_left h
theorem tx {nos:List Int} {x:Mb}:oJ nos x.1 x=false:=by
 rw [← Bool.not_eq_true,mX];exact fun h=>h.2 rfl
theorem lO {l:List Mb} {nos:List Int} {no:Int} (h:∀ x∈l,x.1≠no):f4 l nos no=dt l nos:=List.filter_congr fun x hx=>by rw [ud (h x hx)]
theorem xZ {n:Nd} (h:RN n) (nos:List Int):kj (f4 n.sc nos n.me.1) n.me=kj (dt n.sc nos) n.me:=by
 rcases h.sc with h9|h9
 ·rw [h9]
  have h1:f4 [n.me] nos n.me.1=[n.me]:=by
   unfold f4;rw [List.filter_cons,tx];rfl
  rw [h1,pv (by show ¬ (1=0);omega)]
  cases hb:dB nos n.me with
  |true=>rw [show dt [n.me] nos=[] by unfold dt;rw [List.filter_cons,hb];rfl];rfl
  |false=>rw [show dt [n.me] nos=[n.me] by unfold dt;rw [List.filter_cons,hb];rfl];rfl
 ·rw [lO h9.2.2.ne]
theorem yl {n:Nd} (h:RN n) (nos:List Int):f4 n.fg nos n.me.1=dt n.fg nos:=lO h.fg.2.ne
def As (n:Nd) (nos:List Int):Mb:=bif !decide (n.pr=c4) && decide ((f4 [n.pr] nos n.me.1).length=0) then c4 else n.pr
theorem yb {n:Nd} (h:RN n) (nos:List Int):As n nos=rV n nos:=by
 unfold As rV
 rcases h.pr with h9|h9
 ·rw [h9,decide_eq_true rfl]
  cases dB nos c4<;>rfl
 ·have hne:decide (n.pr=c4)=false:=decide_eq_false fun e=>by rw [e] at h9;exact absurd h9.1.1 (by decide)
  rw [hne]
  have h1:f4 [n.pr] nos n.me.1=dt [n.pr] nos:=lO fun x hx=>by rw [List.mem_singleton.1 hx];exact h9.2
  rw [h1]
  unfold dt
  rw [List.filter_cons]
  cases dB nos n.pr<;>rfl
theorem Oth.filter {l:List Mb} {no:Int} (h:Oth l no) (p:Mb→Bool):Oth (l.filter p) no:=
 ⟨fun x hx=>h.may x ((List.mem_filter.1 hx).1),fun x hx=>h.ne x ((List.mem_filter.1 hx).1),h.nd.filter p⟩
theorem xX {n:Nd} {x:Mb} (h:RN n) (hx:dI x=true):RN {n with pr:=i8 n x}:=by
 refine ⟨h.me,?_,h.sc,h.fg⟩
 show i8 n x=c4∨_
 cases h0:decide (x.1≠n.me.1) with
 |false=>show i8 n x=c4∨((0≤(i8 n x).1∧(i8 n x).1<16)∧(i8 n x).1≠n.me.1);rw [y3 h0];exact h.pr
 |true=>
  show i8 n x=c4∨((0≤(i8 n x).1∧(i8 n x).1<16)∧(i8 n x).1≠n.me.1)
  have hc:i8 n x=x∨i8 n x=n.pr:=by
   unfold i8
   cases decide (x.1≠n.me.1) && (decide (x.2≠n.me.2) && (decide (n.pr=c4) || qb x.2 n.pr.2 n.me.2)) with
   |true=>exact .inl rfl
   |false=>exact .inr rfl
  rcases hc with e|e
  ·rw [e];exact .inr ⟨fK.1 hx,of_decide_eq_true h0⟩
  ·rw [e];exact h.pr
theorem An {n s:Nd} (hs:RN s):0≤(j2 n.me s).1∧(j2 n.me s).1<16:=by
 unfold j2
 cases hb:wJ n.me s with
 |false=>exact hs.me
 |true=>
  show 0≤s.pr.1∧s.pr.1<16
  rcases hs.pr with h|h
  ·unfold wJ at hb;rw [h,decide_eq_true rfl] at hb;cases hb
  ·exact h.1
theorem yf {n s:Nd} (hs:RN s) {x:Mb} (h:x∈dQ n s):0≤x.1∧x.1<16:=by
 unfold dQ at h
 rcases List.mem_cons.1 h with rfl|h
 ·exact An hs
 ·rcases List.mem_cons.1 h with rfl|h
  ·exact hs.me
  ·rcases hs.sc with h9|h9
   ·rw [h9,List.mem_singleton] at h;rw [h];exact hs.me
   ·exact h9.2.2.may x h
theorem xd {n s:Nd} (hs:RN s):Oth (fu (c5 n.me.1 (dQ n s))) n.me.1:=by
 have hin:∀ {y:Mb},y∈fu (c5 n.me.1 (dQ n s))→y∈c5 n.me.1 (dQ n s):=fun h=>by
  rcases nC _ [] h with h|h
  ·cases h
  ·exact h
 exact ⟨fun x hx=>yf hs (jr (hin hx)).1,fun x hx=>(jr (hin hx)).2,rZ _ [] List.Pairwise.nil⟩
theorem rF {n:Nd} {l:List Mb} (h:Oth l n.me.1) (h4:l.length≤4):kj l n.me=[n.me]∨(1≤(kj l n.me).length∧(kj l n.me).length≤4∧Oth (kj l n.me) n.me.1):=by
 by_cases h0:l.length=0
 ·exact .inl (rf h0)
 ·rw [pv h0];exact .inr ⟨by omega,h4,h⟩
theorem xw {n s:Nd} (h:RN n) (hs:RN s):RN {n with sc:=sE n s}:=⟨h.me,h.pr,rF (xd hs) (pq _),h.fg⟩
theorem r3 (l:List Mb) (nos:List Int):(dt l nos).length≤l.length:=List.length_filter_le _ _
theorem yH {n:Nd} (h:RN n) (nos:List Int):RN ⟨n.me,rV n nos,kj (dt n.sc nos) n.me,dt n.fg nos⟩:=by
 refine ⟨h.me,?_,?_,Nat.le_trans (r3 _ _) h.fg.1,h.fg.2.filter _⟩
 ·show rV n nos=c4∨((0≤(rV n nos).1∧(rV n nos).1<16)∧(rV n nos).1≠n.me.1)
  cases hb:dB nos n.pr with
  |true=>exact .inl (yR hb)
  |false=>rw [yW hb];exact h.pr
 ·show kj (dt n.sc nos) n.me=[n.me]∨_
  rcases h.sc with h9|h9
  ·rw [h9]
   cases hb:dB nos n.me with
   |true=>rw [show dt [n.me] nos=[] by unfold dt;rw [List.filter_cons,hb];rfl];exact .inl rfl
   |false=>rw [show dt [n.me] nos=[n.me] by unfold dt;rw [List.filter_cons,hb];rfl];exact .inl rfl
  ·exact rF (h9.2.2.filter _) (Nat.le_trans (r3 _ _) h9.2.1)
end Go.Proofs.YthggibfkgofncaaGreat
namespace Go.Proofs.YthggibfkgofncaaGreat
open Go.RowKit
end Go.Proofs.YthggibfkgofncaaGreat
namespace Go.Proofs.YthggibfkgofncaaGreat
open Go.RowKit
theorem St.add {w0 w w':World} {B C:List Own} (s:St w0 B w) (t:St w C w'):St w0 (C++B) w':=by
 refine s.join t.ext C (fun p hp=>?_) (fun p hp k hk=>t.own p hp k hk) t.nd
 have h:=t.has p hp
 cases p with
 |blk b o=>exact h
 |sl v e sz n xs=>exact cH.low h s.ext.le
 |grp ks S=>exact h
theorem gy.of_mem {w0 w:World} {B:List Own} (s:St w0 B w) {b:Nat} {C:Array Value} {u:TypeId} (h:Own.blk b (.cells C u)∈B):gy w b C:=⟨u,(0,0),s.has _ h⟩
def BZ (w:World) (M:TypeId) (n:Nd):cL:=fun v w'=>∃ vs vf,v=.agg (au n.me n.pr vs vf)∧St w [.sl vs M 33 n.sc.length (am n.sc),.sl vf M 33 n.fg.length (am n.fg)] w'
def pY (w:World) (M:TypeId) (n:Nd) (k:Int):cL:=fun v w'=>∃ vs vf,v=.tuple #[.agg (au n.me n.pr vs vf),.int .i64 k]∧St w [.sl vs M 33 n.sc.length (am n.sc),.sl vf M 33 n.fg.length (am n.fg)] w'
theorem jR {w w':World} {M:TypeId} {B:List Own} {n:Nd} {k q:Int} (s:St w B w') (hn:n=tH) (hk:k=q):pY w M n k (.tuple #[.agg (au ap ap aU aU),.int .i64 q]) w':=by
 subst hn;subst hk
 exact ⟨aU,aU,rfl,((s.pick [] (List.nil_sublist _)).nilSl M 33).nilSl M 33⟩
theorem gr {w w':World} {M:TypeId} {n:Nd} {a p:Mb} {l f:List Mb} {vs vf:Value} {k q:Int} (hn:n=⟨a,p,l,f⟩) (hk:k=q) (h:St w [.sl vs M 33 l.length (am l),.sl vf M 33 f.length (am f)] w'):pY w M n k (.tuple #[.agg (au a p vs vf),.int .i64 q]) w':=by
 subst hn;subst hk
 exact ⟨vs,vf,rfl,h⟩
theorem AM {w w':World} {M:TypeId} {n:Nd} {a p:Mb} {l f:List Mb} {vs vf:Value} (hn:n=⟨a,p,l,f⟩) (h:St w [.sl vs M 33 l.length (am l),.sl vf M 33 f.length (am f)] w'):BZ w M n (.agg (au a p vs vf)) w':=by
 subst hn
 exact ⟨vs,vf,rfl,h⟩
theorem nk {w:World} {B:List Own} {w':World} {v:Value} {M:TypeId} {l r:List Mb} (h:l=r) (s:St w (.sl v M 33 l.length (am l)::B) w'):St w (.sl v M 33 r.length (am r)::B) w':=by subst h;exact s
theorem mM (ls:List (List Mb)) (k:Nat) (h:k<ls.length):(ls.take (k+1)).flatten=(ls.take k).flatten++ls.getD k []:=by
 rw [List.take_succ_eq_append_getElem h,List.flatten_append,List.getD_eq_getElem?_getD,List.getElem?_eq_getElem h];simp
theorem lj (ls:List (List Mb)) (k:Nat) (h:k<ls.length):(ls.take k).flatten.length+(ls.getD k []).length=(ls.take (k+1)).flatten.length:=by
 rw [mM ls k h,List.length_append]
theorem qu (ls:List (List Mb)) (k:Nat) (h:k<ls.length):am (ls.take k).flatten++am (ls.getD k [])=am (ls.take (k+1)).flatten:=by
 rw [mM ls k h,dl]
theorem rQ (ls:List (List Mb)) (k:Nat):(ls.take k).flatten.length≤ls.flatten.length:=by
 have:=congrArg (fun x=>x.flatten.length) (List.take_append_drop k ls)
 simp only [List.flatten_append,List.length_append] at this
 omega
theorem px {w:World} {base:Nat} {e:TypeId} {v:Value} {ls:List (List Mb)} {i:Nat} (hi:ls.length≤i) (h:cH w base e 33 v (ls.take i).flatten.length (am (ls.take i).flatten)):cH w base e 33 v ls.flatten.length (am ls.flatten):=by
 rwa [List.take_of_length_le hi] at h
theorem qP {w:World} {a:Option Addr} {n c:Nat} {l:List Mb} (ha:a.isNone=true) (h:bO w (.slice a n c) 33 l.length (am l)):l=[]:=by
 cases a with
 |some p=>cases ha
 |none=>
  rcases h.2 with ⟨h1,h2⟩|⟨p,cap,h1,_⟩
  ·exact List.eq_nil_of_length_eq_zero h2
  ·cases h1
def oa (q:Mb→Bool) (l:List Mb) (j:Nat):List Mb:=(l.take j).filter q++l.drop ((l.take j).filter q).length
def ja (q:Mb→Bool) (l:List Mb) (j:Nat):Nat:=((l.take j).filter q).length
theorem qR (q:Mb→Bool) (l:List Mb) (j:Nat):ja q l j≤j:=by
 unfold ja
 have:=List.length_filter_le q (l.take j)
 rw [List.length_take] at this;omega
theorem xr (q:Mb→Bool) (l:List Mb) (j:Nat):ja q l j≤l.length:=by
 unfold ja
 have:=List.length_filter_le q (l.take j)
 rw [List.length_take] at this;omega
theorem rG (q:Mb→Bool) (l:List Mb) (j:Nat):(oa q l j).length=l.length:=by
 have:=xr q l j
 unfold ja at this
 unfold oa;rw [List.length_append,List.length_drop];omega
theorem wV {q:Mb→Bool} {l:List Mb} {j:Nat} (hj:j<l.length):(oa q l j).getD j ap=l.getD j ap:=by
 have h1:=qR q l j
 unfold ja at h1
 unfold oa
 rw [List.getD_eq_getElem?_getD,List.getElem?_append_right h1,List.getElem?_drop,List.getD_eq_getElem?_getD]
 congr 2
 omega
theorem ve {q:Mb→Bool} {l:List Mb} {j:Nat} (hj:j<l.length) (h:q (l.getD j ap)=false):oa q l (j+1)=oa q l j∧ja q l (j+1)=ja q l j:=by
 have e:(l.take (j+1)).filter q=(l.take j).filter q:=by rw [kF hj,List.filter_append,List.filter_cons,h];simp
 unfold oa ja;rw [e];exact ⟨rfl,rfl⟩
theorem rk {q:Mb→Bool} {l:List Mb} {j:Nat} (hj:j<l.length) (h:q (l.getD j ap)=true):oa q l (j+1)=(oa q l j).set (ja q l j) (l.getD j ap)∧ja q l (j+1)=ja q l j+1:=by
 have e:(l.take (j+1)).filter q=(l.take j).filter q++[l.getD j ap]:=by rw [kF hj,List.filter_append,List.filter_cons,h];simp
 have h1:=qR q l j
 refine ⟨?_,by unfold ja;rw [e,List.length_append];rfl⟩
 unfold ja at h1
 unfold oa ja
 rw [e,List.length_append]
 show (_++[_])++l.drop (_+1)=_
 rw [List.set_append_right _ _ (Nat.le_refl _),Nat.sub_self,List.append_assoc]
 congr 1
 rw [List.drop_eq_getElem_cons (show ((l.take j).filter q).length<l.length by omega),List.set_cons_zero];rfl
theorem sB {q:Mb→Bool} {l:List Mb} {k:Nat} (hk:k<l.length) (h:∀ i,i<k→q (l.getD i ap)=true) (hq:q (l.getD k ap)=false):oa q l (k+1)=l∧ja q l (k+1)=k:=by
 have e:(l.take k).filter q=l.take k:=by
  rw [List.filter_eq_self]
  intro x hx
  obtain ⟨i,hi,rfl⟩:=List.mem_iff_getElem.1 hx
  rw [List.length_take] at hi
  rw [List.getElem_take,ms (by omega)]
  exact h i (by omega)
 obtain ⟨e1,e2⟩:=ve hk hq
 rw [e1,e2]
 unfold oa ja
 rw [e,List.length_take,Nat.min_eq_left (by omega),List.take_append_drop]
 exact ⟨rfl,rfl⟩
theorem yy (q:Mb→Bool) (l:List Mb):ja q l l.length=(l.filter q).length:=by unfold ja;rw [List.take_length]
theorem yq (q:Mb→Bool) (l:List Mb):oa q l l.length=l.filter q++l.drop (l.filter q).length:=by unfold oa;rw [List.take_length]
theorem AR {q:Mb→Bool} {l:List Mb} {k:Nat} (hk:k<l.length) (hq:q (l.getD k ap)=false):(l.filter q).length<l.length:=by
 rcases Nat.lt_or_ge (l.filter q).length l.length with h|h
 ·exact h
 ·have h1:=List.length_filter_le q l
  have h2:l.filter q=l:=List.filter_eq_self.2 (by
   have:=List.length_filter_eq_length_iff.1 (show (l.filter q).length=l.length by omega)
   exact this)
  have h3:=List.filter_eq_self.1 h2 _ (dx hk)
  rw [hq] at h3;cases h3
theorem si (q:Mb→Bool) (l:List Mb):(am (oa q l l.length)).take ((l.filter q).length*33)=am (l.filter q):=by
 rw [yq,dl,List.take_left' (dC _)]
theorem sr {l:List Mb} {p:Mb→Bool} (h:∀ x∈l,p x=false):(l.filter fun x => !p x)=l:=List.filter_eq_self.2 fun x hx=>by rw [h x hx];rfl
theorem Cc (nos:List Int) (k:Nat) (h:k<nos.length):(nos.map (Value.int .i64))[k]? = some (.int .i64 (nos.getD k 0)):=by
 rw [List.getElem?_map,List.getD_eq_getElem?_getD,List.getElem?_eq_getElem h];rfl
theorem DK {nos:List Int} {k:Nat} (h:k<nos.length):nos[k]=nos.getD k 0:=by rw [List.getD_eq_getElem?_getD,List.getElem?_eq_getElem h];rfl
theorem xh {nos:List Int} {no:Int} {r:Int} (h:(r = -1∧∀ k,k<nos.length→nos.getD k 0≠no)∨∃ k:Nat,k<nos.length∧r=(k:Int)∧nos.getD k 0=no):decide (0≤r)=nos.any fun k=>decide (k=no):=by
 rcases h with ⟨rfl,h⟩|⟨k,hk,rfl,h⟩
 ·rw [decide_eq_false (by decide)]
  symm
  rw [List.any_eq_false]
  intro x hx
  obtain ⟨i,hi,rfl⟩:=List.mem_iff_getElem.1 hx
  have:=h i hi
  rw [← DK hi] at this
  simpa using this
 ·rw [decide_eq_true (by omega)]
  symm
  rw [List.any_eq_true]
  exact ⟨nos[k],List.getElem_mem hk,by rw [DK hk];simpa using h⟩
section
variable {P:Program} {ρ:Operand→Value} {d:Option Tmp} {ty:TypeId} {pos:String} {af:Array Edge} {g:Option (Nat × Bool)} {x y z:Operand} {t:TypeId}
end
end Go.Proofs.YthggibfkgofncaaGreat
namespace Go.Proofs.YthggibfkgofncaaGreat
theorem zP {m:Mb} (h:decide (m.1 = -1)=false):decide (m=c4)=false:=decide_eq_false fun e=>of_decide_eq_false h (by rw [e];rfl)
theorem A6 {m:Mb} (h:decide (m.1 = -1)=true):decide (m=c4)=decide (m.2=0#256):=by
 have h:=of_decide_eq_true h
 rw [decide_eq_decide]
 exact ⟨fun e=>by rw [e];rfl,fun e=>Prod.ext h e⟩
end Go.Proofs.YthggibfkgofncaaGreat
namespace Go.Proofs.YthggibfkgofncaaGreat
open Go.RowKit
def CB (m:Mb):Nd:=bif dI m then ⟨m,c4,[m],[]⟩ else tH
def Cn (m:Mb):Int:=bif dI m then 0 else 1
theorem oM {m:Mb} (h:dI m=false):CB m=tH∧Cn m=1:=by unfold CB Cn;rw [h];exact ⟨rfl,rfl⟩
theorem pI {m:Mb} (h:dI m=true):CB m=⟨m,c4,[m],[]⟩∧Cn m=0:=by unfold CB Cn;rw [h];exact ⟨rfl,rfl⟩
theorem xM {w w':World} {M:TypeId} {n:Nd} {a p:Mb} {l:List Mb} {vs:Value} {k q:Int} (hn:n=⟨a,p,l,[]⟩) (hk:k=q) (h:St w [.sl vs M 33 l.length (am l)] w'):pY w M n k (.tuple #[.agg (au a p vs aU),.int .i64 q]) w':=
 gr hn hk ((h.nilSl M 33).perm (List.Perm.swap _ _ _))
theorem nT {w:World} {v:Value} {sz n:Nat} {xs:List Value} (h:bO w v sz n xs):v.cells.size=1:=by obtain ⟨a,c,rfl⟩:=h.len;rfl
theorem lE {w:World} {v:Value} {sz n:Nat} {xs:List Value} (h:bO w v sz n xs):v.cells.toList=[v]:=by obtain ⟨a,c,rfl⟩:=h.len;rfl
end Go.Proofs.YthggibfkgofncaaGreat
namespace Go.Proofs.YthggibfkgofncaaGreat
open Go.RowKit
section
variable {P:Program} {a:Act} {w w0:World} {N:Nat} {L:List (Nat × Value)} {B:List Own} {fn:Func} {T:cL}
theorem jA {p q:Tmp} {b n D:Nat} {C:Array Value} {V:Value} {t u:TypeId} (i j:Nat) (hres:fn.results=#[.cell p t,.tmp q]) (h:Sl N a L [{target:=.collected D,args:=#[]}]) (s:St w0 B w) (hr:Row P t n) (hp:lk L p=some (.pointer (some ⟨b,0,none⟩))) (hq:lk L q=some V)
 (hj:B[j]? = some (.blk D (.deferred (some [])))) (hij:(B.set j (.blk D (.deferred none)))[i]? = some (.blk b (.cells C u))) (hn:C.size=n) (hT:∀ w',St w0 (B.set j (.blk D (.deferred none))) w'→T (.tuple #[.agg C,V]) w'):bodyPostM (FR none) 0 P fn (cO w0 T) .ret a w:=by
 show LeavesInM (FR none) 0 P fn a.tmps (cO w0 T) a.defers .returning w
 rw [h.defers]
 have s2:=s.putObj j hj (.deferred none)
 refine ⟨by simp,.inl ⟨D,_,rfl,run_takeDeferred (s.get j hj),?_⟩⟩
 have hp':a.tmps[p]?.getD undef=.pointer (some ⟨b,0,none⟩):=by simpa using h.holds p _ hp
 have hq':a.tmps[q]?.getD undef=V:=by simpa using h.holds q _ hq
 refine ⟨.tuple #[.agg C,V],?_,_,rfl,hT _ s2,s2.ext⟩
 simp [results,hres,hp',hq',asAddr,dG hr _ b C u (0,0) (s2.get i hij) hn]
theorem fN {p q:Tmp} {b n:Nat} {C:Array Value} {V:Value} {t u:TypeId} (i:Nat) (hres:fn.results=#[.cell p t,.tmp q]) (h:Sl N a L) (s:St w0 B w) (hr:Row P t n) (hp:lk L p=some (.pointer (some ⟨b,0,none⟩))) (hq:lk L q=some V)
 (hi:B[i]? = some (.blk b (.cells C u))) (hn:C.size=n) (hT:T (.tuple #[.agg C,V]) w):bodyPostM (FR none) 0 P fn (cO w0 T) .ret a w:=by
 show LeavesInM (FR none) 0 P fn a.tmps (cO w0 T) a.defers .returning w
 rw [h.defers]
 have hp':a.tmps[p]?.getD undef=.pointer (some ⟨b,0,none⟩):=by simpa using h.holds p _ hp
 have hq':a.tmps[q]?.getD undef=V:=by simpa using h.holds q _ hq
 refine ⟨.tuple #[.agg C,V],?_,_,rfl,hT,s.ext⟩
 simp [results,hres,hp',hq',asAddr,dG hr _ b C u (0,0) (s.get i hi) hn]
end
theorem re {no:Int} {l:List Mb} {d:Nat} (hm:d≤(c5 no l).length) (hd:d<l.length) (h:decide ((l.getD d ap).1=no)=false):d<(c5 no l).length:=
 mR hd (fun j hj=>by have h1:=(jr (dx (show j<(c5 no l).length by omega))).2;rwa [jc (by omega)] at h1) (of_decide_eq_false h)
theorem tR (cur:List Value) (z:List Value) (q:Mb→Bool) (l:List Mb) (h1:cur.take (l.length*33)=am (oa q l l.length)) (hl:l.length*33≤cur.length) (hz:z.length=(l.length - (l.filter q).length)*33) (o:Nat) (ho:o=(l.filter q).length*33) (m:Nat) (hm:m=(l.length - (l.filter q).length)*33):
 (cur.take o++z++cur.drop (o+m)).length=cur.length∧(cur.take o++z++cur.drop (o+m)).take o=am (l.filter q):=by
 subst ho;subst hm
 have hle:=List.length_filter_le q l
 obtain ⟨e1,e2⟩:=rp cur z ((l.filter q).length*33) ((l.length - (l.filter q).length)*33) (by rw [← Nat.add_mul];rw [show (l.filter q).length+(l.length - (l.filter q).length)=l.length by omega];exact hl) hz
 refine ⟨e1,e2.trans ?_⟩
 have h9:=congrArg (List.take ((l.filter q).length*33)) h1
 rw [List.take_take,Nat.min_eq_left (Nat.mul_le_mul_right 33 hle),si] at h9
 exact h9
end Go.Proofs.YthggibfkgofncaaGreat
namespace Go.Proofs.YthggibfkgofncaaGreat
theorem Bf {w:World} {v:Value} {sz n:Nat} {xs:List Value} (h:bO w v sz n xs):v.cells=#[v]:=by obtain ⟨a,c,rfl⟩:=h.len;rfl
end Go.Proofs.YthggibfkgofncaaGreat
namespace Go.Proofs.YthggibfkgofncaaGreat
open Go.RowKit
structure FldT (P:Program) (t:TypeId) (f off:Nat) (tf:TypeId):Prop where
 has:∃ fields fd,P.underlying t=some (.struct fields)∧fields[f]? = some fd∧fd.type=tf∧fd.offset=off
theorem mW {P:Program} {ρ:Operand→Value} {d:Option Tmp} {ty:TypeId} {pos:String} {af:Array Edge} {g:Option (Nat × Bool)} {x:Operand} {t tf:TypeId} {f off:Nat} {C:Array Value} {V:Value} (F:FldT P t f off tf) (ho:One P tf) (hx:ρ x=.agg C) (hC:C[off]? = some V):
 bM P ⟨d,.field t x f,ty,pos,af,g⟩ ρ V:=fun w=>by
 obtain ⟨fields,fd,h1,h2,h3,h4⟩:=F.has
 simp [execOp,hx,Instr.field,Sem.run_bind,run_underlying h1,h2,asAgg,part,h3,h4,iy ho w,hC]
def eF (a b:Nd):Bool:=decide (a.me=b.me) && (decide (a.pr=b.pr) && (decide (a.sc=b.sc) && decide (a.fg=b.fg)))
theorem uv (a:Nd):eF a a=true:=by unfold eF;simp
theorem zL {a b:Nd} (h:a=b):eF a b=true:=by subst h;exact uv a
theorem DB {a b:Nd} (h:decide (a.me=b.me)=false):eF a b=false:=by unfold eF;rw [h];rfl
theorem Dv {a b:Nd} (h:decide (a.pr=b.pr)=false):eF a b=false:=by unfold eF;rw [h,Bool.false_and,Bool.and_false]
theorem C2 {a b:Nd} (h:decide (a.sc=b.sc)=false):eF a b=false:=by unfold eF;rw [h,Bool.false_and,Bool.and_false,Bool.and_false]
theorem Du {a b:Nd} (h:decide (a.me=b.me)=true) (h1:decide (a.pr=b.pr)=true) (h2:decide (a.sc=b.sc)=true):eF a b=decide (a.fg=b.fg):=by unfold eF;rw [h,h1,h2];rfl
def BN (w:World) (M:TypeId) (a p:Mb) (l:List Mb) (vf:Value):cL:=fun v w'=>∃ vo,v=.agg (au a p vo vf)∧cH w' w.heap.size M 33 vo l.length (am l)
def DO (w:World) (M:TypeId) (a p:Mb) (s f:List Mb):cL:=fun v w'=>∃ vs vf,v=.agg (au a p vs vf)∧St w [.sl vs M 33 s.length (am s),.sl vf M 33 f.length (am f)] w'
end Go.Proofs.YthggibfkgofncaaGreat
namespace Go.Proofs.YthggibfkgofncaaGreat
end Go.Proofs.YthggibfkgofncaaGreat
namespace Go.Proofs.YthggibfkgofncaaGreat
open Go.RowKit
def zW (a p:Mb) (l:List Mb) (vf:Value):cL:=fun v w=>∃ vo,v=.agg (au a p vo vf)∧bO w vo 33 l.length (am l)
theorem zW.mono (a p:Mb) (l:List Mb) (vf:Value):im (zW a p l vf):=fun _ _ _ ⟨vo,h1,h2⟩ hE=>⟨vo,h1,h2.keep hE⟩
theorem BN.d {w w':World} {M:TypeId} {a p:Mb} {l:List Mb} {vf v:Value} (h:BN w M a p l vf v w'):zW a p l vf v w':=by obtain ⟨vo,h1,h2⟩:=h;exact ⟨vo,h1,bO.of_own h2⟩
def Di (a p:Mb) (s f:List Mb):cL:=fun v w=>∃ vs vf,v=.agg (au a p vs vf)∧bO w vs 33 s.length (am s)∧bO w vf 33 f.length (am f)
theorem Di.mono (a p:Mb) (s f:List Mb):im (Di a p s f):=fun _ _ _ ⟨vs,vf,h1,h2,h3⟩ hE=>⟨vs,vf,h1,h2.keep hE,h3.keep hE⟩
theorem DO.d {w w':World} {M:TypeId} {a p:Mb} {s f:List Mb} {v:Value} (h:DO w M a p s f v w'):Di a p s f v w':=by
 obtain ⟨vs,vf,h1,h2⟩:=h
 exact ⟨vs,vf,h1,bO.of_own (h2.getSl 0 rfl),bO.of_own (h2.getSl 1 rfl)⟩
end Go.Proofs.YthggibfkgofncaaGreat
namespace Go.Proofs.YthggibfkgofncaaGreat
open Go.RowKit
def CV:Option Value→Value
 |some (.slice p n k)=>.slice p n k
 |_=>aU
theorem yh (o:Option Value):(CV o).oneCell'=true:=by
 unfold CV
 split<;>rfl
def BF (i:Nat):Option Value→Value
 |some (Value.agg c)=>CV (c[i]?)
 |_=>aU
def bp (i:Nat):Value→Value
 |Value.tuple a=>BF i (a[0]?)
 |_=>aU
theorem ye (i:Nat) (o:Option Value):(BF i o).oneCell'=true:=by
 unfold BF
 split
 ·exact yh _
 ·rfl
theorem eN (i:Nat) (v:Value):(bp i v).oneCell'=true:=by
 unfold bp
 split
 ·exact ye _ _
 ·rfl
theorem lm {a p:Mb} {vs vf:Value} {k:Int} {w:World} {sz n:Nat} {xs:List Value} (h:bO w vs sz n xs):bp 66 (.tuple #[.agg (au a p vs vf),.int .i64 k])=vs:=by
 obtain ⟨q,c,rfl⟩:=h.len
 have h1:(#[Value.agg (au a p (.slice q n c) vf),Value.int .i64 k]:Array Value)[0]? = some (Value.agg (au a p (.slice q n c) vf)):=rfl
 unfold bp
 simp only [h1,BF]
 rw [c7];rfl
theorem mc {a p:Mb} {vs vf:Value} {k:Int} {w:World} {sz n:Nat} {xs:List Value} (h:bO w vf sz n xs):bp 67 (.tuple #[.agg (au a p vs vf),.int .i64 k])=vf:=by
 obtain ⟨q,c,rfl⟩:=h.len
 have h1:(#[Value.agg (au a p vs (.slice q n c)),Value.int .i64 k]:Array Value)[0]? = some (Value.agg (au a p vs (.slice q n c))):=rfl
 unfold bp
 simp only [h1,BF]
 rw [ed];rfl
abbrev N3:=Nd × Value × Value
def z3:N3:=(tH,aU,aU)
def mw (x:N3):List Value:=il x.1.me x.1.pr x.2.1 x.2.2
def aD (l:List N3):List Value:=l.flatMap mw
theorem fI (x:N3):(mw x).length=68:=q7 _ _ _ _
theorem cR (l:List N3) (j:Nat) (hj:j<l.length):(((aD l).drop (j*68)).take 68).toArray=au (l.getD j z3).1.me (l.getD j z3).1.pr (l.getD j z3).2.1 (l.getD j z3).2.2:=by
 unfold aD
 rw [gJ _ 68 fI l j hj,List.getD_eq_getElem?_getD,List.getElem?_eq_getElem hj];rfl
def mP (w:World) (x:N3):Prop:=bO w x.2.1 33 x.1.sc.length (am x.1.sc)∧bO w x.2.2 33 x.1.fg.length (am x.1.fg)
end Go.Proofs.YthggibfkgofncaaGreat
namespace Go.Proofs.YthggibfkgofncaaGreat
open Go.RowKit Go.ChangeShapes Go.WideShapes Go.ChangeAt
theorem g6 {H:Type} {enc:TypeId × Value→H} {P:Program} {W:World} {ts t tn ti e:TypeId} {f0 f1:Field} {fuel:Nat} {cs:List Value} {x:DataW H × List MemPlace} (T:IdTy P ti e) (hc:P.cellsOf ti=32) (hce:P.cellsOf e=1) (hn:P.underlying tn=some (.int .i64)) (hcn:P.cellsOf tn=1)
 (hts:P.underlying ts=some (.slice t)) (ht:P.underlying t=some (.struct #[f0,f1])) (h0:f0.type=tn) (h1:f1.type=ti) (o0:f0.offset=0) (o1:f1.offset=1) (hct:P.cellsOf t=33)
 (hf:DataW.trod enc P W 0 (fun _=>true) true fuel ts cs=some x):∃ (v:Value) (ls:List Mb),cs=[v]∧bO W v 33 ls.length (am ls):=by
 rcases Go.Deep.open_slice hts hf with ⟨hcs,_⟩|⟨a',len,cap,m,k,D,Pl,hcs,_,hl,_,hm,_,hel⟩
 ·exact ⟨_,[],hcs,rfl,.inl ⟨rfl,rfl⟩⟩
 ·have hml:len≤m:=by rw [hm];split<;>omega
  have each:∀ i,∃ l:Mb,i<len→bq W (a'.add (i*33)) (av l):=fun i=>by
   by_cases hi:i<len
   ·obtain ⟨cs',hc1,hc2⟩:=hel i (by omega)
    obtain ⟨l,rfl⟩:=fp T hc hce hn hcn ht h0 h1 o0 o1 hct hc2
    refine ⟨l,fun _ j u hj=>?_⟩
    rw [hct] at hc1
    obtain ⟨_,hlen,hall⟩:=World.cells?_some hc1
    have hj33:j<33:=by have:=(Array.getElem?_eq_some_iff.1 hj).1;rw [al] at this;exact this
    have:=hall j hj33
    rw [this,Array.getElem?_toList];exact hj
   ·exact ⟨ap,fun h9=>absurd h9 hi⟩
  obtain ⟨L,hL⟩:=Classical.axiomOfChoice each
  refine ⟨_,(List.range len).map L,hcs,?_,.inr ⟨a',cap,by simp,by simpa using hl,?_⟩⟩
  ·rw [dC]
  ·refine fW _ 33 (by decide) cj _ fun i hi=>?_
   have hi':i<len:=by simpa using hi
   have h9:((List.range len).map L)[i]=L i:=by simp
   rw [h9]
   exact hL i hi'
theorem rW {cs a b c d:List Value} (hl:cs.length=68) (h0:(cs.drop 0).take 33=a) (h1:(cs.drop 33).take 33=b) (h2:(cs.drop 66).take 1=c) (h3:(cs.drop 67).take 1=d):cs=a++(b++(c++d)):=by
 subst h0;subst h1;subst h2;subst h3
 have e3:(cs.drop 67).take 1=cs.drop 67:=List.take_of_length_le (by rw [List.length_drop];omega)
 have e2:(cs.drop 66).take 1++cs.drop 67=cs.drop 66:=by
  have:=List.take_append_drop 1 (cs.drop 66)
  rwa [List.drop_drop] at this
 have e1:(cs.drop 33).take 33++cs.drop 66=cs.drop 33:=by
  have:=List.take_append_drop 33 (cs.drop 33)
  rwa [List.drop_drop] at this
 rw [e3,e2,e1,List.drop_zero,List.take_append_drop]
theorem Bk {H:Type} {enc:TypeId × Value→H} {P:Program} {W:World} {r:Reach} {b0:Nat} {tm ts t tn ti e:TypeId} {g0 g1 g2 g3 f0 f1:Field} {v:Value} {d:DataW H} {ps:List MemPlace} (T:IdTy P ti e) (hc:P.cellsOf ti=32) (hce:P.cellsOf e=1) (hn:P.underlying tn=some (.int .i64)) (hcn:P.cellsOf tn=1)
 (hcs:P.cellsOf ts=1) (hts:P.underlying ts=some (.slice t)) (ht:P.underlying t=some (.struct #[f0,f1])) (h0:f0.type=tn) (h1:f1.type=ti) (o0:f0.offset=0) (o1:f1.offset=1) (hct:P.cellsOf t=33)
 (htm:P.underlying tm=some (.struct #[g0,g1,g2,g3])) (ht0:g0.type=t) (ht1:g1.type=t) (ht2:g2.type=ts) (ht3:g3.type=ts) (ho0:g0.offset=0) (ho1:g1.offset=33) (ho2:g2.offset=66) (ho3:g3.offset=67) (hctm:P.cellsOf tm=68)
 (hval:Value.okWide P W r b0 tm v) (h:DataW.Trod enc P W 0 (fun _=>true) true tm v d ps):∃ (n:Nd) (vs vf:Value),v=.agg (au n.me n.pr vs vf)∧bO W vs 33 n.sc.length (am n.sc)∧bO W vf 33 n.fg.length (am n.fg):=by
 have hv:∃ cs,v=.agg cs:=by
  unfold Value.okWide at hval
  simp only [htm] at hval
  obtain ⟨cs,h9,_⟩:=hval
  exact ⟨cs,h9⟩
 obtain ⟨cs,rfl⟩:=hv
 obtain ⟨fuel,hf⟩:=h
 obtain ⟨xs,n,hcells,_,hl,hxl,hel⟩:=DataW.trod_struct htm hf
 have hcl:cs.toList.length=68:=by rw [← hctm];simpa [Value.cells] using hl
 have hx4:xs.length=4:=by simpa using hxl
 have e0:=hel 0 g0 rfl
 have e1:=hel 1 g1 rfl
 have e2:=hel 2 g2 rfl
 have e3:=hel 3 g3 rfl
 rw [ht0,ho0,hct,List.getElem?_eq_getElem (by omega)] at e0
 rw [ht1,ho1,hct,List.getElem?_eq_getElem (by omega)] at e1
 rw [ht2,ho2,hcs,List.getElem?_eq_getElem (by omega)] at e2
 rw [ht3,ho3,hcs,List.getElem?_eq_getElem (by omega)] at e3
 obtain ⟨a,ha⟩:=fp T hc hce hn hcn ht h0 h1 o0 o1 hct e0
 obtain ⟨b,hb⟩:=fp T hc hce hn hcn ht h0 h1 o0 o1 hct e1
 obtain ⟨u,ls,hu,hls⟩:=g6 T hc hce hn hcn hts ht h0 h1 o0 o1 hct e2
 obtain ⟨u2,ls2,hu2,hls2⟩:=g6 T hc hce hn hcn hts ht h0 h1 o0 o1 hct e3
 refine ⟨⟨a,b,ls,ls2⟩,u,u2,?_,hls,hls2⟩
 simp only [Value.cells] at ha hb hu hu2
 have key:cs.toList=(au a b u u2).toList:=rW hcl ha hb hu hu2
 rw [Array.toList_inj.1 key]
theorem pn {α:Type} (f:α→Value):∀ l:List α,l.flatMap (fun x=>[f x])=l.map f
 |[]=>rfl
 |x::l=>by rw [List.flatMap_cons,pn f l];rfl
theorem BC {H:Type} {enc:TypeId × Value→H} {P:Program} {W:World} {r:Reach} {b0:Nat} {t e:TypeId} {v:Value} {d:DataW H} {ps:List MemPlace} (ht:P.underlying t=some (.slice e)) (he:P.underlying e=some (.int .i64)) (hc:P.cellsOf e=1)
 (hval:Value.okWide P W r b0 t v) (h:DataW.Trod enc P W 0 (fun _=>true) true t v d ps):∃ qs:List Int,bO W v 1 qs.length (qs.map (Value.int .i64)):=by
 obtain ⟨a,n,c,rfl⟩:=okWide_slice ht hval
 obtain ⟨fuel,hf⟩:=h
 rcases Go.Deep.open_slice ht hf with ⟨hcs,_⟩|⟨a',len,cap,m,k,D,Pl,hcs,_,hl,_,hm,_,hel⟩
 ·have:Value.slice a n c=.slice none 0 0:=by simpa [Value.cells] using hcs
  exact ⟨[],rfl,.inl ⟨this,rfl⟩⟩
 ·have hv:Value.slice a n c=.slice (some a') len cap:=by simpa [Value.cells] using hcs
  have hml:len≤m:=by rw [hm];split<;>omega
  have each:∀ i,∃ x:Int,i<len→bq W (a'.add (i*1)) #[.int .i64 x]:=fun i=>by
   by_cases hi:i<len
   ·obtain ⟨cs',hc1,hc2⟩:=hel i (by omega)
    obtain ⟨x,hx,_⟩:=DataW.trod_int he hc2
    subst hx
    refine ⟨x,fun _ j u hj=>?_⟩
    rw [hc] at hc1
    obtain ⟨_,hlen,hall⟩:=World.cells?_some hc1
    have hj1:j<1:=(Array.getElem?_eq_some_iff.1 hj).1
    have:=hall j hj1
    rw [this];simpa using hj
   ·exact ⟨0,fun h9=>absurd h9 hi⟩
  obtain ⟨L,hL⟩:=Classical.axiomOfChoice each
  refine ⟨(List.range len).map L,by simp,.inr ⟨a',cap,by rw [hv];simp,by simpa using hl,?_⟩⟩
  have:=fW (fun x:Int=>[Value.int .i64 x]) 1 (by decide) (fun _=>rfl) (w:=W) (p:=a') ((List.range len).map L) fun i hi=>by
   have hi':i<len:=by simpa using hi
   have:=hL i hi'
   simpa using this
  rwa [pn] at this
end Go.Proofs.YthggibfkgofncaaGreat
