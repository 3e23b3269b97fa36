/- Nodes: which may be, what hearing, following, dropping and pointing make of them, and that what may be stays such; nodes that come in; no Go in it. -/
import Derived.Test.YthggibfkgofncaaGreatRg
set_option linter.unusedVariables false
set_option linter.unusedSimpArgs false
set_option linter.unusedSectionVars false
namespace Go.Proofs.YthggibfkgofncaaGreat
open Go.RowKit
structure Nd where
 me:Mb
 pr:Mb
 sc:List Mb
 fg:List Mb
def t6:Nd:=⟨aZ,aZ,[],[]⟩
def bp:Value:=.slice none 0 0
def iW (m p:Mb) (vs vf:Value):List Value:=iP m++(iP p++[vs,vf])
def ay (m p:Mb) (vs vf:Value):Array Value:=(iW m p vs vf).toArray
theorem rj (m p:Mb) (vs vf:Value):(iW m p vs vf).length=68:=by simp [iW,cz]
theorem ap (m p:Mb) (vs vf:Value):(ay m p vs vf).size=68:=by simp [ay,rj]
theorem a7 {m p:Mb} {vs vf:Value} (h1:vs.oneCell'=true) (h2:vf.oneCell'=true):∀ v∈(ay m p vs vf).toList,v.oneCell'=true:=fun v hv=>by
 have hv:v∈iW m p vs vf:=hv
 unfold iW at hv
 rcases List.mem_append.1 hv with hv|hv
 ·exact iD m v hv
 ·rcases List.mem_append.1 hv with hv|hv
  ·exact iD p v hv
  ·simp only [List.mem_cons,List.not_mem_nil,or_false] at hv
   rcases hv with rfl|rfl
   ·exact h1
   ·exact h2
theorem p8 (m p:Mb) (vs vf:Value) (i:Nat):(ay m p vs vf)[i]? = (iW m p vs vf)[i]? := by simp [ay]
theorem bZ (m p:Mb) (vs vf:Value):(ay m p vs vf)[0]? = some (.int .i64 m.1):=rfl
theorem xb (m p:Mb) (vs vf:Value) (i:Nat):(iW m p vs vf)[33+i]? = (iP p++[vs,vf])[i]? := by
 unfold iW
 rw [List.getElem?_append_right (by rw [cz];omega),cz,Nat.add_sub_cancel_left]
theorem nQ (m p:Mb) (vs vf:Value) (i:Nat):(iW m p vs vf)[66+i]? = [vs,vf][i]? := by
 rw [show 66+i=33+(33+i) by omega,xb,List.getElem?_append_right (by rw [cz];omega),cz,Nat.add_sub_cancel_left]
theorem cF (m p:Mb) (vs vf:Value):(ay m p vs vf)[33]? = some (.int .i64 p.1):=by rw [p8];exact xb m p vs vf 0
theorem bA (m p:Mb) (vs vf:Value):(ay m p vs vf)[66]? = some vs:=by rw [p8];exact nQ m p vs vf 0
theorem cO (m p:Mb) (vs vf:Value):(ay m p vs vf)[67]? = some vf:=by rw [p8];exact nQ m p vs vf 1
theorem jJ (l:List Value) (o n:Nat) (D:List Value) (h:(l.drop o).take n=D):l.toArray.extract o (o+n)=D.toArray:=by
 apply Array.ext'
 rw [Array.toList_extract,List.extract_eq_take_drop,Nat.add_sub_cancel_left]
 exact h
theorem bj (m p:Mb) (vs vf:Value):(ay m p vs vf).extract 0 (0+33)=av m:=jJ _ _ _ _ (by
 rw [List.drop_zero];unfold iW;rw [List.take_left' (cz m)])
theorem my (m p:Mb) (vs vf:Value) (i:Nat) (h:i≤33):(iW m p vs vf).drop (33+i)=(iP p).drop i++[vs,vf]:=by
 unfold iW
 rw [← List.drop_drop,List.drop_left' (cz m),List.drop_append_of_le_length (by rw [cz];exact h)]
theorem bc (m p:Mb) (vs vf:Value):(ay m p vs vf).extract 33 (33+33)=av p:=jJ _ _ _ _ (by
 rw [my m p vs vf 0 (by omega),List.drop_zero,List.take_left' (cz p)])
theorem o4 (m:Mb):(iP m).drop 1=(bO m.2).toList:=rfl
theorem ep (m p:Mb) (vs vf:Value):(ay m p vs vf).extract 1 (1+32)=bO m.2:=jJ _ _ _ (bO m.2).toList (by
 unfold iW
 rw [List.drop_append_of_le_length (by rw [cz];omega),o4,List.take_left' (by rw [Array.length_toList,ba])])
theorem m8 (m p:Mb) (vs vf:Value):(ay m p vs vf).extract 34 (34+32)=bO p.2:=jJ _ _ _ (bO p.2).toList (by
 rw [show 34=33+1 from rfl,my m p vs vf 1 (by omega),o4,List.take_left' (by rw [Array.length_toList,ba])])
theorem fo (m p:Mb) (vs vf v:Value):(ay m p vs vf).setIfInBounds 66 v=ay m p v vf:=by
 apply Array.ext'
 rw [Array.toList_setIfInBounds]
 show (iW m p vs vf).set 66 v=iW m p v vf
 unfold iW
 rw [List.set_append_right _ _ (by rw [cz];omega),List.set_append_right _ _ (by rw [cz,cz];omega),cz,cz]
 rfl
theorem il (m p:Mb) (vs vf v:Value):(ay m p vs vf).setIfInBounds 67 v=ay m p vs v:=by
 apply Array.ext'
 rw [Array.toList_setIfInBounds]
 show (iW m p vs vf).set 67 v=iW m p vs v
 unfold iW
 rw [List.set_append_right _ _ (by rw [cz];omega),List.set_append_right _ _ (by rw [cz,cz];omega),cz,cz]
 rfl
theorem ff (m p q:Mb) (vs vf:Value):((ay m p vs vf).toList.take 33++(av q).toList++(ay m p vs vf).toList.drop (33+(av q).size)).toArray=ay m q vs vf:=by
 rw [aj]
 show ((iW m p vs vf).take 33++iP q++(iW m p vs vf).drop (33+33)).toArray=(iW m q vs vf).toArray
 rw [my m p vs vf 33 (Nat.le_refl _),List.drop_of_length_le (by rw [cz];exact Nat.le_refl _),List.nil_append]
 unfold iW
 rw [List.take_left' (cz m),List.append_assoc]
theorem dc {w:World} {v:Value} {sz n:Nat} {xs:List Value} (h:bX w v sz n xs):v.oneCell'=true:=by
 obtain ⟨a,c,rfl⟩:=h.len
 rfl
def Co:List (List Value):=[.int .i64 0::List.replicate 32 (.int .u8 0),.int .i64 0::List.replicate 32 (.int .u8 0),[.slice none 0 0],[.slice none 0 0]]
theorem mB:iP aZ=Value.int .i64 0::List.replicate 32 (Value.int .u8 0):=by
 have:=congrArg Array.toList oI
 exact this
theorem yj:ay aZ aZ bp bp=Co.flatten.toArray:=by
 unfold ay iW
 rw [mB];rfl
section
variable {P:Program} {ρ:Operand→Value} {d:Option Tmp} {ty:TypeId} {pos:String} {af:Array Edge} {g:Option (Nat × Bool)} {x y z:Operand} {t:TypeId}
theorem ef (S:Stt P t Co):ca P ⟨d,.build t #[],ty,pos,af,g⟩ ρ (.agg (ay aZ aZ bp bp)):=by
 have:=ec (P:=P) (ρ:=ρ) (d:=d) (ty:=ty) (pos:=pos) (af:=af) (g:=g) (parts:=#[]) S [] (by simp) (fun i v hm=>by simp at hm) (D:=iW aZ aZ bp bp) (by unfold iW;rw [mB];rfl)
 exact this
theorem oe {m p:Mb} {v:Value} (S:Stt P t Co) (hv:v.cells.size=1) (hc:v.cells.toList=[v]) (hx:ρ x=.agg (av m)) (hy:ρ y=.agg (av p)) (hz:ρ z=v):ca P ⟨d,.build t #[(0,x),(1,y),(2,z)],ty,pos,af,g⟩ ρ (.agg (ay m p v bp)):=by
 have:=ec (P:=P) (ρ:=ρ) (d:=d) (ty:=ty) (pos:=pos) (af:=af) (g:=g) (parts:=#[(0,x),(1,y),(2,z)]) S [(0,.agg (av m)),(1,.agg (av p)),(2,v)] (by simp [hx,hy,hz]) (fun i u hm=>by
  simp only [List.mem_cons,Prod.mk.injEq,List.not_mem_nil,or_false] at hm
  rcases hm with ⟨rfl,rfl⟩|⟨rfl,rfl⟩|⟨rfl,rfl⟩
  ·exact ⟨_,rfl,by show (av m).size=_;rw [aj];rfl⟩
  ·exact ⟨_,rfl,by show (av p).size=_;rw [aj];rfl⟩
  ·exact ⟨_,rfl,hv⟩) (D:=iW m p v bp) (by
   show (av m).toList++((av p).toList++(v.cells.toList++([bp]++[])))=_
   rw [hc];rfl)
 exact this
end
end Go.Proofs.YthggibfkgofncaaGreat
namespace Go.Proofs.YthggibfkgofncaaGreat
open Go.RowKit
def dO (m:Mb):Bool:=decide (0≤m.1) && decide (m.1<16)
theorem og {m:Mb}:dO m=true↔0≤m.1∧m.1<16:=by unfold dO;rw [Bool.and_eq_true,decide_eq_true_eq,decide_eq_true_eq]
theorem zy {m:Mb} (h:decide (0≤m.1)=false):dO m=false:=by unfold dO;rw [h];rfl
theorem z8 {m:Mb} (h:decide (0≤m.1)=true):dO m=decide (m.1<16):=by unfold dO;rw [h];rfl
def mD (l:List Mb) (no:Int):Bool:=l.any fun x=>decide (x.1=no)
theorem yW {l:List Mb} {no:Int}:mD l no=true↔∃ x∈l,x.1=no:=by
 unfold mD;rw [List.any_eq_true]
 exact ⟨fun ⟨x,h,e⟩=>⟨x,h,of_decide_eq_true e⟩,fun ⟨x,h,e⟩=>⟨x,h,decide_eq_true e⟩⟩
theorem xT {l:List Mb} {no:Int}:mD l no=false↔∀ x∈l,x.1≠no:=by
 rw [← Bool.not_eq_true,yW]
 exact ⟨fun h x hx e=>h ⟨x,hx,e⟩,fun h ⟨x,hx,e⟩=>h x hx e⟩
def iY (l:List Mb) (no:Int) (d:Nat):Bool := !dO (l.getD d aZ) || (decide ((l.getD d aZ).1=no) || mD (l.take d) (l.getD d aZ).1)
def iv (l:List Mb) (no:Int):Bool:=(List.range l.length).all fun d => !iY l no d
structure Oth (l:List Mb) (no:Int):Prop where
 may:∀ x∈l,0≤x.1∧x.1<16
 ne:∀ x∈l,x.1≠no
 nd:l.Pairwise fun a b=>a.1≠b.1
theorem jH {l:List Mb} {no:Int} {d:Nat}:iY l no d=false↔dO (l.getD d aZ)=true∧(l.getD d aZ).1≠no∧∀ x∈l.take d,x.1≠(l.getD d aZ).1:=by
 unfold iY
 rw [Bool.or_eq_false_iff,Bool.or_eq_false_iff,Bool.not_eq_false',decide_eq_false_iff_not,xT]
theorem xj {l:List Mb} {no:Int} {d:Nat} (h:dO (l.getD d aZ)=false):iY l no d=true:=by unfold iY;rw [h];rfl
theorem vV {l:List Mb} {no:Int} {d:Nat} (h:decide ((l.getD d aZ).1=no)=true):iY l no d=true:=by unfold iY;rw [h];simp
theorem nB {l:List Mb} {no:Int} {d:Nat} (h:dO (l.getD d aZ)=true) (h1:decide ((l.getD d aZ).1=no)=false):iY l no d=mD (l.take d) (l.getD d aZ).1:=by unfold iY;rw [h,h1];rfl
theorem nH {l:List Mb} {no:Int}:iv l no=true↔∀ d,d<l.length→iY l no d=false:=by
 unfold iv;rw [List.all_eq_true]
 exact ⟨fun h d hd=>by have:=h d (List.mem_range.2 hd);simpa using this,fun h d hd=>by rw [h d (List.mem_range.1 hd)];rfl⟩
theorem yd {l:List Mb} {no:Int}:iv l no=true↔Oth l no:=by
 rw [nH]
 constructor
 ·intro h
  refine ⟨fun x hx=>?_,fun x hx=>?_,?_⟩
  ·obtain ⟨j,hj,rfl⟩:=j3 hx
   exact og.1 (jH.1 (h j hj)).1
  ·obtain ⟨j,hj,rfl⟩:=j3 hx
   exact(jH.1 (h j hj)).2.1
  ·rw [List.pairwise_iff_getElem]
   intro i j hi hj hij
   have h9:=(jH.1 (h j hj)).2.2 l[i] (List.mem_iff_getElem.2 ⟨i,by rw [List.length_take];omega,List.getElem_take⟩)
   rwa [← mG hj] at h9
 ·rintro ⟨h1,h2,h3⟩ d hd
  refine jH.2 ⟨og.2 (h1 _ (eG hd)),h2 _ (eG hd),fun x hx=>?_⟩
  obtain ⟨i,hi,rfl⟩:=List.mem_iff_getElem.1 hx
  rw [List.length_take] at hi
  rw [List.getElem_take,← mG hd]
  exact List.pairwise_iff_getElem.1 h3 i d (by omega) hd (by omega)
theorem gj {l:List Mb} {no:Int} {d:Nat} (hd:d<l.length) (h:iY l no d=true):iv l no=false:=by
 rw [← Bool.not_eq_true,nH];intro h9;rw [h9 d hd] at h;cases h
theorem pv {l:List Mb} {no:Int} {k:Nat} (hk:l.length≤k) (h:∀ j,j<k→iY l no j=false):iv l no=true:=nH.2 fun d hd=>h d (by omega)
def jp (p:Mb) (no:Int):Bool:=decide (p=dB) || (dO p && decide (p.1≠no))
def iw (l:List Mb) (m:Mb):Bool:=decide (l=[m]) || (decide (1≤l.length) && (decide (l.length≤4) && iv l m.1))
def jT (l:List Mb) (no:Int):Bool:=decide (l.length≤16) && iv l no
def cr (n:Nd):Bool:=dO n.me && (jp n.pr n.me.1 && (iw n.sc n.me && jT n.fg n.me.1))
theorem se {p:Mb} {no:Int} (h:decide (p=dB)=true):jp p no=true:=by unfold jp;rw [h];rfl
theorem zm {p:Mb} {no:Int} (h:decide (p=dB)=false) (h1:dO p=false):jp p no=false:=by unfold jp;rw [h,h1];rfl
theorem rg {p:Mb} {no:Int} (h:decide (p=dB)=false) (h1:dO p=true):jp p no=decide (p.1≠no):=by unfold jp;rw [h,h1];rfl
theorem pR {l:List Mb} {m:Mb}:l=[m]↔l.length=1∧l.getD 0 aZ=m:=by
 constructor
 ·rintro rfl;exact ⟨rfl,rfl⟩
 ·rintro ⟨h1,h2⟩
  obtain ⟨x,rfl⟩:=List.length_eq_one_iff.1 h1
  have h2:x=m:=h2
  rw [h2]
theorem uC {l:List Mb} {m:Mb} (h:decide (l.length=1)=true) (h1:decide (l.getD 0 aZ=m)=true):iw l m=true:=by
 unfold iw;rw [decide_eq_true (pR.2 ⟨of_decide_eq_true h,of_decide_eq_true h1⟩)];rfl
theorem wk {l:List Mb} {m:Mb} (h:¬ (l.length=1∧l.getD 0 aZ=m)):iw l m=(decide (1≤l.length) && (decide (l.length≤4) && iv l m.1)):=by
 unfold iw;rw [decide_eq_false fun e=>h (pR.1 e)];rfl
theorem xc {l:List Mb} {m:Mb} (h:¬ (l.length=1∧l.getD 0 aZ=m)) (h0:decide (1≤l.length)=false):iw l m=false:=by rw [wk h,h0];rfl
theorem ug {l:List Mb} {m:Mb} (h:¬ (l.length=1∧l.getD 0 aZ=m)) (h0:decide (l.length≤4)=false):iw l m=false:=by rw [wk h,h0,Bool.false_and,Bool.and_false]
theorem uw {l:List Mb} {m:Mb} (h:¬ (l.length=1∧l.getD 0 aZ=m)) (h0:decide (1≤l.length)=true) (h1:decide (l.length≤4)=true):iw l m=iv l m.1:=by rw [wk h,h0,h1];rfl
theorem z7 {l:List Mb} {no:Int} (h:decide (l.length≤16)=false):jT l no=false:=by unfold jT;rw [h];rfl
theorem zG {l:List Mb} {no:Int} (h:decide (l.length≤16)=true):jT l no=iv l no:=by unfold jT;rw [h];rfl
theorem rL {n:Nd} (h:dO n.me=false):cr n=false:=by unfold cr;rw [h];rfl
theorem nU {n:Nd} (h:jp n.pr n.me.1=false):cr n=false:=by unfold cr;rw [h,Bool.false_and,Bool.and_false]
theorem jO {n:Nd} (h:iw n.sc n.me=false):cr n=false:=by unfold cr;rw [h,Bool.false_and,Bool.and_false,Bool.and_false]
theorem xK {n:Nd} (h:dO n.me=true) (h1:jp n.pr n.me.1=true) (h2:iw n.sc n.me=true):cr n=jT n.fg n.me.1:=by unfold cr;rw [h,h1,h2];rfl
structure RN (n:Nd):Prop where
 me:0≤n.me.1∧n.me.1<16
 pr:n.pr=dB∨((0≤n.pr.1∧n.pr.1<16)∧n.pr.1≠n.me.1)
 sc:n.sc=[n.me]∨(1≤n.sc.length∧n.sc.length≤4∧Oth n.sc n.me.1)
 fg:n.fg.length≤16∧Oth n.fg n.me.1
theorem qP {n:Nd}:cr n=true↔RN n:=by
 unfold cr jp iw jT
 simp only [Bool.and_eq_true,Bool.or_eq_true,decide_eq_true_eq,og,yd]
 exact ⟨fun ⟨h1,h2,h3,h4⟩=>⟨h1,h2,h3,h4⟩,fun ⟨h1,h2,h3,h4⟩=>⟨h1,h2,h3,h4⟩⟩
theorem RN.len {n:Nd} (h:RN n):1≤n.sc.length∧n.sc.length≤4:=by
 rcases h.sc with h|h
 ·rw [h];exact ⟨Nat.le_refl _,by show 1≤4;omega⟩
 ·exact ⟨h.1,h.2.1⟩
def t8 (n:Nd) (x:Mb):Mb:=bif decide (x.1≠n.me.1) && (decide (x.2≠n.me.2) && (decide (n.pr=dB) || tv x.2 n.pr.2 n.me.2)) then x else n.pr
def Av (n:Nd) (x:Mb):Int:=bif cr n && dO x then 0 else 1
def Ao (n:Nd) (x:Mb):Nd:=bif cr n && dO x then {n with pr:=t8 n x} else t6
theorem uq {n:Nd} {x:Mb} (h:cr n=false):Ao n x=t6∧Av n x=1:=by unfold Ao Av;rw [h];exact ⟨rfl,rfl⟩
theorem wg {n:Nd} {x:Mb} (h:dO x=false):Ao n x=t6∧Av n x=1:=by unfold Ao Av;rw [h,Bool.and_false];exact ⟨rfl,rfl⟩
theorem i3 {n:Nd} {x:Mb} (h:cr n=true) (h1:dO x=true):Ao n x={n with pr:=t8 n x}∧Av n x=0:=by unfold Ao Av;rw [h,h1];exact ⟨rfl,rfl⟩
theorem Cs {n:Nd} {x:Mb} (h:decide (x.1≠n.me.1)=false):t8 n x=n.pr:=by unfold t8;rw [h];rfl
theorem B8 {n:Nd} {x:Mb} (h:decide (x.2≠n.me.2)=false):t8 n x=n.pr:=by unfold t8;rw [h,Bool.false_and,Bool.and_false];rfl
theorem Cu {n:Nd} {x:Mb} (h:decide (x.1≠n.me.1)=true) (h1:decide (x.2≠n.me.2)=true) (h2:decide (n.pr=dB)=true):t8 n x=x:=by unfold t8;rw [h,h1,h2];rfl
theorem Cm {n:Nd} {x:Mb} (h:decide (x.1≠n.me.1)=true) (h1:decide (x.2≠n.me.2)=true) (h2:decide (n.pr=dB)=false) (h3:tv x.2 n.pr.2 n.me.2=true):t8 n x=x:=by unfold t8;rw [h,h1,h2,h3];rfl
theorem CM {n:Nd} {x:Mb} (h2:decide (n.pr=dB)=false) (h3:tv x.2 n.pr.2 n.me.2=false):t8 n x=n.pr:=by unfold t8;rw [h2,h3,Bool.or_self,Bool.and_false,Bool.and_false];rfl
def AM (me:Mb) (s:Nd):Bool := !decide (s.pr=dB) && (!decide (s.pr.1=me.1) && (!decide (s.pr.2=me.2) && (!decide (s.pr.2=s.me.2) && tv s.pr.2 me.2 s.me.2)))
def mE (me:Mb) (s:Nd):Mb:=bif AM me s then s.pr else s.me
def dA (no:Int) (l:List Mb):List Mb:=l.takeWhile fun x=>decide (x.1≠no)
def f8 (acc:List Mb) (x:Mb):List Mb:=bif decide (acc.length<4) && !mD acc x.1 then acc++[x] else acc
def gl (l:List Mb):List Mb:=l.foldl f8 []
def kK (l:List Mb) (me:Mb):List Mb:=bif decide (l.length=0) then [me] else l
def ew (n s:Nd):List Mb:=mE n.me s::s.me::s.sc
def Cg (n s:Nd):List Mb:=kK (gl (dA n.me.1 (ew n s))) n.me
def Az (n s:Nd):Int:=bif cr n && cr s then 0 else 1
def Bu (n s:Nd):Nd:=bif cr n && cr s then {n with sc:=Cg n s} else t6
theorem wO {n s:Nd} (h:cr n=false):Bu n s=t6∧Az n s=1:=by unfold Bu Az;rw [h];exact ⟨rfl,rfl⟩
theorem vg {n s:Nd} (h:cr s=false):Bu n s=t6∧Az n s=1:=by unfold Bu Az;rw [h,Bool.and_false];exact ⟨rfl,rfl⟩
theorem Ai {n s:Nd} (h:cr n=true) (h1:cr s=true):Bu n s={n with sc:=Cg n s}∧Az n s=0:=by unfold Bu Az;rw [h,h1];exact ⟨rfl,rfl⟩
theorem DX {me:Mb} {s:Nd} (h:decide (s.pr=dB)=true):mE me s=s.me:=by unfold mE AM;rw [h];rfl
theorem D6 {me:Mb} {s:Nd} (h:decide (s.pr.1=me.1)=true):mE me s=s.me:=by unfold mE AM;rw [h,Bool.not_true,Bool.false_and,Bool.and_false];rfl
theorem D5 {me:Mb} {s:Nd} (h:decide (s.pr.2=me.2)=true):mE me s=s.me:=by unfold mE AM;rw [h,Bool.not_true,Bool.false_and,Bool.and_false,Bool.and_false];rfl
theorem D3 {me:Mb} {s:Nd} (h:decide (s.pr.2=s.me.2)=true):mE me s=s.me:=by unfold mE AM;rw [h,Bool.not_true,Bool.false_and,Bool.and_false,Bool.and_false,Bool.and_false];rfl
theorem DL {me:Mb} {s:Nd} (h:tv s.pr.2 me.2 s.me.2=false):mE me s=s.me:=by unfold mE AM;rw [h,Bool.and_false,Bool.and_false,Bool.and_false,Bool.and_false];rfl
theorem Dw {me:Mb} {s:Nd} (h:decide (s.pr=dB)=false) (h1:decide (s.pr.1=me.1)=false) (h2:decide (s.pr.2=me.2)=false) (h3:decide (s.pr.2=s.me.2)=false) (h4:tv s.pr.2 me.2 s.me.2=true):mE me s=s.pr:=by unfold mE AM;rw [h,h1,h2,h3,h4];rfl
theorem pi {l:List Mb} {me:Mb} (h:l.length=0):kK l me=[me]:=by unfold kK;rw [decide_eq_true h];rfl
theorem m5 {l:List Mb} {me:Mb} (h:¬ l.length=0):kK l me=l:=by unfold kK;rw [decide_eq_false h];rfl
theorem zv {acc:List Mb} {x:Mb} (h:acc.length<4) (h1:mD acc x.1=false):f8 acc x=acc++[x]:=by unfold f8;rw [decide_eq_true h,h1];rfl
theorem p5 {acc:List Mb} {x:Mb} (h:¬ acc.length<4):f8 acc x=acc:=by unfold f8;rw [decide_eq_false h];rfl
theorem vU {acc:List Mb} {x:Mb} (h:mD acc x.1=true):f8 acc x=acc:=by unfold f8;rw [h,Bool.not_true,Bool.and_false];rfl
theorem tQ (l:List Mb) (x:Mb):gl (l++[x])=f8 (gl l) x:=by unfold gl;rw [List.foldl_append];rfl
theorem iU {l:List Mb} {d:Nat} (hd:d<l.length):gl (l.take (d+1))=f8 (gl (l.take d)) (l.getD d aZ):=by rw [gP hd,tQ]
theorem yM (acc:List Mb) (x:Mb):(f8 acc x).length≤acc.length+1:=by
 unfold f8
 cases decide (acc.length<4) && !mD acc x.1 with
 |true=>show (acc++[x]).length≤_;rw [List.length_append];exact Nat.le_refl _
 |false=>exact Nat.le_succ _
theorem Cy {acc:List Mb} (x:Mb) (h:acc.length≤4):(f8 acc x).length≤4:=by
 by_cases h4:acc.length<4
 ·have:=yM acc x;omega
 ·rw [p5 h4];exact h
theorem uV:∀ (l acc:List Mb),acc.length≤4→(l.foldl f8 acc).length≤4
 |[],_,h=>h
 |x::l,acc,h=>uV l _ (Cy x h)
theorem ru (l:List Mb):(gl l).length≤4:=uV l [] (Nat.zero_le _)
theorem rf {no:Int} {l:List Mb} {x:Mb} (h:x∈dA no l):x∈l∧x.1≠no:=by
 refine ⟨(List.takeWhile_sublist _).subset h,?_⟩
 unfold dA at h
 have:=List.all_eq_true.1 (List.all_takeWhile (p:=fun x:Mb=>decide (x.1≠no)) (l:=l)) x h
 exact of_decide_eq_true this
theorem yA (no:Int) (l:List Mb):(dA no l).length≤l.length:=(List.takeWhile_sublist _).length_le
theorem u5 {a b:List Mb} (h:a <+: b) {d:Nat} (hd:d<a.length):a.getD d aZ=b.getD d aZ:=by
 obtain ⟨r,rfl⟩:=h
 rw [List.getD_eq_getElem?_getD,List.getD_eq_getElem?_getD,List.getElem?_append_left hd]
theorem jL {no:Int} {l:List Mb} {d:Nat} (hd:d<(dA no l).length):(dA no l).getD d aZ=l.getD d aZ:=u5 (List.takeWhile_prefix _) hd
theorem nq {no:Int}:∀ {l:List Mb} {d:Nat},d<l.length→(∀ j,j<d→(l.getD j aZ).1≠no)→(l.getD d aZ).1≠no→d<(dA no l).length
 |[],_,h,_,_=>by simp at h
 |x::l,0,_,_,h2=>by
  have h2:x.1≠no:=h2
  unfold dA;rw [List.takeWhile_cons,if_pos (decide_eq_true h2)];exact Nat.zero_lt_succ _
 |x::l,d+1,hd,h1,h2=>by
  have h0:x.1≠no:=h1 0 (Nat.zero_lt_succ _)
  unfold dA;rw [List.takeWhile_cons,if_pos (decide_eq_true h0)]
  have:=nq (l:=l) (d:=d) (by simpa using hd) (fun j hj=>h1 (j+1) (Nat.succ_lt_succ hj)) h2
  exact Nat.succ_lt_succ this
theorem tj {no:Int} {l:List Mb} {d:Nat} (h2:(l.getD d aZ).1=no) (hd:d<l.length):(dA no l).length≤d:=by
 rcases Nat.lt_or_ge d (dA no l).length with h|h
 ·have h3:=(rf (eG h)).2
  rw [jL h] at h3
  exact absurd h2 h3
 ·exact h
def ed (nos:List Int) (x:Mb):Bool:=nos.any fun no=>decide (no=x.1)
theorem vt {nos:List Int} {x:Mb}:ed nos x=true↔x.1∈nos:=by
 unfold ed;rw [List.any_eq_true]
 exact ⟨fun ⟨k,h,e⟩=>by rw [← of_decide_eq_true e];exact h,fun h=>⟨x.1,h,decide_eq_true rfl⟩⟩
def fI (l:List Mb) (nos:List Int):List Mb:=l.filter fun x => !ed nos x
def xS (n:Nd) (nos:List Int):Mb:=bif ed nos n.pr then dB else n.pr
def AY (n:Nd):Int:=bif cr n then 0 else 1
def AN (n:Nd) (nos:List Int):Nd:=bif cr n then ⟨n.me,xS n nos,kK (fI n.sc nos) n.me,fI n.fg nos⟩ else t6
theorem zU {n:Nd} (nos:List Int) (h:cr n=false):AN n nos=t6∧AY n=1:=by unfold AN AY;rw [h];exact ⟨rfl,rfl⟩
theorem ms {n:Nd} (nos:List Int) (h:cr n=true):AN n nos=⟨n.me,xS n nos,kK (fI n.sc nos) n.me,fI n.fg nos⟩∧AY n=0:=by unfold AN AY;rw [h];exact ⟨rfl,rfl⟩
theorem CJ {n:Nd} {nos:List Int} (h:ed nos n.pr=true):xS n nos=dB:=by unfold xS;rw [h];rfl
theorem CC {n:Nd} {nos:List Int} (h:ed nos n.pr=false):xS n nos=n.pr:=by unfold xS;rw [h];rfl
def ij (nos:List Int) (no:Int) (x:Mb):Bool:=nos.any fun k=>decide (k=x.1) && decide (k≠no)
def cK (l:List Mb) (nos:List Int) (no:Int):List Mb:=l.filter fun x => !ij nos no x
theorem nf {nos:List Int} {no:Int} {x:Mb}:ij nos no x=true↔x.1∈nos∧x.1≠no:=by
 unfold ij;rw [List.any_eq_true]
 constructor
 ·rintro ⟨k,h,e⟩
  rw [Bool.and_eq_true,decide_eq_true_eq,decide_eq_true_eq] at e
  obtain ⟨rfl,e2⟩:=e
  exact ⟨h,e2⟩
 ·rintro ⟨h,e⟩
  exact ⟨x.1,h,by rw [decide_eq_true rfl,decide_eq_true e];rfl⟩
theorem uh {nos:List Int} {no:Int} {x:Mb} (h:x.1≠no):ij nos no x=ed nos x:=by
 rw [Bool.eq_iff_iff,nf,vt];exact and_iff_left h
theorem te {nos:List Int} {x:Mb}:ij nos x.1 x=false:=by
 rw [← Bool.not_eq_true,nf];exact fun h=>h.2 rfl
theorem mj {l:List Mb} {nos:List Int} {no:Int} (h:∀ x∈l,x.1≠no):cK l nos no=fI l nos:=List.filter_congr fun x hx=>by rw [uh (h x hx)]
theorem sr {n:Nd} (h:RN n) (nos:List Int):kK (cK n.sc nos n.me.1) n.me=kK (fI n.sc nos) n.me:=by
 rcases h.sc with h9|h9
 ·rw [h9]
  have h1:cK [n.me] nos n.me.1=[n.me]:=by
   unfold cK;rw [List.filter_cons,te];rfl
  rw [h1,m5 (by show ¬ (1=0);omega)]
  cases hb:ed nos n.me with
  |true=>rw [show fI [n.me] nos=[] by unfold fI;rw [List.filter_cons,hb];rfl];rfl
  |false=>rw [show fI [n.me] nos=[n.me] by unfold fI;rw [List.filter_cons,hb];rfl];rfl
 ·rw [mj h9.2.2.ne]
theorem r5 {n:Nd} (h:RN n) (nos:List Int):cK n.fg nos n.me.1=fI n.fg nos:=mj h.fg.2.ne
def p4 (n:Nd) (nos:List Int):Mb:=bif !decide (n.pr=dB) && decide ((cK [n.pr] nos n.me.1).length=0) then dB else n.pr
theorem rv {n:Nd} (h:RN n) (nos:List Int):p4 n nos=xS n nos:=by
 unfold p4 xS
 rcases h.pr with h9|h9
 ·rw [h9,decide_eq_true rfl]
  cases ed nos dB<;>rfl
 ·have hne:decide (n.pr=dB)=false:=decide_eq_false fun e=>by rw [e] at h9;exact absurd h9.1.1 (by decide)
  rw [hne]
  have h1:cK [n.pr] nos n.me.1=fI [n.pr] nos:=mj fun x hx=>by rw [List.mem_singleton.1 hx];exact h9.2
  rw [h1]
  unfold fI
  rw [List.filter_cons]
  cases ed nos n.pr<;>rfl
theorem Oth.filter {l:List Mb} {no:Int} (h:Oth l no) (p:Mb→Bool):Oth (l.filter p) no:=
 ⟨fun x hx=>h.may x ((List.mem_filter.1 hx).1),fun x hx=>h.ne x ((List.mem_filter.1 hx).1),h.nd.filter p⟩
end Go.Proofs.YthggibfkgofncaaGreat
namespace Go.Proofs.YthggibfkgofncaaGreat
open Go.RowKit
end Go.Proofs.YthggibfkgofncaaGreat
namespace Go.Proofs.YthggibfkgofncaaGreat
open Go.RowKit
theorem St.add {w0 w w':World} {B C:List Own} (s:St w0 B w) (t:St w C w'):St w0 (C++B) w':=by
 refine s.join t.ext C (fun p hp=>?_) (fun p hp k hk=>t.own p hp k hk) t.nd
 have h:=t.has p hp
 cases p with
 |blk b o=>exact h
 |sl v e sz n xs=>exact cS.low h s.ext.le
 |grp ks S=>exact h
theorem gZ.of_mem {w0 w:World} {B:List Own} (s:St w0 B w) {b:Nat} {C:Array Value} {u:TypeId} (h:Own.blk b (.cells C u)∈B):gZ w b C:=⟨u,(0,0),s.has _ h⟩
def Ce (w:World) (M:TypeId) (n:Nd):cX:=fun v w'=>∃ vs vf,v=.agg (ay n.me n.pr vs vf)∧St w [.sl vs M 33 n.sc.length (ar n.sc),.sl vf M 33 n.fg.length (ar n.fg)] w'
def qg (w:World) (M:TypeId) (n:Nd) (k:Int):cX:=fun v w'=>∃ vs vf,v=.tuple #[.agg (ay n.me n.pr vs vf),.int .i64 k]∧St w [.sl vs M 33 n.sc.length (ar n.sc),.sl vf M 33 n.fg.length (ar n.fg)] w'
theorem kr {w w':World} {M:TypeId} {B:List Own} {n:Nd} {k q:Int} (s:St w B w') (hn:n=t6) (hk:k=q):qg w M n k (.tuple #[.agg (ay aZ aZ bp bp),.int .i64 q]) w':=by
 subst hn;subst hk
 exact ⟨bp,bp,rfl,((s.pick [] (List.nil_sublist _)).nilSl M 33).nilSl M 33⟩
theorem gu {w w':World} {M:TypeId} {n:Nd} {a p:Mb} {l f:List Mb} {vs vf:Value} {k q:Int} (hn:n=⟨a,p,l,f⟩) (hk:k=q) (h:St w [.sl vs M 33 l.length (ar l),.sl vf M 33 f.length (ar f)] w'):qg w M n k (.tuple #[.agg (ay a p vs vf),.int .i64 q]) w':=by
 subst hn;subst hk
 exact ⟨vs,vf,rfl,h⟩
theorem A7 {w w':World} {M:TypeId} {n:Nd} {a p:Mb} {l f:List Mb} {vs vf:Value} (hn:n=⟨a,p,l,f⟩) (h:St w [.sl vs M 33 l.length (ar l),.sl vf M 33 f.length (ar f)] w'):Ce w M n (.agg (ay a p vs vf)) w':=by
 subst hn
 exact ⟨vs,vf,rfl,h⟩
theorem oB {w:World} {B:List Own} {w':World} {v:Value} {M:TypeId} {l r:List Mb} (h:l=r) (s:St w (.sl v M 33 l.length (ar l)::B) w'):St w (.sl v M 33 r.length (ar r)::B) w':=by subst h;exact s
theorem mR (ls:List (List Mb)) (k:Nat) (h:k<ls.length):(ls.take (k+1)).flatten=(ls.take k).flatten++ls.getD k []:=by
 rw [List.take_succ_eq_append_getElem h,List.flatten_append,List.getD_eq_getElem?_getD,List.getElem?_eq_getElem h];simp
theorem l5 (ls:List (List Mb)) (k:Nat) (h:k<ls.length):(ls.take k).flatten.length+(ls.getD k []).length=(ls.take (k+1)).flatten.length:=by
 rw [mR ls k h,List.length_append]
theorem qU (ls:List (List Mb)) (k:Nat) (h:k<ls.length):ar (ls.take k).flatten++ar (ls.getD k [])=ar (ls.take (k+1)).flatten:=by
 rw [mR ls k h,dI]
theorem ra (ls:List (List Mb)) (k:Nat):(ls.take k).flatten.length≤ls.flatten.length:=by
 have:=congrArg (fun x=>x.flatten.length) (List.take_append_drop k ls)
 simp only [List.flatten_append,List.length_append] at this
 omega
theorem pM {w:World} {base:Nat} {e:TypeId} {v:Value} {ls:List (List Mb)} {i:Nat} (hi:ls.length≤i) (h:cS w base e 33 v (ls.take i).flatten.length (ar (ls.take i).flatten)):cS w base e 33 v ls.flatten.length (ar ls.flatten):=by
 rwa [List.take_of_length_le hi] at h
theorem qw {w:World} {a:Option Addr} {n c:Nat} {l:List Mb} (ha:a.isNone=true) (h:bX w (.slice a n c) 33 l.length (ar l)):l=[]:=by
 cases a with
 |some p=>cases ha
 |none=>
  rcases h.2 with ⟨h1,h2⟩|⟨p,cap,h1,_⟩
  ·exact List.eq_nil_of_length_eq_zero h2
  ·cases h1
theorem sh (w:World):bX w bp 33 ([]:List Mb).length (ar []):=⟨rfl,.inl ⟨rfl,rfl⟩⟩
def nI (q:Mb→Bool) (l:List Mb) (j:Nat):List Mb:=(l.take j).filter q++l.drop ((l.take j).filter q).length
def jD (q:Mb→Bool) (l:List Mb) (j:Nat):Nat:=((l.take j).filter q).length
theorem qG (q:Mb→Bool) (l:List Mb) (j:Nat):jD q l j≤j:=by
 unfold jD
 have:=List.length_filter_le q (l.take j)
 rw [List.length_take] at this;omega
theorem ym (q:Mb→Bool) (l:List Mb) (j:Nat):jD q l j≤l.length:=by
 unfold jD
 have:=List.length_filter_le q (l.take j)
 rw [List.length_take] at this;omega
theorem rQ (q:Mb→Bool) (l:List Mb) (j:Nat):(nI q l j).length=l.length:=by
 have:=ym q l j
 unfold jD at this
 unfold nI;rw [List.length_append,List.length_drop];omega
theorem y7 {q:Mb→Bool} {l:List Mb} {j:Nat} (hj:j<l.length):(nI q l j).getD j aZ=l.getD j aZ:=by
 have h1:=qG q l j
 unfold jD at h1
 unfold nI
 rw [List.getD_eq_getElem?_getD,List.getElem?_append_right h1,List.getElem?_drop,List.getD_eq_getElem?_getD]
 congr 2
 omega
theorem uX {q:Mb→Bool} {l:List Mb} {j:Nat} (hj:j<l.length) (h:q (l.getD j aZ)=false):nI q l (j+1)=nI q l j∧jD q l (j+1)=jD q l j:=by
 have e:(l.take (j+1)).filter q=(l.take j).filter q:=by rw [gP hj,List.filter_append,List.filter_cons,h];simp
 unfold nI jD;rw [e];exact ⟨rfl,rfl⟩
theorem rI {q:Mb→Bool} {l:List Mb} {j:Nat} (hj:j<l.length) (h:q (l.getD j aZ)=true):nI q l (j+1)=(nI q l j).set (jD q l j) (l.getD j aZ)∧jD q l (j+1)=jD q l j+1:=by
 have e:(l.take (j+1)).filter q=(l.take j).filter q++[l.getD j aZ]:=by rw [gP hj,List.filter_append,List.filter_cons,h];simp
 have h1:=qG q l j
 refine ⟨?_,by unfold jD;rw [e,List.length_append];rfl⟩
 unfold jD at h1
 unfold nI jD
 rw [e,List.length_append]
 show (_++[_])++l.drop (_+1)=_
 rw [List.set_append_right _ _ (Nat.le_refl _),Nat.sub_self,List.append_assoc]
 congr 1
 rw [List.drop_eq_getElem_cons (show ((l.take j).filter q).length<l.length by omega),List.set_cons_zero];rfl
theorem sJ {q:Mb→Bool} {l:List Mb} {k:Nat} (hk:k<l.length) (h:∀ i,i<k→q (l.getD i aZ)=true) (hq:q (l.getD k aZ)=false):nI q l (k+1)=l∧jD q l (k+1)=k:=by
 have e:(l.take k).filter q=l.take k:=by
  rw [List.filter_eq_self]
  intro x hx
  obtain ⟨i,hi,rfl⟩:=List.mem_iff_getElem.1 hx
  rw [List.length_take] at hi
  rw [List.getElem_take,mG (by omega)]
  exact h i (by omega)
 obtain ⟨e1,e2⟩:=uX hk hq
 rw [e1,e2]
 unfold nI jD
 rw [e,List.length_take,Nat.min_eq_left (by omega),List.take_append_drop]
 exact ⟨rfl,rfl⟩
theorem yT (q:Mb→Bool) (l:List Mb):jD q l l.length=(l.filter q).length:=by unfold jD;rw [List.take_length]
theorem y2 (q:Mb→Bool) (l:List Mb):nI q l l.length=l.filter q++l.drop (l.filter q).length:=by unfold nI;rw [List.take_length]
theorem Bl {q:Mb→Bool} {l:List Mb} {k:Nat} (hk:k<l.length) (hq:q (l.getD k aZ)=false):(l.filter q).length<l.length:=by
 rcases Nat.lt_or_ge (l.filter q).length l.length with h|h
 ·exact h
 ·have h1:=List.length_filter_le q l
  have h2:l.filter q=l:=List.filter_eq_self.2 (by
   have:=List.length_filter_eq_length_iff.1 (show (l.filter q).length=l.length by omega)
   exact this)
  have h3:=List.filter_eq_self.1 h2 _ (eG hk)
  rw [hq] at h3;cases h3
theorem sK (q:Mb→Bool) (l:List Mb):(ar (nI q l l.length)).take ((l.filter q).length*33)=ar (l.filter q):=by
 rw [y2,dI,List.take_left' (dS _)]
theorem tV {l:List Mb} {p:Mb→Bool} (h:∀ x∈l,p x=false):(l.filter fun x => !p x)=l:=List.filter_eq_self.2 fun x hx=>by rw [h x hx];rfl
theorem zY (nos:List Int) (k:Nat) (h:k<nos.length):(nos.map (Value.int .i64))[k]? = some (.int .i64 (nos.getD k 0)):=by
 rw [List.getElem?_map,List.getD_eq_getElem?_getD,List.getElem?_eq_getElem h];rfl
theorem D7 {nos:List Int} {k:Nat} (h:k<nos.length):nos[k]=nos.getD k 0:=by rw [List.getD_eq_getElem?_getD,List.getElem?_eq_getElem h];rfl
def fK (nos:List Int) (f:Int→Bool) (k:Nat):Bool:=(nos.take k).any f
theorem gI {nos:List Int} {f:Int→Bool} {k:Nat} (h:k<nos.length):fK nos f (k+1)=(fK nos f k || f (nos.getD k 0)):=by
 unfold fK
 rw [List.take_succ_eq_append_getElem h,List.any_append,D7 h];simp
theorem sQ (nos:List Int) (f:Int→Bool):fK nos f nos.length=nos.any f:=by unfold fK;rw [List.take_length]
theorem yk {nos:List Int} {no:Int} {r:Int} (h:(r = -1∧∀ k,k<nos.length→nos.getD k 0≠no)∨∃ k:Nat,k<nos.length∧r=(k:Int)∧nos.getD k 0=no):decide (0≤r)=nos.any fun k=>decide (k=no):=by
 rcases h with ⟨rfl,h⟩|⟨k,hk,rfl,h⟩
 ·rw [decide_eq_false (by decide)]
  symm
  rw [List.any_eq_false]
  intro x hx
  obtain ⟨i,hi,rfl⟩:=List.mem_iff_getElem.1 hx
  have:=h i hi
  rw [← D7 hi] at this
  simpa using this
 ·rw [decide_eq_true (by omega)]
  symm
  rw [List.any_eq_true]
  exact ⟨nos[k],List.getElem_mem hk,by rw [D7 hk];simpa using h⟩
section
variable {P:Program} {ρ:Operand→Value} {d:Option Tmp} {ty:TypeId} {pos:String} {af:Array Edge} {g:Option (Nat × Bool)} {x y z:Operand} {t:TypeId}
end
end Go.Proofs.YthggibfkgofncaaGreat
namespace Go.Proofs.YthggibfkgofncaaGreat
theorem Ba {m:Mb} (h:decide (m.1 = -1)=false):decide (m=dB)=false:=decide_eq_false fun e=>of_decide_eq_false h (by rw [e];rfl)
theorem Aw {m:Mb} (h:decide (m.1 = -1)=true):decide (m=dB)=decide (m.2=0#256):=by
 have h:=of_decide_eq_true h
 rw [decide_eq_decide]
 exact ⟨fun e=>by rw [e];rfl,fun e=>Prod.ext h e⟩
end Go.Proofs.YthggibfkgofncaaGreat
namespace Go.Proofs.YthggibfkgofncaaGreat
open Go.RowKit
def C9 (m:Mb):Nd:=bif dO m then ⟨m,dB,[m],[]⟩ else t6
def De (m:Mb):Int:=bif dO m then 0 else 1
theorem oY {m:Mb} (h:dO m=false):C9 m=t6∧De m=1:=by unfold C9 De;rw [h];exact ⟨rfl,rfl⟩
theorem pg {m:Mb} (h:dO m=true):C9 m=⟨m,dB,[m],[]⟩∧De m=0:=by unfold C9 De;rw [h];exact ⟨rfl,rfl⟩
theorem x2 {w w':World} {M:TypeId} {n:Nd} {a p:Mb} {l:List Mb} {vs:Value} {k q:Int} (hn:n=⟨a,p,l,[]⟩) (hk:k=q) (h:St w [.sl vs M 33 l.length (ar l)] w'):qg w M n k (.tuple #[.agg (ay a p vs bp),.int .i64 q]) w':=
 gu hn hk ((h.nilSl M 33).perm (List.Perm.swap _ _ _))
theorem n2 {w:World} {v:Value} {sz n:Nat} {xs:List Value} (h:bX w v sz n xs):v.cells.size=1:=by obtain ⟨a,c,rfl⟩:=h.len;rfl
theorem lS {w:World} {v:Value} {sz n:Nat} {xs:List Value} (h:bX w v sz n xs):v.cells.toList=[v]:=by obtain ⟨a,c,rfl⟩:=h.len;rfl
end Go.Proofs.YthggibfkgofncaaGreat
namespace Go.Proofs.YthggibfkgofncaaGreat
open Go.RowKit
section
variable {P:Program} {a:Act} {w w0:World} {N:Nat} {L:List (Nat × Value)} {B:List Own} {fn:Func} {T:cX}
theorem jI {p q:Tmp} {b n D:Nat} {C:Array Value} {V:Value} {t u:TypeId} (i j:Nat) (hres:fn.results=#[.cell p t,.tmp q]) (h:Sl N a L [{target:=.collected D,args:=#[]}]) (s:St w0 B w) (hr:Row P t n) (hp:lk L p=some (.pointer (some ⟨b,0,none⟩))) (hq:lk L q=some V)
 (hj:B[j]? = some (.blk D (.deferred (some [])))) (hij:(B.set j (.blk D (.deferred none)))[i]? = some (.blk b (.cells C u))) (hn:C.size=n) (hT:∀ w',St w0 (B.set j (.blk D (.deferred none))) w'→T (.tuple #[.agg C,V]) w'):bodyPostM (FR none) 0 P fn (cU w0 T) .ret a w:=by
 show LeavesInM (FR none) 0 P fn a.tmps (cU w0 T) a.defers .returning w
 rw [h.defers]
 have s2:=s.putObj j hj (.deferred none)
 refine ⟨by simp,.inl ⟨D,_,rfl,run_takeDeferred (s.get j hj),?_⟩⟩
 have hp':a.tmps[p]?.getD undef=.pointer (some ⟨b,0,none⟩):=by simpa using h.holds p _ hp
 have hq':a.tmps[q]?.getD undef=V:=by simpa using h.holds q _ hq
 refine ⟨.tuple #[.agg C,V],?_,_,rfl,hT _ s2,s2.ext⟩
 simp [results,hres,hp',hq',asAddr,dT hr _ b C u (0,0) (s2.get i hij) hn]
theorem fb {p q:Tmp} {b n:Nat} {C:Array Value} {V:Value} {t u:TypeId} (i:Nat) (hres:fn.results=#[.cell p t,.tmp q]) (h:Sl N a L) (s:St w0 B w) (hr:Row P t n) (hp:lk L p=some (.pointer (some ⟨b,0,none⟩))) (hq:lk L q=some V)
 (hi:B[i]? = some (.blk b (.cells C u))) (hn:C.size=n) (hT:T (.tuple #[.agg C,V]) w):bodyPostM (FR none) 0 P fn (cU w0 T) .ret a w:=by
 show LeavesInM (FR none) 0 P fn a.tmps (cU w0 T) a.defers .returning w
 rw [h.defers]
 have hp':a.tmps[p]?.getD undef=.pointer (some ⟨b,0,none⟩):=by simpa using h.holds p _ hp
 have hq':a.tmps[q]?.getD undef=V:=by simpa using h.holds q _ hq
 refine ⟨.tuple #[.agg C,V],?_,_,rfl,hT,s.ext⟩
 simp [results,hres,hp',hq',asAddr,dT hr _ b C u (0,0) (s.get i hi) hn]
end
theorem rD {no:Int} {l:List Mb} {d:Nat} (hm:d≤(dA no l).length) (hd:d<l.length) (h:decide ((l.getD d aZ).1=no)=false):d<(dA no l).length:=
 nq hd (fun j hj=>by have h1:=(rf (eG (show j<(dA no l).length by omega))).2;rwa [jL (by omega)] at h1) (of_decide_eq_false h)
theorem uo (cur:List Value) (z:List Value) (q:Mb→Bool) (l:List Mb) (h1:cur.take (l.length*33)=ar (nI q l l.length)) (hl:l.length*33≤cur.length) (hz:z.length=(l.length - (l.filter q).length)*33) (o:Nat) (ho:o=(l.filter q).length*33) (m:Nat) (hm:m=(l.length - (l.filter q).length)*33):
 (cur.take o++z++cur.drop (o+m)).length=cur.length∧(cur.take o++z++cur.drop (o+m)).take o=ar (l.filter q):=by
 subst ho;subst hm
 have hle:=List.length_filter_le q l
 obtain ⟨e1,e2⟩:=r6 cur z ((l.filter q).length*33) ((l.length - (l.filter q).length)*33) (by rw [← Nat.add_mul];rw [show (l.filter q).length+(l.length - (l.filter q).length)=l.length by omega];exact hl) hz
 refine ⟨e1,e2.trans ?_⟩
 have h9:=congrArg (List.take ((l.filter q).length*33)) h1
 rw [List.take_take,Nat.min_eq_left (Nat.mul_le_mul_right 33 hle),sK] at h9
 exact h9
end Go.Proofs.YthggibfkgofncaaGreat
namespace Go.Proofs.YthggibfkgofncaaGreat
theorem Am {w:World} {v:Value} {sz n:Nat} {xs:List Value} (h:bX w v sz n xs):v.cells=#[v]:=by obtain ⟨a,c,rfl⟩:=h.len;rfl
end Go.Proofs.YthggibfkgofncaaGreat
namespace Go.Proofs.YthggibfkgofncaaGreat
open Go.RowKit
structure FldT (P:Program) (t:TypeId) (f off:Nat) (tf:TypeId):Prop where
 has:∃ fields fd,P.underlying t=some (.struct fields)∧fields[f]? = some fd∧fd.type=tf∧fd.offset=off
theorem mN {P:Program} {ρ:Operand→Value} {d:Option Tmp} {ty:TypeId} {pos:String} {af:Array Edge} {g:Option (Nat × Bool)} {x:Operand} {t tf:TypeId} {f off:Nat} {C:Array Value} {V:Value} (F:FldT P t f off tf) (ho:One P tf) (hx:ρ x=.agg C) (hC:C[off]? = some V):
 ca P ⟨d,.field t x f,ty,pos,af,g⟩ ρ V:=fun w=>by
 obtain ⟨fields,fd,h1,h2,h3,h4⟩:=F.has
 simp [execOp,hx,Instr.field,Sem.run_bind,run_underlying h1,h2,asAgg,part,h3,h4,jb ho w,hC]
theorem vj {p:Mb} {no:Int} (h:decide (p=dB)=false) (h1:dO p=true) (h2:decide (p.1=no)=false):jp p no=true:=by rw [rg h h1,decide_eq_true (of_decide_eq_false h2)]
theorem Cf {p:Mb} {no:Int} (h:decide (p=dB)=false) (h1:dO p=true) (h2:decide (p.1=no)=true):jp p no=false:=by rw [rg h h1];exact decide_eq_false fun e=>e (of_decide_eq_true h2)
theorem u7 {l:List Mb} {m:Mb} (h:decide (l.length<1)=true):iw l m=false:=by
 have h:=of_decide_eq_true h
 exact xc (fun e=>by omega) (decide_eq_false (by omega))
theorem uE {l:List Mb} {m:Mb} (h:decide (4<l.length)=true):iw l m=false:=by
 have h:=of_decide_eq_true h
 exact ug (fun e=>by omega) (decide_eq_false (by omega))
theorem rh {l:List Mb} {m:Mb} (h:decide (l.length<1)=false) (h1:decide (4<l.length)=false) (hn:¬ (l.length=1∧l.getD 0 aZ=m)):iw l m=iv l m.1:=by
 have h:=of_decide_eq_false h
 have h1:=of_decide_eq_false h1
 exact uw hn (decide_eq_true (by omega)) (decide_eq_true (by omega))
theorem uP {l:List Mb} {no:Int} (h:decide (16<l.length)=true):jT l no=false:=z7 (decide_eq_false (by have:=of_decide_eq_true h;omega))
theorem vF {l:List Mb} {no:Int} (h:iv l no=false):jT l no=false:=by unfold jT;rw [h,Bool.and_false]
theorem ki {l:List Mb} {no:Int} (h:decide (16<l.length)=false) (h1:iv l no=true):jT l no=true:=by
 rw [zG (decide_eq_true (by have:=of_decide_eq_false h;omega)),h1]
theorem lz {n:Nd} (h:jT n.fg n.me.1=false):cr n=false:=by unfold cr;rw [h,Bool.and_false,Bool.and_false,Bool.and_false]
theorem iK {n:Nd} (h:dO n.me=true) (h1:jp n.pr n.me.1=true) (h2:jT n.fg n.me.1=true):cr n=iw n.sc n.me:=by unfold cr;rw [h,h1,h2,Bool.and_true];rfl
def eP (a b:Nd):Bool:=decide (a.me=b.me) && (decide (a.pr=b.pr) && (decide (a.sc=b.sc) && decide (a.fg=b.fg)))
theorem vI (a:Nd):eP a a=true:=by unfold eP;simp
theorem BC {a b:Nd} (h:a=b):eP a b=true:=by subst h;exact vI a
theorem D4 {a b:Nd} (h:decide (a.me=b.me)=false):eP a b=false:=by unfold eP;rw [h];rfl
theorem DJ {a b:Nd} (h:decide (a.pr=b.pr)=false):eP a b=false:=by unfold eP;rw [h,Bool.false_and,Bool.and_false]
theorem Ds {a b:Nd} (h:decide (a.sc=b.sc)=false):eP a b=false:=by unfold eP;rw [h,Bool.false_and,Bool.and_false,Bool.and_false]
theorem DF {a b:Nd} (h:decide (a.me=b.me)=true) (h1:decide (a.pr=b.pr)=true) (h2:decide (a.sc=b.sc)=true):eP a b=decide (a.fg=b.fg):=by unfold eP;rw [h,h1,h2];rfl
def Ch (w:World) (M:TypeId) (a p:Mb) (l:List Mb) (vf:Value):cX:=fun v w'=>∃ vo,v=.agg (ay a p vo vf)∧cS w' w.heap.size M 33 vo l.length (ar l)
theorem mn {l:List Mb} {nos:List Int} {no:Int} {k:Nat} (hk:k<l.length):cK (l.take (k+1)) nos no=cK (l.take k) nos no++(bif ij nos no (l.getD k aZ) then [] else [l.getD k aZ]):=by
 unfold cK
 rw [gP hk,List.filter_append,List.filter_cons]
 cases ij nos no (l.getD k aZ)<;>rfl
theorem r7 {l:List Mb} {nos:List Int} {no:Int} {k:Nat} (hk:k<l.length) (h:ij nos no (l.getD k aZ)=true):cK (l.take (k+1)) nos no=cK (l.take k) nos no:=by rw [mn hk,h,cond_true,List.append_nil]
theorem rd {l:List Mb} {nos:List Int} {no:Int} {k:Nat} (hk:k<l.length) (h:ij nos no (l.getD k aZ)=false):cK (l.take (k+1)) nos no=cK (l.take k) nos no++[l.getD k aZ]:=by rw [mn hk,h];rfl
theorem jP (l:List Mb) (nos:List Int) (no:Int):(cK l nos no).length≤l.length:=List.length_filter_le _ _
abbrev xu (no:Int) (x:Mb):Int→Bool:=fun k=>decide (k=x.1) && decide (k≠no)
theorem DW {nos:List Int} {no:Int} {x:Mb} {j:Nat} (hj:j<nos.length) (h:fK nos (xu no x) j=false) (h1:decide (nos.getD j 0=x.1)=false):fK nos (xu no x) (j+1)=false:=by
 rw [gI hj,h]
 show (false || (decide _ && decide _))=false
 rw [h1];rfl
theorem DE {nos:List Int} {no:Int} {x:Mb} {j:Nat} (hj:j<nos.length) (h:fK nos (xu no x) j=false) (h1:decide (nos.getD j 0≠no)=false):fK nos (xu no x) (j+1)=false:=by
 rw [gI hj,h]
 show (false || (decide _ && decide _))=false
 rw [h1,Bool.and_false];rfl
theorem Dr {nos:List Int} {no:Int} {x:Mb} {j:Nat} (hj:j<nos.length) (h1:decide (nos.getD j 0=x.1)=true) (h2:decide (nos.getD j 0≠no)=true):fK nos (xu no x) (j+1)=true:=by
 rw [gI hj]
 show (_ || (decide _ && decide _))=true
 rw [h1,h2];simp
theorem Dq {nos:List Int} {no:Int} {x:Mb} {j:Nat} (hj:j<nos.length) (h:fK nos (xu no x) j=true):fK nos (xu no x) (j+1)=true:=by rw [gI hj,h];rfl
theorem wl {nos:List Int} {no:Int} {x:Mb} {j:Nat} (hj:j=nos.length):fK nos (xu no x) j=ij nos no x:=by subst hj;exact sQ _ _
def CE (w:World) (M:TypeId) (a p:Mb) (s f:List Mb):cX:=fun v w'=>∃ vs vf,v=.agg (ay a p vs vf)∧St w [.sl vs M 33 s.length (ar s),.sl vf M 33 f.length (ar f)] w'
theorem dy {w w':World} {M:TypeId} {a p q:Mb} {s s' f:List Mb} {vs vf:Value} (hp:p=q) (hs:s=s') (h:St w [.sl vs M 33 s'.length (ar s'),.sl vf M 33 f.length (ar f)] w'):CE w M a p s f (.agg (ay a q vs vf)) w':=by
 subst hp;subst hs
 exact ⟨vs,vf,rfl,h⟩
theorem Cz {n:Nd} {nos:List Int} (h:(!decide (n.pr=dB))=true) (h1:decide ((cK [n.pr] nos n.me.1).length=0)=true):p4 n nos=dB:=by unfold p4;rw [h,h1];rfl
theorem zV {n:Nd} {nos:List Int} (h:(!decide (n.pr=dB))=false):p4 n nos=n.pr:=by unfold p4;rw [h];rfl
theorem zR {n:Nd} {nos:List Int} (h1:decide ((cK [n.pr] nos n.me.1).length=0)=false):p4 n nos=n.pr:=by unfold p4;rw [h1,Bool.and_false];rfl
end Go.Proofs.YthggibfkgofncaaGreat
namespace Go.Proofs.YthggibfkgofncaaGreat
end Go.Proofs.YthggibfkgofncaaGreat
namespace Go.Proofs.YthggibfkgofncaaGreat
open Go.RowKit
theorem yr (l:List Mb) (m:Mb):(kK l m).length≤l.length+1:=by
 by_cases h:l.length=0
 ·rw [pi h];show 1≤_;omega
 ·rw [m5 h];omega
def Ay (a p:Mb) (l:List Mb) (vf:Value):cX:=fun v w=>∃ vo,v=.agg (ay a p vo vf)∧bX w vo 33 l.length (ar l)
theorem Ay.mono (a p:Mb) (l:List Mb) (vf:Value):iV (Ay a p l vf):=fun _ _ _ ⟨vo,h1,h2⟩ hE=>⟨vo,h1,h2.keep hE⟩
theorem Ch.d {w w':World} {M:TypeId} {a p:Mb} {l:List Mb} {vf v:Value} (h:Ch w M a p l vf v w'):Ay a p l vf v w':=by obtain ⟨vo,h1,h2⟩:=h;exact ⟨vo,h1,bX.of_own h2⟩
def Dx (a p:Mb) (s f:List Mb):cX:=fun v w=>∃ vs vf,v=.agg (ay a p vs vf)∧bX w vs 33 s.length (ar s)∧bX w vf 33 f.length (ar f)
theorem Dx.mono (a p:Mb) (s f:List Mb):iV (Dx a p s f):=fun _ _ _ ⟨vs,vf,h1,h2,h3⟩ hE=>⟨vs,vf,h1,h2.keep hE,h3.keep hE⟩
theorem CE.d {w w':World} {M:TypeId} {a p:Mb} {s f:List Mb} {v:Value} (h:CE w M a p s f v w'):Dx a p s f v w':=by
 obtain ⟨vs,vf,h1,h2⟩:=h
 exact ⟨vs,vf,h1,bX.of_own (h2.getSl 0 rfl),bX.of_own (h2.getSl 1 rfl)⟩
end Go.Proofs.YthggibfkgofncaaGreat
namespace Go.Proofs.YthggibfkgofncaaGreat
open Go.RowKit
def DZ:Option Value→Value
 |some (.slice p n k)=>.slice p n k
 |_=>bp
theorem xB (o:Option Value):(DZ o).oneCell'=true:=by
 unfold DZ
 split<;>rfl
def dR (i:Nat):Option Value→Value
 |some (Value.agg c)=>DZ (c[i]?)
 |_=>bp
def bI (i:Nat):Value→Value
 |Value.tuple a=>dR i (a[0]?)
 |_=>bp
theorem nO (i:Nat) (o:Option Value):(dR i o).oneCell'=true:=by
 unfold dR
 split
 ·exact xB _
 ·rfl
theorem lf (i:Nat) (v:Value):(bI i v).oneCell'=true:=by
 unfold bI
 split
 ·exact nO _ _
 ·rfl
theorem uc {a p:Mb} {vs vf:Value} {k:Int} {w:World} {sz n:Nat} {xs:List Value} (h:bX w vs sz n xs):bI 66 (.tuple #[.agg (ay a p vs vf),.int .i64 k])=vs:=by
 obtain ⟨q,c,rfl⟩:=h.len
 have h1:(#[Value.agg (ay a p (.slice q n c) vf),Value.int .i64 k]:Array Value)[0]? = some (Value.agg (ay a p (.slice q n c) vf)):=rfl
 unfold bI
 simp only [h1,dR]
 rw [bA];rfl
theorem vO {a p:Mb} {vs vf:Value} {k:Int} {w:World} {sz n:Nat} {xs:List Value} (h:bX w vf sz n xs):bI 67 (.tuple #[.agg (ay a p vs vf),.int .i64 k])=vf:=by
 obtain ⟨q,c,rfl⟩:=h.len
 have h1:(#[Value.agg (ay a p vs (.slice q n c)),Value.int .i64 k]:Array Value)[0]? = some (Value.agg (ay a p vs (.slice q n c))):=rfl
 unfold bI
 simp only [h1,dR]
 rw [cO];rfl
abbrev N3:=Nd × Value × Value
def z3:N3:=(t6,bp,bp)
def ll (x:N3):List Value:=iW x.1.me x.1.pr x.2.1 x.2.2
def aG (l:List N3):List Value:=l.flatMap ll
theorem fW (x:N3):(ll x).length=68:=rj _ _ _ _
theorem df (l:List N3) (j:Nat) (hj:j<l.length):(((aG l).drop (j*68)).take 68).toArray=ay (l.getD j z3).1.me (l.getD j z3).1.pr (l.getD j z3).2.1 (l.getD j z3).2.2:=by
 unfold aG
 rw [ip _ 68 fW l j hj,List.getD_eq_getElem?_getD,List.getElem?_eq_getElem hj];rfl
def f4 (w:World) (x:N3):Prop:=bX w x.2.1 33 x.1.sc.length (ar x.1.sc)∧bX w x.2.2 33 x.1.fg.length (ar x.1.fg)
end Go.Proofs.YthggibfkgofncaaGreat
namespace Go.Proofs.YthggibfkgofncaaGreat
open Go.RowKit Go.ChangeShapes Go.WideShapes Go.ChangeAt
theorem iL {H:Type} {enc:TypeId × Value→H} {P:Program} {W:World} {ts t tn ti e:TypeId} {f0 f1:Field} {fuel:Nat} {cs:List Value} {x:DataW H × List MemPlace} (T:IdTy P ti e) (hc:P.cellsOf ti=32) (hce:P.cellsOf e=1) (hn:P.underlying tn=some (.int .i64)) (hcn:P.cellsOf tn=1)
 (hts:P.underlying ts=some (.slice t)) (ht:P.underlying t=some (.struct #[f0,f1])) (h0:f0.type=tn) (h1:f1.type=ti) (o0:f0.offset=0) (o1:f1.offset=1) (hct:P.cellsOf t=33)
 (hf:DataW.trod enc P W 0 (fun _=>true) true fuel ts cs=some x):∃ (v:Value) (ls:List Mb),cs=[v]∧bX W v 33 ls.length (ar ls):=by
 rcases Go.Deep.open_slice hts hf with ⟨hcs,_⟩|⟨a',len,cap,m,k,D,Pl,hcs,_,hl,_,hm,_,hel⟩
 ·exact ⟨_,[],hcs,rfl,.inl ⟨rfl,rfl⟩⟩
 ·have hml:len≤m:=by rw [hm];split<;>omega
  have each:∀ i,∃ l:Mb,i<len→aL W (a'.add (i*33)) (av l):=fun i=>by
   by_cases hi:i<len
   ·obtain ⟨cs',hc1,hc2⟩:=hel i (by omega)
    obtain ⟨l,rfl⟩:=fJ T hc hce hn hcn ht h0 h1 o0 o1 hct hc2
    refine ⟨l,fun _ j u hj=>?_⟩
    rw [hct] at hc1
    obtain ⟨_,hlen,hall⟩:=World.cells?_some hc1
    have hj33:j<33:=by have:=(Array.getElem?_eq_some_iff.1 hj).1;rw [aj] at this;exact this
    have:=hall j hj33
    rw [this,Array.getElem?_toList];exact hj
   ·exact ⟨aZ,fun h9=>absurd h9 hi⟩
  obtain ⟨L,hL⟩:=Classical.axiomOfChoice each
  refine ⟨_,(List.range len).map L,hcs,?_,.inr ⟨a',cap,by simp,by simpa using hl,?_⟩⟩
  ·rw [dS]
  ·refine ga _ 33 (by decide) cz _ fun i hi=>?_
   have hi':i<len:=by simpa using hi
   have h9:((List.range len).map L)[i]=L i:=by simp
   rw [h9]
   exact hL i hi'
theorem sj {cs a b c d:List Value} (hl:cs.length=68) (h0:(cs.drop 0).take 33=a) (h1:(cs.drop 33).take 33=b) (h2:(cs.drop 66).take 1=c) (h3:(cs.drop 67).take 1=d):cs=a++(b++(c++d)):=by
 subst h0;subst h1;subst h2;subst h3
 have e3:(cs.drop 67).take 1=cs.drop 67:=List.take_of_length_le (by rw [List.length_drop];omega)
 have e2:(cs.drop 66).take 1++cs.drop 67=cs.drop 66:=by
  have:=List.take_append_drop 1 (cs.drop 66)
  rwa [List.drop_drop] at this
 have e1:(cs.drop 33).take 33++cs.drop 66=cs.drop 33:=by
  have:=List.take_append_drop 33 (cs.drop 33)
  rwa [List.drop_drop] at this
 rw [e3,e2,e1,List.drop_zero,List.take_append_drop]
theorem BH {H:Type} {enc:TypeId × Value→H} {P:Program} {W:World} {r:Reach} {b0:Nat} {tm ts t tn ti e:TypeId} {g0 g1 g2 g3 f0 f1:Field} {v:Value} {d:DataW H} {ps:List MemPlace} (T:IdTy P ti e) (hc:P.cellsOf ti=32) (hce:P.cellsOf e=1) (hn:P.underlying tn=some (.int .i64)) (hcn:P.cellsOf tn=1)
 (hcs:P.cellsOf ts=1) (hts:P.underlying ts=some (.slice t)) (ht:P.underlying t=some (.struct #[f0,f1])) (h0:f0.type=tn) (h1:f1.type=ti) (o0:f0.offset=0) (o1:f1.offset=1) (hct:P.cellsOf t=33)
 (htm:P.underlying tm=some (.struct #[g0,g1,g2,g3])) (ht0:g0.type=t) (ht1:g1.type=t) (ht2:g2.type=ts) (ht3:g3.type=ts) (ho0:g0.offset=0) (ho1:g1.offset=33) (ho2:g2.offset=66) (ho3:g3.offset=67) (hctm:P.cellsOf tm=68)
 (hval:Value.okWide P W r b0 tm v) (h:DataW.Trod enc P W 0 (fun _=>true) true tm v d ps):∃ (n:Nd) (vs vf:Value),v=.agg (ay n.me n.pr vs vf)∧bX W vs 33 n.sc.length (ar n.sc)∧bX W vf 33 n.fg.length (ar n.fg):=by
 have hv:∃ cs,v=.agg cs:=by
  unfold Value.okWide at hval
  simp only [htm] at hval
  obtain ⟨cs,h9,_⟩:=hval
  exact ⟨cs,h9⟩
 obtain ⟨cs,rfl⟩:=hv
 obtain ⟨fuel,hf⟩:=h
 obtain ⟨xs,n,hcells,_,hl,hxl,hel⟩:=DataW.trod_struct htm hf
 have hcl:cs.toList.length=68:=by rw [← hctm];simpa [Value.cells] using hl
 have hx4:xs.length=4:=by simpa using hxl
 have e0:=hel 0 g0 rfl
 have e1:=hel 1 g1 rfl
 have e2:=hel 2 g2 rfl
 have e3:=hel 3 g3 rfl
 rw [ht0,ho0,hct,List.getElem?_eq_getElem (by omega)] at e0
 rw [ht1,ho1,hct,List.getElem?_eq_getElem (by omega)] at e1
 rw [ht2,ho2,hcs,List.getElem?_eq_getElem (by omega)] at e2
 rw [ht3,ho3,hcs,List.getElem?_eq_getElem (by omega)] at e3
 obtain ⟨a,ha⟩:=fJ T hc hce hn hcn ht h0 h1 o0 o1 hct e0
 obtain ⟨b,hb⟩:=fJ T hc hce hn hcn ht h0 h1 o0 o1 hct e1
 obtain ⟨u,ls,hu,hls⟩:=iL T hc hce hn hcn hts ht h0 h1 o0 o1 hct e2
 obtain ⟨u2,ls2,hu2,hls2⟩:=iL T hc hce hn hcn hts ht h0 h1 o0 o1 hct e3
 refine ⟨⟨a,b,ls,ls2⟩,u,u2,?_,hls,hls2⟩
 simp only [Value.cells] at ha hb hu hu2
 have key:cs.toList=(ay a b u u2).toList:=sj hcl ha hb hu hu2
 rw [Array.toList_inj.1 key]
theorem pq {α:Type} (f:α→Value):∀ l:List α,l.flatMap (fun x=>[f x])=l.map f
 |[]=>rfl
 |x::l=>by rw [List.flatMap_cons,pq f l];rfl
theorem BT {H:Type} {enc:TypeId × Value→H} {P:Program} {W:World} {r:Reach} {b0:Nat} {t e:TypeId} {v:Value} {d:DataW H} {ps:List MemPlace} (ht:P.underlying t=some (.slice e)) (he:P.underlying e=some (.int .i64)) (hc:P.cellsOf e=1)
 (hval:Value.okWide P W r b0 t v) (h:DataW.Trod enc P W 0 (fun _=>true) true t v d ps):∃ qs:List Int,bX W v 1 qs.length (qs.map (Value.int .i64)):=by
 obtain ⟨a,n,c,rfl⟩:=okWide_slice ht hval
 obtain ⟨fuel,hf⟩:=h
 rcases Go.Deep.open_slice ht hf with ⟨hcs,_⟩|⟨a',len,cap,m,k,D,Pl,hcs,_,hl,_,hm,_,hel⟩
 ·have:Value.slice a n c=.slice none 0 0:=by simpa [Value.cells] using hcs
  exact ⟨[],rfl,.inl ⟨this,rfl⟩⟩
 ·have hv:Value.slice a n c=.slice (some a') len cap:=by simpa [Value.cells] using hcs
  have hml:len≤m:=by rw [hm];split<;>omega
  have each:∀ i,∃ x:Int,i<len→aL W (a'.add (i*1)) #[.int .i64 x]:=fun i=>by
   by_cases hi:i<len
   ·obtain ⟨cs',hc1,hc2⟩:=hel i (by omega)
    obtain ⟨x,hx,_⟩:=DataW.trod_int he hc2
    subst hx
    refine ⟨x,fun _ j u hj=>?_⟩
    rw [hc] at hc1
    obtain ⟨_,hlen,hall⟩:=World.cells?_some hc1
    have hj1:j<1:=(Array.getElem?_eq_some_iff.1 hj).1
    have:=hall j hj1
    rw [this];simpa using hj
   ·exact ⟨0,fun h9=>absurd h9 hi⟩
  obtain ⟨L,hL⟩:=Classical.axiomOfChoice each
  refine ⟨(List.range len).map L,by simp,.inr ⟨a',cap,by rw [hv];simp,by simpa using hl,?_⟩⟩
  have:=ga (fun x:Int=>[Value.int .i64 x]) 1 (by decide) (fun _=>rfl) (w:=W) (p:=a') ((List.range len).map L) fun i hi=>by
   have hi':i<len:=by simpa using hi
   have:=hL i hi'
   simpa using this
  rwa [pq] at this
end Go.Proofs.YthggibfkgofncaaGreat
