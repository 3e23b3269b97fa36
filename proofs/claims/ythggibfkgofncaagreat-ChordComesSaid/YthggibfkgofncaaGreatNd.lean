/- Nodes: which may be, what hearing, following, dropping and pointing make of them, and that what may be stays such; nodes that come in; no Go in it. -/
import Derived.Test.YthggibfkgofncaaGreatRg
set_option linter.unusedVariables false
set_option linter.unusedSimpArgs false
set_option linter.unusedSectionVars false
namespace Go.Proofs.YthggibfkgofncaaGreat
open Go.RowKit
structure Nd where
 me:Mb
 pr:Mb
 sc:List Mb
 fg:List Mb
def zM:Nd:=⟨a8,a8,[],[]⟩
def bo:Value:=.slice none 0 0
def ju (m p:Mb) (vs vf:Value):List Value:=iG m++(iG p++[vs,vf])
def aD (m p:Mb) (vs vf:Value):Array Value:=(ju m p vs vf).toArray
theorem ru (m p:Mb) (vs vf:Value):(ju m p vs vf).length=68:=by simp [ju,ct]
theorem aA (m p:Mb) (vs vf:Value):(aD m p vs vf).size=68:=by simp [aD,ru]
theorem bW {m p:Mb} {vs vf:Value} (h1:vs.oneCell'=true) (h2:vf.oneCell'=true):∀ v∈(aD m p vs vf).toList,v.oneCell'=true:=fun v hv=>by
 have hv:v∈ju m p vs vf:=hv
 unfold ju at hv
 rcases List.mem_append.1 hv with hv|hv
 ·exact gW m v hv
 ·rcases List.mem_append.1 hv with hv|hv
  ·exact gW p v hv
  ·simp only [List.mem_cons,List.not_mem_nil,or_false] at hv
   rcases hv with rfl|rfl
   ·exact h1
   ·exact h2
theorem qC (m p:Mb) (vs vf:Value) (i:Nat):(aD m p vs vf)[i]? = (ju m p vs vf)[i]? := by simp [aD]
theorem bY (m p:Mb) (vs vf:Value):(aD m p vs vf)[0]? = some (.int .i64 m.1):=rfl
theorem tj (m p:Mb) (vs vf:Value) (i:Nat):(ju m p vs vf)[33+i]? = (iG p++[vs,vf])[i]? := by
 unfold ju
 rw [List.getElem?_append_right (by rw [ct];omega),ct,Nat.add_sub_cancel_left]
theorem ol (m p:Mb) (vs vf:Value) (i:Nat):(ju m p vs vf)[66+i]? = [vs,vf][i]? := by
 rw [show 66+i=33+(33+i) by omega,tj,List.getElem?_append_right (by rw [ct];omega),ct,Nat.add_sub_cancel_left]
theorem nf (m p:Mb) (vs vf:Value):(aD m p vs vf)[33]? = some (.int .i64 p.1):=by rw [qC];exact tj m p vs vf 0
theorem bC (m p:Mb) (vs vf:Value):(aD m p vs vf)[66]? = some vs:=by rw [qC];exact ol m p vs vf 0
theorem cB (m p:Mb) (vs vf:Value):(aD m p vs vf)[67]? = some vf:=by rw [qC];exact ol m p vs vf 1
theorem mb (l:List Value) (o n:Nat) (D:List Value) (h:(l.drop o).take n=D):l.toArray.extract o (o+n)=D.toArray:=by
 apply Array.ext'
 rw [Array.toList_extract,List.extract_eq_take_drop,Nat.add_sub_cancel_left]
 exact h
theorem bU (m p:Mb) (vs vf:Value):(aD m p vs vf).extract 0 (0+33)=au m:=mb _ _ _ _ (by
 rw [List.drop_zero];unfold ju;rw [List.take_left' (ct m)])
theorem tZ (m p:Mb) (vs vf:Value) (i:Nat) (h:i≤33):(ju m p vs vf).drop (33+i)=(iG p).drop i++[vs,vf]:=by
 unfold ju
 rw [← List.drop_drop,List.drop_left' (ct m),List.drop_append_of_le_length (by rw [ct];exact h)]
theorem co (m p:Mb) (vs vf:Value):(aD m p vs vf).extract 33 (33+33)=au p:=mb _ _ _ _ (by
 rw [tZ m p vs vf 0 (by omega),List.drop_zero,List.take_left' (ct p)])
theorem sR (m:Mb):(iG m).drop 1=(bq m.2).toList:=rfl
theorem jC (m p:Mb) (vs vf:Value):(aD m p vs vf).extract 1 (1+32)=bq m.2:=mb _ _ _ (bq m.2).toList (by
 unfold ju
 rw [List.drop_append_of_le_length (by rw [ct];omega),sR,List.take_left' (by rw [Array.length_toList,aI])])
theorem jG (m p:Mb) (vs vf v:Value):(aD m p vs vf).setIfInBounds 66 v=aD m p v vf:=by
 apply Array.ext'
 rw [Array.toList_setIfInBounds]
 show (ju m p vs vf).set 66 v=ju m p v vf
 unfold ju
 rw [List.set_append_right _ _ (by rw [ct];omega),List.set_append_right _ _ (by rw [ct,ct];omega),ct,ct]
 rfl
theorem jA (m p:Mb) (vs vf v:Value):(aD m p vs vf).setIfInBounds 67 v=aD m p vs v:=by
 apply Array.ext'
 rw [Array.toList_setIfInBounds]
 show (ju m p vs vf).set 67 v=ju m p vs v
 unfold ju
 rw [List.set_append_right _ _ (by rw [ct];omega),List.set_append_right _ _ (by rw [ct,ct];omega),ct,ct]
 rfl
theorem cx {w:World} {v:Value} {sz n:Nat} {xs:List Value} (h:bK w v sz n xs):v.oneCell'=true:=by
 obtain ⟨a,c,rfl⟩:=h.len
 rfl
def A1:List (List Value):=[.int .i64 0::List.replicate 32 (.int .u8 0),.int .i64 0::List.replicate 32 (.int .u8 0),[.slice none 0 0],[.slice none 0 0]]
theorem lY:iG a8=Value.int .i64 0::List.replicate 32 (Value.int .u8 0):=by
 have:=congrArg Array.toList om
 exact this
theorem wM:aD a8 a8 bo bo=A1.flatten.toArray:=by
 unfold aD ju
 rw [lY];rfl
section
variable {P:Program} {ρ:Operand→Value} {d:Option Tmp} {ty:TypeId} {pos:String} {af:Array Edge} {g:Option (Nat × Bool)} {x y z:Operand} {t:TypeId}
theorem ez (S:Stt P t A1):bR P ⟨d,.build t #[],ty,pos,af,g⟩ ρ (.agg (aD a8 a8 bo bo)):=by
 have:=eu (P:=P) (ρ:=ρ) (d:=d) (ty:=ty) (pos:=pos) (af:=af) (g:=g) (parts:=#[]) S [] (by simp) (fun i v hm=>by simp at hm) (D:=ju a8 a8 bo bo) (by unfold ju;rw [lY];rfl)
 exact this
theorem jK {m p:Mb} {v:Value} (S:Stt P t A1) (hv:v.cells.size=1) (hc:v.cells.toList=[v]) (hx:ρ x=.agg (au m)) (hy:ρ y=.agg (au p)) (hz:ρ z=v):bR P ⟨d,.build t #[(0,x),(1,y),(2,z)],ty,pos,af,g⟩ ρ (.agg (aD m p v bo)):=by
 have:=eu (P:=P) (ρ:=ρ) (d:=d) (ty:=ty) (pos:=pos) (af:=af) (g:=g) (parts:=#[(0,x),(1,y),(2,z)]) S [(0,.agg (au m)),(1,.agg (au p)),(2,v)] (by simp [hx,hy,hz]) (fun i u hm=>by
  simp only [List.mem_cons,Prod.mk.injEq,List.not_mem_nil,or_false] at hm
  rcases hm with ⟨rfl,rfl⟩|⟨rfl,rfl⟩|⟨rfl,rfl⟩
  ·exact ⟨_,rfl,by show (au m).size=_;rw [ak];rfl⟩
  ·exact ⟨_,rfl,by show (au p).size=_;rw [ak];rfl⟩
  ·exact ⟨_,rfl,hv⟩) (D:=ju m p v bo) (by
   show (au m).toList++((au p).toList++(v.cells.toList++([bo]++[])))=_
   rw [hc];rfl)
 exact this
end
end Go.Proofs.YthggibfkgofncaaGreat
namespace Go.Proofs.YthggibfkgofncaaGreat
open Go.RowKit
def dd (m:Mb):Bool:=decide (0≤m.1) && decide (m.1<16)
theorem jB {m:Mb}:dd m=true↔0≤m.1∧m.1<16:=by unfold dd;rw [Bool.and_eq_true,decide_eq_true_eq,decide_eq_true_eq]
theorem tG {m:Mb} (h:decide (0≤m.1)=false):dd m=false:=by unfold dd;rw [h];rfl
theorem x8 {m:Mb} (h:decide (0≤m.1)=true):dd m=decide (m.1<16):=by unfold dd;rw [h];rfl
def jJ (l:List Mb) (no:Int):Bool:=l.any fun x=>decide (x.1=no)
theorem xl {l:List Mb} {no:Int}:jJ l no=true↔∃ x∈l,x.1=no:=by
 unfold jJ;rw [List.any_eq_true]
 exact ⟨fun ⟨x,h,e⟩=>⟨x,h,of_decide_eq_true e⟩,fun ⟨x,h,e⟩=>⟨x,h,decide_eq_true e⟩⟩
theorem rO {l:List Mb} {no:Int}:jJ l no=false↔∀ x∈l,x.1≠no:=by
 rw [← Bool.not_eq_true,xl]
 exact ⟨fun h x hx e=>h ⟨x,hx,e⟩,fun h ⟨x,hx,e⟩=>h x hx e⟩
def iJ (l:List Mb) (no:Int) (d:Nat):Bool := !dd (l.getD d a8) || (decide ((l.getD d a8).1=no) || jJ (l.take d) (l.getD d a8).1)
def gP (l:List Mb) (no:Int):Bool:=(List.range l.length).all fun d => !iJ l no d
structure Oth (l:List Mb) (no:Int):Prop where
 may:∀ x∈l,0≤x.1∧x.1<16
 ne:∀ x∈l,x.1≠no
 nd:l.Pairwise fun a b=>a.1≠b.1
theorem jF {l:List Mb} {no:Int} {d:Nat}:iJ l no d=false↔dd (l.getD d a8)=true∧(l.getD d a8).1≠no∧∀ x∈l.take d,x.1≠(l.getD d a8).1:=by
 unfold iJ
 rw [Bool.or_eq_false_iff,Bool.or_eq_false_iff,Bool.not_eq_false',decide_eq_false_iff_not,rO]
theorem vi {l:List Mb} {no:Int} {d:Nat} (h:dd (l.getD d a8)=false):iJ l no d=true:=by unfold iJ;rw [h];rfl
theorem uG {l:List Mb} {no:Int} {d:Nat} (h:decide ((l.getD d a8).1=no)=true):iJ l no d=true:=by unfold iJ;rw [h];simp
theorem nw {l:List Mb} {no:Int} {d:Nat} (h:dd (l.getD d a8)=true) (h1:decide ((l.getD d a8).1=no)=false):iJ l no d=jJ (l.take d) (l.getD d a8).1:=by unfold iJ;rw [h,h1];rfl
theorem nX {l:List Mb} {no:Int}:gP l no=true↔∀ d,d<l.length→iJ l no d=false:=by
 unfold gP;rw [List.all_eq_true]
 exact ⟨fun h d hd=>by have:=h d (List.mem_range.2 hd);simpa using this,fun h d hd=>by rw [h d (List.mem_range.1 hd)];rfl⟩
theorem vU {l:List Mb} {no:Int}:gP l no=true↔Oth l no:=by
 rw [nX]
 constructor
 ·intro h
  refine ⟨fun x hx=>?_,fun x hx=>?_,?_⟩
  ·obtain ⟨j,hj,rfl⟩:=hQ hx
   exact jB.1 (jF.1 (h j hj)).1
  ·obtain ⟨j,hj,rfl⟩:=hQ hx
   exact(jF.1 (h j hj)).2.1
  ·rw [List.pairwise_iff_getElem]
   intro i j hi hj hij
   have h9:=(jF.1 (h j hj)).2.2 l[i] (List.mem_iff_getElem.2 ⟨i,by rw [List.length_take];omega,List.getElem_take⟩)
   rwa [← oq hj] at h9
 ·rintro ⟨h1,h2,h3⟩ d hd
  refine jF.2 ⟨jB.2 (h1 _ (fB hd)),h2 _ (fB hd),fun x hx=>?_⟩
  obtain ⟨i,hi,rfl⟩:=List.mem_iff_getElem.1 hx
  rw [List.length_take] at hi
  rw [List.getElem_take,← oq hd]
  exact List.pairwise_iff_getElem.1 h3 i d (by omega) hd (by omega)
theorem gm {l:List Mb} {no:Int} {d:Nat} (hd:d<l.length) (h:iJ l no d=true):gP l no=false:=by
 rw [← Bool.not_eq_true,nX];intro h9;rw [h9 d hd] at h;cases h
theorem px {l:List Mb} {no:Int} {k:Nat} (hk:l.length≤k) (h:∀ j,j<k→iJ l no j=false):gP l no=true:=nX.2 fun d hd=>h d (by omega)
def i8 (p:Mb) (no:Int):Bool:=decide (p=d5) || (dd p && decide (p.1≠no))
def gY (l:List Mb) (m:Mb):Bool:=decide (l=[m]) || (decide (1≤l.length) && (decide (l.length≤4) && gP l m.1))
def jw (l:List Mb) (no:Int):Bool:=decide (l.length≤16) && gP l no
def cM (n:Nd):Bool:=dd n.me && (i8 n.pr n.me.1 && (gY n.sc n.me && jw n.fg n.me.1))
theorem q5 {p:Mb} {no:Int} (h:decide (p=d5)=true):i8 p no=true:=by unfold i8;rw [h];rfl
theorem x1 {p:Mb} {no:Int} (h:decide (p=d5)=false) (h1:dd p=false):i8 p no=false:=by unfold i8;rw [h,h1];rfl
theorem rB {p:Mb} {no:Int} (h:decide (p=d5)=false) (h1:dd p=true):i8 p no=decide (p.1≠no):=by unfold i8;rw [h,h1];rfl
theorem pH {l:List Mb} {m:Mb}:l=[m]↔l.length=1∧l.getD 0 a8=m:=by
 constructor
 ·rintro rfl;exact ⟨rfl,rfl⟩
 ·rintro ⟨h1,h2⟩
  obtain ⟨x,rfl⟩:=List.length_eq_one_iff.1 h1
  have h2:x=m:=h2
  rw [h2]
theorem tD {l:List Mb} {m:Mb} (h:decide (l.length=1)=true) (h1:decide (l.getD 0 a8=m)=true):gY l m=true:=by
 unfold gY;rw [decide_eq_true (pH.2 ⟨of_decide_eq_true h,of_decide_eq_true h1⟩)];rfl
theorem t7 {l:List Mb} {m:Mb} (h:¬ (l.length=1∧l.getD 0 a8=m)):gY l m=(decide (1≤l.length) && (decide (l.length≤4) && gP l m.1)):=by
 unfold gY;rw [decide_eq_false fun e=>h (pH.1 e)];rfl
theorem tM {l:List Mb} {m:Mb} (h:¬ (l.length=1∧l.getD 0 a8=m)) (h0:decide (1≤l.length)=false):gY l m=false:=by rw [t7 h,h0];rfl
theorem tT {l:List Mb} {m:Mb} (h:¬ (l.length=1∧l.getD 0 a8=m)) (h0:decide (l.length≤4)=false):gY l m=false:=by rw [t7 h,h0,Bool.false_and,Bool.and_false]
theorem uO {l:List Mb} {m:Mb} (h:¬ (l.length=1∧l.getD 0 a8=m)) (h0:decide (1≤l.length)=true) (h1:decide (l.length≤4)=true):gY l m=gP l m.1:=by rw [t7 h,h0,h1];rfl
theorem ye {l:List Mb} {no:Int} (h:decide (l.length≤16)=false):jw l no=false:=by unfold jw;rw [h];rfl
theorem xL {l:List Mb} {no:Int} (h:decide (l.length≤16)=true):jw l no=gP l no:=by unfold jw;rw [h];rfl
theorem rH {n:Nd} (h:dd n.me=false):cM n=false:=by unfold cM;rw [h];rfl
theorem nt {n:Nd} (h:i8 n.pr n.me.1=false):cM n=false:=by unfold cM;rw [h,Bool.false_and,Bool.and_false]
theorem jQ {n:Nd} (h:gY n.sc n.me=false):cM n=false:=by unfold cM;rw [h,Bool.false_and,Bool.and_false,Bool.and_false]
theorem wJ {n:Nd} (h:dd n.me=true) (h1:i8 n.pr n.me.1=true) (h2:gY n.sc n.me=true):cM n=jw n.fg n.me.1:=by unfold cM;rw [h,h1,h2];rfl
structure RN (n:Nd):Prop where
 me:0≤n.me.1∧n.me.1<16
 pr:n.pr=d5∨((0≤n.pr.1∧n.pr.1<16)∧n.pr.1≠n.me.1)
 sc:n.sc=[n.me]∨(1≤n.sc.length∧n.sc.length≤4∧Oth n.sc n.me.1)
 fg:n.fg.length≤16∧Oth n.fg n.me.1
theorem mn {n:Nd}:cM n=true↔RN n:=by
 unfold cM i8 gY jw
 simp only [Bool.and_eq_true,Bool.or_eq_true,decide_eq_true_eq,jB,vU]
 exact ⟨fun ⟨h1,h2,h3,h4⟩=>⟨h1,h2,h3,h4⟩,fun ⟨h1,h2,h3,h4⟩=>⟨h1,h2,h3,h4⟩⟩
theorem RN.len {n:Nd} (h:RN n):1≤n.sc.length∧n.sc.length≤4:=by
 rcases h.sc with h|h
 ·rw [h];exact ⟨Nat.le_refl _,by show 1≤4;omega⟩
 ·exact ⟨h.1,h.2.1⟩
def de (n:Nd) (x:Mb):Int:=bif cM n && (dd x && decide (x.1≠n.me.1)) then (bif jJ n.fg x.1 then 0 else bif decide (n.fg.length=16) then 8 else 0) else 1
def wT (n:Nd) (x:Mb):List Mb:=bif jJ n.fg x.1 then n.fg else n.fg++[x]
def ci (n:Nd) (x:Mb):Nd:=bif decide (de n x=0) then {n with fg:=wT n x} else zM
theorem qJ {n:Nd} {x:Mb} (h:¬ de n x=0):ci n x=zM:=by unfold ci;rw [decide_eq_false h];rfl
theorem ub {n:Nd} {x:Mb} (h:de n x=0):ci n x={n with fg:=wT n x}:=by unfold ci;rw [decide_eq_true h];rfl
theorem yZ {n:Nd} {x:Mb} (h:cM n=false):de n x=1:=by unfold de;rw [h];rfl
theorem zB {n:Nd} {x:Mb} (h:dd x=false):de n x=1:=by unfold de;rw [h,Bool.false_and,Bool.and_false];rfl
theorem zC {n:Nd} {x:Mb} (h:decide (x.1=n.me.1)=true):de n x=1:=by
 have:=of_decide_eq_true h
 unfold de;rw [decide_eq_false (show ¬ x.1≠n.me.1 from fun h9=>h9 this),Bool.and_false,Bool.and_false];rfl
theorem yH {n:Nd} {x:Mb} (h:cM n=true) (h1:dd x=true) (h2:decide (x.1=n.me.1)=false):de n x=bif jJ n.fg x.1 then 0 else bif decide (n.fg.length=16) then 8 else 0:=by
 have:=of_decide_eq_false h2
 unfold de;rw [h,h1,decide_eq_true (show x.1≠n.me.1 from this)];rfl
theorem wZ {n:Nd} {x:Mb} (h:cM n=true) (h1:dd x=true) (h2:decide (x.1=n.me.1)=false) (h3:jJ n.fg x.1=true):de n x=0∧wT n x=n.fg:=by
 rw [yH h h1 h2];unfold wT;rw [h3];exact ⟨rfl,rfl⟩
theorem yI {n:Nd} {x:Mb} (h:cM n=true) (h1:dd x=true) (h2:decide (x.1=n.me.1)=false) (h3:jJ n.fg x.1=false) (h4:decide (n.fg.length=16)=true):de n x=8:=by
 rw [yH h h1 h2,h3,h4];rfl
theorem vS {n:Nd} {x:Mb} (h:cM n=true) (h1:dd x=true) (h2:decide (x.1=n.me.1)=false) (h3:jJ n.fg x.1=false) (h4:decide (n.fg.length=16)=false):de n x=0∧wT n x=n.fg++[x]:=by
 rw [yH h h1 h2,h4];unfold wT;rw [h3];exact ⟨rfl,rfl⟩
theorem Oth.filter {l:List Mb} {no:Int} (h:Oth l no) (p:Mb→Bool):Oth (l.filter p) no:=
 ⟨fun x hx=>h.may x ((List.mem_filter.1 hx).1),fun x hx=>h.ne x ((List.mem_filter.1 hx).1),h.nd.filter p⟩
theorem Oth.snoc {l:List Mb} {no:Int} (h:Oth l no) {x:Mb} (h1:0≤x.1∧x.1<16) (h2:x.1≠no) (h3:∀ y∈l,y.1≠x.1):Oth (l++[x]) no:=by
 refine ⟨fun y hy=>?_,fun y hy=>?_,?_⟩
 ·rcases List.mem_append.1 hy with hy|hy
  ·exact h.may y hy
  ·rw [List.mem_singleton.1 hy];exact h1
 ·rcases List.mem_append.1 hy with hy|hy
  ·exact h.ne y hy
  ·rw [List.mem_singleton.1 hy];exact h2
 ·rw [List.pairwise_append]
  exact ⟨h.nd,List.pairwise_singleton _ _,fun a ha b hb=>by rw [List.mem_singleton.1 hb];exact h3 a ha⟩
theorem xr {n:Nd} {x:Mb} (h:RN n) (hx:dd x=true) (hno:decide (x.1=n.me.1)=false) (h16:de n x=0):RN {n with fg:=wT n x}:=by
 refine ⟨h.me,h.pr,h.sc,?_⟩
 show (wT n x).length≤16∧Oth (wT n x) n.me.1
 cases hb:jJ n.fg x.1 with
 |true=>rw [(wZ (mn.2 h) hx hno hb).2];exact h.fg
 |false=>
  cases hl:decide (n.fg.length=16) with
  |true=>rw [yI (mn.2 h) hx hno hb hl] at h16;cases h16
  |false=>
   rw [(vS (mn.2 h) hx hno hb hl).2]
   refine ⟨?_,h.fg.2.snoc (jB.1 hx) (of_decide_eq_false hno) (rO.1 hb)⟩
   have:=h.fg.1
   have:=of_decide_eq_false hl
   rw [List.length_append];show _+1≤_;omega
theorem rL {n:Nd} {x:Mb} (h:de n x=0):RN (ci n x)∧(ci n x).me=n.me:=by
 cases h1:cM n with
 |false=>rw [yZ h1] at h;cases h
 |true=>
  cases h2:dd x with
  |false=>rw [zB h2] at h;cases h
  |true=>
   cases h3:decide (x.1=n.me.1) with
   |true=>rw [zC h3] at h;cases h
   |false=>rw [ub h];exact ⟨xr (mn.1 h1) h2 h3 h,rfl⟩
end Go.Proofs.YthggibfkgofncaaGreat
namespace Go.Proofs.YthggibfkgofncaaGreat
open Go.RowKit
end Go.Proofs.YthggibfkgofncaaGreat
namespace Go.Proofs.YthggibfkgofncaaGreat
open Go.RowKit
theorem St.add {w0 w w':World} {B C:List Own} (s:St w0 B w) (t:St w C w'):St w0 (C++B) w':=by
 refine s.join t.ext C (fun p hp=>?_) (fun p hp k hk=>t.own p hp k hk) t.nd
 have h:=t.has p hp
 cases p with
 |blk b o=>exact h
 |sl v e sz n xs=>exact cN.low h s.ext.le
 |grp ks S=>exact h
def AM (w:World) (M:TypeId) (n:Nd):cQ:=fun v w'=>∃ vs vf,v=.agg (aD n.me n.pr vs vf)∧St w [.sl vs M 33 n.sc.length (av n.sc),.sl vf M 33 n.fg.length (av n.fg)] w'
def tB (w:World) (M:TypeId) (n:Nd) (k:Int):cQ:=fun v w'=>∃ vs vf,v=.tuple #[.agg (aD n.me n.pr vs vf),.int .i64 k]∧St w [.sl vs M 33 n.sc.length (av n.sc),.sl vf M 33 n.fg.length (av n.fg)] w'
theorem mm {w w':World} {M:TypeId} {B:List Own} {n:Nd} {k q:Int} (s:St w B w') (hn:n=zM) (hk:k=q):tB w M n k (.tuple #[.agg (aD a8 a8 bo bo),.int .i64 q]) w':=by
 subst hn;subst hk
 exact ⟨bo,bo,rfl,((s.pick [] (List.nil_sublist _)).nilSl M 33).nilSl M 33⟩
theorem qr {w w':World} {M:TypeId} {n:Nd} {a p:Mb} {l f:List Mb} {vs vf:Value} {k q:Int} (hn:n=⟨a,p,l,f⟩) (hk:k=q) (h:St w [.sl vs M 33 l.length (av l),.sl vf M 33 f.length (av f)] w'):tB w M n k (.tuple #[.agg (aD a p vs vf),.int .i64 q]) w':=by
 subst hn;subst hk
 exact ⟨vs,vf,rfl,h⟩
theorem zv {w w':World} {M:TypeId} {n:Nd} {a p:Mb} {l f:List Mb} {vs vf:Value} (hn:n=⟨a,p,l,f⟩) (h:St w [.sl vs M 33 l.length (av l),.sl vf M 33 f.length (av f)] w'):AM w M n (.agg (aD a p vs vf)) w':=by
 subst hn
 exact ⟨vs,vf,rfl,h⟩
theorem m7 (ls:List (List Mb)) (k:Nat) (h:k<ls.length):(ls.take (k+1)).flatten=(ls.take k).flatten++ls.getD k []:=by
 rw [List.take_succ_eq_append_getElem h,List.flatten_append,List.getD_eq_getElem?_getD,List.getElem?_eq_getElem h];simp
theorem l5 (ls:List (List Mb)) (k:Nat) (h:k<ls.length):(ls.take k).flatten.length+(ls.getD k []).length=(ls.take (k+1)).flatten.length:=by
 rw [m7 ls k h,List.length_append]
theorem qg (ls:List (List Mb)) (k:Nat) (h:k<ls.length):av (ls.take k).flatten++av (ls.getD k [])=av (ls.take (k+1)).flatten:=by
 rw [m7 ls k h,dR]
theorem rx (ls:List (List Mb)) (k:Nat):(ls.take k).flatten.length≤ls.flatten.length:=by
 have:=congrArg (fun x=>x.flatten.length) (List.take_append_drop k ls)
 simp only [List.flatten_append,List.length_append] at this
 omega
theorem oF {w:World} {base:Nat} {e:TypeId} {v:Value} {ls:List (List Mb)} {i:Nat} (hi:ls.length≤i) (h:cN w base e 33 v (ls.take i).flatten.length (av (ls.take i).flatten)):cN w base e 33 v ls.flatten.length (av ls.flatten):=by
 rwa [List.take_of_length_le hi] at h
theorem qn {w:World} {a:Option Addr} {n c:Nat} {l:List Mb} (ha:a.isNone=true) (h:bK w (.slice a n c) 33 l.length (av l)):l=[]:=by
 cases a with
 |some p=>cases ha
 |none=>
  rcases h.2 with ⟨h1,h2⟩|⟨p,cap,h1,_⟩
  ·exact List.eq_nil_of_length_eq_zero h2
  ·cases h1
theorem ip (w:World):bK w bo 33 ([]:List Mb).length (av []):=⟨rfl,.inl ⟨rfl,rfl⟩⟩
section
variable {P:Program} {ρ:Operand→Value} {d:Option Tmp} {ty:TypeId} {pos:String} {af:Array Edge} {g:Option (Nat × Bool)} {x y z:Operand} {t:TypeId}
end
end Go.Proofs.YthggibfkgofncaaGreat
namespace Go.Proofs.YthggibfkgofncaaGreat
theorem yV {m:Mb} (h:decide (m.1 = -1)=false):decide (m=d5)=false:=decide_eq_false fun e=>of_decide_eq_false h (by rw [e];rfl)
theorem zL {m:Mb} (h:decide (m.1 = -1)=true):decide (m=d5)=decide (m.2=0#256):=by
 have h:=of_decide_eq_true h
 rw [decide_eq_decide]
 exact ⟨fun e=>by rw [e];rfl,fun e=>Prod.ext h e⟩
end Go.Proofs.YthggibfkgofncaaGreat
namespace Go.Proofs.YthggibfkgofncaaGreat
open Go.RowKit
def AX (m:Mb):Nd:=bif dd m then ⟨m,d5,[m],[]⟩ else zM
def AL (m:Mb):Int:=bif dd m then 0 else 1
theorem pd {m:Mb} (h:dd m=false):AX m=zM∧AL m=1:=by unfold AX AL;rw [h];exact ⟨rfl,rfl⟩
theorem o8 {m:Mb} (h:dd m=true):AX m=⟨m,d5,[m],[]⟩∧AL m=0:=by unfold AX AL;rw [h];exact ⟨rfl,rfl⟩
theorem vR {w w':World} {M:TypeId} {n:Nd} {a p:Mb} {l:List Mb} {vs:Value} {k q:Int} (hn:n=⟨a,p,l,[]⟩) (hk:k=q) (h:St w [.sl vs M 33 l.length (av l)] w'):tB w M n k (.tuple #[.agg (aD a p vs bo),.int .i64 q]) w':=
 qr hn hk ((h.nilSl M 33).perm (List.Perm.swap _ _ _))
theorem kX {w:World} {v:Value} {sz n:Nat} {xs:List Value} (h:bK w v sz n xs):v.cells.size=1:=by obtain ⟨a,c,rfl⟩:=h.len;rfl
theorem jH {w:World} {v:Value} {sz n:Nat} {xs:List Value} (h:bK w v sz n xs):v.cells.toList=[v]:=by obtain ⟨a,c,rfl⟩:=h.len;rfl
end Go.Proofs.YthggibfkgofncaaGreat
namespace Go.Proofs.YthggibfkgofncaaGreat
open Go.RowKit
section
variable {P:Program} {a:Act} {w w0:World} {N:Nat} {L:List (Nat × Value)} {B:List Own} {fn:Func} {T:cQ}
end
end Go.Proofs.YthggibfkgofncaaGreat
namespace Go.Proofs.YthggibfkgofncaaGreat
end Go.Proofs.YthggibfkgofncaaGreat
namespace Go.Proofs.YthggibfkgofncaaGreat
open Go.RowKit
structure FldT (P:Program) (t:TypeId) (f off:Nat) (tf:TypeId):Prop where
 has:∃ fields fd,P.underlying t=some (.struct fields)∧fields[f]? = some fd∧fd.type=tf∧fd.offset=off
theorem mO {P:Program} {ρ:Operand→Value} {d:Option Tmp} {ty:TypeId} {pos:String} {af:Array Edge} {g:Option (Nat × Bool)} {x:Operand} {t tf:TypeId} {f off:Nat} {C:Array Value} {V:Value} (F:FldT P t f off tf) (ho:One P tf) (hx:ρ x=.agg C) (hC:C[off]? = some V):
 bR P ⟨d,.field t x f,ty,pos,af,g⟩ ρ V:=fun w=>by
 obtain ⟨fields,fd,h1,h2,h3,h4⟩:=F.has
 simp [execOp,hx,Instr.field,Sem.run_bind,run_underlying h1,h2,asAgg,part,h3,h4,iL ho w,hC]
theorem vy {p:Mb} {no:Int} (h:decide (p=d5)=false) (h1:dd p=true) (h2:decide (p.1=no)=false):i8 p no=true:=by rw [rB h h1,decide_eq_true (of_decide_eq_false h2)]
theorem Ab {p:Mb} {no:Int} (h:decide (p=d5)=false) (h1:dd p=true) (h2:decide (p.1=no)=true):i8 p no=false:=by rw [rB h h1];exact decide_eq_false fun e=>e (of_decide_eq_true h2)
theorem vA {l:List Mb} {m:Mb} (h:decide (l.length<1)=true):gY l m=false:=by
 have h:=of_decide_eq_true h
 exact tM (fun e=>by omega) (decide_eq_false (by omega))
theorem uC {l:List Mb} {m:Mb} (h:decide (4<l.length)=true):gY l m=false:=by
 have h:=of_decide_eq_true h
 exact tT (fun e=>by omega) (decide_eq_false (by omega))
theorem ry {l:List Mb} {m:Mb} (h:decide (l.length<1)=false) (h1:decide (4<l.length)=false) (hn:¬ (l.length=1∧l.getD 0 a8=m)):gY l m=gP l m.1:=by
 have h:=of_decide_eq_false h
 have h1:=of_decide_eq_false h1
 exact uO hn (decide_eq_true (by omega)) (decide_eq_true (by omega))
theorem uD {l:List Mb} {no:Int} (h:decide (16<l.length)=true):jw l no=false:=ye (decide_eq_false (by have:=of_decide_eq_true h;omega))
theorem uQ {l:List Mb} {no:Int} (h:gP l no=false):jw l no=false:=by unfold jw;rw [h,Bool.and_false]
theorem j5 {l:List Mb} {no:Int} (h:decide (16<l.length)=false) (h1:gP l no=true):jw l no=true:=by
 rw [xL (decide_eq_true (by have:=of_decide_eq_false h;omega)),h1]
theorem k9 {n:Nd} (h:jw n.fg n.me.1=false):cM n=false:=by unfold cM;rw [h,Bool.and_false,Bool.and_false,Bool.and_false]
theorem iv {n:Nd} (h:dd n.me=true) (h1:i8 n.pr n.me.1=true) (h2:jw n.fg n.me.1=true):cM n=gY n.sc n.me:=by unfold cM;rw [h,h1,h2,Bool.and_true];rfl
def eG (a b:Nd):Bool:=decide (a.me=b.me) && (decide (a.pr=b.pr) && (decide (a.sc=b.sc) && decide (a.fg=b.fg)))
theorem ug (a:Nd):eG a a=true:=by unfold eG;simp
theorem zt {a b:Nd} (h:a=b):eG a b=true:=by subst h;exact ug a
theorem Bp {a b:Nd} (h:decide (a.me=b.me)=false):eG a b=false:=by unfold eG;rw [h];rfl
theorem Bd {a b:Nd} (h:decide (a.pr=b.pr)=false):eG a b=false:=by unfold eG;rw [h,Bool.false_and,Bool.and_false]
theorem BE {a b:Nd} (h:decide (a.sc=b.sc)=false):eG a b=false:=by unfold eG;rw [h,Bool.false_and,Bool.and_false,Bool.and_false]
theorem Bw {a b:Nd} (h:decide (a.me=b.me)=true) (h1:decide (a.pr=b.pr)=true) (h2:decide (a.sc=b.sc)=true):eG a b=decide (a.fg=b.fg):=by unfold eG;rw [h,h1,h2];rfl
def Ah (w:World) (M:TypeId) (a p:Mb) (l:List Mb) (vf:Value):cQ:=fun v w'=>∃ vo,v=.agg (aD a p vo vf)∧cN w' w.heap.size M 33 vo l.length (av l)
def BQ (w:World) (M:TypeId) (a p:Mb) (s f:List Mb):cQ:=fun v w'=>∃ vs vf,v=.agg (aD a p vs vf)∧St w [.sl vs M 33 s.length (av s),.sl vf M 33 f.length (av f)] w'
end Go.Proofs.YthggibfkgofncaaGreat
namespace Go.Proofs.YthggibfkgofncaaGreat
end Go.Proofs.YthggibfkgofncaaGreat
namespace Go.Proofs.YthggibfkgofncaaGreat
open Go.RowKit
def y0 (a p:Mb) (l:List Mb) (vf:Value):cQ:=fun v w=>∃ vo,v=.agg (aD a p vo vf)∧bK w vo 33 l.length (av l)
theorem y0.mono (a p:Mb) (l:List Mb) (vf:Value):iH (y0 a p l vf):=fun _ _ _ ⟨vo,h1,h2⟩ hE=>⟨vo,h1,h2.keep hE⟩
theorem Ah.d {w w':World} {M:TypeId} {a p:Mb} {l:List Mb} {vf v:Value} (h:Ah w M a p l vf v w'):y0 a p l vf v w':=by obtain ⟨vo,h1,h2⟩:=h;exact ⟨vo,h1,bK.of_own h2⟩
def BK (a p:Mb) (s f:List Mb):cQ:=fun v w=>∃ vs vf,v=.agg (aD a p vs vf)∧bK w vs 33 s.length (av s)∧bK w vf 33 f.length (av f)
theorem BK.mono (a p:Mb) (s f:List Mb):iH (BK a p s f):=fun _ _ _ ⟨vs,vf,h1,h2,h3⟩ hE=>⟨vs,vf,h1,h2.keep hE,h3.keep hE⟩
theorem BQ.d {w w':World} {M:TypeId} {a p:Mb} {s f:List Mb} {v:Value} (h:BQ w M a p s f v w'):BK a p s f v w':=by
 obtain ⟨vs,vf,h1,h2⟩:=h
 exact ⟨vs,vf,h1,bK.of_own (h2.getSl 0 rfl),bK.of_own (h2.getSl 1 rfl)⟩
end Go.Proofs.YthggibfkgofncaaGreat
namespace Go.Proofs.YthggibfkgofncaaGreat
open Go.RowKit
def By:Option Value→Value
 |some (.slice p n k)=>.slice p n k
 |_=>bo
theorem xq (o:Option Value):(By o).oneCell'=true:=by
 unfold By
 split<;>rfl
def Af (i:Nat):Option Value→Value
 |some (Value.agg c)=>By (c[i]?)
 |_=>bo
def ck (i:Nat):Value→Value
 |Value.tuple a=>Af i (a[0]?)
 |_=>bo
theorem vT (i:Nat) (o:Option Value):(Af i o).oneCell'=true:=by
 unfold Af
 split
 ·exact xq _
 ·rfl
theorem fO (i:Nat) (v:Value):(ck i v).oneCell'=true:=by
 unfold ck
 split
 ·exact vT _ _
 ·rfl
theorem nV {a p:Mb} {vs vf:Value} {k:Int} {w:World} {sz n:Nat} {xs:List Value} (h:bK w vs sz n xs):ck 66 (.tuple #[.agg (aD a p vs vf),.int .i64 k])=vs:=by
 obtain ⟨q,c,rfl⟩:=h.len
 have h1:(#[Value.agg (aD a p (.slice q n c) vf),Value.int .i64 k]:Array Value)[0]? = some (Value.agg (aD a p (.slice q n c) vf)):=rfl
 unfold ck
 simp only [h1,Af]
 rw [bC];rfl
theorem nJ {a p:Mb} {vs vf:Value} {k:Int} {w:World} {sz n:Nat} {xs:List Value} (h:bK w vf sz n xs):ck 67 (.tuple #[.agg (aD a p vs vf),.int .i64 k])=vf:=by
 obtain ⟨q,c,rfl⟩:=h.len
 have h1:(#[Value.agg (aD a p vs (.slice q n c)),Value.int .i64 k]:Array Value)[0]? = some (Value.agg (aD a p vs (.slice q n c))):=rfl
 unfold ck
 simp only [h1,Af]
 rw [cB];rfl
abbrev N3:=Nd × Value × Value
def z3:N3:=(zM,bo,bo)
def mv (x:N3):List Value:=ju x.1.me x.1.pr x.2.1 x.2.2
def aK (l:List N3):List Value:=l.flatMap mv
theorem fR (x:N3):(mv x).length=68:=ru _ _ _ _
theorem c6 (l:List N3) (j:Nat) (hj:j<l.length):(((aK l).drop (j*68)).take 68).toArray=aD (l.getD j z3).1.me (l.getD j z3).1.pr (l.getD j z3).2.1 (l.getD j z3).2.2:=by
 unfold aK
 rw [hZ _ 68 fR l j hj,List.getD_eq_getElem?_getD,List.getElem?_eq_getElem hj];rfl
def j4 (w:World) (x:N3):Prop:=bK w x.2.1 33 x.1.sc.length (av x.1.sc)∧bK w x.2.2 33 x.1.fg.length (av x.1.fg)
end Go.Proofs.YthggibfkgofncaaGreat
namespace Go.Proofs.YthggibfkgofncaaGreat
open Go.RowKit Go.ChangeShapes Go.WideShapes Go.ChangeAt
theorem iC {H:Type} {enc:TypeId × Value→H} {P:Program} {W:World} {ts t tn ti e:TypeId} {f0 f1:Field} {fuel:Nat} {cs:List Value} {x:DataW H × List MemPlace} (T:IdTy P ti e) (hc:P.cellsOf ti=32) (hce:P.cellsOf e=1) (hn:P.underlying tn=some (.int .i64)) (hcn:P.cellsOf tn=1)
 (hts:P.underlying ts=some (.slice t)) (ht:P.underlying t=some (.struct #[f0,f1])) (h0:f0.type=tn) (h1:f1.type=ti) (o0:f0.offset=0) (o1:f1.offset=1) (hct:P.cellsOf t=33)
 (hf:DataW.trod enc P W 0 (fun _=>true) true fuel ts cs=some x):∃ (v:Value) (ls:List Mb),cs=[v]∧bK W v 33 ls.length (av ls):=by
 rcases Go.Deep.open_slice hts hf with ⟨hcs,_⟩|⟨a',len,cap,m,k,D,Pl,hcs,_,hl,_,hm,_,hel⟩
 ·exact ⟨_,[],hcs,rfl,.inl ⟨rfl,rfl⟩⟩
 ·have hml:len≤m:=by rw [hm];split<;>omega
  have each:∀ i,∃ l:Mb,i<len→bc W (a'.add (i*33)) (au l):=fun i=>by
   by_cases hi:i<len
   ·obtain ⟨cs',hc1,hc2⟩:=hel i (by omega)
    obtain ⟨l,rfl⟩:=fC T hc hce hn hcn ht h0 h1 o0 o1 hct hc2
    refine ⟨l,fun _ j u hj=>?_⟩
    rw [hct] at hc1
    obtain ⟨_,hlen,hall⟩:=World.cells?_some hc1
    have hj33:j<33:=by have:=(Array.getElem?_eq_some_iff.1 hj).1;rw [ak] at this;exact this
    have:=hall j hj33
    rw [this,Array.getElem?_toList];exact hj
   ·exact ⟨a8,fun h9=>absurd h9 hi⟩
  obtain ⟨L,hL⟩:=Classical.axiomOfChoice each
  refine ⟨_,(List.range len).map L,hcs,?_,.inr ⟨a',cap,by simp,by simpa using hl,?_⟩⟩
  ·rw [es]
  ·refine gl _ 33 (by decide) ct _ fun i hi=>?_
   have hi':i<len:=by simpa using hi
   have h9:((List.range len).map L)[i]=L i:=by simp
   rw [h9]
   exact hL i hi'
theorem q6 {cs a b c d:List Value} (hl:cs.length=68) (h0:(cs.drop 0).take 33=a) (h1:(cs.drop 33).take 33=b) (h2:(cs.drop 66).take 1=c) (h3:(cs.drop 67).take 1=d):cs=a++(b++(c++d)):=by
 subst h0;subst h1;subst h2;subst h3
 have e3:(cs.drop 67).take 1=cs.drop 67:=List.take_of_length_le (by rw [List.length_drop];omega)
 have e2:(cs.drop 66).take 1++cs.drop 67=cs.drop 66:=by
  have:=List.take_append_drop 1 (cs.drop 66)
  rwa [List.drop_drop] at this
 have e1:(cs.drop 33).take 33++cs.drop 66=cs.drop 33:=by
  have:=List.take_append_drop 33 (cs.drop 33)
  rwa [List.drop_drop] at this
 rw [e3,e2,e1,List.drop_zero,List.take_append_drop]
theorem zS {H:Type} {enc:TypeId × Value→H} {P:Program} {W:World} {r:Reach} {b0:Nat} {tm ts t tn ti e:TypeId} {g0 g1 g2 g3 f0 f1:Field} {v:Value} {d:DataW H} {ps:List MemPlace} (T:IdTy P ti e) (hc:P.cellsOf ti=32) (hce:P.cellsOf e=1) (hn:P.underlying tn=some (.int .i64)) (hcn:P.cellsOf tn=1)
 (hcs:P.cellsOf ts=1) (hts:P.underlying ts=some (.slice t)) (ht:P.underlying t=some (.struct #[f0,f1])) (h0:f0.type=tn) (h1:f1.type=ti) (o0:f0.offset=0) (o1:f1.offset=1) (hct:P.cellsOf t=33)
 (htm:P.underlying tm=some (.struct #[g0,g1,g2,g3])) (ht0:g0.type=t) (ht1:g1.type=t) (ht2:g2.type=ts) (ht3:g3.type=ts) (ho0:g0.offset=0) (ho1:g1.offset=33) (ho2:g2.offset=66) (ho3:g3.offset=67) (hctm:P.cellsOf tm=68)
 (hval:Value.okWide P W r b0 tm v) (h:DataW.Trod enc P W 0 (fun _=>true) true tm v d ps):∃ (n:Nd) (vs vf:Value),v=.agg (aD n.me n.pr vs vf)∧bK W vs 33 n.sc.length (av n.sc)∧bK W vf 33 n.fg.length (av n.fg):=by
 have hv:∃ cs,v=.agg cs:=by
  unfold Value.okWide at hval
  simp only [htm] at hval
  obtain ⟨cs,h9,_⟩:=hval
  exact ⟨cs,h9⟩
 obtain ⟨cs,rfl⟩:=hv
 obtain ⟨fuel,hf⟩:=h
 obtain ⟨xs,n,hcells,_,hl,hxl,hel⟩:=DataW.trod_struct htm hf
 have hcl:cs.toList.length=68:=by rw [← hctm];simpa [Value.cells] using hl
 have hx4:xs.length=4:=by simpa using hxl
 have e0:=hel 0 g0 rfl
 have e1:=hel 1 g1 rfl
 have e2:=hel 2 g2 rfl
 have e3:=hel 3 g3 rfl
 rw [ht0,ho0,hct,List.getElem?_eq_getElem (by omega)] at e0
 rw [ht1,ho1,hct,List.getElem?_eq_getElem (by omega)] at e1
 rw [ht2,ho2,hcs,List.getElem?_eq_getElem (by omega)] at e2
 rw [ht3,ho3,hcs,List.getElem?_eq_getElem (by omega)] at e3
 obtain ⟨a,ha⟩:=fC T hc hce hn hcn ht h0 h1 o0 o1 hct e0
 obtain ⟨b,hb⟩:=fC T hc hce hn hcn ht h0 h1 o0 o1 hct e1
 obtain ⟨u,ls,hu,hls⟩:=iC T hc hce hn hcn hts ht h0 h1 o0 o1 hct e2
 obtain ⟨u2,ls2,hu2,hls2⟩:=iC T hc hce hn hcn hts ht h0 h1 o0 o1 hct e3
 refine ⟨⟨a,b,ls,ls2⟩,u,u2,?_,hls,hls2⟩
 simp only [Value.cells] at ha hb hu hu2
 have key:cs.toList=(aD a b u u2).toList:=q6 hcl ha hb hu hu2
 rw [Array.toList_inj.1 key]
theorem oY {α:Type} (f:α→Value):∀ l:List α,l.flatMap (fun x=>[f x])=l.map f
 |[]=>rfl
 |x::l=>by rw [List.flatMap_cons,oY f l];rfl
theorem z1 {H:Type} {enc:TypeId × Value→H} {P:Program} {W:World} {r:Reach} {b0:Nat} {t e:TypeId} {v:Value} {d:DataW H} {ps:List MemPlace} (ht:P.underlying t=some (.slice e)) (he:P.underlying e=some (.int .i64)) (hc:P.cellsOf e=1)
 (hval:Value.okWide P W r b0 t v) (h:DataW.Trod enc P W 0 (fun _=>true) true t v d ps):∃ qs:List Int,bK W v 1 qs.length (qs.map (Value.int .i64)):=by
 obtain ⟨a,n,c,rfl⟩:=okWide_slice ht hval
 obtain ⟨fuel,hf⟩:=h
 rcases Go.Deep.open_slice ht hf with ⟨hcs,_⟩|⟨a',len,cap,m,k,D,Pl,hcs,_,hl,_,hm,_,hel⟩
 ·have:Value.slice a n c=.slice none 0 0:=by simpa [Value.cells] using hcs
  exact ⟨[],rfl,.inl ⟨this,rfl⟩⟩
 ·have hv:Value.slice a n c=.slice (some a') len cap:=by simpa [Value.cells] using hcs
  have hml:len≤m:=by rw [hm];split<;>omega
  have each:∀ i,∃ x:Int,i<len→bc W (a'.add (i*1)) #[.int .i64 x]:=fun i=>by
   by_cases hi:i<len
   ·obtain ⟨cs',hc1,hc2⟩:=hel i (by omega)
    obtain ⟨x,hx,_⟩:=DataW.trod_int he hc2
    subst hx
    refine ⟨x,fun _ j u hj=>?_⟩
    rw [hc] at hc1
    obtain ⟨_,hlen,hall⟩:=World.cells?_some hc1
    have hj1:j<1:=(Array.getElem?_eq_some_iff.1 hj).1
    have:=hall j hj1
    rw [this];simpa using hj
   ·exact ⟨0,fun h9=>absurd h9 hi⟩
  obtain ⟨L,hL⟩:=Classical.axiomOfChoice each
  refine ⟨(List.range len).map L,by simp,.inr ⟨a',cap,by rw [hv];simp,by simpa using hl,?_⟩⟩
  have:=gl (fun x:Int=>[Value.int .i64 x]) 1 (by decide) (fun _=>rfl) (w:=W) (p:=a') ((List.range len).map L) fun i hi=>by
   have hi':i<len:=by simpa using hi
   have:=hL i hi'
   simpa using this
  rwa [oY] at this
end Go.Proofs.YthggibfkgofncaaGreat
