/- Nodes: which may be, what hearing, following, dropping and pointing make of them, and that what may be stays such; nodes that come in; no Go in it. -/
import Derived.Test.YtkhepdpfdhdlaaaGreatDoorRg
set_option linter.unusedVariables false
set_option linter.unusedSimpArgs false
set_option linter.unusedSectionVars false
namespace Go.Proofs.YtkhepdpfdhdlaaaGreatDoor
open Go.RowKit
structure Nd where
 me:Mb
 pr:Mb
 sc:List Mb
 fg:List Mb
def Sa:Nd:=⟨bE,bE,[],[]⟩
def aj:Value:=.slice none 0 0
def mA (m p:Mb) (vs vf:Value):List Value:=Dm m++(Dm p++[vs,vf])
def bJ (m p:Mb) (vs vf:Value):Array Value:=(mA m p vs vf).toArray
theorem AM (m p:Mb) (vs vf:Value):(mA m p vs vf).length=68:=by simp [mA,cy]
theorem bN (m p:Mb) (vs vf:Value):(bJ m p vs vf).size=68:=by simp [bJ,AM]
theorem ed {m p:Mb} {vs vf:Value} (h1:vs.oneCell'=true) (h2:vf.oneCell'=true):∀ v∈(bJ m p vs vf).toList,v.oneCell'=true:=λv hv=>by
 have hv:v∈mA m p vs vf:=hv
 unfold mA at hv
 rcases Y4.1 hv with hv|hv
 ·exact l7 m v hv
 ·rcases Y4.1 hv with hv|hv
  ·exact l7 p v hv
  ·simp only [YH,YK,or_false] at hv
   rcases hv with rfl|rfl
   ·exact h1
   ·exact h2
theorem Ew (m p:Mb) (vs vf:Value) (i:Nat):(bJ m p vs vf)[i]? = (mA m p vs vf)[i]? := by simp [bJ]
theorem px (m p:Mb) (vs vf:Value):(bJ m p vs vf)[0]? = some (.int .i64 m.1):=rfl
theorem PW (m p:Mb) (vs vf:Value) (i:Nat):(mA m p vs vf)[33+i]? = (Dm p++[vs,vf])[i]? := by
 unfold mA
 rw [Y2 (by rw [cy];omega),cy,Nat.add_sub_cancel_left]
theorem sI (m p:Mb) (vs vf:Value) (i:Nat):(mA m p vs vf)[66+i]? = [vs,vf][i]? := by
 rw [show 66+i=33+(33+i) by omega,PW,Y2 (by rw [cy];omega),cy,Nat.add_sub_cancel_left]
theorem mx (m p:Mb) (vs vf:Value):(bJ m p vs vf)[66]? = some vs:=by rw [Ew];exact sI m p vs vf 0
theorem pw (m p:Mb) (vs vf:Value):(bJ m p vs vf)[67]? = some vf:=by rw [Ew];exact sI m p vs vf 1
theorem pb (l:List Value) (o n:Nat) (D:List Value) (h:(l.drop o).take n=D):l.toArray.extract o (o+n)=D.toArray:=by
 apply Array.ext'
 rw [Array.toList_extract,List.extract_eq_take_drop,Nat.add_sub_cancel_left]
 exact h
theorem fY (m p:Mb) (vs vf:Value):(bJ m p vs vf).extract 0 (0+33)=az m:=pb _ _ _ _ (by
 rw [List.drop_zero];unfold mA;rw [List.take_left' (cy m)])
theorem HB (m p:Mb) (vs vf:Value) (i:Nat) (h:i<=33):(mA m p vs vf).drop (33+i)=(Dm p).drop i++[vs,vf]:=by
 unfold mA
 rw [← List.drop_drop,List.drop_left' (cy m),List.drop_append_of_le_length (by rw [cy];exact h)]
theorem xY (m p:Mb) (vs vf:Value):(bJ m p vs vf).extract 33 (33+33)=az p:=pb _ _ _ _ (by
 rw [HB m p vs vf 0 (by omega),List.drop_zero,List.take_left' (cy p)])
theorem Hf (m:Mb):(Dm m).drop 1=(aA m.2).toList:=rfl
theorem wZ (m p:Mb) (vs vf:Value):(bJ m p vs vf).extract 1 (1+32)=aA m.2:=pb _ _ _ (aA m.2).toList (by
 unfold mA
 rw [List.drop_append_of_le_length (by rw [cy];omega),Hf,List.take_left' (by rw [YD,aF])])
theorem GC (m p:Mb) (vs vf v:Value):(bJ m p vs vf).setIfInBounds 66 v=bJ m p v vf:=by
 apply Array.ext'
 rw [Array.toList_setIfInBounds]
 show (mA m p vs vf).set 66 v=mA m p v vf
 unfold mA
 rw [List.set_append_right _ _ (by rw [cy];omega),List.set_append_right _ _ (by rw [cy,cy];omega),cy,cy]
 rfl
theorem El (m p:Mb) (vs vf v:Value):(bJ m p vs vf).setIfInBounds 67 v=bJ m p vs v:=by
 apply Array.ext'
 rw [Array.toList_setIfInBounds]
 show (mA m p vs vf).set 67 v=mA m p vs v
 unfold mA
 rw [List.set_append_right _ _ (by rw [cy];omega),List.set_append_right _ _ (by rw [cy,cy];omega),cy,cy]
 rfl
theorem bf {w:World} {v:Value} {sz n:Nat} {xs:List Value} (h:bp w v sz n xs):v.oneCell'=true:=by
 obtain ⟨a,c,rfl⟩:=h.len
 rfl
def UP:List (List Value):=[.int .i64 0::List.replicate 32 (.int .u8 0),.int .i64 0::List.replicate 32 (.int .u8 0),[.slice none 0 0],[.slice none 0 0]]
theorem wR:Dm bE=Value.int .i64 0::List.replicate 32 (Value.int .u8 0):=by
 have:=Yu Array.toList tU
 exact this
theorem Ls:bJ bE bE aj aj=UP.flatten.toArray:=by
 unfold bJ mA
 rw [wR];rfl
section
variable {P:Program} {ρ:Operand->Value} {d:Option Tmp} {ty:TypeId} {pos:String} {af:Array Edge} {g:Option (Nat × Bool)} {x y z:Operand} {t:TypeId}
theorem ua (S:Stt P t UP):aP P ⟨d,.build t #[],ty,pos,af,g⟩ ρ (.agg (bJ bE bE aj aj)):=by
 have:=aU (P:=P) (ρ:=ρ) (d:=d) (ty:=ty) (pos:=pos) (af:=af) (g:=g) (parts:=#[]) S [] (by simp) (λi v hm=>by simp at hm) (D:=mA bE bE aj aj) (by unfold mA;rw [wR];rfl)
 exact this
theorem t6 {m p:Mb} {v:Value} (S:Stt P t UP) (hv:v.cells.size=1) (hc:v.cells.toList=[v]) (hx:ρ x=.agg (az m)) (hy:ρ y=.agg (az p)) (hz:ρ z=v):aP P ⟨d,.build t #[(0,x),(1,y),(2,z)],ty,pos,af,g⟩ ρ (.agg (bJ m p v aj)):=by
 have:=aU (P:=P) (ρ:=ρ) (d:=d) (ty:=ty) (pos:=pos) (af:=af) (g:=g) (parts:=#[(0,x),(1,y),(2,z)]) S [(0,.agg (az m)),(1,.agg (az p)),(2,v)] (by simp [hx,hy,hz]) (λi u hm=>by
  simp only [YH,Zn,YK,or_false] at hm
  rcases hm with ⟨rfl,rfl⟩|⟨rfl,rfl⟩|⟨rfl,rfl⟩
  ·exact ⟨_,rfl,by show (az m).size=_;rw [am];rfl⟩
  ·exact ⟨_,rfl,by show (az p).size=_;rw [am];rfl⟩
  ·exact ⟨_,rfl,hv⟩) (D:=mA m p v aj) (by
   show (az m).toList++((az p).toList++(v.cells.toList++([aj]++[])))=_
   rw [hc];rfl)
 exact this
end
def fy (m:Mb):Bool:=decide (0<=m.1) && decide (m.1<16)
theorem mv {m:Mb}:fy m=true↔0<=m.1/\m.1<16:=by unfold fy;rw [Yw,YB,YB]
theorem SD {m:Mb} (h:decide (0<=m.1)=false):fy m=false:=by unfold fy;rw [h];rfl
theorem Sp {m:Mb} (h:decide (0<=m.1)=true):fy m=decide (m.1<16):=by unfold fy;rw [h];rfl
def qE (l:List Mb) (no:Int):Bool:=l.any λx=>decide (x.1=no)
theorem J0 {l:List Mb} {no:Int}:qE l no=true↔∃ x∈l,x.1=no:=by
 unfold qE;rw [Zt]
 exact ⟨λ⟨x,h,e⟩=>⟨x,h,Yq e⟩,λ⟨x,h,e⟩=>⟨x,h,Yt e⟩⟩
theorem BJ {l:List Mb} {no:Int}:qE l no=false↔∀ x∈l,x.1≠no:=by
 rw [← Bool.not_eq_true,J0]
 exact ⟨λh x hx e=>h ⟨x,hx,e⟩,λh ⟨x,hx,e⟩=>h x hx e⟩
def mg (l:List Mb) (no:Int) (d:Nat):Bool := !fy (l.getD d bE) || (decide ((l.getD d bE).1=no) || qE (l.take d) (l.getD d bE).1)
def pV (l:List Mb) (no:Int):Bool:=(List.range l.length).all λd => !mg l no d
structure Oth (l:List Mb) (no:Int):Prop where
 may:∀ x∈l,0<=x.1/\x.1<16
 ne:∀ x∈l,x.1≠no
 nd:l.Pairwise λa b=>a.1≠b.1
theorem mr {l:List Mb} {no:Int} {d:Nat}:mg l no d=false↔fy (l.getD d bE)=true/\(l.getD d bE).1≠no/\∀ x∈l.take d,x.1≠(l.getD d bE).1:=by
 unfold mg
 rw [Bool.or_eq_false_iff,Bool.or_eq_false_iff,Bool.not_eq_false',decide_eq_false_iff_not,BJ]
theorem OL {l:List Mb} {no:Int} {d:Nat} (h:fy (l.getD d bE)=false):mg l no d=true:=by unfold mg;rw [h];rfl
theorem OT {l:List Mb} {no:Int} {d:Nat} (h:decide ((l.getD d bE).1=no)=true):mg l no d=true:=by unfold mg;rw [h];simp
theorem H7 {l:List Mb} {no:Int} {d:Nat} (h:fy (l.getD d bE)=true) (h1:decide ((l.getD d bE).1=no)=false):mg l no d=qE (l.take d) (l.getD d bE).1:=by unfold mg;rw [h,h1];rfl
theorem sT {l:List Mb} {no:Int}:pV l no=true↔∀ d,d<l.length->mg l no d=false:=by
 unfold pV;rw [Yx]
 exact ⟨λh d hd=>by have:=h d (YI.2 hd);simpa using this,λh d hd=>by rw [h d (YI.1 hd)];rfl⟩
theorem JG {l:List Mb} {no:Int}:pV l no=true↔Oth l no:=by
 rw [sT]
 constructor
 ·intro h
  refine ⟨λx hx=>?_,λx hx=>?_,?_⟩
  ·obtain ⟨j,hj,rfl⟩:=rr hx
   exact mv.1 (mr.1 (h j hj)).1
  ·obtain ⟨j,hj,rfl⟩:=rr hx
   exact(mr.1 (h j hj)).2.1
  ·rw [List.pairwise_iff_getElem]
   intro i j hi hj hij
   have h9:=(mr.1 (h j hj)).2.2 l[i] (List.mem_iff_getElem.2 ⟨i,by rw [Y5];omega,List.getElem_take⟩)
   rwa [← Fe hj] at h9
 ·rintro ⟨h1,h2,h3⟩ d hd
  refine mr.2 ⟨mv.2 (h1 _ (mC hd)),h2 _ (mC hd),λx hx=>?_⟩
  obtain ⟨i,hi,rfl⟩:=List.mem_iff_getElem.1 hx
  rw [Y5] at hi
  rw [List.getElem_take,← Fe hd]
  exact List.pairwise_iff_getElem.1 h3 i d (by omega) hd (by omega)
theorem qj {l:List Mb} {no:Int} {d:Nat} (hd:d<l.length) (h:mg l no d=true):pV l no=false:=by
 rw [← Bool.not_eq_true,sT];intro h9;rw [h9 d hd] at h;cases h
theorem EJ {l:List Mb} {no:Int} {k:Nat} (hk:l.length<=k) (h:∀ j,j<k->mg l no j=false):pV l no=true:=sT.2 λd hd=>h d (by omega)
def oS (p:Mb) (no:Int):Bool:=decide (p=fc) || (fy p && decide (p.1≠no))
def nR (l:List Mb) (m:Mb):Bool:=decide (l=[m]) || (decide (1<=l.length) && (decide (l.length<=4) && pV l m.1))
def xu (l:List Mb) (no:Int):Bool:=decide (l.length<=16) && pV l no
def dU (n:Nd):Bool:=fy n.me && (oS n.pr n.me.1 && (nR n.sc n.me && xu n.fg n.me.1))
theorem Ru {p:Mb} {no:Int} (h:decide (p=fc)=true):oS p no=true:=by unfold oS;rw [h];rfl
theorem TG {p:Mb} {no:Int} (h:decide (p=fc)=false) (h1:fy p=false):oS p no=false:=by unfold oS;rw [h,h1];rfl
theorem Mc {p:Mb} {no:Int} (h:decide (p=fc)=false) (h1:fy p=true):oS p no=decide (p.1≠no):=by unfold oS;rw [h,h1];rfl
theorem vU {l:List Mb} {m:Mb}:l=[m]↔l.length=1/\l.getD 0 bE=m:=by
 constructor
 ·rintro rfl;exact ⟨rfl,rfl⟩
 ·rintro ⟨h1,h2⟩
  obtain ⟨x,rfl⟩:=List.length_eq_one_iff.1 h1
  have h2:x=m:=h2
  rw [h2]
theorem Ug {l:List Mb} {m:Mb} (h:decide (l.length=1)=true) (h1:decide (l.getD 0 bE=m)=true):nR l m=true:=by
 unfold nR;rw [Yt (vU.2 ⟨Yq h,Yq h1⟩)];rfl
theorem Fk {l:List Mb} {m:Mb} (h:¬ (l.length=1/\l.getD 0 bE=m)):nR l m=(decide (1<=l.length) && (decide (l.length<=4) && pV l m.1)):=by
 unfold nR;rw [Ys λe=>h (vU.1 e)];rfl
theorem Ma {l:List Mb} {m:Mb} (h:¬ (l.length=1/\l.getD 0 bE=m)) (h0:decide (1<=l.length)=false):nR l m=false:=by rw [Fk h,h0];rfl
theorem MG {l:List Mb} {m:Mb} (h:¬ (l.length=1/\l.getD 0 bE=m)) (h0:decide (l.length<=4)=false):nR l m=false:=by rw [Fk h,h0,Bool.false_and,Bool.and_false]
theorem Nu {l:List Mb} {m:Mb} (h:¬ (l.length=1/\l.getD 0 bE=m)) (h0:decide (1<=l.length)=true) (h1:decide (l.length<=4)=true):nR l m=pV l m.1:=by rw [Fk h,h0,h1];rfl
theorem SM {l:List Mb} {no:Int} (h:decide (l.length<=16)=false):xu l no=false:=by unfold xu;rw [h];rfl
theorem So {l:List Mb} {no:Int} (h:decide (l.length<=16)=true):xu l no=pV l no:=by unfold xu;rw [h];rfl
theorem Kl {n:Nd} (h:fy n.me=false):dU n=false:=by unfold dU;rw [h];rfl
theorem Kq {n:Nd} (h:oS n.pr n.me.1=false):dU n=false:=by unfold dU;rw [h,Bool.false_and,Bool.and_false]
theorem Jg {n:Nd} (h:nR n.sc n.me=false):dU n=false:=by unfold dU;rw [h,Bool.false_and,Bool.and_false,Bool.and_false]
theorem IF {n:Nd} (h:fy n.me=true) (h1:oS n.pr n.me.1=true) (h2:nR n.sc n.me=true):dU n=xu n.fg n.me.1:=by unfold dU;rw [h,h1,h2];rfl
structure RN (n:Nd):Prop where
 me:0<=n.me.1/\n.me.1<16
 pr:n.pr=fc∨((0<=n.pr.1/\n.pr.1<16)/\n.pr.1≠n.me.1)
 sc:n.sc=[n.me]∨(1<=n.sc.length/\n.sc.length<=4/\Oth n.sc n.me.1)
 fg:n.fg.length<=16/\Oth n.fg n.me.1
theorem HK {n:Nd}:dU n=true↔RN n:=by
 unfold dU oS nR xu
 simp only [Yw,Bool.or_eq_true,YB,mv,JG]
 exact ⟨λ⟨h1,h2,h3,h4⟩=>⟨h1,h2,h3,h4⟩,λ⟨h1,h2,h3,h4⟩=>⟨h1,h2,h3,h4⟩⟩
theorem RN.len {n:Nd} (h:RN n):1<=n.sc.length/\n.sc.length<=4:=by
 rcases h.sc with h|h
 ·rw [h];exact ⟨YM _,by show 1<=4;omega⟩
 ·exact ⟨h.1,h.2.1⟩
def Xf (n:Nd) (x:Id):Bool:=L4 x n.me.2 (n.sc.getD 0 bE).2
def XN (n:Nd) (x:Id):Mb:=bif decide (XA n.me.2 x (n.fg++n.sc)=0) then X5 n.me.2 x (n.fg++n.sc) else n.sc.getD 0 bE
def X7 (n:Nd) (x:Id):Mb:=bif dU n then (bif Xf n x then n.sc.getD 0 bE else XN n x) else bE
def XW (n:Nd) (x:Id):Bool:=dU n && Xf n x
def r5 (n:Nd) (x:Mb):Mb:=bif decide (x.1≠n.me.1) && (decide (x.2≠n.me.2) && (decide (n.pr=fc) || L4 x.2 n.pr.2 n.me.2)) then x else n.pr
theorem SY {n:Nd} {x:Mb} (h:decide (x.1≠n.me.1)=false):r5 n x=n.pr:=by unfold r5;rw [h];rfl
def UR (me:Mb) (s:Nd):Bool := !decide (s.pr=fc) && (!decide (s.pr.1=me.1) && (!decide (s.pr.2=me.2) && (!decide (s.pr.2=s.me.2) && L4 s.pr.2 me.2 s.me.2)))
def SZ (me:Mb) (s:Nd):Mb:=bif UR me s then s.pr else s.me
def Ct (no:Int) (l:List Mb):List Mb:=l.takeWhile λx=>decide (x.1≠no)
def iv (acc:List Mb) (x:Mb):List Mb:=bif decide (acc.length<4) && !qE acc x.1 then acc++[x] else acc
def IP (l:List Mb):List Mb:=l.foldl iv []
def uj (l:List Mb) (me:Mb):List Mb:=bif decide (l.length=0) then [me] else l
def CV (n s:Nd):List Mb:=SZ n.me s::s.me::s.sc
def Li (n s:Nd):List Mb:=uj (IP (Ct n.me.1 (CV n s))) n.me
theorem EI {l:List Mb} {me:Mb} (h:l.length=0):uj l me=[me]:=by unfold uj;rw [Yt h];rfl
theorem Bx {l:List Mb} {me:Mb} (h:¬ l.length=0):uj l me=l:=by unfold uj;rw [Ys h];rfl
theorem NP {acc:List Mb} {x:Mb} (h:¬ acc.length<4):iv acc x=acc:=by unfold iv;rw [Ys h];rfl
theorem JP (acc:List Mb) (x:Mb):(iv acc x).length<=acc.length+1:=by
 unfold iv
 cases decide (acc.length<4) && !qE acc x.1 with
 |true=>show (acc++[x]).length<=_;rw [Yy];exact YM _
 |false=>exact Nat.le_succ _
theorem TU {acc:List Mb} (x:Mb) (h:acc.length<=4):(iv acc x).length<=4:=by
 by_cases h4:acc.length<4
 ·have:=JP acc x;omega
 ·rw [NP h4];exact h
theorem EF:∀ (l acc:List Mb),acc.length<=4->(l.foldl iv acc).length<=4
 |[],_,h=>h
 |x::l,acc,h=>EF l _ (TU x h)
theorem RM (l:List Mb):(IP l).length<=4:=EF l [] (YO _)
theorem QF {acc:List Mb} {x y:Mb} (h:y∈iv acc x):y∈acc∨y=x:=by
 unfold iv at h
 cases hb:decide (acc.length<4) && !qE acc x.1 with
 |true=>rw [hb] at h;rcases List.mem_append.1 h with h|h
        ·exact .inl h
        ·exact .inr (YF.1 h)
 |false=>rw [hb] at h;exact .inl h
theorem Oh {acc:List Mb} (x:Mb) (h:acc.Pairwise λa b=>a.1≠b.1):(iv acc x).Pairwise λa b=>a.1≠b.1:=by
 unfold iv
 cases hb:decide (acc.length<4) && !qE acc x.1 with
 |false=>exact h
 |true=>
  rw [Yw] at hb
  have h2:=BJ.1 (by simpa using hb.2)
  show (acc++[x]).Pairwise _
  rw [List.pairwise_append]
  exact ⟨h,List.pairwise_singleton _ _,λa ha b hb9=>by rw [YF.1 hb9];exact h2 a ha⟩
theorem uJ:∀ (l acc:List Mb) {y:Mb},y∈l.foldl iv acc->y∈acc∨y∈l
 |[],_,_,h=>.inl h
 |x::l,acc,y,h=>by
  rcases uJ l _ h with h|h
  ·rcases QF h with h|h
   ·exact .inl h
   ·exact .inr (by rw [h];exact YG)
  ·exact .inr (YQ _ h)
theorem BS:∀ (l acc:List Mb),(acc.Pairwise λa b=>a.1≠b.1)->((l.foldl iv acc).Pairwise λa b=>a.1≠b.1)
 |[],_,h=>h
 |x::l,_,h=>BS l _ (Oh x h)
theorem uF {no:Int} {l:List Mb} {x:Mb} (h:x∈Ct no l):x∈l/\x.1≠no:=by
 refine ⟨(List.takeWhile_sublist _).subset h,?_⟩
 unfold Ct at h
 have:=Yx.1 (List.all_takeWhile (p:=λx:Mb=>decide (x.1≠no)) (l:=l)) x h
 exact Yq this
def ia (nos:List Int) (x:Mb):Bool:=nos.any λno=>decide (no=x.1)
theorem vy {nos:List Int} {x:Mb}:ia nos x=true↔x.1∈nos:=by
 unfold ia;rw [Zt]
 exact ⟨λ⟨k,h,e⟩=>by rw [← Yq e];exact h,λh=>⟨x.1,h,Yt rfl⟩⟩
def ep (l:List Mb) (nos:List Int):List Mb:=l.filter λx => !ia nos x
def Dp (n:Nd) (nos:List Int):Mb:=bif ia nos n.pr then fc else n.pr
theorem S8 {n:Nd} {nos:List Int} (h:ia nos n.pr=true):Dp n nos=fc:=by unfold Dp;rw [h];rfl
theorem Tk {n:Nd} {nos:List Int} (h:ia nos n.pr=false):Dp n nos=n.pr:=by unfold Dp;rw [h];rfl
def xb (nos:List Int) (no:Int) (x:Mb):Bool:=nos.any λk=>decide (k=x.1) && decide (k≠no)
def gy (l:List Mb) (nos:List Int) (no:Int):List Mb:=l.filter λx => !xb nos no x
theorem rV {nos:List Int} {no:Int} {x:Mb}:xb nos no x=true↔x.1∈nos/\x.1≠no:=by
 unfold xb;rw [Zt]
 constructor
 ·rintro ⟨k,h,e⟩
  rw [Yw,YB,YB] at e
  obtain ⟨rfl,e2⟩:=e
  exact ⟨h,e2⟩
 ·rintro ⟨h,e⟩
  exact ⟨x.1,h,by rw [Yt rfl,Yt e];rfl⟩
theorem FQ {nos:List Int} {no:Int} {x:Mb} (h:x.1≠no):xb nos no x=ia nos x:=by
 rw [Zv,rV,vy];exact and_iff_left h
theorem BY {nos:List Int} {x:Mb}:xb nos x.1 x=false:=by
 rw [← Bool.not_eq_true,rV];exact λh=>h.2 rfl
theorem oT {l:List Mb} {nos:List Int} {no:Int} (h:∀ x∈l,x.1≠no):gy l nos no=ep l nos:=List.filter_congr λx hx=>by rw [FQ (h x hx)]
theorem II {n:Nd} (h:RN n) (nos:List Int):uj (gy n.sc nos n.me.1) n.me=uj (ep n.sc nos) n.me:=by
 rcases h.sc with h9|h9
 ·rw [h9]
  have h1:gy [n.me] nos n.me.1=[n.me]:=by
   unfold gy;rw [List.filter_cons,BY];rfl
  rw [h1,Bx (by show ¬ (1=0);omega)]
  cases hb:ia nos n.me with
  |true=>rw [show ep [n.me] nos=[] by unfold ep;rw [List.filter_cons,hb];rfl];rfl
  |false=>rw [show ep [n.me] nos=[n.me] by unfold ep;rw [List.filter_cons,hb];rfl];rfl
 ·rw [oT h9.2.2.ne]
theorem Iv {n:Nd} (h:RN n) (nos:List Int):gy n.fg nos n.me.1=ep n.fg nos:=oT h.fg.2.ne
def Ns (n:Nd) (nos:List Int):Mb:=bif !decide (n.pr=fc) && decide ((gy [n.pr] nos n.me.1).length=0) then fc else n.pr
theorem KD {n:Nd} (h:RN n) (nos:List Int):Ns n nos=Dp n nos:=by
 unfold Ns Dp
 rcases h.pr with h9|h9
 ·rw [h9,Yt rfl]
  cases ia nos fc<;>rfl
 ·have hne:decide (n.pr=fc)=false:=Ys λe=>by rw [e] at h9;exact ZF h9.1.1 (by decide)
  rw [hne]
  have h1:gy [n.pr] nos n.me.1=ep [n.pr] nos:=oT λx hx=>by rw [YF.1 hx];exact h9.2
  rw [h1]
  unfold ep
  rw [List.filter_cons]
  cases ia nos n.pr<;>rfl
theorem Oth.filter {l:List Mb} {no:Int} (h:Oth l no) (p:Mb->Bool):Oth (l.filter p) no:=
 ⟨λx hx=>h.may x ((YZ.1 hx).1),λx hx=>h.ne x ((YZ.1 hx).1),h.nd.filter p⟩
theorem KA {n:Nd} {x:Mb} (h:RN n) (hx:fy x=true):RN {n with pr:=r5 n x}:=by
 refine ⟨h.me,?_,h.sc,h.fg⟩
 show r5 n x=fc∨_
 cases h0:decide (x.1≠n.me.1) with
 |false=>show r5 n x=fc∨((0<=(r5 n x).1/\(r5 n x).1<16)/\(r5 n x).1≠n.me.1);rw [SY h0];exact h.pr
 |true=>
  show r5 n x=fc∨((0<=(r5 n x).1/\(r5 n x).1<16)/\(r5 n x).1≠n.me.1)
  have hc:r5 n x=x∨r5 n x=n.pr:=by
   unfold r5
   cases decide (x.1≠n.me.1) && (decide (x.2≠n.me.2) && (decide (n.pr=fc) || L4 x.2 n.pr.2 n.me.2)) with
   |true=>exact .inl rfl
   |false=>exact .inr rfl
  rcases hc with e|e
  ·rw [e];exact .inr ⟨mv.1 hx,Yq h0⟩
  ·rw [e];exact h.pr
theorem PG {n s:Nd} (hs:RN s):0<=(SZ n.me s).1/\(SZ n.me s).1<16:=by
 unfold SZ
 cases hb:UR n.me s with
 |false=>exact hs.me
 |true=>
  show 0<=s.pr.1/\s.pr.1<16
  rcases hs.pr with h|h
  ·unfold UR at hb;rw [h,Yt rfl] at hb;cases hb
  ·exact h.1
theorem Jm {n s:Nd} (hs:RN s) {x:Mb} (h:x∈CV n s):0<=x.1/\x.1<16:=by
 unfold CV at h
 rcases YH.1 h with rfl|h
 ·exact PG hs
 ·rcases YH.1 h with rfl|h
  ·exact hs.me
  ·rcases hs.sc with h9|h9
   ·rw [h9,YF] at h;rw [h];exact hs.me
   ·exact h9.2.2.may x h
theorem Jp {n s:Nd} (hs:RN s):Oth (IP (Ct n.me.1 (CV n s))) n.me.1:=by
 have hin:∀ {y:Mb},y∈IP (Ct n.me.1 (CV n s))->y∈Ct n.me.1 (CV n s):=λh=>by
  rcases uJ _ [] h with h|h
  ·cases h
  ·exact h
 exact ⟨λx hx=>Jm hs (uF (hin hx)).1,λx hx=>(uF (hin hx)).2,BS _ [] List.Pairwise.nil⟩
theorem Ap {n:Nd} {l:List Mb} (h:Oth l n.me.1) (h4:l.length<=4):uj l n.me=[n.me]∨(1<=(uj l n.me).length/\(uj l n.me).length<=4/\Oth (uj l n.me) n.me.1):=by
 by_cases h0:l.length=0
 ·exact .inl (EI h0)
 ·rw [Bx h0];exact .inr ⟨by omega,h4,h⟩
theorem Jf {n s:Nd} (h:RN n) (hs:RN s):RN {n with sc:=Li n s}:=⟨h.me,h.pr,Ap (Jp hs) (RM _),h.fg⟩
theorem AS (l:List Mb) (nos:List Int):(ep l nos).length<=l.length:=Y7 _ _
theorem KR {n:Nd} (h:RN n) (nos:List Int):RN ⟨n.me,Dp n nos,uj (ep n.sc nos) n.me,ep n.fg nos⟩:=by
 refine ⟨h.me,?_,?_,Zk (AS _ _) h.fg.1,h.fg.2.filter _⟩
 ·show Dp n nos=fc∨((0<=(Dp n nos).1/\(Dp n nos).1<16)/\(Dp n nos).1≠n.me.1)
  cases hb:ia nos n.pr with
  |true=>exact .inl (S8 hb)
  |false=>rw [Tk hb];exact h.pr
 ·show uj (ep n.sc nos) n.me=[n.me]∨_
  rcases h.sc with h9|h9
  ·rw [h9]
   cases hb:ia nos n.me with
   |true=>rw [show ep [n.me] nos=[] by unfold ep;rw [List.filter_cons,hb];rfl];exact .inl rfl
   |false=>rw [show ep [n.me] nos=[n.me] by unfold ep;rw [List.filter_cons,hb];rfl];exact .inl rfl
  ·exact Ap (h9.2.2.filter _) (Zk (AS _ _) h9.2.1)
theorem St.add {w0 w w':World} {B C:List Own} (s:St w0 B w) (t:St w C w'):St w0 (C++B) w':=by
 refine s.join t.ext C (λp hp=>?_) (λp hp k hk=>t.own p hp k hk) t.nd
 have h:=t.has p hp
 cases p with
 |blk b o=>exact h
 |sl v e sz n xs=>exact cq.low h s.ext.le
 |grp ks S=>exact h
def JF (w:World) (M:TypeId) (n:Nd) (k:Int):c8:=λv w'=>∃ vs vf,v=.tuple #[.agg (bJ n.me n.pr vs vf),.int .i64 k]/\St w [.sl vs M 33 n.sc.length (aw n.sc),.sl vf M 33 n.fg.length (aw n.fg)] w'
theorem Qm {w w':World} {M:TypeId} {B:List Own} {n:Nd} {k q:Int} (s:St w B w') (hn:n=Sa) (hk:k=q):JF w M n k (.tuple #[.agg (bJ bE bE aj aj),.int .i64 q]) w':=by
 subst hn;subst hk
 exact ⟨aj,aj,rfl,((s.pick [] (YL _)).nilSl M 33).nilSl M 33⟩
theorem NR {w w':World} {M:TypeId} {n:Nd} {a p:Mb} {l f:List Mb} {vs vf:Value} {k q:Int} (hn:n=⟨a,p,l,f⟩) (hk:k=q) (h:St w [.sl vs M 33 l.length (aw l),.sl vf M 33 f.length (aw f)] w'):JF w M n k (.tuple #[.agg (bJ a p vs vf),.int .i64 q]) w':=by
 subst hn;subst hk
 exact ⟨vs,vf,rfl,h⟩
theorem r7 (ls:List (List Mb)) (k:Nat) (h:k<ls.length):(ls.take (k+1)).flatten=(ls.take k).flatten++ls.getD k []:=by
 rw [List.take_succ_eq_append_getElem h,List.flatten_append,YR,Yz h];simp
theorem oQ (ls:List (List Mb)) (k:Nat) (h:k<ls.length):(ls.take k).flatten.length+(ls.getD k []).length=(ls.take (k+1)).flatten.length:=by
 rw [r7 ls k h,Yy]
theorem zA (ls:List (List Mb)) (k:Nat) (h:k<ls.length):aw (ls.take k).flatten++aw (ls.getD k [])=aw (ls.take (k+1)).flatten:=by
 rw [r7 ls k h,fT]
theorem Bd (ls:List (List Mb)) (k:Nat):(ls.take k).flatten.length<=ls.flatten.length:=by
 have:=Yu (λx=>x.flatten.length) (YS k ls)
 simp only [List.flatten_append,Yy] at this
 omega
theorem wX {w:World} {base:Nat} {e:TypeId} {v:Value} {ls:List (List Mb)} {i:Nat} (hi:ls.length<=i) (h:cq w base e 33 v (ls.take i).flatten.length (aw (ls.take i).flatten)):cq w base e 33 v ls.flatten.length (aw ls.flatten):=by
 rwa [YU hi] at h
theorem zm {w:World} {a:Option Addr} {n c:Nat} {l:List Mb} (ha:a.isNone=true) (h:bp w (.slice a n c) 33 l.length (aw l)):l=[]:=by
 cases a with
 |some p=>cases ha
 |none=>
  rcases h.2 with ⟨h1,h2⟩|⟨p,cap,h1,_⟩
  ·exact List.eq_nil_of_length_eq_zero h2
  ·cases h1
section
variable {P:Program} {ρ:Operand->Value} {d:Option Tmp} {ty:TypeId} {pos:String} {af:Array Edge} {g:Option (Nat × Bool)} {x y z:Operand} {t:TypeId}
end
def SV (m:Mb):Nd:=bif fy m then ⟨m,fc,[m],[]⟩ else Sa
def Rv (m:Mb):Int:=bif fy m then 0 else 1
theorem xH {m:Mb} (h:fy m=false):SV m=Sa/\Rv m=1:=by unfold SV Rv;rw [h];exact ⟨rfl,rfl⟩
theorem wT {m:Mb} (h:fy m=true):SV m=⟨m,fc,[m],[]⟩/\Rv m=0:=by unfold SV Rv;rw [h];exact ⟨rfl,rfl⟩
theorem KT {w w':World} {M:TypeId} {n:Nd} {a p:Mb} {l:List Mb} {vs:Value} {k q:Int} (hn:n=⟨a,p,l,[]⟩) (hk:k=q) (h:St w [.sl vs M 33 l.length (aw l)] w'):JF w M n k (.tuple #[.agg (bJ a p vs aj),.int .i64 q]) w':=
 NR hn hk ((h.nilSl M 33).perm (ZC _ _ _))
theorem iD {w:World} {v:Value} {sz n:Nat} {xs:List Value} (h:bp w v sz n xs):v.cells.size=1:=by obtain ⟨a,c,rfl⟩:=h.len;rfl
theorem gK {w:World} {v:Value} {sz n:Nat} {xs:List Value} (h:bp w v sz n xs):v.cells.toList=[v]:=by obtain ⟨a,c,rfl⟩:=h.len;rfl
section
variable {P:Program} {a:Act} {w w0:World} {N:Nat} {L:List (Nat × Value)} {B:List Own} {fn:Func} {T:c8}
end
structure FldT (P:Program) (t:TypeId) (f off:Nat) (tf:TypeId):Prop where
 has:∃ fields fd,P.underlying t=some (.struct fields)/\fields[f]? = some fd/\fd.type=tf/\fd.offset=off
def Tb (w:World) (M:TypeId) (a p:Mb) (l:List Mb) (vf:Value):c8:=λv w'=>∃ vo,v=.agg (bJ a p vo vf)/\cq w' w.heap.size M 33 vo l.length (aw l)
def Xa (w:World) (M:TypeId) (a p:Mb) (s f:List Mb):c8:=λv w'=>∃ vs vf,v=.agg (bJ a p vs vf)/\St w [.sl vs M 33 s.length (aw s),.sl vf M 33 f.length (aw f)] w'
def PF (a p:Mb) (l:List Mb) (vf:Value):c8:=λv w=>∃ vo,v=.agg (bJ a p vo vf)/\bp w vo 33 l.length (aw l)
theorem PF.mono (a p:Mb) (l:List Mb) (vf:Value):nT (PF a p l vf):=λ_ _ _ ⟨vo,h1,h2⟩ hE=>⟨vo,h1,h2.keep hE⟩
theorem Tb.d {w w':World} {M:TypeId} {a p:Mb} {l:List Mb} {vf v:Value} (h:Tb w M a p l vf v w'):PF a p l vf v w':=by obtain ⟨vo,h1,h2⟩:=h;exact ⟨vo,h1,bp.of_own h2⟩
def VJ (a p:Mb) (s f:List Mb):c8:=λv w=>∃ vs vf,v=.agg (bJ a p vs vf)/\bp w vs 33 s.length (aw s)/\bp w vf 33 f.length (aw f)
theorem VJ.mono (a p:Mb) (s f:List Mb):nT (VJ a p s f):=λ_ _ _ ⟨vs,vf,h1,h2,h3⟩ hE=>⟨vs,vf,h1,h2.keep hE,h3.keep hE⟩
theorem Xa.d {w w':World} {M:TypeId} {a p:Mb} {s f:List Mb} {v:Value} (h:Xa w M a p s f v w'):VJ a p s f v w':=by
 obtain ⟨vs,vf,h1,h2⟩:=h
 exact ⟨vs,vf,h1,bp.of_own (h2.getSl 0 rfl),bp.of_own (h2.getSl 1 rfl)⟩
abbrev N3:=Nd × Value × Value
def z3:N3:=(Sa,aj,aj)
def yX (x:N3):List Value:=mA x.1.me x.1.pr x.2.1 x.2.2
def aK (l:List N3):List Value:=l.flatMap yX
theorem lM (x:N3):(yX x).length=68:=AM _ _ _ _
theorem gz (l:List N3) (j:Nat) (hj:j<l.length):(((aK l).drop (j*68)).take 68).toArray=bJ (l.getD j z3).1.me (l.getD j z3).1.pr (l.getD j z3).2.1 (l.getD j z3).2.2:=by
 unfold aK
 rw [dS _ 68 lM l j hj,YR,Yz hj];rfl
def BT (w:World) (x:N3):Prop:=bp w x.2.1 33 x.1.sc.length (aw x.1.sc)/\bp w x.2.2 33 x.1.fg.length (aw x.1.fg)
end Go.Proofs.YtkhepdpfdhdlaaaGreatDoor
namespace Go.Proofs.YtkhepdpfdhdlaaaGreatDoor
open Go.RowKit Go.ChangeShapes Go.WideShapes Go.ChangeAt
theorem qX {H:Type} {enc:TypeId × Value->H} {P:Program} {W:World} {ts t tn ti e:TypeId} {f0 f1:Field} {fuel:Nat} {cs:List Value} {x:DataW H × List MemPlace} (T:IdTy P ti e) (hc:P.cellsOf ti=32) (hce:P.cellsOf e=1) (hn:P.underlying tn=some (.int .i64)) (hcn:P.cellsOf tn=1)
 (hts:P.underlying ts=some (.slice t)) (ht:P.underlying t=some (.struct #[f0,f1])) (h0:f0.type=tn) (h1:f1.type=ti) (o0:f0.offset=0) (o1:f1.offset=1) (hct:P.cellsOf t=33)
 (hf:DataW.trod enc P W 0 (λ_=>true) true fuel ts cs=some x):∃ (v:Value) (ls:List Mb),cs=[v]/\bp W v 33 ls.length (aw ls):=by
 rcases Go.Deep.open_slice hts hf with ⟨hcs,_⟩|⟨a',len,cap,m,k,D,Pl,hcs,_,hl,_,hm,_,hel⟩
 ·exact ⟨_,[],hcs,rfl,.inl ⟨rfl,rfl⟩⟩
 ·have hml:len<=m:=by rw [hm];split<;>omega
  have each:∀ i,∃ l:Mb,i<len->aJ W (a'.add (i*33)) (az l):=λi=>by
   by_cases hi:i<len
   ·obtain ⟨cs',hc1,hc2⟩:=hel i (by omega)
    obtain ⟨l,rfl⟩:=o6 T hc hce hn hcn ht h0 h1 o0 o1 hct hc2
    refine ⟨l,λ_ j u hj=>?_⟩
    rw [hct] at hc1
    obtain ⟨_,hlen,hall⟩:=World.cells?_some hc1
    have hj33:j<33:=by have:=(ZA.1 hj).1;rw [am] at this;exact this
    have:=hall j hj33
    rw [this,Zy];exact hj
   ·exact ⟨bE,λh9=>ZF h9 hi⟩
  obtain ⟨L,hL⟩:=Classical.axiomOfChoice each
  refine ⟨_,(List.range len).map L,hcs,?_,.inr ⟨a',cap,by simp,by simpa using hl,?_⟩⟩
  ·rw [nr]
  ·refine js _ 33 (by decide) cy _ λi hi=>?_
   have hi':i<len:=by simpa using hi
   have h9:((List.range len).map L)[i]=L i:=by simp
   rw [h9]
   exact hL i hi'
theorem KP {cs a b c d:List Value} (hl:cs.length=68) (h0:(cs.drop 0).take 33=a) (h1:(cs.drop 33).take 33=b) (h2:(cs.drop 66).take 1=c) (h3:(cs.drop 67).take 1=d):cs=a++(b++(c++d)):=by
 subst h0;subst h1;subst h2;subst h3
 have e3:(cs.drop 67).take 1=cs.drop 67:=YU (by rw [YX];omega)
 have e2:(cs.drop 66).take 1++cs.drop 67=cs.drop 66:=by
  have:=YS 1 (cs.drop 66)
  rwa [List.drop_drop] at this
 have e1:(cs.drop 33).take 33++cs.drop 66=cs.drop 33:=by
  have:=YS 33 (cs.drop 33)
  rwa [List.drop_drop] at this
 rw [e3,e2,e1,List.drop_zero,YS]
end Go.Proofs.YtkhepdpfdhdlaaaGreatDoor
