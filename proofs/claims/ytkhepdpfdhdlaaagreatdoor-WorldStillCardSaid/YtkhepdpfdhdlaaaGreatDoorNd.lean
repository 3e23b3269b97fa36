/- Nodes: which may be, what hearing, following, dropping and pointing make of them, and that what may be stays such; nodes that come in; no Go in it. -/
import Derived.Test.YtkhepdpfdhdlaaaGreatDoorRg
set_option linter.unusedVariables false
set_option linter.unusedSimpArgs false
set_option linter.unusedSectionVars false
namespace Go.Proofs.YtkhepdpfdhdlaaaGreatDoor
open Go.RowKit
structure Nd where
 me:Mb
 pr:Mb
 sc:List Mb
 fg:List Mb
def Fi:Nd:=⟨bz,bz,[],[]⟩
def au:Value:=.slice none 0 0
def mm (m p:Mb) (vs vf:Value):List Value:=EC m++(EC p++[vs,vf])
def aP (m p:Mb) (vs vf:Value):Array Value:=(mm m p vs vf).toArray
theorem CW (m p:Mb) (vs vf:Value):(mm m p vs vf).length=68:=by simp [mm,cT]
theorem aq (m p:Mb) (vs vf:Value):(aP m p vs vf).size=68:=by simp [aP,CW]
theorem bP {m p:Mb} {vs vf:Value} (h1:vs.oneCell'=true) (h2:vf.oneCell'=true):∀ v∈(aP m p vs vf).toList,v.oneCell'=true:=λv hv=>by
 have hv:v∈mm m p vs vf:=hv
 unfold mm at hv
 rcases av4.1 hv with hv|hv
 ·exact nS m v hv
 ·rcases av4.1 hv with hv|hv
  ·exact nS p v hv
  ·simp only [at1,at4,or_false] at hv
   rcases hv with rfl|rfl
   ·exact h1
   ·exact h2
theorem CP (m p:Mb) (vs vf:Value) (i:Nat):(aP m p vs vf)[i]? = (mm m p vs vf)[i]? := by simp [aP]
theorem kR (m p:Mb) (vs vf:Value):(aP m p vs vf)[0]? = some (.int .i64 m.1):=rfl
theorem JL (m p:Mb) (vs vf:Value) (i:Nat):(mm m p vs vf)[33+i]? = (EC p++[vs,vf])[i]? := by
 unfold mm
 rw [av2 (by rw [cT];omega),cT,Nat.add_sub_cancel_left]
theorem w7 (m p:Mb) (vs vf:Value) (i:Nat):(mm m p vs vf)[66+i]? = [vs,vf][i]? := by
 rw [show 66+i=33+(33+i) by omega,JL,av2 (by rw [cT];omega),cT,Nat.add_sub_cancel_left]
theorem E8 (m p:Mb) (vs vf:Value):(aP m p vs vf)[33]? = some (.int .i64 p.1):=by rw [CP];exact JL m p vs vf 0
theorem gc (m p:Mb) (vs vf:Value):(aP m p vs vf)[66]? = some vs:=by rw [CP];exact w7 m p vs vf 0
theorem ik (m p:Mb) (vs vf:Value):(aP m p vs vf)[67]? = some vf:=by rw [CP];exact w7 m p vs vf 1
theorem nO (l:List Value) (o n:Nat) (D:List Value) (h:(l.drop o).take n=D):l.toArray.extract o (o+n)=D.toArray:=by
 apply Array.ext'
 rw [Array.toList_extract,List.extract_eq_take_drop,Nat.add_sub_cancel_left]
 exact h
theorem cN (m p:Mb) (vs vf:Value):(aP m p vs vf).extract 0 (0+33)=ay m:=nO _ _ _ _ (by
 rw [List.drop_zero];unfold mm;rw [List.take_left' (cT m)])
theorem rR (m p:Mb) (vs vf:Value) (i:Nat) (h:i<=33):(mm m p vs vf).drop (33+i)=(EC p).drop i++[vs,vf]:=by
 unfold mm
 rw [← List.drop_drop,List.drop_left' (cT m),List.drop_append_of_le_length (by rw [cT];exact h)]
theorem fm (m p:Mb) (vs vf:Value):(aP m p vs vf).extract 33 (33+33)=ay p:=nO _ _ _ _ (by
 rw [rR m p vs vf 0 (by omega),List.drop_zero,List.take_left' (cT p)])
theorem zo (m:Mb):(EC m).drop 1=(aI m.2).toList:=rfl
theorem gE (m p:Mb) (vs vf:Value):(aP m p vs vf).extract 1 (1+32)=aI m.2:=nO _ _ _ (aI m.2).toList (by
 unfold mm
 rw [List.drop_append_of_le_length (by rw [cT];omega),zo,List.take_left' (by rw [as7,aC])])
theorem uM (m p:Mb) (vs vf:Value):(aP m p vs vf).extract 34 (34+32)=aI p.2:=nO _ _ _ (aI p.2).toList (by
 rw [show 34=33+1 from rfl,rR m p vs vf 1 (by omega),zo,List.take_left' (by rw [as7,aC])])
theorem nu (m p:Mb) (vs vf v:Value):(aP m p vs vf).setIfInBounds 66 v=aP m p v vf:=by
 apply Array.ext'
 rw [Array.toList_setIfInBounds]
 show (mm m p vs vf).set 66 v=mm m p v vf
 unfold mm
 rw [List.set_append_right _ _ (by rw [cT];omega),List.set_append_right _ _ (by rw [cT,cT];omega),cT,cT]
 rfl
theorem q9 (m p:Mb) (vs vf v:Value):(aP m p vs vf).setIfInBounds 67 v=aP m p vs v:=by
 apply Array.ext'
 rw [Array.toList_setIfInBounds]
 show (mm m p vs vf).set 67 v=mm m p vs v
 unfold mm
 rw [List.set_append_right _ _ (by rw [cT];omega),List.set_append_right _ _ (by rw [cT,cT];omega),cT,cT]
 rfl
theorem qq (m p q:Mb) (vs vf:Value):((aP m p vs vf).toList.take 33++(ay q).toList++(aP m p vs vf).toList.drop (33+(ay q).size)).toArray=aP m q vs vf:=by
 rw [ai]
 show ((mm m p vs vf).take 33++EC q++(mm m p vs vf).drop (33+33)).toArray=(mm m q vs vf).toArray
 rw [rR m p vs vf 33 (at6 _),List.drop_of_length_le (by rw [cT];exact at6 _),List.nil_append]
 unfold mm
 rw [List.take_left' (cT m),aw8]
theorem bR {w:World} {v:Value} {sz n:Nat} {xs:List Value} (h:br w v sz n xs):v.oneCell'=true:=by
 obtain ⟨a,c,rfl⟩:=h.len
 rfl
def Zz:List (List Value):=[.int .i64 0::List.replicate 32 (.int .u8 0),.int .i64 0::List.replicate 32 (.int .u8 0),[.slice none 0 0],[.slice none 0 0]]
theorem zc:EC bz=Value.int .i64 0::List.replicate 32 (Value.int .u8 0):=by
 have:=ar8 Array.toList xV
 exact this
theorem P4:aP bz bz au au=Zz.flatten.toArray:=by
 unfold aP mm
 rw [zc];rfl
section
variable {P:Program} {ρ:Operand->Value} {d:Option Tmp} {ty:TypeId} {pos:String} {af:Array Edge} {g:Option (Nat × Bool)} {x y z:Operand} {t:TypeId}
theorem fM (S:Stt P t Zz):a7 P ⟨d,.build t #[],ty,pos,af,g⟩ ρ (.agg (aP bz bz au au)):=by
 have:=bk (P:=P) (ρ:=ρ) (d:=d) (ty:=ty) (pos:=pos) (af:=af) (g:=g) (parts:=#[]) S [] (by simp) (λi v hm=>by simp at hm) (D:=mm bz bz au au) (by unfold mm;rw [zc];rfl)
 exact this
theorem u6 {m p:Mb} {v:Value} (S:Stt P t Zz) (hv:v.cells.size=1) (hc:v.cells.toList=[v]) (hx:ρ x=.agg (ay m)) (hy:ρ y=.agg (ay p)) (hz:ρ z=v):a7 P ⟨d,.build t #[(0,x),(1,y),(2,z)],ty,pos,af,g⟩ ρ (.agg (aP m p v au)):=by
 have:=bk (P:=P) (ρ:=ρ) (d:=d) (ty:=ty) (pos:=pos) (af:=af) (g:=g) (parts:=#[(0,x),(1,y),(2,z)]) S [(0,.agg (ay m)),(1,.agg (ay p)),(2,v)] (by simp [hx,hy,hz]) (λi u hm=>by
  simp only [at1,ax3,at4,or_false] at hm
  rcases hm with ⟨rfl,rfl⟩|⟨rfl,rfl⟩|⟨rfl,rfl⟩
  ·exact ⟨_,rfl,by show (ay m).size=_;rw [ai];rfl⟩
  ·exact ⟨_,rfl,by show (ay p).size=_;rw [ai];rfl⟩
  ·exact ⟨_,rfl,hv⟩) (D:=mm m p v au) (by
   show (ay m).toList++((ay p).toList++(v.cells.toList++([au]++[])))=_
   rw [hc];rfl)
 exact this
end
def gb (m:Mb):Bool:=decide (0<=m.1) && decide (m.1<16)
theorem j7 {m:Mb}:gb m=true↔0<=m.1/\m.1<16:=by unfold gb;rw [as0,as5,as5]
theorem Zb {m:Mb} (h:decide (0<=m.1)=false):gb m=false:=by unfold gb;rw [h];rfl
theorem Yx {m:Mb} (h:decide (0<=m.1)=true):gb m=decide (m.1<16):=by unfold gb;rw [h];rfl
def pZ (l:List Mb) (no:Int):Bool:=l.any λx=>decide (x.1=no)
theorem OL {l:List Mb} {no:Int}:pZ l no=true↔∃ x∈l,x.1=no:=by
 unfold pZ;rw [ax9]
 exact ⟨λ⟨x,h,e⟩=>⟨x,h,ar4 e⟩,λ⟨x,h,e⟩=>⟨x,h,ar7 e⟩⟩
theorem Eh {l:List Mb} {no:Int}:pZ l no=false↔∀ x∈l,x.1≠no:=by
 rw [← Bool.not_eq_true,OL]
 exact ⟨λh x hx e=>h ⟨x,hx,e⟩,λh ⟨x,hx,e⟩=>h x hx e⟩
def og (l:List Mb) (no:Int) (d:Nat):Bool := !gb (l.getD d bz) || (decide ((l.getD d bz).1=no) || pZ (l.take d) (l.getD d bz).1)
def q8 (l:List Mb) (no:Int):Bool:=(List.range l.length).all λd => !og l no d
structure Oth (l:List Mb) (no:Int):Prop where
 may:∀ x∈l,0<=x.1/\x.1<16
 ne:∀ x∈l,x.1≠no
 nd:l.Pairwise λa b=>a.1≠b.1
theorem nZ {l:List Mb} {no:Int} {d:Nat}:og l no d=false↔gb (l.getD d bz)=true/\(l.getD d bz).1≠no/\∀ x∈l.take d,x.1≠(l.getD d bz).1:=by
 unfold og
 rw [Bool.or_eq_false_iff,Bool.or_eq_false_iff,Bool.not_eq_false',decide_eq_false_iff_not,Eh]
theorem SL {l:List Mb} {no:Int} {d:Nat} (h:gb (l.getD d bz)=false):og l no d=true:=by unfold og;rw [h];rfl
theorem SJ {l:List Mb} {no:Int} {d:Nat} (h:decide ((l.getD d bz).1=no)=true):og l no d=true:=by unfold og;rw [h];simp
theorem Lz {l:List Mb} {no:Int} {d:Nat} (h:gb (l.getD d bz)=true) (h1:decide ((l.getD d bz).1=no)=false):og l no d=pZ (l.take d) (l.getD d bz).1:=by unfold og;rw [h,h1];rfl
theorem xL {l:List Mb} {no:Int}:q8 l no=true↔∀ d,d<l.length->og l no d=false:=by
 unfold q8;rw [as1]
 exact ⟨λh d hd=>by have:=h d (at2.2 hd);simpa using this,λh d hd=>by rw [h d (at2.1 hd)];rfl⟩
theorem Nb {l:List Mb} {no:Int}:q8 l no=true↔Oth l no:=by
 rw [xL]
 constructor
 ·intro h
  refine ⟨λx hx=>?_,λx hx=>?_,?_⟩
  ·obtain ⟨j,hj,rfl⟩:=uD hx
   exact j7.1 (nZ.1 (h j hj)).1
  ·obtain ⟨j,hj,rfl⟩:=uD hx
   exact(nZ.1 (h j hj)).2.1
  ·rw [List.pairwise_iff_getElem]
   intro i j hi hj hij
   have h9:=(nZ.1 (h j hj)).2.2 l[i] (List.mem_iff_getElem.2 ⟨i,by rw [av5];omega,List.getElem_take⟩)
   rwa [← yo hj] at h9
 ·rintro ⟨h1,h2,h3⟩ d hd
  refine nZ.2 ⟨j7.2 (h1 _ (iI hd)),h2 _ (iI hd),λx hx=>?_⟩
  obtain ⟨i,hi,rfl⟩:=List.mem_iff_getElem.1 hx
  rw [av5] at hi
  rw [List.getElem_take,← yo hd]
  exact List.pairwise_iff_getElem.1 h3 i d (by omega) hd (by omega)
theorem rZ {l:List Mb} {no:Int} {d:Nat} (hd:d<l.length) (h:og l no d=true):q8 l no=false:=by
 rw [← Bool.not_eq_true,xL];intro h9;rw [h9 d hd] at h;cases h
theorem I4 {l:List Mb} {no:Int} {k:Nat} (hk:l.length<=k) (h:∀ j,j<k->og l no j=false):q8 l no=true:=xL.2 λd hd=>h d (by omega)
def sC (p:Mb) (no:Int):Bool:=decide (p=fe) || (gb p && decide (p.1≠no))
def pX (l:List Mb) (m:Mb):Bool:=decide (l=[m]) || (decide (1<=l.length) && (decide (l.length<=4) && q8 l m.1))
def Ar (l:List Mb) (no:Int):Bool:=decide (l.length<=16) && q8 l no
def cY (n:Nd):Bool:=gb n.me && (sC n.pr n.me.1 && (pX n.sc n.me && Ar n.fg n.me.1))
theorem Wi {p:Mb} {no:Int} (h:decide (p=fe)=true):sC p no=true:=by unfold sC;rw [h];rfl
theorem Wz {p:Mb} {no:Int} (h:decide (p=fe)=false) (h1:gb p=false):sC p no=false:=by unfold sC;rw [h,h1];rfl
theorem RD {p:Mb} {no:Int} (h:decide (p=fe)=false) (h1:gb p=true):sC p no=decide (p.1≠no):=by unfold sC;rw [h,h1];rfl
theorem zH {l:List Mb} {m:Mb}:l=[m]↔l.length=1/\l.getD 0 bz=m:=by
 constructor
 ·rintro rfl;exact ⟨rfl,rfl⟩
 ·rintro ⟨h1,h2⟩
  obtain ⟨x,rfl⟩:=List.length_eq_one_iff.1 h1
  have h2:x=m:=h2
  rw [h2]
theorem Y8 {l:List Mb} {m:Mb} (h:decide (l.length=1)=true) (h1:decide (l.getD 0 bz=m)=true):pX l m=true:=by
 unfold pX;rw [ar7 (zH.2 ⟨ar4 h,ar4 h1⟩)];rfl
theorem GX {l:List Mb} {m:Mb} (h:¬ (l.length=1/\l.getD 0 bz=m)):pX l m=(decide (1<=l.length) && (decide (l.length<=4) && q8 l m.1)):=by
 unfold pX;rw [ar6 λe=>h (zH.1 e)];rfl
theorem Rq {l:List Mb} {m:Mb} (h:¬ (l.length=1/\l.getD 0 bz=m)) (h0:decide (1<=l.length)=false):pX l m=false:=by rw [GX h,h0];rfl
theorem Rj {l:List Mb} {m:Mb} (h:¬ (l.length=1/\l.getD 0 bz=m)) (h0:decide (l.length<=4)=false):pX l m=false:=by rw [GX h,h0,Bool.false_and,Bool.and_false]
theorem QQ {l:List Mb} {m:Mb} (h:¬ (l.length=1/\l.getD 0 bz=m)) (h0:decide (1<=l.length)=true) (h1:decide (l.length<=4)=true):pX l m=q8 l m.1:=by rw [GX h,h0,h1];rfl
theorem Y1 {l:List Mb} {no:Int} (h:decide (l.length<=16)=false):Ar l no=false:=by unfold Ar;rw [h];rfl
theorem YT {l:List Mb} {no:Int} (h:decide (l.length<=16)=true):Ar l no=q8 l no:=by unfold Ar;rw [h];rfl
theorem OB {n:Nd} (h:gb n.me=false):cY n=false:=by unfold cY;rw [h];rfl
theorem Pn {n:Nd} (h:sC n.pr n.me.1=false):cY n=false:=by unfold cY;rw [h,Bool.false_and,Bool.and_false]
theorem Ov {n:Nd} (h:pX n.sc n.me=false):cY n=false:=by unfold cY;rw [h,Bool.false_and,Bool.and_false,Bool.and_false]
theorem PJ {n:Nd} (h:gb n.me=true) (h1:sC n.pr n.me.1=true) (h2:pX n.sc n.me=true):cY n=Ar n.fg n.me.1:=by unfold cY;rw [h,h1,h2];rfl
structure RN (n:Nd):Prop where
 me:0<=n.me.1/\n.me.1<16
 pr:n.pr=fe∨((0<=n.pr.1/\n.pr.1<16)/\n.pr.1≠n.me.1)
 sc:n.sc=[n.me]∨(1<=n.sc.length/\n.sc.length<=4/\Oth n.sc n.me.1)
 fg:n.fg.length<=16/\Oth n.fg n.me.1
theorem jM {n:Nd}:cY n=true↔RN n:=by
 unfold cY sC pX Ar
 simp only [as0,Bool.or_eq_true,as5,j7,Nb]
 exact ⟨λ⟨h1,h2,h3,h4⟩=>⟨h1,h2,h3,h4⟩,λ⟨h1,h2,h3,h4⟩=>⟨h1,h2,h3,h4⟩⟩
theorem RN.len {n:Nd} (h:RN n):1<=n.sc.length/\n.sc.length<=4:=by
 rcases h.sc with h|h
 ·rw [h];exact ⟨at6 _,by show 1<=4;omega⟩
 ·exact ⟨h.1,h.2.1⟩
def nxI (n:Nd) (x:Id):Bool:=x8 x n.me.2 (n.sc.getD 0 bz).2
def nxC (n:Nd) (x:Id):Mb:=bif decide (csE n.me.2 x (n.fg++n.sc)=0) then csM n.me.2 x (n.fg++n.sc) else n.sc.getD 0 bz
def nxM (n:Nd) (x:Id):Mb:=bif cY n then (bif nxI n x then n.sc.getD 0 bz else nxC n x) else bz
def nxB (n:Nd) (x:Id):Bool:=cY n && nxI n x
def nq (n:Nd) (x:Mb):Mb:=bif decide (x.1≠n.me.1) && (decide (x.2≠n.me.2) && (decide (n.pr=fe) || x8 x.2 n.pr.2 n.me.2)) then x else n.pr
def UQ (n:Nd) (x:Mb):Int:=bif cY n && gb x then 0 else 1
def UI (n:Nd) (x:Mb):Nd:=bif cY n && gb x then {n with pr:=nq n x} else Fi
theorem L8 {n:Nd} {x:Mb} (h:cY n=false):UI n x=Fi/\UQ n x=1:=by unfold UI UQ;rw [h];exact ⟨rfl,rfl⟩
theorem Hu {n:Nd} {x:Mb} (h:gb x=false):UI n x=Fi/\UQ n x=1:=by unfold UI UQ;rw [h,Bool.and_false];exact ⟨rfl,rfl⟩
theorem kw {n:Nd} {x:Mb} (h:cY n=true) (h1:gb x=true):UI n x={n with pr:=nq n x}/\UQ n x=0:=by unfold UI UQ;rw [h,h1];exact ⟨rfl,rfl⟩
theorem Qu {n:Nd} {x:Mb} (h:decide (x.1≠n.me.1)=false):nq n x=n.pr:=by unfold nq;rw [h];rfl
theorem V3 {n:Nd} {x:Mb} (h:decide (x.2≠n.me.2)=false):nq n x=n.pr:=by unfold nq;rw [h,Bool.false_and,Bool.and_false];rfl
theorem YL {n:Nd} {x:Mb} (h:decide (x.1≠n.me.1)=true) (h1:decide (x.2≠n.me.2)=true) (h2:decide (n.pr=fe)=true):nq n x=x:=by unfold nq;rw [h,h1,h2];rfl
theorem Zf {n:Nd} {x:Mb} (h:decide (x.1≠n.me.1)=true) (h1:decide (x.2≠n.me.2)=true) (h2:decide (n.pr=fe)=false) (h3:x8 x.2 n.pr.2 n.me.2=true):nq n x=x:=by unfold nq;rw [h,h1,h2,h3];rfl
theorem XS {n:Nd} {x:Mb} (h2:decide (n.pr=fe)=false) (h3:x8 x.2 n.pr.2 n.me.2=false):nq n x=n.pr:=by unfold nq;rw [h2,h3,Bool.or_self,Bool.and_false,Bool.and_false];rfl
def Ms (me:Mb) (s:Nd):Bool := !decide (s.pr=fe) && (!decide (s.pr.1=me.1) && (!decide (s.pr.2=me.2) && (!decide (s.pr.2=s.me.2) && x8 s.pr.2 me.2 s.me.2)))
def sd (me:Mb) (s:Nd):Mb:=bif Ms me s then s.pr else s.me
def eB (no:Int) (l:List Mb):List Mb:=l.takeWhile λx=>decide (x.1≠no)
def gx (acc:List Mb) (x:Mb):List Mb:=bif decide (acc.length<4) && !pZ acc x.1 then acc++[x] else acc
def jD (l:List Mb):List Mb:=l.foldl gx []
def o7 (l:List Mb) (me:Mb):List Mb:=bif decide (l.length=0) then [me] else l
def gn (n s:Nd):List Mb:=sd n.me s::s.me::s.sc
def Gd (n s:Nd):List Mb:=o7 (jD (eB n.me.1 (gn n s))) n.me
def UH (n s:Nd):Int:=bif cY n && cY s then 0 else 1
def Sk (n s:Nd):Nd:=bif cY n && cY s then {n with sc:=Gd n s} else Fi
theorem KM {n s:Nd} (h:cY n=false):Sk n s=Fi/\UH n s=1:=by unfold Sk UH;rw [h];exact ⟨rfl,rfl⟩
theorem Ka {n s:Nd} (h:cY s=false):Sk n s=Fi/\UH n s=1:=by unfold Sk UH;rw [h,Bool.and_false];exact ⟨rfl,rfl⟩
theorem Ec {n s:Nd} (h:cY n=true) (h1:cY s=true):Sk n s={n with sc:=Gd n s}/\UH n s=0:=by unfold Sk UH;rw [h,h1];exact ⟨rfl,rfl⟩
theorem ah1 {me:Mb} {s:Nd} (h:decide (s.pr=fe)=true):sd me s=s.me:=by unfold sd Ms;rw [h];rfl
theorem ab0 {me:Mb} {s:Nd} (h:decide (s.pr.1=me.1)=true):sd me s=s.me:=by unfold sd Ms;rw [h,Bool.not_true,Bool.false_and,Bool.and_false];rfl
theorem ZU {me:Mb} {s:Nd} (h:decide (s.pr.2=me.2)=true):sd me s=s.me:=by unfold sd Ms;rw [h,Bool.not_true,Bool.false_and,Bool.and_false,Bool.and_false];rfl
theorem ac3 {me:Mb} {s:Nd} (h:decide (s.pr.2=s.me.2)=true):sd me s=s.me:=by unfold sd Ms;rw [h,Bool.not_true,Bool.false_and,Bool.and_false,Bool.and_false,Bool.and_false];rfl
theorem ZI {me:Mb} {s:Nd} (h:x8 s.pr.2 me.2 s.me.2=false):sd me s=s.me:=by unfold sd Ms;rw [h,Bool.and_false,Bool.and_false,Bool.and_false,Bool.and_false];rfl
theorem ab7 {me:Mb} {s:Nd} (h:decide (s.pr=fe)=false) (h1:decide (s.pr.1=me.1)=false) (h2:decide (s.pr.2=me.2)=false) (h3:decide (s.pr.2=s.me.2)=false) (h4:x8 s.pr.2 me.2 s.me.2=true):sd me s=s.pr:=by unfold sd Ms;rw [h,h1,h2,h3,h4];rfl
theorem ET {l:List Mb} {me:Mb} (h:l.length=0):o7 l me=[me]:=by unfold o7;rw [ar7 h];rfl
theorem zn {l:List Mb} {me:Mb} (h:¬ l.length=0):o7 l me=l:=by unfold o7;rw [ar6 h];rfl
theorem Ra {acc:List Mb} {x:Mb} (h:acc.length<4) (h1:pZ acc x.1=false):gx acc x=acc++[x]:=by unfold gx;rw [ar7 h,h1];rfl
theorem BH {acc:List Mb} {x:Mb} (h:¬ acc.length<4):gx acc x=acc:=by unfold gx;rw [ar6 h];rfl
theorem Kf {acc:List Mb} {x:Mb} (h:pZ acc x.1=true):gx acc x=acc:=by unfold gx;rw [h,Bool.not_true,Bool.and_false];rfl
theorem Fv (l:List Mb) (x:Mb):jD (l++[x])=gx (jD l) x:=by unfold jD;rw [List.foldl_append];rfl
theorem lZ {l:List Mb} {d:Nat} (hd:d<l.length):jD (l.take (d+1))=gx (jD (l.take d)) (l.getD d bz):=by rw [tK hd,Fv]
theorem Mu (acc:List Mb) (x:Mb):(gx acc x).length<=acc.length+1:=by
 unfold gx
 cases decide (acc.length<4) && !pZ acc x.1 with
 |true=>show (acc++[x]).length<=_;rw [as2];exact at6 _
 |false=>exact Nat.le_succ _
theorem XZ {acc:List Mb} (x:Mb) (h:acc.length<=4):(gx acc x).length<=4:=by
 by_cases h4:acc.length<4
 ·have:=Mu acc x;omega
 ·rw [BH h4];exact h
theorem H7:∀ (l acc:List Mb),acc.length<=4->(l.foldl gx acc).length<=4
 |[],_,h=>h
 |x::l,acc,h=>H7 l _ (XZ x h)
theorem Dk (l:List Mb):(jD l).length<=4:=H7 l [] (at8 _)
theorem ST {acc:List Mb} {x y:Mb} (h:y∈gx acc x):y∈acc∨y=x:=by
 unfold gx at h
 cases hb:decide (acc.length<4) && !pZ acc x.1 with
 |true=>rw [hb] at h;rcases List.mem_append.1 h with h|h
        ·exact .inl h
        ·exact .inr (as9.1 h)
 |false=>rw [hb] at h;exact .inl h
theorem Ur {acc:List Mb} (x:Mb) (h:acc.Pairwise λa b=>a.1≠b.1):(gx acc x).Pairwise λa b=>a.1≠b.1:=by
 unfold gx
 cases hb:decide (acc.length<4) && !pZ acc x.1 with
 |false=>exact h
 |true=>
  rw [as0] at hb
  have h2:=Eh.1 (by simpa using hb.2)
  show (acc++[x]).Pairwise _
  rw [List.pairwise_append]
  exact ⟨h,List.pairwise_singleton _ _,λa ha b hb9=>by rw [as9.1 hb9];exact h2 a ha⟩
theorem uY:∀ (l acc:List Mb) {y:Mb},y∈l.foldl gx acc->y∈acc∨y∈l
 |[],_,_,h=>.inl h
 |x::l,acc,y,h=>by
  rcases uY l _ h with h|h
  ·rcases ST h with h|h
   ·exact .inl h
   ·exact .inr (by rw [h];exact at0)
  ·exact .inr (au0 _ h)
theorem Ez:∀ (l acc:List Mb),(acc.Pairwise λa b=>a.1≠b.1)->((l.foldl gx acc).Pairwise λa b=>a.1≠b.1)
 |[],_,h=>h
 |x::l,_,h=>Ez l _ (Ur x h)
theorem nU {no:Int} {l:List Mb} {x:Mb} (h:x∈eB no l):x∈l/\x.1≠no:=by
 refine ⟨(List.takeWhile_sublist _).subset h,?_⟩
 unfold eB at h
 have:=as1.1 (List.all_takeWhile (p:=λx:Mb=>decide (x.1≠no)) (l:=l)) x h
 exact ar4 this
theorem MQ (no:Int) (l:List Mb):(eB no l).length<=l.length:=(List.takeWhile_sublist _).length_le
theorem Ie {a b:List Mb} (h:a <+: b) {d:Nat} (hd:d<a.length):a.getD d bz=b.getD d bz:=by
 obtain ⟨r,rfl⟩:=h
 rw [au1,au1,av3 hd]
theorem nA {no:Int} {l:List Mb} {d:Nat} (hd:d<(eB no l).length):(eB no l).getD d bz=l.getD d bz:=Ie (List.takeWhile_prefix _) hd
theorem uv {no:Int}:∀ {l:List Mb} {d:Nat},d<l.length->(∀ j,j<d->(l.getD j bz).1≠no)->(l.getD d bz).1≠no->d<(eB no l).length
 |[],_,h,_,_=>by simp at h
 |x::l,0,_,_,h2=>by
  have h2:x.1≠no:=h2
  unfold eB;rw [List.takeWhile_cons,if_pos (ar7 h2)];exact Nat.zero_lt_succ _
 |x::l,d+1,hd,h1,h2=>by
  have h0:x.1≠no:=h1 0 (Nat.zero_lt_succ _)
  unfold eB;rw [List.takeWhile_cons,if_pos (ar7 h0)]
  have:=uv (l:=l) (d:=d) (by simpa using hd) (λj hj=>h1 (j+1) (Nat.succ_lt_succ hj)) h2
  exact Nat.succ_lt_succ this
theorem EW {no:Int} {l:List Mb} {d:Nat} (h2:(l.getD d bz).1=no) (hd:d<l.length):(eB no l).length<=d:=by
 rcases at9 d (eB no l).length with h|h
 ·have h3:=(nU (iI h)).2
  rw [nA h] at h3
  exact az2 h2 h3
 ·exact h
def fx (nos:List Int) (x:Mb):Bool:=nos.any λno=>decide (no=x.1)
theorem zQ {nos:List Int} {x:Mb}:fx nos x=true↔x.1∈nos:=by
 unfold fx;rw [ax9]
 exact ⟨λ⟨k,h,e⟩=>by rw [← ar4 e];exact h,λh=>⟨x.1,h,ar7 rfl⟩⟩
def eD (l:List Mb) (nos:List Int):List Mb:=l.filter λx => !fx nos x
def Em (n:Nd) (nos:List Int):Mb:=bif fx nos n.pr then fe else n.pr
def Vz (n:Nd):Int:=bif cY n then 0 else 1
def VJ (n:Nd) (nos:List Int):Nd:=bif cY n then ⟨n.me,Em n nos,o7 (eD n.sc nos) n.me,eD n.fg nos⟩ else Fi
theorem QS {n:Nd} (nos:List Int) (h:cY n=false):VJ n nos=Fi/\Vz n=1:=by unfold VJ Vz;rw [h];exact ⟨rfl,rfl⟩
theorem uS {n:Nd} (nos:List Int) (h:cY n=true):VJ n nos=⟨n.me,Em n nos,o7 (eD n.sc nos) n.me,eD n.fg nos⟩/\Vz n=0:=by unfold VJ Vz;rw [h];exact ⟨rfl,rfl⟩
theorem Q8 {n:Nd} {nos:List Int} (h:fx nos n.pr=true):Em n nos=fe:=by unfold Em;rw [h];rfl
theorem RG {n:Nd} {nos:List Int} (h:fx nos n.pr=false):Em n nos=n.pr:=by unfold Em;rw [h];rfl
def zx (nos:List Int) (no:Int) (x:Mb):Bool:=nos.any λk=>decide (k=x.1) && decide (k≠no)
def iC (l:List Mb) (nos:List Int) (no:Int):List Mb:=l.filter λx => !zx nos no x
theorem ua {nos:List Int} {no:Int} {x:Mb}:zx nos no x=true↔x.1∈nos/\x.1≠no:=by
 unfold zx;rw [ax9]
 constructor
 ·rintro ⟨k,h,e⟩
  rw [as0,as5,as5] at e
  obtain ⟨rfl,e2⟩:=e
  exact ⟨h,e2⟩
 ·rintro ⟨h,e⟩
  exact ⟨x.1,h,by rw [ar7 rfl,ar7 e];rfl⟩
theorem In {nos:List Int} {no:Int} {x:Mb} (h:x.1≠no):zx nos no x=fx nos x:=by
 rw [ay1,ua,zQ];exact and_iff_left h
theorem Gp {nos:List Int} {x:Mb}:zx nos x.1 x=false:=by
 rw [← Bool.not_eq_true,ua];exact λh=>h.2 rfl
theorem sK {l:List Mb} {nos:List Int} {no:Int} (h:∀ x∈l,x.1≠no):iC l nos no=eD l nos:=List.filter_congr λx hx=>by rw [In (h x hx)]
theorem NF {n:Nd} (h:RN n) (nos:List Int):o7 (iC n.sc nos n.me.1) n.me=o7 (eD n.sc nos) n.me:=by
 rcases h.sc with h9|h9
 ·rw [h9]
  have h1:iC [n.me] nos n.me.1=[n.me]:=by
   unfold iC;rw [List.filter_cons,Gp];rfl
  rw [h1,zn (by show ¬ (1=0);omega)]
  cases hb:fx nos n.me with
  |true=>rw [show eD [n.me] nos=[] by unfold eD;rw [List.filter_cons,hb];rfl];rfl
  |false=>rw [show eD [n.me] nos=[n.me] by unfold eD;rw [List.filter_cons,hb];rfl];rfl
 ·rw [sK h9.2.2.ne]
theorem MA {n:Nd} (h:RN n) (nos:List Int):iC n.fg nos n.me.1=eD n.fg nos:=sK h.fg.2.ne
def Qy (n:Nd) (nos:List Int):Mb:=bif !decide (n.pr=fe) && decide ((iC [n.pr] nos n.me.1).length=0) then fe else n.pr
theorem PV {n:Nd} (h:RN n) (nos:List Int):Qy n nos=Em n nos:=by
 unfold Qy Em
 rcases h.pr with h9|h9
 ·rw [h9,ar7 rfl]
  cases fx nos fe<;>rfl
 ·have hne:decide (n.pr=fe)=false:=ar6 λe=>by rw [e] at h9;exact az2 h9.1.1 (by decide)
  rw [hne]
  have h1:iC [n.pr] nos n.me.1=eD [n.pr] nos:=sK λx hx=>by rw [as9.1 hx];exact h9.2
  rw [h1]
  unfold eD
  rw [List.filter_cons]
  cases fx nos n.pr<;>rfl
theorem Oth.filter {l:List Mb} {no:Int} (h:Oth l no) (p:Mb->Bool):Oth (l.filter p) no:=
 ⟨λx hx=>h.may x ((au9.1 hx).1),λx hx=>h.ne x ((au9.1 hx).1),h.nd.filter p⟩
theorem M5 {n:Nd} {x:Mb} (h:RN n) (hx:gb x=true):RN {n with pr:=nq n x}:=by
 refine ⟨h.me,?_,h.sc,h.fg⟩
 show nq n x=fe∨_
 cases h0:decide (x.1≠n.me.1) with
 |false=>show nq n x=fe∨((0<=(nq n x).1/\(nq n x).1<16)/\(nq n x).1≠n.me.1);rw [Qu h0];exact h.pr
 |true=>
  show nq n x=fe∨((0<=(nq n x).1/\(nq n x).1<16)/\(nq n x).1≠n.me.1)
  have hc:nq n x=x∨nq n x=n.pr:=by
   unfold nq
   cases decide (x.1≠n.me.1) && (decide (x.2≠n.me.2) && (decide (n.pr=fe) || x8 x.2 n.pr.2 n.me.2)) with
   |true=>exact .inl rfl
   |false=>exact .inr rfl
  rcases hc with e|e
  ·rw [e];exact .inr ⟨j7.1 hx,ar4 h0⟩
  ·rw [e];exact h.pr
theorem SF {n s:Nd} (hs:RN s):0<=(sd n.me s).1/\(sd n.me s).1<16:=by
 unfold sd
 cases hb:Ms n.me s with
 |false=>exact hs.me
 |true=>
  show 0<=s.pr.1/\s.pr.1<16
  rcases hs.pr with h|h
  ·unfold Ms at hb;rw [h,ar7 rfl] at hb;cases hb
  ·exact h.1
theorem Ph {n s:Nd} (hs:RN s) {x:Mb} (h:x∈gn n s):0<=x.1/\x.1<16:=by
 unfold gn at h
 rcases at1.1 h with rfl|h
 ·exact SF hs
 ·rcases at1.1 h with rfl|h
  ·exact hs.me
  ·rcases hs.sc with h9|h9
   ·rw [h9,as9] at h;rw [h];exact hs.me
   ·exact h9.2.2.may x h
theorem M2 {n s:Nd} (hs:RN s):Oth (jD (eB n.me.1 (gn n s))) n.me.1:=by
 have hin:∀ {y:Mb},y∈jD (eB n.me.1 (gn n s))->y∈eB n.me.1 (gn n s):=λh=>by
  rcases uY _ [] h with h|h
  ·cases h
  ·exact h
 exact ⟨λx hx=>Ph hs (nU (hin hx)).1,λx hx=>(nU (hin hx)).2,Ez _ [] List.Pairwise.nil⟩
theorem Ei {n:Nd} {l:List Mb} (h:Oth l n.me.1) (h4:l.length<=4):o7 l n.me=[n.me]∨(1<=(o7 l n.me).length/\(o7 l n.me).length<=4/\Oth (o7 l n.me) n.me.1):=by
 by_cases h0:l.length=0
 ·exact .inl (ET h0)
 ·rw [zn h0];exact .inr ⟨by omega,h4,h⟩
theorem PX {n s:Nd} (h:RN n) (hs:RN s):RN {n with sc:=Gd n s}:=⟨h.me,h.pr,Ei (M2 hs) (Dk _),h.fg⟩
theorem DE (l:List Mb) (nos:List Int):(eD l nos).length<=l.length:=av7 _ _
theorem Oq {n:Nd} (h:RN n) (nos:List Int):RN ⟨n.me,Em n nos,o7 (eD n.sc nos) n.me,eD n.fg nos⟩:=by
 refine ⟨h.me,?_,?_,ax0 (DE _ _) h.fg.1,h.fg.2.filter _⟩
 ·show Em n nos=fe∨((0<=(Em n nos).1/\(Em n nos).1<16)/\(Em n nos).1≠n.me.1)
  cases hb:fx nos n.pr with
  |true=>exact .inl (Q8 hb)
  |false=>rw [RG hb];exact h.pr
 ·show o7 (eD n.sc nos) n.me=[n.me]∨_
  rcases h.sc with h9|h9
  ·rw [h9]
   cases hb:fx nos n.me with
   |true=>rw [show eD [n.me] nos=[] by unfold eD;rw [List.filter_cons,hb];rfl];exact .inl rfl
   |false=>rw [show eD [n.me] nos=[n.me] by unfold eD;rw [List.filter_cons,hb];rfl];exact .inl rfl
  ·exact Ei (h9.2.2.filter _) (ax0 (DE _ _) h9.2.1)
theorem St.add {w0 w w':World} {B C:List Own} (s:St w0 B w) (t:St w C w'):St w0 (C++B) w':=by
 refine s.join t.ext C (λp hp=>?_) (λp hp k hk=>t.own p hp k hk) t.nd
 have h:=t.has p hp
 cases p with
 |blk b o=>exact h
 |sl v e sz n xs=>exact cI.low h s.ext.le
 |grp ks S=>exact h
theorem iX.of_mem {w0 w:World} {B:List Own} (s:St w0 B w) {b:Nat} {C:Array Value} {u:TypeId} (h:Own.blk b (.cells C u)∈B):iX w b C:=⟨u,(0,0),s.has _ h⟩
def Xy (w:World) (M:TypeId) (n:Nd):dz:=λv w'=>∃ vs vf,v=.agg (aP n.me n.pr vs vf)/\St w [.sl vs M 33 n.sc.length (ap n.sc),.sl vf M 33 n.fg.length (ap n.fg)] w'
def BR (w:World) (M:TypeId) (n:Nd) (k:Int):dz:=λv w'=>∃ vs vf,v=.tuple #[.agg (aP n.me n.pr vs vf),.int .i64 k]/\St w [.sl vs M 33 n.sc.length (ap n.sc),.sl vf M 33 n.fg.length (ap n.fg)] w'
theorem pi {w w':World} {M:TypeId} {B:List Own} {n:Nd} {k q:Int} (s:St w B w') (hn:n=Fi) (hk:k=q):BR w M n k (.tuple #[.agg (aP bz bz au au),.int .i64 q]) w':=by
 subst hn;subst hk
 exact ⟨au,au,rfl,((s.pick [] (at5 _)).nilSl M 33).nilSl M 33⟩
theorem ke {w w':World} {M:TypeId} {n:Nd} {a p:Mb} {l f:List Mb} {vs vf:Value} {k q:Int} (hn:n=⟨a,p,l,f⟩) (hk:k=q) (h:St w [.sl vs M 33 l.length (ap l),.sl vf M 33 f.length (ap f)] w'):BR w M n k (.tuple #[.agg (aP a p vs vf),.int .i64 q]) w':=by
 subst hn;subst hk
 exact ⟨vs,vf,rfl,h⟩
theorem Ti {w w':World} {M:TypeId} {n:Nd} {a p:Mb} {l f:List Mb} {vs vf:Value} (hn:n=⟨a,p,l,f⟩) (h:St w [.sl vs M 33 l.length (ap l),.sl vf M 33 f.length (ap f)] w'):Xy w M n (.agg (aP a p vs vf)) w':=by
 subst hn
 exact ⟨vs,vf,rfl,h⟩
theorem vB {w:World} {B:List Own} {w':World} {v:Value} {M:TypeId} {l r:List Mb} (h:l=r) (s:St w (.sl v M 33 l.length (ap l)::B) w'):St w (.sl v M 33 r.length (ap r)::B) w':=by subst h;exact s
theorem tM (ls:List (List Mb)) (k:Nat) (h:k<ls.length):(ls.take (k+1)).flatten=(ls.take k).flatten++ls.getD k []:=by
 rw [List.take_succ_eq_append_getElem h,List.flatten_append,au1,as3 h];simp
theorem qO (ls:List (List Mb)) (k:Nat) (h:k<ls.length):(ls.take k).flatten.length+(ls.getD k []).length=(ls.take (k+1)).flatten.length:=by
 rw [tM ls k h,as2]
theorem CK (ls:List (List Mb)) (k:Nat) (h:k<ls.length):ap (ls.take k).flatten++ap (ls.getD k [])=ap (ls.take (k+1)).flatten:=by
 rw [tM ls k h,fF]
theorem Dj (ls:List (List Mb)) (k:Nat):(ls.take k).flatten.length<=ls.flatten.length:=by
 have:=ar8 (λx=>x.flatten.length) (au2 k ls)
 simp only [List.flatten_append,as2] at this
 omega
theorem yY {w:World} {base:Nat} {e:TypeId} {v:Value} {ls:List (List Mb)} {i:Nat} (hi:ls.length<=i) (h:cI w base e 33 v (ls.take i).flatten.length (ap (ls.take i).flatten)):cI w base e 33 v ls.flatten.length (ap ls.flatten):=by
 rwa [au4 hi] at h
theorem Cj {w:World} {a:Option Addr} {n c:Nat} {l:List Mb} (ha:a.isNone=true) (h:br w (.slice a n c) 33 l.length (ap l)):l=[]:=by
 cases a with
 |some p=>cases ha
 |none=>
  rcases h.2 with ⟨h1,h2⟩|⟨p,cap,h1,_⟩
  ·exact List.eq_nil_of_length_eq_zero h2
  ·cases h1
def wW (q:Mb->Bool) (l:List Mb) (j:Nat):List Mb:=(l.take j).filter q++l.drop ((l.take j).filter q).length
def np (q:Mb->Bool) (l:List Mb) (j:Nat):Nat:=((l.take j).filter q).length
theorem AV (q:Mb->Bool) (l:List Mb) (j:Nat):np q l j<=j:=by
 unfold np
 have:=av7 q (l.take j)
 rw [av5] at this;omega
theorem Po (q:Mb->Bool) (l:List Mb) (j:Nat):np q l j<=l.length:=by
 unfold np
 have:=av7 q (l.take j)
 rw [av5] at this;omega
theorem Ds (q:Mb->Bool) (l:List Mb) (j:Nat):(wW q l j).length=l.length:=by
 have:=Po q l j
 unfold np at this
 unfold wW;rw [as2,au7];omega
theorem P6 {q:Mb->Bool} {l:List Mb} {j:Nat} (hj:j<l.length):(wW q l j).getD j bz=l.getD j bz:=by
 have h1:=AV q l j
 unfold np at h1
 unfold wW
 rw [au1,av2 h1,ay3,au1]
 congr 2
 omega
theorem Hk {q:Mb->Bool} {l:List Mb} {j:Nat} (hj:j<l.length) (h:q (l.getD j bz)=false):wW q l (j+1)=wW q l j/\np q l (j+1)=np q l j:=by
 have e:(l.take (j+1)).filter q=(l.take j).filter q:=by rw [tK hj,ay9,List.filter_cons,h];simp
 unfold wW np;rw [e];exact ⟨rfl,rfl⟩
theorem Eu {q:Mb->Bool} {l:List Mb} {j:Nat} (hj:j<l.length) (h:q (l.getD j bz)=true):wW q l (j+1)=(wW q l j).set (np q l j) (l.getD j bz)/\np q l (j+1)=np q l j+1:=by
 have e:(l.take (j+1)).filter q=(l.take j).filter q++[l.getD j bz]:=by rw [tK hj,ay9,List.filter_cons,h];simp
 have h1:=AV q l j
 refine ⟨?_,by unfold np;rw [e,as2];rfl⟩
 unfold np at h1
 unfold wW np
 rw [e,as2]
 show (_++[_])++l.drop (_+1)=_
 rw [List.set_append_right _ _ (at6 _),Nat.sub_self,aw8]
 congr 1
 rw [List.drop_eq_getElem_cons (show ((l.take j).filter q).length<l.length by omega),List.set_cons_zero];rfl
theorem Fy {q:Mb->Bool} {l:List Mb} {k:Nat} (hk:k<l.length) (h:∀ i,i<k->q (l.getD i bz)=true) (hq:q (l.getD k bz)=false):wW q l (k+1)=l/\np q l (k+1)=k:=by
 have e:(l.take k).filter q=l.take k:=by
  rw [List.filter_eq_self]
  intro x hx
  obtain ⟨i,hi,rfl⟩:=List.mem_iff_getElem.1 hx
  rw [av5] at hi
  rw [List.getElem_take,yo (by omega)]
  exact h i (by omega)
 obtain ⟨e1,e2⟩:=Hk hk hq
 rw [e1,e2]
 unfold wW np
 rw [e,av5,Nat.min_eq_left (by omega),au2]
 exact ⟨rfl,rfl⟩
theorem Ok (q:Mb->Bool) (l:List Mb):np q l l.length=(l.filter q).length:=by unfold np;rw [List.take_length]
theorem P5 (q:Mb->Bool) (l:List Mb):wW q l l.length=l.filter q++l.drop (l.filter q).length:=by unfold wW;rw [List.take_length]
theorem SI {q:Mb->Bool} {l:List Mb} {k:Nat} (hk:k<l.length) (hq:q (l.getD k bz)=false):(l.filter q).length<l.length:=by
 rcases at9 (l.filter q).length l.length with h|h
 ·exact h
 ·have h1:=av7 q l
  have h2:l.filter q=l:=List.filter_eq_self.2 (by
   have:=List.length_filter_eq_length_iff.1 (show (l.filter q).length=l.length by omega)
   exact this)
  have h3:=List.filter_eq_self.1 h2 _ (iI hk)
  rw [hq] at h3;cases h3
theorem GL (q:Mb->Bool) (l:List Mb):(ap (wW q l l.length)).take ((l.filter q).length*33)=ap (l.filter q):=by
 rw [P5,fF,List.take_left' (i1 _)]
theorem Gy {l:List Mb} {p:Mb->Bool} (h:∀ x∈l,p x=false):(l.filter λx => !p x)=l:=List.filter_eq_self.2 λx hx=>by rw [h x hx];rfl
theorem WP (nos:List Int) (k:Nat) (h:k<nos.length):(nos.map (Value.int .i64))[k]? = some (.int .i64 (nos.getD k 0)):=by
 rw [aw5,au1,as3 h];rfl
theorem nsD {nos:List Int} {k:Nat} (h:k<nos.length):nos[k]=nos.getD k 0:=by rw [au1,as3 h];rfl
theorem Qi {nos:List Int} {no:Int} {r:Int} (h:(r = -1/\∀ k,k<nos.length->nos.getD k 0≠no)∨∃ k:Nat,k<nos.length/\r=(k:Int)/\nos.getD k 0=no):decide (0<=r)=nos.any λk=>decide (k=no):=by
 rcases h with ⟨rfl,h⟩|⟨k,hk,rfl,h⟩
 ·rw [ar6 (by decide)]
  symm
  rw [ay0]
  intro x hx
  obtain ⟨i,hi,rfl⟩:=List.mem_iff_getElem.1 hx
  have:=h i hi
  rw [← nsD hi] at this
  simpa using this
 ·rw [ar7 (by omega)]
  symm
  rw [ax9]
  exact ⟨nos[k],ax6 hk,by rw [nsD hk];simpa using h⟩
section
variable {P:Program} {ρ:Operand->Value} {d:Option Tmp} {ty:TypeId} {pos:String} {af:Array Edge} {g:Option (Nat × Bool)} {x y z:Operand} {t:TypeId}
end
def Wc (m:Mb):Nd:=bif gb m then ⟨m,fe,[m],[]⟩ else Fi
def Y9 (m:Mb):Int:=bif gb m then 0 else 1
theorem zl {m:Mb} (h:gb m=false):Wc m=Fi/\Y9 m=1:=by unfold Wc Y9;rw [h];exact ⟨rfl,rfl⟩
theorem yW {m:Mb} (h:gb m=true):Wc m=⟨m,fe,[m],[]⟩/\Y9 m=0:=by unfold Wc Y9;rw [h];exact ⟨rfl,rfl⟩
theorem NI {w w':World} {M:TypeId} {n:Nd} {a p:Mb} {l:List Mb} {vs:Value} {k q:Int} (hn:n=⟨a,p,l,[]⟩) (hk:k=q) (h:St w [.sl vs M 33 l.length (ap l)] w'):BR w M n k (.tuple #[.agg (aP a p vs au),.int .i64 q]) w':=
 ke hn hk ((h.nilSl M 33).perm (ay8 _ _ _))
theorem lM {w:World} {v:Value} {sz n:Nat} {xs:List Value} (h:br w v sz n xs):v.cells.size=1:=by obtain ⟨a,c,rfl⟩:=h.len;rfl
theorem jE {w:World} {v:Value} {sz n:Nat} {xs:List Value} (h:br w v sz n xs):v.cells.toList=[v]:=by obtain ⟨a,c,rfl⟩:=h.len;rfl
section
variable {P:Program} {a:Act} {w w0:World} {N:Nat} {L:List (Nat × Value)} {B:List Own} {fn:Func} {T:dz}
theorem nR {p q:Tmp} {b n D:Nat} {C:Array Value} {V:Value} {t u:TypeId} (i j:Nat) (hres:fn.results=#[.cell p t,.tmp q]) (h:Sl N a L [{target:=.collected D,args:=#[]}]) (s:St w0 B w) (hr:Row P t n) (hp:lk L p=some (.pointer (some ⟨b,0,none⟩))) (hq:lk L q=some V)
 (hj:B[j]? = some (.blk D (.deferred (some [])))) (hij:(B.set j (.blk D (.deferred none)))[i]? = some (.blk b (.cells C u))) (hn:C.size=n) (hT:∀ w',St w0 (B.set j (.blk D (.deferred none))) w'->T (.tuple #[.agg C,V]) w'):bodyPostM (FR none) 0 P fn (cd w0 T) .ret a w:=by
 show LeavesInM (FR none) 0 P fn a.tmps (cd w0 T) a.defers .returning w
 rw [h.defers]
 have s2:=s.putObj j hj (.deferred none)
 refine ⟨by simp,.inl ⟨D,_,rfl,run_takeDeferred (s.get j hj),?_⟩⟩
 have hp':a.tmps[p]?.getD undef=.pointer (some ⟨b,0,none⟩):=by simpa using h.holds p _ hp
 have hq':a.tmps[q]?.getD undef=V:=by simpa using h.holds q _ hq
 refine ⟨.tuple #[.agg C,V],?_,_,rfl,hT _ s2,s2.ext⟩
 simp [results,hres,hp',hq',asAddr,dC hr _ b C u (0,0) (s2.get i hij) hn]
theorem jg {p q:Tmp} {b n:Nat} {C:Array Value} {V:Value} {t u:TypeId} (i:Nat) (hres:fn.results=#[.cell p t,.tmp q]) (h:Sl N a L) (s:St w0 B w) (hr:Row P t n) (hp:lk L p=some (.pointer (some ⟨b,0,none⟩))) (hq:lk L q=some V)
 (hi:B[i]? = some (.blk b (.cells C u))) (hn:C.size=n) (hT:T (.tuple #[.agg C,V]) w):bodyPostM (FR none) 0 P fn (cd w0 T) .ret a w:=by
 show LeavesInM (FR none) 0 P fn a.tmps (cd w0 T) a.defers .returning w
 rw [h.defers]
 have hp':a.tmps[p]?.getD undef=.pointer (some ⟨b,0,none⟩):=by simpa using h.holds p _ hp
 have hq':a.tmps[q]?.getD undef=V:=by simpa using h.holds q _ hq
 refine ⟨.tuple #[.agg C,V],?_,_,rfl,hT,s.ext⟩
 simp [results,hres,hp',hq',asAddr,dC hr _ b C u (0,0) (s.get i hi) hn]
end
theorem C3 {no:Int} {l:List Mb} {d:Nat} (hm:d<=(eB no l).length) (hd:d<l.length) (h:decide ((l.getD d bz).1=no)=false):d<(eB no l).length:=
 uv hd (λj hj=>by have h1:=(nU (iI (show j<(eB no l).length by omega))).2;rwa [nA (by omega)] at h1) (ar5 h)
theorem JU (cur:List Value) (z:List Value) (q:Mb->Bool) (l:List Mb) (h1:cur.take (l.length*33)=ap (wW q l l.length)) (hl:l.length*33<=cur.length) (hz:z.length=(l.length - (l.filter q).length)*33) (o:Nat) (ho:o=(l.filter q).length*33) (m:Nat) (hm:m=(l.length - (l.filter q).length)*33):
 (cur.take o++z++cur.drop (o+m)).length=cur.length/\(cur.take o++z++cur.drop (o+m)).take o=ap (l.filter q):=by
 subst ho;subst hm
 have hle:=av7 q l
 obtain ⟨e1,e2⟩:=NE cur z ((l.filter q).length*33) ((l.length - (l.filter q).length)*33) (by rw [← Nat.add_mul];rw [show (l.filter q).length+(l.length - (l.filter q).length)=l.length by omega];exact hl) hz
 refine ⟨e1,e2.trans ?_⟩
 have h9:=ar8 (List.take ((l.filter q).length*33)) h1
 rw [List.take_take,Nat.min_eq_left (Nat.mul_le_mul_right 33 hle),GL] at h9
 exact h9
theorem U2 {w:World} {v:Value} {sz n:Nat} {xs:List Value} (h:br w v sz n xs):v.cells=#[v]:=by obtain ⟨a,c,rfl⟩:=h.len;rfl
structure FldT (P:Program) (t:TypeId) (f off:Nat) (tf:TypeId):Prop where
 has:∃ fields fd,P.underlying t=some (.struct fields)/\fields[f]? = some fd/\fd.type=tf/\fd.offset=off
def gM (a b:Nd):Bool:=decide (a.me=b.me) && (decide (a.pr=b.pr) && (decide (a.sc=b.sc) && decide (a.fg=b.fg)))
theorem KP (a:Nd):gM a a=true:=by unfold gM;simp
theorem TJ {a b:Nd} (h:a=b):gM a b=true:=by subst h;exact KP a
theorem aa8 {a b:Nd} (h:decide (a.me=b.me)=false):gM a b=false:=by unfold gM;rw [h];rfl
theorem ag7 {a b:Nd} (h:decide (a.pr=b.pr)=false):gM a b=false:=by unfold gM;rw [h,Bool.false_and,Bool.and_false]
theorem ah4 {a b:Nd} (h:decide (a.sc=b.sc)=false):gM a b=false:=by unfold gM;rw [h,Bool.false_and,Bool.and_false,Bool.and_false]
theorem ae9 {a b:Nd} (h:decide (a.me=b.me)=true) (h1:decide (a.pr=b.pr)=true) (h2:decide (a.sc=b.sc)=true):gM a b=decide (a.fg=b.fg):=by unfold gM;rw [h,h1,h2];rfl
def Wk (w:World) (M:TypeId) (a p:Mb) (l:List Mb) (vf:Value):dz:=λv w'=>∃ vo,v=.agg (aP a p vo vf)/\cI w' w.heap.size M 33 vo l.length (ap l)
def DrR (w:World) (M:TypeId) (a p:Mb) (s f:List Mb):dz:=λv w'=>∃ vs vf,v=.agg (aP a p vs vf)/\St w [.sl vs M 33 s.length (ap s),.sl vf M 33 f.length (ap f)] w'
def Tu (a p:Mb) (l:List Mb) (vf:Value):dz:=λv w=>∃ vo,v=.agg (aP a p vo vf)/\br w vo 33 l.length (ap l)
theorem Tu.mono (a p:Mb) (l:List Mb) (vf:Value):p6 (Tu a p l vf):=λ_ _ _ ⟨vo,h1,h2⟩ hE=>⟨vo,h1,h2.keep hE⟩
theorem Wk.d {w w':World} {M:TypeId} {a p:Mb} {l:List Mb} {vf v:Value} (h:Wk w M a p l vf v w'):Tu a p l vf v w':=by obtain ⟨vo,h1,h2⟩:=h;exact ⟨vo,h1,br.of_own h2⟩
def ZE (a p:Mb) (s f:List Mb):dz:=λv w=>∃ vs vf,v=.agg (aP a p vs vf)/\br w vs 33 s.length (ap s)/\br w vf 33 f.length (ap f)
theorem ZE.mono (a p:Mb) (s f:List Mb):p6 (ZE a p s f):=λ_ _ _ ⟨vs,vf,h1,h2,h3⟩ hE=>⟨vs,vf,h1,h2.keep hE,h3.keep hE⟩
theorem DrR.d {w w':World} {M:TypeId} {a p:Mb} {s f:List Mb} {v:Value} (h:DrR w M a p s f v w'):ZE a p s f v w':=by
 obtain ⟨vs,vf,h1,h2⟩:=h
 exact ⟨vs,vf,h1,br.of_own (h2.getSl 0 rfl),br.of_own (h2.getSl 1 rfl)⟩
def slc:Option Value->Value
 |some (.slice p n k)=>.slice p n k
 |_=>au
theorem NG (o:Option Value):(slc o).oneCell'=true:=by
 unfold slc
 split<;>rfl
def Yo (i:Nat):Option Value->Value
 |some (Value.agg c)=>slc (c[i]?)
 |_=>au
def bG (i:Nat):Value->Value
 |Value.tuple a=>Yo i (a[0]?)
 |_=>au
theorem PD (i:Nat) (o:Option Value):(Yo i o).oneCell'=true:=by
 unfold Yo
 split
 ·exact NG _
 ·rfl
theorem g6 (i:Nat) (v:Value):(bG i v).oneCell'=true:=by
 unfold bG
 split
 ·exact PD _ _
 ·rfl
theorem rr {a p:Mb} {vs vf:Value} {k:Int} {w:World} {sz n:Nat} {xs:List Value} (h:br w vs sz n xs):bG 66 (.tuple #[.agg (aP a p vs vf),.int .i64 k])=vs:=by
 obtain ⟨q,c,rfl⟩:=h.len
 have h1:(#[Value.agg (aP a p (.slice q n c) vf),Value.int .i64 k]:Array Value)[0]? = some (Value.agg (aP a p (.slice q n c) vf)):=rfl
 unfold bG
 simp only [h1,Yo]
 rw [gc];rfl
theorem sJ {a p:Mb} {vs vf:Value} {k:Int} {w:World} {sz n:Nat} {xs:List Value} (h:br w vf sz n xs):bG 67 (.tuple #[.agg (aP a p vs vf),.int .i64 k])=vf:=by
 obtain ⟨q,c,rfl⟩:=h.len
 have h1:(#[Value.agg (aP a p vs (.slice q n c)),Value.int .i64 k]:Array Value)[0]? = some (Value.agg (aP a p vs (.slice q n c))):=rfl
 unfold bG
 simp only [h1,Yo]
 rw [ik];rfl
abbrev N3:=Nd × Value × Value
def z3:N3:=(Fi,au,au)
def x6 (x:N3):List Value:=mm x.1.me x.1.pr x.2.1 x.2.2
def ax (l:List N3):List Value:=l.flatMap x6
theorem jV (x:N3):(x6 x).length=68:=CW _ _ _ _
theorem eE (l:List N3) (j:Nat) (hj:j<l.length):(((ax l).drop (j*68)).take 68).toArray=aP (l.getD j z3).1.me (l.getD j z3).1.pr (l.getD j z3).2.1 (l.getD j z3).2.2:=by
 unfold ax
 rw [fk _ 68 jV l j hj,au1,as3 hj];rfl
def CU (w:World) (x:N3):Prop:=br w x.2.1 33 x.1.sc.length (ap x.1.sc)/\br w x.2.2 33 x.1.fg.length (ap x.1.fg)
end Go.Proofs.YtkhepdpfdhdlaaaGreatDoor
namespace Go.Proofs.YtkhepdpfdhdlaaaGreatDoor
open Go.RowKit Go.ChangeShapes Go.WideShapes Go.ChangeAt
theorem uJ {H:Type} {enc:TypeId × Value->H} {P:Program} {W:World} {ts t tn ti e:TypeId} {f0 f1:Field} {fuel:Nat} {cs:List Value} {x:DataW H × List MemPlace} (T:IdTy P ti e) (hc:P.cellsOf ti=32) (hce:P.cellsOf e=1) (hn:P.underlying tn=some (.int .i64)) (hcn:P.cellsOf tn=1)
 (hts:P.underlying ts=some (.slice t)) (ht:P.underlying t=some (.struct #[f0,f1])) (h0:f0.type=tn) (h1:f1.type=ti) (o0:f0.offset=0) (o1:f1.offset=1) (hct:P.cellsOf t=33)
 (hf:DataW.trod enc P W 0 (λ_=>true) true fuel ts cs=some x):∃ (v:Value) (ls:List Mb),cs=[v]/\br W v 33 ls.length (ap ls):=by
 rcases Go.Deep.open_slice hts hf with ⟨hcs,_⟩|⟨a',len,cap,m,k,D,Pl,hcs,_,hl,_,hm,_,hel⟩
 ·exact ⟨_,[],hcs,rfl,.inl ⟨rfl,rfl⟩⟩
 ·have hml:len<=m:=by rw [hm];split<;>omega
  have each:∀ i,∃ l:Mb,i<len->aF W (a'.add (i*33)) (ay l):=λi=>by
   by_cases hi:i<len
   ·obtain ⟨cs',hc1,hc2⟩:=hel i (by omega)
    obtain ⟨l,rfl⟩:=rJ T hc hce hn hcn ht h0 h1 o0 o1 hct hc2
    refine ⟨l,λ_ j u hj=>?_⟩
    rw [hct] at hc1
    obtain ⟨_,hlen,hall⟩:=World.cells?_some hc1
    have hj33:j<33:=by have:=(ay6.1 hj).1;rw [ai] at this;exact this
    have:=hall j hj33
    rw [this,ay4];exact hj
   ·exact ⟨bz,λh9=>az2 h9 hi⟩
  obtain ⟨L,hL⟩:=Classical.axiomOfChoice each
  refine ⟨_,(List.range len).map L,hcs,?_,.inr ⟨a',cap,by simp,by simpa using hl,?_⟩⟩
  ·rw [i1]
  ·refine n7 _ 33 (by decide) cT _ λi hi=>?_
   have hi':i<len:=by simpa using hi
   have h9:((List.range len).map L)[i]=L i:=by simp
   rw [h9]
   exact hL i hi'
theorem Nz {cs a b c d:List Value} (hl:cs.length=68) (h0:(cs.drop 0).take 33=a) (h1:(cs.drop 33).take 33=b) (h2:(cs.drop 66).take 1=c) (h3:(cs.drop 67).take 1=d):cs=a++(b++(c++d)):=by
 subst h0;subst h1;subst h2;subst h3
 have e3:(cs.drop 67).take 1=cs.drop 67:=au4 (by rw [au7];omega)
 have e2:(cs.drop 66).take 1++cs.drop 67=cs.drop 66:=by
  have:=au2 1 (cs.drop 66)
  rwa [List.drop_drop] at this
 have e1:(cs.drop 33).take 33++cs.drop 66=cs.drop 33:=by
  have:=au2 33 (cs.drop 33)
  rwa [List.drop_drop] at this
 rw [e3,e2,e1,List.drop_zero,au2]
end Go.Proofs.YtkhepdpfdhdlaaaGreatDoor
