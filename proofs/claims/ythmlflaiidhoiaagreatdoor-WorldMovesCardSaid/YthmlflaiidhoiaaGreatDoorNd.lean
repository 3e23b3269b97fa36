/- Nodes: which may be, what becomes of them; nodes that come in. -/
import Derived.Test.YthmlflaiidhoiaaGreatDoorRg
set_option linter.unusedVariables false
set_option linter.unusedSimpArgs false
set_option linter.unusedSectionVars false
namespace Go.Proofs.YthmlflaiidhoiaaGreatDoor
open Go.RowKit
structure Nd where
 me:Mb
 pr:Mb
 sc:List Mb
 fg:List Mb
def Yg:Nd:=⟨bH,bH,[],[]⟩
def ax:Value:=.slice none 0 0
def nP (m p:Mb) (vs vf:Value):List Value:=nq m++(nq p++[vs,vf])
def bu (m p:Mb) (vs vf:Value):Array Value:=(nP m p vs vf).toArray
theorem EF (m p:Mb) (vs vf:Value):(nP m p vs vf).length=68:=by simp [nP,cD]
theorem aP (m p:Mb) (vs vf:Value):(bu m p vs vf).size=68:=by simp [bu,EF]
theorem cI {m p:Mb} {vs vf:Value} (h1:vs.oneCell'=true) (h2:vf.oneCell'=true):∀ v∈(bu m p vs vf).toList,v.oneCell'=true:=λv hv=>by
 have hv:v∈nP m p vs vf:=hv
 unfold nP at hv
 rcases aK9.1 hv with hv|hv
 ·exact mB m v hv
 ·rcases aK9.1 hv with hv|hv
  ·exact mB p v hv
  ·simp only [aI6,aI9,or_false] at hv
   rcases hv with rfl|rfl
   ·exact h1
   ·exact h2
theorem LP (m p:Mb) (vs vf:Value) (i:Nat):(bu m p vs vf)[i]? = (nP m p vs vf)[i]? := by simp [bu]
theorem mz (m p:Mb) (vs vf:Value):(bu m p vs vf)[0]? = some (.int .i64 m.1):=rfl
theorem XB (m p:Mb) (vs vf:Value) (i:Nat):(nP m p vs vf)[33+i]? = (nq p++[vs,vf])[i]? := by
 unfold nP
 rw [aK7 (by rw [cD];omega),cD,Nat.add_sub_cancel_left]
theorem zh (m p:Mb) (vs vf:Value) (i:Nat):(nP m p vs vf)[66+i]? = [vs,vf][i]? := by
 rw [show 66+i=33+(33+i) by omega,XB,aK7 (by rw [cD];omega),cD,Nat.add_sub_cancel_left]
theorem gn (m p:Mb) (vs vf:Value):(bu m p vs vf)[66]? = some vs:=by rw [LP];exact zh m p vs vf 0
theorem kv (m p:Mb) (vs vf:Value):(bu m p vs vf)[67]? = some vf:=by rw [LP];exact zh m p vs vf 1
theorem uT (l:List Value) (o n:Nat) (D:List Value) (h:(l.drop o).take n=D):l.toArray.extract o (o+n)=D.toArray:=by
 apply Array.ext'
 rw [Array.toList_extract,List.extract_eq_take_drop,Nat.add_sub_cancel_left]
 exact h
theorem dE (m p:Mb) (vs vf:Value):(bu m p vs vf).extract 0 (0+33)=ar m:=uT _ _ _ _ (by
 rw [List.drop_zero];unfold nP;rw [List.take_left' (cD m)])
theorem A6 (m p:Mb) (vs vf:Value) (i:Nat) (h:i<=33):(nP m p vs vf).drop (33+i)=(nq p).drop i++[vs,vf]:=by
 unfold nP
 rw [← List.drop_drop,List.drop_left' (cD m),List.drop_append_of_le_length (by rw [cD];exact h)]
theorem di (m p:Mb) (vs vf:Value):(bu m p vs vf).extract 33 (33+33)=ar p:=uT _ _ _ _ (by
 rw [A6 m p vs vf 0 (by omega),List.drop_zero,List.take_left' (cD p)])
theorem OB (m:Mb):(nq m).drop 1=(aH m.2).toList:=rfl
theorem BU (m p:Mb) (vs vf:Value):(bu m p vs vf).extract 1 (1+32)=aH m.2:=uT _ _ _ (aH m.2).toList (by
 unfold nP
 rw [List.drop_append_of_le_length (by rw [cD];omega),OB,List.take_left' (by rw [aI2,aA])])
theorem tR (m p:Mb) (vs vf v:Value):(bu m p vs vf).setIfInBounds 66 v=bu m p v vf:=by
 apply Array.ext'
 rw [Array.toList_setIfInBounds]
 show (nP m p vs vf).set 66 v=nP m p v vf
 unfold nP
 rw [List.set_append_right _ _ (by rw [cD];omega),List.set_append_right _ _ (by rw [cD,cD];omega),cD,cD]
 rfl
theorem sX (m p:Mb) (vs vf v:Value):(bu m p vs vf).setIfInBounds 67 v=bu m p vs v:=by
 apply Array.ext'
 rw [Array.toList_setIfInBounds]
 show (nP m p vs vf).set 67 v=nP m p vs v
 unfold nP
 rw [List.set_append_right _ _ (by rw [cD];omega),List.set_append_right _ _ (by rw [cD,cD];omega),cD,cD]
 rfl
theorem Gs (m p q:Mb) (vs vf:Value):((bu m p vs vf).toList.take 33++(ar q).toList++(bu m p vs vf).toList.drop (33+(ar q).size)).toArray=bu m q vs vf:=by
 rw [aj]
 show ((nP m p vs vf).take 33++nq q++(nP m p vs vf).drop (33+33)).toArray=(nP m q vs vf).toArray
 rw [A6 m p vs vf 33 (aJ1 _),List.drop_of_length_le (by rw [cD];exact aJ1 _),List.nil_append]
 unfold nP
 rw [List.take_left' (cD m),aM3]
theorem bI {w:World} {v:Value} {sz n:Nat} {xs:List Value} (h:bs w v sz n xs):v.oneCell'=true:=by
 obtain ⟨a,c,rfl⟩:=h.len
 rfl
def ndZ:List (List Value):=[.int .i64 0::List.replicate 32 (.int .u8 0),.int .i64 0::List.replicate 32 (.int .u8 0),[.slice none 0 0],[.slice none 0 0]]
theorem BI:nq bH=Value.int .i64 0::List.replicate 32 (Value.int .u8 0):=by
 have:=aH3 Array.toList yG
 exact this
theorem Ra:bu bH bH ax ax=ndZ.flatten.toArray:=by
 unfold bu nP
 rw [BI];rfl
section
variable {P:Program} {ρ:Operand->Value} {d:Option Tmp} {ty:TypeId} {pos:String} {af:Array Edge} {g:Option (Nat × Bool)} {x y z:Operand} {t:TypeId}
theorem pa (S:Stt P t ndZ):aZ P ⟨d,.build t #[],ty,pos,af,g⟩ ρ (.agg (bu bH bH ax ax)):=by
 have:=bw (P:=P) (ρ:=ρ) (d:=d) (ty:=ty) (pos:=pos) (af:=af) (g:=g) (parts:=#[]) S [] (by simp) (λi v hm=>by simp at hm) (D:=nP bH bH ax ax) (by unfold nP;rw [BI];rfl)
 exact this
theorem xy {m p:Mb} {v:Value} (S:Stt P t ndZ) (hv:v.cells.size=1) (hc:v.cells.toList=[v]) (hx:ρ x=.agg (ar m)) (hy:ρ y=.agg (ar p)) (hz:ρ z=v):aZ P ⟨d,.build t #[(0,x),(1,y),(2,z)],ty,pos,af,g⟩ ρ (.agg (bu m p v ax)):=by
 have:=bw (P:=P) (ρ:=ρ) (d:=d) (ty:=ty) (pos:=pos) (af:=af) (g:=g) (parts:=#[(0,x),(1,y),(2,z)]) S [(0,.agg (ar m)),(1,.agg (ar p)),(2,v)] (by simp [hx,hy,hz]) (λi u hm=>by
  simp only [aI6,aM8,aI9,or_false] at hm
  rcases hm with ⟨rfl,rfl⟩|⟨rfl,rfl⟩|⟨rfl,rfl⟩
  ·exact ⟨_,rfl,by show (ar m).size=_;rw [aj];rfl⟩
  ·exact ⟨_,rfl,by show (ar p).size=_;rw [aj];rfl⟩
  ·exact ⟨_,rfl,hv⟩) (D:=nP m p v ax) (by
   show (ar m).toList++((ar p).toList++(v.cells.toList++([ax]++[])))=_
   rw [hc];rfl)
 exact this
end
def im (m:Mb):Bool:=decide (0<=m.1) && decide (m.1<16)
theorem r4 {m:Mb}:im m=true↔0<=m.1/\m.1<16:=by unfold im;rw [aH5,aI0,aI0]
theorem aa0 {m:Mb} (h:decide (0<=m.1)=false):im m=false:=by unfold im;rw [h];rfl
theorem ag2 {m:Mb} (h:decide (0<=m.1)=true):im m=decide (m.1<16):=by unfold im;rw [h];rfl
def Ct (l:List Mb) (no:Int):Bool:=l.any λx=>decide (x.1=no)
theorem P3 {l:List Mb} {no:Int}:Ct l no=true↔∃ x∈l,x.1=no:=by
 unfold Ct;rw [aN4]
 exact ⟨λ⟨x,h,e⟩=>⟨x,h,aG9 e⟩,λ⟨x,h,e⟩=>⟨x,h,aH2 e⟩⟩
theorem Sa {l:List Mb} {no:Int}:Ct l no=false↔∀ x∈l,x.1≠no:=by
 rw [← Bool.not_eq_true,P3]
 exact ⟨λh x hx e=>h ⟨x,hx,e⟩,λh ⟨x,hx,e⟩=>h x hx e⟩
def px (l:List Mb) (no:Int) (d:Nat):Bool := !im (l.getD d bH) || (decide ((l.getD d bH).1=no) || Ct (l.take d) (l.getD d bH).1)
def tS (l:List Mb) (no:Int):Bool:=(List.range l.length).all λd => !px l no d
structure Oth (l:List Mb) (no:Int):Prop where
 may:∀ x∈l,0<=x.1/\x.1<16
 ne:∀ x∈l,x.1≠no
 nd:l.Pairwise λa b=>a.1≠b.1
theorem pQ {l:List Mb} {no:Int} {d:Nat}:px l no d=false↔im (l.getD d bH)=true/\(l.getD d bH).1≠no/\∀ x∈l.take d,x.1≠(l.getD d bH).1:=by
 unfold px
 rw [Bool.or_eq_false_iff,Bool.or_eq_false_iff,Bool.not_eq_false',decide_eq_false_iff_not,Sa]
theorem Yf {l:List Mb} {no:Int} {d:Nat} (h:im (l.getD d bH)=false):px l no d=true:=by unfold px;rw [h];rfl
theorem UP {l:List Mb} {no:Int} {d:Nat} (h:decide ((l.getD d bH).1=no)=true):px l no d=true:=by unfold px;rw [h];simp
theorem Mu {l:List Mb} {no:Int} {d:Nat} (h:im (l.getD d bH)=true) (h1:decide ((l.getD d bH).1=no)=false):px l no d=Ct (l.take d) (l.getD d bH).1:=by unfold px;rw [h,h1];rfl
theorem yE {l:List Mb} {no:Int}:tS l no=true↔∀ d,d<l.length->px l no d=false:=by
 unfold tS;rw [aH6]
 exact ⟨λh d hd=>by have:=h d (aI7.2 hd);simpa using this,λh d hd=>by rw [h d (aI7.1 hd)];rfl⟩
theorem P0 {l:List Mb} {no:Int}:tS l no=true↔Oth l no:=by
 rw [yE]
 constructor
 ·intro h
  refine ⟨λx hx=>?_,λx hx=>?_,?_⟩
  ·obtain ⟨j,hj,rfl⟩:=pA hx
   exact r4.1 (pQ.1 (h j hj)).1
  ·obtain ⟨j,hj,rfl⟩:=pA hx
   exact(pQ.1 (h j hj)).2.1
  ·rw [List.pairwise_iff_getElem]
   intro i j hi hj hij
   have h9:=(pQ.1 (h j hj)).2.2 l[i] (List.mem_iff_getElem.2 ⟨i,by rw [aL0];omega,List.getElem_take⟩)
   rwa [← yI hj] at h9
 ·rintro ⟨h1,h2,h3⟩ d hd
  refine pQ.2 ⟨r4.2 (h1 _ (i8 hd)),h2 _ (i8 hd),λx hx=>?_⟩
  obtain ⟨i,hi,rfl⟩:=List.mem_iff_getElem.1 hx
  rw [aL0] at hi
  rw [List.getElem_take,← yI hd]
  exact List.pairwise_iff_getElem.1 h3 i d (by omega) hd (by omega)
theorem uu {l:List Mb} {no:Int} {d:Nat} (hd:d<l.length) (h:px l no d=true):tS l no=false:=by
 rw [← Bool.not_eq_true,yE];intro h9;rw [h9 d hd] at h;cases h
theorem JL {l:List Mb} {no:Int} {k:Nat} (hk:l.length<=k) (h:∀ j,j<k->px l no j=false):tS l no=true:=yE.2 λd hd=>h d (by omega)
def sW (p:Mb) (no:Int):Bool:=decide (p=i1) || (im p && decide (p.1≠no))
def rE (l:List Mb) (m:Mb):Bool:=decide (l=[m]) || (decide (1<=l.length) && (decide (l.length<=4) && tS l m.1))
def Ar (l:List Mb) (no:Int):Bool:=decide (l.length<=16) && tS l no
def ex (n:Nd):Bool:=im n.me && (sW n.pr n.me.1 && (rE n.sc n.me && Ar n.fg n.me.1))
theorem ad9 {p:Mb} {no:Int} (h:decide (p=i1)=true):sW p no=true:=by unfold sW;rw [h];rfl
theorem af7 {p:Mb} {no:Int} (h:decide (p=i1)=false) (h1:im p=false):sW p no=false:=by unfold sW;rw [h,h1];rfl
theorem T4 {p:Mb} {no:Int} (h:decide (p=i1)=false) (h1:im p=true):sW p no=decide (p.1≠no):=by unfold sW;rw [h,h1];rfl
theorem Br {l:List Mb} {m:Mb}:l=[m]↔l.length=1/\l.getD 0 bH=m:=by
 constructor
 ·rintro rfl;exact ⟨rfl,rfl⟩
 ·rintro ⟨h1,h2⟩
  obtain ⟨x,rfl⟩:=List.length_eq_one_iff.1 h1
  have h2:x=m:=h2
  rw [h2]
theorem YJ {l:List Mb} {m:Mb} (h:decide (l.length=1)=true) (h1:decide (l.getD 0 bH=m)=true):rE l m=true:=by
 unfold rE;rw [aH2 (Br.2 ⟨aG9 h,aG9 h1⟩)];rfl
theorem JN {l:List Mb} {m:Mb} (h:¬ (l.length=1/\l.getD 0 bH=m)):rE l m=(decide (1<=l.length) && (decide (l.length<=4) && tS l m.1)):=by
 unfold rE;rw [aH1 λe=>h (Br.1 e)];rfl
theorem S9 {l:List Mb} {m:Mb} (h:¬ (l.length=1/\l.getD 0 bH=m)) (h0:decide (1<=l.length)=false):rE l m=false:=by rw [JN h,h0];rfl
theorem Tf {l:List Mb} {m:Mb} (h:¬ (l.length=1/\l.getD 0 bH=m)) (h0:decide (l.length<=4)=false):rE l m=false:=by rw [JN h,h0,Bool.false_and,Bool.and_false]
theorem Uu {l:List Mb} {m:Mb} (h:¬ (l.length=1/\l.getD 0 bH=m)) (h0:decide (1<=l.length)=true) (h1:decide (l.length<=4)=true):rE l m=tS l m.1:=by rw [JN h,h0,h1];rfl
theorem ab9 {l:List Mb} {no:Int} (h:decide (l.length<=16)=false):Ar l no=false:=by unfold Ar;rw [h];rfl
theorem Yz {l:List Mb} {no:Int} (h:decide (l.length<=16)=true):Ar l no=tS l no:=by unfold Ar;rw [h];rfl
theorem SA {n:Nd} (h:im n.me=false):ex n=false:=by unfold ex;rw [h];rfl
theorem P2 {n:Nd} (h:sW n.pr n.me.1=false):ex n=false:=by unfold ex;rw [h,Bool.false_and,Bool.and_false]
theorem QH {n:Nd} (h:rE n.sc n.me=false):ex n=false:=by unfold ex;rw [h,Bool.false_and,Bool.and_false,Bool.and_false]
theorem PD {n:Nd} (h:im n.me=true) (h1:sW n.pr n.me.1=true) (h2:rE n.sc n.me=true):ex n=Ar n.fg n.me.1:=by unfold ex;rw [h,h1,h2];rfl
structure RN (n:Nd):Prop where
 me:0<=n.me.1/\n.me.1<16
 pr:n.pr=i1∨((0<=n.pr.1/\n.pr.1<16)/\n.pr.1≠n.me.1)
 sc:n.sc=[n.me]∨(1<=n.sc.length/\n.sc.length<=4/\Oth n.sc n.me.1)
 fg:n.fg.length<=16/\Oth n.fg n.me.1
theorem D2 {n:Nd}:ex n=true↔RN n:=by
 unfold ex sW rE Ar
 simp only [aH5,Bool.or_eq_true,aI0,r4,P0]
 exact ⟨λ⟨h1,h2,h3,h4⟩=>⟨h1,h2,h3,h4⟩,λ⟨h1,h2,h3,h4⟩=>⟨h1,h2,h3,h4⟩⟩
theorem RN.len {n:Nd} (h:RN n):1<=n.sc.length/\n.sc.length<=4:=by
 rcases h.sc with h|h
 ·rw [h];exact ⟨aJ1 _,by show 1<=4;omega⟩
 ·exact ⟨h.1,h.2.1⟩
def nxI (n:Nd) (x:Id):Bool:=zb x n.me.2 (n.sc.getD 0 bH).2
def nxC (n:Nd) (x:Id):Mb:=bif decide (csE n.me.2 x (n.fg++n.sc)=0) then csM n.me.2 x (n.fg++n.sc) else n.sc.getD 0 bH
def nxM (n:Nd) (x:Id):Mb:=bif ex n then (bif nxI n x then n.sc.getD 0 bH else nxC n x) else bH
def nxB (n:Nd) (x:Id):Bool:=ex n && nxI n x
def ntP (n:Nd) (x:Mb):Mb:=bif decide (x.1≠n.me.1) && (decide (x.2≠n.me.2) && (decide (n.pr=i1) || zb x.2 n.pr.2 n.me.2)) then x else n.pr
def frB (me:Mb) (s:Nd):Bool := !decide (s.pr=i1) && (!decide (s.pr.1=me.1) && (!decide (s.pr.2=me.2) && (!decide (s.pr.2=s.me.2) && zb s.pr.2 me.2 s.me.2)))
def frM (me:Mb) (s:Nd):Mb:=bif frB me s then s.pr else s.me
def ay7 (no:Int) (l:List Mb):List Mb:=l.takeWhile λx=>decide (x.1≠no)
def ab6 (acc:List Mb) (x:Mb):List Mb:=bif decide (acc.length<4) && !Ct acc x.1 then acc++[x] else acc
def aw4 (l:List Mb):List Mb:=l.foldl ab6 []
def wC (l:List Mb) (me:Mb):List Mb:=bif decide (l.length=0) then [me] else l
def ao8 (n s:Nd):List Mb:=frM n.me s::s.me::s.sc
def ar7 (n s:Nd):List Mb:=wC (aw4 (ay7 n.me.1 (ao8 n s))) n.me
theorem aa4 {l:List Mb} {me:Mb} (h:l.length=0):wC l me=[me]:=by unfold wC;rw [aH2 h];rfl
theorem TA {l:List Mb} {me:Mb} (h:¬ l.length=0):wC l me=l:=by unfold wC;rw [aH1 h];rfl
def gm (nos:List Int) (x:Mb):Bool:=nos.any λno=>decide (no=x.1)
theorem NS {nos:List Int} {x:Mb}:gm nos x=true↔x.1∈nos:=by
 unfold gm;rw [aN4]
 exact ⟨λ⟨k,h,e⟩=>by rw [← aG9 e];exact h,λh=>⟨x.1,h,aH2 rfl⟩⟩
def kz (l:List Mb) (nos:List Int):List Mb:=l.filter λx => !gm nos x
def Tz (n:Nd) (nos:List Int):Mb:=bif gm nos n.pr then i1 else n.pr
def Yv (n:Nd):Int:=bif ex n then 0 else 1
def Yn (n:Nd) (nos:List Int):Nd:=bif ex n then ⟨n.me,Tz n nos,wC (kz n.sc nos) n.me,kz n.fg nos⟩ else Yg
theorem Uk {n:Nd} (nos:List Int) (h:ex n=false):Yn n nos=Yg/\Yv n=1:=by unfold Yn Yv;rw [h];exact ⟨rfl,rfl⟩
theorem AK {n:Nd} (nos:List Int) (h:ex n=true):Yn n nos=⟨n.me,Tz n nos,wC (kz n.sc nos) n.me,kz n.fg nos⟩/\Yv n=0:=by unfold Yn Yv;rw [h];exact ⟨rfl,rfl⟩
theorem ad7 {n:Nd} {nos:List Int} (h:gm nos n.pr=true):Tz n nos=i1:=by unfold Tz;rw [h];rfl
theorem Zh {n:Nd} {nos:List Int} (h:gm nos n.pr=false):Tz n nos=n.pr:=by unfold Tz;rw [h];rfl
def zS (nos:List Int) (no:Int) (x:Mb):Bool:=nos.any λk=>decide (k=x.1) && decide (k≠no)
def jI (l:List Mb) (nos:List Int) (no:Int):List Mb:=l.filter λx => !zS nos no x
theorem vZ {nos:List Int} {no:Int} {x:Mb}:zS nos no x=true↔x.1∈nos/\x.1≠no:=by
 unfold zS;rw [aN4]
 constructor
 ·rintro ⟨k,h,e⟩
  rw [aH5,aI0,aI0] at e
  obtain ⟨rfl,e2⟩:=e
  exact ⟨h,e2⟩
 ·rintro ⟨h,e⟩
  exact ⟨x.1,h,by rw [aH2 rfl,aH2 e];rfl⟩
theorem JT {nos:List Int} {no:Int} {x:Mb} (h:x.1≠no):zS nos no x=gm nos x:=by
 rw [aN6,vZ,NS];exact and_iff_left h
theorem H3 {nos:List Int} {x:Mb}:zS nos x.1 x=false:=by
 rw [← Bool.not_eq_true,vZ];exact λh=>h.2 rfl
theorem sK {l:List Mb} {nos:List Int} {no:Int} (h:∀ x∈l,x.1≠no):jI l nos no=kz l nos:=List.filter_congr λx hx=>by rw [JT (h x hx)]
theorem SO {n:Nd} (h:RN n) (nos:List Int):wC (jI n.sc nos n.me.1) n.me=wC (kz n.sc nos) n.me:=by
 rcases h.sc with h9|h9
 ·rw [h9]
  have h1:jI [n.me] nos n.me.1=[n.me]:=by
   unfold jI;rw [List.filter_cons,H3];rfl
  rw [h1,TA (by show ¬ (1=0);omega)]
  cases hb:gm nos n.me with
  |true=>rw [show kz [n.me] nos=[] by unfold kz;rw [List.filter_cons,hb];rfl];rfl
  |false=>rw [show kz [n.me] nos=[n.me] by unfold kz;rw [List.filter_cons,hb];rfl];rfl
 ·rw [sK h9.2.2.ne]
theorem RP {n:Nd} (h:RN n) (nos:List Int):jI n.fg nos n.me.1=kz n.fg nos:=sK h.fg.2.ne
def US (n:Nd) (nos:List Int):Mb:=bif !decide (n.pr=i1) && decide ((jI [n.pr] nos n.me.1).length=0) then i1 else n.pr
theorem PJ {n:Nd} (h:RN n) (nos:List Int):US n nos=Tz n nos:=by
 unfold US Tz
 rcases h.pr with h9|h9
 ·rw [h9,aH2 rfl]
  cases gm nos i1<;>rfl
 ·have hne:decide (n.pr=i1)=false:=aH1 λe=>by rw [e] at h9;exact aO7 h9.1.1 (by decide)
  rw [hne]
  have h1:jI [n.pr] nos n.me.1=kz [n.pr] nos:=sK λx hx=>by rw [aI4.1 hx];exact h9.2
  rw [h1]
  unfold kz
  rw [List.filter_cons]
  cases gm nos n.pr<;>rfl
theorem St.add {w0 w w':World} {B C:List Own} (s:St w0 B w) (t:St w C w'):St w0 (C++B) w':=by
 refine s.join t.ext C (λp hp=>?_) (λp hp k hk=>t.own p hp k hk) t.nd
 have h:=t.has p hp
 cases p with
 |blk b o=>exact h
 |sl v e sz n xs=>exact cF.low h s.ext.le
 |grp ks S=>exact h
theorem gq.of_mem {w0 w:World} {B:List Own} (s:St w0 B w) {b:Nat} {C:Array Value} {u:TypeId} (h:Own.blk b (.cells C u)∈B):gq w b C:=⟨u,(0,0),s.has _ h⟩
def YL (w:World) (M:TypeId) (n:Nd):ez:=λv w'=>∃ vs vf,v=.agg (bu n.me n.pr vs vf)/\St w [.sl vs M 33 n.sc.length (aq n.sc),.sl vf M 33 n.fg.length (aq n.fg)] w'
def NQ (w:World) (M:TypeId) (n:Nd) (k:Int):ez:=λv w'=>∃ vs vf,v=.tuple #[.agg (bu n.me n.pr vs vf),.int .i64 k]/\St w [.sl vs M 33 n.sc.length (aq n.sc),.sl vf M 33 n.fg.length (aq n.fg)] w'
theorem Jf {w w':World} {M:TypeId} {B:List Own} {n:Nd} {k q:Int} (s:St w B w') (hn:n=Yg) (hk:k=q):NQ w M n k (.tuple #[.agg (bu bH bH ax ax),.int .i64 q]) w':=by
 subst hn;subst hk
 exact ⟨ax,ax,rfl,((s.pick [] (aJ0 _)).nilSl M 33).nilSl M 33⟩
theorem Cv {w w':World} {M:TypeId} {n:Nd} {a p:Mb} {l f:List Mb} {vs vf:Value} {k q:Int} (hn:n=⟨a,p,l,f⟩) (hk:k=q) (h:St w [.sl vs M 33 l.length (aq l),.sl vf M 33 f.length (aq f)] w'):NQ w M n k (.tuple #[.agg (bu a p vs vf),.int .i64 q]) w':=by
 subst hn;subst hk
 exact ⟨vs,vf,rfl,h⟩
theorem VF {w w':World} {M:TypeId} {n:Nd} {a p:Mb} {l f:List Mb} {vs vf:Value} (hn:n=⟨a,p,l,f⟩) (h:St w [.sl vs M 33 l.length (aq l),.sl vf M 33 f.length (aq f)] w'):YL w M n (.agg (bu a p vs vf)) w':=by
 subst hn
 exact ⟨vs,vf,rfl,h⟩
theorem yz {w:World} {B:List Own} {w':World} {v:Value} {M:TypeId} {l r:List Mb} (h:l=r) (s:St w (.sl v M 33 l.length (aq l)::B) w'):St w (.sl v M 33 r.length (aq r)::B) w':=by subst h;exact s
theorem vX (ls:List (List Mb)) (k:Nat) (h:k<ls.length):(ls.take (k+1)).flatten=(ls.take k).flatten++ls.getD k []:=by
 rw [List.take_succ_eq_append_getElem h,List.flatten_append,aJ6,aH8 h];simp
theorem ve (ls:List (List Mb)) (k:Nat) (h:k<ls.length):(ls.take k).flatten.length+(ls.getD k []).length=(ls.take (k+1)).flatten.length:=by
 rw [vX ls k h,aH7]
theorem Dq (ls:List (List Mb)) (k:Nat) (h:k<ls.length):aq (ls.take k).flatten++aq (ls.getD k [])=aq (ls.take (k+1)).flatten:=by
 rw [vX ls k h,gM]
theorem Fx (ls:List (List Mb)) (k:Nat):(ls.take k).flatten.length<=ls.flatten.length:=by
 have:=aH3 (λx=>x.flatten.length) (aJ7 k ls)
 simp only [List.flatten_append,aH7] at this
 omega
theorem Cd {w:World} {base:Nat} {e:TypeId} {v:Value} {ls:List (List Mb)} {i:Nat} (hi:ls.length<=i) (h:cF w base e 33 v (ls.take i).flatten.length (aq (ls.take i).flatten)):cF w base e 33 v ls.flatten.length (aq ls.flatten):=by
 rwa [aJ9 hi] at h
theorem Dv {w:World} {a:Option Addr} {n c:Nat} {l:List Mb} (ha:a.isNone=true) (h:bs w (.slice a n c) 33 l.length (aq l)):l=[]:=by
 cases a with
 |some p=>cases ha
 |none=>
  rcases h.2 with ⟨h1,h2⟩|⟨p,cap,h1,_⟩
  ·exact List.eq_nil_of_length_eq_zero h2
  ·cases h1
def yD (q:Mb->Bool) (l:List Mb) (j:Nat):List Mb:=(l.take j).filter q++l.drop ((l.take j).filter q).length
def oX (q:Mb->Bool) (l:List Mb) (j:Nat):Nat:=((l.take j).filter q).length
theorem CW (q:Mb->Bool) (l:List Mb) (j:Nat):oX q l j<=j:=by
 unfold oX
 have:=aL2 q (l.take j)
 rw [aL0] at this;omega
theorem QA (q:Mb->Bool) (l:List Mb) (j:Nat):oX q l j<=l.length:=by
 unfold oX
 have:=aL2 q (l.take j)
 rw [aL0] at this;omega
theorem Fn (q:Mb->Bool) (l:List Mb) (j:Nat):(yD q l j).length=l.length:=by
 have:=QA q l j
 unfold oX at this
 unfold yD;rw [aH7,aK2];omega
theorem Sw {q:Mb->Bool} {l:List Mb} {j:Nat} (hj:j<l.length):(yD q l j).getD j bH=l.getD j bH:=by
 have h1:=CW q l j
 unfold oX at h1
 unfold yD
 rw [aJ6,aK7 h1,aN8,aJ6]
 congr 2
 omega
theorem Kf {q:Mb->Bool} {l:List Mb} {j:Nat} (hj:j<l.length) (h:q (l.getD j bH)=false):yD q l (j+1)=yD q l j/\oX q l (j+1)=oX q l j:=by
 have e:(l.take (j+1)).filter q=(l.take j).filter q:=by rw [wy hj,aO4,List.filter_cons,h];simp
 unfold yD oX;rw [e];exact ⟨rfl,rfl⟩
theorem Gl {q:Mb->Bool} {l:List Mb} {j:Nat} (hj:j<l.length) (h:q (l.getD j bH)=true):yD q l (j+1)=(yD q l j).set (oX q l j) (l.getD j bH)/\oX q l (j+1)=oX q l j+1:=by
 have e:(l.take (j+1)).filter q=(l.take j).filter q++[l.getD j bH]:=by rw [wy hj,aO4,List.filter_cons,h];simp
 have h1:=CW q l j
 refine ⟨?_,by unfold oX;rw [e,aH7];rfl⟩
 unfold oX at h1
 unfold yD oX
 rw [e,aH7]
 show (_++[_])++l.drop (_+1)=_
 rw [List.set_append_right _ _ (aJ1 _),Nat.sub_self,aM3]
 congr 1
 rw [List.drop_eq_getElem_cons (show ((l.take j).filter q).length<l.length by omega),List.set_cons_zero];rfl
theorem HK {q:Mb->Bool} {l:List Mb} {k:Nat} (hk:k<l.length) (h:∀ i,i<k->q (l.getD i bH)=true) (hq:q (l.getD k bH)=false):yD q l (k+1)=l/\oX q l (k+1)=k:=by
 have e:(l.take k).filter q=l.take k:=by
  rw [List.filter_eq_self]
  intro x hx
  obtain ⟨i,hi,rfl⟩:=List.mem_iff_getElem.1 hx
  rw [aL0] at hi
  rw [List.getElem_take,yI (by omega)]
  exact h i (by omega)
 obtain ⟨e1,e2⟩:=Kf hk hq
 rw [e1,e2]
 unfold yD oX
 rw [e,aL0,Nat.min_eq_left (by omega),aJ7]
 exact ⟨rfl,rfl⟩
theorem Qj (q:Mb->Bool) (l:List Mb):oX q l l.length=(l.filter q).length:=by unfold oX;rw [List.take_length]
theorem Pg (q:Mb->Bool) (l:List Mb):yD q l l.length=l.filter q++l.drop (l.filter q).length:=by unfold yD;rw [List.take_length]
theorem VL {q:Mb->Bool} {l:List Mb} {k:Nat} (hk:k<l.length) (hq:q (l.getD k bH)=false):(l.filter q).length<l.length:=by
 rcases aJ4 (l.filter q).length l.length with h|h
 ·exact h
 ·have h1:=aL2 q l
  have h2:l.filter q=l:=List.filter_eq_self.2 (by
   have:=List.length_filter_eq_length_iff.1 (show (l.filter q).length=l.length by omega)
   exact this)
  have h3:=List.filter_eq_self.1 h2 _ (i8 hk)
  rw [hq] at h3;cases h3
theorem H2 (q:Mb->Bool) (l:List Mb):(aq (yD q l l.length)).take ((l.filter q).length*33)=aq (l.filter q):=by
 rw [Pg,gM,List.take_left' (fM _)]
theorem Hc {l:List Mb} {p:Mb->Bool} (h:∀ x∈l,p x=false):(l.filter λx => !p x)=l:=List.filter_eq_self.2 λx hx=>by rw [h x hx];rfl
theorem ai6 (nos:List Int) (k:Nat) (h:k<nos.length):(nos.map (Value.int .i64))[k]? = some (.int .i64 (nos.getD k 0)):=by
 rw [aM0,aJ6,aH8 h];rfl
theorem nsD {nos:List Int} {k:Nat} (h:k<nos.length):nos[k]=nos.getD k 0:=by rw [aJ6,aH8 h];rfl
theorem PQ {nos:List Int} {no:Int} {r:Int} (h:(r = -1/\∀ k,k<nos.length->nos.getD k 0≠no)∨∃ k:Nat,k<nos.length/\r=(k:Int)/\nos.getD k 0=no):decide (0<=r)=nos.any λk=>decide (k=no):=by
 rcases h with ⟨rfl,h⟩|⟨k,hk,rfl,h⟩
 ·rw [aH1 (by decide)]
  symm
  rw [aN5]
  intro x hx
  obtain ⟨i,hi,rfl⟩:=List.mem_iff_getElem.1 hx
  have:=h i hi
  rw [← nsD hi] at this
  simpa using this
 ·rw [aH2 (by omega)]
  symm
  rw [aN4]
  exact ⟨nos[k],aN1 hk,by rw [nsD hk];simpa using h⟩
section
variable {P:Program} {ρ:Operand->Value} {d:Option Tmp} {ty:TypeId} {pos:String} {af:Array Edge} {g:Option (Nat × Bool)} {x y z:Operand} {t:TypeId}
end
def alN (m:Mb):Nd:=bif im m then ⟨m,i1,[m],[]⟩ else Yg
def alE (m:Mb):Int:=bif im m then 0 else 1
theorem B5 {m:Mb} (h:im m=false):alN m=Yg/\alE m=1:=by unfold alN alE;rw [h];exact ⟨rfl,rfl⟩
theorem B6 {m:Mb} (h:im m=true):alN m=⟨m,i1,[m],[]⟩/\alE m=0:=by unfold alN alE;rw [h];exact ⟨rfl,rfl⟩
theorem Sk {w w':World} {M:TypeId} {n:Nd} {a p:Mb} {l:List Mb} {vs:Value} {k q:Int} (hn:n=⟨a,p,l,[]⟩) (hk:k=q) (h:St w [.sl vs M 33 l.length (aq l)] w'):NQ w M n k (.tuple #[.agg (bu a p vs ax),.int .i64 q]) w':=
 Cv hn hk ((h.nilSl M 33).perm (aO3 _ _ _))
theorem jN {w:World} {v:Value} {sz n:Nat} {xs:List Value} (h:bs w v sz n xs):v.cells.size=1:=by obtain ⟨a,c,rfl⟩:=h.len;rfl
theorem iS {w:World} {v:Value} {sz n:Nat} {xs:List Value} (h:bs w v sz n xs):v.cells.toList=[v]:=by obtain ⟨a,c,rfl⟩:=h.len;rfl
section
variable {P:Program} {a:Act} {w w0:World} {N:Nat} {L:List (Nat × Value)} {B:List Own} {fn:Func} {T:ez}
theorem yO {p q:Tmp} {b n D:Nat} {C:Array Value} {V:Value} {t u:TypeId} (i j:Nat) (hres:fn.results=#[.cell p t,.tmp q]) (h:Sl N a L [{target:=.collected D,args:=#[]}]) (s:St w0 B w) (hr:Row P t n) (hp:lk L p=some (.pointer (some ⟨b,0,none⟩))) (hq:lk L q=some V)
 (hj:B[j]? = some (.blk D (.deferred (some [])))) (hij:(B.set j (.blk D (.deferred none)))[i]? = some (.blk b (.cells C u))) (hn:C.size=n) (hT:∀ w',St w0 (B.set j (.blk D (.deferred none))) w'->T (.tuple #[.agg C,V]) w'):bodyPostM (FR none) 0 P fn (cb w0 T) .ret a w:=by
 show LeavesInM (FR none) 0 P fn a.tmps (cb w0 T) a.defers .returning w
 rw [h.defers]
 have s2:=s.putObj j hj (.deferred none)
 refine ⟨by simp,.inl ⟨D,_,rfl,run_takeDeferred (s.get j hj),?_⟩⟩
 have hp':a.tmps[p]?.getD undef=.pointer (some ⟨b,0,none⟩):=by simpa using h.holds p _ hp
 have hq':a.tmps[q]?.getD undef=V:=by simpa using h.holds q _ hq
 refine ⟨.tuple #[.agg C,V],?_,_,rfl,hT _ s2,s2.ext⟩
 simp [results,hres,hp',hq',asAddr,eO hr _ b C u (0,0) (s2.get i hij) hn]
theorem nW {p q:Tmp} {b n:Nat} {C:Array Value} {V:Value} {t u:TypeId} (i:Nat) (hres:fn.results=#[.cell p t,.tmp q]) (h:Sl N a L) (s:St w0 B w) (hr:Row P t n) (hp:lk L p=some (.pointer (some ⟨b,0,none⟩))) (hq:lk L q=some V)
 (hi:B[i]? = some (.blk b (.cells C u))) (hn:C.size=n) (hT:T (.tuple #[.agg C,V]) w):bodyPostM (FR none) 0 P fn (cb w0 T) .ret a w:=by
 show LeavesInM (FR none) 0 P fn a.tmps (cb w0 T) a.defers .returning w
 rw [h.defers]
 have hp':a.tmps[p]?.getD undef=.pointer (some ⟨b,0,none⟩):=by simpa using h.holds p _ hp
 have hq':a.tmps[q]?.getD undef=V:=by simpa using h.holds q _ hq
 refine ⟨.tuple #[.agg C,V],?_,_,rfl,hT,s.ext⟩
 simp [results,hres,hp',hq',asAddr,eO hr _ b C u (0,0) (s.get i hi) hn]
end
theorem Ox (cur:List Value) (z:List Value) (q:Mb->Bool) (l:List Mb) (h1:cur.take (l.length*33)=aq (yD q l l.length)) (hl:l.length*33<=cur.length) (hz:z.length=(l.length - (l.filter q).length)*33) (o:Nat) (ho:o=(l.filter q).length*33) (m:Nat) (hm:m=(l.length - (l.filter q).length)*33):
 (cur.take o++z++cur.drop (o+m)).length=cur.length/\(cur.take o++z++cur.drop (o+m)).take o=aq (l.filter q):=by
 subst ho;subst hm
 have hle:=aL2 q l
 obtain ⟨e1,e2⟩:=xm cur z ((l.filter q).length*33) ((l.length - (l.filter q).length)*33) (by rw [← Nat.add_mul];rw [show (l.filter q).length+(l.length - (l.filter q).length)=l.length by omega];exact hl) hz
 refine ⟨e1,e2.trans ?_⟩
 have h9:=aH3 (List.take ((l.filter q).length*33)) h1
 rw [List.take_take,Nat.min_eq_left (Nat.mul_le_mul_right 33 hle),H2] at h9
 exact h9
theorem UD {w:World} {v:Value} {sz n:Nat} {xs:List Value} (h:bs w v sz n xs):v.cells=#[v]:=by obtain ⟨a,c,rfl⟩:=h.len;rfl
structure FldT (P:Program) (t:TypeId) (f off:Nat) (tf:TypeId):Prop where
 has:∃ fields fd,P.underlying t=some (.struct fields)/\fields[f]? = some fd/\fd.type=tf/\fd.offset=off
def slc:Option Value->Value
 |some (.slice p n k)=>.slice p n k
 |_=>ax
theorem Pb (o:Option Value):(slc o).oneCell'=true:=by
 unfold slc
 split<;>rfl
def ZF (i:Nat):Option Value->Value
 |some (Value.agg c)=>slc (c[i]?)
 |_=>ax
def dm (i:Nat):Value->Value
 |Value.tuple a=>ZF i (a[0]?)
 |_=>ax
theorem Pj (i:Nat) (o:Option Value):(ZF i o).oneCell'=true:=by
 unfold ZF
 split
 ·exact Pb _
 ·rfl
theorem ES (i:Nat) (v:Value):(dm i v).oneCell'=true:=by
 unfold dm
 split
 ·exact Pj _ _
 ·rfl
theorem Xt {a p:Mb} {vs vf:Value} {k:Int} {w:World} {sz n:Nat} {xs:List Value} (h:bs w vs sz n xs):dm 66 (.tuple #[.agg (bu a p vs vf),.int .i64 k])=vs:=by
 obtain ⟨q,c,rfl⟩:=h.len
 have h1:(#[Value.agg (bu a p (.slice q n c) vf),Value.int .i64 k]:Array Value)[0]? = some (Value.agg (bu a p (.slice q n c) vf)):=rfl
 unfold dm
 simp only [h1,ZF]
 rw [gn];rfl
theorem UH {a p:Mb} {vs vf:Value} {k:Int} {w:World} {sz n:Nat} {xs:List Value} (h:bs w vf sz n xs):dm 67 (.tuple #[.agg (bu a p vs vf),.int .i64 k])=vf:=by
 obtain ⟨q,c,rfl⟩:=h.len
 have h1:(#[Value.agg (bu a p vs (.slice q n c)),Value.int .i64 k]:Array Value)[0]? = some (Value.agg (bu a p vs (.slice q n c))):=rfl
 unfold dm
 simp only [h1,ZF]
 rw [kv];rfl
abbrev N3:=Nd × Value × Value
def z3:N3:=(Yg,ax,ax)
def za (x:N3):List Value:=nP x.1.me x.1.pr x.2.1 x.2.2
def aI (l:List N3):List Value:=l.flatMap za
theorem nu (x:N3):(za x).length=68:=EF _ _ _ _
theorem g5 (l:List N3) (j:Nat) (hj:j<l.length):(((aI l).drop (j*68)).take 68).toArray=bu (l.getD j z3).1.me (l.getD j z3).1.pr (l.getD j z3).2.1 (l.getD j z3).2.2:=by
 unfold aI
 rw [eU _ 68 nu l j hj,aJ6,aH8 hj];rfl
def wQ (w:World) (x:N3):Prop:=bs w x.2.1 33 x.1.sc.length (aq x.1.sc)/\bs w x.2.2 33 x.1.fg.length (aq x.1.fg)
end Go.Proofs.YthmlflaiidhoiaaGreatDoor
namespace Go.Proofs.YthmlflaiidhoiaaGreatDoor
open Go.RowKit Go.ChangeShapes Go.WideShapes Go.ChangeAt
theorem xc {H:Type} {enc:TypeId × Value->H} {P:Program} {W:World} {ts t tn ti e:TypeId} {f0 f1:Field} {fuel:Nat} {cs:List Value} {x:DataW H × List MemPlace} (T:IdTy P ti e) (hc:P.cellsOf ti=32) (hce:P.cellsOf e=1) (hn:P.underlying tn=some (.int .i64)) (hcn:P.cellsOf tn=1)
 (hts:P.underlying ts=some (.slice t)) (ht:P.underlying t=some (.struct #[f0,f1])) (h0:f0.type=tn) (h1:f1.type=ti) (o0:f0.offset=0) (o1:f1.offset=1) (hct:P.cellsOf t=33)
 (hf:DataW.trod enc P W 0 (λ_=>true) true fuel ts cs=some x):∃ (v:Value) (ls:List Mb),cs=[v]/\bs W v 33 ls.length (aq ls):=by
 rcases Go.Deep.open_slice hts hf with ⟨hcs,_⟩|⟨a',len,cap,m,k,D,Pl,hcs,_,hl,_,hm,_,hel⟩
 ·exact ⟨_,[],hcs,rfl,.inl ⟨rfl,rfl⟩⟩
 ·have hml:len<=m:=by rw [hm];split<;>omega
  have each:∀ i,∃ l:Mb,i<len->aJ W (a'.add (i*33)) (ar l):=λi=>by
   by_cases hi:i<len
   ·obtain ⟨cs',hc1,hc2⟩:=hel i (by omega)
    obtain ⟨l,rfl⟩:=tC T hc hce hn hcn ht h0 h1 o0 o1 hct hc2
    refine ⟨l,λ_ j u hj=>?_⟩
    rw [hct] at hc1
    obtain ⟨_,hlen,hall⟩:=World.cells?_some hc1
    have hj33:j<33:=by have:=(aO1.1 hj).1;rw [aj] at this;exact this
    have:=hall j hj33
    rw [this,aN9];exact hj
   ·exact ⟨bH,λh9=>aO7 h9 hi⟩
  obtain ⟨L,hL⟩:=Classical.axiomOfChoice each
  refine ⟨_,(List.range len).map L,hcs,?_,.inr ⟨a',cap,by simp,by simpa using hl,?_⟩⟩
  ·rw [fM]
  ·refine pU _ 33 (by decide) cD _ λi hi=>?_
   have hi':i<len:=by simpa using hi
   have h9:((List.range len).map L)[i]=L i:=by simp
   rw [h9]
   exact hL i hi'
theorem OY {cs a b c d:List Value} (hl:cs.length=68) (h0:(cs.drop 0).take 33=a) (h1:(cs.drop 33).take 33=b) (h2:(cs.drop 66).take 1=c) (h3:(cs.drop 67).take 1=d):cs=a++(b++(c++d)):=by
 subst h0;subst h1;subst h2;subst h3
 have e3:(cs.drop 67).take 1=cs.drop 67:=aJ9 (by rw [aK2];omega)
 have e2:(cs.drop 66).take 1++cs.drop 67=cs.drop 66:=by
  have:=aJ7 1 (cs.drop 66)
  rwa [List.drop_drop] at this
 have e1:(cs.drop 33).take 33++cs.drop 66=cs.drop 33:=by
  have:=aJ7 33 (cs.drop 33)
  rwa [List.drop_drop] at this
 rw [e3,e2,e1,List.drop_zero,aJ7]
end Go.Proofs.YthmlflaiidhoiaaGreatDoor
