/- Overlays: rows of nodes, each with its rows: which may be, which are stable, what tending, coming, leaving and failing make of them, that what may be stays such; overlays that come in; no Go in it. -/
import Derived.Test.YthggibfkgofncaaGreatNd
set_option linter.unusedVariables false
set_option linter.unusedSimpArgs false
set_option linter.unusedSectionVars false
namespace Go.Proofs.YthggibfkgofncaaGreat
open Go.RowKit
theorem vF {a b:Nd} (h1:a.me=b.me) (h2:a.pr=b.pr) (h3:a.sc=b.sc) (h4:a.fg=b.fg):a=b:=by cases a;cases b;simp_all
instance:DecidableEq Nd:=fun a b=>
 if h:a.me=b.me∧a.pr=b.pr∧a.sc=b.sc∧a.fg=b.fg then .isTrue (vF h.1 h.2.1 h.2.2.1 h.2.2.2) else .isFalse fun e=>h (by subst e;exact ⟨rfl,rfl,rfl,rfl⟩)
theorem ta (a b:Nd):fb a b=decide (a=b):=by
 by_cases h:a=b
 ·rw [decide_eq_true h];exact BK h
 ·rw [decide_eq_false h,← Bool.not_eq_true]
  intro h9
  unfold fb at h9
  simp only [Bool.and_eq_true,decide_eq_true_eq] at h9
  exact h (vF h9.1 h9.2.1 h9.2.2.1 h9.2.2.2)
def dN (w:World) (v:Value) (L:List N3):Prop:=bq w v 68 L.length (aD L)∧∀ x∈L,jX w x
theorem jX.keep {w w':World} {x:N3} (h:jX w x) (e:Ext w w'):jX w' x:=⟨h.1.keep e,h.2.keep e⟩
theorem dN.keep {w w':World} {v:Value} {L:List N3} (h:dN w v L) (e:Ext w w'):dN w' v L:=⟨h.1.keep e,fun x hx=>(h.2 x hx).keep e⟩
abbrev nds (L:List N3):List Nd:=L.map (·.1)
theorem lR {L:List N3} {j:Nat} (hj:j<L.length):L[j]=L.getD j z3:=by rw [List.getD_eq_getElem?_getD,List.getElem?_eq_getElem hj];rfl
theorem bw {L:List N3} {j:Nat} (hj:j<L.length):L.getD j z3∈L:=by rw [← lR hj];exact List.getElem_mem hj
theorem qe {L:List N3} {x:N3} (h:x∈L):∃ j,j<L.length∧L.getD j z3=x:=by
 obtain ⟨j,hj,rfl⟩:=List.mem_iff_getElem.1 h
 exact ⟨j,hj,(lR hj).symm⟩
theorem j8 {L:List N3} {k:Nat} (h:k<L.length):L.take (k+1)=L.take k++[L.getD k z3]:=by rw [List.take_succ_eq_append_getElem h,lR h]
theorem lw (L:List N3):(aD L).length=L.length*68:=gC _ 68 gf L
theorem ic (L K:List N3):aD (L++K)=aD L++aD K:=List.flatMap_append
theorem gQ (x:N3):([Value.agg (aC x.1.me x.1.pr x.2.1 x.2.2)].flatMap fun v=>v.cells.toList)=nG x:=by simp [Value.cells,nG,aC]
theorem f7 (L:List N3) (x:N3):aD L++nG x=aD (L++[x]):=by rw [ic];simp [aD]
theorem iR {x:N3} (h1:x.2.1.oneCell'=true) (h2:x.2.2.oneCell'=true):∀ u∈([Value.agg (aC x.1.me x.1.pr x.2.1 x.2.2)].flatMap fun v=>v.cells.toList),u.oneCell'=true:=by rw [gQ];exact a7 h1 h2
theorem f5 (x:N3):∀ v∈([Value.agg (aC x.1.me x.1.pr x.2.1 x.2.2)]:List Value),v.cells.size=68:=fun v hv=>by rw [List.mem_singleton] at hv;subst hv;exact aq _ _ _ _
theorem jX.ones {w:World} {x:N3} (h:jX w x):x.2.1.oneCell'=true∧x.2.2.oneCell'=true:=⟨co h.1,co h.2⟩
theorem B7 {w:World} {v:Value} {L:List N3} (h:bq w v 68 L.length (aD L)) (k:Nat) (hk:k≤L.length):bq w (gr v k) 68 (L.take k).length (aD (L.take k)):=by
 have:=h.cut k hk
 unfold aD at this
 rw [jl _ 68 gf] at this
 rw [List.length_take,Nat.min_eq_left hk]
 exact this
theorem lg (L:List N3) (j:Nat) (hj:j<L.length):(aD L)[j*68+0]? = some (.int .i64 (L.getD j z3).1.me.1):=by
 have h1:=congrArg (fun a:Array Value=>a[0]?) (df L j hj)
 simp only [bO] at h1
 rw [← h1];simp
theorem dN.take {w:World} {v:Value} {L:List N3} (h:dN w v L) (k:Nat) (hk:k≤L.length):dN w (gr v k) (L.take k):=⟨B7 h.1 k hk,fun x hx=>h.2 x (List.mem_of_mem_take hx)⟩
theorem fq (w:World):dN w a8 []:=⟨⟨rfl,.inl ⟨rfl,rfl⟩⟩,fun _ h=>by cases h⟩
theorem cn {v:Value} (h:v.oneCell'=true):∀ u∈(#[v]:Array Value).toList,u.oneCell'=true:=fun u hu=>by
 have:u∈[v]:=hu
 rw [List.mem_singleton] at this;rw [this];exact h
def EP:List (List Value):=[[.slice none 0 0]]
theorem cG {P:Program} {ρ:Operand→Value} {d:Option Tmp} {ty:TypeId} {pos:String} {af:Array Edge} {g:Option (Nat × Bool)} {t:TypeId} (S:Stt P t EP):ca P ⟨d,.build t #[],ty,pos,af,g⟩ ρ (.agg #[a8]):=
 ew (parts:=#[]) S [] (by simp) (fun i v hm=>by simp at hm) (D:=[a8]) rfl
theorem St.weak {w0 w:World} {ks:List Nat} {S S':World→Prop} {B:List Own} (s:St w0 (.grp ks S::B) w) (h:∀ w',S w'→S' w'):St w0 (.grp ks S'::B) w:=by
 refine ⟨s.ext,fun p hp=>?_,fun p hp k hk=>?_,?_⟩
 ·rcases List.mem_cons.1 hp with rfl|hp
  ·have h0:=s.has _ List.mem_cons_self
   exact ⟨h0.1,fun w' hw=>h w' (h0.2 w' hw)⟩
  ·exact s.has p (List.mem_cons_of_mem _ hp)
 ·rcases List.mem_cons.1 hp with rfl|hp
  ·exact s.own _ List.mem_cons_self k hk
  ·exact s.own p (List.mem_cons_of_mem _ hp) k hk
 ·have hpw:=List.pairwise_cons.1 s.nd
  exact List.pairwise_cons.2 ⟨fun q hq k hk=>hpw.1 q hq k hk,hpw.2⟩
theorem St.getG {w0 w:World} {ks:List Nat} {S:World→Prop} {B:List Own} (s:St w0 B w) (i:Nat) (hi:B[i]? = some (.grp ks S)):S w:=(s.has _ (List.mem_of_getElem? hi)).2 w fun _ _=>rfl
def yi (w:World) (R:World→Prop) (E:List Nd):cX:=fun v w'=>∃ vo L ks,v=.agg #[vo]∧nds L=E∧St w [.grp ks fun w9=>R w9→dN w9 vo L] w'
abbrev cS (L:List N3):World→Prop:=fun w9=>∀ x∈L,jX w9 x
theorem zj {w w':World} {B:List Own} {R:World→Prop} (s:St w B w'):yi w R [] (.agg #[a8]) w':=by
 refine ⟨a8,[],_,rfl,rfl,(St.group (A:=[]) (B:=[]) (s.pick [] (List.nil_sublist _))).weak fun w9 _ _=>fq w9⟩
abbrev aM (L:List N3):List Mb:=L.map (·.1.me)
def aE (n:Nd):List Mb:=n.pr::(n.sc++n.fg)
def ce (l:List Mb) (no:Int):Bool:=decide ((fB l no).1=no) && decide (0≤no)
theorem fj {l:List Mb} {no:Int} (hn:∀ m∈l,0≤m.1):ce l no=true↔∃ m∈l,m.1=no:=by
 unfold ce fB
 rw [Bool.and_eq_true,decide_eq_true_eq,decide_eq_true_eq]
 rcases sB (l:=l) (no:=no) with h|⟨m,h,hm,hno⟩
 ·rw [h]
  constructor
  ·rintro ⟨h1,h2⟩
   have h1:(-1:Int)=no:=h1
   omega
  ·rintro ⟨m,hm,hno⟩
   exact absurd (decide_eq_true hno) (List.find?_eq_none.1 h m hm)
 ·rw [h]
  exact ⟨fun _=>⟨m,hm,hno⟩,fun _=>⟨hno,by have:=hn m hm;omega⟩⟩
def EM:Nd:=⟨de,aT,[],[]⟩
def D2:N3:=(EM,a8,a8)
def bC (L:List N3) (no:Int):N3:=(L.find? fun x=>decide (x.1.me.1=no)).getD D2
theorem r4 {L:List N3} {no:Int} {k:Nat} (hk:k<L.length) (h:∀ j,j<k→decide ((L.getD j z3).1.me.1=no)=false) (he:decide ((L.getD k z3).1.me.1=no)=true):bC L no=L.getD k z3:=by
 unfold bC
 have:L.find? (fun x=>decide (x.1.me.1=no))=some (L.getD k z3):=by
  rw [List.find?_eq_some_iff_getElem]
  refine ⟨he,k,hk,lR hk,fun j hj=>?_⟩
  rw [lR (by omega),h j hj];rfl
 rw [this];rfl
theorem wP {L:List N3} {no:Int} {k:Nat} (hk:L.length≤k) (h:∀ j,j<k→decide ((L.getD j z3).1.me.1=no)=false):bC L no=D2:=by
 unfold bC
 have:L.find? (fun x=>decide (x.1.me.1=no))=none:=by
  rw [List.find?_eq_none]
  intro x hx
  obtain ⟨j,hj,rfl⟩:=qe hx
  rw [h j (by omega)];decide
 rw [this];rfl
def rx (E:List Nd) (no:Int):Nd:=(E.find? fun x=>decide (x.me.1=no)).getD EM
theorem gZ (L:List N3) (no:Int):(bC L no).1=rx (nds L) no:=by
 unfold bC rx nds
 rw [List.find?_map]
 cases h:L.find? fun x=>decide (x.1.me.1=no) with
 |none=>
  have:L.find? ((fun x:Nd=>decide (x.me.1=no)) ∘ fun x=>x.1)=none:=h
  rw [this];rfl
 |some x=>
  have:L.find? ((fun x:Nd=>decide (x.me.1=no)) ∘ fun x=>x.1)=some x:=h
  rw [this];rfl
theorem B2 (w:World):jX w D2:=⟨tG w,tG w⟩
theorem dy {w:World} {L:List N3} (h:∀ x∈L,jX w x) (no:Int):jX w (bC L no):=by
 unfold bC
 cases hf:L.find? fun x=>decide (x.1.me.1=no) with
 |none=>exact B2 w
 |some x=>exact h x (List.mem_of_find?_eq_some hf)
def yt (E:List Nd) (no:Int):List Nd:=E.filter fun x=>decide (x.me.1≠no)
def fe (x:N3) (p:List N3 × Bool) (y:N3):List N3 × Bool:=
 let q:=bif !p.2 && decide (x.1.me.1≤y.1.me.1) then (p.1++[x],true) else p
 bif decide (y.1.me.1≠x.1.me.1) then (q.1++[y],q.2) else q
def dH (x:N3) (L:List N3):List N3 × Bool:=L.foldl (fe x) ([],false)
def ec (L:List N3) (x:N3):List N3:=bif (dH x L).2 then (dH x L).1 else (dH x L).1++[x]
theorem kw {x:N3} {L:List N3} {k:Nat} (hk:k<L.length):dH x (L.take (k+1))=fe x (dH x (L.take k)) (L.getD k z3):=by
 unfold dH;rw [j8 hk,List.foldl_append];rfl
theorem vX (x:N3) (p:List N3 × Bool) (y:N3):(fe x p y).1.length≤p.1.length+2:=by
 unfold fe
 cases !p.2 && decide (x.1.me.1≤y.1.me.1)<;>cases decide (y.1.me.1≠x.1.me.1)<;>simp
theorem tU (x:N3):∀ L:List N3,(dH x L).1.length≤2*L.length:=fun L=>by
 unfold dH
 suffices h:∀ (L:List N3) (p:List N3 × Bool),(L.foldl (fe x) p).1.length≤p.1.length+2*L.length by
  have:=h L ([],false);simpa using this
 intro L
 induction L with
 |nil=>intro p;simp
 |cons y L ih=>
  intro p
  have h1:=ih (fe x p y)
  have h2:=vX x p y
  rw [List.foldl_cons,List.length_cons];omega
theorem y7 {x:N3} {p:List N3 × Bool} {y z:N3} (h:z∈(fe x p y).1):z∈p.1∨z=x∨z=y:=by
 unfold fe at h
 have key:∀ q:List N3 × Bool,(z∈q.1→z∈p.1∨z=x∨z=y)→z∈(bif decide (y.1.me.1≠x.1.me.1) then (q.1++[y],q.2) else q).1→z∈p.1∨z=x∨z=y:=fun q hq h=>by
  cases h2:decide (y.1.me.1≠x.1.me.1) with
  |true=>
   rw [h2] at h
   rcases List.mem_append.1 h with h|h
   ·exact hq h
   ·exact .inr (.inr (List.mem_singleton.1 h))
  |false=>rw [h2] at h;exact hq h
 refine key _ (fun h=>?_) h
 cases h1 : !p.2 && decide (x.1.me.1≤y.1.me.1) with
 |true=>
  rw [h1] at h
  rcases List.mem_append.1 h with h|h
  ·exact .inl h
  ·exact .inr (.inl (List.mem_singleton.1 h))
 |false=>rw [h1] at h;exact .inl h
theorem sW {x z:N3}:∀ {L:List N3},z∈(dH x L).1→z=x∨z∈L:=fun {L}=>by
 unfold dH
 suffices h:∀ (L:List N3) (p:List N3 × Bool),z∈(L.foldl (fe x) p).1→z∈p.1∨z=x∨z∈L by
  intro h9;rcases h L ([],false) h9 with h|h
  ·cases h
  ·exact h
 intro L
 induction L with
 |nil=>intro p h;exact .inl h
 |cons y L ih=>
  intro p h
  rcases ih _ h with h|h|h
  ·rcases y7 h with h|h|h
   ·exact .inl h
   ·exact .inr (.inl h)
   ·exact .inr (.inr (by rw [h];exact List.mem_cons_self))
  ·exact .inr (.inl h)
  ·exact .inr (.inr (List.mem_cons_of_mem _ h))
theorem sn {x z:N3} {L:List N3} (h:z∈ec L x):z=x∨z∈L:=by
 unfold ec at h
 cases hb:(dH x L).2 with
 |true=>rw [hb] at h;exact sW h
 |false=>
  rw [hb] at h
  rcases List.mem_append.1 h with h|h
  ·exact sW h
  ·exact .inl (List.mem_singleton.1 h)
theorem ck {w:World} {x:N3} {L:List N3} (h:∀ y∈L,jX w y) (hx:jX w x):∀ y∈ec L x,jX w y:=fun y hy=>by
 rcases sn hy with rfl|hy
 ·exact hx
 ·exact h y hy
def n7 (x:Nd) (p:List Nd × Bool) (y:Nd):List Nd × Bool:=
 let q:=bif !p.2 && decide (x.me.1≤y.me.1) then (p.1++[x],true) else p
 bif decide (y.me.1≠x.me.1) then (q.1++[y],q.2) else q
def qm (x:Nd) (E:List Nd):List Nd × Bool:=E.foldl (n7 x) ([],false)
def iw (E:List Nd) (x:Nd):List Nd:=bif (qm x E).2 then (qm x E).1 else (qm x E).1++[x]
theorem zn (x:N3) (p:List N3 × Bool) (y:N3):n7 x.1 (nds p.1,p.2) y.1=(nds (fe x p y).1,(fe x p y).2):=by
 unfold n7 fe
 cases p with
 |mk l b=>
  cases b<;>by_cases h1:x.1.me.1≤y.1.me.1<;>by_cases h2:y.1.me.1=x.1.me.1<;>simp [h1,h2,nds]
theorem ze (x:N3) (L:List N3):qm x.1 (nds L)=(nds (dH x L).1,(dH x L).2):=by
 unfold qm dH
 suffices h:∀ (L:List N3) (p:List N3 × Bool),(nds L).foldl (n7 x.1) (nds p.1,p.2)=(nds (L.foldl (fe x) p).1,(L.foldl (fe x) p).2) from h L ([],false)
 intro L
 induction L with
 |nil=>intro p;rfl
 |cons y L ih=>
  intro p
  show (nds L).foldl (n7 x.1) (n7 x.1 (nds p.1,p.2) y.1)=_
  rw [zn,ih];rfl
theorem fF (L:List N3) (x:N3):nds (ec L x)=iw (nds L) x.1:=by
 unfold ec iw
 rw [ze]
 cases (dH x L).2 with
 |true=>rfl
 |false=>show nds ((dH x L).1++[x])=nds (dH x L).1++[x.1];simp [nds]
theorem Ap {x:N3} {p:List N3 × Bool} {y:N3} (hb:p.2=false) (h1:decide (x.1.me.1≤y.1.me.1)=true) (h2:decide (y.1.me.1≠x.1.me.1)=true):fe x p y=((p.1++[x])++[y],true):=by unfold fe;rw [hb,h1,h2];rfl
theorem AE {x:N3} {p:List N3 × Bool} {y:N3} (hb:p.2=false) (h1:decide (x.1.me.1≤y.1.me.1)=true) (h2:decide (y.1.me.1≠x.1.me.1)=false):fe x p y=(p.1++[x],true):=by unfold fe;rw [hb,h1,h2];rfl
theorem sF {x:N3} {p:List N3 × Bool} {y:N3} (h:p.2=true∨decide (x.1.me.1≤y.1.me.1)=false) (h2:decide (y.1.me.1≠x.1.me.1)=true):fe x p y=(p.1++[y],p.2):=by
 have h1:(!p.2 && decide (x.1.me.1≤y.1.me.1))=false:=by rcases h with h|h<;>simp [h]
 unfold fe;rw [h1,h2];rfl
theorem AD {x:N3} {p:List N3 × Bool} {y:N3} (h:p.2=true∨decide (x.1.me.1≤y.1.me.1)=false) (h2:decide (y.1.me.1≠x.1.me.1)=false):fe x p y=p:=by
 have h1:(!p.2 && decide (x.1.me.1≤y.1.me.1))=false:=by rcases h with h|h<;>simp [h]
 unfold fe;rw [h1,h2];rfl
def nj (E F:List Nd):Bool:=decide (E=F)
theorem uI {E F:List Nd} (h:¬ E.length=F.length):nj E F=false:=decide_eq_false fun e=>h (by rw [e])
theorem vC {L K:List N3} {k:Nat} (hk:k<L.length) (hk2:k<K.length) (h:fb (L.getD k z3).1 (K.getD k z3).1=false):nj (nds L) (nds K)=false:=by
 refine decide_eq_false fun e=>?_
 rw [ta] at h
 refine of_decide_eq_false h ?_
 have h1:(nds L)[k]? = (nds K)[k]? := by rw [e]
 unfold nds at h1
 rw [List.getElem?_map,List.getElem?_map,List.getElem?_eq_getElem hk,List.getElem?_eq_getElem hk2,lR hk,lR hk2] at h1
 simpa using h1
theorem uk {L K:List N3} (hl:L.length=K.length) (h:∀ j,j<L.length→fb (L.getD j z3).1 (K.getD j z3).1=true):nj (nds L) (nds K)=true:=by
 refine decide_eq_true ?_
 unfold nds
 apply List.ext_getElem
 ·simpa using hl
 ·intro i h1 h2
  have h1:i<L.length:=by simpa using h1
  have h2:i<K.length:=by simpa using h2
  have h3:=h i h1
  rw [ta] at h3
  rw [List.getElem_map,List.getElem_map,lR h1,lR h2]
  exact of_decide_eq_true h3
def iD (x:N3):N3:=(⟨x.1.me,x.1.pr,x.1.sc.take (min x.1.sc.length 6),x.1.fg.take (min x.1.fg.length 18)⟩,gr x.2.1 (min x.1.sc.length 6),gr x.2.2 (min x.1.fg.length 18))
theorem oD {w:World} {x:N3} (h:jX w x):jX w (iD x):=⟨fp h.1 _ (Nat.min_le_left _ _),fp h.2 _ (Nat.min_le_left _ _)⟩
theorem ot {L:List N3} {k:Nat} (hk:k<L.length):(L.take (k+1)).map iD=(L.take k).map iD++[iD (L.getD k z3)]:=by rw [j8 hk,List.map_append];rfl
theorem wc {w:World} {L:List N3} (h:∀ x∈L,jX w x):∀ x∈L.map iD,jX w x:=fun x hx=>by
 obtain ⟨y,hy,rfl⟩:=List.mem_map.1 hx
 exact oD (h y hy)
structure FewO (L:List N3):Prop where
 len:L.length≤18
 each:∀ x∈L,x.1.sc.length≤6∧x.1.fg.length≤18
theorem yY (L:List N3):FewO ((L.take (min L.length 18)).map iD):=by
 refine ⟨by rw [List.length_map,List.length_take];omega,fun x hx=>?_⟩
 obtain ⟨y,_,rfl⟩:=List.mem_map.1 hx
 refine ⟨?_,?_⟩
 ·show (y.1.sc.take _).length≤6;rw [List.length_take];omega
 ·show (y.1.fg.take _).length≤18;rw [List.length_take];omega
end Go.Proofs.YthggibfkgofncaaGreat
namespace Go.Proofs.YthggibfkgofncaaGreat
open Go.RowKit
theorem EB {l:List Mb} {no:Int} (h:decide ((fB l no).1=no)=false):ce l no=false:=by unfold ce;rw [h];rfl
theorem D6 {l:List Mb} {no:Int} (h:decide ((fB l no).1=no)=true):ce l no=decide (0≤no):=by unfold ce;rw [h];rfl
theorem z7 {L:List N3} {x:N3} (h:(dH x L).2=true):ec L x=(dH x L).1:=by unfold ec;rw [h];rfl
theorem Ab {L:List N3} {x:N3} (h:(dH x L).2=false):ec L x=(dH x L).1++[x]:=by unfold ec;rw [h];rfl
theorem j2 {L:List N3} {k:Nat} (hk:k<L.length):aM (L.take (k+1))=aM (L.take k)++[(L.getD k z3).1.me]:=by unfold aM;rw [j8 hk,List.map_append];rfl
section
variable {P:Program} {ρ:Operand→Value} {d:Option Tmp} {ty:TypeId} {pos:String} {af:Array Edge} {g:Option (Nat × Bool)} {x:Operand} {t:TypeId}
theorem oG {m:Mb} (S:Stt P t CF) (hx:ρ x=.agg (aw m)):ca P ⟨d,.build t #[(0,x)],ty,pos,af,g⟩ ρ (.agg (aC m aT a8 a8)):=by
 have:=ew (P:=P) (ρ:=ρ) (d:=d) (ty:=ty) (pos:=pos) (af:=af) (g:=g) (parts:=#[(0,x)]) S [(0,.agg (aw m))] (by simp [hx]) (fun i u hm=>by
  simp only [List.mem_cons,Prod.mk.injEq,List.not_mem_nil,or_false] at hm
  obtain ⟨rfl,rfl⟩:=hm
  exact ⟨_,rfl,by show (aw m).size=_;rw [ak];rfl⟩) (D:=i1 m aT a8 a8) (by
   show (aw m).toList++((Value.int .i64 0::List.replicate 32 (Value.int .u8 0))++([a8]++([a8]++[])))=_
   rw [← mT];rfl)
 exact this
end
def CP (w:World) (N:TypeId) (K:List N3):cX:=fun v w'=>∃ vo,v=.agg #[vo]∧cQ w' w.heap.size N 68 vo K.length (aD K)
theorem ru {w w':World} {N:TypeId} {K L:List N3} {vo:Value} (h:K=L) (hO:cQ w' w.heap.size N 68 vo L.length (aD L)):CP w N K (.agg #[vo]) w':=by subst h;exact ⟨vo,rfl,hO⟩
end Go.Proofs.YthggibfkgofncaaGreat
namespace Go.Proofs.YthggibfkgofncaaGreat
open Go.RowKit
structure RwB (L:List N3):Prop where
 each:∀ x∈L,x.1.sc.length≤300∧x.1.fg.length≤300
theorem FewO.rb {L:List N3} (h:FewO L):RwB L:=⟨fun x hx=>by have:=h.each x hx;omega⟩
def iZ (l:List Mb) (m:Mb):Bool:=decide (0≤(fB l m.1).1) && !decide (fB l m.1=m)
def go (L:List N3) (k:Nat):Bool := !cy (L.getD k z3).1 || ((decide (0<k) && decide ((L.getD k z3).1.me.1≤(L.getD (k - 1) z3).1.me.1)) || (aE (L.getD k z3).1).any (iZ (aM L)))
def gm (L:List N3):Bool:=((List.range L.length).all fun k => !go L k) && dc (aM L)
theorem jQ {L:List N3} {k:Nat} (hk:k<L.length) (h:go L k=true):gm L=false:=by
 unfold gm
 have:((List.range L.length).all fun k => !go L k)=false:=by
  rw [← Bool.not_eq_true,List.all_eq_true]
  intro h9
  have:=h9 k (List.mem_range.2 hk)
  rw [h] at this;cases this
 rw [this];rfl
theorem zf {L:List N3} {k:Nat} (hk:L.length≤k) (h:∀ j,j<k→go L j=false):gm L=dc (aM L):=by
 unfold gm
 have:((List.range L.length).all fun k => !go L k)=true:=by
  rw [List.all_eq_true]
  intro j hj
  rw [h j (by have:=List.mem_range.1 hj;omega)];rfl
 rw [this];rfl
theorem Ey {L:List N3} {k:Nat} (h:cy (L.getD k z3).1=false):go L k=true:=by unfold go;rw [h];rfl
theorem CT {L:List N3} {k:Nat} (h:decide (0<k)=true) (h1:decide ((L.getD k z3).1.me.1≤(L.getD (k - 1) z3).1.me.1)=true):go L k=true:=by unfold go;rw [h,h1];simp
theorem C7 {L:List N3} {k j:Nat} (hj:j<(aE (L.getD k z3).1).length) (h:iZ (aM L) ((aE (L.getD k z3).1).getD j aT)=true):go L k=true:=by
 unfold go
 have:(aE (L.getD k z3).1).any (iZ (aM L))=true:=List.any_eq_true.2 ⟨_,eA hj,h⟩
 rw [this];simp
theorem Dc {L:List N3} {k j:Nat} (h:cy (L.getD k z3).1=true) (h1:decide (0<k)=false∨decide ((L.getD k z3).1.me.1≤(L.getD (k - 1) z3).1.me.1)=false) (hj:(aE (L.getD k z3).1).length≤j) (h2:∀ i,i<j→iZ (aM L) ((aE (L.getD k z3).1).getD i aT)=false):go L k=false:=by
 unfold go
 have e1:(decide (0<k) && decide ((L.getD k z3).1.me.1≤(L.getD (k - 1) z3).1.me.1))=false:=by rcases h1 with h1|h1<;>rw [h1]<;>simp
 have e2:(aE (L.getD k z3).1).any (iZ (aM L))=false:=by
  rw [List.any_eq_false]
  intro x hx
  obtain ⟨i,hi,rfl⟩:=jN hx
  rw [h2 i (by omega)];decide
 rw [h,e1,e2];rfl
theorem CQ {l:List Mb} {m:Mb} (h:decide (0≤(fB l m.1).1)=false):iZ l m=false:=by unfold iZ;rw [h];rfl
theorem yy {l:List Mb} {m:Mb} (h:decide (0≤(fB l m.1).1)=true):iZ l m = !decide (fB l m.1=m):=by unfold iZ;rw [h];rfl
structure RO (E:List Nd):Prop where
 rn:∀ n∈E,RN n
 inc:E.Pairwise fun a b=>a.me.1<b.me.1
 kn:∀ n∈E,∀ m∈aE n,∀ s∈E,s.me.1=m.1→s.me=m
 ring:Rg (E.map (·.me))
theorem Bp {L:List N3} (h:∀ k,0<k→k<L.length→(L.getD (k - 1) z3).1.me.1<(L.getD k z3).1.me.1):∀ i j,i<j→j<L.length→(L.getD i z3).1.me.1<(L.getD j z3).1.me.1:=fun i j hij hj=>by
 induction j with
 |zero=>omega
 |succ j ih=>
  have h1:=h (j+1) (Nat.zero_lt_succ _) hj
  rw [Nat.add_sub_cancel] at h1
  by_cases e:i=j
  ·subst e;exact h1
  ·have:=ih (by omega) (by omega)
   omega
theorem eT {L:List N3} (h:gm L=true):RO (nds L):=by
 unfold gm at h
 rw [Bool.and_eq_true,List.all_eq_true] at h
 obtain ⟨h1,h2⟩:=h
 have hb:∀ k,k<L.length→go L k=false:=fun k hk=>by have:=h1 k (List.mem_range.2 hk);simpa using this
 have hring:Rg ((nds L).map (·.me)):=by
  have:=(kz _).1 h2
  unfold nds;rw [List.map_map];exact this
 have hall:∀ k,k<L.length→cy (L.getD k z3).1=true∧(0<k→(L.getD (k - 1) z3).1.me.1<(L.getD k z3).1.me.1)∧∀ m∈aE (L.getD k z3).1,iZ (aM L) m=false:=fun k hk=>by
  have:=hb k hk
  unfold go at this
  rw [Bool.or_eq_false_iff,Bool.or_eq_false_iff,List.any_eq_false] at this
  refine ⟨by simpa using this.1,fun h0=>?_,fun m hm=>by have:=this.2.2 m hm;simpa using this⟩
  have h9:=this.2.1
  rw [decide_eq_true h0,Bool.true_and,decide_eq_false_iff_not] at h9
  omega
 have hinc:(nds L).Pairwise fun a b=>a.me.1<b.me.1:=by
  unfold nds
  rw [List.pairwise_map,List.pairwise_iff_getElem]
  intro i j hi hj hij
  rw [lR hi,lR hj]
  exact Bp (fun k h0 hk=>(hall k hk).2.1 h0) i j hij hj
 refine ⟨fun n hn=>?_,hinc,fun n hn m hm s hs he=>?_,hring⟩
 ·obtain ⟨x,hx,rfl⟩:=List.mem_map.1 hn
  obtain ⟨k,hk,rfl⟩:=qe hx
  exact ik.1 (hall k hk).1
 ·obtain ⟨x,hx,rfl⟩:=List.mem_map.1 hn
  obtain ⟨k,hk,rfl⟩:=qe hx
  have h9:=(hall k hk).2.2 m hm
  unfold iZ at h9
  have hs2:s.me∈aM L:=by
   obtain ⟨y,hy,rfl⟩:=List.mem_map.1 hs
   exact List.mem_map.2 ⟨y,hy,rfl⟩
  have hf:=sN ((kz _).1 h2) hs2
  rw [he] at hf
  have hr:fB (aM L) m.1=s.me:=by unfold fB;rw [hf];rfl
  rw [hr] at h9
  have hnn:0≤s.me.1:=(((kz _).1 h2).nos _ hs2).1
  rw [decide_eq_true hnn,Bool.true_and] at h9
  simpa using h9
end Go.Proofs.YthggibfkgofncaaGreat
namespace Go.Proofs.YthggibfkgofncaaGreat
theorem Br {p:Nat→Bool} {k:Nat} (h:∀ j,j<k→p j=true) (hk:p k=true):∀ j,j<k+1→p j=true:=fun j hj=>by
 by_cases e:j<k
 ·exact h j e
 ·obtain rfl:j=k:=by omega
  exact hk
end Go.Proofs.YthggibfkgofncaaGreat
namespace Go.Proofs.YthggibfkgofncaaGreat
open Go.RowKit
theorem tL {w w':World} {R:World→Prop} {E:List Nd} {vo:Value} {L:List N3} {A:List Own} (hE:nds L=E) (h:∀ w9,(∀ p∈A,p.holds w w9)→R w9→dN w9 vo L) (s:St w A w'):yi w R E (.agg #[vo]) w':=by
 refine ⟨vo,L,_,rfl,hE,(St.group (A:=A) (B:=[]) (by rw [List.append_nil];exact s)).weak fun w9 h9 hR=>h w9 h9 hR⟩
def wh:Value→Value
 |Value.agg a=>DU (a[0]?)
 |_=>a8
theorem xX {v:Value} {w:World} {sz n:Nat} {xs:List Value} (h:bq w v sz n xs):wh (.agg #[v])=v:=by
 obtain ⟨q,c,rfl⟩:=h.len
 rfl
theorem yR {x:N3} {acc:List N3} {y:N3} (h:y.1.me.1<x.1.me.1):fe x (acc,false) y=(acc++[y],false):=
 sF (.inr (decide_eq_false (by omega))) (decide_eq_true (by omega))
theorem yv {x:N3} {acc:List N3} {y:N3} (h:y.1.me.1=x.1.me.1):fe x (acc,false) y=(acc++[x],true):=
 AE rfl (decide_eq_true (by omega)) (decide_eq_false (by omega))
theorem zS {x:N3} {acc:List N3} {y:N3} (h:x.1.me.1<y.1.me.1):fe x (acc,true) y=(acc++[y],true):=
 sF (.inl rfl) (decide_eq_true (by omega))
theorem mh {x:N3}:∀ (A acc:List N3),(∀ y∈A,y.1.me.1<x.1.me.1)→A.foldl (fe x) (acc,false)=(acc++A,false)
 |[],acc,_=>by rw [List.append_nil];rfl
 |y::A,acc,h=>by
  rw [List.foldl_cons,yR (h y List.mem_cons_self),mh A _ fun z hz=>h z (List.mem_cons_of_mem _ hz),List.append_assoc];rfl
theorem pz {x:N3}:∀ (A acc:List N3),(∀ y∈A,x.1.me.1<y.1.me.1)→A.foldl (fe x) (acc,true)=(acc++A,true)
 |[],acc,_=>by rw [List.append_nil];rfl
 |y::A,acc,h=>by
  rw [List.foldl_cons,zS (h y List.mem_cons_self),pz A _ fun z hz=>h z (List.mem_cons_of_mem _ hz),List.append_assoc];rfl
theorem sQ {A B:List N3} {x y:N3} (hA:∀ z∈A,z.1.me.1<x.1.me.1) (hy:y.1.me.1=x.1.me.1) (hB:∀ z∈B,x.1.me.1<z.1.me.1):ec (A++y::B) x=A++x::B:=by
 have:dH x (A++y::B)=(A++x::B,true):=by
  unfold dH
  rw [List.foldl_append,mh A [] hA,List.nil_append,List.foldl_cons,yv hy,pz B _ hB,List.append_assoc];rfl
 unfold ec;rw [this];rfl
structure RS (L:List N3):Prop where
 rn:∀ x∈L,RN x.1
 inc:L.Pairwise fun a b=>a.1.me.1<b.1.me.1
 ring:Rg (aM L)
theorem RO.rs {L:List N3} (h:RO (nds L)):RS L:=by
 refine ⟨fun x hx=>h.rn _ (List.mem_map.2 ⟨x,hx,rfl⟩),?_,?_⟩
 ·have:=h.inc
  unfold nds at this
  rwa [List.pairwise_map] at this
 ·have:=h.ring
  unfold nds at this
  rw [List.map_map] at this;exact this
theorem RS.put {L:List N3} (h:RS L) {x y:N3} (hy:y∈L) (he:y.1.me=x.1.me) (hx:RN x.1):RS (ec L x)∧aM (ec L x)=aM L∧x∈ec L x:=by
 obtain ⟨A,B,rfl⟩:=List.append_of_mem hy
 have hp:=List.pairwise_append.1 h.inc
 have hp2:=List.pairwise_cons.1 hp.2.1
 have hno:y.1.me.1=x.1.me.1:=by rw [he]
 have e:=sQ (x:=x) (fun z hz=>by rw [← hno];exact hp.2.2 z hz y List.mem_cons_self) hno (fun z hz=>by rw [← hno];exact hp2.1 z hz)
 have em:aM (A++x::B)=aM (A++y::B):=by simp [aM,he]
 rw [e]
 refine ⟨⟨fun z hz=>?_,?_,?_⟩,em,by simp⟩
 ·rcases List.mem_append.1 hz with hz|hz
  ·exact h.rn z (List.mem_append_left _ hz)
  ·rcases List.mem_cons.1 hz with rfl|hz
   ·exact hx
   ·exact h.rn z (List.mem_append_right _ (List.mem_cons_of_mem _ hz))
 ·rw [List.pairwise_append,List.pairwise_cons]
  refine ⟨hp.1,⟨fun z hz=>by rw [← hno];exact hp2.1 z hz,hp2.2⟩,fun a ha b hb=>?_⟩
  rcases List.mem_cons.1 hb with rfl|hb
  ·rw [← hno];exact hp.2.2 a ha y List.mem_cons_self
  ·exact hp.2.2 a ha b (List.mem_cons_of_mem _ hb)
 ·rw [em];exact h.ring
theorem RS.nos {L:List N3} (h:RS L):∀ m∈aM L,0≤m.1:=fun m hm=>(h.ring.nos m hm).1
theorem RS.len {L:List N3} (h:RS L):L.length≤16:=by
 have:=h.ring.len
 simpa [aM] using this
theorem RS.get {L:List N3} (h:RS L) {no:Int} (hl:ce (aM L) no=true):bC L no∈L∧(bC L no).1.me.1=no:=by
 obtain ⟨m,hm,hno⟩:=(fj h.nos).1 hl
 obtain ⟨x,hx,rfl⟩:=List.mem_map.1 hm
 unfold bC
 cases hf:L.find? fun x=>decide (x.1.me.1=no) with
 |none=>exact absurd (decide_eq_true hno) (List.find?_eq_none.1 hf x hx)
 |some z=>exact ⟨List.mem_of_find?_eq_some hf,by have:=List.find?_some hf;exact of_decide_eq_true this⟩
def dJ (l:List Mb) (n:Nd):List Int:=((aE n).filter fun m => !ce l m.1).map (·.1)
def fI (l:List Mb) (n:Nd) (k:Nat):List Int:=(((aE n).take k).filter fun m => !ce l m.1).map (·.1)
theorem pa {l:List Mb} {n:Nd} {k:Nat} (hk:k<(aE n).length) (h:ce l ((aE n).getD k aT).1=true):fI l n (k+1)=fI l n k:=by
 unfold fI;rw [j7 hk,List.filter_append,List.filter_cons,h];simp
theorem o6 {l:List Mb} {n:Nd} {k:Nat} (hk:k<(aE n).length) (h:ce l ((aE n).getD k aT).1=false):fI l n (k+1)=fI l n k++[((aE n).getD k aT).1]:=by
 unfold fI;rw [j7 hk,List.filter_append,List.filter_cons,h];simp
theorem kr (l:List Mb) (n:Nd):fI l n (aE n).length=dJ l n:=by unfold fI;rw [List.take_length];rfl
theorem iW (l:List Mb) (n:Nd) (k:Nat):(fI l n k).length≤(aE n).length:=by
 unfold fI
 have:=List.length_filter_le (fun m:Mb => !ce l m.1) ((aE n).take k)
 rw [List.length_take] at this
 rw [List.length_map];omega
def dG (l:List Mb) (n:Nd):Nd:=⟨n.me,yj n (dJ l n),ky (dh n.sc (dJ l n) n.me.1) n.me,dh n.fg (dJ l n) n.me.1⟩
theorem rP {l:List Mb} {n:Nd} (h:RN n):dG l n=⟨n.me,tz n (dJ l n),ky (dS n.sc (dJ l n)) n.me,dS n.fg (dJ l n)⟩:=by
 unfold dG;rw [zA h,zE h,yo h]
theorem sm {l:List Mb} {n:Nd} (h:RN n):RN (dG l n):=by rw [rP h];exact zC h _
theorem pl (l:List Mb) (m:Mb):1≤(ky l m).length:=by
 by_cases h:l.length=0
 ·rw [km h];exact Nat.le_refl _
 ·rw [jd h];omega
theorem kU {l:List Mb} {n:Nd} (h:RN n) (hm:ce l n.me.1=true):ce l ((dG l n).sc.getD 0 aT).1=true:=by
 rw [rP h]
 show ce l ((ky (dS n.sc (dJ l n)) n.me).getD 0 aT).1=true
 by_cases h0:(dS n.sc (dJ l n)).length=0
 ·rw [km h0];exact hm
 ·rw [jd h0]
  have hx:=eA (l:=dS n.sc (dJ l n)) (j:=0) (by omega)
  obtain ⟨h1,h2⟩:=List.mem_filter.1 hx
  cases hl:ce l ((dS n.sc (dJ l n)).getD 0 aT).1 with
  |true=>rfl
  |false=>
   exfalso
   have h3:dX (dJ l n) ((dS n.sc (dJ l n)).getD 0 aT)=true:=pN.2 (by
    show _∈((aE n).filter fun m => !ce l m.1).map (·.1)
    refine List.mem_map.2 ⟨_,List.mem_filter.2 ⟨?_,by rw [hl];rfl⟩,rfl⟩
    unfold aE
    exact List.mem_cons_of_mem _ (List.mem_append_left _ h1))
   rw [h3] at h2;cases h2
def pI (l:List Mb) (s:Nd):Nd:=⟨s.me,bif ce l s.pr.1 then s.pr else de,s.sc,s.fg⟩
theorem kD {l:List Mb} {s:Nd} (h:RN s):RN (pI l s):=by
 have key:(pI l s).pr=s.pr∨(pI l s).pr=de:=by
  unfold pI
  cases ce l s.pr.1 with
  |true=>exact .inl rfl
  |false=>exact .inr rfl
 refine ⟨h.me,?_,h.sc,h.fg⟩
 rcases key with e|e
 ·rw [e];exact h.pr
 ·exact .inl e
def q7 (n1 s:Nd):Nd:=⟨n1.me,n1.pr,dx n1 s,n1.fg⟩
theorem m6 {n1 s:Nd} (h:RN n1) (hs:RN s):RN (q7 n1 s):=zc h hs
def AF (g:Nd) (me:Mb):Nd:=⟨g.me,gN g me,g.sc,g.fg⟩
theorem ra {g:Nd} {me:Mb} (h:RN g) (hm:0≤me.1∧me.1<16):RN (AF g me):=z1 h (gO.2 hm)
def rZ (E:List Nd):List Mb:=E.map (·.me)
def fE (E:List Nd) (no:Int):List Nd:=
 let n1:=dG (rZ E) (rx E no)
 let E1:=iw E n1
 let s:=pI (rZ E1) (rx E1 (n1.sc.getD 0 aT).1)
 let n2:=q7 n1 s
 let E2:=iw E1 n2
 let fi:=(n2.sc.getD 0 aT).1
 bif ce (rZ E2) fi then iw E2 (AF (rx E2 fi) n2.me) else E2
theorem dE (L:List N3):rZ (nds L)=aM L:=by unfold rZ nds;rw [List.map_map];rfl
theorem kl (L:List N3) (no:Int) {u1 u2 f1:Value} {L1 L2:List N3} (h1:L1=ec L (dG (aM L) (bC L no).1,u1,u2)) (h2:L2=ec L1 (q7 (dG (aM L) (bC L no).1) (pI (aM L1) (bC L1 ((dG (aM L) (bC L no).1).sc.getD 0 aT).1).1),f1,u2)):
 fE (nds L) no=bif ce (aM L2) ((q7 (dG (aM L) (bC L no).1) (pI (aM L1) (bC L1 ((dG (aM L) (bC L no).1).sc.getD 0 aT).1).1)).sc.getD 0 aT).1
  then iw (nds L2) (AF (rx (nds L2) ((q7 (dG (aM L) (bC L no).1) (pI (aM L1) (bC L1 ((dG (aM L) (bC L no).1).sc.getD 0 aT).1).1)).sc.getD 0 aT).1) (dG (aM L) (bC L no).1).me) else nds L2:=by
 have e1:nds L1=iw (nds L) (dG (aM L) (bC L no).1):=by rw [h1,fF]
 have e2:nds L2=iw (nds L1) (q7 (dG (aM L) (bC L no).1) (pI (aM L1) (bC L1 ((dG (aM L) (bC L no).1).sc.getD 0 aT).1).1)):=by rw [h2,fF]
 unfold fE
 simp only [dE,← gZ,← e1,← e2]
 rfl
end Go.Proofs.YthggibfkgofncaaGreat
namespace Go.Proofs.YthggibfkgofncaaGreat
open Go.RowKit
theorem tN {w w':World} {N M:TypeId} {R:World→Prop} {E:List Nd} {vo a b c:Value} {L:List N3} {n0 na nb nc:Nat} {x0 xa xb xc:List Value} (hE:nds L=E)
 (h:∀ w9,bq w9 vo 68 n0 x0→bq w9 a 33 na xa→bq w9 b 33 nb xb→bq w9 c 33 nc xc→R w9→dN w9 vo L) (s:St w [.sl vo N 68 n0 x0,.sl a M 33 na xa,.sl b M 33 nb xb,.sl c M 33 nc xc] w'):yi w R E (.agg #[vo]) w':=
 tL hE (fun w9 h9 hR=>h w9 (bq.of_own (h9 (.sl vo N 68 n0 x0) (by simp))) (bq.of_own (h9 (.sl a M 33 na xa) (by simp))) (bq.of_own (h9 (.sl b M 33 nb xb) (by simp))) (bq.of_own (h9 (.sl c M 33 nc xc) (by simp))) hR) s
end Go.Proofs.YthggibfkgofncaaGreat
namespace Go.Proofs.YthggibfkgofncaaGreat
open Go.RowKit
theorem St.grp0 {w0 w:World} {B:List Own} {S:World→Prop} (s:St w0 B w) (h:∀ w9,S w9):St w0 (.grp [] S::B) w:=
 (St.group (A:=[]) (B:=B) s).weak fun w9 _=>h w9
theorem St.merge {w0 w:World} {k1 k2:List Nat} {S1 S2 S:World→Prop} {B:List Own} (s:St w0 (.grp k1 S1::.grp k2 S2::B) w) (h:∀ w9,S1 w9→S2 w9→S w9):St w0 (.grp (k1++k2) S::B) w:=by
 have g:=St.group (A:=[.grp k1 S1,.grp k2 S2]) (B:=B) s
 have e:[Own.grp k1 S1,.grp k2 S2].flatMap Own.ks=k1++k2:=by simp [Own.ks]
 unfold Own.all at g
 rw [e] at g
 exact g.weak fun w9 h9=>h w9 ((h9 (.grp k1 S1) (by simp)).2 w9 fun _ _=>rfl) ((h9 (.grp k2 S2) (by simp)).2 w9 fun _ _=>rfl)
theorem xn {L K:List N3} (h:nds L=nds K) (hL:RS L):RS K:=by
 have hm:aM K=aM L:=by rw [← dE,← dE,h]
 refine ⟨fun x hx=>?_,?_,by rw [hm];exact hL.ring⟩
 ·have:x.1∈nds L:=by rw [h];exact List.mem_map.2 ⟨x,hx,rfl⟩
  obtain ⟨y,hy,e⟩:=List.mem_map.1 this
  rw [← e];exact hL.rn y hy
 ·have h1:(nds L).Pairwise fun a b=>a.me.1<b.me.1:=by unfold nds;rw [List.pairwise_map];exact hL.inc
  rw [h] at h1
  unfold nds at h1
  rwa [List.pairwise_map] at h1
theorem RS.rb {L:List N3} (h:RS L):RwB L:=⟨fun x hx=>by have h1:=(h.rn x hx).len;have h2:=(h.rn x hx).fg.1;omega⟩
theorem pd {L K:List N3} {no:Int} (h:RS L) (hl:ce (aM L) no=true) (hK:nds K=fE (nds L) no):RS K∧aM K=aM L:=by
 obtain ⟨hgm,hgn⟩:=h.get hl
 have hgr:=h.rn _ hgm
 have hT1:=sm (l:=aM L) hgr
 obtain ⟨L1,hL1⟩:∃ x,x=ec L (dG (aM L) (bC L no).1,a8,a8):=⟨_,rfl⟩
 obtain ⟨hrs1,hm1,hi1⟩:=h.put (x:=(dG (aM L) (bC L no).1,a8,a8)) hgm rfl hT1
 rw [← hL1] at hrs1 hm1 hi1
 have hf1:ce (aM L1) ((dG (aM L) (bC L no).1).sc.getD 0 aT).1=true:=by rw [hm1];exact kU hgr (by rw [hgn];exact hl)
 obtain ⟨hgm1,hgn1⟩:=hrs1.get hf1
 have hsr:=hrs1.rn _ hgm1
 obtain ⟨L2,hL2⟩:∃ x,x=ec L1 (q7 (dG (aM L) (bC L no).1) (pI (aM L1) (bC L1 ((dG (aM L) (bC L no).1).sc.getD 0 aT).1).1),a8,a8):=⟨_,rfl⟩
 obtain ⟨hrs2,hm2,hi2⟩:=hrs1.put (x:=(q7 (dG (aM L) (bC L no).1) (pI (aM L1) (bC L1 ((dG (aM L) (bC L no).1).sc.getD 0 aT).1).1),a8,a8)) hi1 rfl (m6 hT1 (kD hsr))
 rw [← hL2] at hrs2 hm2 hi2
 rw [kl L no hL1 hL2] at hK
 cases hb:ce (aM L2) ((q7 (dG (aM L) (bC L no).1) (pI (aM L1) (bC L1 ((dG (aM L) (bC L no).1).sc.getD 0 aT).1).1)).sc.getD 0 aT).1 with
 |false=>
  rw [hb] at hK
  have hK:nds L2=nds K:=hK.symm
  exact ⟨xn hK hrs2,by rw [← dE,← hK,dE,hm2,hm1]⟩
 |true=>
  rw [hb] at hK
  obtain ⟨hg2,hn2⟩:=hrs2.get hb
  obtain ⟨hrs3,hm3,_⟩:=hrs2.put (x:=(AF (bC L2 ((q7 (dG (aM L) (bC L no).1) (pI (aM L1) (bC L1 ((dG (aM L) (bC L no).1).sc.getD 0 aT).1).1)).sc.getD 0 aT).1).1 (dG (aM L) (bC L no).1).me,a8,a8)) hg2 rfl (ra (hrs2.rn _ hg2) hT1.me)
  have hK:nds (ec L2 (AF (bC L2 ((q7 (dG (aM L) (bC L no).1) (pI (aM L1) (bC L1 ((dG (aM L) (bC L no).1).sc.getD 0 aT).1).1)).sc.getD 0 aT).1).1 (dG (aM L) (bC L no).1).me,a8,a8))=nds K:=by rw [fF,gZ];exact hK.symm
  exact ⟨xn hK hrs3,by rw [← dE,← hK,dE,hm3,hm2,hm1]⟩
def lK (E:List Nd) (k:Nat):List Nd:=((rZ E).take k).foldl (fun F m=>fE F m.1) E
def gU (E:List Nd):List Nd:=(rZ E).foldl (fun F m=>fE F m.1) E
theorem kN {L:List N3} {k:Nat} (hk:k<(aM L).length):lK (nds L) (k+1)=fE (lK (nds L) k) ((aM L).getD k aT).1:=by
 unfold lK;rw [dE,j7 hk,List.foldl_append];rfl
theorem mG {L:List N3} {k:Nat} (hk:k=(aM L).length):lK (nds L) k=gU (nds L):=by
 subst hk;unfold lK gU;rw [dE,List.take_length]
end Go.Proofs.YthggibfkgofncaaGreat
namespace Go.Proofs.YthggibfkgofncaaGreat
open Go.RowKit
def zX (n:Nd):Bool:=decide (n.pr=de) && (decide (n.sc.length=1) && decide (n.sc.getD 0 aT=n.me))
def r6 (L:List N3) (k:Nat):Bool:=decide ((L.getD k z3).1.pr=rl (aM L) (L.getD k z3).1.me) && decide ((L.getD k z3).1.sc=i3 (aM L) (L.getD k z3).1.me (min (L.length - 1) 4))
def hQ (L:List N3):Bool:=gm L && bif decide (L.length=1) then zX (L.getD 0 z3).1 else (List.range L.length).all (r6 L)
theorem Dm {L:List N3} (h:gm L=false):hQ L=false:=by unfold hQ;rw [h];rfl
theorem xT {L:List N3} {k:Nat} (h:gm L=true) (hk:k<L.length) (h1:L.length=1):hQ L=zX (L.getD k z3).1:=by
 obtain rfl:k=0:=by omega
 unfold hQ;rw [h,decide_eq_true h1];rfl
theorem yO {L:List N3} {k:Nat} (h1:¬ L.length=1) (hk:k<L.length) (hb:r6 L k=false):hQ L=false:=by
 unfold hQ
 have:(List.range L.length).all (r6 L)=false:=by
  rw [← Bool.not_eq_true,List.all_eq_true]
  intro h9
  have:=h9 k (List.mem_range.2 hk)
  rw [hb] at this;cases this
 rw [decide_eq_false h1,this];simp
theorem zQ {L:List N3} {k:Nat} (h:gm L=true) (h1:¬ L.length=1) (hk:L.length≤k) (hb:∀ j,j<k→r6 L j=true):hQ L=true:=by
 unfold hQ
 have:(List.range L.length).all (r6 L)=true:=by
  rw [List.all_eq_true]
  intro j hj
  exact hb j (by have:=List.mem_range.1 hj;omega)
 rw [h,decide_eq_false h1,this];rfl
end Go.Proofs.YthggibfkgofncaaGreat
namespace Go.Proofs.YthggibfkgofncaaGreat
open Go.RowKit
end Go.Proofs.YthggibfkgofncaaGreat
namespace Go.Proofs.YthggibfkgofncaaGreat
open Go.RowKit
theorem p8 {w w':World} {N:TypeId} {R:World→Prop} {E:List Nd} {vo:Value} {L:List N3} {ks:List Nat} (hE:nds L=E) (s:St w [.sl vo N 68 L.length (aD L),.grp ks (cS L)] w'):yi w R E (.agg #[vo]) w':=
 tL hE (fun w9 h9 _=>⟨bq.of_own (h9 (.sl vo N 68 L.length (aD L)) (by simp)),(h9 (.grp ks (cS L)) (by simp)).2 w9 fun _ _=>rfl⟩) s
theorem St.grpR {w0 w:World} {a b:Value} {M N:TypeId} {sa sb n m:Nat} {xs ys:List Value} {ks:List Nat} {S S':World→Prop} {B:List Own} (s:St w0 (.sl a M sa n xs::.sl b N sb m ys::.grp ks S::B) w) (h:∀ w9,bq w9 a sa n xs→bq w9 b sb m ys→S w9→S' w9):∃ kn,St w0 (.grp kn S'::B) w:=
 ⟨_,(St.group (A:=[.sl a M sa n xs,.sl b N sb m ys,.grp ks S]) (B:=B) s).weak fun w9 h9=>h w9 (bq.of_own (h9 (.sl a M sa n xs) (by simp))) (bq.of_own (h9 (.sl b N sb m ys) (by simp))) ((h9 (.grp ks S) (by simp)).2 w9 fun _ _=>rfl)⟩
end Go.Proofs.YthggibfkgofncaaGreat
namespace Go.Proofs.YthggibfkgofncaaGreat
end Go.Proofs.YthggibfkgofncaaGreat
namespace Go.Proofs.YthggibfkgofncaaGreat
open Go.RowKit
def Av (w:World) (R:World→Prop) (E:List Nd) (k:Int):cX:=fun v w'=>∃ o,v=.tuple #[o,.int .i64 k]∧yi w R E o w'
theorem iC {w w':World} {B:List Own} {R:World→Prop} {E:List Nd} {k q:Int} (s:St w B w') (hE:E=[]) (hk:k=q):Av w R E k (.tuple #[.agg #[a8],.int .i64 q]) w':=by
 subst hE;subst hk;exact ⟨_,rfl,zj s⟩
theorem m7 {w w':World} {R:World→Prop} {E:List Nd} {k q:Int} {o:Value} (hk:k=q) (h:yi w R E o w'):Av w R E k (.tuple #[o,.int .i64 q]) w':=by
 subst hk;exact ⟨_,rfl,h⟩
def ku (m y:Mb):Bool:=decide (y.1=m.1) && !decide (y=m)
def lT (L:List N3) (m:Mb) (k:Nat):Bool:=decide ((L.getD k z3).1.me.1=m.1) || (decide ((L.getD k z3).1.me.2=m.2) || (aE (L.getD k z3).1).any (ku m))
def vg (L:List N3) (m:Mb):Bool:=(List.range L.length).any (lT L m)
def ve (L:List N3) (m:Mb) (no:Int):Int:=bif vg L m then 7 else bif decide (0<L.length) && !ce (aM L) no then 10 else 0
def Cx (L:List N3) (m:Mb) (no:Int):Mb:=bif decide (0<L.length) then (bC L no).1.me else m
def Bh (L:List N3) (m:Mb) (no:Int):List Nd:=bif decide (ve L m no=0) then iw (nds L) ⟨m,de,[Cx L m no],[]⟩ else []
theorem Dh {L:List N3} {m:Mb} {k:Nat} (hk:k<L.length) (h:lT L m k=true):vg L m=true:=List.any_eq_true.2 ⟨k,List.mem_range.2 hk,h⟩
theorem ED {L:List N3} {m:Mb} {k:Nat} (hk:L.length≤k) (h:∀ j,j<k→lT L m j=false):vg L m=false:=by
 unfold vg
 rw [List.any_eq_false]
 intro j hj
 rw [h j (by have:=List.mem_range.1 hj;omega)];decide
theorem Ca {L:List N3} {m:Mb} {k:Nat} (h:decide ((L.getD k z3).1.me.1=m.1)=true):lT L m k=true:=by unfold lT;rw [h];rfl
theorem DH {L:List N3} {m:Mb} {k:Nat} (h:decide ((L.getD k z3).1.me.2=m.2)=true):lT L m k=true:=by unfold lT;rw [h];simp
theorem CK {L:List N3} {m:Mb} {k j:Nat} (hj:j<(aE (L.getD k z3).1).length) (h:ku m ((aE (L.getD k z3).1).getD j aT)=true):lT L m k=true:=by
 unfold lT
 have:(aE (L.getD k z3).1).any (ku m)=true:=List.any_eq_true.2 ⟨_,eA hj,h⟩
 rw [this];simp
theorem DL {L:List N3} {m:Mb} {k j:Nat} (h0:decide ((L.getD k z3).1.me.1=m.1)=false) (h1:decide ((L.getD k z3).1.me.2=m.2)=false) (hj:(aE (L.getD k z3).1).length≤j) (h2:∀ i,i<j→ku m ((aE (L.getD k z3).1).getD i aT)=false):lT L m k=false:=by
 unfold lT
 have e2:(aE (L.getD k z3).1).any (ku m)=false:=by
  rw [List.any_eq_false]
  intro x hx
  obtain ⟨i,hi,rfl⟩:=jN hx
  rw [h2 i (by omega)];decide
 rw [h0,h1,e2];rfl
theorem Dy {L:List N3} {m:Mb} {no:Int} (h:vg L m=true):ve L m no=7:=by unfold ve;rw [h];rfl
theorem AN {L:List N3} {m:Mb} {no:Int} (h:vg L m=false) (h0:0<L.length) (h1:ce (aM L) no=false):ve L m no=10:=by unfold ve;rw [h,decide_eq_true h0,h1];rfl
theorem zG {L:List N3} {m:Mb} {no:Int} (h:vg L m=false) (h0:¬ 0<L.length∨ce (aM L) no=true):ve L m no=0:=by
 unfold ve;rw [h]
 rcases h0 with h0|h0
 ·rw [decide_eq_false h0];rfl
 ·rw [h0];simp
theorem A3 {L:List N3} {m:Mb} {no k:Int} (h:ve L m no=k) (h0:k≠0):Bh L m no=[]:=by unfold Bh;rw [decide_eq_false (by rw [h];exact h0)];rfl
theorem EE {L:List N3} {m:Mb} {no:Int} (h:0<L.length):Cx L m no=(bC L no).1.me:=by unfold Cx;rw [decide_eq_true h];rfl
theorem D1 {L:List N3} {m:Mb} {no:Int} (h:¬ 0<L.length):Cx L m no=m:=by unfold Cx;rw [decide_eq_false h];rfl
end Go.Proofs.YthggibfkgofncaaGreat
namespace Go.Proofs.YthggibfkgofncaaGreat
open Go.RowKit
end Go.Proofs.YthggibfkgofncaaGreat
namespace Go.Proofs.YthggibfkgofncaaGreat
open Go.RowKit
def ye (L K:List N3) (e f:Int):Bool:=decide (e=f) && nj (nds L) (bif decide (f=0) then nds K else [])
theorem AZ {L K:List N3} {e f:Int} (h:decide (e=f)=false):ye L K e f=false:=by unfold ye;rw [h];rfl
theorem EG {L K:List N3} {e f:Int} (h:decide (e=f)=true) (h0:f=0):ye L K e f=nj (nds L) (nds K):=by unfold ye;rw [h,decide_eq_true h0];rfl
theorem D7 {L K:List N3} {e f:Int} (h:decide (e=f)=true) (h0:¬ f=0):ye L K e f=nj (nds L) (nds []):=by unfold ye;rw [h,decide_eq_false h0];rfl
theorem mM:RwB []:=⟨fun _ h=>by cases h⟩
end Go.Proofs.YthggibfkgofncaaGreat
namespace Go.Proofs.YthggibfkgofncaaGreat
open Go.RowKit
def cE (L:List N3) (no:Int):Int:=bif gm L then bif ce (aM L) no then 0 else 10 else 1
def ut (L:List N3) (m:Mb):Bool:=gm L && dT m
def Cy (L:List N3) (m:Mb) (no:Int):Int:=bif ut L m then ve L m no else 1
def zT (L:List N3) (m:Mb) (no:Int):List Nd:=bif ut L m then Bh L m no else []
def Cw (L:List N3) (no:Int):List Nd:=bif decide (cE L no=0) then fE (nds L) no else []
def BS (L:List N3):Int:=bif gm L then 0 else 1
def Cs (L:List N3):List Nd:=bif gm L then gU (nds L) else []
def CU (L:List N3) (no:Int):List Nd:=bif decide (cE L no=0) then yt (nds L) no else []
abbrev DR (vo:Value) (L:List N3):World→Prop:=fun w9=>dN w9 vo L
def r2:Mb:=(3,0#256)
def Cv:Nd:=⟨r2,de,[r2],[]⟩
theorem BZ {L:List N3} (h:nds L=[Cv]):∃ u v,L=[(Cv,u,v)]:=by
 match L,h with
 |[x],h=>
  have h:[x.1]=[Cv]:=h
  rw [List.cons.injEq] at h
  refine ⟨x.2.1,x.2.2,?_⟩
  rw [← h.1]
 |[],h=>cases h
 |x::y::L,h=>
  have:=congrArg List.length h
  simp [nds] at this
theorem sP:zT [] r2 0=[Cv]∧Cy [] r2 0=0:=by
 constructor<;>decide
end Go.Proofs.YthggibfkgofncaaGreat
namespace Go.Proofs.YthggibfkgofncaaGreat
theorem wW (u v:Value):gm [(Cv,u,v)]=true:=by rfl
theorem t2 (u v:Value):hQ [(Cv,u,v)]=true:=by rfl
end Go.Proofs.YthggibfkgofncaaGreat
namespace Go.Proofs.YthggibfkgofncaaGreat
open Go.RowKit
structure BdE (E:List Nd):Prop where
 len:E.length≤40
 each:∀ n∈E,n.sc.length≤300∧n.fg.length≤300
theorem BdE.l {L:List N3} {E:List Nd} (h:BdE E) (e:nds L=E):L.length≤40:=by subst e;have:=h.len;simpa [nds] using this
theorem BdE.r {L:List N3} {E:List Nd} (h:BdE E) (e:nds L=E):RwB L:=by subst e;exact ⟨fun x hx=>h.each _ (List.mem_map.2 ⟨x,hx,rfl⟩)⟩
theorem oN:BdE []:=⟨by simp,fun _ h=>by cases h⟩
theorem n4 {L:List N3} {E:List Nd} (h:RS L) (e:nds L=E):BdE E:=by
 subst e
 refine ⟨by have:=h.len;simp [nds];omega,fun n hn=>?_⟩
 obtain ⟨x,hx,rfl⟩:=List.mem_map.1 hn
 exact h.rb.each x hx
def yX (E:List Nd):List N3:=E.map fun n=>(n,a8,a8)
theorem gR (E:List Nd):nds (yX E)=E:=by unfold nds yX;rw [List.map_map];exact List.map_id E
theorem kR {L:List N3} {no:Int} (h:gm L=false):cE L no=1:=by unfold cE;rw [h];rfl
theorem iX {L:List N3} {no:Int} (h:gm L=true) (h1:ce (aM L) no=false):cE L no=10:=by unfold cE;rw [h,h1];rfl
theorem nP {L:List N3} {no:Int} (h:gm L=true) (h1:ce (aM L) no=true):cE L no=0:=by unfold cE;rw [h,h1];rfl
theorem Ex {L:List N3} {no:Int} (h:cE L no=0):gm L=true∧ce (aM L) no=true:=by
 unfold cE at h
 cases h1:gm L<;>cases h2:ce (aM L) no<;>rw [h1] at h<;>rw [h2] at h<;>simp at h
 exact ⟨rfl,rfl⟩
theorem qX {L:List N3} {no k:Int} (h:cE L no=k) (h0:k≠0):Cw L no=[]:=by unfold Cw;rw [decide_eq_false (by rw [h];exact h0)];rfl
theorem wl {L:List N3} {no:Int} (h:cE L no=0):Cw L no=fE (nds L) no:=by unfold Cw;rw [decide_eq_true h];rfl
theorem Dn {L:List N3} {no k:Int} (h:cE L no=k) (h0:k≠0):CU L no=[]:=by unfold CU;rw [decide_eq_false (by rw [h];exact h0)];rfl
theorem DQ {L:List N3} {no:Int} (h:cE L no=0):CU L no=yt (nds L) no:=by unfold CU;rw [decide_eq_true h];rfl
theorem qU {L:List N3} (h:gm L=false):BS L=1∧Cs L=[]:=by unfold BS Cs;rw [h];exact ⟨rfl,rfl⟩
theorem qM {L:List N3} (h:gm L=true):BS L=0∧Cs L=gU (nds L):=by unfold BS Cs;rw [h];exact ⟨rfl,rfl⟩
theorem l5 {L:List N3} {no:Int} (h:RS L) (hl:ce (aM L) no=true):RS (yX (fE (nds L) no))∧aM (yX (fE (nds L) no))=aM L:=pd h hl (gR _)
theorem Af (L:List N3) (no:Int):BdE (Cw L no):=by
 by_cases h:cE L no=0
 ·obtain ⟨h1,h2⟩:=Ex h
  rw [wl h];exact n4 (l5 (eT h1).rs h2).1 (gR _)
 ·rw [qX rfl h];exact oN
theorem B4 {L:List N3} (h:RS L):∀ k,k≤(aM L).length→RS (yX (lK (nds L) k))∧aM (yX (lK (nds L) k))=aM L:=fun k=>by
 induction k with
 |zero=>
  intro _
  have e:nds (yX (lK (nds L) 0))=nds L:=by rw [gR];rfl
  exact ⟨xn e.symm h,by rw [← dE,e,dE]⟩
 |succ k ih=>
  intro hk
  obtain ⟨h1,h2⟩:=ih (by omega)
  have hl:ce (aM (yX (lK (nds L) k))) ((aM L).getD k aT).1=true:=by
   rw [h2];exact(fj h.nos).2 ⟨_,eA (by omega),rfl⟩
  have h3:=l5 h1 hl
  rw [gR] at h3
  rw [kN (by omega)]
  exact ⟨h3.1,h3.2.trans h2⟩
theorem mn {L:List N3} (h:RS L):RS (yX (gU (nds L))):=by
 rw [← mG (L:=L) rfl];exact(B4 h _ (Nat.le_refl _)).1
theorem A6 (L:List N3):BdE (Cs L):=by
 cases h:gm L with
 |false=>rw [(qU h).2];exact oN
 |true=>rw [(qM h).2];exact n4 (mn (eT h).rs) (gR _)
theorem Ch {L:List N3} {n:Nd} (h:RS L) (hn:n.sc.length≤300∧n.fg.length≤300):BdE (iw (nds L) n):=by
 have e:iw (nds L) n=nds (ec L (n,a8,a8)):=(fF L (n,a8,a8)).symm
 rw [e]
 have hl:=h.len
 refine ⟨?_,fun y hy=>?_⟩
 ·have h1:=tU (n,a8,a8) L
  unfold nds ec
  rw [List.length_map]
  cases (dH (n,a8,a8) L).2 with
  |true=>show (dH _ _).1.length≤40;omega
  |false=>show ((dH _ _).1++_).length≤40;rw [List.length_append];show _+1≤40;omega
 ·obtain ⟨x,hx,rfl⟩:=List.mem_map.1 hy
  rcases sn hx with rfl|hx
  ·exact hn
  ·exact h.rb.each x hx
theorem AS (L:List N3) (m:Mb) (no:Int):BdE (zT L m no):=by
 unfold zT
 cases h:ut L m with
 |false=>exact oN
 |true=>
  unfold ut at h
  rw [Bool.and_eq_true] at h
  show BdE (Bh L m no)
  unfold Bh
  cases decide (ve L m no=0) with
  |false=>exact oN
  |true=>exact Ch (eT h.1).rs ⟨by show 1≤300;omega,by show 0≤300;omega⟩
theorem Bu {L K:List N3} {e q:Int} (he:e=q) (hq:q≠0) (h:nds L=[]):ye L K e q=true:=by
 unfold ye;rw [decide_eq_true he,decide_eq_false hq,h];rfl
theorem DD {L K:List N3} {e:Int} (he:e=0) (h:nds L=nds K):ye L K e 0=true:=by
 unfold ye;rw [decide_eq_true he,h];exact decide_eq_true rfl
def tO (E:List Nd):cX:=fun v w=>∃ vo L,v=.agg #[vo]∧nds L=E∧dN w vo L
theorem tO.mono (E:List Nd):iY (tO E):=fun _ _ _ ⟨vo,L,h1,h2,h3⟩ hE=>⟨vo,L,h1,h2,h3.keep hE⟩
theorem yi.d {w w':World} {R:World→Prop} {E:List Nd} {v:Value} (h:yi w R E v w') (hR:R w'):tO E v w':=by
 obtain ⟨vo,L,ks,h1,h2,h3⟩:=h
 exact ⟨vo,L,h1,h2,h3.getG 0 rfl hR⟩
end Go.Proofs.YthggibfkgofncaaGreat
namespace Go.Proofs.YthggibfkgofncaaGreat
open Go.RowKit
theorem CP.d {w w':World} {N:TypeId} {K:List N3} {E:List Nd} {v:Value} (h:CP w N K v w') (e:nds K=E) (hr:∀ y∈K,jX w' y):tO E v w':=by
 obtain ⟨vo,h1,h2⟩:=h
 exact ⟨vo,K,h1,e,bq.of_own h2,hr⟩
end Go.Proofs.YthggibfkgofncaaGreat
namespace Go.Proofs.YthggibfkgofncaaGreat
open Go.RowKit
def BD (E:List Nd) (k:Int):cX:=fun v w=>∃ o,v=.tuple #[o,.int .i64 k]∧tO E o w
theorem BD.mono (E:List Nd) (k:Int):iY (BD E k):=fun _ _ _ ⟨o,h1,h2⟩ hE=>⟨o,h1,tO.mono E _ _ _ h2 hE⟩
theorem Av.d {w w':World} {R:World→Prop} {E:List Nd} {k:Int} {v:Value} (h:Av w R E k v w') (hR:R w'):BD E k v w':=by
 obtain ⟨o,h1,h2⟩:=h
 exact ⟨o,h1,h2.d hR⟩
end Go.Proofs.YthggibfkgofncaaGreat
namespace Go.Proofs.YthggibfkgofncaaGreat
open Go.RowKit
end Go.Proofs.YthggibfkgofncaaGreat
namespace Go.Proofs.YthggibfkgofncaaGreat
open Go.RowKit
theorem Am {L:List N3} {m:Mb} (h:gm L=false):ut L m=false:=by unfold ut;rw [h];rfl
theorem pc {L:List N3} {m:Mb} {no:Int} (h:ut L m=false):Cy L m no=1∧zT L m no=[]:=by unfold Cy zT;rw [h];exact ⟨rfl,rfl⟩
theorem mr {L:List N3} {m:Mb} {no:Int} (h:ut L m=true):Cy L m no=ve L m no∧zT L m no=Bh L m no:=by unfold Cy zT;rw [h];exact ⟨rfl,rfl⟩
end Go.Proofs.YthggibfkgofncaaGreat
namespace Go.Proofs.YthggibfkgofncaaGreat
open Go.RowKit
def EN (l:List Mb) (m:Mb):Prop:=∀ s∈l,s.1=m.1→s=m
structure RK (L:List N3):Prop where
 rs:RS L
 kn:∀ x∈L,∀ m∈aE x.1,EN (aM L) m
theorem RK.put {L:List N3} (h:RK L) {x y:N3} (hy:y∈L) (he:y.1.me=x.1.me) (hx:RN x.1) (hk:∀ m∈aE x.1,EN (aM L) m):RK (ec L x):=by
 obtain ⟨h1,h2,_⟩:=h.rs.put hy he hx
 refine ⟨h1,fun z hz m hm=>?_⟩
 rw [h2]
 rcases sn hz with rfl|hz
 ·exact hk m hm
 ·exact h.kn z hz m hm
end Go.Proofs.YthggibfkgofncaaGreat
namespace Go.Proofs.YthggibfkgofncaaGreat
open Go.RowKit Go.ChangeShapes Go.WideShapes Go.ChangeAt
theorem vw {H:Type} {enc:TypeId × Value→H} {P:Program} {W:World} {tm ts t tn ti e:TypeId} {g0 g1 g2 g3 f0 f1:Field} {fuel:Nat} {cs:List Value} {x:DataW H × List MemPlace} (T:IdTy P ti e) (hc:P.cellsOf ti=32) (hce:P.cellsOf e=1) (hn:P.underlying tn=some (.int .i64)) (hcn:P.cellsOf tn=1)
 (hcs:P.cellsOf ts=1) (hts:P.underlying ts=some (.slice t)) (ht:P.underlying t=some (.struct #[f0,f1])) (h0:f0.type=tn) (h1:f1.type=ti) (o0:f0.offset=0) (o1:f1.offset=1) (hct:P.cellsOf t=33)
 (htm:P.underlying tm=some (.struct #[g0,g1,g2,g3])) (ht0:g0.type=t) (ht1:g1.type=t) (ht2:g2.type=ts) (ht3:g3.type=ts) (ho0:g0.offset=0) (ho1:g1.offset=33) (ho2:g2.offset=66) (ho3:g3.offset=67) (hctm:P.cellsOf tm=68)
 (hf:DataW.trod enc P W 0 (fun _=>true) true fuel tm cs=some x):∃ y:N3,cs=nG y∧jX W y:=by
 obtain ⟨xs,n,hcells,_,hl,hxl,hel⟩:=DataW.trod_struct htm hf
 have hcl:cs.length=68:=by rw [← hctm];simpa using hl
 have hx4:xs.length=4:=by simpa using hxl
 have e0:=hel 0 g0 rfl
 have e1:=hel 1 g1 rfl
 have e2:=hel 2 g2 rfl
 have e3:=hel 3 g3 rfl
 rw [ht0,ho0,hct,List.getElem?_eq_getElem (by omega)] at e0
 rw [ht1,ho1,hct,List.getElem?_eq_getElem (by omega)] at e1
 rw [ht2,ho2,hcs,List.getElem?_eq_getElem (by omega)] at e2
 rw [ht3,ho3,hcs,List.getElem?_eq_getElem (by omega)] at e3
 obtain ⟨a,ha⟩:=ms T hc hce hn hcn ht h0 h1 o0 o1 hct e0
 obtain ⟨b,hb⟩:=ms T hc hce hn hcn ht h0 h1 o0 o1 hct e1
 obtain ⟨u,ls,hu,hls⟩:=nL T hc hce hn hcn hts ht h0 h1 o0 o1 hct e2
 obtain ⟨u2,ls2,hu2,hls2⟩:=nL T hc hce hn hcn hts ht h0 h1 o0 o1 hct e3
 exact ⟨(⟨a,b,ls,ls2⟩,u,u2),zb hcl ha hb hu hu2,hls,hls2⟩
theorem ux {H:Type} {enc:TypeId × Value→H} {P:Program} {W:World} {tr tm ts t tn ti e:TypeId} {g0 g1 g2 g3 f0 f1:Field} {fuel:Nat} {cs:List Value} {x:DataW H × List MemPlace} (T:IdTy P ti e) (hc:P.cellsOf ti=32) (hce:P.cellsOf e=1) (hn:P.underlying tn=some (.int .i64)) (hcn:P.cellsOf tn=1)
 (hcs:P.cellsOf ts=1) (hts:P.underlying ts=some (.slice t)) (ht:P.underlying t=some (.struct #[f0,f1])) (h0:f0.type=tn) (h1:f1.type=ti) (o0:f0.offset=0) (o1:f1.offset=1) (hct:P.cellsOf t=33)
 (htm:P.underlying tm=some (.struct #[g0,g1,g2,g3])) (ht0:g0.type=t) (ht1:g1.type=t) (ht2:g2.type=ts) (ht3:g3.type=ts) (ho0:g0.offset=0) (ho1:g1.offset=33) (ho2:g2.offset=66) (ho3:g3.offset=67) (hctm:P.cellsOf tm=68)
 (htr:P.underlying tr=some (.slice tm)) (hf:DataW.trod enc P W 0 (fun _=>true) true fuel tr cs=some x):∃ (v:Value) (L:List N3),cs=[v]∧dN W v L:=by
 rcases Go.Deep.open_slice htr hf with ⟨hcs9,_⟩|⟨a',len,cap,m,k,D,Pl,hcs9,_,hl,_,hm,_,hel⟩
 ·exact ⟨_,[],hcs9,⟨rfl,.inl ⟨rfl,rfl⟩⟩,fun _ h=>by cases h⟩
 ·have hml:len≤m:=by rw [hm];split<;>omega
  have each:∀ i,∃ l:N3,i<len→aU W (a'.add (i*68)) (aC l.1.me l.1.pr l.2.1 l.2.2)∧jX W l:=fun i=>by
   by_cases hi:i<len
   ·obtain ⟨cs',hc1,hc2⟩:=hel i (by omega)
    obtain ⟨l,hl9,hr⟩:=vw T hc hce hn hcn hcs hts ht h0 h1 o0 o1 hct htm ht0 ht1 ht2 ht3 ho0 ho1 ho2 ho3 hctm hc2
    subst hl9
    refine ⟨l,fun _=>⟨fun j u hj=>?_,hr⟩⟩
    rw [hctm] at hc1
    obtain ⟨_,hlen,hall⟩:=World.cells?_some hc1
    have hj68:j<68:=by have:=(Array.getElem?_eq_some_iff.1 hj).1;rw [aq] at this;exact this
    have:=hall j hj68
    rw [this]
    show (nG l)[j]? = _
    rw [show nG l=(aC l.1.me l.1.pr l.2.1 l.2.2).toList from rfl,Array.getElem?_toList];exact hj
   ·exact ⟨z3,fun h9=>absurd h9 hi⟩
  obtain ⟨L,hL⟩:=Classical.axiomOfChoice each
  refine ⟨_,(List.range len).map L,hcs9,⟨?_,.inr ⟨a',cap,by simp,by simpa using hl,?_⟩⟩,fun y hy=>?_⟩
  ·rw [lw]
  ·refine qf _ 68 (by decide) gf _ fun i hi=>?_
   have hi':i<len:=by simpa using hi
   have h9:((List.range len).map L)[i]=L i:=by simp
   rw [h9]
   exact(hL i hi').1
  ·obtain ⟨i,hi,rfl⟩:=List.mem_map.1 hy
   exact(hL i (List.mem_range.1 hi)).2
theorem zF {H:Type} {enc:TypeId × Value→H} {P:Program} {W:World} {r:Reach} {b0:Nat} {to tr tm ts t tn ti e:TypeId} {k0 g0 g1 g2 g3 f0 f1:Field} {v:Value} {d:DataW H} {ps:List MemPlace} (T:IdTy P ti e) (hc:P.cellsOf ti=32) (hce:P.cellsOf e=1) (hn:P.underlying tn=some (.int .i64)) (hcn:P.cellsOf tn=1)
 (hcs:P.cellsOf ts=1) (hts:P.underlying ts=some (.slice t)) (ht:P.underlying t=some (.struct #[f0,f1])) (h0:f0.type=tn) (h1:f1.type=ti) (o0:f0.offset=0) (o1:f1.offset=1) (hct:P.cellsOf t=33)
 (htm:P.underlying tm=some (.struct #[g0,g1,g2,g3])) (ht0:g0.type=t) (ht1:g1.type=t) (ht2:g2.type=ts) (ht3:g3.type=ts) (ho0:g0.offset=0) (ho1:g1.offset=33) (ho2:g2.offset=66) (ho3:g3.offset=67) (hctm:P.cellsOf tm=68)
 (htr:P.underlying tr=some (.slice tm)) (hcr:P.cellsOf tr=1) (hto:P.underlying to=some (.struct #[k0])) (hk0:k0.type=tr) (ok0:k0.offset=0) (hcto:P.cellsOf to=1)
 (hval:Value.okWide P W r b0 to v) (h:DataW.Trod enc P W 0 (fun _=>true) true to v d ps):∃ (L:List N3) (vo:Value),v=.agg #[vo]∧dN W vo L:=by
 have hv:∃ cs,v=.agg cs:=by
  unfold Value.okWide at hval
  simp only [hto] at hval
  obtain ⟨cs,h9,_⟩:=hval
  exact ⟨cs,h9⟩
 obtain ⟨cs,rfl⟩:=hv
 obtain ⟨fuel,hf⟩:=h
 obtain ⟨xs,n,hcells,_,hl,hxl,hel⟩:=DataW.trod_struct hto hf
 have hcl:cs.toList.length=1:=by rw [← hcto];simpa [Value.cells] using hl
 have hx1:xs.length=1:=by simpa using hxl
 have e0:=hel 0 k0 rfl
 rw [hk0,ok0,hcr,List.getElem?_eq_getElem (by omega)] at e0
 obtain ⟨u,L,hu,hL⟩:=ux T hc hce hn hcn hcs hts ht h0 h1 o0 o1 hct htm ht0 ht1 ht2 ht3 ho0 ho1 ho2 ho3 hctm htr e0
 refine ⟨L,u,?_,hL⟩
 simp only [Value.cells] at hu
 have key:cs.toList=[u]:=by
  rw [List.drop_zero,List.take_of_length_le (by omega)] at hu
  exact hu
 have:cs=#[u]:=Array.toList_inj.1 key
 rw [this]
end Go.Proofs.YthggibfkgofncaaGreat
