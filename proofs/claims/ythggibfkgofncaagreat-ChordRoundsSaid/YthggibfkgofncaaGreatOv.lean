/- Overlays: rows of nodes, each with its rows: which may be, which are stable, what tending, coming, leaving and failing make of them, that what may be stays such; overlays that come in; no Go in it. -/
import Derived.Test.YthggibfkgofncaaGreatNd
set_option linter.unusedVariables false
set_option linter.unusedSimpArgs false
set_option linter.unusedSectionVars false
namespace Go.Proofs.YthggibfkgofncaaGreat
open Go.RowKit
theorem wk {a b:Nd} (h1:a.me=b.me) (h2:a.pr=b.pr) (h3:a.sc=b.sc) (h4:a.fg=b.fg):a=b:=by cases a;cases b;simp_all
instance:DecidableEq Nd:=fun a b=>
 if h:a.me=b.me∧a.pr=b.pr∧a.sc=b.sc∧a.fg=b.fg then .isTrue (wk h.1 h.2.1 h.2.2.1 h.2.2.2) else .isFalse fun e=>h (by subst e;exact ⟨rfl,rfl,rfl,rfl⟩)
theorem rB (a b:Nd):eF a b=decide (a=b):=by
 by_cases h:a=b
 ·rw [decide_eq_true h];exact zL h
 ·rw [decide_eq_false h,← Bool.not_eq_true]
  intro h9
  unfold eF at h9
  simp only [Bool.and_eq_true,decide_eq_true_eq] at h9
  exact h (wk h9.1 h9.2.1 h9.2.2.1 h9.2.2.2)
def cI (w:World) (v:Value) (L:List N3):Prop:=bO w v 68 L.length (aD L)∧∀ x∈L,mP w x
theorem mP.keep {w w':World} {x:N3} (h:mP w x) (e:Ext w w'):mP w' x:=⟨h.1.keep e,h.2.keep e⟩
theorem cI.keep {w w':World} {v:Value} {L:List N3} (h:cI w v L) (e:Ext w w'):cI w' v L:=⟨h.1.keep e,fun x hx=>(h.2 x hx).keep e⟩
abbrev nds (L:List N3):List Nd:=L.map (·.1)
theorem jE {L:List N3} {j:Nat} (hj:j<L.length):L[j]=L.getD j z3:=by rw [List.getD_eq_getElem?_getD,List.getElem?_eq_getElem hj];rfl
theorem bj {L:List N3} {j:Nat} (hj:j<L.length):L.getD j z3∈L:=by rw [← jE hj];exact List.getElem_mem hj
theorem nc {L:List N3} {x:N3} (h:x∈L):∃ j,j<L.length∧L.getD j z3=x:=by
 obtain ⟨j,hj,rfl⟩:=List.mem_iff_getElem.1 h
 exact ⟨j,hj,(jE hj).symm⟩
theorem fE {L:List N3} {k:Nat} (h:k<L.length):L.take (k+1)=L.take k++[L.getD k z3]:=by rw [List.take_succ_eq_append_getElem h,jE h]
theorem fy (L:List N3):(aD L).length=L.length*68:=eG _ 68 fI L
theorem fD (L K:List N3):aD (L++K)=aD L++aD K:=List.flatMap_append
theorem lQ (x:N3):([Value.agg (au x.1.me x.1.pr x.2.1 x.2.2)].flatMap fun v=>v.cells.toList)=mw x:=by simp [Value.cells,mw,au]
theorem kU (L:List N3) (x:N3):aD L++mw x=aD (L++[x]):=by rw [fD];simp [aD]
theorem q9 {x:N3} (h1:x.2.1.oneCell'=true) (h2:x.2.2.oneCell'=true):∀ u∈([Value.agg (au x.1.me x.1.pr x.2.1 x.2.2)].flatMap fun v=>v.cells.toList),u.oneCell'=true:=by rw [lQ];exact br h1 h2
theorem kZ (x:N3):∀ v∈([Value.agg (au x.1.me x.1.pr x.2.1 x.2.2)]:List Value),v.cells.size=68:=fun v hv=>by rw [List.mem_singleton] at hv;subst hv;exact aw _ _ _ _
theorem mP.ones {w:World} {x:N3} (h:mP w x):x.2.1.oneCell'=true∧x.2.2.oneCell'=true:=⟨db h.1,db h.2⟩
theorem Ao {w:World} {v:Value} {L:List N3} (h:bO w v 68 L.length (aD L)) (k:Nat) (hk:k≤L.length):bO w (f8 v k) 68 (L.take k).length (aD (L.take k)):=by
 have:=h.cut k hk
 unfold aD at this
 rw [iW _ 68 fI] at this
 rw [List.length_take,Nat.min_eq_left hk]
 exact this
theorem m8 (L:List N3) (j:Nat) (hj:j<L.length):(aD L)[j*68+0]? = some (.int .i64 (L.getD j z3).1.me.1):=by
 have h1:=congrArg (fun a:Array Value=>a[0]?) (cR L j hj)
 simp only [dz] at h1
 rw [← h1];simp
theorem cI.take {w:World} {v:Value} {L:List N3} (h:cI w v L) (k:Nat) (hk:k≤L.length):cI w (f8 v k) (L.take k):=⟨Ao h.1 k hk,fun x hx=>h.2 x (List.mem_of_mem_take hx)⟩
theorem gp (w:World):cI w aU []:=⟨⟨rfl,.inl ⟨rfl,rfl⟩⟩,fun _ h=>by cases h⟩
theorem bY {v:Value} (h:v.oneCell'=true):∀ u∈(#[v]:Array Value).toList,u.oneCell'=true:=fun u hu=>by
 have:u∈[v]:=hu
 rw [List.mem_singleton] at this;rw [this];exact h
def DN:List (List Value):=[[.slice none 0 0]]
theorem cw {P:Program} {ρ:Operand→Value} {d:Option Tmp} {ty:TypeId} {pos:String} {af:Array Edge} {g:Option (Nat × Bool)} {t:TypeId} (S:Stt P t DN):bM P ⟨d,.build t #[],ty,pos,af,g⟩ ρ (.agg #[aU]):=
 dX (parts:=#[]) S [] (by simp) (fun i v hm=>by simp at hm) (D:=[aU]) rfl
theorem St.weak {w0 w:World} {ks:List Nat} {S S':World→Prop} {B:List Own} (s:St w0 (.grp ks S::B) w) (h:∀ w',S w'→S' w'):St w0 (.grp ks S'::B) w:=by
 refine ⟨s.ext,fun p hp=>?_,fun p hp k hk=>?_,?_⟩
 ·rcases List.mem_cons.1 hp with rfl|hp
  ·have h0:=s.has _ List.mem_cons_self
   exact ⟨h0.1,fun w' hw=>h w' (h0.2 w' hw)⟩
  ·exact s.has p (List.mem_cons_of_mem _ hp)
 ·rcases List.mem_cons.1 hp with rfl|hp
  ·exact s.own _ List.mem_cons_self k hk
  ·exact s.own p (List.mem_cons_of_mem _ hp) k hk
 ·have hpw:=List.pairwise_cons.1 s.nd
  exact List.pairwise_cons.2 ⟨fun q hq k hk=>hpw.1 q hq k hk,hpw.2⟩
theorem St.getG {w0 w:World} {ks:List Nat} {S:World→Prop} {B:List Own} (s:St w0 B w) (i:Nat) (hi:B[i]? = some (.grp ks S)):S w:=(s.has _ (List.mem_of_getElem? hi)).2 w fun _ _=>rfl
def AX (w:World) (R:World→Prop) (E:List Nd):cL:=fun v w'=>∃ vo L ks,v=.agg #[vo]∧nds L=E∧St w [.grp ks fun w9=>R w9→cI w9 vo L] w'
abbrev cD (L:List N3):World→Prop:=fun w9=>∀ x∈L,mP w9 x
theorem xA {w w':World} {B:List Own} {R:World→Prop} (s:St w B w'):AX w R [] (.agg #[aU]) w':=by
 refine ⟨aU,[],_,rfl,rfl,(St.group (A:=[]) (B:=[]) (s.pick [] (List.nil_sublist _))).weak fun w9 _ _=>gp w9⟩
abbrev ae (L:List N3):List Mb:=L.map (·.1.me)
def aH (n:Nd):List Mb:=n.pr::(n.sc++n.fg)
def bP (l:List Mb) (no:Int):Bool:=decide ((fR l no).1=no) && decide (0≤no)
theorem en {l:List Mb} {no:Int} (hn:∀ m∈l,0≤m.1):bP l no=true↔∃ m∈l,m.1=no:=by
 unfold bP fR
 rw [Bool.and_eq_true,decide_eq_true_eq,decide_eq_true_eq]
 rcases rl (l:=l) (no:=no) with h|⟨m,h,hm,hno⟩
 ·rw [h]
  constructor
  ·rintro ⟨h1,h2⟩
   have h1:(-1:Int)=no:=h1
   omega
  ·rintro ⟨m,hm,hno⟩
   exact absurd (decide_eq_true hno) (List.find?_eq_none.1 h m hm)
 ·rw [h]
  exact ⟨fun _=>⟨m,hm,hno⟩,fun _=>⟨hno,by have:=hn m hm;omega⟩⟩
def DJ:Nd:=⟨c4,ap,[],[]⟩
def DM:N3:=(DJ,aU,aU)
def cg (L:List N3) (no:Int):N3:=(L.find? fun x=>decide (x.1.me.1=no)).getD DM
theorem qQ {L:List N3} {no:Int} {k:Nat} (hk:k<L.length) (h:∀ j,j<k→decide ((L.getD j z3).1.me.1=no)=false) (he:decide ((L.getD k z3).1.me.1=no)=true):cg L no=L.getD k z3:=by
 unfold cg
 have:L.find? (fun x=>decide (x.1.me.1=no))=some (L.getD k z3):=by
  rw [List.find?_eq_some_iff_getElem]
  refine ⟨he,k,hk,jE hk,fun j hj=>?_⟩
  rw [jE (by omega),h j hj];rfl
 rw [this];rfl
theorem uy {L:List N3} {no:Int} {k:Nat} (hk:L.length≤k) (h:∀ j,j<k→decide ((L.getD j z3).1.me.1=no)=false):cg L no=DM:=by
 unfold cg
 have:L.find? (fun x=>decide (x.1.me.1=no))=none:=by
  rw [List.find?_eq_none]
  intro x hx
  obtain ⟨j,hj,rfl⟩:=nc hx
  rw [h j (by omega)];decide
 rw [this];rfl
def qv (E:List Nd) (no:Int):Nd:=(E.find? fun x=>decide (x.me.1=no)).getD DJ
theorem ig (L:List N3) (no:Int):(cg L no).1=qv (nds L) no:=by
 unfold cg qv nds
 rw [List.find?_map]
 cases h:L.find? fun x=>decide (x.1.me.1=no) with
 |none=>
  have:L.find? ((fun x:Nd=>decide (x.me.1=no)) ∘ fun x=>x.1)=none:=h
  rw [this];rfl
 |some x=>
  have:L.find? ((fun x:Nd=>decide (x.me.1=no)) ∘ fun x=>x.1)=some x:=h
  rw [this];rfl
def eZ (L:List N3) (no:Int):List N3:=L.filter fun x=>decide (x.1.me.1≠no)
def nD (E:List Nd) (no:Int):List Nd:=E.filter fun x=>decide (x.me.1≠no)
theorem qT (L:List N3) (no:Int):nds (eZ L no)=nD (nds L) no:=by unfold eZ nD nds;rw [List.filter_map];rfl
theorem Ab (L:List N3) (no:Int):(eZ L no).length≤L.length:=List.length_filter_le _ _
theorem yY {L:List N3} {no:Int} {k:Nat} (hk:k<L.length) (h:decide ((L.getD k z3).1.me.1≠no)=true):eZ (L.take (k+1)) no=eZ (L.take k) no++[L.getD k z3]:=by
 unfold eZ;rw [fE hk,List.filter_append,List.filter_cons,h];rfl
theorem y9 {L:List N3} {no:Int} {k:Nat} (hk:k<L.length) (h:decide ((L.getD k z3).1.me.1≠no)=false):eZ (L.take (k+1)) no=eZ (L.take k) no:=by
 unfold eZ;rw [fE hk,List.filter_append,List.filter_cons,h];simp
def fc (x:N3) (p:List N3 × Bool) (y:N3):List N3 × Bool:=
 let q:=bif !p.2 && decide (x.1.me.1≤y.1.me.1) then (p.1++[x],true) else p
 bif decide (y.1.me.1≠x.1.me.1) then (q.1++[y],q.2) else q
def eE (x:N3) (L:List N3):List N3 × Bool:=L.foldl (fc x) ([],false)
def eu (L:List N3) (x:N3):List N3:=bif (eE x L).2 then (eE x L).1 else (eE x L).1++[x]
theorem vE (x:N3) (p:List N3 × Bool) (y:N3):(fc x p y).1.length≤p.1.length+2:=by
 unfold fc
 cases !p.2 && decide (x.1.me.1≤y.1.me.1)<;>cases decide (y.1.me.1≠x.1.me.1)<;>simp
theorem xV (x:N3):∀ L:List N3,(eE x L).1.length≤2*L.length:=fun L=>by
 unfold eE
 suffices h:∀ (L:List N3) (p:List N3 × Bool),(L.foldl (fc x) p).1.length≤p.1.length+2*L.length by
  have:=h L ([],false);simpa using this
 intro L
 induction L with
 |nil=>intro p;simp
 |cons y L ih=>
  intro p
  have h1:=ih (fc x p y)
  have h2:=vE x p y
  rw [List.foldl_cons,List.length_cons];omega
theorem xK {x:N3} {p:List N3 × Bool} {y z:N3} (h:z∈(fc x p y).1):z∈p.1∨z=x∨z=y:=by
 unfold fc at h
 have key:∀ q:List N3 × Bool,(z∈q.1→z∈p.1∨z=x∨z=y)→z∈(bif decide (y.1.me.1≠x.1.me.1) then (q.1++[y],q.2) else q).1→z∈p.1∨z=x∨z=y:=fun q hq h=>by
  cases h2:decide (y.1.me.1≠x.1.me.1) with
  |true=>
   rw [h2] at h
   rcases List.mem_append.1 h with h|h
   ·exact hq h
   ·exact .inr (.inr (List.mem_singleton.1 h))
  |false=>rw [h2] at h;exact hq h
 refine key _ (fun h=>?_) h
 cases h1 : !p.2 && decide (x.1.me.1≤y.1.me.1) with
 |true=>
  rw [h1] at h
  rcases List.mem_append.1 h with h|h
  ·exact .inl h
  ·exact .inr (.inl (List.mem_singleton.1 h))
 |false=>rw [h1] at h;exact .inl h
theorem rL {x z:N3}:∀ {L:List N3},z∈(eE x L).1→z=x∨z∈L:=fun {L}=>by
 unfold eE
 suffices h:∀ (L:List N3) (p:List N3 × Bool),z∈(L.foldl (fc x) p).1→z∈p.1∨z=x∨z∈L by
  intro h9;rcases h L ([],false) h9 with h|h
  ·cases h
  ·exact h
 intro L
 induction L with
 |nil=>intro p h;exact .inl h
 |cons y L ih=>
  intro p h
  rcases ih _ h with h|h|h
  ·rcases xK h with h|h|h
   ·exact .inl h
   ·exact .inr (.inl h)
   ·exact .inr (.inr (by rw [h];exact List.mem_cons_self))
  ·exact .inr (.inl h)
  ·exact .inr (.inr (List.mem_cons_of_mem _ h))
theorem tP {x z:N3} {L:List N3} (h:z∈eu L x):z=x∨z∈L:=by
 unfold eu at h
 cases hb:(eE x L).2 with
 |true=>rw [hb] at h;exact rL h
 |false=>
  rw [hb] at h
  rcases List.mem_append.1 h with h|h
  ·exact rL h
  ·exact .inl (List.mem_singleton.1 h)
def m6 (x:Nd) (p:List Nd × Bool) (y:Nd):List Nd × Bool:=
 let q:=bif !p.2 && decide (x.me.1≤y.me.1) then (p.1++[x],true) else p
 bif decide (y.me.1≠x.me.1) then (q.1++[y],q.2) else q
def pJ (x:Nd) (E:List Nd):List Nd × Bool:=E.foldl (m6 x) ([],false)
def gH (E:List Nd) (x:Nd):List Nd:=bif (pJ x E).2 then (pJ x E).1 else (pJ x E).1++[x]
theorem xQ (x:N3) (p:List N3 × Bool) (y:N3):m6 x.1 (nds p.1,p.2) y.1=(nds (fc x p y).1,(fc x p y).2):=by
 unfold m6 fc
 cases p with
 |mk l b=>
  cases b<;>by_cases h1:x.1.me.1≤y.1.me.1<;>by_cases h2:y.1.me.1=x.1.me.1<;>simp [h1,h2,nds]
theorem wM (x:N3) (L:List N3):pJ x.1 (nds L)=(nds (eE x L).1,(eE x L).2):=by
 unfold pJ eE
 suffices h:∀ (L:List N3) (p:List N3 × Bool),(nds L).foldl (m6 x.1) (nds p.1,p.2)=(nds (L.foldl (fc x) p).1,(L.foldl (fc x) p).2) from h L ([],false)
 intro L
 induction L with
 |nil=>intro p;rfl
 |cons y L ih=>
  intro p
  show (nds L).foldl (m6 x.1) (m6 x.1 (nds p.1,p.2) y.1)=_
  rw [xQ,ih];rfl
theorem eX (L:List N3) (x:N3):nds (eu L x)=gH (nds L) x.1:=by
 unfold eu gH
 rw [wM]
 cases (eE x L).2 with
 |true=>rfl
 |false=>show nds ((eE x L).1++[x])=nds (eE x L).1++[x.1];simp [nds]
theorem zA {x:N3} {p:List N3 × Bool} {y:N3} (hb:p.2=false) (h1:decide (x.1.me.1≤y.1.me.1)=true) (h2:decide (y.1.me.1≠x.1.me.1)=true):fc x p y=((p.1++[x])++[y],true):=by unfold fc;rw [hb,h1,h2];rfl
theorem Ch {x:N3} {p:List N3 × Bool} {y:N3} (hb:p.2=false) (h1:decide (x.1.me.1≤y.1.me.1)=true) (h2:decide (y.1.me.1≠x.1.me.1)=false):fc x p y=(p.1++[x],true):=by unfold fc;rw [hb,h1,h2];rfl
theorem zu {x:N3} {p:List N3 × Bool} {y:N3} (h:p.2=true∨decide (x.1.me.1≤y.1.me.1)=false) (h2:decide (y.1.me.1≠x.1.me.1)=true):fc x p y=(p.1++[y],p.2):=by
 have h1:(!p.2 && decide (x.1.me.1≤y.1.me.1))=false:=by rcases h with h|h<;>simp [h]
 unfold fc;rw [h1,h2];rfl
def ml (E F:List Nd):Bool:=decide (E=F)
theorem sK {E F:List Nd} (h:¬ E.length=F.length):ml E F=false:=decide_eq_false fun e=>h (by rw [e])
theorem wc {L K:List N3} {k:Nat} (hk:k<L.length) (hk2:k<K.length) (h:eF (L.getD k z3).1 (K.getD k z3).1=false):ml (nds L) (nds K)=false:=by
 refine decide_eq_false fun e=>?_
 rw [rB] at h
 refine of_decide_eq_false h ?_
 have h1:(nds L)[k]? = (nds K)[k]? := by rw [e]
 unfold nds at h1
 rw [List.getElem?_map,List.getElem?_map,List.getElem?_eq_getElem hk,List.getElem?_eq_getElem hk2,jE hk,jE hk2] at h1
 simpa using h1
theorem tt {L K:List N3} (hl:L.length=K.length) (h:∀ j,j<L.length→eF (L.getD j z3).1 (K.getD j z3).1=true):ml (nds L) (nds K)=true:=by
 refine decide_eq_true ?_
 unfold nds
 apply List.ext_getElem
 ·simpa using hl
 ·intro i h1 h2
  have h1:i<L.length:=by simpa using h1
  have h2:i<K.length:=by simpa using h2
  have h3:=h i h1
  rw [rB] at h3
  rw [List.getElem_map,List.getElem_map,jE h1,jE h2]
  exact of_decide_eq_true h3
def gU (x:N3):N3:=(⟨x.1.me,x.1.pr,x.1.sc.take (min x.1.sc.length 6),x.1.fg.take (min x.1.fg.length 18)⟩,f8 x.2.1 (min x.1.sc.length 6),f8 x.2.2 (min x.1.fg.length 18))
theorem nK {w:World} {x:N3} (h:mP w x):mP w (gU x):=⟨gk h.1 _ (Nat.min_le_left _ _),gk h.2 _ (Nat.min_le_left _ _)⟩
theorem m4 {L:List N3} {k:Nat} (hk:k<L.length):(L.take (k+1)).map gU=(L.take k).map gU++[gU (L.getD k z3)]:=by rw [fE hk,List.map_append];rfl
theorem uJ {w:World} {L:List N3} (h:∀ x∈L,mP w x):∀ x∈L.map gU,mP w x:=fun x hx=>by
 obtain ⟨y,hy,rfl⟩:=List.mem_map.1 hx
 exact nK (h y hy)
structure FewO (L:List N3):Prop where
 len:L.length≤18
 each:∀ x∈L,x.1.sc.length≤6∧x.1.fg.length≤18
theorem w7 (L:List N3):FewO ((L.take (min L.length 18)).map gU):=by
 refine ⟨by rw [List.length_map,List.length_take];omega,fun x hx=>?_⟩
 obtain ⟨y,_,rfl⟩:=List.mem_map.1 hx
 refine ⟨?_,?_⟩
 ·show (y.1.sc.take _).length≤6;rw [List.length_take];omega
 ·show (y.1.fg.take _).length≤18;rw [List.length_take];omega
end Go.Proofs.YthggibfkgofncaaGreat
namespace Go.Proofs.YthggibfkgofncaaGreat
open Go.RowKit
theorem Dh {l:List Mb} {no:Int} (h:decide ((fR l no).1=no)=false):bP l no=false:=by unfold bP;rw [h];rfl
theorem Dt {l:List Mb} {no:Int} (h:decide ((fR l no).1=no)=true):bP l no=decide (0≤no):=by unfold bP;rw [h];rfl
theorem BO {L:List N3} {x:N3} (h:(eE x L).2=true):eu L x=(eE x L).1:=by unfold eu;rw [h];rfl
theorem BW {L:List N3} {x:N3} (h:(eE x L).2=false):eu L x=(eE x L).1++[x]:=by unfold eu;rw [h];rfl
theorem jf {L:List N3} {k:Nat} (hk:k<L.length):ae (L.take (k+1))=ae (L.take k)++[(L.getD k z3).1.me]:=by unfold ae;rw [fE hk,List.map_append];rfl
section
variable {P:Program} {ρ:Operand→Value} {d:Option Tmp} {ty:TypeId} {pos:String} {af:Array Edge} {g:Option (Nat × Bool)} {x:Operand} {t:TypeId}
theorem n3 {m:Mb} (S:Stt P t BK) (hx:ρ x=.agg (av m)):bM P ⟨d,.build t #[(0,x)],ty,pos,af,g⟩ ρ (.agg (au m ap aU aU)):=by
 have:=dX (P:=P) (ρ:=ρ) (d:=d) (ty:=ty) (pos:=pos) (af:=af) (g:=g) (parts:=#[(0,x)]) S [(0,.agg (av m))] (by simp [hx]) (fun i u hm=>by
  simp only [List.mem_cons,Prod.mk.injEq,List.not_mem_nil,or_false] at hm
  obtain ⟨rfl,rfl⟩:=hm
  exact ⟨_,rfl,by show (av m).size=_;rw [al];rfl⟩) (D:=il m ap aU aU) (by
   show (av m).toList++((Value.int .i64 0::List.replicate 32 (Value.int .u8 0))++([aU]++([aU]++[])))=_
   rw [← mf];rfl)
 exact this
end
def B4 (w:World) (N:TypeId) (K:List N3):cL:=fun v w'=>∃ vo,v=.agg #[vo]∧cH w' w.heap.size N 68 vo K.length (aD K)
theorem tJ {w w':World} {N:TypeId} {K L:List N3} {vo:Value} (h:K=L) (hO:cH w' w.heap.size N 68 vo L.length (aD L)):B4 w N K (.agg #[vo]) w':=by subst h;exact ⟨vo,rfl,hO⟩
end Go.Proofs.YthggibfkgofncaaGreat
namespace Go.Proofs.YthggibfkgofncaaGreat
open Go.RowKit
structure RwB (L:List N3):Prop where
 each:∀ x∈L,x.1.sc.length≤300∧x.1.fg.length≤300
theorem FewO.rb {L:List N3} (h:FewO L):RwB L:=⟨fun x hx=>by have:=h.each x hx;omega⟩
def kJ (l:List Mb) (m:Mb):Bool:=decide (0≤(fR l m.1).1) && !decide (fR l m.1=m)
def jm (L:List N3) (k:Nat):Bool := !cr (L.getD k z3).1 || ((decide (0<k) && decide ((L.getD k z3).1.me.1≤(L.getD (k - 1) z3).1.me.1)) || (aH (L.getD k z3).1).any (kJ (ae L)))
def fH (L:List N3):Bool:=((List.range L.length).all fun k => !jm L k) && c0 (ae L)
theorem xI {L:List N3} {k:Nat} (hk:k<L.length) (h:jm L k=true):fH L=false:=by
 unfold fH
 have:((List.range L.length).all fun k => !jm L k)=false:=by
  rw [← Bool.not_eq_true,List.all_eq_true]
  intro h9
  have:=h9 k (List.mem_range.2 hk)
  rw [h] at this;cases this
 rw [this];rfl
theorem xz {L:List N3} {k:Nat} (hk:L.length≤k) (h:∀ j,j<k→jm L j=false):fH L=c0 (ae L):=by
 unfold fH
 have:((List.range L.length).all fun k => !jm L k)=true:=by
  rw [List.all_eq_true]
  intro j hj
  rw [h j (by have:=List.mem_range.1 hj;omega)];rfl
 rw [this];rfl
theorem Dl {L:List N3} {k:Nat} (h:decide (0<k)=true) (h1:decide ((L.getD k z3).1.me.1≤(L.getD (k - 1) z3).1.me.1)=true):jm L k=true:=by unfold jm;rw [h,h1];simp
theorem Dw {L:List N3} {k j:Nat} (h:cr (L.getD k z3).1=true) (h1:decide (0<k)=false∨decide ((L.getD k z3).1.me.1≤(L.getD (k - 1) z3).1.me.1)=false) (hj:(aH (L.getD k z3).1).length≤j) (h2:∀ i,i<j→kJ (ae L) ((aH (L.getD k z3).1).getD i ap)=false):jm L k=false:=by
 unfold jm
 have e1:(decide (0<k) && decide ((L.getD k z3).1.me.1≤(L.getD (k - 1) z3).1.me.1))=false:=by rcases h1 with h1|h1<;>rw [h1]<;>simp
 have e2:(aH (L.getD k z3).1).any (kJ (ae L))=false:=by
  rw [List.any_eq_false]
  intro x hx
  obtain ⟨i,hi,rfl⟩:=jp hx
  rw [h2 i (by omega)];decide
 rw [h,e1,e2];rfl
theorem Dz {l:List Mb} {m:Mb} (h:decide (0≤(fR l m.1).1)=false):kJ l m=false:=by unfold kJ;rw [h];rfl
theorem C6 {l:List Mb} {m:Mb} (h:decide (0≤(fR l m.1).1)=true):kJ l m = !decide (fR l m.1=m):=by unfold kJ;rw [h];rfl
structure RO (E:List Nd):Prop where
 rn:∀ n∈E,RN n
 inc:E.Pairwise fun a b=>a.me.1<b.me.1
 kn:∀ n∈E,∀ m∈aH n,∀ s∈E,s.me.1=m.1→s.me=m
 ring:Rg (E.map (·.me))
theorem zX {L:List N3} (h:∀ k,0<k→k<L.length→(L.getD (k - 1) z3).1.me.1<(L.getD k z3).1.me.1):∀ i j,i<j→j<L.length→(L.getD i z3).1.me.1<(L.getD j z3).1.me.1:=fun i j hij hj=>by
 induction j with
 |zero=>omega
 |succ j ih=>
  have h1:=h (j+1) (Nat.zero_lt_succ _) hj
  rw [Nat.add_sub_cancel] at h1
  by_cases e:i=j
  ·subst e;exact h1
  ·have:=ih (by omega) (by omega)
   omega
theorem ef {L:List N3} (h:fH L=true):RO (nds L):=by
 unfold fH at h
 rw [Bool.and_eq_true,List.all_eq_true] at h
 obtain ⟨h1,h2⟩:=h
 have hb:∀ k,k<L.length→jm L k=false:=fun k hk=>by have:=h1 k (List.mem_range.2 hk);simpa using this
 have hring:Rg ((nds L).map (·.me)):=by
  have:=(iP _).1 h2
  unfold nds;rw [List.map_map];exact this
 have hall:∀ k,k<L.length→cr (L.getD k z3).1=true∧(0<k→(L.getD (k - 1) z3).1.me.1<(L.getD k z3).1.me.1)∧∀ m∈aH (L.getD k z3).1,kJ (ae L) m=false:=fun k hk=>by
  have:=hb k hk
  unfold jm at this
  rw [Bool.or_eq_false_iff,Bool.or_eq_false_iff,List.any_eq_false] at this
  refine ⟨by simpa using this.1,fun h0=>?_,fun m hm=>by have:=this.2.2 m hm;simpa using this⟩
  have h9:=this.2.1
  rw [decide_eq_true h0,Bool.true_and,decide_eq_false_iff_not] at h9
  omega
 have hinc:(nds L).Pairwise fun a b=>a.me.1<b.me.1:=by
  unfold nds
  rw [List.pairwise_map,List.pairwise_iff_getElem]
  intro i j hi hj hij
  rw [jE hi,jE hj]
  exact zX (fun k h0 hk=>(hall k hk).2.1 h0) i j hij hj
 refine ⟨fun n hn=>?_,hinc,fun n hn m hm s hs he=>?_,hring⟩
 ·obtain ⟨x,hx,rfl⟩:=List.mem_map.1 hn
  obtain ⟨k,hk,rfl⟩:=nc hx
  exact ga.1 (hall k hk).1
 ·obtain ⟨x,hx,rfl⟩:=List.mem_map.1 hn
  obtain ⟨k,hk,rfl⟩:=nc hx
  have h9:=(hall k hk).2.2 m hm
  unfold kJ at h9
  have hs2:s.me∈ae L:=by
   obtain ⟨y,hy,rfl⟩:=List.mem_map.1 hs
   exact List.mem_map.2 ⟨y,hy,rfl⟩
  have hf:=r6 ((iP _).1 h2) hs2
  rw [he] at hf
  have hr:fR (ae L) m.1=s.me:=by unfold fR;rw [hf];rfl
  rw [hr] at h9
  have hnn:0≤s.me.1:=(((iP _).1 h2).nos _ hs2).1
  rw [decide_eq_true hnn,Bool.true_and] at h9
  simpa using h9
end Go.Proofs.YthggibfkgofncaaGreat
namespace Go.Proofs.YthggibfkgofncaaGreat
theorem At {p:Nat→Bool} {k:Nat} (h:∀ j,j<k→p j=true) (hk:p k=true):∀ j,j<k+1→p j=true:=fun j hj=>by
 by_cases e:j<k
 ·exact h j e
 ·obtain rfl:j=k:=by omega
  exact hk
end Go.Proofs.YthggibfkgofncaaGreat
namespace Go.Proofs.YthggibfkgofncaaGreat
open Go.RowKit
theorem xk {w w':World} {R:World→Prop} {E:List Nd} {vo:Value} {L:List N3} {A:List Own} (hE:nds L=E) (h:∀ w9,(∀ p∈A,p.holds w w9)→R w9→cI w9 vo L) (s:St w A w'):AX w R E (.agg #[vo]) w':=by
 refine ⟨vo,L,_,rfl,hE,(St.group (A:=A) (B:=[]) (by rw [List.append_nil];exact s)).weak fun w9 h9 hR=>h w9 h9 hR⟩
theorem xG {x:N3} {acc:List N3} {y:N3} (h:y.1.me.1<x.1.me.1):fc x (acc,false) y=(acc++[y],false):=
 zu (.inr (decide_eq_false (by omega))) (decide_eq_true (by omega))
theorem x3 {x:N3} {acc:List N3} {y:N3} (h:y.1.me.1=x.1.me.1):fc x (acc,false) y=(acc++[x],true):=
 Ch rfl (decide_eq_true (by omega)) (decide_eq_false (by omega))
theorem xS {x:N3} {acc:List N3} {y:N3} (h:x.1.me.1<y.1.me.1):fc x (acc,true) y=(acc++[y],true):=
 zu (.inl rfl) (decide_eq_true (by omega))
theorem jl {x:N3}:∀ (A acc:List N3),(∀ y∈A,y.1.me.1<x.1.me.1)→A.foldl (fc x) (acc,false)=(acc++A,false)
 |[],acc,_=>by rw [List.append_nil];rfl
 |y::A,acc,h=>by
  rw [List.foldl_cons,xG (h y List.mem_cons_self),jl A _ fun z hz=>h z (List.mem_cons_of_mem _ hz),List.append_assoc];rfl
theorem kY {x:N3}:∀ (A acc:List N3),(∀ y∈A,x.1.me.1<y.1.me.1)→A.foldl (fc x) (acc,true)=(acc++A,true)
 |[],acc,_=>by rw [List.append_nil];rfl
 |y::A,acc,h=>by
  rw [List.foldl_cons,xS (h y List.mem_cons_self),kY A _ fun z hz=>h z (List.mem_cons_of_mem _ hz),List.append_assoc];rfl
theorem rR {A B:List N3} {x y:N3} (hA:∀ z∈A,z.1.me.1<x.1.me.1) (hy:y.1.me.1=x.1.me.1) (hB:∀ z∈B,x.1.me.1<z.1.me.1):eu (A++y::B) x=A++x::B:=by
 have:eE x (A++y::B)=(A++x::B,true):=by
  unfold eE
  rw [List.foldl_append,jl A [] hA,List.nil_append,List.foldl_cons,x3 hy,kY B _ hB,List.append_assoc];rfl
 unfold eu;rw [this];rfl
structure RS (L:List N3):Prop where
 rn:∀ x∈L,RN x.1
 inc:L.Pairwise fun a b=>a.1.me.1<b.1.me.1
 ring:Rg (ae L)
theorem RO.rs {L:List N3} (h:RO (nds L)):RS L:=by
 refine ⟨fun x hx=>h.rn _ (List.mem_map.2 ⟨x,hx,rfl⟩),?_,?_⟩
 ·have:=h.inc
  unfold nds at this
  rwa [List.pairwise_map] at this
 ·have:=h.ring
  unfold nds at this
  rw [List.map_map] at this;exact this
theorem RS.put {L:List N3} (h:RS L) {x y:N3} (hy:y∈L) (he:y.1.me=x.1.me) (hx:RN x.1):RS (eu L x)∧ae (eu L x)=ae L∧x∈eu L x:=by
 obtain ⟨A,B,rfl⟩:=List.append_of_mem hy
 have hp:=List.pairwise_append.1 h.inc
 have hp2:=List.pairwise_cons.1 hp.2.1
 have hno:y.1.me.1=x.1.me.1:=by rw [he]
 have e:=rR (x:=x) (fun z hz=>by rw [← hno];exact hp.2.2 z hz y List.mem_cons_self) hno (fun z hz=>by rw [← hno];exact hp2.1 z hz)
 have em:ae (A++x::B)=ae (A++y::B):=by simp [ae,he]
 rw [e]
 refine ⟨⟨fun z hz=>?_,?_,?_⟩,em,by simp⟩
 ·rcases List.mem_append.1 hz with hz|hz
  ·exact h.rn z (List.mem_append_left _ hz)
  ·rcases List.mem_cons.1 hz with rfl|hz
   ·exact hx
   ·exact h.rn z (List.mem_append_right _ (List.mem_cons_of_mem _ hz))
 ·rw [List.pairwise_append,List.pairwise_cons]
  refine ⟨hp.1,⟨fun z hz=>by rw [← hno];exact hp2.1 z hz,hp2.2⟩,fun a ha b hb=>?_⟩
  rcases List.mem_cons.1 hb with rfl|hb
  ·rw [← hno];exact hp.2.2 a ha y List.mem_cons_self
  ·exact hp.2.2 a ha b (List.mem_cons_of_mem _ hb)
 ·rw [em];exact h.ring
theorem RS.nos {L:List N3} (h:RS L):∀ m∈ae L,0≤m.1:=fun m hm=>(h.ring.nos m hm).1
theorem RS.len {L:List N3} (h:RS L):L.length≤16:=by
 have:=h.ring.len
 simpa [ae] using this
theorem RS.get {L:List N3} (h:RS L) {no:Int} (hl:bP (ae L) no=true):cg L no∈L∧(cg L no).1.me.1=no:=by
 obtain ⟨m,hm,hno⟩:=(en h.nos).1 hl
 obtain ⟨x,hx,rfl⟩:=List.mem_map.1 hm
 unfold cg
 cases hf:L.find? fun x=>decide (x.1.me.1=no) with
 |none=>exact absurd (decide_eq_true hno) (List.find?_eq_none.1 hf x hx)
 |some z=>exact ⟨List.mem_of_find?_eq_some hf,by have:=List.find?_some hf;exact of_decide_eq_true this⟩
def eW (l:List Mb) (n:Nd):List Int:=((aH n).filter fun m => !bP l m.1).map (·.1)
def gG (l:List Mb) (n:Nd) (k:Nat):List Int:=(((aH n).take k).filter fun m => !bP l m.1).map (·.1)
theorem tY {l:List Mb} {n:Nd} {k:Nat} (hk:k<(aH n).length) (h:bP l ((aH n).getD k ap).1=true):gG l n (k+1)=gG l n k:=by
 unfold gG;rw [kF hk,List.filter_append,List.filter_cons,h];simp
theorem uk {l:List Mb} {n:Nd} {k:Nat} (hk:k<(aH n).length) (h:bP l ((aH n).getD k ap).1=false):gG l n (k+1)=gG l n k++[((aH n).getD k ap).1]:=by
 unfold gG;rw [kF hk,List.filter_append,List.filter_cons,h];simp
theorem oC (l:List Mb) (n:Nd):gG l n (aH n).length=eW l n:=by unfold gG;rw [List.take_length];rfl
theorem nO (l:List Mb) (n:Nd) (k:Nat):(gG l n k).length≤(aH n).length:=by
 unfold gG
 have:=List.length_filter_le (fun m:Mb => !bP l m.1) ((aH n).take k)
 rw [List.length_take] at this
 rw [List.length_map];omega
def ar (l:List Mb) (n:Nd):Nd:=⟨n.me,As n (eW l n),kj (f4 n.sc (eW l n) n.me.1) n.me,f4 n.fg (eW l n) n.me.1⟩
theorem qx {l:List Mb} {n:Nd} (h:RN n):ar l n=⟨n.me,rV n (eW l n),kj (dt n.sc (eW l n)) n.me,dt n.fg (eW l n)⟩:=by
 unfold ar;rw [yb h,xZ h,yl h]
theorem qC {l:List Mb} {n:Nd} (h:RN n):RN (ar l n):=by rw [qx h];exact yH h _
theorem jI {l:List Mb} {n:Nd} (h:RN n) (hm:bP l n.me.1=true):bP l ((ar l n).sc.getD 0 ap).1=true:=by
 rw [qx h]
 show bP l ((kj (dt n.sc (eW l n)) n.me).getD 0 ap).1=true
 by_cases h0:(dt n.sc (eW l n)).length=0
 ·rw [rf h0];exact hm
 ·rw [pv h0]
  have hx:=dx (l:=dt n.sc (eW l n)) (j:=0) (by omega)
  obtain ⟨h1,h2⟩:=List.mem_filter.1 hx
  cases hl:bP l ((dt n.sc (eW l n)).getD 0 ap).1 with
  |true=>rfl
  |false=>
   exfalso
   have h3:dB (eW l n) ((dt n.sc (eW l n)).getD 0 ap)=true:=o6.2 (by
    show _∈((aH n).filter fun m => !bP l m.1).map (·.1)
    refine List.mem_map.2 ⟨_,List.mem_filter.2 ⟨?_,by rw [hl];rfl⟩,rfl⟩
    unfold aH
    exact List.mem_cons_of_mem _ (List.mem_append_left _ h1))
   rw [h3] at h2;cases h2
def aG (l:List Mb) (s:Nd):Nd:=⟨s.me,bif bP l s.pr.1 then s.pr else c4,s.sc,s.fg⟩
theorem nr {l:List Mb} {s:Nd} (h:RN s):RN (aG l s):=by
 have key:(aG l s).pr=s.pr∨(aG l s).pr=c4:=by
  unfold aG
  cases bP l s.pr.1 with
  |true=>exact .inl rfl
  |false=>exact .inr rfl
 refine ⟨h.me,?_,h.sc,h.fg⟩
 rcases key with e|e
 ·rw [e];exact h.pr
 ·exact .inl e
def aN (n1 s:Nd):Nd:=⟨n1.me,n1.pr,sE n1 s,n1.fg⟩
theorem lT {n1 s:Nd} (h:RN n1) (hs:RN s):RN (aN n1 s):=xw h hs
def cP (g:Nd) (me:Mb):Nd:=⟨g.me,i8 g me,g.sc,g.fg⟩
theorem nE {g:Nd} {me:Mb} (h:RN g) (hm:0≤me.1∧me.1<16):RN (cP g me):=xX h (fK.2 hm)
def ql (E:List Nd):List Mb:=E.map (·.me)
def fB (E:List Nd) (no:Int):List Nd:=
 let n1:=ar (ql E) (qv E no)
 let E1:=gH E n1
 let s:=aG (ql E1) (qv E1 (n1.sc.getD 0 ap).1)
 let n2:=aN n1 s
 let E2:=gH E1 n2
 let fi:=(n2.sc.getD 0 ap).1
 bif bP (ql E2) fi then gH E2 (cP (qv E2 fi) n2.me) else E2
theorem cY (L:List N3):ql (nds L)=ae L:=by unfold ql nds;rw [List.map_map];rfl
theorem rx (L:List N3) (no:Int) {u1 u2 f1:Value} {L1 L2:List N3} (h1:L1=eu L (ar (ae L) (cg L no).1,u1,u2)) (h2:L2=eu L1 (aN (ar (ae L) (cg L no).1) (aG (ae L1) (cg L1 ((ar (ae L) (cg L no).1).sc.getD 0 ap).1).1),f1,u2)):
 fB (nds L) no=bif bP (ae L2) ((aN (ar (ae L) (cg L no).1) (aG (ae L1) (cg L1 ((ar (ae L) (cg L no).1).sc.getD 0 ap).1).1)).sc.getD 0 ap).1
  then gH (nds L2) (cP (qv (nds L2) ((aN (ar (ae L) (cg L no).1) (aG (ae L1) (cg L1 ((ar (ae L) (cg L no).1).sc.getD 0 ap).1).1)).sc.getD 0 ap).1) (ar (ae L) (cg L no).1).me) else nds L2:=by
 have e1:nds L1=gH (nds L) (ar (ae L) (cg L no).1):=by rw [h1,eX]
 have e2:nds L2=gH (nds L1) (aN (ar (ae L) (cg L no).1) (aG (ae L1) (cg L1 ((ar (ae L) (cg L no).1).sc.getD 0 ap).1).1)):=by rw [h2,eX]
 unfold fB
 simp only [cY,← ig,← e1,← e2]
 rfl
end Go.Proofs.YthggibfkgofncaaGreat
namespace Go.Proofs.YthggibfkgofncaaGreat
open Go.RowKit
end Go.Proofs.YthggibfkgofncaaGreat
namespace Go.Proofs.YthggibfkgofncaaGreat
open Go.RowKit
theorem St.grp0 {w0 w:World} {B:List Own} {S:World→Prop} (s:St w0 B w) (h:∀ w9,S w9):St w0 (.grp [] S::B) w:=
 (St.group (A:=[]) (B:=B) s).weak fun w9 _=>h w9
theorem St.merge {w0 w:World} {k1 k2:List Nat} {S1 S2 S:World→Prop} {B:List Own} (s:St w0 (.grp k1 S1::.grp k2 S2::B) w) (h:∀ w9,S1 w9→S2 w9→S w9):St w0 (.grp (k1++k2) S::B) w:=by
 have g:=St.group (A:=[.grp k1 S1,.grp k2 S2]) (B:=B) s
 have e:[Own.grp k1 S1,.grp k2 S2].flatMap Own.ks=k1++k2:=by simp [Own.ks]
 unfold Own.all at g
 rw [e] at g
 exact g.weak fun w9 h9=>h w9 ((h9 (.grp k1 S1) (by simp)).2 w9 fun _ _=>rfl) ((h9 (.grp k2 S2) (by simp)).2 w9 fun _ _=>rfl)
theorem rC {L K:List N3} (h:nds L=nds K) (hL:RS L):RS K:=by
 have hm:ae K=ae L:=by rw [← cY,← cY,h]
 refine ⟨fun x hx=>?_,?_,by rw [hm];exact hL.ring⟩
 ·have:x.1∈nds L:=by rw [h];exact List.mem_map.2 ⟨x,hx,rfl⟩
  obtain ⟨y,hy,e⟩:=List.mem_map.1 this
  rw [← e];exact hL.rn y hy
 ·have h1:(nds L).Pairwise fun a b=>a.me.1<b.me.1:=by unfold nds;rw [List.pairwise_map];exact hL.inc
  rw [h] at h1
  unfold nds at h1
  rwa [List.pairwise_map] at h1
theorem RS.rb {L:List N3} (h:RS L):RwB L:=⟨fun x hx=>by have h1:=(h.rn x hx).len;have h2:=(h.rn x hx).fg.1;omega⟩
theorem nW {L K:List N3} {no:Int} (h:RS L) (hl:bP (ae L) no=true) (hK:nds K=fB (nds L) no):RS K∧ae K=ae L:=by
 obtain ⟨hgm,hgn⟩:=h.get hl
 have hgr:=h.rn _ hgm
 have hT1:=qC (l:=ae L) hgr
 obtain ⟨L1,hL1⟩:∃ x,x=eu L (ar (ae L) (cg L no).1,aU,aU):=⟨_,rfl⟩
 obtain ⟨hrs1,hm1,hi1⟩:=h.put (x:=(ar (ae L) (cg L no).1,aU,aU)) hgm rfl hT1
 rw [← hL1] at hrs1 hm1 hi1
 have hf1:bP (ae L1) ((ar (ae L) (cg L no).1).sc.getD 0 ap).1=true:=by rw [hm1];exact jI hgr (by rw [hgn];exact hl)
 obtain ⟨hgm1,hgn1⟩:=hrs1.get hf1
 have hsr:=hrs1.rn _ hgm1
 obtain ⟨L2,hL2⟩:∃ x,x=eu L1 (aN (ar (ae L) (cg L no).1) (aG (ae L1) (cg L1 ((ar (ae L) (cg L no).1).sc.getD 0 ap).1).1),aU,aU):=⟨_,rfl⟩
 obtain ⟨hrs2,hm2,hi2⟩:=hrs1.put (x:=(aN (ar (ae L) (cg L no).1) (aG (ae L1) (cg L1 ((ar (ae L) (cg L no).1).sc.getD 0 ap).1).1),aU,aU)) hi1 rfl (lT hT1 (nr hsr))
 rw [← hL2] at hrs2 hm2 hi2
 rw [rx L no hL1 hL2] at hK
 cases hb:bP (ae L2) ((aN (ar (ae L) (cg L no).1) (aG (ae L1) (cg L1 ((ar (ae L) (cg L no).1).sc.getD 0 ap).1).1)).sc.getD 0 ap).1 with
 |false=>
  rw [hb] at hK
  have hK:nds L2=nds K:=hK.symm
  exact ⟨rC hK hrs2,by rw [← cY,← hK,cY,hm2,hm1]⟩
 |true=>
  rw [hb] at hK
  obtain ⟨hg2,hn2⟩:=hrs2.get hb
  obtain ⟨hrs3,hm3,_⟩:=hrs2.put (x:=(cP (cg L2 ((aN (ar (ae L) (cg L no).1) (aG (ae L1) (cg L1 ((ar (ae L) (cg L no).1).sc.getD 0 ap).1).1)).sc.getD 0 ap).1).1 (ar (ae L) (cg L no).1).me,aU,aU)) hg2 rfl (nE (hrs2.rn _ hg2) hT1.me)
  have hK:nds (eu L2 (cP (cg L2 ((aN (ar (ae L) (cg L no).1) (aG (ae L1) (cg L1 ((ar (ae L) (cg L no).1).sc.getD 0 ap).1).1)).sc.getD 0 ap).1).1 (ar (ae L) (cg L no).1).me,aU,aU))=nds K:=by rw [eX,ig];exact hK.symm
  exact ⟨rC hK hrs3,by rw [← cY,← hK,cY,hm3,hm2,hm1]⟩
def kM (E:List Nd) (k:Nat):List Nd:=((ql E).take k).foldl (fun F m=>fB F m.1) E
def md (E:List Nd):List Nd:=(ql E).foldl (fun F m=>fB F m.1) E
theorem jL {L:List N3} {k:Nat} (hk:k<(ae L).length):kM (nds L) (k+1)=fB (kM (nds L) k) ((ae L).getD k ap).1:=by
 unfold kM;rw [cY,kF hk,List.foldl_append];rfl
theorem lr {L:List N3} {k:Nat} (hk:k=(ae L).length):kM (nds L) k=md (nds L):=by
 subst hk;unfold kM md;rw [cY,List.take_length]
end Go.Proofs.YthggibfkgofncaaGreat
namespace Go.Proofs.YthggibfkgofncaaGreat
open Go.RowKit
def yt (n:Nd):Bool:=decide (n.pr=c4) && (decide (n.sc.length=1) && decide (n.sc.getD 0 ap=n.me))
def qF (L:List N3) (k:Nat):Bool:=decide ((L.getD k z3).1.pr=qX (ae L) (L.getD k z3).1.me) && decide ((L.getD k z3).1.sc=iq (ae L) (L.getD k z3).1.me (min (L.length - 1) 4))
def gD (L:List N3):Bool:=fH L && bif decide (L.length=1) then yt (L.getD 0 z3).1 else (List.range L.length).all (qF L)
theorem Cz {L:List N3} (h:fH L=false):gD L=false:=by unfold gD;rw [h];rfl
theorem u7 {L:List N3} {k:Nat} (h:fH L=true) (hk:k<L.length) (h1:L.length=1):gD L=yt (L.getD k z3).1:=by
 obtain rfl:k=0:=by omega
 unfold gD;rw [h,decide_eq_true h1];rfl
theorem xv {L:List N3} {k:Nat} (h1:¬ L.length=1) (hk:k<L.length) (hb:qF L k=false):gD L=false:=by
 unfold gD
 have:(List.range L.length).all (qF L)=false:=by
  rw [← Bool.not_eq_true,List.all_eq_true]
  intro h9
  have:=h9 k (List.mem_range.2 hk)
  rw [hb] at this;cases this
 rw [decide_eq_false h1,this];simp
theorem wO {L:List N3} {k:Nat} (h:fH L=true) (h1:¬ L.length=1) (hk:L.length≤k) (hb:∀ j,j<k→qF L j=true):gD L=true:=by
 unfold gD
 have:(List.range L.length).all (qF L)=true:=by
  rw [List.all_eq_true]
  intro j hj
  exact hb j (by have:=List.mem_range.1 hj;omega)
 rw [h,decide_eq_false h1,this];rfl
end Go.Proofs.YthggibfkgofncaaGreat
namespace Go.Proofs.YthggibfkgofncaaGreat
open Go.RowKit
end Go.Proofs.YthggibfkgofncaaGreat
namespace Go.Proofs.YthggibfkgofncaaGreat
open Go.RowKit
theorem oH {w w':World} {N:TypeId} {R:World→Prop} {E:List Nd} {vo:Value} {L:List N3} {ks:List Nat} (hE:nds L=E) (s:St w [.sl vo N 68 L.length (aD L),.grp ks (cD L)] w'):AX w R E (.agg #[vo]) w':=
 xk hE (fun w9 h9 _=>⟨bO.of_own (h9 (.sl vo N 68 L.length (aD L)) (by simp)),(h9 (.grp ks (cD L)) (by simp)).2 w9 fun _ _=>rfl⟩) s
theorem St.grpR {w0 w:World} {a b:Value} {M N:TypeId} {sa sb n m:Nat} {xs ys:List Value} {ks:List Nat} {S S':World→Prop} {B:List Own} (s:St w0 (.sl a M sa n xs::.sl b N sb m ys::.grp ks S::B) w) (h:∀ w9,bO w9 a sa n xs→bO w9 b sb m ys→S w9→S' w9):∃ kn,St w0 (.grp kn S'::B) w:=
 ⟨_,(St.group (A:=[.sl a M sa n xs,.sl b N sb m ys,.grp ks S]) (B:=B) s).weak fun w9 h9=>h w9 (bO.of_own (h9 (.sl a M sa n xs) (by simp))) (bO.of_own (h9 (.sl b N sb m ys) (by simp))) ((h9 (.grp ks S) (by simp)).2 w9 fun _ _=>rfl)⟩
end Go.Proofs.YthggibfkgofncaaGreat
namespace Go.Proofs.YthggibfkgofncaaGreat
end Go.Proofs.YthggibfkgofncaaGreat
namespace Go.Proofs.YthggibfkgofncaaGreat
open Go.RowKit
def xH (w:World) (R:World→Prop) (E:List Nd) (k:Int):cL:=fun v w'=>∃ o,v=.tuple #[o,.int .i64 k]∧AX w R E o w'
theorem gX {w w':World} {B:List Own} {R:World→Prop} {E:List Nd} {k q:Int} (s:St w B w') (hE:E=[]) (hk:k=q):xH w R E k (.tuple #[.agg #[aU],.int .i64 q]) w':=by
 subst hE;subst hk;exact ⟨_,rfl,xA s⟩
theorem lu {w w':World} {R:World→Prop} {E:List Nd} {k q:Int} {o:Value} (hk:k=q) (h:AX w R E o w'):xH w R E k (.tuple #[o,.int .i64 q]) w':=by
 subst hk;exact ⟨_,rfl,h⟩
def jj (m y:Mb):Bool:=decide (y.1=m.1) && !decide (y=m)
def kK (L:List N3) (m:Mb) (k:Nat):Bool:=decide ((L.getD k z3).1.me.1=m.1) || (decide ((L.getD k z3).1.me.2=m.2) || (aH (L.getD k z3).1).any (jj m))
def sJ (L:List N3) (m:Mb):Bool:=(List.range L.length).any (kK L m)
def sT (L:List N3) (m:Mb) (no:Int):Int:=bif sJ L m then 7 else bif decide (0<L.length) && !bP (ae L) no then 10 else 0
def zt (L:List N3) (m:Mb) (no:Int):Mb:=bif decide (0<L.length) then (cg L no).1.me else m
def zl (L:List N3) (m:Mb) (no:Int):List Nd:=bif decide (sT L m no=0) then gH (nds L) ⟨m,c4,[zt L m no],[]⟩ else []
theorem CK {L:List N3} {m:Mb} {k:Nat} (hk:k<L.length) (h:kK L m k=true):sJ L m=true:=List.any_eq_true.2 ⟨k,List.mem_range.2 hk,h⟩
theorem Ct {L:List N3} {m:Mb} {k:Nat} (hk:L.length≤k) (h:∀ j,j<k→kK L m j=false):sJ L m=false:=by
 unfold sJ
 rw [List.any_eq_false]
 intro j hj
 rw [h j (by have:=List.mem_range.1 hj;omega)];decide
theorem Bj {L:List N3} {m:Mb} {k:Nat} (h:decide ((L.getD k z3).1.me.1=m.1)=true):kK L m k=true:=by unfold kK;rw [h];rfl
theorem BE {L:List N3} {m:Mb} {k:Nat} (h:decide ((L.getD k z3).1.me.2=m.2)=true):kK L m k=true:=by unfold kK;rw [h];simp
theorem Cu {L:List N3} {m:Mb} {k j:Nat} (hj:j<(aH (L.getD k z3).1).length) (h:jj m ((aH (L.getD k z3).1).getD j ap)=true):kK L m k=true:=by
 unfold kK
 have:(aH (L.getD k z3).1).any (jj m)=true:=List.any_eq_true.2 ⟨_,dx hj,h⟩
 rw [this];simp
theorem Al {L:List N3} {m:Mb} {k j:Nat} (h0:decide ((L.getD k z3).1.me.1=m.1)=false) (h1:decide ((L.getD k z3).1.me.2=m.2)=false) (hj:(aH (L.getD k z3).1).length≤j) (h2:∀ i,i<j→jj m ((aH (L.getD k z3).1).getD i ap)=false):kK L m k=false:=by
 unfold kK
 have e2:(aH (L.getD k z3).1).any (jj m)=false:=by
  rw [List.any_eq_false]
  intro x hx
  obtain ⟨i,hi,rfl⟩:=jp hx
  rw [h2 i (by omega)];decide
 rw [h0,h1,e2];rfl
theorem BP {L:List N3} {m:Mb} {no:Int} (h:sJ L m=true):sT L m no=7:=by unfold sT;rw [h];rfl
theorem zD {L:List N3} {m:Mb} {no:Int} (h:sJ L m=false) (h0:0<L.length) (h1:bP (ae L) no=false):sT L m no=10:=by unfold sT;rw [h,decide_eq_true h0,h1];rfl
theorem wq {L:List N3} {m:Mb} {no:Int} (h:sJ L m=false) (h0:¬ 0<L.length∨bP (ae L) no=true):sT L m no=0:=by
 unfold sT;rw [h]
 rcases h0 with h0|h0
 ·rw [decide_eq_false h0];rfl
 ·rw [h0];simp
theorem zC {L:List N3} {m:Mb} {no k:Int} (h:sT L m no=k) (h0:k≠0):zl L m no=[]:=by unfold zl;rw [decide_eq_false (by rw [h];exact h0)];rfl
theorem DA {L:List N3} {m:Mb} {no:Int} (h:0<L.length):zt L m no=(cg L no).1.me:=by unfold zt;rw [decide_eq_true h];rfl
theorem Dg {L:List N3} {m:Mb} {no:Int} (h:¬ 0<L.length):zt L m no=m:=by unfold zt;rw [decide_eq_false h];rfl
end Go.Proofs.YthggibfkgofncaaGreat
namespace Go.Proofs.YthggibfkgofncaaGreat
open Go.RowKit
end Go.Proofs.YthggibfkgofncaaGreat
namespace Go.Proofs.YthggibfkgofncaaGreat
open Go.RowKit
def AY (L K:List N3) (e f:Int):Bool:=decide (e=f) && ml (nds L) (bif decide (f=0) then nds K else [])
theorem yM {L K:List N3} {e f:Int} (h:decide (e=f)=false):AY L K e f=false:=by unfold AY;rw [h];rfl
theorem DG {L K:List N3} {e f:Int} (h:decide (e=f)=true) (h0:f=0):AY L K e f=ml (nds L) (nds K):=by unfold AY;rw [h,decide_eq_true h0];rfl
theorem C5 {L K:List N3} {e f:Int} (h:decide (e=f)=true) (h0:¬ f=0):AY L K e f=ml (nds L) (nds []):=by unfold AY;rw [h,decide_eq_false h0];rfl
theorem vB:RwB []:=⟨fun _ h=>by cases h⟩
end Go.Proofs.YthggibfkgofncaaGreat
namespace Go.Proofs.YthggibfkgofncaaGreat
open Go.RowKit
def cE (L:List N3) (no:Int):Int:=bif fH L then bif bP (ae L) no then 0 else 10 else 1
def q5 (L:List N3) (m:Mb):Bool:=fH L && dI m
def kN (L:List N3) (m:Mb) (no:Int):Int:=bif q5 L m then sT L m no else 1
def wB (L:List N3) (m:Mb) (no:Int):List Nd:=bif q5 L m then zl L m no else []
def CA (L:List N3) (no:Int):List Nd:=bif decide (cE L no=0) then fB (nds L) no else []
def Cq (L:List N3):Int:=bif fH L then 0 else 1
def Bq (L:List N3):List Nd:=bif fH L then md (nds L) else []
def zR (L:List N3) (no:Int):List Nd:=bif decide (cE L no=0) then nD (nds L) no else []
abbrev fU (vo:Value) (L:List N3):World→Prop:=fun w9=>cI w9 vo L
def qI:Mb:=(3,0#256)
def Bl:Nd:=⟨qI,c4,[qI],[]⟩
theorem A4 {L:List N3} (h:nds L=[Bl]):∃ u v,L=[(Bl,u,v)]:=by
 match L,h with
 |[x],h=>
  have h:[x.1]=[Bl]:=h
  rw [List.cons.injEq] at h
  refine ⟨x.2.1,x.2.2,?_⟩
  rw [← h.1]
 |[],h=>cases h
 |x::y::L,h=>
  have:=congrArg List.length h
  simp [nds] at this
theorem rz:wB [] qI 0=[Bl]∧kN [] qI 0=0:=by
 constructor<;>decide
end Go.Proofs.YthggibfkgofncaaGreat
namespace Go.Proofs.YthggibfkgofncaaGreat
theorem vG (u v:Value):fH [(Bl,u,v)]=true:=by rfl
theorem tq (u v:Value):gD [(Bl,u,v)]=true:=by rfl
end Go.Proofs.YthggibfkgofncaaGreat
namespace Go.Proofs.YthggibfkgofncaaGreat
open Go.RowKit
structure BdE (E:List Nd):Prop where
 len:E.length≤40
 each:∀ n∈E,n.sc.length≤300∧n.fg.length≤300
theorem BdE.l {L:List N3} {E:List Nd} (h:BdE E) (e:nds L=E):L.length≤40:=by subst e;have:=h.len;simpa [nds] using this
theorem BdE.r {L:List N3} {E:List Nd} (h:BdE E) (e:nds L=E):RwB L:=by subst e;exact ⟨fun x hx=>h.each _ (List.mem_map.2 ⟨x,hx,rfl⟩)⟩
theorem n0:BdE []:=⟨by simp,fun _ h=>by cases h⟩
theorem zj {L:List N3} {E:List Nd} (h:RS L) (e:nds L=E):BdE E:=by
 subst e
 refine ⟨by have:=h.len;simp [nds];omega,fun n hn=>?_⟩
 obtain ⟨x,hx,rfl⟩:=List.mem_map.1 hn
 exact h.rb.each x hx
def wS (E:List Nd):List N3:=E.map fun n=>(n,aU,aU)
theorem ot (E:List Nd):nds (wS E)=E:=by unfold nds wS;rw [List.map_map];exact List.map_id E
theorem j1 {L:List N3} {no:Int} (h:fH L=false):cE L no=1:=by unfold cE;rw [h];rfl
theorem ic {L:List N3} {no:Int} (h:fH L=true) (h1:bP (ae L) no=false):cE L no=10:=by unfold cE;rw [h,h1];rfl
theorem kA {L:List N3} {no:Int} (h:fH L=true) (h1:bP (ae L) no=true):cE L no=0:=by unfold cE;rw [h,h1];rfl
theorem Db {L:List N3} {no:Int} (h:cE L no=0):fH L=true∧bP (ae L) no=true:=by
 unfold cE at h
 cases h1:fH L<;>cases h2:bP (ae L) no<;>rw [h1] at h<;>rw [h2] at h<;>simp at h
 exact ⟨rfl,rfl⟩
theorem zn {L:List N3} {no k:Int} (h:cE L no=k) (h0:k≠0):CA L no=[]:=by unfold CA;rw [decide_eq_false (by rw [h];exact h0)];rfl
theorem zk {L:List N3} {no:Int} (h:cE L no=0):CA L no=fB (nds L) no:=by unfold CA;rw [decide_eq_true h];rfl
theorem y2 {L:List N3} {no k:Int} (h:cE L no=k) (h0:k≠0):zR L no=[]:=by unfold zR;rw [decide_eq_false (by rw [h];exact h0)];rfl
theorem vV {L:List N3} {no:Int} (h:cE L no=0):zR L no=nD (nds L) no:=by unfold zR;rw [decide_eq_true h];rfl
theorem rj {L:List N3} (h:fH L=false):Cq L=1∧Bq L=[]:=by unfold Cq Bq;rw [h];exact ⟨rfl,rfl⟩
theorem o5 {L:List N3} (h:fH L=true):Cq L=0∧Bq L=md (nds L):=by unfold Cq Bq;rw [h];exact ⟨rfl,rfl⟩
theorem yj {L:List N3} {no:Int} (h:RS L) (hl:bP (ae L) no=true):RS (wS (fB (nds L) no))∧ae (wS (fB (nds L) no))=ae L:=nW h hl (ot _)
theorem AF {L:List N3} (h:RS L):∀ k,k≤(ae L).length→RS (wS (kM (nds L) k))∧ae (wS (kM (nds L) k))=ae L:=fun k=>by
 induction k with
 |zero=>
  intro _
  have e:nds (wS (kM (nds L) 0))=nds L:=by rw [ot];rfl
  exact ⟨rC e.symm h,by rw [← cY,e,cY]⟩
 |succ k ih=>
  intro hk
  obtain ⟨h1,h2⟩:=ih (by omega)
  have hl:bP (ae (wS (kM (nds L) k))) ((ae L).getD k ap).1=true:=by
   rw [h2];exact(en h.nos).2 ⟨_,dx (by omega),rfl⟩
  have h3:=yj h1 hl
  rw [ot] at h3
  rw [jL (by omega)]
  exact ⟨h3.1,h3.2.trans h2⟩
theorem ul {L:List N3} (h:RS L):RS (wS (md (nds L))):=by
 rw [← lr (L:=L) rfl];exact(AF h _ (Nat.le_refl _)).1
theorem zB (L:List N3):BdE (Bq L):=by
 cases h:fH L with
 |false=>rw [(rj h).2];exact n0
 |true=>rw [(o5 h).2];exact zj (ul (ef h).rs) (ot _)
theorem Bc {E:List Nd} (h:BdE E) (no:Int):BdE (nD E no):=⟨Nat.le_trans (List.length_filter_le _ _) h.len,fun n hn=>h.each n (List.mem_filter.1 hn).1⟩
theorem yU (L:List N3) (no:Int):BdE (zR L no):=by
 by_cases h:cE L no=0
 ·rw [vV h];exact Bc (zj (ef (Db h).1).rs rfl) no
 ·rw [y2 rfl h];exact n0
theorem AG {L:List N3} {n:Nd} (h:RS L) (hn:n.sc.length≤300∧n.fg.length≤300):BdE (gH (nds L) n):=by
 have e:gH (nds L) n=nds (eu L (n,aU,aU)):=(eX L (n,aU,aU)).symm
 rw [e]
 have hl:=h.len
 refine ⟨?_,fun y hy=>?_⟩
 ·have h1:=xV (n,aU,aU) L
  unfold nds eu
  rw [List.length_map]
  cases (eE (n,aU,aU) L).2 with
  |true=>show (eE _ _).1.length≤40;omega
  |false=>show ((eE _ _).1++_).length≤40;rw [List.length_append];show _+1≤40;omega
 ·obtain ⟨x,hx,rfl⟩:=List.mem_map.1 hy
  rcases tP hx with rfl|hx
  ·exact hn
  ·exact h.rb.each x hx
theorem yP (L:List N3) (m:Mb) (no:Int):BdE (wB L m no):=by
 unfold wB
 cases h:q5 L m with
 |false=>exact n0
 |true=>
  unfold q5 at h
  rw [Bool.and_eq_true] at h
  show BdE (zl L m no)
  unfold zl
  cases decide (sT L m no=0) with
  |false=>exact n0
  |true=>exact AG (ef h.1).rs ⟨by show 1≤300;omega,by show 0≤300;omega⟩
def Bv (E:List Nd):cL:=fun v w=>∃ vo L,v=.agg #[vo]∧nds L=E∧cI w vo L
theorem Bv.mono (E:List Nd):im (Bv E):=fun _ _ _ ⟨vo,L,h1,h2,h3⟩ hE=>⟨vo,L,h1,h2,h3.keep hE⟩
theorem AX.d {w w':World} {R:World→Prop} {E:List Nd} {v:Value} (h:AX w R E v w') (hR:R w'):Bv E v w':=by
 obtain ⟨vo,L,ks,h1,h2,h3⟩:=h
 exact ⟨vo,L,h1,h2,h3.getG 0 rfl hR⟩
end Go.Proofs.YthggibfkgofncaaGreat
namespace Go.Proofs.YthggibfkgofncaaGreat
open Go.RowKit
theorem B4.d {w w':World} {N:TypeId} {K:List N3} {E:List Nd} {v:Value} (h:B4 w N K v w') (e:nds K=E) (hr:∀ y∈K,mP w' y):Bv E v w':=by
 obtain ⟨vo,h1,h2⟩:=h
 exact ⟨vo,K,h1,e,bO.of_own h2,hr⟩
end Go.Proofs.YthggibfkgofncaaGreat
namespace Go.Proofs.YthggibfkgofncaaGreat
open Go.RowKit
def zQ (E:List Nd) (k:Int):cL:=fun v w=>∃ o,v=.tuple #[o,.int .i64 k]∧Bv E o w
theorem zQ.mono (E:List Nd) (k:Int):im (zQ E k):=fun _ _ _ ⟨o,h1,h2⟩ hE=>⟨o,h1,Bv.mono E _ _ _ h2 hE⟩
theorem xH.d {w w':World} {R:World→Prop} {E:List Nd} {k:Int} {v:Value} (h:xH w R E k v w') (hR:R w'):zQ E k v w':=by
 obtain ⟨o,h1,h2⟩:=h
 exact ⟨o,h1,h2.d hR⟩
theorem xj {L:List N3} {E:List Nd} (h:nds L=E):L.length=E.length:=by subst h;unfold nds;rw [List.length_map]
end Go.Proofs.YthggibfkgofncaaGreat
namespace Go.Proofs.YthggibfkgofncaaGreat
open Go.RowKit
def A2:Value→Value
 |Value.tuple a=>match a[0]? with
  |some (Value.agg b)=>CV (b[0]?)
  |_=>aU
 |_=>aU
def mq (v:Value):Option Addr:=match A2 v with|.slice p _ _=>p|_=>none
def mr (v:Value):Nat:=match A2 v with|.slice _ _ c=>c|_=>0
theorem AZ {v vw:Value} {k:Int} {n sz:Nat} {xs:List Value} {w:World} (hv:v=.tuple #[.agg #[vw],.int .i64 k]) (h:bO w vw sz n xs):v=.tuple #[.agg #[.slice (mq v) n (mr v)],.int .i64 k]:=by
 obtain ⟨q,c,rfl⟩:=h.len
 have h1:A2 v=.slice q n c:=by rw [hv];rfl
 have h2:mq v=q:=by unfold mq;rw [h1]
 have h3:mr v=c:=by unfold mr;rw [h1]
 rw [h2,h3];exact hv
end Go.Proofs.YthggibfkgofncaaGreat
namespace Go.Proofs.YthggibfkgofncaaGreat
open Go.RowKit
theorem yO {L:List N3} {m:Mb} (h:fH L=false):q5 L m=false:=by unfold q5;rw [h];rfl
theorem nt {L:List N3} {m:Mb} {no:Int} (h:q5 L m=false):kN L m no=1∧wB L m no=[]:=by unfold kN wB;rw [h];exact ⟨rfl,rfl⟩
theorem lI {L:List N3} {m:Mb} {no:Int} (h:q5 L m=true):kN L m no=sT L m no∧wB L m no=zl L m no:=by unfold kN wB;rw [h];exact ⟨rfl,rfl⟩
end Go.Proofs.YthggibfkgofncaaGreat
namespace Go.Proofs.YthggibfkgofncaaGreat
open Go.RowKit
def wu (l:List Mb) (m:Mb):Prop:=∀ s∈l,s.1=m.1→s=m
structure RK (L:List N3):Prop where
 rs:RS L
 kn:∀ x∈L,∀ m∈aH x.1,wu (ae L) m
theorem CE {L:List N3} (h:fH L=true):RK L:=⟨(ef h).rs,fun x hx m hm s hs e=>by
 obtain ⟨y,hy,rfl⟩:=List.mem_map.1 hs
 exact(ef h).kn x.1 (List.mem_map.2 ⟨x,hx,rfl⟩) m hm y.1 (List.mem_map.2 ⟨y,hy,rfl⟩) e⟩
theorem RK.ov {L:List N3} (h:RK L):fH L=true:=by
 have hb:∀ k,k<L.length→jm L k=false:=fun k hk=>by
  refine Dw (j:=(aH (L.getD k z3).1).length) (ga.2 (h.rs.rn _ (bj hk))) ?_ (Nat.le_refl _) fun i hi=>?_
  ·by_cases h0:0<k
   ·refine .inr (decide_eq_false ?_)
    have:=List.pairwise_iff_getElem.1 h.rs.inc (k - 1) k (by omega) hk (by omega)
    rw [jE,jE] at this
    omega
   ·exact .inl (decide_eq_false h0)
  ·have hm:=dx hi
   cases hc:decide (0≤(fR (ae L) ((aH (L.getD k z3).1).getD i ap).1).1) with
   |false=>exact Dz hc
   |true=>
    rw [C6 hc]
    have hc:=of_decide_eq_true hc
    rcases rl (l:=ae L) (no:=((aH (L.getD k z3).1).getD i ap).1) with h9|⟨s,h9,hs,hno⟩
    ·unfold fR at hc;rw [h9] at hc
     exact absurd hc (by decide)
    ·have e:fR (ae L) ((aH (L.getD k z3).1).getD i ap).1=s:=by unfold fR;rw [h9];rfl
     rw [e,decide_eq_true (h.kn _ (bj hk) _ hm s hs hno)];rfl
 rw [xz (Nat.le_refl _) hb]
 exact(iP _).2 h.rs.ring
theorem r4 {L K:List N3} (h:nds L=nds K) (hL:RK L):RK K:=by
 have hm:ae K=ae L:=by rw [← cY,← cY,h]
 refine ⟨rC h hL.rs,fun x hx m hx2=>?_⟩
 have:x.1∈nds L:=by rw [h];exact List.mem_map.2 ⟨x,hx,rfl⟩
 obtain ⟨y,hy,e⟩:=List.mem_map.1 this
 rw [hm]
 exact hL.kn y hy m (by rw [e];exact hx2)
theorem zF {l:List Mb} (h:Rg l):wu l c4:=fun s hs e=>by
 have h1:=(h.nos s hs).1
 have e:s.1 = -1:=e
 omega
theorem rY {l:List Mb} (h:Rg l) {m:Mb} (hm:m∈l):wu l m:=fun _ hs e=>h.no hs hm e
theorem RK.put {L:List N3} (h:RK L) {x y:N3} (hy:y∈L) (he:y.1.me=x.1.me) (hx:RN x.1) (hk:∀ m∈aH x.1,wu (ae L) m):RK (eu L x):=by
 obtain ⟨h1,h2,_⟩:=h.rs.put hy he hx
 refine ⟨h1,fun z hz m hm=>?_⟩
 rw [h2]
 rcases tP hz with rfl|hz
 ·exact hk m hm
 ·exact h.kn z hz m hm
theorem Ac (n:Nd) (nos:List Int):As n nos=c4∨As n nos=n.pr:=by
 unfold As
 cases (!decide (n.pr=c4) && decide ((f4 [n.pr] nos n.me.1).length=0)) with
 |true=>exact .inl rfl
 |false=>exact .inr rfl
theorem wD {l:List Mb} {me x:Mb} (h:x∈kj l me):x=me∨x∈l:=by
 by_cases h0:l.length=0
 ·rw [rf h0] at h;exact .inl (List.mem_singleton.1 h)
 ·rw [pv h0] at h;exact .inr h
theorem pw {l:List Mb} {nos:List Int} {no:Int} {x:Mb} (h:x∈f4 l nos no):x∈l:=(List.mem_filter.1 h).1
theorem yD {n s:Nd} {x:Mb} (h:x∈sE n s):x=n.me∨x=s.pr∨x=s.me∨x∈s.sc:=by
 rcases wD h with h|h
 ·exact .inl h
 ·rcases nC _ [] h with h|h
  ·cases h
  ·have h:=(jr h).1
   rcases List.mem_cons.1 h with h|h
   ·unfold j2 at h
    cases hb:wJ n.me s with
    |true=>rw [hb] at h;exact .inr (.inl h)
    |false=>rw [hb] at h;exact .inr (.inr (.inl h))
   ·rcases List.mem_cons.1 h with h|h
    ·exact .inr (.inr (.inl h))
    ·exact .inr (.inr (.inr h))
theorem Aq (n:Nd) (x:Mb):i8 n x=x∨i8 n x=n.pr:=by
 unfold i8
 cases decide (x.1≠n.me.1) && (decide (x.2≠n.me.2) && (decide (n.pr=c4) || qb x.2 n.pr.2 n.me.2)) with
 |true=>exact .inl rfl
 |false=>exact .inr rfl
theorem AJ {l:List Mb} {n:Nd} (hr:Rg l) (hm:n.me∈l) (h:∀ m∈aH n,wu l m):∀ m∈aH (ar l n),wu l m:=fun m hx=>by
 have hx:m∈As n (eW l n)::(kj (f4 n.sc (eW l n) n.me.1) n.me++f4 n.fg (eW l n) n.me.1):=hx
 rcases List.mem_cons.1 hx with hx|hx
 ·rcases Ac n (eW l n) with e|e
  ·rw [hx,e];exact zF hr
  ·rw [hx,e];exact h _ List.mem_cons_self
 ·rcases List.mem_append.1 hx with hx|hx
  ·rcases wD hx with hx|hx
   ·rw [hx];exact rY hr hm
   ·exact h _ (List.mem_cons_of_mem _ (List.mem_append_left _ (pw hx)))
  ·exact h _ (List.mem_cons_of_mem _ (List.mem_append_right _ (pw hx)))
theorem AA {l l':List Mb} {n s:Nd} (hr:Rg l) (hm:n.me∈l) (hs:s.me∈l) (h:∀ m∈aH n,wu l m) (h2:∀ m∈aH s,wu l m):∀ m∈aH (aN n (aG l' s)),wu l m:=fun m hx=>by
 have hx:m∈n.pr::(sE n (aG l' s)++n.fg):=hx
 rcases List.mem_cons.1 hx with hx|hx
 ·rw [hx];exact h _ List.mem_cons_self
 ·rcases List.mem_append.1 hx with hx|hx
  ·rcases yD hx with hx|hx|hx|hx
   ·rw [hx];exact rY hr hm
   ·have hx:m=bif bP l' s.pr.1 then s.pr else c4:=hx
    cases hb:bP l' s.pr.1 with
    |true=>rw [hb] at hx;rw [hx];exact h2 _ List.mem_cons_self
    |false=>rw [hb] at hx;rw [hx];exact zF hr
   ·rw [hx];exact rY hr hs
   ·exact h2 _ (List.mem_cons_of_mem _ (List.mem_append_left _ hx))
  ·exact h _ (List.mem_cons_of_mem _ (List.mem_append_right _ hx))
theorem zJ {l:List Mb} {g:Nd} {me:Mb} (hr:Rg l) (hm:me∈l) (h:∀ m∈aH g,wu l m):∀ m∈aH (cP g me),wu l m:=fun m hx=>by
 have hx:m∈i8 g me::(g.sc++g.fg):=hx
 rcases List.mem_cons.1 hx with hx|hx
 ·rcases Aq g me with e|e
  ·rw [hx,e];exact rY hr hm
  ·rw [hx,e];exact h _ List.mem_cons_self
 ·exact h _ (List.mem_cons_of_mem _ hx)
theorem mh {L:List N3} {x:N3} (h:x∈L):x.1.me∈ae L:=List.mem_map.2 ⟨x,h,rfl⟩
theorem xC {L K:List N3} {no:Int} (h:RK L) (hl:bP (ae L) no=true) (hK:nds K=fB (nds L) no):RK K:=by
 obtain ⟨hgm,hgn⟩:=h.rs.get hl
 have hgr:=h.rs.rn _ hgm
 have hT1:=qC (l:=ae L) hgr
 have hk1:=AJ h.rs.ring (mh hgm) (h.kn _ hgm)
 obtain ⟨L1,hL1⟩:∃ x,x=eu L (ar (ae L) (cg L no).1,aU,aU):=⟨_,rfl⟩
 obtain ⟨hrs1,hm1,hi1⟩:=h.rs.put (x:=(ar (ae L) (cg L no).1,aU,aU)) hgm rfl hT1
 have hr1:=h.put (x:=(ar (ae L) (cg L no).1,aU,aU)) hgm rfl hT1 hk1
 rw [← hL1] at hrs1 hm1 hi1 hr1
 have hf1:bP (ae L1) ((ar (ae L) (cg L no).1).sc.getD 0 ap).1=true:=by rw [hm1];exact jI hgr (by rw [hgn];exact hl)
 obtain ⟨hgm1,hgn1⟩:=hrs1.get hf1
 have hsr:=hrs1.rn _ hgm1
 have hk2:=AA (l':=ae L1) hrs1.ring (mh hi1) (mh hgm1) (hr1.kn _ hi1) (hr1.kn _ hgm1)
 obtain ⟨L2,hL2⟩:∃ x,x=eu L1 (aN (ar (ae L) (cg L no).1) (aG (ae L1) (cg L1 ((ar (ae L) (cg L no).1).sc.getD 0 ap).1).1),aU,aU):=⟨_,rfl⟩
 obtain ⟨hrs2,hm2,hi2⟩:=hrs1.put (x:=(aN (ar (ae L) (cg L no).1) (aG (ae L1) (cg L1 ((ar (ae L) (cg L no).1).sc.getD 0 ap).1).1),aU,aU)) hi1 rfl (lT hT1 (nr hsr))
 have hr2:=hr1.put (x:=(aN (ar (ae L) (cg L no).1) (aG (ae L1) (cg L1 ((ar (ae L) (cg L no).1).sc.getD 0 ap).1).1),aU,aU)) hi1 rfl (lT hT1 (nr hsr)) hk2
 rw [← hL2] at hrs2 hm2 hi2 hr2
 rw [rx L no hL1 hL2] at hK
 cases hb:bP (ae L2) ((aN (ar (ae L) (cg L no).1) (aG (ae L1) (cg L1 ((ar (ae L) (cg L no).1).sc.getD 0 ap).1).1)).sc.getD 0 ap).1 with
 |false=>
  rw [hb] at hK
  have hK:nds L2=nds K:=hK.symm
  exact r4 hK hr2
 |true=>
  rw [hb] at hK
  obtain ⟨hg2,hn2⟩:=hrs2.get hb
  have hme2:(ar (ae L) (cg L no).1).me∈ae L2:=by have h9:=mh hi2;exact h9
  have hr3:=hr2.put (x:=(cP (cg L2 ((aN (ar (ae L) (cg L no).1) (aG (ae L1) (cg L1 ((ar (ae L) (cg L no).1).sc.getD 0 ap).1).1)).sc.getD 0 ap).1).1 (ar (ae L) (cg L no).1).me,aU,aU)) hg2 rfl (nE (hrs2.rn _ hg2) hT1.me) (zJ hrs2.ring hme2 (hr2.kn _ hg2))
  have hK:nds (eu L2 (cP (cg L2 ((aN (ar (ae L) (cg L no).1) (aG (ae L1) (cg L1 ((ar (ae L) (cg L no).1).sc.getD 0 ap).1).1)).sc.getD 0 ap).1).1 (ar (ae L) (cg L no).1).me,aU,aU))=nds K:=by rw [eX,ig];exact hK.symm
  exact r4 hK hr3
theorem t6 {L:List N3} (h:RK L) (no:Int):RK (eZ L no):=by
 have hs:(eZ L no).Sublist L:=List.filter_sublist
 have hm:(ae (eZ L no)).Sublist (ae L):=hs.map _
 exact ⟨⟨fun x hx=>h.rs.rn x (hs.subset hx),h.rs.inc.sublist hs,h.rs.ring.sub hm⟩,fun x hx m hx2 s hs2 e=>h.kn x (hs.subset hx) m hx2 s (hm.subset hs2) e⟩
theorem uu {L:List N3} (h:RS L) {x y:N3} (hy:y∈L) (he:y.1.me=x.1.me):(eu (eZ L x.1.me.1) x).length=L.length:=by
 obtain ⟨A,B,rfl⟩:=List.append_of_mem hy
 have hp:=List.pairwise_append.1 h.inc
 have hp2:=List.pairwise_cons.1 hp.2.1
 have hno:y.1.me.1=x.1.me.1:=by rw [he]
 have hA:∀ z∈A,z.1.me.1<x.1.me.1:=fun z hz=>by rw [← hno];exact hp.2.2 z hz y List.mem_cons_self
 have hB:∀ z∈B,x.1.me.1<z.1.me.1:=fun z hz=>by rw [← hno];exact hp2.1 z hz
 have e:eZ (A++y::B) x.1.me.1=A++B:=by
  unfold eZ
  rw [List.filter_append,List.filter_cons,decide_eq_false (by rw [hno];exact fun h9=>h9 rfl)]
  have e1:A.filter (fun x9:N3=>decide (x9.1.me.1≠x.1.me.1))=A:=List.filter_eq_self.2 fun z hz=>decide_eq_true (by have:=hA z hz;omega)
  have e2:B.filter (fun x9:N3=>decide (x9.1.me.1≠x.1.me.1))=B:=List.filter_eq_self.2 fun z hz=>decide_eq_true (by have:=hB z hz;omega)
  rw [e1]
  simp only [Bool.false_eq_true,if_false]
  rw [e2]
 rw [e]
 unfold eu eE
 rw [List.foldl_append,jl A [] hA,List.nil_append]
 match B,hB with
 |[],_=>simp
 |b::B,hB=>
  have hb:=hB b List.mem_cons_self
  rw [List.foldl_cons,zA rfl (decide_eq_true (by omega)) (decide_eq_true (by omega)),kY B _ fun z hz=>hB z (List.mem_cons_of_mem _ hz)]
  simp
theorem Dy {L Lz:List N3} {m:Mb} {no:Int} (h:RK L) (hm:m∈ae L) (e:nds Lz=nD (nds L) m.1) (hz:bP (ae Lz) no=true):kN Lz m no=0∧(wB Lz m no).length=L.length:=by
 have e:nds Lz=nds (eZ L m.1):=e.trans (qT L m.1).symm
 have hk:RK Lz:=r4 e.symm (t6 h m.1)
 have hmay:dI m=true:=fK.2 (h.rs.ring.nos m hm)
 have hok:q5 Lz m=true:=by unfold q5;rw [hk.ov,hmay];rfl
 have hin:∀ x∈Lz,∃ y∈L,y.1=x.1∧y.1.me.1≠m.1:=fun x hx=>by
  have:x.1∈nds (eZ L m.1):=by rw [← e];exact List.mem_map.2 ⟨x,hx,rfl⟩
  obtain ⟨y,hy,h1⟩:=List.mem_map.1 this
  have h2:=List.mem_filter.1 hy
  exact ⟨y,h2.1,h1,of_decide_eq_true h2.2⟩
 have hT:sJ Lz m=false:=Ct (Nat.le_refl _) fun k hkl=>by
  obtain ⟨y,hy,h1,h2⟩:=hin _ (bj hkl)
  refine Al (j:=(aH (Lz.getD k z3).1).length) (decide_eq_false (by rw [← h1];exact h2)) (decide_eq_false ?_) (Nat.le_refl _) fun i hi=>?_
  ·rw [← h1]
   exact fun h9=>h2 (by rw [h.rs.ring.id (mh hy) hm h9])
  ·unfold jj
   cases hc:decide (((aH (Lz.getD k z3).1).getD i ap).1=m.1) with
   |false=>rfl
   |true=>
    have h3:=h.kn y hy _ (by rw [h1];exact dx hi) m hm (of_decide_eq_true hc).symm
    rw [decide_eq_true h3.symm];rfl
 have hE:sT Lz m no=0:=wq hT (.inr hz)
 refine ⟨by unfold kN;rw [hok];exact hE,?_⟩
 unfold wB zl
 rw [hok,decide_eq_true hE]
 show (gH (nds Lz) _).length=_
 rw [e,← eX (eZ L m.1) ((⟨m,c4,[zt Lz m no],[]⟩:Nd),aU,aU)]
 obtain ⟨y,hy,hme⟩:=List.mem_map.1 hm
 have:=uu h.rs (x:=((⟨m,c4,[zt Lz m no],[]⟩:Nd),aU,aU)) hy hme
 unfold nds
 rw [List.length_map];exact this
end Go.Proofs.YthggibfkgofncaaGreat
namespace Go.Proofs.YthggibfkgofncaaGreat
open Go.RowKit Go.ChangeShapes Go.WideShapes Go.ChangeAt
theorem vN {H:Type} {enc:TypeId × Value→H} {P:Program} {W:World} {tm ts t tn ti e:TypeId} {g0 g1 g2 g3 f0 f1:Field} {fuel:Nat} {cs:List Value} {x:DataW H × List MemPlace} (T:IdTy P ti e) (hc:P.cellsOf ti=32) (hce:P.cellsOf e=1) (hn:P.underlying tn=some (.int .i64)) (hcn:P.cellsOf tn=1)
 (hcs:P.cellsOf ts=1) (hts:P.underlying ts=some (.slice t)) (ht:P.underlying t=some (.struct #[f0,f1])) (h0:f0.type=tn) (h1:f1.type=ti) (o0:f0.offset=0) (o1:f1.offset=1) (hct:P.cellsOf t=33)
 (htm:P.underlying tm=some (.struct #[g0,g1,g2,g3])) (ht0:g0.type=t) (ht1:g1.type=t) (ht2:g2.type=ts) (ht3:g3.type=ts) (ho0:g0.offset=0) (ho1:g1.offset=33) (ho2:g2.offset=66) (ho3:g3.offset=67) (hctm:P.cellsOf tm=68)
 (hf:DataW.trod enc P W 0 (fun _=>true) true fuel tm cs=some x):∃ y:N3,cs=mw y∧mP W y:=by
 obtain ⟨xs,n,hcells,_,hl,hxl,hel⟩:=DataW.trod_struct htm hf
 have hcl:cs.length=68:=by rw [← hctm];simpa using hl
 have hx4:xs.length=4:=by simpa using hxl
 have e0:=hel 0 g0 rfl
 have e1:=hel 1 g1 rfl
 have e2:=hel 2 g2 rfl
 have e3:=hel 3 g3 rfl
 rw [ht0,ho0,hct,List.getElem?_eq_getElem (by omega)] at e0
 rw [ht1,ho1,hct,List.getElem?_eq_getElem (by omega)] at e1
 rw [ht2,ho2,hcs,List.getElem?_eq_getElem (by omega)] at e2
 rw [ht3,ho3,hcs,List.getElem?_eq_getElem (by omega)] at e3
 obtain ⟨a,ha⟩:=fp T hc hce hn hcn ht h0 h1 o0 o1 hct e0
 obtain ⟨b,hb⟩:=fp T hc hce hn hcn ht h0 h1 o0 o1 hct e1
 obtain ⟨u,ls,hu,hls⟩:=g6 T hc hce hn hcn hts ht h0 h1 o0 o1 hct e2
 obtain ⟨u2,ls2,hu2,hls2⟩:=g6 T hc hce hn hcn hts ht h0 h1 o0 o1 hct e3
 exact ⟨(⟨a,b,ls,ls2⟩,u,u2),rW hcl ha hb hu hu2,hls,hls2⟩
theorem sf {H:Type} {enc:TypeId × Value→H} {P:Program} {W:World} {tr tm ts t tn ti e:TypeId} {g0 g1 g2 g3 f0 f1:Field} {fuel:Nat} {cs:List Value} {x:DataW H × List MemPlace} (T:IdTy P ti e) (hc:P.cellsOf ti=32) (hce:P.cellsOf e=1) (hn:P.underlying tn=some (.int .i64)) (hcn:P.cellsOf tn=1)
 (hcs:P.cellsOf ts=1) (hts:P.underlying ts=some (.slice t)) (ht:P.underlying t=some (.struct #[f0,f1])) (h0:f0.type=tn) (h1:f1.type=ti) (o0:f0.offset=0) (o1:f1.offset=1) (hct:P.cellsOf t=33)
 (htm:P.underlying tm=some (.struct #[g0,g1,g2,g3])) (ht0:g0.type=t) (ht1:g1.type=t) (ht2:g2.type=ts) (ht3:g3.type=ts) (ho0:g0.offset=0) (ho1:g1.offset=33) (ho2:g2.offset=66) (ho3:g3.offset=67) (hctm:P.cellsOf tm=68)
 (htr:P.underlying tr=some (.slice tm)) (hf:DataW.trod enc P W 0 (fun _=>true) true fuel tr cs=some x):∃ (v:Value) (L:List N3),cs=[v]∧cI W v L:=by
 rcases Go.Deep.open_slice htr hf with ⟨hcs9,_⟩|⟨a',len,cap,m,k,D,Pl,hcs9,_,hl,_,hm,_,hel⟩
 ·exact ⟨_,[],hcs9,⟨rfl,.inl ⟨rfl,rfl⟩⟩,fun _ h=>by cases h⟩
 ·have hml:len≤m:=by rw [hm];split<;>omega
  have each:∀ i,∃ l:N3,i<len→bq W (a'.add (i*68)) (au l.1.me l.1.pr l.2.1 l.2.2)∧mP W l:=fun i=>by
   by_cases hi:i<len
   ·obtain ⟨cs',hc1,hc2⟩:=hel i (by omega)
    obtain ⟨l,hl9,hr⟩:=vN T hc hce hn hcn hcs hts ht h0 h1 o0 o1 hct htm ht0 ht1 ht2 ht3 ho0 ho1 ho2 ho3 hctm hc2
    subst hl9
    refine ⟨l,fun _=>⟨fun j u hj=>?_,hr⟩⟩
    rw [hctm] at hc1
    obtain ⟨_,hlen,hall⟩:=World.cells?_some hc1
    have hj68:j<68:=by have:=(Array.getElem?_eq_some_iff.1 hj).1;rw [aw] at this;exact this
    have:=hall j hj68
    rw [this]
    show (mw l)[j]? = _
    rw [show mw l=(au l.1.me l.1.pr l.2.1 l.2.2).toList from rfl,Array.getElem?_toList];exact hj
   ·exact ⟨z3,fun h9=>absurd h9 hi⟩
  obtain ⟨L,hL⟩:=Classical.axiomOfChoice each
  refine ⟨_,(List.range len).map L,hcs9,⟨?_,.inr ⟨a',cap,by simp,by simpa using hl,?_⟩⟩,fun y hy=>?_⟩
  ·rw [fy]
  ·refine fW _ 68 (by decide) fI _ fun i hi=>?_
   have hi':i<len:=by simpa using hi
   have h9:((List.range len).map L)[i]=L i:=by simp
   rw [h9]
   exact(hL i hi').1
  ·obtain ⟨i,hi,rfl⟩:=List.mem_map.1 hy
   exact(hL i (List.mem_range.1 hi)).2
theorem xO {H:Type} {enc:TypeId × Value→H} {P:Program} {W:World} {r:Reach} {b0:Nat} {to tr tm ts t tn ti e:TypeId} {k0 g0 g1 g2 g3 f0 f1:Field} {v:Value} {d:DataW H} {ps:List MemPlace} (T:IdTy P ti e) (hc:P.cellsOf ti=32) (hce:P.cellsOf e=1) (hn:P.underlying tn=some (.int .i64)) (hcn:P.cellsOf tn=1)
 (hcs:P.cellsOf ts=1) (hts:P.underlying ts=some (.slice t)) (ht:P.underlying t=some (.struct #[f0,f1])) (h0:f0.type=tn) (h1:f1.type=ti) (o0:f0.offset=0) (o1:f1.offset=1) (hct:P.cellsOf t=33)
 (htm:P.underlying tm=some (.struct #[g0,g1,g2,g3])) (ht0:g0.type=t) (ht1:g1.type=t) (ht2:g2.type=ts) (ht3:g3.type=ts) (ho0:g0.offset=0) (ho1:g1.offset=33) (ho2:g2.offset=66) (ho3:g3.offset=67) (hctm:P.cellsOf tm=68)
 (htr:P.underlying tr=some (.slice tm)) (hcr:P.cellsOf tr=1) (hto:P.underlying to=some (.struct #[k0])) (hk0:k0.type=tr) (ok0:k0.offset=0) (hcto:P.cellsOf to=1)
 (hval:Value.okWide P W r b0 to v) (h:DataW.Trod enc P W 0 (fun _=>true) true to v d ps):∃ (L:List N3) (vo:Value),v=.agg #[vo]∧cI W vo L:=by
 have hv:∃ cs,v=.agg cs:=by
  unfold Value.okWide at hval
  simp only [hto] at hval
  obtain ⟨cs,h9,_⟩:=hval
  exact ⟨cs,h9⟩
 obtain ⟨cs,rfl⟩:=hv
 obtain ⟨fuel,hf⟩:=h
 obtain ⟨xs,n,hcells,_,hl,hxl,hel⟩:=DataW.trod_struct hto hf
 have hcl:cs.toList.length=1:=by rw [← hcto];simpa [Value.cells] using hl
 have hx1:xs.length=1:=by simpa using hxl
 have e0:=hel 0 k0 rfl
 rw [hk0,ok0,hcr,List.getElem?_eq_getElem (by omega)] at e0
 obtain ⟨u,L,hu,hL⟩:=sf T hc hce hn hcn hcs hts ht h0 h1 o0 o1 hct htm ht0 ht1 ht2 ht3 ho0 ho1 ho2 ho3 hctm htr e0
 refine ⟨L,u,?_,hL⟩
 simp only [Value.cells] at hu
 have key:cs.toList=[u]:=by
  rw [List.drop_zero,List.take_of_length_le (by omega)] at hu
  exact hu
 have:cs=#[u]:=Array.toList_inj.1 key
 rw [this]
end Go.Proofs.YthggibfkgofncaaGreat
