/- Overlays: rows of nodes, each with its rows: which may be, which are stable, what tending, coming, leaving and failing make of them, that what may be stays such; overlays that come in; no Go in it. -/
import Derived.Test.YthggibfkgofncaaGreatNd
set_option linter.unusedVariables false
set_option linter.unusedSimpArgs false
set_option linter.unusedSectionVars false
namespace Go.Proofs.YthggibfkgofncaaGreat
open Go.RowKit
theorem u5 {a b:Nd} (h1:a.me=b.me) (h2:a.pr=b.pr) (h3:a.sc=b.sc) (h4:a.fg=b.fg):a=b:=by cases a;cases b;simp_all
instance:DecidableEq Nd:=fun a b=>
 if h:a.me=b.me∧a.pr=b.pr∧a.sc=b.sc∧a.fg=b.fg then .isTrue (u5 h.1 h.2.1 h.2.2.1 h.2.2.2) else .isFalse fun e=>h (by subst e;exact ⟨rfl,rfl,rfl,rfl⟩)
theorem qO (a b:Nd):eG a b=decide (a=b):=by
 by_cases h:a=b
 ·rw [decide_eq_true h];exact zt h
 ·rw [decide_eq_false h,← Bool.not_eq_true]
  intro h9
  unfold eG at h9
  simp only [Bool.and_eq_true,decide_eq_true_eq] at h9
  exact h (u5 h9.1 h9.2.1 h9.2.2.1 h9.2.2.2)
def cf (w:World) (v:Value) (L:List N3):Prop:=bK w v 68 L.length (aK L)∧∀ x∈L,j4 w x
theorem j4.keep {w w':World} {x:N3} (h:j4 w x) (e:Ext w w'):j4 w' x:=⟨h.1.keep e,h.2.keep e⟩
theorem cf.keep {w w':World} {v:Value} {L:List N3} (h:cf w v L) (e:Ext w w'):cf w' v L:=⟨h.1.keep e,fun x hx=>(h.2 x hx).keep e⟩
abbrev nds (L:List N3):List Nd:=L.map (·.1)
theorem mq {L:List N3} {j:Nat} (hj:j<L.length):L[j]=L.getD j z3:=by rw [List.getD_eq_getElem?_getD,List.getElem?_eq_getElem hj];rfl
theorem bh {L:List N3} {j:Nat} (hj:j<L.length):L.getD j z3∈L:=by rw [← mq hj];exact List.getElem_mem hj
theorem oV {L:List N3} {x:N3} (h:x∈L):∃ j,j<L.length∧L.getD j z3=x:=by
 obtain ⟨j,hj,rfl⟩:=List.mem_iff_getElem.1 h
 exact ⟨j,hj,(mq hj).symm⟩
theorem iy {L:List N3} {k:Nat} (h:k<L.length):L.take (k+1)=L.take k++[L.getD k z3]:=by rw [List.take_succ_eq_append_getElem h,mq h]
theorem kF (L:List N3):(aK L).length=L.length*68:=eM _ 68 fR L
theorem hN (L K:List N3):aK (L++K)=aK L++aK K:=List.flatMap_append
theorem fW (x:N3):([Value.agg (aD x.1.me x.1.pr x.2.1 x.2.2)].flatMap fun v=>v.cells.toList)=mv x:=by simp [Value.cells,mv,aD]
theorem fh (L:List N3) (x:N3):aK L++mv x=aK (L++[x]):=by rw [hN];simp [aK]
theorem gA {x:N3} (h1:x.2.1.oneCell'=true) (h2:x.2.2.oneCell'=true):∀ u∈([Value.agg (aD x.1.me x.1.pr x.2.1 x.2.2)].flatMap fun v=>v.cells.toList),u.oneCell'=true:=by rw [fW];exact bW h1 h2
theorem fc (x:N3):∀ v∈([Value.agg (aD x.1.me x.1.pr x.2.1 x.2.2)]:List Value),v.cells.size=68:=fun v hv=>by rw [List.mem_singleton] at hv;subst hv;exact aA _ _ _ _
theorem j4.ones {w:World} {x:N3} (h:j4 w x):x.2.1.oneCell'=true∧x.2.2.oneCell'=true:=⟨cx h.1,cx h.2⟩
theorem yU {w:World} {v:Value} {L:List N3} (h:bK w v 68 L.length (aK L)) (k:Nat) (hk:k≤L.length):bK w (gb v k) 68 (L.take k).length (aK (L.take k)):=by
 have:=h.cut k hk
 unfold aK at this
 rw [ja _ 68 fR] at this
 rw [List.length_take,Nat.min_eq_left hk]
 exact this
theorem lS (L:List N3) (j:Nat) (hj:j<L.length):(aK L)[j*68+0]? = some (.int .i64 (L.getD j z3).1.me.1):=by
 have h1:=congrArg (fun a:Array Value=>a[0]?) (c6 L j hj)
 simp only [bY] at h1
 rw [← h1];simp
theorem cf.take {w:World} {v:Value} {L:List N3} (h:cf w v L) (k:Nat) (hk:k≤L.length):cf w (gb v k) (L.take k):=⟨yU h.1 k hk,fun x hx=>h.2 x (List.mem_of_mem_take hx)⟩
theorem c1 (w:World):cf w bo []:=⟨⟨rfl,.inl ⟨rfl,rfl⟩⟩,fun _ h=>by cases h⟩
theorem cj {v:Value} (h:v.oneCell'=true):∀ u∈(#[v]:Array Value).toList,u.oneCell'=true:=fun u hu=>by
 have:u∈[v]:=hu
 rw [List.mem_singleton] at this;rw [this];exact h
def BO:List (List Value):=[[.slice none 0 0]]
theorem bM {P:Program} {ρ:Operand→Value} {d:Option Tmp} {ty:TypeId} {pos:String} {af:Array Edge} {g:Option (Nat × Bool)} {t:TypeId} (S:Stt P t BO):bR P ⟨d,.build t #[],ty,pos,af,g⟩ ρ (.agg #[bo]):=
 eu (parts:=#[]) S [] (by simp) (fun i v hm=>by simp at hm) (D:=[bo]) rfl
theorem St.weak {w0 w:World} {ks:List Nat} {S S':World→Prop} {B:List Own} (s:St w0 (.grp ks S::B) w) (h:∀ w',S w'→S' w'):St w0 (.grp ks S'::B) w:=by
 refine ⟨s.ext,fun p hp=>?_,fun p hp k hk=>?_,?_⟩
 ·rcases List.mem_cons.1 hp with rfl|hp
  ·have h0:=s.has _ List.mem_cons_self
   exact ⟨h0.1,fun w' hw=>h w' (h0.2 w' hw)⟩
  ·exact s.has p (List.mem_cons_of_mem _ hp)
 ·rcases List.mem_cons.1 hp with rfl|hp
  ·exact s.own _ List.mem_cons_self k hk
  ·exact s.own p (List.mem_cons_of_mem _ hp) k hk
 ·have hpw:=List.pairwise_cons.1 s.nd
  exact List.pairwise_cons.2 ⟨fun q hq k hk=>hpw.1 q hq k hk,hpw.2⟩
theorem St.getG {w0 w:World} {ks:List Nat} {S:World→Prop} {B:List Own} (s:St w0 B w) (i:Nat) (hi:B[i]? = some (.grp ks S)):S w:=(s.has _ (List.mem_of_getElem? hi)).2 w fun _ _=>rfl
def yd (w:World) (R:World→Prop) (E:List Nd):cQ:=fun v w'=>∃ vo L ks,v=.agg #[vo]∧nds L=E∧St w [.grp ks fun w9=>R w9→cf w9 vo L] w'
abbrev fN (L:List N3):World→Prop:=fun w9=>∀ x∈L,j4 w9 x
theorem xo {w w':World} {B:List Own} {R:World→Prop} (s:St w B w'):yd w R [] (.agg #[bo]) w':=by
 refine ⟨bo,[],_,rfl,rfl,(St.group (A:=[]) (B:=[]) (s.pick [] (List.nil_sublist _))).weak fun w9 _ _=>c1 w9⟩
abbrev aN (L:List N3):List Mb:=L.map (·.1.me)
def aS (n:Nd):List Mb:=n.pr::(n.sc++n.fg)
def cw (l:List Mb) (no:Int):Bool:=decide ((fm l no).1=no) && decide (0≤no)
theorem m3 {l:List Mb} {no:Int} (hn:∀ m∈l,0≤m.1):cw l no=true↔∃ m∈l,m.1=no:=by
 unfold cw fm
 rw [Bool.and_eq_true,decide_eq_true_eq,decide_eq_true_eq]
 rcases xF (l:=l) (no:=no) with h|⟨m,h,hm,hno⟩
 ·rw [h]
  constructor
  ·rintro ⟨h1,h2⟩
   have h1:(-1:Int)=no:=h1
   omega
  ·rintro ⟨m,hm,hno⟩
   exact absurd (decide_eq_true hno) (List.find?_eq_none.1 h m hm)
 ·rw [h]
  exact ⟨fun _=>⟨m,hm,hno⟩,fun _=>⟨hno,by have:=hn m hm;omega⟩⟩
def BV:Nd:=⟨d5,a8,[],[]⟩
def Bu:N3:=(BV,bo,bo)
def ax (L:List N3) (no:Int):N3:=(L.find? fun x=>decide (x.1.me.1=no)).getD Bu
theorem tN {L:List N3} {no:Int} {k:Nat} (hk:k<L.length) (h:∀ j,j<k→decide ((L.getD j z3).1.me.1=no)=false) (he:decide ((L.getD k z3).1.me.1=no)=true):ax L no=L.getD k z3:=by
 unfold ax
 have:L.find? (fun x=>decide (x.1.me.1=no))=some (L.getD k z3):=by
  rw [List.find?_eq_some_iff_getElem]
  refine ⟨he,k,hk,mq hk,fun j hj=>?_⟩
  rw [mq (by omega),h j hj];rfl
 rw [this];rfl
theorem t2 {L:List N3} {no:Int} {k:Nat} (hk:L.length≤k) (h:∀ j,j<k→decide ((L.getD j z3).1.me.1=no)=false):ax L no=Bu:=by
 unfold ax
 have:L.find? (fun x=>decide (x.1.me.1=no))=none:=by
  rw [List.find?_eq_none]
  intro x hx
  obtain ⟨j,hj,rfl⟩:=oV hx
  rw [h j (by omega)];decide
 rw [this];rfl
theorem zp (w:World):j4 w Bu:=⟨ip w,ip w⟩
theorem kp {w:World} {L:List N3} (h:∀ x∈L,j4 w x) (no:Int):j4 w (ax L no):=by
 unfold ax
 cases hf:L.find? fun x=>decide (x.1.me.1=no) with
 |none=>exact zp w
 |some x=>exact h x (List.mem_of_find?_eq_some hf)
def kQ (L:List N3) (no:Int):List N3:=L.filter fun x=>decide (x.1.me.1≠no)
def xA (E:List Nd) (no:Int):List Nd:=E.filter fun x=>decide (x.me.1≠no)
theorem y6 (L:List N3) (no:Int):(kQ L no).length≤L.length:=List.length_filter_le _ _
theorem yB {L:List N3} {no:Int} {k:Nat} (hk:k<L.length) (h:decide ((L.getD k z3).1.me.1≠no)=true):kQ (L.take (k+1)) no=kQ (L.take k) no++[L.getD k z3]:=by
 unfold kQ;rw [iy hk,List.filter_append,List.filter_cons,h];rfl
theorem xW {L:List N3} {no:Int} {k:Nat} (hk:k<L.length) (h:decide ((L.getD k z3).1.me.1≠no)=false):kQ (L.take (k+1)) no=kQ (L.take k) no:=by
 unfold kQ;rw [iy hk,List.filter_append,List.filter_cons,h];simp
def eJ (x:N3) (p:List N3 × Bool) (y:N3):List N3 × Bool:=
 let q:=bif !p.2 && decide (x.1.me.1≤y.1.me.1) then (p.1++[x],true) else p
 bif decide (y.1.me.1≠x.1.me.1) then (q.1++[y],q.2) else q
def dg (x:N3) (L:List N3):List N3 × Bool:=L.foldl (eJ x) ([],false)
def fA (L:List N3) (x:N3):List N3:=bif (dg x L).2 then (dg x L).1 else (dg x L).1++[x]
theorem j1 {x:N3} {L:List N3} {k:Nat} (hk:k<L.length):dg x (L.take (k+1))=eJ x (dg x (L.take k)) (L.getD k z3):=by
 unfold dg;rw [iy hk,List.foldl_append];rfl
theorem sY (x:N3) (p:List N3 × Bool) (y:N3):(eJ x p y).1.length≤p.1.length+2:=by
 unfold eJ
 cases !p.2 && decide (x.1.me.1≤y.1.me.1)<;>cases decide (y.1.me.1≠x.1.me.1)<;>simp
theorem rm (x:N3):∀ L:List N3,(dg x L).1.length≤2*L.length:=fun L=>by
 unfold dg
 suffices h:∀ (L:List N3) (p:List N3 × Bool),(L.foldl (eJ x) p).1.length≤p.1.length+2*L.length by
  have:=h L ([],false);simpa using this
 intro L
 induction L with
 |nil=>intro p;simp
 |cons y L ih=>
  intro p
  have h1:=ih (eJ x p y)
  have h2:=sY x p y
  rw [List.foldl_cons,List.length_cons];omega
theorem vX {x:N3} {p:List N3 × Bool} {y z:N3} (h:z∈(eJ x p y).1):z∈p.1∨z=x∨z=y:=by
 unfold eJ at h
 have key:∀ q:List N3 × Bool,(z∈q.1→z∈p.1∨z=x∨z=y)→z∈(bif decide (y.1.me.1≠x.1.me.1) then (q.1++[y],q.2) else q).1→z∈p.1∨z=x∨z=y:=fun q hq h=>by
  cases h2:decide (y.1.me.1≠x.1.me.1) with
  |true=>
   rw [h2] at h
   rcases List.mem_append.1 h with h|h
   ·exact hq h
   ·exact .inr (.inr (List.mem_singleton.1 h))
  |false=>rw [h2] at h;exact hq h
 refine key _ (fun h=>?_) h
 cases h1 : !p.2 && decide (x.1.me.1≤y.1.me.1) with
 |true=>
  rw [h1] at h
  rcases List.mem_append.1 h with h|h
  ·exact .inl h
  ·exact .inr (.inl (List.mem_singleton.1 h))
 |false=>rw [h1] at h;exact .inl h
theorem rk {x z:N3}:∀ {L:List N3},z∈(dg x L).1→z=x∨z∈L:=fun {L}=>by
 unfold dg
 suffices h:∀ (L:List N3) (p:List N3 × Bool),z∈(L.foldl (eJ x) p).1→z∈p.1∨z=x∨z∈L by
  intro h9;rcases h L ([],false) h9 with h|h
  ·cases h
  ·exact h
 intro L
 induction L with
 |nil=>intro p h;exact .inl h
 |cons y L ih=>
  intro p h
  rcases ih _ h with h|h|h
  ·rcases vX h with h|h|h
   ·exact .inl h
   ·exact .inr (.inl h)
   ·exact .inr (.inr (by rw [h];exact List.mem_cons_self))
  ·exact .inr (.inl h)
  ·exact .inr (.inr (List.mem_cons_of_mem _ h))
theorem qw {x z:N3} {L:List N3} (h:z∈fA L x):z=x∨z∈L:=by
 unfold fA at h
 cases hb:(dg x L).2 with
 |true=>rw [hb] at h;exact rk h
 |false=>
  rw [hb] at h
  rcases List.mem_append.1 h with h|h
  ·exact rk h
  ·exact .inl (List.mem_singleton.1 h)
theorem lF {w:World} {x:N3} {L:List N3} (h:∀ y∈L,j4 w y) (hx:j4 w x):∀ y∈fA L x,j4 w y:=fun y hy=>by
 rcases qw hy with rfl|hy
 ·exact hx
 ·exact h y hy
def nl (x:Nd) (p:List Nd × Bool) (y:Nd):List Nd × Bool:=
 let q:=bif !p.2 && decide (x.me.1≤y.me.1) then (p.1++[x],true) else p
 bif decide (y.me.1≠x.me.1) then (q.1++[y],q.2) else q
def oJ (x:Nd) (E:List Nd):List Nd × Bool:=E.foldl (nl x) ([],false)
def hU (E:List Nd) (x:Nd):List Nd:=bif (oJ x E).2 then (oJ x E).1 else (oJ x E).1++[x]
theorem xv (x:N3) (p:List N3 × Bool) (y:N3):nl x.1 (nds p.1,p.2) y.1=(nds (eJ x p y).1,(eJ x p y).2):=by
 unfold nl eJ
 cases p with
 |mk l b=>
  cases b<;>by_cases h1:x.1.me.1≤y.1.me.1<;>by_cases h2:y.1.me.1=x.1.me.1<;>simp [h1,h2,nds]
theorem xI (x:N3) (L:List N3):oJ x.1 (nds L)=(nds (dg x L).1,(dg x L).2):=by
 unfold oJ dg
 suffices h:∀ (L:List N3) (p:List N3 × Bool),(nds L).foldl (nl x.1) (nds p.1,p.2)=(nds (L.foldl (eJ x) p).1,(L.foldl (eJ x) p).2) from h L ([],false)
 intro L
 induction L with
 |nil=>intro p;rfl
 |cons y L ih=>
  intro p
  show (nds L).foldl (nl x.1) (nl x.1 (nds p.1,p.2) y.1)=_
  rw [xv,ih];rfl
theorem jc (L:List N3) (x:N3):nds (fA L x)=hU (nds L) x.1:=by
 unfold fA hU
 rw [xI]
 cases (dg x L).2 with
 |true=>rfl
 |false=>show nds ((dg x L).1++[x])=nds (dg x L).1++[x.1];simp [nds]
theorem xO {x:N3} {p:List N3 × Bool} {y:N3} (hb:p.2=false) (h1:decide (x.1.me.1≤y.1.me.1)=true) (h2:decide (y.1.me.1≠x.1.me.1)=true):eJ x p y=((p.1++[x])++[y],true):=by unfold eJ;rw [hb,h1,h2];rfl
theorem xR {x:N3} {p:List N3 × Bool} {y:N3} (hb:p.2=false) (h1:decide (x.1.me.1≤y.1.me.1)=true) (h2:decide (y.1.me.1≠x.1.me.1)=false):eJ x p y=(p.1++[x],true):=by unfold eJ;rw [hb,h1,h2];rfl
theorem qI {x:N3} {p:List N3 × Bool} {y:N3} (h:p.2=true∨decide (x.1.me.1≤y.1.me.1)=false) (h2:decide (y.1.me.1≠x.1.me.1)=true):eJ x p y=(p.1++[y],p.2):=by
 have h1:(!p.2 && decide (x.1.me.1≤y.1.me.1))=false:=by rcases h with h|h<;>simp [h]
 unfold eJ;rw [h1,h2];rfl
theorem xU {x:N3} {p:List N3 × Bool} {y:N3} (h:p.2=true∨decide (x.1.me.1≤y.1.me.1)=false) (h2:decide (y.1.me.1≠x.1.me.1)=false):eJ x p y=p:=by
 have h1:(!p.2 && decide (x.1.me.1≤y.1.me.1))=false:=by rcases h with h|h<;>simp [h]
 unfold eJ;rw [h1,h2];rfl
def lG (E F:List Nd):Bool:=decide (E=F)
theorem rV {E F:List Nd} (h:¬ E.length=F.length):lG E F=false:=decide_eq_false fun e=>h (by rw [e])
theorem tz {L K:List N3} {k:Nat} (hk:k<L.length) (hk2:k<K.length) (h:eG (L.getD k z3).1 (K.getD k z3).1=false):lG (nds L) (nds K)=false:=by
 refine decide_eq_false fun e=>?_
 rw [qO] at h
 refine of_decide_eq_false h ?_
 have h1:(nds L)[k]? = (nds K)[k]? := by rw [e]
 unfold nds at h1
 rw [List.getElem?_map,List.getElem?_map,List.getElem?_eq_getElem hk,List.getElem?_eq_getElem hk2,mq hk,mq hk2] at h1
 simpa using h1
theorem si {L K:List N3} (hl:L.length=K.length) (h:∀ j,j<L.length→eG (L.getD j z3).1 (K.getD j z3).1=true):lG (nds L) (nds K)=true:=by
 refine decide_eq_true ?_
 unfold nds
 apply List.ext_getElem
 ·simpa using hl
 ·intro i h1 h2
  have h1:i<L.length:=by simpa using h1
  have h2:i<K.length:=by simpa using h2
  have h3:=h i h1
  rw [qO] at h3
  rw [List.getElem_map,List.getElem_map,mq h1,mq h2]
  exact of_decide_eq_true h3
def gX (x:N3):N3:=(⟨x.1.me,x.1.pr,x.1.sc.take (min x.1.sc.length 6),x.1.fg.take (min x.1.fg.length 18)⟩,gb x.2.1 (min x.1.sc.length 6),gb x.2.2 (min x.1.fg.length 18))
theorem nY {w:World} {x:N3} (h:j4 w x):j4 w (gX x):=⟨eO h.1 _ (Nat.min_le_left _ _),eO h.2 _ (Nat.min_le_left _ _)⟩
theorem nc {L:List N3} {k:Nat} (hk:k<L.length):(L.take (k+1)).map gX=(L.take k).map gX++[gX (L.getD k z3)]:=by rw [iy hk,List.map_append];rfl
theorem sX {w:World} {L:List N3} (h:∀ x∈L,j4 w x):∀ x∈L.map gX,j4 w x:=fun x hx=>by
 obtain ⟨y,hy,rfl⟩:=List.mem_map.1 hx
 exact nY (h y hy)
structure FewO (L:List N3):Prop where
 len:L.length≤18
 each:∀ x∈L,x.1.sc.length≤6∧x.1.fg.length≤18
theorem wR (L:List N3):FewO ((L.take (min L.length 18)).map gX):=by
 refine ⟨by rw [List.length_map,List.length_take];omega,fun x hx=>?_⟩
 obtain ⟨y,_,rfl⟩:=List.mem_map.1 hx
 refine ⟨?_,?_⟩
 ·show (y.1.sc.take _).length≤6;rw [List.length_take];omega
 ·show (y.1.fg.take _).length≤18;rw [List.length_take];omega
end Go.Proofs.YthggibfkgofncaaGreat
namespace Go.Proofs.YthggibfkgofncaaGreat
open Go.RowKit
theorem Bo {l:List Mb} {no:Int} (h:decide ((fm l no).1=no)=false):cw l no=false:=by unfold cw;rw [h];rfl
theorem BD {l:List Mb} {no:Int} (h:decide ((fm l no).1=no)=true):cw l no=decide (0≤no):=by unfold cw;rw [h];rfl
theorem x3 {L:List N3} {x:N3} (h:(dg x L).2=true):fA L x=(dg x L).1:=by unfold fA;rw [h];rfl
theorem x6 {L:List N3} {x:N3} (h:(dg x L).2=false):fA L x=(dg x L).1++[x]:=by unfold fA;rw [h];rfl
theorem jE {L:List N3} {k:Nat} (hk:k<L.length):aN (L.take (k+1))=aN (L.take k)++[(L.getD k z3).1.me]:=by unfold aN;rw [iy hk,List.map_append];rfl
section
variable {P:Program} {ρ:Operand→Value} {d:Option Tmp} {ty:TypeId} {pos:String} {af:Array Edge} {g:Option (Nat × Bool)} {x:Operand} {t:TypeId}
theorem oh {m:Mb} (S:Stt P t A1) (hx:ρ x=.agg (au m)):bR P ⟨d,.build t #[(0,x)],ty,pos,af,g⟩ ρ (.agg (aD m a8 bo bo)):=by
 have:=eu (P:=P) (ρ:=ρ) (d:=d) (ty:=ty) (pos:=pos) (af:=af) (g:=g) (parts:=#[(0,x)]) S [(0,.agg (au m))] (by simp [hx]) (fun i u hm=>by
  simp only [List.mem_cons,Prod.mk.injEq,List.not_mem_nil,or_false] at hm
  obtain ⟨rfl,rfl⟩:=hm
  exact ⟨_,rfl,by show (au m).size=_;rw [ak];rfl⟩) (D:=ju m a8 bo bo) (by
   show (au m).toList++((Value.int .i64 0::List.replicate 32 (Value.int .u8 0))++([bo]++([bo]++[])))=_
   rw [← lY];rfl)
 exact this
end
def zT (w:World) (N:TypeId) (K:List N3):cQ:=fun v w'=>∃ vo,v=.agg #[vo]∧cN w' w.heap.size N 68 vo K.length (aK K)
theorem nQ {w w':World} {N:TypeId} {K L:List N3} {vo:Value} (h:K=L) (hO:cN w' w.heap.size N 68 vo L.length (aK L)):zT w N K (.agg #[vo]) w':=by subst h;exact ⟨vo,rfl,hO⟩
end Go.Proofs.YthggibfkgofncaaGreat
namespace Go.Proofs.YthggibfkgofncaaGreat
open Go.RowKit
structure RwB (L:List N3):Prop where
 each:∀ x∈L,x.1.sc.length≤300∧x.1.fg.length≤300
theorem FewO.rb {L:List N3} (h:FewO L):RwB L:=⟨fun x hx=>by have:=h.each x hx;omega⟩
def iI (l:List Mb) (m:Mb):Bool:=decide (0≤(fm l m.1).1) && !decide (fm l m.1=m)
def gi (L:List N3) (k:Nat):Bool := !cM (L.getD k z3).1 || ((decide (0<k) && decide ((L.getD k z3).1.me.1≤(L.getD (k - 1) z3).1.me.1)) || (aS (L.getD k z3).1).any (iI (aN L)))
def fQ (L:List N3):Bool:=((List.range L.length).all fun k => !gi L k) && cY (aN L)
theorem jM {L:List N3} {k:Nat} (hk:k<L.length) (h:gi L k=true):fQ L=false:=by
 unfold fQ
 have:((List.range L.length).all fun k => !gi L k)=false:=by
  rw [← Bool.not_eq_true,List.all_eq_true]
  intro h9
  have:=h9 k (List.mem_range.2 hk)
  rw [h] at this;cases this
 rw [this];rfl
theorem xf {L:List N3} {k:Nat} (hk:L.length≤k) (h:∀ j,j<k→gi L j=false):fQ L=cY (aN L):=by
 unfold fQ
 have:((List.range L.length).all fun k => !gi L k)=true:=by
  rw [List.all_eq_true]
  intro j hj
  rw [h j (by have:=List.mem_range.1 hj;omega)];rfl
 rw [this];rfl
theorem BI {L:List N3} {k:Nat} (h:cM (L.getD k z3).1=false):gi L k=true:=by unfold gi;rw [h];rfl
theorem A3 {L:List N3} {k:Nat} (h:decide (0<k)=true) (h1:decide ((L.getD k z3).1.me.1≤(L.getD (k - 1) z3).1.me.1)=true):gi L k=true:=by unfold gi;rw [h,h1];simp
theorem Al {L:List N3} {k j:Nat} (hj:j<(aS (L.getD k z3).1).length) (h:iI (aN L) ((aS (L.getD k z3).1).getD j a8)=true):gi L k=true:=by
 unfold gi
 have:(aS (L.getD k z3).1).any (iI (aN L))=true:=List.any_eq_true.2 ⟨_,fB hj,h⟩
 rw [this];simp
theorem Au {L:List N3} {k j:Nat} (h:cM (L.getD k z3).1=true) (h1:decide (0<k)=false∨decide ((L.getD k z3).1.me.1≤(L.getD (k - 1) z3).1.me.1)=false) (hj:(aS (L.getD k z3).1).length≤j) (h2:∀ i,i<j→iI (aN L) ((aS (L.getD k z3).1).getD i a8)=false):gi L k=false:=by
 unfold gi
 have e1:(decide (0<k) && decide ((L.getD k z3).1.me.1≤(L.getD (k - 1) z3).1.me.1))=false:=by rcases h1 with h1|h1<;>rw [h1]<;>simp
 have e2:(aS (L.getD k z3).1).any (iI (aN L))=false:=by
  rw [List.any_eq_false]
  intro x hx
  obtain ⟨i,hi,rfl⟩:=hQ hx
  rw [h2 i (by omega)];decide
 rw [h,e1,e2];rfl
theorem Ae {l:List Mb} {m:Mb} (h:decide (0≤(fm l m.1).1)=false):iI l m=false:=by unfold iI;rw [h];rfl
theorem wE {l:List Mb} {m:Mb} (h:decide (0≤(fm l m.1).1)=true):iI l m = !decide (fm l m.1=m):=by unfold iI;rw [h];rfl
structure RO (E:List Nd):Prop where
 rn:∀ n∈E,RN n
 inc:E.Pairwise fun a b=>a.me.1<b.me.1
 kn:∀ n∈E,∀ m∈aS n,∀ s∈E,s.me.1=m.1→s.me=m
 ring:Rg (E.map (·.me))
theorem y2 {L:List N3} (h:∀ k,0<k→k<L.length→(L.getD (k - 1) z3).1.me.1<(L.getD k z3).1.me.1):∀ i j,i<j→j<L.length→(L.getD i z3).1.me.1<(L.getD j z3).1.me.1:=fun i j hij hj=>by
 induction j with
 |zero=>omega
 |succ j ih=>
  have h1:=h (j+1) (Nat.zero_lt_succ _) hj
  rw [Nat.add_sub_cancel] at h1
  by_cases e:i=j
  ·subst e;exact h1
  ·have:=ih (by omega) (by omega)
   omega
theorem ex {L:List N3} (h:fQ L=true):RO (nds L):=by
 unfold fQ at h
 rw [Bool.and_eq_true,List.all_eq_true] at h
 obtain ⟨h1,h2⟩:=h
 have hb:∀ k,k<L.length→gi L k=false:=fun k hk=>by have:=h1 k (List.mem_range.2 hk);simpa using this
 have hring:Rg ((nds L).map (·.me)):=by
  have:=(j3 _).1 h2
  unfold nds;rw [List.map_map];exact this
 have hall:∀ k,k<L.length→cM (L.getD k z3).1=true∧(0<k→(L.getD (k - 1) z3).1.me.1<(L.getD k z3).1.me.1)∧∀ m∈aS (L.getD k z3).1,iI (aN L) m=false:=fun k hk=>by
  have:=hb k hk
  unfold gi at this
  rw [Bool.or_eq_false_iff,Bool.or_eq_false_iff,List.any_eq_false] at this
  refine ⟨by simpa using this.1,fun h0=>?_,fun m hm=>by have:=this.2.2 m hm;simpa using this⟩
  have h9:=this.2.1
  rw [decide_eq_true h0,Bool.true_and,decide_eq_false_iff_not] at h9
  omega
 have hinc:(nds L).Pairwise fun a b=>a.me.1<b.me.1:=by
  unfold nds
  rw [List.pairwise_map,List.pairwise_iff_getElem]
  intro i j hi hj hij
  rw [mq hi,mq hj]
  exact y2 (fun k h0 hk=>(hall k hk).2.1 h0) i j hij hj
 refine ⟨fun n hn=>?_,hinc,fun n hn m hm s hs he=>?_,hring⟩
 ·obtain ⟨x,hx,rfl⟩:=List.mem_map.1 hn
  obtain ⟨k,hk,rfl⟩:=oV hx
  exact mn.1 (hall k hk).1
 ·obtain ⟨x,hx,rfl⟩:=List.mem_map.1 hn
  obtain ⟨k,hk,rfl⟩:=oV hx
  have h9:=(hall k hk).2.2 m hm
  unfold iI at h9
  have hs2:s.me∈aN L:=by
   obtain ⟨y,hy,rfl⟩:=List.mem_map.1 hs
   exact List.mem_map.2 ⟨y,hy,rfl⟩
  have hf:=rp ((j3 _).1 h2) hs2
  rw [he] at hf
  have hr:fm (aN L) m.1=s.me:=by unfold fm;rw [hf];rfl
  rw [hr] at h9
  have hnn:0≤s.me.1:=(((j3 _).1 h2).nos _ hs2).1
  rw [decide_eq_true hnn,Bool.true_and] at h9
  simpa using h9
end Go.Proofs.YthggibfkgofncaaGreat
namespace Go.Proofs.YthggibfkgofncaaGreat
theorem vv {p:Nat→Bool} {k:Nat} (h:∀ j,j<k→p j=true) (hk:p k=true):∀ j,j<k+1→p j=true:=fun j hj=>by
 by_cases e:j<k
 ·exact h j e
 ·obtain rfl:j=k:=by omega
  exact hk
end Go.Proofs.YthggibfkgofncaaGreat
namespace Go.Proofs.YthggibfkgofncaaGreat
open Go.RowKit
theorem rF {w w':World} {R:World→Prop} {E:List Nd} {vo:Value} {L:List N3} {A:List Own} (hE:nds L=E) (h:∀ w9,(∀ p∈A,p.holds w w9)→R w9→cf w9 vo L) (s:St w A w'):yd w R E (.agg #[vo]) w':=by
 refine ⟨vo,L,_,rfl,hE,(St.group (A:=A) (B:=[]) (by rw [List.append_nil];exact s)).weak fun w9 h9 hR=>h w9 h9 hR⟩
theorem xC {x:N3} {acc:List N3} {y:N3} (h:y.1.me.1<x.1.me.1):eJ x (acc,false) y=(acc++[y],false):=
 qI (.inr (decide_eq_false (by omega))) (decide_eq_true (by omega))
theorem wV {x:N3} {acc:List N3} {y:N3} (h:y.1.me.1=x.1.me.1):eJ x (acc,false) y=(acc++[x],true):=
 xR rfl (decide_eq_true (by omega)) (decide_eq_false (by omega))
theorem wY {x:N3} {acc:List N3} {y:N3} (h:x.1.me.1<y.1.me.1):eJ x (acc,true) y=(acc++[y],true):=
 qI (.inl rfl) (decide_eq_true (by omega))
theorem k8 {x:N3}:∀ (A acc:List N3),(∀ y∈A,y.1.me.1<x.1.me.1)→A.foldl (eJ x) (acc,false)=(acc++A,false)
 |[],acc,_=>by rw [List.append_nil];rfl
 |y::A,acc,h=>by
  rw [List.foldl_cons,xC (h y List.mem_cons_self),k8 A _ fun z hz=>h z (List.mem_cons_of_mem _ hz),List.append_assoc];rfl
theorem n8 {x:N3}:∀ (A acc:List N3),(∀ y∈A,x.1.me.1<y.1.me.1)→A.foldl (eJ x) (acc,true)=(acc++A,true)
 |[],acc,_=>by rw [List.append_nil];rfl
 |y::A,acc,h=>by
  rw [List.foldl_cons,wY (h y List.mem_cons_self),n8 A _ fun z hz=>h z (List.mem_cons_of_mem _ hz),List.append_assoc];rfl
theorem rf {A B:List N3} {x y:N3} (hA:∀ z∈A,z.1.me.1<x.1.me.1) (hy:y.1.me.1=x.1.me.1) (hB:∀ z∈B,x.1.me.1<z.1.me.1):fA (A++y::B) x=A++x::B:=by
 have:dg x (A++y::B)=(A++x::B,true):=by
  unfold dg
  rw [List.foldl_append,k8 A [] hA,List.nil_append,List.foldl_cons,wV hy,n8 B _ hB,List.append_assoc];rfl
 unfold fA;rw [this];rfl
structure RS (L:List N3):Prop where
 rn:∀ x∈L,RN x.1
 inc:L.Pairwise fun a b=>a.1.me.1<b.1.me.1
 ring:Rg (aN L)
theorem RO.rs {L:List N3} (h:RO (nds L)):RS L:=by
 refine ⟨fun x hx=>h.rn _ (List.mem_map.2 ⟨x,hx,rfl⟩),?_,?_⟩
 ·have:=h.inc
  unfold nds at this
  rwa [List.pairwise_map] at this
 ·have:=h.ring
  unfold nds at this
  rw [List.map_map] at this;exact this
theorem RS.put {L:List N3} (h:RS L) {x y:N3} (hy:y∈L) (he:y.1.me=x.1.me) (hx:RN x.1):RS (fA L x)∧aN (fA L x)=aN L∧x∈fA L x:=by
 obtain ⟨A,B,rfl⟩:=List.append_of_mem hy
 have hp:=List.pairwise_append.1 h.inc
 have hp2:=List.pairwise_cons.1 hp.2.1
 have hno:y.1.me.1=x.1.me.1:=by rw [he]
 have e:=rf (x:=x) (fun z hz=>by rw [← hno];exact hp.2.2 z hz y List.mem_cons_self) hno (fun z hz=>by rw [← hno];exact hp2.1 z hz)
 have em:aN (A++x::B)=aN (A++y::B):=by simp [aN,he]
 rw [e]
 refine ⟨⟨fun z hz=>?_,?_,?_⟩,em,by simp⟩
 ·rcases List.mem_append.1 hz with hz|hz
  ·exact h.rn z (List.mem_append_left _ hz)
  ·rcases List.mem_cons.1 hz with rfl|hz
   ·exact hx
   ·exact h.rn z (List.mem_append_right _ (List.mem_cons_of_mem _ hz))
 ·rw [List.pairwise_append,List.pairwise_cons]
  refine ⟨hp.1,⟨fun z hz=>by rw [← hno];exact hp2.1 z hz,hp2.2⟩,fun a ha b hb=>?_⟩
  rcases List.mem_cons.1 hb with rfl|hb
  ·rw [← hno];exact hp.2.2 a ha y List.mem_cons_self
  ·exact hp.2.2 a ha b (List.mem_cons_of_mem _ hb)
 ·rw [em];exact h.ring
theorem RS.nos {L:List N3} (h:RS L):∀ m∈aN L,0≤m.1:=fun m hm=>(h.ring.nos m hm).1
theorem RS.len {L:List N3} (h:RS L):L.length≤16:=by
 have:=h.ring.len
 simpa [aN] using this
theorem RS.get {L:List N3} (h:RS L) {no:Int} (hl:cw (aN L) no=true):ax L no∈L∧(ax L no).1.me.1=no:=by
 obtain ⟨m,hm,hno⟩:=(m3 h.nos).1 hl
 obtain ⟨x,hx,rfl⟩:=List.mem_map.1 hm
 unfold ax
 cases hf:L.find? fun x=>decide (x.1.me.1=no) with
 |none=>exact absurd (decide_eq_true hno) (List.find?_eq_none.1 hf x hx)
 |some z=>exact ⟨List.mem_of_find?_eq_some hf,by have:=List.find?_some hf;exact of_decide_eq_true this⟩
def Am (E:List Nd):List Mb:=E.map (·.me)
theorem rr (L:List N3):Am (nds L)=aN L:=by unfold Am nds;rw [List.map_map];rfl
end Go.Proofs.YthggibfkgofncaaGreat
namespace Go.Proofs.YthggibfkgofncaaGreat
open Go.RowKit
end Go.Proofs.YthggibfkgofncaaGreat
namespace Go.Proofs.YthggibfkgofncaaGreat
open Go.RowKit
theorem St.grp0 {w0 w:World} {B:List Own} {S:World→Prop} (s:St w0 B w) (h:∀ w9,S w9):St w0 (.grp [] S::B) w:=
 (St.group (A:=[]) (B:=B) s).weak fun w9 _=>h w9
theorem RS.rb {L:List N3} (h:RS L):RwB L:=⟨fun x hx=>by have h1:=(h.rn x hx).len;have h2:=(h.rn x hx).fg.1;omega⟩
end Go.Proofs.YthggibfkgofncaaGreat
namespace Go.Proofs.YthggibfkgofncaaGreat
open Go.RowKit
def pb (n:Nd):Bool:=decide (n.pr=d5) && (decide (n.sc.length=1) && decide (n.sc.getD 0 a8=n.me))
def kT (L:List N3) (k:Nat):Bool:=decide ((L.getD k z3).1.pr=ec (aN L) (L.getD k z3).1.me) && decide ((L.getD k z3).1.sc=dV (aN L) (L.getD k z3).1.me (min (L.length - 1) 4))
def gd (L:List N3):Bool:=fQ L && bif decide (L.length=1) then pb (L.getD 0 z3).1 else (List.range L.length).all (kT L)
theorem yC {L:List N3} (h:fQ L=false):gd L=false:=by unfold gd;rw [h];rfl
theorem kk {L:List N3} {k:Nat} (h:fQ L=true) (hk:k<L.length) (h1:L.length=1):gd L=pb (L.getD k z3).1:=by
 obtain rfl:k=0:=by omega
 unfold gd;rw [h,decide_eq_true h1];rfl
theorem nU {L:List N3} {k:Nat} (h1:¬ L.length=1) (hk:k<L.length) (hb:kT L k=false):gd L=false:=by
 unfold gd
 have:(List.range L.length).all (kT L)=false:=by
  rw [← Bool.not_eq_true,List.all_eq_true]
  intro h9
  have:=h9 k (List.mem_range.2 hk)
  rw [hb] at this;cases this
 rw [decide_eq_false h1,this];simp
theorem qH {L:List N3} {k:Nat} (h:fQ L=true) (h1:¬ L.length=1) (hk:L.length≤k) (hb:∀ j,j<k→kT L j=true):gd L=true:=by
 unfold gd
 have:(List.range L.length).all (kT L)=true:=by
  rw [List.all_eq_true]
  intro j hj
  exact hb j (by have:=List.mem_range.1 hj;omega)
 rw [h,decide_eq_false h1,this];rfl
theorem Bl {L:List N3} {k:Nat} (h:decide ((L.getD k z3).1.pr=ec (aN L) (L.getD k z3).1.me)=false):kT L k=false:=by unfold kT;rw [h];rfl
theorem Ai {L:List N3} {k n:Nat} (h:decide ((L.getD k z3).1.pr=ec (aN L) (L.getD k z3).1.me)=true) (hn:n=min (L.length - 1) 4):kT L k=decide ((L.getD k z3).1.sc=dV (aN L) (L.getD k z3).1.me n):=by subst hn;unfold kT;rw [h];rfl
theorem lW {L:List N3} {k:Nat} (hk:k<L.length):(L.getD k z3).1.me∈aN L:=List.mem_map.2 ⟨_,bh hk,rfl⟩
end Go.Proofs.YthggibfkgofncaaGreat
namespace Go.Proofs.YthggibfkgofncaaGreat
open Go.RowKit
end Go.Proofs.YthggibfkgofncaaGreat
namespace Go.Proofs.YthggibfkgofncaaGreat
open Go.RowKit
theorem rK {w w':World} {N:TypeId} {R:World→Prop} {E:List Nd} {vo:Value} {L:List N3} {ks:List Nat} (hE:nds L=E) (s:St w [.sl vo N 68 L.length (aK L),.grp ks (fN L)] w'):yd w R E (.agg #[vo]) w':=
 rF hE (fun w9 h9 _=>⟨bK.of_own (h9 (.sl vo N 68 L.length (aK L)) (by simp)),(h9 (.grp ks (fN L)) (by simp)).2 w9 fun _ _=>rfl⟩) s
theorem St.grpR {w0 w:World} {a b:Value} {M N:TypeId} {sa sb n m:Nat} {xs ys:List Value} {ks:List Nat} {S S':World→Prop} {B:List Own} (s:St w0 (.sl a M sa n xs::.sl b N sb m ys::.grp ks S::B) w) (h:∀ w9,bK w9 a sa n xs→bK w9 b sb m ys→S w9→S' w9):∃ kn,St w0 (.grp kn S'::B) w:=
 ⟨_,(St.group (A:=[.sl a M sa n xs,.sl b N sb m ys,.grp ks S]) (B:=B) s).weak fun w9 h9=>h w9 (bK.of_own (h9 (.sl a M sa n xs) (by simp))) (bK.of_own (h9 (.sl b N sb m ys) (by simp))) ((h9 (.grp ks S) (by simp)).2 w9 fun _ _=>rfl)⟩
end Go.Proofs.YthggibfkgofncaaGreat
namespace Go.Proofs.YthggibfkgofncaaGreat
end Go.Proofs.YthggibfkgofncaaGreat
namespace Go.Proofs.YthggibfkgofncaaGreat
open Go.RowKit
def yg (w:World) (R:World→Prop) (E:List Nd) (k:Int):cQ:=fun v w'=>∃ o,v=.tuple #[o,.int .i64 k]∧yd w R E o w'
theorem eH {w w':World} {B:List Own} {R:World→Prop} {E:List Nd} {k q:Int} (s:St w B w') (hE:E=[]) (hk:k=q):yg w R E k (.tuple #[.agg #[bo],.int .i64 q]) w':=by
 subst hE;subst hk;exact ⟨_,rfl,xo s⟩
theorem jV {w w':World} {R:World→Prop} {E:List Nd} {k q:Int} {o:Value} (hk:k=q) (h:yd w R E o w'):yg w R E k (.tuple #[o,.int .i64 q]) w':=by
 subst hk;exact ⟨_,rfl,h⟩
theorem yk {w w':World} {N M:TypeId} {R:World→Prop} {E:List Nd} {vo a:Value} {L:List N3} {n0 na:Nat} {x0 xa:List Value} (hE:nds L=E)
 (h:∀ w9,bK w9 vo 68 n0 x0→bK w9 a 33 na xa→R w9→cf w9 vo L) (s:St w [.sl vo N 68 n0 x0,.sl a M 33 na xa] w'):yd w R E (.agg #[vo]) w':=
 rF hE (fun w9 h9 hR=>h w9 (bK.of_own (h9 (.sl vo N 68 n0 x0) (by simp))) (bK.of_own (h9 (.sl a M 33 na xa) (by simp))) hR) s
def iF (m y:Mb):Bool:=decide (y.1=m.1) && !decide (y=m)
def j7 (L:List N3) (m:Mb) (k:Nat):Bool:=decide ((L.getD k z3).1.me.1=m.1) || (decide ((L.getD k z3).1.me.2=m.2) || (aS (L.getD k z3).1).any (iF m))
def sL (L:List N3) (m:Mb):Bool:=(List.range L.length).any (j7 L m)
def qh (L:List N3) (m:Mb) (no:Int):Int:=bif sL L m then 7 else bif decide (0<L.length) && !cw (aN L) no then 10 else 0
def yW (L:List N3) (m:Mb) (no:Int):Mb:=bif decide (0<L.length) then (ax L no).1.me else m
def vt (L:List N3) (m:Mb) (no:Int):List Nd:=bif decide (qh L m no=0) then hU (nds L) ⟨m,d5,[yW L m no],[]⟩ else []
theorem oW {L:List N3} {m:Mb} {k:Nat} (hk:k<L.length) (h:j7 L m k=true):sL L m=true:=List.any_eq_true.2 ⟨k,List.mem_range.2 hk,h⟩
theorem Ay {L:List N3} {m:Mb} {k:Nat} (hk:L.length≤k) (h:∀ j,j<k→j7 L m j=false):sL L m=false:=by
 unfold sL
 rw [List.any_eq_false]
 intro j hj
 rw [h j (by have:=List.mem_range.1 hj;omega)];decide
theorem vH {L:List N3} {m:Mb} {k:Nat} (h:decide ((L.getD k z3).1.me.1=m.1)=true):j7 L m k=true:=by unfold j7;rw [h];rfl
theorem wm {L:List N3} {m:Mb} {k:Nat} (h:decide ((L.getD k z3).1.me.2=m.2)=true):j7 L m k=true:=by unfold j7;rw [h];simp
theorem vP {L:List N3} {m:Mb} {k j:Nat} (hj:j<(aS (L.getD k z3).1).length) (h:iF m ((aS (L.getD k z3).1).getD j a8)=true):j7 L m k=true:=by
 unfold j7
 have:(aS (L.getD k z3).1).any (iF m)=true:=List.any_eq_true.2 ⟨_,fB hj,h⟩
 rw [this];simp
theorem yQ {L:List N3} {m:Mb} {k j:Nat} (h0:decide ((L.getD k z3).1.me.1=m.1)=false) (h1:decide ((L.getD k z3).1.me.2=m.2)=false) (hj:(aS (L.getD k z3).1).length≤j) (h2:∀ i,i<j→iF m ((aS (L.getD k z3).1).getD i a8)=false):j7 L m k=false:=by
 unfold j7
 have e2:(aS (L.getD k z3).1).any (iF m)=false:=by
  rw [List.any_eq_false]
  intro x hx
  obtain ⟨i,hi,rfl⟩:=hQ hx
  rw [h2 i (by omega)];decide
 rw [h0,h1,e2];rfl
theorem pl {L:List N3} {m:Mb} {no:Int} (h:sL L m=true):qh L m no=7:=by unfold qh;rw [h];rfl
theorem qK {L:List N3} {m:Mb} {no:Int} (h:sL L m=false) (h0:0<L.length) (h1:cw (aN L) no=false):qh L m no=10:=by unfold qh;rw [h,decide_eq_true h0,h1];rfl
theorem pg {L:List N3} {m:Mb} {no:Int} (h:sL L m=false) (h0:¬ 0<L.length∨cw (aN L) no=true):qh L m no=0:=by
 unfold qh;rw [h]
 rcases h0 with h0|h0
 ·rw [decide_eq_false h0];rfl
 ·rw [h0];simp
theorem ln {L:List N3} {m:Mb} {no k:Int} (h:qh L m no=k) (h0:k≠0):vt L m no=[]:=by unfold vt;rw [decide_eq_false (by rw [h];exact h0)];rfl
theorem xT {L:List N3} {m x:Mb} {no:Int} {u:Value} (h:qh L m no=0) (hx:yW L m no=x):nds (fA L (⟨m,d5,[x],[]⟩,u,bo))=vt L m no:=by
 unfold vt;rw [decide_eq_true h,jc,hx];rfl
theorem Ao {L:List N3} {m:Mb} {no:Int} (h:0<L.length):yW L m no=(ax L no).1.me:=by unfold yW;rw [decide_eq_true h];rfl
theorem Ap {L:List N3} {m:Mb} {no:Int} (h:¬ 0<L.length):yW L m no=m:=by unfold yW;rw [decide_eq_false h];rfl
end Go.Proofs.YthggibfkgofncaaGreat
namespace Go.Proofs.YthggibfkgofncaaGreat
open Go.RowKit
theorem iu {P:Program} {ρ:Operand→Value} {d:Option Tmp} {ty:TypeId} {pos:String} {af:Array Edge} {g:Option (Nat × Bool)} {x:Operand} {t tf:TypeId} {f off n:Nat} {C D:Array Value} (F:FldT P t f off tf) (hr:Row P tf n) (hx:ρ x=.agg C) (hD:C.extract off (off+n)=D):
 bR P ⟨d,.field t x f,ty,pos,af,g⟩ ρ (.agg D):=fun w=>by
 obtain ⟨fields,fd,h1,h2,h3,h4⟩:=F.has
 obtain ⟨dsc,h5,h6⟩:=hr.desc
 have hs:=hr.size
 cases hi:P.info? tf with
 |none=>rw [hi] at hs;cases hs
 |some i=>
  have hn:i.size=n:=by rw [hi] at hs;simpa using hs
  have hagg:(isAgg tf).run P w=.ok true w:=by
   unfold isAgg
   rw [Sem.run_bind,run_underlying h5 w]
   cases dsc<;>first|rfl|cases h6
  simp [execOp,hx,Instr.field,Sem.run_bind,run_underlying h1,h2,asAgg,part,h3,h4,hagg,sizeOf,typeInfo,hi,hn,hD]
end Go.Proofs.YthggibfkgofncaaGreat
namespace Go.Proofs.YthggibfkgofncaaGreat
open Go.RowKit
def rX (L K:List N3) (e f:Int):Bool:=decide (e=f) && lG (nds L) (bif decide (f=0) then nds K else [])
theorem ym {L K:List N3} {e f:Int} (h:decide (e=f)=false):rX L K e f=false:=by unfold rX;rw [h];rfl
theorem BG {L K:List N3} {e f:Int} (h:decide (e=f)=true) (h0:f=0):rX L K e f=lG (nds L) (nds K):=by unfold rX;rw [h,decide_eq_true h0];rfl
theorem BC {L K:List N3} {e f:Int} (h:decide (e=f)=true) (h0:¬ f=0):rX L K e f=lG (nds L) (nds []):=by unfold rX;rw [h,decide_eq_false h0];rfl
theorem eg:RwB []:=⟨fun _ h=>by cases h⟩
end Go.Proofs.YthggibfkgofncaaGreat
namespace Go.Proofs.YthggibfkgofncaaGreat
open Go.RowKit
def cE (L:List N3) (no:Int):Int:=bif fQ L then bif cw (aN L) no then 0 else 10 else 1
def mw (L:List N3) (m:Mb):Bool:=fQ L && dd m
def vL (L:List N3) (m:Mb) (no:Int):Int:=bif mw L m then qh L m no else 1
def wc (L:List N3) (m:Mb) (no:Int):List Nd:=bif mw L m then vt L m no else []
def AB (L:List N3) (no:Int):List Nd:=bif decide (cE L no=0) then xA (nds L) no else []
def i5 (L:List N3) (no to:Int):Int:=bif fQ L then bif cw (aN L) no && cw (aN L) to then de (ax L no).1 (ax L to).1.me else 10 else 1
def x7 (L:List N3) (no to:Int):List Nd:=bif decide (i5 L no to=0) then hU (nds L) (ci (ax L no).1 (ax L to).1.me) else []
abbrev cP (vo:Value) (L:List N3):World→Prop:=fun w9=>cf w9 vo L
def p8:Mb:=(3,0#256)
def zV:Nd:=⟨p8,d5,[p8],[]⟩
theorem yS {L:List N3} (h:nds L=[zV]):∃ u v,L=[(zV,u,v)]:=by
 match L,h with
 |[x],h=>
  have h:[x.1]=[zV]:=h
  rw [List.cons.injEq] at h
  refine ⟨x.2.1,x.2.2,?_⟩
  rw [← h.1]
 |[],h=>cases h
 |x::y::L,h=>
  have:=congrArg List.length h
  simp [nds] at this
theorem rP:wc [] p8 0=[zV]∧vL [] p8 0=0:=by
 constructor<;>decide
end Go.Proofs.YthggibfkgofncaaGreat
namespace Go.Proofs.YthggibfkgofncaaGreat
theorem vC (u v:Value):fQ [(zV,u,v)]=true:=by rfl
theorem sg (u v:Value):gd [(zV,u,v)]=true:=by rfl
end Go.Proofs.YthggibfkgofncaaGreat
namespace Go.Proofs.YthggibfkgofncaaGreat
open Go.RowKit
structure BdE (E:List Nd):Prop where
 len:E.length≤40
 each:∀ n∈E,n.sc.length≤300∧n.fg.length≤300
theorem BdE.l {L:List N3} {E:List Nd} (h:BdE E) (e:nds L=E):L.length≤40:=by subst e;have:=h.len;simpa [nds] using this
theorem BdE.r {L:List N3} {E:List Nd} (h:BdE E) (e:nds L=E):RwB L:=by subst e;exact ⟨fun x hx=>h.each _ (List.mem_map.2 ⟨x,hx,rfl⟩)⟩
theorem qa:BdE []:=⟨by simp,fun _ h=>by cases h⟩
theorem vw {L:List N3} {no:Int} (h:fQ L=false):cE L no=1:=by unfold cE;rw [h];rfl
theorem re {L:List N3} {no:Int} (h:fQ L=true) (h1:cw (aN L) no=false):cE L no=10:=by unfold cE;rw [h,h1];rfl
theorem yD {L:List N3} {no:Int} (h:fQ L=true) (h1:cw (aN L) no=true):cE L no=0:=by unfold cE;rw [h,h1];rfl
theorem z7 {L:List N3} {no k:Int} (h:cE L no=k) (h0:k≠0):AB L no=[]:=by unfold AB;rw [decide_eq_false (by rw [h];exact h0)];rfl
theorem AZ {L:List N3} {no:Int} (h:cE L no=0):AB L no=xA (nds L) no:=by unfold AB;rw [decide_eq_true h];rfl
theorem vG {L:List N3} {n:Nd} (h:RS L) (hn:n.sc.length≤300∧n.fg.length≤300):BdE (hU (nds L) n):=by
 have e:hU (nds L) n=nds (fA L (n,bo,bo)):=(jc L (n,bo,bo)).symm
 rw [e]
 have hl:=h.len
 refine ⟨?_,fun y hy=>?_⟩
 ·have h1:=rm (n,bo,bo) L
  unfold nds fA
  rw [List.length_map]
  cases (dg (n,bo,bo) L).2 with
  |true=>show (dg _ _).1.length≤40;omega
  |false=>show ((dg _ _).1++_).length≤40;rw [List.length_append];show _+1≤40;omega
 ·obtain ⟨x,hx,rfl⟩:=List.mem_map.1 hy
  rcases qw hx with rfl|hx
  ·exact hn
  ·exact h.rb.each x hx
theorem pf (L:List N3) (m:Mb) (no:Int):BdE (wc L m no):=by
 unfold wc
 cases h:mw L m with
 |false=>exact qa
 |true=>
  unfold mw at h
  rw [Bool.and_eq_true] at h
  show BdE (vt L m no)
  unfold vt
  cases decide (qh L m no=0) with
  |false=>exact qa
  |true=>exact vG (ex h.1).rs ⟨by show 1≤300;omega,by show 0≤300;omega⟩
theorem Bz {L:List N3} {no to:Int} (h:i5 L no to=0):fQ L=true∧cw (aN L) no=true∧cw (aN L) to=true∧de (ax L no).1 (ax L to).1.me=0:=by
 unfold i5 at h
 cases h1:fQ L<;>cases h2:cw (aN L) no<;>cases h3:cw (aN L) to<;>rw [h1] at h<;>rw [h2,h3] at h<;>simp at h
 exact ⟨rfl,rfl,rfl,h⟩
theorem kN (L:List N3) (no to:Int):BdE (x7 L no to):=by
 unfold x7
 by_cases h:i5 L no to=0
 ·rw [decide_eq_true h]
  obtain ⟨h1,h2,h3,h4⟩:=Bz h
  have hrs:=(ex h1).rs
  have hg:=(hrs.rb.each _ (hrs.get h2).1)
  have hr:=(rL h4).1
  exact vG hrs ⟨by have h9:=hr.len;omega,by have h9:=hr.fg.1;omega⟩
 ·rw [decide_eq_false h];exact qa
theorem j8 {L K:List N3} {e q:Int} (he:e=q) (hq:q≠0) (h:nds L=[]):rX L K e q=true:=by
 unfold rX;rw [decide_eq_true he,decide_eq_false hq,h];rfl
theorem zD {L K:List N3} {e:Int} (he:e=0) (h:nds L=nds K):rX L K e 0=true:=by
 unfold rX;rw [decide_eq_true he,h];exact decide_eq_true rfl
def ox (E:List Nd):cQ:=fun v w=>∃ vo L,v=.agg #[vo]∧nds L=E∧cf w vo L
theorem ox.mono (E:List Nd):iH (ox E):=fun _ _ _ ⟨vo,L,h1,h2,h3⟩ hE=>⟨vo,L,h1,h2,h3.keep hE⟩
theorem yd.d {w w':World} {R:World→Prop} {E:List Nd} {v:Value} (h:yd w R E v w') (hR:R w'):ox E v w':=by
 obtain ⟨vo,L,ks,h1,h2,h3⟩:=h
 exact ⟨vo,L,h1,h2,h3.getG 0 rfl hR⟩
end Go.Proofs.YthggibfkgofncaaGreat
namespace Go.Proofs.YthggibfkgofncaaGreat
open Go.RowKit
theorem zT.d {w w':World} {N:TypeId} {K:List N3} {E:List Nd} {v:Value} (h:zT w N K v w') (e:nds K=E) (hr:∀ y∈K,j4 w' y):ox E v w':=by
 obtain ⟨vo,h1,h2⟩:=h
 exact ⟨vo,K,h1,e,bK.of_own h2,hr⟩
theorem BA {L K:List N3} {e q:Int} (he:e=q) (h:nds L=nds K) (h0:q≠0→nds L=[]):rX L K e q=true:=by
 unfold rX
 rw [decide_eq_true he]
 by_cases hq:q=0
 ·rw [decide_eq_true hq,h];exact decide_eq_true rfl
 ·rw [decide_eq_false hq,h0 hq];rfl
end Go.Proofs.YthggibfkgofncaaGreat
namespace Go.Proofs.YthggibfkgofncaaGreat
open Go.RowKit
def yX (E:List Nd) (k:Int):cQ:=fun v w=>∃ o,v=.tuple #[o,.int .i64 k]∧ox E o w
theorem yX.mono (E:List Nd) (k:Int):iH (yX E k):=fun _ _ _ ⟨o,h1,h2⟩ hE=>⟨o,h1,ox.mono E _ _ _ h2 hE⟩
theorem yg.d {w w':World} {R:World→Prop} {E:List Nd} {k:Int} {v:Value} (h:yg w R E k v w') (hR:R w'):yX E k v w':=by
 obtain ⟨o,h1,h2⟩:=h
 exact ⟨o,h1,h2.d hR⟩
end Go.Proofs.YthggibfkgofncaaGreat
namespace Go.Proofs.YthggibfkgofncaaGreat
open Go.RowKit
end Go.Proofs.YthggibfkgofncaaGreat
namespace Go.Proofs.YthggibfkgofncaaGreat
open Go.RowKit
theorem rt {L:List N3} {m:Mb} (h:fQ L=false):mw L m=false:=by unfold mw;rw [h];rfl
theorem yc {L:List N3} {m:Mb} (h:decide (m.1<0)=true):mw L m=false:=by
 unfold mw;rw [tG (decide_eq_false (by have:=of_decide_eq_true h;omega)),Bool.and_false]
theorem xM {L:List N3} {m:Mb} (h:decide (15<m.1)=true):mw L m=false:=by
 unfold mw dd;rw [decide_eq_false (p:=m.1<16) (by have:=of_decide_eq_true h;omega),Bool.and_false,Bool.and_false]
theorem AK {L:List N3} {m:Mb} (h:fQ L=true) (h0:decide (m.1<0)=false) (h1:decide (15<m.1)=false):mw L m=true:=by
 have h0:=of_decide_eq_false h0
 have h1:=of_decide_eq_false h1
 unfold mw;rw [h,jB.2 ⟨by omega,by omega⟩];rfl
theorem fY {L:List N3} {m:Mb} {no:Int} (h:mw L m=false):vL L m no=1∧wc L m no=[]:=by unfold vL wc;rw [h];exact ⟨rfl,rfl⟩
theorem ij {L:List N3} {m:Mb} {no:Int} (h:mw L m=true):vL L m no=qh L m no∧wc L m no=vt L m no:=by unfold vL wc;rw [h];exact ⟨rfl,rfl⟩
theorem xQ {L:List N3} {m:Mb} (no:Int) (h:mw L m=true):BdE (vt L m no):=(ij h).2▸pf L m no
theorem fV {L:List N3} {no to k:Int} (h:i5 L no to=k) (h0:k≠0):x7 L no to=[]:=by unfold x7;rw [decide_eq_false (by rw [h];exact h0)];rfl
theorem iR {L:List N3} {no to:Int} (h:i5 L no to=0):x7 L no to=hU (nds L) (ci (ax L no).1 (ax L to).1.me):=by unfold x7;rw [decide_eq_true h];rfl
theorem nC {L:List N3} {no to:Int} (h:fQ L=false):i5 L no to=1:=by unfold i5;rw [h];rfl
theorem kG {L:List N3} {no to:Int} (h:fQ L=true) (h0:cw (aN L) no=false):i5 L no to=10:=by unfold i5;rw [h,h0];rfl
theorem kr {L:List N3} {no to:Int} (h:fQ L=true) (h1:cw (aN L) to=false):i5 L no to=10:=by unfold i5;rw [h,h1,Bool.and_false];rfl
theorem gB {L:List N3} {no to:Int} (h:fQ L=true) (h0:cw (aN L) no=true) (h1:cw (aN L) to=true):i5 L no to=de (ax L no).1 (ax L to).1.me:=by unfold i5;rw [h,h0,h1];rfl
end Go.Proofs.YthggibfkgofncaaGreat
namespace Go.Proofs.YthggibfkgofncaaGreat
open Go.RowKit
def BP (l:List Mb) (m:Mb):Prop:=∀ s∈l,s.1=m.1→s=m
structure RK (L:List N3):Prop where
 rs:RS L
 kn:∀ x∈L,∀ m∈aS x.1,BP (aN L) m
theorem RK.put {L:List N3} (h:RK L) {x y:N3} (hy:y∈L) (he:y.1.me=x.1.me) (hx:RN x.1) (hk:∀ m∈aS x.1,BP (aN L) m):RK (fA L x):=by
 obtain ⟨h1,h2,_⟩:=h.rs.put hy he hx
 refine ⟨h1,fun z hz m hm=>?_⟩
 rw [h2]
 rcases qw hz with rfl|hz
 ·exact hk m hm
 ·exact h.kn z hz m hm
end Go.Proofs.YthggibfkgofncaaGreat
namespace Go.Proofs.YthggibfkgofncaaGreat
open Go.RowKit Go.ChangeShapes Go.WideShapes Go.ChangeAt
theorem uw {H:Type} {enc:TypeId × Value→H} {P:Program} {W:World} {tm ts t tn ti e:TypeId} {g0 g1 g2 g3 f0 f1:Field} {fuel:Nat} {cs:List Value} {x:DataW H × List MemPlace} (T:IdTy P ti e) (hc:P.cellsOf ti=32) (hce:P.cellsOf e=1) (hn:P.underlying tn=some (.int .i64)) (hcn:P.cellsOf tn=1)
 (hcs:P.cellsOf ts=1) (hts:P.underlying ts=some (.slice t)) (ht:P.underlying t=some (.struct #[f0,f1])) (h0:f0.type=tn) (h1:f1.type=ti) (o0:f0.offset=0) (o1:f1.offset=1) (hct:P.cellsOf t=33)
 (htm:P.underlying tm=some (.struct #[g0,g1,g2,g3])) (ht0:g0.type=t) (ht1:g1.type=t) (ht2:g2.type=ts) (ht3:g3.type=ts) (ho0:g0.offset=0) (ho1:g1.offset=33) (ho2:g2.offset=66) (ho3:g3.offset=67) (hctm:P.cellsOf tm=68)
 (hf:DataW.trod enc P W 0 (fun _=>true) true fuel tm cs=some x):∃ y:N3,cs=mv y∧j4 W y:=by
 obtain ⟨xs,n,hcells,_,hl,hxl,hel⟩:=DataW.trod_struct htm hf
 have hcl:cs.length=68:=by rw [← hctm];simpa using hl
 have hx4:xs.length=4:=by simpa using hxl
 have e0:=hel 0 g0 rfl
 have e1:=hel 1 g1 rfl
 have e2:=hel 2 g2 rfl
 have e3:=hel 3 g3 rfl
 rw [ht0,ho0,hct,List.getElem?_eq_getElem (by omega)] at e0
 rw [ht1,ho1,hct,List.getElem?_eq_getElem (by omega)] at e1
 rw [ht2,ho2,hcs,List.getElem?_eq_getElem (by omega)] at e2
 rw [ht3,ho3,hcs,List.getElem?_eq_getElem (by omega)] at e3
 obtain ⟨a,ha⟩:=fC T hc hce hn hcn ht h0 h1 o0 o1 hct e0
 obtain ⟨b,hb⟩:=fC T hc hce hn hcn ht h0 h1 o0 o1 hct e1
 obtain ⟨u,ls,hu,hls⟩:=iC T hc hce hn hcn hts ht h0 h1 o0 o1 hct e2
 obtain ⟨u2,ls2,hu2,hls2⟩:=iC T hc hce hn hcn hts ht h0 h1 o0 o1 hct e3
 exact ⟨(⟨a,b,ls,ls2⟩,u,u2),q6 hcl ha hb hu hu2,hls,hls2⟩
theorem rR {H:Type} {enc:TypeId × Value→H} {P:Program} {W:World} {tr tm ts t tn ti e:TypeId} {g0 g1 g2 g3 f0 f1:Field} {fuel:Nat} {cs:List Value} {x:DataW H × List MemPlace} (T:IdTy P ti e) (hc:P.cellsOf ti=32) (hce:P.cellsOf e=1) (hn:P.underlying tn=some (.int .i64)) (hcn:P.cellsOf tn=1)
 (hcs:P.cellsOf ts=1) (hts:P.underlying ts=some (.slice t)) (ht:P.underlying t=some (.struct #[f0,f1])) (h0:f0.type=tn) (h1:f1.type=ti) (o0:f0.offset=0) (o1:f1.offset=1) (hct:P.cellsOf t=33)
 (htm:P.underlying tm=some (.struct #[g0,g1,g2,g3])) (ht0:g0.type=t) (ht1:g1.type=t) (ht2:g2.type=ts) (ht3:g3.type=ts) (ho0:g0.offset=0) (ho1:g1.offset=33) (ho2:g2.offset=66) (ho3:g3.offset=67) (hctm:P.cellsOf tm=68)
 (htr:P.underlying tr=some (.slice tm)) (hf:DataW.trod enc P W 0 (fun _=>true) true fuel tr cs=some x):∃ (v:Value) (L:List N3),cs=[v]∧cf W v L:=by
 rcases Go.Deep.open_slice htr hf with ⟨hcs9,_⟩|⟨a',len,cap,m,k,D,Pl,hcs9,_,hl,_,hm,_,hel⟩
 ·exact ⟨_,[],hcs9,⟨rfl,.inl ⟨rfl,rfl⟩⟩,fun _ h=>by cases h⟩
 ·have hml:len≤m:=by rw [hm];split<;>omega
  have each:∀ i,∃ l:N3,i<len→bc W (a'.add (i*68)) (aD l.1.me l.1.pr l.2.1 l.2.2)∧j4 W l:=fun i=>by
   by_cases hi:i<len
   ·obtain ⟨cs',hc1,hc2⟩:=hel i (by omega)
    obtain ⟨l,hl9,hr⟩:=uw T hc hce hn hcn hcs hts ht h0 h1 o0 o1 hct htm ht0 ht1 ht2 ht3 ho0 ho1 ho2 ho3 hctm hc2
    subst hl9
    refine ⟨l,fun _=>⟨fun j u hj=>?_,hr⟩⟩
    rw [hctm] at hc1
    obtain ⟨_,hlen,hall⟩:=World.cells?_some hc1
    have hj68:j<68:=by have:=(Array.getElem?_eq_some_iff.1 hj).1;rw [aA] at this;exact this
    have:=hall j hj68
    rw [this]
    show (mv l)[j]? = _
    rw [show mv l=(aD l.1.me l.1.pr l.2.1 l.2.2).toList from rfl,Array.getElem?_toList];exact hj
   ·exact ⟨z3,fun h9=>absurd h9 hi⟩
  obtain ⟨L,hL⟩:=Classical.axiomOfChoice each
  refine ⟨_,(List.range len).map L,hcs9,⟨?_,.inr ⟨a',cap,by simp,by simpa using hl,?_⟩⟩,fun y hy=>?_⟩
  ·rw [kF]
  ·refine gl _ 68 (by decide) fR _ fun i hi=>?_
   have hi':i<len:=by simpa using hi
   have h9:((List.range len).map L)[i]=L i:=by simp
   rw [h9]
   exact(hL i hi').1
  ·obtain ⟨i,hi,rfl⟩:=List.mem_map.1 hy
   exact(hL i (List.mem_range.1 hi)).2
theorem wH {H:Type} {enc:TypeId × Value→H} {P:Program} {W:World} {r:Reach} {b0:Nat} {to tr tm ts t tn ti e:TypeId} {k0 g0 g1 g2 g3 f0 f1:Field} {v:Value} {d:DataW H} {ps:List MemPlace} (T:IdTy P ti e) (hc:P.cellsOf ti=32) (hce:P.cellsOf e=1) (hn:P.underlying tn=some (.int .i64)) (hcn:P.cellsOf tn=1)
 (hcs:P.cellsOf ts=1) (hts:P.underlying ts=some (.slice t)) (ht:P.underlying t=some (.struct #[f0,f1])) (h0:f0.type=tn) (h1:f1.type=ti) (o0:f0.offset=0) (o1:f1.offset=1) (hct:P.cellsOf t=33)
 (htm:P.underlying tm=some (.struct #[g0,g1,g2,g3])) (ht0:g0.type=t) (ht1:g1.type=t) (ht2:g2.type=ts) (ht3:g3.type=ts) (ho0:g0.offset=0) (ho1:g1.offset=33) (ho2:g2.offset=66) (ho3:g3.offset=67) (hctm:P.cellsOf tm=68)
 (htr:P.underlying tr=some (.slice tm)) (hcr:P.cellsOf tr=1) (hto:P.underlying to=some (.struct #[k0])) (hk0:k0.type=tr) (ok0:k0.offset=0) (hcto:P.cellsOf to=1)
 (hval:Value.okWide P W r b0 to v) (h:DataW.Trod enc P W 0 (fun _=>true) true to v d ps):∃ (L:List N3) (vo:Value),v=.agg #[vo]∧cf W vo L:=by
 have hv:∃ cs,v=.agg cs:=by
  unfold Value.okWide at hval
  simp only [hto] at hval
  obtain ⟨cs,h9,_⟩:=hval
  exact ⟨cs,h9⟩
 obtain ⟨cs,rfl⟩:=hv
 obtain ⟨fuel,hf⟩:=h
 obtain ⟨xs,n,hcells,_,hl,hxl,hel⟩:=DataW.trod_struct hto hf
 have hcl:cs.toList.length=1:=by rw [← hcto];simpa [Value.cells] using hl
 have hx1:xs.length=1:=by simpa using hxl
 have e0:=hel 0 k0 rfl
 rw [hk0,ok0,hcr,List.getElem?_eq_getElem (by omega)] at e0
 obtain ⟨u,L,hu,hL⟩:=rR T hc hce hn hcn hcs hts ht h0 h1 o0 o1 hct htm ht0 ht1 ht2 ht3 ho0 ho1 ho2 ho3 hctm htr e0
 refine ⟨L,u,?_,hL⟩
 simp only [Value.cells] at hu
 have key:cs.toList=[u]:=by
  rw [List.drop_zero,List.take_of_length_le (by omega)] at hu
  exact hu
 have:cs=#[u]:=Array.toList_inj.1 key
 rw [this]
end Go.Proofs.YthggibfkgofncaaGreat
