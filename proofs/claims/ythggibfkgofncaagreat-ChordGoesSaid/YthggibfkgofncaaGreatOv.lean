/- Overlays: rows of nodes, each with its rows: which may be, which are stable, what tending, coming, leaving and failing make of them, that what may be stays such; overlays that come in; no Go in it. -/
import Derived.Test.YthggibfkgofncaaGreatNd
set_option linter.unusedVariables false
set_option linter.unusedSimpArgs false
set_option linter.unusedSectionVars false
namespace Go.Proofs.YthggibfkgofncaaGreat
open Go.RowKit
theorem xm {a b:Nd} (h1:a.me=b.me) (h2:a.pr=b.pr) (h3:a.sc=b.sc) (h4:a.fg=b.fg):a=b:=by cases a;cases b;simp_all
instance:DecidableEq Nd:=fun a b=>
 if h:a.me=b.me∧a.pr=b.pr∧a.sc=b.sc∧a.fg=b.fg then .isTrue (xm h.1 h.2.1 h.2.2.1 h.2.2.2) else .isFalse fun e=>h (by subst e;exact ⟨rfl,rfl,rfl,rfl⟩)
theorem rZ (a b:Nd):eP a b=decide (a=b):=by
 by_cases h:a=b
 ·rw [decide_eq_true h];exact BC h
 ·rw [decide_eq_false h,← Bool.not_eq_true]
  intro h9
  unfold eP at h9
  simp only [Bool.and_eq_true,decide_eq_true_eq] at h9
  exact h (xm h9.1 h9.2.1 h9.2.2.1 h9.2.2.2)
def eN (w:World) (v:Value) (L:List N3):Prop:=bX w v 68 L.length (aG L)∧∀ x∈L,f4 w x
theorem f4.keep {w w':World} {x:N3} (h:f4 w x) (e:Ext w w'):f4 w' x:=⟨h.1.keep e,h.2.keep e⟩
theorem eN.keep {w w':World} {v:Value} {L:List N3} (h:eN w v L) (e:Ext w w'):eN w' v L:=⟨h.1.keep e,fun x hx=>(h.2 x hx).keep e⟩
abbrev nds (L:List N3):List Nd:=L.map (·.1)
theorem lB {L:List N3} {j:Nat} (hj:j<L.length):L[j]=L.getD j z3:=by rw [List.getD_eq_getElem?_getD,List.getElem?_eq_getElem hj];rfl
theorem bu {L:List N3} {j:Nat} (hj:j<L.length):L.getD j z3∈L:=by rw [← lB hj];exact List.getElem_mem hj
theorem mO {L:List N3} {x:N3} (h:x∈L):∃ j,j<L.length∧L.getD j z3=x:=by
 obtain ⟨j,hj,rfl⟩:=List.mem_iff_getElem.1 h
 exact ⟨j,hj,(lB hj).symm⟩
theorem fw {L:List N3} {k:Nat} (h:k<L.length):L.take (k+1)=L.take k++[L.getD k z3]:=by rw [List.take_succ_eq_append_getElem h,lB h]
theorem fP (L:List N3):(aG L).length=L.length*68:=eQ _ 68 fW L
theorem fO (L K:List N3):aG (L++K)=aG L++aG K:=List.flatMap_append
theorem kp (x:N3):([Value.agg (ay x.1.me x.1.pr x.2.1 x.2.2)].flatMap fun v=>v.cells.toList)=ll x:=by simp [Value.cells,ll,ay]
theorem jM (L:List N3) (x:N3):aG L++ll x=aG (L++[x]):=by rw [fO];simp [aG]
theorem rH {x:N3} (h1:x.2.1.oneCell'=true) (h2:x.2.2.oneCell'=true):∀ u∈([Value.agg (ay x.1.me x.1.pr x.2.1 x.2.2)].flatMap fun v=>v.cells.toList),u.oneCell'=true:=by rw [kp];exact a7 h1 h2
theorem jU (x:N3):∀ v∈([Value.agg (ay x.1.me x.1.pr x.2.1 x.2.2)]:List Value),v.cells.size=68:=fun v hv=>by rw [List.mem_singleton] at hv;subst hv;exact ap _ _ _ _
theorem f4.ones {w:World} {x:N3} (h:f4 w x):x.2.1.oneCell'=true∧x.2.2.oneCell'=true:=⟨dc h.1,dc h.2⟩
theorem AC {w:World} {v:Value} {L:List N3} (h:bX w v 68 L.length (aG L)) (k:Nat) (hk:k≤L.length):bX w (gn v k) 68 (L.take k).length (aG (L.take k)):=by
 have:=h.cut k hk
 unfold aG at this
 rw [jx _ 68 fW] at this
 rw [List.length_take,Nat.min_eq_left hk]
 exact this
theorem ie (L:List N3) (j:Nat) (hj:j<L.length):(aG L)[j*68+0]? = some (.int .i64 (L.getD j z3).1.me.1):=by
 have h1:=congrArg (fun a:Array Value=>a[0]?) (df L j hj)
 simp only [bZ] at h1
 rw [← h1];simp
theorem eN.take {w:World} {v:Value} {L:List N3} (h:eN w v L) (k:Nat) (hk:k≤L.length):eN w (gn v k) (L.take k):=⟨AC h.1 k hk,fun x hx=>h.2 x (List.mem_of_mem_take hx)⟩
theorem eH (w:World):eN w bp []:=⟨⟨rfl,.inl ⟨rfl,rfl⟩⟩,fun _ h=>by cases h⟩
theorem cq {v:Value} (h:v.oneCell'=true):∀ u∈(#[v]:Array Value).toList,u.oneCell'=true:=fun u hu=>by
 have:u∈[v]:=hu
 rw [List.mem_singleton] at this;rw [this];exact h
def Eg:List (List Value):=[[.slice none 0 0]]
theorem co {P:Program} {ρ:Operand→Value} {d:Option Tmp} {ty:TypeId} {pos:String} {af:Array Edge} {g:Option (Nat × Bool)} {t:TypeId} (S:Stt P t Eg):ca P ⟨d,.build t #[],ty,pos,af,g⟩ ρ (.agg #[bp]):=
 ec (parts:=#[]) S [] (by simp) (fun i v hm=>by simp at hm) (D:=[bp]) rfl
theorem St.weak {w0 w:World} {ks:List Nat} {S S':World→Prop} {B:List Own} (s:St w0 (.grp ks S::B) w) (h:∀ w',S w'→S' w'):St w0 (.grp ks S'::B) w:=by
 refine ⟨s.ext,fun p hp=>?_,fun p hp k hk=>?_,?_⟩
 ·rcases List.mem_cons.1 hp with rfl|hp
  ·have h0:=s.has _ List.mem_cons_self
   exact ⟨h0.1,fun w' hw=>h w' (h0.2 w' hw)⟩
  ·exact s.has p (List.mem_cons_of_mem _ hp)
 ·rcases List.mem_cons.1 hp with rfl|hp
  ·exact s.own _ List.mem_cons_self k hk
  ·exact s.own p (List.mem_cons_of_mem _ hp) k hk
 ·have hpw:=List.pairwise_cons.1 s.nd
  exact List.pairwise_cons.2 ⟨fun q hq k hk=>hpw.1 q hq k hk,hpw.2⟩
theorem St.getG {w0 w:World} {ks:List Nat} {S:World→Prop} {B:List Own} (s:St w0 B w) (i:Nat) (hi:B[i]? = some (.grp ks S)):S w:=(s.has _ (List.mem_of_getElem? hi)).2 w fun _ _=>rfl
def zz (w:World) (R:World→Prop) (E:List Nd):cX:=fun v w'=>∃ vo L ks,v=.agg #[vo]∧nds L=E∧St w [.grp ks fun w9=>R w9→eN w9 vo L] w'
abbrev c6 (L:List N3):World→Prop:=fun w9=>∀ x∈L,f4 w9 x
theorem xF {w w':World} {B:List Own} {R:World→Prop} (s:St w B w'):zz w R [] (.agg #[bp]) w':=by
 refine ⟨bp,[],_,rfl,rfl,(St.group (A:=[]) (B:=[]) (s.pick [] (List.nil_sublist _))).weak fun w9 _ _=>eH w9⟩
abbrev aR (L:List N3):List Mb:=L.map (·.1.me)
def aJ (n:Nd):List Mb:=n.pr::(n.sc++n.fg)
def cx (l:List Mb) (no:Int):Bool:=decide ((ft l no).1=no) && decide (0≤no)
theorem kg {l:List Mb} {no:Int} (hn:∀ m∈l,0≤m.1):cx l no=true↔∃ m∈l,m.1=no:=by
 unfold cx ft
 rw [Bool.and_eq_true,decide_eq_true_eq,decide_eq_true_eq]
 rcases xy (l:=l) (no:=no) with h|⟨m,h,hm,hno⟩
 ·rw [h]
  constructor
  ·rintro ⟨h1,h2⟩
   have h1:(-1:Int)=no:=h1
   omega
  ·rintro ⟨m,hm,hno⟩
   exact absurd (decide_eq_true hno) (List.find?_eq_none.1 h m hm)
 ·rw [h]
  exact ⟨fun _=>⟨m,hm,hno⟩,fun _=>⟨hno,by have:=hn m hm;omega⟩⟩
def Ed:Nd:=⟨dB,aZ,[],[]⟩
def DI:N3:=(Ed,bp,bp)
def cb (L:List N3) (no:Int):N3:=(L.find? fun x=>decide (x.1.me.1=no)).getD DI
theorem uG {L:List N3} {no:Int} {k:Nat} (hk:k<L.length) (h:∀ j,j<k→decide ((L.getD j z3).1.me.1=no)=false) (he:decide ((L.getD k z3).1.me.1=no)=true):cb L no=L.getD k z3:=by
 unfold cb
 have:L.find? (fun x=>decide (x.1.me.1=no))=some (L.getD k z3):=by
  rw [List.find?_eq_some_iff_getElem]
  refine ⟨he,k,hk,lB hk,fun j hj=>?_⟩
  rw [lB (by omega),h j hj];rfl
 rw [this];rfl
theorem wX {L:List N3} {no:Int} {k:Nat} (hk:L.length≤k) (h:∀ j,j<k→decide ((L.getD j z3).1.me.1=no)=false):cb L no=DI:=by
 unfold cb
 have:L.find? (fun x=>decide (x.1.me.1=no))=none:=by
  rw [List.find?_eq_none]
  intro x hx
  obtain ⟨j,hj,rfl⟩:=mO hx
  rw [h j (by omega)];decide
 rw [this];rfl
def nD (E:List Nd) (no:Int):Nd:=(E.find? fun x=>decide (x.me.1=no)).getD Ed
theorem nt (L:List N3) (no:Int):(cb L no).1=nD (nds L) no:=by
 unfold cb nD nds
 rw [List.find?_map]
 cases h:L.find? fun x=>decide (x.1.me.1=no) with
 |none=>
  have:L.find? ((fun x:Nd=>decide (x.me.1=no)) ∘ fun x=>x.1)=none:=h
  rw [this];rfl
 |some x=>
  have:L.find? ((fun x:Nd=>decide (x.me.1=no)) ∘ fun x=>x.1)=some x:=h
  rw [this];rfl
theorem Bo (w:World):f4 w DI:=⟨sh w,sh w⟩
theorem ol {w:World} {L:List N3} (h:∀ x∈L,f4 w x) (no:Int):f4 w (cb L no):=by
 unfold cb
 cases hf:L.find? fun x=>decide (x.1.me.1=no) with
 |none=>exact Bo w
 |some x=>exact h x (List.mem_of_find?_eq_some hf)
def gN (L:List N3) (no:Int):List N3:=L.filter fun x=>decide (x.1.me.1≠no)
def gp (E:List Nd) (no:Int):List Nd:=E.filter fun x=>decide (x.me.1≠no)
theorem oC (L:List N3) (no:Int):nds (gN L no)=gp (nds L) no:=by unfold gN gp nds;rw [List.filter_map];rfl
theorem uv (L:List N3) (no:Int):(gN L no).length≤L.length:=List.length_filter_le _ _
theorem zZ {L:List N3} {no:Int} {k:Nat} (hk:k<L.length) (h:decide ((L.getD k z3).1.me.1≠no)=true):gN (L.take (k+1)) no=gN (L.take k) no++[L.getD k z3]:=by
 unfold gN;rw [fw hk,List.filter_append,List.filter_cons,h];rfl
theorem zN {L:List N3} {no:Int} {k:Nat} (hk:k<L.length) (h:decide ((L.getD k z3).1.me.1≠no)=false):gN (L.take (k+1)) no=gN (L.take k) no:=by
 unfold gN;rw [fw hk,List.filter_append,List.filter_cons,h];simp
def fv (x:N3) (p:List N3 × Bool) (y:N3):List N3 × Bool:=
 let q:=bif !p.2 && decide (x.1.me.1≤y.1.me.1) then (p.1++[x],true) else p
 bif decide (y.1.me.1≠x.1.me.1) then (q.1++[y],q.2) else q
def eR (x:N3) (L:List N3):List N3 × Bool:=L.foldl (fv x) ([],false)
def g7 (L:List N3) (x:N3):List N3:=bif (eR x L).2 then (eR x L).1 else (eR x L).1++[x]
theorem xe (x:N3) (p:List N3 × Bool) (y:N3):(fv x p y).1.length≤p.1.length+2:=by
 unfold fv
 cases !p.2 && decide (x.1.me.1≤y.1.me.1)<;>cases decide (y.1.me.1≠x.1.me.1)<;>simp
theorem x7 (x:N3):∀ L:List N3,(eR x L).1.length≤2*L.length:=fun L=>by
 unfold eR
 suffices h:∀ (L:List N3) (p:List N3 × Bool),(L.foldl (fv x) p).1.length≤p.1.length+2*L.length by
  have:=h L ([],false);simpa using this
 intro L
 induction L with
 |nil=>intro p;simp
 |cons y L ih=>
  intro p
  have h1:=ih (fv x p y)
  have h2:=xe x p y
  rw [List.foldl_cons,List.length_cons];omega
theorem xW {x:N3} {p:List N3 × Bool} {y z:N3} (h:z∈(fv x p y).1):z∈p.1∨z=x∨z=y:=by
 unfold fv at h
 have key:∀ q:List N3 × Bool,(z∈q.1→z∈p.1∨z=x∨z=y)→z∈(bif decide (y.1.me.1≠x.1.me.1) then (q.1++[y],q.2) else q).1→z∈p.1∨z=x∨z=y:=fun q hq h=>by
  cases h2:decide (y.1.me.1≠x.1.me.1) with
  |true=>
   rw [h2] at h
   rcases List.mem_append.1 h with h|h
   ·exact hq h
   ·exact .inr (.inr (List.mem_singleton.1 h))
  |false=>rw [h2] at h;exact hq h
 refine key _ (fun h=>?_) h
 cases h1 : !p.2 && decide (x.1.me.1≤y.1.me.1) with
 |true=>
  rw [h1] at h
  rcases List.mem_append.1 h with h|h
  ·exact .inl h
  ·exact .inr (.inl (List.mem_singleton.1 h))
 |false=>rw [h1] at h;exact .inl h
theorem rB {x z:N3}:∀ {L:List N3},z∈(eR x L).1→z=x∨z∈L:=fun {L}=>by
 unfold eR
 suffices h:∀ (L:List N3) (p:List N3 × Bool),z∈(L.foldl (fv x) p).1→z∈p.1∨z=x∨z∈L by
  intro h9;rcases h L ([],false) h9 with h|h
  ·cases h
  ·exact h
 intro L
 induction L with
 |nil=>intro p h;exact .inl h
 |cons y L ih=>
  intro p h
  rcases ih _ h with h|h|h
  ·rcases xW h with h|h|h
   ·exact .inl h
   ·exact .inr (.inl h)
   ·exact .inr (.inr (by rw [h];exact List.mem_cons_self))
  ·exact .inr (.inl h)
  ·exact .inr (.inr (List.mem_cons_of_mem _ h))
theorem xq {x z:N3} {L:List N3} (h:z∈g7 L x):z=x∨z∈L:=by
 unfold g7 at h
 cases hb:(eR x L).2 with
 |true=>rw [hb] at h;exact rB h
 |false=>
  rw [hb] at h
  rcases List.mem_append.1 h with h|h
  ·exact rB h
  ·exact .inl (List.mem_singleton.1 h)
def np (x:Nd) (p:List Nd × Bool) (y:Nd):List Nd × Bool:=
 let q:=bif !p.2 && decide (x.me.1≤y.me.1) then (p.1++[x],true) else p
 bif decide (y.me.1≠x.me.1) then (q.1++[y],q.2) else q
def oV (x:Nd) (E:List Nd):List Nd × Bool:=E.foldl (np x) ([],false)
def w5 (E:List Nd) (x:Nd):List Nd:=bif (oV x E).2 then (oV x E).1 else (oV x E).1++[x]
theorem xN (x:N3) (p:List N3 × Bool) (y:N3):np x.1 (nds p.1,p.2) y.1=(nds (fv x p y).1,(fv x p y).2):=by
 unfold np fv
 cases p with
 |mk l b=>
  cases b<;>by_cases h1:x.1.me.1≤y.1.me.1<;>by_cases h2:y.1.me.1=x.1.me.1<;>simp [h1,h2,nds]
theorem x3 (x:N3) (L:List N3):oV x.1 (nds L)=(nds (eR x L).1,(eR x L).2):=by
 unfold oV eR
 suffices h:∀ (L:List N3) (p:List N3 × Bool),(nds L).foldl (np x.1) (nds p.1,p.2)=(nds (L.foldl (fv x) p).1,(L.foldl (fv x) p).2) from h L ([],false)
 intro L
 induction L with
 |nil=>intro p;rfl
 |cons y L ih=>
  intro p
  show (nds L).foldl (np x.1) (np x.1 (nds p.1,p.2) y.1)=_
  rw [xN,ih];rfl
theorem ul (L:List N3) (x:N3):nds (g7 L x)=w5 (nds L) x.1:=by
 unfold g7 w5
 rw [x3]
 cases (eR x L).2 with
 |true=>rfl
 |false=>show nds ((eR x L).1++[x])=nds (eR x L).1++[x.1];simp [nds]
theorem BY {x:N3} {p:List N3 × Bool} {y:N3} (hb:p.2=false) (h1:decide (x.1.me.1≤y.1.me.1)=true) (h2:decide (y.1.me.1≠x.1.me.1)=true):fv x p y=((p.1++[x])++[y],true):=by unfold fv;rw [hb,h1,h2];rfl
theorem C0 {x:N3} {p:List N3 × Bool} {y:N3} (hb:p.2=false) (h1:decide (x.1.me.1≤y.1.me.1)=true) (h2:decide (y.1.me.1≠x.1.me.1)=false):fv x p y=(p.1++[x],true):=by unfold fv;rw [hb,h1,h2];rfl
theorem zJ {x:N3} {p:List N3 × Bool} {y:N3} (h:p.2=true∨decide (x.1.me.1≤y.1.me.1)=false) (h2:decide (y.1.me.1≠x.1.me.1)=true):fv x p y=(p.1++[y],p.2):=by
 have h1:(!p.2 && decide (x.1.me.1≤y.1.me.1))=false:=by rcases h with h|h<;>simp [h]
 unfold fv;rw [h1,h2];rfl
def mv (E F:List Nd):Bool:=decide (E=F)
theorem tB {E F:List Nd} (h:¬ E.length=F.length):mv E F=false:=decide_eq_false fun e=>h (by rw [e])
theorem w8 {L K:List N3} {k:Nat} (hk:k<L.length) (hk2:k<K.length) (h:eP (L.getD k z3).1 (K.getD k z3).1=false):mv (nds L) (nds K)=false:=by
 refine decide_eq_false fun e=>?_
 rw [rZ] at h
 refine of_decide_eq_false h ?_
 have h1:(nds L)[k]? = (nds K)[k]? := by rw [e]
 unfold nds at h1
 rw [List.getElem?_map,List.getElem?_map,List.getElem?_eq_getElem hk,List.getElem?_eq_getElem hk2,lB hk,lB hk2] at h1
 simpa using h1
theorem sR {L K:List N3} (hl:L.length=K.length) (h:∀ j,j<L.length→eP (L.getD j z3).1 (K.getD j z3).1=true):mv (nds L) (nds K)=true:=by
 refine decide_eq_true ?_
 unfold nds
 apply List.ext_getElem
 ·simpa using hl
 ·intro i h1 h2
  have h1:i<L.length:=by simpa using h1
  have h2:i<K.length:=by simpa using h2
  have h3:=h i h1
  rw [rZ] at h3
  rw [List.getElem_map,List.getElem_map,lB h1,lB h2]
  exact of_decide_eq_true h3
def ig (x:N3):N3:=(⟨x.1.me,x.1.pr,x.1.sc.take (min x.1.sc.length 6),x.1.fg.take (min x.1.fg.length 18)⟩,gn x.2.1 (min x.1.sc.length 6),gn x.2.2 (min x.1.fg.length 18))
theorem oq {w:World} {x:N3} (h:f4 w x):f4 w (ig x):=⟨fc h.1 _ (Nat.min_le_left _ _),fc h.2 _ (Nat.min_le_left _ _)⟩
theorem nc {L:List N3} {k:Nat} (hk:k<L.length):(L.take (k+1)).map ig=(L.take k).map ig++[ig (L.getD k z3)]:=by rw [fw hk,List.map_append];rfl
theorem uL {w:World} {L:List N3} (h:∀ x∈L,f4 w x):∀ x∈L.map ig,f4 w x:=fun x hx=>by
 obtain ⟨y,hy,rfl⟩:=List.mem_map.1 hx
 exact oq (h y hy)
structure FewO (L:List N3):Prop where
 len:L.length≤18
 each:∀ x∈L,x.1.sc.length≤6∧x.1.fg.length≤18
theorem yD (L:List N3):FewO ((L.take (min L.length 18)).map ig):=by
 refine ⟨by rw [List.length_map,List.length_take];omega,fun x hx=>?_⟩
 obtain ⟨y,_,rfl⟩:=List.mem_map.1 hx
 refine ⟨?_,?_⟩
 ·show (y.1.sc.take _).length≤6;rw [List.length_take];omega
 ·show (y.1.fg.take _).length≤18;rw [List.length_take];omega
end Go.Proofs.YthggibfkgofncaaGreat
namespace Go.Proofs.YthggibfkgofncaaGreat
open Go.RowKit
theorem Dy {l:List Mb} {no:Int} (h:decide ((ft l no).1=no)=false):cx l no=false:=by unfold cx;rw [h];rfl
theorem DD {l:List Mb} {no:Int} (h:decide ((ft l no).1=no)=true):cx l no=decide (0≤no):=by unfold cx;rw [h];rfl
theorem Cn {L:List N3} {x:N3} (h:(eR x L).2=true):g7 L x=(eR x L).1:=by unfold g7;rw [h];rfl
theorem CS {L:List N3} {x:N3} (h:(eR x L).2=false):g7 L x=(eR x L).1++[x]:=by unfold g7;rw [h];rfl
theorem jW {L:List N3} {k:Nat} (hk:k<L.length):aR (L.take (k+1))=aR (L.take k)++[(L.getD k z3).1.me]:=by unfold aR;rw [fw hk,List.map_append];rfl
section
variable {P:Program} {ρ:Operand→Value} {d:Option Tmp} {ty:TypeId} {pos:String} {af:Array Edge} {g:Option (Nat × Bool)} {x:Operand} {t:TypeId}
theorem nA {m:Mb} (S:Stt P t Co) (hx:ρ x=.agg (av m)):ca P ⟨d,.build t #[(0,x)],ty,pos,af,g⟩ ρ (.agg (ay m aZ bp bp)):=by
 have:=ec (P:=P) (ρ:=ρ) (d:=d) (ty:=ty) (pos:=pos) (af:=af) (g:=g) (parts:=#[(0,x)]) S [(0,.agg (av m))] (by simp [hx]) (fun i u hm=>by
  simp only [List.mem_cons,Prod.mk.injEq,List.not_mem_nil,or_false] at hm
  obtain ⟨rfl,rfl⟩:=hm
  exact ⟨_,rfl,by show (av m).size=_;rw [aj];rfl⟩) (D:=iW m aZ bp bp) (by
   show (av m).toList++((Value.int .i64 0::List.replicate 32 (Value.int .u8 0))++([bp]++([bp]++[])))=_
   rw [← mB];rfl)
 exact this
end
def BR (w:World) (N:TypeId) (K:List N3):cX:=fun v w'=>∃ vo,v=.agg #[vo]∧cS w' w.heap.size N 68 vo K.length (aG K)
theorem wD {w w':World} {N:TypeId} {K L:List N3} {vo:Value} (h:K=L) (hO:cS w' w.heap.size N 68 vo L.length (aG L)):BR w N K (.agg #[vo]) w':=by subst h;exact ⟨vo,rfl,hO⟩
end Go.Proofs.YthggibfkgofncaaGreat
namespace Go.Proofs.YthggibfkgofncaaGreat
open Go.RowKit
structure RwB (L:List N3):Prop where
 each:∀ x∈L,x.1.sc.length≤300∧x.1.fg.length≤300
theorem FewO.rb {L:List N3} (h:FewO L):RwB L:=⟨fun x hx=>by have:=h.each x hx;omega⟩
def iX (l:List Mb) (m:Mb):Bool:=decide (0≤(ft l m.1).1) && !decide (ft l m.1=m)
def gc (L:List N3) (k:Nat):Bool := !cr (L.getD k z3).1 || ((decide (0<k) && decide ((L.getD k z3).1.me.1≤(L.getD (k - 1) z3).1.me.1)) || (aJ (L.getD k z3).1).any (iX (aR L)))
def hQ (L:List N3):Bool:=((List.range L.length).all fun k => !gc L k) && dd (aR L)
theorem jG {L:List N3} {k:Nat} (hk:k<L.length) (h:gc L k=true):hQ L=false:=by
 unfold hQ
 have:((List.range L.length).all fun k => !gc L k)=false:=by
  rw [← Bool.not_eq_true,List.all_eq_true]
  intro h9
  have:=h9 k (List.mem_range.2 hk)
  rw [h] at this;cases this
 rw [this];rfl
theorem xH {L:List N3} {k:Nat} (hk:L.length≤k) (h:∀ j,j<k→gc L j=false):hQ L=dd (aR L):=by
 unfold hQ
 have:((List.range L.length).all fun k => !gc L k)=true:=by
  rw [List.all_eq_true]
  intro j hj
  rw [h j (by have:=List.mem_range.1 hj;omega)];rfl
 rw [this];rfl
theorem DS {L:List N3} {k:Nat} (h:cr (L.getD k z3).1=false):gc L k=true:=by unfold gc;rw [h];rfl
theorem Dd {L:List N3} {k:Nat} (h:decide (0<k)=true) (h1:decide ((L.getD k z3).1.me.1≤(L.getD (k - 1) z3).1.me.1)=true):gc L k=true:=by unfold gc;rw [h,h1];simp
theorem Db {L:List N3} {k j:Nat} (hj:j<(aJ (L.getD k z3).1).length) (h:iX (aR L) ((aJ (L.getD k z3).1).getD j aZ)=true):gc L k=true:=by
 unfold gc
 have:(aJ (L.getD k z3).1).any (iX (aR L))=true:=List.any_eq_true.2 ⟨_,eG hj,h⟩
 rw [this];simp
theorem CF {L:List N3} {k j:Nat} (h:cr (L.getD k z3).1=true) (h1:decide (0<k)=false∨decide ((L.getD k z3).1.me.1≤(L.getD (k - 1) z3).1.me.1)=false) (hj:(aJ (L.getD k z3).1).length≤j) (h2:∀ i,i<j→iX (aR L) ((aJ (L.getD k z3).1).getD i aZ)=false):gc L k=false:=by
 unfold gc
 have e1:(decide (0<k) && decide ((L.getD k z3).1.me.1≤(L.getD (k - 1) z3).1.me.1))=false:=by rcases h1 with h1|h1<;>rw [h1]<;>simp
 have e2:(aJ (L.getD k z3).1).any (iX (aR L))=false:=by
  rw [List.any_eq_false]
  intro x hx
  obtain ⟨i,hi,rfl⟩:=j3 hx
  rw [h2 i (by omega)];decide
 rw [h,e1,e2];rfl
theorem CA {l:List Mb} {m:Mb} (h:decide (0≤(ft l m.1).1)=false):iX l m=false:=by unfold iX;rw [h];rfl
theorem yn {l:List Mb} {m:Mb} (h:decide (0≤(ft l m.1).1)=true):iX l m = !decide (ft l m.1=m):=by unfold iX;rw [h];rfl
structure RO (E:List Nd):Prop where
 rn:∀ n∈E,RN n
 inc:E.Pairwise fun a b=>a.me.1<b.me.1
 kn:∀ n∈E,∀ m∈aJ n,∀ s∈E,s.me.1=m.1→s.me=m
 ring:Rg (E.map (·.me))
theorem AQ {L:List N3} (h:∀ k,0<k→k<L.length→(L.getD (k - 1) z3).1.me.1<(L.getD k z3).1.me.1):∀ i j,i<j→j<L.length→(L.getD i z3).1.me.1<(L.getD j z3).1.me.1:=fun i j hij hj=>by
 induction j with
 |zero=>omega
 |succ j ih=>
  have h1:=h (j+1) (Nat.zero_lt_succ _) hj
  rw [Nat.add_sub_cancel] at h1
  by_cases e:i=j
  ·subst e;exact h1
  ·have:=ih (by omega) (by omega)
   omega
theorem eJ {L:List N3} (h:hQ L=true):RO (nds L):=by
 unfold hQ at h
 rw [Bool.and_eq_true,List.all_eq_true] at h
 obtain ⟨h1,h2⟩:=h
 have hb:∀ k,k<L.length→gc L k=false:=fun k hk=>by have:=h1 k (List.mem_range.2 hk);simpa using this
 have hring:Rg ((nds L).map (·.me)):=by
  have:=(kv _).1 h2
  unfold nds;rw [List.map_map];exact this
 have hall:∀ k,k<L.length→cr (L.getD k z3).1=true∧(0<k→(L.getD (k - 1) z3).1.me.1<(L.getD k z3).1.me.1)∧∀ m∈aJ (L.getD k z3).1,iX (aR L) m=false:=fun k hk=>by
  have:=hb k hk
  unfold gc at this
  rw [Bool.or_eq_false_iff,Bool.or_eq_false_iff,List.any_eq_false] at this
  refine ⟨by simpa using this.1,fun h0=>?_,fun m hm=>by have:=this.2.2 m hm;simpa using this⟩
  have h9:=this.2.1
  rw [decide_eq_true h0,Bool.true_and,decide_eq_false_iff_not] at h9
  omega
 have hinc:(nds L).Pairwise fun a b=>a.me.1<b.me.1:=by
  unfold nds
  rw [List.pairwise_map,List.pairwise_iff_getElem]
  intro i j hi hj hij
  rw [lB hi,lB hj]
  exact AQ (fun k h0 hk=>(hall k hk).2.1 h0) i j hij hj
 refine ⟨fun n hn=>?_,hinc,fun n hn m hm s hs he=>?_,hring⟩
 ·obtain ⟨x,hx,rfl⟩:=List.mem_map.1 hn
  obtain ⟨k,hk,rfl⟩:=mO hx
  exact qP.1 (hall k hk).1
 ·obtain ⟨x,hx,rfl⟩:=List.mem_map.1 hn
  obtain ⟨k,hk,rfl⟩:=mO hx
  have h9:=(hall k hk).2.2 m hm
  unfold iX at h9
  have hs2:s.me∈aR L:=by
   obtain ⟨y,hy,rfl⟩:=List.mem_map.1 hs
   exact List.mem_map.2 ⟨y,hy,rfl⟩
  have hf:=ri ((kv _).1 h2) hs2
  rw [he] at hf
  have hr:ft (aR L) m.1=s.me:=by unfold ft;rw [hf];rfl
  rw [hr] at h9
  have hnn:0≤s.me.1:=(((kv _).1 h2).nos _ hs2).1
  rw [decide_eq_true hnn,Bool.true_and] at h9
  simpa using h9
end Go.Proofs.YthggibfkgofncaaGreat
namespace Go.Proofs.YthggibfkgofncaaGreat
theorem AA {p:Nat→Bool} {k:Nat} (h:∀ j,j<k→p j=true) (hk:p k=true):∀ j,j<k+1→p j=true:=fun j hj=>by
 by_cases e:j<k
 ·exact h j e
 ·obtain rfl:j=k:=by omega
  exact hk
end Go.Proofs.YthggibfkgofncaaGreat
namespace Go.Proofs.YthggibfkgofncaaGreat
open Go.RowKit
theorem yi {w w':World} {R:World→Prop} {E:List Nd} {vo:Value} {L:List N3} {A:List Own} (hE:nds L=E) (h:∀ w9,(∀ p∈A,p.holds w w9)→R w9→eN w9 vo L) (s:St w A w'):zz w R E (.agg #[vo]) w':=by
 refine ⟨vo,L,_,rfl,hE,(St.group (A:=A) (B:=[]) (by rw [List.append_nil];exact s)).weak fun w9 h9 hR=>h w9 h9 hR⟩
theorem xw {x:N3} {acc:List N3} {y:N3} (h:y.1.me.1<x.1.me.1):fv x (acc,false) y=(acc++[y],false):=
 zJ (.inr (decide_eq_false (by omega))) (decide_eq_true (by omega))
theorem yJ {x:N3} {acc:List N3} {y:N3} (h:y.1.me.1=x.1.me.1):fv x (acc,false) y=(acc++[x],true):=
 C0 rfl (decide_eq_true (by omega)) (decide_eq_false (by omega))
theorem x1 {x:N3} {acc:List N3} {y:N3} (h:x.1.me.1<y.1.me.1):fv x (acc,true) y=(acc++[y],true):=
 zJ (.inl rfl) (decide_eq_true (by omega))
theorem la {x:N3}:∀ (A acc:List N3),(∀ y∈A,y.1.me.1<x.1.me.1)→A.foldl (fv x) (acc,false)=(acc++A,false)
 |[],acc,_=>by rw [List.append_nil];rfl
 |y::A,acc,h=>by
  rw [List.foldl_cons,xw (h y List.mem_cons_self),la A _ fun z hz=>h z (List.mem_cons_of_mem _ hz),List.append_assoc];rfl
theorem n0 {x:N3}:∀ (A acc:List N3),(∀ y∈A,x.1.me.1<y.1.me.1)→A.foldl (fv x) (acc,true)=(acc++A,true)
 |[],acc,_=>by rw [List.append_nil];rfl
 |y::A,acc,h=>by
  rw [List.foldl_cons,x1 (h y List.mem_cons_self),n0 A _ fun z hz=>h z (List.mem_cons_of_mem _ hz),List.append_assoc];rfl
theorem xz {A B:List N3} {x y:N3} (hA:∀ z∈A,z.1.me.1<x.1.me.1) (hy:y.1.me.1=x.1.me.1) (hB:∀ z∈B,x.1.me.1<z.1.me.1):g7 (A++y::B) x=A++x::B:=by
 have:eR x (A++y::B)=(A++x::B,true):=by
  unfold eR
  rw [List.foldl_append,la A [] hA,List.nil_append,List.foldl_cons,yJ hy,n0 B _ hB,List.append_assoc];rfl
 unfold g7;rw [this];rfl
structure RS (L:List N3):Prop where
 rn:∀ x∈L,RN x.1
 inc:L.Pairwise fun a b=>a.1.me.1<b.1.me.1
 ring:Rg (aR L)
theorem RO.rs {L:List N3} (h:RO (nds L)):RS L:=by
 refine ⟨fun x hx=>h.rn _ (List.mem_map.2 ⟨x,hx,rfl⟩),?_,?_⟩
 ·have:=h.inc
  unfold nds at this
  rwa [List.pairwise_map] at this
 ·have:=h.ring
  unfold nds at this
  rw [List.map_map] at this;exact this
theorem RS.put {L:List N3} (h:RS L) {x y:N3} (hy:y∈L) (he:y.1.me=x.1.me) (hx:RN x.1):RS (g7 L x)∧aR (g7 L x)=aR L∧x∈g7 L x:=by
 obtain ⟨A,B,rfl⟩:=List.append_of_mem hy
 have hp:=List.pairwise_append.1 h.inc
 have hp2:=List.pairwise_cons.1 hp.2.1
 have hno:y.1.me.1=x.1.me.1:=by rw [he]
 have e:=xz (x:=x) (fun z hz=>by rw [← hno];exact hp.2.2 z hz y List.mem_cons_self) hno (fun z hz=>by rw [← hno];exact hp2.1 z hz)
 have em:aR (A++x::B)=aR (A++y::B):=by simp [aR,he]
 rw [e]
 refine ⟨⟨fun z hz=>?_,?_,?_⟩,em,by simp⟩
 ·rcases List.mem_append.1 hz with hz|hz
  ·exact h.rn z (List.mem_append_left _ hz)
  ·rcases List.mem_cons.1 hz with rfl|hz
   ·exact hx
   ·exact h.rn z (List.mem_append_right _ (List.mem_cons_of_mem _ hz))
 ·rw [List.pairwise_append,List.pairwise_cons]
  refine ⟨hp.1,⟨fun z hz=>by rw [← hno];exact hp2.1 z hz,hp2.2⟩,fun a ha b hb=>?_⟩
  rcases List.mem_cons.1 hb with rfl|hb
  ·rw [← hno];exact hp.2.2 a ha y List.mem_cons_self
  ·exact hp.2.2 a ha b (List.mem_cons_of_mem _ hb)
 ·rw [em];exact h.ring
theorem RS.nos {L:List N3} (h:RS L):∀ m∈aR L,0≤m.1:=fun m hm=>(h.ring.nos m hm).1
theorem RS.len {L:List N3} (h:RS L):L.length≤16:=by
 have:=h.ring.len
 simpa [aR] using this
theorem RS.get {L:List N3} (h:RS L) {no:Int} (hl:cx (aR L) no=true):cb L no∈L∧(cb L no).1.me.1=no:=by
 obtain ⟨m,hm,hno⟩:=(kg h.nos).1 hl
 obtain ⟨x,hx,rfl⟩:=List.mem_map.1 hm
 unfold cb
 cases hf:L.find? fun x=>decide (x.1.me.1=no) with
 |none=>exact absurd (decide_eq_true hno) (List.find?_eq_none.1 hf x hx)
 |some z=>exact ⟨List.mem_of_find?_eq_some hf,by have:=List.find?_some hf;exact of_decide_eq_true this⟩
def f3 (l:List Mb) (n:Nd):List Int:=((aJ n).filter fun m => !cx l m.1).map (·.1)
def hU (l:List Mb) (n:Nd) (k:Nat):List Int:=(((aJ n).take k).filter fun m => !cx l m.1).map (·.1)
theorem wA {l:List Mb} {n:Nd} {k:Nat} (hk:k<(aJ n).length) (h:cx l ((aJ n).getD k aZ).1=true):hU l n (k+1)=hU l n k:=by
 unfold hU;rw [gP hk,List.filter_append,List.filter_cons,h];simp
theorem wP {l:List Mb} {n:Nd} {k:Nat} (hk:k<(aJ n).length) (h:cx l ((aJ n).getD k aZ).1=false):hU l n (k+1)=hU l n k++[((aJ n).getD k aZ).1]:=by
 unfold hU;rw [gP hk,List.filter_append,List.filter_cons,h];simp
theorem pH (l:List Mb) (n:Nd):hU l n (aJ n).length=f3 l n:=by unfold hU;rw [List.take_length];rfl
theorem ny (l:List Mb) (n:Nd) (k:Nat):(hU l n k).length≤(aJ n).length:=by
 unfold hU
 have:=List.length_filter_le (fun m:Mb => !cx l m.1) ((aJ n).take k)
 rw [List.length_take] at this
 rw [List.length_map];omega
def eE (l:List Mb) (n:Nd):Nd:=⟨n.me,p4 n (f3 l n),kK (cK n.sc (f3 l n) n.me.1) n.me,cK n.fg (f3 l n) n.me.1⟩
theorem AK {l:List Mb} {n:Nd} (h:RN n):eE l n=⟨n.me,xS n (f3 l n),kK (fI n.sc (f3 l n)) n.me,fI n.fg (f3 l n)⟩:=by
 unfold eE;rw [rv h,sr h,r5 h]
def qX (E:List Nd):List Mb:=E.map (·.me)
theorem li (L:List N3):qX (nds L)=aR L:=by unfold qX nds;rw [List.map_map];rfl
end Go.Proofs.YthggibfkgofncaaGreat
namespace Go.Proofs.YthggibfkgofncaaGreat
open Go.RowKit
end Go.Proofs.YthggibfkgofncaaGreat
namespace Go.Proofs.YthggibfkgofncaaGreat
open Go.RowKit
theorem St.grp0 {w0 w:World} {B:List Own} {S:World→Prop} (s:St w0 B w) (h:∀ w9,S w9):St w0 (.grp [] S::B) w:=
 (St.group (A:=[]) (B:=B) s).weak fun w9 _=>h w9
theorem RS.rb {L:List N3} (h:RS L):RwB L:=⟨fun x hx=>by have h1:=(h.rn x hx).len;have h2:=(h.rn x hx).fg.1;omega⟩
end Go.Proofs.YthggibfkgofncaaGreat
namespace Go.Proofs.YthggibfkgofncaaGreat
open Go.RowKit
def yG (n:Nd):Bool:=decide (n.pr=dB) && (decide (n.sc.length=1) && decide (n.sc.getD 0 aZ=n.me))
def qx (L:List N3) (k:Nat):Bool:=decide ((L.getD k z3).1.pr=qy (aR L) (L.getD k z3).1.me) && decide ((L.getD k z3).1.sc=iZ (aR L) (L.getD k z3).1.me (min (L.length - 1) 4))
def gR (L:List N3):Bool:=hQ L && bif decide (L.length=1) then yG (L.getD 0 z3).1 else (List.range L.length).all (qx L)
theorem Da {L:List N3} (h:hQ L=false):gR L=false:=by unfold gR;rw [h];rfl
theorem uD {L:List N3} {k:Nat} (h:hQ L=true) (hk:k<L.length) (h1:L.length=1):gR L=yG (L.getD k z3).1:=by
 obtain rfl:k=0:=by omega
 unfold gR;rw [h,decide_eq_true h1];rfl
theorem yC {L:List N3} {k:Nat} (h1:¬ L.length=1) (hk:k<L.length) (hb:qx L k=false):gR L=false:=by
 unfold gR
 have:(List.range L.length).all (qx L)=false:=by
  rw [← Bool.not_eq_true,List.all_eq_true]
  intro h9
  have:=h9 k (List.mem_range.2 hk)
  rw [hb] at this;cases this
 rw [decide_eq_false h1,this];simp
theorem xI {L:List N3} {k:Nat} (h:hQ L=true) (h1:¬ L.length=1) (hk:L.length≤k) (hb:∀ j,j<k→qx L j=true):gR L=true:=by
 unfold gR
 have:(List.range L.length).all (qx L)=true:=by
  rw [List.all_eq_true]
  intro j hj
  exact hb j (by have:=List.mem_range.1 hj;omega)
 rw [h,decide_eq_false h1,this];rfl
end Go.Proofs.YthggibfkgofncaaGreat
namespace Go.Proofs.YthggibfkgofncaaGreat
open Go.RowKit
def tU (l:List Mb) (no:Int) (m:Mb):Bool:=cx l m.1 && decide (m.1≠no)
def pp (l:List Mb) (no:Int) (g:Nd) (k:Nat):List Mb:=(g.sc.take k).filter (tU l no)
def yZ (l:List Mb) (no:Int) (g:Nd):List Mb:=g.sc.filter (tU l no)
theorem dg {l:List Mb} {no:Int} {g:Nd} {k:Nat} (h:k=g.sc.length):pp l no g k=yZ l no g:=by subst h;unfold pp yZ;rw [List.take_length]
theorem zL {l:List Mb} {no:Int} {g:Nd} {k:Nat} (hk:k<g.sc.length) (h:tU l no (g.sc.getD k aZ)=true):pp l no g (k+1)=pp l no g k++[g.sc.getD k aZ]:=by
 unfold pp;rw [gP hk,List.filter_append,List.filter_cons,h];rfl
theorem zP {l:List Mb} {no:Int} {g:Nd} {k:Nat} (hk:k<g.sc.length) (h:tU l no (g.sc.getD k aZ)=false):pp l no g (k+1)=pp l no g k:=by
 unfold pp;rw [gP hk,List.filter_append,List.filter_cons,h];simp
theorem wV (l:List Mb) (no:Int) (g:Nd) (k:Nat):(pp l no g k).length≤g.sc.length:=by
 have h1:=List.length_filter_le (tU l no) (g.sc.take k)
 rw [List.length_take] at h1
 unfold pp;omega
theorem Be (l:List Mb) (no:Int) (g:Nd):(yZ l no g).length≤g.sc.length:=List.length_filter_le _ _
def g8 (l:List Mb) (n g:Nd):Bool:=decide (n.sc.length=1) && (decide (n.sc.getD 0 aZ=g.me) && decide (0<(yZ l n.me.1 g).length))
def kh (l:List Mb) (n g:Nd):List Mb:=bif g8 l n g then yZ l n.me.1 g else kK (cK n.sc [g.me.1] n.me.1) n.me
def ib (l:List Mb) (n g:Nd):Bool:=decide (n.pr=g.me) && (cx l g.pr.1 && decide (g.pr.1≠n.me.1))
def kZ (l:List Mb) (n g:Nd):Mb:=bif ib l n g then g.pr else p4 n [g.me.1]
def eK (l:List Mb) (n g:Nd):Nd:=⟨n.me,kZ l n g,kh l n g,cK n.fg [g.me.1] n.me.1⟩
end Go.Proofs.YthggibfkgofncaaGreat
namespace Go.Proofs.YthggibfkgofncaaGreat
open Go.RowKit
theorem oO {w w':World} {N:TypeId} {R:World→Prop} {E:List Nd} {vo:Value} {L:List N3} {ks:List Nat} (hE:nds L=E) (s:St w [.sl vo N 68 L.length (aG L),.grp ks (c6 L)] w'):zz w R E (.agg #[vo]) w':=
 yi hE (fun w9 h9 _=>⟨bX.of_own (h9 (.sl vo N 68 L.length (aG L)) (by simp)),(h9 (.grp ks (c6 L)) (by simp)).2 w9 fun _ _=>rfl⟩) s
theorem St.grpR {w0 w:World} {a b:Value} {M N:TypeId} {sa sb n m:Nat} {xs ys:List Value} {ks:List Nat} {S S':World→Prop} {B:List Own} (s:St w0 (.sl a M sa n xs::.sl b N sb m ys::.grp ks S::B) w) (h:∀ w9,bX w9 a sa n xs→bX w9 b sb m ys→S w9→S' w9):∃ kn,St w0 (.grp kn S'::B) w:=
 ⟨_,(St.group (A:=[.sl a M sa n xs,.sl b N sb m ys,.grp ks S]) (B:=B) s).weak fun w9 h9=>h w9 (bX.of_own (h9 (.sl a M sa n xs) (by simp))) (bX.of_own (h9 (.sl b N sb m ys) (by simp))) ((h9 (.grp ks S) (by simp)).2 w9 fun _ _=>rfl)⟩
def zM (l:List Mb) (K:List N3) (g:Nd) (k:Nat):List Nd:=(K.take k).map fun y=>eK l y.1 g
theorem un {l:List Mb} {K:List N3} {g:Nd} {k:Nat} {Lc:List N3} {x:N3} (hk:k<K.length) (h:nds Lc=zM l K g k) (hx:x.1=eK l (K.getD k z3).1 g):nds (Lc++[x])=zM l K g (k+1):=by
 unfold zM at *
 rw [fw hk,List.map_append,← h]
 show (Lc++[x]).map (·.1)=_
 rw [List.map_append]
 show _++[x.1]=_
 rw [hx];rfl
def fp (E:List Nd) (no:Int):List Nd:=(gp E no).map fun y=>eK (qX (gp E no)) y (nD E no)
theorem xP {L K:List N3} {no:Int} {k:Nat} (hK:K=gN L no) (hk:k=K.length):zM (aR K) K (cb L no).1 k=fp (nds L) no:=by
 subst hk
 unfold zM fp
 rw [List.take_length,← oC,← hK,li,← nt]
 unfold nds
 rw [List.map_map];rfl
theorem yV {l:List Mb} {K:List N3} {g:Nd} {k:Nat} {Lc:List N3} (h:nds Lc=zM l K g k) (hk:k≤K.length):Lc.length=k:=by
 have:=congrArg List.length h
 unfold zM at this
 simpa [Nat.min_eq_left hk] using this
end Go.Proofs.YthggibfkgofncaaGreat
namespace Go.Proofs.YthggibfkgofncaaGreat
theorem Bd {a p:Mb} {vs vf:Value} {w:World} {sz n:Nat} {xs:List Value} (h:bX w vs sz n xs):dR 66 (some (.agg (ay a p vs vf)))=vs:=by
 obtain ⟨q,c,rfl⟩:=h.len
 simp only [dR]
 rw [bA];rfl
theorem Aq {a p:Mb} {vs vf:Value} {w:World} {sz n:Nat} {xs:List Value} (h:bX w vf sz n xs):dR 67 (some (.agg (ay a p vs vf)))=vf:=by
 obtain ⟨q,c,rfl⟩:=h.len
 simp only [dR]
 rw [cO];rfl
end Go.Proofs.YthggibfkgofncaaGreat
namespace Go.Proofs.YthggibfkgofncaaGreat
open Go.RowKit
def zr (w:World) (R:World→Prop) (E:List Nd) (k:Int):cX:=fun v w'=>∃ o,v=.tuple #[o,.int .i64 k]∧zz w R E o w'
theorem jg {w w':World} {B:List Own} {R:World→Prop} {E:List Nd} {k q:Int} (s:St w B w') (hE:E=[]) (hk:k=q):zr w R E k (.tuple #[.agg #[bp],.int .i64 q]) w':=by
 subst hE;subst hk;exact ⟨_,rfl,xF s⟩
theorem oz {w w':World} {R:World→Prop} {E:List Nd} {k q:Int} {o:Value} (hk:k=q) (h:zz w R E o w'):zr w R E k (.tuple #[o,.int .i64 q]) w':=by
 subst hk;exact ⟨_,rfl,h⟩
def j6 (m y:Mb):Bool:=decide (y.1=m.1) && !decide (y=m)
def kY (L:List N3) (m:Mb) (k:Nat):Bool:=decide ((L.getD k z3).1.me.1=m.1) || (decide ((L.getD k z3).1.me.2=m.2) || (aJ (L.getD k z3).1).any (j6 m))
def tZ (L:List N3) (m:Mb):Bool:=(List.range L.length).any (kY L m)
def ua (L:List N3) (m:Mb) (no:Int):Int:=bif tZ L m then 7 else bif decide (0<L.length) && !cx (aR L) no then 10 else 0
def BL (L:List N3) (m:Mb) (no:Int):Mb:=bif decide (0<L.length) then (cb L no).1.me else m
def Bx (L:List N3) (m:Mb) (no:Int):List Nd:=bif decide (ua L m no=0) then w5 (nds L) ⟨m,dB,[BL L m no],[]⟩ else []
theorem CD {L:List N3} {m:Mb} {k:Nat} (hk:k<L.length) (h:kY L m k=true):tZ L m=true:=List.any_eq_true.2 ⟨k,List.mem_range.2 hk,h⟩
theorem DR {L:List N3} {m:Mb} {k:Nat} (hk:L.length≤k) (h:∀ j,j<k→kY L m j=false):tZ L m=false:=by
 unfold tZ
 rw [List.any_eq_false]
 intro j hj
 rw [h j (by have:=List.mem_range.1 hj;omega)];decide
theorem A2 {L:List N3} {m:Mb} {k:Nat} (h:decide ((L.getD k z3).1.me.1=m.1)=true):kY L m k=true:=by unfold kY;rw [h];rfl
theorem Cr {L:List N3} {m:Mb} {k:Nat} (h:decide ((L.getD k z3).1.me.2=m.2)=true):kY L m k=true:=by unfold kY;rw [h];simp
theorem CZ {L:List N3} {m:Mb} {k j:Nat} (hj:j<(aJ (L.getD k z3).1).length) (h:j6 m ((aJ (L.getD k z3).1).getD j aZ)=true):kY L m k=true:=by
 unfold kY
 have:(aJ (L.getD k z3).1).any (j6 m)=true:=List.any_eq_true.2 ⟨_,eG hj,h⟩
 rw [this];simp
theorem BU {L:List N3} {m:Mb} {k j:Nat} (h0:decide ((L.getD k z3).1.me.1=m.1)=false) (h1:decide ((L.getD k z3).1.me.2=m.2)=false) (hj:(aJ (L.getD k z3).1).length≤j) (h2:∀ i,i<j→j6 m ((aJ (L.getD k z3).1).getD i aZ)=false):kY L m k=false:=by
 unfold kY
 have e2:(aJ (L.getD k z3).1).any (j6 m)=false:=by
  rw [List.any_eq_false]
  intro x hx
  obtain ⟨i,hi,rfl⟩:=j3 hx
  rw [h2 i (by omega)];decide
 rw [h0,h1,e2];rfl
theorem CQ {L:List N3} {m:Mb} {no:Int} (h:tZ L m=true):ua L m no=7:=by unfold ua;rw [h];rfl
theorem Ah {L:List N3} {m:Mb} {no:Int} (h:tZ L m=false) (h0:0<L.length) (h1:cx (aR L) no=false):ua L m no=10:=by unfold ua;rw [h,decide_eq_true h0,h1];rfl
theorem y8 {L:List N3} {m:Mb} {no:Int} (h:tZ L m=false) (h0:¬ 0<L.length∨cx (aR L) no=true):ua L m no=0:=by
 unfold ua;rw [h]
 rcases h0 with h0|h0
 ·rw [decide_eq_false h0];rfl
 ·rw [h0];simp
theorem Aa {L:List N3} {m:Mb} {no k:Int} (h:ua L m no=k) (h0:k≠0):Bx L m no=[]:=by unfold Bx;rw [decide_eq_false (by rw [h];exact h0)];rfl
theorem DO {L:List N3} {m:Mb} {no:Int} (h:0<L.length):BL L m no=(cb L no).1.me:=by unfold BL;rw [decide_eq_true h];rfl
theorem DB {L:List N3} {m:Mb} {no:Int} (h:¬ 0<L.length):BL L m no=m:=by unfold BL;rw [decide_eq_false h];rfl
end Go.Proofs.YthggibfkgofncaaGreat
namespace Go.Proofs.YthggibfkgofncaaGreat
open Go.RowKit
end Go.Proofs.YthggibfkgofncaaGreat
namespace Go.Proofs.YthggibfkgofncaaGreat
open Go.RowKit
def uU (L K:List N3) (e f:Int):Bool:=decide (e=f) && mv (nds L) (bif decide (f=0) then nds K else [])
theorem zW {L K:List N3} {e f:Int} (h:decide (e=f)=false):uU L K e f=false:=by unfold uU;rw [h];rfl
theorem DY {L K:List N3} {e f:Int} (h:decide (e=f)=true) (h0:f=0):uU L K e f=mv (nds L) (nds K):=by unfold uU;rw [h,decide_eq_true h0];rfl
theorem DT {L K:List N3} {e f:Int} (h:decide (e=f)=true) (h0:¬ f=0):uU L K e f=mv (nds L) (nds []):=by unfold uU;rw [h,decide_eq_false h0];rfl
theorem kf:RwB []:=⟨fun _ h=>by cases h⟩
end Go.Proofs.YthggibfkgofncaaGreat
namespace Go.Proofs.YthggibfkgofncaaGreat
open Go.RowKit
def cE (L:List N3) (no:Int):Int:=bif hQ L then bif cx (aR L) no then 0 else 10 else 1
def tD (L:List N3) (m:Mb):Bool:=hQ L && dO m
def BN (L:List N3) (m:Mb) (no:Int):Int:=bif tD L m then ua L m no else 1
def zc (L:List N3) (m:Mb) (no:Int):List Nd:=bif tD L m then Bx L m no else []
def AZ (L:List N3) (no:Int):List Nd:=bif decide (cE L no=0) then gp (nds L) no else []
def BM (L:List N3) (no:Int):List Nd:=bif decide (cE L no=0) then fp (nds L) no else []
abbrev Do (vo:Value) (L:List N3):World→Prop:=fun w9=>eN w9 vo L
def qm:Mb:=(3,0#256)
def BI:Nd:=⟨qm,dB,[qm],[]⟩
theorem AH {L:List N3} (h:nds L=[BI]):∃ u v,L=[(BI,u,v)]:=by
 match L,h with
 |[x],h=>
  have h:[x.1]=[BI]:=h
  rw [List.cons.injEq] at h
  refine ⟨x.2.1,x.2.2,?_⟩
  rw [← h.1]
 |[],h=>cases h
 |x::y::L,h=>
  have:=congrArg List.length h
  simp [nds] at this
theorem sf:zc [] qm 0=[BI]∧BN [] qm 0=0:=by
 constructor<;>decide
end Go.Proofs.YthggibfkgofncaaGreat
namespace Go.Proofs.YthggibfkgofncaaGreat
theorem um (u v:Value):hQ [(BI,u,v)]=true:=by rfl
theorem tF (u v:Value):gR [(BI,u,v)]=true:=by rfl
end Go.Proofs.YthggibfkgofncaaGreat
namespace Go.Proofs.YthggibfkgofncaaGreat
open Go.RowKit
structure BdE (E:List Nd):Prop where
 len:E.length≤40
 each:∀ n∈E,n.sc.length≤300∧n.fg.length≤300
theorem BdE.l {L:List N3} {E:List Nd} (h:BdE E) (e:nds L=E):L.length≤40:=by subst e;have:=h.len;simpa [nds] using this
theorem BdE.r {L:List N3} {E:List Nd} (h:BdE E) (e:nds L=E):RwB L:=by subst e;exact ⟨fun x hx=>h.each _ (List.mem_map.2 ⟨x,hx,rfl⟩)⟩
theorem ot:BdE []:=⟨by simp,fun _ h=>by cases h⟩
theorem rr {L:List N3} {E:List Nd} (h:RS L) (e:nds L=E):BdE E:=by
 subst e
 refine ⟨by have:=h.len;simp [nds];omega,fun n hn=>?_⟩
 obtain ⟨x,hx,rfl⟩:=List.mem_map.1 hn
 exact h.rb.each x hx
theorem fY {L:List N3} {no:Int} (h:hQ L=false):cE L no=1:=by unfold cE;rw [h];rfl
theorem eZ {L:List N3} {no:Int} (h:hQ L=true) (h1:cx (aR L) no=false):cE L no=10:=by unfold cE;rw [h,h1];rfl
theorem gQ {L:List N3} {no:Int} (h:hQ L=true) (h1:cx (aR L) no=true):cE L no=0:=by unfold cE;rw [h,h1];rfl
theorem As {L:List N3} {no:Int} (h:cE L no=0):hQ L=true∧cx (aR L) no=true:=by
 unfold cE at h
 cases h1:hQ L<;>cases h2:cx (aR L) no<;>rw [h1] at h<;>rw [h2] at h<;>simp at h
 exact ⟨rfl,rfl⟩
theorem rM {L:List N3} {no k:Int} (h:cE L no=k) (h0:k≠0):AZ L no=[]:=by unfold AZ;rw [decide_eq_false (by rw [h];exact h0)];rfl
theorem wT {L:List N3} {no:Int} (h:cE L no=0):AZ L no=gp (nds L) no:=by unfold AZ;rw [decide_eq_true h];rfl
theorem pj {L:List N3} {no k:Int} (h:cE L no=k) (h0:k≠0):BM L no=[]:=by unfold BM;rw [decide_eq_false (by rw [h];exact h0)];rfl
theorem oM {L:List N3} {no:Int} (h:cE L no=0):BM L no=fp (nds L) no:=by unfold BM;rw [decide_eq_true h];rfl
theorem nG {E:List Nd} (h:BdE E) (no:Int):BdE (gp E no):=⟨Nat.le_trans (List.length_filter_le _ _) h.len,fun n hn=>h.each n (List.mem_filter.1 hn).1⟩
theorem z1 (L:List N3) (no:Int):BdE (AZ L no):=by
 by_cases h:cE L no=0
 ·rw [wT h];exact nG (rr (eJ (As h).1).rs rfl) no
 ·rw [rM rfl h];exact ot
theorem su (L:List N3) (no:Int):BdE (BM L no):=by
 by_cases h:cE L no=0
 ·rw [oM h]
  have hrs:=(eJ (As h).1).rs
  have hb:=rr hrs rfl
  have hg:=hrs.rn _ (hrs.get (As h).2).1
  rw [nt] at hg
  refine ⟨?_,fun n hn=>?_⟩
  ·unfold fp;rw [List.length_map];exact(nG hb no).len
  ·unfold fp at hn
   obtain ⟨y,hy,rfl⟩:=List.mem_map.1 hn
   have h1:=hb.each y (List.mem_filter.1 hy).1
   have h2:=jP y.fg [(nD (nds L) no).me.1] y.me.1
   have h3:=jP y.sc [(nD (nds L) no).me.1] y.me.1
   have h4:=Be (qX (gp (nds L) no)) y.me.1 (nD (nds L) no)
   have h5:=hg.len
   have h6:(kh (qX (gp (nds L) no)) y (nD (nds L) no)).length≤300:=by
    unfold kh
    cases g8 (qX (gp (nds L) no)) y (nD (nds L) no) with
    |true=>show (yZ _ _ _).length≤300;omega
    |false=>
     show (kK _ _).length≤300
     have h7:=yr (cK y.sc [(nD (nds L) no).me.1] y.me.1) y.me
     obtain ⟨z,hz,hz2⟩:=List.mem_map.1 (List.mem_filter.1 hy).1
     have h8:=(hrs.rn z hz).len
     rw [hz2] at h8
     omega
   exact ⟨h6,by show (cK _ _ _).length≤300;omega⟩
 ·rw [pj rfl h];exact ot
theorem BE {L:List N3} {n:Nd} (h:RS L) (hn:n.sc.length≤300∧n.fg.length≤300):BdE (w5 (nds L) n):=by
 have e:w5 (nds L) n=nds (g7 L (n,bp,bp)):=(ul L (n,bp,bp)).symm
 rw [e]
 have hl:=h.len
 refine ⟨?_,fun y hy=>?_⟩
 ·have h1:=x7 (n,bp,bp) L
  unfold nds g7
  rw [List.length_map]
  cases (eR (n,bp,bp) L).2 with
  |true=>show (eR _ _).1.length≤40;omega
  |false=>show ((eR _ _).1++_).length≤40;rw [List.length_append];show _+1≤40;omega
 ·obtain ⟨x,hx,rfl⟩:=List.mem_map.1 hy
  rcases xq hx with rfl|hx
  ·exact hn
  ·exact h.rb.each x hx
theorem zt (L:List N3) (m:Mb) (no:Int):BdE (zc L m no):=by
 unfold zc
 cases h:tD L m with
 |false=>exact ot
 |true=>
  unfold tD at h
  rw [Bool.and_eq_true] at h
  show BdE (Bx L m no)
  unfold Bx
  cases decide (ua L m no=0) with
  |false=>exact ot
  |true=>exact BE (eJ h.1).rs ⟨by show 1≤300;omega,by show 0≤300;omega⟩
theorem xA {L K:List N3} {e q:Int} (he:e=q) (hq:q≠0) (h:nds L=[]):uU L K e q=true:=by
 unfold uU;rw [decide_eq_true he,decide_eq_false hq,h];rfl
theorem C6 {L K:List N3} {e:Int} (he:e=0) (h:nds L=nds K):uU L K e 0=true:=by
 unfold uU;rw [decide_eq_true he,h];exact decide_eq_true rfl
def rK (E:List Nd):cX:=fun v w=>∃ vo L,v=.agg #[vo]∧nds L=E∧eN w vo L
theorem rK.mono (E:List Nd):iV (rK E):=fun _ _ _ ⟨vo,L,h1,h2,h3⟩ hE=>⟨vo,L,h1,h2,h3.keep hE⟩
theorem zz.d {w w':World} {R:World→Prop} {E:List Nd} {v:Value} (h:zz w R E v w') (hR:R w'):rK E v w':=by
 obtain ⟨vo,L,ks,h1,h2,h3⟩:=h
 exact ⟨vo,L,h1,h2,h3.getG 0 rfl hR⟩
end Go.Proofs.YthggibfkgofncaaGreat
namespace Go.Proofs.YthggibfkgofncaaGreat
open Go.RowKit
theorem BR.d {w w':World} {N:TypeId} {K:List N3} {E:List Nd} {v:Value} (h:BR w N K v w') (e:nds K=E) (hr:∀ y∈K,f4 w' y):rK E v w':=by
 obtain ⟨vo,h1,h2⟩:=h
 exact ⟨vo,K,h1,e,bX.of_own h2,hr⟩
end Go.Proofs.YthggibfkgofncaaGreat
namespace Go.Proofs.YthggibfkgofncaaGreat
open Go.RowKit
def BF (E:List Nd) (k:Int):cX:=fun v w=>∃ o,v=.tuple #[o,.int .i64 k]∧rK E o w
theorem BF.mono (E:List Nd) (k:Int):iV (BF E k):=fun _ _ _ ⟨o,h1,h2⟩ hE=>⟨o,h1,rK.mono E _ _ _ h2 hE⟩
theorem zr.d {w w':World} {R:World→Prop} {E:List Nd} {k:Int} {v:Value} (h:zr w R E k v w') (hR:R w'):BF E k v w':=by
 obtain ⟨o,h1,h2⟩:=h
 exact ⟨o,h1,h2.d hR⟩
end Go.Proofs.YthggibfkgofncaaGreat
namespace Go.Proofs.YthggibfkgofncaaGreat
open Go.RowKit
end Go.Proofs.YthggibfkgofncaaGreat
namespace Go.Proofs.YthggibfkgofncaaGreat
open Go.RowKit
theorem Ab {L:List N3} {m:Mb} (h:hQ L=false):tD L m=false:=by unfold tD;rw [h];rfl
theorem n7 {L:List N3} {m:Mb} {no:Int} (h:tD L m=false):BN L m no=1∧zc L m no=[]:=by unfold BN zc;rw [h];exact ⟨rfl,rfl⟩
theorem lI {L:List N3} {m:Mb} {no:Int} (h:tD L m=true):BN L m no=ua L m no∧zc L m no=Bx L m no:=by unfold BN zc;rw [h];exact ⟨rfl,rfl⟩
end Go.Proofs.YthggibfkgofncaaGreat
namespace Go.Proofs.YthggibfkgofncaaGreat
open Go.RowKit
def Ee (l:List Mb) (m:Mb):Prop:=∀ s∈l,s.1=m.1→s=m
structure RK (L:List N3):Prop where
 rs:RS L
 kn:∀ x∈L,∀ m∈aJ x.1,Ee (aR L) m
theorem RK.put {L:List N3} (h:RK L) {x y:N3} (hy:y∈L) (he:y.1.me=x.1.me) (hx:RN x.1) (hk:∀ m∈aJ x.1,Ee (aR L) m):RK (g7 L x):=by
 obtain ⟨h1,h2,_⟩:=h.rs.put hy he hx
 refine ⟨h1,fun z hz m hm=>?_⟩
 rw [h2]
 rcases xq hz with rfl|hz
 ·exact hk m hm
 ·exact h.kn z hz m hm
end Go.Proofs.YthggibfkgofncaaGreat
namespace Go.Proofs.YthggibfkgofncaaGreat
open Go.RowKit Go.ChangeShapes Go.WideShapes Go.ChangeAt
theorem uk {H:Type} {enc:TypeId × Value→H} {P:Program} {W:World} {tm ts t tn ti e:TypeId} {g0 g1 g2 g3 f0 f1:Field} {fuel:Nat} {cs:List Value} {x:DataW H × List MemPlace} (T:IdTy P ti e) (hc:P.cellsOf ti=32) (hce:P.cellsOf e=1) (hn:P.underlying tn=some (.int .i64)) (hcn:P.cellsOf tn=1)
 (hcs:P.cellsOf ts=1) (hts:P.underlying ts=some (.slice t)) (ht:P.underlying t=some (.struct #[f0,f1])) (h0:f0.type=tn) (h1:f1.type=ti) (o0:f0.offset=0) (o1:f1.offset=1) (hct:P.cellsOf t=33)
 (htm:P.underlying tm=some (.struct #[g0,g1,g2,g3])) (ht0:g0.type=t) (ht1:g1.type=t) (ht2:g2.type=ts) (ht3:g3.type=ts) (ho0:g0.offset=0) (ho1:g1.offset=33) (ho2:g2.offset=66) (ho3:g3.offset=67) (hctm:P.cellsOf tm=68)
 (hf:DataW.trod enc P W 0 (fun _=>true) true fuel tm cs=some x):∃ y:N3,cs=ll y∧f4 W y:=by
 obtain ⟨xs,n,hcells,_,hl,hxl,hel⟩:=DataW.trod_struct htm hf
 have hcl:cs.length=68:=by rw [← hctm];simpa using hl
 have hx4:xs.length=4:=by simpa using hxl
 have e0:=hel 0 g0 rfl
 have e1:=hel 1 g1 rfl
 have e2:=hel 2 g2 rfl
 have e3:=hel 3 g3 rfl
 rw [ht0,ho0,hct,List.getElem?_eq_getElem (by omega)] at e0
 rw [ht1,ho1,hct,List.getElem?_eq_getElem (by omega)] at e1
 rw [ht2,ho2,hcs,List.getElem?_eq_getElem (by omega)] at e2
 rw [ht3,ho3,hcs,List.getElem?_eq_getElem (by omega)] at e3
 obtain ⟨a,ha⟩:=fJ T hc hce hn hcn ht h0 h1 o0 o1 hct e0
 obtain ⟨b,hb⟩:=fJ T hc hce hn hcn ht h0 h1 o0 o1 hct e1
 obtain ⟨u,ls,hu,hls⟩:=iL T hc hce hn hcn hts ht h0 h1 o0 o1 hct e2
 obtain ⟨u2,ls2,hu2,hls2⟩:=iL T hc hce hn hcn hts ht h0 h1 o0 o1 hct e3
 exact ⟨(⟨a,b,ls,ls2⟩,u,u2),sj hcl ha hb hu hu2,hls,hls2⟩
theorem tJ {H:Type} {enc:TypeId × Value→H} {P:Program} {W:World} {tr tm ts t tn ti e:TypeId} {g0 g1 g2 g3 f0 f1:Field} {fuel:Nat} {cs:List Value} {x:DataW H × List MemPlace} (T:IdTy P ti e) (hc:P.cellsOf ti=32) (hce:P.cellsOf e=1) (hn:P.underlying tn=some (.int .i64)) (hcn:P.cellsOf tn=1)
 (hcs:P.cellsOf ts=1) (hts:P.underlying ts=some (.slice t)) (ht:P.underlying t=some (.struct #[f0,f1])) (h0:f0.type=tn) (h1:f1.type=ti) (o0:f0.offset=0) (o1:f1.offset=1) (hct:P.cellsOf t=33)
 (htm:P.underlying tm=some (.struct #[g0,g1,g2,g3])) (ht0:g0.type=t) (ht1:g1.type=t) (ht2:g2.type=ts) (ht3:g3.type=ts) (ho0:g0.offset=0) (ho1:g1.offset=33) (ho2:g2.offset=66) (ho3:g3.offset=67) (hctm:P.cellsOf tm=68)
 (htr:P.underlying tr=some (.slice tm)) (hf:DataW.trod enc P W 0 (fun _=>true) true fuel tr cs=some x):∃ (v:Value) (L:List N3),cs=[v]∧eN W v L:=by
 rcases Go.Deep.open_slice htr hf with ⟨hcs9,_⟩|⟨a',len,cap,m,k,D,Pl,hcs9,_,hl,_,hm,_,hel⟩
 ·exact ⟨_,[],hcs9,⟨rfl,.inl ⟨rfl,rfl⟩⟩,fun _ h=>by cases h⟩
 ·have hml:len≤m:=by rw [hm];split<;>omega
  have each:∀ i,∃ l:N3,i<len→aL W (a'.add (i*68)) (ay l.1.me l.1.pr l.2.1 l.2.2)∧f4 W l:=fun i=>by
   by_cases hi:i<len
   ·obtain ⟨cs',hc1,hc2⟩:=hel i (by omega)
    obtain ⟨l,hl9,hr⟩:=uk T hc hce hn hcn hcs hts ht h0 h1 o0 o1 hct htm ht0 ht1 ht2 ht3 ho0 ho1 ho2 ho3 hctm hc2
    subst hl9
    refine ⟨l,fun _=>⟨fun j u hj=>?_,hr⟩⟩
    rw [hctm] at hc1
    obtain ⟨_,hlen,hall⟩:=World.cells?_some hc1
    have hj68:j<68:=by have:=(Array.getElem?_eq_some_iff.1 hj).1;rw [ap] at this;exact this
    have:=hall j hj68
    rw [this]
    show (ll l)[j]? = _
    rw [show ll l=(ay l.1.me l.1.pr l.2.1 l.2.2).toList from rfl,Array.getElem?_toList];exact hj
   ·exact ⟨z3,fun h9=>absurd h9 hi⟩
  obtain ⟨L,hL⟩:=Classical.axiomOfChoice each
  refine ⟨_,(List.range len).map L,hcs9,⟨?_,.inr ⟨a',cap,by simp,by simpa using hl,?_⟩⟩,fun y hy=>?_⟩
  ·rw [fP]
  ·refine ga _ 68 (by decide) fW _ fun i hi=>?_
   have hi':i<len:=by simpa using hi
   have h9:((List.range len).map L)[i]=L i:=by simp
   rw [h9]
   exact(hL i hi').1
  ·obtain ⟨i,hi,rfl⟩:=List.mem_map.1 hy
   exact(hL i (List.mem_range.1 hi)).2
theorem xV {H:Type} {enc:TypeId × Value→H} {P:Program} {W:World} {r:Reach} {b0:Nat} {to tr tm ts t tn ti e:TypeId} {k0 g0 g1 g2 g3 f0 f1:Field} {v:Value} {d:DataW H} {ps:List MemPlace} (T:IdTy P ti e) (hc:P.cellsOf ti=32) (hce:P.cellsOf e=1) (hn:P.underlying tn=some (.int .i64)) (hcn:P.cellsOf tn=1)
 (hcs:P.cellsOf ts=1) (hts:P.underlying ts=some (.slice t)) (ht:P.underlying t=some (.struct #[f0,f1])) (h0:f0.type=tn) (h1:f1.type=ti) (o0:f0.offset=0) (o1:f1.offset=1) (hct:P.cellsOf t=33)
 (htm:P.underlying tm=some (.struct #[g0,g1,g2,g3])) (ht0:g0.type=t) (ht1:g1.type=t) (ht2:g2.type=ts) (ht3:g3.type=ts) (ho0:g0.offset=0) (ho1:g1.offset=33) (ho2:g2.offset=66) (ho3:g3.offset=67) (hctm:P.cellsOf tm=68)
 (htr:P.underlying tr=some (.slice tm)) (hcr:P.cellsOf tr=1) (hto:P.underlying to=some (.struct #[k0])) (hk0:k0.type=tr) (ok0:k0.offset=0) (hcto:P.cellsOf to=1)
 (hval:Value.okWide P W r b0 to v) (h:DataW.Trod enc P W 0 (fun _=>true) true to v d ps):∃ (L:List N3) (vo:Value),v=.agg #[vo]∧eN W vo L:=by
 have hv:∃ cs,v=.agg cs:=by
  unfold Value.okWide at hval
  simp only [hto] at hval
  obtain ⟨cs,h9,_⟩:=hval
  exact ⟨cs,h9⟩
 obtain ⟨cs,rfl⟩:=hv
 obtain ⟨fuel,hf⟩:=h
 obtain ⟨xs,n,hcells,_,hl,hxl,hel⟩:=DataW.trod_struct hto hf
 have hcl:cs.toList.length=1:=by rw [← hcto];simpa [Value.cells] using hl
 have hx1:xs.length=1:=by simpa using hxl
 have e0:=hel 0 k0 rfl
 rw [hk0,ok0,hcr,List.getElem?_eq_getElem (by omega)] at e0
 obtain ⟨u,L,hu,hL⟩:=tJ T hc hce hn hcn hcs hts ht h0 h1 o0 o1 hct htm ht0 ht1 ht2 ht3 ho0 ho1 ho2 ho3 hctm htr e0
 refine ⟨L,u,?_,hL⟩
 simp only [Value.cells] at hu
 have key:cs.toList=[u]:=by
  rw [List.drop_zero,List.take_of_length_le (by omega)] at hu
  exact hu
 have:cs=#[u]:=Array.toList_inj.1 key
 rw [this]
end Go.Proofs.YthggibfkgofncaaGreat
