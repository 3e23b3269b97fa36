/- Overlays: rows of nodes, each with its rows: which may be, which are stable, what tending, coming, leaving and failing make of them, that what may be stays such; overlays that come in; no Go in it. -/
import Derived.Test.YtkhepdpfdhdlaaaGreatDoorNd
set_option linter.unusedVariables false
set_option linter.unusedSimpArgs false
set_option linter.unusedSectionVars false
namespace Go.Proofs.YtkhepdpfdhdlaaaGreatDoor
open Go.RowKit
theorem Og {a b:Nd} (h1:a.me=b.me) (h2:a.pr=b.pr) (h3:a.sc=b.sc) (h4:a.fg=b.fg):a=b:=by cases a;cases b;simp_all
instance:DecidableEq Nd:=λa b=>
 if h:a.me=b.me/\a.pr=b.pr/\a.sc=b.sc/\a.fg=b.fg then .isTrue (Og h.1 h.2.1 h.2.2.1 h.2.2.2) else .isFalse λe=>h (by subst e;exact ⟨rfl,rfl,rfl,rfl⟩)
def kC (w:World) (v:Value) (L:List N3):Prop:=bp w v 68 L.length (aK L)/\∀ x∈L,BT w x
theorem BT.keep {w w':World} {x:N3} (h:BT w x) (e:Ext w w'):BT w' x:=⟨h.1.keep e,h.2.keep e⟩
theorem kC.keep {w w':World} {v:Value} {L:List N3} (h:kC w v L) (e:Ext w w'):kC w' v L:=⟨h.1.keep e,λx hx=>(h.2 x hx).keep e⟩
abbrev nds (L:List N3):List Nd:=L.map (·.1)
theorem uX {L:List N3} {j:Nat} (hj:j<L.length):L[j]=L.getD j z3:=by rw [YR,Yz hj];rfl
theorem cF {L:List N3} {j:Nat} (hj:j<L.length):L.getD j z3∈L:=by rw [← uX hj];exact Zq hj
theorem Bb {L:List N3} {x:N3} (h:x∈L):∃ j,j<L.length/\L.getD j z3=x:=by
 obtain ⟨j,hj,rfl⟩:=List.mem_iff_getElem.1 h
 exact ⟨j,hj,(uX hj).symm⟩
theorem Ah {L:List N3} {k:Nat} (h:k<L.length):L.take (k+1)=L.take k++[L.getD k z3]:=by rw [List.take_succ_eq_append_getElem h,uX h]
theorem wh (L:List N3):(aK L).length=L.length*68:=dW _ 68 lM L
theorem jI (L K:List N3):aK (L++K)=aK L++aK K:=Zh
theorem EP (x:N3):([Value.agg (bJ x.1.me x.1.pr x.2.1 x.2.2)].flatMap λv=>v.cells.toList)=yX x:=by simp [Value.cells,yX,bJ]
theorem AY (L:List N3) (x:N3):aK L++yX x=aK (L++[x]):=by rw [jI];simp [aK]
theorem AW (x:N3):∀ v∈([Value.agg (bJ x.1.me x.1.pr x.2.1 x.2.2)]:List Value),v.cells.size=68:=λv hv=>by rw [YF] at hv;subst hv;exact bN _ _ _ _
theorem BT.ones {w:World} {x:N3} (h:BT w x):x.2.1.oneCell'=true/\x.2.2.oneCell'=true:=⟨bf h.1,bf h.2⟩
theorem OC {w:World} {v:Value} {L:List N3} (h:bp w v 68 L.length (aK L)) (k:Nat) (hk:k<=L.length):bp w (fI v k) 68 (L.take k).length (aK (L.take k)):=by
 have:=h.cut k hk
 unfold aK at this
 rw [fN _ 68 lM] at this
 rw [Y5,Nat.min_eq_left hk]
 exact this
theorem A6 (L:List N3) (j:Nat) (hj:j<L.length):(aK L)[j*68+0]? = some (.int .i64 (L.getD j z3).1.me.1):=by
 have h1:=Yu (λa:Array Value=>a[0]?) (gz L j hj)
 simp only [px] at h1
 rw [← h1];simp
theorem kC.take {w:World} {v:Value} {L:List N3} (h:kC w v L) (k:Nat) (hk:k<=L.length):kC w (fI v k) (L.take k):=⟨OC h.1 k hk,λx hx=>h.2 x (List.mem_of_mem_take hx)⟩
theorem Ki (w:World):kC w aj []:=⟨⟨rfl,.inl ⟨rfl,rfl⟩⟩,λ_ h=>by cases h⟩
theorem fe {v:Value} (h:v.oneCell'=true):∀ u∈(#[v]:Array Value).toList,u.oneCell'=true:=λu hu=>by
 have:u∈[v]:=hu
 rw [YF] at this;rw [this];exact h
def W5:List (List Value):=[[.slice none 0 0]]
theorem gj {P:Program} {ρ:Operand->Value} {d:Option Tmp} {ty:TypeId} {pos:String} {af:Array Edge} {g:Option (Nat × Bool)} {t:TypeId} (S:Stt P t W5):aP P ⟨d,.build t #[],ty,pos,af,g⟩ ρ (.agg #[aj]):=
 aU (parts:=#[]) S [] (by simp) (λi v hm=>by simp at hm) (D:=[aj]) rfl
theorem St.weak {w0 w:World} {ks:List Nat} {S S':World->Prop} {B:List Own} (s:St w0 (.grp ks S::B) w) (h:∀ w',S w'->S' w'):St w0 (.grp ks S'::B) w:=by
 refine ⟨s.ext,λp hp=>?_,λp hp k hk=>?_,?_⟩
 ·rcases YH.1 hp with rfl|hp
  ·have h0:=s.has _ YG
   exact ⟨h0.1,λw' hw=>h w' (h0.2 w' hw)⟩
  ·exact s.has p (YQ _ hp)
 ·rcases YH.1 hp with rfl|hp
  ·exact s.own _ YG k hk
  ·exact s.own p (YQ _ hp) k hk
 ·have hpw:=List.pairwise_cons.1 s.nd
  exact List.pairwise_cons.2 ⟨λq hq k hk=>hpw.1 q hq k hk,hpw.2⟩
theorem St.getG {w0 w:World} {ks:List Nat} {S:World->Prop} {B:List Own} (s:St w0 B w) (i:Nat) (hi:B[i]? = some (.grp ks S)):S w:=(s.has _ (List.mem_of_getElem? hi)).2 w λ_ _=>rfl
def Qa (w:World) (R:World->Prop) (E:List Nd):c8:=λv w'=>∃ vo L ks,v=.agg #[vo]/\nds L=E/\St w [.grp ks λw9=>R w9->kC w9 vo L] w'
abbrev jM (L:List N3):World->Prop:=λw9=>∀ x∈L,BT w9 x
theorem Kc {w w':World} {B:List Own} {R:World->Prop} (s:St w B w'):Qa w R [] (.agg #[aj]) w':=by
 refine ⟨aj,[],_,rfl,rfl,(St.group (A:=[]) (B:=[]) (s.pick [] (YL _))).weak λw9 _ _=>Ki w9⟩
abbrev aI (L:List N3):List Mb:=L.map (·.1.me)
def aM (n:Nd):List Mb:=n.pr::(n.sc++n.fg)
def cC (l:List Mb) (no:Int):Bool:=decide ((lH l no).1=no) && decide (0<=no)
theorem mD {l:List Mb} {no:Int} (hn:∀ m∈l,0<=m.1):cC l no=true↔∃ m∈l,m.1=no:=by
 unfold cC lH
 rw [Yw,YB,YB]
 rcases Bi (l:=l) (no:=no) with h|⟨m,h,hm,hno⟩
 ·rw [h]
  constructor
  ·rintro ⟨h1,h2⟩
   have h1:(-1:Int)=no:=h1
   omega
  ·rintro ⟨m,hm,hno⟩
   exact ZF (Yt hno) (List.find?_eq_none.1 h m hm)
 ·rw [h]
  exact ⟨λ_=>⟨m,hm,hno⟩,λ_=>⟨hno,by have:=hn m hm;omega⟩⟩
def W4:Nd:=⟨fc,bE,[],[]⟩
def Xw:N3:=(W4,aj,aj)
def cb (L:List N3) (no:Int):N3:=(L.find? λx=>decide (x.1.me.1=no)).getD Xw
theorem OG {L:List N3} {no:Int} {k:Nat} (hk:k<L.length) (h:∀ j,j<k->decide ((L.getD j z3).1.me.1=no)=false) (he:decide ((L.getD k z3).1.me.1=no)=true):cb L no=L.getD k z3:=by
 unfold cb
 have:L.find? (λx=>decide (x.1.me.1=no))=some (L.getD k z3):=by
  rw [List.find?_eq_some_iff_getElem]
  refine ⟨he,k,hk,uX hk,λj hj=>?_⟩
  rw [uX (by omega),h j hj];rfl
 rw [this];rfl
def xC (E:List Nd) (no:Int):Nd:=(E.find? λx=>decide (x.me.1=no)).getD W4
theorem t7 (L:List N3) (no:Int):(cb L no).1=xC (nds L) no:=by
 unfold cb xC nds
 rw [List.find?_map]
 cases h:L.find? λx=>decide (x.1.me.1=no) with
 |none=>
  have:L.find? ((λx:Nd=>decide (x.me.1=no)) ∘ λx=>x.1)=none:=h
  rw [this];rfl
 |some x=>
  have:L.find? ((λx:Nd=>decide (x.me.1=no)) ∘ λx=>x.1)=some x:=h
  rw [this];rfl
def zR (E:List Nd) (no:Int):List Nd:=E.filter λx=>decide (x.me.1≠no)
def putS (x:N3) (p:List N3 × Bool) (y:N3):List N3 × Bool:=
 let q:=bif !p.2 && decide (x.1.me.1<=y.1.me.1) then (p.1++[x],true) else p
 bif decide (y.1.me.1≠x.1.me.1) then (q.1++[y],q.2) else q
def gN (x:N3) (L:List N3):List N3 × Bool:=L.foldl (putS x) ([],false)
def gi (L:List N3) (x:N3):List N3:=bif (gN x L).2 then (gN x L).1 else (gN x L).1++[x]
theorem IA {x:N3} {p:List N3 × Bool} {y z:N3} (h:z∈(putS x p y).1):z∈p.1∨z=x∨z=y:=by
 unfold putS at h
 have key:∀ q:List N3 × Bool,(z∈q.1->z∈p.1∨z=x∨z=y)->z∈(bif decide (y.1.me.1≠x.1.me.1) then (q.1++[y],q.2) else q).1->z∈p.1∨z=x∨z=y:=λq hq h=>by
  cases h2:decide (y.1.me.1≠x.1.me.1) with
  |true=>
   rw [h2] at h
   rcases Y4.1 h with h|h
   ·exact hq h
   ·exact .inr (.inr (YF.1 h))
  |false=>rw [h2] at h;exact hq h
 refine key _ (λh=>?_) h
 cases h1 : !p.2 && decide (x.1.me.1<=y.1.me.1) with
 |true=>
  rw [h1] at h
  rcases Y4.1 h with h|h
  ·exact .inl h
  ·exact .inr (.inl (YF.1 h))
 |false=>rw [h1] at h;exact .inl h
theorem Bg {x z:N3}:∀ {L:List N3},z∈(gN x L).1->z=x∨z∈L:=λ{L}=>by
 unfold gN
 suffices h:∀ (L:List N3) (p:List N3 × Bool),z∈(L.foldl (putS x) p).1->z∈p.1∨z=x∨z∈L by
  intro h9;rcases h L ([],false) h9 with h|h
  ·cases h
  ·exact h
 intro L
 induction L with
 |nil=>intro p h;exact .inl h
 |cons y L ih=>
  intro p h
  rcases ih _ h with h|h|h
  ·rcases IA h with h|h|h
   ·exact .inl h
   ·exact .inr (.inl h)
   ·exact .inr (.inr (by rw [h];exact YG))
  ·exact .inr (.inl h)
  ·exact .inr (.inr (YQ _ h))
theorem N8 {x z:N3} {L:List N3} (h:z∈gi L x):z=x∨z∈L:=by
 unfold gi at h
 cases hb:(gN x L).2 with
 |true=>rw [hb] at h;exact Bg h
 |false=>
  rw [hb] at h
  rcases Y4.1 h with h|h
  ·exact Bg h
  ·exact .inl (YF.1 h)
def rf (x:Nd) (p:List Nd × Bool) (y:Nd):List Nd × Bool:=
 let q:=bif !p.2 && decide (x.me.1<=y.me.1) then (p.1++[x],true) else p
 bif decide (y.me.1≠x.me.1) then (q.1++[y],q.2) else q
def vR (x:Nd) (E:List Nd):List Nd × Bool:=E.foldl (rf x) ([],false)
def tJ (E:List Nd) (x:Nd):List Nd:=bif (vR x E).2 then (vR x E).1 else (vR x E).1++[x]
theorem Lv (x:N3) (p:List N3 × Bool) (y:N3):rf x.1 (nds p.1,p.2) y.1=(nds (putS x p y).1,(putS x p y).2):=by
 unfold rf putS
 cases p with
 |mk l b=>
  cases b<;>by_cases h1:x.1.me.1<=y.1.me.1<;>by_cases h2:y.1.me.1=x.1.me.1<;>simp [h1,h2,nds]
theorem LS (x:N3) (L:List N3):vR x.1 (nds L)=(nds (gN x L).1,(gN x L).2):=by
 unfold vR gN
 suffices h:∀ (L:List N3) (p:List N3 × Bool),(nds L).foldl (rf x.1) (nds p.1,p.2)=(nds (L.foldl (putS x) p).1,(L.foldl (putS x) p).2) from h L ([],false)
 intro L
 induction L with
 |nil=>intro p;rfl
 |cons y L ih=>
  intro p
  show (nds L).foldl (rf x.1) (rf x.1 (nds p.1,p.2) y.1)=_
  rw [Lv,ih];rfl
theorem pM (L:List N3) (x:N3):nds (gi L x)=tJ (nds L) x.1:=by
 unfold gi tJ
 rw [LS]
 cases (gN x L).2 with
 |true=>rfl
 |false=>show nds ((gN x L).1++[x])=nds (gN x L).1++[x.1];simp [nds]
theorem Sn {x:N3} {p:List N3 × Bool} {y:N3} (hb:p.2=false) (h1:decide (x.1.me.1<=y.1.me.1)=true) (h2:decide (y.1.me.1≠x.1.me.1)=true):putS x p y=((p.1++[x])++[y],true):=by unfold putS;rw [hb,h1,h2];rfl
theorem Tj {x:N3} {p:List N3 × Bool} {y:N3} (hb:p.2=false) (h1:decide (x.1.me.1<=y.1.me.1)=true) (h2:decide (y.1.me.1≠x.1.me.1)=false):putS x p y=(p.1++[x],true):=by unfold putS;rw [hb,h1,h2];rfl
theorem MH {x:N3} {p:List N3 × Bool} {y:N3} (h:p.2=true∨decide (x.1.me.1<=y.1.me.1)=false) (h2:decide (y.1.me.1≠x.1.me.1)=true):putS x p y=(p.1++[y],p.2):=by
 have h1:(!p.2 && decide (x.1.me.1<=y.1.me.1))=false:=by rcases h with h|h<;>simp [h]
 unfold putS;rw [h1,h2];rfl
def zN:Nd:=Sa
structure FewO (L:List N3):Prop where
 len:L.length<=18
 each:∀ x∈L,x.1.sc.length<=6/\x.1.fg.length<=18
theorem Sz {L:List N3} {x:N3} (h:(gN x L).2=true):gi L x=(gN x L).1:=by unfold gi;rw [h];rfl
theorem Us {L:List N3} {x:N3} (h:(gN x L).2=false):gi L x=(gN x L).1++[x]:=by unfold gi;rw [h];rfl
theorem xe {L:List N3} {k:Nat} (hk:k<L.length):aI (L.take (k+1))=aI (L.take k)++[(L.getD k z3).1.me]:=by unfold aI;rw [Ah hk,ZD];rfl
section
variable {P:Program} {ρ:Operand->Value} {d:Option Tmp} {ty:TypeId} {pos:String} {af:Array Edge} {g:Option (Nat × Bool)} {x:Operand} {t:TypeId}
end
def WZ (w:World) (N:TypeId) (K:List N3):c8:=λv w'=>∃ vo,v=.agg #[vo]/\cq w' w.heap.size N 68 vo K.length (aK K)
structure RwB (L:List N3):Prop where
 each:∀ x∈L,x.1.sc.length<=300/\x.1.fg.length<=300
def nP (l:List Mb) (m:Mb):Bool:=decide (0<=(lH l m.1).1) && !decide (lH l m.1=m)
def jt (L:List N3) (k:Nat):Bool := !dU (L.getD k z3).1 || ((decide (0<k) && decide ((L.getD k z3).1.me.1<=(L.getD (k - 1) z3).1.me.1)) || (aM (L.getD k z3).1).any (nP (aI L)))
def lD (L:List N3):Bool:=((List.range L.length).all λk => !jt L k) && eo (aI L)
theorem KO {L:List N3} {k:Nat} (hk:k<L.length) (h:jt L k=true):lD L=false:=by
 unfold lD
 have:((List.range L.length).all λk => !jt L k)=false:=by
  rw [← Bool.not_eq_true,Yx]
  intro h9
  have:=h9 k (YI.2 hk)
  rw [h] at this;cases this
 rw [this];rfl
theorem IC {L:List N3} {k:Nat} (hk:L.length<=k) (h:∀ j,j<k->jt L j=false):lD L=eo (aI L):=by
 unfold lD
 have:((List.range L.length).all λk => !jt L k)=true:=by
  rw [Yx]
  intro j hj
  rw [h j (by have:=YI.1 hj;omega)];rfl
 rw [this];rfl
theorem WK {L:List N3} {k:Nat} (h:decide (0<k)=true) (h1:decide ((L.getD k z3).1.me.1<=(L.getD (k - 1) z3).1.me.1)=true):jt L k=true:=by unfold jt;rw [h,h1];simp
theorem V3 {L:List N3} {k j:Nat} (h:dU (L.getD k z3).1=true) (h1:decide (0<k)=false∨decide ((L.getD k z3).1.me.1<=(L.getD (k - 1) z3).1.me.1)=false) (hj:(aM (L.getD k z3).1).length<=j) (h2:∀ i,i<j->nP (aI L) ((aM (L.getD k z3).1).getD i bE)=false):jt L k=false:=by
 unfold jt
 have e1:(decide (0<k) && decide ((L.getD k z3).1.me.1<=(L.getD (k - 1) z3).1.me.1))=false:=by rcases h1 with h1|h1<;>rw [h1]<;>simp
 have e2:(aM (L.getD k z3).1).any (nP (aI L))=false:=by
  rw [Zu]
  intro x hx
  obtain ⟨i,hi,rfl⟩:=rr hx
  rw [h2 i (by omega)];decide
 rw [h,e1,e2];rfl
theorem Wg {l:List Mb} {m:Mb} (h:decide (0<=(lH l m.1).1)=false):nP l m=false:=by unfold nP;rw [h];rfl
theorem We {l:List Mb} {m:Mb} (h:decide (0<=(lH l m.1).1)=true):nP l m = !decide (lH l m.1=m):=by unfold nP;rw [h];rfl
structure RO (E:List Nd):Prop where
 rn:∀ n∈E,RN n
 inc:E.Pairwise λa b=>a.me.1<b.me.1
 kn:∀ n∈E,∀ m∈aM n,∀ s∈E,s.me.1=m.1->s.me=m
 ring:Rg (E.map (·.me))
theorem OM {L:List N3} (h:∀ k,0<k->k<L.length->(L.getD (k - 1) z3).1.me.1<(L.getD k z3).1.me.1):∀ i j,i<j->j<L.length->(L.getD i z3).1.me.1<(L.getD j z3).1.me.1:=λi j hij hj=>by
 induction j with
 |zero=>omega
 |succ j ih=>
  have h1:=h (j+1) (Nat.zero_lt_succ _) hj
  rw [Nat.add_sub_cancel] at h1
  by_cases e:i=j
  ·subst e;exact h1
  ·have:=ih (by omega) (by omega)
   omega
theorem ql {L:List N3} (h:lD L=true):RO (nds L):=by
 unfold lD at h
 rw [Yw,Yx] at h
 obtain ⟨h1,h2⟩:=h
 have hb:∀ k,k<L.length->jt L k=false:=λk hk=>by have:=h1 k (YI.2 hk);simpa using this
 have hring:Rg ((nds L).map (·.me)):=by
  have:=(qq _).1 h2
  unfold nds;rw [List.map_map];exact this
 have hall:∀ k,k<L.length->dU (L.getD k z3).1=true/\(0<k->(L.getD (k - 1) z3).1.me.1<(L.getD k z3).1.me.1)/\∀ m∈aM (L.getD k z3).1,nP (aI L) m=false:=λk hk=>by
  have:=hb k hk
  unfold jt at this
  rw [Bool.or_eq_false_iff,Bool.or_eq_false_iff,Zu] at this
  refine ⟨by simpa using this.1,λh0=>?_,λm hm=>by have:=this.2.2 m hm;simpa using this⟩
  have h9:=this.2.1
  rw [Yt h0,Bool.true_and,decide_eq_false_iff_not] at h9
  omega
 have hinc:(nds L).Pairwise λa b=>a.me.1<b.me.1:=by
  unfold nds
  rw [List.pairwise_map,List.pairwise_iff_getElem]
  intro i j hi hj hij
  rw [uX hi,uX hj]
  exact OM (λk h0 hk=>(hall k hk).2.1 h0) i j hij hj
 refine ⟨λn hn=>?_,hinc,λn hn m hm s hs he=>?_,hring⟩
 ·obtain ⟨x,hx,rfl⟩:=Ze.1 hn
  obtain ⟨k,hk,rfl⟩:=Bb hx
  exact HK.1 (hall k hk).1
 ·obtain ⟨x,hx,rfl⟩:=Ze.1 hn
  obtain ⟨k,hk,rfl⟩:=Bb hx
  have h9:=(hall k hk).2.2 m hm
  unfold nP at h9
  have hs2:s.me∈aI L:=by
   obtain ⟨y,hy,rfl⟩:=Ze.1 hs
   exact Ze.2 ⟨y,hy,rfl⟩
  have hf:=J6 ((qq _).1 h2) hs2
  rw [he] at hf
  have hr:lH (aI L) m.1=s.me:=by unfold lH;rw [hf];rfl
  rw [hr] at h9
  have hnn:0<=s.me.1:=(((qq _).1 h2).nos _ hs2).1
  rw [Yt hnn,Bool.true_and] at h9
  simpa using h9
theorem Jc {w w':World} {R:World->Prop} {E:List Nd} {vo:Value} {L:List N3} {A:List Own} (hE:nds L=E) (h:∀ w9,(∀ p∈A,p.holds w w9)->R w9->kC w9 vo L) (s:St w A w'):Qa w R E (.agg #[vo]) w':=by
 refine ⟨vo,L,_,rfl,hE,(St.group (A:=A) (B:=[]) (by rw [Zj];exact s)).weak λw9 h9 hR=>h w9 h9 hR⟩
theorem Ll {x:N3} {acc:List N3} {y:N3} (h:y.1.me.1<x.1.me.1):putS x (acc,false) y=(acc++[y],false):=
 MH (.inr (Ys (by omega))) (Yt (by omega))
theorem Kx {x:N3} {acc:List N3} {y:N3} (h:y.1.me.1=x.1.me.1):putS x (acc,false) y=(acc++[x],true):=
 Tj rfl (Yt (by omega)) (Ys (by omega))
theorem Ld {x:N3} {acc:List N3} {y:N3} (h:x.1.me.1<y.1.me.1):putS x (acc,true) y=(acc++[y],true):=
 MH (.inl rfl) (Yt (by omega))
theorem oo {x:N3}:∀ (A acc:List N3),(∀ y∈A,y.1.me.1<x.1.me.1)->A.foldl (putS x) (acc,false)=(acc++A,false)
 |[],acc,_=>by rw [Zj];rfl
 |y::A,acc,h=>by
  rw [List.foldl_cons,Ll (h y YG),oo A _ λz hz=>h z (YQ _ hz),Zi];rfl
theorem sg {x:N3}:∀ (A acc:List N3),(∀ y∈A,x.1.me.1<y.1.me.1)->A.foldl (putS x) (acc,true)=(acc++A,true)
 |[],acc,_=>by rw [Zj];rfl
 |y::A,acc,h=>by
  rw [List.foldl_cons,Ld (h y YG),sg A _ λz hz=>h z (YQ _ hz),Zi];rfl
theorem JN {A B:List N3} {x y:N3} (hA:∀ z∈A,z.1.me.1<x.1.me.1) (hy:y.1.me.1=x.1.me.1) (hB:∀ z∈B,x.1.me.1<z.1.me.1):gi (A++y::B) x=A++x::B:=by
 have:gN x (A++y::B)=(A++x::B,true):=by
  unfold gN
  rw [List.foldl_append,oo A [] hA,List.nil_append,List.foldl_cons,Kx hy,sg B _ hB,Zi];rfl
 unfold gi;rw [this];rfl
structure RS (L:List N3):Prop where
 rn:∀ x∈L,RN x.1
 inc:L.Pairwise λa b=>a.1.me.1<b.1.me.1
 ring:Rg (aI L)
theorem RO.rs {L:List N3} (h:RO (nds L)):RS L:=by
 refine ⟨λx hx=>h.rn _ (Ze.2 ⟨x,hx,rfl⟩),?_,?_⟩
 ·have:=h.inc
  unfold nds at this
  rwa [List.pairwise_map] at this
 ·have:=h.ring
  unfold nds at this
  rw [List.map_map] at this;exact this
theorem RS.put {L:List N3} (h:RS L) {x y:N3} (hy:y∈L) (he:y.1.me=x.1.me) (hx:RN x.1):RS (gi L x)/\aI (gi L x)=aI L/\x∈gi L x:=by
 obtain ⟨A,B,rfl⟩:=List.append_of_mem hy
 have hp:=List.pairwise_append.1 h.inc
 have hp2:=List.pairwise_cons.1 hp.2.1
 have hno:y.1.me.1=x.1.me.1:=by rw [he]
 have e:=JN (x:=x) (λz hz=>by rw [← hno];exact hp.2.2 z hz y YG) hno (λz hz=>by rw [← hno];exact hp2.1 z hz)
 have em:aI (A++x::B)=aI (A++y::B):=by simp [aI,he]
 rw [e]
 refine ⟨⟨λz hz=>?_,?_,?_⟩,em,by simp⟩
 ·rcases Y4.1 hz with hz|hz
  ·exact h.rn z (List.mem_append_left _ hz)
  ·rcases YH.1 hz with rfl|hz
   ·exact hx
   ·exact h.rn z (List.mem_append_right _ (YQ _ hz))
 ·rw [List.pairwise_append,List.pairwise_cons]
  refine ⟨hp.1,⟨λz hz=>by rw [← hno];exact hp2.1 z hz,hp2.2⟩,λa ha b hb=>?_⟩
  rcases YH.1 hb with rfl|hb
  ·rw [← hno];exact hp.2.2 a ha y YG
  ·exact hp.2.2 a ha b (YQ _ hb)
 ·rw [em];exact h.ring
theorem RS.nos {L:List N3} (h:RS L):∀ m∈aI L,0<=m.1:=λm hm=>(h.ring.nos m hm).1
theorem RS.len {L:List N3} (h:RS L):L.length<=16:=by
 have:=h.ring.len
 simpa [aI] using this
theorem RS.get {L:List N3} (h:RS L) {no:Int} (hl:cC (aI L) no=true):cb L no∈L/\(cb L no).1.me.1=no:=by
 obtain ⟨m,hm,hno⟩:=(mD h.nos).1 hl
 obtain ⟨x,hx,rfl⟩:=Ze.1 hm
 unfold cb
 cases hf:L.find? λx=>decide (x.1.me.1=no) with
 |none=>exact ZF (Yt hno) (List.find?_eq_none.1 hf x hx)
 |some z=>exact ⟨List.mem_of_find?_eq_some hf,by have:=List.find?_some hf;exact Yq this⟩
def x6 (l:List Mb) (n:Nd):List Int:=((aM n).filter λm => !cC l m.1).map (·.1)
def fD (l:List Mb) (n:Nd):Nd:=⟨n.me,Ns n (x6 l n),uj (gy n.sc (x6 l n) n.me.1) n.me,gy n.fg (x6 l n) n.me.1⟩
theorem Hx {l:List Mb} {n:Nd} (h:RN n):fD l n=⟨n.me,Dp n (x6 l n),uj (ep n.sc (x6 l n)) n.me,ep n.fg (x6 l n)⟩:=by
 unfold fD;rw [KD h,II h,Iv h]
theorem FH {l:List Mb} {n:Nd} (h:RN n):RN (fD l n):=by rw [Hx h];exact KR h _
theorem qZ {l:List Mb} {n:Nd} (h:RN n) (hm:cC l n.me.1=true):cC l ((fD l n).sc.getD 0 bE).1=true:=by
 rw [Hx h]
 show cC l ((uj (ep n.sc (x6 l n)) n.me).getD 0 bE).1=true
 by_cases h0:(ep n.sc (x6 l n)).length=0
 ·rw [EI h0];exact hm
 ·rw [Bx h0]
  have hx:=mC (l:=ep n.sc (x6 l n)) (j:=0) (by omega)
  obtain ⟨h1,h2⟩:=YZ.1 hx
  cases hl:cC l ((ep n.sc (x6 l n)).getD 0 bE).1 with
  |true=>rfl
  |false=>
   exfalso
   have h3:ia (x6 l n) ((ep n.sc (x6 l n)).getD 0 bE)=true:=vy.2 (by
    show _∈((aM n).filter λm => !cC l m.1).map (·.1)
    refine Ze.2 ⟨_,YZ.2 ⟨?_,by rw [hl];rfl⟩,rfl⟩
    unfold aM
    exact YQ _ (List.mem_append_left _ h1))
   rw [h3] at h2;cases h2
def qB (l:List Mb) (s:Nd):Nd:=⟨s.me,bif cC l s.pr.1 then s.pr else fc,s.sc,s.fg⟩
theorem zd {l:List Mb} {s:Nd} (h:RN s):RN (qB l s):=by
 have key:(qB l s).pr=s.pr∨(qB l s).pr=fc:=by
  unfold qB
  cases cC l s.pr.1 with
  |true=>exact .inl rfl
  |false=>exact .inr rfl
 refine ⟨h.me,?_,h.sc,h.fg⟩
 rcases key with e|e
 ·rw [e];exact h.pr
 ·exact .inl e
def uW (n1 s:Nd):Nd:=⟨n1.me,n1.pr,Li n1 s,n1.fg⟩
theorem yl {n1 s:Nd} (h:RN n1) (hs:RN s):RN (uW n1 s):=Jf h hs
def MW (g:Nd) (me:Mb):Nd:=⟨g.me,r5 g me,g.sc,g.fg⟩
theorem Fn {g:Nd} {me:Mb} (h:RN g) (hm:0<=me.1/\me.1<16):RN (MW g me):=KA h (mv.2 hm)
def gc (E:List Nd):List Mb:=E.map (·.me)
def jK (E:List Nd) (no:Int):List Nd:=
 let n1:=fD (gc E) (xC E no)
 let E1:=tJ E n1
 let s:=qB (gc E1) (xC E1 (n1.sc.getD 0 bE).1)
 let n2:=uW n1 s
 let E2:=tJ E1 n2
 let fi:=(n2.sc.getD 0 bE).1
 bif cC (gc E2) fi then tJ E2 (MW (xC E2 fi) n2.me) else E2
theorem eR (L:List N3):gc (nds L)=aI L:=by unfold gc nds;rw [List.map_map];rfl
theorem BG (L:List N3) (no:Int) {u1 u2 f1:Value} {L1 L2:List N3} (h1:L1=gi L (fD (aI L) (cb L no).1,u1,u2)) (h2:L2=gi L1 (uW (fD (aI L) (cb L no).1) (qB (aI L1) (cb L1 ((fD (aI L) (cb L no).1).sc.getD 0 bE).1).1),f1,u2)):
 jK (nds L) no=bif cC (aI L2) ((uW (fD (aI L) (cb L no).1) (qB (aI L1) (cb L1 ((fD (aI L) (cb L no).1).sc.getD 0 bE).1).1)).sc.getD 0 bE).1
  then tJ (nds L2) (MW (xC (nds L2) ((uW (fD (aI L) (cb L no).1) (qB (aI L1) (cb L1 ((fD (aI L) (cb L no).1).sc.getD 0 bE).1).1)).sc.getD 0 bE).1) (fD (aI L) (cb L no).1).me) else nds L2:=by
 have e1:nds L1=tJ (nds L) (fD (aI L) (cb L no).1):=by rw [h1,pM]
 have e2:nds L2=tJ (nds L1) (uW (fD (aI L) (cb L no).1) (qB (aI L1) (cb L1 ((fD (aI L) (cb L no).1).sc.getD 0 bE).1).1)):=by rw [h2,pM]
 unfold jK
 simp only [eR,← t7,← e1,← e2]
 rfl
theorem St.grp0 {w0 w:World} {B:List Own} {S:World->Prop} (s:St w0 B w) (h:∀ w9,S w9):St w0 (.grp [] S::B) w:=
 (St.group (A:=[]) (B:=B) s).weak λw9 _=>h w9
theorem St.merge {w0 w:World} {k1 k2:List Nat} {S1 S2 S:World->Prop} {B:List Own} (s:St w0 (.grp k1 S1::.grp k2 S2::B) w) (h:∀ w9,S1 w9->S2 w9->S w9):St w0 (.grp (k1++k2) S::B) w:=by
 have g:=St.group (A:=[.grp k1 S1,.grp k2 S2]) (B:=B) s
 have e:[Own.grp k1 S1,.grp k2 S2].flatMap Own.ks=k1++k2:=by simp [Own.ks]
 unfold Own.all at g
 rw [e] at g
 exact g.weak λw9 h9=>h w9 ((h9 (.grp k1 S1) (by simp)).2 w9 λ_ _=>rfl) ((h9 (.grp k2 S2) (by simp)).2 w9 λ_ _=>rfl)
theorem DI {L K:List N3} (h:nds L=nds K) (hL:RS L):RS K:=by
 have hm:aI K=aI L:=by rw [← eR,← eR,h]
 refine ⟨λx hx=>?_,?_,by rw [hm];exact hL.ring⟩
 ·have:x.1∈nds L:=by rw [h];exact Ze.2 ⟨x,hx,rfl⟩
  obtain ⟨y,hy,e⟩:=Ze.1 this
  rw [← e];exact hL.rn y hy
 ·have h1:(nds L).Pairwise λa b=>a.me.1<b.me.1:=by unfold nds;rw [List.pairwise_map];exact hL.inc
  rw [h] at h1
  unfold nds at h1
  rwa [List.pairwise_map] at h1
theorem LV {L K:List N3} {no:Int} (h:RS L) (hl:cC (aI L) no=true) (hK:nds K=jK (nds L) no):RS K/\aI K=aI L:=by
 obtain ⟨hgm,hgn⟩:=h.get hl
 have hgr:=h.rn _ hgm
 have hT1:=FH (l:=aI L) hgr
 obtain ⟨L1,hL1⟩:∃ x,x=gi L (fD (aI L) (cb L no).1,aj,aj):=⟨_,rfl⟩
 obtain ⟨hrs1,hm1,hi1⟩:=h.put (x:=(fD (aI L) (cb L no).1,aj,aj)) hgm rfl hT1
 rw [← hL1] at hrs1 hm1 hi1
 have hf1:cC (aI L1) ((fD (aI L) (cb L no).1).sc.getD 0 bE).1=true:=by rw [hm1];exact qZ hgr (by rw [hgn];exact hl)
 obtain ⟨hgm1,hgn1⟩:=hrs1.get hf1
 have hsr:=hrs1.rn _ hgm1
 obtain ⟨L2,hL2⟩:∃ x,x=gi L1 (uW (fD (aI L) (cb L no).1) (qB (aI L1) (cb L1 ((fD (aI L) (cb L no).1).sc.getD 0 bE).1).1),aj,aj):=⟨_,rfl⟩
 obtain ⟨hrs2,hm2,hi2⟩:=hrs1.put (x:=(uW (fD (aI L) (cb L no).1) (qB (aI L1) (cb L1 ((fD (aI L) (cb L no).1).sc.getD 0 bE).1).1),aj,aj)) hi1 rfl (yl hT1 (zd hsr))
 rw [← hL2] at hrs2 hm2 hi2
 rw [BG L no hL1 hL2] at hK
 cases hb:cC (aI L2) ((uW (fD (aI L) (cb L no).1) (qB (aI L1) (cb L1 ((fD (aI L) (cb L no).1).sc.getD 0 bE).1).1)).sc.getD 0 bE).1 with
 |false=>
  rw [hb] at hK
  have hK:nds L2=nds K:=hK.symm
  exact ⟨DI hK hrs2,by rw [← eR,← hK,eR,hm2,hm1]⟩
 |true=>
  rw [hb] at hK
  obtain ⟨hg2,hn2⟩:=hrs2.get hb
  obtain ⟨hrs3,hm3,_⟩:=hrs2.put (x:=(MW (cb L2 ((uW (fD (aI L) (cb L no).1) (qB (aI L1) (cb L1 ((fD (aI L) (cb L no).1).sc.getD 0 bE).1).1)).sc.getD 0 bE).1).1 (fD (aI L) (cb L no).1).me,aj,aj)) hg2 rfl (Fn (hrs2.rn _ hg2) hT1.me)
  have hK:nds (gi L2 (MW (cb L2 ((uW (fD (aI L) (cb L no).1) (qB (aI L1) (cb L1 ((fD (aI L) (cb L no).1).sc.getD 0 bE).1).1)).sc.getD 0 bE).1).1 (fD (aI L) (cb L no).1).me,aj,aj))=nds K:=by rw [pM,t7];exact hK.symm
  exact ⟨DI hK hrs3,by rw [← eR,← hK,eR,hm3,hm2,hm1]⟩
def ND (E:List Nd):List Nd:=(gc E).foldl (λF m=>jK F m.1) E
def Yn (l:List Mb) (no:Int) (m:Mb):Bool:=cC l m.1 && decide (m.1≠no)
def Xj (l:List Mb) (no:Int) (g:Nd):List Mb:=g.sc.filter (Yn l no)
def Xz (l:List Mb) (n g:Nd):Bool:=decide (n.sc.length=1) && (decide (n.sc.getD 0 bE=g.me) && decide (0<(Xj l n.me.1 g).length))
def XU (l:List Mb) (n g:Nd):List Mb:=bif Xz l n g then Xj l n.me.1 g else uj (gy n.sc [g.me.1] n.me.1) n.me
def XS (l:List Mb) (n g:Nd):Bool:=decide (n.pr=g.me) && (cC l g.pr.1 && decide (g.pr.1≠n.me.1))
def XX (l:List Mb) (n g:Nd):Mb:=bif XS l n g then g.pr else Ns n [g.me.1]
def Ye (l:List Mb) (n g:Nd):Nd:=⟨n.me,XX l n g,XU l n g,gy n.fg [g.me.1] n.me.1⟩
theorem FM {w w':World} {N:TypeId} {R:World->Prop} {E:List Nd} {vo:Value} {L:List N3} {ks:List Nat} (hE:nds L=E) (s:St w [.sl vo N 68 L.length (aK L),.grp ks (jM L)] w'):Qa w R E (.agg #[vo]) w':=
 Jc hE (λw9 h9 _=>⟨bp.of_own (h9 (.sl vo N 68 L.length (aK L)) (by simp)),(h9 (.grp ks (jM L)) (by simp)).2 w9 λ_ _=>rfl⟩) s
theorem St.grpR {w0 w:World} {a b:Value} {M N:TypeId} {sa sb n m:Nat} {xs ys:List Value} {ks:List Nat} {S S':World->Prop} {B:List Own} (s:St w0 (.sl a M sa n xs::.sl b N sb m ys::.grp ks S::B) w) (h:∀ w9,bp w9 a sa n xs->bp w9 b sb m ys->S w9->S' w9):∃ kn,St w0 (.grp kn S'::B) w:=
 ⟨_,(St.group (A:=[.sl a M sa n xs,.sl b N sb m ys,.grp ks S]) (B:=B) s).weak λw9 h9=>h w9 (bp.of_own (h9 (.sl a M sa n xs) (by simp))) (bp.of_own (h9 (.sl b N sb m ys) (by simp))) ((h9 (.grp ks S) (by simp)).2 w9 λ_ _=>rfl)⟩
def Dx (E:List Nd) (no:Int):List Nd:=(zR E no).map λy=>Ye (gc (zR E no)) y (xC E no)
def Q0 (w:World) (R:World->Prop) (E:List Nd) (k:Int):c8:=λv w'=>∃ o,v=.tuple #[o,.int .i64 k]/\Qa w R E o w'
theorem o4 {w w':World} {B:List Own} {R:World->Prop} {E:List Nd} {k q:Int} (s:St w B w') (hE:E=[]) (hk:k=q):Q0 w R E k (.tuple #[.agg #[aj],.int .i64 q]) w':=by
 subst hE;subst hk;exact ⟨_,rfl,Kc s⟩
theorem yd {w w':World} {R:World->Prop} {E:List Nd} {k q:Int} {o:Value} (hk:k=q) (h:Qa w R E o w'):Q0 w R E k (.tuple #[o,.int .i64 q]) w':=by
 subst hk;exact ⟨_,rfl,h⟩
def mB (m y:Mb):Bool:=decide (y.1=m.1) && !decide (y=m)
def nX (L:List N3) (m:Mb) (k:Nat):Bool:=decide ((L.getD k z3).1.me.1=m.1) || (decide ((L.getD k z3).1.me.2=m.2) || (aM (L.getD k z3).1).any (mB m))
def Do (L:List N3) (m:Mb):Bool:=(List.range L.length).any (nX L m)
def Hv (L:List N3) (m:Mb) (no:Int):Int:=bif Do L m then 7 else bif decide (0<L.length) && !cC (aI L) no then 10 else 0
def Q1 (L:List N3) (m:Mb) (no:Int):Mb:=bif decide (0<L.length) then (cb L no).1.me else m
def Ta (L:List N3) (m:Mb) (no:Int):List Nd:=bif decide (Hv L m no=0) then tJ (nds L) ⟨m,fc,[Q1 L m no],[]⟩ else []
theorem RJ {L:List N3} {m:Mb} {k:Nat} (hk:k<L.length) (h:nX L m k=true):Do L m=true:=Zt.2 ⟨k,YI.2 hk,h⟩
theorem VO {L:List N3} {m:Mb} {k:Nat} (hk:L.length<=k) (h:∀ j,j<k->nX L m j=false):Do L m=false:=by
 unfold Do
 rw [Zu]
 intro j hj
 rw [h j (by have:=YI.1 hj;omega)];decide
theorem NK {L:List N3} {m:Mb} {k:Nat} (h:decide ((L.getD k z3).1.me.1=m.1)=true):nX L m k=true:=by unfold nX;rw [h];rfl
theorem Ti {L:List N3} {m:Mb} {k:Nat} (h:decide ((L.getD k z3).1.me.2=m.2)=true):nX L m k=true:=by unfold nX;rw [h];simp
theorem Tf {L:List N3} {m:Mb} {k j:Nat} (hj:j<(aM (L.getD k z3).1).length) (h:mB m ((aM (L.getD k z3).1).getD j bE)=true):nX L m k=true:=by
 unfold nX
 have:(aM (L.getD k z3).1).any (mB m)=true:=Zt.2 ⟨_,mC hj,h⟩
 rw [this];simp
theorem S7 {L:List N3} {m:Mb} {k j:Nat} (h0:decide ((L.getD k z3).1.me.1=m.1)=false) (h1:decide ((L.getD k z3).1.me.2=m.2)=false) (hj:(aM (L.getD k z3).1).length<=j) (h2:∀ i,i<j->mB m ((aM (L.getD k z3).1).getD i bE)=false):nX L m k=false:=by
 unfold nX
 have e2:(aM (L.getD k z3).1).any (mB m)=false:=by
  rw [Zu]
  intro x hx
  obtain ⟨i,hi,rfl⟩:=rr hx
  rw [h2 i (by omega)];decide
 rw [h0,h1,e2];rfl
theorem TE {L:List N3} {m:Mb} {no:Int} (h:Do L m=true):Hv L m no=7:=by unfold Hv;rw [h];rfl
theorem Mk {L:List N3} {m:Mb} {no:Int} (h:Do L m=false) (h0:0<L.length) (h1:cC (aI L) no=false):Hv L m no=10:=by unfold Hv;rw [h,Yt h0,h1];rfl
theorem Kv {L:List N3} {m:Mb} {no:Int} (h:Do L m=false) (h0:¬ 0<L.length∨cC (aI L) no=true):Hv L m no=0:=by
 unfold Hv;rw [h]
 rcases h0 with h0|h0
 ·rw [Ys h0];rfl
 ·rw [h0];simp
theorem Mh {L:List N3} {m:Mb} {no k:Int} (h:Hv L m no=k) (h0:k≠0):Ta L m no=[]:=by unfold Ta;rw [Ys (by rw [h];exact h0)];rfl
theorem Wo {L:List N3} {m:Mb} {no:Int} (h:0<L.length):Q1 L m no=(cb L no).1.me:=by unfold Q1;rw [Yt h];rfl
theorem U5 {L:List N3} {m:Mb} {no:Int} (h:¬ 0<L.length):Q1 L m no=m:=by unfold Q1;rw [Ys h];rfl
def cE (L:List N3) (no:Int):Int:=bif lD L then bif cC (aI L) no then 0 else 10 else 1
def Dq (L:List N3) (m:Mb):Bool:=lD L && fy m
def nQ (L:List N3) (m:Mb) (no:Int):Int:=bif Dq L m then Hv L m no else 1
def ra (L:List N3) (m:Mb) (no:Int):List Nd:=bif Dq L m then Ta L m no else []
def RB (L:List N3) (no:Int):List Nd:=bif decide (cE L no=0) then zR (nds L) no else []
abbrev Em (vo:Value) (L:List N3):World->Prop:=λw9=>kC w9 vo L
structure BdE (E:List Nd):Prop where
 len:E.length<=40
 each:∀ n∈E,n.sc.length<=300/\n.fg.length<=300
theorem BdE.l {L:List N3} {E:List Nd} (h:BdE E) (e:nds L=E):L.length<=40:=by subst e;have:=h.len;simpa [nds] using this
theorem BdE.r {L:List N3} {E:List Nd} (h:BdE E) (e:nds L=E):RwB L:=by subst e;exact ⟨λx hx=>h.each _ (Ze.2 ⟨x,hx,rfl⟩)⟩
def jj (E:List Nd):List N3:=E.map λn=>(n,aj,aj)
theorem yD (E:List Nd):nds (jj E)=E:=by unfold nds jj;rw [List.map_map];exact List.map_id E
theorem RR {L:List N3} {no k:Int} (h:cE L no=k) (h0:k≠0):RB L no=[]:=by unfold RB;rw [Ys (by rw [h];exact h0)];rfl
theorem Rq {L:List N3} {no:Int} (h:cE L no=0):RB L no=zR (nds L) no:=by unfold RB;rw [Yt h];rfl
def Q3 (E:List Nd):c8:=λv w=>∃ vo L,v=.agg #[vo]/\nds L=E/\kC w vo L
theorem Q3.mono (E:List Nd):nT (Q3 E):=λ_ _ _ ⟨vo,L,h1,h2,h3⟩ hE=>⟨vo,L,h1,h2,h3.keep hE⟩
theorem Qa.d {w w':World} {R:World->Prop} {E:List Nd} {v:Value} (h:Qa w R E v w') (hR:R w'):Q3 E v w':=by
 obtain ⟨vo,L,ks,h1,h2,h3⟩:=h
 exact ⟨vo,L,h1,h2,h3.getG 0 rfl hR⟩
theorem WZ.d {w w':World} {N:TypeId} {K:List N3} {E:List Nd} {v:Value} (h:WZ w N K v w') (e:nds K=E) (hr:∀ y∈K,BT w' y):Q3 E v w':=by
 obtain ⟨vo,h1,h2⟩:=h
 exact ⟨vo,K,h1,e,bp.of_own h2,hr⟩
def Qb (E:List Nd) (k:Int):c8:=λv w=>∃ o,v=.tuple #[o,.int .i64 k]/\Q3 E o w
theorem Qb.mono (E:List Nd) (k:Int):nT (Qb E k):=λ_ _ _ ⟨o,h1,h2⟩ hE=>⟨o,h1,Q3.mono E _ _ _ h2 hE⟩
theorem Q0.d {w w':World} {R:World->Prop} {E:List Nd} {k:Int} {v:Value} (h:Q0 w R E k v w') (hR:R w'):Qb E k v w':=by
 obtain ⟨o,h1,h2⟩:=h
 exact ⟨o,h1,h2.d hR⟩
theorem Mm {L:List N3} {m:Mb} (h:lD L=false):Dq L m=false:=by unfold Dq;rw [h];rfl
theorem tK {L:List N3} {m:Mb} {no:Int} (h:Dq L m=false):nQ L m no=1/\ra L m no=[]:=by unfold nQ ra;rw [h];exact ⟨rfl,rfl⟩
theorem qv {L:List N3} {m:Mb} {no:Int} (h:Dq L m=true):nQ L m no=Hv L m no/\ra L m no=Ta L m no:=by unfold nQ ra;rw [h];exact ⟨rfl,rfl⟩
def GS (l:List Mb) (m:Mb):Prop:=∀ s∈l,s.1=m.1->s=m
structure RK (L:List N3):Prop where
 rs:RS L
 kn:∀ x∈L,∀ m∈aM x.1,GS (aI L) m
theorem RK.ov {L:List N3} (h:RK L):lD L=true:=by
 have hb:∀ k,k<L.length->jt L k=false:=λk hk=>by
  refine V3 (j:=(aM (L.getD k z3).1).length) (HK.2 (h.rs.rn _ (cF hk))) ?_ (YM _) λi hi=>?_
  ·by_cases h0:0<k
   ·refine .inr (Ys ?_)
    have:=List.pairwise_iff_getElem.1 h.rs.inc (k - 1) k (by omega) hk (by omega)
    rw [uX,uX] at this
    omega
   ·exact .inl (Ys h0)
  ·have hm:=mC hi
   cases hc:decide (0<=(lH (aI L) ((aM (L.getD k z3).1).getD i bE).1).1) with
   |false=>exact Wg hc
   |true=>
    rw [We hc]
    have hc:=Yq hc
    rcases Bi (l:=aI L) (no:=((aM (L.getD k z3).1).getD i bE).1) with h9|⟨s,h9,hs,hno⟩
    ·unfold lH at hc;rw [h9] at hc
     exact ZF hc (by decide)
    ·have e:lH (aI L) ((aM (L.getD k z3).1).getD i bE).1=s:=by unfold lH;rw [h9];rfl
     rw [e,Yt (h.kn _ (cF hk) _ hm s hs hno)];rfl
 rw [IC (YM _) hb]
 exact(qq _).2 h.rs.ring
theorem Mu {L K:List N3} (h:nds L=nds K) (hL:RK L):RK K:=by
 have hm:aI K=aI L:=by rw [← eR,← eR,h]
 refine ⟨DI h hL.rs,λx hx m hx2=>?_⟩
 have:x.1∈nds L:=by rw [h];exact Ze.2 ⟨x,hx,rfl⟩
 obtain ⟨y,hy,e⟩:=Ze.1 this
 rw [hm]
 exact hL.kn y hy m (by rw [e];exact hx2)
theorem MJ {l:List Mb} (h:Rg l):GS l fc:=λs hs e=>by
 have h1:=(h.nos s hs).1
 have e:s.1 = -1:=e
 omega
theorem BA {l:List Mb} (h:Rg l) {m:Mb} (hm:m∈l):GS l m:=λ_ hs e=>h.no hs hm e
theorem RK.put {L:List N3} (h:RK L) {x y:N3} (hy:y∈L) (he:y.1.me=x.1.me) (hx:RN x.1) (hk:∀ m∈aM x.1,GS (aI L) m):RK (gi L x):=by
 obtain ⟨h1,h2,_⟩:=h.rs.put hy he hx
 refine ⟨h1,λz hz m hm=>?_⟩
 rw [h2]
 rcases N8 hz with rfl|hz
 ·exact hk m hm
 ·exact h.kn z hz m hm
theorem Pj (n:Nd) (nos:List Int):Ns n nos=fc∨Ns n nos=n.pr:=by
 unfold Ns
 cases (!decide (n.pr=fc) && decide ((gy [n.pr] nos n.me.1).length=0)) with
 |true=>exact .inl rfl
 |false=>exact .inr rfl
theorem DM {l:List Mb} {me x:Mb} (h:x∈uj l me):x=me∨x∈l:=by
 by_cases h0:l.length=0
 ·rw [EI h0] at h;exact .inl (YF.1 h)
 ·rw [Bx h0] at h;exact .inr h
theorem xq {l:List Mb} {nos:List Int} {no:Int} {x:Mb} (h:x∈gy l nos no):x∈l:=(YZ.1 h).1
theorem Kt {n s:Nd} {x:Mb} (h:x∈Li n s):x=n.me∨x=s.pr∨x=s.me∨x∈s.sc:=by
 rcases DM h with h|h
 ·exact .inl h
 ·rcases uJ _ [] h with h|h
  ·cases h
  ·have h:=(uF h).1
   rcases YH.1 h with h|h
   ·unfold SZ at h
    cases hb:UR n.me s with
    |true=>rw [hb] at h;exact .inr (.inl h)
    |false=>rw [hb] at h;exact .inr (.inr (.inl h))
   ·rcases YH.1 h with h|h
    ·exact .inr (.inr (.inl h))
    ·exact .inr (.inr (.inr h))
theorem OF (n:Nd) (x:Mb):r5 n x=x∨r5 n x=n.pr:=by
 unfold r5
 cases decide (x.1≠n.me.1) && (decide (x.2≠n.me.2) && (decide (n.pr=fc) || L4 x.2 n.pr.2 n.me.2)) with
 |true=>exact .inl rfl
 |false=>exact .inr rfl
theorem O4 {l:List Mb} {n:Nd} (hr:Rg l) (hm:n.me∈l) (h:∀ m∈aM n,GS l m):∀ m∈aM (fD l n),GS l m:=λm hx=>by
 have hx:m∈Ns n (x6 l n)::(uj (gy n.sc (x6 l n) n.me.1) n.me++gy n.fg (x6 l n) n.me.1):=hx
 rcases YH.1 hx with hx|hx
 ·rcases Pj n (x6 l n) with e|e
  ·rw [hx,e];exact MJ hr
  ·rw [hx,e];exact h _ YG
 ·rcases Y4.1 hx with hx|hx
  ·rcases DM hx with hx|hx
   ·rw [hx];exact BA hr hm
   ·exact h _ (YQ _ (List.mem_append_left _ (xq hx)))
  ·exact h _ (YQ _ (List.mem_append_right _ (xq hx)))
theorem Nx {l l':List Mb} {n s:Nd} (hr:Rg l) (hm:n.me∈l) (hs:s.me∈l) (h:∀ m∈aM n,GS l m) (h2:∀ m∈aM s,GS l m):∀ m∈aM (uW n (qB l' s)),GS l m:=λm hx=>by
 have hx:m∈n.pr::(Li n (qB l' s)++n.fg):=hx
 rcases YH.1 hx with hx|hx
 ·rw [hx];exact h _ YG
 ·rcases Y4.1 hx with hx|hx
  ·rcases Kt hx with hx|hx|hx|hx
   ·rw [hx];exact BA hr hm
   ·have hx:m=bif cC l' s.pr.1 then s.pr else fc:=hx
    cases hb:cC l' s.pr.1 with
    |true=>rw [hb] at hx;rw [hx];exact h2 _ YG
    |false=>rw [hb] at hx;rw [hx];exact MJ hr
   ·rw [hx];exact BA hr hs
   ·exact h2 _ (YQ _ (List.mem_append_left _ hx))
  ·exact h _ (YQ _ (List.mem_append_right _ hx))
theorem Od {l:List Mb} {g:Nd} {me:Mb} (hr:Rg l) (hm:me∈l) (h:∀ m∈aM g,GS l m):∀ m∈aM (MW g me),GS l m:=λm hx=>by
 have hx:m∈r5 g me::(g.sc++g.fg):=hx
 rcases YH.1 hx with hx|hx
 ·rcases OF g me with e|e
  ·rw [hx,e];exact BA hr hm
  ·rw [hx,e];exact h _ YG
 ·exact h _ (YQ _ hx)
theorem t8 {L:List N3} {x:N3} (h:x∈L):x.1.me∈aI L:=Ze.2 ⟨x,h,rfl⟩
theorem J8 {L K:List N3} {no:Int} (h:RK L) (hl:cC (aI L) no=true) (hK:nds K=jK (nds L) no):RK K:=by
 obtain ⟨hgm,hgn⟩:=h.rs.get hl
 have hgr:=h.rs.rn _ hgm
 have hT1:=FH (l:=aI L) hgr
 have hk1:=O4 h.rs.ring (t8 hgm) (h.kn _ hgm)
 obtain ⟨L1,hL1⟩:∃ x,x=gi L (fD (aI L) (cb L no).1,aj,aj):=⟨_,rfl⟩
 obtain ⟨hrs1,hm1,hi1⟩:=h.rs.put (x:=(fD (aI L) (cb L no).1,aj,aj)) hgm rfl hT1
 have hr1:=h.put (x:=(fD (aI L) (cb L no).1,aj,aj)) hgm rfl hT1 hk1
 rw [← hL1] at hrs1 hm1 hi1 hr1
 have hf1:cC (aI L1) ((fD (aI L) (cb L no).1).sc.getD 0 bE).1=true:=by rw [hm1];exact qZ hgr (by rw [hgn];exact hl)
 obtain ⟨hgm1,hgn1⟩:=hrs1.get hf1
 have hsr:=hrs1.rn _ hgm1
 have hk2:=Nx (l':=aI L1) hrs1.ring (t8 hi1) (t8 hgm1) (hr1.kn _ hi1) (hr1.kn _ hgm1)
 obtain ⟨L2,hL2⟩:∃ x,x=gi L1 (uW (fD (aI L) (cb L no).1) (qB (aI L1) (cb L1 ((fD (aI L) (cb L no).1).sc.getD 0 bE).1).1),aj,aj):=⟨_,rfl⟩
 obtain ⟨hrs2,hm2,hi2⟩:=hrs1.put (x:=(uW (fD (aI L) (cb L no).1) (qB (aI L1) (cb L1 ((fD (aI L) (cb L no).1).sc.getD 0 bE).1).1),aj,aj)) hi1 rfl (yl hT1 (zd hsr))
 have hr2:=hr1.put (x:=(uW (fD (aI L) (cb L no).1) (qB (aI L1) (cb L1 ((fD (aI L) (cb L no).1).sc.getD 0 bE).1).1),aj,aj)) hi1 rfl (yl hT1 (zd hsr)) hk2
 rw [← hL2] at hrs2 hm2 hi2 hr2
 rw [BG L no hL1 hL2] at hK
 cases hb:cC (aI L2) ((uW (fD (aI L) (cb L no).1) (qB (aI L1) (cb L1 ((fD (aI L) (cb L no).1).sc.getD 0 bE).1).1)).sc.getD 0 bE).1 with
 |false=>
  rw [hb] at hK
  have hK:nds L2=nds K:=hK.symm
  exact Mu hK hr2
 |true=>
  rw [hb] at hK
  obtain ⟨hg2,hn2⟩:=hrs2.get hb
  have hme2:(fD (aI L) (cb L no).1).me∈aI L2:=by have h9:=t8 hi2;exact h9
  have hr3:=hr2.put (x:=(MW (cb L2 ((uW (fD (aI L) (cb L no).1) (qB (aI L1) (cb L1 ((fD (aI L) (cb L no).1).sc.getD 0 bE).1).1)).sc.getD 0 bE).1).1 (fD (aI L) (cb L no).1).me,aj,aj)) hg2 rfl (Fn (hrs2.rn _ hg2) hT1.me) (Od hrs2.ring hme2 (hr2.kn _ hg2))
  have hK:nds (gi L2 (MW (cb L2 ((uW (fD (aI L) (cb L no).1) (qB (aI L1) (cb L1 ((fD (aI L) (cb L no).1).sc.getD 0 bE).1).1)).sc.getD 0 bE).1).1 (fD (aI L) (cb L no).1).me,aj,aj))=nds K:=by rw [pM,t7];exact hK.symm
  exact Mu hK hr3
end Go.Proofs.YtkhepdpfdhdlaaaGreatDoor
namespace Go.Proofs.YtkhepdpfdhdlaaaGreatDoor
open Go.RowKit Go.ChangeShapes Go.WideShapes Go.ChangeAt
theorem Gv {H:Type} {enc:TypeId × Value->H} {P:Program} {W:World} {tm ts t tn ti e:TypeId} {g0 g1 g2 g3 f0 f1:Field} {fuel:Nat} {cs:List Value} {x:DataW H × List MemPlace} (T:IdTy P ti e) (hc:P.cellsOf ti=32) (hce:P.cellsOf e=1) (hn:P.underlying tn=some (.int .i64)) (hcn:P.cellsOf tn=1)
 (hcs:P.cellsOf ts=1) (hts:P.underlying ts=some (.slice t)) (ht:P.underlying t=some (.struct #[f0,f1])) (h0:f0.type=tn) (h1:f1.type=ti) (o0:f0.offset=0) (o1:f1.offset=1) (hct:P.cellsOf t=33)
 (htm:P.underlying tm=some (.struct #[g0,g1,g2,g3])) (ht0:g0.type=t) (ht1:g1.type=t) (ht2:g2.type=ts) (ht3:g3.type=ts) (Nn:g0.offset=0) (ho1:g1.offset=33) (ho2:g2.offset=66) (ho3:g3.offset=67) (hctm:P.cellsOf tm=68)
 (hf:DataW.trod enc P W 0 (λ_=>true) true fuel tm cs=some x):∃ y:N3,cs=yX y/\BT W y:=by
 obtain ⟨xs,n,hcells,_,hl,hxl,hel⟩:=DataW.trod_struct htm hf
 have hcl:cs.length=68:=by rw [← hctm];simpa using hl
 have hx4:xs.length=4:=by simpa using hxl
 have e0:=hel 0 g0 rfl
 have e1:=hel 1 g1 rfl
 have e2:=hel 2 g2 rfl
 have e3:=hel 3 g3 rfl
 rw [ht0,Nn,hct,Yz (by omega)] at e0
 rw [ht1,ho1,hct,Yz (by omega)] at e1
 rw [ht2,ho2,hcs,Yz (by omega)] at e2
 rw [ht3,ho3,hcs,Yz (by omega)] at e3
 obtain ⟨a,ha⟩:=o6 T hc hce hn hcn ht h0 h1 o0 o1 hct e0
 obtain ⟨b,hb⟩:=o6 T hc hce hn hcn ht h0 h1 o0 o1 hct e1
 obtain ⟨u,ls,hu,hls⟩:=qX T hc hce hn hcn hts ht h0 h1 o0 o1 hct e2
 obtain ⟨u2,ls2,hu2,hls2⟩:=qX T hc hce hn hcn hts ht h0 h1 o0 o1 hct e3
 exact ⟨(⟨a,b,ls,ls2⟩,u,u2),KP hcl ha hb hu hu2,hls,hls2⟩
end Go.Proofs.YtkhepdpfdhdlaaaGreatDoor
