/- Overlays: rows of nodes, each with its rows: which may be, which are stable, what tending, coming, leaving and failing make of them, that what may be stays such; overlays that come in; no Go in it. -/
import Derived.Test.YthmlflaiidhoiaaGreatDoorNd
set_option linter.unusedVariables false
set_option linter.unusedSimpArgs false
set_option linter.unusedSectionVars false
namespace Go.Proofs.YthmlflaiidhoiaaGreatDoor
open Go.RowKit
theorem Sg {a b:Nd} (h1:a.me=b.me) (h2:a.pr=b.pr) (h3:a.sc=b.sc) (h4:a.fg=b.fg):a=b:=by cases a;cases b;simp_all
instance:DecidableEq Nd:=λa b=>
 if h:a.me=b.me/\a.pr=b.pr/\a.sc=b.sc/\a.fg=b.fg then .isTrue (Sg h.1 h.2.1 h.2.2.1 h.2.2.2) else .isFalse λe=>h (by subst e;exact ⟨rfl,rfl,rfl,rfl⟩)
def qC (w:World) (v:Value) (L:List N3):Prop:=a7 w v 68 L.length (au L)/\∀ x∈L,CW w x
theorem CW.keep {w w':World} {x:N3} (h:CW w x) (e:Ext w w'):CW w' x:=⟨h.1.keep e,h.2.keep e⟩
theorem qC.keep {w w':World} {v:Value} {L:List N3} (h:qC w v L) (e:Ext w w'):qC w' v L:=⟨h.1.keep e,λx hx=>(h.2 x hx).keep e⟩
abbrev nds (L:List N3):List Nd:=L.map (·.1)
theorem uw {L:List N3} {j:Nat} (hj:j<L.length):L[j]=L.getD j z3:=by rw [as6,aq8 hj];rfl
theorem bE {L:List N3} {j:Nat} (hj:j<L.length):L.getD j z3∈L:=by rw [← uw hj];exact aw0 hj
theorem yD {L:List N3} {x:N3} (h:x∈L):∃ j,j<L.length/\L.getD j z3=x:=by
 obtain ⟨j,hj,rfl⟩:=List.mem_iff_getElem.1 h
 exact ⟨j,hj,(uw hj).symm⟩
theorem xo {L:List N3} {k:Nat} (h:k<L.length):L.take (k+1)=L.take k++[L.getD k z3]:=by rw [List.take_succ_eq_append_getElem h,uw h]
theorem AV (L:List N3):(au L).length=L.length*68:=f7 _ 68 lT L
theorem qR (L K:List N3):au (L++K)=au L++au K:=av2
theorem CW.ones {w:World} {x:N3} (h:CW w x):x.2.1.oneCell'=true/\x.2.2.oneCell'=true:=⟨bJ h.1,bJ h.2⟩
theorem SD {w:World} {v:Value} {L:List N3} (h:a7 w v 68 L.length (au L)) (k:Nat) (hk:k<=L.length):a7 w (gG v k) 68 (L.take k).length (au (L.take k)):=by
 have:=h.cut k hk
 unfold au at this
 rw [gE _ 68 lT] at this
 rw [au0,Nat.min_eq_left hk]
 exact this
theorem DN (L:List N3) (j:Nat) (hj:j<L.length):(au L)[j*68+0]? = some (.int .i64 (L.getD j z3).1.me.1):=by
 have h1:=aq3 (λa:Array Value=>a[0]?) (eZ L j hj)
 simp only [lG] at h1
 rw [← h1];simp
theorem qC.take {w:World} {v:Value} {L:List N3} (h:qC w v L) (k:Nat) (hk:k<=L.length):qC w (gG v k) (L.take k):=⟨SD h.1 k hk,λx hx=>h.2 x (List.mem_of_mem_take hx)⟩
theorem Qs (w:World):qC w aq []:=⟨⟨rfl,.inl ⟨rfl,rfl⟩⟩,λ_ h=>by cases h⟩
theorem lZ {v:Value} (h:v.oneCell'=true):∀ u∈(#[v]:Array Value).toList,u.oneCell'=true:=λu hu=>by
 have:u∈[v]:=hu
 rw [ar4] at this;rw [this];exact h
def ovZ:List (List Value):=[[.slice none 0 0]]
theorem x8 {P:Program} {ρ:Operand->Value} {d:Option Tmp} {ty:TypeId} {pos:String} {af:Array Edge} {g:Option (Nat × Bool)} {t:TypeId} (S:Stt P t ovZ):a8 P ⟨d,.build t #[],ty,pos,af,g⟩ ρ (.agg #[aq]):=
 cx (parts:=#[]) S [] (by simp) (λi v hm=>by simp at hm) (D:=[aq]) rfl
theorem St.weak {w0 w:World} {ks:List Nat} {S S':World->Prop} {B:List Own} (s:St w0 (.grp ks S::B) w) (h:∀ w',S w'->S' w'):St w0 (.grp ks S'::B) w:=by
 refine ⟨s.ext,λp hp=>?_,λp hp k hk=>?_,?_⟩
 ·rcases ar6.1 hp with rfl|hp
  ·have h0:=s.has _ ar5
   exact ⟨h0.1,λw' hw=>h w' (h0.2 w' hw)⟩
  ·exact s.has p (as5 _ hp)
 ·rcases ar6.1 hp with rfl|hp
  ·exact s.own _ ar5 k hk
  ·exact s.own p (as5 _ hp) k hk
 ·have hpw:=List.pairwise_cons.1 s.nd
  exact List.pairwise_cons.2 ⟨λq hq k hk=>hpw.1 q hq k hk,hpw.2⟩
theorem St.getG {w0 w:World} {ks:List Nat} {S:World->Prop} {B:List Own} (s:St w0 B w) (i:Nat) (hi:B[i]? = some (.grp ks S)):S w:=(s.has _ (List.mem_of_getElem? hi)).2 w λ_ _=>rfl
def UP (w:World) (R:World->Prop) (E:List Nd):cX:=λv w'=>∃ vo L ks,v=.agg #[vo]/\nds L=E/\St w [.grp ks λw9=>R w9->qC w9 vo L] w'
abbrev eI (L:List N3):World->Prop:=λw9=>∀ x∈L,CW w9 x
theorem NC {w w':World} {B:List Own} {R:World->Prop} (s:St w B w'):UP w R [] (.agg #[aq]) w':=by
 refine ⟨aq,[],_,rfl,rfl,(St.group (A:=[]) (B:=[]) (s.pick [] (as0 _))).weak λw9 _ _=>Qs w9⟩
abbrev av (L:List N3):List Mb:=L.map (·.1.me)
def aO (n:Nd):List Mb:=n.pr::(n.sc++n.fg)
def bu (l:List Mb) (no:Int):Bool:=decide ((o8 l no).1=no) && decide (0<=no)
theorem gD {l:List Mb} {no:Int} (hn:∀ m∈l,0<=m.1):bu l no=true↔∃ m∈l,m.1=no:=by
 unfold bu o8
 rw [aq5,ar0,ar0]
 rcases DF (l:=l) (no:=no) with h|⟨m,h,hm,hno⟩
 ·rw [h]
  constructor
  ·rintro ⟨h1,h2⟩
   have h1:(-1:Int)=no:=h1
   omega
  ·rintro ⟨m,hm,hno⟩
   exact ax7 (aq2 hno) (List.find?_eq_none.1 h m hm)
 ·rw [h]
  exact ⟨λ_=>⟨m,hm,hno⟩,λ_=>⟨hno,by have:=hn m hm;omega⟩⟩
def noN:Nd:=⟨fj,aS,[],[]⟩
def no3:N3:=(noN,aq,aq)
def br (L:List N3) (no:Int):N3:=(L.find? λx=>decide (x.1.me.1=no)).getD no3
theorem HX {L:List N3} {no:Int} {k:Nat} (hk:k<L.length) (h:∀ j,j<k->decide ((L.getD j z3).1.me.1=no)=false) (he:decide ((L.getD k z3).1.me.1=no)=true):br L no=L.getD k z3:=by
 unfold br
 have:L.find? (λx=>decide (x.1.me.1=no))=some (L.getD k z3):=by
  rw [List.find?_eq_some_iff_getElem]
  refine ⟨he,k,hk,uw hk,λj hj=>?_⟩
  rw [uw (by omega),h j hj];rfl
 rw [this];rfl
def ii (E:List Nd) (no:Int):Nd:=(E.find? λx=>decide (x.me.1=no)).getD noN
theorem jj (L:List N3) (no:Int):(br L no).1=ii (nds L) no:=by
 unfold br ii nds
 rw [List.find?_map]
 cases h:L.find? λx=>decide (x.1.me.1=no) with
 |none=>
  have:L.find? ((λx:Nd=>decide (x.me.1=no)) ∘ λx=>x.1)=none:=h
  rw [this];rfl
 |some x=>
  have:L.find? ((λx:Nd=>decide (x.me.1=no)) ∘ λx=>x.1)=some x:=h
  rw [this];rfl
def oM (L:List N3) (no:Int):List N3:=L.filter λx=>decide (x.1.me.1≠no)
def iC (E:List Nd) (no:Int):List Nd:=E.filter λx=>decide (x.me.1≠no)
theorem TI (L:List N3) (no:Int):nds (oM L no)=iC (nds L) no:=by unfold oM iC nds;rw [List.filter_map];rfl
def putS (x:N3) (p:List N3 × Bool) (y:N3):List N3 × Bool:=
 let q:=bif !p.2 && decide (x.1.me.1<=y.1.me.1) then (p.1++[x],true) else p
 bif decide (y.1.me.1≠x.1.me.1) then (q.1++[y],q.2) else q
def iS (x:N3) (L:List N3):List N3 × Bool:=L.foldl (putS x) ([],false)
def fm (L:List N3) (x:N3):List N3:=bif (iS x L).2 then (iS x L).1 else (iS x L).1++[x]
theorem Ni {x:N3} {p:List N3 × Bool} {y z:N3} (h:z∈(putS x p y).1):z∈p.1∨z=x∨z=y:=by
 unfold putS at h
 have key:∀ q:List N3 × Bool,(z∈q.1->z∈p.1∨z=x∨z=y)->z∈(bif decide (y.1.me.1≠x.1.me.1) then (q.1++[y],q.2) else q).1->z∈p.1∨z=x∨z=y:=λq hq h=>by
  cases h2:decide (y.1.me.1≠x.1.me.1) with
  |true=>
   rw [h2] at h
   rcases at9.1 h with h|h
   ·exact hq h
   ·exact .inr (.inr (ar4.1 h))
  |false=>rw [h2] at h;exact hq h
 refine key _ (λh=>?_) h
 cases h1 : !p.2 && decide (x.1.me.1<=y.1.me.1) with
 |true=>
  rw [h1] at h
  rcases at9.1 h with h|h
  ·exact .inl h
  ·exact .inr (.inl (ar4.1 h))
 |false=>rw [h1] at h;exact .inl h
theorem Em {x z:N3}:∀ {L:List N3},z∈(iS x L).1->z=x∨z∈L:=λ{L}=>by
 unfold iS
 suffices h:∀ (L:List N3) (p:List N3 × Bool),z∈(L.foldl (putS x) p).1->z∈p.1∨z=x∨z∈L by
  intro h9;rcases h L ([],false) h9 with h|h
  ·cases h
  ·exact h
 intro L
 induction L with
 |nil=>intro p h;exact .inl h
 |cons y L ih=>
  intro p h
  rcases ih _ h with h|h|h
  ·rcases Ni h with h|h|h
   ·exact .inl h
   ·exact .inr (.inl h)
   ·exact .inr (.inr (by rw [h];exact ar5))
  ·exact .inr (.inl h)
  ·exact .inr (.inr (as5 _ h))
theorem Hx {x z:N3} {L:List N3} (h:z∈fm L x):z=x∨z∈L:=by
 unfold fm at h
 cases hb:(iS x L).2 with
 |true=>rw [hb] at h;exact Em h
 |false=>
  rw [hb] at h
  rcases at9.1 h with h|h
  ·exact Em h
  ·exact .inl (ar4.1 h)
def vz (x:Nd) (p:List Nd × Bool) (y:Nd):List Nd × Bool:=
 let q:=bif !p.2 && decide (x.me.1<=y.me.1) then (p.1++[x],true) else p
 bif decide (y.me.1≠x.me.1) then (q.1++[y],q.2) else q
def zL (x:Nd) (E:List Nd):List Nd × Bool:=E.foldl (vz x) ([],false)
def jI (E:List Nd) (x:Nd):List Nd:=bif (zL x E).2 then (zL x E).1 else (zL x E).1++[x]
theorem Qy (x:N3) (p:List N3 × Bool) (y:N3):vz x.1 (nds p.1,p.2) y.1=(nds (putS x p y).1,(putS x p y).2):=by
 unfold vz putS
 cases p with
 |mk l b=>
  cases b<;>by_cases h1:x.1.me.1<=y.1.me.1<;>by_cases h2:y.1.me.1=x.1.me.1<;>simp [h1,h2,nds]
theorem NR (x:N3) (L:List N3):zL x.1 (nds L)=(nds (iS x L).1,(iS x L).2):=by
 unfold zL iS
 suffices h:∀ (L:List N3) (p:List N3 × Bool),(nds L).foldl (vz x.1) (nds p.1,p.2)=(nds (L.foldl (putS x) p).1,(L.foldl (putS x) p).2) from h L ([],false)
 intro L
 induction L with
 |nil=>intro p;rfl
 |cons y L ih=>
  intro p
  show (nds L).foldl (vz x.1) (vz x.1 (nds p.1,p.2) y.1)=_
  rw [Qy,ih];rfl
theorem ik (L:List N3) (x:N3):nds (fm L x)=jI (nds L) x.1:=by
 unfold fm jI
 rw [NR]
 cases (iS x L).2 with
 |true=>rfl
 |false=>show nds ((iS x L).1++[x])=nds (iS x L).1++[x.1];simp [nds]
theorem R5 {x:N3} {p:List N3 × Bool} {y:N3} (hb:p.2=false) (h1:decide (x.1.me.1<=y.1.me.1)=true) (h2:decide (y.1.me.1≠x.1.me.1)=true):putS x p y=((p.1++[x])++[y],true):=by unfold putS;rw [hb,h1,h2];rfl
theorem WN {x:N3} {p:List N3 × Bool} {y:N3} (hb:p.2=false) (h1:decide (x.1.me.1<=y.1.me.1)=true) (h2:decide (y.1.me.1≠x.1.me.1)=false):putS x p y=(p.1++[x],true):=by unfold putS;rw [hb,h1,h2];rfl
theorem RU {x:N3} {p:List N3 × Bool} {y:N3} (h:p.2=true∨decide (x.1.me.1<=y.1.me.1)=false) (h2:decide (y.1.me.1≠x.1.me.1)=true):putS x p y=(p.1++[y],p.2):=by
 have h1:(!p.2 && decide (x.1.me.1<=y.1.me.1))=false:=by rcases h with h|h<;>simp [h]
 unfold putS;rw [h1,h2];rfl
def zN:Nd:=LE
structure FewO (L:List N3):Prop where
 len:L.length<=18
 each:∀ x∈L,x.1.sc.length<=6/\x.1.fg.length<=18
theorem X3 {L:List N3} {x:N3} (h:(iS x L).2=true):fm L x=(iS x L).1:=by unfold fm;rw [h];rfl
theorem XW {L:List N3} {x:N3} (h:(iS x L).2=false):fm L x=(iS x L).1++[x]:=by unfold fm;rw [h];rfl
theorem AY {L:List N3} {k:Nat} (hk:k<L.length):av (L.take (k+1))=av (L.take k)++[(L.getD k z3).1.me]:=by unfold av;rw [xo hk,ax5];rfl
section
variable {P:Program} {ρ:Operand->Value} {d:Option Tmp} {ty:TypeId} {pos:String} {af:Array Edge} {g:Option (Nat × Bool)} {x:Operand} {t:TypeId}
end
def OvL (w:World) (N:TypeId) (K:List N3):cX:=λv w'=>∃ vo,v=.agg #[vo]/\cd w' w.heap.size N 68 vo K.length (au K)
structure RwB (L:List N3):Prop where
 each:∀ x∈L,x.1.sc.length<=300/\x.1.fg.length<=300
def q7 (l:List Mb) (m:Mb):Bool:=decide (0<=(o8 l m.1).1) && !decide (o8 l m.1=m)
def ly (L:List N3) (k:Nat):Bool := !co (L.getD k z3).1 || ((decide (0<k) && decide ((L.getD k z3).1.me.1<=(L.getD (k - 1) z3).1.me.1)) || (aO (L.getD k z3).1).any (q7 (av L)))
def iv (L:List N3):Bool:=((List.range L.length).all λk => !ly L k) && c8 (av L)
theorem N7 {L:List N3} {k:Nat} (hk:k<L.length) (h:ly L k=true):iv L=false:=by
 unfold iv
 have:((List.range L.length).all λk => !ly L k)=false:=by
  rw [← Bool.not_eq_true,aq6]
  intro h9
  have:=h9 k (ar7.2 hk)
  rw [h] at this;cases this
 rw [this];rfl
theorem PK {L:List N3} {k:Nat} (hk:L.length<=k) (h:∀ j,j<k->ly L j=false):iv L=c8 (av L):=by
 unfold iv
 have:((List.range L.length).all λk => !ly L k)=true:=by
  rw [aq6]
  intro j hj
  rw [h j (by have:=ar7.1 hj;omega)];rfl
 rw [this];rfl
theorem ae1 {L:List N3} {k:Nat} (h:decide (0<k)=true) (h1:decide ((L.getD k z3).1.me.1<=(L.getD (k - 1) z3).1.me.1)=true):ly L k=true:=by unfold ly;rw [h,h1];simp
theorem ac4 {L:List N3} {k j:Nat} (h:co (L.getD k z3).1=true) (h1:decide (0<k)=false∨decide ((L.getD k z3).1.me.1<=(L.getD (k - 1) z3).1.me.1)=false) (hj:(aO (L.getD k z3).1).length<=j) (h2:∀ i,i<j->q7 (av L) ((aO (L.getD k z3).1).getD i aS)=false):ly L k=false:=by
 unfold ly
 have e1:(decide (0<k) && decide ((L.getD k z3).1.me.1<=(L.getD (k - 1) z3).1.me.1))=false:=by rcases h1 with h1|h1<;>rw [h1]<;>simp
 have e2:(aO (L.getD k z3).1).any (q7 (av L))=false:=by
  rw [aw5]
  intro x hx
  obtain ⟨i,hi,rfl⟩:=mC hx
  rw [h2 i (by omega)];decide
 rw [h,e1,e2];rfl
theorem ac5 {l:List Mb} {m:Mb} (h:decide (0<=(o8 l m.1).1)=false):q7 l m=false:=by unfold q7;rw [h];rfl
theorem ab7 {l:List Mb} {m:Mb} (h:decide (0<=(o8 l m.1).1)=true):q7 l m = !decide (o8 l m.1=m):=by unfold q7;rw [h];rfl
structure RO (E:List Nd):Prop where
 rn:∀ n∈E,RN n
 inc:E.Pairwise λa b=>a.me.1<b.me.1
 kn:∀ n∈E,∀ m∈aO n,∀ s∈E,s.me.1=m.1->s.me=m
 ring:Rg (E.map (·.me))
theorem Ul {L:List N3} (h:∀ k,0<k->k<L.length->(L.getD (k - 1) z3).1.me.1<(L.getD k z3).1.me.1):∀ i j,i<j->j<L.length->(L.getD i z3).1.me.1<(L.getD j z3).1.me.1:=λi j hij hj=>by
 induction j with
 |zero=>omega
 |succ j ih=>
  have h1:=h (j+1) (Nat.zero_lt_succ _) hj
  rw [Nat.add_sub_cancel] at h1
  by_cases e:i=j
  ·subst e;exact h1
  ·have:=ih (by omega) (by omega)
   omega
theorem qm {L:List N3} (h:iv L=true):RO (nds L):=by
 unfold iv at h
 rw [aq5,aq6] at h
 obtain ⟨h1,h2⟩:=h
 have hb:∀ k,k<L.length->ly L k=false:=λk hk=>by have:=h1 k (ar7.2 hk);simpa using this
 have hring:Rg ((nds L).map (·.me)):=by
  have:=(lH _).1 h2
  unfold nds;rw [List.map_map];exact this
 have hall:∀ k,k<L.length->co (L.getD k z3).1=true/\(0<k->(L.getD (k - 1) z3).1.me.1<(L.getD k z3).1.me.1)/\∀ m∈aO (L.getD k z3).1,q7 (av L) m=false:=λk hk=>by
  have:=hb k hk
  unfold ly at this
  rw [Bool.or_eq_false_iff,Bool.or_eq_false_iff,aw5] at this
  refine ⟨by simpa using this.1,λh0=>?_,λm hm=>by have:=this.2.2 m hm;simpa using this⟩
  have h9:=this.2.1
  rw [aq2 h0,Bool.true_and,decide_eq_false_iff_not] at h9
  omega
 have hinc:(nds L).Pairwise λa b=>a.me.1<b.me.1:=by
  unfold nds
  rw [List.pairwise_map,List.pairwise_iff_getElem]
  intro i j hi hj hij
  rw [uw hi,uw hj]
  exact Ul (λk h0 hk=>(hall k hk).2.1 h0) i j hij hj
 refine ⟨λn hn=>?_,hinc,λn hn m hm s hs he=>?_,hring⟩
 ·obtain ⟨x,hx,rfl⟩:=au9.1 hn
  obtain ⟨k,hk,rfl⟩:=yD hx
  exact kl.1 (hall k hk).1
 ·obtain ⟨x,hx,rfl⟩:=au9.1 hn
  obtain ⟨k,hk,rfl⟩:=yD hx
  have h9:=(hall k hk).2.2 m hm
  unfold q7 at h9
  have hs2:s.me∈av L:=by
   obtain ⟨y,hy,rfl⟩:=au9.1 hs
   exact au9.2 ⟨y,hy,rfl⟩
  have hf:=Dl ((lH _).1 h2) hs2
  rw [he] at hf
  have hr:o8 (av L) m.1=s.me:=by unfold o8;rw [hf];rfl
  rw [hr] at h9
  have hnn:0<=s.me.1:=(((lH _).1 h2).nos _ hs2).1
  rw [aq2 hnn,Bool.true_and] at h9
  simpa using h9
theorem O9 {w w':World} {R:World->Prop} {E:List Nd} {vo:Value} {L:List N3} {A:List Own} (hE:nds L=E) (h:∀ w9,(∀ p∈A,p.holds w w9)->R w9->qC w9 vo L) (s:St w A w'):UP w R E (.agg #[vo]) w':=by
 refine ⟨vo,L,_,rfl,hE,(St.group (A:=A) (B:=[]) (by rw [av4];exact s)).weak λw9 h9 hR=>h w9 h9 hR⟩
theorem MM {x:N3} {acc:List N3} {y:N3} (h:y.1.me.1<x.1.me.1):putS x (acc,false) y=(acc++[y],false):=
 RU (.inr (aq1 (by omega))) (aq2 (by omega))
theorem Qv {x:N3} {acc:List N3} {y:N3} (h:y.1.me.1=x.1.me.1):putS x (acc,false) y=(acc++[x],true):=
 WN rfl (aq2 (by omega)) (aq1 (by omega))
theorem OS {x:N3} {acc:List N3} {y:N3} (h:x.1.me.1<y.1.me.1):putS x (acc,true) y=(acc++[y],true):=
 RU (.inl rfl) (aq2 (by omega))
theorem oB {x:N3}:∀ (A acc:List N3),(∀ y∈A,y.1.me.1<x.1.me.1)->A.foldl (putS x) (acc,false)=(acc++A,false)
 |[],acc,_=>by rw [av4];rfl
 |y::A,acc,h=>by
  rw [List.foldl_cons,MM (h y ar5),oB A _ λz hz=>h z (as5 _ hz),av3];rfl
theorem rK {x:N3}:∀ (A acc:List N3),(∀ y∈A,x.1.me.1<y.1.me.1)->A.foldl (putS x) (acc,true)=(acc++A,true)
 |[],acc,_=>by rw [av4];rfl
 |y::A,acc,h=>by
  rw [List.foldl_cons,OS (h y ar5),rK A _ λz hz=>h z (as5 _ hz),av3];rfl
theorem Dy {A B:List N3} {x y:N3} (hA:∀ z∈A,z.1.me.1<x.1.me.1) (hy:y.1.me.1=x.1.me.1) (hB:∀ z∈B,x.1.me.1<z.1.me.1):fm (A++y::B) x=A++x::B:=by
 have:iS x (A++y::B)=(A++x::B,true):=by
  unfold iS
  rw [List.foldl_append,oB A [] hA,List.nil_append,List.foldl_cons,Qv hy,rK B _ hB,av3];rfl
 unfold fm;rw [this];rfl
structure RS (L:List N3):Prop where
 rn:∀ x∈L,RN x.1
 inc:L.Pairwise λa b=>a.1.me.1<b.1.me.1
 ring:Rg (av L)
theorem RO.rs {L:List N3} (h:RO (nds L)):RS L:=by
 refine ⟨λx hx=>h.rn _ (au9.2 ⟨x,hx,rfl⟩),?_,?_⟩
 ·have:=h.inc
  unfold nds at this
  rwa [List.pairwise_map] at this
 ·have:=h.ring
  unfold nds at this
  rw [List.map_map] at this;exact this
theorem RS.put {L:List N3} (h:RS L) {x y:N3} (hy:y∈L) (he:y.1.me=x.1.me) (hx:RN x.1):RS (fm L x)/\av (fm L x)=av L/\x∈fm L x:=by
 obtain ⟨A,B,rfl⟩:=List.append_of_mem hy
 have hp:=List.pairwise_append.1 h.inc
 have hp2:=List.pairwise_cons.1 hp.2.1
 have hno:y.1.me.1=x.1.me.1:=by rw [he]
 have e:=Dy (x:=x) (λz hz=>by rw [← hno];exact hp.2.2 z hz y ar5) hno (λz hz=>by rw [← hno];exact hp2.1 z hz)
 have em:av (A++x::B)=av (A++y::B):=by simp [av,he]
 rw [e]
 refine ⟨⟨λz hz=>?_,?_,?_⟩,em,by simp⟩
 ·rcases at9.1 hz with hz|hz
  ·exact h.rn z (List.mem_append_left _ hz)
  ·rcases ar6.1 hz with rfl|hz
   ·exact hx
   ·exact h.rn z (List.mem_append_right _ (as5 _ hz))
 ·rw [List.pairwise_append,List.pairwise_cons]
  refine ⟨hp.1,⟨λz hz=>by rw [← hno];exact hp2.1 z hz,hp2.2⟩,λa ha b hb=>?_⟩
  rcases ar6.1 hb with rfl|hb
  ·rw [← hno];exact hp.2.2 a ha y ar5
  ·exact hp.2.2 a ha b (as5 _ hb)
 ·rw [em];exact h.ring
theorem RS.nos {L:List N3} (h:RS L):∀ m∈av L,0<=m.1:=λm hm=>(h.ring.nos m hm).1
theorem RS.len {L:List N3} (h:RS L):L.length<=16:=by
 have:=h.ring.len
 simpa [av] using this
theorem RS.get {L:List N3} (h:RS L) {no:Int} (hl:bu (av L) no=true):br L no∈L/\(br L no).1.me.1=no:=by
 obtain ⟨m,hm,hno⟩:=(gD h.nos).1 hl
 obtain ⟨x,hx,rfl⟩:=au9.1 hm
 unfold br
 cases hf:L.find? λx=>decide (x.1.me.1=no) with
 |none=>exact ax7 (aq2 hno) (List.find?_eq_none.1 hf x hx)
 |some z=>exact ⟨List.mem_of_find?_eq_some hf,by have:=List.find?_some hf;exact ap9 this⟩
def mu (l:List Mb) (n:Nd):List Int:=((aO n).filter λm => !bu l m.1).map (·.1)
def kM (l:List Mb) (n:Nd) (k:Nat):List Int:=(((aO n).take k).filter λm => !bu l m.1).map (·.1)
theorem KC {l:List Mb} {n:Nd} {k:Nat} (hk:k<(aO n).length) (h:bu l ((aO n).getD k aS).1=true):kM l n (k+1)=kM l n k:=by
 unfold kM;rw [qO hk,ax4,List.filter_cons,h];simp
theorem L3 {l:List Mb} {n:Nd} {k:Nat} (hk:k<(aO n).length) (h:bu l ((aO n).getD k aS).1=false):kM l n (k+1)=kM l n k++[((aO n).getD k aS).1]:=by
 unfold kM;rw [qO hk,ax4,List.filter_cons,h];simp
theorem zl (l:List Mb) (n:Nd):kM l n (aO n).length=mu l n:=by unfold kM;rw [List.take_length];rfl
theorem xJ (l:List Mb) (n:Nd) (k:Nat):(kM l n k).length<=(aO n).length:=by
 unfold kM
 have:=au2 (λm:Mb => !bu l m.1) ((aO n).take k)
 rw [au0] at this
 rw [au1];omega
def cD (l:List Mb) (n:Nd):Nd:=⟨n.me,Mi n (mu l n),nY (gv n.sc (mu l n) n.me.1) n.me,gv n.fg (mu l n) n.me.1⟩
theorem pP {l:List Mb} {n:Nd} (h:RN n):cD l n=⟨n.me,Bd n (mu l n),nY (dS n.sc (mu l n)) n.me,dS n.fg (mu l n)⟩:=by
 unfold cD;rw [EY h,DU h,DV h]
theorem wE {l:List Mb} {n:Nd} (h:RN n):RN (cD l n):=by rw [pP h];exact D4 h _
theorem lR {l:List Mb} {n:Nd} (h:RN n) (hm:bu l n.me.1=true):bu l ((cD l n).sc.getD 0 aS).1=true:=by
 rw [pP h]
 show bu l ((nY (dS n.sc (mu l n)) n.me).getD 0 aS).1=true
 by_cases h0:(dS n.sc (mu l n)).length=0
 ·rw [EK h0];exact hm
 ·rw [vY h0]
  have hx:=fL (l:=dS n.sc (mu l n)) (j:=0) (by omega)
  obtain ⟨h1,h2⟩:=at4.1 hx
  cases hl:bu l ((dS n.sc (mu l n)).getD 0 aS).1 with
  |true=>rfl
  |false=>
   exfalso
   have h3:eK (mu l n) ((dS n.sc (mu l n)).getD 0 aS)=true:=rU.2 (by
    show _∈((aO n).filter λm => !bu l m.1).map (·.1)
    refine au9.2 ⟨_,at4.2 ⟨?_,by rw [hl];rfl⟩,rfl⟩
    unfold aO
    exact as5 _ (List.mem_append_left _ h1))
   rw [h3] at h2;cases h2
def kw (l:List Mb) (s:Nd):Nd:=⟨s.me,bif bu l s.pr.1 then s.pr else fj,s.sc,s.fg⟩
theorem ur {l:List Mb} {s:Nd} (h:RN s):RN (kw l s):=by
 have key:(kw l s).pr=s.pr∨(kw l s).pr=fj:=by
  unfold kw
  cases bu l s.pr.1 with
  |true=>exact .inl rfl
  |false=>exact .inr rfl
 refine ⟨h.me,?_,h.sc,h.fg⟩
 rcases key with e|e
 ·rw [e];exact h.pr
 ·exact .inl e
def oz (n1 s:Nd):Nd:=⟨n1.me,n1.pr,sI n1 s,n1.fg⟩
theorem pJ {n1 s:Nd} (h:RN n1) (hs:RN s):RN (oz n1 s):=NU h hs
def EO (g:Nd) (me:Mb):Nd:=⟨g.me,mD g me,g.sc,g.fg⟩
theorem tR {g:Nd} {me:Mb} (h:RN g) (hm:0<=me.1/\me.1<16):RN (EO g me):=Ns h (iE.2 hm)
def bV (E:List Nd):List Mb:=E.map (·.me)
def fl (E:List Nd) (no:Int):List Nd:=
 let n1:=cD (bV E) (ii E no)
 let E1:=jI E n1
 let s:=kw (bV E1) (ii E1 (n1.sc.getD 0 aS).1)
 let n2:=oz n1 s
 let E2:=jI E1 n2
 let fi:=(n2.sc.getD 0 aS).1
 bif bu (bV E2) fi then jI E2 (EO (ii E2 fi) n2.me) else E2
theorem cN (L:List N3):bV (nds L)=av L:=by unfold bV nds;rw [List.map_map];rfl
theorem yf (L:List N3) (no:Int) {u1 u2 f1:Value} {L1 L2:List N3} (h1:L1=fm L (cD (av L) (br L no).1,u1,u2)) (h2:L2=fm L1 (oz (cD (av L) (br L no).1) (kw (av L1) (br L1 ((cD (av L) (br L no).1).sc.getD 0 aS).1).1),f1,u2)):
 fl (nds L) no=bif bu (av L2) ((oz (cD (av L) (br L no).1) (kw (av L1) (br L1 ((cD (av L) (br L no).1).sc.getD 0 aS).1).1)).sc.getD 0 aS).1
  then jI (nds L2) (EO (ii (nds L2) ((oz (cD (av L) (br L no).1) (kw (av L1) (br L1 ((cD (av L) (br L no).1).sc.getD 0 aS).1).1)).sc.getD 0 aS).1) (cD (av L) (br L no).1).me) else nds L2:=by
 have e1:nds L1=jI (nds L) (cD (av L) (br L no).1):=by rw [h1,ik]
 have e2:nds L2=jI (nds L1) (oz (cD (av L) (br L no).1) (kw (av L1) (br L1 ((cD (av L) (br L no).1).sc.getD 0 aS).1).1)):=by rw [h2,ik]
 unfold fl
 simp only [cN,← jj,← e1,← e2]
 rfl
theorem St.grp0 {w0 w:World} {B:List Own} {S:World->Prop} (s:St w0 B w) (h:∀ w9,S w9):St w0 (.grp [] S::B) w:=
 (St.group (A:=[]) (B:=B) s).weak λw9 _=>h w9
theorem St.merge {w0 w:World} {k1 k2:List Nat} {S1 S2 S:World->Prop} {B:List Own} (s:St w0 (.grp k1 S1::.grp k2 S2::B) w) (h:∀ w9,S1 w9->S2 w9->S w9):St w0 (.grp (k1++k2) S::B) w:=by
 have g:=St.group (A:=[.grp k1 S1,.grp k2 S2]) (B:=B) s
 have e:[Own.grp k1 S1,.grp k2 S2].flatMap Own.ks=k1++k2:=by simp [Own.ks]
 unfold Own.all at g
 rw [e] at g
 exact g.weak λw9 h9=>h w9 ((h9 (.grp k1 S1) (by simp)).2 w9 λ_ _=>rfl) ((h9 (.grp k2 S2) (by simp)).2 w9 λ_ _=>rfl)
theorem Jm {L K:List N3} (h:nds L=nds K) (hL:RS L):RS K:=by
 have hm:av K=av L:=by rw [← cN,← cN,h]
 refine ⟨λx hx=>?_,?_,by rw [hm];exact hL.ring⟩
 ·have:x.1∈nds L:=by rw [h];exact au9.2 ⟨x,hx,rfl⟩
  obtain ⟨y,hy,e⟩:=au9.1 this
  rw [← e];exact hL.rn y hy
 ·have h1:(nds L).Pairwise λa b=>a.me.1<b.me.1:=by unfold nds;rw [List.pairwise_map];exact hL.inc
  rw [h] at h1
  unfold nds at h1
  rwa [List.pairwise_map] at h1
theorem DA {L K:List N3} {no:Int} (h:RS L) (hl:bu (av L) no=true) (hK:nds K=fl (nds L) no):RS K/\av K=av L:=by
 obtain ⟨hgm,hgn⟩:=h.get hl
 have hgr:=h.rn _ hgm
 have hT1:=wE (l:=av L) hgr
 obtain ⟨L1,hL1⟩:∃ x,x=fm L (cD (av L) (br L no).1,aq,aq):=⟨_,rfl⟩
 obtain ⟨hrs1,hm1,hi1⟩:=h.put (x:=(cD (av L) (br L no).1,aq,aq)) hgm rfl hT1
 rw [← hL1] at hrs1 hm1 hi1
 have hf1:bu (av L1) ((cD (av L) (br L no).1).sc.getD 0 aS).1=true:=by rw [hm1];exact lR hgr (by rw [hgn];exact hl)
 obtain ⟨hgm1,hgn1⟩:=hrs1.get hf1
 have hsr:=hrs1.rn _ hgm1
 obtain ⟨L2,hL2⟩:∃ x,x=fm L1 (oz (cD (av L) (br L no).1) (kw (av L1) (br L1 ((cD (av L) (br L no).1).sc.getD 0 aS).1).1),aq,aq):=⟨_,rfl⟩
 obtain ⟨hrs2,hm2,hi2⟩:=hrs1.put (x:=(oz (cD (av L) (br L no).1) (kw (av L1) (br L1 ((cD (av L) (br L no).1).sc.getD 0 aS).1).1),aq,aq)) hi1 rfl (pJ hT1 (ur hsr))
 rw [← hL2] at hrs2 hm2 hi2
 rw [yf L no hL1 hL2] at hK
 cases hb:bu (av L2) ((oz (cD (av L) (br L no).1) (kw (av L1) (br L1 ((cD (av L) (br L no).1).sc.getD 0 aS).1).1)).sc.getD 0 aS).1 with
 |false=>
  rw [hb] at hK
  have hK:nds L2=nds K:=hK.symm
  exact ⟨Jm hK hrs2,by rw [← cN,← hK,cN,hm2,hm1]⟩
 |true=>
  rw [hb] at hK
  obtain ⟨hg2,hn2⟩:=hrs2.get hb
  obtain ⟨hrs3,hm3,_⟩:=hrs2.put (x:=(EO (br L2 ((oz (cD (av L) (br L no).1) (kw (av L1) (br L1 ((cD (av L) (br L no).1).sc.getD 0 aS).1).1)).sc.getD 0 aS).1).1 (cD (av L) (br L no).1).me,aq,aq)) hg2 rfl (tR (hrs2.rn _ hg2) hT1.me)
  have hK:nds (fm L2 (EO (br L2 ((oz (cD (av L) (br L no).1) (kw (av L1) (br L1 ((cD (av L) (br L no).1).sc.getD 0 aS).1).1)).sc.getD 0 aS).1).1 (cD (av L) (br L no).1).me,aq,aq))=nds K:=by rw [ik,jj];exact hK.symm
  exact ⟨Jm hK hrs3,by rw [← cN,← hK,cN,hm3,hm2,hm1]⟩
def Ck (E:List Nd) (k:Nat):List Nd:=((bV E).take k).foldl (λF m=>fl F m.1) E
def nL (E:List Nd):List Nd:=(bV E).foldl (λF m=>fl F m.1) E
theorem FE {L:List N3} {k:Nat} (hk:k<(av L).length):Ck (nds L) (k+1)=fl (Ck (nds L) k) ((av L).getD k aS).1:=by
 unfold Ck;rw [cN,qO hk,List.foldl_append];rfl
theorem KD {L:List N3} {k:Nat} (hk:k=(av L).length):Ck (nds L) k=nL (nds L):=by
 subst hk;unfold Ck nL;rw [cN,List.take_length]
def Bt (n:Nd):Bool:=decide (n.pr=fj) && (decide (n.sc.length=1) && decide (n.sc.getD 0 aS=n.me))
def pS (L:List N3) (k:Nat):Bool:=decide ((L.getD k z3).1.pr=oI (av L) (L.getD k z3).1.me) && decide ((L.getD k z3).1.sc=eV (av L) (L.getD k z3).1.me (min (L.length - 1) 4))
def cV (L:List N3):Bool:=iv L && bif decide (L.length=1) then Bt (L.getD 0 z3).1 else (List.range L.length).all (pS L)
theorem QV {L:List N3} (h:iv L=false):cV L=false:=by unfold cV;rw [h];rfl
theorem BP {L:List N3} {k:Nat} (h:iv L=true) (hk:k<L.length) (h1:L.length=1):cV L=Bt (L.getD k z3).1:=by
 obtain rfl:k=0:=by omega
 unfold cV;rw [h,aq2 h1];rfl
theorem MW {L:List N3} {k:Nat} (h1:¬ L.length=1) (hk:k<L.length) (hb:pS L k=false):cV L=false:=by
 unfold cV
 have:(List.range L.length).all (pS L)=false:=by
  rw [← Bool.not_eq_true,aq6]
  intro h9
  have:=h9 k (ar7.2 hk)
  rw [hb] at this;cases this
 rw [aq1 h1,this];simp
theorem NY {L:List N3} {k:Nat} (h:iv L=true) (h1:¬ L.length=1) (hk:L.length<=k) (hb:∀ j,j<k->pS L j=true):cV L=true:=by
 unfold cV
 have:(List.range L.length).all (pS L)=true:=by
  rw [aq6]
  intro j hj
  exact hb j (by have:=ar7.1 hj;omega)
 rw [h,aq1 h1,this];rfl
def ZB (l:List Mb) (no:Int) (m:Mb):Bool:=bu l m.1 && decide (m.1≠no)
def Wt (l:List Mb) (no:Int) (g:Nd):List Mb:=g.sc.filter (ZB l no)
theorem UT (l:List Mb) (no:Int) (g:Nd):(Wt l no g).length<=g.sc.length:=au2 _ _
def ZC (l:List Mb) (n g:Nd):Bool:=decide (n.sc.length=1) && (decide (n.sc.getD 0 aS=g.me) && decide (0<(Wt l n.me.1 g).length))
def R3 (l:List Mb) (n g:Nd):List Mb:=bif ZC l n g then Wt l n.me.1 g else nY (gv n.sc [g.me.1] n.me.1) n.me
def ZE (l:List Mb) (n g:Nd):Bool:=decide (n.pr=g.me) && (bu l g.pr.1 && decide (g.pr.1≠n.me.1))
def RD (l:List Mb) (n g:Nd):Mb:=bif ZE l n g then g.pr else Mi n [g.me.1]
def tlN (l:List Mb) (n g:Nd):Nd:=⟨n.me,RD l n g,R3 l n g,gv n.fg [g.me.1] n.me.1⟩
theorem RA {w w':World} {N:TypeId} {R:World->Prop} {E:List Nd} {vo:Value} {L:List N3} {ks:List Nat} (hE:nds L=E) (s:St w [.sl vo N 68 L.length (au L),.grp ks (eI L)] w'):UP w R E (.agg #[vo]) w':=
 O9 hE (λw9 h9 _=>⟨a7.of_own (h9 (.sl vo N 68 L.length (au L)) (by simp)),(h9 (.grp ks (eI L)) (by simp)).2 w9 λ_ _=>rfl⟩) s
theorem St.grpR {w0 w:World} {a b:Value} {M N:TypeId} {sa sb n m:Nat} {xs ys:List Value} {ks:List Nat} {S S':World->Prop} {B:List Own} (s:St w0 (.sl a M sa n xs::.sl b N sb m ys::.grp ks S::B) w) (h:∀ w9,a7 w9 a sa n xs->a7 w9 b sb m ys->S w9->S' w9):∃ kn,St w0 (.grp kn S'::B) w:=
 ⟨_,(St.group (A:=[.sl a M sa n xs,.sl b N sb m ys,.grp ks S]) (B:=B) s).weak λw9 h9=>h w9 (a7.of_own (h9 (.sl a M sa n xs) (by simp))) (a7.of_own (h9 (.sl b N sb m ys) (by simp))) ((h9 (.grp ks S) (by simp)).2 w9 λ_ _=>rfl)⟩
def qh (E:List Nd) (no:Int):List Nd:=(iC E no).map λy=>tlN (bV (iC E no)) y (ii E no)
def V1 (w:World) (R:World->Prop) (E:List Nd) (k:Int):cX:=λv w'=>∃ o,v=.tuple #[o,.int .i64 k]/\UP w R E o w'
theorem Lh {w w':World} {B:List Own} {R:World->Prop} {E:List Nd} {k q:Int} (s:St w B w') (hE:E=[]) (hk:k=q):V1 w R E k (.tuple #[.agg #[aq],.int .i64 q]) w':=by
 subst hE;subst hk;exact ⟨_,rfl,NC s⟩
theorem LM {w w':World} {R:World->Prop} {E:List Nd} {k q:Int} {o:Value} (hk:k=q) (h:UP w R E o w'):V1 w R E k (.tuple #[o,.int .i64 q]) w':=by
 subst hk;exact ⟨_,rfl,h⟩
def Xi (m y:Mb):Bool:=decide (y.1=m.1) && !decide (y=m)
def Zt (L:List N3) (m:Mb) (k:Nat):Bool:=decide ((L.getD k z3).1.me.1=m.1) || (decide ((L.getD k z3).1.me.2=m.2) || (aO (L.getD k z3).1).any (Xi m))
def Vo (L:List N3) (m:Mb):Bool:=(List.range L.length).any (Zt L m)
def Tn (L:List N3) (m:Mb) (no:Int):Int:=bif Vo L m then 7 else bif decide (0<L.length) && !bu (av L) no then 10 else 0
def G0 (L:List N3) (m:Mb) (no:Int):Mb:=bif decide (0<L.length) then (br L no).1.me else m
def Z6 (L:List N3) (m:Mb) (no:Int):List Nd:=bif decide (Tn L m no=0) then jI (nds L) ⟨m,fj,[G0 L m no],[]⟩ else []
theorem ah0 {L:List N3} {m:Mb} {k:Nat} (hk:L.length<=k) (h:∀ j,j<k->Zt L m j=false):Vo L m=false:=by
 unfold Vo
 rw [aw5]
 intro j hj
 rw [h j (by have:=ar7.1 hj;omega)];decide
theorem ah6 {L:List N3} {m:Mb} {k j:Nat} (h0:decide ((L.getD k z3).1.me.1=m.1)=false) (h1:decide ((L.getD k z3).1.me.2=m.2)=false) (hj:(aO (L.getD k z3).1).length<=j) (h2:∀ i,i<j->Xi m ((aO (L.getD k z3).1).getD i aS)=false):Zt L m k=false:=by
 unfold Zt
 have e2:(aO (L.getD k z3).1).any (Xi m)=false:=by
  rw [aw5]
  intro x hx
  obtain ⟨i,hi,rfl⟩:=mC hx
  rw [h2 i (by omega)];decide
 rw [h0,h1,e2];rfl
theorem aa1 {L:List N3} {m:Mb} {no:Int} (h:Vo L m=false) (h0:¬ 0<L.length∨bu (av L) no=true):Tn L m no=0:=by
 unfold Tn;rw [h]
 rcases h0 with h0|h0
 ·rw [aq1 h0];rfl
 ·rw [h0];simp
def cE (L:List N3) (no:Int):Int:=bif iv L then bif bu (av L) no then 0 else 10 else 1
def V7 (L:List N3) (m:Mb):Bool:=iv L && ib m
def R4 (L:List N3) (m:Mb) (no:Int):Int:=bif V7 L m then Tn L m no else 1
def KS (L:List N3) (m:Mb) (no:Int):List Nd:=bif V7 L m then Z6 L m no else []
def V6 (L:List N3):Int:=bif iv L then 0 else 1
def VV (L:List N3):List Nd:=bif iv L then nL (nds L) else []
def Yx (L:List N3) (no:Int):List Nd:=bif decide (cE L no=0) then iC (nds L) no else []
abbrev ZY (vo:Value) (L:List N3):World->Prop:=λw9=>qC w9 vo L
structure BdE (E:List Nd):Prop where
 len:E.length<=40
 each:∀ n∈E,n.sc.length<=300/\n.fg.length<=300
theorem BdE.l {L:List N3} {E:List Nd} (h:BdE E) (e:nds L=E):L.length<=40:=by subst e;have:=h.len;simpa [nds] using this
theorem BdE.r {L:List N3} {E:List Nd} (h:BdE E) (e:nds L=E):RwB L:=by subst e;exact ⟨λx hx=>h.each _ (au9.2 ⟨x,hx,rfl⟩)⟩
def cS (E:List Nd):List N3:=E.map λn=>(n,aq,aq)
theorem kr (E:List Nd):nds (cS E)=E:=by unfold nds cS;rw [List.map_map];exact List.map_id E
theorem Zs {L:List N3} {no:Int} (h:cE L no=0):iv L=true/\bu (av L) no=true:=by
 unfold cE at h
 cases h1:iv L<;>cases h2:bu (av L) no<;>rw [h1] at h<;>rw [h2] at h<;>simp at h
 exact ⟨rfl,rfl⟩
theorem Xz {L:List N3} {no k:Int} (h:cE L no=k) (h0:k≠0):Yx L no=[]:=by unfold Yx;rw [aq1 (by rw [h];exact h0)];rfl
theorem Yq {L:List N3} {no:Int} (h:cE L no=0):Yx L no=iC (nds L) no:=by unfold Yx;rw [aq2 h];rfl
theorem Qz {L:List N3} (h:iv L=false):V6 L=1/\VV L=[]:=by unfold V6 VV;rw [h];exact ⟨rfl,rfl⟩
theorem DJ {L:List N3} (h:iv L=true):V6 L=0/\VV L=nL (nds L):=by unfold V6 VV;rw [h];exact ⟨rfl,rfl⟩
def VU (E:List Nd):cX:=λv w=>∃ vo L,v=.agg #[vo]/\nds L=E/\qC w vo L
theorem VU.mono (E:List Nd):qV (VU E):=λ_ _ _ ⟨vo,L,h1,h2,h3⟩ hE=>⟨vo,L,h1,h2,h3.keep hE⟩
theorem UP.d {w w':World} {R:World->Prop} {E:List Nd} {v:Value} (h:UP w R E v w') (hR:R w'):VU E v w':=by
 obtain ⟨vo,L,ks,h1,h2,h3⟩:=h
 exact ⟨vo,L,h1,h2,h3.getG 0 rfl hR⟩
theorem OvL.d {w w':World} {N:TypeId} {K:List N3} {E:List Nd} {v:Value} (h:OvL w N K v w') (e:nds K=E) (hr:∀ y∈K,CW w' y):VU E v w':=by
 obtain ⟨vo,h1,h2⟩:=h
 exact ⟨vo,K,h1,e,a7.of_own h2,hr⟩
def Ta (E:List Nd) (k:Int):cX:=λv w=>∃ o,v=.tuple #[o,.int .i64 k]/\VU E o w
theorem Ta.mono (E:List Nd) (k:Int):qV (Ta E k):=λ_ _ _ ⟨o,h1,h2⟩ hE=>⟨o,h1,VU.mono E _ _ _ h2 hE⟩
theorem V1.d {w w':World} {R:World->Prop} {E:List Nd} {k:Int} {v:Value} (h:V1 w R E k v w') (hR:R w'):Ta E k v w':=by
 obtain ⟨o,h1,h2⟩:=h
 exact ⟨o,h1,h2.d hR⟩
def yv (l:List Mb) (m:Mb):Prop:=∀ s∈l,s.1=m.1->s=m
structure RK (L:List N3):Prop where
 rs:RS L
 kn:∀ x∈L,∀ m∈aO x.1,yv (av L) m
theorem tI {L:List N3} (h:iv L=true):RK L:=⟨(qm h).rs,λx hx m hm s hs e=>by
 obtain ⟨y,hy,rfl⟩:=au9.1 hs
 exact(qm h).kn x.1 (au9.2 ⟨x,hx,rfl⟩) m hm y.1 (au9.2 ⟨y,hy,rfl⟩) e⟩
theorem RK.ov {L:List N3} (h:RK L):iv L=true:=by
 have hb:∀ k,k<L.length->ly L k=false:=λk hk=>by
  refine ac4 (j:=(aO (L.getD k z3).1).length) (kl.2 (h.rs.rn _ (bE hk))) ?_ (as1 _) λi hi=>?_
  ·by_cases h0:0<k
   ·refine .inr (aq1 ?_)
    have:=List.pairwise_iff_getElem.1 h.rs.inc (k - 1) k (by omega) hk (by omega)
    rw [uw,uw] at this
    omega
   ·exact .inl (aq1 h0)
  ·have hm:=fL hi
   cases hc:decide (0<=(o8 (av L) ((aO (L.getD k z3).1).getD i aS).1).1) with
   |false=>exact ac5 hc
   |true=>
    rw [ab7 hc]
    have hc:=ap9 hc
    rcases DF (l:=av L) (no:=((aO (L.getD k z3).1).getD i aS).1) with h9|⟨s,h9,hs,hno⟩
    ·unfold o8 at hc;rw [h9] at hc
     exact ax7 hc (by decide)
    ·have e:o8 (av L) ((aO (L.getD k z3).1).getD i aS).1=s:=by unfold o8;rw [h9];rfl
     rw [e,aq2 (h.kn _ (bE hk) _ hm s hs hno)];rfl
 rw [PK (as1 _) hb]
 exact(lH _).2 h.rs.ring
theorem LC {L K:List N3} (h:nds L=nds K) (hL:RK L):RK K:=by
 have hm:av K=av L:=by rw [← cN,← cN,h]
 refine ⟨Jm h hL.rs,λx hx m hx2=>?_⟩
 have:x.1∈nds L:=by rw [h];exact au9.2 ⟨x,hx,rfl⟩
 obtain ⟨y,hy,e⟩:=au9.1 this
 rw [hm]
 exact hL.kn y hy m (by rw [e];exact hx2)
theorem El {l:List Mb} (h:Rg l):yv l fj:=λs hs e=>by
 have h1:=(h.nos s hs).1
 have e:s.1 = -1:=e
 omega
theorem sj {l:List Mb} (h:Rg l) {m:Mb} (hm:m∈l):yv l m:=λ_ hs e=>h.no hs hm e
theorem RK.put {L:List N3} (h:RK L) {x y:N3} (hy:y∈L) (he:y.1.me=x.1.me) (hx:RN x.1) (hk:∀ m∈aO x.1,yv (av L) m):RK (fm L x):=by
 obtain ⟨h1,h2,_⟩:=h.rs.put hy he hx
 refine ⟨h1,λz hz m hm=>?_⟩
 rw [h2]
 rcases Hx hz with rfl|hz
 ·exact hk m hm
 ·exact h.kn z hz m hm
theorem K8 (n:Nd) (nos:List Int):Mi n nos=fj∨Mi n nos=n.pr:=by
 unfold Mi
 cases (!decide (n.pr=fj) && decide ((gv [n.pr] nos n.me.1).length=0)) with
 |true=>exact .inl rfl
 |false=>exact .inr rfl
theorem Cj {l:List Mb} {me x:Mb} (h:x∈nY l me):x=me∨x∈l:=by
 by_cases h0:l.length=0
 ·rw [EK h0] at h;exact .inl (ar4.1 h)
 ·rw [vY h0] at h;exact .inr h
theorem pd {l:List Mb} {nos:List Int} {no:Int} {x:Mb} (h:x∈gv l nos no):x∈l:=(at4.1 h).1
theorem Qf {n s:Nd} {x:Mb} (h:x∈sI n s):x=n.me∨x=s.pr∨x=s.me∨x∈s.sc:=by
 rcases Cj h with h|h
 ·exact .inl h
 ·rcases xU _ [] h with h|h
  ·cases h
  ·have h:=(pa h).1
   rcases ar6.1 h with h|h
   ·unfold sy at h
    cases hb:Mp n.me s with
    |true=>rw [hb] at h;exact .inr (.inl h)
    |false=>rw [hb] at h;exact .inr (.inr (.inl h))
   ·rcases ar6.1 h with h|h
    ·exact .inr (.inr (.inl h))
    ·exact .inr (.inr (.inr h))
theorem SY (n:Nd) (x:Mb):mD n x=x∨mD n x=n.pr:=by
 unfold mD
 cases decide (x.1≠n.me.1) && (decide (x.2≠n.me.2) && (decide (n.pr=fj) || xq x.2 n.pr.2 n.me.2)) with
 |true=>exact .inl rfl
 |false=>exact .inr rfl
theorem Tm {l:List Mb} {n:Nd} (hr:Rg l) (hm:n.me∈l) (h:∀ m∈aO n,yv l m):∀ m∈aO (cD l n),yv l m:=λm hx=>by
 have hx:m∈Mi n (mu l n)::(nY (gv n.sc (mu l n) n.me.1) n.me++gv n.fg (mu l n) n.me.1):=hx
 rcases ar6.1 hx with hx|hx
 ·rcases K8 n (mu l n) with e|e
  ·rw [hx,e];exact El hr
  ·rw [hx,e];exact h _ ar5
 ·rcases at9.1 hx with hx|hx
  ·rcases Cj hx with hx|hx
   ·rw [hx];exact sj hr hm
   ·exact h _ (as5 _ (List.mem_append_left _ (pd hx)))
  ·exact h _ (as5 _ (List.mem_append_right _ (pd hx)))
theorem Tz {l l':List Mb} {n s:Nd} (hr:Rg l) (hm:n.me∈l) (hs:s.me∈l) (h:∀ m∈aO n,yv l m) (h2:∀ m∈aO s,yv l m):∀ m∈aO (oz n (kw l' s)),yv l m:=λm hx=>by
 have hx:m∈n.pr::(sI n (kw l' s)++n.fg):=hx
 rcases ar6.1 hx with hx|hx
 ·rw [hx];exact h _ ar5
 ·rcases at9.1 hx with hx|hx
  ·rcases Qf hx with hx|hx|hx|hx
   ·rw [hx];exact sj hr hm
   ·have hx:m=bif bu l' s.pr.1 then s.pr else fj:=hx
    cases hb:bu l' s.pr.1 with
    |true=>rw [hb] at hx;rw [hx];exact h2 _ ar5
    |false=>rw [hb] at hx;rw [hx];exact El hr
   ·rw [hx];exact sj hr hs
   ·exact h2 _ (as5 _ (List.mem_append_left _ hx))
  ·exact h _ (as5 _ (List.mem_append_right _ hx))
theorem Td {l:List Mb} {g:Nd} {me:Mb} (hr:Rg l) (hm:me∈l) (h:∀ m∈aO g,yv l m):∀ m∈aO (EO g me),yv l m:=λm hx=>by
 have hx:m∈mD g me::(g.sc++g.fg):=hx
 rcases ar6.1 hx with hx|hx
 ·rcases SY g me with e|e
  ·rw [hx,e];exact sj hr hm
  ·rw [hx,e];exact h _ ar5
 ·exact h _ (as5 _ hx)
theorem sK {L:List N3} {x:N3} (h:x∈L):x.1.me∈av L:=au9.2 ⟨x,h,rfl⟩
theorem Ng {L K:List N3} {no:Int} (h:RK L) (hl:bu (av L) no=true) (hK:nds K=fl (nds L) no):RK K:=by
 obtain ⟨hgm,hgn⟩:=h.rs.get hl
 have hgr:=h.rs.rn _ hgm
 have hT1:=wE (l:=av L) hgr
 have hk1:=Tm h.rs.ring (sK hgm) (h.kn _ hgm)
 obtain ⟨L1,hL1⟩:∃ x,x=fm L (cD (av L) (br L no).1,aq,aq):=⟨_,rfl⟩
 obtain ⟨hrs1,hm1,hi1⟩:=h.rs.put (x:=(cD (av L) (br L no).1,aq,aq)) hgm rfl hT1
 have hr1:=h.put (x:=(cD (av L) (br L no).1,aq,aq)) hgm rfl hT1 hk1
 rw [← hL1] at hrs1 hm1 hi1 hr1
 have hf1:bu (av L1) ((cD (av L) (br L no).1).sc.getD 0 aS).1=true:=by rw [hm1];exact lR hgr (by rw [hgn];exact hl)
 obtain ⟨hgm1,hgn1⟩:=hrs1.get hf1
 have hsr:=hrs1.rn _ hgm1
 have hk2:=Tz (l':=av L1) hrs1.ring (sK hi1) (sK hgm1) (hr1.kn _ hi1) (hr1.kn _ hgm1)
 obtain ⟨L2,hL2⟩:∃ x,x=fm L1 (oz (cD (av L) (br L no).1) (kw (av L1) (br L1 ((cD (av L) (br L no).1).sc.getD 0 aS).1).1),aq,aq):=⟨_,rfl⟩
 obtain ⟨hrs2,hm2,hi2⟩:=hrs1.put (x:=(oz (cD (av L) (br L no).1) (kw (av L1) (br L1 ((cD (av L) (br L no).1).sc.getD 0 aS).1).1),aq,aq)) hi1 rfl (pJ hT1 (ur hsr))
 have hr2:=hr1.put (x:=(oz (cD (av L) (br L no).1) (kw (av L1) (br L1 ((cD (av L) (br L no).1).sc.getD 0 aS).1).1),aq,aq)) hi1 rfl (pJ hT1 (ur hsr)) hk2
 rw [← hL2] at hrs2 hm2 hi2 hr2
 rw [yf L no hL1 hL2] at hK
 cases hb:bu (av L2) ((oz (cD (av L) (br L no).1) (kw (av L1) (br L1 ((cD (av L) (br L no).1).sc.getD 0 aS).1).1)).sc.getD 0 aS).1 with
 |false=>
  rw [hb] at hK
  have hK:nds L2=nds K:=hK.symm
  exact LC hK hr2
 |true=>
  rw [hb] at hK
  obtain ⟨hg2,hn2⟩:=hrs2.get hb
  have hme2:(cD (av L) (br L no).1).me∈av L2:=by have h9:=sK hi2;exact h9
  have hr3:=hr2.put (x:=(EO (br L2 ((oz (cD (av L) (br L no).1) (kw (av L1) (br L1 ((cD (av L) (br L no).1).sc.getD 0 aS).1).1)).sc.getD 0 aS).1).1 (cD (av L) (br L no).1).me,aq,aq)) hg2 rfl (tR (hrs2.rn _ hg2) hT1.me) (Td hrs2.ring hme2 (hr2.kn _ hg2))
  have hK:nds (fm L2 (EO (br L2 ((oz (cD (av L) (br L no).1) (kw (av L1) (br L1 ((cD (av L) (br L no).1).sc.getD 0 aS).1).1)).sc.getD 0 aS).1).1 (cD (av L) (br L no).1).me,aq,aq))=nds K:=by rw [ik,jj];exact hK.symm
  exact LC hK hr3
theorem KW {L:List N3} (h:RK L) (no:Int):RK (oM L no):=by
 have hs:(oM L no).Sublist L:=List.filter_sublist
 have hm:(av (oM L no)).Sublist (av L):=hs.map _
 exact ⟨⟨λx hx=>h.rs.rn x (hs.subset hx),h.rs.inc.sublist hs,h.rs.ring.sub hm⟩,λx hx m hx2 s hs2 e=>h.kn x (hs.subset hx) m hx2 s (hm.subset hs2) e⟩
theorem H9 {L:List N3} (h:RS L) {x y:N3} (hy:y∈L) (he:y.1.me=x.1.me):(fm (oM L x.1.me.1) x).length=L.length:=by
 obtain ⟨A,B,rfl⟩:=List.append_of_mem hy
 have hp:=List.pairwise_append.1 h.inc
 have hp2:=List.pairwise_cons.1 hp.2.1
 have hno:y.1.me.1=x.1.me.1:=by rw [he]
 have hA:∀ z∈A,z.1.me.1<x.1.me.1:=λz hz=>by rw [← hno];exact hp.2.2 z hz y ar5
 have hB:∀ z∈B,x.1.me.1<z.1.me.1:=λz hz=>by rw [← hno];exact hp2.1 z hz
 have e:oM (A++y::B) x.1.me.1=A++B:=by
  unfold oM
  rw [ax4,List.filter_cons,aq1 (by rw [hno];exact λh9=>h9 rfl)]
  have e1:A.filter (λx9:N3=>decide (x9.1.me.1≠x.1.me.1))=A:=List.filter_eq_self.2 λz hz=>aq2 (by have:=hA z hz;omega)
  have e2:B.filter (λx9:N3=>decide (x9.1.me.1≠x.1.me.1))=B:=List.filter_eq_self.2 λz hz=>aq2 (by have:=hB z hz;omega)
  rw [e1]
  simp only [Bool.false_eq_true,if_false]
  rw [e2]
 rw [e]
 unfold fm iS
 rw [List.foldl_append,oB A [] hA,List.nil_append]
 match B,hB with
 |[],_=>simp
 |b::B,hB=>
  have hb:=hB b ar5
  rw [List.foldl_cons,R5 rfl (aq2 (by omega)) (aq2 (by omega)),rK B _ λz hz=>hB z (as5 _ hz)]
  simp
theorem back {L Lz:List N3} {m:Mb} {no:Int} (h:RK L) (hm:m∈av L) (e:nds Lz=iC (nds L) m.1) (hz:bu (av Lz) no=true):R4 Lz m no=0/\(KS Lz m no).length=L.length:=by
 have e:nds Lz=nds (oM L m.1):=e.trans (TI L m.1).symm
 have hk:RK Lz:=LC e.symm (KW h m.1)
 have hmay:ib m=true:=iE.2 (h.rs.ring.nos m hm)
 have hok:V7 Lz m=true:=by unfold V7;rw [hk.ov,hmay];rfl
 have hin:∀ x∈Lz,∃ y∈L,y.1=x.1/\y.1.me.1≠m.1:=λx hx=>by
  have:x.1∈nds (oM L m.1):=by rw [← e];exact au9.2 ⟨x,hx,rfl⟩
  obtain ⟨y,hy,h1⟩:=au9.1 this
  have h2:=at4.1 hy
  exact ⟨y,h2.1,h1,ap9 h2.2⟩
 have hT:Vo Lz m=false:=ah0 (as1 _) λk hkl=>by
  obtain ⟨y,hy,h1,h2⟩:=hin _ (bE hkl)
  refine ah6 (j:=(aO (Lz.getD k z3).1).length) (aq1 (by rw [← h1];exact h2)) (aq1 ?_) (as1 _) λi hi=>?_
  ·rw [← h1]
   exact λh9=>h2 (by rw [h.rs.ring.id (sK hy) hm h9])
  ·unfold Xi
   cases hc:decide (((aO (Lz.getD k z3).1).getD i aS).1=m.1) with
   |false=>rfl
   |true=>
    have h3:=h.kn y hy _ (by rw [h1];exact fL hi) m hm (ap9 hc).symm
    rw [aq2 h3.symm];rfl
 have hE:Tn Lz m no=0:=aa1 hT (.inr hz)
 refine ⟨by unfold R4;rw [hok];exact hE,?_⟩
 unfold KS Z6
 rw [hok,aq2 hE]
 show (jI (nds Lz) _).length=_
 rw [e,← ik (oM L m.1) ((⟨m,fj,[G0 Lz m no],[]⟩:Nd),aq,aq)]
 obtain ⟨y,hy,hme⟩:=au9.1 hm
 have:=H9 h.rs (x:=((⟨m,fj,[G0 Lz m no],[]⟩:Nd),aq,aq)) hy hme
 unfold nds
 rw [au1];exact this
end Go.Proofs.YthmlflaiidhoiaaGreatDoor
namespace Go.Proofs.YthmlflaiidhoiaaGreatDoor
open Go.RowKit Go.ChangeShapes Go.WideShapes Go.ChangeAt
theorem I8 {H:Type} {enc:TypeId × Value->H} {P:Program} {W:World} {tm ts t tn ti e:TypeId} {g0 g1 g2 g3 f0 f1:Field} {fuel:Nat} {cs:List Value} {x:DataW H × List MemPlace} (T:IdTy P ti e) (hc:P.cellsOf ti=32) (hce:P.cellsOf e=1) (hn:P.underlying tn=some (.int .i64)) (hcn:P.cellsOf tn=1)
 (hcs:P.cellsOf ts=1) (hts:P.underlying ts=some (.slice t)) (ht:P.underlying t=some (.struct #[f0,f1])) (h0:f0.type=tn) (h1:f1.type=ti) (o0:f0.offset=0) (o1:f1.offset=1) (hct:P.cellsOf t=33)
 (htm:P.underlying tm=some (.struct #[g0,g1,g2,g3])) (ht0:g0.type=t) (ht1:g1.type=t) (ht2:g2.type=ts) (ht3:g3.type=ts) (Q4:g0.offset=0) (ho1:g1.offset=33) (ho2:g2.offset=66) (ho3:g3.offset=67) (hctm:P.cellsOf tm=68)
 (hf:DataW.trod enc P W 0 (λ_=>true) true fuel tm cs=some x):∃ y:N3,cs=Ft y/\CW W y:=by
 obtain ⟨xs,n,hcells,_,hl,hxl,hel⟩:=DataW.trod_struct htm hf
 have hcl:cs.length=68:=by rw [← hctm];simpa using hl
 have hx4:xs.length=4:=by simpa using hxl
 have e0:=hel 0 g0 rfl
 have e1:=hel 1 g1 rfl
 have e2:=hel 2 g2 rfl
 have e3:=hel 3 g3 rfl
 rw [ht0,Q4,hct,aq8 (by omega)] at e0
 rw [ht1,ho1,hct,aq8 (by omega)] at e1
 rw [ht2,ho2,hcs,aq8 (by omega)] at e2
 rw [ht3,ho3,hcs,aq8 (by omega)] at e3
 obtain ⟨a,ha⟩:=sX T hc hce hn hcn ht h0 h1 o0 o1 hct e0
 obtain ⟨b,hb⟩:=sX T hc hce hn hcn ht h0 h1 o0 o1 hct e1
 obtain ⟨u,ls,hu,hls⟩:=we T hc hce hn hcn hts ht h0 h1 o0 o1 hct e2
 obtain ⟨u2,ls2,hu2,hls2⟩:=we T hc hce hn hcn hts ht h0 h1 o0 o1 hct e3
 exact ⟨(⟨a,b,ls,ls2⟩,u,u2),PX hcl ha hb hu hu2,hls,hls2⟩
end Go.Proofs.YthmlflaiidhoiaaGreatDoor
