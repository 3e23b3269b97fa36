/- Overlays: rows of nodes, each with its rows: which may be, which are stable, what tending, coming, leaving and failing make of them, that what may be stays such; overlays that come in; no Go in it. -/
import Derived.Test.YtkhepdpfdhdlaaaGreatDoorNd
set_option linter.unusedVariables false
set_option linter.unusedSimpArgs false
set_option linter.unusedSectionVars false
namespace Go.Proofs.YtkhepdpfdhdlaaaGreatDoor
open Go.RowKit
theorem GW {a b:Nd} (h1:a.me=b.me) (h2:a.pr=b.pr) (h3:a.sc=b.sc) (h4:a.fg=b.fg):a=b:=by cases a;cases b;simp_all
instance:DecidableEq Nd:=λa b=>
 if h:a.me=b.me/\a.pr=b.pr/\a.sc=b.sc/\a.fg=b.fg then .isTrue (GW h.1 h.2.1 h.2.2.1 h.2.2.2) else .isFalse λe=>h (by subst e;exact ⟨rfl,rfl,rfl,rfl⟩)
theorem D2 (a b:Nd):gM a b=decide (a=b):=by
 by_cases h:a=b
 ·rw [ar7 h];exact TJ h
 ·rw [ar6 h,← Bool.not_eq_true]
  intro h9
  unfold gM at h9
  simp only [as0,as5] at h9
  exact h (GW h9.1 h9.2.1 h9.2.2.1 h9.2.2.2)
def kB (w:World) (v:Value) (L:List N3):Prop:=br w v 68 L.length (ax L)/\∀ x∈L,CU w x
theorem CU.keep {w w':World} {x:N3} (h:CU w x) (e:Ext w w'):CU w' x:=⟨h.1.keep e,h.2.keep e⟩
theorem kB.keep {w w':World} {v:Value} {L:List N3} (h:kB w v L) (e:Ext w w'):kB w' v L:=⟨h.1.keep e,λx hx=>(h.2 x hx).keep e⟩
abbrev nds (L:List N3):List Nd:=L.map (·.1)
theorem pz {L:List N3} {j:Nat} (hj:j<L.length):L[j]=L.getD j z3:=by rw [au1,as3 hj];rfl
theorem bU {L:List N3} {j:Nat} (hj:j<L.length):L.getD j z3∈L:=by rw [← pz hj];exact ax6 hj
theorem Da {L:List N3} {x:N3} (h:x∈L):∃ j,j<L.length/\L.getD j z3=x:=by
 obtain ⟨j,hj,rfl⟩:=List.mem_iff_getElem.1 h
 exact ⟨j,hj,(pz hj).symm⟩
theorem wm {L:List N3} {k:Nat} (h:k<L.length):L.take (k+1)=L.take k++[L.getD k z3]:=by rw [List.take_succ_eq_append_getElem h,pz h]
theorem yU (L:List N3):(ax L).length=L.length*68:=fq _ 68 jV L
theorem kX (L K:List N3):ax (L++K)=ax L++ax K:=aw7
theorem Jm (x:N3):([Value.agg (aP x.1.me x.1.pr x.2.1 x.2.2)].flatMap λv=>v.cells.toList)=x6 x:=by simp [Value.cells,x6,aP]
theorem DQ (L:List N3) (x:N3):ax L++x6 x=ax (L++[x]):=by rw [kX];simp [ax]
theorem D3 (x:N3):∀ v∈([Value.agg (aP x.1.me x.1.pr x.2.1 x.2.2)]:List Value),v.cells.size=68:=λv hv=>by rw [as9] at hv;subst hv;exact aq _ _ _ _
theorem CU.ones {w:World} {x:N3} (h:CU w x):x.2.1.oneCell'=true/\x.2.2.oneCell'=true:=⟨bR h.1,bR h.2⟩
theorem Si {w:World} {v:Value} {L:List N3} (h:br w v 68 L.length (ax L)) (k:Nat) (hk:k<=L.length):br w (jK v k) 68 (L.take k).length (ax (L.take k)):=by
 have:=h.cut k hk
 unfold ax at this
 rw [iS _ 68 jV] at this
 rw [av5,Nat.min_eq_left hk]
 exact this
theorem zJ (L:List N3) (j:Nat) (hj:j<L.length):(ax L)[j*68+0]? = some (.int .i64 (L.getD j z3).1.me.1):=by
 have h1:=ar8 (λa:Array Value=>a[0]?) (eE L j hj)
 simp only [kR] at h1
 rw [← h1];simp
theorem kB.take {w:World} {v:Value} {L:List N3} (h:kB w v L) (k:Nat) (hk:k<=L.length):kB w (jK v k) (L.take k):=⟨Si h.1 k hk,λx hx=>h.2 x (List.mem_of_mem_take hx)⟩
theorem NK (w:World):kB w au []:=⟨⟨rfl,.inl ⟨rfl,rfl⟩⟩,λ_ h=>by cases h⟩
theorem ey {v:Value} (h:v.oneCell'=true):∀ u∈(#[v]:Array Value).toList,u.oneCell'=true:=λu hu=>by
 have:u∈[v]:=hu
 rw [as9] at this;rw [this];exact h
def ovZ:List (List Value):=[[.slice none 0 0]]
theorem gJ {P:Program} {ρ:Operand->Value} {d:Option Tmp} {ty:TypeId} {pos:String} {af:Array Edge} {g:Option (Nat × Bool)} {t:TypeId} (S:Stt P t ovZ):a7 P ⟨d,.build t #[],ty,pos,af,g⟩ ρ (.agg #[au]):=
 bk (parts:=#[]) S [] (by simp) (λi v hm=>by simp at hm) (D:=[au]) rfl
theorem St.weak {w0 w:World} {ks:List Nat} {S S':World->Prop} {B:List Own} (s:St w0 (.grp ks S::B) w) (h:∀ w',S w'->S' w'):St w0 (.grp ks S'::B) w:=by
 refine ⟨s.ext,λp hp=>?_,λp hp k hk=>?_,?_⟩
 ·rcases at1.1 hp with rfl|hp
  ·have h0:=s.has _ at0
   exact ⟨h0.1,λw' hw=>h w' (h0.2 w' hw)⟩
  ·exact s.has p (au0 _ hp)
 ·rcases at1.1 hp with rfl|hp
  ·exact s.own _ at0 k hk
  ·exact s.own p (au0 _ hp) k hk
 ·have hpw:=List.pairwise_cons.1 s.nd
  exact List.pairwise_cons.2 ⟨λq hq k hk=>hpw.1 q hq k hk,hpw.2⟩
theorem St.getG {w0 w:World} {ks:List Nat} {S:World->Prop} {B:List Own} (s:St w0 B w) (i:Nat) (hi:B[i]? = some (.grp ks S)):S w:=(s.has _ (List.mem_of_getElem? hi)).2 w λ_ _=>rfl
def Tl (w:World) (R:World->Prop) (E:List Nd):dz:=λv w'=>∃ vo L ks,v=.agg #[vo]/\nds L=E/\St w [.grp ks λw9=>R w9->kB w9 vo L] w'
abbrev eG (L:List N3):World->Prop:=λw9=>∀ x∈L,CU w9 x
theorem N0 {w w':World} {B:List Own} {R:World->Prop} (s:St w B w'):Tl w R [] (.agg #[au]) w':=by
 refine ⟨au,[],_,rfl,rfl,(St.group (A:=[]) (B:=[]) (s.pick [] (at5 _))).weak λw9 _ _=>NK w9⟩
abbrev aQ (L:List N3):List Mb:=L.map (·.1.me)
def aN (n:Nd):List Mb:=n.pr::(n.sc++n.fg)
def ck (l:List Mb) (no:Int):Bool:=decide ((nG l no).1=no) && decide (0<=no)
theorem jz {l:List Mb} {no:Int} (hn:∀ m∈l,0<=m.1):ck l no=true↔∃ m∈l,m.1=no:=by
 unfold ck nG
 rw [as0,as5,as5]
 rcases DT (l:=l) (no:=no) with h|⟨m,h,hm,hno⟩
 ·rw [h]
  constructor
  ·rintro ⟨h1,h2⟩
   have h1:(-1:Int)=no:=h1
   omega
  ·rintro ⟨m,hm,hno⟩
   exact az2 (ar7 hno) (List.find?_eq_none.1 h m hm)
 ·rw [h]
  exact ⟨λ_=>⟨m,hm,hno⟩,λ_=>⟨hno,by have:=hn m hm;omega⟩⟩
def noN:Nd:=⟨fe,bz,[],[]⟩
def no3:N3:=(noN,au,au)
def cx (L:List N3) (no:Int):N3:=(L.find? λx=>decide (x.1.me.1=no)).getD no3
theorem Jx {L:List N3} {no:Int} {k:Nat} (hk:k<L.length) (h:∀ j,j<k->decide ((L.getD j z3).1.me.1=no)=false) (he:decide ((L.getD k z3).1.me.1=no)=true):cx L no=L.getD k z3:=by
 unfold cx
 have:L.find? (λx=>decide (x.1.me.1=no))=some (L.getD k z3):=by
  rw [List.find?_eq_some_iff_getElem]
  refine ⟨he,k,hk,pz hk,λj hj=>?_⟩
  rw [pz (by omega),h j hj];rfl
 rw [this];rfl
def vH (E:List Nd) (no:Int):Nd:=(E.find? λx=>decide (x.me.1=no)).getD noN
theorem lU (L:List N3) (no:Int):(cx L no).1=vH (nds L) no:=by
 unfold cx vH nds
 rw [List.find?_map]
 cases h:L.find? λx=>decide (x.1.me.1=no) with
 |none=>
  have:L.find? ((λx:Nd=>decide (x.me.1=no)) ∘ λx=>x.1)=none:=h
  rw [this];rfl
 |some x=>
  have:L.find? ((λx:Nd=>decide (x.me.1=no)) ∘ λx=>x.1)=some x:=h
  rw [this];rfl
def Bc (E:List Nd) (no:Int):List Nd:=E.filter λx=>decide (x.me.1≠no)
def putS (x:N3) (p:List N3 × Bool) (y:N3):List N3 × Bool:=
 let q:=bif !p.2 && decide (x.1.me.1<=y.1.me.1) then (p.1++[x],true) else p
 bif decide (y.1.me.1≠x.1.me.1) then (q.1++[y],q.2) else q
def iU (x:N3) (L:List N3):List N3 × Bool:=L.foldl (putS x) ([],false)
def ig (L:List N3) (x:N3):List N3:=bif (iU x L).2 then (iU x L).1 else (iU x L).1++[x]
theorem Pv {x:N3} {p:List N3 × Bool} {y z:N3} (h:z∈(putS x p y).1):z∈p.1∨z=x∨z=y:=by
 unfold putS at h
 have key:∀ q:List N3 × Bool,(z∈q.1->z∈p.1∨z=x∨z=y)->z∈(bif decide (y.1.me.1≠x.1.me.1) then (q.1++[y],q.2) else q).1->z∈p.1∨z=x∨z=y:=λq hq h=>by
  cases h2:decide (y.1.me.1≠x.1.me.1) with
  |true=>
   rw [h2] at h
   rcases av4.1 h with h|h
   ·exact hq h
   ·exact .inr (.inr (as9.1 h))
  |false=>rw [h2] at h;exact hq h
 refine key _ (λh=>?_) h
 cases h1 : !p.2 && decide (x.1.me.1<=y.1.me.1) with
 |true=>
  rw [h1] at h
  rcases av4.1 h with h|h
  ·exact .inl h
  ·exact .inr (.inl (as9.1 h))
 |false=>rw [h1] at h;exact .inl h
theorem DF {x z:N3}:∀ {L:List N3},z∈(iU x L).1->z=x∨z∈L:=λ{L}=>by
 unfold iU
 suffices h:∀ (L:List N3) (p:List N3 × Bool),z∈(L.foldl (putS x) p).1->z∈p.1∨z=x∨z∈L by
  intro h9;rcases h L ([],false) h9 with h|h
  ·cases h
  ·exact h
 intro L
 induction L with
 |nil=>intro p h;exact .inl h
 |cons y L ih=>
  intro p h
  rcases ih _ h with h|h|h
  ·rcases Pv h with h|h|h
   ·exact .inl h
   ·exact .inr (.inl h)
   ·exact .inr (.inr (by rw [h];exact at0))
  ·exact .inr (.inl h)
  ·exact .inr (.inr (au0 _ h))
theorem U5 {x z:N3} {L:List N3} (h:z∈ig L x):z=x∨z∈L:=by
 unfold ig at h
 cases hb:(iU x L).2 with
 |true=>rw [hb] at h;exact DF h
 |false=>
  rw [hb] at h
  rcases av4.1 h with h|h
  ·exact DF h
  ·exact .inl (as9.1 h)
def ud (x:Nd) (p:List Nd × Bool) (y:Nd):List Nd × Bool:=
 let q:=bif !p.2 && decide (x.me.1<=y.me.1) then (p.1++[x],true) else p
 bif decide (y.me.1≠x.me.1) then (q.1++[y],q.2) else q
def zG (x:Nd) (E:List Nd):List Nd × Bool:=E.foldl (ud x) ([],false)
def nf (E:List Nd) (x:Nd):List Nd:=bif (zG x E).2 then (zG x E).1 else (zG x E).1++[x]
theorem Pa (x:N3) (p:List N3 × Bool) (y:N3):ud x.1 (nds p.1,p.2) y.1=(nds (putS x p y).1,(putS x p y).2):=by
 unfold ud putS
 cases p with
 |mk l b=>
  cases b<;>by_cases h1:x.1.me.1<=y.1.me.1<;>by_cases h2:y.1.me.1=x.1.me.1<;>simp [h1,h2,nds]
theorem PU (x:N3) (L:List N3):zG x.1 (nds L)=(nds (iU x L).1,(iU x L).2):=by
 unfold zG iU
 suffices h:∀ (L:List N3) (p:List N3 × Bool),(nds L).foldl (ud x.1) (nds p.1,p.2)=(nds (L.foldl (putS x) p).1,(L.foldl (putS x) p).2) from h L ([],false)
 intro L
 induction L with
 |nil=>intro p;rfl
 |cons y L ih=>
  intro p
  show (nds L).foldl (ud x.1) (ud x.1 (nds p.1,p.2) y.1)=_
  rw [Pa,ih];rfl
theorem jd (L:List N3) (x:N3):nds (ig L x)=nf (nds L) x.1:=by
 unfold ig nf
 rw [PU]
 cases (iU x L).2 with
 |true=>rfl
 |false=>show nds ((iU x L).1++[x])=nds (iU x L).1++[x.1];simp [nds]
theorem XX {x:N3} {p:List N3 × Bool} {y:N3} (hb:p.2=false) (h1:decide (x.1.me.1<=y.1.me.1)=true) (h2:decide (y.1.me.1≠x.1.me.1)=true):putS x p y=((p.1++[x])++[y],true):=by unfold putS;rw [hb,h1,h2];rfl
theorem WA {x:N3} {p:List N3 × Bool} {y:N3} (hb:p.2=false) (h1:decide (x.1.me.1<=y.1.me.1)=true) (h2:decide (y.1.me.1≠x.1.me.1)=false):putS x p y=(p.1++[x],true):=by unfold putS;rw [hb,h1,h2];rfl
theorem Qv {x:N3} {p:List N3 × Bool} {y:N3} (h:p.2=true∨decide (x.1.me.1<=y.1.me.1)=false) (h2:decide (y.1.me.1≠x.1.me.1)=true):putS x p y=(p.1++[y],p.2):=by
 have h1:(!p.2 && decide (x.1.me.1<=y.1.me.1))=false:=by rcases h with h|h<;>simp [h]
 unfold putS;rw [h1,h2];rfl
def uL (E F:List Nd):Bool:=decide (E=F)
def zN:Nd:=Fi
theorem FA {E F:List Nd} (h:¬ E.length=F.length):uL E F=false:=ar6 λe=>h (by rw [e])
theorem Hy {L K:List N3} {k:Nat} (hk:k<L.length) (hk2:k<K.length) (h:gM (L.getD k z3).1 (K.getD k z3).1=false):uL (nds L) (nds K)=false:=by
 refine ar6 λe=>?_
 rw [D2] at h
 refine ar5 h ?_
 have h1:(nds L)[k]? = (nds K)[k]? := by rw [e]
 unfold nds at h1
 rw [aw5,aw5,as3 hk,as3 hk2,pz hk,pz hk2] at h1
 simpa using h1
theorem FO {L K:List N3} (hl:L.length=K.length) (h:∀ j,j<L.length->gM (L.getD j z3).1 (K.getD j z3).1=true):uL (nds L) (nds K)=true:=by
 refine ar7 ?_
 unfold nds
 apply List.ext_getElem
 ·simpa using hl
 ·intro i h1 h2
  have h1:i<L.length:=by simpa using h1
  have h2:i<K.length:=by simpa using h2
  have h3:=h i h1
  rw [D2] at h3
  rw [List.getElem_map,List.getElem_map,pz h1,pz h2]
  exact ar4 h3
structure FewO (L:List N3):Prop where
 len:L.length<=18
 each:∀ x∈L,x.1.sc.length<=6/\x.1.fg.length<=18
theorem Xb {L:List N3} {x:N3} (h:(iU x L).2=true):ig L x=(iU x L).1:=by unfold ig;rw [h];rfl
theorem W7 {L:List N3} {x:N3} (h:(iU x L).2=false):ig L x=(iU x L).1++[x]:=by unfold ig;rw [h];rfl
theorem AC {L:List N3} {k:Nat} (hk:k<L.length):aQ (L.take (k+1))=aQ (L.take k)++[(L.getD k z3).1.me]:=by unfold aQ;rw [wm hk,az0];rfl
section
variable {P:Program} {ρ:Operand->Value} {d:Option Tmp} {ty:TypeId} {pos:String} {af:Array Edge} {g:Option (Nat × Bool)} {x:Operand} {t:TypeId}
end
def OvL (w:World) (N:TypeId) (K:List N3):dz:=λv w'=>∃ vo,v=.agg #[vo]/\cI w' w.heap.size N 68 vo K.length (ax K)
structure RwB (L:List N3):Prop where
 each:∀ x∈L,x.1.sc.length<=300/\x.1.fg.length<=300
def qe (l:List Mb) (m:Mb):Bool:=decide (0<=(nG l m.1).1) && !decide (nG l m.1=m)
def kK (L:List N3) (k:Nat):Bool := !cY (L.getD k z3).1 || ((decide (0<k) && decide ((L.getD k z3).1.me.1<=(L.getD (k - 1) z3).1.me.1)) || (aN (L.getD k z3).1).any (qe (aQ L)))
def kH (L:List N3):Bool:=((List.range L.length).all λk => !kK L k) && ft (aQ L)
theorem Nx {L:List N3} {k:Nat} (hk:k<L.length) (h:kK L k=true):kH L=false:=by
 unfold kH
 have:((List.range L.length).all λk => !kK L k)=false:=by
  rw [← Bool.not_eq_true,as1]
  intro h9
  have:=h9 k (at2.2 hk)
  rw [h] at this;cases this
 rw [this];rfl
theorem P9 {L:List N3} {k:Nat} (hk:L.length<=k) (h:∀ j,j<k->kK L j=false):kH L=ft (aQ L):=by
 unfold kH
 have:((List.range L.length).all λk => !kK L k)=true:=by
  rw [as1]
  intro j hj
  rw [h j (by have:=at2.1 hj;omega)];rfl
 rw [this];rfl
theorem ae8 {L:List N3} {k:Nat} (h:decide (0<k)=true) (h1:decide ((L.getD k z3).1.me.1<=(L.getD (k - 1) z3).1.me.1)=true):kK L k=true:=by unfold kK;rw [h,h1];simp
theorem ai2 {L:List N3} {k j:Nat} (h:cY (L.getD k z3).1=true) (h1:decide (0<k)=false∨decide ((L.getD k z3).1.me.1<=(L.getD (k - 1) z3).1.me.1)=false) (hj:(aN (L.getD k z3).1).length<=j) (h2:∀ i,i<j->qe (aQ L) ((aN (L.getD k z3).1).getD i bz)=false):kK L k=false:=by
 unfold kK
 have e1:(decide (0<k) && decide ((L.getD k z3).1.me.1<=(L.getD (k - 1) z3).1.me.1))=false:=by rcases h1 with h1|h1<;>rw [h1]<;>simp
 have e2:(aN (L.getD k z3).1).any (qe (aQ L))=false:=by
  rw [ay0]
  intro x hx
  obtain ⟨i,hi,rfl⟩:=uD hx
  rw [h2 i (by omega)];decide
 rw [h,e1,e2];rfl
theorem Z0 {l:List Mb} {m:Mb} (h:decide (0<=(nG l m.1).1)=false):qe l m=false:=by unfold qe;rw [h];rfl
theorem ZN {l:List Mb} {m:Mb} (h:decide (0<=(nG l m.1).1)=true):qe l m = !decide (nG l m.1=m):=by unfold qe;rw [h];rfl
structure RO (E:List Nd):Prop where
 rn:∀ n∈E,RN n
 inc:E.Pairwise λa b=>a.me.1<b.me.1
 kn:∀ n∈E,∀ m∈aN n,∀ s∈E,s.me.1=m.1->s.me=m
 ring:Rg (E.map (·.me))
theorem UW {L:List N3} (h:∀ k,0<k->k<L.length->(L.getD (k - 1) z3).1.me.1<(L.getD k z3).1.me.1):∀ i j,i<j->j<L.length->(L.getD i z3).1.me.1<(L.getD j z3).1.me.1:=λi j hij hj=>by
 induction j with
 |zero=>omega
 |succ j ih=>
  have h1:=h (j+1) (Nat.zero_lt_succ _) hj
  rw [Nat.add_sub_cancel] at h1
  by_cases e:i=j
  ·subst e;exact h1
  ·have:=ih (by omega) (by omega)
   omega
theorem oO {L:List N3} (h:kH L=true):RO (nds L):=by
 unfold kH at h
 rw [as0,as1] at h
 obtain ⟨h1,h2⟩:=h
 have hb:∀ k,k<L.length->kK L k=false:=λk hk=>by have:=h1 k (at2.2 hk);simpa using this
 have hring:Rg ((nds L).map (·.me)):=by
  have:=(rU _).1 h2
  unfold nds;rw [List.map_map];exact this
 have hall:∀ k,k<L.length->cY (L.getD k z3).1=true/\(0<k->(L.getD (k - 1) z3).1.me.1<(L.getD k z3).1.me.1)/\∀ m∈aN (L.getD k z3).1,qe (aQ L) m=false:=λk hk=>by
  have:=hb k hk
  unfold kK at this
  rw [Bool.or_eq_false_iff,Bool.or_eq_false_iff,ay0] at this
  refine ⟨by simpa using this.1,λh0=>?_,λm hm=>by have:=this.2.2 m hm;simpa using this⟩
  have h9:=this.2.1
  rw [ar7 h0,Bool.true_and,decide_eq_false_iff_not] at h9
  omega
 have hinc:(nds L).Pairwise λa b=>a.me.1<b.me.1:=by
  unfold nds
  rw [List.pairwise_map,List.pairwise_iff_getElem]
  intro i j hi hj hij
  rw [pz hi,pz hj]
  exact UW (λk h0 hk=>(hall k hk).2.1 h0) i j hij hj
 refine ⟨λn hn=>?_,hinc,λn hn m hm s hs he=>?_,hring⟩
 ·obtain ⟨x,hx,rfl⟩:=aw4.1 hn
  obtain ⟨k,hk,rfl⟩:=Da hx
  exact jM.1 (hall k hk).1
 ·obtain ⟨x,hx,rfl⟩:=aw4.1 hn
  obtain ⟨k,hk,rfl⟩:=Da hx
  have h9:=(hall k hk).2.2 m hm
  unfold qe at h9
  have hs2:s.me∈aQ L:=by
   obtain ⟨y,hy,rfl⟩:=aw4.1 hs
   exact aw4.2 ⟨y,hy,rfl⟩
  have hf:=PZ ((rU _).1 h2) hs2
  rw [he] at hf
  have hr:nG (aQ L) m.1=s.me:=by unfold nG;rw [hf];rfl
  rw [hr] at h9
  have hnn:0<=s.me.1:=(((rU _).1 h2).nos _ hs2).1
  rw [ar7 hnn,Bool.true_and] at h9
  simpa using h9
theorem Vq {p:Nat->Bool} {k:Nat} (h:∀ j,j<k->p j=true) (hk:p k=true):∀ j,j<k+1->p j=true:=λj hj=>by
 by_cases e:j<k
 ·exact h j e
 ·obtain rfl:j=k:=by omega
  exact hk
theorem OI {w w':World} {R:World->Prop} {E:List Nd} {vo:Value} {L:List N3} {A:List Own} (hE:nds L=E) (h:∀ w9,(∀ p∈A,p.holds w w9)->R w9->kB w9 vo L) (s:St w A w'):Tl w R E (.agg #[vo]) w':=by
 refine ⟨vo,L,_,rfl,hE,(St.group (A:=A) (B:=[]) (by rw [aw9];exact s)).weak λw9 h9 hR=>h w9 h9 hR⟩
theorem M7 {x:N3} {acc:List N3} {y:N3} (h:y.1.me.1<x.1.me.1):putS x (acc,false) y=(acc++[y],false):=
 Qv (.inr (ar6 (by omega))) (ar7 (by omega))
theorem NT {x:N3} {acc:List N3} {y:N3} (h:y.1.me.1=x.1.me.1):putS x (acc,false) y=(acc++[x],true):=
 WA rfl (ar7 (by omega)) (ar6 (by omega))
theorem Qa {x:N3} {acc:List N3} {y:N3} (h:x.1.me.1<y.1.me.1):putS x (acc,true) y=(acc++[y],true):=
 Qv (.inl rfl) (ar7 (by omega))
theorem qB {x:N3}:∀ (A acc:List N3),(∀ y∈A,y.1.me.1<x.1.me.1)->A.foldl (putS x) (acc,false)=(acc++A,false)
 |[],acc,_=>by rw [aw9];rfl
 |y::A,acc,h=>by
  rw [List.foldl_cons,M7 (h y at0),qB A _ λz hz=>h z (au0 _ hz),aw8];rfl
theorem vJ {x:N3}:∀ (A acc:List N3),(∀ y∈A,x.1.me.1<y.1.me.1)->A.foldl (putS x) (acc,true)=(acc++A,true)
 |[],acc,_=>by rw [aw9];rfl
 |y::A,acc,h=>by
  rw [List.foldl_cons,Qa (h y at0),vJ A _ λz hz=>h z (au0 _ hz),aw8];rfl
theorem EG {A B:List N3} {x y:N3} (hA:∀ z∈A,z.1.me.1<x.1.me.1) (hy:y.1.me.1=x.1.me.1) (hB:∀ z∈B,x.1.me.1<z.1.me.1):ig (A++y::B) x=A++x::B:=by
 have:iU x (A++y::B)=(A++x::B,true):=by
  unfold iU
  rw [List.foldl_append,qB A [] hA,List.nil_append,List.foldl_cons,NT hy,vJ B _ hB,aw8];rfl
 unfold ig;rw [this];rfl
structure RS (L:List N3):Prop where
 rn:∀ x∈L,RN x.1
 inc:L.Pairwise λa b=>a.1.me.1<b.1.me.1
 ring:Rg (aQ L)
theorem RO.rs {L:List N3} (h:RO (nds L)):RS L:=by
 refine ⟨λx hx=>h.rn _ (aw4.2 ⟨x,hx,rfl⟩),?_,?_⟩
 ·have:=h.inc
  unfold nds at this
  rwa [List.pairwise_map] at this
 ·have:=h.ring
  unfold nds at this
  rw [List.map_map] at this;exact this
theorem RS.put {L:List N3} (h:RS L) {x y:N3} (hy:y∈L) (he:y.1.me=x.1.me) (hx:RN x.1):RS (ig L x)/\aQ (ig L x)=aQ L/\x∈ig L x:=by
 obtain ⟨A,B,rfl⟩:=List.append_of_mem hy
 have hp:=List.pairwise_append.1 h.inc
 have hp2:=List.pairwise_cons.1 hp.2.1
 have hno:y.1.me.1=x.1.me.1:=by rw [he]
 have e:=EG (x:=x) (λz hz=>by rw [← hno];exact hp.2.2 z hz y at0) hno (λz hz=>by rw [← hno];exact hp2.1 z hz)
 have em:aQ (A++x::B)=aQ (A++y::B):=by simp [aQ,he]
 rw [e]
 refine ⟨⟨λz hz=>?_,?_,?_⟩,em,by simp⟩
 ·rcases av4.1 hz with hz|hz
  ·exact h.rn z (List.mem_append_left _ hz)
  ·rcases at1.1 hz with rfl|hz
   ·exact hx
   ·exact h.rn z (List.mem_append_right _ (au0 _ hz))
 ·rw [List.pairwise_append,List.pairwise_cons]
  refine ⟨hp.1,⟨λz hz=>by rw [← hno];exact hp2.1 z hz,hp2.2⟩,λa ha b hb=>?_⟩
  rcases at1.1 hb with rfl|hb
  ·rw [← hno];exact hp.2.2 a ha y at0
  ·exact hp.2.2 a ha b (au0 _ hb)
 ·rw [em];exact h.ring
theorem RS.nos {L:List N3} (h:RS L):∀ m∈aQ L,0<=m.1:=λm hm=>(h.ring.nos m hm).1
theorem RS.len {L:List N3} (h:RS L):L.length<=16:=by
 have:=h.ring.len
 simpa [aQ] using this
theorem RS.get {L:List N3} (h:RS L) {no:Int} (hl:ck (aQ L) no=true):cx L no∈L/\(cx L no).1.me.1=no:=by
 obtain ⟨m,hm,hno⟩:=(jz h.nos).1 hl
 obtain ⟨x,hx,rfl⟩:=aw4.1 hm
 unfold cx
 cases hf:L.find? λx=>decide (x.1.me.1=no) with
 |none=>exact az2 (ar7 hno) (List.find?_eq_none.1 hf x hx)
 |some z=>exact ⟨List.mem_of_find?_eq_some hf,by have:=List.find?_some hf;exact ar4 this⟩
def oz (l:List Mb) (n:Nd):List Int:=((aN n).filter λm => !ck l m.1).map (·.1)
def kA (l:List Mb) (n:Nd) (k:Nat):List Int:=(((aN n).take k).filter λm => !ck l m.1).map (·.1)
theorem Jk {l:List Mb} {n:Nd} {k:Nat} (hk:k<(aN n).length) (h:ck l ((aN n).getD k bz).1=true):kA l n (k+1)=kA l n k:=by
 unfold kA;rw [tK hk,ay9,List.filter_cons,h];simp
theorem KN {l:List Mb} {n:Nd} {k:Nat} (hk:k<(aN n).length) (h:ck l ((aN n).getD k bz).1=false):kA l n (k+1)=kA l n k++[((aN n).getD k bz).1]:=by
 unfold kA;rw [tK hk,ay9,List.filter_cons,h];simp
theorem AP (l:List Mb) (n:Nd):kA l n (aN n).length=oz l n:=by unfold kA;rw [List.take_length];rfl
theorem vC (l:List Mb) (n:Nd) (k:Nat):(kA l n k).length<=(aN n).length:=by
 unfold kA
 have:=av7 (λm:Mb => !ck l m.1) ((aN n).take k)
 rw [av5] at this
 rw [av6];omega
def dT (l:List Mb) (n:Nd):Nd:=⟨n.me,Qy n (oz l n),o7 (iC n.sc (oz l n) n.me.1) n.me,iC n.fg (oz l n) n.me.1⟩
theorem CH {l:List Mb} {n:Nd} (h:RN n):dT l n=⟨n.me,Em n (oz l n),o7 (eD n.sc (oz l n)) n.me,eD n.fg (oz l n)⟩:=by
 unfold dT;rw [PV h,NF h,MA h]
theorem Bx {l:List Mb} {n:Nd} (h:RN n):RN (dT l n):=by rw [CH h];exact Oq h _
theorem oS {l:List Mb} {n:Nd} (h:RN n) (hm:ck l n.me.1=true):ck l ((dT l n).sc.getD 0 bz).1=true:=by
 rw [CH h]
 show ck l ((o7 (eD n.sc (oz l n)) n.me).getD 0 bz).1=true
 by_cases h0:(eD n.sc (oz l n)).length=0
 ·rw [ET h0];exact hm
 ·rw [zn h0]
  have hx:=iI (l:=eD n.sc (oz l n)) (j:=0) (by omega)
  obtain ⟨h1,h2⟩:=au9.1 hx
  cases hl:ck l ((eD n.sc (oz l n)).getD 0 bz).1 with
  |true=>rfl
  |false=>
   exfalso
   have h3:fx (oz l n) ((eD n.sc (oz l n)).getD 0 bz)=true:=zQ.2 (by
    show _∈((aN n).filter λm => !ck l m.1).map (·.1)
    refine aw4.2 ⟨_,au9.2 ⟨?_,by rw [hl];rfl⟩,rfl⟩
    unfold aN
    exact au0 _ (List.mem_append_left _ h1))
   rw [h3] at h2;cases h2
def pI (l:List Mb) (s:Nd):Nd:=⟨s.me,bif ck l s.pr.1 then s.pr else fe,s.sc,s.fg⟩
theorem vK {l:List Mb} {s:Nd} (h:RN s):RN (pI l s):=by
 have key:(pI l s).pr=s.pr∨(pI l s).pr=fe:=by
  unfold pI
  cases ck l s.pr.1 with
  |true=>exact .inl rfl
  |false=>exact .inr rfl
 refine ⟨h.me,?_,h.sc,h.fg⟩
 rcases key with e|e
 ·rw [e];exact h.pr
 ·exact .inl e
def sP (n1 s:Nd):Nd:=⟨n1.me,n1.pr,Gd n1 s,n1.fg⟩
theorem sg {n1 s:Nd} (h:RN n1) (hs:RN s):RN (sP n1 s):=PX h hs
def Mn (g:Nd) (me:Mb):Nd:=⟨g.me,nq g me,g.sc,g.fg⟩
theorem ve {g:Nd} {me:Mb} (h:RN g) (hm:0<=me.1/\me.1<16):RN (Mn g me):=M5 h (j7.2 hm)
def ia (E:List Nd):List Mb:=E.map (·.me)
def iq (E:List Nd) (no:Int):List Nd:=
 let n1:=dT (ia E) (vH E no)
 let E1:=nf E n1
 let s:=pI (ia E1) (vH E1 (n1.sc.getD 0 bz).1)
 let n2:=sP n1 s
 let E2:=nf E1 n2
 let fi:=(n2.sc.getD 0 bz).1
 bif ck (ia E2) fi then nf E2 (Mn (vH E2 fi) n2.me) else E2
theorem ec (L:List N3):ia (nds L)=aQ L:=by unfold ia nds;rw [List.map_map];rfl
theorem Es (L:List N3) (no:Int) {u1 u2 f1:Value} {L1 L2:List N3} (h1:L1=ig L (dT (aQ L) (cx L no).1,u1,u2)) (h2:L2=ig L1 (sP (dT (aQ L) (cx L no).1) (pI (aQ L1) (cx L1 ((dT (aQ L) (cx L no).1).sc.getD 0 bz).1).1),f1,u2)):
 iq (nds L) no=bif ck (aQ L2) ((sP (dT (aQ L) (cx L no).1) (pI (aQ L1) (cx L1 ((dT (aQ L) (cx L no).1).sc.getD 0 bz).1).1)).sc.getD 0 bz).1
  then nf (nds L2) (Mn (vH (nds L2) ((sP (dT (aQ L) (cx L no).1) (pI (aQ L1) (cx L1 ((dT (aQ L) (cx L no).1).sc.getD 0 bz).1).1)).sc.getD 0 bz).1) (dT (aQ L) (cx L no).1).me) else nds L2:=by
 have e1:nds L1=nf (nds L) (dT (aQ L) (cx L no).1):=by rw [h1,jd]
 have e2:nds L2=nf (nds L1) (sP (dT (aQ L) (cx L no).1) (pI (aQ L1) (cx L1 ((dT (aQ L) (cx L no).1).sc.getD 0 bz).1).1)):=by rw [h2,jd]
 unfold iq
 simp only [ec,← lU,← e1,← e2]
 rfl
theorem St.grp0 {w0 w:World} {B:List Own} {S:World->Prop} (s:St w0 B w) (h:∀ w9,S w9):St w0 (.grp [] S::B) w:=
 (St.group (A:=[]) (B:=B) s).weak λw9 _=>h w9
theorem St.merge {w0 w:World} {k1 k2:List Nat} {S1 S2 S:World->Prop} {B:List Own} (s:St w0 (.grp k1 S1::.grp k2 S2::B) w) (h:∀ w9,S1 w9->S2 w9->S w9):St w0 (.grp (k1++k2) S::B) w:=by
 have g:=St.group (A:=[.grp k1 S1,.grp k2 S2]) (B:=B) s
 have e:[Own.grp k1 S1,.grp k2 S2].flatMap Own.ks=k1++k2:=by simp [Own.ks]
 unfold Own.all at g
 rw [e] at g
 exact g.weak λw9 h9=>h w9 ((h9 (.grp k1 S1) (by simp)).2 w9 λ_ _=>rfl) ((h9 (.grp k2 S2) (by simp)).2 w9 λ_ _=>rfl)
theorem LA {L K:List N3} (h:nds L=nds K) (hL:RS L):RS K:=by
 have hm:aQ K=aQ L:=by rw [← ec,← ec,h]
 refine ⟨λx hx=>?_,?_,by rw [hm];exact hL.ring⟩
 ·have:x.1∈nds L:=by rw [h];exact aw4.2 ⟨x,hx,rfl⟩
  obtain ⟨y,hy,e⟩:=aw4.1 this
  rw [← e];exact hL.rn y hy
 ·have h1:(nds L).Pairwise λa b=>a.me.1<b.me.1:=by unfold nds;rw [List.pairwise_map];exact hL.inc
  rw [h] at h1
  unfold nds at h1
  rwa [List.pairwise_map] at h1
theorem DR {L K:List N3} {no:Int} (h:RS L) (hl:ck (aQ L) no=true) (hK:nds K=iq (nds L) no):RS K/\aQ K=aQ L:=by
 obtain ⟨hgm,hgn⟩:=h.get hl
 have hgr:=h.rn _ hgm
 have hT1:=Bx (l:=aQ L) hgr
 obtain ⟨L1,hL1⟩:∃ x,x=ig L (dT (aQ L) (cx L no).1,au,au):=⟨_,rfl⟩
 obtain ⟨hrs1,hm1,hi1⟩:=h.put (x:=(dT (aQ L) (cx L no).1,au,au)) hgm rfl hT1
 rw [← hL1] at hrs1 hm1 hi1
 have hf1:ck (aQ L1) ((dT (aQ L) (cx L no).1).sc.getD 0 bz).1=true:=by rw [hm1];exact oS hgr (by rw [hgn];exact hl)
 obtain ⟨hgm1,hgn1⟩:=hrs1.get hf1
 have hsr:=hrs1.rn _ hgm1
 obtain ⟨L2,hL2⟩:∃ x,x=ig L1 (sP (dT (aQ L) (cx L no).1) (pI (aQ L1) (cx L1 ((dT (aQ L) (cx L no).1).sc.getD 0 bz).1).1),au,au):=⟨_,rfl⟩
 obtain ⟨hrs2,hm2,hi2⟩:=hrs1.put (x:=(sP (dT (aQ L) (cx L no).1) (pI (aQ L1) (cx L1 ((dT (aQ L) (cx L no).1).sc.getD 0 bz).1).1),au,au)) hi1 rfl (sg hT1 (vK hsr))
 rw [← hL2] at hrs2 hm2 hi2
 rw [Es L no hL1 hL2] at hK
 cases hb:ck (aQ L2) ((sP (dT (aQ L) (cx L no).1) (pI (aQ L1) (cx L1 ((dT (aQ L) (cx L no).1).sc.getD 0 bz).1).1)).sc.getD 0 bz).1 with
 |false=>
  rw [hb] at hK
  have hK:nds L2=nds K:=hK.symm
  exact ⟨LA hK hrs2,by rw [← ec,← hK,ec,hm2,hm1]⟩
 |true=>
  rw [hb] at hK
  obtain ⟨hg2,hn2⟩:=hrs2.get hb
  obtain ⟨hrs3,hm3,_⟩:=hrs2.put (x:=(Mn (cx L2 ((sP (dT (aQ L) (cx L no).1) (pI (aQ L1) (cx L1 ((dT (aQ L) (cx L no).1).sc.getD 0 bz).1).1)).sc.getD 0 bz).1).1 (dT (aQ L) (cx L no).1).me,au,au)) hg2 rfl (ve (hrs2.rn _ hg2) hT1.me)
  have hK:nds (ig L2 (Mn (cx L2 ((sP (dT (aQ L) (cx L no).1) (pI (aQ L1) (cx L1 ((dT (aQ L) (cx L no).1).sc.getD 0 bz).1).1)).sc.getD 0 bz).1).1 (dT (aQ L) (cx L no).1).me,au,au))=nds K:=by rw [jd,lU];exact hK.symm
  exact ⟨LA hK hrs3,by rw [← ec,← hK,ec,hm3,hm2,hm1]⟩
def BU (E:List Nd) (k:Nat):List Nd:=((ia E).take k).foldl (λF m=>iq F m.1) E
def ra (E:List Nd):List Nd:=(ia E).foldl (λF m=>iq F m.1) E
theorem GD {L:List N3} {k:Nat} (hk:k<(aQ L).length):BU (nds L) (k+1)=iq (BU (nds L) k) ((aQ L).getD k bz).1:=by
 unfold BU;rw [ec,tK hk,List.foldl_append];rfl
theorem Lc {L:List N3} {k:Nat} (hk:k=(aQ L).length):BU (nds L) k=ra (nds L):=by
 subst hk;unfold BU ra;rw [ec,List.take_length]
def tlQ (l:List Mb) (no:Int) (m:Mb):Bool:=ck l m.1 && decide (m.1≠no)
def tlL (l:List Mb) (no:Int) (g:Nd):List Mb:=g.sc.filter (tlQ l no)
def tlC (l:List Mb) (n g:Nd):Bool:=decide (n.sc.length=1) && (decide (n.sc.getD 0 bz=g.me) && decide (0<(tlL l n.me.1 g).length))
def tlS (l:List Mb) (n g:Nd):List Mb:=bif tlC l n g then tlL l n.me.1 g else o7 (iC n.sc [g.me.1] n.me.1) n.me
def tlD (l:List Mb) (n g:Nd):Bool:=decide (n.pr=g.me) && (ck l g.pr.1 && decide (g.pr.1≠n.me.1))
def tlP (l:List Mb) (n g:Nd):Mb:=bif tlD l n g then g.pr else Qy n [g.me.1]
def tlN (l:List Mb) (n g:Nd):Nd:=⟨n.me,tlP l n g,tlS l n g,iC n.fg [g.me.1] n.me.1⟩
theorem D7 {w w':World} {N:TypeId} {R:World->Prop} {E:List Nd} {vo:Value} {L:List N3} {ks:List Nat} (hE:nds L=E) (s:St w [.sl vo N 68 L.length (ax L),.grp ks (eG L)] w'):Tl w R E (.agg #[vo]) w':=
 OI hE (λw9 h9 _=>⟨br.of_own (h9 (.sl vo N 68 L.length (ax L)) (by simp)),(h9 (.grp ks (eG L)) (by simp)).2 w9 λ_ _=>rfl⟩) s
theorem St.grpR {w0 w:World} {a b:Value} {M N:TypeId} {sa sb n m:Nat} {xs ys:List Value} {ks:List Nat} {S S':World->Prop} {B:List Own} (s:St w0 (.sl a M sa n xs::.sl b N sb m ys::.grp ks S::B) w) (h:∀ w9,br w9 a sa n xs->br w9 b sb m ys->S w9->S' w9):∃ kn,St w0 (.grp kn S'::B) w:=
 ⟨_,(St.group (A:=[.sl a M sa n xs,.sl b N sb m ys,.grp ks S]) (B:=B) s).weak λw9 h9=>h w9 (br.of_own (h9 (.sl a M sa n xs) (by simp))) (br.of_own (h9 (.sl b N sb m ys) (by simp))) ((h9 (.grp ks S) (by simp)).2 w9 λ_ _=>rfl)⟩
def Iu (E:List Nd) (no:Int):List Nd:=(Bc E no).map λy=>tlN (ia (Bc E no)) y (vH E no)
def T8 (w:World) (R:World->Prop) (E:List Nd) (k:Int):dz:=λv w'=>∃ o,v=.tuple #[o,.int .i64 k]/\Tl w R E o w'
theorem o8 {w w':World} {B:List Own} {R:World->Prop} {E:List Nd} {k q:Int} (s:St w B w') (hE:E=[]) (hk:k=q):T8 w R E k (.tuple #[.agg #[au],.int .i64 q]) w':=by
 subst hE;subst hk;exact ⟨_,rfl,N0 s⟩
theorem wC {w w':World} {R:World->Prop} {E:List Nd} {k q:Int} {o:Value} (hk:k=q) (h:Tl w R E o w'):T8 w R E k (.tuple #[o,.int .i64 q]) w':=by
 subst hk;exact ⟨_,rfl,h⟩
def oy (m y:Mb):Bool:=decide (y.1=m.1) && !decide (y=m)
def qj (L:List N3) (m:Mb) (k:Nat):Bool:=decide ((L.getD k z3).1.me.1=m.1) || (decide ((L.getD k z3).1.me.2=m.2) || (aN (L.getD k z3).1).any (oy m))
def GO (L:List N3) (m:Mb):Bool:=(List.range L.length).any (qj L m)
def Jg (L:List N3) (m:Mb) (no:Int):Int:=bif GO L m then 7 else bif decide (0<L.length) && !ck (aQ L) no then 10 else 0
def VQ (L:List N3) (m:Mb) (no:Int):Mb:=bif decide (0<L.length) then (cx L no).1.me else m
def Yh (L:List N3) (m:Mb) (no:Int):List Nd:=bif decide (Jg L m no=0) then nf (nds L) ⟨m,fe,[VQ L m no],[]⟩ else []
theorem Yw {L:List N3} {m:Mb} {k:Nat} (hk:k<L.length) (h:qj L m k=true):GO L m=true:=ax9.2 ⟨k,at2.2 hk,h⟩
theorem ac1 {L:List N3} {m:Mb} {k:Nat} (hk:L.length<=k) (h:∀ j,j<k->qj L m j=false):GO L m=false:=by
 unfold GO
 rw [ay0]
 intro j hj
 rw [h j (by have:=at2.1 hj;omega)];decide
theorem Vu {L:List N3} {m:Mb} {k:Nat} (h:decide ((L.getD k z3).1.me.1=m.1)=true):qj L m k=true:=by unfold qj;rw [h];rfl
theorem VW {L:List N3} {m:Mb} {k:Nat} (h:decide ((L.getD k z3).1.me.2=m.2)=true):qj L m k=true:=by unfold qj;rw [h];simp
theorem VS {L:List N3} {m:Mb} {k j:Nat} (hj:j<(aN (L.getD k z3).1).length) (h:oy m ((aN (L.getD k z3).1).getD j bz)=true):qj L m k=true:=by
 unfold qj
 have:(aN (L.getD k z3).1).any (oy m)=true:=ax9.2 ⟨_,iI hj,h⟩
 rw [this];simp
theorem YW {L:List N3} {m:Mb} {k j:Nat} (h0:decide ((L.getD k z3).1.me.1=m.1)=false) (h1:decide ((L.getD k z3).1.me.2=m.2)=false) (hj:(aN (L.getD k z3).1).length<=j) (h2:∀ i,i<j->oy m ((aN (L.getD k z3).1).getD i bz)=false):qj L m k=false:=by
 unfold qj
 have e2:(aN (L.getD k z3).1).any (oy m)=false:=by
  rw [ay0]
  intro x hx
  obtain ⟨i,hi,rfl⟩:=uD hx
  rw [h2 i (by omega)];decide
 rw [h0,h1,e2];rfl
theorem Zd {L:List N3} {m:Mb} {no:Int} (h:GO L m=true):Jg L m no=7:=by unfold Jg;rw [h];rfl
theorem Q3 {L:List N3} {m:Mb} {no:Int} (h:GO L m=false) (h0:0<L.length) (h1:ck (aQ L) no=false):Jg L m no=10:=by unfold Jg;rw [h,ar7 h0,h1];rfl
theorem Nr {L:List N3} {m:Mb} {no:Int} (h:GO L m=false) (h0:¬ 0<L.length∨ck (aQ L) no=true):Jg L m no=0:=by
 unfold Jg;rw [h]
 rcases h0 with h0|h0
 ·rw [ar6 h0];rfl
 ·rw [h0];simp
theorem RL {L:List N3} {m:Mb} {no k:Int} (h:Jg L m no=k) (h0:k≠0):Yh L m no=[]:=by unfold Yh;rw [ar6 (by rw [h];exact h0)];rfl
theorem ZL {L:List N3} {m:Mb} {no:Int} (h:0<L.length):VQ L m no=(cx L no).1.me:=by unfold VQ;rw [ar7 h];rfl
theorem ah3 {L:List N3} {m:Mb} {no:Int} (h:¬ 0<L.length):VQ L m no=m:=by unfold VQ;rw [ar6 h];rfl
def cE (L:List N3) (no:Int):Int:=bif kH L then bif ck (aQ L) no then 0 else 10 else 1
def GN (L:List N3) (m:Mb):Bool:=kH L && gb m
def p8 (L:List N3) (m:Mb) (no:Int):Int:=bif GN L m then Jg L m no else 1
def um (L:List N3) (m:Mb) (no:Int):List Nd:=bif GN L m then Yh L m no else []
def VM (L:List N3):Int:=bif kH L then 0 else 1
def VF (L:List N3):List Nd:=bif kH L then ra (nds L) else []
def WX (L:List N3) (no:Int):List Nd:=bif decide (cE L no=0) then Bc (nds L) no else []
abbrev EY (vo:Value) (L:List N3):World->Prop:=λw9=>kB w9 vo L
structure BdE (E:List Nd):Prop where
 len:E.length<=40
 each:∀ n∈E,n.sc.length<=300/\n.fg.length<=300
theorem BdE.l {L:List N3} {E:List Nd} (h:BdE E) (e:nds L=E):L.length<=40:=by subst e;have:=h.len;simpa [nds] using this
theorem BdE.r {L:List N3} {E:List Nd} (h:BdE E) (e:nds L=E):RwB L:=by subst e;exact ⟨λx hx=>h.each _ (aw4.2 ⟨x,hx,rfl⟩)⟩
def kI (E:List Nd):List N3:=E.map λn=>(n,au,au)
theorem Bn (E:List Nd):nds (kI E)=E:=by unfold nds kI;rw [List.map_map];exact List.map_id E
theorem WI {L:List N3} {no k:Int} (h:cE L no=k) (h0:k≠0):WX L no=[]:=by unfold WX;rw [ar6 (by rw [h];exact h0)];rfl
theorem WB {L:List N3} {no:Int} (h:cE L no=0):WX L no=Bc (nds L) no:=by unfold WX;rw [ar7 h];rfl
theorem Rk {L:List N3} (h:kH L=false):VM L=1/\VF L=[]:=by unfold VM VF;rw [h];exact ⟨rfl,rfl⟩
theorem DL {L:List N3} (h:kH L=true):VM L=0/\VF L=ra (nds L):=by unfold VM VF;rw [h];exact ⟨rfl,rfl⟩
def Vw (E:List Nd):dz:=λv w=>∃ vo L,v=.agg #[vo]/\nds L=E/\kB w vo L
theorem Vw.mono (E:List Nd):p6 (Vw E):=λ_ _ _ ⟨vo,L,h1,h2,h3⟩ hE=>⟨vo,L,h1,h2,h3.keep hE⟩
theorem Tl.d {w w':World} {R:World->Prop} {E:List Nd} {v:Value} (h:Tl w R E v w') (hR:R w'):Vw E v w':=by
 obtain ⟨vo,L,ks,h1,h2,h3⟩:=h
 exact ⟨vo,L,h1,h2,h3.getG 0 rfl hR⟩
theorem OvL.d {w w':World} {N:TypeId} {K:List N3} {E:List Nd} {v:Value} (h:OvL w N K v w') (e:nds K=E) (hr:∀ y∈K,CU w' y):Vw E v w':=by
 obtain ⟨vo,h1,h2⟩:=h
 exact ⟨vo,K,h1,e,br.of_own h2,hr⟩
def Sr (E:List Nd) (k:Int):dz:=λv w=>∃ o,v=.tuple #[o,.int .i64 k]/\Vw E o w
theorem Sr.mono (E:List Nd) (k:Int):p6 (Sr E k):=λ_ _ _ ⟨o,h1,h2⟩ hE=>⟨o,h1,Vw.mono E _ _ _ h2 hE⟩
theorem T8.d {w w':World} {R:World->Prop} {E:List Nd} {k:Int} {v:Value} (h:T8 w R E k v w') (hR:R w'):Sr E k v w':=by
 obtain ⟨o,h1,h2⟩:=h
 exact ⟨o,h1,h2.d hR⟩
theorem Rr {L:List N3} {m:Mb} (h:kH L=false):GN L m=false:=by unfold GN;rw [h];rfl
theorem vR {L:List N3} {m:Mb} {no:Int} (h:GN L m=false):p8 L m no=1/\um L m no=[]:=by unfold p8 um;rw [h];exact ⟨rfl,rfl⟩
theorem rh {L:List N3} {m:Mb} {no:Int} (h:GN L m=true):p8 L m no=Jg L m no/\um L m no=Yh L m no:=by unfold p8 um;rw [h];exact ⟨rfl,rfl⟩
def LV (l:List Mb) (m:Mb):Prop:=∀ s∈l,s.1=m.1->s=m
structure RK (L:List N3):Prop where
 rs:RS L
 kn:∀ x∈L,∀ m∈aN x.1,LV (aQ L) m
theorem RK.ov {L:List N3} (h:RK L):kH L=true:=by
 have hb:∀ k,k<L.length->kK L k=false:=λk hk=>by
  refine ai2 (j:=(aN (L.getD k z3).1).length) (jM.2 (h.rs.rn _ (bU hk))) ?_ (at6 _) λi hi=>?_
  ·by_cases h0:0<k
   ·refine .inr (ar6 ?_)
    have:=List.pairwise_iff_getElem.1 h.rs.inc (k - 1) k (by omega) hk (by omega)
    rw [pz,pz] at this
    omega
   ·exact .inl (ar6 h0)
  ·have hm:=iI hi
   cases hc:decide (0<=(nG (aQ L) ((aN (L.getD k z3).1).getD i bz).1).1) with
   |false=>exact Z0 hc
   |true=>
    rw [ZN hc]
    have hc:=ar4 hc
    rcases DT (l:=aQ L) (no:=((aN (L.getD k z3).1).getD i bz).1) with h9|⟨s,h9,hs,hno⟩
    ·unfold nG at hc;rw [h9] at hc
     exact az2 hc (by decide)
    ·have e:nG (aQ L) ((aN (L.getD k z3).1).getD i bz).1=s:=by unfold nG;rw [h9];rfl
     rw [e,ar7 (h.kn _ (bU hk) _ hm s hs hno)];rfl
 rw [P9 (at6 _) hb]
 exact(rU _).2 h.rs.ring
theorem Q4 {L K:List N3} (h:nds L=nds K) (hL:RK L):RK K:=by
 have hm:aQ K=aQ L:=by rw [← ec,← ec,h]
 refine ⟨LA h hL.rs,λx hx m hx2=>?_⟩
 have:x.1∈nds L:=by rw [h];exact aw4.2 ⟨x,hx,rfl⟩
 obtain ⟨y,hy,e⟩:=aw4.1 this
 rw [hm]
 exact hL.kn y hy m (by rw [e];exact hx2)
theorem Ql {l:List Mb} (h:Rg l):LV l fe:=λs hs e=>by
 have h1:=(h.nos s hs).1
 have e:s.1 = -1:=e
 omega
theorem Dd {l:List Mb} (h:Rg l) {m:Mb} (hm:m∈l):LV l m:=λ_ hs e=>h.no hs hm e
theorem RK.put {L:List N3} (h:RK L) {x y:N3} (hy:y∈L) (he:y.1.me=x.1.me) (hx:RN x.1) (hk:∀ m∈aN x.1,LV (aQ L) m):RK (ig L x):=by
 obtain ⟨h1,h2,_⟩:=h.rs.put hy he hx
 refine ⟨h1,λz hz m hm=>?_⟩
 rw [h2]
 rcases U5 hz with rfl|hz
 ·exact hk m hm
 ·exact h.kn z hz m hm
theorem TH (n:Nd) (nos:List Int):Qy n nos=fe∨Qy n nos=n.pr:=by
 unfold Qy
 cases (!decide (n.pr=fe) && decide ((iC [n.pr] nos n.me.1).length=0)) with
 |true=>exact .inl rfl
 |false=>exact .inr rfl
theorem Ma {l:List Mb} {me x:Mb} (h:x∈o7 l me):x=me∨x∈l:=by
 by_cases h0:l.length=0
 ·rw [ET h0] at h;exact .inl (as9.1 h)
 ·rw [zn h0] at h;exact .inr h
theorem yH {l:List Mb} {nos:List Int} {no:Int} {x:Mb} (h:x∈iC l nos no):x∈l:=(au9.1 h).1
theorem OK {n s:Nd} {x:Mb} (h:x∈Gd n s):x=n.me∨x=s.pr∨x=s.me∨x∈s.sc:=by
 rcases Ma h with h|h
 ·exact .inl h
 ·rcases uY _ [] h with h|h
  ·cases h
  ·have h:=(nU h).1
   rcases at1.1 h with h|h
   ·unfold sd at h
    cases hb:Ms n.me s with
    |true=>rw [hb] at h;exact .inr (.inl h)
    |false=>rw [hb] at h;exact .inr (.inr (.inl h))
   ·rcases at1.1 h with h|h
    ·exact .inr (.inr (.inl h))
    ·exact .inr (.inr (.inr h))
theorem Sc (n:Nd) (x:Mb):nq n x=x∨nq n x=n.pr:=by
 unfold nq
 cases decide (x.1≠n.me.1) && (decide (x.2≠n.me.2) && (decide (n.pr=fe) || x8 x.2 n.pr.2 n.me.2)) with
 |true=>exact .inl rfl
 |false=>exact .inr rfl
theorem T4 {l:List Mb} {n:Nd} (hr:Rg l) (hm:n.me∈l) (h:∀ m∈aN n,LV l m):∀ m∈aN (dT l n),LV l m:=λm hx=>by
 have hx:m∈Qy n (oz l n)::(o7 (iC n.sc (oz l n) n.me.1) n.me++iC n.fg (oz l n) n.me.1):=hx
 rcases at1.1 hx with hx|hx
 ·rcases TH n (oz l n) with e|e
  ·rw [hx,e];exact Ql hr
  ·rw [hx,e];exact h _ at0
 ·rcases av4.1 hx with hx|hx
  ·rcases Ma hx with hx|hx
   ·rw [hx];exact Dd hr hm
   ·exact h _ (au0 _ (List.mem_append_left _ (yH hx)))
  ·exact h _ (au0 _ (List.mem_append_right _ (yH hx)))
theorem Ve {l l':List Mb} {n s:Nd} (hr:Rg l) (hm:n.me∈l) (hs:s.me∈l) (h:∀ m∈aN n,LV l m) (h2:∀ m∈aN s,LV l m):∀ m∈aN (sP n (pI l' s)),LV l m:=λm hx=>by
 have hx:m∈n.pr::(Gd n (pI l' s)++n.fg):=hx
 rcases at1.1 hx with hx|hx
 ·rw [hx];exact h _ at0
 ·rcases av4.1 hx with hx|hx
  ·rcases OK hx with hx|hx|hx|hx
   ·rw [hx];exact Dd hr hm
   ·have hx:m=bif ck l' s.pr.1 then s.pr else fe:=hx
    cases hb:ck l' s.pr.1 with
    |true=>rw [hb] at hx;rw [hx];exact h2 _ at0
    |false=>rw [hb] at hx;rw [hx];exact Ql hr
   ·rw [hx];exact Dd hr hs
   ·exact h2 _ (au0 _ (List.mem_append_left _ hx))
  ·exact h _ (au0 _ (List.mem_append_right _ hx))
theorem Sz {l:List Mb} {g:Nd} {me:Mb} (hr:Rg l) (hm:me∈l) (h:∀ m∈aN g,LV l m):∀ m∈aN (Mn g me),LV l m:=λm hx=>by
 have hx:m∈nq g me::(g.sc++g.fg):=hx
 rcases at1.1 hx with hx|hx
 ·rcases Sc g me with e|e
  ·rw [hx,e];exact Dd hr hm
  ·rw [hx,e];exact h _ at0
 ·exact h _ (au0 _ hx)
theorem wT {L:List N3} {x:N3} (h:x∈L):x.1.me∈aQ L:=aw4.2 ⟨x,h,rfl⟩
theorem Od {L K:List N3} {no:Int} (h:RK L) (hl:ck (aQ L) no=true) (hK:nds K=iq (nds L) no):RK K:=by
 obtain ⟨hgm,hgn⟩:=h.rs.get hl
 have hgr:=h.rs.rn _ hgm
 have hT1:=Bx (l:=aQ L) hgr
 have hk1:=T4 h.rs.ring (wT hgm) (h.kn _ hgm)
 obtain ⟨L1,hL1⟩:∃ x,x=ig L (dT (aQ L) (cx L no).1,au,au):=⟨_,rfl⟩
 obtain ⟨hrs1,hm1,hi1⟩:=h.rs.put (x:=(dT (aQ L) (cx L no).1,au,au)) hgm rfl hT1
 have hr1:=h.put (x:=(dT (aQ L) (cx L no).1,au,au)) hgm rfl hT1 hk1
 rw [← hL1] at hrs1 hm1 hi1 hr1
 have hf1:ck (aQ L1) ((dT (aQ L) (cx L no).1).sc.getD 0 bz).1=true:=by rw [hm1];exact oS hgr (by rw [hgn];exact hl)
 obtain ⟨hgm1,hgn1⟩:=hrs1.get hf1
 have hsr:=hrs1.rn _ hgm1
 have hk2:=Ve (l':=aQ L1) hrs1.ring (wT hi1) (wT hgm1) (hr1.kn _ hi1) (hr1.kn _ hgm1)
 obtain ⟨L2,hL2⟩:∃ x,x=ig L1 (sP (dT (aQ L) (cx L no).1) (pI (aQ L1) (cx L1 ((dT (aQ L) (cx L no).1).sc.getD 0 bz).1).1),au,au):=⟨_,rfl⟩
 obtain ⟨hrs2,hm2,hi2⟩:=hrs1.put (x:=(sP (dT (aQ L) (cx L no).1) (pI (aQ L1) (cx L1 ((dT (aQ L) (cx L no).1).sc.getD 0 bz).1).1),au,au)) hi1 rfl (sg hT1 (vK hsr))
 have hr2:=hr1.put (x:=(sP (dT (aQ L) (cx L no).1) (pI (aQ L1) (cx L1 ((dT (aQ L) (cx L no).1).sc.getD 0 bz).1).1),au,au)) hi1 rfl (sg hT1 (vK hsr)) hk2
 rw [← hL2] at hrs2 hm2 hi2 hr2
 rw [Es L no hL1 hL2] at hK
 cases hb:ck (aQ L2) ((sP (dT (aQ L) (cx L no).1) (pI (aQ L1) (cx L1 ((dT (aQ L) (cx L no).1).sc.getD 0 bz).1).1)).sc.getD 0 bz).1 with
 |false=>
  rw [hb] at hK
  have hK:nds L2=nds K:=hK.symm
  exact Q4 hK hr2
 |true=>
  rw [hb] at hK
  obtain ⟨hg2,hn2⟩:=hrs2.get hb
  have hme2:(dT (aQ L) (cx L no).1).me∈aQ L2:=by have h9:=wT hi2;exact h9
  have hr3:=hr2.put (x:=(Mn (cx L2 ((sP (dT (aQ L) (cx L no).1) (pI (aQ L1) (cx L1 ((dT (aQ L) (cx L no).1).sc.getD 0 bz).1).1)).sc.getD 0 bz).1).1 (dT (aQ L) (cx L no).1).me,au,au)) hg2 rfl (ve (hrs2.rn _ hg2) hT1.me) (Sz hrs2.ring hme2 (hr2.kn _ hg2))
  have hK:nds (ig L2 (Mn (cx L2 ((sP (dT (aQ L) (cx L no).1) (pI (aQ L1) (cx L1 ((dT (aQ L) (cx L no).1).sc.getD 0 bz).1).1)).sc.getD 0 bz).1).1 (dT (aQ L) (cx L no).1).me,au,au))=nds K:=by rw [jd,lU];exact hK.symm
  exact Q4 hK hr3
end Go.Proofs.YtkhepdpfdhdlaaaGreatDoor
namespace Go.Proofs.YtkhepdpfdhdlaaaGreatDoor
open Go.RowKit Go.ChangeShapes Go.WideShapes Go.ChangeAt
theorem KF {H:Type} {enc:TypeId × Value->H} {P:Program} {W:World} {tm ts t tn ti e:TypeId} {g0 g1 g2 g3 f0 f1:Field} {fuel:Nat} {cs:List Value} {x:DataW H × List MemPlace} (T:IdTy P ti e) (hc:P.cellsOf ti=32) (hce:P.cellsOf e=1) (hn:P.underlying tn=some (.int .i64)) (hcn:P.cellsOf tn=1)
 (hcs:P.cellsOf ts=1) (hts:P.underlying ts=some (.slice t)) (ht:P.underlying t=some (.struct #[f0,f1])) (h0:f0.type=tn) (h1:f1.type=ti) (o0:f0.offset=0) (o1:f1.offset=1) (hct:P.cellsOf t=33)
 (htm:P.underlying tm=some (.struct #[g0,g1,g2,g3])) (ht0:g0.type=t) (ht1:g1.type=t) (ht2:g2.type=ts) (ht3:g3.type=ts) (Qs:g0.offset=0) (ho1:g1.offset=33) (ho2:g2.offset=66) (ho3:g3.offset=67) (hctm:P.cellsOf tm=68)
 (hf:DataW.trod enc P W 0 (λ_=>true) true fuel tm cs=some x):∃ y:N3,cs=x6 y/\CU W y:=by
 obtain ⟨xs,n,hcells,_,hl,hxl,hel⟩:=DataW.trod_struct htm hf
 have hcl:cs.length=68:=by rw [← hctm];simpa using hl
 have hx4:xs.length=4:=by simpa using hxl
 have e0:=hel 0 g0 rfl
 have e1:=hel 1 g1 rfl
 have e2:=hel 2 g2 rfl
 have e3:=hel 3 g3 rfl
 rw [ht0,Qs,hct,as3 (by omega)] at e0
 rw [ht1,ho1,hct,as3 (by omega)] at e1
 rw [ht2,ho2,hcs,as3 (by omega)] at e2
 rw [ht3,ho3,hcs,as3 (by omega)] at e3
 obtain ⟨a,ha⟩:=rJ T hc hce hn hcn ht h0 h1 o0 o1 hct e0
 obtain ⟨b,hb⟩:=rJ T hc hce hn hcn ht h0 h1 o0 o1 hct e1
 obtain ⟨u,ls,hu,hls⟩:=uJ T hc hce hn hcn hts ht h0 h1 o0 o1 hct e2
 obtain ⟨u2,ls2,hu2,hls2⟩:=uJ T hc hce hn hcn hts ht h0 h1 o0 o1 hct e3
 exact ⟨(⟨a,b,ls,ls2⟩,u,u2),Nz hcl ha hb hu hu2,hls,hls2⟩
end Go.Proofs.YtkhepdpfdhdlaaaGreatDoor
