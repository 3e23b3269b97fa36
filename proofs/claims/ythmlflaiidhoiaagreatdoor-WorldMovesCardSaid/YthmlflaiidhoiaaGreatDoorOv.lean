/- Overlays: which may be, which are stable, what becomes of them; overlays that come in. -/
import Derived.Test.YthmlflaiidhoiaaGreatDoorNd
set_option linter.unusedVariables false
set_option linter.unusedSimpArgs false
set_option linter.unusedSectionVars false
namespace Go.Proofs.YthmlflaiidhoiaaGreatDoor
open Go.RowKit
theorem Ux {a b:Nd} (h1:a.me=b.me) (h2:a.pr=b.pr) (h3:a.sc=b.sc) (h4:a.fg=b.fg):a=b:=by cases a;cases b;simp_all
instance:DecidableEq Nd:=λa b=>
 if h:a.me=b.me/\a.pr=b.pr/\a.sc=b.sc/\a.fg=b.fg then .isTrue (Ux h.1 h.2.1 h.2.2.1 h.2.2.2) else .isFalse λe=>h (by subst e;exact ⟨rfl,rfl,rfl,rfl⟩)
def kr (w:World) (v:Value) (L:List N3):Prop:=bs w v 68 L.length (aI L)/\∀ x∈L,wQ w x
theorem wQ.keep {w w':World} {x:N3} (h:wQ w x) (e:Ext w w'):wQ w' x:=⟨h.1.keep e,h.2.keep e⟩
theorem kr.keep {w w':World} {v:Value} {L:List N3} (h:kr w v L) (e:Ext w w'):kr w' v L:=⟨h.1.keep e,λx hx=>(h.2 x hx).keep e⟩
abbrev nds (L:List N3):List Nd:=L.map (·.1)
theorem tB {L:List N3} {j:Nat} (hj:j<L.length):L[j]=L.getD j z3:=by rw [aJ6,aH8 hj];rfl
theorem ci {L:List N3} {j:Nat} (hj:j<L.length):L.getD j z3∈L:=by rw [← tB hj];exact aN1 hj
theorem B0 {L:List N3} {x:N3} (h:x∈L):∃ j,j<L.length/\L.getD j z3=x:=by
 obtain ⟨j,hj,rfl⟩:=List.mem_iff_getElem.1 h
 exact ⟨j,hj,(tB hj).symm⟩
theorem pP {L:List N3} {k:Nat} (h:k<L.length):L.take (k+1)=L.take k++[L.getD k z3]:=by rw [List.take_succ_eq_append_getElem h,tB h]
theorem l5 (L:List N3):(aI L).length=L.length*68:=eF _ 68 nu L
theorem jM (L K:List N3):aI (L++K)=aI L++aI K:=aM2
theorem LJ (x:N3):([Value.agg (bu x.1.me x.1.pr x.2.1 x.2.2)].flatMap λv=>v.cells.toList)=za x:=by simp [Value.cells,za,bu]
theorem FX (L:List N3) (x:N3):aI L++za x=aI (L++[x]):=by rw [jM];simp [aI]
theorem GJ (x:N3):∀ v∈([Value.agg (bu x.1.me x.1.pr x.2.1 x.2.2)]:List Value),v.cells.size=68:=λv hv=>by rw [aI4] at hv;subst hv;exact aP _ _ _ _
theorem wQ.ones {w:World} {x:N3} (h:wQ w x):x.2.1.oneCell'=true/\x.2.2.oneCell'=true:=⟨bI h.1,bI h.2⟩
theorem wg (L:List N3) (j:Nat) (hj:j<L.length):(aI L)[j*68+0]? = some (.int .i64 (L.getD j z3).1.me.1):=by
 have h1:=aH3 (λa:Array Value=>a[0]?) (g5 L j hj)
 simp only [mz] at h1
 rw [← h1];simp
theorem SL (w:World):kr w ax []:=⟨⟨rfl,.inl ⟨rfl,rfl⟩⟩,λ_ h=>by cases h⟩
theorem cN {v:Value} (h:v.oneCell'=true):∀ u∈(#[v]:Array Value).toList,u.oneCell'=true:=λu hu=>by
 have:u∈[v]:=hu
 rw [aI4] at this;rw [this];exact h
def ovZ:List (List Value):=[[.slice none 0 0]]
theorem d6 {P:Program} {ρ:Operand->Value} {d:Option Tmp} {ty:TypeId} {pos:String} {af:Array Edge} {g:Option (Nat × Bool)} {t:TypeId} (S:Stt P t ovZ):aZ P ⟨d,.build t #[],ty,pos,af,g⟩ ρ (.agg #[ax]):=
 bw (parts:=#[]) S [] (by simp) (λi v hm=>by simp at hm) (D:=[ax]) rfl
theorem St.weak {w0 w:World} {ks:List Nat} {S S':World->Prop} {B:List Own} (s:St w0 (.grp ks S::B) w) (h:∀ w',S w'->S' w'):St w0 (.grp ks S'::B) w:=by
 refine ⟨s.ext,λp hp=>?_,λp hp k hk=>?_,?_⟩
 ·rcases aI6.1 hp with rfl|hp
  ·have h0:=s.has _ aI5
   exact ⟨h0.1,λw' hw=>h w' (h0.2 w' hw)⟩
  ·exact s.has p (aJ5 _ hp)
 ·rcases aI6.1 hp with rfl|hp
  ·exact s.own _ aI5 k hk
  ·exact s.own p (aJ5 _ hp) k hk
 ·have hpw:=List.pairwise_cons.1 s.nd
  exact List.pairwise_cons.2 ⟨λq hq k hk=>hpw.1 q hq k hk,hpw.2⟩
theorem St.getG {w0 w:World} {ks:List Nat} {S:World->Prop} {B:List Own} (s:St w0 B w) (i:Nat) (hi:B[i]? = some (.grp ks S)):S w:=(s.has _ (List.mem_of_getElem? hi)).2 w λ_ _=>rfl
def Z6 (w:World) (R:World->Prop) (E:List Nd):ez:=λv w'=>∃ vo L ks,v=.agg #[vo]/\nds L=E/\St w [.grp ks λw9=>R w9->kr w9 vo L] w'
abbrev iZ (L:List N3):World->Prop:=λw9=>∀ x∈L,wQ w9 x
theorem QK {w w':World} {B:List Own} {R:World->Prop} (s:St w B w'):Z6 w R [] (.agg #[ax]) w':=by
 refine ⟨ax,[],_,rfl,rfl,(St.group (A:=[]) (B:=[]) (s.pick [] (aJ0 _))).weak λw9 _ _=>SL w9⟩
abbrev aN (L:List N3):List Mb:=L.map (·.1.me)
def bp (n:Nd):List Mb:=n.pr::(n.sc++n.fg)
def dd (l:List Mb) (no:Int):Bool:=decide ((pj l no).1=no) && decide (0<=no)
theorem mX {l:List Mb} {no:Int} (hn:∀ m∈l,0<=m.1):dd l no=true↔∃ m∈l,m.1=no:=by
 unfold dd pj
 rw [aH5,aI0,aI0]
 rcases F0 (l:=l) (no:=no) with h|⟨m,h,hm,hno⟩
 ·rw [h]
  constructor
  ·rintro ⟨h1,h2⟩
   have h1:(-1:Int)=no:=h1
   omega
  ·rintro ⟨m,hm,hno⟩
   exact aO7 (aH2 hno) (List.find?_eq_none.1 h m hm)
 ·rw [h]
  exact ⟨λ_=>⟨m,hm,hno⟩,λ_=>⟨hno,by have:=hn m hm;omega⟩⟩
def noN:Nd:=⟨i1,bH,[],[]⟩
def no3:N3:=(noN,ax,ax)
def kE (L:List N3) (no:Int):N3:=(L.find? λx=>decide (x.1.me.1=no)).getD no3
theorem Vn {L:List N3} {no:Int} {k:Nat} (hk:k<L.length) (h:∀ j,j<k->decide ((L.getD j z3).1.me.1=no)=false) (he:decide ((L.getD k z3).1.me.1=no)=true):kE L no=L.getD k z3:=by
 unfold kE
 have:L.find? (λx=>decide (x.1.me.1=no))=some (L.getD k z3):=by
  rw [List.find?_eq_some_iff_getElem]
  refine ⟨he,k,hk,tB hk,λj hj=>?_⟩
  rw [tB (by omega),h j hj];rfl
 rw [this];rfl
def nG (E:List Nd) (no:Int):Nd:=(E.find? λx=>decide (x.me.1=no)).getD noN
theorem FS (L:List N3) (no:Int):(kE L no).1=nG (nds L) no:=by
 unfold kE nG nds
 rw [List.find?_map]
 cases h:L.find? λx=>decide (x.1.me.1=no) with
 |none=>
  have:L.find? ((λx:Nd=>decide (x.me.1=no)) ∘ λx=>x.1)=none:=h
  rw [this];rfl
 |some x=>
  have:L.find? ((λx:Nd=>decide (x.me.1=no)) ∘ λx=>x.1)=some x:=h
  rw [this];rfl
def KW (L:List N3) (no:Int):List N3:=L.filter λx=>decide (x.1.me.1≠no)
def sU (E:List Nd) (no:Int):List Nd:=E.filter λx=>decide (x.me.1≠no)
theorem Jv (L:List N3) (no:Int):nds (KW L no)=sU (nds L) no:=by unfold KW sU nds;rw [List.filter_map];rfl
def o6 (x:N3) (p:List N3 × Bool) (y:N3):List N3 × Bool:=
 let q:=bif !p.2 && decide (x.1.me.1<=y.1.me.1) then (p.1++[x],true) else p
 bif decide (y.1.me.1≠x.1.me.1) then (q.1++[y],q.2) else q
def mu (x:N3) (L:List N3):List N3 × Bool:=L.foldl (o6 x) ([],false)
def AG (L:List N3) (x:N3):List N3:=bif (mu x L).2 then (mu x L).1 else (mu x L).1++[x]
def wP (x:Nd) (p:List Nd × Bool) (y:Nd):List Nd × Bool:=
 let q:=bif !p.2 && decide (x.me.1<=y.me.1) then (p.1++[x],true) else p
 bif decide (y.me.1≠x.me.1) then (q.1++[y],q.2) else q
def Ad (x:Nd) (E:List Nd):List Nd × Bool:=E.foldl (wP x) ([],false)
def xV (E:List Nd) (x:Nd):List Nd:=bif (Ad x E).2 then (Ad x E).1 else (Ad x E).1++[x]
theorem Rf (x:N3) (p:List N3 × Bool) (y:N3):wP x.1 (nds p.1,p.2) y.1=(nds (o6 x p y).1,(o6 x p y).2):=by
 unfold wP o6
 cases p with
 |mk l b=>
  cases b<;>by_cases h1:x.1.me.1<=y.1.me.1<;>by_cases h2:y.1.me.1=x.1.me.1<;>simp [h1,h2,nds]
theorem So (x:N3) (L:List N3):Ad x.1 (nds L)=(nds (mu x L).1,(mu x L).2):=by
 unfold Ad mu
 suffices h:∀ (L:List N3) (p:List N3 × Bool),(nds L).foldl (wP x.1) (nds p.1,p.2)=(nds (L.foldl (o6 x) p).1,(L.foldl (o6 x) p).2) from h L ([],false)
 intro L
 induction L with
 |nil=>intro p;rfl
 |cons y L ih=>
  intro p
  show (nds L).foldl (wP x.1) (wP x.1 (nds p.1,p.2) y.1)=_
  rw [Rf,ih];rfl
theorem OQ (L:List N3) (x:N3):nds (AG L x)=xV (nds L) x.1:=by
 unfold AG xV
 rw [So]
 cases (mu x L).2 with
 |true=>rfl
 |false=>show nds ((mu x L).1++[x])=nds (mu x L).1++[x.1];simp [nds]
theorem Zo {x:N3} {p:List N3 × Bool} {y:N3} (hb:p.2=false) (h1:decide (x.1.me.1<=y.1.me.1)=true) (h2:decide (y.1.me.1≠x.1.me.1)=true):o6 x p y=((p.1++[x])++[y],true):=by unfold o6;rw [hb,h1,h2];rfl
theorem TM {x:N3} {p:List N3 × Bool} {y:N3} (h:p.2=true∨decide (x.1.me.1<=y.1.me.1)=false) (h2:decide (y.1.me.1≠x.1.me.1)=true):o6 x p y=(p.1++[y],p.2):=by
 have h1:(!p.2 && decide (x.1.me.1<=y.1.me.1))=false:=by rcases h with h|h<;>simp [h]
 unfold o6;rw [h1,h2];rfl
def zN:Nd:=Yg
structure FewO (L:List N3):Prop where
 len:L.length<=18
 each:∀ x∈L,x.1.sc.length<=6/\x.1.fg.length<=18
theorem ak7 {L:List N3} {x:N3} (h:(mu x L).2=true):AG L x=(mu x L).1:=by unfold AG;rw [h];rfl
theorem ag0 {L:List N3} {x:N3} (h:(mu x L).2=false):AG L x=(mu x L).1++[x]:=by unfold AG;rw [h];rfl
theorem Bk {L:List N3} {k:Nat} (hk:k<L.length):aN (L.take (k+1))=aN (L.take k)++[(L.getD k z3).1.me]:=by unfold aN;rw [pP hk,aO5];rfl
section
variable {P:Program} {ρ:Operand->Value} {d:Option Tmp} {ty:TypeId} {pos:String} {af:Array Edge} {g:Option (Nat × Bool)} {x:Operand} {t:TypeId}
end
structure RwB (L:List N3):Prop where
 each:∀ x∈L,x.1.sc.length<=300/\x.1.fg.length<=300
def rP (l:List Mb) (m:Mb):Bool:=decide (0<=(pj l m.1).1) && !decide (pj l m.1=m)
def mE (L:List N3) (k:Nat):Bool := !ex (L.getD k z3).1 || ((decide (0<k) && decide ((L.getD k z3).1.me.1<=(L.getD (k - 1) z3).1.me.1)) || (bp (L.getD k z3).1).any (rP (aN L)))
def kK (L:List N3):Bool:=((List.range L.length).all λk => !mE L k) && dL (aN L)
theorem Q6 {L:List N3} {k:Nat} (hk:k<L.length) (h:mE L k=true):kK L=false:=by
 unfold kK
 have:((List.range L.length).all λk => !mE L k)=false:=by
  rw [← Bool.not_eq_true,aH6]
  intro h9
  have:=h9 k (aI7.2 hk)
  rw [h] at this;cases this
 rw [this];rfl
theorem Q0 {L:List N3} {k:Nat} (hk:L.length<=k) (h:∀ j,j<k->mE L j=false):kK L=dL (aN L):=by
 unfold kK
 have:((List.range L.length).all λk => !mE L k)=true:=by
  rw [aH6]
  intro j hj
  rw [h j (by have:=aI7.1 hj;omega)];rfl
 rw [this];rfl
theorem aq2 {L:List N3} {k:Nat} (h:decide (0<k)=true) (h1:decide ((L.getD k z3).1.me.1<=(L.getD (k - 1) z3).1.me.1)=true):mE L k=true:=by unfold mE;rw [h,h1];simp
theorem aw8 {L:List N3} {k j:Nat} (h:ex (L.getD k z3).1=true) (h1:decide (0<k)=false∨decide ((L.getD k z3).1.me.1<=(L.getD (k - 1) z3).1.me.1)=false) (hj:(bp (L.getD k z3).1).length<=j) (h2:∀ i,i<j->rP (aN L) ((bp (L.getD k z3).1).getD i bH)=false):mE L k=false:=by
 unfold mE
 have e1:(decide (0<k) && decide ((L.getD k z3).1.me.1<=(L.getD (k - 1) z3).1.me.1))=false:=by rcases h1 with h1|h1<;>rw [h1]<;>simp
 have e2:(bp (L.getD k z3).1).any (rP (aN L))=false:=by
  rw [aN5]
  intro x hx
  obtain ⟨i,hi,rfl⟩:=pA hx
  rw [h2 i (by omega)];decide
 rw [h,e1,e2];rfl
theorem az2 {l:List Mb} {m:Mb} (h:decide (0<=(pj l m.1).1)=false):rP l m=false:=by unfold rP;rw [h];rfl
theorem ap7 {l:List Mb} {m:Mb} (h:decide (0<=(pj l m.1).1)=true):rP l m = !decide (pj l m.1=m):=by unfold rP;rw [h];rfl
structure RO (E:List Nd):Prop where
 rn:∀ n∈E,RN n
 inc:E.Pairwise λa b=>a.me.1<b.me.1
 kn:∀ n∈E,∀ m∈bp n,∀ s∈E,s.me.1=m.1->s.me=m
 ring:Rg (E.map (·.me))
theorem UL {L:List N3} (h:∀ k,0<k->k<L.length->(L.getD (k - 1) z3).1.me.1<(L.getD k z3).1.me.1):∀ i j,i<j->j<L.length->(L.getD i z3).1.me.1<(L.getD j z3).1.me.1:=λi j hij hj=>by
 induction j with
 |zero=>omega
 |succ j ih=>
  have h1:=h (j+1) (Nat.zero_lt_succ _) hj
  rw [Nat.add_sub_cancel] at h1
  by_cases e:i=j
  ·subst e;exact h1
  ·have:=ih (by omega) (by omega)
   omega
theorem jw {L:List N3} (h:kK L=true):RO (nds L):=by
 unfold kK at h
 rw [aH5,aH6] at h
 obtain ⟨h1,h2⟩:=h
 have hb:∀ k,k<L.length->mE L k=false:=λk hk=>by have:=h1 k (aI7.2 hk);simpa using this
 have hring:Rg ((nds L).map (·.me)):=by
  have:=(lU _).1 h2
  unfold nds;rw [List.map_map];exact this
 have hall:∀ k,k<L.length->ex (L.getD k z3).1=true/\(0<k->(L.getD (k - 1) z3).1.me.1<(L.getD k z3).1.me.1)/\∀ m∈bp (L.getD k z3).1,rP (aN L) m=false:=λk hk=>by
  have:=hb k hk
  unfold mE at this
  rw [Bool.or_eq_false_iff,Bool.or_eq_false_iff,aN5] at this
  refine ⟨by simpa using this.1,λh0=>?_,λm hm=>by have:=this.2.2 m hm;simpa using this⟩
  have h9:=this.2.1
  rw [aH2 h0,Bool.true_and,decide_eq_false_iff_not] at h9
  omega
 have hinc:(nds L).Pairwise λa b=>a.me.1<b.me.1:=by
  unfold nds
  rw [List.pairwise_map,List.pairwise_iff_getElem]
  intro i j hi hj hij
  rw [tB hi,tB hj]
  exact UL (λk h0 hk=>(hall k hk).2.1 h0) i j hij hj
 refine ⟨λn hn=>?_,hinc,λn hn m hm s hs he=>?_,hring⟩
 ·obtain ⟨x,hx,rfl⟩:=aL9.1 hn
  obtain ⟨k,hk,rfl⟩:=B0 hx
  exact D2.1 (hall k hk).1
 ·obtain ⟨x,hx,rfl⟩:=aL9.1 hn
  obtain ⟨k,hk,rfl⟩:=B0 hx
  have h9:=(hall k hk).2.2 m hm
  unfold rP at h9
  have hs2:s.me∈aN L:=by
   obtain ⟨y,hy,rfl⟩:=aL9.1 hs
   exact aL9.2 ⟨y,hy,rfl⟩
  have hf:=Gf ((lU _).1 h2) hs2
  rw [he] at hf
  have hr:pj (aN L) m.1=s.me:=by unfold pj;rw [hf];rfl
  rw [hr] at h9
  have hnn:0<=s.me.1:=(((lU _).1 h2).nos _ hs2).1
  rw [aH2 hnn,Bool.true_and] at h9
  simpa using h9
theorem R4 {w w':World} {R:World->Prop} {E:List Nd} {vo:Value} {L:List N3} {A:List Own} (hE:nds L=E) (h:∀ w9,(∀ p∈A,p.holds w w9)->R w9->kr w9 vo L) (s:St w A w'):Z6 w R E (.agg #[vo]) w':=by
 refine ⟨vo,L,_,rfl,hE,(St.group (A:=A) (B:=[]) (by rw [aM4];exact s)).weak λw9 h9 hR=>h w9 h9 hR⟩
theorem PH {x:N3} {acc:List N3} {y:N3} (h:y.1.me.1<x.1.me.1):o6 x (acc,false) y=(acc++[y],false):=
 TM (.inr (aH1 (by omega))) (aH2 (by omega))
theorem PF {x:N3} {acc:List N3} {y:N3} (h:x.1.me.1<y.1.me.1):o6 x (acc,true) y=(acc++[y],true):=
 TM (.inl rfl) (aH2 (by omega))
theorem zz {x:N3}:∀ (A acc:List N3),(∀ y∈A,y.1.me.1<x.1.me.1)->A.foldl (o6 x) (acc,false)=(acc++A,false)
 |[],acc,_=>by rw [aM4];rfl
 |y::A,acc,h=>by
  rw [List.foldl_cons,PH (h y aI5),zz A _ λz hz=>h z (aJ5 _ hz),aM3];rfl
theorem GS {x:N3}:∀ (A acc:List N3),(∀ y∈A,x.1.me.1<y.1.me.1)->A.foldl (o6 x) (acc,true)=(acc++A,true)
 |[],acc,_=>by rw [aM4];rfl
 |y::A,acc,h=>by
  rw [List.foldl_cons,PF (h y aI5),GS A _ λz hz=>h z (aJ5 _ hz),aM3];rfl
structure RS (L:List N3):Prop where
 rn:∀ x∈L,RN x.1
 inc:L.Pairwise λa b=>a.1.me.1<b.1.me.1
 ring:Rg (aN L)
theorem RO.rs {L:List N3} (h:RO (nds L)):RS L:=by
 refine ⟨λx hx=>h.rn _ (aL9.2 ⟨x,hx,rfl⟩),?_,?_⟩
 ·have:=h.inc
  unfold nds at this
  rwa [List.pairwise_map] at this
 ·have:=h.ring
  unfold nds at this
  rw [List.map_map] at this;exact this
theorem RS.nos {L:List N3} (h:RS L):∀ m∈aN L,0<=m.1:=λm hm=>(h.ring.nos m hm).1
theorem RS.len {L:List N3} (h:RS L):L.length<=16:=by
 have:=h.ring.len
 simpa [aN] using this
def dwn (l:List Mb) (n:Nd):List Int:=((bp n).filter λm => !dd l m.1).map (·.1)
def Ym (l:List Mb) (n:Nd):Nd:=⟨n.me,US n (dwn l n),wC (jI n.sc (dwn l n) n.me.1) n.me,jI n.fg (dwn l n) n.me.1⟩
def tdS (l:List Mb) (s:Nd):Nd:=⟨s.me,bif dd l s.pr.1 then s.pr else i1,s.sc,s.fg⟩
def td2 (n1 s:Nd):Nd:=⟨n1.me,n1.pr,ar7 n1 s,n1.fg⟩
def tdN (g:Nd) (me:Mb):Nd:=⟨g.me,ntP g me,g.sc,g.fg⟩
def dO (E:List Nd):List Mb:=E.map (·.me)
def ZX (E:List Nd) (no:Int):List Nd:=
 let n1:=Ym (dO E) (nG E no)
 let E1:=xV E n1
 let s:=tdS (dO E1) (nG E1 (n1.sc.getD 0 bH).1)
 let n2:=td2 n1 s
 let E2:=xV E1 n2
 let fi:=(n2.sc.getD 0 bH).1
 bif dd (dO E2) fi then xV E2 (tdN (nG E2 fi) n2.me) else E2
theorem jQ (L:List N3):dO (nds L)=aN L:=by unfold dO nds;rw [List.map_map];rfl
theorem St.grp0 {w0 w:World} {B:List Own} {S:World->Prop} (s:St w0 B w) (h:∀ w9,S w9):St w0 (.grp [] S::B) w:=
 (St.group (A:=[]) (B:=B) s).weak λw9 _=>h w9
theorem St.merge {w0 w:World} {k1 k2:List Nat} {S1 S2 S:World->Prop} {B:List Own} (s:St w0 (.grp k1 S1::.grp k2 S2::B) w) (h:∀ w9,S1 w9->S2 w9->S w9):St w0 (.grp (k1++k2) S::B) w:=by
 have g:=St.group (A:=[.grp k1 S1,.grp k2 S2]) (B:=B) s
 have e:[Own.grp k1 S1,.grp k2 S2].flatMap Own.ks=k1++k2:=by simp [Own.ks]
 unfold Own.all at g
 rw [e] at g
 exact g.weak λw9 h9=>h w9 ((h9 (.grp k1 S1) (by simp)).2 w9 λ_ _=>rfl) ((h9 (.grp k2 S2) (by simp)).2 w9 λ_ _=>rfl)
def UJ (E:List Nd):List Nd:=(dO E).foldl (λF m=>ZX F m.1) E
def Zj (l:List Mb) (no:Int) (m:Mb):Bool:=dd l m.1 && decide (m.1≠no)
def Zm (l:List Mb) (no:Int) (g:Nd):List Mb:=g.sc.filter (Zj l no)
def tlC (l:List Mb) (n g:Nd):Bool:=decide (n.sc.length=1) && (decide (n.sc.getD 0 bH=g.me) && decide (0<(Zm l n.me.1 g).length))
def Tw (l:List Mb) (n g:Nd):List Mb:=bif tlC l n g then Zm l n.me.1 g else wC (jI n.sc [g.me.1] n.me.1) n.me
def tlD (l:List Mb) (n g:Nd):Bool:=decide (n.pr=g.me) && (dd l g.pr.1 && decide (g.pr.1≠n.me.1))
def Ta (l:List Mb) (n g:Nd):Mb:=bif tlD l n g then g.pr else US n [g.me.1]
def Hi (l:List Mb) (n g:Nd):Nd:=⟨n.me,Ta l n g,Tw l n g,jI n.fg [g.me.1] n.me.1⟩
theorem Lx {w w':World} {N:TypeId} {R:World->Prop} {E:List Nd} {vo:Value} {L:List N3} {ks:List Nat} (hE:nds L=E) (s:St w [.sl vo N 68 L.length (aI L),.grp ks (iZ L)] w'):Z6 w R E (.agg #[vo]) w':=
 R4 hE (λw9 h9 _=>⟨bs.of_own (h9 (.sl vo N 68 L.length (aI L)) (by simp)),(h9 (.grp ks (iZ L)) (by simp)).2 w9 λ_ _=>rfl⟩) s
theorem St.grpR {w0 w:World} {a b:Value} {M N:TypeId} {sa sb n m:Nat} {xs ys:List Value} {ks:List Nat} {S S':World->Prop} {B:List Own} (s:St w0 (.sl a M sa n xs::.sl b N sb m ys::.grp ks S::B) w) (h:∀ w9,bs w9 a sa n xs->bs w9 b sb m ys->S w9->S' w9):∃ kn,St w0 (.grp kn S'::B) w:=
 ⟨_,(St.group (A:=[.sl a M sa n xs,.sl b N sb m ys,.grp ks S]) (B:=B) s).weak λw9 h9=>h w9 (bs.of_own (h9 (.sl a M sa n xs) (by simp))) (bs.of_own (h9 (.sl b N sb m ys) (by simp))) ((h9 (.grp ks S) (by simp)).2 w9 λ_ _=>rfl)⟩
def ja (E:List Nd) (no:Int):List Nd:=(sU E no).map λy=>Hi (dO (sU E no)) y (nG E no)
def OvE (w:World) (R:World->Prop) (E:List Nd) (k:Int):ez:=λv w'=>∃ o,v=.tuple #[o,.int .i64 k]/\Z6 w R E o w'
theorem qy {w w':World} {B:List Own} {R:World->Prop} {E:List Nd} {k q:Int} (s:St w B w') (hE:E=[]) (hk:k=q):OvE w R E k (.tuple #[.agg #[ax],.int .i64 q]) w':=by
 subst hE;subst hk;exact ⟨_,rfl,QK s⟩
theorem DR {w w':World} {R:World->Prop} {E:List Nd} {k q:Int} {o:Value} (hk:k=q) (h:Z6 w R E o w'):OvE w R E k (.tuple #[o,.int .i64 q]) w':=by
 subst hk;exact ⟨_,rfl,h⟩
def pf (m y:Mb):Bool:=decide (y.1=m.1) && !decide (y=m)
def nA (L:List N3) (m:Mb) (k:Nat):Bool:=decide ((L.getD k z3).1.me.1=m.1) || (decide ((L.getD k z3).1.me.2=m.2) || (bp (L.getD k z3).1).any (pf m))
def zH (L:List N3) (m:Mb):Bool:=(List.range L.length).any (nA L m)
def AN (L:List N3) (m:Mb) (no:Int):Int:=bif zH L m then 7 else bif decide (0<L.length) && !dd (aN L) no then 10 else 0
def Cp (L:List N3) (m:Mb) (no:Int):Mb:=bif decide (0<L.length) then (kE L no).1.me else m
def WX (L:List N3) (m:Mb) (no:Int):List Nd:=bif decide (AN L m no=0) then xV (nds L) ⟨m,i1,[Cp L m no],[]⟩ else []
theorem YB {L:List N3} {m:Mb} {k:Nat} (hk:k<L.length) (h:nA L m k=true):zH L m=true:=aN4.2 ⟨k,aI7.2 hk,h⟩
theorem ao9 {L:List N3} {m:Mb} {k:Nat} (hk:L.length<=k) (h:∀ j,j<k->nA L m j=false):zH L m=false:=by
 unfold zH
 rw [aN5]
 intro j hj
 rw [h j (by have:=aI7.1 hj;omega)];decide
theorem Xa {L:List N3} {m:Mb} {k:Nat} (h:decide ((L.getD k z3).1.me.1=m.1)=true):nA L m k=true:=by unfold nA;rw [h];rfl
theorem ae6 {L:List N3} {m:Mb} {k:Nat} (h:decide ((L.getD k z3).1.me.2=m.2)=true):nA L m k=true:=by unfold nA;rw [h];simp
theorem ag7 {L:List N3} {m:Mb} {k j:Nat} (hj:j<(bp (L.getD k z3).1).length) (h:pf m ((bp (L.getD k z3).1).getD j bH)=true):nA L m k=true:=by
 unfold nA
 have:(bp (L.getD k z3).1).any (pf m)=true:=aN4.2 ⟨_,i8 hj,h⟩
 rw [this];simp
theorem al2 {L:List N3} {m:Mb} {k j:Nat} (h0:decide ((L.getD k z3).1.me.1=m.1)=false) (h1:decide ((L.getD k z3).1.me.2=m.2)=false) (hj:(bp (L.getD k z3).1).length<=j) (h2:∀ i,i<j->pf m ((bp (L.getD k z3).1).getD i bH)=false):nA L m k=false:=by
 unfold nA
 have e2:(bp (L.getD k z3).1).any (pf m)=false:=by
  rw [aN5]
  intro x hx
  obtain ⟨i,hi,rfl⟩:=pA hx
  rw [h2 i (by omega)];decide
 rw [h0,h1,e2];rfl
theorem Yx {L:List N3} {m:Mb} {no:Int} (h:zH L m=true):AN L m no=7:=by unfold AN;rw [h];rfl
theorem Ue {L:List N3} {m:Mb} {no:Int} (h:zH L m=false) (h0:0<L.length) (h1:dd (aN L) no=false):AN L m no=10:=by unfold AN;rw [h,aH2 h0,h1];rfl
theorem PA {L:List N3} {m:Mb} {no:Int} (h:zH L m=false) (h0:¬ 0<L.length∨dd (aN L) no=true):AN L m no=0:=by
 unfold AN;rw [h]
 rcases h0 with h0|h0
 ·rw [aH1 h0];rfl
 ·rw [h0];simp
theorem Ti {L:List N3} {m:Mb} {no k:Int} (h:AN L m no=k) (h0:k≠0):WX L m no=[]:=by unfold WX;rw [aH1 (by rw [h];exact h0)];rfl
theorem as6 {L:List N3} {m:Mb} {no:Int} (h:0<L.length):Cp L m no=(kE L no).1.me:=by unfold Cp;rw [aH2 h];rfl
theorem aw9 {L:List N3} {m:Mb} {no:Int} (h:¬ 0<L.length):Cp L m no=m:=by unfold Cp;rw [aH1 h];rfl
def cE (L:List N3) (no:Int):Int:=bif kK L then bif dd (aN L) no then 0 else 10 else 1
def Bt (L:List N3) (m:Mb):Bool:=kK L && im m
def lG (L:List N3) (m:Mb) (no:Int):Int:=bif Bt L m then AN L m no else 1
def nB (L:List N3) (m:Mb) (no:Int):List Nd:=bif Bt L m then WX L m no else []
def NO (L:List N3) (no:Int):List Nd:=bif decide (cE L no=0) then ja (nds L) no else []
abbrev wZ (vo:Value) (L:List N3):World->Prop:=λw9=>kr w9 vo L
structure BdE (E:List Nd):Prop where
 len:E.length<=40
 each:∀ n∈E,n.sc.length<=300/\n.fg.length<=300
def ej (E:List Nd):List N3:=E.map λn=>(n,ax,ax)
theorem p6 (E:List Nd):nds (ej E)=E:=by unfold nds ej;rw [List.map_map];exact List.map_id E
theorem qq {L:List N3} {no:Int} (h:kK L=false):cE L no=1:=by unfold cE;rw [h];rfl
theorem ni {L:List N3} {no:Int} (h:kK L=true) (h1:dd (aN L) no=false):cE L no=10:=by unfold cE;rw [h,h1];rfl
theorem wf {L:List N3} {no:Int} (h:kK L=true) (h1:dd (aN L) no=true):cE L no=0:=by unfold cE;rw [h,h1];rfl
theorem YE {L:List N3} {no:Int} (h:cE L no=0):kK L=true/\dd (aN L) no=true:=by
 unfold cE at h
 cases h1:kK L<;>cases h2:dd (aN L) no<;>rw [h1] at h<;>rw [h2] at h<;>simp at h
 exact ⟨rfl,rfl⟩
theorem Ud {L:List N3} {no k:Int} (h:cE L no=k) (h0:k≠0):NO L no=[]:=by unfold NO;rw [aH1 (by rw [h];exact h0)];rfl
theorem Ns {L:List N3} {no:Int} (h:cE L no=0):NO L no=ja (nds L) no:=by unfold NO;rw [aH2 h];rfl
theorem Te {L:List N3} {m:Mb} (h:kK L=false):Bt L m=false:=by unfold Bt;rw [h];rfl
theorem y9 {L:List N3} {m:Mb} {no:Int} (h:Bt L m=false):lG L m no=1/\nB L m no=[]:=by unfold lG nB;rw [h];exact ⟨rfl,rfl⟩
theorem sI {L:List N3} {m:Mb} {no:Int} (h:Bt L m=true):lG L m no=AN L m no/\nB L m no=WX L m no:=by unfold lG nB;rw [h];exact ⟨rfl,rfl⟩
def Ys (l:List Mb) (m:Mb):Prop:=∀ s∈l,s.1=m.1->s=m
structure RK (L:List N3):Prop where
 rs:RS L
 kn:∀ x∈L,∀ m∈bp x.1,Ys (aN L) m
theorem ah1 {L:List N3} (h:kK L=true):RK L:=⟨(jw h).rs,λx hx m hm s hs e=>by
 obtain ⟨y,hy,rfl⟩:=aL9.1 hs
 exact(jw h).kn x.1 (aL9.2 ⟨x,hx,rfl⟩) m hm y.1 (aL9.2 ⟨y,hy,rfl⟩) e⟩
theorem RK.ov {L:List N3} (h:RK L):kK L=true:=by
 have hb:∀ k,k<L.length->mE L k=false:=λk hk=>by
  refine aw8 (j:=(bp (L.getD k z3).1).length) (D2.2 (h.rs.rn _ (ci hk))) ?_ (aJ1 _) λi hi=>?_
  ·by_cases h0:0<k
   ·refine .inr (aH1 ?_)
    have:=List.pairwise_iff_getElem.1 h.rs.inc (k - 1) k (by omega) hk (by omega)
    rw [tB,tB] at this
    omega
   ·exact .inl (aH1 h0)
  ·have hm:=i8 hi
   cases hc:decide (0<=(pj (aN L) ((bp (L.getD k z3).1).getD i bH).1).1) with
   |false=>exact az2 hc
   |true=>
    rw [ap7 hc]
    have hc:=aG9 hc
    rcases F0 (l:=aN L) (no:=((bp (L.getD k z3).1).getD i bH).1) with h9|⟨s,h9,hs,hno⟩
    ·unfold pj at hc;rw [h9] at hc
     exact aO7 hc (by decide)
    ·have e:pj (aN L) ((bp (L.getD k z3).1).getD i bH).1=s:=by unfold pj;rw [h9];rfl
     rw [e,aH2 (h.kn _ (ci hk) _ hm s hs hno)];rfl
 rw [Q0 (aJ1 _) hb]
 exact(lU _).2 h.rs.ring
theorem Zq {l:List Mb} (h:Rg l):Ys l i1:=λs hs e=>by
 have h1:=(h.nos s hs).1
 have e:s.1 = -1:=e
 omega
theorem Tv {l:List Mb} (h:Rg l) {m:Mb} (hm:m∈l):Ys l m:=λ_ hs e=>h.no hs hm e
end Go.Proofs.YthmlflaiidhoiaaGreatDoor
namespace Go.Proofs.YthmlflaiidhoiaaGreatDoor
open Go.RowKit Go.ChangeShapes Go.WideShapes Go.ChangeAt
theorem Km {H:Type} {enc:TypeId × Value->H} {P:Program} {W:World} {tm ts t tn ti e:TypeId} {g0 g1 g2 g3 f0 f1:Field} {fuel:Nat} {cs:List Value} {x:DataW H × List MemPlace} (T:IdTy P ti e) (hc:P.cellsOf ti=32) (hce:P.cellsOf e=1) (hn:P.underlying tn=some (.int .i64)) (hcn:P.cellsOf tn=1)
 (hcs:P.cellsOf ts=1) (hts:P.underlying ts=some (.slice t)) (ht:P.underlying t=some (.struct #[f0,f1])) (h0:f0.type=tn) (h1:f1.type=ti) (o0:f0.offset=0) (o1:f1.offset=1) (hct:P.cellsOf t=33)
 (htm:P.underlying tm=some (.struct #[g0,g1,g2,g3])) (ht0:g0.type=t) (ht1:g1.type=t) (ht2:g2.type=ts) (ht3:g3.type=ts) (Rh:g0.offset=0) (ho1:g1.offset=33) (ho2:g2.offset=66) (ho3:g3.offset=67) (hctm:P.cellsOf tm=68)
 (hf:DataW.trod enc P W 0 (λ_=>true) true fuel tm cs=some x):∃ y:N3,cs=za y/\wQ W y:=by
 obtain ⟨xs,n,hcells,_,hl,hxl,hel⟩:=DataW.trod_struct htm hf
 have hcl:cs.length=68:=by rw [← hctm];simpa using hl
 have hx4:xs.length=4:=by simpa using hxl
 have e0:=hel 0 g0 rfl
 have e1:=hel 1 g1 rfl
 have e2:=hel 2 g2 rfl
 have e3:=hel 3 g3 rfl
 rw [ht0,Rh,hct,aH8 (by omega)] at e0
 rw [ht1,ho1,hct,aH8 (by omega)] at e1
 rw [ht2,ho2,hcs,aH8 (by omega)] at e2
 rw [ht3,ho3,hcs,aH8 (by omega)] at e3
 obtain ⟨a,ha⟩:=tC T hc hce hn hcn ht h0 h1 o0 o1 hct e0
 obtain ⟨b,hb⟩:=tC T hc hce hn hcn ht h0 h1 o0 o1 hct e1
 obtain ⟨u,ls,hu,hls⟩:=xc T hc hce hn hcn hts ht h0 h1 o0 o1 hct e2
 obtain ⟨u2,ls2,hu2,hls2⟩:=xc T hc hce hn hcn hts ht h0 h1 o0 o1 hct e3
 exact ⟨(⟨a,b,ls,ls2⟩,u,u2),OY hcl ha hb hu hu2,hls,hls2⟩
end Go.Proofs.YthmlflaiidhoiaaGreatDoor
