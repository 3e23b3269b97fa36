/- Drawn regions in general; slices of elements of several cells; equality of such; links that lead back; the reference of the sum; keys and links; no Go in it. -/
import Derived.Deep.Slices
import Derived.Test.YtobfeflheaobiaaGreatDoorDg
set_option linter.unusedVariables false
set_option linter.unusedSimpArgs false
set_option linter.unusedSectionVars false
namespace Go.Proofs.YtobfeflheaobiaaGreatDoor
open Go.RowKit
def aT (ops:List Oper) (j:Nat):Option Tmp:=(ops[j]?).bind (·.dst)
def pu:Value→List Nat
 |.pointer (some a)=>[a.block]
 |.slice (some a) _ _=>[a.block]
 |_=>[]
section
variable (ops:List Oper) (m:Nat) (Hs:List Nat) (cls:List (List Nat))
def sr (size i:Nat) (o:Oper):Bool:=
 (cz o).all (fun j=>decide (j<i)) &&
 (cls.getD i []).all (fun j=>(cz o).contains j || (cz o).any fun k=>(cls.getD k []).contains j) &&
 (if Hs.contains i then
  (match o.dst with|some d=>decide (d<size) && (List.range ops.length).all (fun j=>j == i || decide (aT ops j≠some d))|none=>false) && o.guard.isNone &&
  (o.looksAt ops.toArray).all fun t=>(List.range ops.length).all fun j=>decide (aT ops j≠some t) || ((cls.getD i []).contains j && Hs.contains j) || (cls.getD j []).contains i
 else if i<m then
  (match o.dst with|some d=>decide (d<size) && (List.range m).all (fun j=>j == i || decide (aT ops j≠some d))|none=>false) &&
  (o.looksAt ops.toArray).all fun t=>(List.range ops.length).all fun j => !(decide (j<m) || Hs.contains j) || decide (aT ops j≠some t) || (cls.getD i []).contains j || (cls.getD j []).contains i
 else
  (List.range i).all (fun j=>Hs.contains j || (cls.getD i []).contains j) &&
  (o.looksAt ops.toArray).all fun t=>Hs.all fun j=>decide (aT ops j≠some t) || (cls.getD i []).contains j)
def fY (size:Nat):Bool:=(List.range ops.length).all fun i=>match ops[i]? with|some o=>sr ops m Hs cls size i o|none=>false
def jz:List Nat:=(List.range ops.length).filter fun i => !(decide (i<m)) && !Hs.contains i
end
theorem l4 {ops:List Oper} {m:Nat} {Hs:List Nat} {cls:List (List Nat)} {size:Nat} (h:fY ops m Hs cls size=true) {i:Nat} {o:Oper} (hi:ops[i]? = some o):sr ops m Hs cls size i o=true:=by
 unfold fY at h
 have hlt:i<ops.length:=(List.getElem?_eq_some_iff.1 hi).1
 have:=List.all_eq_true.1 h i (List.mem_range.2 hlt)
 simpa [hi] using this
theorem kU {ops:List Oper} {m:Nat} {Hs:List Nat} {cls:List (List Nat)} {size:Nat} (h:fY ops m Hs cls size=true) {i:Nat} {o:Oper} (hi:ops[i]? = some o):
 (∀ j∈cz o,j<i)∧∀ j∈cls.getD i [],j∈cz o∨∃ k∈cz o,j∈cls.getD k []:=by
 have:=l4 h hi
 unfold sr at this
 simp only [Bool.and_eq_true] at this
 refine ⟨fun j hj=>by simpa using List.all_eq_true.1 this.1.1 j hj,fun j hj=>?_⟩
 have:=List.all_eq_true.1 this.1.2 j hj
 simpa using this
theorem oR {ops:List Oper} {m:Nat} {Hs:List Nat} {cls:List (List Nat)} {size:Nat} (h:fY ops m Hs cls size=true) {i:Nat} {o:Oper} (hi:ops[i]? = some o) (hH:i∈Hs):
 (∃ d,o.dst=some d∧d<size∧∀ j,aT ops j=some d→j=i)∧o.guard=none∧
 ∀ t∈o.looksAt ops.toArray,∀ j,aT ops j=some t→(j∈cls.getD i []∧j∈Hs)∨i∈cls.getD j []:=by
 have:=l4 h hi
 unfold sr at this
 rw [if_pos (List.contains_iff_mem.2 hH)] at this
 simp only [Bool.and_eq_true] at this
 obtain ⟨_,⟨h1,h2⟩,h3⟩:=this
 have hj:∀ j t,aT ops j=some t→j<ops.length:=fun j t hd=>by
  unfold aT at hd
  rcases Nat.lt_or_ge j ops.length with h'|h'
  ·exact h'
  ·rw [List.getElem?_eq_none h'] at hd;cases hd
 refine ⟨?_,by simpa using h2,fun t ht j hd=>?_⟩
 ·cases hdo:o.dst with
  |none=>simp [hdo] at h1
  |some d=>
   simp only [hdo,Bool.and_eq_true,decide_eq_true_eq] at h1
   refine ⟨d,rfl,h1.1,fun j hd=>?_⟩
   have:=List.all_eq_true.1 h1.2 j (List.mem_range.2 (hj j d hd))
   simpa [hd] using this
 ·have h4:=List.all_eq_true.1 (List.all_eq_true.1 h3 t ht) j (List.mem_range.2 (hj j t hd))
  simp only [hd,ne_eq,not_true_eq_false,decide_false,Bool.false_or,Bool.or_eq_true,Bool.and_eq_true,List.contains_iff_mem] at h4
  exact h4
theorem Im {ops:List Oper} {m:Nat} {Hs:List Nat} {cls:List (List Nat)} {size:Nat} (h:fY ops m Hs cls size=true) {i:Nat} {o:Oper} (hi:ops[i]? = some o) (hH:i ∉ Hs) (him:i<m):
 (∃ d,o.dst=some d∧d<size∧∀ j,j<m→aT ops j=some d→j=i)∧
 ∀ t∈o.looksAt ops.toArray,∀ j,j<m∨j∈Hs→aT ops j=some t→j∈cls.getD i []∨i∈cls.getD j []:=by
 have:=l4 h hi
 unfold sr at this
 rw [if_neg (by simpa using hH),if_pos him] at this
 simp only [Bool.and_eq_true] at this
 obtain ⟨_,h1,h3⟩:=this
 have hj:∀ j t,aT ops j=some t→j<ops.length:=fun j t hd=>by
  unfold aT at hd
  rcases Nat.lt_or_ge j ops.length with h'|h'
  ·exact h'
  ·rw [List.getElem?_eq_none h'] at hd;cases hd
 refine ⟨?_,fun t ht j hjm hd=>?_⟩
 ·cases hdo:o.dst with
  |none=>simp [hdo] at h1
  |some d=>
   simp only [hdo,Bool.and_eq_true,decide_eq_true_eq] at h1
   refine ⟨d,rfl,h1.1,fun j hjm hd=>?_⟩
   have:=List.all_eq_true.1 h1.2 j (List.mem_range.2 hjm)
   simpa [hd] using this
 ·have h4:=List.all_eq_true.1 (List.all_eq_true.1 h3 t ht) j (List.mem_range.2 (hj j t hd))
  have h5:(decide (j<m) || Hs.contains j)=true:=by
   rcases hjm with h'|h'
   ·simp [h']
   ·simp [h']
  simp only [h5,hd,ne_eq,not_true_eq_false,decide_false,Bool.not_true,Bool.false_or,Bool.or_eq_true,List.contains_iff_mem] at h4
  exact h4
theorem D1 {ops:List Oper} {m:Nat} {Hs:List Nat} {cls:List (List Nat)} {size:Nat} (h:fY ops m Hs cls size=true) {i:Nat} {o:Oper} (hi:ops[i]? = some o) (hH:i ∉ Hs) (him:m≤i):
 (∀ j,j<i→j ∉ Hs→j∈cls.getD i [])∧∀ t∈o.looksAt ops.toArray,∀ j∈Hs,aT ops j=some t→j∈cls.getD i []:=by
 have:=l4 h hi
 unfold sr at this
 rw [if_neg (by simpa using hH),if_neg (by omega)] at this
 simp only [Bool.and_eq_true] at this
 obtain ⟨_,h1,h3⟩:=this
 refine ⟨fun j hj hjH=>?_,fun t ht j hj hd=>?_⟩
 ·have:=List.all_eq_true.1 h1 j (List.mem_range.2 hj)
  simpa [hjH] using this
 ·have:=List.all_eq_true.1 (List.all_eq_true.1 h3 t ht) j hj
  simpa [hd] using this
theorem yt {ops:List Oper} {m:Nat} {Hs:List Nat} {cls:List (List Nat)} {size:Nat} (hok:fY ops m Hs cls size=true):∀ (i:Nat),i<ops.length→∀ j∈cls.getD i [],j<i:=by
 intro i
 induction i using Nat.strongRecOn with
 |_ i ih=>
  intro hi j hj
  have hio:ops[i]? = some ops[i]:=by simp [hi]
  obtain ⟨hlt,hcl⟩:=kU hok hio
  rcases hcl j hj with h|⟨k,hk,hjk⟩
  ·exact hlt j h
  ·have:=hlt k hk
   have:=ih k this (by omega) j hjk
   omega
def kq (P:Program) (ops:Array Oper) (Wp:World→Prop) (K:Act→World→Prop):List Oper→Act→World→Prop
 |[],a,w=>K a w
 |o::l,a,w=>bX P ops (fun a w=>Wp w∧kq P ops Wp K l a w) [o] a w
theorem kq.of {P:Program} {ops:Array Oper} {K:Act→World→Prop}:∀ {l:List Oper} {a:Act} {w:World},bX P ops K l a w→kq P ops (fun _=>True) K l a w
 |[],_,_,h=>bX.nil.1 h
 |o::l,a,w,h=>by
  have h2:bX P ops (bX P ops K l) [o] a w:=(bX.append (l:=[o])).1 h
  exact bX.mono (fun a w h=>⟨trivial,kq.of h⟩) h2
section law
variable {P:Program} {ro:Option Nat} {ops:List Oper} {m:Nat} {Hs:List Nat} {cls:List (List Nat)} {X:Nat→Value} {Wp:World→Prop} {a0:Act} {Q:Exit→Act→World→Prop}
def Lf (P:Program) (ops:List Oper) (cls:List (List Nat)) (X:Nat→Value) (Wp:World→Prop) (a0:Act) (i:Nat) (o:Oper):Prop:=
 ∀ (a:Act) (w:World),Wp w→a.tmps.size=a0.tmps.size→(∀ t∈o.looksAt ops.toArray,ep ops (fun j=>is (X j)) (cls.getD i []) a0 a w t)→db P o a.eval w fun v w'=>v=X i∧w'=w
structure J2 (ops:List Oper) (Hs:List Nat) (cls:List (List Nat)) (X:Nat→Value) (a0:Act) (listed:Array Bool) (a:Act):Prop where
 size:a.tmps.size=a0.tmps.size
 lsize:listed.size=ops.length
 doneH:∀ i d,i∈Hs→aT ops i=some d→listed.getD i false=true→a.tmps.getD d undef=X i
 rest:∀ t,(∀ j,aT ops j=some t→listed.getD j false=false)→a.tmps.getD t undef=a0.tmps.getD t undef
 closed:∀ i,listed.getD i false=true→∀ j∈cls.getD i [],listed.getD j false=true
theorem bv {listed:Array Bool} {i:Nat} (hi:i<listed.size) (j:Nat):(listed.setIfInBounds i true).getD j false=true↔(j=i∨listed.getD j false=true):=by
 by_cases hji:i=j
 ·subst hji;simp [hi]
 ·have:¬ j=i:=fun e=>hji e.symm
  simp [Array.getElem?_setIfInBounds_ne hji,this]
theorem jS {listed:Array Bool} {i:Nat} (hi:i<listed.size) (hu:listed.getD i false=false):(listed.setIfInBounds i true).toList.count false+1=listed.toList.count false:=by
 rw [Array.toList_setIfInBounds]
 exact lh listed.toList i (by simp [hi] at hu ⊢;exact hu)
theorem cP {o:Oper} {i:Nat} (hi:ops[i]? = some o):aT ops i=o.dst:=by unfold aT;rw [hi];rfl
theorem J2.stepH (hok:fY ops m Hs cls a0.tmps.size=true) {listed:Array Bool} {a:Act} (J:J2 ops Hs cls X a0 listed a) {i d:Nat} {o:Oper} (hi:ops[i]? = some o) (hH:i∈Hs) (hd:o.dst=some d)
 (hcl:∀ j∈cls.getD i [],listed.getD j false=true):J2 ops Hs cls X a0 (listed.setIfInBounds i true) (a.put o.dst (X i)):=by
 have hil:i<ops.length:=(List.getElem?_eq_some_iff.1 hi).1
 have hils:i<listed.size:=by rw [J.lsize];exact hil
 obtain ⟨⟨d',hd',hds,huniq⟩,_,_⟩:=oR hok hi hH
 rw [hd] at hd';cases hd'
 have hput:∀ t,(a.put o.dst (X i)).tmps.getD t undef=if d=t then X i else a.tmps.getD t undef:=fun t=>by
  rw [hd,bU]
  by_cases e:d=t
  ·rw [if_pos ⟨e,by rw [J.size];exact hds⟩,if_pos e]
  ·rw [if_neg (fun h=>e h.1),if_neg e]
 refine ⟨by rw [Act.tmps_put_size];exact J.size,by simp [J.lsize],fun j dj hj hdj hl=>?_,fun t ht=>?_,fun j hj k hk=>?_⟩
 ·rw [hput]
  by_cases e:d=dj
  ·subst e;rw [if_pos rfl,huniq j hdj]
  ·rw [if_neg e]
   rcases (bv hils j).1 hl with e2|e2
   ·subst e2;rw [cP hi,hd] at hdj;cases hdj;exact absurd rfl e
   ·exact J.doneH j dj hj hdj e2
 ·rw [hput]
  have hne:d≠t:=fun e=>by
   have:=ht i (by rw [cP hi,hd,e])
   have h2:=(bv hils i).2 (.inl rfl)
   rw [this] at h2;cases h2
  rw [if_neg hne]
  refine J.rest t fun j hj=>?_
  have:=ht j hj
  cases hb:listed.getD j false with
  |false=>rfl
  |true=>rw [(bv hils j).2 (.inr hb)] at this;cases this
 ·rcases (bv hils j).1 hj with e|e
  ·subst e;exact(bv hils k).2 (.inr (hcl k hk))
  ·exact(bv hils k).2 (.inr (J.closed j e k hk))
theorem J2.stepT (hok:fY ops m Hs cls a0.tmps.size=true) {listed:Array Bool} {a:Act} (J:J2 ops Hs cls X a0 listed a) {i:Nat} {o:Oper} (hi:ops[i]? = some o) (hH:i ∉ Hs) (v:Value)
 (hcl:∀ j∈cls.getD i [],listed.getD j false=true):J2 ops Hs cls X a0 (listed.setIfInBounds i true) (a.put o.dst v):=by
 have hil:i<ops.length:=(List.getElem?_eq_some_iff.1 hi).1
 have hils:i<listed.size:=by rw [J.lsize];exact hil
 have hput:∀ t,o.dst≠some t→(a.put o.dst v).tmps.getD t undef=a.tmps.getD t undef:=fun t ht=>by
  cases hd:o.dst with
  |none=>rfl
  |some d=>rw [bU,if_neg (fun h=>ht (by rw [hd,h.1]))]
 refine ⟨by rw [Act.tmps_put_size];exact J.size,by simp [J.lsize],fun j dj hj hdj hl=>?_,fun t ht=>?_,fun j hj k hk=>?_⟩
 ·have hji:j≠i:=fun e=>hH (e▸hj)
  have hjo:∃ oj,ops[j]? = some oj:=by
   unfold aT at hdj
   cases hq:ops[j]? with
   |none=>rw [hq] at hdj;cases hdj
   |some oj=>exact ⟨oj,rfl⟩
  obtain ⟨oj,hjo⟩:=hjo
  obtain ⟨⟨d',hd',_,huniq⟩,_,_⟩:=oR hok hjo hj
  have hdd:d'=dj:=by rw [cP hjo,hd'] at hdj;exact Option.some.inj hdj
  subst hdd
  rw [hput]
  ·exact J.doneH j _ hj hdj (((bv hils j).1 hl).resolve_left hji)
  ·intro e
   exact hji (huniq i (by rw [cP hi,e])).symm
 ·rw [hput]
  ·refine J.rest t fun j hj=>?_
   have:=ht j hj
   cases hb:listed.getD j false with
   |false=>rfl
   |true=>rw [(bv hils j).2 (.inr hb)] at this;cases this
  ·intro e
   have:=ht i (by rw [cP hi,e])
   have h2:=(bv hils i).2 (.inl rfl)
   rw [this] at h2;cases h2
 ·rcases (bv hils j).1 hj with e|e
  ·subst e;exact(bv hils k).2 (.inr (hcl k hk))
  ·exact(bv hils k).2 (.inr (J.closed j e k hk))
theorem t7 (hok:fY ops m Hs cls a0.tmps.size=true) {listed:Array Bool} (hs:listed.size=ops.length) {i:Nat} (hi:i<ops.length)
 (hb:listed.getD i false=false) (hall:∀ j,j<i→listed.getD j false=true):i∈Region.ready .any ops.toArray listed:=by
 have hio:ops[i]? = some ops[i]:=by simp [hi]
 have hlt:=(kU hok hio).1
 exact mem_ready.2 ⟨by simp [hs,hi] at hb ⊢;exact hb,ops[i],by simp [hi],fun e he hbd=>by
  have hm:e.on∈cz ops[i]:=List.mem_map.2 ⟨e,List.mem_filter.2 ⟨by simpa using he,by simpa using hbd⟩,rfl⟩
  exact hall _ (hlt _ hm)⟩
theorem ri (hok:fY ops m Hs cls a0.tmps.size=true) {listed:Array Bool} (hs:listed.size=ops.length) (h:Region.ready .any ops.toArray listed=[]):
 ∀ i,i<ops.length→listed.getD i false=true:=by
 intro i
 induction i using Nat.strongRecOn with
 |_ i ih=>
  intro hi
  cases hb:listed.getD i false with
  |true=>rfl
  |false=>
   have:=t7 hok hs hi hb (fun j hj=>ih j hj (by omega))
   rw [h] at this;cases this
theorem As {listed:Array Bool} {i:Nat} (hi:i<listed.size) (hb:listed.getD i false=false):0<listed.toList.count false:=by
 refine List.count_pos_iff.2 ?_
 simp [hi] at hb
 exact List.mem_of_getElem? (i:=i) (by simp [hi,hb])
theorem iZ {listed:Array Bool} (h:listed.toList.count false=0) (i:Nat) (hi:i<listed.size):listed.getD i false=true:=by
 cases hb:listed.getD i false with
 |true=>rfl
 |false=>have:=As hi hb;omega
theorem uc (hok:fY ops m Hs cls a0.tmps.size=true) (hob:∀ i o,i∈Hs→ops[i]? = some o→Lf P ops cls X Wp a0 i o) {listed:Array Bool} {a:Act} {w:World} (J:J2 ops Hs cls X a0 listed a) (hw:Wp w)
 {i:Nat} {o:Oper} (hi:ops[i]? = some o) (hH:i∈Hs) (hu:listed.getD i false=false) (hcl:∀ j∈cls.getD i [],listed.getD j false=true) {K:Act→World→Prop} (hK:K (a.put o.dst (X i)) w):wpOpIn (FR ro) 0 P ops.toArray Q i K a w:=by
 obtain ⟨⟨d,hd,hds,huniq⟩,hg,hlook⟩:=oR hok hi hH
 have hil:i<ops.length:=(List.getElem?_eq_some_iff.1 hi).1
 have hD:=hob i o hH hi a w hw J.size fun t ht=>by
  unfold ep
  cases hwr:dY ops (cls.getD i []) t with
  |some j=>
   obtain ⟨hm,oj,hj,hdj⟩:=eU hwr
   have hdj':aT ops j=some t:=by rw [cP hj,hdj]
   rcases hlook t ht j hdj' with h|h
   ·exact J.doneH j t h.2 hdj' (hcl j hm)
   ·have:=J.closed j (hcl j hm) i h;rw [hu] at this;cases this
  |none=>
   refine J.rest t fun j hdj=>?_
   cases hb:listed.getD j false with
   |false=>rfl
   |true=>
    rcases hlook t ht j hdj with h|h
    ·have hjo:∃ oj,ops[j]? = some oj∧oj.dst=some t:=by
      unfold aT at hdj
      cases hq:ops[j]? with
      |none=>rw [hq] at hdj;cases hdj
      |some oj=>rw [hq] at hdj;exact ⟨oj,rfl,hdj⟩
     obtain ⟨oj,h1,h2⟩:=hjo
     exact absurd h.1 (gU hwr j oj h1 h2)
    ·have:=J.closed j hb i h;rw [hu] at this;cases this
 have hi':ops.toArray[i]? = some o:=by simpa using hi
 unfold wpOpIn
 simp only [hi']
 have hwant:Region.wanted o (yielded ops.toArray a.tmps)=true:=by simp [Region.wanted,hg]
 rw [if_pos hwant]
 exact hD.wp fun v w' ⟨h1,h2⟩=>by subst h1;subst h2;exact hK
theorem uA (hok:fY ops m Hs cls a0.tmps.size=true) (hsel:Region.noSelect ops.toArray=true) (hob:∀ i o,i∈Hs→ops[i]? = some o→Lf P ops cls X Wp a0 i o):
 ∀ (fuel:Nat) (listed:Array Bool) (a b:Act) (w:World) (ixs:List Nat),listed.toList.count false=fuel→J2 ops Hs cls X a0 listed a→b.defers=a.defers→b.tmps.size=a.tmps.size→
  (∀ t,(∀ i∈Hs,aT ops i=some t→listed.getD i false=true)→b.tmps.getD t undef=a.tmps.getD t undef)→(∀ i∈Hs,∀ d,aT ops i=some d→b.tmps.getD d undef=X i)→
  Wp w→(∀ i,i<ops.length→i ∉ Hs→(listed.getD i false=false↔i∈ixs))→ixs.Pairwise (· < ·)→(∀ i∈ixs,i<ops.length∧m≤i∧i ∉ Hs)→
  kq P ops.toArray Wp (Q .normal) (ixs.filterMap fun i=>ops[i]?) b w→wpAnyIn (FR ro) 0 P .any ops.toArray Q fuel listed a w:=by
 intro fuel
 induction fuel with
 |zero=>
  intro listed a b w ixs hc J hbd hbs hrel hX hw hix hpw hin h
  have hall:=fun i hi=>iZ hc i (by rw [J.lsize];exact hi)
  have hnil:ixs=[]:=by
   cases ixs with
   |nil=>rfl
   |cons i l=>
    have:=hin i List.mem_cons_self
    have h2:=(hix i this.1 this.2.2).2 List.mem_cons_self
    rw [hall i this.1] at h2;cases h2
  subst hnil
  have hab:a=b:=by
   refine sO hbd.symm hbs.symm fun t=>(hrel t fun i hi hd=>?_).symm
   refine hall i ?_
   unfold aT at hd
   rcases Nat.lt_or_ge i ops.length with h'|h'
   ·exact h'
   ·rw [List.getElem?_eq_none h'] at hd;cases hd
  refine ⟨?_,by rw [hab];exact h⟩
  cases hr:Region.ready .any ops.toArray listed with
  |nil=>rfl
  |cons x xs=>
   have hx:x∈Region.ready .any ops.toArray listed:=by rw [hr];exact List.mem_cons_self
   obtain ⟨o,ho,hf,_⟩:=dl hx
   have hlt:=(List.getElem?_eq_some_iff.1 ho).1
   have:=hall x hlt
   rw [hf J.lsize] at this;cases this
 |succ fuel ih=>
  intro listed a b w ixs hc J hbd hbs hrel hX hw hix hpw hin h
  refine ⟨fun hr=>?_,fun k hk=>?_⟩
  ·have hall:=ri hok J.lsize hr
   have:listed.toList.count false=0:=by
    refine List.count_eq_zero.2 fun hm=>?_
    obtain ⟨i,hi,he⟩:=List.getElem_of_mem hm
    have hi':i<listed.size:=by simpa using hi
    have:=hall i (by rw [← J.lsize];exact hi')
    simp [hi'] at this he
    rw [this] at he;cases he
   omega
  obtain ⟨o,ho,hf,hdir⟩:=dl hk
  have hkl:=(List.getElem?_eq_some_iff.1 ho).1
  have hks:k<listed.size:=by rw [J.lsize];exact hkl
  have hu:=hf J.lsize
  have hcl:∀ j∈cls.getD k [],listed.getD j false=true:=fun j hj=>by
   rcases (kU hok ho).2 j hj with h1|⟨q,hq,h1⟩
   ·exact hdir j h1
   ·exact J.closed q (hdir q hq) j h1
  have hcnt:(listed.setIfInBounds k true).toList.count false=fuel:=by have:=jS hks hu;omega
  by_cases hH:k∈Hs
  ·obtain ⟨⟨d,hd,hds,huniq⟩,_,_⟩:=oR hok ho hH
   have hdk:aT ops k=some d:=by rw [cP ho,hd]
   refine uc hok hob J hw ho hH hu hcl (ih _ _ b w ixs hcnt (J.stepH hok ho hH hd hcl) ?_ ?_ ?_ hX hw ?_ hpw hin h)
   ·rw [hd];exact hbd
   ·rw [Act.tmps_put_size];exact hbs
   ·intro t ht
    rw [hd,bU]
    by_cases e:d=t
    ·subst e
     rw [if_pos ⟨rfl,by rw [J.size];exact hds⟩]
     exact hX k hH d hdk
    ·rw [if_neg (fun h=>e h.1)]
     refine hrel t fun i hi hdi=>?_
     rcases (bv hks i).1 (ht i hi hdi) with e2|e2
     ·subst e2;rw [hdk] at hdi;cases hdi;exact absurd rfl e
     ·exact e2
   ·intro i hi hiH
    have hne:¬ i=k:=fun e=>hiH (e▸hH)
    rw [← hix i hi hiH]
    have:=bv hks i
    cases hb:listed.getD i false with
    |true=>rw [this.2 (.inr hb)]
    |false=>
     cases hb2:(listed.setIfInBounds k true).getD i false with
     |false=>rfl
     |true=>rcases this.1 hb2 with e|e
            ·exact absurd e hne
            ·rw [hb] at e;cases e
  ·have hkx:k∈ixs:=(hix k hkl hH).1 hu
   cases ixs with
   |nil=>cases hkx
   |cons i l=>
    have hii:=hin i List.mem_cons_self
    have hki:k=i:=by
     rcases List.mem_cons.1 hkx with e|e
     ·exact e
     ·have hlt:=(List.pairwise_cons.1 hpw).1 k e
      have hm:=(D1 hok ho hH (hin k hkx).2.1).1 i hlt hii.2.2
      have:=hcl i hm
      rw [(hix i hii.1 hii.2.2).2 List.mem_cons_self] at this;cases this
    subst hki
    have hlst:kq P ops.toArray Wp (Q .normal) (o::l.filterMap fun i=>ops[i]?) b w:=by simpa [List.filterMap_cons,ho] using h
    have hag:∀ t∈o.looksAt ops.toArray,a.tmps.getD t undef=b.tmps.getD t undef:=fun t ht=>(hrel t fun j hj hdj=>hcl j ((D1 hok ho hH hii.2.1).2 t ht j hj hdj)).symm
    have hwant:=jV (o:=o) (ops:=ops.toArray) hbs.symm hag
    have step:∀ v w',Wp w'→kq P ops.toArray Wp (Q .normal) (l.filterMap fun i=>ops[i]?) (b.put o.dst v) w'→wpAnyIn (FR ro) 0 P .any ops.toArray Q fuel (listed.setIfInBounds k true) (a.put o.dst v) w':=fun v w' hw' h'=>by
     refine ih _ _ (b.put o.dst v) w' l hcnt (J.stepT hok ho hH v hcl) ?_ ?_ ?_ ?_ hw' ?_ (List.pairwise_cons.1 hpw).2 (fun i hi=>hin i (List.mem_cons_of_mem _ hi)) h'
     ·cases o.dst<;>exact hbd
     ·rw [Act.tmps_put_size,Act.tmps_put_size];exact hbs
     ·intro t ht
      have h1:∀ i∈Hs,aT ops i=some t→listed.getD i false=true:=fun i hi hdi=>by
       rcases (bv hks i).1 (ht i hi hdi) with e|e
       ·exact absurd (e▸hi) hH
       ·exact e
      cases hd:o.dst with
      |none=>exact hrel t h1
      |some d=>
       rw [bU,bU,hbs]
       split
       ·rfl
       ·exact hrel t h1
     ·intro i hi d hd
      have hne:o.dst≠some d:=fun e=>by
       have hio:∃ oi,ops[i]? = some oi:=by
        unfold aT at hd
        cases hq:ops[i]? with
        |none=>rw [hq] at hd;cases hd
        |some oi=>exact ⟨oi,rfl⟩
       obtain ⟨oi,hio⟩:=hio
       obtain ⟨⟨d',hd',_,huniq⟩,_⟩:=oR hok hio hi
       rw [cP hio,hd'] at hd;cases hd
       exact hH (huniq k (by rw [cP ho,e])▸hi)
      cases hdo:o.dst with
      |none=>exact hX i hi d hd
      |some d2=>rw [bU,if_neg (fun h=>hne (by rw [hdo,h.1]))];exact hX i hi d hd
     ·intro i hi hiH
      have hset:=bv hks i
      by_cases e:i=k
      ·subst e
       have hn:i ∉ l:=fun hm=>by have:=(List.pairwise_cons.1 hpw).1 i hm;omega
       rw [hset.2 (.inl rfl)]
       simp [hn]
      ·have h1:=hix i hi hiH
       rw [List.mem_cons] at h1
       have h2:(listed.setIfInBounds k true).getD i false=listed.getD i false:=by
        cases hb:listed.getD i false with
        |true=>exact hset.2 (.inr hb)
        |false=>
         cases hb2:(listed.setIfInBounds k true).getD i false with
         |false=>rfl
         |true=>rcases hset.1 hb2 with e2|e2
                ·exact absurd e2 e
                ·rw [hb] at e2;cases e2
       rw [h2,h1]
       simp [e]
    have ho':ops.toArray[k]? = some o:=by simpa using ho
    unfold wpOpIn
    simp only [ho']
    unfold kq bX at hlst
    rw [← hwant] at hlst
    split at hlst
    ·rename_i hwt
     rw [if_pos hwt]
     have hd:=m3 (fun cs bl=>Region.noSelect_spec hsel k o cs bl ho') hag hlst
     exact hd.wp fun v w' h9=>by
      unfold bX at h9
      exact step v w' h9.1 h9.2
    ·rename_i hwt
     rw [if_neg hwt]
     unfold bX at hlst
     exact ⟨fun _ _=>trivial,step undef w hlst.1 hlst.2⟩
variable {Fr:List Nat} {T:Nat→cW} {w1:World}
def O8 (P:Program) (ops:List Oper) (cls:List (List Nat)) (T:Nat→cW) (Fr:List Nat) (a0:Act) (w1:World) (i:Nat) (o:Oper):Prop:=
 ∀ (a:Act) (w:World),Ext w1 w→a.tmps.size=a0.tmps.size→a.defers=a0.defers→(∀ t∈o.looksAt ops.toArray,ep ops T (cls.getD i []) a0 a w t)→
  if Region.wanted o (yielded ops.toArray a.tmps) then db P o a.eval w (fun v w'=>T i v w'∧Ext w w'∧(i∈Fr→∀ k∈pu v,w.heap.size≤k∧k<w'.heap.size)) else T i undef w
structure J1 (ops:List Oper) (m:Nat) (Hs:List Nat) (cls:List (List Nat)) (X:Nat→Value) (Fr:List Nat) (T:Nat→cW) (a0:Act) (w1:World) (listed:Array Bool) (a:Act) (w:World):Prop where
 J:J2 ops Hs cls X a0 listed a
 ext:Ext w1 w
 defers:a.defers=a0.defers
 tail:∀ i,m≤i→i ∉ Hs→listed.getD i false=false
 done:∀ i d,i<m→i ∉ Hs→aT ops i=some d→listed.getD i false=true→T i (a.tmps.getD d undef) w
 fresh:∀ i∈Fr,∀ d,aT ops i=some d→listed.getD i false=true→∀ k∈pu (a.tmps.getD d undef),w1.heap.size≤k∧k<w.heap.size
 disj:∀ i∈Fr,∀ j∈Fr,i≠j→∀ d e,aT ops i=some d→aT ops j=some e→listed.getD i false=true→listed.getD j false=true→∀ k∈pu (a.tmps.getD d undef),k ∉ pu (a.tmps.getD e undef)
def iV (ops:List Oper) (X:Nat→Value):List Nat→Act→Act
 |[],a=>a
 |i::l,a=>iV ops X l (a.put (aT ops i) (X i))
theorem kp (l:List Nat):∀ a:Act,(iV ops X l a).tmps.size=a.tmps.size:=by
 induction l with
 |nil=>intro a;rfl
 |cons i l ih=>intro a;rw [iV,ih,Act.tmps_put_size]
theorem iN (l:List Nat):∀ a:Act,(iV ops X l a).defers=a.defers:=by
 induction l with
 |nil=>intro a;rfl
 |cons i l ih=>intro a;rw [iV,ih];cases aT ops i<;>rfl
theorem mT (l:List Nat) (t:Nat) (h:∀ i∈l,aT ops i≠some t):∀ a:Act,(iV ops X l a).tmps.getD t undef=a.tmps.getD t undef:=by
 induction l with
 |nil=>intro a;rfl
 |cons i l ih=>
  intro a
  rw [iV]
  rw [ih (fun j hj=>h j (List.mem_cons_of_mem _ hj))]
  cases hd:aT ops i with
  |none=>rfl
  |some d=>rw [bU,if_neg (fun e=>h i List.mem_cons_self (by rw [hd,e.1]))]
theorem p4 (l:List Nat) (t:Nat) (i:Nat) (hi:i∈l) (hd:aT ops i=some t) (hu:∀ j∈l,aT ops j=some t→j=i):∀ a:Act,t<a.tmps.size→(iV ops X l a).tmps.getD t undef=X i:=by
 induction l with
 |nil=>cases hi
 |cons j l ih=>
  intro a hs
  rw [iV]
  by_cases hm:i∈l
  ·exact ih hm (fun k hk=>hu k (List.mem_cons_of_mem _ hk)) _ (by rw [Act.tmps_put_size];exact hs)
  ·have hij:i=j:=(List.mem_cons.1 hi).resolve_right hm
   subst hij
   rw [mT l t (fun k hk e=>hm (hu k (List.mem_cons_of_mem _ hk) e▸hk)),hd,bU,if_pos ⟨rfl,hs⟩]
theorem gr {i:Nat} {t:Tmp} (h:aT ops i=some t):∃ o,ops[i]? = some o∧o.dst=some t:=by
 unfold aT at h
 cases hq:ops[i]? with
 |none=>rw [hq] at h;cases h
 |some o=>rw [hq] at h;exact ⟨o,rfl,h⟩
theorem xI {id:Nat} (hm:P.follows .mixedOrders=true) (hok:fY ops m Hs cls a0.tmps.size=true) (hsel:Region.noSelect ops.toArray=true) (hWp:∀ w w',Wp w→Ext w w'→Wp w') (hW1:Wp w1)
 (hTX:∀ i∈Hs,T i=is (X i)) (hFr:∀ i∈Fr,i<m∧i ∉ Hs) (hT:∀ i,my (T i)) (hob:∀ i o,i∈Hs→ops[i]? = some o→Lf P ops cls X Wp a0 i o) (hof:∀ i o,i<m→i ∉ Hs→ops[i]? = some o→O8 P ops cls T Fr a0 w1 i o)
 (hfin:∀ (b:Act) (w:World),Ext w1 w→b.defers=a0.defers→b.tmps.size=a0.tmps.size→Wp w→(∀ i d,i<m∨i∈Hs→aT ops i=some d→T i (b.tmps.getD d undef) w)→
  (∀ t,(∀ i,i<m∨i∈Hs→aT ops i≠some t)→b.tmps.getD t undef=a0.tmps.getD t undef)→
  (∀ i∈Fr,∀ d,aT ops i=some d→∀ k∈pu (b.tmps.getD d undef),w1.heap.size≤k∧k<w.heap.size)→
  (∀ i∈Fr,∀ j∈Fr,i≠j→∀ d e,aT ops i=some d→aT ops j=some e→∀ k∈pu (b.tmps.getD d undef),k ∉ pu (b.tmps.getD e undef))→
  kq P ops.toArray Wp (Q .normal) ((jz ops m Hs).filterMap fun i=>ops[i]?) b w):
 (Code.region id ops.toArray true).wpIn (FR ro) 0 P Q a0 w1:=by
 have hend:∀ fuel listed a w,listed.toList.count false=fuel→J1 ops m Hs cls X Fr T a0 w1 listed a w→(∀ i,i<m→i ∉ Hs→i<ops.length→listed.getD i false=true)→wpAnyIn (FR ro) 0 P .any ops.toArray Q fuel listed a w:=by
  intro fuel listed a w hc I hall
  have huniqH:∀ i∈Hs,∀ d,aT ops i=some d→(∀ j,aT ops j=some d→j=i)∧d<a0.tmps.size:=fun i hi d hd=>by
   obtain ⟨o,ho,hdo⟩:=gr hd
   obtain ⟨⟨d',hd',hds,huniq⟩,_⟩:=oR hok ho hi
   rw [hdo] at hd';cases hd'
   exact ⟨huniq,hds⟩
  have hX:∀ i∈Hs,∀ d,aT ops i=some d→(iV ops X Hs a).tmps.getD d undef=X i:=fun i hi d hd=>
   p4 Hs d i hi hd (fun j _ e=>(huniqH i hi d hd).1 j e) a (by rw [I.J.size];exact(huniqH i hi d hd).2)
  have hnH:∀ t,(∀ i∈Hs,aT ops i≠some t)→(iV ops X Hs a).tmps.getD t undef=a.tmps.getD t undef:=fun t h=>mT Hs t h a
  have hFH:∀ i d,i ∉ Hs→aT ops i=some d→∀ j∈Hs,aT ops j≠some d:=fun i d hi hd j hj e=>hi ((huniqH j hj d e).1 i hd▸hj)
  have hex:∀ i d,aT ops i=some d→i<ops.length:=fun i d hd=>by obtain ⟨o,ho,_⟩:=gr hd;exact(List.getElem?_eq_some_iff.1 ho).1
  refine uA (m:=m) hok hsel hob fuel listed a (iV ops X Hs a) w (jz ops m Hs) hc I.J (iN Hs a) (kp Hs a) (fun t ht=>?_) hX (hWp w1 w hW1 I.ext) (fun i hi hiH=>?_) ?_ (fun i hi=>?_) ?_
  ·by_cases hx:∃ i∈Hs,aT ops i=some t
   ·obtain ⟨i,hi,hd⟩:=hx
    rw [hX i hi t hd,I.J.doneH i t hi hd (ht i hi hd)]
   ·exact hnH t fun i hi e=>hx ⟨i,hi,e⟩
  ·unfold jz
   simp only [List.mem_filter,List.mem_range,Bool.and_eq_true,Bool.not_eq_true',decide_eq_false_iff_not,List.contains_eq_mem]
   constructor
   ·intro h
    refine ⟨hi,fun him=>?_,hiH⟩
    rw [hall i him hiH hi] at h;cases h
   ·rintro ⟨_,h1,_⟩
    exact I.tail i (by omega) hiH
  ·exact List.Pairwise.filter _ (by rw [List.range_eq_range'];exact List.pairwise_lt_range')
  ·unfold jz at hi
   simp only [List.mem_filter,List.mem_range,Bool.and_eq_true,Bool.not_eq_true',decide_eq_false_iff_not,List.contains_eq_mem] at hi
   exact ⟨hi.1,by omega,hi.2.2⟩
  ·refine hfin _ w I.ext ((iN Hs a).trans I.defers) ((kp Hs a).trans I.J.size) (hWp w1 w hW1 I.ext) (fun i d him hd=>?_) (fun t ht=>?_) (fun i hi d hd=>?_) (fun i hi j hj hij d e hd he=>?_)
   ·by_cases hiH:i∈Hs
    ·rw [hTX i hiH,hX i hiH d hd];rfl
    ·have him':=him.resolve_right hiH
     rw [hnH d (hFH i d hiH hd)]
     exact I.done i d him' hiH hd (hall i him' hiH (hex i d hd))
   ·rw [hnH t (fun i hi=>ht i (.inr hi))]
    refine I.J.rest t fun j hj=>?_
    by_cases hjm:j<m∨j∈Hs
    ·exact absurd hj (ht j hjm)
    ·exact I.tail j (Nat.le_of_not_lt fun h=>hjm (.inl h)) (fun h=>hjm (.inr h))
   ·have hf:=hFr i hi
    rw [hnH d (hFH i d hf.2 hd)]
    exact I.fresh i hi d hd (hall i hf.1 hf.2 (hex i d hd))
   ·have hf:=hFr i hi
    have hg:=hFr j hj
    rw [hnH d (hFH i d hf.2 hd),hnH e (hFH j e hg.2 he)]
    exact I.disj i hi j hj hij d e hd he (hall i hf.1 hf.2 (hex i d hd)) (hall j hg.1 hg.2 (hex j e he))
 refine wpIn_region_any hm ?_
 have hcount:∀ (fuel:Nat) (listed:Array Bool) (a:Act) (w:World),listed.toList.count false=fuel→J1 ops m Hs cls X Fr T a0 w1 listed a w→wpAnyIn (FR ro) 0 P .any ops.toArray Q fuel listed a w:=by
  intro fuel
  induction fuel with
  |zero=>
   intro listed a w hc I
   exact hend 0 listed a w hc I fun i _ _ hi=>iZ hc i (by rw [I.J.lsize];exact hi)
  |succ fuel ih=>
   intro listed a w hc I
   by_cases hall:∀ i,i<m→i ∉ Hs→i<ops.length→listed.getD i false=true
   ·exact hend _ listed a w hc I hall
   ·refine ⟨fun hr=>absurd (fun i _ _ hi=>ri hok I.J.lsize hr i hi) hall,fun k hk=>?_⟩
    obtain ⟨o,ho,hf,hdir⟩:=dl hk
    have hkl:=(List.getElem?_eq_some_iff.1 ho).1
    have hks:k<listed.size:=by rw [I.J.lsize];exact hkl
    have hu:=hf I.J.lsize
    have hcl:∀ j∈cls.getD k [],listed.getD j false=true:=fun j hj=>by
     rcases (kU hok ho).2 j hj with h1|⟨q,hq,h1⟩
     ·exact hdir j h1
     ·exact I.J.closed q (hdir q hq) j h1
    have hcnt:(listed.setIfInBounds k true).toList.count false=fuel:=by have:=jS hks hu;omega
    by_cases hH:k∈Hs
    ·obtain ⟨⟨d,hd,hds,huniq⟩,_,_⟩:=oR hok ho hH
     have hdk:aT ops k=some d:=by rw [cP ho,hd]
     have hput:∀ t,d≠t→(a.put o.dst (X k)).tmps.getD t undef=a.tmps.getD t undef:=fun t ht=>by rw [hd,bU,if_neg (fun h=>ht h.1)]
     have hother:∀ i e,i ∉ Hs→aT ops i=some e→d≠e:=fun i e hi he h=>hi (huniq i (by rw [he,h])▸hH)
     refine uc hok hob I.J (hWp w1 w hW1 I.ext) ho hH hu hcl (ih _ _ w hcnt ⟨I.J.stepH hok ho hH hd hcl,I.ext,by rw [hd];exact I.defers,fun i him hiH=>?_,fun i e him hiH he hl=>?_,fun i hi e he hl=>?_,fun i hi j hj hij e e2 he he2 hl hl2=>?_⟩)
     ·have:=bv hks i
      cases hb:(listed.setIfInBounds k true).getD i false with
      |false=>rfl
      |true=>rcases this.1 hb with e|e
             ·exact absurd (e▸hH) hiH
             ·rw [I.tail i him hiH] at e;cases e
     ·rw [hput e (hother i e hiH he)]
      exact I.done i e him hiH he (((bv hks i).1 hl).resolve_left fun h=>hiH (h▸hH))
     ·have h9:=hFr i hi
      rw [hput e (hother i e h9.2 he)]
      exact I.fresh i hi e he (((bv hks i).1 hl).resolve_left fun h=>h9.2 (h▸hH))
     ·have h9:=hFr i hi
      have h8:=hFr j hj
      rw [hput e (hother i e h9.2 he),hput e2 (hother j e2 h8.2 he2)]
      exact I.disj i hi j hj hij e e2 he he2 (((bv hks i).1 hl).resolve_left fun h=>h9.2 (h▸hH)) (((bv hks j).1 hl2).resolve_left fun h=>h8.2 (h▸hH))
    ·have hkm:k<m:=by
      rcases Nat.lt_or_ge k m with h3|h3
      ·exact h3
      ·exfalso
       apply hall
       intro i him hiH _
       exact hcl i ((D1 hok ho hH h3).1 i (by omega) hiH)
     obtain ⟨⟨d,hd,hds,huniq⟩,hlook⟩:=Im hok ho hH hkm
     have hdk:aT ops k=some d:=by rw [cP ho,hd]
     have hother:∀ i e,i<m→aT ops i=some e→i≠k→d≠e:=fun i e him he hne h=>hne (huniq i him (by rw [he,h]))
     have hslots:∀ t∈o.looksAt ops.toArray,ep ops T (cls.getD k []) a0 a w t:=fun t ht=>by
      unfold ep
      cases hw:dY ops (cls.getD k []) t with
      |some j=>
       obtain ⟨hmj,oj,hj,hdj⟩:=eU hw
       have hdj':aT ops j=some t:=by rw [cP hj,hdj]
       have hlj:=hcl j hmj
       by_cases hjH:j∈Hs
       ·show T j _ w
        rw [hTX j hjH,I.J.doneH j t hjH hdj' hlj];rfl
       ·have hjm:j<m:=by
         rcases Nat.lt_or_ge j m with h|h
         ·exact h
         ·rw [I.tail j h hjH] at hlj;cases hlj
        exact I.done j t hjm hjH hdj' hlj
      |none=>
       refine I.J.rest t fun j hdj=>?_
       cases hb:listed.getD j false with
       |false=>rfl
       |true=>
        have hjx:j<m∨j∈Hs:=by
         by_cases hjH:j∈Hs
         ·exact .inr hjH
         ·rcases Nat.lt_or_ge j m with h|h
          ·exact .inl h
          ·rw [I.tail j h hjH] at hb;cases hb
        obtain ⟨oj,h1,h2⟩:=gr hdj
        rcases hlook t ht j hjx hdj with h|h
        ·exact absurd h (gU hw j oj h1 h2)
        ·have:=I.J.closed j hb k h;rw [hu] at this;cases this
     have step:∀ v w',T k v w'→Ext w w'→(k∈Fr→∀ q∈pu v,w.heap.size≤q∧q<w'.heap.size)→wpAnyIn (FR ro) 0 P .any ops.toArray Q fuel (listed.setIfInBounds k true) (a.put o.dst v) w':=fun v w' hv hE hfr=>by
      have hself:(a.put o.dst v).tmps.getD d undef=v:=by rw [hd,bU,if_pos ⟨rfl,by rw [I.J.size];exact hds⟩]
      have hput:∀ t,d≠t→(a.put o.dst v).tmps.getD t undef=a.tmps.getD t undef:=fun t ht=>by rw [hd,bU,if_neg (fun h=>ht h.1)]
      refine ih _ _ w' hcnt ⟨I.J.stepT hok ho hH v hcl,I.ext.trans hE,by rw [hd];exact I.defers,fun i him hiH=>?_,fun i e him hiH he hl=>?_,fun i hi e he hl=>?_,fun i hi j hj hij e e2 he he2 hl hl2=>?_⟩
      ·have:=bv hks i
       cases hb:(listed.setIfInBounds k true).getD i false with
       |false=>rfl
       |true=>rcases this.1 hb with e|e
              ·omega
              ·rw [I.tail i him hiH] at e;cases e
      ·by_cases hik:i=k
       ·subst hik
        rw [hdk] at he;cases he
        rw [hself];exact hv
       ·rw [hput e (hother i e him he hik)]
        exact hT i _ _ _ (I.done i e him hiH he (((bv hks i).1 hl).resolve_left hik)) hE
      ·have h9:=hFr i hi
       by_cases hik:i=k
       ·subst hik
        rw [hdk] at he;cases he
        rw [hself]
        intro q hq
        have:=hfr hi q hq
        exact ⟨Nat.le_trans I.ext.le this.1,this.2⟩
       ·rw [hput e (hother i e h9.1 he hik)]
        intro q hq
        have:=I.fresh i hi e he (((bv hks i).1 hl).resolve_left hik) q hq
        exact ⟨this.1,Nat.lt_of_lt_of_le this.2 hE.le⟩
      ·have h9:=hFr i hi
       have h8:=hFr j hj
       by_cases hik:i=k
       ·subst hik
        have hjk:j≠i:=fun e=>hij e.symm
        rw [hdk] at he;cases he
        rw [hself,hput e2 (hother j e2 h8.1 he2 hjk)]
        intro q hq AF
        have h1:=hfr hi q hq
        have h2:=I.fresh j hj e2 he2 (((bv hks j).1 hl2).resolve_left hjk) q AF
        omega
       ·rw [hput e (hother i e h9.1 he hik)]
        by_cases hjk:j=k
        ·subst hjk
         rw [hdk] at he2;cases he2
         rw [hself]
         intro q hq AF
         have h1:=hfr hj q AF
         have h2:=I.fresh i hi e he (((bv hks i).1 hl).resolve_left hik) q hq
         omega
        ·rw [hput e2 (hother j e2 h8.1 he2 hjk)]
         exact I.disj i hi j hj hij e e2 he he2 (((bv hks i).1 hl).resolve_left hik) (((bv hks j).1 hl2).resolve_left hjk)
     have hO:=hof k o hkm hH ho a w I.ext I.J.size I.defers hslots
     have ho':ops.toArray[k]? = some o:=by simpa using ho
     unfold wpOpIn
     simp only [ho']
     split
     ·rename_i hw
      rw [if_pos hw] at hO
      exact hO.wp fun v w' ⟨h1,h2,h3⟩=>step v w' h1 h2 h3
     ·rename_i hw
      rw [if_neg hw] at hO
      exact ⟨fun _ _=>trivial,step undef w hO (Ext.refl w) fun _ q hq=>by cases hq⟩
 refine hcount _ _ _ _ (by simp) ⟨⟨rfl,by simp,fun i d _ _ h=>?_,fun _ _=>rfl,fun i h=>?_⟩,(Ext.refl w1).drew,rfl,fun i _ _=>?_,fun i d _ _ _ h=>?_,fun i _ d _ h=>?_,fun i _ j _ _ d e _ _ h=>?_⟩
 ·simp [Array.getElem?_replicate] at h;split at h<;>simp at h
 ·simp [Array.getElem?_replicate] at h;split at h<;>simp at h
 ·simp [Array.getElem?_replicate];split<;>rfl
 ·simp [Array.getElem?_replicate] at h;split at h<;>simp at h
 ·simp [Array.getElem?_replicate] at h;split at h<;>simp at h
 ·simp [Array.getElem?_replicate] at h;split at h<;>simp at h
end law
section
variable {P:Program} {ops:List Oper} {cls:List (List Nat)} {Ts:List cW} {a0:Act}
def KF (T:cW) (fr:Bool) (d:Tmp) (w:World):Act→World→Prop:=fun a' w'=>T (a'.tmps.getD d undef) w'∧Ext w w'∧(fr=true→∀ k∈pu (a'.tmps.getD d undef),w.heap.size≤k∧k<w'.heap.size)
def KH (T:cW) (d:Tmp) (w:World):Act→World→Prop:=fun a' w'=>T (a'.tmps.getD d undef) w'∧w'=w
def pM (Ts:List cW) (j:Nat):cW:=Ts.getD j (is undef)
def Bl (P:Program) (ops:List Oper) (m:Nat) (Hs Fr:List Nat) (cls:List (List Nat)) (Ts:List cW) (Wp:World→Prop) (N:Nat) (Df:List Deferred) (a0:Act) (w1:World) (i:Nat) (o:Oper):Prop:=
 if Hs.contains i then ∀ (a:Act) (w:World) (d:Tmp),o.dst=some d→Wp w→a.tmps.size=N→(∀ t∈o.looksAt ops.toArray,ep ops (pM Ts) (cls.getD i []) a0 a w t)→bX P ops.toArray (KH (pM Ts i) d w) [o] a w
 else if i<m then ∀ (a:Act) (w:World) (d:Tmp),o.dst=some d→Ext w1 w→a.tmps.size=N→a.defers=Df→(∀ t∈o.looksAt ops.toArray,ep ops (pM Ts) (cls.getD i []) a0 a w t)→bX P ops.toArray (KF (pM Ts i) (Fr.contains i) d w) [o] a w
 else True
def G6 (P:Program) (ops:List Oper) (m:Nat) (Hs Fr:List Nat) (cls:List (List Nat)) (Ts:List cW) (Wp:World→Prop) (N:Nat) (Df:List Deferred) (a0:Act) (w1:World):List Oper→Nat→Prop
 |[],_=>True
 |o::r,i=>Bl P ops m Hs Fr cls Ts Wp N Df a0 w1 i o∧G6 P ops m Hs Fr cls Ts Wp N Df a0 w1 r (i+1)
theorem lF {P:Program} {ops:List Oper} {m:Nat} {Hs Fr:List Nat} {cls:List (List Nat)} {Ts:List cW} {Wp:World→Prop} {N:Nat} {Df:List Deferred} {a0:Act} {w1:World}:∀ {l:List Oper} {k:Nat},G6 P ops m Hs Fr cls Ts Wp N Df a0 w1 l k→∀ i o,l[i]? = some o→Bl P ops m Hs Fr cls Ts Wp N Df a0 w1 (k+i) o
 |[],_,_,i,o,h=>by simp at h
 |x::r,k,H,0,o,h=>by simp at h;subst h;exact H.1
 |x::r,k,H,i+1,o,h=>by
  have:=lF H.2 i o (by simpa using h)
  rwa [show k+1+i=k+(i+1) from by omega] at this
def MD (Ts:List cW):List Nat→Prop
 |[]=>True
 |i::r=>(∃ x,pM Ts i=is x)∧MD Ts r
theorem pG {Ts:List cW}:∀ {l:List Nat},MD Ts l→∀ i∈l,∃ x,pM Ts i=is x
 |[],_,i,hi=>by cases hi
 |j::r,h,i,hi=>by
  rcases List.mem_cons.1 hi with e|e
  ·subst e;exact h.1
  ·exact pG h.2 i e
def Mp (m:Nat) (Hs Fr:List Nat):Bool:=Fr.all fun i=>decide (i<m) && !Hs.contains i
theorem tP {ro:Option Nat} {id N:Nat} {L:List (Nat × Value)} {Df:List Deferred} {tl:List Oper} {B:List Own} {w0 w1:World} {Q:Exit→Act→World→Prop} (m:Nat) (Hs Fr:List Nat) (cls:List (List Nat)) (Ts:List cW) (Wp:World→Prop)
 (h:Sl N a0 L Df) (s:St w0 B w1) (hm:P.follows .mixedOrders=true) (hok:fY ops m Hs cls N=true) (hsel:Region.noSelect ops.toArray=true) (hfr:Mp m Hs Fr=true) (htl:((jz ops m Hs).filterMap fun i=>ops[i]?)=tl)
 (hWp:∀ w w',Wp w→Ext w w'→Wp w') (hW1:Wp w1) (hX:MD Ts Hs) (hT:GL Ts) (hob:G6 P ops m Hs Fr cls Ts Wp N Df a0 w1 ops 0)
 (hfin:∀ (b:Act) (w:World),Ext w1 w→b.tmps.size=N→b.defers=Df→Wp w→(∀ i d,(decide (i<m) || Hs.contains i)=true→aT ops i=some d→pM Ts i (b.tmps.getD d undef) w)→
  (∀ t,((List.range ops.length).all fun i => !(decide (i<m) || Hs.contains i) || decide (aT ops i≠some t))=true→b.tmps.getD t undef=a0.tmps.getD t undef)→
  (∀ i d,Fr.contains i=true→aT ops i=some d→∀ k∈pu (b.tmps.getD d undef),w1.heap.size≤k)→
  (∀ i j d e,Fr.contains i=true→Fr.contains j=true→i≠j→aT ops i=some d→aT ops j=some e→∀ k∈pu (b.tmps.getD d undef),k ∉ pu (b.tmps.getD e undef))→
  kq P ops.toArray Wp (Q .normal) tl b w):
 (Code.region id ops.toArray true).wpIn (FR ro) 0 P Q a0 w1:=by
 have hsz:=h.size
 obtain ⟨X,hXX⟩:∃ X:Nat→Value,∀ i∈Hs,pM Ts i=is (X i):=by
  have h1:∀ i,∃ x,i∈Hs→pM Ts i=is x:=fun i=>by
   by_cases hi:i∈Hs
   ·obtain ⟨x,hx⟩:=pG hX i hi
    exact ⟨x,fun _=>hx⟩
   ·exact ⟨undef,fun h9=>absurd h9 hi⟩
  obtain ⟨X,h2⟩:=Classical.axiomOfChoice h1
  exact ⟨X,h2⟩
 refine xI (m:=m) (Hs:=Hs) (cls:=cls) (X:=X) (Wp:=Wp) (Fr:=Fr) (T:=pM Ts) hm (by rw [hsz];exact hok) hsel hWp hW1 hXX (fun i hi=>?_) (oO hT) (fun i o hi ho=>?_) (fun i o him hi ho=>?_) fun b w hE hd hs hw hTs hR hF hD=>?_
 ·have:=List.all_eq_true.1 hfr i hi
  simpa using this
 ·have hx:=lF hob i o ho
  rw [Nat.zero_add] at hx
  unfold Bl at hx
  rw [if_pos (by simpa using hi)] at hx
  obtain ⟨⟨d,hdd,hds,_⟩,hg,hlk⟩:=oR hok ho hi
  intro a w hwp hs hsl
  have h1:=hx a w d hdd hwp (hs.trans hsz) fun t ht=>by
   have h2:=hsl t ht
   unfold ep at h2 ⊢
   cases hwr:dY ops (cls.getD i []) t with
   |none=>rw [hwr] at h2;exact h2
   |some j=>
    rw [hwr] at h2
    obtain ⟨hmj,oj,hj,hdj⟩:=eU hwr
    have hjH:j∈Hs:=by
     rcases hlk t ht j (by rw [cP hj,hdj]) with h3|h3
     ·exact h3.2
     ·have h4:=yt hok i (List.getElem?_eq_some_iff.1 ho).1 j hmj
      have h5:=yt hok j (List.getElem?_eq_some_iff.1 hj).1 i h3
      omega
    show pM Ts j _ w
    rw [hXX j hjH];exact h2
  unfold bX at h1
  rw [if_pos (by simp [Region.wanted,hg])] at h1
  refine h1.mono fun v w' h3=>?_
  unfold bX KH at h3
  rw [hdd,bU,if_pos ⟨rfl,by rw [hs,hsz];exact hds⟩,hXX i hi] at h3
  exact h3
 ·have hx:=lF hob i o ho
  rw [Nat.zero_add] at hx
  unfold Bl at hx
  rw [if_neg (by simpa using hi),if_pos him] at hx
  obtain ⟨⟨d,hdd,hds,_⟩,_⟩:=Im hok ho hi him
  intro a w hE hs hdf hsl
  have h1:=hx a w d hdd hE (hs.trans hsz) (hdf.trans h.defers) hsl
  have hlt:d<a.tmps.size:=by rw [hs,hsz];exact hds
  unfold bX at h1
  split at h1
  ·rename_i hw
   rw [if_pos hw]
   refine h1.mono fun v w' h3=>?_
   unfold bX KF at h3
   rw [hdd,bU,if_pos ⟨rfl,hlt⟩] at h3
   exact ⟨h3.1,h3.2.1,fun hf=>h3.2.2 (by simpa using hf)⟩
  ·rename_i hw
   rw [if_neg hw]
   unfold bX KF at h1
   rw [hdd,bU,if_pos ⟨rfl,hlt⟩] at h1
   exact h1.1
 ·rw [htl]
  refine hfin b w hE (hs.trans hsz) (hd.trans h.defers) hw (fun i d hi hdi=>hTs i d (by simpa using hi) hdi) (fun t ht=>hR t fun i hi hdi=>?_) (fun i d hi hdi k hk=>(hF i (by simpa using hi) d hdi k hk).1) (fun i j d e hi hj hij hdi hdj=>hD i (by simpa using hi) j (by simpa using hj) hij d e hdi hdj)
  obtain ⟨o,ho,_⟩:=gr hdi
  have hb:(decide (i<m) || Hs.contains i)=true:=by
   rcases hi with h3|h3
   ·rw [decide_eq_true h3];rfl
   ·rw [List.contains_iff_mem.2 h3,Bool.or_true]
  have h2:=List.all_eq_true.1 ht i (List.mem_range.2 (List.getElem?_eq_some_iff.1 ho).1)
  rw [hb,hdi] at h2
  simp at h2
theorem ca {m:Nat} {Hs Fr:List Nat} {Wp:World→Prop} {N:Nat} {Df:List Deferred} {w1:World} {i:Nat} {o:Oper} (d:Tmp) (hd:o.dst=some d) (hc:Hs.contains i=true)
 (h:∀ (a:Act) (w:World),Wp w→a.tmps.size=N→(∀ t∈o.looksAt ops.toArray,ep ops (pM Ts) (cls.getD i []) a0 a w t)→bX P ops.toArray (KH (pM Ts i) d w) [o] a w):Bl P ops m Hs Fr cls Ts Wp N Df a0 w1 i o:=by
 unfold Bl
 rw [if_pos hc]
 intro a w d' hd'
 rw [hd] at hd';cases hd'
 exact h a w
theorem cM {m:Nat} {Hs Fr:List Nat} {Wp:World→Prop} {N:Nat} {Df:List Deferred} {w1:World} {i:Nat} {o:Oper} (d:Tmp) (hd:o.dst=some d) (hc:Hs.contains i=false) (hm:Nat.blt i m=true)
 (h:∀ (a:Act) (w:World),Ext w1 w→a.tmps.size=N→a.defers=Df→(∀ t∈o.looksAt ops.toArray,ep ops (pM Ts) (cls.getD i []) a0 a w t)→bX P ops.toArray (KF (pM Ts i) (Fr.contains i) d w) [o] a w):Bl P ops m Hs Fr cls Ts Wp N Df a0 w1 i o:=by
 have hm':i<m:=Nat.le_of_ble_eq_true hm
 unfold Bl
 rw [if_neg (by rw [hc];decide),if_pos hm']
 intro a w d' hd'
 rw [hd] at hd';cases hd'
 exact h a w
theorem gQ {m:Nat} {Hs Fr:List Nat} {Wp:World→Prop} {N:Nat} {Df:List Deferred} {w1:World} {i:Nat} {o:Oper} (hc:Hs.contains i=false) (hm:Nat.blt i m=false):Bl P ops m Hs Fr cls Ts Wp N Df a0 w1 i o:=by
 have hm':¬ i<m:=fun h9=>by rw [show Nat.blt i m=true from Nat.ble_eq_true_of_le h9] at hm;cases hm
 unfold Bl
 rw [if_neg (by rw [hc];decide),if_neg hm']
 trivial
theorem bC {cl:List Nat} {a:Act} {w:World} {lk9:List Tmp} (hl:∀ t∈lk9,ep ops (pM Ts) cl a0 a w t) (t j:Nat) (hm:lk9.contains t=true) (hw:dY ops cl t=some j):pM Ts j (a.tmps.getD t undef) w:=by
 have:=hl t (List.contains_iff_mem.1 hm)
 unfold ep at this
 rw [hw] at this
 exact this
theorem du {cl:List Nat} {a:Act} {w:World} {lk9:List Tmp} (hl:∀ t∈lk9,ep ops (pM Ts) cl a0 a w t) (t:Nat) (hm:lk9.contains t=true) (hw:dY ops cl t=none) {v:Value} (hv:a0.tmps.getD t undef=v):a.tmps.getD t undef=v:=by
 have:=hl t (List.contains_iff_mem.1 hm)
 unfold ep at this
 rw [hw] at this
 exact this.trans hv
theorem sl_new {N:Nat} {L:List (Nat × Value)} {Df:List Deferred} {b:Act} {mH:Nat→Bool} (news:List (Nat × Value)) (h:Sl N a0 L Df) (hs:b.tmps.size=N) (hd:b.defers=Df)
 (hR:∀ t,((List.range ops.length).all fun i => !(mH i) || decide (aT ops i≠some t))=true→b.tmps.getD t undef=a0.tmps.getD t undef) (hn:qN b news)
 (hc:((List.range ops.length).all fun i => !(mH i) || match aT ops i with|some t=>news.any (fun p=>Nat.beq p.1 t)|none=>true)=true):Sl N b (news++L) Df:=by
 refine ⟨hs,hd,fun t v ht=>?_⟩
 have key:∀ (news:List (Nat × Value)),qN b news→lk (news++L) t=some v→b.tmps.getD t undef=v∨(lk L t=some v∧news.any (fun p=>Nat.beq p.1 t)=false):=by
  intro news
  induction news with
  |nil=>intro _ h1;exact .inr ⟨h1,rfl⟩
  |cons p r ih=>
   obtain ⟨k,u⟩:=p
   intro hh h1
   rw [List.cons_append] at h1
   unfold lk at h1
   cases hb:Nat.beq k t with
   |true=>
    rw [hb] at h1
    simp at h1
    have e:k=t:=by simpa using hb
    subst e;subst h1
    exact .inl hh.1
   |false=>
    rw [hb] at h1
    rcases ih hh.2 h1 with h2|⟨h2,h3⟩
    ·exact .inl h2
    ·exact .inr ⟨h2,by simp [hb,h3]⟩
 rcases key news hn ht with h1|⟨h1,h2⟩
 ·exact h1
 ·rw [hR t (List.all_eq_true.2 fun i hi=>?_)]
  ·exact h.holds t v h1
  ·have h3:=List.all_eq_true.1 hc i hi
   cases hmi:mH i with
   |false=>simp
   |true=>
    rw [hmi] at h3
    simp only [Bool.not_true,Bool.false_or,decide_eq_true_eq,ne_eq]
    intro e
    rw [e] at h3
    simp only [Bool.not_true,Bool.false_or] at h3
    rw [h3] at h2;cases h2
end
theorem St.join {w0 w1 w:World} {B:List Own} (s:St w0 B w1) (hE:Ext w1 w) (F:List Own) (hF:∀ p∈F,p.holds w0 w) (hk:∀ p∈F,∀ k,p.at k→w1.heap.size≤k) (hnd:F.Pairwise fun p q=>∀ k,p.at k→¬ q.at k):St w0 (F++B) w:=by
 have s2:=s.more hE
 refine ⟨s2.ext,fun p hp=>?_,fun p hp k hpk=>?_,List.pairwise_append.2 ⟨hnd,s2.nd,fun p hp q hq k hpk hqk=>?_⟩⟩
 ·rcases List.mem_append.1 hp with h|h
  ·exact hF p h
  ·exact s2.has p h
 ·rcases List.mem_append.1 hp with h|h
  ·exact Nat.le_trans s.ext.le (hk p h k hpk)
  ·exact s2.own p h k hpk
 ·have h1:=hk p hp k hpk
  have h2:=Own.lt (s.has q hq) hqk
  omega
theorem St.join1 {w0 w1 w:World} {B:List Own} (s:St w0 B w1) (hE:Ext w1 w) (p:Own) (hF:p.holds w0 w) (hk:∀ k,p.at k→w1.heap.size≤k):St w0 (p::B) w:=
 s.join hE [p] (fun q hq=>by rw [List.mem_singleton] at hq;subst hq;exact hF) (fun q hq=>by rw [List.mem_singleton] at hq;subst hq;exact hk) (List.pairwise_singleton _ _)
structure EqV (P:Program) (D:Nat) (e:TypeId) (sz:Nat) (V:List Value→Prop) (vl:List Value→Value):Prop where
 len:∀ xs,V xs→xs.length=sz
 size:(P.info? e).map (·.size)=some sz
 part:∀ (cs:Array Value) (off:Nat) (w:World),V ((cs.toList.drop off).take sz)→(part e cs off).run P w=.ok (vl ((cs.toList.drop off).take sz)) w
 eq:∀ (d:Nat) (xs ys:List Value) (w:World),V xs→V ys→∃ r:Bool,(Op.equalIn (d+D) e (vl xs) (vl ys)).run P w=.ok r w∧(r=true↔xs=ys)
theorem dt {P:Program} {e:TypeId} {sz:Nat} (h:(P.info? e).map (·.size)=some sz) (w:World):(sizeOf e).run P w=.ok sz w:=by
 cases hi:P.info? e with
 |none=>simp [hi] at h
 |some i=>simp [hi] at h;simp [sizeOf,typeInfo,Sem.run_bind,hi,h]
def K0 (xs:List Value):Value:=xs.headD undef
def xh (xs:List Value):Value:=.agg xs.toArray
theorem EqV.int {P:Program} {e:TypeId} (k:IntKind) (he:P.underlying e=some (.int k)) (hs:(P.info? e).map (·.size)=some 1):EqV P 1 e 1 (fun xs=>∃ n,xs=[.int k n]) K0:=by
 refine ⟨fun xs ⟨n,h⟩=>by rw [h];rfl,hs,fun cs off w ⟨n,h⟩=>?_,fun d xs ys w ⟨m,hx⟩ ⟨n,hy⟩=>?_⟩
 ·have h1:(isAgg e).run P w=.ok false w:=by
   unfold isAgg;rw [Sem.run_bind,run_underlying he w];rfl
  have h2:cs[off]? = some (.int k n):=by
   have:=congrArg (fun l=>l[0]?) h
   simpa [List.getElem?_take,List.getElem?_drop] using this
  simp only [Go.part,Sem.run_bind,h1,Result.andThen_ok,Bool.false_eq_true,if_false,h2,h]
  rfl
 ·subst hx;subst hy
  exact ⟨m == n,run_equalIn_int w d e k k m n he,by simp⟩
theorem EqV.bool {P:Program} {e:TypeId} (he:P.underlying e=some .bool) (hs:(P.info? e).map (·.size)=some 1):EqV P 1 e 1 (fun xs=>∃ n,xs=[.bool n]) K0:=by
 refine ⟨fun xs ⟨n,h⟩=>by rw [h];rfl,hs,fun cs off w ⟨n,h⟩=>?_,fun d xs ys w ⟨m,hx⟩ ⟨n,hy⟩=>?_⟩
 ·have h1:(isAgg e).run P w=.ok false w:=by
   unfold isAgg;rw [Sem.run_bind,run_underlying he w];rfl
  have h2:cs[off]? = some (.bool n):=by
   have:=congrArg (fun l=>l[0]?) h
   simpa [List.getElem?_take,List.getElem?_drop] using this
  simp only [Go.part,Sem.run_bind,h1,Result.andThen_ok,Bool.false_eq_true,if_false,h2,h]
  rfl
 ·subst hx;subst hy
  exact ⟨m == n,run_equalIn_bool w d e m n he,by simp⟩
theorem nJ {P:Program} {t:TypeId} {sz:Nat} (hd:∃ dsc,P.underlying t=some dsc∧IP dsc=true) (hs:(P.info? t).map (·.size)=some sz) (cs:Array Value) (off:Nat) (w:World) (hl:((cs.toList.drop off).take sz).length=sz):
 (part t cs off).run P w=.ok (xh ((cs.toList.drop off).take sz)) w:=by
 obtain ⟨dsc,h1,h2⟩:=hd
 have h3:(isAgg t).run P w=.ok true w:=by
  unfold isAgg;rw [Sem.run_bind,run_underlying h1 w]
  cases dsc<;>first|rfl|cases h2
 simp only [Go.part,Sem.run_bind,h3,Result.andThen_ok,if_true,dt hs w,Sem.run_pure]
 congr 1
 unfold xh
 congr 1
 apply Array.ext'
 rw [Array.toList_extract,List.extract_eq_take_drop]
 rw [show off+sz - off=sz from by omega]
theorem EqV.arr {P:Program} {t e:TypeId} {D n sz:Nat} {V:List Value→Prop} {vl:List Value→Value} (E:EqV P D e sz V vl) (ht:P.underlying t=some (.array n e)) (hs:(P.info? t).map (·.size)=some (n*sz)):
 EqV P (D+1) t (n*sz) (fun xs=>xs.length=n*sz∧∀ i,i<n→V ((xs.drop (i*sz)).take sz)) xh:=by
 refine ⟨fun xs h=>h.1,hs,fun cs off w h=>nJ ⟨_,ht,rfl⟩ hs cs off w h.1,fun d xs ys w ⟨hxl,hx⟩ ⟨hyl,hy⟩=>?_⟩
 have hc:∀ i,∃ r:Bool,i<n→(Op.equalIn (d+D) e (vl ((xs.drop (i*sz)).take sz)) (vl ((ys.drop (i*sz)).take sz))).run P w=.ok r w∧(r=true↔(xs.drop (i*sz)).take sz=(ys.drop (i*sz)).take sz):=fun i=>by
  by_cases hi:i<n
  ·obtain ⟨r,h1,h2⟩:=E.eq d _ _ w (hx i hi) (hy i hi)
   exact ⟨r,fun _=>⟨h1,h2⟩⟩
  ·exact ⟨true,fun h=>absurd h hi⟩
 obtain ⟨c,hc⟩:=Classical.axiomOfChoice hc
 have hloop:∀ (F:Nat→Option Bool × Unit→Sem (ForInStep (Option Bool × Unit))),(∀ i,i<n→∀ r,(F i r).run P w=if c i=true then .ok (.yield (none,())) w else .ok (.done (some false,())) w)→
  ∀ k s,s+k≤n→(forIn (List.range' s k) ((none,()):Option Bool × Unit) F).run P w=.ok (if (List.range' s k).all c=true then none else some false,()) w:=by
  intro F hF k
  induction k with
  |zero=>intro s _;simp
  |succ k ih=>
   intro s hs
   simp only [List.range'_succ,List.forIn_cons,Sem.run_bind,hF s (by omega)]
   by_cases h:c s=true
   ·rw [if_pos h]
    simp only [Result.andThen_ok]
    rw [ih (s+1) (by omega)]
    simp only [List.all_cons,h,Bool.true_and]
   ·rw [if_neg h]
    simp [h]
 have hrun:(Op.equalIn (d+D+1) t (.agg xs.toArray) (.agg ys.toArray)).run P w=.ok ((List.range' 0 n).all c) w:=by
  unfold Op.equalIn
  simp only [Sem.run_bind,run_underlying ht w,Result.andThen_ok,dt E.size w]
  simp only [Std.Legacy.Range.forIn_eq_forIn_range']
  rw [hloop _ (fun i hi r=>by
   have h1:=E.part xs.toArray (i*sz) w (by simpa using hx i hi)
   have h2:=E.part ys.toArray (i*sz) w (by simpa using hy i hi)
   simp only [] at h1 h2
   simp only [Sem.run_bind,h1,h2,Result.andThen_ok,(hc i hi).1]
   by_cases h:c i=true<;>simp [h]) _ 0 (by simp [Std.Legacy.Range.size])]
  simp only [Result.andThen_ok]
  have e:[:n].size=n:=by simp [Std.Legacy.Range.size]
  rw [e]
  by_cases h:(List.range' 0 n).all c=true
  ·rw [if_pos h,h];rfl
  ·rw [if_neg h]
   simp only [Bool.not_eq_true] at h
   rw [h];rfl
 refine ⟨_,hrun,?_⟩
 constructor
 ·intro g
  have key:∀ k,k≤n→xs.take (k*sz)=ys.take (k*sz):=by
   intro k
   induction k with
   |zero=>intro _;simp
   |succ k ih=>
    intro hk
    have h1:=ih (by omega)
    have h2:=(hc k (by omega)).2.1 (List.all_eq_true.1 g k (by simp [List.mem_range'];omega))
    rw [Nat.succ_mul,List.take_add,List.take_add,h1,h2]
  have h3:=key n (Nat.le_refl _)
  rw [List.take_of_length_le (by omega),List.take_of_length_le (by omega)] at h3
  exact h3
 ·intro e
  subst e
  refine List.all_eq_true.2 fun i hi=>?_
  exact(hc i (by simp [List.mem_range'] at hi;omega)).2.2 rfl
def NU (P:Program) (D:Nat):List Field→List (Nat × (List Value→Prop))→Prop
 |[],[]=>True
 |f::fs,(sz,V)::r=>f.name ≠ "_" ∧ (∃ vl,EqV P D f.type sz V vl)∧NU P D fs r
 |_,_=>False
def m8 (xs:List Value) (f:Field) (sz:Nat):List Value:=(xs.drop f.offset).take sz
def u3 (xs:List Value):List Field→List (Nat × (List Value→Prop))→Prop
 |f::fs,(sz,V)::r=>V (m8 xs f sz)∧u3 xs fs r
 |_,_=>True
def mO (xs ys:List Value):List Field→List (Nat × (List Value→Prop))→Prop
 |f::fs,(sz,_)::r=>m8 xs f sz=m8 ys f sz∧mO xs ys fs r
 |_,_=>True
theorem mF {P:Program} {D:Nat} (d:Nat) (xs ys:List Value) (w:World):∀ (fs:List Field) (r:List (Nat × (List Value→Prop))),NU P D fs r→u3 xs fs r→u3 ys fs r→
 ∃ b:Bool,(Op.eqFields (d+D) xs.toArray ys.toArray fs).run P w=.ok b w∧(b=true↔mO xs ys fs r)
 |[],[],_,_,_=>⟨true,by simp [Op.eqFields],by simp [mO]⟩
 |[],_::_,h,_,_=>h.elim
 |f::fs,[],h,_,_=>h.elim
 |f::fs,(sz,V)::r,⟨hn,⟨vl,E⟩,hr⟩,⟨hx,hxr⟩,⟨hy,hyr⟩=>by
  obtain ⟨b,h1,h2⟩:=mF d xs ys w fs r hr hxr hyr
  obtain ⟨c,h3,h4⟩:=E.eq d _ _ w hx hy
  have p1:=E.part xs.toArray f.offset w (by simpa [m8] using hx)
  have p2:=E.part ys.toArray f.offset w (by simpa [m8] using hy)
  simp only [] at p1 p2
  unfold m8 at h3 h4
  simp only [Op.eqFields,hn,ne_eq,not_false_eq_true,if_true,Sem.run_bind,p1,p2,Result.andThen_ok,h3]
  cases c
  ·refine ⟨false,by simp,?_⟩
   simp only [Bool.false_eq_true,false_iff]
   intro h
   exact absurd (h4.2 h.1) (by simp)
  ·refine ⟨b,by simpa using h1,?_⟩
   rw [h2]
   exact ⟨fun h=>⟨h4.1 rfl,h⟩,fun h=>h.2⟩
def pR:Nat→List Field→List (Nat × (List Value→Prop))→Nat→Prop
 |k,f::fs,(sz,_)::r,n=>f.offset=k∧pR (k+sz) fs r n
 |k,[],[],n=>k=n
 |_,_,_,_=>False
theorem rg {xs ys:List Value} {n:Nat} (hx:xs.length=n) (hy:ys.length=n):∀ (fs:List Field) (r:List (Nat × (List Value→Prop))) (k:Nat),pR k fs r n→xs.take k=ys.take k→mO xs ys fs r→xs=ys
 |[],[],k,h,e,_=>by
  have h':k=n:=h
  subst h'
  rw [List.take_of_length_le (by omega),List.take_of_length_le (by omega)] at e
  exact e
 |[],_::_,_,h,_,_=>h.elim
 |_::_,[],_,h,_,_=>h.elim
 |f::fs,(sz,V)::r,k,h,e,hs=>by
  obtain ⟨h1,h2⟩:=h
  refine rg hx hy fs r (k+sz) h2 ?_ hs.2
  have h3:=hs.1
  unfold m8 at h3
  rw [h1] at h3
  rw [List.take_add,List.take_add,e,h3]
theorem o4 (xs:List Value):∀ (fs:List Field) (r:List (Nat × (List Value→Prop))),mO xs xs fs r
 |[],_=>by simp [mO]
 |_::_,[]=>by simp [mO]
 |f::fs,(sz,V)::r=>⟨rfl,o4 xs fs r⟩
theorem EqV.struct {P:Program} {t:TypeId} {D n:Nat} (r:List (Nat × (List Value→Prop))) (ht:P.underlying t=some (.struct (P.fieldsOf t))) (hp:P.stoodInHeld t=false) (hs:(P.info? t).map (·.size)=some n)
 (hf:NU P D (P.fieldsOf t).toList r) (hc:pR 0 (P.fieldsOf t).toList r n):
 EqV P (D+1) t n (fun xs=>xs.length=n∧u3 xs (P.fieldsOf t).toList r) xh:=by
 refine ⟨fun xs h=>h.1,hs,fun cs off w h=>nJ ⟨_,ht,rfl⟩ hs cs off w h.1,fun d xs ys w ⟨hxl,hx⟩ ⟨hyl,hy⟩=>?_⟩
 obtain ⟨b,h1,h2⟩:=mF d xs ys w _ r hf hx hy
 refine ⟨b,?_,h2.trans ⟨fun h=>rg hxl hyl _ r 0 hc (by simp) h,fun e=>by subst e;exact o4 _ _ _⟩⟩
 rw [← h1]
 exact run_equalIn_struct w (d+D) t xs.toArray ys.toArray ht hp
section
variable {P:Program} {ρ:Operand→Value} {d:Option Tmp} {ty:TypeId} {pos:String} {af:Array Edge} {g:Option (Nat × Bool)} {a b:Operand} {t t':TypeId} {D n:Nat} {V:List Value→Prop}
theorem GO (E:EqV P D t n V xh) (hg:P.eqGuardType P.depth t=false) (hD:Nat.ble D 10000=true) {X Y:Array Value} (hx:ρ a=.agg X) (hy:ρ b=.agg Y) (hX:V X.toList) (hY:V Y.toList) (p:Bool) (hp:p=true↔X.toList=Y.toList):
 aM P ⟨d,.binOp .eql t a b t',ty,pos,af,g⟩ ρ (.bool p):=fun w=>by
 obtain ⟨r,h1,h2⟩:=E.eq (10000 - D) _ _ w hX hY
 have hD':10000 - D+D=10000:=by have:D≤10000:=by simpa using hD
                                omega
 rw [hD'] at h1
 have hr:r=p:=by rw [Bool.eq_iff_iff,h2,hp]
 have h3:(Op.equalIn 10000 t (.agg X) (.agg Y)).run P w=.ok r w:=by simpa [xh] using h1
 simp only [execOp,hx,hy,Sem.run_bind,run_eqGuard_agg w .eql t a b _ _ hg,Result.andThen_ok,run_eql_struct,h3,hr,Sem.run_pure]
theorem Gj (E:EqV P D t n V xh) (hg:P.eqGuardType P.depth t=false) (hD:Nat.ble D 10000=true) {X Y:Array Value} (hx:ρ a=.agg X) (hy:ρ b=.agg Y) (hX:V X.toList) (hY:V Y.toList) (p:Bool) (hp:p=true↔X.toList=Y.toList):
 aM P ⟨d,.binOp .neq t a b t',ty,pos,af,g⟩ ρ (.bool (!p)):=fun w=>by
 obtain ⟨r,h1,h2⟩:=E.eq (10000 - D) _ _ w hX hY
 have hD':10000 - D+D=10000:=by have:D≤10000:=by simpa using hD
                                omega
 rw [hD'] at h1
 have hr:r=p:=by rw [Bool.eq_iff_iff,h2,hp]
 have h3:(Op.equalIn 10000 t (.agg X) (.agg Y)).run P w=.ok r w:=by simpa [xh] using h1
 simp only [execOp,hx,hy,Sem.run_bind,run_eqGuard_agg w .neq t a b _ _ hg,Result.andThen_ok,run_neq_struct,h3,hr,Sem.run_pure]
end
theorem l7 (p:Addr) (i j:Nat):(p.add i).add j=p.add (i+j):=by
 unfold Addr.add
 by_cases hi:i=0
 ·subst hi;simp
 ·by_cases hj:j=0
  ·subst hj;simp [hi]
  ·simp [hi,hj,Nat.add_assoc]
def aG (w:World) (p:Addr) (C:Array Value):Prop:=∀ j v,C[j]? = some v→w.cell? (p.add j)=some v
theorem aG.ext {w w':World} {p:Addr} {C:Array Value} (h:aG w p C) (e:Ext w w'):aG w' p C:=fun j v hv=>by
 have:=h j v hv
 rw [e.cell (tY this)];exact this
theorem aG.sub {w:World} {p:Addr} {C:Array Value} (h:aG w p C) (o n:Nat) {D:Array Value} (hD:C.extract o (o+n)=D):aG w (p.add o) D:=fun j v hv=>by
 subst hD
 rw [l7]
 refine h (o+j) v ?_
 rw [Array.getElem?_extract] at hv
 split at hv
 ·exact hv
 ·cases hv
theorem aG.of_blk {w:World} {b:Nat} {C:Array Value} {u:TypeId} {fr:Nat × Nat} (h:w.heap[b]? = some (.cells C u fr)):aG w ⟨b,0,none⟩ C:=fun j v hv=>by
 have hadd:(⟨b,0,none⟩:Addr).add j=⟨b,j,none⟩:=by unfold Addr.add;split<;>simp_all
 rw [hadd,cell_of_row w b j C u fr h];exact hv
theorem aG.of_tab {w:World} {g:Nat} {C:Array Value} (h:ff w g C):aG w ⟨g,0,none⟩ C:=by
 obtain ⟨t,fr,h⟩:=h
 exact aG.of_blk h
theorem aG.of_own {w0 w:World} {B:List Own} (s:St w0 B w) (i:Nat) {b:Nat} {C:Array Value} {u:TypeId} (hi:B[i]? = some (.blk b (.cells C u))):aG w ⟨b,0,none⟩ C:=aG.of_blk (s.get i hi)
theorem ff.of_own {w0 w:World} {B:List Own} (s:St w0 B w) (i:Nat) {b:Nat} {C:Array Value} {u:TypeId} (hi:B[i]? = some (.blk b (.cells C u))):ff w b C:=⟨u,(0,0),s.get i hi⟩
theorem pk {P:Program} {t:TypeId} {n:Nat} (hr:Row P t n) (w:World) (p:Addr) (C:Array Value) (h:aG w p C) (hn:C.size=n):(loadVar t p).run P w=.ok (.agg C) w:=by
 obtain ⟨dsc,h1,h2⟩:=hr.desc
 have h3:(isAgg t).run P w=.ok true w:=by
  unfold isAgg;rw [Sem.run_bind,run_underlying h1 w]
  cases dsc<;>first|rfl|cases h2
 have h4:=run_loadCells_list (P:=P) w p C.toList (fun j v hv=>h j v (by simpa using hv))
 rw [Array.length_toList,hn] at h4
 simp [loadVar,Sem.run_bind,h3,dt hr.size w,h4]
section
variable {P:Program} {ops:Array Oper} {Q:Act→World→Prop} {l:List Oper} {a:Act} {w w0:World} {N:Nat} {L:List (Nat × Value)} {Df:List Deferred} {B:List Own} {d:Tmp} {ty:TypeId} {pos:String} {af:Array Edge} {x y:Operand} {t t' e:TypeId}
theorem ar {n:Nat} {p:Addr} {C:Array Value} (hH:aG w p C) (h:Sl N a L Df) (hr:Row P t n) (hx:eu L x=some (.pointer (some p))) (hn:C.size=n) (hd:Nat.blt d N=true)
 (k:∀ a',Sl N a' ((d,.agg C)::L) Df→bX P ops Q l a' w):bX P ops Q (⟨some d,.load t x,ty,pos,af,none⟩::l) a w:=
 dw (R:=fun v w'=>v=.agg C∧w'=w) h (by
  unfold db
  simp only [execOp,h.ev hx,Instr.loadAt,Instr.sureAddr,Sem.run_bind,Sem.run_pure,Result.andThen_ok,pk hr w p C hH hn]
  first|exact ⟨rfl,rfl⟩|exact ⟨trivial,rfl⟩|exact ⟨trivial,trivial⟩|trivial) hd fun a' w' v ⟨h1,h2⟩ hs=>by subst h1;subst h2;exact k a' hs
theorem ag {p:Addr} {V:Value} (hH:w.cell? p=some V) (h:Sl N a L Df) (ho:One P t) (hx:eu L x=some (.pointer (some p))) (hd:Nat.blt d N=true)
 (k:∀ a',Sl N a' ((d,V)::L) Df→bX P ops Q l a' w):bX P ops Q (⟨some d,.load t x,ty,pos,af,none⟩::l) a w:=
 dw (R:=fun u w'=>u=V∧w'=w) h (eT ho (h.ev hx) hH ⟨rfl,rfl⟩) hd fun a' w' u ⟨h1,h2⟩ hs=>by subst h1;subst h2;exact k a' hs
end
theorem aG.at {w:World} {p:Addr} {C:Array Value} (h:aG w p C) {j:Nat} {v:Value} (hv:C[j]? = some v):w.cell? (p.add j)=some v:=h j v hv
def bI (w:World) (v:Value) (sz n:Nat) (xs:List Value):Prop:=
 xs.length=n*sz∧((v=.slice none 0 0∧n=0)∨∃ p c,v=.slice (some p) n c∧n≤c∧aG w p xs.toArray)
theorem bI.keep {w0 w:World} {v:Value} {sz n:Nat} {xs:List Value} (h:bI w0 v sz n xs) (e:Ext w0 w):bI w v sz n xs:=
 ⟨h.1,h.2.imp id fun ⟨p,c,hv,hnc,hc⟩=>⟨p,c,hv,hnc,hc.ext e⟩⟩
theorem bI.mono {sz n:Nat} {xs:List Value}:my (fun v w=>bI w v sz n xs):=fun _ _ _ h e=>h.keep e
theorem bI.of_own {w:World} {base:Nat} {e:TypeId} {v:Value} {sz n:Nat} {xs:List Value} (h:cB w base e sz v n xs):bI w v sz n xs:=by
 refine ⟨h.1,?_⟩
 rcases h.2 with ⟨h1,h2⟩|⟨g,cap,cur,fz,h1,_,_,_,h2,_⟩
 ·exact .inl ⟨h1,h2⟩
 ·subst h1
  exact .inr ⟨⟨g,0,none⟩,cap,rfl,h2,fun j x hx=>h.cells (g:=g) rfl j x (by simpa using hx)⟩
theorem bI.toRd {w:World} {v:Value} {n:Nat} {xs:List Value} (h:bI w v 1 n xs):Rd w v n xs:=
 ⟨by rw [h.1];omega,h.2.imp id fun ⟨p,c,hv,hnc,hc⟩=>⟨p,c,hv,hnc,fun j x hx=>hc j x (by simpa using hx)⟩⟩
theorem bI.len {w:World} {v:Value} {sz n:Nat} {xs:List Value} (h:bI w v sz n xs):∃ a c,v=.slice a n c:=by
 rcases h.2 with ⟨h1,h2⟩|⟨p,c,h1,_,_⟩
 ·exact ⟨none,0,by rw [h1,h2]⟩
 ·exact ⟨some p,c,h1⟩
theorem bI.cut {w:World} {v:Value} {sz n:Nat} {xs:List Value} (h:bI w v sz n xs) (k:Nat) (hk:k≤n):bI w (dQ v k) sz k (xs.take (k*sz)):=by
 refine ⟨by rw [List.length_take,h.1];exact Nat.min_eq_left (Nat.mul_le_mul_right _ hk),?_⟩
 rcases h.2 with ⟨h1,h2⟩|⟨p,c,h1,h3,h2⟩
 ·left;subst h1;obtain rfl:k=0:=by omega
  exact ⟨rfl,rfl⟩
 ·right;subst h1
  refine ⟨p,c,rfl,by omega,fun j x hx=>h2 j x ?_⟩
  simp only [List.getElem?_toArray] at hx ⊢
  rw [List.getElem?_take] at hx
  split at hx
  ·exact hx
  ·cases hx
def eg (v:Value) (sz k:Nat):Value:=match v with|.slice a n c=>.slice (if c=k then a else a.map (·.add (k*sz))) (n - k) (c - k)|v=>v
theorem bI.drop {w:World} {v:Value} {sz n:Nat} {xs:List Value} (h:bI w v sz n xs) (k:Nat) (hk:k≤n):bI w (eg v sz k) sz (n - k) (xs.drop (k*sz)):=by
 refine ⟨by rw [List.length_drop,h.1,Nat.sub_mul],?_⟩
 rcases h.2 with ⟨h1,h2⟩|⟨p,c,h1,h3,h2⟩
 ·left;subst h1;subst h2;obtain rfl:k=0:=by omega
  exact ⟨rfl,rfl⟩
 ·right;subst h1
  by_cases hc:c=k
  ·subst hc
   have:n=c:=by omega
   subst this
   refine ⟨p,0,by simp [eg],by omega,fun j x hx=>?_⟩
   simp only [List.getElem?_toArray] at hx
   have:=(List.getElem?_eq_some_iff.1 hx).1
   rw [List.length_drop,h.1] at this
   omega
  ·refine ⟨p.add (k*sz),c - k,by simp [eg,hc],by omega,fun j x hx=>?_⟩
   rw [l7]
   refine h2 _ x ?_
   simpa [List.getElem?_drop] using hx
theorem bI.el {w:World} {v:Value} {sz n:Nat} {xs:List Value} (h:bI w v sz n xs) (j:Nat) (hj:j<n) (hz:0<sz) {D:Array Value} (hD:((xs.drop (j*sz)).take sz).toArray=D):aG w (dy v (j*sz)) D:=by
 rcases h.2 with ⟨h1,h2⟩|⟨p,c,h1,h3,h2⟩
 ·omega
 ·subst h1;subst hD
  intro i x hx
  show w.cell? ((p.add (j*sz)).add i)=some x
  rw [l7]
  refine h2 _ x ?_
  simp only [List.getElem?_toArray] at hx ⊢
  rw [List.getElem?_take] at hx
  split at hx
  ·rw [List.getElem?_drop] at hx;exact hx
  ·cases hx
theorem bI.el1 {w:World} {v:Value} {n:Nat} {xs:List Value} (h:bI w v 1 n xs) (j:Nat) {V:Value} (hV:xs[j]? = some V):w.cell? (dy v (j*1))=some V:=by
 have hj:j<n:=by have:=(List.getElem?_eq_some_iff.1 hV).1;rw [h.1] at this;omega
 have hl:=(List.getElem?_eq_some_iff.1 hV).1
 have h9:=h.el j hj (by decide) (D:=#[V]) (by
  rw [Nat.mul_one,List.drop_eq_getElem_cons hl,List.take_succ_cons,List.take_zero]
  have:=(List.getElem?_eq_some_iff.1 hV).2
  rw [this]) 0 V rfl
 have e:(dy v (j*1)).add 0=dy v (j*1):=by simp [Addr.add]
 rwa [e] at h9
section
variable {P:Program} {ρ:Operand→Value} {d:Option Tmp} {ty:TypeId} {pos:String} {af:Array Edge} {g:Option (Nat × Bool)} {x y z:Operand} {t t' e:TypeId} {k:IntKind} {m m2:Int}
theorem a7 {w0:World} {v:Value} {sz n:Nat} {xs:List Value} (hR:bI w0 v sz n xs) (j:Nat) (ht:P.underlying t=some (.slice e)) (he:(P.info? e).map (·.size)=some sz) (hx:ρ x=v) (hy:ρ y=.int k m) (hj:m=(j:Int)) (hlt:j<n):
 aM P ⟨d,.indexAddr t x y,ty,pos,af,g⟩ ρ (.pointer (some (dy v (j*sz)))):=fun w=>by
 subst hj
 rcases hR.2 with ⟨h1,h2⟩|⟨p,c,h1,h3,_⟩
 ·omega
 ·subst h1
  simp [execOp,hx,hy,Instr.indexAt,asIntOf,Sem.run_bind,run_underlying ht,hlt,dt he,dy]
theorem jf {w0:World} {v:Value} {sz n:Nat} {xs:List Value} (hR:bI w0 v sz n xs) (ht:P.underlying t=some (.slice e)) (hx:ρ x=v):aM P ⟨d,.call {callee:=.builtin .len,args:=#[x],argTypes:=#[t]},ty,pos,af,g⟩ ρ (.int .i64 (n:Int)):=fun w=>by
 obtain ⟨a,c,rfl⟩:=hR.len
 simp [execOp,resolve,hx,invoke,builtin,Builtin.len_,Sem.run_bind,run_underlying ht,goInt]
theorem gv {w0:World} {v:Value} {sz n:Nat} {xs:List Value} (hR:bI w0 v sz n xs) (j:Nat) (ht:P.underlying t=some (.slice e)) (he:(P.info? e).map (·.size)=some sz) (hx:ρ x=v) (hy:ρ y=.int k m) (hj:m=(j:Int)) (hle:j≤n):aM P ⟨d,.slice t x none (some y) none,ty,pos,af,g⟩ ρ (dQ v j):=fun w=>by
 subst hj
 rcases hR.2 with ⟨h1,h2⟩|⟨p,c,h1,h3,_⟩
 ·subst h1;obtain rfl:j=0:=by omega
  simp [execOp,hx,hy,Instr.sliceAt,Sem.run_bind,run_underlying ht,Instr.slice,Instr.sliceBounds,Instr.sliceBound,asIntOf,dt he,dQ]
 ·subst h1
  have h4:j≤c:=by omega
  have ha:p.add 0=p:=by simp [Addr.add]
  simp [execOp,hx,hy,Instr.sliceAt,Sem.run_bind,run_underlying ht,Instr.slice,Instr.sliceBounds,Instr.sliceBound,asIntOf,dt he,h4,dQ,ha]
theorem gq {w0:World} {v:Value} {sz n:Nat} {xs:List Value} (hR:bI w0 v sz n xs) (j:Nat) (ht:P.underlying t=some (.slice e)) (he:(P.info? e).map (·.size)=some sz) (hx:ρ x=v) (hy:ρ y=.int k m) (hj:m=(j:Int)) (hle:j≤n):aM P ⟨d,.slice t x (some y) none none,ty,pos,af,g⟩ ρ (eg v sz j):=fun w=>by
 subst hj
 rcases hR.2 with ⟨h1,h2⟩|⟨p,c,h1,h3,_⟩
 ·subst h1;subst h2;obtain rfl:j=0:=by omega
  simp [execOp,hx,hy,Instr.sliceAt,Sem.run_bind,run_underlying ht,Instr.slice,Instr.sliceBounds,Instr.sliceBound,asIntOf,dt he,eg]
 ·subst h1
  simp [execOp,hx,hy,Instr.sliceAt,Sem.run_bind,run_underlying ht,Instr.slice,Instr.sliceBounds,Instr.sliceBound,asIntOf,dt he,hle,eg]
structure Fld (P:Program) (t:TypeId) (f off:Nat):Prop where
 has:∃ fields fd s,P.underlying t=some (.struct fields)∧fields[f]? = some fd∧(P.info? fd.type).map (·.size)=some (s+1)∧fd.offset=off
theorem Ef {f off b o:Nat} (F:Fld P t f off) (hx:ρ x=.pointer (some ⟨b,o,none⟩)):aM P ⟨d,.fieldAddr t x f,ty,pos,af,g⟩ ρ (.pointer (some ⟨b,o+off,none⟩)):=fun w=>by
 obtain ⟨fields,fd,i,h1,h2,h3,h5⟩:=F.has
 simp [execOp,hx,Instr.fieldAt,fieldPlace,Sem.run_bind,run_underlying h1,h2,Instr.sureAddr,dt h3,h5,Addr.add_lit]
theorem bM {f off:Nat} {v:Value} {j:Nat} (F:Fld P t f off) (hx:ρ x=.pointer (some (dy v j))) (hv:∃ p n c,v=.slice (some p) n c):aM P ⟨d,.fieldAddr t x f,ty,pos,af,g⟩ ρ (.pointer (some (dy v (j+off)))):=fun w=>by
 obtain ⟨fields,fd,i,h1,h2,h3,h5⟩:=F.has
 obtain ⟨p,n,c,rfl⟩:=hv
 simp [execOp,hx,Instr.fieldAt,fieldPlace,Sem.run_bind,run_underlying h1,h2,Instr.sureAddr,dt h3,h5,dy,l7]
theorem vN {p:Addr} (hx:ρ x=.pointer (some p)):aM P ⟨d,.nilCheck x,ty,pos,af,g⟩ ρ (.pointer (some p)):=fun w=>by
 simp [execOp,hx]
theorem Di {len n c:Nat} {a:Option Addr} (ht:P.underlying t=some (.array n e)) (hx:ρ x=.slice a len c) (hn:n≤len):aM P ⟨d,.sliceToArrayPointer t x,ty,pos,af,g⟩ ρ (.pointer a):=fun w=>by
 have:¬ len<n:=by omega
 simp [execOp,hx,Instr.arrayAt,Sem.run_bind,run_underlying ht,this]
theorem fW {b len:Nat} (j:Nat) (ht:P.underlying t=some (.array len e)) (he:(P.info? e).map (·.size)=some 1) (hx:ρ x=.pointer (some ⟨b,0,none⟩)) (hy:ρ y=.int k m) (hj:m=(j:Int)) (hle:j≤len):
 aM P ⟨d,.slice t x none (some y) none,ty,pos,af,g⟩ ρ (.slice (some ⟨b,0,none⟩) j len):=fun w=>by
 subst hj
 have ha:(⟨b,0,none⟩:Addr).add 0=⟨b,0,none⟩:=by simp [Addr.add]
 simp [execOp,hx,hy,Instr.sliceAt,Instr.sliceBounds,Instr.sliceBound,asIntOf,Sem.run_bind,run_underlying ht,Instr.sureAddr,dt he,hle,ha]
theorem nQ {s:ByteArray} (i j:Nat) (ht:P.underlying t=some .string) (hx:ρ x=.string s) (hy:ρ y=.int k m) (hz:ρ z=.int k m2) (hi:m=(i:Int)) (hj:m2=(j:Int)) (hij:i≤j) (hle:j≤s.size):aM P ⟨d,.slice t x (some y) (some z) none,ty,pos,af,g⟩ ρ (.string (s.extract i j)):=fun w=>by
 subst hi;subst hj
 have h1:(0:Int)≤(i:Int)∧(i:Int)≤(j:Int):=by omega
 have h2:(0:Int)≤(j:Int)∧(j:Int)≤(s.size:Int):=by omega
 simp [execOp,hx,hy,hz,Instr.sliceAt,Instr.slice,Instr.sliceBounds,Instr.sliceBound,asIntOf,Sem.run_bind,run_underlying ht,hle,hij]
theorem j7 {s s2:ByteArray} (hx:ρ x=.string s) (hy:ρ y=.string s2) (hs:s.size+s2.size≤9223372036854775807):aM P ⟨d,.binOp .add t x y t',ty,pos,af,g⟩ ρ (.string (s++s2)):=fun w=>by
 simp [execOp,hx,hy,eqGuard,Sem.run_bind,binOp,Op.stringOp]
 omega
end
def BW (zs:List (List Value)):List (Nat × Value)→List (List Value)
 |[]=>zs
 |(i,v)::r=>BW (zs.set i v.cells.toList) r
theorem pf {α:Type}:∀ (zs:List (List α)) (i:Nat) (v z:List α),zs[i]? = some z→v.length=z.length→
 (zs.set i v).flatten=zs.flatten.take ((zs.take i).flatten.length)++v++zs.flatten.drop ((zs.take i).flatten.length+v.length)
 |[],i,v,z,h,_=>by simp at h
 |y::zs,0,v,z,h,hl=>by
  simp at h;subst h
  simp [List.drop_append,hl]
 |y::zs,i+1,v,z,h,hl=>by
  have ih:=pf zs i v z (by simpa using h) hl
  rw [List.set_cons_succ,List.flatten_cons,ih,List.take_succ_cons,List.flatten_cons,List.flatten_cons,List.length_append,List.take_length_add_append,Nat.add_assoc,List.drop_length_add_append]
  simp only [List.append_assoc]
theorem uD (place:Nat→Option (Nat × Nat)):∀ (parts:List (Nat × Value)) (zs:List (List Value)) (cells:Array Value),cells.toList=zs.flatten→
 (∀ i v,(i,v)∈parts→∃ z,zs[i]? = some z∧v.cells.size=z.length∧place i=some ((zs.take i).flatten.length,z.length))→
 ∃ D:Array Value,Instr.fill place cells parts=some D∧D.toList=(BW zs parts).flatten
 |[],zs,cells,h,_=>⟨cells,rfl,h⟩
 |(i,v)::r,zs,cells,h,hp=>by
  obtain ⟨z,hz,hv,hpl⟩:=hp i v List.mem_cons_self
  have hil:=(List.getElem?_eq_some_iff.1 hz).1
  have hvl:v.cells.toList.length=z.length:=by rw [Array.length_toList];exact hv
  have hsum:(zs.take i).flatten.length+z.length≤zs.flatten.length:=by
   have e:zs=zs.take i++z::zs.drop (i+1):=by
    have:=(List.getElem?_eq_some_iff.1 hz).2
    rw [← this,List.getElem_cons_drop,List.take_append_drop]
   have:=congrArg (fun l=>(List.flatten l).length) e
   simp only [List.flatten_append,List.flatten_cons,List.length_append] at this
   omega
  have hcs:cells.size=zs.flatten.length:=by rw [← h,Array.length_toList]
  have hf:=na (zs.take i).flatten.length v.cells.toList 0 cells (by rw [hvl];omega)
  generalize hD:(v.cells.toList.zipIdx).foldl (fun cs p=>cs.setIfInBounds ((zs.take i).flatten.length+p.2) p.1) cells=C1 at hf
  have hC1:C1.toList=(zs.set i v.cells.toList).flatten:=by
   rw [hf,pf zs i _ z hz hvl,h];simp
  have hset:∀ j,((zs.set i v.cells.toList).take j).flatten.length=(zs.take j).flatten.length:=fun j=>by
   rw [List.length_flatten,List.length_flatten]
   congr 1
   apply List.ext_getElem?
   intro q
   rw [List.getElem?_map,List.getElem?_map,List.getElem?_take,List.getElem?_take]
   split
   ·by_cases e:i=q
    ·subst e;rw [List.getElem?_set_self hil,hz];simp [hvl]
    ·rw [List.getElem?_set_ne e]
   ·rfl
  obtain ⟨D,h1,h2⟩:=uD place r (zs.set i v.cells.toList) C1 hC1 fun j u hm=>by
   obtain ⟨z2,hz2,hu,hpl2⟩:=hp j u (List.mem_cons_of_mem _ hm)
   by_cases e:i=j
   ·subst e
    rw [hz] at hz2;cases hz2
    exact ⟨v.cells.toList,by rw [List.getElem?_set_self hil],by rw [hvl];exact hu,by rw [hset,hvl];exact hpl2⟩
   ·exact ⟨z2,by rw [List.getElem?_set_ne e];exact hz2,hu,by rw [hset];exact hpl2⟩
  refine ⟨D,?_,h2⟩
  rw [Instr.fill,hpl]
  simp only
  have hc:¬ ((v.cells.size≠z.length || decide ((zs.take i).flatten.length+v.cells.size>cells.size))=true):=by
   rw [hv]
   simp only [ne_eq,not_true_eq_false,decide_false,Bool.false_or,decide_eq_true_eq]
   omega
  rw [if_neg hc]
  have hz9:v.cells.zipIdx.foldl (fun cs (x:Value × Nat)=>match x with|(c,j)=>cs.setIfInBounds ((zs.take i).flatten.length+j) c) cells=C1:=by
   rw [← hD,← Array.foldl_toList,Array.toList_zipIdx]
  rw [hz9]
  exact h1
structure Stt (P:Program) (t:TypeId) (zs:List (List Value)):Prop where
 fields:∃ fs,P.underlying t=some (.struct fs)∧fs.toList.length=zs.length∧∀ i f,fs[i]? = some f→∃ z,zs[i]? = some z∧(P.info? f.type).map (·.size)=some z.length∧f.offset=(zs.take i).flatten.length
 zero:(P.info? t).bind (·.zero)=some (.agg zs.flatten.toArray)
theorem qt {P:Program} (w:World):∀ (fs:List Field) (ss:List Nat),fs.length=ss.length→(∀ (i:Nat) (f:Field) (s:Nat),fs[i]? = some f→ss[i]? = some s→(P.info? f.type).map (·.size)=some s)→
 (fs.mapM fun (f:Field)=>(do pure (f.offset,← sizeOf f.type):Sem (Nat × Nat))).run P w=.ok ((fs.zip ss).map fun (p:Field × Nat)=>(p.1.offset,p.2)) w
 |[],[],_,_=>by simp
 |[],_::_,h,_=>by simp at h
 |_::_,[],h,_=>by simp at h
 |f::fs,s::ss,h,hs=>by
  have ih:=qt (P:=P) w fs ss (by simpa using h) fun i f' s' h1 h2=>hs (i+1) f' s' (by simpa using h1) (by simpa using h2)
  have h0:=dt (hs 0 f s rfl rfl) w
  simp only [List.mapM_cons,Sem.run_bind,h0,Result.andThen_ok,Sem.run_pure,ih,List.zip_cons_cons,List.map_cons]
section
variable {P:Program} {ρ:Operand→Value} {d:Option Tmp} {ty:TypeId} {pos:String} {af:Array Edge} {g:Option (Nat × Bool)} {t:TypeId}
theorem bb {zs:List (List Value)} {parts:Array (Nat × Operand)} (S:Stt P t zs) (ps:List (Nat × Value)) (hps:parts.toList.map (fun p=>(p.1,ρ p.2))=ps) (hok:∀ i v,(i,v)∈ps→∃ z,zs[i]? = some z∧v.cells.size=z.length) {D:List Value} (hD:(BW zs ps).flatten=D):
 aM P ⟨d,.build t parts,ty,pos,af,g⟩ ρ (.agg D.toArray):=fun w=>by
 obtain ⟨fs,h1,h2,h3⟩:=S.fields
 cases hi:P.info? t with
 |none=>have:=S.zero;simp [hi] at this
 |some i=>
  have hz:i.zero=some (.agg zs.flatten.toArray):=by have:=S.zero;simpa [hi] using this
  have hpl:(fs.mapM fun (f:Field)=>(do pure (f.offset,← sizeOf f.type):Sem (Nat × Nat))).run P w=.ok ((fs.toList.zip (zs.map List.length)).map fun (p:Field × Nat)=>(p.1.offset,p.2)).toArray w:=by
   have:=qt (P:=P) w fs.toList (zs.map List.length) (by rw [h2,List.length_map]) fun i f s hf hs=>by
    obtain ⟨z,hz1,hz2,_⟩:=h3 i f (by simpa using hf)
    rw [List.getElem?_map,hz1] at hs
    simp at hs;subst hs;exact hz2
   rw [Array.mapM_eq_mapM_toList]
   show Sem.run P ((List.mapM (fun (f:Field)=>(do pure (f.offset,← sizeOf f.type):Sem (Nat × Nat))) fs.toList) >>= fun l=>pure l.toArray) w=_
   rw [Sem.run_bind,this,Result.andThen_ok,Sem.run_pure]
  obtain ⟨C,hC1,hC2⟩:=uD (fun i=>(((fs.toList.zip (zs.map List.length)).map fun (p:Field × Nat)=>(p.1.offset,p.2)).toArray)[i]?) ps zs zs.flatten.toArray rfl fun i v hm=>by
   obtain ⟨z,hz1,hz2⟩:=hok i v hm
   have hil:i<fs.toList.length:=by rw [h2];exact(List.getElem?_eq_some_iff.1 hz1).1
   have hfi:fs[i]? = some fs.toList[i]:=by rw [← Array.getElem?_toList,List.getElem?_eq_getElem hil]
   obtain ⟨z',hz1',_,hoff⟩:=h3 i _ hfi
   rw [hz1] at hz1';cases hz1'
   refine ⟨z,hz1,hz2,?_⟩
   simp only [List.getElem?_toArray,List.getElem?_map,List.getElem?_zip_eq_some]
   have:(fs.toList.zip (zs.map List.length))[i]? = some (fs.toList[i],z.length):=by
    rw [List.getElem?_zip_eq_some]
    exact ⟨List.getElem?_eq_getElem hil,by rw [List.getElem?_map,hz1];rfl⟩
   rw [this,Option.map_some]
   show some (fs.toList[i].offset,z.length)=_
   rw [hoff]
  have hDC:C=D.toArray:=by
   apply Array.ext'
   rw [hC2,hD]
  have hmap:(parts.map fun (i,x)=>(i,ρ x)).toList=ps:=by rw [Array.toList_map];exact hps
  have hrun:(Instr.build t (parts.map fun (i,x)=>(i,ρ x))).run P w=.ok (.agg D.toArray) w:=by
   unfold Instr.build
   simp only [zeroValue,typeInfo,Sem.run_bind,run_program,hi,hz,Sem.run_pure,Result.andThen_ok,run_underlying h1 w,hpl,hmap,Value.cells]
   rw [hC1,hDC]
   rfl
  simp only [execOp,Sem.run_bind,hrun,Result.andThen_ok,Sem.run_pure]
end
theorem tx {P:Program} {w:World} {p:Addr} {f:Nat→Nat} {n cap:Nat} {t t' e:TypeId} (hH:aG w p (aO f n)) (hs:P.underlying t=some (.slice e)) (he:P.underlying e=some (.int .u8)) (hd:P.underlying t'=some .string):
 (convert t t' (.slice (some p) n cap)).run P w=.ok (.string (i0 f n)) w:=by
 rw [run_convert_bytes_string w t t' e _ _ _ hs he hd,run_bytesToString w p n cap ((List.range n).map fun i=>(f i:Int)),qV]
 have:=run_loadCells_list (P:=P) w p (aO f n).toList (fun j v hv=>hH j v (by simpa using hv))
 have e:((List.range n).map fun i=>(f i:Int)).map (Value.int .u8)=(aO f n).toList:=by simp [aO]
 have el:(aO f n).toList.length=n:=by simp
 rw [el] at this
 rw [e];exact this
theorem lD (f:Nat→Nat) (M o n:Nat) (h:o+n≤M):(aO f M).extract o (o+n)=aO (fun i=>f (o+i)) n:=by
 apply Array.ext_getElem?
 intro i
 by_cases hi:i<n
 ·rw [ei _ _ _ hi,Array.getElem?_extract,if_pos (by simp;omega),ei _ _ _ (by omega)]
 ·rw [Array.getElem?_eq_none (by simp;omega),Array.getElem?_eq_none (by simp;omega)]
theorem aG.bytes {w:World} {b:Nat} {f:Nat→Nat} {M:Nat} (h:aG w ⟨b,0,none⟩ (aO f M)) (o n:Nat) (hn:o+n≤M):aG w ⟨b,o,none⟩ (aO (fun i=>f (o+i)) n):=by
 have:=h.sub o n (lD f M o n hn)
 rwa [Addr.add_lit,Nat.zero_add] at this
theorem qF {P:Program} {ρ:Operand→Value} {dst:Option Tmp} {g:Option (Nat × Bool)} {ty:TypeId} {pos:String} {af:Array Edge} {f:FuncId} {caps:Array Value} {cal:Operand} {args:Array Operand} {tys:Array TypeId} {vs:Array Value} {w:World} (hf:Fnc P f)
 (hc:ρ cal=.func (.func f) #[] caps) (hvs:args.map ρ=vs) {R:Value→World→Prop} (hC:Calls P f (vs++caps) w fun e w'=>∃ v,e=.returned v∧R v w'):db P ⟨dst,.call {callee:=.value cal,args:=args,argTypes:=tys},ty,pos,af,g⟩ ρ w R:=by
 obtain ⟨fn,h1,h2,h3⟩:=hf.has
 unfold db
 simp only [execOp,resolve,hc,hvs,Deferred.ofValue,Sem.run_bind,Sem.run_pure,Result.andThen_ok,invoke,Array.empty_append,iM h1 h2 h3]
 exact hC
section
variable {P:Program} {ops:Array Oper} {Q:Act→World→Prop} {l:List Oper} {a:Act} {w w0:World} {N:Nat} {L:List (Nat × Value)} {Df:List Deferred} {B:List Own} {d:Tmp} {ty:TypeId} {pos:String} {af:Array Edge} {x y:Operand} {t t' e:TypeId}
theorem qm {p:Addr} {n cap:Nat} {f:Nat→Nat} (hH:aG w p (aO f n)) (h:Sl N a L Df) (hs:P.underlying t=some (.slice e)) (he:P.underlying e=some (.int .u8)) (hd:P.underlying t'=some .string)
 (hx:eu L x=some (.slice (some p) n cap)) (hdn:Nat.blt d N=true)
 (k:∀ a',Sl N a' ((d,.string (i0 f n))::L) Df→bX P ops Q l a' w):bX P ops Q (⟨some d,.convert t t' x,ty,pos,af,none⟩::l) a w:=
 dw (R:=fun v w'=>v=.string (i0 f n)∧w'=w) h (by
  unfold db
  simp only [execOp,h.ev hx,Sem.run_bind,tx hH hs he hd,Result.andThen_ok,Sem.run_pure]
  first|exact ⟨rfl,rfl⟩|exact ⟨trivial,rfl⟩|exact ⟨trivial,trivial⟩|trivial) hdn fun a' w' v ⟨h1,h2⟩ hs=>by subst h1;subst h2;exact k a' hs
theorem nu {f:FuncId} {caps:List Value} {cal:Operand} {args:Array Operand} {tys:Array TypeId} (vs:List Value) {T:cW} (h:Sl N a L Df) (s:St w0 B w) (hf:Fnc P f) (hc:eu L cal=some (.func (.func f) #[] caps.toArray)) (hC:Calls P f (vs++caps).toArray w (cp w T)) (hvs:args.toList.map (eu L)=vs.map some)
 (hd:Nat.blt d N=true) (k:∀ a' w' v,T v w'→Ext w w'→Sl N a' ((d,v)::L) Df→St w0 B w'→bX P ops Q l a' w'):
 bX P ops Q (⟨some d,.call {callee:=.value cal,args:=args,argTypes:=tys},ty,pos,af,none⟩::l) a w:=
 dw (R:=fun v w'=>T v w'∧Ext w w') h (qF hf (h.ev hc) (qJ h hvs) (by rw [show vs.toArray++caps.toArray=(vs++caps).toArray from by simp];exact hC)) hd fun a' w' v ⟨h1,h2⟩ hs=>k a' w' v h1 h2 hs (s.more h2)
theorem kZ {P:Program} {w:World} {t ty e:TypeId} {sz:Nat} (ht:P.underlying t=some (.slice e)) (he:(P.info? e).map (·.size)=some sz) {base:Nat} {v:Value} {n:Nat} {xs:List Value} (hown:cB w base e sz v n xs)
 {u:Option Addr} {c:Nat}:(Builtin.append_ #[t,t] ty #[v,.slice u 0 c]).run P w=.ok v w:=by
 rcases hown.2 with ⟨rfl,rfl⟩|⟨g,cap,cur,fz,rfl,_,_,_,hnc,_⟩
 ·cases u<;>simp [Builtin.append_,run_underlying ht,dt he,Sem.run_bind,Builtin.lenOf,Builtin.firstCells,loadCells,loadCellsFrom]
 ·cases u<;>simp [Builtin.append_,run_underlying ht,dt he,Sem.run_bind,Builtin.lenOf,Builtin.firstCells,hnc,loadCells,loadCellsFrom,storeCells]
theorem Elm.size {P:Program} {e:TypeId} {sz by_:Nat} (E:Elm P e sz by_):(P.info? e).map (·.size)=some sz:=by
 obtain ⟨i,z,h1,_,h2,_⟩:=E.info
 rw [h1];simp [h2]
theorem rx {P:Program} {w w0:World} {t ty e:TypeId} {sz by_:Nat} (ht:P.underlying t=some (.slice e)) (E:Elm P e sz by_) {v:Value} {n:Nat} {xs:List Value} (hown:cB w w0.heap.size e sz v n xs)
 {u:Value} {m:Nat} {ys:List Value} (hR:bI w u sz m ys) (h1:∀ u∈ys,u.oneCell'=true) (h63:n+m≤maxLen) (hbytes:(n+m)*by_≤140737488355328) (hbase:w0.heap.size≤w.heap.size):
 ∃ v' w',(Builtin.append_ #[t,t] ty #[v,u]).run P w=.ok v' w'∧cB w' w0.heap.size e sz v' (n+m) (xs++ys)∧Grw w w' v.ownBlock∧(v'.ownBlock=v.ownBlock∨v'.ownBlock=some w.heap.size):=by
 by_cases hm:m=0
 ·subst hm
  have hy:ys=[]:=List.eq_nil_of_length_eq_zero (by have:=hR.1;omega)
  subst hy
  obtain ⟨a,c,rfl⟩:=hR.len
  refine ⟨v,w,kZ ht E.size hown,by simpa using hown,⟨⟨rfl,rfl,rfl,Nat.le_refl _,fun k _ _=>rfl⟩,Nat.le_refl _⟩,.inl rfl⟩
 ·rcases hR.2 with ⟨_,h0⟩|⟨p,c,rfl,_,hH⟩
  ·exact absurd h0 hm
  ·exact mK ht E hown hR.1 (fun j u hj=>hH j u (by simpa using hj)) h1 (by omega) h63 hbytes hbase
theorem i9 {v u:Value} {sz by_ n m:Nat} {xs ys:List Value} (i:Nat) (hR:bI w u sz m ys) (h:Sl N a L Df) (s:St w0 B w) (ht:P.underlying t=some (.slice e)) (E:Elm P e sz by_) (hx:eu L x=some v) (hy:eu L y=some u)
 (hi:B[i]? = some (.sl v e sz n xs)) (h1:∀ u∈ys,u.oneCell'=true) (h63:n+m≤maxLen) (hbytes:(n+m)*by_≤140737488355328) (hd:Nat.blt d N=true)
 (k:∀ a' w' v',Sl N a' ((d,v')::L) Df→St w0 (B.set i (.sl v' e sz (n+m) (xs++ys))) w'→bX P ops Q l a' w'):
 bX P ops Q (⟨some d,.call {callee:=.builtin .append,args:=#[x,y],argTypes:=#[t,t]},ty,pos,af,none⟩::l) a w:=by
 obtain ⟨v',w',hr,h2,h3,h4⟩:=rx (ty:=ty) ht E (s.getSl i hi) hR h1 h63 hbytes s.ext.le
 refine dw (R:=fun u w''=>u=v'∧w''=w') h (by
  unfold db
  simp only [execOp,resolve,invoke,builtin,Sem.run_bind,Sem.run_pure,Result.andThen_ok,List.map_toArray,List.map_cons,List.map_nil,h.ev hx,h.ev hy,hr]
  first|exact ⟨rfl,rfl⟩|exact ⟨trivial,rfl⟩|exact ⟨trivial,trivial⟩|trivial) hd fun a' w'' u ⟨e1,e2⟩ hs=>?_
 subst e1;subst e2
 refine k _ _ _ hs (s.upd i hi h3.os h3.tape h3.output h3.size h2 (fun k hk=>?_) (fun k hk hne=>?_) h3.drawn)
 ·rcases h4 with h4|h4
  ·exact .inl (Own.at_sl.2 (by rw [← Own.at_sl.1 hk];exact h4.symm))
  ·right
   have:u.ownBlock=some k:=Own.at_sl.1 hk
   rw [h4] at this;cases this;exact Nat.le_refl _
 ·exact h3.block k hk fun e=>hne (Own.at_sl.2 e.symm)
def K8 (base:Nat) (e:TypeId):cW:=fun v w=>∃ b,v=.slice (some ⟨b,0,none⟩) 0 0∧base≤b∧w.heap[b]? = some (.cells #[] e (0,0))
theorem K8.mono (base:Nat) (e:TypeId):my (K8 base e):=fun v w w' ⟨b,h1,h2,h3⟩ hE=>⟨b,h1,h2,(hE.heap (Array.getElem?_eq_some_iff.1 h3).1).trans h3⟩
theorem K8.owns {base:Nat} {e:TypeId} {v:Value} {w:World} (h:K8 base e v w) (sz:Nat):cB w base e sz v 0 []:=by
 obtain ⟨b,h1,h2,h3⟩:=h
 exact ⟨by simp,.inr ⟨b,0,#[],(0,0),h1,h2,h3,.inl rfl,Nat.le_refl _,Nat.zero_le _,by simp,by simp⟩⟩
theorem Mz (base:Nat) (e:TypeId) (sz n:Nat) (xs:List Value):my (fun v w=>cB w base e sz v n xs):=fun v w w' h hE=>by
 refine ⟨h.1,?_⟩
 rcases h.2 with hv|⟨g,cap,cur,fz,hv,hb,hg,r⟩
 ·exact .inl hv
 ·exact .inr ⟨g,cap,cur,fz,hv,hb,(hE.heap (Array.getElem?_eq_some_iff.1 hg).1).trans hg,r⟩
theorem tG {v u:Value} {sz by_ m base:Nat} {ys:List Value} (hv:K8 base e v w) (hR:bI w u sz m ys) (h:Sl N a L Df) (ht:P.underlying t=some (.slice e)) (E:Elm P e sz by_) (hx:eu L x=some v) (hy:eu L y=some u) (hbase:base≤w.heap.size)
 (h1:∀ u∈ys,u.oneCell'=true) (h63:m≤maxLen) (hbytes:m*by_≤140737488355328) (hd:Nat.blt d N=true)
 (k:∀ a' w' v',Sl N a' ((d,v')::L) Df→Ext w w'→cB w' base e sz v' m ys→bX P ops Q l a' w'):
 bX P ops Q (⟨some d,.call {callee:=.builtin .append,args:=#[x,y],argTypes:=#[t,t]},ty,pos,af,none⟩::l) a w:=by
 have hO:=hv.owns sz
 by_cases hm:m=0
 ·subst hm
  have hys:ys=[]:=List.eq_nil_of_length_eq_zero (by have:=hR.1;omega)
  subst hys
  obtain ⟨q,c,rfl⟩:=hR.len
  have hr:=kZ (ty:=ty) ht E.size hO (u:=q) (c:=c)
  exact dw (R:=fun u w''=>u=v∧w''=w) h (by
   unfold db
   simp only [execOp,resolve,invoke,builtin,Sem.run_bind,Sem.run_pure,Result.andThen_ok,List.map_toArray,List.map_cons,List.map_nil,h.ev hx,h.ev hy,hr]
   first|exact ⟨rfl,rfl⟩|exact ⟨trivial,rfl⟩|exact ⟨trivial,trivial⟩|trivial) hd fun a' w'' u ⟨e1,e2⟩ hs=>by subst e1;subst e2;exact k _ _ _ hs (Ext.refl _) hO
 ·obtain ⟨b,rfl,hb,hbl⟩:=hv
  obtain ⟨p,c,rfl,_,hH⟩:=hR.2.resolve_left fun h9=>hm h9.2
  obtain ⟨i,z,hi,hz,rfl,rfl,hzs⟩:=E.info
  have hsmall:0+m≤9223372036854775807:=by simp only [maxLen] at h63;omega
  have hr:=run_append_grow (P:=P) w t ty e i z ht hi hz ⟨b,0,none⟩ 0 0 [] (by simp) (fun j u hj=>by simp at hj) p m c ys hR.1 (fun j u hj=>hH j u (by simpa using hj)) (by omega) (by omega) (growslice_fits (by omega) (by simpa using hbytes))
  obtain ⟨V9,W9,hr9,hE9,hO9⟩:∃ V W,(Builtin.append_ #[t,t] ty #[.slice (some ⟨b,0,none⟩) 0 0,.slice (some p) m c]).run P w=.ok V W∧Ext w W∧cB W base e i.size V m ys:=by
   refine ⟨_,_,hr,(Ext.refl w).drew.alloc _,hR.1,.inr ⟨w.heap.size,grownCap w (0+m) 0 e,_,(0,0),by simp,hbase,heap_alloc_new w.drew _,.inl rfl,?_,?_,?_,?_⟩⟩
   ·have:=grownCap_ge w (0+m) 0 e;omega
   ·exact grownCap_le_maxLen w _ 0 e (by omega)
   ·simp only [Array.size_append,List.size_toArray,size_zeroCells,hzs,hR.1,List.length_nil,Nat.zero_add]
    rw [← Nat.add_mul]
    congr 1
    have:=grownCap_ge w (0+m) 0 e
    simp only [Nat.zero_add] at this
    omega
   ·simp only [Array.toList_append,Array.empty_append]
    rw [← hR.1]
    simp
  refine dw (R:=fun u w''=>u=V9∧w''=W9) h (by
   unfold db
   simp only [execOp,resolve,invoke,builtin,Sem.run_bind,Sem.run_pure,Result.andThen_ok,List.map_toArray,List.map_cons,List.map_nil,h.ev hx,h.ev hy,hr9]
   first|exact ⟨rfl,rfl⟩|exact ⟨trivial,rfl⟩|exact ⟨trivial,trivial⟩|trivial) hd fun a' w'' u ⟨e1,e2⟩ hs=>?_
  subst e1;subst e2
  exact k _ _ _ hs hE9 hO9
theorem AV {sz by_ base:Nat} (h:Sl N a L Df) (ht:P.underlying t=some (.slice e)) (E:Elm P e sz by_) (hbase:base≤w.heap.size) (hd:Nat.blt d N=true)
 (k:∀ a' w' v',Sl N a' ((d,v')::L) Df→Ext w w'→K8 base e v' w'→bX P ops Q l a' w'):bX P ops Q (⟨some d,.buildSlice t 0 #[],ty,pos,af,none⟩::l) a w:=by
 obtain ⟨i,z,hi,hz,hsz,_,hzs⟩:=E.info
 have hm:(#[]:Array (Nat × Operand)).map (fun (i,x)=>(i,a.eval x))=#[]:=by simp
 have hrun:(Instr.buildSlice t 0 #[]).run P w=.ok (.slice (some ⟨w.heap.size,0,none⟩) 0 0) (w.alloc (.cells #[] e)):=by
  unfold Instr.buildSlice
  simp only [Sem.run_bind,run_underlying ht,Result.andThen_ok,sizeOf,typeInfo,run_program,hi,Sem.run_pure,hsz,Nat.zero_mul,newRow]
  have h0:(Array.range 0).map (fun x=>(#[]:Array Value)[x % (#[]:Array Value).size]!)=#[]:=by simp
  simp only [show ¬ (0:Nat)>2 ^ 24 by decide,if_false,if_true,Sem.run_bind,Sem.run_pure,Result.andThen_ok,h0,Instr.fill,run_newObj]
  rfl
 refine dw (R:=fun u w''=>u=.slice (some ⟨w.heap.size,0,none⟩) 0 0∧w''=w.alloc (.cells #[] e)) h ?_ hd fun a' w'' u ⟨e1,e2⟩ hs=>?_
 ·unfold db
  simp only [execOp,hm,Sem.run_bind,hrun,Result.andThen_ok,Sem.run_pure]
  first|exact ⟨rfl,rfl⟩|exact ⟨trivial,rfl⟩|exact ⟨trivial,trivial⟩|trivial
 ·subst e1;subst e2
  exact k _ _ _ hs ((Ext.refl w).alloc _) ⟨w.heap.size,rfl,hbase,heap_alloc_new w _⟩
end
theorem St.sl_new {w0 w w':World} {B:List Own} (s:St w0 B w) (hE:Ext w w') {v:Value} {e:TypeId} {sz n:Nat} {xs:List Value} (h:cB w' w.heap.size e sz v n xs):St w0 (.sl v e sz n xs::B) w':=by
 refine s.join1 hE _ ⟨h.1,?_⟩ fun k hk=>?_
 ·rcases h.2 with hv|⟨g,cap,cur,fz,hv,hb,r⟩
  ·exact .inl hv
  ·exact .inr ⟨g,cap,cur,fz,hv,Nat.le_trans s.ext.le hb,r⟩
 ·rw [Own.at_sl] at hk
  rcases h.2 with ⟨hv,_⟩|⟨g,cap,cur,fz,hv,hb,r⟩
  ·subst hv;simp [Value.ownBlock] at hk
  ·subst hv;simp [Value.ownBlock] at hk;omega
theorem cB.base {w:World} {b1 b2:Nat} {e:TypeId} {sz n:Nat} {v:Value} {xs:List Value} (h:cB w b1 e sz v n xs) (hb:b2≤b1):cB w b2 e sz v n xs:=by
 refine ⟨h.1,h.2.imp id fun ⟨g,cap,cur,fz,hv,hb',r⟩=>⟨g,cap,cur,fz,hv,Nat.le_trans hb hb',r⟩⟩
def FT (P:Program):List (Nat × Nat × Nat)→Prop
 |[]=>True
 |(t,i,o)::r=>Fld P t i o∧FT P r
def FE:List (Nat × Nat × Nat)→Nat→Nat→Option Nat
 |[],_,_=>none
 |(t,i,o)::r,t',i'=>bif Nat.beq t t' && Nat.beq i i' then some o else FE r t' i'
theorem FT.get {P:Program}:∀ {T:List (Nat × Nat × Nat)},FT P T→∀ {t i o:Nat},FE T t i=some o→Fld P t i o
 |[],_,_,_,_,h=>by cases h
 |(t,i,o)::r,hT,t',i',o',h=>by
  unfold FE at h
  cases hb:(Nat.beq t t' && Nat.beq i i') with
  |true=>
   rw [hb] at h
   simp only [cond_true,Option.some.injEq] at h
   obtain ⟨h1,h2⟩:=Bool.and_eq_true _ _▸hb
   obtain rfl:=Nat.eq_of_beq_eq_true h1
   obtain rfl:=Nat.eq_of_beq_eq_true h2
   subst h;exact hT.1
  |false=>rw [hb] at h;exact FT.get hT.2 h
def Ny:BinOp→Int→Int→Option Bool
 |.lss,m,n=>some (decide (m<n))
 |.leq,m,n=>some (decide (m≤n))
 |.gtr,m,n=>some (decide (n<m))
 |.geq,m,n=>some (decide (n≤m))
 |.eql,m,n=>some (decide (m=n))
 |.neq,m,n=>some (decide (m≠n))
 |_,_,_=>none
def yM (T:List (Nat × Nat × Nat)) (L:List (Nat × Value)):Op→Option Value
 |.move x=>eu L x
 |.assign x=>eu L x
 |.pick c x y=>match eu L c with
  |some (.bool b)=>bif b then eu L x else eu L y
  |_=>none
 |.extract x i=>match eu L x with
  |some (.tuple vs)=>vs[i]?
  |_=>none
 |.nilCheck x=>match eu L x with
  |some (.pointer (some p))=>some (.pointer (some p))
  |_=>none
 |.fieldAddr t x i=>match eu L x with
  |some (.pointer (some ⟨b,o,none⟩))=>match FE T t i with
   |some off=>some (.pointer (some ⟨b,o+off,none⟩))
   |none=>none
  |_=>none
 |.unOp .not _ x=>match eu L x with
  |some (.bool b)=>some (.bool (!b))
  |_=>none
 |.binOp op _ x y _=>match eu L x with
  |some (.int k m)=>match eu L y with
   |some (.int k' n)=>match Ny op m n with
    |some b=>bif decide (k=k') then some (.bool b) else none
    |none=>none
   |_=>none
  |_=>none
 |_=>none
theorem im {P:Program} {T:List (Nat × Nat × Nat)} (hT:FT P T) {N:Nat} {a:Act} {L:List (Nat × Value)} {Df:List Deferred} (h:Sl N a L Df) {op:Op} {V:Value} (hv:yM T L op=some V) {d:Option Tmp} {ty:TypeId} {pos:String} {af:Array Edge} {g:Option (Nat × Bool)}:
 aM P ⟨d,op,ty,pos,af,g⟩ a.eval V:=by
 unfold yM at hv
 split at hv
 ·exact Fo (h.ev hv)
 ·exact Ac (h.ev hv)
 ·split at hv
  ·next b hc=>
   cases b with
   |true=>exact Ay (h.ev hc) (h.ev hv)
   |false=>exact Av (h.ev hc) (h.ev hv)
  ·cases hv
 ·split at hv
  ·next vs hx=>exact dR (h.ev hx) hv
  ·cases hv
 ·split at hv
  ·next p hx=>cases hv;exact vN (h.ev hx)
  ·cases hv
 ·split at hv
  ·next b o hx=>
   split at hv
   ·next off ho=>cases hv;exact Ef (hT.get ho) (h.ev hx)
   ·cases hv
  ·cases hv
 ·split at hv
  ·next b hx=>cases hv;exact JZ (h.ev hx)
  ·cases hv
 ·split at hv
  ·next k m hx=>
   split at hv
   ·next k' n hy=>
    split at hv
    ·next b hb=>
     cases hk:decide (k=k') with
     |false=>rw [hk] at hv;cases hv
     |true=>
      rw [hk] at hv
      have hv:some (Value.bool b)=some V:=hv
      cases hv
      obtain rfl:=of_decide_eq_true hk
      unfold Ny at hb
      split at hb<;>cases hb
      ·exact IK (h.ev hx) (h.ev hy)
      ·exact wO (h.ev hx) (h.ev hy)
      ·exact IM (h.ev hx) (h.ev hy)
      ·exact Ka (h.ev hx) (h.ev hy)
      ·exact kz (h.ev hx) (h.ev hy)
      ·exact Jj (h.ev hx) (h.ev hy)
    ·cases hv
   ·cases hv
  ·cases hv
 ·cases hv
def m4 (T:List (Nat × Nat × Nat)) (ops:Array Oper) (N:Nat):Nat→List (Nat × Value)→List Oper→Option (List (Nat × Value) × List Oper)
 |0,L,l=>some (L,l)
 |n+1,L,⟨some d,op,_,_,_,none⟩::l=>match yM T L op with
  |some V=>bif Nat.blt d N then m4 T ops N n ((d,V)::L) l else none
  |none=>none
 |n+1,L,⟨some d,op,_,_,_,some (j,b)⟩::l=>match ops[j]? with
  |some ⟨some t,_,_,_,_,_⟩=>match lk L t with
   |some (.bool v)=>bif (bif v then b else !b) then
    match yM T L op with
    |some V=>bif Nat.blt d N then m4 T ops N n ((d,V)::L) l else none
    |none=>none
    else bif Nat.blt d N then m4 T ops N n ((d,undef)::L) l else none
   |_=>none
  |_=>none
 |_+1,_,_=>none
theorem nU {P:Program} {T:List (Nat × Nat × Nat)} (hT:FT P T) {ops:Array Oper} {Q:Act→World→Prop} {N:Nat} {w:World} {Df:List Deferred} {L':List (Nat × Value)} {r:List Oper}:∀ (n:Nat) {L:List (Nat × Value)} {l:List Oper} {a:Act},Sl N a L Df→m4 T ops N n L l=some (L',r)→
 (∀ a',Sl N a' L' Df→bX P ops Q r a' w)→bX P ops Q l a w
 |0,L,l,a,h,hr,k=>by
  cases hr;exact k a h
 |n+1,L,[],a,h,hr,k=>by cases hr
 |n+1,L,⟨none,op,ty,pos,af,g⟩::l,a,h,hr,k=>by cases g<;>cases hr
 |n+1,L,⟨some d,op,ty,pos,af,none⟩::l,a,h,hr,k=>by
  unfold m4 at hr
  split at hr
  ·next V hv=>
   cases hd:Nat.blt d N with
   |true=>rw [hd] at hr;exact ae h (im hT h hv) hd fun a' h'=>nU hT n h' hr k
   |false=>rw [hd] at hr;cases hr
  ·cases hr
 |n+1,L,⟨some d,op,ty,pos,af,some (j,b)⟩::l,a,h,hr,k=>by
  unfold m4 at hr
  split at hr
  ·next t _ _ _ _ _ hj=>
   split at hr
   ·next v hv=>
    cases hc:(bif v then b else !b) with
    |true=>
     rw [hc] at hr
     have hvb:v=b:=by cases v<;>cases b<;>first|rfl|cases hc
     subst hvb
     refine Mq h hj rfl hv ?_
     have hr:(match yM T L op with|some V=>bif Nat.blt d N then m4 T ops N n ((d,V)::L) l else none|none=>none)=some (L',r):=hr
     split at hr
     ·next V hV=>
      cases hd:Nat.blt d N with
      |true=>rw [hd] at hr;exact ae h (im hT h hV) hd fun a' h'=>nU hT n h' hr k
      |false=>rw [hd] at hr;cases hr
     ·cases hr
    |false=>
     rw [hc] at hr
     have hvb:v = !b:=by cases v<;>cases b<;>first|rfl|cases hc
     subst hvb
     have hr:(bif Nat.blt d N then m4 T ops N n ((d,undef)::L) l else none)=some (L',r):=hr
     cases hd:Nat.blt d N with
     |true=>rw [hd] at hr;exact Ly h hj rfl hv hd fun a' h'=>nU hT n h' hr k
     |false=>rw [hd] at hr;cases hr
   ·cases hr
  ·cases hr
theorem am {P:Program} {T:List (Nat × Nat × Nat)} (hT:FT P T) (n:Nat) {ops:Array Oper} {Q:Act→World→Prop} {N:Nat} {L L':List (Nat × Value)} {Df:List Deferred} {l r:List Oper} {a:Act} {w:World} (h:Sl N a L Df) (hr:m4 T ops N n L l=some (L',r))
 (k:∀ a',Sl N a' L' Df→bX P ops Q r a' w):bX P ops Q l a w:=nU hT n h hr k
theorem ND {P:Program} {T:List (Nat × Nat × Nat)} (hT:FT P T) (n:Nat) {ops:Array Oper} {Q:Act→World→Prop} {N:Nat} {L L':List (Nat × Value)} {Df:List Deferred} {l:List Oper} {a:Act} {w:World} (h:Sl N a L Df) (hr:m4 T ops N n L l=some (L',[]))
 (k:∀ a',Sl N a' L' Df→Q a' w):bX P ops Q l a w:=nU hT n h hr fun a' h'=>av (k a' h')
theorem qh {P:Program} {T:List (Nat × Nat × Nat)} (hT:FT P T) (V:Value) {ops:Array Oper} {Q:Act→World→Prop} {N:Nat} {L:List (Nat × Value)} {Df:List Deferred} {d:Tmp} {op:Op} {ty:TypeId} {pos:String} {af:Array Edge} {l:List Oper} {a:Act} {w:World} {R:Value} (h:Sl N a L Df) (hr:yM T L op=some R) (e:R=V) (hd:Nat.blt d N=true)
 (k:∀ a',Sl N a' ((d,V)::L) Df→bX P ops Q l a' w):bX P ops Q (⟨some d,op,ty,pos,af,none⟩::l) a w:=ae h (e▸im hT h hr) hd k
section
variable {ro:Option Nat} {P:Program} {a:Act} {w:World}
theorem al {x y:Code} {Q:Exit→Act→World→Prop} (h:x.wpIn (FR ro) 0 P (Exit.then (y.wpIn (FR ro) 0 P Q) Q) a w):(Code.seq x y).wpIn (FR ro) 0 P Q a w:=wpIn_seq h
variable {N:Nat} {L:List (Nat × Value)} {Df:List Deferred}
theorem cy {c:Operand} {x y:Code} {Q:Exit→Act→World→Prop} (h:Sl N a L Df) (hc:eu L c=some (.bool true)) (k:x.wpIn (FR ro) 0 P Q a w):(Code.cond c x y).wpIn (FR ro) 0 P Q a w:=wpIn_cond_true (h.ev hc) k
theorem ij {c:Operand} {x y:Code} {Q:Exit→Act→World→Prop} (h:Sl N a L Df) (hc:eu L c=some (.bool false)) (k:y.wpIn (FR ro) 0 P Q a w):(Code.cond c x y).wpIn (FR ro) 0 P Q a w:=wpIn_cond_false (h.ev hc) k
theorem nt {ops:Array Oper} {K:Act→World→Prop} {Q:Exit→Act→World→Prop} (k:K a w):bX P ops (Exit.then K Q .normal) [] a w:=av (aE k)
theorem qr {id:Nat} {l:List Oper} {y:Code} {Q:Exit→Act→World→Prop} (k:bX P l.toArray (Exit.then (y.wpIn (FR ro) 0 P Q) Q .normal) l a w):(Code.seq (Code.region id l.toArray false) y).wpIn (FR ro) 0 P Q a w:=al (aF k)
variable {T:List (Nat × Nat × Nat)} {L':List (Nat × Value)}
theorem e9 (hT:FT P T) (n:Nat) {ops:Array Oper} {K:Act→World→Prop} {Q:Exit→Act→World→Prop} {l:List Oper} (h:Sl N a L Df) (hr:m4 T ops N n L l=some (L',[])) (k:∀ a',Sl N a' L' Df→K a' w):bX P ops (Exit.then K Q .normal) l a w:=ND hT n h hr fun f h=>aE (k f h)
theorem rs (hT:FT P T) (n:Nat) {id:Nat} {l r:List Oper} {Q:Exit→Act→World→Prop} (h:Sl N a L Df) (hr:m4 T l.toArray N n L l=some (L',r)) (k:∀ a',Sl N a' L' Df→bX P l.toArray (Q .normal) r a' w):(Code.region id l.toArray false).wpIn (FR ro) 0 P Q a w:=aF (am hT n h hr k)
theorem re (hT:FT P T) (n:Nat) {id:Nat} {l:List Oper} {K:Act→World→Prop} {Q:Exit→Act→World→Prop} (h:Sl N a L Df) (hr:m4 T l.toArray N n L l=some (L',[])) (k:∀ a',Sl N a' L' Df→K a' w):(Code.region id l.toArray false).wpIn (FR ro) 0 P (Exit.then K Q) a w:=aF (e9 hT n h hr k)
theorem bZ (hT:FT P T) (n:Nat) {id:Nat} {l r:List Oper} {y:Code} {Q:Exit→Act→World→Prop} (h:Sl N a L Df) (hr:m4 T l.toArray N n L l=some (L',r)) (k:∀ a',Sl N a' L' Df→bX P l.toArray (Exit.then (y.wpIn (FR ro) 0 P Q) Q .normal) r a' w):(Code.seq (Code.region id l.toArray false) y).wpIn (FR ro) 0 P Q a w:=al (rs hT n h hr k)
theorem bH (hT:FT P T) (n:Nat) {id:Nat} {l:List Oper} {y:Code} {Q:Exit→Act→World→Prop} (h:Sl N a L Df) (hr:m4 T l.toArray N n L l=some (L',[])) (k:∀ a',Sl N a' L' Df→y.wpIn (FR ro) 0 P Q a' w):(Code.seq (Code.region id l.toArray false) y).wpIn (FR ro) 0 P Q a w:=al (re hT n h hr k)
theorem c7 {w0:World} {B:List Own} {ops:Array Oper} {Q:Act→World→Prop} {l:List Oper} {d:Tmp} {ty:TypeId} {pos:String} {af:Array Edge} {f:FuncId} {args:Array Operand} {tys:Array TypeId} {vs:List Value} {V:Value} (h:Sl N a L Df) (s:St w0 B w) (hf:Fnc P f) (hc:Calls P f vs.toArray w (cp w (is V))) (hvs:args.toList.map (eu L)=vs.map some)
 (hd:Nat.blt d N=true) (k:∀ a' w',Sl N a' ((d,V)::L) Df→St w0 B w'→bX P ops Q l a' w'):bX P ops Q (⟨some d,.call {callee:=.value (.func f),args:=args,argTypes:=tys},ty,pos,af,none⟩::l) a w:=
 bq h s hf hc hvs hd fun a' w' v hT _ h s=>by obtain rfl:=hT;exact k a' w' h s
def Bj (T:List (Nat × Nat × Nat)) (N:Nat) (L:List (Nat × Value)) (d:Nat) (op:Op):Option Value:=bif Nat.blt d N then yM T L op else none
theorem sR {d:Nat} {op:Op} {V:Value} (h:Bj T N L d op=some V):Nat.blt d N=true∧yM T L op=some V:=by
 unfold Bj at h
 cases e:Nat.blt d N with
 |true=>rw [e] at h;exact ⟨rfl,h⟩
 |false=>rw [e] at h;cases h
section
variable {ops:Array Oper} {Q:Act→World→Prop} {l:List Oper} {d:Tmp} {op:Op} {ty:TypeId} {pos:String} {af:Array Edge} {b c:Bool}
theorem Fz (hT:FT P T) (h:Sl N a L Df) (hr:Bj T N L d op=some (.bool b)) (e:b=c) (k:∀ a',Sl N a' ((d,.bool c)::L) Df→bX P ops Q l a' w):bX P ops Q (⟨some d,op,ty,pos,af,none⟩::l) a w:=by
 subst e;exact ae h (im hT h (sR hr).2) (sR hr).1 k
theorem fm (hT:FT P T) (h:Sl N a L Df) (hr:Bj T N L d op=some (.bool b)) (e:b=true) (k:∀ a',Sl N a' ((d,.bool true)::L) Df→bX P ops Q l a' w):bX P ops Q (⟨some d,op,ty,pos,af,none⟩::l) a w:=Fz hT h hr e k
theorem gE (hT:FT P T) (h:Sl N a L Df) (hr:Bj T N L d op=some (.bool b)) (e:b=false) (k:∀ a',Sl N a' ((d,.bool false)::L) Df→bX P ops Q l a' w):bX P ops Q (⟨some d,op,ty,pos,af,none⟩::l) a w:=Fz hT h hr e k
def NQ (ops:Array Oper) (L:List (Nat × Value)) (j:Nat):Option Bool:=match ops[j]? with
 |some ⟨some t,_,_,_,_,_⟩=>match lk L t with
  |some (.bool v)=>some v
  |_=>none
 |_=>none
theorem Br {j:Nat} (h:NQ ops L j=some b):∃ od t,ops[j]? = some od∧od.dst=some t∧lk L t=some (.bool b):=by
 unfold NQ at h
 split at h
 ·next t _ _ _ _ _ hj=>
  split at h
  ·next v hv=>cases h;exact ⟨_,_,hj,rfl,hv⟩
  ·cases h
 ·cases h
theorem bf {j:Nat} (h:Sl N a L Df) (hg:NQ ops L j=some b) (k:bX P ops Q (⟨some d,op,ty,pos,af,none⟩::l) a w):bX P ops Q (⟨some d,op,ty,pos,af,some (j,b)⟩::l) a w:=by
 obtain ⟨od,t,h1,h2,h3⟩:=Br hg
 exact Mq h h1 h2 h3 k
theorem dN {t e:TypeId} {x:Operand} {w0:World} {v:Value} {sz n:Nat} {xs:List Value} (h:Sl N a L Df) (hR:bI w0 v sz n xs) (ht:P.underlying t=some (.slice e)) (hx:eu L x=some v) (hd:Nat.blt d N=true)
 (k:∀ a',Sl N a' ((d,.int .i64 (n:Int))::L) Df→bX P ops Q l a' w):bX P ops Q (⟨some d,.call {callee:=.builtin .len,args:=#[x],argTypes:=#[t]},ty,pos,af,none⟩::l) a w:=ae h (jf hR ht (h.ev hx)) hd k
theorem jm {w0:World} {B:List Own} {f:FuncId} {args:Array Operand} {tys:Array TypeId} {vs:List Value} (c:Bool) (h:Sl N a L Df) (s:St w0 B w) (hf:Fnc P f) (hc:Calls P f vs.toArray w (cp w (is (.bool b)))) (e:b=c) (hvs:args.toList.map (eu L)=vs.map some)
 (hd:Nat.blt d N=true) (k:∀ a' w',Sl N a' ((d,.bool c)::L) Df→St w0 B w'→bX P ops Q l a' w'):bX P ops Q (⟨some d,.call {callee:=.value (.func f),args:=args,argTypes:=tys},ty,pos,af,none⟩::l) a w:=by
 subst e;exact c7 h s hf hc hvs hd k
end
section
variable {c:Operand} {x y:Code} {ops:Array Oper} {Q:Exit→Act→World→Prop} {K:Act→World→Prop}
theorem wy {Q':Exit→Act→World→Prop} (h:Sl N a L Df) (hc:eu L c=some (.bool true)) (k:x.wpIn (FR ro) 0 P Q a w):bX P ops (Exit.then ((Code.cond c x y).wpIn (FR ro) 0 P Q) Q' .normal) [] a w:=nt (cy h hc k)
theorem A8 {Q':Exit→Act→World→Prop} (h:Sl N a L Df) (hc:eu L c=some (.bool false)) (k:y.wpIn (FR ro) 0 P Q a w):bX P ops (Exit.then ((Code.cond c x y).wpIn (FR ro) 0 P Q) Q' .normal) [] a w:=nt (ij h hc k)
theorem kt (k:K a w):Code.skip.wpIn (FR ro) 0 P (Exit.then K Q) a w:=wpIn_skip (aE k)
theorem rH {Q':Exit→Act→World→Prop} (h:Sl N a L Df) (hc:eu L c=some (.bool false)) (k:K a w):bX P ops (Exit.then ((Code.cond c x .skip).wpIn (FR ro) 0 P (Exit.then K Q)) Q' .normal) [] a w:=A8 h hc (kt k)
theorem iU (h:Sl N a L Df) (hc:eu L c=some (.bool false)) (k:K a w):(Code.cond c x .skip).wpIn (FR ro) 0 P (Exit.then K Q) a w:=ij h hc (kt k)
theorem rt (k:Q .ret a w):Code.ret.wpIn (FR ro) 0 P (Exit.then K Q) a w:=wpIn_ret (bK k)
end
def MA (ops:List Oper):List (List Nat):=ops.foldl (fun acc o=>acc++[(List.range acc.length).filter fun j=>(cz o).contains j || (cz o).any fun k=>(acc.getD k []).contains j]) []
theorem eo {id:Nat} {ops:List Oper} (m:Nat) {Q:Exit→Act→World→Prop} (h:Sl N a L Df) (hok:(P.follows .mixedOrders && (jk ops m (MA ops) N && Region.noSelect ops.toArray))=true)
 (k:iK P ops.toArray (bX P ops.toArray (Q .normal) (ops.drop m)) w (ops.take m) a):(Code.region id ops.toArray true).wpIn (FR ro) 0 P Q a w:=by
 obtain ⟨h1,h2⟩:=(Bool.and_eq_true _ _).mp hok
 obtain ⟨h3,h4⟩:=(Bool.and_eq_true _ _).mp h2
 exact F1 m (MA ops) h h1 h3 h4 k
def rE (T:List (Nat × Nat × Nat)) (ops:List Oper) (N:Nat):Nat→List (Nat × Value)→List Oper→Option (List (Nat × Value) × List Oper)
 |0,L,l=>some (L,l)
 |n+1,L,⟨some d,op,_,_,_,none⟩::l=>match yM T L op with
  |some V=>bif Nat.blt d N then rE T ops N n ((d,V)::L) l else none
  |none=>none
 |n+1,L,⟨some d,op,_,_,_,some (j,b)⟩::l=>match ops[j]? with
  |some ⟨some t,_,_,_,_,_⟩=>match lk L t with
   |some (.bool v)=>bif (bif v then b else !b) then
    match yM T L op with
    |some V=>bif Nat.blt d N then rE T ops N n ((d,V)::L) l else none
    |none=>none
    else bif Nat.blt d N then rE T ops N n ((d,undef)::L) l else none
   |some (.tuple vs)=>bif vs.isEmpty && Nat.blt d N then rE T ops N n ((d,undef)::L) l else none
   |_=>none
  |_=>none
 |_+1,_,_=>none
theorem nD (hT:FT P T) {ops:List Oper} {K:Act→World→Prop} {r:List Oper}:∀ (n:Nat) {L:List (Nat × Value)} {l:List Oper} {a:Act},Sl N a L Df→rE T ops N n L l=some (L',r)→
 (∀ a',Sl N a' L' Df→iK P ops.toArray K w r a')→iK P ops.toArray K w l a
 |0,L,l,a,h,hr,k=>by
  cases hr;exact k a h
 |n+1,L,[],a,h,hr,k=>by cases hr
 |n+1,L,⟨none,op,ty,pos,af,g⟩::l,a,h,hr,k=>by cases g<;>cases hr
 |n+1,L,⟨some d,op,ty,pos,af,none⟩::l,a,h,hr,k=>by
  unfold rE at hr
  split at hr
  ·next V hv=>
   cases hd:Nat.blt d N with
   |true=>rw [hd] at hr;exact au h (im hT h hv) hd fun a' h'=>nD hT n h' hr k
   |false=>rw [hd] at hr;cases hr
  ·cases hr
 |n+1,L,⟨some d,op,ty,pos,af,some (j,b)⟩::l,a,h,hr,k=>by
  unfold rE at hr
  split at hr
  ·next t _ _ _ _ _ hj=>
   split at hr
   ·next v hv=>
    cases hc:(bif v then b else !b) with
    |true=>
     rw [hc] at hr
     have hvb:v=b:=by cases v<;>cases b<;>first|rfl|cases hc
     subst hvb
     refine ML h hj rfl hv ?_
     have hr:(match yM T L op with|some V=>bif Nat.blt d N then rE T ops N n ((d,V)::L) l else none|none=>none)=some (L',r):=hr
     split at hr
     ·next V hV=>
      cases hd:Nat.blt d N with
      |true=>rw [hd] at hr;exact au h (im hT h hV) hd fun a' h'=>nD hT n h' hr k
      |false=>rw [hd] at hr;cases hr
     ·cases hr
    |false=>
     rw [hc] at hr
     have hvb:v = !b:=by cases v<;>cases b<;>first|rfl|cases hc
     subst hvb
     have hr:(bif Nat.blt d N then rE T ops N n ((d,undef)::L) l else none)=some (L',r):=hr
     cases hd:Nat.blt d N with
     |true=>rw [hd] at hr;exact Mk h hj rfl hv hd fun a' h'=>nD hT n h' hr k
     |false=>rw [hd] at hr;cases hr
   ·next vs hv=>
    cases he:vs.isEmpty with
    |false=>rw [he] at hr;cases hr
    |true=>
     rw [he] at hr
     obtain rfl:vs=#[]:=by simpa using he
     cases hd:Nat.blt d N with
     |true=>rw [hd] at hr;exact JB h hj rfl hv hd fun a' h'=>nD hT n h' hr k
     |false=>rw [hd] at hr;cases hr
   ·cases hr
  ·cases hr
theorem az (hT:FT P T) (n:Nat) {ops:List Oper} {K:Act→World→Prop} {l r:List Oper} (h:Sl N a L Df) (hr:rE T ops N n L l=some (L',r)) (k:∀ a',Sl N a' L' Df→iK P ops.toArray K w r a'):iK P ops.toArray K w l a:=nD hT n h hr k
section
variable {ops:List Oper} {K:Act→World→Prop} {l:List Oper} {d:Tmp} {op:Op} {ty:TypeId} {pos:String} {af:Array Edge} {b c:Bool}
theorem FF (hT:FT P T) (h:Sl N a L Df) (hr:Bj T N L d op=some (.bool b)) (e:b=c) (k:∀ a',Sl N a' ((d,.bool c)::L) Df→iK P ops.toArray K w l a'):iK P ops.toArray K w (⟨some d,op,ty,pos,af,none⟩::l) a:=by
 subst e;exact au h (im hT h (sR hr).2) (sR hr).1 k
theorem qu (hT:FT P T) (h:Sl N a L Df) (hr:Bj T N L d op=some (.bool b)) (e:b=true) (k:∀ a',Sl N a' ((d,.bool true)::L) Df→iK P ops.toArray K w l a'):iK P ops.toArray K w (⟨some d,op,ty,pos,af,none⟩::l) a:=FF hT h hr e k
theorem vz (hT:FT P T) (h:Sl N a L Df) (hr:Bj T N L d op=some (.bool b)) (e:b=false) (k:∀ a',Sl N a' ((d,.bool false)::L) Df→iK P ops.toArray K w l a'):iK P ops.toArray K w (⟨some d,op,ty,pos,af,none⟩::l) a:=FF hT h hr e k
theorem bA {j:Nat} (h:Sl N a L Df) (hg:NQ ops.toArray L j=some b) (k:iK P ops.toArray K w (⟨some d,op,ty,pos,af,none⟩::l) a):iK P ops.toArray K w (⟨some d,op,ty,pos,af,some (j,b)⟩::l) a:=by
 obtain ⟨od,t,h1,h2,h3⟩:=Br hg
 exact ML h (by simpa using h1) h2 h3 k
end
end
def aL:Nat→List Value→List (Nat × Value)
 |_,[]=>[]
 |k,v::r=>(k,v)::aL (k+1) r
theorem IA:∀ (l:List Value) (k:Nat),∀ p∈aL k l,∃ j,p.1=k+j∧l[j]? = some p.2
 |[],_,_,h=>by cases h
 |v::r,k,p,h=>by
  rcases List.mem_cons.1 h with rfl|h
  ·exact ⟨0,rfl,rfl⟩
  ·obtain ⟨j,h1,h2⟩:=IA r (k+1) p h
   exact ⟨j+1,by omega,h2⟩
theorem bF {P:Program} {w:World} {f:FuncId} {fn:Func} {c:Code} {args:List Value} {T:cW} {n:Nat} (hf:P.funcs[f]? = some fn) (hb:fn.body=some c) (hn:fn.ntmps=n) (hs:Nat.ble args.length n=true)
 (h:∀ a,Sl n a (aL 0 args)→St w [] w→c.wpIn (FR none) 0 P (bodyPost P fn (cp w T)) a w):Calls P f args.toArray w (cp w T):=
 FC hf hb hn hs (aL 0 args) (fun p hp=>by obtain ⟨j,h1,h2⟩:=IA args 0 p hp;rw [h1,Nat.zero_add];exact h2) fun a ha=>h a ha (St.start w)
theorem cV {ro:Option Nat} {P:Program} {a:Act} {w:World} {N:Nat} {L:List (Nat × Value)} {Df:List Deferred} {c:Operand} {x y:Code} {p:Prop} [Decidable p] {Q:Exit→Act→World→Prop} (h:Sl N a L Df) (hc:eu L c=some (.bool (decide p))) (ht:p→x.wpIn (FR ro) 0 P Q a w) (hf:¬ p→y.wpIn (FR ro) 0 P Q a w):(Code.cond c x y).wpIn (FR ro) 0 P Q a w:=
 cd h hc (fun e=>ht (of_decide_eq_true e)) (fun e=>hf (of_decide_eq_false e))
section
variable {P:Program} {a:Act} {w:World} {N:Nat} {L:List (Nat × Value)} {Df:List Deferred} {T:List (Nat × Nat × Nat)} {Q:Act→World→Prop} {l:List Oper} {d:Tmp} {op:Op} {ty:TypeId} {pos:String} {af:Array Edge} {b c:Bool}
theorem nX (hT:FT P T) {ops:Array Oper} (c:Bool) (h:Sl N a L Df) (hr:Bj T N L d op=some (.bool b)) (e:b=c) (kf:c=false→∀ a',Sl N a' ((d,.bool false)::L) Df→bX P ops Q l a' w) (kt:c=true→∀ a',Sl N a' ((d,.bool true)::L) Df→bX P ops Q l a' w):bX P ops Q (⟨some d,op,ty,pos,af,none⟩::l) a w:=by
 cases hc:c with
 |false=>exact Fz hT h hr (e.trans hc) (kf hc)
 |true=>exact Fz hT h hr (e.trans hc) (kt hc)
theorem cZ (hT:FT P T) {ops:Array Oper} (h:Sl N a L Df) (hr:Bj T N L d op=some (.bool b)) (kf:b=false→∀ a',Sl N a' ((d,.bool false)::L) Df→bX P ops Q l a' w) (kt:b=true→∀ a',Sl N a' ((d,.bool true)::L) Df→bX P ops Q l a' w):bX P ops Q (⟨some d,op,ty,pos,af,none⟩::l) a w:=nX hT b h hr rfl kf kt
theorem FK (hT:FT P T) {ops:List Oper} (c:Bool) (h:Sl N a L Df) (hr:Bj T N L d op=some (.bool b)) (e:b=c) (kf:c=false→∀ a',Sl N a' ((d,.bool false)::L) Df→iK P ops.toArray Q w l a') (kt:c=true→∀ a',Sl N a' ((d,.bool true)::L) Df→iK P ops.toArray Q w l a'):iK P ops.toArray Q w (⟨some d,op,ty,pos,af,none⟩::l) a:=by
 cases hc:c with
 |false=>exact FF hT h hr (e.trans hc) (kf hc)
 |true=>exact FF hT h hr (e.trans hc) (kt hc)
theorem FD (hT:FT P T) {ops:List Oper} (h:Sl N a L Df) (hr:Bj T N L d op=some (.bool b)) (kf:b=false→∀ a',Sl N a' ((d,.bool false)::L) Df→iK P ops.toArray Q w l a') (kt:b=true→∀ a',Sl N a' ((d,.bool true)::L) Df→iK P ops.toArray Q w l a'):iK P ops.toArray Q w (⟨some d,op,ty,pos,af,none⟩::l) a:=FK hT b h hr rfl kf kt
theorem nT {ops:Array Oper} {w0:World} {B:List Own} {f:FuncId} {args:Array Operand} {tys:Array TypeId} {vs:List Value} (c:Bool) (h:Sl N a L Df) (s:St w0 B w) (hf:Fnc P f) (hc:Calls P f vs.toArray w (cp w (is (.bool b)))) (e:b=c) (hvs:args.toList.map (eu L)=vs.map some) (hd:Nat.blt d N=true)
 (kf:c=false→∀ a' w',Sl N a' ((d,.bool false)::L) Df→St w0 B w'→bX P ops Q l a' w') (kt:c=true→∀ a' w',Sl N a' ((d,.bool true)::L) Df→St w0 B w'→bX P ops Q l a' w'):bX P ops Q (⟨some d,.call {callee:=.value (.func f),args:=args,argTypes:=tys},ty,pos,af,none⟩::l) a w:=by
 cases h9:c with
 |false=>exact jm false h s hf hc (e.trans h9) hvs hd (kf h9)
 |true=>exact jm true h s hf hc (e.trans h9) hvs hd (kt h9)
theorem gg {ops:Array Oper} {w0:World} {B:List Own} {f:FuncId} {args:Array Operand} {tys:Array TypeId} {vs:List Value} (h:Sl N a L Df) (s:St w0 B w) (hf:Fnc P f) (hc:Calls P f vs.toArray w (cp w (is (.bool b)))) (hvs:args.toList.map (eu L)=vs.map some) (hd:Nat.blt d N=true)
 (kf:b=false→∀ a' w',Sl N a' ((d,.bool false)::L) Df→St w0 B w'→bX P ops Q l a' w') (kt:b=true→∀ a' w',Sl N a' ((d,.bool true)::L) Df→St w0 B w'→bX P ops Q l a' w'):bX P ops Q (⟨some d,.call {callee:=.value (.func f),args:=args,argTypes:=tys},ty,pos,af,none⟩::l) a w:=nT b h s hf hc rfl hvs hd kf kt
end
section
variable {α:Type}
abbrev zv (E:List (α × α)) (a b:α):Prop:=(a,b)∈E
def Ow (E:List (α × α)):Prop:=∃ k,Relation.TransGen (zv E) k k
theorem J0 {E F:List (α × α)} (h:∀ s∈E,s∈F) {a b:α} (t:Relation.TransGen (zv E) a b):Relation.TransGen (zv F) a b:=by
 induction t with
 |single h1=>exact .single (h _ h1)
 |tail _ h1 ih=>exact .tail ih (h _ h1)
theorem Ow.sub {E F:List (α × α)} (h:∀ s∈E,s∈F) (c:Ow E):Ow F:=by
 obtain ⟨k,hk⟩:=c
 exact ⟨k,J0 h hk⟩
variable [DecidableEq α]
structure BfsJ (E:List (α × α)) (now out:List α) (i:Nat) (o n:List α):Prop where
 outJ:∀ x,x∈o↔x∈out∨x∈n
 newJ:∀ x∈n,x ∉ out∧∃ l∈E,l.1∈now∧l.2=x
 doneJ:∀ j (h:j<E.length),j<i→E[j].1∈now→E[j].2∈o
structure BfsK (E:List (α × α)) (k:α) (now out:List α):Prop where
 outK:∀ x∈out,Relation.TransGen (zv E) k x
 nowK:∀ x∈now,x=k∨x∈out
 doneK:∀ x,(x=k∨x∈out)→x ∉ now→∀ y,(x,y)∈E→y∈out
end
abbrev vP:=BitVec 128
def vy (k:vP) (i:Nat):Nat:=k.toNat / 256 ^ (15 - i) % 256
def dk (a:Id):vP:=BitVec.ofNat 128 (a.toNat / 256 ^ 16)
theorem wq (a:Id):(dk a).toNat=a.toNat / 256 ^ 16:=by
 unfold dk
 rw [BitVec.toNat_ofNat,Nat.mod_eq_of_lt]
 have:=a.isLt
 refine Nat.div_lt_of_lt_mul ?_
 rw [show (256:Nat) ^ 16*2 ^ 128=2 ^ 256 from by decide]
 exact this
theorem GW (a:Id) (i:Nat) (hi:i<16):vy (dk a) i=bz a i:=by
 unfold vy bz lf
 rw [wq,Nat.div_div_eq_div_mul,← Nat.pow_add,show 16+(15 - i)=31 - i from by omega]
theorem yl (k:vP) (i:Nat):vy k i<256:=Nat.mod_lt _ (by decide)
theorem yQ {x y:vP} (h:∀ i,i<16→vy x i=vy y i):x=y:=by
 have key:∀ k,k≤16→x.toNat / 256 ^ (16 - k)=y.toNat / 256 ^ (16 - k):=by
  intro k
  induction k with
  |zero=>
   intro _
   have e:(256:Nat) ^ 16=2 ^ 128:=by decide
   rw [Nat.div_eq_of_lt (by rw [Nat.sub_zero,e];exact x.isLt),Nat.div_eq_of_lt (by rw [Nat.sub_zero,e];exact y.isLt)]
  |succ k ih=>
   intro hk
   have h1:=ih (by omega)
   have h2:=h k (by omega)
   unfold vy at h2
   rw [show 16 - (k+1)=15 - k from by omega,gA x.toNat,gA y.toNat,show 15 - k+1=16 - k from by omega,h1,h2]
 exact BitVec.eq_of_toNat_eq (by simpa using key 16 (Nat.le_refl _))
theorem xR {f g:Nat→Nat} {n:Nat} (h:aO f n=aO g n):∀ i,i<n→f i=g i:=fun i hi=>by
 have h1:=ei f n i hi
 have h2:=ei g n i hi
 rw [h,h2] at h1
 simp at h1
 omega
def ki (k:vP):Array Value:=aO (vy k) 16
def jv (k:vP):ByteArray:=i0 (vy k) 16
theorem Eg {x y:vP} (h:ki x=ki y):x=y:=yQ (xR h)
theorem ou (k:vP):(jv k).size=16:=jG _ _
theorem DC {f g:Nat→Nat} {n:Nat} (hf:∀ i,f i<256) (hg:∀ i,g i<256) (h:i0 f n=i0 g n):∀ i,i<n→f i=g i:=fun i hi=>by
 have h1:(i0 f n).data[i]? = (i0 g n).data[i]? := by rw [h]
 simp only [i0,List.getElem?_toArray,List.getElem?_map,List.getElem?_range hi,Option.map_some,Option.some.injEq] at h1
 have:=congrArg UInt8.toNat h1
 simp only [UInt8.toNat_ofNat'] at this
 have h2:=hf i
 have h3:=hg i
 omega
theorem C9 {x y:vP} (h:jv x=jv y):x=y:=yQ (DC (yl x) (yl y) h)
theorem F7 (a:Id):aO (fun i=>bz a (0+i)) 16=ki (dk a):=ci fun i hi=>by rw [Nat.zero_add,GW a i hi]
theorem mh (k:vP):(ki k).size=16:=ah _ _
theorem AH (k:vP):∀ v∈(ki k).toList,v.oneCell'=true:=bc _ _
theorem jC {α:Type} (f:α→List Value) (sz:Nat) (hf:∀ x,(f x).length=sz):∀ l:List α,(l.flatMap f).length=l.length*sz
 |[]=>by simp
 |x::l=>by rw [List.flatMap_cons,List.length_append,jC f sz hf l,hf,List.length_cons,Nat.succ_mul];omega
theorem mU {α:Type} (f:α→List Value) (sz:Nat) (hf:∀ x,(f x).length=sz) (k:Nat):∀ l:List α,(l.flatMap f).drop (k*sz)=(l.drop k).flatMap f:=by
 induction k with
 |zero=>intro l;simp
 |succ k ih=>
  intro l
  cases l with
  |nil=>simp
  |cons x l=>
   rw [List.flatMap_cons,List.drop_succ_cons,← ih l,Nat.succ_mul,Nat.add_comm,← List.drop_drop]
   congr 1
   rw [← hf x,List.drop_left]
theorem kA {α:Type} (f:α→List Value) (sz:Nat) (hf:∀ x,(f x).length=sz) (k:Nat):∀ l:List α,(l.flatMap f).take (k*sz)=(l.take k).flatMap f:=by
 induction k with
 |zero=>intro l;simp
 |succ k ih=>
  intro l
  cases l with
  |nil=>simp
  |cons x l=>
   rw [List.flatMap_cons,List.take_succ_cons,List.flatMap_cons,← ih l,Nat.succ_mul,Nat.add_comm,List.take_add]
   rw [← hf x,List.take_left,List.drop_left]
theorem lS {α:Type} (f:α→List Value) (sz:Nat) (hf:∀ x,(f x).length=sz) (l:List α) (j:Nat) (hj:j<l.length):((l.flatMap f).drop (j*sz)).take sz=f l[j]:=by
 rw [mU f sz hf,List.drop_eq_getElem_cons hj,List.flatMap_cons,← hf l[j],List.take_left]
def DZ (a:Id):Id:=yd fun i=>if i<16 then bz a i else 0
theorem oQ (a:Id) (i:Nat) (hi:i<32):bz (DZ a) i=if i<16 then bz a i else 0:=lW _ (fun i=>by split;exact go _ _;decide) i hi
def nE:ByteArray:=⟨#[108,101,102,116]⟩
def ox:ByteArray:=⟨#[114,105,103,104,116]⟩
def mX:ByteArray:=⟨#[110,111,110,99,101]⟩
def lg (word:ByteArray) (k:vP):Id:=DZ (qI (word++jv k))
def gV (a b:Id):Bool:=decide (dk b=dk (lg nE (dk a))) || decide (dk a=dk (lg ox (dk b)))
def qE (a:Id):ByteArray:=i0 (bz a) 32
def mN (secret:ByteArray) (id:Id) (h:Nat):ByteArray:=mX++secret++qE id++i0 (fun _=>h) 1
def yh (secret:ByteArray) (id:Id) (h:Nat):ByteArray:=jv (dk (qI (mN secret id h)))
def r1 (x:eV):eV:=BitVec.ofNat 32 (x.toNat / 2+x.toNat % 2*2147483648)
def Kp (x:eV):Nat→eV
 |0=>x
 |n+1=>r1 (Kp x n)
theorem KQ (x:eV):r1 x=ru x 1:=by
 apply BitVec.eq_of_toNat_eq
 unfold r1 ru
 have hx:=x.isLt
 rw [BitVec.toNat_ofNat,BitVec.toNat_or,BitVec.toNat_shiftLeft,BitVec.toNat_ushiftRight,Nat.shiftLeft_eq,Nat.shiftRight_eq_div_pow]
 have e:x.toNat*2 ^ (32 - 1) % 2 ^ 32=2 ^ 31*(x.toNat % 2):=by omega
 rw [e,← Nat.two_pow_add_eq_or_of_lt (by omega)]
 omega
theorem pO (x:eV) (n i:Nat) (hn:1≤n∧n≤31) (hi:i<32):(ru x n).getLsbD i=((decide (32 - n≤i) && x.getLsbD (i - (32 - n))) || x.getLsbD (n+i)):=by
 unfold ru
 simp only [BitVec.getLsbD_or,BitVec.getLsbD_shiftLeft,BitVec.getLsbD_ushiftRight,hi,decide_true,Bool.true_and]
 congr 2
 rw [Bool.eq_iff_iff]
 simp
theorem D5 (x:eV) (n:Nat) (hn:1≤n∧n≤30):ru (ru x n) 1=ru x (n+1):=by
 apply BitVec.eq_of_getLsbD_eq
 intro i hi
 rw [pO _ 1 i (by decide) hi,pO x (n+1) i (by omega) hi]
 by_cases h31:i=31
 ·subst h31
  rw [pO x n _ (by omega) (by omega)]
  have e1:(ru x n).getLsbD (1+31)=false:=BitVec.getLsbD_of_ge _ _ (by omega)
  have e2:x.getLsbD (n+1+31)=false:=BitVec.getLsbD_of_ge _ _ (by omega)
  rw [e1,e2]
  have e3:decide (32 - n≤31 - (32 - 1))=false:=decide_eq_false (by omega)
  have e4:decide (32 - (n+1)≤31)=true:=decide_eq_true (by omega)
  rw [e3,e4]
  simp
  congr 1
  omega
 ·rw [pO x n (1+i) (by omega) (by omega)]
  have e1:decide (32 - 1≤i)=false:=decide_eq_false (by omega)
  rw [e1,Bool.false_and,Bool.false_or]
  have e2:decide (32 - n≤1+i)=decide (32 - (n+1)≤i):=by rw [Bool.eq_iff_iff];simp;omega
  rw [e2]
  have e3:1+i - (32 - n)=i - (32 - (n+1)):=by omega
  have e4:n+(1+i)=n+1+i:=by omega
  rw [e3,e4]
theorem Hb (x:eV) (n:Nat) (hn:1≤n∧n≤31):Kp x n=ru x n:=by
 induction n with
 |zero=>omega
 |succ n ih=>
  show r1 (Kp x n)=_
  rw [KQ]
  by_cases h:n=0
  ·subst h;rfl
  ·rw [ih (by omega),D5 x n (by omega)]
theorem Ll (x:eV):Value.int .u32 (IntKind.u32.wrap ((x.toNat:Int) / 2+IntKind.u32.wrap ((x.toNat:Int) % 2*2147483648)))=wv (r1 x):=by
 unfold wv r1
 have hx:=x.isLt
 rw [show ((x.toNat:Int) % 2*2147483648)=((x.toNat % 2*2147483648:Nat):Int) by omega,eI,show ((x.toNat:Int) / 2+((x.toNat % 2*2147483648 % 4294967296:Nat):Int))=((x.toNat / 2+x.toNat % 2*2147483648 % 4294967296:Nat):Int) by omega,eI,BitVec.toNat_ofNat]
 congr 2
 have:x.toNat % 2*2147483648 % 4294967296=x.toNat % 2*2147483648:=by omega
 rw [this]
theorem KV (x:eV):Value.int .u32 (IntKind.u32.wrap (4294967295 - (x.toNat:Int)))=wv (~~~x):=by
 unfold wv
 have hx:=x.isLt
 rw [show (4294967295 - (x.toNat:Int))=((4294967295 - x.toNat:Nat):Int) by omega,eI,BitVec.toNat_not]
 congr 2
 omega
theorem Km (x:eV) (n k:Nat) (hk:2 ^ n=k):Value.int .u32 ((x.toNat:Int) / (k:Int))=wv (x >>> n):=by
 unfold wv
 rw [BitVec.toNat_ushiftRight,Nat.shiftRight_eq_div_pow,hk]
 rfl
def rr (f:Nat→Nat) (t:Nat):Nat→eV
 |0=>0#32
 |j+1=>BitVec.ofNat 32 (256*(rr f t j).toNat+f (4*t+j))
theorem JJ (f:Nat→Nat) (t j:Nat) (hf:f (4*t+j)<256):Value.int .u32 (IntKind.u32.wrap (IntKind.u32.wrap (256*((rr f t j).toNat:Int))+(f (4*t+j):Int)))=wv (rr f t (j+1)):=by
 show _=wv (BitVec.ofNat 32 (256*(rr f t j).toNat+f (4*t+j)))
 unfold wv
 have hx:=(rr f t j).isLt
 rw [show (256*((rr f t j).toNat:Int))=((256*(rr f t j).toNat:Nat):Int) by omega,eI,
  show (((256*(rr f t j).toNat % 4294967296:Nat):Int)+(f (4*t+j):Int))=((256*(rr f t j).toNat % 4294967296+f (4*t+j):Nat):Int) by omega,eI,BitVec.toNat_ofNat]
 congr 2
 omega
theorem HH (f:Nat→Nat) (t j:Nat) (hf:f (4*t+j)<256):Value.int .u32 (IntKind.u32.wrap (IntKind.u32.wrap (256*((rr f t j).toNat:Int))+((BitVec.ofNat 32 (f (4*t+j))).toNat:Int)))=wv (rr f t (j+1)):=by
 rw [BitVec.toNat_ofNat,Nat.mod_eq_of_lt (by omega)]
 exact JJ f t j hf
theorem Kj (x:eV) (c:Nat) (hc:c<256):(x <<< 8) ||| BitVec.ofNat 32 c=BitVec.ofNat 32 (256*x.toNat+c):=by
 apply BitVec.eq_of_toNat_eq
 have hx:=x.isLt
 rw [BitVec.toNat_or,BitVec.toNat_shiftLeft,BitVec.toNat_ofNat,BitVec.toNat_ofNat,Nat.shiftLeft_eq]
 have e:x.toNat*2 ^ 8 % 2 ^ 32=2 ^ 8*(x.toNat % 2 ^ 24):=by omega
 have e2:c % 2 ^ 32=c:=by omega
 rw [e,e2,← Nat.two_pow_add_eq_or_of_lt (by omega)]
 omega
theorem CR (f:Nat→Nat) (hf:∀ i,f i<256):∀ k,k≤64→∀ t,ol f k t=if 4*t+4≤k then rr f t 4 else if 4*t≤k then rr f t (k - 4*t) else 0#32:=by
 intro k
 induction k with
 |zero=>
  intro _ t
  rw [if_neg (by omega)]
  split
  ·have:t=0:=by omega
   subst this;rfl
  ·rfl
 |succ k ih=>
  intro hk t
  have h1:=ih (by omega)
  show (if t=k / 4 then (ol f k (k / 4) <<< 8) ||| BitVec.ofNat 32 (f k) else ol f k t)=_
  by_cases ht:t=k / 4
  ·subst ht
   rw [if_pos rfl,Kj _ _ (hf k),h1,if_neg (by omega),if_pos (by omega)]
   have e:BitVec.ofNat 32 (256*(rr f (k / 4) (k - 4*(k / 4))).toNat+f k)=rr f (k / 4) (k - 4*(k / 4)+1):=by
    show _=BitVec.ofNat 32 (256*(rr f (k / 4) (k - 4*(k / 4))).toNat+f (4*(k / 4)+(k - 4*(k / 4))))
    rw [show 4*(k / 4)+(k - 4*(k / 4))=k from by omega]
   rw [e]
   by_cases h4:4*(k / 4)+4≤k+1
   ·rw [if_pos h4,show k - 4*(k / 4)+1=4 from by omega]
   ·rw [if_neg h4,if_pos (by omega),show k - 4*(k / 4)+1=k+1 - 4*(k / 4) from by omega]
  ·rw [if_neg ht,h1]
   by_cases h4:4*t+4≤k
   ·rw [if_pos h4,if_pos (by omega)]
   ·rw [if_neg h4,if_neg (by omega),if_neg (by omega)]
    by_cases h5:4*t=k+1
    ·rw [if_pos (by omega),show k+1 - 4*t=0 from by omega];rfl
    ·rw [if_neg (by omega)]
theorem yT (f:Nat→Nat):∀ k i,i<k+16→∀ n,ky f (k+n) i=ky f k i:=by
 intro k i hi n
 induction n with
 |zero=>rfl
 |succ n ih=>
  rw [← ih]
  show (if i=k+n+16 then _ else ky f (k+n) i)=_
  rw [if_neg (by omega)]
theorem AD (f:Nat→Nat) (hf:∀ i,f i<256) (t:Nat) (ht:t<16):cA f t=rr f t 4:=by
 unfold cA
 have:=yT f 0 t (by omega) 48
 rw [Nat.zero_add] at this
 rw [this]
 show ol f 64 t=_
 rw [CR f hf 64 (Nat.le_refl _) t,if_pos (by omega)]
theorem Aa (f:Nat→Nat) (t:Nat) (h:16≤t) (ht:t<64):cA f t=Ok (cA f (t - 2))+cA f (t - 7)+OX (cA f (t - 15))+cA f (t - 16):=by
 have key:∀ i j,i<j+16→j≤48→cA f i=ky f j i:=fun i j hi hj=>by
  unfold cA
  have:=yT f j i hi (48 - j)
  rw [show j+(48 - j)=48 from by omega] at this
  exact this
 rw [key t (t - 16+1) (by omega) (by omega),key (t - 2) (t - 16) (by omega) (by omega),key (t - 7) (t - 16) (by omega) (by omega),key (t - 15) (t - 16) (by omega) (by omega),key (t - 16) (t - 16) (by omega) (by omega)]
 show (if t=t - 16+16 then _ else _)=_
 rw [if_pos (by omega),show t - 16+14=t - 2 from by omega,show t - 16+9=t - 7 from by omega,show t - 16+1=t - 15 from by omega]
def wL (f:Nat→eV) (n:Nat):List Value:=(List.range n).map fun i=>wv (f i)
@[simp] theorem Oo (f:Nat→eV) (n:Nat):(wL f n).length=n:=by simp [wL]
theorem ef (f:Nat→eV) (n i:Nat) (h:i<n):(wL f n)[i]? = some (wv (f i)):=by simp [wL,h]
theorem sZ (f:Nat→eV) (n:Nat):wL f (n+1)=wL f n++[wv (f n)]:=by simp [wL,List.range_succ]
theorem Bw {f g:Nat→eV} {n:Nat} (h:∀ i,i<n→f i=g i):wL f n=wL g n:=List.map_congr_left fun i hi=>by rw [h i (by simpa using hi)]
def iS (sx:ByteArray) (k j:Nat):List Nat:=rO sx++(128::(List.replicate k 0++(List.range j).map fun q=>Ii sx.size q % 256))
theorem Fg (sx:ByteArray) (k:Nat):iS sx (k+1) 0=iS sx k 0++[0]:=by
 simp [iS,List.replicate_succ']
theorem Fl (sx:ByteArray) (k j:Nat):iS sx k (j+1)=iS sx k j++[Ii sx.size j % 256]:=by
 simp [iS,List.range_succ]
theorem Au (sx:ByteArray) (k j:Nat):(iS sx k j).length=sx.size+1+k+j:=by
 have:(rO sx).length=sx.size:=by unfold rO;rw [List.length_map,Array.length_toList];rfl
 simp [iS,this];omega
def oS (sx:ByteArray):ByteArray:=⟨((iS sx ((120 - (sx.size+1) % 64) % 64) 8).map UInt8.ofNat).toArray⟩
theorem mV (sx:ByteArray):(oS sx).size=64*jB sx:=by
 have h:=oB sx
 show ((iS sx ((120 - (sx.size+1) % 64) % 64) 8).map UInt8.ofNat).toArray.size=_
 rw [List.size_toArray,List.length_map,Au]
 unfold jB
 omega
theorem GQ (n j:Nat) (hj:j<8):Ii n j=8*n / 256 ^ (7 - j):=by
 unfold Ii
 congr 1
 have:∀ q:Fin 8,72057594037927936 / 256 ^ q.val=256 ^ (7 - q.val):=by decide
 exact this ⟨j,hj⟩
theorem Dx {α β:Type} (f:α→β) (l:List α) (i:Nat) (d:β) (a:α) (h:l[i]? = some a):(l.map f).getD i d=f a:=by
 rw [List.getD_eq_getElem?_getD,List.getElem?_map,h];rfl
theorem Ae (sx:ByteArray) (i:Nat) (hi:i<64*jB sx):(iS sx ((120 - (sx.size+1) % 64) % 64) 8)[i]? = some (rM sx i):=by
 have hl:(rO sx).length=sx.size:=by unfold rO;rw [List.length_map,Array.length_toList];rfl
 unfold iS rM
 unfold jB at hi
 by_cases h1:i<sx.size
 ·rw [if_pos h1,List.getElem?_append_left (by rw [hl];exact h1)]
  unfold rO sb
  have h9:i<sx.data.toList.length:=by rw [Array.length_toList];exact h1
  rw [List.getElem?_map,List.getD_eq_getElem?_getD,List.getElem?_eq_getElem h9];rfl
 ·rw [if_neg h1,List.getElem?_append_right (by rw [hl];omega),hl]
  by_cases h2:i=sx.size
  ·rw [if_pos h2]
   subst h2
   simp
  ·rw [if_neg h2]
   obtain ⟨q,hq⟩:∃ q,i=sx.size+1+q:=⟨i - sx.size - 1,by omega⟩
   rw [show i - sx.size=q+1 from by omega,List.getElem?_cons_succ]
   by_cases h3:i<64*((sx.size+8) / 64)+56
   ·rw [if_pos h3,List.getElem?_append_left (by simp;omega),List.getElem?_replicate,if_pos (by omega)]
   ·rw [if_neg h3,List.getElem?_append_right (by simp;omega),List.length_replicate]
    have hj:q - (120 - (sx.size+1) % 64) % 64<8:=by omega
    rw [List.getElem?_map,List.getElem?_range hj,Option.map_some,GQ _ _ hj]
    congr 3
    congr 1
    omega
theorem HA (s:ByteArray) (i:Nat):rM s i<256:=by
 unfold rM
 split
 ·unfold sb;exact UInt8.toNat_lt _
 ·split
  ·decide
  ·split
   ·decide
   ·exact Nat.mod_lt _ (by decide)
theorem Dt (sx:ByteArray) (i:Nat) (hi:i<64*jB sx):sb (oS sx) i=rM sx i:=by
 unfold sb oS
 simp only
 rw [Dx UInt8.ofNat _ i 0 _ (Ae sx i hi),UInt8.toNat_ofNat']
 have:=HA sx i
 omega
theorem Jp (x:ByteArray) (a b i:Nat) (hb:b≤x.size) (h:a+i<b):sb (x.extract a b) i=sb x (a+i):=by
 rw [o7,o7,ByteArray.data_extract,Array.getElem?_extract,if_pos]
 have:x.data.size=x.size:=rfl
 omega
theorem p8 {f g:Nat→Nat} (h:∀ i,i<64→f i=g i):∀ k,k≤64→ol f k=ol g k
 |0,_=>rfl
 |k+1,hk=>by
  funext i
  show (if i=k / 4 then _ else _)=(if i=k / 4 then _ else _)
  rw [p8 h k (by omega),h k (by omega)]
theorem qe {f g:Nat→Nat} (h:∀ i,i<64→f i=g i):∀ k,ky f k=ky g k
 |0=>p8 h 64 (Nat.le_refl _)
 |k+1=>by
  funext i
  show (if i=k+16 then _ else _)=(if i=k+16 then _ else _)
  rw [qe h k]
theorem tI {f g:Nat→Nat} (h:∀ i,i<64→f i=g i):cA f=cA g:=qe h 48
theorem Hx (sx:ByteArray) (d:Nat) (hd:d<jB sx):wL (pg (Hs sx d) (cA (sb ((oS sx).extract (64*d) (64*d+64))))) 8=wL (Hs sx (d+1)) 8:=by
 have e:cA (sb ((oS sx).extract (64*d) (64*d+64)))=cA (n8 sx d):=tI fun i hi=>by
  rw [Jp _ _ _ _ (by rw [mV];omega) (by omega),Dt _ _ (by omega)];rfl
 rw [e];rfl
theorem Lp (sx:ByteArray) (d:Nat) (hd:d<jB sx):((oS sx).extract (64*d) (64*d+64)).size=64:=by
 rw [ByteArray.size_extract,mV];omega
theorem Px (s:Nat→eV) (i:Nat):(s i >>> 24).toNat % 256=iv s (4*i):=by
 unfold iv;rw [show 4*i / 4=i from by omega,show 8*(3 - 4*i % 4)=24 from by omega]
theorem PR (s:Nat→eV) (i:Nat):(s i >>> 16).toNat % 256=iv s (4*i+1):=by
 unfold iv;rw [show (4*i+1) / 4=i from by omega,show 8*(3 - (4*i+1) % 4)=16 from by omega]
theorem Pv (s:Nat→eV) (i:Nat):(s i >>> 8).toNat % 256=iv s (4*i+2):=by
 unfold iv;rw [show (4*i+2) / 4=i from by omega,show 8*(3 - (4*i+2) % 4)=8 from by omega]
theorem Pu (s:Nat→eV) (i:Nat):(s i).toNat % 256=iv s (4*i+3):=by
 unfold iv
 rw [show (4*i+3) / 4=i from by omega,show 8*(3 - (4*i+3) % 4)=0 from by omega]
 simp
theorem aG.subL {w:World} {b o:Nat} {C:Array Value} (h:aG w ⟨b,o,none⟩ C) (off n:Nat) {D:Array Value} (hD:C.extract off (off+n)=D):aG w ⟨b,o+off,none⟩ D:=by
 have:=h.sub off n hD
 rwa [Addr.add_lit] at this
theorem aG.as {w:World} {p:Addr} {C D:Array Value} (h:aG w p C) (e:C=D):aG w p D:=e▸h
theorem mf (a:Id):(aA a).extract 0 (0+16)=ki (dk a):=by
 rw [d4,lD _ _ _ _ (by decide)];exact F7 a
section
variable {P:Program} {a:Act} {w w0:World} {N:Nat} {L:List (Nat × Value)} {Df:List Deferred}
end
section
variable {P:Program} {ρ:Operand→Value} {d:Option Tmp} {ty:TypeId} {pos:String} {af:Array Edge} {g:Option (Nat × Bool)} {x y:Operand} {t t':TypeId}
theorem Ad {a:eV} (hx:ρ x=.int .u32 4294967295) (hy:ρ y=wv a):aM P ⟨d,.binOp .sub t x y t',ty,pos,af,g⟩ ρ (wv (~~~a)):=
 aV _ (tJ hx hy) (KV a)
theorem rk {m n:Int} (hx:ρ x=.int .u32 m) (hy:ρ y=.int .u32 n) (h:0≤m∧m≤4294967295∧1≤n):aM P ⟨d,.binOp .quo t x y t',ty,pos,af,g⟩ ρ (.int .u32 (m / n)):=
 gt hx hy fun w=>by
  have h0:¬ n=0:=by omega
  have h1:m.tdiv n=m / n:=Int.tdiv_eq_ediv_of_nonneg h.1
  have h2:IntKind.u32.wrap (m / n)=m / n:=by
   have h3:0≤m / n:=Int.ediv_nonneg h.1 (by omega)
   have h4:m / n≤m:=Int.ediv_le_self n h.1
   obtain ⟨q,hq⟩:∃ q:Nat,m / n=(q:Int):=⟨(m / n).toNat,by omega⟩
   rw [hq,eI]
   omega
  simp [binOp,Op.intDiv,h0,h1,h2]
theorem lP {a:eV} (n k:Nat) (hx:ρ x=wv a) (hy:ρ y=.int .u32 (k:Int)) (hk:2 ^ n=k):aM P ⟨d,.binOp .quo t x y t',ty,pos,af,g⟩ ρ (wv (a >>> n)):=
 aV _ (rk hx hy (by have:=a.isLt;have:1≤2 ^ n:=Nat.one_le_two_pow;omega)) (Km a n k hk)
end
section
variable {P:Program} {ops:List Oper} {K:Act→World→Prop} {l:List Oper} {a:Act} {w w0:World} {N:Nat} {L:List (Nat × Value)} {Df:List Deferred} {B:List Own} {d:Tmp} {op:Op} {ty:TypeId} {pos:String} {af:Array Edge} {x y:Operand} {t:TypeId}
theorem bj {n:Nat} {p:Addr} {C:Array Value} (hH:aG w p C) (h:Sl N a L Df) (hr:Row P t n) (hx:eu L x=some (.pointer (some p))) (hn:C.size=n) (hd:Nat.blt d N=true)
 (k:∀ a',Sl N a' ((d,.agg C)::L) Df→iK P ops.toArray K w l a'):iK P ops.toArray K w (⟨some d,.load t x,ty,pos,af,none⟩::l) a:=
 lE _ h (fun w' hE=>by
  unfold db
  simp only [execOp,h.ev hx,Instr.loadAt,Instr.sureAddr,Sem.run_bind,Sem.run_pure,Result.andThen_ok,pk hr w' p C (hH.ext hE) hn]
  first|exact ⟨rfl,Ext.refl _⟩|exact ⟨trivial,Ext.refl _⟩) hd k
theorem ay {p:Addr} {V:Value} (hH:w.cell? p=some V) (h:Sl N a L Df) (ho:One P t) (hx:eu L x=some (.pointer (some p))) (hd:Nat.blt d N=true)
 (k:∀ a',Sl N a' ((d,V)::L) Df→iK P ops.toArray K w l a'):iK P ops.toArray K w (⟨some d,.load t x,ty,pos,af,none⟩::l) a:=
 lE _ h (fun w' hE=>eT ho (h.ev hx) (by rw [hE.cell (tY hH)];exact hH) ⟨rfl,Ext.refl _⟩) hd k
end
theorem ac {w:World} {b o:Nat} {C:Array Value} (h:aG w ⟨b,o,none⟩ C) (off:Nat) {V:Value} (hV:C[off]? = some V):w.cell? ⟨b,o+off,none⟩=some V:=by
 have:=h off V hV
 rwa [Addr.add_lit] at this
theorem bI.some {w:World} {v:Value} {sz n:Nat} {xs:List Value} (h:bI w v sz n xs) (hn:0<n):∃ p m c,v=.slice (some p) m c:=by
 rcases h.2 with ⟨_,h2⟩|⟨p,c,h1,_,_⟩
 ·omega
 ·exact ⟨p,n,c,h1⟩
theorem St.sel {w0 w:World} {B:List Own} (s:St w0 B w) (ix:List Nat) {B':List Own} (hB:ix.filterMap (fun i=>B[i]?)=B') (hn:ix.Nodup):St w0 B' w:=by
 subst hB
 have hmem:∀ p∈ix.filterMap (fun i=>B[i]?),p∈B:=fun p hp=>by
  obtain ⟨i,_,h⟩:=List.mem_filterMap.1 hp
  exact List.mem_of_getElem? h
 refine ⟨s.ext,fun p hp=>s.has p (hmem p hp),fun p hp=>s.own p (hmem p hp),?_⟩
 rw [List.pairwise_filterMap]
 refine List.Pairwise.imp ?_ hn
 intro i j hij p hp q hq k hk hk'
 obtain ⟨hi,rfl⟩:=List.getElem?_eq_some_iff.1 hp
 obtain ⟨hj,rfl⟩:=List.getElem?_eq_some_iff.1 hq
 have hpw:=List.pairwise_iff_getElem.1 s.nd
 rcases Nat.lt_or_gt_of_ne hij with h|h
 ·exact hpw i j hi hj h k hk hk'
 ·exact hpw j i hj hi h k hk' hk
theorem oE (f:Nat→Nat) (n:Nat):(aO f n).toList.length=n*1∧∀ i,i<n→∃ m,((aO f n).toList.drop (i*1)).take 1=[Value.int .u8 m]:=by
 refine ⟨by simp,fun i hi=>⟨f i,?_⟩⟩
 have hl:i*1<(aO f n).toList.length:=by simp;omega
 rw [List.drop_eq_getElem_cons hl,List.take_succ_cons,List.take_zero]
 have h1:=ei f n i hi
 have h2:(aO f n).toList[i*1]=.int .u8 (f i:Int):=by
  have:(aO f n).toList[i*1]? = some (.int .u8 (f i:Int)):=by rw [Array.getElem?_toList,Nat.mul_one];exact h1
  rw [List.getElem?_eq_getElem hl] at this
  exact Option.some.inj this
 rw [h2]
theorem EqV.struct' {P:Program} {t:TypeId} {D n:Nat} {fs:Array Field} (r:List (Nat × (List Value→Prop))) (ht:P.underlying t=some (.struct fs)) (hp:P.stoodInHeld t=false) (hs:(P.info? t).map (·.size)=some n)
 (hf:NU P D fs.toList r) (hc:pR 0 fs.toList r n):EqV P (D+1) t n (fun xs=>xs.length=n∧u3 xs fs.toList r) xh:=by
 have e:P.fieldsOf t=fs:=by simp [Program.fieldsOf,ht]
 have:=EqV.struct (P:=P) (t:=t) (D:=D) (n:=n) r (by rw [e];exact ht) hp hs (by rw [e];exact hf) (by rw [e];exact hc)
 rw [e] at this
 exact this
theorem Oj (x y:vP):decide (x=y)=true↔(ki x).toList=(ki y).toList:=by
 rw [decide_eq_true_eq]
 exact ⟨fun h=>by rw [h],fun h=>Eg (Array.toList_inj.1 h)⟩
theorem St.fork {w0 w:World} {B:List Own} {X:World→Prop} (s:St w0 B w) (h:X w):∃ wm,Ext w0 wm∧X wm∧St wm [] w:=⟨w,s.ext,h,St.start w⟩
theorem St.rebase {w0 wm w:World} {B:List Own} (s:St wm B w) (h:Ext w0 wm):St w0 B w:=by
 refine ⟨h.trans s.ext,fun p hp=>?_,fun p hp k hk=>Nat.le_trans h.le (s.own p hp k hk),s.nd⟩
 have h1:=s.has p hp
 cases p with
 |blk b o=>exact h1
 |sl v e sz n xs=>exact cB.base h1 h.le
 |grp ks S=>exact h1
theorem Jw {P:Program} {ops:List Oper} {K:Act→World→Prop} {a:Act} {w w0:World} {B:List Own} (s:St w0 B w) (k:∀ w',Ext w w'→St w0 B w'→K a w'):iK P ops.toArray K w [] a:=fun w' hE=>k w' hE (s.more hE)
def rA (C:Array Value) (t:TypeId):cW:=fun v w=>∃ b,v=.pointer (some ⟨b,0,none⟩)∧w.heap[b]? = some (.cells C t)
theorem rA.mono (C:Array Value) (t:TypeId):my (rA C t):=fun v w w' ⟨b,h1,h2⟩ hE=>⟨b,h1,(hE.heap (Array.getElem?_eq_some_iff.1 h2).1).trans h2⟩
theorem Ei {f:Act} {d:Tmp} {b:Nat} {w2 w3:World} {C:Array Value} {t:TypeId} {fr:Bool} (h:f.tmps.getD d undef=.pointer (some ⟨b,0,none⟩)) (z:St w2 (.blk b (.cells C t)::[]) w3):KF (rA C t) fr d w2 f w3:=by
 refine ⟨⟨b,h,z.get 0 rfl⟩,z.ext,fun _ k hk=>?_⟩
 rw [h] at hk
 simp [pu] at hk
 subst hk
 exact ⟨z.own _ List.mem_cons_self k (Own.at_blk.2 rfl),(Array.getElem?_eq_some_iff.1 (z.get 0 rfl)).1⟩
theorem Ev {f:Act} {d:Tmp} {V:Value} {w2 w3:World} {e:TypeId} {sz n:Nat} {xs:List Value} (h:f.tmps.getD d undef=V) (z:St w2 (.sl V e sz n xs::[]) w3) (ys:List Value) (hxy:xs=ys):KF (fun v w=>bI w v sz n ys) false d w2 f w3:=by
 subst hxy
 exact ⟨by rw [h];exact bI.of_own (z.getSl 0 rfl),z.ext,fun h9=>absurd h9 (by decide)⟩
theorem uN {w0 w1 w:World} {B:List Own} (s:St w0 B w1) (hE:Ext w1 w) {v:Value} {C:Array Value} {t:TypeId} (hT:rA C t v w) (hk:∀ k∈pu v,w1.heap.size≤k):∃ b,v=.pointer (some ⟨b,0,none⟩)∧St w0 (.blk b (.cells C t)::B) w:=by
 obtain ⟨b,rfl,hb⟩:=hT
 refine ⟨b,rfl,s.join1 hE _ hb fun k hkb=>?_⟩
 rw [Own.at_blk] at hkb
 subst hkb
 exact hk k (by simp [pu])
section
variable {P:Program} {ops:Array Oper} {Q:Act→World→Prop} {l:List Oper} {a:Act} {w w0:World} {N:Nat} {L:List (Nat × Value)} {Df:List Deferred} {B:List Own} {d:Tmp} {ty:TypeId} {pos:String} {af:Array Edge} {x y:Operand} {t t' e:TypeId}
theorem un {v:Value} {n:Nat} {ns:List Nat} (hR:bI w v 1 n (ns.map fun (m:Nat)=>.int .u8 (m:Int))) (h:Sl N a L Df) (hs:P.underlying t=some (.slice e)) (he:P.underlying e=some (.int .u8)) (hd:P.underlying t'=some .string)
 (hx:eu L x=some v) (hdn:Nat.blt d N=true)
 (k:∀ a',Sl N a' ((d,.string ⟨(ns.map UInt8.ofNat).toArray⟩)::L) Df→bX P ops Q l a' w):bX P ops Q (⟨some d,.convert t t' x,ty,pos,af,none⟩::l) a w:=by
 have hn:ns.length=n:=by have:=hR.1;simpa using this
 have hrun:(convert t t' v).run P w=.ok (.string ⟨(ns.map UInt8.ofNat).toArray⟩) w:=by
  rcases hR.2 with ⟨rfl,hn0⟩|⟨p,cap,rfl,_,hH⟩
  ·obtain rfl:ns=[]:=List.eq_nil_of_length_eq_zero (by omega)
   rw [run_convert_bytes_string w t t' e _ _ _ hs he hd]
   rfl
  ·rw [run_convert_bytes_string w t t' e _ _ _ hs he hd,run_bytesToString w p n cap (ns.map fun (m:Nat)=>(m:Int)),List.foldl_map]
   ·congr 2
    have:ns.foldl (fun r (m:Nat)=>r.push (UInt8.ofNat ((m:Int)).toNat)) ByteArray.empty=(ns.map UInt8.ofNat).foldl (fun r c=>r.push c) ByteArray.empty:=by
     rw [List.foldl_map];simp
    rw [this,mM]
    simp [ByteArray.empty,ByteArray.emptyWithCapacity]
    rfl
   ·have:=run_loadCells_list (P:=P) w p (ns.map fun (m:Nat)=>Value.int .u8 (m:Int)) (fun j v hv=>hH j v (by simpa using hv))
    rw [List.length_map,hn] at this
    rw [List.map_map];exact this
 exact dw (R:=fun u w'=>u=.string ⟨(ns.map UInt8.ofNat).toArray⟩∧w'=w) h (by
  unfold db
  simp only [execOp,h.ev hx,Sem.run_bind,hrun,Result.andThen_ok,Sem.run_pure]
  first|exact ⟨rfl,rfl⟩|exact ⟨trivial,rfl⟩|exact ⟨trivial,trivial⟩|trivial) hdn fun a' w' u ⟨h1,h2⟩ hs=>by subst h1;subst h2;exact k a' hs
end
theorem OA (x y:ByteArray):mA [x,y]=x++y:=by simp [mA]
theorem Od (a b c d:ByteArray):mA [a,b,c,d]=a++b++c++d:=by simp [mA,ByteArray.append_assoc]
theorem xr (a:Id):aO (EQ (bz a) (if 32=16 then 0 else 16) (32 - 16)) 32=aA (DZ a):=by
 show aO (EQ (bz a) 16 16) 32=_
 rw [d4]
 refine ci fun i hi=>?_
 rw [oQ a i hi]
 unfold EQ
 by_cases h:i<16
 ·rw [if_pos h,if_neg (by omega)]
 ·rw [if_neg h,if_pos (by omega)]
def ql (a:Id) (k i:Nat):Nat:=if i<k then bz a i else 0
theorem xe (a:Id):aA 0#256=aO (ql a 0) 32:=by
 rw [d4]
 exact ci fun i hi=>by unfold ql;rw [if_neg (by omega),pc]
theorem xq (a:Id) (k:Nat):(aO (ql a k) 32).setIfInBounds k (.int .u8 (bz a k:Int))=aO (ql a (k+1)) 32:=by
 rw [kN]
 refine ci fun i hi=>?_
 unfold ql
 by_cases h:i=k
 ·subst h;simp
 ·rw [if_neg h]
  by_cases h2:i<k
  ·rw [if_pos h2,if_pos (by omega)]
  ·rw [if_neg h2,if_neg (by omega)]
theorem zY (a:Id):aO (ql a 16) 32=aA (DZ a):=by
 rw [d4]
 exact ci fun i hi=>by rw [oQ a i hi];rfl
theorem xc (a:Id):(qE a).size=32:=jG _ _
theorem pn (secret:ByteArray) (id:Id) (h:Nat):(mN secret id h).size=38+secret.size:=by
 unfold mN
 rw [ByteArray.size_append,ByteArray.size_append,ByteArray.size_append,xc,jG,show mX.size=5 from rfl]
 omega
section
variable {P:Program} {ρ:Operand→Value} {d:Option Tmp} {ty:TypeId} {pos:String} {af:Array Edge} {g:Option (Nat × Bool)} {a b:Operand} {t t':TypeId} {D n:Nat}
def MM (P:Program) (D:Nat) (t:TypeId) (n:Nat) (X Y:Array Value):Prop:=∃ V,EqV P D t n V xh∧V X.toList∧V Y.toList
theorem fU {X Y:Array Value} (E:MM P D t n X Y) (hg:P.eqGuardType P.depth t=false) (hD:Nat.ble D 10000=true) (hx:ρ a=.agg X) (hy:ρ b=.agg Y) (p:Bool) (hp:p=true↔X.toList=Y.toList):
 aM P ⟨d,.binOp .eql t a b t',ty,pos,af,g⟩ ρ (.bool p):=by
 obtain ⟨V,hE,hX,hY⟩:=E
 exact GO hE hg hD hx hy hX hY p hp
theorem iE {X Y:Array Value} (E:MM P D t n X Y) (hg:P.eqGuardType P.depth t=false) (hD:Nat.ble D 10000=true) (hx:ρ a=.agg X) (hy:ρ b=.agg Y) (p:Bool) (hp:p=true↔X.toList=Y.toList):
 aM P ⟨d,.binOp .neq t a b t',ty,pos,af,g⟩ ρ (.bool (!p)):=by
 obtain ⟨V,hE,hX,hY⟩:=E
 exact Gj hE hg hD hx hy hX hY p hp
end
theorem OK (x y:vP):decide (jv x=jv y)=decide (x=y):=by
 rw [Bool.eq_iff_iff,decide_eq_true_eq,decide_eq_true_eq]
 exact ⟨fun h=>C9 h,fun h=>by rw [h]⟩
theorem dm {w:World} {base:Nat} {e:TypeId} {sz:Nat} {v:Value} {n:Nat} {xs:List Value} (h:cB w base e sz v n xs):v.oneCell'=true:=by
 obtain ⟨a,c,rfl⟩:=jw h
 rfl
section
variable {P:Program} {ρ:Operand→Value} {d:Option Tmp} {ty:TypeId} {pos:String} {af:Array Edge} {g:Option (Nat × Bool)} {x y z u:Operand} {t t' e:TypeId} {k:IntKind}
theorem kL {a:Option Addr} {n c:Nat} (ht:P.underlying t=some (.slice e)) (hx:ρ x=.slice a n c):aM P ⟨d,.call {callee:=.builtin .len,args:=#[x],argTypes:=#[t]},ty,pos,af,g⟩ ρ (.int .i64 (n:Int)):=fun w=>by
 simp [execOp,resolve,hx,invoke,builtin,Builtin.len_,Sem.run_bind,run_underlying ht,goInt]
end
section
variable {P:Program} {ops:Array Oper} {Q:Act→World→Prop} {l:List Oper} {a:Act} {w w0:World} {N:Nat} {L:List (Nat × Value)} {Df:List Deferred} {B:List Own} {d:Tmp} {ty:TypeId} {pos:String} {af:Array Edge} {x y:Operand} {t t' e:TypeId}
end
theorem u5 {α:Type} {l:List α} (Q:α→Prop) {k:Nat} (h:∀ i (hi:i<l.length),i<k→Q l[i]) (hk:k<l.length) (hq:Q l[k]):∀ i (hi:i<l.length),i<k+1→Q l[i]:=fun i hi h9=>by
 by_cases e:i=k
 ·subst e;exact hq
 ·exact h i hi (by omega)
section
variable {P:Program} {ρ:Operand→Value} {d:Option Tmp} {ty:TypeId} {pos:String} {af:Array Edge} {g:Option (Nat × Bool)} {x y z u:Operand} {t t' e:TypeId} {k:IntKind}
end
end Go.Proofs.YtobfeflheaobiaaGreatDoor
namespace Go.Proofs.YtobfeflheaobiaaGreatDoor
open Go.RowKit Go.ChangeShapes Go.WideShapes Go.ChangeAt
theorem wt {α:Type} (f:α→List Value) (sz:Nat) (hz:0<sz) (hf:∀ x,(f x).length=sz) {w:World} {p:Addr} (l:List α) (h:∀ i (hi:i<l.length),aG w (p.add (i*sz)) (f l[i]).toArray):aG w p (l.flatMap f).toArray:=fun j v hj=>by
 simp only [List.getElem?_toArray] at hj
 have hlen:=jC f sz hf l
 have hjl:j<l.length*sz:=by have:=(List.getElem?_eq_some_iff.1 hj).1;omega
 have hi:j / sz<l.length:=Nat.div_lt_of_lt_mul (by rw [Nat.mul_comm];exact hjl)
 have e1:=lS f sz hf l (j / sz) hi
 have h2:(f l[j / sz])[j % sz]? = some v:=by
  rw [← e1,List.getElem?_take_of_lt (Nat.mod_lt _ hz),List.getElem?_drop]
  rw [show j / sz*sz+j % sz=j from by rw [Nat.mul_comm];exact Nat.div_add_mod j sz]
  exact hj
 have h3:=h (j / sz) hi (j % sz) v (by simpa using h2)
 rw [l7,show j / sz*sz+j % sz=j from by rw [Nat.mul_comm];exact Nat.div_add_mod j sz] at h3
 exact h3
theorem qQ {H:Type} {enc:TypeId × Value→H} {P:Program} {w:World} {base:Nat} {spare:Nat→Bool} {held:Bool} {t e:TypeId} {fuel:Nat} {cs:List Value} {x:DataW H × List MemPlace} (T:IdTy P t e) (hc:P.cellsOf t=32) (hce:P.cellsOf e=1)
 (h:DataW.trod enc P w base spare held fuel t cs=some x):∃ a:Id,cs=(aA a).toList:=by
 obtain ⟨a,ha⟩:=Hh (v:=.agg cs.toArray) (d:=x.1) (ps:=x.2) T hc hce ⟨fuel,by simpa [Value.cells] using h⟩
 refine ⟨a,?_⟩
 have h2:cs.toArray=aA a:=by simpa [gp] using ha
 rw [← h2]
theorem kq.cons {P:Program} {ops:Array Oper} {Wp:World→Prop} {K:Act→World→Prop} {o:Oper} {l:List Oper} {a:Act} {w:World} (h:bX P ops (fun a w=>Wp w∧kq P ops Wp K l a w) [o] a w):kq P ops Wp K (o::l) a w:=h
theorem kq.nil {P:Program} {ops:Array Oper} {Wp:World→Prop} {K:Act→World→Prop} {a:Act} {w:World} (h:K a w):kq P ops Wp K [] a w:=h
section
variable (ops:List Oper) (m:Nat) (Hs Vs:List Nat) (cls:List (List Nat))
def om (size i:Nat) (o:Oper):Bool:=
 (cz o).all (fun j=>decide (j<i)) &&
 (cls.getD i []).all (fun j=>(cz o).contains j || (cz o).any fun k=>(cls.getD k []).contains j) &&
 (if Hs.contains i then
  (match o.dst with|some d=>decide (d<size) && (List.range ops.length).all (fun j=>j == i || decide (aT ops j≠some d))|none=>false) && o.guard.isNone &&
  (o.looksAt ops.toArray).all fun t=>(List.range ops.length).all fun j=>decide (aT ops j≠some t) || ((cls.getD i []).contains j && (Hs.contains j || Vs.contains j)) || (cls.getD j []).contains i
 else if i<m then
  (match o.dst with|some d=>decide (d<size) && (List.range m).all (fun j=>j == i || decide (aT ops j≠some d))|none=>false) &&
  (o.looksAt ops.toArray).all fun t=>(List.range ops.length).all fun j => !(decide (j<m) || Hs.contains j) || decide (aT ops j≠some t) || (cls.getD i []).contains j || (cls.getD j []).contains i
 else
  (List.range i).all (fun j=>Hs.contains j || (cls.getD i []).contains j) &&
  (o.looksAt ops.toArray).all fun t=>Hs.all fun j=>decide (aT ops j≠some t) || (cls.getD i []).contains j)
def eY (size:Nat):Bool:=(Vs.all fun v => !Hs.contains v && match aT ops v with|some d=>decide (d<size) && (List.range ops.length).all (fun j=>j == v || decide (aT ops j≠some d))|none=>false) && (List.range ops.length).all fun i=>match ops[i]? with|some o=>om ops m Hs Vs cls size i o|none=>false
end
theorem mt {ops:List Oper} {m:Nat} {Hs Vs:List Nat} {cls:List (List Nat)} {size:Nat} (h:eY ops m Hs Vs cls size=true) {i:Nat} {o:Oper} (hi:ops[i]? = some o):om ops m Hs Vs cls size i o=true:=by
 unfold eY at h
 replace h:=(Bool.and_eq_true _ _▸h:_∧_).2
 have hlt:i<ops.length:=(List.getElem?_eq_some_iff.1 hi).1
 have:=List.all_eq_true.1 h i (List.mem_range.2 hlt)
 simpa [hi] using this
theorem jZ {ops:List Oper} {m:Nat} {Hs Vs:List Nat} {cls:List (List Nat)} {size:Nat} (h:eY ops m Hs Vs cls size=true) {i:Nat} {o:Oper} (hi:ops[i]? = some o):
 (∀ j∈cz o,j<i)∧∀ j∈cls.getD i [],j∈cz o∨∃ k∈cz o,j∈cls.getD k []:=by
 have:=mt h hi
 unfold om at this
 simp only [Bool.and_eq_true] at this
 refine ⟨fun j hj=>by simpa using List.all_eq_true.1 this.1.1 j hj,fun j hj=>?_⟩
 have:=List.all_eq_true.1 this.1.2 j hj
 simpa using this
theorem B8 {ops:List Oper} {m:Nat} {Hs Vs:List Nat} {cls:List (List Nat)} {size:Nat} (h:eY ops m Hs Vs cls size=true) {i:Nat} (hV:i∈Vs):
 i ∉ Hs∧∀ d,aT ops i=some d→d<size∧∀ j,aT ops j=some d→j=i:=by
 unfold eY at h
 simp only [Bool.and_eq_true] at h
 have h1:=List.all_eq_true.1 h.1 i hV
 simp only [Bool.and_eq_true,decide_eq_true_eq,Bool.not_eq_true',List.contains_eq_mem,decide_eq_false_iff_not] at h1
 refine ⟨h1.1,fun d hd=>?_⟩
 have h2:=h1.2
 rw [hd] at h2
 simp only [Bool.and_eq_true,decide_eq_true_eq] at h2
 refine ⟨h2.1,fun j hj=>?_⟩
 have hjl:j<ops.length:=by
  unfold aT at hj
  rcases Nat.lt_or_ge j ops.length with h'|h'
  ·exact h'
  ·rw [List.getElem?_eq_none h'] at hj;cases hj
 have:=List.all_eq_true.1 h2.2 j (List.mem_range.2 hjl)
 simpa [hj] using this
theorem ph {ops:List Oper} {m:Nat} {Hs Vs:List Nat} {cls:List (List Nat)} {size:Nat} (h:eY ops m Hs Vs cls size=true) {i:Nat} {o:Oper} (hi:ops[i]? = some o) (hH:i∈Hs):
 (∃ d,o.dst=some d∧d<size∧∀ j,aT ops j=some d→j=i)∧o.guard=none∧
 ∀ t∈o.looksAt ops.toArray,∀ j,aT ops j=some t→(j∈cls.getD i []∧(j∈Hs∨j∈Vs))∨i∈cls.getD j []:=by
 have:=mt h hi
 unfold om at this
 rw [if_pos (List.contains_iff_mem.2 hH)] at this
 simp only [Bool.and_eq_true] at this
 obtain ⟨_,⟨h1,h2⟩,h3⟩:=this
 have hj:∀ j t,aT ops j=some t→j<ops.length:=fun j t hd=>by
  unfold aT at hd
  rcases Nat.lt_or_ge j ops.length with h'|h'
  ·exact h'
  ·rw [List.getElem?_eq_none h'] at hd;cases hd
 refine ⟨?_,by simpa using h2,fun t ht j hd=>?_⟩
 ·cases hdo:o.dst with
  |none=>simp [hdo] at h1
  |some d=>
   simp only [hdo,Bool.and_eq_true,decide_eq_true_eq] at h1
   refine ⟨d,rfl,h1.1,fun j hd=>?_⟩
   have:=List.all_eq_true.1 h1.2 j (List.mem_range.2 (hj j d hd))
   simpa [hd] using this
 ·have h4:=List.all_eq_true.1 (List.all_eq_true.1 h3 t ht) j (List.mem_range.2 (hj j t hd))
  simp only [hd,ne_eq,not_true_eq_false,decide_false,Bool.false_or,Bool.or_eq_true,Bool.and_eq_true,List.contains_iff_mem] at h4
  exact h4
theorem Iv {ops:List Oper} {m:Nat} {Hs Vs:List Nat} {cls:List (List Nat)} {size:Nat} (h:eY ops m Hs Vs cls size=true) {i:Nat} {o:Oper} (hi:ops[i]? = some o) (hH:i ∉ Hs) (him:i<m):
 (∃ d,o.dst=some d∧d<size∧∀ j,j<m→aT ops j=some d→j=i)∧
 ∀ t∈o.looksAt ops.toArray,∀ j,j<m∨j∈Hs→aT ops j=some t→j∈cls.getD i []∨i∈cls.getD j []:=by
 have:=mt h hi
 unfold om at this
 rw [if_neg (by simpa using hH),if_pos him] at this
 simp only [Bool.and_eq_true] at this
 obtain ⟨_,h1,h3⟩:=this
 have hj:∀ j t,aT ops j=some t→j<ops.length:=fun j t hd=>by
  unfold aT at hd
  rcases Nat.lt_or_ge j ops.length with h'|h'
  ·exact h'
  ·rw [List.getElem?_eq_none h'] at hd;cases hd
 refine ⟨?_,fun t ht j hjm hd=>?_⟩
 ·cases hdo:o.dst with
  |none=>simp [hdo] at h1
  |some d=>
   simp only [hdo,Bool.and_eq_true,decide_eq_true_eq] at h1
   refine ⟨d,rfl,h1.1,fun j hjm hd=>?_⟩
   have:=List.all_eq_true.1 h1.2 j (List.mem_range.2 hjm)
   simpa [hd] using this
 ·have h4:=List.all_eq_true.1 (List.all_eq_true.1 h3 t ht) j (List.mem_range.2 (hj j t hd))
  have h5:(decide (j<m) || Hs.contains j)=true:=by
   rcases hjm with h'|h'
   ·simp [h']
   ·simp [h']
  simp only [h5,hd,ne_eq,not_true_eq_false,decide_false,Bool.not_true,Bool.false_or,Bool.or_eq_true,List.contains_iff_mem] at h4
  exact h4
theorem Cc {ops:List Oper} {m:Nat} {Hs Vs:List Nat} {cls:List (List Nat)} {size:Nat} (h:eY ops m Hs Vs cls size=true) {i:Nat} {o:Oper} (hi:ops[i]? = some o) (hH:i ∉ Hs) (him:m≤i):
 (∀ j,j<i→j ∉ Hs→j∈cls.getD i [])∧∀ t∈o.looksAt ops.toArray,∀ j∈Hs,aT ops j=some t→j∈cls.getD i []:=by
 have:=mt h hi
 unfold om at this
 rw [if_neg (by simpa using hH),if_neg (by omega)] at this
 simp only [Bool.and_eq_true] at this
 obtain ⟨_,h1,h3⟩:=this
 refine ⟨fun j hj hjH=>?_,fun t ht j hj hd=>?_⟩
 ·have:=List.all_eq_true.1 h1 j (List.mem_range.2 hj)
  simpa [hjH] using this
 ·have:=List.all_eq_true.1 (List.all_eq_true.1 h3 t ht) j hj
  simpa [hd] using this
theorem zd {ops:List Oper} {m:Nat} {Hs Vs:List Nat} {cls:List (List Nat)} {size:Nat} (hok:eY ops m Hs Vs cls size=true):∀ (i:Nat),i<ops.length→∀ j∈cls.getD i [],j<i:=by
 intro i
 induction i using Nat.strongRecOn with
 |_ i ih=>
  intro hi j hj
  have hio:ops[i]? = some ops[i]:=by simp [hi]
  obtain ⟨hlt,hcl⟩:=jZ hok hio
  rcases hcl j hj with h|⟨k,hk,hjk⟩
  ·exact hlt j h
  ·have:=hlt k hk
   have:=ih k this (by omega) j hjk
   omega
def ER (ops:List Oper) (Vs:List Nat) (T:Nat→cW) (o:Oper) (a:Act) (w:World):Prop:=∀ i∈Vs,∀ d,aT ops i=some d→o.dst=some d→T i (a.tmps.getD d undef) w
def mx (P:Program) (ops:List Oper) (Wp:World→Prop) (Vs:List Nat) (T:Nat→cW) (K:Act→World→Prop):List Oper→Act→World→Prop
 |[],a,w=>K a w
 |o::l,a,w=>bX P ops.toArray (fun a w=>Wp w∧ER ops Vs T o a w∧mx P ops Wp Vs T K l a w) [o] a w
section law
variable {P:Program} {ro:Option Nat} {ops:List Oper} {m:Nat} {Hs Vs:List Nat} {cls:List (List Nat)} {X:Nat→Value} {Wp:World→Prop} {a0:Act} {T:Nat→cW} {Q:Exit→Act→World→Prop}
structure J3 (ops:List Oper) (Hs Vs:List Nat) (cls:List (List Nat)) (X:Nat→Value) (a0:Act) (listed:Array Bool) (a:Act):Prop where
 size:a.tmps.size=a0.tmps.size
 lsize:listed.size=ops.length
 doneH:∀ i d,(i∈Hs∨i∈Vs)→aT ops i=some d→listed.getD i false=true→a.tmps.getD d undef=X i
 rest:∀ t,(∀ j,aT ops j=some t→listed.getD j false=false)→a.tmps.getD t undef=a0.tmps.getD t undef
 closed:∀ i,listed.getD i false=true→∀ j∈cls.getD i [],listed.getD j false=true
def PL (ops:List Oper) (j d:Nat):Prop:=∀ i,aT ops i=some d→i=j
theorem J3.stepH (hok:eY ops m Hs Vs cls a0.tmps.size=true) {listed:Array Bool} {a:Act} (J:J3 ops Hs Vs cls X a0 listed a) {i d:Nat} {o:Oper} (hi:ops[i]? = some o) (hH:i∈Hs) (hd:o.dst=some d)
 (hcl:∀ j∈cls.getD i [],listed.getD j false=true):J3 ops Hs Vs cls X a0 (listed.setIfInBounds i true) (a.put o.dst (X i)):=by
 have hil:i<ops.length:=(List.getElem?_eq_some_iff.1 hi).1
 have hils:i<listed.size:=by rw [J.lsize];exact hil
 obtain ⟨⟨d',hd',hds,huniq⟩,_,_⟩:=ph hok hi hH
 rw [hd] at hd';cases hd'
 have hput:∀ t,(a.put o.dst (X i)).tmps.getD t undef=if d=t then X i else a.tmps.getD t undef:=fun t=>by
  rw [hd,bU]
  by_cases e:d=t
  ·rw [if_pos ⟨e,by rw [J.size];exact hds⟩,if_pos e]
  ·rw [if_neg (fun h=>e h.1),if_neg e]
 refine ⟨by rw [Act.tmps_put_size];exact J.size,by simp [J.lsize],fun j dj hj hdj hl=>?_,fun t ht=>?_,fun j hj k hk=>?_⟩
 ·rw [hput]
  by_cases e:d=dj
  ·subst e;rw [if_pos rfl,huniq j hdj]
  ·rw [if_neg e]
   rcases (bv hils j).1 hl with e2|e2
   ·subst e2;rw [cP hi,hd] at hdj;cases hdj;exact absurd rfl e
   ·exact J.doneH j dj hj hdj e2
 ·rw [hput]
  have hne:d≠t:=fun e=>by
   have:=ht i (by rw [cP hi,hd,e])
   have h2:=(bv hils i).2 (.inl rfl)
   rw [this] at h2;cases h2
  rw [if_neg hne]
  refine J.rest t fun j hj=>?_
  have:=ht j hj
  cases hb:listed.getD j false with
  |false=>rfl
  |true=>rw [(bv hils j).2 (.inr hb)] at this;cases this
 ·rcases (bv hils j).1 hj with e|e
  ·subst e;exact(bv hils k).2 (.inr (hcl k hk))
  ·exact(bv hils k).2 (.inr (J.closed j e k hk))
theorem J3.stepT (hok:eY ops m Hs Vs cls a0.tmps.size=true) {listed:Array Bool} {a:Act} (J:J3 ops Hs Vs cls X a0 listed a) {i:Nat} {o:Oper} (hi:ops[i]? = some o) (hH:i ∉ Hs) (v:Value) (hVx:i∈Vs→v=X i)
 (hcl:∀ j∈cls.getD i [],listed.getD j false=true):J3 ops Hs Vs cls X a0 (listed.setIfInBounds i true) (a.put o.dst v):=by
 have hil:i<ops.length:=(List.getElem?_eq_some_iff.1 hi).1
 have hils:i<listed.size:=by rw [J.lsize];exact hil
 have hput:∀ t,o.dst≠some t→(a.put o.dst v).tmps.getD t undef=a.tmps.getD t undef:=fun t ht=>by
  cases hd:o.dst with
  |none=>rfl
  |some d=>rw [bU,if_neg (fun h=>ht (by rw [hd,h.1]))]
 refine ⟨by rw [Act.tmps_put_size];exact J.size,by simp [J.lsize],fun j dj hj hdj hl=>?_,fun t ht=>?_,fun j hj k hk=>?_⟩
 ·have huniq:PL ops j dj:=by
   rcases hj with hj|hj
   ·obtain ⟨oj,hjo⟩:∃ oj,ops[j]? = some oj:=by
     unfold aT at hdj
     cases hq:ops[j]? with
     |none=>rw [hq] at hdj;cases hdj
     |some oj=>exact ⟨oj,rfl⟩
    obtain ⟨⟨d',hd',_,huniq⟩,_,_⟩:=ph hok hjo hj
    have hdd:d'=dj:=by rw [cP hjo,hd'] at hdj;exact Option.some.inj hdj
    subst hdd
    exact huniq
   ·exact((B8 hok hj).2 dj hdj).2
  by_cases hji:j=i
  ·subst hji
   have hjV:j∈Vs:=hj.resolve_left hH
   have hds:=((B8 hok hjV).2 dj hdj).1
   rw [cP hi] at hdj
   rw [hdj,bU,if_pos ⟨rfl,by rw [J.size];exact hds⟩]
   exact hVx hjV
  ·rw [hput]
   ·exact J.doneH j _ hj hdj (((bv hils j).1 hl).resolve_left hji)
   ·intro e
    exact hji (huniq i (by rw [cP hi,e])).symm
 ·rw [hput]
  ·refine J.rest t fun j hj=>?_
   have:=ht j hj
   cases hb:listed.getD j false with
   |false=>rfl
   |true=>rw [(bv hils j).2 (.inr hb)] at this;cases this
  ·intro e
   have:=ht i (by rw [cP hi,e])
   have h2:=(bv hils i).2 (.inl rfl)
   rw [this] at h2;cases h2
 ·rcases (bv hils j).1 hj with e|e
  ·subst e;exact(bv hils k).2 (.inr (hcl k hk))
  ·exact(bv hils k).2 (.inr (J.closed j e k hk))
theorem sY (hok:eY ops m Hs Vs cls a0.tmps.size=true) {listed:Array Bool} (hs:listed.size=ops.length) {i:Nat} (hi:i<ops.length)
 (hb:listed.getD i false=false) (hall:∀ j,j<i→listed.getD j false=true):i∈Region.ready .any ops.toArray listed:=by
 have hio:ops[i]? = some ops[i]:=by simp [hi]
 have hlt:=(jZ hok hio).1
 exact mem_ready.2 ⟨by simp [hs,hi] at hb ⊢;exact hb,ops[i],by simp [hi],fun e he hbd=>by
  have hm:e.on∈cz ops[i]:=List.mem_map.2 ⟨e,List.mem_filter.2 ⟨by simpa using he,by simpa using hbd⟩,rfl⟩
  exact hall _ (hlt _ hm)⟩
theorem p5 (hok:eY ops m Hs Vs cls a0.tmps.size=true) {listed:Array Bool} (hs:listed.size=ops.length) (h:Region.ready .any ops.toArray listed=[]):
 ∀ i,i<ops.length→listed.getD i false=true:=by
 intro i
 induction i using Nat.strongRecOn with
 |_ i ih=>
  intro hi
  cases hb:listed.getD i false with
  |true=>rfl
  |false=>
   have:=sY hok hs hi hb (fun j hj=>ih j hj (by omega))
   rw [h] at this;cases this
theorem sH (hok:eY ops m Hs Vs cls a0.tmps.size=true) (hob:∀ i o,i∈Hs→ops[i]? = some o→Lf P ops cls X Wp a0 i o) {listed:Array Bool} {a:Act} {w:World} (J:J3 ops Hs Vs cls X a0 listed a) (hw:Wp w)
 {i:Nat} {o:Oper} (hi:ops[i]? = some o) (hH:i∈Hs) (hu:listed.getD i false=false) (hcl:∀ j∈cls.getD i [],listed.getD j false=true) {K:Act→World→Prop} (hK:K (a.put o.dst (X i)) w):wpOpIn (FR ro) 0 P ops.toArray Q i K a w:=by
 obtain ⟨⟨d,hd,hds,huniq⟩,hg,hlook⟩:=ph hok hi hH
 have hil:i<ops.length:=(List.getElem?_eq_some_iff.1 hi).1
 have hD:=hob i o hH hi a w hw J.size fun t ht=>by
  unfold ep
  cases hwr:dY ops (cls.getD i []) t with
  |some j=>
   obtain ⟨hm,oj,hj,hdj⟩:=eU hwr
   have hdj':aT ops j=some t:=by rw [cP hj,hdj]
   rcases hlook t ht j hdj' with h|h
   ·exact J.doneH j t h.2 hdj' (hcl j hm)
   ·have:=J.closed j (hcl j hm) i h;rw [hu] at this;cases this
  |none=>
   refine J.rest t fun j hdj=>?_
   cases hb:listed.getD j false with
   |false=>rfl
   |true=>
    rcases hlook t ht j hdj with h|h
    ·have hjo:∃ oj,ops[j]? = some oj∧oj.dst=some t:=by
      unfold aT at hdj
      cases hq:ops[j]? with
      |none=>rw [hq] at hdj;cases hdj
      |some oj=>rw [hq] at hdj;exact ⟨oj,rfl,hdj⟩
     obtain ⟨oj,h1,h2⟩:=hjo
     exact absurd h.1 (gU hwr j oj h1 h2)
    ·have:=J.closed j hb i h;rw [hu] at this;cases this
 have hi':ops.toArray[i]? = some o:=by simpa using hi
 unfold wpOpIn
 simp only [hi']
 have hwant:Region.wanted o (yielded ops.toArray a.tmps)=true:=by simp [Region.wanted,hg]
 rw [if_pos hwant]
 exact hD.wp fun v w' ⟨h1,h2⟩=>by subst h1;subst h2;exact hK
theorem ue (hok:eY ops m Hs Vs cls a0.tmps.size=true) (hsel:Region.noSelect ops.toArray=true) (hTV:∀ i∈Vs,T i=is (X i)) (hob:∀ i o,i∈Hs→ops[i]? = some o→Lf P ops cls X Wp a0 i o):
 ∀ (fuel:Nat) (listed:Array Bool) (a b:Act) (w:World) (ixs:List Nat),listed.toList.count false=fuel→J3 ops Hs Vs cls X a0 listed a→b.defers=a.defers→b.tmps.size=a.tmps.size→
  (∀ t,(∀ i∈Hs,aT ops i=some t→listed.getD i false=true)→b.tmps.getD t undef=a.tmps.getD t undef)→(∀ i∈Hs,∀ d,aT ops i=some d→b.tmps.getD d undef=X i)→
  Wp w→(∀ i,i<ops.length→i ∉ Hs→(listed.getD i false=false↔i∈ixs))→ixs.Pairwise (· < ·)→(∀ i∈ixs,i<ops.length∧m≤i∧i ∉ Hs)→
  mx P ops Wp Vs T (Q .normal) (ixs.filterMap fun i=>ops[i]?) b w→wpAnyIn (FR ro) 0 P .any ops.toArray Q fuel listed a w:=by
 intro fuel
 induction fuel with
 |zero=>
  intro listed a b w ixs hc J hbd hbs hrel hX hw hix hpw hin h
  have hall:=fun i hi=>iZ hc i (by rw [J.lsize];exact hi)
  have hnil:ixs=[]:=by
   cases ixs with
   |nil=>rfl
   |cons i l=>
    have:=hin i List.mem_cons_self
    have h2:=(hix i this.1 this.2.2).2 List.mem_cons_self
    rw [hall i this.1] at h2;cases h2
  subst hnil
  have hab:a=b:=by
   refine sO hbd.symm hbs.symm fun t=>(hrel t fun i hi hd=>?_).symm
   refine hall i ?_
   unfold aT at hd
   rcases Nat.lt_or_ge i ops.length with h'|h'
   ·exact h'
   ·rw [List.getElem?_eq_none h'] at hd;cases hd
  refine ⟨?_,by rw [hab];exact h⟩
  cases hr:Region.ready .any ops.toArray listed with
  |nil=>rfl
  |cons x xs=>
   have hx:x∈Region.ready .any ops.toArray listed:=by rw [hr];exact List.mem_cons_self
   obtain ⟨o,ho,hf,_⟩:=dl hx
   have hlt:=(List.getElem?_eq_some_iff.1 ho).1
   have:=hall x hlt
   rw [hf J.lsize] at this;cases this
 |succ fuel ih=>
  intro listed a b w ixs hc J hbd hbs hrel hX hw hix hpw hin h
  refine ⟨fun hr=>?_,fun k hk=>?_⟩
  ·have hall:=p5 hok J.lsize hr
   have:listed.toList.count false=0:=by
    refine List.count_eq_zero.2 fun hm=>?_
    obtain ⟨i,hi,he⟩:=List.getElem_of_mem hm
    have hi':i<listed.size:=by simpa using hi
    have:=hall i (by rw [← J.lsize];exact hi')
    simp [hi'] at this he
    rw [this] at he;cases he
   omega
  obtain ⟨o,ho,hf,hdir⟩:=dl hk
  have hkl:=(List.getElem?_eq_some_iff.1 ho).1
  have hks:k<listed.size:=by rw [J.lsize];exact hkl
  have hu:=hf J.lsize
  have hcl:∀ j∈cls.getD k [],listed.getD j false=true:=fun j hj=>by
   rcases (jZ hok ho).2 j hj with h1|⟨q,hq,h1⟩
   ·exact hdir j h1
   ·exact J.closed q (hdir q hq) j h1
  have hcnt:(listed.setIfInBounds k true).toList.count false=fuel:=by have:=jS hks hu;omega
  by_cases hH:k∈Hs
  ·obtain ⟨⟨d,hd,hds,huniq⟩,_,_⟩:=ph hok ho hH
   have hdk:aT ops k=some d:=by rw [cP ho,hd]
   refine sH hok hob J hw ho hH hu hcl (ih _ _ b w ixs hcnt (J.stepH hok ho hH hd hcl) ?_ ?_ ?_ hX hw ?_ hpw hin h)
   ·rw [hd];exact hbd
   ·rw [Act.tmps_put_size];exact hbs
   ·intro t ht
    rw [hd,bU]
    by_cases e:d=t
    ·subst e
     rw [if_pos ⟨rfl,by rw [J.size];exact hds⟩]
     exact hX k hH d hdk
    ·rw [if_neg (fun h=>e h.1)]
     refine hrel t fun i hi hdi=>?_
     rcases (bv hks i).1 (ht i hi hdi) with e2|e2
     ·subst e2;rw [hdk] at hdi;cases hdi;exact absurd rfl e
     ·exact e2
   ·intro i hi hiH
    have hne:¬ i=k:=fun e=>hiH (e▸hH)
    rw [← hix i hi hiH]
    have:=bv hks i
    cases hb:listed.getD i false with
    |true=>rw [this.2 (.inr hb)]
    |false=>
     cases hb2:(listed.setIfInBounds k true).getD i false with
     |false=>rfl
     |true=>rcases this.1 hb2 with e|e
            ·exact absurd e hne
            ·rw [hb] at e;cases e
  ·have hkx:k∈ixs:=(hix k hkl hH).1 hu
   cases ixs with
   |nil=>cases hkx
   |cons i l=>
    have hii:=hin i List.mem_cons_self
    have hki:k=i:=by
     rcases List.mem_cons.1 hkx with e|e
     ·exact e
     ·have hlt:=(List.pairwise_cons.1 hpw).1 k e
      have hm:=(Cc hok ho hH (hin k hkx).2.1).1 i hlt hii.2.2
      have:=hcl i hm
      rw [(hix i hii.1 hii.2.2).2 List.mem_cons_self] at this;cases this
    subst hki
    have hlst:mx P ops Wp Vs T (Q .normal) (o::l.filterMap fun i=>ops[i]?) b w:=by simpa [List.filterMap_cons,ho] using h
    have hag:∀ t∈o.looksAt ops.toArray,a.tmps.getD t undef=b.tmps.getD t undef:=fun t ht=>(hrel t fun j hj hdj=>hcl j ((Cc hok ho hH hii.2.1).2 t ht j hj hdj)).symm
    have hwant:=jV (o:=o) (ops:=ops.toArray) hbs.symm hag
    have hnoV:k∈Vs→o.dst≠none:=fun hkV e=>by
     have h8:=hok
     unfold eY at h8
     simp only [Bool.and_eq_true] at h8
     have h9:=List.all_eq_true.1 h8.1 k hkV
     rw [show aT ops k=none from (cP ho).trans e] at h9
     simp at h9
    have step:∀ v w',Wp w'→ER ops Vs T o (b.put o.dst v) w'→mx P ops Wp Vs T (Q .normal) (l.filterMap fun i=>ops[i]?) (b.put o.dst v) w'→wpAnyIn (FR ro) 0 P .any ops.toArray Q fuel (listed.setIfInBounds k true) (a.put o.dst v) w':=fun v w' hw' hvo h'=>by
     refine ih _ _ (b.put o.dst v) w' l hcnt (J.stepT hok ho hH v (fun hkV=>?_) hcl) ?_ ?_ ?_ ?_ hw' ?_ (List.pairwise_cons.1 hpw).2 (fun i hi=>hin i (List.mem_cons_of_mem _ hi)) h'
     ·cases hdo:o.dst with
      |none=>
       exact absurd hdo (hnoV hkV)
      |some d9=>
       have h8:=((B8 hok hkV).2 d9 (by rw [cP ho,hdo])).1
       have h7:=hvo k hkV d9 (by rw [cP ho,hdo]) hdo
       rw [hTV k hkV,hdo,bU,if_pos ⟨rfl,by rw [hbs,J.size];exact h8⟩] at h7
       exact h7
     ·cases o.dst<;>exact hbd
     ·rw [Act.tmps_put_size,Act.tmps_put_size];exact hbs
     ·intro t ht
      have h1:∀ i∈Hs,aT ops i=some t→listed.getD i false=true:=fun i hi hdi=>by
       rcases (bv hks i).1 (ht i hi hdi) with e|e
       ·exact absurd (e▸hi) hH
       ·exact e
      cases hd:o.dst with
      |none=>exact hrel t h1
      |some d=>
       rw [bU,bU,hbs]
       split
       ·rfl
       ·exact hrel t h1
     ·intro i hi d hd
      have hne:o.dst≠some d:=fun e=>by
       have hio:∃ oi,ops[i]? = some oi:=by
        unfold aT at hd
        cases hq:ops[i]? with
        |none=>rw [hq] at hd;cases hd
        |some oi=>exact ⟨oi,rfl⟩
       obtain ⟨oi,hio⟩:=hio
       obtain ⟨⟨d',hd',_,huniq⟩,_⟩:=ph hok hio hi
       rw [cP hio,hd'] at hd;cases hd
       exact hH (huniq k (by rw [cP ho,e])▸hi)
      cases hdo:o.dst with
      |none=>exact hX i hi d hd
      |some d2=>rw [bU,if_neg (fun h=>hne (by rw [hdo,h.1]))];exact hX i hi d hd
     ·intro i hi hiH
      have hset:=bv hks i
      by_cases e:i=k
      ·subst e
       have hn:i ∉ l:=fun hm=>by have:=(List.pairwise_cons.1 hpw).1 i hm;omega
       rw [hset.2 (.inl rfl)]
       simp [hn]
      ·have h1:=hix i hi hiH
       rw [List.mem_cons] at h1
       have h2:(listed.setIfInBounds k true).getD i false=listed.getD i false:=by
        cases hb:listed.getD i false with
        |true=>exact hset.2 (.inr hb)
        |false=>
         cases hb2:(listed.setIfInBounds k true).getD i false with
         |false=>rfl
         |true=>rcases hset.1 hb2 with e2|e2
                ·exact absurd e2 e
                ·rw [hb] at e2;cases e2
       rw [h2,h1]
       simp [e]
    have ho':ops.toArray[k]? = some o:=by simpa using ho
    unfold wpOpIn
    simp only [ho']
    unfold mx bX at hlst
    rw [← hwant] at hlst
    split at hlst
    ·rename_i hwt
     rw [if_pos hwt]
     have hd:=m3 (fun cs bl=>Region.noSelect_spec hsel k o cs bl ho') hag hlst
     exact hd.wp fun v w' h9=>by
      unfold bX at h9
      exact step v w' h9.1 h9.2.1 h9.2.2
    ·rename_i hwt
     rw [if_neg hwt]
     unfold bX at hlst
     exact ⟨fun _ _=>trivial,step undef w hlst.1 hlst.2.1 hlst.2.2⟩
variable {Fr:List Nat} {w1:World}
structure J4 (ops:List Oper) (m:Nat) (Hs Vs:List Nat) (cls:List (List Nat)) (X:Nat→Value) (Fr:List Nat) (T:Nat→cW) (a0:Act) (w1:World) (listed:Array Bool) (a:Act) (w:World):Prop where
 J:J3 ops Hs Vs cls X a0 listed a
 ext:Ext w1 w
 defers:a.defers=a0.defers
 tail:∀ i,m≤i→i ∉ Hs→listed.getD i false=false
 done:∀ i d,i<m→i ∉ Hs→aT ops i=some d→listed.getD i false=true→T i (a.tmps.getD d undef) w
 fresh:∀ i∈Fr,∀ d,aT ops i=some d→listed.getD i false=true→∀ k∈pu (a.tmps.getD d undef),w1.heap.size≤k∧k<w.heap.size
 disj:∀ i∈Fr,∀ j∈Fr,i≠j→∀ d e,aT ops i=some d→aT ops j=some e→listed.getD i false=true→listed.getD j false=true→∀ k∈pu (a.tmps.getD d undef),k ∉ pu (a.tmps.getD e undef)
theorem yc {id:Nat} (hm:P.follows .mixedOrders=true) (hok:eY ops m Hs Vs cls a0.tmps.size=true) (hsel:Region.noSelect ops.toArray=true) (hWp:∀ w w',Wp w→Ext w w'→Wp w') (hW1:Wp w1)
 (hTX:∀ i∈Hs,T i=is (X i)) (hTV:∀ i∈Vs,T i=is (X i)) (hFr:∀ i∈Fr,i<m∧i ∉ Hs) (hT:∀ i,my (T i)) (hob:∀ i o,i∈Hs→ops[i]? = some o→Lf P ops cls X Wp a0 i o) (hof:∀ i o,i<m→i ∉ Hs→ops[i]? = some o→O8 P ops cls T Fr a0 w1 i o)
 (hfin:∀ (b:Act) (w:World),Ext w1 w→b.defers=a0.defers→b.tmps.size=a0.tmps.size→Wp w→(∀ i d,i<m∨i∈Hs→aT ops i=some d→T i (b.tmps.getD d undef) w)→
  (∀ t,(∀ i,i<m∨i∈Hs→aT ops i≠some t)→b.tmps.getD t undef=a0.tmps.getD t undef)→
  (∀ i∈Fr,∀ d,aT ops i=some d→∀ k∈pu (b.tmps.getD d undef),w1.heap.size≤k∧k<w.heap.size)→
  (∀ i∈Fr,∀ j∈Fr,i≠j→∀ d e,aT ops i=some d→aT ops j=some e→∀ k∈pu (b.tmps.getD d undef),k ∉ pu (b.tmps.getD e undef))→
  mx P ops Wp Vs T (Q .normal) ((jz ops m Hs).filterMap fun i=>ops[i]?) b w):
 (Code.region id ops.toArray true).wpIn (FR ro) 0 P Q a0 w1:=by
 have hend:∀ fuel listed a w,listed.toList.count false=fuel→J4 ops m Hs Vs cls X Fr T a0 w1 listed a w→(∀ i,i<m→i ∉ Hs→i<ops.length→listed.getD i false=true)→wpAnyIn (FR ro) 0 P .any ops.toArray Q fuel listed a w:=by
  intro fuel listed a w hc I hall
  have huniqH:∀ i∈Hs,∀ d,aT ops i=some d→(∀ j,aT ops j=some d→j=i)∧d<a0.tmps.size:=fun i hi d hd=>by
   obtain ⟨o,ho,hdo⟩:=gr hd
   obtain ⟨⟨d',hd',hds,huniq⟩,_⟩:=ph hok ho hi
   rw [hdo] at hd';cases hd'
   exact ⟨huniq,hds⟩
  have hX:∀ i∈Hs,∀ d,aT ops i=some d→(iV ops X Hs a).tmps.getD d undef=X i:=fun i hi d hd=>
   p4 Hs d i hi hd (fun j _ e=>(huniqH i hi d hd).1 j e) a (by rw [I.J.size];exact(huniqH i hi d hd).2)
  have hnH:∀ t,(∀ i∈Hs,aT ops i≠some t)→(iV ops X Hs a).tmps.getD t undef=a.tmps.getD t undef:=fun t h=>mT Hs t h a
  have hFH:∀ i d,i ∉ Hs→aT ops i=some d→∀ j∈Hs,aT ops j≠some d:=fun i d hi hd j hj e=>hi ((huniqH j hj d e).1 i hd▸hj)
  have hex:∀ i d,aT ops i=some d→i<ops.length:=fun i d hd=>by obtain ⟨o,ho,_⟩:=gr hd;exact(List.getElem?_eq_some_iff.1 ho).1
  refine ue (m:=m) hok hsel hTV hob fuel listed a (iV ops X Hs a) w (jz ops m Hs) hc I.J (iN Hs a) (kp Hs a) (fun t ht=>?_) hX (hWp w1 w hW1 I.ext) (fun i hi hiH=>?_) ?_ (fun i hi=>?_) ?_
  ·by_cases hx:∃ i∈Hs,aT ops i=some t
   ·obtain ⟨i,hi,hd⟩:=hx
    rw [hX i hi t hd,I.J.doneH i t (.inl hi) hd (ht i hi hd)]
   ·exact hnH t fun i hi e=>hx ⟨i,hi,e⟩
  ·unfold jz
   simp only [List.mem_filter,List.mem_range,Bool.and_eq_true,Bool.not_eq_true',decide_eq_false_iff_not,List.contains_eq_mem]
   constructor
   ·intro h
    refine ⟨hi,fun him=>?_,hiH⟩
    rw [hall i him hiH hi] at h;cases h
   ·rintro ⟨_,h1,_⟩
    exact I.tail i (by omega) hiH
  ·exact List.Pairwise.filter _ (by rw [List.range_eq_range'];exact List.pairwise_lt_range')
  ·unfold jz at hi
   simp only [List.mem_filter,List.mem_range,Bool.and_eq_true,Bool.not_eq_true',decide_eq_false_iff_not,List.contains_eq_mem] at hi
   exact ⟨hi.1,by omega,hi.2.2⟩
  ·refine hfin _ w I.ext ((iN Hs a).trans I.defers) ((kp Hs a).trans I.J.size) (hWp w1 w hW1 I.ext) (fun i d him hd=>?_) (fun t ht=>?_) (fun i hi d hd=>?_) (fun i hi j hj hij d e hd he=>?_)
   ·by_cases hiH:i∈Hs
    ·rw [hTX i hiH,hX i hiH d hd];rfl
    ·have him':=him.resolve_right hiH
     rw [hnH d (hFH i d hiH hd)]
     exact I.done i d him' hiH hd (hall i him' hiH (hex i d hd))
   ·rw [hnH t (fun i hi=>ht i (.inr hi))]
    refine I.J.rest t fun j hj=>?_
    by_cases hjm:j<m∨j∈Hs
    ·exact absurd hj (ht j hjm)
    ·exact I.tail j (Nat.le_of_not_lt fun h=>hjm (.inl h)) (fun h=>hjm (.inr h))
   ·have hf:=hFr i hi
    rw [hnH d (hFH i d hf.2 hd)]
    exact I.fresh i hi d hd (hall i hf.1 hf.2 (hex i d hd))
   ·have hf:=hFr i hi
    have hg:=hFr j hj
    rw [hnH d (hFH i d hf.2 hd),hnH e (hFH j e hg.2 he)]
    exact I.disj i hi j hj hij d e hd he (hall i hf.1 hf.2 (hex i d hd)) (hall j hg.1 hg.2 (hex j e he))
 refine wpIn_region_any hm ?_
 have hcount:∀ (fuel:Nat) (listed:Array Bool) (a:Act) (w:World),listed.toList.count false=fuel→J4 ops m Hs Vs cls X Fr T a0 w1 listed a w→wpAnyIn (FR ro) 0 P .any ops.toArray Q fuel listed a w:=by
  intro fuel
  induction fuel with
  |zero=>
   intro listed a w hc I
   exact hend 0 listed a w hc I fun i _ _ hi=>iZ hc i (by rw [I.J.lsize];exact hi)
  |succ fuel ih=>
   intro listed a w hc I
   by_cases hall:∀ i,i<m→i ∉ Hs→i<ops.length→listed.getD i false=true
   ·exact hend _ listed a w hc I hall
   ·refine ⟨fun hr=>absurd (fun i _ _ hi=>p5 hok I.J.lsize hr i hi) hall,fun k hk=>?_⟩
    obtain ⟨o,ho,hf,hdir⟩:=dl hk
    have hkl:=(List.getElem?_eq_some_iff.1 ho).1
    have hks:k<listed.size:=by rw [I.J.lsize];exact hkl
    have hu:=hf I.J.lsize
    have hcl:∀ j∈cls.getD k [],listed.getD j false=true:=fun j hj=>by
     rcases (jZ hok ho).2 j hj with h1|⟨q,hq,h1⟩
     ·exact hdir j h1
     ·exact I.J.closed q (hdir q hq) j h1
    have hcnt:(listed.setIfInBounds k true).toList.count false=fuel:=by have:=jS hks hu;omega
    by_cases hH:k∈Hs
    ·obtain ⟨⟨d,hd,hds,huniq⟩,_,_⟩:=ph hok ho hH
     have hdk:aT ops k=some d:=by rw [cP ho,hd]
     have hput:∀ t,d≠t→(a.put o.dst (X k)).tmps.getD t undef=a.tmps.getD t undef:=fun t ht=>by rw [hd,bU,if_neg (fun h=>ht h.1)]
     have hother:∀ i e,i ∉ Hs→aT ops i=some e→d≠e:=fun i e hi he h=>hi (huniq i (by rw [he,h])▸hH)
     refine sH hok hob I.J (hWp w1 w hW1 I.ext) ho hH hu hcl (ih _ _ w hcnt ⟨I.J.stepH hok ho hH hd hcl,I.ext,by rw [hd];exact I.defers,fun i him hiH=>?_,fun i e him hiH he hl=>?_,fun i hi e he hl=>?_,fun i hi j hj hij e e2 he he2 hl hl2=>?_⟩)
     ·have:=bv hks i
      cases hb:(listed.setIfInBounds k true).getD i false with
      |false=>rfl
      |true=>rcases this.1 hb with e|e
             ·exact absurd (e▸hH) hiH
             ·rw [I.tail i him hiH] at e;cases e
     ·rw [hput e (hother i e hiH he)]
      exact I.done i e him hiH he (((bv hks i).1 hl).resolve_left fun h=>hiH (h▸hH))
     ·have h9:=hFr i hi
      rw [hput e (hother i e h9.2 he)]
      exact I.fresh i hi e he (((bv hks i).1 hl).resolve_left fun h=>h9.2 (h▸hH))
     ·have h9:=hFr i hi
      have h8:=hFr j hj
      rw [hput e (hother i e h9.2 he),hput e2 (hother j e2 h8.2 he2)]
      exact I.disj i hi j hj hij e e2 he he2 (((bv hks i).1 hl).resolve_left fun h=>h9.2 (h▸hH)) (((bv hks j).1 hl2).resolve_left fun h=>h8.2 (h▸hH))
    ·have hkm:k<m:=by
      rcases Nat.lt_or_ge k m with h3|h3
      ·exact h3
      ·exfalso
       apply hall
       intro i him hiH _
       exact hcl i ((Cc hok ho hH h3).1 i (by omega) hiH)
     obtain ⟨⟨d,hd,hds,huniq⟩,hlook⟩:=Iv hok ho hH hkm
     have hdk:aT ops k=some d:=by rw [cP ho,hd]
     have hother:∀ i e,i<m→aT ops i=some e→i≠k→d≠e:=fun i e him he hne h=>hne (huniq i him (by rw [he,h]))
     have hslots:∀ t∈o.looksAt ops.toArray,ep ops T (cls.getD k []) a0 a w t:=fun t ht=>by
      unfold ep
      cases hw:dY ops (cls.getD k []) t with
      |some j=>
       obtain ⟨hmj,oj,hj,hdj⟩:=eU hw
       have hdj':aT ops j=some t:=by rw [cP hj,hdj]
       have hlj:=hcl j hmj
       by_cases hjH:j∈Hs
       ·show T j _ w
        rw [hTX j hjH,I.J.doneH j t (.inl hjH) hdj' hlj];rfl
       ·have hjm:j<m:=by
         rcases Nat.lt_or_ge j m with h|h
         ·exact h
         ·rw [I.tail j h hjH] at hlj;cases hlj
        exact I.done j t hjm hjH hdj' hlj
      |none=>
       refine I.J.rest t fun j hdj=>?_
       cases hb:listed.getD j false with
       |false=>rfl
       |true=>
        have hjx:j<m∨j∈Hs:=by
         by_cases hjH:j∈Hs
         ·exact .inr hjH
         ·rcases Nat.lt_or_ge j m with h|h
          ·exact .inl h
          ·rw [I.tail j h hjH] at hb;cases hb
        obtain ⟨oj,h1,h2⟩:=gr hdj
        rcases hlook t ht j hjx hdj with h|h
        ·exact absurd h (gU hw j oj h1 h2)
        ·have:=I.J.closed j hb k h;rw [hu] at this;cases this
     have step:∀ v w',T k v w'→Ext w w'→(k∈Fr→∀ q∈pu v,w.heap.size≤q∧q<w'.heap.size)→wpAnyIn (FR ro) 0 P .any ops.toArray Q fuel (listed.setIfInBounds k true) (a.put o.dst v) w':=fun v w' hv hE hfr=>by
      have hself:(a.put o.dst v).tmps.getD d undef=v:=by rw [hd,bU,if_pos ⟨rfl,by rw [I.J.size];exact hds⟩]
      have hput:∀ t,d≠t→(a.put o.dst v).tmps.getD t undef=a.tmps.getD t undef:=fun t ht=>by rw [hd,bU,if_neg (fun h=>ht h.1)]
      refine ih _ _ w' hcnt ⟨I.J.stepT hok ho hH v (fun hkV=>by rw [hTV k hkV] at hv;exact hv) hcl,I.ext.trans hE,by rw [hd];exact I.defers,fun i him hiH=>?_,fun i e him hiH he hl=>?_,fun i hi e he hl=>?_,fun i hi j hj hij e e2 he he2 hl hl2=>?_⟩
      ·have:=bv hks i
       cases hb:(listed.setIfInBounds k true).getD i false with
       |false=>rfl
       |true=>rcases this.1 hb with e|e
              ·omega
              ·rw [I.tail i him hiH] at e;cases e
      ·by_cases hik:i=k
       ·subst hik
        rw [hdk] at he;cases he
        rw [hself];exact hv
       ·rw [hput e (hother i e him he hik)]
        exact hT i _ _ _ (I.done i e him hiH he (((bv hks i).1 hl).resolve_left hik)) hE
      ·have h9:=hFr i hi
       by_cases hik:i=k
       ·subst hik
        rw [hdk] at he;cases he
        rw [hself]
        intro q hq
        have:=hfr hi q hq
        exact ⟨Nat.le_trans I.ext.le this.1,this.2⟩
       ·rw [hput e (hother i e h9.1 he hik)]
        intro q hq
        have:=I.fresh i hi e he (((bv hks i).1 hl).resolve_left hik) q hq
        exact ⟨this.1,Nat.lt_of_lt_of_le this.2 hE.le⟩
      ·have h9:=hFr i hi
       have h8:=hFr j hj
       by_cases hik:i=k
       ·subst hik
        have hjk:j≠i:=fun e=>hij e.symm
        rw [hdk] at he;cases he
        rw [hself,hput e2 (hother j e2 h8.1 he2 hjk)]
        intro q hq AF
        have h1:=hfr hi q hq
        have h2:=I.fresh j hj e2 he2 (((bv hks j).1 hl2).resolve_left hjk) q AF
        omega
       ·rw [hput e (hother i e h9.1 he hik)]
        by_cases hjk:j=k
        ·subst hjk
         rw [hdk] at he2;cases he2
         rw [hself]
         intro q hq AF
         have h1:=hfr hj q AF
         have h2:=I.fresh i hi e he (((bv hks i).1 hl).resolve_left hik) q hq
         omega
        ·rw [hput e2 (hother j e2 h8.1 he2 hjk)]
         exact I.disj i hi j hj hij e e2 he he2 (((bv hks i).1 hl).resolve_left hik) (((bv hks j).1 hl2).resolve_left hjk)
     have hO:=hof k o hkm hH ho a w I.ext I.J.size I.defers hslots
     have ho':ops.toArray[k]? = some o:=by simpa using ho
     unfold wpOpIn
     simp only [ho']
     split
     ·rename_i hw
      rw [if_pos hw] at hO
      exact hO.wp fun v w' ⟨h1,h2,h3⟩=>step v w' h1 h2 h3
     ·rename_i hw
      rw [if_neg hw] at hO
      exact ⟨fun _ _=>trivial,step undef w hO (Ext.refl w) fun _ q hq=>by cases hq⟩
 refine hcount _ _ _ _ (by simp) ⟨⟨rfl,by simp,fun i d _ _ h=>?_,fun _ _=>rfl,fun i h=>?_⟩,(Ext.refl w1).drew,rfl,fun i _ _=>?_,fun i d _ _ _ h=>?_,fun i _ d _ h=>?_,fun i _ j _ _ d e _ _ h=>?_⟩
 ·simp [Array.getElem?_replicate] at h;split at h<;>simp at h
 ·simp [Array.getElem?_replicate] at h;split at h<;>simp at h
 ·simp [Array.getElem?_replicate];split<;>rfl
 ·simp [Array.getElem?_replicate] at h;split at h<;>simp at h
 ·simp [Array.getElem?_replicate] at h;split at h<;>simp at h
 ·simp [Array.getElem?_replicate] at h;split at h<;>simp at h
end law
section
variable {P:Program} {ops:List Oper} {cls:List (List Nat)} {Ts:List cW} {a0:Act}
theorem Jq {ro:Option Nat} {id N:Nat} {L:List (Nat × Value)} {Df:List Deferred} {tl:List Oper} {B:List Own} {w0 w1:World} {Q:Exit→Act→World→Prop} (m:Nat) (Hs Vs Fr:List Nat) (cls:List (List Nat)) (Ts:List cW) (Wp:World→Prop)
 (h:Sl N a0 L Df) (s:St w0 B w1) (hm:P.follows .mixedOrders=true) (hok:eY ops m Hs Vs cls N=true) (hsel:Region.noSelect ops.toArray=true) (hfr:Mp m Hs Fr=true) (htl:((jz ops m Hs).filterMap fun i=>ops[i]?)=tl)
 (hWp:∀ w w',Wp w→Ext w w'→Wp w') (hW1:Wp w1) (hX:MD Ts Hs) (hV:MD Ts Vs) (hT:GL Ts) (hob:G6 P ops m Hs Fr cls Ts Wp N Df a0 w1 ops 0)
 (hfin:∀ (b:Act) (w:World),Ext w1 w→b.tmps.size=N→b.defers=Df→Wp w→(∀ i d,(decide (i<m) || Hs.contains i)=true→aT ops i=some d→pM Ts i (b.tmps.getD d undef) w)→
  (∀ t,((List.range ops.length).all fun i => !(decide (i<m) || Hs.contains i) || decide (aT ops i≠some t))=true→b.tmps.getD t undef=a0.tmps.getD t undef)→
  (∀ i d,Fr.contains i=true→aT ops i=some d→∀ k∈pu (b.tmps.getD d undef),w1.heap.size≤k)→
  (∀ i j d e,Fr.contains i=true→Fr.contains j=true→i≠j→aT ops i=some d→aT ops j=some e→∀ k∈pu (b.tmps.getD d undef),k ∉ pu (b.tmps.getD e undef))→
  mx P ops Wp Vs (pM Ts) (Q .normal) tl b w):
 (Code.region id ops.toArray true).wpIn (FR ro) 0 P Q a0 w1:=by
 have hsz:=h.size
 obtain ⟨X,hXX⟩:∃ X:Nat→Value,∀ i,i∈Hs∨i∈Vs→pM Ts i=is (X i):=by
  have h1:∀ i,∃ x,i∈Hs∨i∈Vs→pM Ts i=is x:=fun i=>by
   by_cases hi:i∈Hs∨i∈Vs
   ·rcases hi with hi|hi
    ·obtain ⟨x,hx⟩:=pG hX i hi
     exact ⟨x,fun _=>hx⟩
    ·obtain ⟨x,hx⟩:=pG hV i hi
     exact ⟨x,fun _=>hx⟩
   ·exact ⟨undef,fun h9=>absurd h9 hi⟩
  obtain ⟨X,h2⟩:=Classical.axiomOfChoice h1
  exact ⟨X,h2⟩
 refine yc (m:=m) (Hs:=Hs) (Vs:=Vs) (cls:=cls) (X:=X) (Wp:=Wp) (Fr:=Fr) (T:=pM Ts) hm (by rw [hsz];exact hok) hsel hWp hW1 (fun i hi=>hXX i (.inl hi)) (fun i hi=>hXX i (.inr hi)) (fun i hi=>?_) (oO hT) (fun i o hi ho=>?_) (fun i o him hi ho=>?_) fun b w hE hd hs hw hTs hR hF hD=>?_
 ·have:=List.all_eq_true.1 hfr i hi
  simpa using this
 ·have hx:=lF hob i o ho
  rw [Nat.zero_add] at hx
  unfold Bl at hx
  rw [if_pos (by simpa using hi)] at hx
  obtain ⟨⟨d,hdd,hds,_⟩,hg,hlk⟩:=ph hok ho hi
  intro a w hwp hs hsl
  have h1:=hx a w d hdd hwp (hs.trans hsz) fun t ht=>by
   have h2:=hsl t ht
   unfold ep at h2 ⊢
   cases hwr:dY ops (cls.getD i []) t with
   |none=>rw [hwr] at h2;exact h2
   |some j=>
    rw [hwr] at h2
    obtain ⟨hmj,oj,hj,hdj⟩:=eU hwr
    have hjH:j∈Hs∨j∈Vs:=by
     rcases hlk t ht j (by rw [cP hj,hdj]) with h3|h3
     ·exact h3.2
     ·have h4:=zd hok i (List.getElem?_eq_some_iff.1 ho).1 j hmj
      have h5:=zd hok j (List.getElem?_eq_some_iff.1 hj).1 i h3
      omega
    show pM Ts j _ w
    rw [hXX j hjH];exact h2
  unfold bX at h1
  rw [if_pos (by simp [Region.wanted,hg])] at h1
  refine h1.mono fun v w' h3=>?_
  unfold bX KH at h3
  rw [hdd,bU,if_pos ⟨rfl,by rw [hs,hsz];exact hds⟩,hXX i (.inl hi)] at h3
  exact h3
 ·have hx:=lF hob i o ho
  rw [Nat.zero_add] at hx
  unfold Bl at hx
  rw [if_neg (by simpa using hi),if_pos him] at hx
  obtain ⟨⟨d,hdd,hds,_⟩,_⟩:=Iv hok ho hi him
  intro a w hE hs hdf hsl
  have h1:=hx a w d hdd hE (hs.trans hsz) (hdf.trans h.defers) hsl
  have hlt:d<a.tmps.size:=by rw [hs,hsz];exact hds
  unfold bX at h1
  split at h1
  ·rename_i hw
   rw [if_pos hw]
   refine h1.mono fun v w' h3=>?_
   unfold bX KF at h3
   rw [hdd,bU,if_pos ⟨rfl,hlt⟩] at h3
   exact ⟨h3.1,h3.2.1,fun hf=>h3.2.2 (by simpa using hf)⟩
  ·rename_i hw
   rw [if_neg hw]
   unfold bX KF at h1
   rw [hdd,bU,if_pos ⟨rfl,hlt⟩] at h1
   exact h1.1
 ·rw [htl]
  refine hfin b w hE (hs.trans hsz) (hd.trans h.defers) hw (fun i d hi hdi=>hTs i d (by simpa using hi) hdi) (fun t ht=>hR t fun i hi hdi=>?_) (fun i d hi hdi k hk=>(hF i (by simpa using hi) d hdi k hk).1) (fun i j d e hi hj hij hdi hdj=>hD i (by simpa using hi) j (by simpa using hj) hij d e hdi hdj)
  obtain ⟨o,ho,_⟩:=gr hdi
  have hb:(decide (i<m) || Hs.contains i)=true:=by
   rcases hi with h3|h3
   ·rw [decide_eq_true h3];rfl
   ·rw [List.contains_iff_mem.2 h3,Bool.or_true]
  have h2:=List.all_eq_true.1 ht i (List.mem_range.2 (List.getElem?_eq_some_iff.1 ho).1)
  rw [hb,hdi] at h2
  simp at h2
end
section
variable {P:Program} {ops:List Oper} {Vs:List Nat} {T:Nat→cW} {K:Act→World→Prop} {Wp:World→Prop} {o:Oper} {l:List Oper} {a:Act} {w:World}
theorem mx.cons (h:bX P ops.toArray (fun a w=>Wp w∧ER ops Vs T o a w∧mx P ops Wp Vs T K l a w) [o] a w):mx P ops Wp Vs T K (o::l) a w:=h
theorem mx.nil (h:K a w):mx P ops Wp Vs T K [] a w:=h
def Oa (ops:List Oper) (Vs:List Nat) (o:Oper):Bool:=Vs.all fun i=>match aT ops i with|some d=>decide (o.dst≠some d)|none=>true
theorem ER.no (h:Oa ops Vs o=true):ER ops Vs T o a w:=fun i hi d hd ho=>by
 have:=List.all_eq_true.1 h i hi
 rw [hd] at this
 simp [ho] at this
theorem ER.one {i d:Nat} (hd:o.dst=some d) (hi:aT ops i=some d) (hn:(Vs.all fun j=>j == i || decide (aT ops j≠some d))=true) (h:T i (a.tmps.getD d undef) w):ER ops Vs T o a w:=fun j hj e he ho=>by
 rw [hd] at ho
 cases ho
 have:=List.all_eq_true.1 hn j hj
 rw [he] at this
 have hji:j=i:=by simpa using this
 rw [hji];exact h
end
end Go.Proofs.YtobfeflheaobiaaGreatDoor
