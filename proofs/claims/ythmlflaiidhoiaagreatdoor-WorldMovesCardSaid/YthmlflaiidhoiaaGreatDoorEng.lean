/- The engine: laws of a walk, operation by operation, over any program; no Go in it. -/
import Derived.WalkKit
import Derived.ProofKit
import Derived.OrdersIn
import Derived.Sort.LoopGhostIn
import Derived.TacticsIn
import Derived.RangeFuncIn
import Derived.RangeFuncRecord
import Derived.Deep.LoopGhost
import Derived.Laws.AppendOwn
import Derived.IntWalk
import Derived.Laws.Tables
import Derived.Laws.Rows
set_option linter.unusedVariables false
set_option linter.unusedSimpArgs false
set_option linter.unusedSectionVars false
namespace Go.Proofs.YthmlflaiidhoiaaGreatDoor
open Go.RowKit
abbrev aG7:=@List.Sublist.cons_cons
abbrev aG8:=@List.Sublist.cons
abbrev aG9:=@of_decide_eq_true
abbrev aH0:=@of_decide_eq_false
abbrev aH1:=@decide_eq_false
abbrev aH2:=@decide_eq_true
abbrev aH3:=@congrArg
abbrev aH4:=@List.getElem?_eq_some_iff
abbrev aH5:=@Bool.and_eq_true
abbrev aH6:=@List.all_eq_true
abbrev aH7:=@List.length_append
abbrev aH8:=@List.getElem?_eq_getElem
abbrev aH9:=@Result.andThen_ok
abbrev aI0:=@decide_eq_true_eq
abbrev aI1:=@run_underlying
abbrev aI2:=@Array.length_toList
abbrev aI3:=@decide_eq_decide
abbrev aI4:=@List.mem_singleton
abbrev aI5:=@List.mem_cons_self
abbrev aI6:=@List.mem_cons
abbrev aI7:=@List.mem_range
abbrev aI8:=@List.sublist_append_right
abbrev aI9:=@List.not_mem_nil
abbrev aJ0:=@List.nil_sublist
abbrev aJ1:=@Nat.le_refl
abbrev aJ2:=@List.sublist_cons_self
abbrev aJ3:=@Nat.zero_le
abbrev aJ4:=@Nat.lt_or_ge
abbrev aJ5:=@List.mem_cons_of_mem
abbrev aJ6:=@List.getD_eq_getElem?_getD
abbrev aJ7:=@List.take_append_drop
abbrev aJ8:=@List.getElem?_toArray
abbrev aJ9:=@List.take_of_length_le
abbrev aK0:=@Array.getElem?_eq_none
abbrev aK1:=@Array.getElem?_setIfInBounds_ne
abbrev aK2:=@List.length_drop
abbrev aK3:=@Array.getElem?_replicate
abbrev aK4:=@List.mem_filter
abbrev aK5:=@List.length_cons
abbrev aK6:=@List.length_nil
abbrev aK7:=@List.getElem?_append_right
abbrev aK8:=@List.getElem?_append_left
abbrev aK9:=@List.mem_append
abbrev aL0:=@List.length_take
abbrev aL1:=@List.length_map
abbrev aL2:=@List.length_filter_le
abbrev aL3:=@wpIn_ret
abbrev aL4:=@wpIn_block
abbrev aL5:=@wpIn_exit
abbrev aL6:=@wpIn_loop_ghost
abbrev aL7:=@Sem.run_bind
abbrev aL8:=@Sem.run_pure
abbrev aL9:=@List.mem_map
abbrev aM0:=@List.getElem?_map
abbrev aM1:=@List.getElem?_eq_none
abbrev aM2:=@List.flatMap_append
abbrev aM3:=@List.append_assoc
abbrev aM4:=@List.append_nil
abbrev aM5:=@Nat.le_trans
abbrev aM6:=@Nat.not_lt_zero
abbrev aM7:=@List.contains_iff_mem
abbrev aM8:=@Prod.mk.injEq
abbrev aM9:=@List.getElem?_cons_succ
abbrev aN0:=@Option.some.inj
abbrev aN1:=@List.getElem_mem
abbrev aN2:=@List.getElem_of_mem
abbrev aN3:=@Array.getElem?_append_left
abbrev aN4:=@List.any_eq_true
abbrev aN5:=@List.any_eq_false
abbrev aN6:=@Bool.eq_iff_iff
abbrev aN7:=@List.getElem?_take_of_lt
abbrev aN8:=@List.getElem?_drop
abbrev aN9:=@Array.getElem?_toList
abbrev aO0:=@Array.getElem?_eq_getElem
abbrev aO1:=@Array.getElem?_eq_some_iff
abbrev aO2:=@List.perm_middle
abbrev aO3:=@List.Perm.swap
abbrev aO4:=@List.filter_append
abbrev aO5:=@List.map_append
abbrev aO6:=@Nat.mod_lt
abbrev aO7:=@absurd
abbrev FR (ro:Option Nat):Fence:={Fence.wide with round:=ro}
structure Ext (w w':World):Prop extends Below w.heap.size w w' where
 drawn:w.drawn<=w'.drawn
theorem Ext.refl (w:World):Ext w w:=⟨Below.refl _ _,aJ1 _⟩
theorem Ext.trans {a b c:World} (h:Ext a b) (k:Ext b c):Ext a c:=⟨Below.trans h.toBelow (Below.mono k.toBelow h.size),aM5 h.drawn k.drawn⟩
theorem Ext.drew {a w:World} (h:Ext a w):Ext a w.drew:=⟨Below.drew h.toBelow,Nat.le_succ_of_le h.drawn⟩
theorem Ext.alloc {a w:World} (h:Ext a w) (o:Obj):Ext a (w.alloc o):=⟨Below.alloc h.toBelow h.size o,h.drawn⟩
theorem Ext.heap {w w':World} (h:Ext w w') {k:Nat} (hk:k<w.heap.size):w'.heap[k]? = w.heap[k]? := h.block k hk
theorem Ext.cell {w w':World} (h:Ext w w') {p:Addr} (hp:p.block<w.heap.size):w'.cell? p=w.cell? p:=Below.cell h.toBelow hp
theorem Ext.le {w w':World} (h:Ext w w'):w.heap.size<=w'.heap.size:=h.size
def dp (P:Program) (o:Oper) (ρ:Operand->Value) (w:World) (R:Value->World->Prop):Prop:=
 match (execOp ρ o).run P w with
 |.ok (.value v) w'=>R v w'
 |.ok .skip w'=>R undef w'
 |.ok (.enter f args) w'=>Calls P f args w' λe w''=>∃ v,e=.returned v/\R v w''
 |.ok (.round l f tmps assign body) w'=>RoundIn Fence.wide 0 P l f tmps assign body w' λe w''=>∃ v,e=.returned v/\R v w''
 |_=>False
theorem dp.mono {P:Program} {o:Oper} {ρ:Operand->Value} {w:World} {R R':Value->World->Prop} (h:dp P o ρ w R) (hr:∀ v w',R v w'->R' v w'):dp P o ρ w R':=by
 unfold dp at *
 split at h
 ·exact hr _ _ h
 ·exact hr _ _ h
 ·exact h.mono λe w' ⟨v,he,r⟩=>⟨v,he,hr _ _ r⟩
 ·exact h.mono λe w' ⟨v,he,r⟩=>⟨v,he,hr _ _ r⟩
 ·exact h.elim
theorem dp.nodefer {P:Program} {o:Oper} {ρ:Operand->Value} {w:World} {R:Value->World->Prop} (h:dp P o ρ w R):∀ c,o.op≠.defer c:=by
 intro c hc
 unfold dp at h
 unfold execOp at h
 simp only [hc,aL7] at h
 cases hr:(resolve ρ c o.type).run P w with
 |ok d w'=>simp [hr,Result.andThen] at h
 |halt x w'=>simp [hr,Result.andThen] at h
theorem dp.wp {P:Program} {ro:Option Nat} {o:Oper} {a:Act} {w:World} {R:Value->World->Prop} {K:Act->World->Prop} {Q:Exit->Act->World->Prop}
 (h:dp P o a.eval w R) (hk:∀ v w',R v w'->K (a.put o.dst v) w'):o.wpIn (FR ro) 0 P a w K Q:=by
 refine ⟨λ_ _=>trivial,?_⟩
 rw [Oper.semAt_eq _ _ _ h.nodefer]
 unfold dp at h
 split at h
 ·rename_i v w' e;rw [e];exact hk _ _ h
 ·rename_i w' e;rw [e];exact hk _ _ h
 ·rename_i f args w' e;rw [e]
  refine And.intro (λhh=>(by cases hh)) (callsIn_wide.2 (h.mono ?_))
  rintro e w' ⟨v,he,r⟩;subst he;exact hk _ _ r
 ·rename_i l f tmps assign body w' e;rw [e]
  refine And.intro (λhh=>(by cases hh)) (RoundIn.mono (F:=FR ro) h ?_)
  rintro e w' ⟨v,he,r⟩;subst he;exact hk _ _ r
 ·exact h.elim
abbrev ez:=Value->World->Prop
def ac4 (T:ez):Prop:=∀ v w w',T v w->Ext w w'->T v w'
def is (X:Value):ez:=λv _=>v=X
theorem Re (X:Value):ac4 (is X):=λ_ _ _ h _=>h
section region
variable (P:Program) (ops:List Oper) (m:Nat) (cls:List (List Nat)) (T:Nat->ez)
def gi (cl:List Nat) (t:Tmp):Option Nat:=cl.find? λj=>decide ((ops[j]?).bind (·.dst)=some t)
def xw (cl:List Nat) (a0 a:Act) (w:World) (t:Tmp):Prop:=
 match gi ops cl t with
 |some j=>T j (a.tmps.getD t undef) w
 |none=>a.tmps.getD t undef=a0.tmps.getD t undef
def Ob (a0:Act) (w0:World) (i:Nat) (o:Oper):Prop:=
 ∀ a w,Ext w0 w->a.tmps.size=a0.tmps.size->(∀ t∈o.looksAt ops.toArray,xw ops T (cls.getD i []) a0 a w t)->
  if Region.wanted o (yielded ops.toArray a.tmps) then dp P o a.eval w (λv w'=>T i v w'/\Ext w w') else T i undef w
def ep (o:Oper):List Nat:=(o.after.toList.filter λe=>Region.binds .any e).map (·.on)
def Rj (size:Nat) (i:Nat) (o:Oper):Bool:=
 (match o.dst with|some d=>decide (d<size) && (List.range m).all (λj=>j == i || decide ((ops[j]?).bind (·.dst)≠some d))|none=>false) &&
 (ep o).all (λj=>decide (j<i)) &&
 (cls.getD i []).all (λj=>(ep o).contains j || (ep o).any λk=>(cls.getD k []).contains j) &&
 (o.looksAt ops.toArray).all (λt=>(List.range m).all λj=>decide ((ops[j]?).bind (·.dst)≠some t) || (cls.getD i []).contains j || (cls.getD j []).contains i)
def Mr (i:Nat) (o:Oper):Bool:=
 (ep o).all (λj=>decide (j<i)) && (List.range i).all (λj=>(ep o).contains j || (ep o).any λk=>decide (k<m) && (cls.getD k []).contains j || decide (m<=k) && decide (j<k))
def jU (size:Nat):Bool:=decide (m<=ops.length) && (List.range ops.length).all λi=>match ops[i]? with|some o=>if i<m then Rj ops m cls size i o else Mr m cls i o|none=>false
end region
structure Inv (ops:List Oper) (m:Nat) (cls:List (List Nat)) (T:Nat->ez) (a0:Act) (w0:World) (listed:Array Bool) (a:Act) (w:World):Prop where
 ext:Ext w0 w
 defers:a.defers=a0.defers
 size:a.tmps.size=a0.tmps.size
 lsize:listed.size=ops.length
 tail:∀ i,m<=i->listed.getD i false=false
 done:∀ i o d,i<m->ops[i]? = some o->o.dst=some d->listed.getD i false=true->T i (a.tmps.getD d undef) w
 rest:∀ t,(∀ i o,i<m->ops[i]? = some o->o.dst=some t->listed.getD i false=false)->a.tmps.getD t undef=a0.tmps.getD t undef
 closed:∀ i,listed.getD i false=true->∀ j∈cls.getD i [],listed.getD j false=true
theorem F5 {ops:List Oper} {m:Nat} {cls:List (List Nat)} {size:Nat} (h:jU ops m cls size=true):m<=ops.length:=by
 unfold jU at h;simp only [aH5,aI0] at h;exact h.1
theorem kl {ops:List Oper} {m:Nat} {cls:List (List Nat)} {size:Nat} (h:jU ops m cls size=true) {i:Nat} {o:Oper} (hi:ops[i]? = some o) (him:i<m):Rj ops m cls size i o=true:=by
 unfold jU at h
 simp only [aH5] at h
 have hlt:i<ops.length:=(aH4.1 hi).1
 have:=aH6.1 h.2 i (aI7.2 hlt)
 simpa [hi,him] using this
theorem n8 {ops:List Oper} {m:Nat} {cls:List (List Nat)} {size:Nat} (h:jU ops m cls size=true) {i:Nat} {o:Oper} (hi:ops[i]? = some o) (him:m<=i):
 (∀ j∈ep o,j<i)/\∀ j,j<i->j∈ep o∨∃ k∈ep o,(k<m/\j∈cls.getD k [])∨(m<=k/\j<k):=by
 unfold jU at h
 simp only [aH5] at h
 have hlt:i<ops.length:=(aH4.1 hi).1
 have h1:=aH6.1 h.2 i (aI7.2 hlt)
 have hn:¬ i<m:=by omega
 simp only [hi,if_neg hn,Mr,aH5] at h1
 refine ⟨λj hj=>by simpa using aH6.1 h1.1 j hj,λj hj=>?_⟩
 have:=aH6.1 h1.2 j (aI7.2 hj)
 simpa using this
theorem jp {ops:List Oper} {m:Nat} {cls:List (List Nat)} {size i:Nat} {o:Oper} (h:Rj ops m cls size i o=true):
 (∃ d,o.dst=some d/\d<size/\∀ j oj,j<m->ops[j]? = some oj->oj.dst=some d->j=i)/\
 (∀ j∈ep o,j<i)/\
 (∀ j∈cls.getD i [],j∈ep o∨∃ k∈ep o,j∈cls.getD k [])/\
 (∀ t∈o.looksAt ops.toArray,∀ j oj,j<m->ops[j]? = some oj->oj.dst=some t->j∈cls.getD i []∨i∈cls.getD j []):=by
 unfold Rj at h
 simp only [aH5] at h
 obtain ⟨⟨⟨h1,h2⟩,h3⟩,h4⟩:=h
 refine ⟨?_,?_,?_,?_⟩
 ·cases hd:o.dst with
  |none=>simp [hd] at h1
  |some d=>
   simp only [hd,aH5,aI0] at h1
   refine ⟨d,rfl,h1.1,λj oj hlt hj hdj=>?_⟩
   have:=aH6.1 h1.2 j (aI7.2 hlt)
   simpa [hj,hdj] using this
 ·intro j hj
  have:=aH6.1 h2 j hj
  simpa using this
 ·intro j hj
  have:=aH6.1 h3 j hj
  simpa using this
 ·intro t ht j oj hlt hj hdj
  have h5:=aH6.1 h4 t ht
  have:=aH6.1 h5 j (aI7.2 hlt)
  simp [hj,hdj] at this
  simpa using this
theorem ng {ops:List Oper} {cl:List Nat} {t:Tmp} {j:Nat} (h:gi ops cl t=some j):j∈cl/\∃ oj,ops[j]? = some oj/\oj.dst=some t:=by
 unfold gi at h
 have h1:=List.mem_of_find?_eq_some h
 have h2:=List.find?_some h
 refine ⟨h1,?_⟩
 simp only [aI0] at h2
 cases hj:ops[j]? with
 |none=>simp [hj] at h2
 |some oj=>exact ⟨oj,rfl,by simpa [hj] using h2⟩
theorem qI {ops:List Oper} {cl:List Nat} {t:Tmp} (h:gi ops cl t=none) (j:Nat) (oj:Oper) (hj:ops[j]? = some oj) (hd:oj.dst=some t):j ∉ cl:=by
 unfold gi at h
 intro hm
 have:=List.find?_eq_none.1 h j hm
 simp [hj,hd] at this
theorem Act.tmps_put_size (a:Act) (d:Option Tmp) (v:Value):(a.put d v).tmps.size=a.tmps.size:=by cases d<;>simp [Act.put]
theorem zp {ops:List Oper} {m:Nat} {cls:List (List Nat)} {size:Nat} (hok:jU ops m cls size=true):∀ (i:Nat),i<m->∀ j∈cls.getD i [],j<i:=by
 intro i
 induction i using Nat.strongRecOn with
 |_ i ih=>
  intro hi j hj
  have hm:=F5 hok
  have hio:ops[i]? = some ops[i]:=by simp
  obtain ⟨_,hlt,hcl,_⟩:=jp (kl hok hio hi)
  rcases hcl j hj with h|⟨k,hk,hjk⟩
  ·exact hlt j h
  ·have:=hlt k hk
   have:=ih k this (by omega) j hjk
   omega
theorem Kg {P:Program} {ro:Option Nat} {ops:List Oper} {m:Nat} {cls:List (List Nat)} {T:Nat->ez} {a0:Act} {w0:World} {Q:Exit->Act->World->Prop}
 (hok:jU ops m cls a0.tmps.size=true) (hT:∀ i,ac4 (T i)) (hob:∀ i o,i<m->ops[i]? = some o->Ob P ops cls T a0 w0 i o)
 {listed:Array Bool} {a:Act} {w:World} (I:Inv ops m cls T a0 w0 listed a w) {i:Nat} {o:Oper} (him:i<m) (hi:ops[i]? = some o)
 (hr:∀ j∈ep o,listed.getD j false=true) (hu:listed.getD i false=false) {K:Act->World->Prop}
 (hK:∀ a' w',Inv ops m cls T a0 w0 (listed.setIfInBounds i true) a' w'->K a' w'):wpOpIn (FR ro) 0 P ops.toArray Q i K a w:=by
 obtain ⟨⟨d,hd,hds,huniq⟩,hlt,hcl,hlook⟩:=jp (kl hok hi him)
 have hil:i<ops.length:=(aH4.1 hi).1
 have hclosed:∀ j∈cls.getD i [],listed.getD j false=true:=λj hj=>by
  rcases hcl j hj with h|⟨k,hk,hjk⟩
  ·exact hr j h
  ·exact I.closed k (hr k hk) j hjk
 have hslots:∀ t∈o.looksAt ops.toArray,xw ops T (cls.getD i []) a0 a w t:=λt ht=>by
  unfold xw
  cases hw:gi ops (cls.getD i []) t with
  |some j=>
   obtain ⟨hm,oj,hj,hdj⟩:=ng hw
   have:=zp hok i him j hm
   exact I.done j oj t (by omega) hj hdj (hclosed j hm)
  |none=>
   refine I.rest t λj oj hjm hj hdj=>?_
   have hnot:=qI hw j oj hj hdj
   have hin:=(hlook t ht j oj hjm hj hdj).resolve_left hnot
   cases hb:listed.getD j false with
   |false=>rfl
   |true=>have:=I.closed j hb i hin;rw [hu] at this;cases this
 have hset:∀ j,(listed.setIfInBounds i true).getD j false=true↔(j=i∨listed.getD j false=true):=λj=>by
  by_cases hji:i=j
  ·subst hji
   have:i<listed.size:=by rw [I.lsize];exact hil
   simp [this]
  ·have:¬ j=i:=λe=>hji e.symm
   simp [aK1 hji,this]
 have step:∀ v w',T i v w'->Ext w w'->Inv ops m cls T a0 w0 (listed.setIfInBounds i true) (a.put o.dst v) w':=λv w' hv hE=>by
  refine ⟨I.ext.trans hE,?_,?_,by simp [I.lsize],?_,?_,?_,?_⟩
  ·rw [hd];exact I.defers
  ·rw [Act.tmps_put_size];exact I.size
  ·intro j hj
   cases hb:(listed.setIfInBounds i true).getD j false with
   |false=>rfl
   |true=>
    rcases (hset j).1 hb with e|e
    ·omega
    ·rw [I.tail j hj] at e;cases e
  ·intro j oj dj hjm hj hdj hl
   rw [hd]
   by_cases hji:j=i
   ·subst hji
    rw [hi] at hj;cases hj
    rw [hd] at hdj;cases hdj
    have:d<a.tmps.size:=by rw [I.size];exact hds
    simpa [Act.put,this] using hv
   ·have hne:d≠dj:=λe=>hji (huniq j oj hjm hj (e▸hdj))
    have hold:listed.getD j false=true:=((hset j).1 hl).resolve_left hji
    have:=hT j _ _ _ (I.done j oj dj hjm hj hdj hold) hE
    simpa [Act.put,aK1 hne] using this
  ·intro t ht
   rw [hd]
   have hne:d≠t:=λe=>by
    have:=ht i o him hi (e▸hd)
    have h2:=(hset i).2 (.inl rfl)
    rw [this] at h2;cases h2
   have:=I.rest t λj oj hjm hj hdj=>by
    have:=ht j oj hjm hj hdj
    cases hb:listed.getD j false with
    |false=>rfl
    |true=>rw [(hset j).2 (.inr hb)] at this;cases this
   simpa [Act.put,aK1 hne] using this
  ·intro j hj k hk
   rcases (hset j).1 hj with e|e
   ·subst e;exact(hset k).2 (.inr (hclosed k hk))
   ·exact(hset k).2 (.inr (I.closed j e k hk))
 have hO:=hob i o him hi a w I.ext I.size hslots
 have hi':ops.toArray[i]? = some o:=by simpa using hi
 unfold wpOpIn
 simp only [hi']
 split
 ·rename_i hw
  rw [if_pos hw] at hO
  exact hO.wp λv w' ⟨h1,h2⟩=>hK _ _ (step v w' h1 h2)
 ·rename_i hw
  rw [if_neg hw] at hO
  exact ⟨λ_ _=>trivial,hK _ _ (step undef w hO (Ext.refl w))⟩
theorem lE (l:List Bool) (i:Nat) (h:l[i]? = some false):(l.set i true).count false+1=l.count false:=by
 induction l generalizing i with
 |nil=>simp at h
 |cons b l ih=>
  cases i with
  |zero=>simp at h;subst h;simp
  |succ i=>simp at h;have:=ih i h;simp [List.count_cons];omega
theorem ry {ops:List Oper} {m:Nat} {cls:List (List Nat)} {size:Nat} (hok:jU ops m cls size=true) {listed:Array Bool} (hs:listed.size=ops.length) {i:Nat} (hi:i<ops.length)
 (hb:listed.getD i false=false) (hall:∀ j,j<i->listed.getD j false=true):i∈Region.ready .any ops.toArray listed:=by
 have hio:ops[i]? = some ops[i]:=by simp [hi]
 have hlt:∀ j∈ep ops[i],j<i:=by
  by_cases him:i<m
  ·exact(jp (kl hok hio him)).2.1
  ·exact(n8 hok hio (by omega)).1
 exact mem_ready.2 ⟨by simp [hs,hi] at hb ⊢;exact hb,ops[i],by simp [hi],λe he hbd=>by
  have hm:e.on∈ep ops[i]:=aL9.2 ⟨e,aK4.2 ⟨by simpa using he,by simpa using hbd⟩,rfl⟩
  exact hall _ (hlt _ hm)⟩
theorem Ib {ops:List Oper} {m:Nat} {cls:List (List Nat)} {size:Nat} (hok:jU ops m cls size=true) {listed:Array Bool} (hs:listed.size=ops.length) (h:Region.ready .any ops.toArray listed=[]):
 ∀ i,i<ops.length->listed.getD i false=true:=by
 intro i
 induction i using Nat.strongRecOn with
 |_ i ih=>
  intro hi
  cases hb:listed.getD i false with
  |true=>rfl
  |false=>
   have:=ry hok hs hi hb (λj hj=>ih j hj (by omega))
   rw [h] at this;cases this
theorem ga {ops:List Oper} {listed:Array Bool} {i:Nat} (h:i∈Region.ready .any ops.toArray listed):∃ o,ops[i]? = some o/\(listed.size=ops.length->listed.getD i false=false)/\∀ j∈ep o,listed.getD j false=true:=by
 obtain ⟨h0,o,ho,hall⟩:=mem_ready.1 h
 have hio:ops[i]? = some o:=by simpa using ho
 refine ⟨o,hio,λhs=>?_,λj hj=>?_⟩
 ·have hil:i<listed.size:=by rw [hs];exact(aH4.1 hio).1
  simp [hil] at h0 ⊢;exact h0
 ·obtain ⟨e,he,rfl⟩:=aL9.1 hj
  obtain ⟨h1,h2⟩:=aK4.1 he
  exact hall e (by simpa using h1) (by simpa using h2)
theorem Dw {P:Program} {ro:Option Nat} {ops:List Oper} {m:Nat} {cls:List (List Nat)} {size:Nat} {Q:Exit->Act->World->Prop} (hok:jU ops m cls size=true):
 ∀ (n i:Nat) (listed:Array Bool) (a:Act) (w:World),ops.length=i+n->m<=i->listed.size=ops.length->(∀ j,j<i->listed.getD j false=true)->(∀ j,i<=j->listed.getD j false=false)->
  (∀ j,j<m->∀ k∈cls.getD j [],k<j)->wpOpsIn (FR ro) 0 P ops.toArray Q (List.range' i n) a w->wpAnyIn (FR ro) 0 P .any ops.toArray Q n listed a w:=by
 intro n
 induction n with
 |zero=>
  intro i listed a w hn him hs h1 h2 _ h
  have hq:Q .normal a w:=by simpa [wpOpsIn] using h
  refine ⟨?_,hq⟩
  cases hr:Region.ready .any ops.toArray listed with
  |nil=>rfl
  |cons x xs=>
   have hx:x∈Region.ready .any ops.toArray listed:=by rw [hr];exact aI5
   obtain ⟨o,ho,hf,_⟩:=ga hx
   have hlt:=(aH4.1 ho).1
   have:=h1 x (by omega)
   rw [hf hs] at this;cases this
 |succ n ih=>
  intro i listed a w hn him hs h1 h2 hc h
  have hi:i<ops.length:=by omega
  have hready:=ry hok hs hi (h2 i (aJ1 _)) h1
  refine ⟨λhr=>(by rw [hr] at hready;cases hready),λk hk=>?_⟩
  obtain ⟨o,ho,hf,hd⟩:=ga hk
  have hkl:=(aH4.1 ho).1
  have hki:k=i:=by
   rcases Nat.lt_trichotomy k i with h3|h3|h3
   ·have:=h1 k h3;rw [hf hs] at this;cases this
   ·exact h3
   ·rcases (n8 hok ho (by omega)).2 i h3 with h4|⟨q,hq,h4⟩
    ·have:=hd i h4;rw [h2 i (aJ1 _)] at this;cases this
    ·have hql:=hd q hq
     have hqi:q<i:=by
      rcases aJ4 q i with h5|h5
      ·exact h5
      ·rw [h2 q h5] at hql;cases hql
     rcases h4 with h4|h4
     ·have:=hc q h4.1 i h4.2;omega
     ·omega
  subst hki
  rw [List.range'_succ,wpOpsIn_cons] at h
  refine wpOpIn_mono (λa' w' h'=>ih (k+1) _ a' w' (by omega) (by omega) (by simp [hs]) (λj hj=>?_) (λj hj=>?_) hc h') h
  ·by_cases e:k=j
   ·subst e;have:k<listed.size:=by rw [hs];exact hi
    simp [this]
   ·have:=h1 j (by omega);simpa [aK1 e] using this
  ·have e:k≠j:=by omega
   have:=h2 j (by omega);simpa [aK1 e] using this
def lk:List (Nat × Value)->Nat->Option Value
 |[],_=>none
 |(k,v)::r,t=>bif Nat.beq k t then some v else lk r t
structure Sl (n:Nat) (a:Act) (L:List (Nat × Value)) (D:List Deferred:=[]):Prop where
 size:a.tmps.size=n
 defers:a.defers=D
 holds:∀ t v,lk L t=some v->a.tmps.getD t undef=v
def eI (L:List (Nat × Value)):Operand->Option Value
 |.tmp t=>lk L t
 |.const v=>some v
 |.global g=>some (.pointer (some ⟨g,0,none⟩))
 |.func f=>some (.func (.func f) #[] #[])
theorem Sl.ev {n:Nat} {a:Act} {L:List (Nat × Value)} {Df:List Deferred} (h:Sl n a L Df) {x:Operand} {v:Value} (hx:eI L x=some v):a.eval x=v:=by
 cases x with
 |tmp t=>exact h.holds t v hx
 |const u=>simpa [eI,Act.eval] using hx
 |global g=>simpa [eI,Act.eval] using hx
 |func f=>simpa [eI,Act.eval] using hx
theorem Sl.put {n:Nat} {a:Act} {L:List (Nat × Value)} {Df:List Deferred} (h:Sl n a L Df) {d:Nat} (hd:Nat.blt d n=true) (v:Value):Sl n (a.put (some d) v) ((d,v)::L) Df:=by
 have hd':d<n:=by simpa using hd
 refine ⟨by rw [Act.tmps_put_size];exact h.size,h.defers,λt u ht=>?_⟩
 by_cases e:d=t
 ·subst e
  have:d<a.tmps.size:=by rw [h.size];exact hd'
  simp [lk] at ht
  simp [Act.put,this,ht]
 ·have:lk L t=some u:=by
   have hne:Nat.beq d t=false:=by cases hb:Nat.beq d t with|false=>rfl|true=>exact aO7 (Nat.eq_of_beq_eq_true hb) e
   simpa [lk,hne] using ht
  have h2:=h.holds t u this
  simpa [Act.put,aK1 e] using h2
theorem Dt {L:List (Nat × Value)} {t:Nat} {v:Value} (h:lk L t=some v):(t,v)∈L:=by
 induction L with
 |nil=>simp [lk] at h
 |cons p r ih=>
  obtain ⟨k,u⟩:=p
  unfold lk at h
  cases hb:Nat.beq k t with
  |true=>rw [hb] at h;simp at h;have:k=t:=by simpa using hb
         subst this;subst h;exact aI5
  |false=>rw [hb] at h;exact aJ5 _ (ih h)
theorem Sl.cut {n:Nat} {a:Act} {L:List (Nat × Value)} {Df:List Deferred} (h:Sl n a L Df) (L':List (Nat × Value)) (hL:∀ p∈L',lk L p.1=some p.2):Sl n a L' Df:=
 ⟨h.size,h.defers,λt v ht=>h.holds t v (hL _ (Dt ht))⟩
theorem Sl.enter {n:Nat} {args:Array Value} (L:List (Nat × Value)) (hs:args.size<=n) (hL:∀ p∈L,args[p.1]? = some p.2):
 Sl n {tmps:=args++Array.replicate (n - args.size) undef,defers:=[]} L:=by
 refine ⟨by simp;omega,rfl,λt v ht=>?_⟩
 have h1:args[t]? = some v:=hL (t,v) (Dt ht)
 have hlt:t<args.size:=(aO1.1 h1).1
 have h2:(args++Array.replicate (n - args.size) undef)[t]? = some v:=by
  rw [aN3 hlt];exact h1
 simp only [Array.getD_eq_getD_getElem?]
 rw [h2];rfl
def cF (w:World) (base:Nat) (e:TypeId) (size:Nat) (v:Value) (n:Nat) (xs:List Value):Prop:=
 xs.length=n*size/\
 ((v=.slice none 0 0/\n=0) ∨
  ∃ g cap cur fz,v=.slice (some ⟨g,0,none⟩) n cap/\base<=g/\w.heap[g]? = some (.cells cur e fz)/\(fz.2=0∨cur.size<=fz.1)/\n<=cap/\cap<=maxLen/\cur.size=cap*size/\cur.toList.take (n*size)=xs)
theorem cF.cells {w:World} {base:Nat} {e:TypeId} {size:Nat} {v:Value} {n:Nat} {xs:List Value} (h:cF w base e size v n xs) {g:Nat} (hg:v.ownBlock=some g):∀ j u,xs[j]? = some u->w.cell? ((⟨g,0,none⟩:Addr).add j)=some u:=by
 intro j u hu
 rcases h.2 with ⟨rfl,_⟩|⟨g',cap,cur,fz,rfl,_,hgg,_,_,_,_,htake⟩
 ·simp [Value.ownBlock] at hg
 ·simp [Value.ownBlock] at hg
  subst hg
  have hadd:(⟨g',0,none⟩:Addr).add j=⟨g',j,none⟩:=by unfold Addr.add;split<;>simp_all
  rw [hadd,cell_of_row w g' j cur e fz hgg]
  rw [← htake,List.getElem?_take] at hu
  split at hu
  ·simpa using hu
  ·cases hu
inductive Own where
 |blk (b:Nat) (o:Obj)
 |sl (v:Value) (e:TypeId) (sz n:Nat) (xs:List Value)
 |grp (ks:List Nat) (S:World->Prop)
def Own.ks:Own->List Nat
 |.blk b _=>[b]
 |.sl v _ _ _ _=>v.ownBlock.toList
 |.grp ks _=>ks
def Own.at (p:Own) (k:Nat):Prop:=k∈p.ks
theorem Own.at_blk {b k:Nat} {o:Obj}:(Own.blk b o).at k↔k=b:=by simp [Own.at,Own.ks]
theorem Own.at_sl {v:Value} {e:TypeId} {sz n:Nat} {xs:List Value} {k:Nat}:(Own.sl v e sz n xs).at k↔v.ownBlock=some k:=by simp [Own.at,Own.ks]
def Own.holds (w0 w:World):Own->Prop
 |.blk b o=>w.heap[b]? = some o
 |.sl v e sz n xs=>cF w w0.heap.size e sz v n xs
 |.grp ks S=>(∀ k∈ks,k<w.heap.size)/\∀ w':World,(∀ k∈ks,w'.heap[k]? = w.heap[k]?)->S w'
theorem Own.lt {w0 w:World} {p:Own} (h:p.holds w0 w) {k:Nat} (hk:p.at k):k<w.heap.size:=by
 cases p with
 |blk b o=>rw [Own.at_blk] at hk;subst hk;exact(aO1.1 h).1
 |sl v e sz n xs=>
  rw [Own.at_sl] at hk
  rcases h.2 with ⟨hv,_⟩|⟨g,cap,cur,fz,hv,_,hg,_⟩
  ·subst hv;simp [Value.ownBlock] at hk
  ·subst hv;simp [Value.ownBlock] at hk;subst hk;exact(aO1.1 hg).1
 |grp ks S=>exact h.1 k hk
theorem Own.keep {w0 w w':World} {p:Own} (h:p.holds w0 w) (hk:∀ k,p.at k->w'.heap[k]? = w.heap[k]?):p.holds w0 w':=by
 cases p with
 |blk b o=>exact (hk b (Own.at_blk.2 rfl)).trans h
 |sl v e sz n xs=>
  refine ⟨h.1,?_⟩
  rcases h.2 with hv|⟨g,cap,cur,fz,hv,hb,hg,r⟩
  ·exact .inl hv
  ·exact .inr ⟨g,cap,cur,fz,hv,hb,by rw [hk g (Own.at_sl.2 (by rw [hv];rfl))];exact hg,r⟩
 |grp ks S=>
  refine ⟨λk hm=>?_,λw2 h2=>h.2 w2 λk hm=>(h2 k hm).trans (hk k hm)⟩
  have h1:=h.1 k hm
  have h3:=hk k hm
  rw [aO0 h1] at h3
  exact(aO1.1 h3).1
structure Grw (w w':World) (row:Option Nat):Prop extends World.grownBy w w' row where
 drawn:w.drawn<=w'.drawn
structure St (w0:World) (B:List Own) (w:World):Prop where
 ext:Ext w0 w
 has:∀ p∈B,p.holds w0 w
 own:∀ p∈B,∀ k,p.at k->w0.heap.size<=k
 nd:B.Pairwise (λp q=>∀ k,p.at k->¬ q.at k)
theorem St.start (w:World):St w [] w:=⟨Ext.refl w,by simp,by simp,List.Pairwise.nil⟩
theorem St.more {w0:World} {B:List Own} {w w':World} (h:St w0 B w) (e:Ext w w'):St w0 B w':=
 ⟨h.ext.trans e,λp hp=>Own.keep (h.has p hp) λk hk=>e.heap (Own.lt (h.has p hp) hk),h.own,h.nd⟩
theorem St.drew {w0:World} {B:List Own} {w:World} (h:St w0 B w):St w0 B w.drew:=h.more (Ext.refl w).drew
theorem St.plus {w0:World} {B:List Own} {w w':World} (h:St w0 B w) (e:Ext w w') (p:Own) (hp:p.holds w0 w') (hk:∀ k,p.at k->w.heap.size<=k):St w0 (p::B) w':=by
 have h1:=h.more e
 refine ⟨h1.ext,λq hq=>?_,λq hq k hqk=>?_,?_⟩
 ·rcases aI6.1 hq with rfl|hq
  ·exact hp
  ·exact h1.has q hq
 ·rcases aI6.1 hq with rfl|hq
  ·exact aM5 h.ext.le (hk k hqk)
  ·exact h.own q hq k hqk
 ·exact List.pairwise_cons.2 ⟨λq hq k hpk hqk=>by have:=Own.lt (h.has q hq) hqk;have:=hk k hpk;omega,h.nd⟩
theorem St.new {w0:World} {B:List Own} {w:World} (h:St w0 B w) (o:Obj):St w0 (.blk w.heap.size o::B) (w.alloc o):=
 h.plus ((Ext.refl w).alloc o) _ (heap_alloc_new w o) λk hk=>by rw [Own.at_blk] at hk;omega
theorem St.get {w0:World} {B:List Own} {w:World} (h:St w0 B w) (i:Nat) {b:Nat} {o:Obj} (hi:B[i]? = some (.blk b o)):w.heap[b]? = some o:=
 h.has (.blk b o) (List.mem_of_getElem? hi)
theorem St.getSl {w0:World} {B:List Own} {w:World} (h:St w0 B w) (i:Nat) {v:Value} {e:TypeId} {sz n:Nat} {xs:List Value} (hi:B[i]? = some (.sl v e sz n xs)):cF w w0.heap.size e sz v n xs:=
 h.has (.sl v e sz n xs) (List.mem_of_getElem? hi)
theorem St.upd {w0:World} {B:List Own} {w w':World} (h:St w0 B w) (i:Nat) {p p':Own} (hi:B[i]? = some p)
 (hos:w'.os=w.os) (htp:w'.tape=w.tape) (hout:w'.output=w.output) (hs:w.heap.size<=w'.heap.size)
 (hold:p'.holds w0 w') (hkey:∀ k,p'.at k->p.at k∨w.heap.size<=k) (hother:∀ k,k<w.heap.size->¬ p.at k->w'.heap[k]? = w.heap[k]?) (hdr:w.drawn<=w'.drawn:=by exact aJ1 _):St w0 (B.set i p') w':=by
 have hpm:=List.mem_of_getElem? hi
 have hil:i<B.length:=(aH4.1 hi).1
 have hBi:B[i]=p:=(aH4.1 hi).2
 have hnot:∀ j (hj:j<B.length),i≠j->∀ k,(B[j]).at k->¬ p.at k:=λj hj hij k hk hpk=>by
  have hpw:=List.pairwise_iff_getElem.1 h.nd
  rcases Nat.lt_or_gt_of_ne hij with hlt|hlt
  ·have:=hpw i j hil hj hlt k (by rw [hBi];exact hpk);exact this hk
  ·have:=hpw j i hj hil hlt k hk;rw [hBi] at this;exact this hpk
 refine ⟨?_,λq hq=>?_,λq hq k hqk=>?_,?_⟩
 ·refine ⟨⟨hos.trans h.ext.os,htp.trans h.ext.tape,hout.trans h.ext.output,aM5 h.ext.le hs,λk hk=>?_⟩,aM5 h.ext.drawn hdr⟩
  rw [hother k (Nat.lt_of_lt_of_le hk h.ext.le) (λe=>by have:=h.own p hpm k e;omega)];exact h.ext.heap hk
 ·obtain ⟨j,hj,rfl⟩:=aN2 hq
  by_cases hij:i=j
  ·subst hij;simp only [List.getElem_set_self];exact hold
  ·simp only [List.getElem_set_ne hij]
   have hjl:j<B.length:=by simpa using hj
   have hh:=h.has _ (aN1 hjl)
   exact Own.keep hh λk hk=>hother k (Own.lt hh hk) (hnot j hjl hij k hk)
 ·obtain ⟨j,hj,rfl⟩:=aN2 hq
  by_cases hij:i=j
  ·subst hij;simp only [List.getElem_set_self] at hqk
   rcases hkey k hqk with e|e
   ·exact h.own p hpm k e
   ·exact aM5 h.ext.le e
  ·simp only [List.getElem_set_ne hij] at hqk;exact h.own _ (aN1 _) k hqk
 ·rw [List.pairwise_iff_getElem]
  intro j m hj hm hjm k h1 h2
  have hjl:j<B.length:=by simpa using hj
  have hml:m<B.length:=by simpa using hm
  have hold2:∀ q (hq:q<B.length),i≠q->(B[q]).at k->p'.at k->False:=λq hq hiq e1 e2=>by
   rcases hkey k e2 with e|e
   ·exact hnot q hq hiq k e1 e
   ·have:=Own.lt (h.has _ (aN1 hq)) e1;omega
  by_cases e1:i=j
  ·subst e1
   have e2:i≠m:=by omega
   simp only [List.getElem_set_self] at h1
   simp only [List.getElem_set_ne e2] at h2
   exact hold2 m hml e2 h2 h1
  ·by_cases e2:i=m
   ·subst e2
    simp only [List.getElem_set_self] at h2
    simp only [List.getElem_set_ne e1] at h1
    exact hold2 j hjl e1 h1 h2
   ·simp only [List.getElem_set_ne e1] at h1
    simp only [List.getElem_set_ne e2] at h2
    exact List.pairwise_iff_getElem.1 h.nd j m hjl hml hjm k h1 h2
theorem St.store {w0:World} {B:List Own} {w:World} (h:St w0 B w) (i:Nat) {b:Nat} {C:Array Value} {t:TypeId} (hi:B[i]? = some (.blk b (.cells C t))) (j:Nat) (v:Value):
 St w0 (B.set i (.blk b (.cells (C.setIfInBounds j v) t))) (w.setCell ⟨b,j,none⟩ v):=
 h.upd i hi rfl rfl rfl (by simp) (heap_setCell_same w b j C t v (h.get i hi)) (λk hk=>.inl hk) (λk _ hk=>heap_setCell_other w ⟨b,j,none⟩ k v (λe=>hk (Own.at_blk.2 e)))
theorem St.row {w0:World} {B:List Own} {w:World} (h:St w0 B w) (i:Nat) {b:Nat} {C:Array Value} {t:TypeId} (hi:B[i]? = some (.blk b (.cells C t))) (D:Array Value):
 St w0 (B.set i (.blk b (.cells D t))) (w.setRow b D):=
 h.upd i hi rfl rfl rfl (by simp) (setRow_heap w b C D t (0,0) (h.get i hi)) (λk hk=>.inl hk) (λk _ hk=>setRow_other w b k D (λe=>hk (Own.at_blk.2 e)))
theorem St.pick {w0:World} {B:List Own} {w:World} (h:St w0 B w) (B':List Own) (hs:B'.Sublist B):St w0 B' w:=
 ⟨h.ext,λp hp=>h.has p (hs.subset hp),λp hp=>h.own p (hs.subset hp),h.nd.sublist hs⟩
theorem St.perm {w0:World} {B B':List Own} {w:World} (h:St w0 B w) (hp:B.Perm B'):St w0 B' w:=
 ⟨h.ext,λp hm=>h.has p (hp.mem_iff.2 hm),λp hm=>h.own p (hp.mem_iff.2 hm),(hp.pairwise_iff (λ{x y} hxy k hk hk'=>hxy k hk' hk)).1 h.nd⟩
def Own.all (w0:World) (A:List Own):Own:=.grp (A.flatMap Own.ks) λw'=>∀ p∈A,p.holds w0 w'
theorem St.group {w0:World} {A B:List Own} {w:World} (h:St w0 (A++B) w):St w0 (.all w0 A::B) w:=by
 have hmem:∀ k,k∈A.flatMap Own.ks↔∃ p∈A,p.at k:=λk=>by rw [List.mem_flatMap];rfl
 have hpw:=List.pairwise_append.1 h.nd
 refine ⟨h.ext,λp hp=>?_,λp hp k hk=>?_,List.pairwise_cons.2 ⟨λq hq k hk=>?_,hpw.2.1⟩⟩
 ·rcases aI6.1 hp with rfl|hp
  ·refine ⟨λk hk=>?_,λw' hw' p hp=>Own.keep (h.has p (List.mem_append_left _ hp)) λk hk=>hw' k ((hmem k).2 ⟨p,hp,hk⟩)⟩
   obtain ⟨p,hp,hk⟩:=(hmem k).1 hk
   exact Own.lt (h.has p (List.mem_append_left _ hp)) hk
  ·exact h.has p (List.mem_append_right _ hp)
 ·rcases aI6.1 hp with rfl|hp
  ·obtain ⟨p,hp,hk⟩:=(hmem k).1 hk
   exact h.own p (List.mem_append_left _ hp) k hk
  ·exact h.own p (List.mem_append_right _ hp) k hk
 ·obtain ⟨p,hp,hk⟩:=(hmem k).1 hk
  exact hpw.2.2 p hp q hq k hk
theorem St.ungroup {w0:World} {A B:List Own} {w:World} (h:St w0 (.all w0 A::B) w) (hnd:A.Pairwise λp q=>∀ k,p.at k->¬ q.at k):St w0 (A++B) w:=by
 have hmem:∀ k,k∈A.flatMap Own.ks↔∃ p∈A,p.at k:=λk=>by rw [List.mem_flatMap];rfl
 have h0:=h.has _ aI5
 have hpw:=List.pairwise_cons.1 h.nd
 refine ⟨h.ext,λp hp=>?_,λp hp k hk=>?_,List.pairwise_append.2 ⟨hnd,hpw.2,λp hp q hq k hk=>hpw.1 q hq k ((hmem k).2 ⟨p,hp,hk⟩)⟩⟩
 ·rcases aK9.1 hp with hp|hp
  ·exact h0.2 w (λ_ _=>rfl) p hp
  ·exact h.has p (aJ5 _ hp)
 ·rcases aK9.1 hp with hp|hp
  ·exact h.own _ aI5 k ((hmem k).2 ⟨p,hp,hk⟩)
  ·exact h.own p (aJ5 _ hp) k hk
def aZ (P:Program) (o:Oper) (ρ:Operand->Value) (X:Value):Prop:=∀ w,(execOp ρ o).run P w=.ok (.value X) w
theorem aZ.does {P:Program} {o:Oper} {ρ:Operand->Value} {X:Value} (h:aZ P o ρ X) {w:World} {R:Value->World->Prop} (hR:R X w):dp P o ρ w R:=by
 unfold dp;rw [h w];exact hR
section
variable {P:Program} {ρ:Operand->Value} {d:Option Tmp} {ty:TypeId} {pos:String} {af:Array Edge} {g:Option (Nat × Bool)} {x y c:Operand} {t t':TypeId} {k:IntKind} {m n:Int} {X:Value}
theorem RV (hx:ρ x=X):aZ P ⟨d,.move x,ty,pos,af,g⟩ ρ X:=λw=>by simp [execOp,hx]
theorem Hp (hx:ρ x=X):aZ P ⟨d,.assign x,ty,pos,af,g⟩ ρ X:=λw=>by simp [execOp,hx]
theorem EQ {b:Bool} (hc:ρ c=.bool b) (hX:(if b then ρ x else ρ y)=X):aZ P ⟨d,.pick c x y,ty,pos,af,g⟩ ρ X:=λw=>by simp [execOp,hc,asBool,hX]
theorem lC (op:BinOp) (k':IntKind) (w:World):(eqGuard op t x y (.int k m) (.int k' n)).run P w=.ok () w:=by
 unfold eqGuard;split<;>rfl
theorem i6 {op:BinOp} (hx:ρ x=.int k m) (hy:ρ y=.int k n) (h:∀ w,(binOp op t (.int k m) (.int k n)).run P w=.ok X w):aZ P ⟨d,.binOp op t x y t',ty,pos,af,g⟩ ρ X:=λw=>by
 simp only [execOp,hx,hy,aL7,lC,aH9,h,aL8]
theorem MJ (hx:ρ x=.int k m) (hy:ρ y=.int k n):aZ P ⟨d,.binOp .lss t x y t',ty,pos,af,g⟩ ρ (.bool (decide (m<n))):=i6 hx hy λw=>by simp [binOp,Op.intCmp]
theorem zf (hx:ρ x=.int k m) (hy:ρ y=.int k n):aZ P ⟨d,.binOp .leq t x y t',ty,pos,af,g⟩ ρ (.bool (decide (m<=n))):=i6 hx hy λw=>by simp [binOp,Op.intCmp]
theorem Jp (hx:ρ x=.int k m) (hy:ρ y=.int k n):aZ P ⟨d,.binOp .gtr t x y t',ty,pos,af,g⟩ ρ (.bool (decide (n<m))):=i6 hx hy λw=>by simp [binOp,Op.intCmp]
theorem Vi (hx:ρ x=.int k m) (hy:ρ y=.int k n):aZ P ⟨d,.binOp .geq t x y t',ty,pos,af,g⟩ ρ (.bool (decide (n<=m))):=i6 hx hy λw=>by simp [binOp,Op.intCmp]
theorem lx (hx:ρ x=.int k m) (hy:ρ y=.int k n):aZ P ⟨d,.binOp .eql t x y t',ty,pos,af,g⟩ ρ (.bool (decide (m=n))):=i6 hx hy λw=>by
 have:(m == n)=decide (m=n):=by rw [aN6];simp
 simp [binOp,Op.intCmp,this]
theorem Xd (hx:ρ x=.int k m) (hy:ρ y=.int k n):aZ P ⟨d,.binOp .neq t x y t',ty,pos,af,g⟩ ρ (.bool (decide (m≠n))):=i6 hx hy λw=>by
 have:(m != n)=decide (m≠n):=by rw [aN6];simp
 simp [binOp,Op.intCmp,this]
theorem O6 (hx:ρ x=.int k m) (hy:ρ y=.int k n):aZ P ⟨d,.binOp .add t x y t',ty,pos,af,g⟩ ρ (.int k (k.wrap (m+n))):=i6 hx hy λw=>by simp [binOp,Op.intArith]
theorem O4 (hx:ρ x=.int k m) (hy:ρ y=.int k n):aZ P ⟨d,.binOp .sub t x y t',ty,pos,af,g⟩ ρ (.int k (k.wrap (m - n))):=i6 hx hy λw=>by simp [binOp,Op.intArith]
theorem RJ (hx:ρ x=.int k m) (hy:ρ y=.int k n):aZ P ⟨d,.binOp .mul t x y t',ty,pos,af,g⟩ ρ (.int k (k.wrap (m*n))):=i6 hx hy λw=>by simp [binOp,Op.intArith]
theorem bo (hx:ρ x=.int .i64 m) (hy:ρ y=.int .i64 n) (h : -9223372036854775808<=m+n/\m+n<=9223372036854775807):aZ P ⟨d,.binOp .add t x y t',ty,pos,af,g⟩ ρ (.int .i64 (m+n)):=by
 have:=O6 (P:=P) (d:=d) (ty:=ty) (pos:=pos) (af:=af) (g:=g) (t:=t) (t':=t') hx hy;rwa [IntWalk.i64_in _ h] at this
theorem gj (hx:ρ x=.int .i64 m) (hy:ρ y=.int .i64 n) (h : -9223372036854775808<=m - n/\m - n<=9223372036854775807):aZ P ⟨d,.binOp .sub t x y t',ty,pos,af,g⟩ ρ (.int .i64 (m - n)):=by
 have:=O4 (P:=P) (d:=d) (ty:=ty) (pos:=pos) (af:=af) (g:=g) (t:=t) (t':=t') hx hy;rwa [IntWalk.i64_in _ h] at this
theorem X8 (hx:ρ x=.int .i64 m) (hy:ρ y=.int .i64 n) (h : -9223372036854775808<=m*n/\m*n<=9223372036854775807):aZ P ⟨d,.binOp .mul t x y t',ty,pos,af,g⟩ ρ (.int .i64 (m*n)):=by
 have:=RJ (P:=P) (d:=d) (ty:=ty) (pos:=pos) (af:=af) (g:=g) (t:=t) (t':=t') hx hy;rwa [IntWalk.i64_in _ h] at this
theorem Kb (hx:ρ x=.int .i64 m) (hy:ρ y=.int .i64 n) (h:0<=m/\m<=9223372036854775807/\1<=n):aZ P ⟨d,.binOp .quo t x y t',ty,pos,af,g⟩ ρ (.int .i64 (m / n)):=
 i6 hx hy λw=>by
  have h0:¬ n=0:=by omega
  simp [binOp,Op.intDiv,h0,IntWalk.i64_quo m n h]
theorem xX (hx:ρ x=.int k m) (hy:ρ y=.int k n) (h:0<=m/\1<=n):aZ P ⟨d,.binOp .rem t x y t',ty,pos,af,g⟩ ρ (.int k (m % n)):=
 i6 hx hy λw=>by
  have h0:¬ n=0:=by omega
  simp [binOp,Op.intDiv,h0,IntWalk.rem_in m n h.1]
theorem P9 (hx:ρ x=.int k m) (hy:ρ y=.int k n) (h:1<=n):aZ P ⟨d,.binOp .rem t x y t',ty,pos,af,g⟩ ρ (.int k (m.tmod n)):=
 i6 hx hy λw=>by
  have h0:¬ n=0:=by omega
  simp [binOp,Op.intDiv,h0]
theorem N8 {op:BinOp} {k':IntKind} (hop:op=.shl∨op=.shr) (hx:ρ x=.int k m) (hy:ρ y=.int k' n) (h:∀ w,(Op.shift op k m k' n).run P w=.ok X w):aZ P ⟨d,.binOp op t x y t',ty,pos,af,g⟩ ρ X:=λw=>by
 rcases hop with rfl|rfl<;>simp only [execOp,hx,hy,aL7,lC,aH9,binOp,h,aL8]
theorem Jh {k':IntKind} (hx:ρ x=.int k m) (hy:ρ y=.int k' n) (h:0<=n):aZ P ⟨d,.binOp .shr t x y t',ty,pos,af,g⟩ ρ (.int k (m.fdiv (2 ^ (min n.toNat k.bits)))):=
 N8 (.inr rfl) hx hy fun w=>by have h0:¬ n<0:=by omega
                               simp [Op.shift,h0]
theorem UW {b:Bool} (hx:ρ x=.bool b):aZ P ⟨d,.unOp .not t x,ty,pos,af,g⟩ ρ (.bool (!b)):=λw=>by simp [execOp,hx,Op.unary]
theorem Fe {k':IntKind} {s:TypeDesc} (hs:P.underlying t=some s) (ht:P.underlying t'=some (.int k')) (hx:ρ x=.int k m):aZ P ⟨d,.convert t t' x,ty,pos,af,g⟩ ρ (.int k' (k'.wrap m)):=λw=>by
 simp [execOp,hx,convert,aL7,aI1 hs,aI1 ht,Conv.intToInt]
theorem CR {vs:Array Value} {i:Nat} (hx:ρ x=.tuple vs) (hi:vs[i]? = some X):aZ P ⟨d,.extract x i,ty,pos,af,g⟩ ρ X:=λw=>by
 simp [execOp,hx,Instr.extract,hi]
theorem xD {b len:Nat} {e:TypeId} (ht:P.underlying t=some (.array len e)) (he:(P.info? e).map (·.size)=some 1) (hx:ρ x=.pointer (some ⟨b,0,none⟩)) (hy:ρ y=.int k m)
 (hm:0<=m/\m<len):aZ P ⟨d,.indexAddr t x y,ty,pos,af,g⟩ ρ (.pointer (some ⟨b,m.toNat,none⟩)):=λw=>by
 cases hi:P.info? e with
 |none=>simp [hi] at he
 |some i=>
  have h1:i.size=1:=by simpa [hi] using he
  have ha:(⟨b,0,none⟩:Addr).add m.toNat=⟨b,m.toNat,none⟩:=by unfold Addr.add;split<;>simp_all
  simp [execOp,hx,hy,Instr.indexAt,asIntOf,aL7,aI1 ht,Instr.sureAddr,hm,sizeOf,typeInfo,hi,h1,ha]
end
def cQ (P:Program) (ops:Array Oper) (K:Act->World->Prop):List Oper->Act->World->Prop
 |[],a,w=>K a w
 |o::l,a,w=>if Region.wanted o (yielded ops a.tmps) then dp P o a.eval w (λv w'=>cQ P ops K l (a.put o.dst v) w') else cQ P ops K l (a.put o.dst undef) w
theorem cQ.wp {P:Program} {ro:Option Nat} {ops:Array Oper} {Q:Exit->Act->World->Prop}:∀ {l:List Oper} {a:Act} {w:World},cQ P ops (Q .normal) l a w->wpListIn (FR ro) 0 P ops Q l a w
 |[],_,_,h=>h
 |o::l,a,w,h=>by
  unfold cQ at h
  unfold wpListIn
  split at h
  ·rename_i hw
   rw [if_pos hw]
   exact dp.wp h λv w' h'=>cQ.wp h'
  ·rename_i hw
   rw [if_neg hw]
   exact ⟨λ_ _=>trivial,cQ.wp h⟩
section
variable {ro:Option Nat} {P:Program} {ops:Array Oper} {Q:Act->World->Prop} {l:List Oper} {a:Act} {w:World} {N:Nat} {L:List (Nat × Value)} {Df:List Deferred} {d:Tmp} {op:Op} {ty:TypeId} {pos:String} {af:Array Edge}
theorem az (h:Q a w):cQ P ops Q [] a w:=h
theorem ee {R:Value->World->Prop} (h:Sl N a L Df) (hr:dp P ⟨some d,op,ty,pos,af,none⟩ a.eval w R) (hd:Nat.blt d N=true)
 (k:∀ a' w' v,R v w'->Sl N a' ((d,v)::L) Df->cQ P ops Q l a' w'):cQ P ops Q (⟨some d,op,ty,pos,af,none⟩::l) a w:=
 by unfold cQ;rw [if_pos (by simp [Region.wanted])];exact hr.mono λv w' r=>k _ w' v r (h.put hd v)
theorem jV {R:Value->World->Prop} (hr:dp P ⟨none,op,ty,pos,af,none⟩ a.eval w R) (k:∀ w' v,R v w'->cQ P ops Q l a w'):cQ P ops Q (⟨none,op,ty,pos,af,none⟩::l) a w:=
 by unfold cQ;rw [if_pos (by simp [Region.wanted])];exact hr.mono λv w' r=>k w' v r
theorem ai {X:Value} (h:Sl N a L Df) (hr:aZ P ⟨some d,op,ty,pos,af,none⟩ a.eval X) (hd:Nat.blt d N=true)
 (k:∀ a',Sl N a' ((d,X)::L) Df->cQ P ops Q l a' w):cQ P ops Q (⟨some d,op,ty,pos,af,none⟩::l) a w:=
 ee (R:=λv w'=>v=X/\w'=w) h (hr.does ⟨rfl,rfl⟩) hd λa' w' v ⟨h1,h2⟩ hs=>by subst h1;subst h2;exact k a' hs
theorem ZH {j:Nat} {b:Bool} {od:Oper} {t:Tmp} (h:Sl N a L Df) (hj:ops[j]? = some od) (ht:od.dst=some t) (hv:lk L t=some (.bool (!b))) (hd:Nat.blt d N=true)
 (k:∀ a',Sl N a' ((d,undef)::L) Df->cQ P ops Q l a' w):cQ P ops Q (⟨some d,op,ty,pos,af,some (j,b)⟩::l) a w:=by
 have hlt:t<a.tmps.size:=by
  rcases aJ4 t a.tmps.size with h'|h'
  ·exact h'
  ·have h2:=h.holds t _ hv;simp [aK0 h',undef] at h2
 have hy:yielded ops a.tmps j=some (!b):=by
  have h2:=h.holds t _ hv
  unfold yielded
  have h3:a.tmps[t]? = some (.bool (!b)):=by simp [hlt] at h2 ⊢;exact h2
  simp [hj,ht,h3]
 unfold cQ
 have:Region.wanted ⟨some d,op,ty,pos,af,some (j,b)⟩ (yielded ops a.tmps)=false:=by
  simp [Region.wanted,hy]
 rw [this]
 exact k _ (h.put hd undef)
theorem Zw {j:Nat} {b:Bool} {od:Oper} {t:Tmp} (h:Sl N a L Df) (hj:ops[j]? = some od) (ht:od.dst=some t) (hv:lk L t=some (.bool b))
 (k:cQ P ops Q (⟨some d,op,ty,pos,af,none⟩::l) a w):cQ P ops Q (⟨some d,op,ty,pos,af,some (j,b)⟩::l) a w:=by
 have hlt:t<a.tmps.size:=by
  rcases aJ4 t a.tmps.size with h'|h'
  ·exact h'
  ·have h2:=h.holds t _ hv;simp [aK0 h',undef] at h2
 have hy:yielded ops a.tmps j=some b:=by
  have h2:=h.holds t _ hv
  unfold yielded
  have h3:a.tmps[t]? = some (.bool b):=by simp [hlt] at h2 ⊢;exact h2
  simp [hj,ht,h3]
 unfold cQ at k ⊢
 have h1:Region.wanted ⟨some d,op,ty,pos,af,some (j,b)⟩ (yielded ops a.tmps)=true:=by simp [Region.wanted,hy]
 have h2:Region.wanted ⟨some d,op,ty,pos,af,none⟩ (yielded ops a.tmps)=true:=by simp [Region.wanted]
 rw [if_pos h1]
 rw [if_pos h2] at k
 exact k
end
theorem cQ.nil {P:Program} {ops:Array Oper} {K:Act->World->Prop} {a:Act} {w:World}:cQ P ops K [] a w↔K a w:=Iff.rfl
attribute [irreducible] cQ
end Go.Proofs.YthmlflaiidhoiaaGreatDoor
namespace Go.Proofs.YthmlflaiidhoiaaGreatDoor
open Go.RowKit
section
variable {ro:Option Nat} {P:Program} {ops:Array Oper} {Q:Act->World->Prop} {l:List Oper} {a:Act} {w w0:World} {N:Nat} {L:List (Nat × Value)} {Df:List Deferred} {B:List Own} {d:Tmp} {ty:TypeId} {pos:String} {af:Array Edge} {x y:Operand} {t:TypeId}
theorem MY {ρ:Operand->Value} {V:Value} {dst:Option Tmp} {g:Option (Nat × Bool)} (hx:ρ x=V) {R:Value->World->Prop} (hR:R (.pointer (some ⟨w.heap.size,0,none⟩)) (w.alloc (.cells V.cells t))):
 dp P ⟨dst,.box t x,ty,pos,af,g⟩ ρ w R:=by
 unfold dp
 simp only [execOp,hx,Instr.box,newVar,newRow,aL7,run_newObj,aH9,aL8]
 exact hR
theorem aV {V:Value} (C:Array Value) (h:Sl N a L Df) (s:St w0 B w) (hx:eI L x=some V) (hC:V.cells=C) (hd:Nat.blt d N=true)
 (k:∀ a' w' b,Sl N a' ((d,.pointer (some ⟨b,0,none⟩))::L) Df->St w0 (.blk b (.cells C t)::B) w'->cQ P ops Q l a' w'):cQ P ops Q (⟨some d,.box t x,ty,pos,af,none⟩::l) a w:=by
 subst hC
 exact
 ee (R:=λv w'=>v=.pointer (some ⟨w.heap.size,0,none⟩)/\w'=w.alloc (.cells V.cells t)) h (MY (h.ev hx) ⟨rfl,rfl⟩) hd
  λa' w' v ⟨h1,h2⟩ hs=>by subst h1;subst h2;exact k a' _ _ hs (s.new _)
theorem Cy {ρ:Operand->Value} {Z:Value} {dst:Option Tmp} {g:Option (Nat × Bool)} (hz:(P.info? t).bind (·.zero)=some Z) {R:Value->World->Prop} (hR:R (.pointer (some ⟨w.heap.size,0,none⟩)) (w.alloc (.cells Z.cells t))):
 dp P ⟨dst,.alloc t,ty,pos,af,g⟩ ρ w R:=by
 cases hi:P.info? t with
 |none=>simp [hi] at hz
 |some i=>
  have hz':i.zero=some Z:=by simpa [hi] using hz
  unfold dp
  simp only [execOp,Instr.alloc,zeroValue,typeInfo,newVar,newRow,aL7,run_program,hi,hz',run_newObj,aH9,aL8]
  exact hR
theorem aK {Z:Value} (C:Array Value) (h:Sl N a L Df) (s:St w0 B w) (hz:(P.info? t).bind (·.zero)=some Z) (hC:Z.cells=C) (hd:Nat.blt d N=true)
 (k:∀ a' w' b,Sl N a' ((d,.pointer (some ⟨b,0,none⟩))::L) Df->St w0 (.blk b (.cells C t)::B) w'->cQ P ops Q l a' w'):cQ P ops Q (⟨some d,.alloc t,ty,pos,af,none⟩::l) a w:=by
 subst hC
 exact
 ee (R:=λv w'=>v=.pointer (some ⟨w.heap.size,0,none⟩)/\w'=w.alloc (.cells Z.cells t)) h (Cy hz ⟨rfl,rfl⟩) hd
  λa' w' v ⟨h1,h2⟩ hs=>by subst h1;subst h2;exact k a' _ _ hs (s.new _)
def WP:TypeDesc->Bool|.struct _=>true|.array _ _=>true|_=>false
structure Row (P:Program) (t:TypeId) (n:Nat):Prop where
 desc:∃ dsc,P.underlying t=some dsc/\WP dsc=true
 size:(P.info? t).map (·.size)=some n
structure One (P:Program) (t:TypeId):Prop where
 desc:∃ dsc,P.underlying t=some dsc/\WP dsc=false
 size:(P.info? t).map (·.size)=some 1
theorem eO {n:Nat} (hr:Row P t n) (w:World) (b:Nat) (C:Array Value) (u:TypeId) (fr:Nat × Nat) (hb:w.heap[b]? = some (.cells C u fr)) (hn:C.size=n):(loadVar t ⟨b,0,none⟩).run P w=.ok (.agg C) w:=by
 obtain ⟨dsc,h1,h2⟩:=hr.desc
 exact run_loadVar_row w b u t C fr dsc hb h1 (by cases dsc<;>first|rfl|cases h2) (by rw [hr.size,hn])
theorem vv (ho:One P t) (w:World):(isAgg t).run P w=.ok false w:=by
 obtain ⟨dsc,h1,h2⟩:=ho.desc
 unfold isAgg
 rw [aL7,aI1 h1 w]
 cases dsc<;>first|rfl|cases h2
theorem lA (ho:One P t) (w:World) (p:Addr) {v:Value} (hc:w.cell? p=some v):(loadVar t p).run P w=.ok v w:=by
 simp [loadVar,aL7,vv ho w,run_load,hc]
theorem nY {ρ:Operand->Value} {dst:Option Tmp} {g:Option (Nat × Bool)} {b n:Nat} {C:Array Value} {u:TypeId} {fr:Nat × Nat} (hr:Row P t n) (hx:ρ x=.pointer (some ⟨b,0,none⟩)) (hb:w.heap[b]? = some (.cells C u fr)) (hn:C.size=n)
 {R:Value->World->Prop} (hR:R (.agg C) w):dp P ⟨dst,.load t x,ty,pos,af,g⟩ ρ w R:=by
 unfold dp
 simp only [execOp,hx,Instr.loadAt,Instr.sureAddr,aL7,aL8,aH9,eO hr w b C u fr hb hn]
 exact hR
theorem iO {ρ:Operand->Value} {dst:Option Tmp} {g:Option (Nat × Bool)} {p:Addr} {V:Value} (ho:One P t) (hx:ρ x=.pointer (some p)) (hc:w.cell? p=some V)
 {R:Value->World->Prop} (hR:R V w):dp P ⟨dst,.load t x,ty,pos,af,g⟩ ρ w R:=by
 unfold dp
 simp only [execOp,hx,Instr.loadAt,Instr.sureAddr,aL7,aL8,aH9,lA ho w p hc]
 exact hR
theorem ak {b n:Nat} {C:Array Value} {u:TypeId} (i:Nat) (h:Sl N a L Df) (s:St w0 B w) (hr:Row P t n) (hx:eI L x=some (.pointer (some ⟨b,0,none⟩))) (hi:B[i]? = some (.blk b (.cells C u))) (hn:C.size=n) (hd:Nat.blt d N=true)
 (k:∀ a',Sl N a' ((d,.agg C)::L) Df->cQ P ops Q l a' w):cQ P ops Q (⟨some d,.load t x,ty,pos,af,none⟩::l) a w:=
 ee (R:=λv w'=>v=.agg C/\w'=w) h (nY hr (h.ev hx) (s.get i hi) hn ⟨rfl,rfl⟩) hd λa' w' v ⟨h1,h2⟩ hs=>by subst h1;subst h2;exact k a' hs
theorem mF (s:St w0 B w) (i:Nat) {b j:Nat} {C:Array Value} {u:TypeId} {V:Value} (hi:B[i]? = some (.blk b (.cells C u))) (hC:C[j]? = some V):w.cell? ⟨b,j,none⟩=some V:=by
 rw [cell_of_row w b j C u (0,0) (s.get i hi)];exact hC
theorem cz {b j:Nat} {C:Array Value} {u:TypeId} {V:Value} (i:Nat) (h:Sl N a L Df) (s:St w0 B w) (ho:One P t) (hx:eI L x=some (.pointer (some ⟨b,j,none⟩))) (hi:B[i]? = some (.blk b (.cells C u))) (hC:C[j]? = some V) (hd:Nat.blt d N=true)
 (k:∀ a',Sl N a' ((d,V)::L) Df->cQ P ops Q l a' w):cQ P ops Q (⟨some d,.load t x,ty,pos,af,none⟩::l) a w:=
 ee (R:=λv w'=>v=V/\w'=w) h (iO ho (h.ev hx) (mF s i hi hC) ⟨rfl,rfl⟩) hd λa' w' v ⟨h1,h2⟩ hs=>by subst h1;subst h2;exact k a' hs
theorem vj (ho:One P t) (w:World) (b j:Nat) (C:Array Value) (u:TypeId) (hb:w.heap[b]? = some (.cells C u)) (hj:j<C.size) (v:Value) (hv:v.oneCell'=true):
 (storeVar t ⟨b,j,none⟩ v).run P w=.ok () (w.setCell ⟨b,j,none⟩ v):=by
 have hs:(sizeOf t).run P w=.ok 1 w:=by
  cases hq:P.info? t with
  |none=>have:=ho.size;simp [hq] at this
  |some i=>have:=ho.size;simp [hq] at this;simp [sizeOf,typeInfo,aL7,hq,this]
 have hcs:v.cells=#[v]:=by cases v<;>first|rfl|simp [Value.oneCell'] at hv
 have hcell:w.cell? ⟨b,j,none⟩=some C[j]:=by rw [cell_of_row w b j C u (0,0) hb];simp [hj]
 have hfro:w.frozen? ⟨b,j,none⟩=false:=frozen_of_row w b j C u hb
 have hadd:(⟨b,j,none⟩:Addr).add 0=⟨b,j,none⟩:=by simp [Addr.add]
 simp [storeVar,aL7,hs,hcs,storeCells,hadd,run_store P w _ v _ hv,hcell,hfro]
theorem aM {b j:Nat} {C:Array Value} {u:TypeId} {V:Value} (i:Nat) (h:Sl N a L Df) (s:St w0 B w) (ho:One P t) (hx:eI L x=some (.pointer (some ⟨b,j,none⟩))) (hy:eI L y=some V) (hi:B[i]? = some (.blk b (.cells C u))) (hj:j<C.size) (hv:V.oneCell'=true)
 (k:∀ w',St w0 (B.set i (.blk b (.cells (C.setIfInBounds j V) u))) w'->cQ P ops Q l a w'):cQ P ops Q (⟨none,.store t x y,ty,pos,af,none⟩::l) a w:=
 jV (R:=λ_ w'=>w'=w.setCell ⟨b,j,none⟩ V) (by
  unfold dp
  simp only [execOp,h.ev hx,h.ev hy,Instr.storeAt,Instr.sureAddr,aL7,aL8,aH9,vj ho w b j C u (s.get i hi) hj V hv]) λw' _ hw=>by subst hw;exact k _ (s.store i hi j V)
theorem al {b n:Nat} {C D:Array Value} {u:TypeId} (i:Nat) (h:Sl N a L Df) (s:St w0 B w) (hr:Row P t n) (hx:eI L x=some (.pointer (some ⟨b,0,none⟩))) (hy:eI L y=some (.agg D)) (hi:B[i]? = some (.blk b (.cells C u))) (hC:C.size=n) (hD:D.size=n) (hv:∀ v∈D.toList,v.oneCell'=true)
 (k:∀ w',St w0 (B.set i (.blk b (.cells D u))) w'->cQ P ops Q l a w'):cQ P ops Q (⟨none,.store t x y,ty,pos,af,none⟩::l) a w:=
 jV (R:=λ_ w'=>w'=w.setRow b D) (by
  have hs:(sizeOf t).run P w=.ok D.size w:=by
   cases hq:P.info? t with
   |none=>have:=hr.size;simp [hq] at this
   |some i=>have:=hr.size;simp [hq] at this;simp [sizeOf,typeInfo,aL7,hq,this,hD]
  have hst:(storeVar t ⟨b,0,none⟩ (.agg D)).run P w=.ok () (w.setRow b D):=by
   have:=run_storeCells_from (P:=P) b u D.toList 0 C w (s.get i hi) (by simp [hC,hD]) hv
   simp only [List.take_zero,List.nil_append,Array.toArray_toList] at this
   simp [storeVar,aL7,hs,Value.cells,this]
  unfold dp
  simp only [execOp,h.ev hx,h.ev hy,Instr.storeAt,Instr.sureAddr,aL7,aL8,aH9,hst]) λw' _ hw=>by subst hw;exact k _ (s.row i hi D)
def cb (w:World) (T:ez):Ending->World->Prop:=λe w'=>∃ v,e=.returned v/\T v w'/\Ext w w'
theorem fX {f:FuncId} {fn:Func} (hf:P.funcs[f]? = some fn) (hb:fn.body.isNone=false) (hn:(fn.name == "runtime.NumGoroutine")=false) (vs:Array Value) (w:World):
 (callFunc f vs).run P w=.ok (.enter f vs) w:=by
 unfold callFunc
 simp only [aL7,run_program,aH9,hf,hn,hb,Bool.false_eq_true,if_false,aL8]
structure Fnc (P:Program) (f:FuncId):Prop where
 has:∃ fn,P.funcs[f]? = some fn/\fn.body.isNone=false/\(fn.name == "runtime.NumGoroutine")=false
theorem qQ {ρ:Operand->Value} {dst:Option Tmp} {g:Option (Nat × Bool)} {f:FuncId} {args:Array Operand} {tys:Array TypeId} {vs:Array Value} (hf:Fnc P f) (hfv:ρ (.func f)=.func (.func f) #[] #[])
 (hvs:args.map ρ=vs) {R:Value->World->Prop} (hc:Calls P f vs w λe w'=>∃ v,e=.returned v/\R v w'):
 dp P ⟨dst,.call {callee:=.value (.func f),args:=args,argTypes:=tys},ty,pos,af,g⟩ ρ w R:=by
 obtain ⟨fn,h1,h2,h3⟩:=hf.has
 unfold dp
 simp only [execOp,resolve,hfv,hvs,Deferred.ofValue,aL7,aL8,aH9,invoke,Array.append_empty,Array.empty_append,fX h1 h2 h3]
 exact hc
theorem aY {f:FuncId} {args:Array Operand} {tys:Array TypeId} {vs:List Value} {T:ez} (h:Sl N a L Df) (s:St w0 B w) (hf:Fnc P f) (hc:Calls P f vs.toArray w (cb w T)) (hvs:args.toList.map (eI L)=vs.map some)
 (hd:Nat.blt d N=true)
 (k:∀ a' w' v,T v w'->Ext w w'->Sl N a' ((d,v)::L) Df->St w0 B w'->cQ P ops Q l a' w'):
 cQ P ops Q (⟨some d,.call {callee:=.value (.func f),args:=args,argTypes:=tys},ty,pos,af,none⟩::l) a w:=by
 have hvs':args.map a.eval=vs.toArray:=by
  apply Array.ext'
  simp only [Array.toList_map]
  generalize args.toList=as at hvs
  clear hc
  induction as generalizing vs with
  |nil=>cases vs with
   |nil=>rfl
   |cons v vs=>simp at hvs
  |cons x as ih=>cases vs with
   |nil=>simp at hvs
   |cons v vs=>
    simp only [List.map_cons,List.cons.injEq] at hvs
    simp only [List.map_cons,h.ev hvs.1,ih hvs.2]
 exact ee (R:=λv w'=>T v w'/\Ext w w') h (qQ hf rfl hvs' hc) hd λa' w' v ⟨h1,h2⟩ hs=>k a' w' v h1 h2 hs (s.more h2)
theorem aw {id:Nat} {l:List Oper} {Q:Exit->Act->World->Prop} (h:cQ P l.toArray (Q .normal) l a w):(Code.region id l.toArray false).wpIn (FR ro) 0 P Q a w:=wpIn_region_lit h.wp
theorem bV {c:Operand} {x y:Code} {b:Bool} {Q:Exit->Act->World->Prop} (h:Sl N a L Df) (hc:eI L c=some (.bool b)) (ht:b=true->x.wpIn (FR ro) 0 P Q a w) (hf:b=false->y.wpIn (FR ro) 0 P Q a w):(Code.cond c x y).wpIn (FR ro) 0 P Q a w:=
 wpIn_cond_split (h.ev hc) ht hf
theorem Po {f:FuncId} {fn:Func} {c:Code} {args:List Value} {T:ez} {n:Nat} (hf:P.funcs[f]? = some fn) (hb:fn.body=some c) (hn:fn.ntmps=n) (hs:Nat.ble args.length n=true)
 (L:List (Nat × Value)) (hL:∀ p∈L,args[p.1]? = some p.2)
 (h:∀ a,Sl n a L->c.wpIn (FR none) 0 P (bodyPost P fn (cb w T)) a w):Calls P f args.toArray w (cb w T):=by
 refine callsIn_wide.1 (callsIn_of_wp (n:=0) hf hb trivial ?_)
 rw [hn]
 exact h _ (Sl.enter L (by simpa using hs) (by simpa using hL))
theorem av {fn:Func} {t:Tmp} {T:ez} {V:Value} (hr:fn.results=#[.tmp t]) (h:Sl N a L) (s:St w0 B w) (hv:lk L t=some V) (hT:T V w):bodyPost P fn (cb w0 T) .ret a w:=
 ⟨h.defers,V,by rw [results_tmp hr,h.holds t V hv],V,rfl,hT,s.ext⟩
theorem lH {fn:Func} {p:Tmp} {T:ez} {b n:Nat} {C:Array Value} {u:TypeId} (i:Nat) (hres:fn.results=#[.cell p t]) (h:Sl N a L) (s:St w0 B w) (hr:Row P t n) (hp:lk L p=some (.pointer (some ⟨b,0,none⟩))) (hi:B[i]? = some (.blk b (.cells C u))) (hn:C.size=n)
 (hT:T (.agg C) w):bodyPost P fn (cb w0 T) .ret a w:=by
 refine ⟨h.defers,.agg C,?_,.agg C,rfl,hT,s.ext⟩
 have hp':a.tmps[p]?.getD undef=.pointer (some ⟨b,0,none⟩):=by simpa using h.holds p _ hp
 simp [results,hres,hp',asAddr,eO hr w b C u (0,0) (s.get i hi) hn]
theorem cc {fn:Func} {p q:Tmp} {T:ez} {b n:Nat} {C:Array Value} {u:TypeId} {V:Value} (i:Nat) (hres:fn.results=#[.cell p t,.tmp q]) (h:Sl N a L) (s:St w0 B w) (hr:Row P t n) (hp:lk L p=some (.pointer (some ⟨b,0,none⟩))) (hi:B[i]? = some (.blk b (.cells C u))) (hn:C.size=n)
 (hq:lk L q=some V) (hT:T (.tuple #[.agg C,V]) w):bodyPost P fn (cb w0 T) .ret a w:=by
 refine ⟨h.defers,.tuple #[.agg C,V],?_,_,rfl,hT,s.ext⟩
 have hp':a.tmps[p]?.getD undef=.pointer (some ⟨b,0,none⟩):=by simpa using h.holds p _ hp
 have hq':a.tmps[q]?.getD undef=V:=by simpa using h.holds q _ hq
 simp [results,hres,hp',hq',asAddr,eO hr w b C u (0,0) (s.get i hi) hn]
end
section
variable (P:Program) (ops:Array Oper) (K:Act->World->Prop) (w0:World)
def jd:List Oper->Act->Prop
 |[],a=>∀ w,Ext w0 w->K a w
 |o::l,a=>∃ X,(if Region.wanted o (yielded ops a.tmps) then ∀ w,Ext w0 w->dp P o a.eval w (λv w'=>v=X/\Ext w w') else X=undef)/\jd l (a.put o.dst X)
end
def eN:List Oper->List Value->Act->Act
 |o::l,X::r,a=>eN l r (a.put o.dst X)
 |_,_,a=>a
theorem lP:∀ (l:List Oper) (r:List Value) (a:Act),(eN l r a).tmps.size=a.tmps.size
 |[],_,_=>by simp [eN]
 |_::_,[],_=>by simp [eN]
 |o::l,X::r,a=>by rw [eN,lP l r,Act.tmps_put_size]
theorem jt (a:Act) (d t:Nat) (v:Value):(a.put (some d) v).tmps.getD t undef=if d=t/\d<a.tmps.size then v else a.tmps.getD t undef:=by
 by_cases e:d=t
 ·subst e
  by_cases h:d<a.tmps.size
  ·simp [Act.put,h]
  ·simp [Act.put,h]
 ·simp [Act.put,e,aK1 e]
theorem jO:∀ (l:List Oper) (r:List Value) (a:Act) (t:Nat),(∀ (j:Nat) (o:Oper),l[j]? = some o->o.dst≠some t)->(eN l r a).tmps.getD t undef=a.tmps.getD t undef
 |[],_,_,_,_=>by simp [eN]
 |_::_,[],_,_,_=>by simp [eN]
 |o::l,X::r,a,t,h=>by
  rw [eN,jO l r _ t (λj o' hj=>h (j+1) o' (by simpa using hj))]
  cases hd:o.dst with
  |none=>rfl
  |some d=>rw [jt,if_neg (λe=>h 0 o (by simp) (by rw [hd,e.1]))]
theorem mA:∀ (l:List Oper) (r:List Value) (a:Act) (t i:Nat) (o:Oper) (X:Value),l[i]? = some o->r[i]? = some X->o.dst=some t->t<a.tmps.size->
 (∀ (j:Nat) (o':Oper),l[j]? = some o'->o'.dst=some t->j=i)->(eN l r a).tmps.getD t undef=X
 |[],_,_,_,_,_,_,h,_,_,_,_=>by simp at h
 |_::_,[],_,_,_,_,_,_,h,_,_,_=>by simp at h
 |o::l,Y::r,a,t,0,o',X,h1,h2,hd,hs,hu=>by
  simp at h1 h2;subst h1;subst h2
  rw [eN,jO l r _ t (λj o' hj e=>by have:=hu (j+1) o' (by simpa using hj) e;omega),hd,jt,if_pos ⟨rfl,hs⟩]
 |o::l,Y::r,a,t,i+1,o',X,h1,h2,hd,hs,hu=>by
  rw [eN]
  exact mA l r _ t i o' X (by simpa using h1) (by simpa using h2) hd (by rw [Act.tmps_put_size];exact hs) (λj o2 hj e=>by have:=hu (j+1) o2 (by simpa using hj) e;omega)
theorem Bv {P:Program} {ops:Array Oper} {K:Act->World->Prop} {w0:World}:∀ (l:List Oper) (a:Act),jd P ops K w0 l a->
 ∃ Xs:List Value,Xs.length=l.length/\(∀ w,Ext w0 w->K (eN l Xs a) w)/\
  ∀ (i:Nat) (o:Oper) (X:Value),l[i]? = some o->Xs[i]? = some X->(if Region.wanted o (yielded ops (eN (l.take i) (Xs.take i) a).tmps) then ∀ w,Ext w0 w->dp P o (eN (l.take i) (Xs.take i) a).eval w (λv w'=>v=X/\Ext w w') else X=undef)
 |[],a,h=>⟨[],rfl,h,λi o X hi=>by simp at hi⟩
 |o::l,a,⟨X,hX,h⟩=>by
  obtain ⟨Xs,h1,h2,h3⟩:=Bv l _ h
  refine ⟨X::Xs,by simp [h1],h2,λi o' X' hi hx=>?_⟩
  cases i with
  |zero=>simp at hi hx;subst hi;subst hx;simpa [eN] using hX
  |succ i=>simpa [eN] using h3 i o' X' (by simpa using hi) (by simpa using hx)
theorem xp {ops:Array Oper} {o:Oper} {x y:Array Value} (hs:x.size=y.size) (h:∀ t∈o.looksAt ops,x.getD t undef=y.getD t undef):Region.wanted o (yielded ops x)=Region.wanted o (yielded ops y):=by
 unfold Region.wanted
 cases hg:o.guard with
 |none=>rfl
 |some gw=>
  obtain ⟨g,want⟩:=gw
  have:yielded ops x g=yielded ops y g:=by
   unfold yielded
   cases ht:(ops[g]?).bind (·.dst) with
   |none=>rfl
   |some t=>
    have ht':t∈o.looksAt ops:=by simp [Oper.looksAt,hg,ht]
    have h1:=h t ht'
    have:x[t]? = y[t]? := by
     by_cases hlt:t<x.size
     ·have hlt':t<y.size:=by rw [← hs];exact hlt
      simp [hlt,hlt'] at h1 ⊢;exact h1
     ·rw [aK0 (Nat.le_of_not_lt hlt),aK0 (by rw [← hs];exact Nat.le_of_not_lt hlt)]
    simp [this]
  simp only [this]
theorem CK {P:Program} {o:Oper} {ops:Array Oper} {a b:Act} (hsel:∀ cs bl,o.op≠.select cs bl) (h:∀ t∈o.looksAt ops,a.tmps.getD t undef=b.tmps.getD t undef) {w:World} {R:Value->World->Prop} (hd:dp P o b.eval w R):dp P o a.eval w R:=by
 have:execOp a.eval o=execOp b.eval o:=execOp_congr o hsel λx hx=>by
  cases x with
  |tmp t=>exact h t (List.mem_append_left _ (List.mem_filterMap.2 ⟨.tmp t,by simpa using hx,rfl⟩))
  |_=>rfl
 unfold dp at hd ⊢
 rw [this];exact hd
theorem nM:∀ (l:List Oper) (r:List Value) (a:Act),(eN l r a).defers=a.defers
 |[],_,_=>by simp [eN]
 |_::_,[],_=>by simp [eN]
 |o::l,X::r,a=>by rw [eN,nM l r];cases o.dst<;>rfl
theorem Pp {a b:Act} (h1:a.defers=b.defers) (h2:a.tmps.size=b.tmps.size) (h3:∀ t,a.tmps.getD t undef=b.tmps.getD t undef):a=b:=by
 obtain ⟨at_,ad⟩:=a
 obtain ⟨bt,bd⟩:=b
 simp only at h1 h2 h3
 subst h1
 congr 1
 apply Array.ext h2
 intro i hi1 hi2
 have:=h3 i
 simpa [hi1,hi2] using this
theorem uI {P:Program} {ro:Option Nat} {id:Nat} {l tl:List Oper} (cls:List (List Nat)) {a0:Act} {w0:World} {Q:Exit->Act->World->Prop}
 (hm:P.follows .mixedOrders=true) (hok:jU (l++tl) l.length cls a0.tmps.size=true) (hsel:Region.noSelect (l++tl).toArray=true)
 (h:jd P (l++tl).toArray (cQ P (l++tl).toArray (Q .normal) tl) w0 l a0):(Code.region id (l++tl).toArray true).wpIn (FR ro) 0 P Q a0 w0:=by
 obtain ⟨Xs,hlen,hfin,hob⟩:=Bv l a0 h
 generalize hops:l++tl=ops at *
 have hin:∀ i,i<l.length->ops[i]? = l[i]? := λi hi=>by rw [← hops,aK8 hi]
 have hopl:ops.length=l.length+tl.length:=by rw [← hops];simp
 have hO:∀ i o,i<l.length->ops[i]? = some o->Ob P ops cls (λi=>is (Xs.getD i undef)) a0 w0 i o:=by
  intro i o hil hi a w hE hs hslot
  have hX:Xs[i]? = some (Xs.getD i undef):=by simp [hlen,hil]
  have hB:=hob i o _ (by rw [← hin i hil];exact hi) hX
  obtain ⟨_,_,hcl,hlook⟩:=jp (kl hok hi hil)
  have hag:∀ t∈o.looksAt ops.toArray,a.tmps.getD t undef=(eN (l.take i) (Xs.take i) a0).tmps.getD t undef:=λt ht=>by
   have h1:=hslot t ht
   unfold xw at h1
   cases hw:gi ops (cls.getD i []) t with
   |some j=>
    rw [hw] at h1
    obtain ⟨hm,oj,hj,hdj⟩:=ng hw
    have hji:=zp hok i hil j hm
    obtain ⟨⟨d,hd,hds,huniq⟩,_⟩:=jp (kl hok hj (by omega))
    rw [hdj] at hd;cases hd
    have h1':a.tmps.getD t undef=Xs.getD j undef:=h1
    have hjl:j<Xs.length:=by rw [hlen];omega
    rw [h1',mA (l.take i) (Xs.take i) a0 t j oj (Xs.getD j undef) (by rw [aN7 hji,← hin j (by omega)];exact hj) (by rw [aN7 hji];simp [hjl]) hdj hds
     (λk ok hk hdk=>by
      rw [List.getElem?_take] at hk
      split at hk
      ·exact huniq k ok (by omega) (by rw [hin k (by omega)];exact hk) hdk
      ·cases hk)]
   |none=>
    rw [hw] at h1
    rw [h1,jO]
    intro k ok hk hdk
    rw [List.getElem?_take] at hk
    split at hk
    ·rename_i hki
     have hk':ops[k]? = some ok:=by rw [hin k (by omega)];exact hk
     have hnot:=qI hw k ok hk' hdk
     have hin2:=(hlook t ht k ok (by omega) hk' hdk).resolve_left hnot
     have:=zp hok k (by omega) i hin2
     omega
    ·cases hk
  have hwant:=xp (o:=o) (ops:=ops.toArray) (hs.trans (lP (l.take i) (Xs.take i) a0).symm) hag
  rw [hwant]
  split
  ·rename_i hw
   rw [if_pos hw] at hB
   exact CK (λcs bl=>Region.noSelect_spec hsel i o cs bl (by simpa using hi)) hag (hB w hE)
  ·rename_i hw
   rw [if_neg hw] at hB
   exact hB.symm
 have hend:∀ a w listed,Inv ops l.length cls (λi=>is (Xs.getD i undef)) a0 w0 listed a w->(∀ i,i<l.length->listed.getD i false=true)->∀ fuel,ops.length=l.length+fuel->wpAnyIn (FR ro) 0 P .any ops.toArray Q fuel listed a w:=by
  intro a w listed I hall fuel hfuel
  have ha:a=eN l Xs a0:=by
   refine Pp (by rw [I.defers,nM]) (by rw [I.size,lP]) λt=>?_
   by_cases hex:∃ i o,i<l.length/\l[i]? = some o/\o.dst=some t
   ·obtain ⟨i,o,hil,hi,hd⟩:=hex
    have hio:ops[i]? = some o:=by rw [hin i hil];exact hi
    obtain ⟨⟨d,hd',hds,huniq⟩,_⟩:=jp (kl hok hio hil)
    rw [hd] at hd';cases hd'
    have h1:a.tmps.getD t undef=Xs.getD i undef:=I.done i o t hil hio hd (hall i hil)
    rw [h1,mA l Xs a0 t i o (Xs.getD i undef) hi (by simp [hlen,hil]) hd hds (λk ok hk hdk=>by
     have hkl:=(aH4.1 hk).1
     exact huniq k ok hkl (by rw [hin k hkl];exact hk) hdk)]
   ·rw [I.rest t (λi o hil hi hd=>aO7 ⟨i,o,hil,by rw [← hin i hil];exact hi,hd⟩ hex),jO l Xs a0 t (λj o hj hd=>hex ⟨j,o,(aH4.1 hj).1,hj,hd⟩)]
  have hw:=hfin w I.ext
  rw [← ha] at hw
  refine Dw hok fuel l.length listed a w hfuel (aJ1 _) I.lsize hall (λj hj=>I.tail j hj) (λj hj k hk=>zp hok j hj k hk) ?_
  have:fuel=tl.length:=by omega
  subst this
  rw [wpOpsIn_eq_wpListIn tl l.length (λj=>by rw [← hops,aJ8,aK7 (Nat.le_add_right _ _),Nat.add_sub_cancel_left])]
  exact hw.wp
 refine wpIn_region_any hm ?_
 have hcount:∀ (fuel:Nat) (listed:Array Bool) (a:Act) (w:World),listed.toList.count false=fuel->Inv ops l.length cls (λi=>is (Xs.getD i undef)) a0 w0 listed a w->wpAnyIn (FR ro) 0 P .any ops.toArray Q fuel listed a w:=by
  intro fuel
  induction fuel with
  |zero=>
   intro listed a w hc I
   have hall:∀ i,i<ops.length->listed.getD i false=true:=λi hi=>by
    have hil:i<listed.size:=by rw [I.lsize];exact hi
    cases hb:listed.getD i false with
    |true=>rfl
    |false=>
     have:false∈listed.toList:=by
      simp [hil] at hb
      exact List.mem_of_getElem? (i:=i) (by simp [hil,hb])
     have:=List.count_pos_iff.2 this
     omega
   refine hend a w listed I (λi hi=>hall i (by omega)) 0 ?_
   by_cases htl:tl.length=0
   ·omega
   ·have:=I.tail l.length (aJ1 _)
    rw [hall l.length (by omega)] at this;cases this
  |succ fuel ih=>
   intro listed a w hc I
   by_cases hall:∀ i,i<l.length->listed.getD i false=true
   ·refine hend a w listed I hall (fuel+1) ?_
    have key:∀ (b:List Bool) (m:Nat),m<=b.length->(∀ i,i<m->b[i]? = some true)->(∀ i,m<=i->i<b.length->b[i]? = some false)->b.count false=b.length - m:=by
     intro b
     induction b with
     |nil=>intro m _ _ _;simp
     |cons x b ihb=>
      intro m hm h1 h2
      cases m with
      |zero=>
       have hx:x=false:=by simpa using h2 0 (aJ1 _) (by simp)
       have:=ihb 0 (aJ3 _) (λi hi=>by omega) (λi _ hi=>by simpa using h2 (i+1) (aJ3 _) (by simp;omega))
       subst hx;simp [this]
      |succ m=>
       have hx:x=true:=by simpa using h1 0 (by omega)
       have:=ihb m (by simpa using hm) (λi hi=>by simpa using h1 (i+1) (by omega)) (λi hi hi2=>by simpa using h2 (i+1) (by omega) (by simp;omega))
       subst hx;simp [this]
    have hk:=key listed.toList l.length (by simp [I.lsize];omega)
     (fun i hi=>by have:=hall i hi;have hil:i<listed.size:=by rw [I.lsize];omega
                   simp [hil] at this ⊢;exact this)
     (fun i hi hi2=>by have:=I.tail i hi;have hil:i<listed.size:=by simpa using hi2
                       simp [hil] at this ⊢;exact this)
    rw [hc] at hk
    simp [I.lsize] at hk
    omega
   ·refine ⟨λhr=>aO7 (λi hi=>Ib hok I.lsize hr i (by omega)) hall,λi hi=>?_⟩
    obtain ⟨o,hio,hf,hd⟩:=ga hi
    have hu:=hf I.lsize
    have hil:i<l.length:=by
     rcases aJ4 i l.length with h3|h3
     ·exact h3
     ·exfalso
      apply hall
      intro j hj
      rcases (n8 hok hio h3).2 j (by omega) with h4|⟨k,hk,h4⟩
      ·exact hd j h4
      ·rcases h4 with h4|h4
       ·exact I.closed k (hd k hk) j h4.2
       ·have:=I.tail k h4.1;rw [hd k hk] at this;cases this
    have hils:i<listed.size:=by rw [I.lsize];omega
    refine Kg hok (λi=>Re _) (λi o h1 h2=>hO i o h1 h2) I hil hio hd hu λa' w' I'=>ih _ a' w' ?_ I'
    have:=lE listed.toList i (by simp [hils] at hu ⊢;exact hu)
    rw [Array.toList_setIfInBounds]
    omega
 refine hcount _ _ _ _ (by simp) ⟨(Ext.refl w0).drew,rfl,rfl,by simp,λi _=>?_,λi o d _ _ _ h=>?_,λ_ _=>rfl,λi h=>?_⟩
 ·simp [aK3];split<;>rfl
 ·simp [aK3] at h;split at h<;>simp at h
 ·simp [aK3] at h;split at h<;>simp at h
theorem bz {P:Program} {o:Oper} {ρ:Operand->Value} {X:Value} (Y:Value) (hr:aZ P o ρ X) (e:X=Y):aZ P o ρ Y:=e▸hr
theorem mt {P:Program} {ρ:Operand->Value} {d:Option Tmp} {ty:TypeId} {pos:String} {af:Array Edge} {g:Option (Nat × Bool)} {x y:Operand} {t:TypeId} {k:IntKind} {m:Int} {b len:Nat} {e:TypeId} (j:Nat)
 (ht:P.underlying t=some (.array len e)) (he:(P.info? e).map (·.size)=some 1) (hx:ρ x=.pointer (some ⟨b,0,none⟩)) (hy:ρ y=.int k m)
 (hj:m=(j:Int)) (hm:j<len):aZ P ⟨d,.indexAddr t x y,ty,pos,af,g⟩ ρ (.pointer (some ⟨b,j,none⟩)):=by
 have:=xD (P:=P) (d:=d) (ty:=ty) (pos:=pos) (af:=af) (g:=g) ht he hx hy (by omega)
 rw [hj] at this
 simpa using this
theorem jr {P:Program} {ρ:Operand->Value} {d:Option Tmp} {ty:TypeId} {pos:String} {af:Array Edge} {g:Option (Nat × Bool)} {x:Operand} {t t':TypeId} {k k':IntKind} {m:Int} {s:TypeDesc}
 (hs:P.underlying t=some s) (ht:P.underlying t'=some (.int k')) (hx:ρ x=.int k m) (h:k'.wrap m=m):aZ P ⟨d,.convert t t' x,ty,pos,af,g⟩ ρ (.int k' m):=
 bz _ (Fe hs ht hx) (by rw [h])
theorem gB {P:Program} {ρ:Operand->Value} {d:Option Tmp} {ty:TypeId} {pos:String} {af:Array Edge} {g:Option (Nat × Bool)} {x:Operand} {t t':TypeId} {k:IntKind} {m:Int} {s:TypeDesc}
 (hs:P.underlying t=some s) (ht:P.underlying t'=some (.int .u8)) (hx:ρ x=.int k m):aZ P ⟨d,.convert t t' x,ty,pos,af,g⟩ ρ (.int .u8 (m % 256)):=
 bz _ (Fe hs ht hx) (by rw [IntKind.wrap_u8])
section
variable {ro:Option Nat} {P:Program} {ops:List Oper} {K:Act->World->Prop} {l:List Oper} {a:Act} {w w0:World} {N:Nat} {L:List (Nat × Value)} {Df:List Deferred} {B:List Own} {d:Tmp} {op:Op} {ty:TypeId} {pos:String} {af:Array Edge} {x y:Operand} {t:TypeId}
theorem bY (s:St w0 B w) (k:∀ w',St w0 B w'->K a w'):jd P ops.toArray K w [] a:=λw' hE=>k w' (s.more hE)
theorem kN (X:Value) (h:Sl N a L Df) (hr:∀ w',Ext w w'->dp P ⟨some d,op,ty,pos,af,none⟩ a.eval w' (λv w''=>v=X/\Ext w' w'')) (hd:Nat.blt d N=true)
 (k:∀ a',Sl N a' ((d,X)::L) Df->jd P ops.toArray K w l a'):jd P ops.toArray K w (⟨some d,op,ty,pos,af,none⟩::l) a:=
 ⟨X,by rw [if_pos (by simp [Region.wanted])];exact hr,k _ (h.put hd X)⟩
theorem aF {X:Value} (h:Sl N a L Df) (hr:aZ P ⟨some d,op,ty,pos,af,none⟩ a.eval X) (hd:Nat.blt d N=true)
 (k:∀ a',Sl N a' ((d,X)::L) Df->jd P ops.toArray K w l a'):jd P ops.toArray K w (⟨some d,op,ty,pos,af,none⟩::l) a:=
 kN X h (λw' _=>hr.does ⟨rfl,Ext.refl _⟩) hd k
theorem aT {b n:Nat} {C:Array Value} {u:TypeId} (i:Nat) (h:Sl N a L Df) (s:St w0 B w) (hr:Row P t n) (hx:eI L x=some (.pointer (some ⟨b,0,none⟩))) (hi:B[i]? = some (.blk b (.cells C u))) (hn:C.size=n) (hd:Nat.blt d N=true)
 (k:∀ a',Sl N a' ((d,.agg C)::L) Df->jd P ops.toArray K w l a'):jd P ops.toArray K w (⟨some d,.load t x,ty,pos,af,none⟩::l) a:=
 kN _ h (λ_ hE=>nY hr (h.ev hx) ((s.more hE).get i hi) hn ⟨rfl,Ext.refl _⟩) hd k
theorem eR {b j:Nat} {C:Array Value} {u:TypeId} {V:Value} (i:Nat) (h:Sl N a L Df) (s:St w0 B w) (ho:One P t) (hx:eI L x=some (.pointer (some ⟨b,j,none⟩))) (hi:B[i]? = some (.blk b (.cells C u))) (hC:C[j]? = some V) (hd:Nat.blt d N=true)
 (k:∀ a',Sl N a' ((d,V)::L) Df->jd P ops.toArray K w l a'):jd P ops.toArray K w (⟨some d,.load t x,ty,pos,af,none⟩::l) a:=
 kN _ h (λ_ hE=>iO ho (h.ev hx) (mF (s.more hE) i hi hC) ⟨rfl,Ext.refl _⟩) hd k
theorem evs {as:List Operand} {vs:List Value} (h:Sl N a L Df) (hvs:as.map (eI L)=vs.map some):as.map a.eval=vs:=by
 induction as generalizing vs with
 |nil=>cases vs with
  |nil=>rfl
  |cons v vs=>simp at hvs
 |cons x as ih=>cases vs with
  |nil=>simp at hvs
  |cons v vs=>
   simp only [List.map_cons,List.cons.injEq] at hvs
   simp only [List.map_cons,h.ev hvs.1,ih hvs.2]
theorem bF {f:FuncId} {args:List Operand} {tys:Array TypeId} {vs:List Value} {X:Value} (h:Sl N a L Df) (hf:Fnc P f)
 (hc:∀ w',Ext w w'->Calls P f vs.toArray w' (cb w' (is X))) (hvs:args.map (eI L)=vs.map some) (hd:Nat.blt d N=true)
 (k:∀ a',Sl N a' ((d,X)::L) Df->jd P ops.toArray K w l a'):
 jd P ops.toArray K w (⟨some d,.call {callee:=.value (.func f),args:=args.toArray,argTypes:=tys},ty,pos,af,none⟩::l) a:=
 kN X h (λw' hE=>qQ hf rfl (vs:=vs.toArray) (by rw [List.map_toArray,evs h hvs]) (hc w' hE)) hd k
theorem ak3 {j:Nat} {b:Bool} {od:Oper} {t:Tmp} (h:Sl N a L Df) (hj:ops[j]? = some od) (ht:od.dst=some t) (hv:lk L t=some (.bool b))
 (k:jd P ops.toArray K w (⟨some d,op,ty,pos,af,none⟩::l) a):jd P ops.toArray K w (⟨some d,op,ty,pos,af,some (j,b)⟩::l) a:=by
 have hlt:t<a.tmps.size:=by
  rcases aJ4 t a.tmps.size with h'|h'
  ·exact h'
  ·have h2:=h.holds t _ hv;simp [aK0 h',undef] at h2
 have hy:yielded ops.toArray a.tmps j=some b:=by
  have h2:=h.holds t _ hv
  unfold yielded
  have h3:a.tmps[t]? = some (.bool b):=by simp [hlt] at h2 ⊢;exact h2
  simp [hj,ht,h3]
 obtain ⟨X,h1,h2⟩:=k
 refine ⟨X,?_,h2⟩
 have e1:Region.wanted ⟨some d,op,ty,pos,af,some (j,b)⟩ (yielded ops.toArray a.tmps)=true:=by simp [Region.wanted,hy]
 have e2:Region.wanted ⟨some d,op,ty,pos,af,none⟩ (yielded ops.toArray a.tmps)=true:=by simp [Region.wanted]
 rw [if_pos e2] at h1
 rw [if_pos e1]
 exact h1
theorem ZU {j:Nat} {b:Bool} {od:Oper} {t:Tmp} (h:Sl N a L Df) (hj:ops[j]? = some od) (ht:od.dst=some t) (hv:lk L t=some (.bool (!b))) (hd:Nat.blt d N=true)
 (k:∀ a',Sl N a' ((d,undef)::L) Df->jd P ops.toArray K w l a'):jd P ops.toArray K w (⟨some d,op,ty,pos,af,some (j,b)⟩::l) a:=by
 have hlt:t<a.tmps.size:=by
  rcases aJ4 t a.tmps.size with h'|h'
  ·exact h'
  ·have h2:=h.holds t _ hv;simp [aK0 h',undef] at h2
 have hy:yielded ops.toArray a.tmps j=some (!b):=by
  have h2:=h.holds t _ hv
  unfold yielded
  have h3:a.tmps[t]? = some (.bool (!b)):=by simp [hlt] at h2 ⊢;exact h2
  simp [hj,ht,h3]
 refine ⟨undef,?_,k _ (h.put hd undef)⟩
 have e1:Region.wanted ⟨some d,op,ty,pos,af,some (j,b)⟩ (yielded ops.toArray a.tmps)=false:=by simp [Region.wanted,hy]
 rw [e1];rfl
end
def Nz (L:List (Nat × Value)):List (Nat × Value)->Prop
 |[]=>True
 |(t,v)::r=>lk L t=some v/\Nz L r
theorem wA {L:List (Nat × Value)}:∀ {L':List (Nat × Value)},Nz L L'->∀ p∈L',lk L p.1=some p.2
 |[],_,p,hp=>by simp at hp
 |(t,v)::r,⟨h1,h2⟩,p,hp=>by
  rcases aI6.1 hp with rfl|hp
  ·exact h1
  ·exact wA h2 p hp
theorem Sl.only {n:Nat} {a:Act} {L L':List (Nat × Value)} {Df:List Deferred} (h:Sl n a L Df) (e:Nz L L'):Sl n a L' Df:=h.cut L' (wA e)
def Rk:List Own->List Own->Prop
 |[],[]=>True
 |p::r,p'::r'=>p=p'/\Rk r r'
 |_,_=>False
theorem GB:∀ {B B':List Own},Rk B B'->B=B'
 |[],[],_=>rfl
 |p::r,p'::r',⟨h1,h2⟩=>by subst h1;rw [GB h2]
 |[],_::_,h=>h.elim
 |_::_,[],h=>h.elim
theorem St.as {w0 w:World} {B B':List Own} (h:St w0 B w) (e:Rk B B'):St w0 B' w:=GB e▸h
theorem fL {C D:Array Value} {b:Nat} {t:TypeId} (h:C=D):Own.blk b (.cells C t)=Own.blk b (.cells D t):=by rw [h]
theorem eC {v:Value} {e:TypeId} {sz n m:Nat} {xs ys:List Value} (hn:n=m) (h:xs=ys):Own.sl v e sz n xs=Own.sl v e sz m ys:=by rw [hn,h]
section
variable {K:Act->World->Prop} {Q:Exit->Act->World->Prop} {a:Act} {w:World} {i j:Nat}
theorem aO (h:Q (.exit i) a w):Exit.then K Q (.exit i) a w:=h
theorem aS (h:Q .ret a w):Exit.then K Q .ret a w:=h
theorem aD (h:K a w):Exit.then K Q .normal a w:=h
theorem bS (h:Q .normal a w):Exit.inBlock i Q (.exit i) a w:=by simp [Exit.inBlock,h]
theorem bA (h:Q .ret a w):Exit.inBlock i Q .ret a w:=h
theorem aW (h:Q .normal a w):Exit.inBlock i Q .normal a w:=h
end
theorem ao {L:List (Nat × Value)} {t:Nat} {k:IntKind} {m n:Int} (h:lk L t=some (.int k m)) (e:m=n):lk L t=some (.int k n):=e▸h
theorem iN {L:List (Nat × Value)} {t:Nat} {u v:Value} (h:lk L t=some u) (e:u=v):lk L t=some v:=e▸h
end Go.Proofs.YthmlflaiidhoiaaGreatDoor
