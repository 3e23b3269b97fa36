/- The engine: laws of a walk, operation by operation, over any program; no Go in it. -/
import Derived.WalkKit
import Derived.ProofKit
import Derived.OrdersIn
import Derived.Sort.LoopGhostIn
import Derived.TacticsIn
import Derived.RangeFuncIn
import Derived.RangeFuncRecord
import Derived.Deep.LoopGhost
import Derived.Laws.AppendOwn
import Derived.IntWalk
import Derived.Laws.Tables
import Derived.Laws.Rows
set_option linter.unusedVariables false
set_option linter.unusedSimpArgs false
set_option linter.unusedSectionVars false
namespace Go.Proofs.YthmlflaiidhoiaaGreatDoor
open Go.RowKit
abbrev ap7:=@List.Sublist.cons_cons
abbrev ap8:=@List.Sublist.cons
abbrev ap9:=@of_decide_eq_true
abbrev aq0:=@of_decide_eq_false
abbrev aq1:=@decide_eq_false
abbrev aq2:=@decide_eq_true
abbrev aq3:=@congrArg
abbrev aq4:=@List.getElem?_eq_some_iff
abbrev aq5:=@Bool.and_eq_true
abbrev aq6:=@List.all_eq_true
abbrev aq7:=@List.length_append
abbrev aq8:=@List.getElem?_eq_getElem
abbrev aq9:=@Result.andThen_ok
abbrev ar0:=@decide_eq_true_eq
abbrev ar1:=@run_underlying
abbrev ar2:=@Array.length_toList
abbrev ar3:=@decide_eq_decide
abbrev ar4:=@List.mem_singleton
abbrev ar5:=@List.mem_cons_self
abbrev ar6:=@List.mem_cons
abbrev ar7:=@List.mem_range
abbrev ar8:=@List.sublist_append_right
abbrev ar9:=@List.not_mem_nil
abbrev as0:=@List.nil_sublist
abbrev as1:=@Nat.le_refl
abbrev as2:=@List.sublist_cons_self
abbrev as3:=@Nat.zero_le
abbrev as4:=@Nat.lt_or_ge
abbrev as5:=@List.mem_cons_of_mem
abbrev as6:=@List.getD_eq_getElem?_getD
abbrev as7:=@List.take_append_drop
abbrev as8:=@List.getElem?_toArray
abbrev as9:=@List.take_of_length_le
abbrev at0:=@Array.getElem?_eq_none
abbrev at1:=@Array.getElem?_setIfInBounds_ne
abbrev at2:=@List.length_drop
abbrev at3:=@Array.getElem?_replicate
abbrev at4:=@List.mem_filter
abbrev at5:=@List.length_cons
abbrev at6:=@List.length_nil
abbrev at7:=@List.getElem?_append_right
abbrev at8:=@List.getElem?_append_left
abbrev at9:=@List.mem_append
abbrev au0:=@List.length_take
abbrev au1:=@List.length_map
abbrev au2:=@List.length_filter_le
abbrev au3:=@wpIn_ret
abbrev au4:=@wpIn_block
abbrev au5:=@wpIn_exit
abbrev au6:=@wpIn_loop_ghost
abbrev au7:=@Sem.run_bind
abbrev au8:=@Sem.run_pure
abbrev au9:=@List.mem_map
abbrev av0:=@List.getElem?_map
abbrev av1:=@List.getElem?_eq_none
abbrev av2:=@List.flatMap_append
abbrev av3:=@List.append_assoc
abbrev av4:=@List.append_nil
abbrev av5:=@Nat.le_trans
abbrev av6:=@Nat.not_lt_zero
abbrev av7:=@List.contains_iff_mem
abbrev av8:=@Prod.mk.injEq
abbrev av9:=@Option.some.inj
abbrev aw0:=@List.getElem_mem
abbrev aw1:=@List.getElem_of_mem
abbrev aw2:=@ByteArray.size_append
abbrev aw3:=@Array.getElem?_append_left
abbrev aw4:=@List.any_eq_true
abbrev aw5:=@List.any_eq_false
abbrev aw6:=@Bool.eq_iff_iff
abbrev aw7:=@List.getElem?_take_of_lt
abbrev aw8:=@List.getElem?_drop
abbrev aw9:=@Array.getElem?_toList
abbrev ax0:=@Array.getElem?_eq_getElem
abbrev ax1:=@Array.getElem?_eq_some_iff
abbrev ax2:=@List.perm_middle
abbrev ax3:=@List.Perm.swap
abbrev ax4:=@List.filter_append
abbrev ax5:=@List.map_append
abbrev ax6:=@Nat.mod_lt
abbrev ax7:=@absurd
abbrev FR (ro:Option Nat):Fence:={Fence.wide with round:=ro}
structure Ext (w w':World):Prop extends Below w.heap.size w w' where
 drawn:w.drawn<=w'.drawn
theorem Ext.refl (w:World):Ext w w:=⟨Below.refl _ _,as1 _⟩
theorem Ext.trans {a b c:World} (h:Ext a b) (k:Ext b c):Ext a c:=⟨Below.trans h.toBelow (Below.mono k.toBelow h.size),av5 h.drawn k.drawn⟩
theorem Ext.drew {a w:World} (h:Ext a w):Ext a w.drew:=⟨Below.drew h.toBelow,Nat.le_succ_of_le h.drawn⟩
theorem Ext.alloc {a w:World} (h:Ext a w) (o:Obj):Ext a (w.alloc o):=⟨Below.alloc h.toBelow h.size o,h.drawn⟩
theorem Ext.heap {w w':World} (h:Ext w w') {k:Nat} (hk:k<w.heap.size):w'.heap[k]? = w.heap[k]? := h.block k hk
theorem Ext.cell {w w':World} (h:Ext w w') {p:Addr} (hp:p.block<w.heap.size):w'.cell? p=w.cell? p:=Below.cell h.toBelow hp
theorem Ext.le {w w':World} (h:Ext w w'):w.heap.size<=w'.heap.size:=h.size
def cL (P:Program) (o:Oper) (ρ:Operand->Value) (w:World) (R:Value->World->Prop):Prop:=
 match (execOp ρ o).run P w with
 |.ok (.value v) w'=>R v w'
 |.ok .skip w'=>R undef w'
 |.ok (.enter f args) w'=>Calls P f args w' λe w''=>∃ v,e=.returned v/\R v w''
 |.ok (.round l f tmps assign body) w'=>RoundIn Fence.wide 0 P l f tmps assign body w' λe w''=>∃ v,e=.returned v/\R v w''
 |_=>False
theorem cL.mono {P:Program} {o:Oper} {ρ:Operand->Value} {w:World} {R R':Value->World->Prop} (h:cL P o ρ w R) (hr:∀ v w',R v w'->R' v w'):cL P o ρ w R':=by
 unfold cL at *
 split at h
 ·exact hr _ _ h
 ·exact hr _ _ h
 ·exact h.mono λe w' ⟨v,he,r⟩=>⟨v,he,hr _ _ r⟩
 ·exact h.mono λe w' ⟨v,he,r⟩=>⟨v,he,hr _ _ r⟩
 ·exact h.elim
theorem cL.nodefer {P:Program} {o:Oper} {ρ:Operand->Value} {w:World} {R:Value->World->Prop} (h:cL P o ρ w R):∀ c,o.op≠.defer c:=by
 intro c hc
 unfold cL at h
 unfold execOp at h
 simp only [hc,au7] at h
 cases hr:(resolve ρ c o.type).run P w with
 |ok d w'=>simp [hr,Result.andThen] at h
 |halt x w'=>simp [hr,Result.andThen] at h
theorem cL.wp {P:Program} {ro:Option Nat} {o:Oper} {a:Act} {w:World} {R:Value->World->Prop} {K:Act->World->Prop} {Q:Exit->Act->World->Prop}
 (h:cL P o a.eval w R) (hk:∀ v w',R v w'->K (a.put o.dst v) w'):o.wpIn (FR ro) 0 P a w K Q:=by
 refine ⟨λ_ _=>trivial,?_⟩
 rw [Oper.semAt_eq _ _ _ h.nodefer]
 unfold cL at h
 split at h
 ·rename_i v w' e;rw [e];exact hk _ _ h
 ·rename_i w' e;rw [e];exact hk _ _ h
 ·rename_i f args w' e;rw [e]
  refine And.intro (λhh=>(by cases hh)) (callsIn_wide.2 (h.mono ?_))
  rintro e w' ⟨v,he,r⟩;subst he;exact hk _ _ r
 ·rename_i l f tmps assign body w' e;rw [e]
  refine And.intro (λhh=>(by cases hh)) (RoundIn.mono (F:=FR ro) h ?_)
  rintro e w' ⟨v,he,r⟩;subst he;exact hk _ _ r
 ·exact h.elim
abbrev cX:=Value->World->Prop
def qV (T:cX):Prop:=∀ v w w',T v w->Ext w w'->T v w'
def is (X:Value):cX:=λv _=>v=X
theorem PQ (X:Value):qV (is X):=λ_ _ _ h _=>h
section region
variable (P:Program) (ops:List Oper) (m:Nat) (cls:List (List Nat)) (T:Nat->cX)
def fN (cl:List Nat) (t:Tmp):Option Nat:=cl.find? λj=>decide ((ops[j]?).bind (·.dst)=some t)
def wJ (cl:List Nat) (a0 a:Act) (w:World) (t:Tmp):Prop:=
 match fN ops cl t with
 |some j=>T j (a.tmps.getD t undef) w
 |none=>a.tmps.getD t undef=a0.tmps.getD t undef
def Ob (a0:Act) (w0:World) (i:Nat) (o:Oper):Prop:=
 ∀ a w,Ext w0 w->a.tmps.size=a0.tmps.size->(∀ t∈o.looksAt ops.toArray,wJ ops T (cls.getD i []) a0 a w t)->
  if Region.wanted o (yielded ops.toArray a.tmps) then cL P o a.eval w (λv w'=>T i v w'/\Ext w w') else T i undef w
def dD (o:Oper):List Nat:=(o.after.toList.filter λe=>Region.binds .any e).map (·.on)
def OX (size:Nat) (i:Nat) (o:Oper):Bool:=
 (match o.dst with|some d=>decide (d<size) && (List.range m).all (λj=>j == i || decide ((ops[j]?).bind (·.dst)≠some d))|none=>false) &&
 (dD o).all (λj=>decide (j<i)) &&
 (cls.getD i []).all (λj=>(dD o).contains j || (dD o).any λk=>(cls.getD k []).contains j) &&
 (o.looksAt ops.toArray).all (λt=>(List.range m).all λj=>decide ((ops[j]?).bind (·.dst)≠some t) || (cls.getD i []).contains j || (cls.getD j []).contains i)
def L6 (i:Nat) (o:Oper):Bool:=
 (dD o).all (λj=>decide (j<i)) && (List.range i).all (λj=>(dD o).contains j || (dD o).any λk=>decide (k<m) && (cls.getD k []).contains j || decide (m<=k) && decide (j<k))
def jk (size:Nat):Bool:=decide (m<=ops.length) && (List.range ops.length).all λi=>match ops[i]? with|some o=>if i<m then OX ops m cls size i o else L6 m cls i o|none=>false
end region
structure Inv (ops:List Oper) (m:Nat) (cls:List (List Nat)) (T:Nat->cX) (a0:Act) (w0:World) (listed:Array Bool) (a:Act) (w:World):Prop where
 ext:Ext w0 w
 defers:a.defers=a0.defers
 size:a.tmps.size=a0.tmps.size
 lsize:listed.size=ops.length
 tail:∀ i,m<=i->listed.getD i false=false
 done:∀ i o d,i<m->ops[i]? = some o->o.dst=some d->listed.getD i false=true->T i (a.tmps.getD d undef) w
 rest:∀ t,(∀ i o,i<m->ops[i]? = some o->o.dst=some t->listed.getD i false=false)->a.tmps.getD t undef=a0.tmps.getD t undef
 closed:∀ i,listed.getD i false=true->∀ j∈cls.getD i [],listed.getD j false=true
theorem DP {ops:List Oper} {m:Nat} {cls:List (List Nat)} {size:Nat} (h:jk ops m cls size=true):m<=ops.length:=by
 unfold jk at h;simp only [aq5,ar0] at h;exact h.1
theorem jO {ops:List Oper} {m:Nat} {cls:List (List Nat)} {size:Nat} (h:jk ops m cls size=true) {i:Nat} {o:Oper} (hi:ops[i]? = some o) (him:i<m):OX ops m cls size i o=true:=by
 unfold jk at h
 simp only [aq5] at h
 have hlt:i<ops.length:=(aq4.1 hi).1
 have:=aq6.1 h.2 i (ar7.2 hlt)
 simpa [hi,him] using this
theorem nf {ops:List Oper} {m:Nat} {cls:List (List Nat)} {size:Nat} (h:jk ops m cls size=true) {i:Nat} {o:Oper} (hi:ops[i]? = some o) (him:m<=i):
 (∀ j∈dD o,j<i)/\∀ j,j<i->j∈dD o∨∃ k∈dD o,(k<m/\j∈cls.getD k [])∨(m<=k/\j<k):=by
 unfold jk at h
 simp only [aq5] at h
 have hlt:i<ops.length:=(aq4.1 hi).1
 have h1:=aq6.1 h.2 i (ar7.2 hlt)
 have hn:¬ i<m:=by omega
 simp only [hi,if_neg hn,L6,aq5] at h1
 refine ⟨λj hj=>by simpa using aq6.1 h1.1 j hj,λj hj=>?_⟩
 have:=aq6.1 h1.2 j (ar7.2 hj)
 simpa using this
theorem iF {ops:List Oper} {m:Nat} {cls:List (List Nat)} {size i:Nat} {o:Oper} (h:OX ops m cls size i o=true):
 (∃ d,o.dst=some d/\d<size/\∀ j oj,j<m->ops[j]? = some oj->oj.dst=some d->j=i)/\
 (∀ j∈dD o,j<i)/\
 (∀ j∈cls.getD i [],j∈dD o∨∃ k∈dD o,j∈cls.getD k [])/\
 (∀ t∈o.looksAt ops.toArray,∀ j oj,j<m->ops[j]? = some oj->oj.dst=some t->j∈cls.getD i []∨i∈cls.getD j []):=by
 unfold OX at h
 simp only [aq5] at h
 obtain ⟨⟨⟨h1,h2⟩,h3⟩,h4⟩:=h
 refine ⟨?_,?_,?_,?_⟩
 ·cases hd:o.dst with
  |none=>simp [hd] at h1
  |some d=>
   simp only [hd,aq5,ar0] at h1
   refine ⟨d,rfl,h1.1,λj oj hlt hj hdj=>?_⟩
   have:=aq6.1 h1.2 j (ar7.2 hlt)
   simpa [hj,hdj] using this
 ·intro j hj
  have:=aq6.1 h2 j hj
  simpa using this
 ·intro j hj
  have:=aq6.1 h3 j hj
  simpa using this
 ·intro t ht j oj hlt hj hdj
  have h5:=aq6.1 h4 t ht
  have:=aq6.1 h5 j (ar7.2 hlt)
  simp [hj,hdj] at this
  simpa using this
theorem mi {ops:List Oper} {cl:List Nat} {t:Tmp} {j:Nat} (h:fN ops cl t=some j):j∈cl/\∃ oj,ops[j]? = some oj/\oj.dst=some t:=by
 unfold fN at h
 have h1:=List.mem_of_find?_eq_some h
 have h2:=List.find?_some h
 refine ⟨h1,?_⟩
 simp only [ar0] at h2
 cases hj:ops[j]? with
 |none=>simp [hj] at h2
 |some oj=>exact ⟨oj,rfl,by simpa [hj] using h2⟩
theorem pB {ops:List Oper} {cl:List Nat} {t:Tmp} (h:fN ops cl t=none) (j:Nat) (oj:Oper) (hj:ops[j]? = some oj) (hd:oj.dst=some t):j ∉ cl:=by
 unfold fN at h
 intro hm
 have:=List.find?_eq_none.1 h j hm
 simp [hj,hd] at this
theorem Act.tmps_put_size (a:Act) (d:Option Tmp) (v:Value):(a.put d v).tmps.size=a.tmps.size:=by cases d<;>simp [Act.put]
theorem yi {ops:List Oper} {m:Nat} {cls:List (List Nat)} {size:Nat} (hok:jk ops m cls size=true):∀ (i:Nat),i<m->∀ j∈cls.getD i [],j<i:=by
 intro i
 induction i using Nat.strongRecOn with
 |_ i ih=>
  intro hi j hj
  have hm:=DP hok
  have hio:ops[i]? = some ops[i]:=by simp
  obtain ⟨_,hlt,hcl,_⟩:=iF (jO hok hio hi)
  rcases hcl j hj with h|⟨k,hk,hjk⟩
  ·exact hlt j h
  ·have:=hlt k hk
   have:=ih k this (by omega) j hjk
   omega
theorem Ir {P:Program} {ro:Option Nat} {ops:List Oper} {m:Nat} {cls:List (List Nat)} {T:Nat->cX} {a0:Act} {w0:World} {Q:Exit->Act->World->Prop}
 (hok:jk ops m cls a0.tmps.size=true) (hT:∀ i,qV (T i)) (hob:∀ i o,i<m->ops[i]? = some o->Ob P ops cls T a0 w0 i o)
 {listed:Array Bool} {a:Act} {w:World} (I:Inv ops m cls T a0 w0 listed a w) {i:Nat} {o:Oper} (him:i<m) (hi:ops[i]? = some o)
 (hr:∀ j∈dD o,listed.getD j false=true) (hu:listed.getD i false=false) {K:Act->World->Prop}
 (hK:∀ a' w',Inv ops m cls T a0 w0 (listed.setIfInBounds i true) a' w'->K a' w'):wpOpIn (FR ro) 0 P ops.toArray Q i K a w:=by
 obtain ⟨⟨d,hd,hds,huniq⟩,hlt,hcl,hlook⟩:=iF (jO hok hi him)
 have hil:i<ops.length:=(aq4.1 hi).1
 have hclosed:∀ j∈cls.getD i [],listed.getD j false=true:=λj hj=>by
  rcases hcl j hj with h|⟨k,hk,hjk⟩
  ·exact hr j h
  ·exact I.closed k (hr k hk) j hjk
 have hslots:∀ t∈o.looksAt ops.toArray,wJ ops T (cls.getD i []) a0 a w t:=λt ht=>by
  unfold wJ
  cases hw:fN ops (cls.getD i []) t with
  |some j=>
   obtain ⟨hm,oj,hj,hdj⟩:=mi hw
   have:=yi hok i him j hm
   exact I.done j oj t (by omega) hj hdj (hclosed j hm)
  |none=>
   refine I.rest t λj oj hjm hj hdj=>?_
   have hnot:=pB hw j oj hj hdj
   have hin:=(hlook t ht j oj hjm hj hdj).resolve_left hnot
   cases hb:listed.getD j false with
   |false=>rfl
   |true=>have:=I.closed j hb i hin;rw [hu] at this;cases this
 have hset:∀ j,(listed.setIfInBounds i true).getD j false=true↔(j=i∨listed.getD j false=true):=λj=>by
  by_cases hji:i=j
  ·subst hji
   have:i<listed.size:=by rw [I.lsize];exact hil
   simp [this]
  ·have:¬ j=i:=λe=>hji e.symm
   simp [at1 hji,this]
 have step:∀ v w',T i v w'->Ext w w'->Inv ops m cls T a0 w0 (listed.setIfInBounds i true) (a.put o.dst v) w':=λv w' hv hE=>by
  refine ⟨I.ext.trans hE,?_,?_,by simp [I.lsize],?_,?_,?_,?_⟩
  ·rw [hd];exact I.defers
  ·rw [Act.tmps_put_size];exact I.size
  ·intro j hj
   cases hb:(listed.setIfInBounds i true).getD j false with
   |false=>rfl
   |true=>
    rcases (hset j).1 hb with e|e
    ·omega
    ·rw [I.tail j hj] at e;cases e
  ·intro j oj dj hjm hj hdj hl
   rw [hd]
   by_cases hji:j=i
   ·subst hji
    rw [hi] at hj;cases hj
    rw [hd] at hdj;cases hdj
    have:d<a.tmps.size:=by rw [I.size];exact hds
    simpa [Act.put,this] using hv
   ·have hne:d≠dj:=λe=>hji (huniq j oj hjm hj (e▸hdj))
    have hold:listed.getD j false=true:=((hset j).1 hl).resolve_left hji
    have:=hT j _ _ _ (I.done j oj dj hjm hj hdj hold) hE
    simpa [Act.put,at1 hne] using this
  ·intro t ht
   rw [hd]
   have hne:d≠t:=λe=>by
    have:=ht i o him hi (e▸hd)
    have h2:=(hset i).2 (.inl rfl)
    rw [this] at h2;cases h2
   have:=I.rest t λj oj hjm hj hdj=>by
    have:=ht j oj hjm hj hdj
    cases hb:listed.getD j false with
    |false=>rfl
    |true=>rw [(hset j).2 (.inr hb)] at this;cases this
   simpa [Act.put,at1 hne] using this
  ·intro j hj k hk
   rcases (hset j).1 hj with e|e
   ·subst e;exact(hset k).2 (.inr (hclosed k hk))
   ·exact(hset k).2 (.inr (I.closed j e k hk))
 have hO:=hob i o him hi a w I.ext I.size hslots
 have hi':ops.toArray[i]? = some o:=by simpa using hi
 unfold wpOpIn
 simp only [hi']
 split
 ·rename_i hw
  rw [if_pos hw] at hO
  exact hO.wp λv w' ⟨h1,h2⟩=>hK _ _ (step v w' h1 h2)
 ·rename_i hw
  rw [if_neg hw] at hO
  exact ⟨λ_ _=>trivial,hK _ _ (step undef w hO (Ext.refl w))⟩
theorem kC (l:List Bool) (i:Nat) (h:l[i]? = some false):(l.set i true).count false+1=l.count false:=by
 induction l generalizing i with
 |nil=>simp at h
 |cons b l ih=>
  cases i with
  |zero=>simp at h;subst h;simp
  |succ i=>simp at h;have:=ih i h;simp [List.count_cons];omega
theorem qn {ops:List Oper} {m:Nat} {cls:List (List Nat)} {size:Nat} (hok:jk ops m cls size=true) {listed:Array Bool} (hs:listed.size=ops.length) {i:Nat} (hi:i<ops.length)
 (hb:listed.getD i false=false) (hall:∀ j,j<i->listed.getD j false=true):i∈Region.ready .any ops.toArray listed:=by
 have hio:ops[i]? = some ops[i]:=by simp [hi]
 have hlt:∀ j∈dD ops[i],j<i:=by
  by_cases him:i<m
  ·exact(iF (jO hok hio him)).2.1
  ·exact(nf hok hio (by omega)).1
 exact mem_ready.2 ⟨by simp [hs,hi] at hb ⊢;exact hb,ops[i],by simp [hi],λe he hbd=>by
  have hm:e.on∈dD ops[i]:=au9.2 ⟨e,at4.2 ⟨by simpa using he,by simpa using hbd⟩,rfl⟩
  exact hall _ (hlt _ hm)⟩
theorem Gj {ops:List Oper} {m:Nat} {cls:List (List Nat)} {size:Nat} (hok:jk ops m cls size=true) {listed:Array Bool} (hs:listed.size=ops.length) (h:Region.ready .any ops.toArray listed=[]):
 ∀ i,i<ops.length->listed.getD i false=true:=by
 intro i
 induction i using Nat.strongRecOn with
 |_ i ih=>
  intro hi
  cases hb:listed.getD i false with
  |true=>rfl
  |false=>
   have:=qn hok hs hi hb (λj hj=>ih j hj (by omega))
   rw [h] at this;cases this
theorem fw {ops:List Oper} {listed:Array Bool} {i:Nat} (h:i∈Region.ready .any ops.toArray listed):∃ o,ops[i]? = some o/\(listed.size=ops.length->listed.getD i false=false)/\∀ j∈dD o,listed.getD j false=true:=by
 obtain ⟨h0,o,ho,hall⟩:=mem_ready.1 h
 have hio:ops[i]? = some o:=by simpa using ho
 refine ⟨o,hio,λhs=>?_,λj hj=>?_⟩
 ·have hil:i<listed.size:=by rw [hs];exact(aq4.1 hio).1
  simp [hil] at h0 ⊢;exact h0
 ·obtain ⟨e,he,rfl⟩:=au9.1 hj
  obtain ⟨h1,h2⟩:=at4.1 he
  exact hall e (by simpa using h1) (by simpa using h2)
theorem Cd {P:Program} {ro:Option Nat} {ops:List Oper} {m:Nat} {cls:List (List Nat)} {size:Nat} {Q:Exit->Act->World->Prop} (hok:jk ops m cls size=true):
 ∀ (n i:Nat) (listed:Array Bool) (a:Act) (w:World),ops.length=i+n->m<=i->listed.size=ops.length->(∀ j,j<i->listed.getD j false=true)->(∀ j,i<=j->listed.getD j false=false)->
  (∀ j,j<m->∀ k∈cls.getD j [],k<j)->wpOpsIn (FR ro) 0 P ops.toArray Q (List.range' i n) a w->wpAnyIn (FR ro) 0 P .any ops.toArray Q n listed a w:=by
 intro n
 induction n with
 |zero=>
  intro i listed a w hn him hs h1 h2 _ h
  have hq:Q .normal a w:=by simpa [wpOpsIn] using h
  refine ⟨?_,hq⟩
  cases hr:Region.ready .any ops.toArray listed with
  |nil=>rfl
  |cons x xs=>
   have hx:x∈Region.ready .any ops.toArray listed:=by rw [hr];exact ar5
   obtain ⟨o,ho,hf,_⟩:=fw hx
   have hlt:=(aq4.1 ho).1
   have:=h1 x (by omega)
   rw [hf hs] at this;cases this
 |succ n ih=>
  intro i listed a w hn him hs h1 h2 hc h
  have hi:i<ops.length:=by omega
  have hready:=qn hok hs hi (h2 i (as1 _)) h1
  refine ⟨λhr=>(by rw [hr] at hready;cases hready),λk hk=>?_⟩
  obtain ⟨o,ho,hf,hd⟩:=fw hk
  have hkl:=(aq4.1 ho).1
  have hki:k=i:=by
   rcases Nat.lt_trichotomy k i with h3|h3|h3
   ·have:=h1 k h3;rw [hf hs] at this;cases this
   ·exact h3
   ·rcases (nf hok ho (by omega)).2 i h3 with h4|⟨q,hq,h4⟩
    ·have:=hd i h4;rw [h2 i (as1 _)] at this;cases this
    ·have hql:=hd q hq
     have hqi:q<i:=by
      rcases as4 q i with h5|h5
      ·exact h5
      ·rw [h2 q h5] at hql;cases hql
     rcases h4 with h4|h4
     ·have:=hc q h4.1 i h4.2;omega
     ·omega
  subst hki
  rw [List.range'_succ,wpOpsIn_cons] at h
  refine wpOpIn_mono (λa' w' h'=>ih (k+1) _ a' w' (by omega) (by omega) (by simp [hs]) (λj hj=>?_) (λj hj=>?_) hc h') h
  ·by_cases e:k=j
   ·subst e;have:k<listed.size:=by rw [hs];exact hi
    simp [this]
   ·have:=h1 j (by omega);simpa [at1 e] using this
  ·have e:k≠j:=by omega
   have:=h2 j (by omega);simpa [at1 e] using this
def lk:List (Nat × Value)->Nat->Option Value
 |[],_=>none
 |(k,v)::r,t=>bif Nat.beq k t then some v else lk r t
structure Sl (n:Nat) (a:Act) (L:List (Nat × Value)) (D:List Deferred:=[]):Prop where
 size:a.tmps.size=n
 defers:a.defers=D
 holds:∀ t v,lk L t=some v->a.tmps.getD t undef=v
def ec (L:List (Nat × Value)):Operand->Option Value
 |.tmp t=>lk L t
 |.const v=>some v
 |.global g=>some (.pointer (some ⟨g,0,none⟩))
 |.func f=>some (.func (.func f) #[] #[])
theorem Sl.ev {n:Nat} {a:Act} {L:List (Nat × Value)} {Df:List Deferred} (h:Sl n a L Df) {x:Operand} {v:Value} (hx:ec L x=some v):a.eval x=v:=by
 cases x with
 |tmp t=>exact h.holds t v hx
 |const u=>simpa [ec,Act.eval] using hx
 |global g=>simpa [ec,Act.eval] using hx
 |func f=>simpa [ec,Act.eval] using hx
theorem Sl.put {n:Nat} {a:Act} {L:List (Nat × Value)} {Df:List Deferred} (h:Sl n a L Df) {d:Nat} (hd:Nat.blt d n=true) (v:Value):Sl n (a.put (some d) v) ((d,v)::L) Df:=by
 have hd':d<n:=by simpa using hd
 refine ⟨by rw [Act.tmps_put_size];exact h.size,h.defers,λt u ht=>?_⟩
 by_cases e:d=t
 ·subst e
  have:d<a.tmps.size:=by rw [h.size];exact hd'
  simp [lk] at ht
  simp [Act.put,this,ht]
 ·have:lk L t=some u:=by
   have hne:Nat.beq d t=false:=by cases hb:Nat.beq d t with|false=>rfl|true=>exact ax7 (Nat.eq_of_beq_eq_true hb) e
   simpa [lk,hne] using ht
  have h2:=h.holds t u this
  simpa [Act.put,at1 e] using h2
theorem CU {L:List (Nat × Value)} {t:Nat} {v:Value} (h:lk L t=some v):(t,v)∈L:=by
 induction L with
 |nil=>simp [lk] at h
 |cons p r ih=>
  obtain ⟨k,u⟩:=p
  unfold lk at h
  cases hb:Nat.beq k t with
  |true=>rw [hb] at h;simp at h;have:k=t:=by simpa using hb
         subst this;subst h;exact ar5
  |false=>rw [hb] at h;exact as5 _ (ih h)
theorem Sl.cut {n:Nat} {a:Act} {L:List (Nat × Value)} {Df:List Deferred} (h:Sl n a L Df) (L':List (Nat × Value)) (hL:∀ p∈L',lk L p.1=some p.2):Sl n a L' Df:=
 ⟨h.size,h.defers,λt v ht=>h.holds t v (hL _ (CU ht))⟩
theorem Sl.enter {n:Nat} {args:Array Value} (L:List (Nat × Value)) (hs:args.size<=n) (hL:∀ p∈L,args[p.1]? = some p.2):
 Sl n {tmps:=args++Array.replicate (n - args.size) undef,defers:=[]} L:=by
 refine ⟨by simp;omega,rfl,λt v ht=>?_⟩
 have h1:args[t]? = some v:=hL (t,v) (CU ht)
 have hlt:t<args.size:=(ax1.1 h1).1
 have h2:(args++Array.replicate (n - args.size) undef)[t]? = some v:=by
  rw [aw3 hlt];exact h1
 simp only [Array.getD_eq_getD_getElem?]
 rw [h2];rfl
def cd (w:World) (base:Nat) (e:TypeId) (size:Nat) (v:Value) (n:Nat) (xs:List Value):Prop:=
 xs.length=n*size/\
 ((v=.slice none 0 0/\n=0) ∨
  ∃ g cap cur fz,v=.slice (some ⟨g,0,none⟩) n cap/\base<=g/\w.heap[g]? = some (.cells cur e fz)/\(fz.2=0∨cur.size<=fz.1)/\n<=cap/\cap<=maxLen/\cur.size=cap*size/\cur.toList.take (n*size)=xs)
theorem cd.of {w:World} {base:Nat} {e:TypeId} {size:Nat} {v:Value} {n:Nat} {xs:List Value} (h:w.ownsRow base e size v n xs):cd w base e size v n xs:=by
 refine ⟨h.1,?_⟩
 rcases h.2 with hn|⟨g,cap,cur,hv,hb,hg,rest⟩
 ·exact .inl hn
 ·exact .inr ⟨g,cap,cur,(0,0),hv,hb,hg,.inl rfl,rest⟩
theorem cd.cells {w:World} {base:Nat} {e:TypeId} {size:Nat} {v:Value} {n:Nat} {xs:List Value} (h:cd w base e size v n xs) {g:Nat} (hg:v.ownBlock=some g):∀ j u,xs[j]? = some u->w.cell? ((⟨g,0,none⟩:Addr).add j)=some u:=by
 intro j u hu
 rcases h.2 with ⟨rfl,_⟩|⟨g',cap,cur,fz,rfl,_,hgg,_,_,_,_,htake⟩
 ·simp [Value.ownBlock] at hg
 ·simp [Value.ownBlock] at hg
  subst hg
  have hadd:(⟨g',0,none⟩:Addr).add j=⟨g',j,none⟩:=by unfold Addr.add;split<;>simp_all
  rw [hadd,cell_of_row w g' j cur e fz hgg]
  rw [← htake,List.getElem?_take] at hu
  split at hu
  ·simpa using hu
  ·cases hu
inductive Own where
 |blk (b:Nat) (o:Obj)
 |sl (v:Value) (e:TypeId) (sz n:Nat) (xs:List Value)
 |grp (ks:List Nat) (S:World->Prop)
def Own.ks:Own->List Nat
 |.blk b _=>[b]
 |.sl v _ _ _ _=>v.ownBlock.toList
 |.grp ks _=>ks
def Own.at (p:Own) (k:Nat):Prop:=k∈p.ks
theorem Own.at_blk {b k:Nat} {o:Obj}:(Own.blk b o).at k↔k=b:=by simp [Own.at,Own.ks]
theorem Own.at_sl {v:Value} {e:TypeId} {sz n:Nat} {xs:List Value} {k:Nat}:(Own.sl v e sz n xs).at k↔v.ownBlock=some k:=by simp [Own.at,Own.ks]
def Own.holds (w0 w:World):Own->Prop
 |.blk b o=>w.heap[b]? = some o
 |.sl v e sz n xs=>cd w w0.heap.size e sz v n xs
 |.grp ks S=>(∀ k∈ks,k<w.heap.size)/\∀ w':World,(∀ k∈ks,w'.heap[k]? = w.heap[k]?)->S w'
theorem Own.lt {w0 w:World} {p:Own} (h:p.holds w0 w) {k:Nat} (hk:p.at k):k<w.heap.size:=by
 cases p with
 |blk b o=>rw [Own.at_blk] at hk;subst hk;exact(ax1.1 h).1
 |sl v e sz n xs=>
  rw [Own.at_sl] at hk
  rcases h.2 with ⟨hv,_⟩|⟨g,cap,cur,fz,hv,_,hg,_⟩
  ·subst hv;simp [Value.ownBlock] at hk
  ·subst hv;simp [Value.ownBlock] at hk;subst hk;exact(ax1.1 hg).1
 |grp ks S=>exact h.1 k hk
theorem Own.keep {w0 w w':World} {p:Own} (h:p.holds w0 w) (hk:∀ k,p.at k->w'.heap[k]? = w.heap[k]?):p.holds w0 w':=by
 cases p with
 |blk b o=>exact (hk b (Own.at_blk.2 rfl)).trans h
 |sl v e sz n xs=>
  refine ⟨h.1,?_⟩
  rcases h.2 with hv|⟨g,cap,cur,fz,hv,hb,hg,r⟩
  ·exact .inl hv
  ·exact .inr ⟨g,cap,cur,fz,hv,hb,by rw [hk g (Own.at_sl.2 (by rw [hv];rfl))];exact hg,r⟩
 |grp ks S=>
  refine ⟨λk hm=>?_,λw2 h2=>h.2 w2 λk hm=>(h2 k hm).trans (hk k hm)⟩
  have h1:=h.1 k hm
  have h3:=hk k hm
  rw [ax0 h1] at h3
  exact(ax1.1 h3).1
structure Grw (w w':World) (row:Option Nat):Prop extends World.grownBy w w' row where
 drawn:w.drawn<=w'.drawn
structure St (w0:World) (B:List Own) (w:World):Prop where
 ext:Ext w0 w
 has:∀ p∈B,p.holds w0 w
 own:∀ p∈B,∀ k,p.at k->w0.heap.size<=k
 nd:B.Pairwise (λp q=>∀ k,p.at k->¬ q.at k)
theorem St.start (w:World):St w [] w:=⟨Ext.refl w,by simp,by simp,List.Pairwise.nil⟩
theorem St.more {w0:World} {B:List Own} {w w':World} (h:St w0 B w) (e:Ext w w'):St w0 B w':=
 ⟨h.ext.trans e,λp hp=>Own.keep (h.has p hp) λk hk=>e.heap (Own.lt (h.has p hp) hk),h.own,h.nd⟩
theorem St.drew {w0:World} {B:List Own} {w:World} (h:St w0 B w):St w0 B w.drew:=h.more (Ext.refl w).drew
theorem St.plus {w0:World} {B:List Own} {w w':World} (h:St w0 B w) (e:Ext w w') (p:Own) (hp:p.holds w0 w') (hk:∀ k,p.at k->w.heap.size<=k):St w0 (p::B) w':=by
 have h1:=h.more e
 refine ⟨h1.ext,λq hq=>?_,λq hq k hqk=>?_,?_⟩
 ·rcases ar6.1 hq with rfl|hq
  ·exact hp
  ·exact h1.has q hq
 ·rcases ar6.1 hq with rfl|hq
  ·exact av5 h.ext.le (hk k hqk)
  ·exact h.own q hq k hqk
 ·exact List.pairwise_cons.2 ⟨λq hq k hpk hqk=>by have:=Own.lt (h.has q hq) hqk;have:=hk k hpk;omega,h.nd⟩
theorem St.new {w0:World} {B:List Own} {w:World} (h:St w0 B w) (o:Obj):St w0 (.blk w.heap.size o::B) (w.alloc o):=
 h.plus ((Ext.refl w).alloc o) _ (heap_alloc_new w o) λk hk=>by rw [Own.at_blk] at hk;omega
theorem St.get {w0:World} {B:List Own} {w:World} (h:St w0 B w) (i:Nat) {b:Nat} {o:Obj} (hi:B[i]? = some (.blk b o)):w.heap[b]? = some o:=
 h.has (.blk b o) (List.mem_of_getElem? hi)
theorem St.getSl {w0:World} {B:List Own} {w:World} (h:St w0 B w) (i:Nat) {v:Value} {e:TypeId} {sz n:Nat} {xs:List Value} (hi:B[i]? = some (.sl v e sz n xs)):cd w w0.heap.size e sz v n xs:=
 h.has (.sl v e sz n xs) (List.mem_of_getElem? hi)
theorem St.upd {w0:World} {B:List Own} {w w':World} (h:St w0 B w) (i:Nat) {p p':Own} (hi:B[i]? = some p)
 (hos:w'.os=w.os) (htp:w'.tape=w.tape) (hout:w'.output=w.output) (hs:w.heap.size<=w'.heap.size)
 (hold:p'.holds w0 w') (hkey:∀ k,p'.at k->p.at k∨w.heap.size<=k) (hother:∀ k,k<w.heap.size->¬ p.at k->w'.heap[k]? = w.heap[k]?) (hdr:w.drawn<=w'.drawn:=by exact as1 _):St w0 (B.set i p') w':=by
 have hpm:=List.mem_of_getElem? hi
 have hil:i<B.length:=(aq4.1 hi).1
 have hBi:B[i]=p:=(aq4.1 hi).2
 have hnot:∀ j (hj:j<B.length),i≠j->∀ k,(B[j]).at k->¬ p.at k:=λj hj hij k hk hpk=>by
  have hpw:=List.pairwise_iff_getElem.1 h.nd
  rcases Nat.lt_or_gt_of_ne hij with hlt|hlt
  ·have:=hpw i j hil hj hlt k (by rw [hBi];exact hpk);exact this hk
  ·have:=hpw j i hj hil hlt k hk;rw [hBi] at this;exact this hpk
 refine ⟨?_,λq hq=>?_,λq hq k hqk=>?_,?_⟩
 ·refine ⟨⟨hos.trans h.ext.os,htp.trans h.ext.tape,hout.trans h.ext.output,av5 h.ext.le hs,λk hk=>?_⟩,av5 h.ext.drawn hdr⟩
  rw [hother k (Nat.lt_of_lt_of_le hk h.ext.le) (λe=>by have:=h.own p hpm k e;omega)];exact h.ext.heap hk
 ·obtain ⟨j,hj,rfl⟩:=aw1 hq
  by_cases hij:i=j
  ·subst hij;simp only [List.getElem_set_self];exact hold
  ·simp only [List.getElem_set_ne hij]
   have hjl:j<B.length:=by simpa using hj
   have hh:=h.has _ (aw0 hjl)
   exact Own.keep hh λk hk=>hother k (Own.lt hh hk) (hnot j hjl hij k hk)
 ·obtain ⟨j,hj,rfl⟩:=aw1 hq
  by_cases hij:i=j
  ·subst hij;simp only [List.getElem_set_self] at hqk
   rcases hkey k hqk with e|e
   ·exact h.own p hpm k e
   ·exact av5 h.ext.le e
  ·simp only [List.getElem_set_ne hij] at hqk;exact h.own _ (aw0 _) k hqk
 ·rw [List.pairwise_iff_getElem]
  intro j m hj hm hjm k h1 h2
  have hjl:j<B.length:=by simpa using hj
  have hml:m<B.length:=by simpa using hm
  have hold2:∀ q (hq:q<B.length),i≠q->(B[q]).at k->p'.at k->False:=λq hq hiq e1 e2=>by
   rcases hkey k e2 with e|e
   ·exact hnot q hq hiq k e1 e
   ·have:=Own.lt (h.has _ (aw0 hq)) e1;omega
  by_cases e1:i=j
  ·subst e1
   have e2:i≠m:=by omega
   simp only [List.getElem_set_self] at h1
   simp only [List.getElem_set_ne e2] at h2
   exact hold2 m hml e2 h2 h1
  ·by_cases e2:i=m
   ·subst e2
    simp only [List.getElem_set_self] at h2
    simp only [List.getElem_set_ne e1] at h1
    exact hold2 j hjl e1 h1 h2
   ·simp only [List.getElem_set_ne e1] at h1
    simp only [List.getElem_set_ne e2] at h2
    exact List.pairwise_iff_getElem.1 h.nd j m hjl hml hjm k h1 h2
theorem St.store {w0:World} {B:List Own} {w:World} (h:St w0 B w) (i:Nat) {b:Nat} {C:Array Value} {t:TypeId} (hi:B[i]? = some (.blk b (.cells C t))) (j:Nat) (v:Value):
 St w0 (B.set i (.blk b (.cells (C.setIfInBounds j v) t))) (w.setCell ⟨b,j,none⟩ v):=
 h.upd i hi rfl rfl rfl (by simp) (heap_setCell_same w b j C t v (h.get i hi)) (λk hk=>.inl hk) (λk _ hk=>heap_setCell_other w ⟨b,j,none⟩ k v (λe=>hk (Own.at_blk.2 e)))
theorem St.row {w0:World} {B:List Own} {w:World} (h:St w0 B w) (i:Nat) {b:Nat} {C:Array Value} {t:TypeId} (hi:B[i]? = some (.blk b (.cells C t))) (D:Array Value):
 St w0 (B.set i (.blk b (.cells D t))) (w.setRow b D):=
 h.upd i hi rfl rfl rfl (by simp) (setRow_heap w b C D t (0,0) (h.get i hi)) (λk hk=>.inl hk) (λk _ hk=>setRow_other w b k D (λe=>hk (Own.at_blk.2 e)))
theorem St.pick {w0:World} {B:List Own} {w:World} (h:St w0 B w) (B':List Own) (hs:B'.Sublist B):St w0 B' w:=
 ⟨h.ext,λp hp=>h.has p (hs.subset hp),λp hp=>h.own p (hs.subset hp),h.nd.sublist hs⟩
theorem St.perm {w0:World} {B B':List Own} {w:World} (h:St w0 B w) (hp:B.Perm B'):St w0 B' w:=
 ⟨h.ext,λp hm=>h.has p (hp.mem_iff.2 hm),λp hm=>h.own p (hp.mem_iff.2 hm),(hp.pairwise_iff (λ{x y} hxy k hk hk'=>hxy k hk' hk)).1 h.nd⟩
def Own.all (w0:World) (A:List Own):Own:=.grp (A.flatMap Own.ks) λw'=>∀ p∈A,p.holds w0 w'
theorem St.group {w0:World} {A B:List Own} {w:World} (h:St w0 (A++B) w):St w0 (.all w0 A::B) w:=by
 have hmem:∀ k,k∈A.flatMap Own.ks↔∃ p∈A,p.at k:=λk=>by rw [List.mem_flatMap];rfl
 have hpw:=List.pairwise_append.1 h.nd
 refine ⟨h.ext,λp hp=>?_,λp hp k hk=>?_,List.pairwise_cons.2 ⟨λq hq k hk=>?_,hpw.2.1⟩⟩
 ·rcases ar6.1 hp with rfl|hp
  ·refine ⟨λk hk=>?_,λw' hw' p hp=>Own.keep (h.has p (List.mem_append_left _ hp)) λk hk=>hw' k ((hmem k).2 ⟨p,hp,hk⟩)⟩
   obtain ⟨p,hp,hk⟩:=(hmem k).1 hk
   exact Own.lt (h.has p (List.mem_append_left _ hp)) hk
  ·exact h.has p (List.mem_append_right _ hp)
 ·rcases ar6.1 hp with rfl|hp
  ·obtain ⟨p,hp,hk⟩:=(hmem k).1 hk
   exact h.own p (List.mem_append_left _ hp) k hk
  ·exact h.own p (List.mem_append_right _ hp) k hk
 ·obtain ⟨p,hp,hk⟩:=(hmem k).1 hk
  exact hpw.2.2 p hp q hq k hk
theorem St.ungroup {w0:World} {A B:List Own} {w:World} (h:St w0 (.all w0 A::B) w) (hnd:A.Pairwise λp q=>∀ k,p.at k->¬ q.at k):St w0 (A++B) w:=by
 have hmem:∀ k,k∈A.flatMap Own.ks↔∃ p∈A,p.at k:=λk=>by rw [List.mem_flatMap];rfl
 have h0:=h.has _ ar5
 have hpw:=List.pairwise_cons.1 h.nd
 refine ⟨h.ext,λp hp=>?_,λp hp k hk=>?_,List.pairwise_append.2 ⟨hnd,hpw.2,λp hp q hq k hk=>hpw.1 q hq k ((hmem k).2 ⟨p,hp,hk⟩)⟩⟩
 ·rcases at9.1 hp with hp|hp
  ·exact h0.2 w (λ_ _=>rfl) p hp
  ·exact h.has p (as5 _ hp)
 ·rcases at9.1 hp with hp|hp
  ·exact h.own _ ar5 k ((hmem k).2 ⟨p,hp,hk⟩)
  ·exact h.own p (as5 _ hp) k hk
def a8 (P:Program) (o:Oper) (ρ:Operand->Value) (X:Value):Prop:=∀ w,(execOp ρ o).run P w=.ok (.value X) w
theorem a8.does {P:Program} {o:Oper} {ρ:Operand->Value} {X:Value} (h:a8 P o ρ X) {w:World} {R:Value->World->Prop} (hR:R X w):cL P o ρ w R:=by
 unfold cL;rw [h w];exact hR
section
variable {P:Program} {ρ:Operand->Value} {d:Option Tmp} {ty:TypeId} {pos:String} {af:Array Edge} {g:Option (Nat × Bool)} {x y c:Operand} {t t':TypeId} {k:IntKind} {m n:Int} {X:Value}
theorem Pe (hx:ρ x=X):a8 P ⟨d,.move x,ty,pos,af,g⟩ ρ X:=λw=>by simp [execOp,hx]
theorem Gv (hx:ρ x=X):a8 P ⟨d,.assign x,ty,pos,af,g⟩ ρ X:=λw=>by simp [execOp,hx]
theorem EJ {b:Bool} (hc:ρ c=.bool b) (hX:(if b then ρ x else ρ y)=X):a8 P ⟨d,.pick c x y,ty,pos,af,g⟩ ρ X:=λw=>by simp [execOp,hc,asBool,hX]
theorem kH (op:BinOp) (k':IntKind) (w:World):(eqGuard op t x y (.int k m) (.int k' n)).run P w=.ok () w:=by
 unfold eqGuard;split<;>rfl
theorem js {op:BinOp} (hx:ρ x=.int k m) (hy:ρ y=.int k n) (h:∀ w,(binOp op t (.int k m) (.int k n)).run P w=.ok X w):a8 P ⟨d,.binOp op t x y t',ty,pos,af,g⟩ ρ X:=λw=>by
 simp only [execOp,hx,hy,au7,kH,aq9,h,au8]
theorem HD (hx:ρ x=.int k m) (hy:ρ y=.int k n):a8 P ⟨d,.binOp .lss t x y t',ty,pos,af,g⟩ ρ (.bool (decide (m<n))):=js hx hy λw=>by simp [binOp,Op.intCmp]
theorem Lf (hx:ρ x=.int k m) (hy:ρ y=.int k n):a8 P ⟨d,.binOp .leq t x y t',ty,pos,af,g⟩ ρ (.bool (decide (m<=n))):=js hx hy λw=>by simp [binOp,Op.intCmp]
theorem LF (hx:ρ x=.int k m) (hy:ρ y=.int k n):a8 P ⟨d,.binOp .gtr t x y t',ty,pos,af,g⟩ ρ (.bool (decide (n<m))):=js hx hy λw=>by simp [binOp,Op.intCmp]
theorem Ss (hx:ρ x=.int k m) (hy:ρ y=.int k n):a8 P ⟨d,.binOp .geq t x y t',ty,pos,af,g⟩ ρ (.bool (decide (n<=m))):=js hx hy λw=>by simp [binOp,Op.intCmp]
theorem Um (hx:ρ x=.int k m) (hy:ρ y=.int k n):a8 P ⟨d,.binOp .eql t x y t',ty,pos,af,g⟩ ρ (.bool (decide (m=n))):=js hx hy λw=>by
 have:(m == n)=decide (m=n):=by rw [aw6];simp
 simp [binOp,Op.intCmp,this]
theorem UE (hx:ρ x=.int k m) (hy:ρ y=.int k n):a8 P ⟨d,.binOp .neq t x y t',ty,pos,af,g⟩ ρ (.bool (decide (m≠n))):=js hx hy λw=>by
 have:(m != n)=decide (m≠n):=by rw [aw6];simp
 simp [binOp,Op.intCmp,this]
theorem Pc (hx:ρ x=.int k m) (hy:ρ y=.int k n):a8 P ⟨d,.binOp .add t x y t',ty,pos,af,g⟩ ρ (.int k (k.wrap (m+n))):=js hx hy λw=>by simp [binOp,Op.intArith]
theorem N8 (hx:ρ x=.int k m) (hy:ρ y=.int k n):a8 P ⟨d,.binOp .sub t x y t',ty,pos,af,g⟩ ρ (.int k (k.wrap (m - n))):=js hx hy λw=>by simp [binOp,Op.intArith]
theorem bB (hx:ρ x=.int .i64 m) (hy:ρ y=.int .i64 n) (h : -9223372036854775808<=m+n/\m+n<=9223372036854775807):a8 P ⟨d,.binOp .add t x y t',ty,pos,af,g⟩ ρ (.int .i64 (m+n)):=by
 have:=Pc (P:=P) (d:=d) (ty:=ty) (pos:=pos) (af:=af) (g:=g) (t:=t) (t':=t') hx hy;rwa [IntWalk.i64_in _ h] at this
theorem fp (hx:ρ x=.int .i64 m) (hy:ρ y=.int .i64 n) (h : -9223372036854775808<=m - n/\m - n<=9223372036854775807):a8 P ⟨d,.binOp .sub t x y t',ty,pos,af,g⟩ ρ (.int .i64 (m - n)):=by
 have:=N8 (P:=P) (d:=d) (ty:=ty) (pos:=pos) (af:=af) (g:=g) (t:=t) (t':=t') hx hy;rwa [IntWalk.i64_in _ h] at this
theorem HL (hx:ρ x=.int k m) (hy:ρ y=.int k n) (h:0<=m/\1<=n):a8 P ⟨d,.binOp .rem t x y t',ty,pos,af,g⟩ ρ (.int k (m % n)):=
 js hx hy λw=>by
  have h0:¬ n=0:=by omega
  simp [binOp,Op.intDiv,h0,IntWalk.rem_in m n h.1]
theorem My (hx:ρ x=.int k m) (hy:ρ y=.int k n) (h:1<=n):a8 P ⟨d,.binOp .rem t x y t',ty,pos,af,g⟩ ρ (.int k (m.tmod n)):=
 js hx hy λw=>by
  have h0:¬ n=0:=by omega
  simp [binOp,Op.intDiv,h0]
theorem Ia {op:BinOp} {k':IntKind} (hop:op=.shl∨op=.shr) (hx:ρ x=.int k m) (hy:ρ y=.int k' n) (h:∀ w,(Op.shift op k m k' n).run P w=.ok X w):a8 P ⟨d,.binOp op t x y t',ty,pos,af,g⟩ ρ X:=λw=>by
 rcases hop with rfl|rfl<;>simp only [execOp,hx,hy,au7,kH,aq9,binOp,h,au8]
theorem S5 {k':IntKind} (hx:ρ x=.int k m) (hy:ρ y=.int k' n) (h:0<=n):a8 P ⟨d,.binOp .shr t x y t',ty,pos,af,g⟩ ρ (.int k (m.fdiv (2 ^ (min n.toNat k.bits)))):=
 Ia (.inr rfl) hx hy fun w=>by have h0:¬ n<0:=by omega
                               simp [Op.shift,h0]
theorem Sm {b:Bool} (hx:ρ x=.bool b):a8 P ⟨d,.unOp .not t x,ty,pos,af,g⟩ ρ (.bool (!b)):=λw=>by simp [execOp,hx,Op.unary]
theorem D6 {k':IntKind} {s:TypeDesc} (hs:P.underlying t=some s) (ht:P.underlying t'=some (.int k')) (hx:ρ x=.int k m):a8 P ⟨d,.convert t t' x,ty,pos,af,g⟩ ρ (.int k' (k'.wrap m)):=λw=>by
 simp [execOp,hx,convert,au7,ar1 hs,ar1 ht,Conv.intToInt]
theorem Bg {vs:Array Value} {i:Nat} (hx:ρ x=.tuple vs) (hi:vs[i]? = some X):a8 P ⟨d,.extract x i,ty,pos,af,g⟩ ρ X:=λw=>by
 simp [execOp,hx,Instr.extract,hi]
theorem wG {b len:Nat} {e:TypeId} (ht:P.underlying t=some (.array len e)) (he:(P.info? e).map (·.size)=some 1) (hx:ρ x=.pointer (some ⟨b,0,none⟩)) (hy:ρ y=.int k m)
 (hm:0<=m/\m<len):a8 P ⟨d,.indexAddr t x y,ty,pos,af,g⟩ ρ (.pointer (some ⟨b,m.toNat,none⟩)):=λw=>by
 cases hi:P.info? e with
 |none=>simp [hi] at he
 |some i=>
  have h1:i.size=1:=by simpa [hi] using he
  have ha:(⟨b,0,none⟩:Addr).add m.toNat=⟨b,m.toNat,none⟩:=by unfold Addr.add;split<;>simp_all
  simp [execOp,hx,hy,Instr.indexAt,asIntOf,au7,ar1 ht,Instr.sureAddr,hm,sizeOf,typeInfo,hi,h1,ha]
end
def ce (P:Program) (ops:Array Oper) (K:Act->World->Prop):List Oper->Act->World->Prop
 |[],a,w=>K a w
 |o::l,a,w=>if Region.wanted o (yielded ops a.tmps) then cL P o a.eval w (λv w'=>ce P ops K l (a.put o.dst v) w') else ce P ops K l (a.put o.dst undef) w
theorem ce.wp {P:Program} {ro:Option Nat} {ops:Array Oper} {Q:Exit->Act->World->Prop}:∀ {l:List Oper} {a:Act} {w:World},ce P ops (Q .normal) l a w->wpListIn (FR ro) 0 P ops Q l a w
 |[],_,_,h=>h
 |o::l,a,w,h=>by
  unfold ce at h
  unfold wpListIn
  split at h
  ·rename_i hw
   rw [if_pos hw]
   exact cL.wp h λv w' h'=>ce.wp h'
  ·rename_i hw
   rw [if_neg hw]
   exact ⟨λ_ _=>trivial,ce.wp h⟩
theorem ce.mono {P:Program} {ops:Array Oper} {K K':Act->World->Prop} (hk:∀ a w,K a w->K' a w):∀ {l:List Oper} {a:Act} {w:World},ce P ops K l a w->ce P ops K' l a w
 |[],_,_,h=>hk _ _ h
 |o::l,a,w,h=>by
  unfold ce at h ⊢
  split at h
  ·rename_i hw
   rw [if_pos hw]
   exact h.mono λv w' h'=>ce.mono hk h'
  ·rename_i hw
   rw [if_neg hw]
   exact ce.mono hk h
theorem ce.append {P:Program} {ops:Array Oper} {K:Act->World->Prop}:∀ {l r:List Oper} {a:Act} {w:World},ce P ops K (l++r) a w↔ce P ops (ce P ops K r) l a w
 |[],_,_,_=>Iff.rfl
 |o::l,r,a,w=>by
  rw [List.cons_append]
  unfold ce
  split
  ·exact ⟨λh=>h.mono λv w' h'=>ce.append.1 h',λh=>h.mono λv w' h'=>ce.append.2 h'⟩
  ·exact ce.append
section
variable {ro:Option Nat} {P:Program} {ops:Array Oper} {Q:Act->World->Prop} {l:List Oper} {a:Act} {w:World} {N:Nat} {L:List (Nat × Value)} {Df:List Deferred} {d:Tmp} {op:Op} {ty:TypeId} {pos:String} {af:Array Edge}
theorem aE (h:Q a w):ce P ops Q [] a w:=h
theorem dR {R:Value->World->Prop} (h:Sl N a L Df) (hr:cL P ⟨some d,op,ty,pos,af,none⟩ a.eval w R) (hd:Nat.blt d N=true)
 (k:∀ a' w' v,R v w'->Sl N a' ((d,v)::L) Df->ce P ops Q l a' w'):ce P ops Q (⟨some d,op,ty,pos,af,none⟩::l) a w:=
 by unfold ce;rw [if_pos (by simp [Region.wanted])];exact hr.mono λv w' r=>k _ w' v r (h.put hd v)
theorem ji {R:Value->World->Prop} (hr:cL P ⟨none,op,ty,pos,af,none⟩ a.eval w R) (k:∀ w' v,R v w'->ce P ops Q l a w'):ce P ops Q (⟨none,op,ty,pos,af,none⟩::l) a w:=
 by unfold ce;rw [if_pos (by simp [Region.wanted])];exact hr.mono λv w' r=>k w' v r
theorem ak {X:Value} (h:Sl N a L Df) (hr:a8 P ⟨some d,op,ty,pos,af,none⟩ a.eval X) (hd:Nat.blt d N=true)
 (k:∀ a',Sl N a' ((d,X)::L) Df->ce P ops Q l a' w):ce P ops Q (⟨some d,op,ty,pos,af,none⟩::l) a w:=
 dR (R:=λv w'=>v=X/\w'=w) h (hr.does ⟨rfl,rfl⟩) hd λa' w' v ⟨h1,h2⟩ hs=>by subst h1;subst h2;exact k a' hs
theorem Xf {j:Nat} {b:Bool} {od:Oper} {t:Tmp} (h:Sl N a L Df) (hj:ops[j]? = some od) (ht:od.dst=some t) (hv:lk L t=some (.bool (!b))) (hd:Nat.blt d N=true)
 (k:∀ a',Sl N a' ((d,undef)::L) Df->ce P ops Q l a' w):ce P ops Q (⟨some d,op,ty,pos,af,some (j,b)⟩::l) a w:=by
 have hlt:t<a.tmps.size:=by
  rcases as4 t a.tmps.size with h'|h'
  ·exact h'
  ·have h2:=h.holds t _ hv;simp [at0 h',undef] at h2
 have hy:yielded ops a.tmps j=some (!b):=by
  have h2:=h.holds t _ hv
  unfold yielded
  have h3:a.tmps[t]? = some (.bool (!b)):=by simp [hlt] at h2 ⊢;exact h2
  simp [hj,ht,h3]
 unfold ce
 have:Region.wanted ⟨some d,op,ty,pos,af,some (j,b)⟩ (yielded ops a.tmps)=false:=by
  simp [Region.wanted,hy]
 rw [this]
 exact k _ (h.put hd undef)
theorem WI {j:Nat} {b:Bool} {od:Oper} {t:Tmp} (h:Sl N a L Df) (hj:ops[j]? = some od) (ht:od.dst=some t) (hv:lk L t=some (.bool b))
 (k:ce P ops Q (⟨some d,op,ty,pos,af,none⟩::l) a w):ce P ops Q (⟨some d,op,ty,pos,af,some (j,b)⟩::l) a w:=by
 have hlt:t<a.tmps.size:=by
  rcases as4 t a.tmps.size with h'|h'
  ·exact h'
  ·have h2:=h.holds t _ hv;simp [at0 h',undef] at h2
 have hy:yielded ops a.tmps j=some b:=by
  have h2:=h.holds t _ hv
  unfold yielded
  have h3:a.tmps[t]? = some (.bool b):=by simp [hlt] at h2 ⊢;exact h2
  simp [hj,ht,h3]
 unfold ce at k ⊢
 have h1:Region.wanted ⟨some d,op,ty,pos,af,some (j,b)⟩ (yielded ops a.tmps)=true:=by simp [Region.wanted,hy]
 have h2:Region.wanted ⟨some d,op,ty,pos,af,none⟩ (yielded ops a.tmps)=true:=by simp [Region.wanted]
 rw [if_pos h1]
 rw [if_pos h2] at k
 exact k
end
theorem ce.nil {P:Program} {ops:Array Oper} {K:Act->World->Prop} {a:Act} {w:World}:ce P ops K [] a w↔K a w:=Iff.rfl
attribute [irreducible] ce
end Go.Proofs.YthmlflaiidhoiaaGreatDoor
namespace Go.Proofs.YthmlflaiidhoiaaGreatDoor
open Go.RowKit
section
variable {ro:Option Nat} {P:Program} {ops:Array Oper} {Q:Act->World->Prop} {l:List Oper} {a:Act} {w w0:World} {N:Nat} {L:List (Nat × Value)} {Df:List Deferred} {B:List Own} {d:Tmp} {ty:TypeId} {pos:String} {af:Array Edge} {x y:Operand} {t:TypeId}
theorem JE {ρ:Operand->Value} {V:Value} {dst:Option Tmp} {g:Option (Nat × Bool)} (hx:ρ x=V) {R:Value->World->Prop} (hR:R (.pointer (some ⟨w.heap.size,0,none⟩)) (w.alloc (.cells V.cells t))):
 cL P ⟨dst,.box t x,ty,pos,af,g⟩ ρ w R:=by
 unfold cL
 simp only [execOp,hx,Instr.box,newVar,newRow,au7,run_newObj,aq9,au8]
 exact hR
theorem ba {V:Value} (C:Array Value) (h:Sl N a L Df) (s:St w0 B w) (hx:ec L x=some V) (hC:V.cells=C) (hd:Nat.blt d N=true)
 (k:∀ a' w' b,Sl N a' ((d,.pointer (some ⟨b,0,none⟩))::L) Df->St w0 (.blk b (.cells C t)::B) w'->ce P ops Q l a' w'):ce P ops Q (⟨some d,.box t x,ty,pos,af,none⟩::l) a w:=by
 subst hC
 exact
 dR (R:=λv w'=>v=.pointer (some ⟨w.heap.size,0,none⟩)/\w'=w.alloc (.cells V.cells t)) h (JE (h.ev hx) ⟨rfl,rfl⟩) hd
  λa' w' v ⟨h1,h2⟩ hs=>by subst h1;subst h2;exact k a' _ _ hs (s.new _)
theorem CL {ρ:Operand->Value} {Z:Value} {dst:Option Tmp} {g:Option (Nat × Bool)} (hz:(P.info? t).bind (·.zero)=some Z) {R:Value->World->Prop} (hR:R (.pointer (some ⟨w.heap.size,0,none⟩)) (w.alloc (.cells Z.cells t))):
 cL P ⟨dst,.alloc t,ty,pos,af,g⟩ ρ w R:=by
 cases hi:P.info? t with
 |none=>simp [hi] at hz
 |some i=>
  have hz':i.zero=some Z:=by simpa [hi] using hz
  unfold cL
  simp only [execOp,Instr.alloc,zeroValue,typeInfo,newVar,newRow,au7,run_program,hi,hz',run_newObj,aq9,au8]
  exact hR
theorem aK {Z:Value} (C:Array Value) (h:Sl N a L Df) (s:St w0 B w) (hz:(P.info? t).bind (·.zero)=some Z) (hC:Z.cells=C) (hd:Nat.blt d N=true)
 (k:∀ a' w' b,Sl N a' ((d,.pointer (some ⟨b,0,none⟩))::L) Df->St w0 (.blk b (.cells C t)::B) w'->ce P ops Q l a' w'):ce P ops Q (⟨some d,.alloc t,ty,pos,af,none⟩::l) a w:=by
 subst hC
 exact
 dR (R:=λv w'=>v=.pointer (some ⟨w.heap.size,0,none⟩)/\w'=w.alloc (.cells Z.cells t)) h (CL hz ⟨rfl,rfl⟩) hd
  λa' w' v ⟨h1,h2⟩ hs=>by subst h1;subst h2;exact k a' _ _ hs (s.new _)
def Uq:TypeDesc->Bool|.struct _=>true|.array _ _=>true|_=>false
structure Row (P:Program) (t:TypeId) (n:Nat):Prop where
 desc:∃ dsc,P.underlying t=some dsc/\Uq dsc=true
 size:(P.info? t).map (·.size)=some n
structure One (P:Program) (t:TypeId):Prop where
 desc:∃ dsc,P.underlying t=some dsc/\Uq dsc=false
 size:(P.info? t).map (·.size)=some 1
theorem eo {n:Nat} (hr:Row P t n) (w:World) (b:Nat) (C:Array Value) (u:TypeId) (fr:Nat × Nat) (hb:w.heap[b]? = some (.cells C u fr)) (hn:C.size=n):(loadVar t ⟨b,0,none⟩).run P w=.ok (.agg C) w:=by
 obtain ⟨dsc,h1,h2⟩:=hr.desc
 exact run_loadVar_row w b u t C fr dsc hb h1 (by cases dsc<;>first|rfl|cases h2) (by rw [hr.size,hn])
theorem uG (ho:One P t) (w:World):(isAgg t).run P w=.ok false w:=by
 obtain ⟨dsc,h1,h2⟩:=ho.desc
 unfold isAgg
 rw [au7,ar1 h1 w]
 cases dsc<;>first|rfl|cases h2
theorem dK (ho:One P t) (w:World) (p:Addr) {v:Value} (hc:w.cell? p=some v):(loadVar t p).run P w=.ok v w:=by
 simp [loadVar,au7,uG ho w,run_load,hc]
theorem mQ {ρ:Operand->Value} {dst:Option Tmp} {g:Option (Nat × Bool)} {b n:Nat} {C:Array Value} {u:TypeId} {fr:Nat × Nat} (hr:Row P t n) (hx:ρ x=.pointer (some ⟨b,0,none⟩)) (hb:w.heap[b]? = some (.cells C u fr)) (hn:C.size=n)
 {R:Value->World->Prop} (hR:R (.agg C) w):cL P ⟨dst,.load t x,ty,pos,af,g⟩ ρ w R:=by
 unfold cL
 simp only [execOp,hx,Instr.loadAt,Instr.sureAddr,au7,au8,aq9,eo hr w b C u fr hb hn]
 exact hR
theorem gL {ρ:Operand->Value} {dst:Option Tmp} {g:Option (Nat × Bool)} {p:Addr} {V:Value} (ho:One P t) (hx:ρ x=.pointer (some p)) (hc:w.cell? p=some V)
 {R:Value->World->Prop} (hR:R V w):cL P ⟨dst,.load t x,ty,pos,af,g⟩ ρ w R:=by
 unfold cL
 simp only [execOp,hx,Instr.loadAt,Instr.sureAddr,au7,au8,aq9,dK ho w p hc]
 exact hR
theorem al {b n:Nat} {C:Array Value} {u:TypeId} (i:Nat) (h:Sl N a L Df) (s:St w0 B w) (hr:Row P t n) (hx:ec L x=some (.pointer (some ⟨b,0,none⟩))) (hi:B[i]? = some (.blk b (.cells C u))) (hn:C.size=n) (hd:Nat.blt d N=true)
 (k:∀ a',Sl N a' ((d,.agg C)::L) Df->ce P ops Q l a' w):ce P ops Q (⟨some d,.load t x,ty,pos,af,none⟩::l) a w:=
 dR (R:=λv w'=>v=.agg C/\w'=w) h (mQ hr (h.ev hx) (s.get i hi) hn ⟨rfl,rfl⟩) hd λa' w' v ⟨h1,h2⟩ hs=>by subst h1;subst h2;exact k a' hs
theorem qK (s:St w0 B w) (i:Nat) {b j:Nat} {C:Array Value} {u:TypeId} {V:Value} (hi:B[i]? = some (.blk b (.cells C u))) (hC:C[j]? = some V):w.cell? ⟨b,j,none⟩=some V:=by
 rw [cell_of_row w b j C u (0,0) (s.get i hi)];exact hC
theorem bT {b j:Nat} {C:Array Value} {u:TypeId} {V:Value} (i:Nat) (h:Sl N a L Df) (s:St w0 B w) (ho:One P t) (hx:ec L x=some (.pointer (some ⟨b,j,none⟩))) (hi:B[i]? = some (.blk b (.cells C u))) (hC:C[j]? = some V) (hd:Nat.blt d N=true)
 (k:∀ a',Sl N a' ((d,V)::L) Df->ce P ops Q l a' w):ce P ops Q (⟨some d,.load t x,ty,pos,af,none⟩::l) a w:=
 dR (R:=λv w'=>v=V/\w'=w) h (gL ho (h.ev hx) (qK s i hi hC) ⟨rfl,rfl⟩) hd λa' w' v ⟨h1,h2⟩ hs=>by subst h1;subst h2;exact k a' hs
theorem uA (ho:One P t) (w:World) (b j:Nat) (C:Array Value) (u:TypeId) (hb:w.heap[b]? = some (.cells C u)) (hj:j<C.size) (v:Value) (hv:v.oneCell'=true):
 (storeVar t ⟨b,j,none⟩ v).run P w=.ok () (w.setCell ⟨b,j,none⟩ v):=by
 have hs:(sizeOf t).run P w=.ok 1 w:=by
  cases hq:P.info? t with
  |none=>have:=ho.size;simp [hq] at this
  |some i=>have:=ho.size;simp [hq] at this;simp [sizeOf,typeInfo,au7,hq,this]
 have hcs:v.cells=#[v]:=by cases v<;>first|rfl|simp [Value.oneCell'] at hv
 have hcell:w.cell? ⟨b,j,none⟩=some C[j]:=by rw [cell_of_row w b j C u (0,0) hb];simp [hj]
 have hfro:w.frozen? ⟨b,j,none⟩=false:=frozen_of_row w b j C u hb
 have hadd:(⟨b,j,none⟩:Addr).add 0=⟨b,j,none⟩:=by simp [Addr.add]
 simp [storeVar,au7,hs,hcs,storeCells,hadd,run_store P w _ v _ hv,hcell,hfro]
theorem aB {b j:Nat} {C:Array Value} {u:TypeId} {V:Value} (i:Nat) (h:Sl N a L Df) (s:St w0 B w) (ho:One P t) (hx:ec L x=some (.pointer (some ⟨b,j,none⟩))) (hy:ec L y=some V) (hi:B[i]? = some (.blk b (.cells C u))) (hj:j<C.size) (hv:V.oneCell'=true)
 (k:∀ w',St w0 (B.set i (.blk b (.cells (C.setIfInBounds j V) u))) w'->ce P ops Q l a w'):ce P ops Q (⟨none,.store t x y,ty,pos,af,none⟩::l) a w:=
 ji (R:=λ_ w'=>w'=w.setCell ⟨b,j,none⟩ V) (by
  unfold cL
  simp only [execOp,h.ev hx,h.ev hy,Instr.storeAt,Instr.sureAddr,au7,au8,aq9,uA ho w b j C u (s.get i hi) hj V hv]) λw' _ hw=>by subst hw;exact k _ (s.store i hi j V)
theorem am {b n:Nat} {C D:Array Value} {u:TypeId} (i:Nat) (h:Sl N a L Df) (s:St w0 B w) (hr:Row P t n) (hx:ec L x=some (.pointer (some ⟨b,0,none⟩))) (hy:ec L y=some (.agg D)) (hi:B[i]? = some (.blk b (.cells C u))) (hC:C.size=n) (hD:D.size=n) (hv:∀ v∈D.toList,v.oneCell'=true)
 (k:∀ w',St w0 (B.set i (.blk b (.cells D u))) w'->ce P ops Q l a w'):ce P ops Q (⟨none,.store t x y,ty,pos,af,none⟩::l) a w:=
 ji (R:=λ_ w'=>w'=w.setRow b D) (by
  have hs:(sizeOf t).run P w=.ok D.size w:=by
   cases hq:P.info? t with
   |none=>have:=hr.size;simp [hq] at this
   |some i=>have:=hr.size;simp [hq] at this;simp [sizeOf,typeInfo,au7,hq,this,hD]
  have hst:(storeVar t ⟨b,0,none⟩ (.agg D)).run P w=.ok () (w.setRow b D):=by
   have:=run_storeCells_from (P:=P) b u D.toList 0 C w (s.get i hi) (by simp [hC,hD]) hv
   simp only [List.take_zero,List.nil_append,Array.toArray_toList] at this
   simp [storeVar,au7,hs,Value.cells,this]
  unfold cL
  simp only [execOp,h.ev hx,h.ev hy,Instr.storeAt,Instr.sureAddr,au7,au8,aq9,hst]) λw' _ hw=>by subst hw;exact k _ (s.row i hi D)
def bW (w:World) (T:cX):Ending->World->Prop:=λe w'=>∃ v,e=.returned v/\T v w'/\Ext w w'
theorem fB {f:FuncId} {fn:Func} (hf:P.funcs[f]? = some fn) (hb:fn.body.isNone=false) (hn:(fn.name == "runtime.NumGoroutine")=false) (vs:Array Value) (w:World):
 (callFunc f vs).run P w=.ok (.enter f vs) w:=by
 unfold callFunc
 simp only [au7,run_program,aq9,hf,hn,hb,Bool.false_eq_true,if_false,au8]
structure Fnc (P:Program) (f:FuncId):Prop where
 has:∃ fn,P.funcs[f]? = some fn/\fn.body.isNone=false/\(fn.name == "runtime.NumGoroutine")=false
theorem qf {ρ:Operand->Value} {dst:Option Tmp} {g:Option (Nat × Bool)} {f:FuncId} {args:Array Operand} {tys:Array TypeId} {vs:Array Value} (hf:Fnc P f) (hfv:ρ (.func f)=.func (.func f) #[] #[])
 (hvs:args.map ρ=vs) {R:Value->World->Prop} (hc:Calls P f vs w λe w'=>∃ v,e=.returned v/\R v w'):
 cL P ⟨dst,.call {callee:=.value (.func f),args:=args,argTypes:=tys},ty,pos,af,g⟩ ρ w R:=by
 obtain ⟨fn,h1,h2,h3⟩:=hf.has
 unfold cL
 simp only [execOp,resolve,hfv,hvs,Deferred.ofValue,au7,au8,aq9,invoke,Array.append_empty,Array.empty_append,fB h1 h2 h3]
 exact hc
theorem bg {f:FuncId} {args:Array Operand} {tys:Array TypeId} {vs:List Value} {T:cX} (h:Sl N a L Df) (s:St w0 B w) (hf:Fnc P f) (hc:Calls P f vs.toArray w (bW w T)) (hvs:args.toList.map (ec L)=vs.map some)
 (hd:Nat.blt d N=true)
 (k:∀ a' w' v,T v w'->Ext w w'->Sl N a' ((d,v)::L) Df->St w0 B w'->ce P ops Q l a' w'):
 ce P ops Q (⟨some d,.call {callee:=.value (.func f),args:=args,argTypes:=tys},ty,pos,af,none⟩::l) a w:=by
 have hvs':args.map a.eval=vs.toArray:=by
  apply Array.ext'
  simp only [Array.toList_map]
  generalize args.toList=as at hvs
  clear hc
  induction as generalizing vs with
  |nil=>cases vs with
   |nil=>rfl
   |cons v vs=>simp at hvs
  |cons x as ih=>cases vs with
   |nil=>simp at hvs
   |cons v vs=>
    simp only [List.map_cons,List.cons.injEq] at hvs
    simp only [List.map_cons,h.ev hvs.1,ih hvs.2]
 exact dR (R:=λv w'=>T v w'/\Ext w w') h (qf hf rfl hvs' hc) hd λa' w' v ⟨h1,h2⟩ hs=>k a' w' v h1 h2 hs (s.more h2)
theorem aC {id:Nat} {l:List Oper} {Q:Exit->Act->World->Prop} (h:ce P l.toArray (Q .normal) l a w):(Code.region id l.toArray false).wpIn (FR ro) 0 P Q a w:=wpIn_region_lit h.wp
theorem cT {c:Operand} {x y:Code} {b:Bool} {Q:Exit->Act->World->Prop} (h:Sl N a L Df) (hc:ec L c=some (.bool b)) (ht:b=true->x.wpIn (FR ro) 0 P Q a w) (hf:b=false->y.wpIn (FR ro) 0 P Q a w):(Code.cond c x y).wpIn (FR ro) 0 P Q a w:=
 wpIn_cond_split (h.ev hc) ht hf
theorem N4 {f:FuncId} {fn:Func} {c:Code} {args:List Value} {T:cX} {n:Nat} (hf:P.funcs[f]? = some fn) (hb:fn.body=some c) (hn:fn.ntmps=n) (hs:Nat.ble args.length n=true)
 (L:List (Nat × Value)) (hL:∀ p∈L,args[p.1]? = some p.2)
 (h:∀ a,Sl n a L->c.wpIn (FR none) 0 P (bodyPost P fn (bW w T)) a w):Calls P f args.toArray w (bW w T):=by
 refine callsIn_wide.1 (callsIn_of_wp (n:=0) hf hb trivial ?_)
 rw [hn]
 exact h _ (Sl.enter L (by simpa using hs) (by simpa using hL))
theorem aA {fn:Func} {t:Tmp} {T:cX} {V:Value} (hr:fn.results=#[.tmp t]) (h:Sl N a L) (s:St w0 B w) (hv:lk L t=some V) (hT:T V w):bodyPost P fn (bW w0 T) .ret a w:=
 ⟨h.defers,V,by rw [results_tmp hr,h.holds t V hv],V,rfl,hT,s.ext⟩
theorem g7 {fn:Func} {p:Tmp} {T:cX} {b n:Nat} {C:Array Value} {u:TypeId} (i:Nat) (hres:fn.results=#[.cell p t]) (h:Sl N a L) (s:St w0 B w) (hr:Row P t n) (hp:lk L p=some (.pointer (some ⟨b,0,none⟩))) (hi:B[i]? = some (.blk b (.cells C u))) (hn:C.size=n)
 (hT:T (.agg C) w):bodyPost P fn (bW w0 T) .ret a w:=by
 refine ⟨h.defers,.agg C,?_,.agg C,rfl,hT,s.ext⟩
 have hp':a.tmps[p]?.getD undef=.pointer (some ⟨b,0,none⟩):=by simpa using h.holds p _ hp
 simp [results,hres,hp',asAddr,eo hr w b C u (0,0) (s.get i hi) hn]
theorem cc {fn:Func} {p q:Tmp} {T:cX} {b n:Nat} {C:Array Value} {u:TypeId} {V:Value} (i:Nat) (hres:fn.results=#[.cell p t,.tmp q]) (h:Sl N a L) (s:St w0 B w) (hr:Row P t n) (hp:lk L p=some (.pointer (some ⟨b,0,none⟩))) (hi:B[i]? = some (.blk b (.cells C u))) (hn:C.size=n)
 (hq:lk L q=some V) (hT:T (.tuple #[.agg C,V]) w):bodyPost P fn (bW w0 T) .ret a w:=by
 refine ⟨h.defers,.tuple #[.agg C,V],?_,_,rfl,hT,s.ext⟩
 have hp':a.tmps[p]?.getD undef=.pointer (some ⟨b,0,none⟩):=by simpa using h.holds p _ hp
 have hq':a.tmps[q]?.getD undef=V:=by simpa using h.holds q _ hq
 simp [results,hres,hp',hq',asAddr,eo hr w b C u (0,0) (s.get i hi) hn]
end
section
variable (P:Program) (ops:Array Oper) (K:Act->World->Prop) (w0:World)
def ip:List Oper->Act->Prop
 |[],a=>∀ w,Ext w0 w->K a w
 |o::l,a=>∃ X,(if Region.wanted o (yielded ops a.tmps) then ∀ w,Ext w0 w->cL P o a.eval w (λv w'=>v=X/\Ext w w') else X=undef)/\ip l (a.put o.dst X)
end
def dX:List Oper->List Value->Act->Act
 |o::l,X::r,a=>dX l r (a.put o.dst X)
 |_,_,a=>a
theorem lr:∀ (l:List Oper) (r:List Value) (a:Act),(dX l r a).tmps.size=a.tmps.size
 |[],_,_=>by simp [dX]
 |_::_,[],_=>by simp [dX]
 |o::l,X::r,a=>by rw [dX,lr l r,Act.tmps_put_size]
theorem iK (a:Act) (d t:Nat) (v:Value):(a.put (some d) v).tmps.getD t undef=if d=t/\d<a.tmps.size then v else a.tmps.getD t undef:=by
 by_cases e:d=t
 ·subst e
  by_cases h:d<a.tmps.size
  ·simp [Act.put,h]
  ·simp [Act.put,h]
 ·simp [Act.put,e,at1 e]
theorem jh:∀ (l:List Oper) (r:List Value) (a:Act) (t:Nat),(∀ (j:Nat) (o:Oper),l[j]? = some o->o.dst≠some t)->(dX l r a).tmps.getD t undef=a.tmps.getD t undef
 |[],_,_,_,_=>by simp [dX]
 |_::_,[],_,_,_=>by simp [dX]
 |o::l,X::r,a,t,h=>by
  rw [dX,jh l r _ t (λj o' hj=>h (j+1) o' (by simpa using hj))]
  cases hd:o.dst with
  |none=>rfl
  |some d=>rw [iK,if_neg (λe=>h 0 o (by simp) (by rw [hd,e.1]))]
theorem lN:∀ (l:List Oper) (r:List Value) (a:Act) (t i:Nat) (o:Oper) (X:Value),l[i]? = some o->r[i]? = some X->o.dst=some t->t<a.tmps.size->
 (∀ (j:Nat) (o':Oper),l[j]? = some o'->o'.dst=some t->j=i)->(dX l r a).tmps.getD t undef=X
 |[],_,_,_,_,_,_,h,_,_,_,_=>by simp at h
 |_::_,[],_,_,_,_,_,_,h,_,_,_=>by simp at h
 |o::l,Y::r,a,t,0,o',X,h1,h2,hd,hs,hu=>by
  simp at h1 h2;subst h1;subst h2
  rw [dX,jh l r _ t (λj o' hj e=>by have:=hu (j+1) o' (by simpa using hj) e;omega),hd,iK,if_pos ⟨rfl,hs⟩]
 |o::l,Y::r,a,t,i+1,o',X,h1,h2,hd,hs,hu=>by
  rw [dX]
  exact lN l r _ t i o' X (by simpa using h1) (by simpa using h2) hd (by rw [Act.tmps_put_size];exact hs) (λj o2 hj e=>by have:=hu (j+1) o2 (by simpa using hj) e;omega)
theorem zt {P:Program} {ops:Array Oper} {K:Act->World->Prop} {w0:World}:∀ (l:List Oper) (a:Act),ip P ops K w0 l a->
 ∃ Xs:List Value,Xs.length=l.length/\(∀ w,Ext w0 w->K (dX l Xs a) w)/\
  ∀ (i:Nat) (o:Oper) (X:Value),l[i]? = some o->Xs[i]? = some X->(if Region.wanted o (yielded ops (dX (l.take i) (Xs.take i) a).tmps) then ∀ w,Ext w0 w->cL P o (dX (l.take i) (Xs.take i) a).eval w (λv w'=>v=X/\Ext w w') else X=undef)
 |[],a,h=>⟨[],rfl,h,λi o X hi=>by simp at hi⟩
 |o::l,a,⟨X,hX,h⟩=>by
  obtain ⟨Xs,h1,h2,h3⟩:=zt l _ h
  refine ⟨X::Xs,by simp [h1],h2,λi o' X' hi hx=>?_⟩
  cases i with
  |zero=>simp at hi hx;subst hi;subst hx;simpa [dX] using hX
  |succ i=>simpa [dX] using h3 i o' X' (by simpa using hi) (by simpa using hx)
theorem xm {ops:Array Oper} {o:Oper} {x y:Array Value} (hs:x.size=y.size) (h:∀ t∈o.looksAt ops,x.getD t undef=y.getD t undef):Region.wanted o (yielded ops x)=Region.wanted o (yielded ops y):=by
 unfold Region.wanted
 cases hg:o.guard with
 |none=>rfl
 |some gw=>
  obtain ⟨g,want⟩:=gw
  have:yielded ops x g=yielded ops y g:=by
   unfold yielded
   cases ht:(ops[g]?).bind (·.dst) with
   |none=>rfl
   |some t=>
    have ht':t∈o.looksAt ops:=by simp [Oper.looksAt,hg,ht]
    have h1:=h t ht'
    have:x[t]? = y[t]? := by
     by_cases hlt:t<x.size
     ·have hlt':t<y.size:=by rw [← hs];exact hlt
      simp [hlt,hlt'] at h1 ⊢;exact h1
     ·rw [at0 (Nat.le_of_not_lt hlt),at0 (by rw [← hs];exact Nat.le_of_not_lt hlt)]
    simp [this]
  simp only [this]
theorem BH {P:Program} {o:Oper} {ops:Array Oper} {a b:Act} (hsel:∀ cs bl,o.op≠.select cs bl) (h:∀ t∈o.looksAt ops,a.tmps.getD t undef=b.tmps.getD t undef) {w:World} {R:Value->World->Prop} (hd:cL P o b.eval w R):cL P o a.eval w R:=by
 have:execOp a.eval o=execOp b.eval o:=execOp_congr o hsel λx hx=>by
  cases x with
  |tmp t=>exact h t (List.mem_append_left _ (List.mem_filterMap.2 ⟨.tmp t,by simpa using hx,rfl⟩))
  |_=>rfl
 unfold cL at hd ⊢
 rw [this];exact hd
theorem mE:∀ (l:List Oper) (r:List Value) (a:Act),(dX l r a).defers=a.defers
 |[],_,_=>by simp [dX]
 |_::_,[],_=>by simp [dX]
 |o::l,X::r,a=>by rw [dX,mE l r];cases o.dst<;>rfl
theorem PL {a b:Act} (h1:a.defers=b.defers) (h2:a.tmps.size=b.tmps.size) (h3:∀ t,a.tmps.getD t undef=b.tmps.getD t undef):a=b:=by
 obtain ⟨at_,ad⟩:=a
 obtain ⟨bt,bd⟩:=b
 simp only at h1 h2 h3
 subst h1
 congr 1
 apply Array.ext h2
 intro i hi1 hi2
 have:=h3 i
 simpa [hi1,hi2] using this
theorem sm {P:Program} {ro:Option Nat} {id:Nat} {l tl:List Oper} (cls:List (List Nat)) {a0:Act} {w0:World} {Q:Exit->Act->World->Prop}
 (hm:P.follows .mixedOrders=true) (hok:jk (l++tl) l.length cls a0.tmps.size=true) (hsel:Region.noSelect (l++tl).toArray=true)
 (h:ip P (l++tl).toArray (ce P (l++tl).toArray (Q .normal) tl) w0 l a0):(Code.region id (l++tl).toArray true).wpIn (FR ro) 0 P Q a0 w0:=by
 obtain ⟨Xs,hlen,hfin,hob⟩:=zt l a0 h
 generalize hops:l++tl=ops at *
 have hin:∀ i,i<l.length->ops[i]? = l[i]? := λi hi=>by rw [← hops,at8 hi]
 have hopl:ops.length=l.length+tl.length:=by rw [← hops];simp
 have hO:∀ i o,i<l.length->ops[i]? = some o->Ob P ops cls (λi=>is (Xs.getD i undef)) a0 w0 i o:=by
  intro i o hil hi a w hE hs hslot
  have hX:Xs[i]? = some (Xs.getD i undef):=by simp [hlen,hil]
  have hB:=hob i o _ (by rw [← hin i hil];exact hi) hX
  obtain ⟨_,_,hcl,hlook⟩:=iF (jO hok hi hil)
  have hag:∀ t∈o.looksAt ops.toArray,a.tmps.getD t undef=(dX (l.take i) (Xs.take i) a0).tmps.getD t undef:=λt ht=>by
   have h1:=hslot t ht
   unfold wJ at h1
   cases hw:fN ops (cls.getD i []) t with
   |some j=>
    rw [hw] at h1
    obtain ⟨hm,oj,hj,hdj⟩:=mi hw
    have hji:=yi hok i hil j hm
    obtain ⟨⟨d,hd,hds,huniq⟩,_⟩:=iF (jO hok hj (by omega))
    rw [hdj] at hd;cases hd
    have h1':a.tmps.getD t undef=Xs.getD j undef:=h1
    have hjl:j<Xs.length:=by rw [hlen];omega
    rw [h1',lN (l.take i) (Xs.take i) a0 t j oj (Xs.getD j undef) (by rw [aw7 hji,← hin j (by omega)];exact hj) (by rw [aw7 hji];simp [hjl]) hdj hds
     (λk ok hk hdk=>by
      rw [List.getElem?_take] at hk
      split at hk
      ·exact huniq k ok (by omega) (by rw [hin k (by omega)];exact hk) hdk
      ·cases hk)]
   |none=>
    rw [hw] at h1
    rw [h1,jh]
    intro k ok hk hdk
    rw [List.getElem?_take] at hk
    split at hk
    ·rename_i hki
     have hk':ops[k]? = some ok:=by rw [hin k (by omega)];exact hk
     have hnot:=pB hw k ok hk' hdk
     have hin2:=(hlook t ht k ok (by omega) hk' hdk).resolve_left hnot
     have:=yi hok k (by omega) i hin2
     omega
    ·cases hk
  have hwant:=xm (o:=o) (ops:=ops.toArray) (hs.trans (lr (l.take i) (Xs.take i) a0).symm) hag
  rw [hwant]
  split
  ·rename_i hw
   rw [if_pos hw] at hB
   exact BH (λcs bl=>Region.noSelect_spec hsel i o cs bl (by simpa using hi)) hag (hB w hE)
  ·rename_i hw
   rw [if_neg hw] at hB
   exact hB.symm
 have hend:∀ a w listed,Inv ops l.length cls (λi=>is (Xs.getD i undef)) a0 w0 listed a w->(∀ i,i<l.length->listed.getD i false=true)->∀ fuel,ops.length=l.length+fuel->wpAnyIn (FR ro) 0 P .any ops.toArray Q fuel listed a w:=by
  intro a w listed I hall fuel hfuel
  have ha:a=dX l Xs a0:=by
   refine PL (by rw [I.defers,mE]) (by rw [I.size,lr]) λt=>?_
   by_cases hex:∃ i o,i<l.length/\l[i]? = some o/\o.dst=some t
   ·obtain ⟨i,o,hil,hi,hd⟩:=hex
    have hio:ops[i]? = some o:=by rw [hin i hil];exact hi
    obtain ⟨⟨d,hd',hds,huniq⟩,_⟩:=iF (jO hok hio hil)
    rw [hd] at hd';cases hd'
    have h1:a.tmps.getD t undef=Xs.getD i undef:=I.done i o t hil hio hd (hall i hil)
    rw [h1,lN l Xs a0 t i o (Xs.getD i undef) hi (by simp [hlen,hil]) hd hds (λk ok hk hdk=>by
     have hkl:=(aq4.1 hk).1
     exact huniq k ok hkl (by rw [hin k hkl];exact hk) hdk)]
   ·rw [I.rest t (λi o hil hi hd=>ax7 ⟨i,o,hil,by rw [← hin i hil];exact hi,hd⟩ hex),jh l Xs a0 t (λj o hj hd=>hex ⟨j,o,(aq4.1 hj).1,hj,hd⟩)]
  have hw:=hfin w I.ext
  rw [← ha] at hw
  refine Cd hok fuel l.length listed a w hfuel (as1 _) I.lsize hall (λj hj=>I.tail j hj) (λj hj k hk=>yi hok j hj k hk) ?_
  have:fuel=tl.length:=by omega
  subst this
  rw [wpOpsIn_eq_wpListIn tl l.length (λj=>by rw [← hops,as8,at7 (Nat.le_add_right _ _),Nat.add_sub_cancel_left])]
  exact hw.wp
 refine wpIn_region_any hm ?_
 have hcount:∀ (fuel:Nat) (listed:Array Bool) (a:Act) (w:World),listed.toList.count false=fuel->Inv ops l.length cls (λi=>is (Xs.getD i undef)) a0 w0 listed a w->wpAnyIn (FR ro) 0 P .any ops.toArray Q fuel listed a w:=by
  intro fuel
  induction fuel with
  |zero=>
   intro listed a w hc I
   have hall:∀ i,i<ops.length->listed.getD i false=true:=λi hi=>by
    have hil:i<listed.size:=by rw [I.lsize];exact hi
    cases hb:listed.getD i false with
    |true=>rfl
    |false=>
     have:false∈listed.toList:=by
      simp [hil] at hb
      exact List.mem_of_getElem? (i:=i) (by simp [hil,hb])
     have:=List.count_pos_iff.2 this
     omega
   refine hend a w listed I (λi hi=>hall i (by omega)) 0 ?_
   by_cases htl:tl.length=0
   ·omega
   ·have:=I.tail l.length (as1 _)
    rw [hall l.length (by omega)] at this;cases this
  |succ fuel ih=>
   intro listed a w hc I
   by_cases hall:∀ i,i<l.length->listed.getD i false=true
   ·refine hend a w listed I hall (fuel+1) ?_
    have key:∀ (b:List Bool) (m:Nat),m<=b.length->(∀ i,i<m->b[i]? = some true)->(∀ i,m<=i->i<b.length->b[i]? = some false)->b.count false=b.length - m:=by
     intro b
     induction b with
     |nil=>intro m _ _ _;simp
     |cons x b ihb=>
      intro m hm h1 h2
      cases m with
      |zero=>
       have hx:x=false:=by simpa using h2 0 (as1 _) (by simp)
       have:=ihb 0 (as3 _) (λi hi=>by omega) (λi _ hi=>by simpa using h2 (i+1) (as3 _) (by simp;omega))
       subst hx;simp [this]
      |succ m=>
       have hx:x=true:=by simpa using h1 0 (by omega)
       have:=ihb m (by simpa using hm) (λi hi=>by simpa using h1 (i+1) (by omega)) (λi hi hi2=>by simpa using h2 (i+1) (by omega) (by simp;omega))
       subst hx;simp [this]
    have hk:=key listed.toList l.length (by simp [I.lsize];omega)
     (fun i hi=>by have:=hall i hi;have hil:i<listed.size:=by rw [I.lsize];omega
                   simp [hil] at this ⊢;exact this)
     (fun i hi hi2=>by have:=I.tail i hi;have hil:i<listed.size:=by simpa using hi2
                       simp [hil] at this ⊢;exact this)
    rw [hc] at hk
    simp [I.lsize] at hk
    omega
   ·refine ⟨λhr=>ax7 (λi hi=>Gj hok I.lsize hr i (by omega)) hall,λi hi=>?_⟩
    obtain ⟨o,hio,hf,hd⟩:=fw hi
    have hu:=hf I.lsize
    have hil:i<l.length:=by
     rcases as4 i l.length with h3|h3
     ·exact h3
     ·exfalso
      apply hall
      intro j hj
      rcases (nf hok hio h3).2 j (by omega) with h4|⟨k,hk,h4⟩
      ·exact hd j h4
      ·rcases h4 with h4|h4
       ·exact I.closed k (hd k hk) j h4.2
       ·have:=I.tail k h4.1;rw [hd k hk] at this;cases this
    have hils:i<listed.size:=by rw [I.lsize];omega
    refine Ir hok (λi=>PQ _) (λi o h1 h2=>hO i o h1 h2) I hil hio hd hu λa' w' I'=>ih _ a' w' ?_ I'
    have:=kC listed.toList i (by simp [hils] at hu ⊢;exact hu)
    rw [Array.toList_setIfInBounds]
    omega
 refine hcount _ _ _ _ (by simp) ⟨(Ext.refl w0).drew,rfl,rfl,by simp,λi _=>?_,λi o d _ _ _ h=>?_,λ_ _=>rfl,λi h=>?_⟩
 ·simp [at3];split<;>rfl
 ·simp [at3] at h;split at h<;>simp at h
 ·simp [at3] at h;split at h<;>simp at h
theorem bk {P:Program} {o:Oper} {ρ:Operand->Value} {X:Value} (Y:Value) (hr:a8 P o ρ X) (e:X=Y):a8 P o ρ Y:=e▸hr
theorem qF {P:Program} {ρ:Operand->Value} {d:Option Tmp} {ty:TypeId} {pos:String} {af:Array Edge} {g:Option (Nat × Bool)} {x y:Operand} {t:TypeId} {k:IntKind} {m:Int} {b len:Nat} {e:TypeId} (j:Nat)
 (ht:P.underlying t=some (.array len e)) (he:(P.info? e).map (·.size)=some 1) (hx:ρ x=.pointer (some ⟨b,0,none⟩)) (hy:ρ y=.int k m)
 (hj:m=(j:Int)) (hm:j<len):a8 P ⟨d,.indexAddr t x y,ty,pos,af,g⟩ ρ (.pointer (some ⟨b,j,none⟩)):=by
 have:=wG (P:=P) (d:=d) (ty:=ty) (pos:=pos) (af:=af) (g:=g) ht he hx hy (by omega)
 rw [hj] at this
 simpa using this
theorem jW {P:Program} {ρ:Operand->Value} {d:Option Tmp} {ty:TypeId} {pos:String} {af:Array Edge} {g:Option (Nat × Bool)} {x:Operand} {t t':TypeId} {k k':IntKind} {m:Int} {s:TypeDesc}
 (hs:P.underlying t=some s) (ht:P.underlying t'=some (.int k')) (hx:ρ x=.int k m) (h:k'.wrap m=m):a8 P ⟨d,.convert t t' x,ty,pos,af,g⟩ ρ (.int k' m):=
 bk _ (D6 hs ht hx) (by rw [h])
theorem tT {P:Program} {ρ:Operand->Value} {d:Option Tmp} {ty:TypeId} {pos:String} {af:Array Edge} {g:Option (Nat × Bool)} {x:Operand} {t t':TypeId} {k:IntKind} {m:Int} {s:TypeDesc}
 (hs:P.underlying t=some s) (ht:P.underlying t'=some (.int .u8)) (hx:ρ x=.int k m):a8 P ⟨d,.convert t t' x,ty,pos,af,g⟩ ρ (.int .u8 (m % 256)):=
 bk _ (D6 hs ht hx) (by rw [IntKind.wrap_u8])
section
variable {ro:Option Nat} {P:Program} {ops:List Oper} {K:Act->World->Prop} {l:List Oper} {a:Act} {w w0:World} {N:Nat} {L:List (Nat × Value)} {Df:List Deferred} {B:List Own} {d:Tmp} {op:Op} {ty:TypeId} {pos:String} {af:Array Edge} {x y:Operand} {t:TypeId}
theorem bF (s:St w0 B w) (k:∀ w',St w0 B w'->K a w'):ip P ops.toArray K w [] a:=λw' hE=>k w' (s.more hE)
theorem j8 (X:Value) (h:Sl N a L Df) (hr:∀ w',Ext w w'->cL P ⟨some d,op,ty,pos,af,none⟩ a.eval w' (λv w''=>v=X/\Ext w' w'')) (hd:Nat.blt d N=true)
 (k:∀ a',Sl N a' ((d,X)::L) Df->ip P ops.toArray K w l a'):ip P ops.toArray K w (⟨some d,op,ty,pos,af,none⟩::l) a:=
 ⟨X,by rw [if_pos (by simp [Region.wanted])];exact hr,k _ (h.put hd X)⟩
theorem aF {X:Value} (h:Sl N a L Df) (hr:a8 P ⟨some d,op,ty,pos,af,none⟩ a.eval X) (hd:Nat.blt d N=true)
 (k:∀ a',Sl N a' ((d,X)::L) Df->ip P ops.toArray K w l a'):ip P ops.toArray K w (⟨some d,op,ty,pos,af,none⟩::l) a:=
 j8 X h (λw' _=>hr.does ⟨rfl,Ext.refl _⟩) hd k
theorem aH {b n:Nat} {C:Array Value} {u:TypeId} (i:Nat) (h:Sl N a L Df) (s:St w0 B w) (hr:Row P t n) (hx:ec L x=some (.pointer (some ⟨b,0,none⟩))) (hi:B[i]? = some (.blk b (.cells C u))) (hn:C.size=n) (hd:Nat.blt d N=true)
 (k:∀ a',Sl N a' ((d,.agg C)::L) Df->ip P ops.toArray K w l a'):ip P ops.toArray K w (⟨some d,.load t x,ty,pos,af,none⟩::l) a:=
 j8 _ h (λ_ hE=>mQ hr (h.ev hx) ((s.more hE).get i hi) hn ⟨rfl,Ext.refl _⟩) hd k
theorem fk {b j:Nat} {C:Array Value} {u:TypeId} {V:Value} (i:Nat) (h:Sl N a L Df) (s:St w0 B w) (ho:One P t) (hx:ec L x=some (.pointer (some ⟨b,j,none⟩))) (hi:B[i]? = some (.blk b (.cells C u))) (hC:C[j]? = some V) (hd:Nat.blt d N=true)
 (k:∀ a',Sl N a' ((d,V)::L) Df->ip P ops.toArray K w l a'):ip P ops.toArray K w (⟨some d,.load t x,ty,pos,af,none⟩::l) a:=
 j8 _ h (λ_ hE=>gL ho (h.ev hx) (qK (s.more hE) i hi hC) ⟨rfl,Ext.refl _⟩) hd k
theorem evs {as:List Operand} {vs:List Value} (h:Sl N a L Df) (hvs:as.map (ec L)=vs.map some):as.map a.eval=vs:=by
 induction as generalizing vs with
 |nil=>cases vs with
  |nil=>rfl
  |cons v vs=>simp at hvs
 |cons x as ih=>cases vs with
  |nil=>simp at hvs
  |cons v vs=>
   simp only [List.map_cons,List.cons.injEq] at hvs
   simp only [List.map_cons,h.ev hvs.1,ih hvs.2]
theorem bR {f:FuncId} {args:List Operand} {tys:Array TypeId} {vs:List Value} {X:Value} (h:Sl N a L Df) (hf:Fnc P f)
 (hc:∀ w',Ext w w'->Calls P f vs.toArray w' (bW w' (is X))) (hvs:args.map (ec L)=vs.map some) (hd:Nat.blt d N=true)
 (k:∀ a',Sl N a' ((d,X)::L) Df->ip P ops.toArray K w l a'):
 ip P ops.toArray K w (⟨some d,.call {callee:=.value (.func f),args:=args.toArray,argTypes:=tys},ty,pos,af,none⟩::l) a:=
 j8 X h (λw' hE=>qf hf rfl (vs:=vs.toArray) (by rw [List.map_toArray,evs h hvs]) (hc w' hE)) hd k
theorem W0 {j:Nat} {b:Bool} {od:Oper} {t:Tmp} (h:Sl N a L Df) (hj:ops[j]? = some od) (ht:od.dst=some t) (hv:lk L t=some (.bool b))
 (k:ip P ops.toArray K w (⟨some d,op,ty,pos,af,none⟩::l) a):ip P ops.toArray K w (⟨some d,op,ty,pos,af,some (j,b)⟩::l) a:=by
 have hlt:t<a.tmps.size:=by
  rcases as4 t a.tmps.size with h'|h'
  ·exact h'
  ·have h2:=h.holds t _ hv;simp [at0 h',undef] at h2
 have hy:yielded ops.toArray a.tmps j=some b:=by
  have h2:=h.holds t _ hv
  unfold yielded
  have h3:a.tmps[t]? = some (.bool b):=by simp [hlt] at h2 ⊢;exact h2
  simp [hj,ht,h3]
 obtain ⟨X,h1,h2⟩:=k
 refine ⟨X,?_,h2⟩
 have e1:Region.wanted ⟨some d,op,ty,pos,af,some (j,b)⟩ (yielded ops.toArray a.tmps)=true:=by simp [Region.wanted,hy]
 have e2:Region.wanted ⟨some d,op,ty,pos,af,none⟩ (yielded ops.toArray a.tmps)=true:=by simp [Region.wanted]
 rw [if_pos e2] at h1
 rw [if_pos e1]
 exact h1
theorem Y8 {j:Nat} {b:Bool} {od:Oper} {t:Tmp} (h:Sl N a L Df) (hj:ops[j]? = some od) (ht:od.dst=some t) (hv:lk L t=some (.bool (!b))) (hd:Nat.blt d N=true)
 (k:∀ a',Sl N a' ((d,undef)::L) Df->ip P ops.toArray K w l a'):ip P ops.toArray K w (⟨some d,op,ty,pos,af,some (j,b)⟩::l) a:=by
 have hlt:t<a.tmps.size:=by
  rcases as4 t a.tmps.size with h'|h'
  ·exact h'
  ·have h2:=h.holds t _ hv;simp [at0 h',undef] at h2
 have hy:yielded ops.toArray a.tmps j=some (!b):=by
  have h2:=h.holds t _ hv
  unfold yielded
  have h3:a.tmps[t]? = some (.bool (!b)):=by simp [hlt] at h2 ⊢;exact h2
  simp [hj,ht,h3]
 refine ⟨undef,?_,k _ (h.put hd undef)⟩
 have e1:Region.wanted ⟨some d,op,ty,pos,af,some (j,b)⟩ (yielded ops.toArray a.tmps)=false:=by simp [Region.wanted,hy]
 rw [e1];rfl
end
def K5 (L:List (Nat × Value)):List (Nat × Value)->Prop
 |[]=>True
 |(t,v)::r=>lk L t=some v/\K5 L r
theorem uR {L:List (Nat × Value)}:∀ {L':List (Nat × Value)},K5 L L'->∀ p∈L',lk L p.1=some p.2
 |[],_,p,hp=>by simp at hp
 |(t,v)::r,⟨h1,h2⟩,p,hp=>by
  rcases ar6.1 hp with rfl|hp
  ·exact h1
  ·exact uR h2 p hp
theorem Sl.only {n:Nat} {a:Act} {L L':List (Nat × Value)} {Df:List Deferred} (h:Sl n a L Df) (e:K5 L L'):Sl n a L' Df:=h.cut L' (uR e)
def Nq:List Own->List Own->Prop
 |[],[]=>True
 |p::r,p'::r'=>p=p'/\Nq r r'
 |_,_=>False
theorem EE:∀ {B B':List Own},Nq B B'->B=B'
 |[],[],_=>rfl
 |p::r,p'::r',⟨h1,h2⟩=>by subst h1;rw [EE h2]
 |[],_::_,h=>h.elim
 |_::_,[],h=>h.elim
theorem St.as {w0 w:World} {B B':List Own} (h:St w0 B w) (e:Nq B B'):St w0 B' w:=EE e▸h
theorem iR {C D:Array Value} {b:Nat} {t:TypeId} (h:C=D):Own.blk b (.cells C t)=Own.blk b (.cells D t):=by rw [h]
theorem vP {v:Value} {e:TypeId} {sz n m:Nat} {xs ys:List Value} (hn:n=m) (h:xs=ys):Own.sl v e sz n xs=Own.sl v e sz m ys:=by rw [hn,h]
section
variable {K:Act->World->Prop} {Q:Exit->Act->World->Prop} {a:Act} {w:World} {i j:Nat}
theorem aT (h:Q (.exit i) a w):Exit.then K Q (.exit i) a w:=h
theorem aQ (h:Q .ret a w):Exit.then K Q .ret a w:=h
theorem aG (h:K a w):Exit.then K Q .normal a w:=h
theorem bS (h:Q .normal a w):Exit.inBlock i Q (.exit i) a w:=by simp [Exit.inBlock,h]
theorem xB (hne:Nat.beq j i=false) (h:Q (.exit j) a w):Exit.inBlock i Q (.exit j) a w:=by
 have:j≠i:=λe=>by subst e;simp at hne
 simp [Exit.inBlock,this,h]
theorem aY (h:Q .ret a w):Exit.inBlock i Q .ret a w:=h
theorem aW (h:Q .normal a w):Exit.inBlock i Q .normal a w:=h
end
theorem aw {L:List (Nat × Value)} {t:Nat} {k:IntKind} {m n:Int} (h:lk L t=some (.int k m)) (e:m=n):lk L t=some (.int k n):=e▸h
end Go.Proofs.YthmlflaiidhoiaaGreatDoor
