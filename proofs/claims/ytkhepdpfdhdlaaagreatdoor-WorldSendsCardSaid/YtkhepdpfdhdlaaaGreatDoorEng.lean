/- The engine: laws of a walk, operation by operation, over any program; no Go in it. -/
import Derived.WalkKit
import Derived.ProofKit
import Derived.OrdersIn
import Derived.Sort.LoopGhostIn
import Derived.TacticsIn
import Derived.RangeFuncIn
import Derived.RangeFuncRecord
import Derived.Deep.LoopGhost
import Derived.Laws.AppendOwn
import Derived.IntWalk
import Derived.Laws.Tables
import Derived.Laws.Rows
set_option linter.unusedVariables false
set_option linter.unusedSimpArgs false
set_option linter.unusedSectionVars false
namespace Go.Proofs.YtkhepdpfdhdlaaaGreatDoor
open Go.RowKit
abbrev Yo:=@List.Sublist.cons_cons
abbrev Yp:=@List.Sublist.cons
abbrev Yq:=@of_decide_eq_true
abbrev Yr:=@of_decide_eq_false
abbrev Ys:=@decide_eq_false
abbrev Yt:=@decide_eq_true
abbrev Yu:=@congrArg
abbrev Yv:=@List.getElem?_eq_some_iff
abbrev Yw:=@Bool.and_eq_true
abbrev Yx:=@List.all_eq_true
abbrev Yy:=@List.length_append
abbrev Yz:=@List.getElem?_eq_getElem
abbrev YA:=@Result.andThen_ok
abbrev YB:=@decide_eq_true_eq
abbrev YC:=@run_underlying
abbrev YD:=@Array.length_toList
abbrev YE:=@decide_eq_decide
abbrev YF:=@List.mem_singleton
abbrev YG:=@List.mem_cons_self
abbrev YH:=@List.mem_cons
abbrev YI:=@List.mem_range
abbrev YJ:=@List.sublist_append_right
abbrev YK:=@List.not_mem_nil
abbrev YL:=@List.nil_sublist
abbrev YM:=@Nat.le_refl
abbrev YN:=@List.sublist_cons_self
abbrev YO:=@Nat.zero_le
abbrev YP:=@Nat.lt_or_ge
abbrev YQ:=@List.mem_cons_of_mem
abbrev YR:=@List.getD_eq_getElem?_getD
abbrev YS:=@List.take_append_drop
abbrev YT:=@List.getElem?_toArray
abbrev YU:=@List.take_of_length_le
abbrev YV:=@Array.getElem?_eq_none
abbrev YW:=@Array.getElem?_setIfInBounds_ne
abbrev YX:=@List.length_drop
abbrev YY:=@Array.getElem?_replicate
abbrev YZ:=@List.mem_filter
abbrev Y0:=@List.length_cons
abbrev Y1:=@List.length_nil
abbrev Y2:=@List.getElem?_append_right
abbrev Y3:=@List.getElem?_append_left
abbrev Y4:=@List.mem_append
abbrev Y5:=@List.length_take
abbrev Y6:=@List.length_map
abbrev Y7:=@List.length_filter_le
abbrev Y8:=@wpIn_ret
abbrev Y9:=@wpIn_block
abbrev Za:=@wpIn_exit
abbrev Zb:=@wpIn_loop_ghost
abbrev Zc:=@Sem.run_bind
abbrev Zd:=@Sem.run_pure
abbrev Ze:=@List.mem_map
abbrev Zf:=@List.getElem?_map
abbrev Zg:=@List.getElem?_eq_none
abbrev Zh:=@List.flatMap_append
abbrev Zi:=@List.append_assoc
abbrev Zj:=@List.append_nil
abbrev Zk:=@Nat.le_trans
abbrev Zl:=@Nat.not_lt_zero
abbrev Zm:=@List.contains_iff_mem
abbrev Zn:=@Prod.mk.injEq
abbrev Zo:=@List.getElem?_cons_succ
abbrev Zp:=@Option.some.inj
abbrev Zq:=@List.getElem_mem
abbrev Zr:=@List.getElem_of_mem
abbrev Zs:=@Array.getElem?_append_left
abbrev Zt:=@List.any_eq_true
abbrev Zu:=@List.any_eq_false
abbrev Zv:=@Bool.eq_iff_iff
abbrev Zw:=@List.getElem?_take_of_lt
abbrev Zx:=@List.getElem?_drop
abbrev Zy:=@Array.getElem?_toList
abbrev Zz:=@Array.getElem?_eq_getElem
abbrev ZA:=@Array.getElem?_eq_some_iff
abbrev ZB:=@List.perm_middle
abbrev ZC:=@List.Perm.swap
abbrev ZD:=@List.map_append
abbrev ZE:=@Nat.mod_lt
abbrev ZF:=@absurd
abbrev FR (ro:Option Nat):Fence:={Fence.wide with round:=ro}
structure Ext (w w':World):Prop extends Below w.heap.size w w' where
 drawn:w.drawn<=w'.drawn
theorem Ext.refl (w:World):Ext w w:=⟨Below.refl _ _,YM _⟩
theorem Ext.trans {a b c:World} (h:Ext a b) (k:Ext b c):Ext a c:=⟨Below.trans h.toBelow (Below.mono k.toBelow h.size),Zk h.drawn k.drawn⟩
theorem Ext.drew {a w:World} (h:Ext a w):Ext a w.drew:=⟨Below.drew h.toBelow,Nat.le_succ_of_le h.drawn⟩
theorem Ext.alloc {a w:World} (h:Ext a w) (o:Obj):Ext a (w.alloc o):=⟨Below.alloc h.toBelow h.size o,h.drawn⟩
theorem Ext.heap {w w':World} (h:Ext w w') {k:Nat} (hk:k<w.heap.size):w'.heap[k]? = w.heap[k]? := h.block k hk
theorem Ext.cell {w w':World} (h:Ext w w') {p:Addr} (hp:p.block<w.heap.size):w'.cell? p=w.cell? p:=Below.cell h.toBelow hp
theorem Ext.le {w w':World} (h:Ext w w'):w.heap.size<=w'.heap.size:=h.size
def cN (P:Program) (o:Oper) (ρ:Operand->Value) (w:World) (R:Value->World->Prop):Prop:=
 match (execOp ρ o).run P w with
 |.ok (.value v) w'=>R v w'
 |.ok .skip w'=>R undef w'
 |.ok (.enter f args) w'=>Calls P f args w' λe w''=>∃ v,e=.returned v/\R v w''
 |.ok (.round l f tmps assign body) w'=>RoundIn Fence.wide 0 P l f tmps assign body w' λe w''=>∃ v,e=.returned v/\R v w''
 |_=>False
theorem cN.mono {P:Program} {o:Oper} {ρ:Operand->Value} {w:World} {R R':Value->World->Prop} (h:cN P o ρ w R) (hr:∀ v w',R v w'->R' v w'):cN P o ρ w R':=by
 unfold cN at *
 split at h
 ·exact hr _ _ h
 ·exact hr _ _ h
 ·exact h.mono λe w' ⟨v,he,r⟩=>⟨v,he,hr _ _ r⟩
 ·exact h.mono λe w' ⟨v,he,r⟩=>⟨v,he,hr _ _ r⟩
 ·exact h.elim
theorem cN.nodefer {P:Program} {o:Oper} {ρ:Operand->Value} {w:World} {R:Value->World->Prop} (h:cN P o ρ w R):∀ c,o.op≠.defer c:=by
 intro c hc
 unfold cN at h
 unfold execOp at h
 simp only [hc,Zc] at h
 cases hr:(resolve ρ c o.type).run P w with
 |ok d w'=>simp [hr,Result.andThen] at h
 |halt x w'=>simp [hr,Result.andThen] at h
theorem cN.wp {P:Program} {ro:Option Nat} {o:Oper} {a:Act} {w:World} {R:Value->World->Prop} {K:Act->World->Prop} {Q:Exit->Act->World->Prop}
 (h:cN P o a.eval w R) (hk:∀ v w',R v w'->K (a.put o.dst v) w'):o.wpIn (FR ro) 0 P a w K Q:=by
 refine ⟨λ_ _=>trivial,?_⟩
 rw [Oper.semAt_eq _ _ _ h.nodefer]
 unfold cN at h
 split at h
 ·rename_i v w' e;rw [e];exact hk _ _ h
 ·rename_i w' e;rw [e];exact hk _ _ h
 ·rename_i f args w' e;rw [e]
  refine And.intro (λhh=>(by cases hh)) (callsIn_wide.2 (h.mono ?_))
  rintro e w' ⟨v,he,r⟩;subst he;exact hk _ _ r
 ·rename_i l f tmps assign body w' e;rw [e]
  refine And.intro (λhh=>(by cases hh)) (RoundIn.mono (F:=FR ro) h ?_)
  rintro e w' ⟨v,he,r⟩;subst he;exact hk _ _ r
 ·exact h.elim
abbrev c8:=Value->World->Prop
def nT (T:c8):Prop:=∀ v w w',T v w->Ext w w'->T v w'
def is (X:Value):c8:=λv _=>v=X
theorem Lf (X:Value):nT (is X):=λ_ _ _ h _=>h
section region
variable (P:Program) (ops:List Oper) (m:Nat) (cls:List (List Nat)) (T:Nat->c8)
def eJ (cl:List Nat) (t:Tmp):Option Nat:=cl.find? λj=>decide ((ops[j]?).bind (·.dst)=some t)
def tY (cl:List Nat) (a0 a:Act) (w:World) (t:Tmp):Prop:=
 match eJ ops cl t with
 |some j=>T j (a.tmps.getD t undef) w
 |none=>a.tmps.getD t undef=a0.tmps.getD t undef
def Ob (a0:Act) (w0:World) (i:Nat) (o:Oper):Prop:=
 ∀ a w,Ext w0 w->a.tmps.size=a0.tmps.size->(∀ t∈o.looksAt ops.toArray,tY ops T (cls.getD i []) a0 a w t)->
  if Region.wanted o (yielded ops.toArray a.tmps) then cN P o a.eval w (λv w'=>T i v w'/\Ext w w') else T i undef w
def dt (o:Oper):List Nat:=(o.after.toList.filter λe=>Region.binds .any e).map (·.on)
def I2 (size:Nat) (i:Nat) (o:Oper):Bool:=
 (match o.dst with|some d=>decide (d<size) && (List.range m).all (λj=>j == i || decide ((ops[j]?).bind (·.dst)≠some d))|none=>false) &&
 (dt o).all (λj=>decide (j<i)) &&
 (cls.getD i []).all (λj=>(dt o).contains j || (dt o).any λk=>(cls.getD k []).contains j) &&
 (o.looksAt ops.toArray).all (λt=>(List.range m).all λj=>decide ((ops[j]?).bind (·.dst)≠some t) || (cls.getD i []).contains j || (cls.getD j []).contains i)
def E5 (i:Nat) (o:Oper):Bool:=
 (dt o).all (λj=>decide (j<i)) && (List.range i).all (λj=>(dt o).contains j || (dt o).any λk=>decide (k<m) && (cls.getD k []).contains j || decide (m<=k) && decide (j<k))
def gQ (size:Nat):Bool:=decide (m<=ops.length) && (List.range ops.length).all λi=>match ops[i]? with|some o=>if i<m then I2 ops m cls size i o else E5 m cls i o|none=>false
end region
structure Inv (ops:List Oper) (m:Nat) (cls:List (List Nat)) (T:Nat->c8) (a0:Act) (w0:World) (listed:Array Bool) (a:Act) (w:World):Prop where
 ext:Ext w0 w
 defers:a.defers=a0.defers
 size:a.tmps.size=a0.tmps.size
 lsize:listed.size=ops.length
 tail:∀ i,m<=i->listed.getD i false=false
 done:∀ i o d,i<m->ops[i]? = some o->o.dst=some d->listed.getD i false=true->T i (a.tmps.getD d undef) w
 rest:∀ t,(∀ i o,i<m->ops[i]? = some o->o.dst=some t->listed.getD i false=false)->a.tmps.getD t undef=a0.tmps.getD t undef
 closed:∀ i,listed.getD i false=true->∀ j∈cls.getD i [],listed.getD j false=true
theorem Aw {ops:List Oper} {m:Nat} {cls:List (List Nat)} {size:Nat} (h:gQ ops m cls size=true):m<=ops.length:=by
 unfold gQ at h;simp only [Yw,YB] at h;exact h.1
theorem ii {ops:List Oper} {m:Nat} {cls:List (List Nat)} {size:Nat} (h:gQ ops m cls size=true) {i:Nat} {o:Oper} (hi:ops[i]? = some o) (him:i<m):I2 ops m cls size i o=true:=by
 unfold gQ at h
 simp only [Yw] at h
 have hlt:i<ops.length:=(Yv.1 hi).1
 have:=Yx.1 h.2 i (YI.2 hlt)
 simpa [hi,him] using this
theorem li {ops:List Oper} {m:Nat} {cls:List (List Nat)} {size:Nat} (h:gQ ops m cls size=true) {i:Nat} {o:Oper} (hi:ops[i]? = some o) (him:m<=i):
 (∀ j∈dt o,j<i)/\∀ j,j<i->j∈dt o∨∃ k∈dt o,(k<m/\j∈cls.getD k [])∨(m<=k/\j<k):=by
 unfold gQ at h
 simp only [Yw] at h
 have hlt:i<ops.length:=(Yv.1 hi).1
 have h1:=Yx.1 h.2 i (YI.2 hlt)
 have hn:¬ i<m:=by omega
 simp only [hi,if_neg hn,E5,Yw] at h1
 refine ⟨λj hj=>by simpa using Yx.1 h1.1 j hj,λj hj=>?_⟩
 have:=Yx.1 h1.2 j (YI.2 hj)
 simpa using this
theorem gp {ops:List Oper} {m:Nat} {cls:List (List Nat)} {size i:Nat} {o:Oper} (h:I2 ops m cls size i o=true):
 (∃ d,o.dst=some d/\d<size/\∀ j oj,j<m->ops[j]? = some oj->oj.dst=some d->j=i)/\
 (∀ j∈dt o,j<i)/\
 (∀ j∈cls.getD i [],j∈dt o∨∃ k∈dt o,j∈cls.getD k [])/\
 (∀ t∈o.looksAt ops.toArray,∀ j oj,j<m->ops[j]? = some oj->oj.dst=some t->j∈cls.getD i []∨i∈cls.getD j []):=by
 unfold I2 at h
 simp only [Yw] at h
 obtain ⟨⟨⟨h1,h2⟩,h3⟩,h4⟩:=h
 refine ⟨?_,?_,?_,?_⟩
 ·cases hd:o.dst with
  |none=>simp [hd] at h1
  |some d=>
   simp only [hd,Yw,YB] at h1
   refine ⟨d,rfl,h1.1,λj oj hlt hj hdj=>?_⟩
   have:=Yx.1 h1.2 j (YI.2 hlt)
   simpa [hj,hdj] using this
 ·intro j hj
  have:=Yx.1 h2 j hj
  simpa using this
 ·intro j hj
  have:=Yx.1 h3 j hj
  simpa using this
 ·intro t ht j oj hlt hj hdj
  have h5:=Yx.1 h4 t ht
  have:=Yx.1 h5 j (YI.2 hlt)
  simp [hj,hdj] at this
  simpa using this
theorem jX {ops:List Oper} {cl:List Nat} {t:Tmp} {j:Nat} (h:eJ ops cl t=some j):j∈cl/\∃ oj,ops[j]? = some oj/\oj.dst=some t:=by
 unfold eJ at h
 have h1:=List.mem_of_find?_eq_some h
 have h2:=List.find?_some h
 refine ⟨h1,?_⟩
 simp only [YB] at h2
 cases hj:ops[j]? with
 |none=>simp [hj] at h2
 |some oj=>exact ⟨oj,rfl,by simpa [hj] using h2⟩
theorem mT {ops:List Oper} {cl:List Nat} {t:Tmp} (h:eJ ops cl t=none) (j:Nat) (oj:Oper) (hj:ops[j]? = some oj) (hd:oj.dst=some t):j ∉ cl:=by
 unfold eJ at h
 intro hm
 have:=List.find?_eq_none.1 h j hm
 simp [hj,hd] at this
theorem Act.tmps_put_size (a:Act) (d:Option Tmp) (v:Value):(a.put d v).tmps.size=a.tmps.size:=by cases d<;>simp [Act.put]
theorem sk {ops:List Oper} {m:Nat} {cls:List (List Nat)} {size:Nat} (hok:gQ ops m cls size=true):∀ (i:Nat),i<m->∀ j∈cls.getD i [],j<i:=by
 intro i
 induction i using Nat.strongRecOn with
 |_ i ih=>
  intro hi j hj
  have hm:=Aw hok
  have hio:ops[i]? = some ops[i]:=by simp
  obtain ⟨_,hlt,hcl,_⟩:=gp (ii hok hio hi)
  rcases hcl j hj with h|⟨k,hk,hjk⟩
  ·exact hlt j h
  ·have:=hlt k hk
   have:=ih k this (by omega) j hjk
   omega
theorem GX {P:Program} {ro:Option Nat} {ops:List Oper} {m:Nat} {cls:List (List Nat)} {T:Nat->c8} {a0:Act} {w0:World} {Q:Exit->Act->World->Prop}
 (hok:gQ ops m cls a0.tmps.size=true) (hT:∀ i,nT (T i)) (hob:∀ i o,i<m->ops[i]? = some o->Ob P ops cls T a0 w0 i o)
 {listed:Array Bool} {a:Act} {w:World} (I:Inv ops m cls T a0 w0 listed a w) {i:Nat} {o:Oper} (him:i<m) (hi:ops[i]? = some o)
 (hr:∀ j∈dt o,listed.getD j false=true) (hu:listed.getD i false=false) {K:Act->World->Prop}
 (hK:∀ a' w',Inv ops m cls T a0 w0 (listed.setIfInBounds i true) a' w'->K a' w'):wpOpIn (FR ro) 0 P ops.toArray Q i K a w:=by
 obtain ⟨⟨d,hd,hds,huniq⟩,hlt,hcl,hlook⟩:=gp (ii hok hi him)
 have hil:i<ops.length:=(Yv.1 hi).1
 have hclosed:∀ j∈cls.getD i [],listed.getD j false=true:=λj hj=>by
  rcases hcl j hj with h|⟨k,hk,hjk⟩
  ·exact hr j h
  ·exact I.closed k (hr k hk) j hjk
 have hslots:∀ t∈o.looksAt ops.toArray,tY ops T (cls.getD i []) a0 a w t:=λt ht=>by
  unfold tY
  cases hw:eJ ops (cls.getD i []) t with
  |some j=>
   obtain ⟨hm,oj,hj,hdj⟩:=jX hw
   have:=sk hok i him j hm
   exact I.done j oj t (by omega) hj hdj (hclosed j hm)
  |none=>
   refine I.rest t λj oj hjm hj hdj=>?_
   have hnot:=mT hw j oj hj hdj
   have hin:=(hlook t ht j oj hjm hj hdj).resolve_left hnot
   cases hb:listed.getD j false with
   |false=>rfl
   |true=>have:=I.closed j hb i hin;rw [hu] at this;cases this
 have hset:∀ j,(listed.setIfInBounds i true).getD j false=true↔(j=i∨listed.getD j false=true):=λj=>by
  by_cases hji:i=j
  ·subst hji
   have:i<listed.size:=by rw [I.lsize];exact hil
   simp [this]
  ·have:¬ j=i:=λe=>hji e.symm
   simp [YW hji,this]
 have step:∀ v w',T i v w'->Ext w w'->Inv ops m cls T a0 w0 (listed.setIfInBounds i true) (a.put o.dst v) w':=λv w' hv hE=>by
  refine ⟨I.ext.trans hE,?_,?_,by simp [I.lsize],?_,?_,?_,?_⟩
  ·rw [hd];exact I.defers
  ·rw [Act.tmps_put_size];exact I.size
  ·intro j hj
   cases hb:(listed.setIfInBounds i true).getD j false with
   |false=>rfl
   |true=>
    rcases (hset j).1 hb with e|e
    ·omega
    ·rw [I.tail j hj] at e;cases e
  ·intro j oj dj hjm hj hdj hl
   rw [hd]
   by_cases hji:j=i
   ·subst hji
    rw [hi] at hj;cases hj
    rw [hd] at hdj;cases hdj
    have:d<a.tmps.size:=by rw [I.size];exact hds
    simpa [Act.put,this] using hv
   ·have hne:d≠dj:=λe=>hji (huniq j oj hjm hj (e▸hdj))
    have hold:listed.getD j false=true:=((hset j).1 hl).resolve_left hji
    have:=hT j _ _ _ (I.done j oj dj hjm hj hdj hold) hE
    simpa [Act.put,YW hne] using this
  ·intro t ht
   rw [hd]
   have hne:d≠t:=λe=>by
    have:=ht i o him hi (e▸hd)
    have h2:=(hset i).2 (.inl rfl)
    rw [this] at h2;cases h2
   have:=I.rest t λj oj hjm hj hdj=>by
    have:=ht j oj hjm hj hdj
    cases hb:listed.getD j false with
    |false=>rfl
    |true=>rw [(hset j).2 (.inr hb)] at this;cases this
   simpa [Act.put,YW hne] using this
  ·intro j hj k hk
   rcases (hset j).1 hj with e|e
   ·subst e;exact(hset k).2 (.inr (hclosed k hk))
   ·exact(hset k).2 (.inr (I.closed j e k hk))
 have hO:=hob i o him hi a w I.ext I.size hslots
 have hi':ops.toArray[i]? = some o:=by simpa using hi
 unfold wpOpIn
 simp only [hi']
 split
 ·rename_i hw
  rw [if_pos hw] at hO
  exact hO.wp λv w' ⟨h1,h2⟩=>hK _ _ (step v w' h1 h2)
 ·rename_i hw
  rw [if_neg hw] at hO
  exact ⟨λ_ _=>trivial,hK _ _ (step undef w hO (Ext.refl w))⟩
theorem i3 (l:List Bool) (i:Nat) (h:l[i]? = some false):(l.set i true).count false+1=l.count false:=by
 induction l generalizing i with
 |nil=>simp at h
 |cons b l ih=>
  cases i with
  |zero=>simp at h;subst h;simp
  |succ i=>simp at h;have:=ih i h;simp [List.count_cons];omega
theorem nk {ops:List Oper} {m:Nat} {cls:List (List Nat)} {size:Nat} (hok:gQ ops m cls size=true) {listed:Array Bool} (hs:listed.size=ops.length) {i:Nat} (hi:i<ops.length)
 (hb:listed.getD i false=false) (hall:∀ j,j<i->listed.getD j false=true):i∈Region.ready .any ops.toArray listed:=by
 have hio:ops[i]? = some ops[i]:=by simp [hi]
 have hlt:∀ j∈dt ops[i],j<i:=by
  by_cases him:i<m
  ·exact(gp (ii hok hio him)).2.1
  ·exact(li hok hio (by omega)).1
 exact mem_ready.2 ⟨by simp [hs,hi] at hb ⊢;exact hb,ops[i],by simp [hi],λe he hbd=>by
  have hm:e.on∈dt ops[i]:=Ze.2 ⟨e,YZ.2 ⟨by simpa using he,by simpa using hbd⟩,rfl⟩
  exact hall _ (hlt _ hm)⟩
theorem C5 {ops:List Oper} {m:Nat} {cls:List (List Nat)} {size:Nat} (hok:gQ ops m cls size=true) {listed:Array Bool} (hs:listed.size=ops.length) (h:Region.ready .any ops.toArray listed=[]):
 ∀ i,i<ops.length->listed.getD i false=true:=by
 intro i
 induction i using Nat.strongRecOn with
 |_ i ih=>
  intro hi
  cases hb:listed.getD i false with
  |true=>rfl
  |false=>
   have:=nk hok hs hi hb (λj hj=>ih j hj (by omega))
   rw [h] at this;cases this
theorem eF {ops:List Oper} {listed:Array Bool} {i:Nat} (h:i∈Region.ready .any ops.toArray listed):∃ o,ops[i]? = some o/\(listed.size=ops.length->listed.getD i false=false)/\∀ j∈dt o,listed.getD j false=true:=by
 obtain ⟨h0,o,ho,hall⟩:=mem_ready.1 h
 have hio:ops[i]? = some o:=by simpa using ho
 refine ⟨o,hio,λhs=>?_,λj hj=>?_⟩
 ·have hil:i<listed.size:=by rw [hs];exact(Yv.1 hio).1
  simp [hil] at h0 ⊢;exact h0
 ·obtain ⟨e,he,rfl⟩:=Ze.1 hj
  obtain ⟨h1,h2⟩:=YZ.1 he
  exact hall e (by simpa using h1) (by simpa using h2)
theorem zr {P:Program} {ro:Option Nat} {ops:List Oper} {m:Nat} {cls:List (List Nat)} {size:Nat} {Q:Exit->Act->World->Prop} (hok:gQ ops m cls size=true):
 ∀ (n i:Nat) (listed:Array Bool) (a:Act) (w:World),ops.length=i+n->m<=i->listed.size=ops.length->(∀ j,j<i->listed.getD j false=true)->(∀ j,i<=j->listed.getD j false=false)->
  (∀ j,j<m->∀ k∈cls.getD j [],k<j)->wpOpsIn (FR ro) 0 P ops.toArray Q (List.range' i n) a w->wpAnyIn (FR ro) 0 P .any ops.toArray Q n listed a w:=by
 intro n
 induction n with
 |zero=>
  intro i listed a w hn him hs h1 h2 _ h
  have hq:Q .normal a w:=by simpa [wpOpsIn] using h
  refine ⟨?_,hq⟩
  cases hr:Region.ready .any ops.toArray listed with
  |nil=>rfl
  |cons x xs=>
   have hx:x∈Region.ready .any ops.toArray listed:=by rw [hr];exact YG
   obtain ⟨o,ho,hf,_⟩:=eF hx
   have hlt:=(Yv.1 ho).1
   have:=h1 x (by omega)
   rw [hf hs] at this;cases this
 |succ n ih=>
  intro i listed a w hn him hs h1 h2 hc h
  have hi:i<ops.length:=by omega
  have hready:=nk hok hs hi (h2 i (YM _)) h1
  refine ⟨λhr=>(by rw [hr] at hready;cases hready),λk hk=>?_⟩
  obtain ⟨o,ho,hf,hd⟩:=eF hk
  have hkl:=(Yv.1 ho).1
  have hki:k=i:=by
   rcases Nat.lt_trichotomy k i with h3|h3|h3
   ·have:=h1 k h3;rw [hf hs] at this;cases this
   ·exact h3
   ·rcases (li hok ho (by omega)).2 i h3 with h4|⟨q,hq,h4⟩
    ·have:=hd i h4;rw [h2 i (YM _)] at this;cases this
    ·have hql:=hd q hq
     have hqi:q<i:=by
      rcases YP q i with h5|h5
      ·exact h5
      ·rw [h2 q h5] at hql;cases hql
     rcases h4 with h4|h4
     ·have:=hc q h4.1 i h4.2;omega
     ·omega
  subst hki
  rw [List.range'_succ,wpOpsIn_cons] at h
  refine wpOpIn_mono (λa' w' h'=>ih (k+1) _ a' w' (by omega) (by omega) (by simp [hs]) (λj hj=>?_) (λj hj=>?_) hc h') h
  ·by_cases e:k=j
   ·subst e;have:k<listed.size:=by rw [hs];exact hi
    simp [this]
   ·have:=h1 j (by omega);simpa [YW e] using this
  ·have e:k≠j:=by omega
   have:=h2 j (by omega);simpa [YW e] using this
def lk:List (Nat × Value)->Nat->Option Value
 |[],_=>none
 |(k,v)::r,t=>bif Nat.beq k t then some v else lk r t
structure Sl (n:Nat) (a:Act) (L:List (Nat × Value)) (D:List Deferred:=[]):Prop where
 size:a.tmps.size=n
 defers:a.defers=D
 holds:∀ t v,lk L t=some v->a.tmps.getD t undef=v
def dO (L:List (Nat × Value)):Operand->Option Value
 |.tmp t=>lk L t
 |.const v=>some v
 |.global g=>some (.pointer (some ⟨g,0,none⟩))
 |.func f=>some (.func (.func f) #[] #[])
theorem Sl.ev {n:Nat} {a:Act} {L:List (Nat × Value)} {Df:List Deferred} (h:Sl n a L Df) {x:Operand} {v:Value} (hx:dO L x=some v):a.eval x=v:=by
 cases x with
 |tmp t=>exact h.holds t v hx
 |const u=>simpa [dO,Act.eval] using hx
 |global g=>simpa [dO,Act.eval] using hx
 |func f=>simpa [dO,Act.eval] using hx
theorem Sl.put {n:Nat} {a:Act} {L:List (Nat × Value)} {Df:List Deferred} (h:Sl n a L Df) {d:Nat} (hd:Nat.blt d n=true) (v:Value):Sl n (a.put (some d) v) ((d,v)::L) Df:=by
 have hd':d<n:=by simpa using hd
 refine ⟨by rw [Act.tmps_put_size];exact h.size,h.defers,λt u ht=>?_⟩
 by_cases e:d=t
 ·subst e
  have:d<a.tmps.size:=by rw [h.size];exact hd'
  simp [lk] at ht
  simp [Act.put,this,ht]
 ·have:lk L t=some u:=by
   have hne:Nat.beq d t=false:=by cases hb:Nat.beq d t with|false=>rfl|true=>exact ZF (Nat.eq_of_beq_eq_true hb) e
   simpa [lk,hne] using ht
  have h2:=h.holds t u this
  simpa [Act.put,YW e] using h2
theorem zX {L:List (Nat × Value)} {t:Nat} {v:Value} (h:lk L t=some v):(t,v)∈L:=by
 induction L with
 |nil=>simp [lk] at h
 |cons p r ih=>
  obtain ⟨k,u⟩:=p
  unfold lk at h
  cases hb:Nat.beq k t with
  |true=>rw [hb] at h;simp at h;have:k=t:=by simpa using hb
         subst this;subst h;exact YG
  |false=>rw [hb] at h;exact YQ _ (ih h)
theorem Sl.cut {n:Nat} {a:Act} {L:List (Nat × Value)} {Df:List Deferred} (h:Sl n a L Df) (L':List (Nat × Value)) (hL:∀ p∈L',lk L p.1=some p.2):Sl n a L' Df:=
 ⟨h.size,h.defers,λt v ht=>h.holds t v (hL _ (zX ht))⟩
theorem Sl.enter {n:Nat} {args:Array Value} (L:List (Nat × Value)) (hs:args.size<=n) (hL:∀ p∈L,args[p.1]? = some p.2):
 Sl n {tmps:=args++Array.replicate (n - args.size) undef,defers:=[]} L:=by
 refine ⟨by simp;omega,rfl,λt v ht=>?_⟩
 have h1:args[t]? = some v:=hL (t,v) (zX ht)
 have hlt:t<args.size:=(ZA.1 h1).1
 have h2:(args++Array.replicate (n - args.size) undef)[t]? = some v:=by
  rw [Zs hlt];exact h1
 simp only [Array.getD_eq_getD_getElem?]
 rw [h2];rfl
def cq (w:World) (base:Nat) (e:TypeId) (size:Nat) (v:Value) (n:Nat) (xs:List Value):Prop:=
 xs.length=n*size/\
 ((v=.slice none 0 0/\n=0) ∨
  ∃ g cap cur fz,v=.slice (some ⟨g,0,none⟩) n cap/\base<=g/\w.heap[g]? = some (.cells cur e fz)/\(fz.2=0∨cur.size<=fz.1)/\n<=cap/\cap<=maxLen/\cur.size=cap*size/\cur.toList.take (n*size)=xs)
theorem cq.of {w:World} {base:Nat} {e:TypeId} {size:Nat} {v:Value} {n:Nat} {xs:List Value} (h:w.ownsRow base e size v n xs):cq w base e size v n xs:=by
 refine ⟨h.1,?_⟩
 rcases h.2 with hn|⟨g,cap,cur,hv,hb,hg,rest⟩
 ·exact .inl hn
 ·exact .inr ⟨g,cap,cur,(0,0),hv,hb,hg,.inl rfl,rest⟩
theorem cq.cells {w:World} {base:Nat} {e:TypeId} {size:Nat} {v:Value} {n:Nat} {xs:List Value} (h:cq w base e size v n xs) {g:Nat} (hg:v.ownBlock=some g):∀ j u,xs[j]? = some u->w.cell? ((⟨g,0,none⟩:Addr).add j)=some u:=by
 intro j u hu
 rcases h.2 with ⟨rfl,_⟩|⟨g',cap,cur,fz,rfl,_,hgg,_,_,_,_,htake⟩
 ·simp [Value.ownBlock] at hg
 ·simp [Value.ownBlock] at hg
  subst hg
  have hadd:(⟨g',0,none⟩:Addr).add j=⟨g',j,none⟩:=by unfold Addr.add;split<;>simp_all
  rw [hadd,cell_of_row w g' j cur e fz hgg]
  rw [← htake,List.getElem?_take] at hu
  split at hu
  ·simpa using hu
  ·cases hu
inductive Own where
 |blk (b:Nat) (o:Obj)
 |sl (v:Value) (e:TypeId) (sz n:Nat) (xs:List Value)
 |grp (ks:List Nat) (S:World->Prop)
def Own.ks:Own->List Nat
 |.blk b _=>[b]
 |.sl v _ _ _ _=>v.ownBlock.toList
 |.grp ks _=>ks
def Own.at (p:Own) (k:Nat):Prop:=k∈p.ks
theorem Own.at_blk {b k:Nat} {o:Obj}:(Own.blk b o).at k↔k=b:=by simp [Own.at,Own.ks]
theorem Own.at_sl {v:Value} {e:TypeId} {sz n:Nat} {xs:List Value} {k:Nat}:(Own.sl v e sz n xs).at k↔v.ownBlock=some k:=by simp [Own.at,Own.ks]
def Own.holds (w0 w:World):Own->Prop
 |.blk b o=>w.heap[b]? = some o
 |.sl v e sz n xs=>cq w w0.heap.size e sz v n xs
 |.grp ks S=>(∀ k∈ks,k<w.heap.size)/\∀ w':World,(∀ k∈ks,w'.heap[k]? = w.heap[k]?)->S w'
theorem Own.lt {w0 w:World} {p:Own} (h:p.holds w0 w) {k:Nat} (hk:p.at k):k<w.heap.size:=by
 cases p with
 |blk b o=>rw [Own.at_blk] at hk;subst hk;exact(ZA.1 h).1
 |sl v e sz n xs=>
  rw [Own.at_sl] at hk
  rcases h.2 with ⟨hv,_⟩|⟨g,cap,cur,fz,hv,_,hg,_⟩
  ·subst hv;simp [Value.ownBlock] at hk
  ·subst hv;simp [Value.ownBlock] at hk;subst hk;exact(ZA.1 hg).1
 |grp ks S=>exact h.1 k hk
theorem Own.keep {w0 w w':World} {p:Own} (h:p.holds w0 w) (hk:∀ k,p.at k->w'.heap[k]? = w.heap[k]?):p.holds w0 w':=by
 cases p with
 |blk b o=>exact (hk b (Own.at_blk.2 rfl)).trans h
 |sl v e sz n xs=>
  refine ⟨h.1,?_⟩
  rcases h.2 with hv|⟨g,cap,cur,fz,hv,hb,hg,r⟩
  ·exact .inl hv
  ·exact .inr ⟨g,cap,cur,fz,hv,hb,by rw [hk g (Own.at_sl.2 (by rw [hv];rfl))];exact hg,r⟩
 |grp ks S=>
  refine ⟨λk hm=>?_,λw2 h2=>h.2 w2 λk hm=>(h2 k hm).trans (hk k hm)⟩
  have h1:=h.1 k hm
  have h3:=hk k hm
  rw [Zz h1] at h3
  exact(ZA.1 h3).1
structure Grw (w w':World) (row:Option Nat):Prop extends World.grownBy w w' row where
 drawn:w.drawn<=w'.drawn
structure St (w0:World) (B:List Own) (w:World):Prop where
 ext:Ext w0 w
 has:∀ p∈B,p.holds w0 w
 own:∀ p∈B,∀ k,p.at k->w0.heap.size<=k
 nd:B.Pairwise (λp q=>∀ k,p.at k->¬ q.at k)
theorem St.start (w:World):St w [] w:=⟨Ext.refl w,by simp,by simp,List.Pairwise.nil⟩
theorem St.more {w0:World} {B:List Own} {w w':World} (h:St w0 B w) (e:Ext w w'):St w0 B w':=
 ⟨h.ext.trans e,λp hp=>Own.keep (h.has p hp) λk hk=>e.heap (Own.lt (h.has p hp) hk),h.own,h.nd⟩
theorem St.drew {w0:World} {B:List Own} {w:World} (h:St w0 B w):St w0 B w.drew:=h.more (Ext.refl w).drew
theorem St.plus {w0:World} {B:List Own} {w w':World} (h:St w0 B w) (e:Ext w w') (p:Own) (hp:p.holds w0 w') (hk:∀ k,p.at k->w.heap.size<=k):St w0 (p::B) w':=by
 have h1:=h.more e
 refine ⟨h1.ext,λq hq=>?_,λq hq k hqk=>?_,?_⟩
 ·rcases YH.1 hq with rfl|hq
  ·exact hp
  ·exact h1.has q hq
 ·rcases YH.1 hq with rfl|hq
  ·exact Zk h.ext.le (hk k hqk)
  ·exact h.own q hq k hqk
 ·exact List.pairwise_cons.2 ⟨λq hq k hpk hqk=>by have:=Own.lt (h.has q hq) hqk;have:=hk k hpk;omega,h.nd⟩
theorem St.new {w0:World} {B:List Own} {w:World} (h:St w0 B w) (o:Obj):St w0 (.blk w.heap.size o::B) (w.alloc o):=
 h.plus ((Ext.refl w).alloc o) _ (heap_alloc_new w o) λk hk=>by rw [Own.at_blk] at hk;omega
theorem St.get {w0:World} {B:List Own} {w:World} (h:St w0 B w) (i:Nat) {b:Nat} {o:Obj} (hi:B[i]? = some (.blk b o)):w.heap[b]? = some o:=
 h.has (.blk b o) (List.mem_of_getElem? hi)
theorem St.getSl {w0:World} {B:List Own} {w:World} (h:St w0 B w) (i:Nat) {v:Value} {e:TypeId} {sz n:Nat} {xs:List Value} (hi:B[i]? = some (.sl v e sz n xs)):cq w w0.heap.size e sz v n xs:=
 h.has (.sl v e sz n xs) (List.mem_of_getElem? hi)
theorem St.upd {w0:World} {B:List Own} {w w':World} (h:St w0 B w) (i:Nat) {p p':Own} (hi:B[i]? = some p)
 (hos:w'.os=w.os) (htp:w'.tape=w.tape) (hout:w'.output=w.output) (hs:w.heap.size<=w'.heap.size)
 (hold:p'.holds w0 w') (hkey:∀ k,p'.at k->p.at k∨w.heap.size<=k) (hother:∀ k,k<w.heap.size->¬ p.at k->w'.heap[k]? = w.heap[k]?) (hdr:w.drawn<=w'.drawn:=by exact YM _):St w0 (B.set i p') w':=by
 have hpm:=List.mem_of_getElem? hi
 have hil:i<B.length:=(Yv.1 hi).1
 have hBi:B[i]=p:=(Yv.1 hi).2
 have hnot:∀ j (hj:j<B.length),i≠j->∀ k,(B[j]).at k->¬ p.at k:=λj hj hij k hk hpk=>by
  have hpw:=List.pairwise_iff_getElem.1 h.nd
  rcases Nat.lt_or_gt_of_ne hij with hlt|hlt
  ·have:=hpw i j hil hj hlt k (by rw [hBi];exact hpk);exact this hk
  ·have:=hpw j i hj hil hlt k hk;rw [hBi] at this;exact this hpk
 refine ⟨?_,λq hq=>?_,λq hq k hqk=>?_,?_⟩
 ·refine ⟨⟨hos.trans h.ext.os,htp.trans h.ext.tape,hout.trans h.ext.output,Zk h.ext.le hs,λk hk=>?_⟩,Zk h.ext.drawn hdr⟩
  rw [hother k (Nat.lt_of_lt_of_le hk h.ext.le) (λe=>by have:=h.own p hpm k e;omega)];exact h.ext.heap hk
 ·obtain ⟨j,hj,rfl⟩:=Zr hq
  by_cases hij:i=j
  ·subst hij;simp only [List.getElem_set_self];exact hold
  ·simp only [List.getElem_set_ne hij]
   have hjl:j<B.length:=by simpa using hj
   have hh:=h.has _ (Zq hjl)
   exact Own.keep hh λk hk=>hother k (Own.lt hh hk) (hnot j hjl hij k hk)
 ·obtain ⟨j,hj,rfl⟩:=Zr hq
  by_cases hij:i=j
  ·subst hij;simp only [List.getElem_set_self] at hqk
   rcases hkey k hqk with e|e
   ·exact h.own p hpm k e
   ·exact Zk h.ext.le e
  ·simp only [List.getElem_set_ne hij] at hqk;exact h.own _ (Zq _) k hqk
 ·rw [List.pairwise_iff_getElem]
  intro j m hj hm hjm k h1 h2
  have hjl:j<B.length:=by simpa using hj
  have hml:m<B.length:=by simpa using hm
  have hold2:∀ q (hq:q<B.length),i≠q->(B[q]).at k->p'.at k->False:=λq hq hiq e1 e2=>by
   rcases hkey k e2 with e|e
   ·exact hnot q hq hiq k e1 e
   ·have:=Own.lt (h.has _ (Zq hq)) e1;omega
  by_cases e1:i=j
  ·subst e1
   have e2:i≠m:=by omega
   simp only [List.getElem_set_self] at h1
   simp only [List.getElem_set_ne e2] at h2
   exact hold2 m hml e2 h2 h1
  ·by_cases e2:i=m
   ·subst e2
    simp only [List.getElem_set_self] at h2
    simp only [List.getElem_set_ne e1] at h1
    exact hold2 j hjl e1 h1 h2
   ·simp only [List.getElem_set_ne e1] at h1
    simp only [List.getElem_set_ne e2] at h2
    exact List.pairwise_iff_getElem.1 h.nd j m hjl hml hjm k h1 h2
theorem St.store {w0:World} {B:List Own} {w:World} (h:St w0 B w) (i:Nat) {b:Nat} {C:Array Value} {t:TypeId} (hi:B[i]? = some (.blk b (.cells C t))) (j:Nat) (v:Value):
 St w0 (B.set i (.blk b (.cells (C.setIfInBounds j v) t))) (w.setCell ⟨b,j,none⟩ v):=
 h.upd i hi rfl rfl rfl (by simp) (heap_setCell_same w b j C t v (h.get i hi)) (λk hk=>.inl hk) (λk _ hk=>heap_setCell_other w ⟨b,j,none⟩ k v (λe=>hk (Own.at_blk.2 e)))
theorem St.row {w0:World} {B:List Own} {w:World} (h:St w0 B w) (i:Nat) {b:Nat} {C:Array Value} {t:TypeId} (hi:B[i]? = some (.blk b (.cells C t))) (D:Array Value):
 St w0 (B.set i (.blk b (.cells D t))) (w.setRow b D):=
 h.upd i hi rfl rfl rfl (by simp) (setRow_heap w b C D t (0,0) (h.get i hi)) (λk hk=>.inl hk) (λk _ hk=>setRow_other w b k D (λe=>hk (Own.at_blk.2 e)))
theorem St.pick {w0:World} {B:List Own} {w:World} (h:St w0 B w) (B':List Own) (hs:B'.Sublist B):St w0 B' w:=
 ⟨h.ext,λp hp=>h.has p (hs.subset hp),λp hp=>h.own p (hs.subset hp),h.nd.sublist hs⟩
theorem St.perm {w0:World} {B B':List Own} {w:World} (h:St w0 B w) (hp:B.Perm B'):St w0 B' w:=
 ⟨h.ext,λp hm=>h.has p (hp.mem_iff.2 hm),λp hm=>h.own p (hp.mem_iff.2 hm),(hp.pairwise_iff (λ{x y} hxy k hk hk'=>hxy k hk' hk)).1 h.nd⟩
def Own.all (w0:World) (A:List Own):Own:=.grp (A.flatMap Own.ks) λw'=>∀ p∈A,p.holds w0 w'
theorem St.group {w0:World} {A B:List Own} {w:World} (h:St w0 (A++B) w):St w0 (.all w0 A::B) w:=by
 have hmem:∀ k,k∈A.flatMap Own.ks↔∃ p∈A,p.at k:=λk=>by rw [List.mem_flatMap];rfl
 have hpw:=List.pairwise_append.1 h.nd
 refine ⟨h.ext,λp hp=>?_,λp hp k hk=>?_,List.pairwise_cons.2 ⟨λq hq k hk=>?_,hpw.2.1⟩⟩
 ·rcases YH.1 hp with rfl|hp
  ·refine ⟨λk hk=>?_,λw' hw' p hp=>Own.keep (h.has p (List.mem_append_left _ hp)) λk hk=>hw' k ((hmem k).2 ⟨p,hp,hk⟩)⟩
   obtain ⟨p,hp,hk⟩:=(hmem k).1 hk
   exact Own.lt (h.has p (List.mem_append_left _ hp)) hk
  ·exact h.has p (List.mem_append_right _ hp)
 ·rcases YH.1 hp with rfl|hp
  ·obtain ⟨p,hp,hk⟩:=(hmem k).1 hk
   exact h.own p (List.mem_append_left _ hp) k hk
  ·exact h.own p (List.mem_append_right _ hp) k hk
 ·obtain ⟨p,hp,hk⟩:=(hmem k).1 hk
  exact hpw.2.2 p hp q hq k hk
theorem St.ungroup {w0:World} {A B:List Own} {w:World} (h:St w0 (.all w0 A::B) w) (hnd:A.Pairwise λp q=>∀ k,p.at k->¬ q.at k):St w0 (A++B) w:=by
 have hmem:∀ k,k∈A.flatMap Own.ks↔∃ p∈A,p.at k:=λk=>by rw [List.mem_flatMap];rfl
 have h0:=h.has _ YG
 have hpw:=List.pairwise_cons.1 h.nd
 refine ⟨h.ext,λp hp=>?_,λp hp k hk=>?_,List.pairwise_append.2 ⟨hnd,hpw.2,λp hp q hq k hk=>hpw.1 q hq k ((hmem k).2 ⟨p,hp,hk⟩)⟩⟩
 ·rcases Y4.1 hp with hp|hp
  ·exact h0.2 w (λ_ _=>rfl) p hp
  ·exact h.has p (YQ _ hp)
 ·rcases Y4.1 hp with hp|hp
  ·exact h.own _ YG k ((hmem k).2 ⟨p,hp,hk⟩)
  ·exact h.own p (YQ _ hp) k hk
def aP (P:Program) (o:Oper) (ρ:Operand->Value) (X:Value):Prop:=∀ w,(execOp ρ o).run P w=.ok (.value X) w
theorem aP.does {P:Program} {o:Oper} {ρ:Operand->Value} {X:Value} (h:aP P o ρ X) {w:World} {R:Value->World->Prop} (hR:R X w):cN P o ρ w R:=by
 unfold cN;rw [h w];exact hR
section
variable {P:Program} {ρ:Operand->Value} {d:Option Tmp} {ty:TypeId} {pos:String} {af:Array Edge} {g:Option (Nat × Bool)} {x y c:Operand} {t t':TypeId} {k:IntKind} {m n:Int} {X:Value}
theorem Ko (hx:ρ x=X):aP P ⟨d,.move x,ty,pos,af,g⟩ ρ X:=λw=>by simp [execOp,hx]
theorem Cw (hx:ρ x=X):aP P ⟨d,.assign x,ty,pos,af,g⟩ ρ X:=λw=>by simp [execOp,hx]
theorem Bv {b:Bool} (hc:ρ c=.bool b) (hX:(if b then ρ x else ρ y)=X):aP P ⟨d,.pick c x y,ty,pos,af,g⟩ ρ X:=λw=>by simp [execOp,hc,asBool,hX]
theorem jd (op:BinOp) (k':IntKind) (w:World):(eqGuard op t x y (.int k m) (.int k' n)).run P w=.ok () w:=by
 unfold eqGuard;split<;>rfl
theorem iA {op:BinOp} (hx:ρ x=.int k m) (hy:ρ y=.int k n) (h:∀ w,(binOp op t (.int k m) (.int k n)).run P w=.ok X w):aP P ⟨d,.binOp op t x y t',ty,pos,af,g⟩ ρ X:=λw=>by
 simp only [execOp,hx,hy,Zc,jd,YA,h,Zd]
theorem FD (hx:ρ x=.int k m) (hy:ρ y=.int k n):aP P ⟨d,.binOp .lss t x y t',ty,pos,af,g⟩ ρ (.bool (decide (m<n))):=iA hx hy λw=>by simp [binOp,Op.intCmp]
theorem yq (hx:ρ x=.int k m) (hy:ρ y=.int k n):aP P ⟨d,.binOp .leq t x y t',ty,pos,af,g⟩ ρ (.bool (decide (m<=n))):=iA hx hy λw=>by simp [binOp,Op.intCmp]
theorem Oq (hx:ρ x=.int k m) (hy:ρ y=.int k n):aP P ⟨d,.binOp .gtr t x y t',ty,pos,af,g⟩ ρ (.bool (decide (n<m))):=iA hx hy λw=>by simp [binOp,Op.intCmp]
theorem Ov (hx:ρ x=.int k m) (hy:ρ y=.int k n):aP P ⟨d,.binOp .geq t x y t',ty,pos,af,g⟩ ρ (.bool (decide (n<=m))):=iA hx hy λw=>by simp [binOp,Op.intCmp]
theorem iU (hx:ρ x=.int k m) (hy:ρ y=.int k n):aP P ⟨d,.binOp .eql t x y t',ty,pos,af,g⟩ ρ (.bool (decide (m=n))):=iA hx hy λw=>by
 have:(m == n)=decide (m=n):=by rw [Zv];simp
 simp [binOp,Op.intCmp,this]
theorem OO (hx:ρ x=.int k m) (hy:ρ y=.int k n):aP P ⟨d,.binOp .neq t x y t',ty,pos,af,g⟩ ρ (.bool (decide (m≠n))):=iA hx hy λw=>by
 have:(m != n)=decide (m≠n):=by rw [Zv];simp
 simp [binOp,Op.intCmp,this]
theorem Jx (hx:ρ x=.int k m) (hy:ρ y=.int k n):aP P ⟨d,.binOp .add t x y t',ty,pos,af,g⟩ ρ (.int k (k.wrap (m+n))):=iA hx hy λw=>by simp [binOp,Op.intArith]
theorem J5 (hx:ρ x=.int k m) (hy:ρ y=.int k n):aP P ⟨d,.binOp .sub t x y t',ty,pos,af,g⟩ ρ (.int k (k.wrap (m - n))):=iA hx hy λw=>by simp [binOp,Op.intArith]
theorem Lu (hx:ρ x=.int k m) (hy:ρ y=.int k n):aP P ⟨d,.binOp .mul t x y t',ty,pos,af,g⟩ ρ (.int k (k.wrap (m*n))):=iA hx hy λw=>by simp [binOp,Op.intArith]
theorem bS (hx:ρ x=.int .i64 m) (hy:ρ y=.int .i64 n) (h : -9223372036854775808<=m+n/\m+n<=9223372036854775807):aP P ⟨d,.binOp .add t x y t',ty,pos,af,g⟩ ρ (.int .i64 (m+n)):=by
 have:=Jx (P:=P) (d:=d) (ty:=ty) (pos:=pos) (af:=af) (g:=g) (t:=t) (t':=t') hx hy;rwa [IntWalk.i64_in _ h] at this
theorem eI (hx:ρ x=.int .i64 m) (hy:ρ y=.int .i64 n) (h : -9223372036854775808<=m - n/\m - n<=9223372036854775807):aP P ⟨d,.binOp .sub t x y t',ty,pos,af,g⟩ ρ (.int .i64 (m - n)):=by
 have:=J5 (P:=P) (d:=d) (ty:=ty) (pos:=pos) (af:=af) (g:=g) (t:=t) (t':=t') hx hy;rwa [IntWalk.i64_in _ h] at this
theorem PI (hx:ρ x=.int .i64 m) (hy:ρ y=.int .i64 n) (h : -9223372036854775808<=m*n/\m*n<=9223372036854775807):aP P ⟨d,.binOp .mul t x y t',ty,pos,af,g⟩ ρ (.int .i64 (m*n)):=by
 have:=Lu (P:=P) (d:=d) (ty:=ty) (pos:=pos) (af:=af) (g:=g) (t:=t) (t':=t') hx hy;rwa [IntWalk.i64_in _ h] at this
theorem GA {op:BinOp} {k':IntKind} (hop:op=.shl∨op=.shr) (hx:ρ x=.int k m) (hy:ρ y=.int k' n) (h:∀ w,(Op.shift op k m k' n).run P w=.ok X w):aP P ⟨d,.binOp op t x y t',ty,pos,af,g⟩ ρ X:=λw=>by
 rcases hop with rfl|rfl<;>simp only [execOp,hx,hy,Zc,jd,YA,binOp,h,Zd]
theorem Pa {k':IntKind} (hx:ρ x=.int k m) (hy:ρ y=.int k' n) (h:0<=n):aP P ⟨d,.binOp .shr t x y t',ty,pos,af,g⟩ ρ (.int k (m.fdiv (2 ^ (min n.toNat k.bits)))):=
 GA (.inr rfl) hx hy fun w=>by have h0:¬ n<0:=by omega
                               simp [Op.shift,h0]
theorem O7 {b:Bool} (hx:ρ x=.bool b):aP P ⟨d,.unOp .not t x,ty,pos,af,g⟩ ρ (.bool (!b)):=λw=>by simp [execOp,hx,Op.unary]
theorem Br {k':IntKind} {s:TypeDesc} (hs:P.underlying t=some s) (ht:P.underlying t'=some (.int k')) (hx:ρ x=.int k m):aP P ⟨d,.convert t t' x,ty,pos,af,g⟩ ρ (.int k' (k'.wrap m)):=λw=>by
 simp [execOp,hx,convert,Zc,YC hs,YC ht,Conv.intToInt]
theorem zE {vs:Array Value} {i:Nat} (hx:ρ x=.tuple vs) (hi:vs[i]? = some X):aP P ⟨d,.extract x i,ty,pos,af,g⟩ ρ X:=λw=>by
 simp [execOp,hx,Instr.extract,hi]
theorem uT {b len:Nat} {e:TypeId} (ht:P.underlying t=some (.array len e)) (he:(P.info? e).map (·.size)=some 1) (hx:ρ x=.pointer (some ⟨b,0,none⟩)) (hy:ρ y=.int k m)
 (hm:0<=m/\m<len):aP P ⟨d,.indexAddr t x y,ty,pos,af,g⟩ ρ (.pointer (some ⟨b,m.toNat,none⟩)):=λw=>by
 cases hi:P.info? e with
 |none=>simp [hi] at he
 |some i=>
  have h1:i.size=1:=by simpa [hi] using he
  have ha:(⟨b,0,none⟩:Addr).add m.toNat=⟨b,m.toNat,none⟩:=by unfold Addr.add;split<;>simp_all
  simp [execOp,hx,hy,Instr.indexAt,asIntOf,Zc,YC ht,Instr.sureAddr,hm,sizeOf,typeInfo,hi,h1,ha]
end
def bZ (P:Program) (ops:Array Oper) (K:Act->World->Prop):List Oper->Act->World->Prop
 |[],a,w=>K a w
 |o::l,a,w=>if Region.wanted o (yielded ops a.tmps) then cN P o a.eval w (λv w'=>bZ P ops K l (a.put o.dst v) w') else bZ P ops K l (a.put o.dst undef) w
theorem bZ.wp {P:Program} {ro:Option Nat} {ops:Array Oper} {Q:Exit->Act->World->Prop}:∀ {l:List Oper} {a:Act} {w:World},bZ P ops (Q .normal) l a w->wpListIn (FR ro) 0 P ops Q l a w
 |[],_,_,h=>h
 |o::l,a,w,h=>by
  unfold bZ at h
  unfold wpListIn
  split at h
  ·rename_i hw
   rw [if_pos hw]
   exact cN.wp h λv w' h'=>bZ.wp h'
  ·rename_i hw
   rw [if_neg hw]
   exact ⟨λ_ _=>trivial,bZ.wp h⟩
theorem bZ.mono {P:Program} {ops:Array Oper} {K K':Act->World->Prop} (hk:∀ a w,K a w->K' a w):∀ {l:List Oper} {a:Act} {w:World},bZ P ops K l a w->bZ P ops K' l a w
 |[],_,_,h=>hk _ _ h
 |o::l,a,w,h=>by
  unfold bZ at h ⊢
  split at h
  ·rename_i hw
   rw [if_pos hw]
   exact h.mono λv w' h'=>bZ.mono hk h'
  ·rename_i hw
   rw [if_neg hw]
   exact bZ.mono hk h
theorem bZ.append {P:Program} {ops:Array Oper} {K:Act->World->Prop}:∀ {l r:List Oper} {a:Act} {w:World},bZ P ops K (l++r) a w↔bZ P ops (bZ P ops K r) l a w
 |[],_,_,_=>Iff.rfl
 |o::l,r,a,w=>by
  rw [List.cons_append]
  unfold bZ
  split
  ·exact ⟨λh=>h.mono λv w' h'=>bZ.append.1 h',λh=>h.mono λv w' h'=>bZ.append.2 h'⟩
  ·exact bZ.append
section
variable {ro:Option Nat} {P:Program} {ops:Array Oper} {Q:Act->World->Prop} {l:List Oper} {a:Act} {w:World} {N:Nat} {L:List (Nat × Value)} {Df:List Deferred} {d:Tmp} {op:Op} {ty:TypeId} {pos:String} {af:Array Edge}
theorem ay (h:Q a w):bZ P ops Q [] a w:=h
theorem dy {R:Value->World->Prop} (h:Sl N a L Df) (hr:cN P ⟨some d,op,ty,pos,af,none⟩ a.eval w R) (hd:Nat.blt d N=true)
 (k:∀ a' w' v,R v w'->Sl N a' ((d,v)::L) Df->bZ P ops Q l a' w'):bZ P ops Q (⟨some d,op,ty,pos,af,none⟩::l) a w:=
 by unfold bZ;rw [if_pos (by simp [Region.wanted])];exact hr.mono λv w' r=>k _ w' v r (h.put hd v)
theorem kp {R:Value->World->Prop} (hr:cN P ⟨none,op,ty,pos,af,none⟩ a.eval w R) (k:∀ w' v,R v w'->bZ P ops Q l a w'):bZ P ops Q (⟨none,op,ty,pos,af,none⟩::l) a w:=
 by unfold bZ;rw [if_pos (by simp [Region.wanted])];exact hr.mono λv w' r=>k w' v r
theorem ai {X:Value} (h:Sl N a L Df) (hr:aP P ⟨some d,op,ty,pos,af,none⟩ a.eval X) (hd:Nat.blt d N=true)
 (k:∀ a',Sl N a' ((d,X)::L) Df->bZ P ops Q l a' w):bZ P ops Q (⟨some d,op,ty,pos,af,none⟩::l) a w:=
 dy (R:=λv w'=>v=X/\w'=w) h (hr.does ⟨rfl,rfl⟩) hd λa' w' v ⟨h1,h2⟩ hs=>by subst h1;subst h2;exact k a' hs
theorem To {j:Nat} {b:Bool} {od:Oper} {t:Tmp} (h:Sl N a L Df) (hj:ops[j]? = some od) (ht:od.dst=some t) (hv:lk L t=some (.bool (!b))) (hd:Nat.blt d N=true)
 (k:∀ a',Sl N a' ((d,undef)::L) Df->bZ P ops Q l a' w):bZ P ops Q (⟨some d,op,ty,pos,af,some (j,b)⟩::l) a w:=by
 have hlt:t<a.tmps.size:=by
  rcases YP t a.tmps.size with h'|h'
  ·exact h'
  ·have h2:=h.holds t _ hv;simp [YV h',undef] at h2
 have hy:yielded ops a.tmps j=some (!b):=by
  have h2:=h.holds t _ hv
  unfold yielded
  have h3:a.tmps[t]? = some (.bool (!b)):=by simp [hlt] at h2 ⊢;exact h2
  simp [hj,ht,h3]
 unfold bZ
 have:Region.wanted ⟨some d,op,ty,pos,af,some (j,b)⟩ (yielded ops a.tmps)=false:=by
  simp [Region.wanted,hy]
 rw [this]
 exact k _ (h.put hd undef)
theorem RP {j:Nat} {b:Bool} {od:Oper} {t:Tmp} (h:Sl N a L Df) (hj:ops[j]? = some od) (ht:od.dst=some t) (hv:lk L t=some (.bool b))
 (k:bZ P ops Q (⟨some d,op,ty,pos,af,none⟩::l) a w):bZ P ops Q (⟨some d,op,ty,pos,af,some (j,b)⟩::l) a w:=by
 have hlt:t<a.tmps.size:=by
  rcases YP t a.tmps.size with h'|h'
  ·exact h'
  ·have h2:=h.holds t _ hv;simp [YV h',undef] at h2
 have hy:yielded ops a.tmps j=some b:=by
  have h2:=h.holds t _ hv
  unfold yielded
  have h3:a.tmps[t]? = some (.bool b):=by simp [hlt] at h2 ⊢;exact h2
  simp [hj,ht,h3]
 unfold bZ at k ⊢
 have h1:Region.wanted ⟨some d,op,ty,pos,af,some (j,b)⟩ (yielded ops a.tmps)=true:=by simp [Region.wanted,hy]
 have h2:Region.wanted ⟨some d,op,ty,pos,af,none⟩ (yielded ops a.tmps)=true:=by simp [Region.wanted]
 rw [if_pos h1]
 rw [if_pos h2] at k
 exact k
end
theorem bZ.nil {P:Program} {ops:Array Oper} {K:Act->World->Prop} {a:Act} {w:World}:bZ P ops K [] a w↔K a w:=Iff.rfl
attribute [irreducible] bZ
end Go.Proofs.YtkhepdpfdhdlaaaGreatDoor
namespace Go.Proofs.YtkhepdpfdhdlaaaGreatDoor
open Go.RowKit
section
variable {ro:Option Nat} {P:Program} {ops:Array Oper} {Q:Act->World->Prop} {l:List Oper} {a:Act} {w w0:World} {N:Nat} {L:List (Nat × Value)} {Df:List Deferred} {B:List Own} {d:Tmp} {ty:TypeId} {pos:String} {af:Array Edge} {x y:Operand} {t:TypeId}
theorem GH {ρ:Operand->Value} {V:Value} {dst:Option Tmp} {g:Option (Nat × Bool)} (hx:ρ x=V) {R:Value->World->Prop} (hR:R (.pointer (some ⟨w.heap.size,0,none⟩)) (w.alloc (.cells V.cells t))):
 cN P ⟨dst,.box t x,ty,pos,af,g⟩ ρ w R:=by
 unfold cN
 simp only [execOp,hx,Instr.box,newVar,newRow,Zc,run_newObj,YA,Zd]
 exact hR
theorem bh {V:Value} (C:Array Value) (h:Sl N a L Df) (s:St w0 B w) (hx:dO L x=some V) (hC:V.cells=C) (hd:Nat.blt d N=true)
 (k:∀ a' w' b,Sl N a' ((d,.pointer (some ⟨b,0,none⟩))::L) Df->St w0 (.blk b (.cells C t)::B) w'->bZ P ops Q l a' w'):bZ P ops Q (⟨some d,.box t x,ty,pos,af,none⟩::l) a w:=by
 subst hC
 exact
 dy (R:=λv w'=>v=.pointer (some ⟨w.heap.size,0,none⟩)/\w'=w.alloc (.cells V.cells t)) h (GH (h.ev hx) ⟨rfl,rfl⟩) hd
  λa' w' v ⟨h1,h2⟩ hs=>by subst h1;subst h2;exact k a' _ _ hs (s.new _)
theorem yh {ρ:Operand->Value} {Z:Value} {dst:Option Tmp} {g:Option (Nat × Bool)} (hz:(P.info? t).bind (·.zero)=some Z) {R:Value->World->Prop} (hR:R (.pointer (some ⟨w.heap.size,0,none⟩)) (w.alloc (.cells Z.cells t))):
 cN P ⟨dst,.alloc t,ty,pos,af,g⟩ ρ w R:=by
 cases hi:P.info? t with
 |none=>simp [hi] at hz
 |some i=>
  have hz':i.zero=some Z:=by simpa [hi] using hz
  unfold cN
  simp only [execOp,Instr.alloc,zeroValue,typeInfo,newVar,newRow,Zc,run_program,hi,hz',run_newObj,YA,Zd]
  exact hR
theorem aS {Z:Value} (C:Array Value) (h:Sl N a L Df) (s:St w0 B w) (hz:(P.info? t).bind (·.zero)=some Z) (hC:Z.cells=C) (hd:Nat.blt d N=true)
 (k:∀ a' w' b,Sl N a' ((d,.pointer (some ⟨b,0,none⟩))::L) Df->St w0 (.blk b (.cells C t)::B) w'->bZ P ops Q l a' w'):bZ P ops Q (⟨some d,.alloc t,ty,pos,af,none⟩::l) a w:=by
 subst hC
 exact
 dy (R:=λv w'=>v=.pointer (some ⟨w.heap.size,0,none⟩)/\w'=w.alloc (.cells Z.cells t)) h (yh hz ⟨rfl,rfl⟩) hd
  λa' w' v ⟨h1,h2⟩ hs=>by subst h1;subst h2;exact k a' _ _ hs (s.new _)
def Pd:TypeDesc->Bool|.struct _=>true|.array _ _=>true|_=>false
structure Row (P:Program) (t:TypeId) (n:Nat):Prop where
 desc:∃ dsc,P.underlying t=some dsc/\Pd dsc=true
 size:(P.info? t).map (·.size)=some n
structure One (P:Program) (t:TypeId):Prop where
 desc:∃ dsc,P.underlying t=some dsc/\Pd dsc=false
 size:(P.info? t).map (·.size)=some 1
theorem fq {n:Nat} (hr:Row P t n) (w:World) (b:Nat) (C:Array Value) (u:TypeId) (fr:Nat × Nat) (hb:w.heap[b]? = some (.cells C u fr)) (hn:C.size=n):(loadVar t ⟨b,0,none⟩).run P w=.ok (.agg C) w:=by
 obtain ⟨dsc,h1,h2⟩:=hr.desc
 exact run_loadVar_row w b u t C fr dsc hb h1 (by cases dsc<;>first|rfl|cases h2) (by rw [hr.size,hn])
theorem qN (ho:One P t) (w:World):(isAgg t).run P w=.ok false w:=by
 obtain ⟨dsc,h1,h2⟩:=ho.desc
 unfold isAgg
 rw [Zc,YC h1 w]
 cases dsc<;>first|rfl|cases h2
theorem iP (ho:One P t) (w:World) (p:Addr) {v:Value} (hc:w.cell? p=some v):(loadVar t p).run P w=.ok v w:=by
 simp [loadVar,Zc,qN ho w,run_load,hc]
theorem kI {ρ:Operand->Value} {dst:Option Tmp} {g:Option (Nat × Bool)} {b n:Nat} {C:Array Value} {u:TypeId} {fr:Nat × Nat} (hr:Row P t n) (hx:ρ x=.pointer (some ⟨b,0,none⟩)) (hb:w.heap[b]? = some (.cells C u fr)) (hn:C.size=n)
 {R:Value->World->Prop} (hR:R (.agg C) w):cN P ⟨dst,.load t x,ty,pos,af,g⟩ ρ w R:=by
 unfold cN
 simp only [execOp,hx,Instr.loadAt,Instr.sureAddr,Zc,Zd,YA,fq hr w b C u fr hb hn]
 exact hR
theorem fR {ρ:Operand->Value} {dst:Option Tmp} {g:Option (Nat × Bool)} {p:Addr} {V:Value} (ho:One P t) (hx:ρ x=.pointer (some p)) (hc:w.cell? p=some V)
 {R:Value->World->Prop} (hR:R V w):cN P ⟨dst,.load t x,ty,pos,af,g⟩ ρ w R:=by
 unfold cN
 simp only [execOp,hx,Instr.loadAt,Instr.sureAddr,Zc,Zd,YA,iP ho w p hc]
 exact hR
theorem al {b n:Nat} {C:Array Value} {u:TypeId} (i:Nat) (h:Sl N a L Df) (s:St w0 B w) (hr:Row P t n) (hx:dO L x=some (.pointer (some ⟨b,0,none⟩))) (hi:B[i]? = some (.blk b (.cells C u))) (hn:C.size=n) (hd:Nat.blt d N=true)
 (k:∀ a',Sl N a' ((d,.agg C)::L) Df->bZ P ops Q l a' w):bZ P ops Q (⟨some d,.load t x,ty,pos,af,none⟩::l) a w:=
 dy (R:=λv w'=>v=.agg C/\w'=w) h (kI hr (h.ev hx) (s.get i hi) hn ⟨rfl,rfl⟩) hd λa' w' v ⟨h1,h2⟩ hs=>by subst h1;subst h2;exact k a' hs
theorem jz (s:St w0 B w) (i:Nat) {b j:Nat} {C:Array Value} {u:TypeId} {V:Value} (hi:B[i]? = some (.blk b (.cells C u))) (hC:C[j]? = some V):w.cell? ⟨b,j,none⟩=some V:=by
 rw [cell_of_row w b j C u (0,0) (s.get i hi)];exact hC
theorem kP {b j:Nat} {C:Array Value} {u:TypeId} {V:Value} (i:Nat) (h:Sl N a L Df) (s:St w0 B w) (ho:One P t) (hx:dO L x=some (.pointer (some ⟨b,j,none⟩))) (hi:B[i]? = some (.blk b (.cells C u))) (hC:C[j]? = some V) (hd:Nat.blt d N=true)
 (k:∀ a',Sl N a' ((d,V)::L) Df->bZ P ops Q l a' w):bZ P ops Q (⟨some d,.load t x,ty,pos,af,none⟩::l) a w:=
 dy (R:=λv w'=>v=V/\w'=w) h (fR ho (h.ev hx) (jz s i hi hC) ⟨rfl,rfl⟩) hd λa' w' v ⟨h1,h2⟩ hs=>by subst h1;subst h2;exact k a' hs
theorem qQ (ho:One P t) (w:World) (b j:Nat) (C:Array Value) (u:TypeId) (hb:w.heap[b]? = some (.cells C u)) (hj:j<C.size) (v:Value) (hv:v.oneCell'=true):
 (storeVar t ⟨b,j,none⟩ v).run P w=.ok () (w.setCell ⟨b,j,none⟩ v):=by
 have hs:(sizeOf t).run P w=.ok 1 w:=by
  cases hq:P.info? t with
  |none=>have:=ho.size;simp [hq] at this
  |some i=>have:=ho.size;simp [hq] at this;simp [sizeOf,typeInfo,Zc,hq,this]
 have hcs:v.cells=#[v]:=by cases v<;>first|rfl|simp [Value.oneCell'] at hv
 have hcell:w.cell? ⟨b,j,none⟩=some C[j]:=by rw [cell_of_row w b j C u (0,0) hb];simp [hj]
 have hfro:w.frozen? ⟨b,j,none⟩=false:=frozen_of_row w b j C u hb
 have hadd:(⟨b,j,none⟩:Addr).add 0=⟨b,j,none⟩:=by simp [Addr.add]
 simp [storeVar,Zc,hs,hcs,storeCells,hadd,run_store P w _ v _ hv,hcell,hfro]
theorem aR {b j:Nat} {C:Array Value} {u:TypeId} {V:Value} (i:Nat) (h:Sl N a L Df) (s:St w0 B w) (ho:One P t) (hx:dO L x=some (.pointer (some ⟨b,j,none⟩))) (hy:dO L y=some V) (hi:B[i]? = some (.blk b (.cells C u))) (hj:j<C.size) (hv:V.oneCell'=true)
 (k:∀ w',St w0 (B.set i (.blk b (.cells (C.setIfInBounds j V) u))) w'->bZ P ops Q l a w'):bZ P ops Q (⟨none,.store t x y,ty,pos,af,none⟩::l) a w:=
 kp (R:=λ_ w'=>w'=w.setCell ⟨b,j,none⟩ V) (by
  unfold cN
  simp only [execOp,h.ev hx,h.ev hy,Instr.storeAt,Instr.sureAddr,Zc,Zd,YA,qQ ho w b j C u (s.get i hi) hj V hv]) λw' _ hw=>by subst hw;exact k _ (s.store i hi j V)
theorem ak {b n:Nat} {C D:Array Value} {u:TypeId} (i:Nat) (h:Sl N a L Df) (s:St w0 B w) (hr:Row P t n) (hx:dO L x=some (.pointer (some ⟨b,0,none⟩))) (hy:dO L y=some (.agg D)) (hi:B[i]? = some (.blk b (.cells C u))) (hC:C.size=n) (hD:D.size=n) (hv:∀ v∈D.toList,v.oneCell'=true)
 (k:∀ w',St w0 (B.set i (.blk b (.cells D u))) w'->bZ P ops Q l a w'):bZ P ops Q (⟨none,.store t x y,ty,pos,af,none⟩::l) a w:=
 kp (R:=λ_ w'=>w'=w.setRow b D) (by
  have hs:(sizeOf t).run P w=.ok D.size w:=by
   cases hq:P.info? t with
   |none=>have:=hr.size;simp [hq] at this
   |some i=>have:=hr.size;simp [hq] at this;simp [sizeOf,typeInfo,Zc,hq,this,hD]
  have hst:(storeVar t ⟨b,0,none⟩ (.agg D)).run P w=.ok () (w.setRow b D):=by
   have:=run_storeCells_from (P:=P) b u D.toList 0 C w (s.get i hi) (by simp [hC,hD]) hv
   simp only [List.take_zero,List.nil_append,Array.toArray_toList] at this
   simp [storeVar,Zc,hs,Value.cells,this]
  unfold cN
  simp only [execOp,h.ev hx,h.ev hy,Instr.storeAt,Instr.sureAddr,Zc,Zd,YA,hst]) λw' _ hw=>by subst hw;exact k _ (s.row i hi D)
def bW (w:World) (T:c8):Ending->World->Prop:=λe w'=>∃ v,e=.returned v/\T v w'/\Ext w w'
theorem eC {f:FuncId} {fn:Func} (hf:P.funcs[f]? = some fn) (hb:fn.body.isNone=false) (hn:(fn.name == "runtime.NumGoroutine")=false) (vs:Array Value) (w:World):
 (callFunc f vs).run P w=.ok (.enter f vs) w:=by
 unfold callFunc
 simp only [Zc,run_program,YA,hf,hn,hb,Bool.false_eq_true,if_false,Zd]
structure Fnc (P:Program) (f:FuncId):Prop where
 has:∃ fn,P.funcs[f]? = some fn/\fn.body.isNone=false/\(fn.name == "runtime.NumGoroutine")=false
theorem m1 {ρ:Operand->Value} {dst:Option Tmp} {g:Option (Nat × Bool)} {f:FuncId} {args:Array Operand} {tys:Array TypeId} {vs:Array Value} (hf:Fnc P f) (hfv:ρ (.func f)=.func (.func f) #[] #[])
 (hvs:args.map ρ=vs) {R:Value->World->Prop} (hc:Calls P f vs w λe w'=>∃ v,e=.returned v/\R v w'):
 cN P ⟨dst,.call {callee:=.value (.func f),args:=args,argTypes:=tys},ty,pos,af,g⟩ ρ w R:=by
 obtain ⟨fn,h1,h2,h3⟩:=hf.has
 unfold cN
 simp only [execOp,resolve,hfv,hvs,Deferred.ofValue,Zc,Zd,YA,invoke,Array.append_empty,Array.empty_append,eC h1 h2 h3]
 exact hc
theorem bB {f:FuncId} {args:Array Operand} {tys:Array TypeId} {vs:List Value} {T:c8} (h:Sl N a L Df) (s:St w0 B w) (hf:Fnc P f) (hc:Calls P f vs.toArray w (bW w T)) (hvs:args.toList.map (dO L)=vs.map some)
 (hd:Nat.blt d N=true)
 (k:∀ a' w' v,T v w'->Ext w w'->Sl N a' ((d,v)::L) Df->St w0 B w'->bZ P ops Q l a' w'):
 bZ P ops Q (⟨some d,.call {callee:=.value (.func f),args:=args,argTypes:=tys},ty,pos,af,none⟩::l) a w:=by
 have hvs':args.map a.eval=vs.toArray:=by
  apply Array.ext'
  simp only [Array.toList_map]
  generalize args.toList=as at hvs
  clear hc
  induction as generalizing vs with
  |nil=>cases vs with
   |nil=>rfl
   |cons v vs=>simp at hvs
  |cons x as ih=>cases vs with
   |nil=>simp at hvs
   |cons v vs=>
    simp only [List.map_cons,List.cons.injEq] at hvs
    simp only [List.map_cons,h.ev hvs.1,ih hvs.2]
 exact dy (R:=λv w'=>T v w'/\Ext w w') h (m1 hf rfl hvs' hc) hd λa' w' v ⟨h1,h2⟩ hs=>k a' w' v h1 h2 hs (s.more h2)
theorem aG {id:Nat} {l:List Oper} {Q:Exit->Act->World->Prop} (h:bZ P l.toArray (Q .normal) l a w):(Code.region id l.toArray false).wpIn (FR ro) 0 P Q a w:=wpIn_region_lit h.wp
theorem cA {c:Operand} {x y:Code} {b:Bool} {Q:Exit->Act->World->Prop} (h:Sl N a L Df) (hc:dO L c=some (.bool b)) (ht:b=true->x.wpIn (FR ro) 0 P Q a w) (hf:b=false->y.wpIn (FR ro) 0 P Q a w):(Code.cond c x y).wpIn (FR ro) 0 P Q a w:=
 wpIn_cond_split (h.ev hc) ht hf
theorem Jo {f:FuncId} {fn:Func} {c:Code} {args:List Value} {T:c8} {n:Nat} (hf:P.funcs[f]? = some fn) (hb:fn.body=some c) (hn:fn.ntmps=n) (hs:Nat.ble args.length n=true)
 (L:List (Nat × Value)) (hL:∀ p∈L,args[p.1]? = some p.2)
 (h:∀ a,Sl n a L->c.wpIn (FR none) 0 P (bodyPost P fn (bW w T)) a w):Calls P f args.toArray w (bW w T):=by
 refine callsIn_wide.1 (callsIn_of_wp (n:=0) hf hb trivial ?_)
 rw [hn]
 exact h _ (Sl.enter L (by simpa using hs) (by simpa using hL))
theorem au {fn:Func} {t:Tmp} {T:c8} {V:Value} (hr:fn.results=#[.tmp t]) (h:Sl N a L) (s:St w0 B w) (hv:lk L t=some V) (hT:T V w):bodyPost P fn (bW w0 T) .ret a w:=
 ⟨h.defers,V,by rw [results_tmp hr,h.holds t V hv],V,rfl,hT,s.ext⟩
theorem nq {fn:Func} {p:Tmp} {T:c8} {b n:Nat} {C:Array Value} {u:TypeId} (i:Nat) (hres:fn.results=#[.cell p t]) (h:Sl N a L) (s:St w0 B w) (hr:Row P t n) (hp:lk L p=some (.pointer (some ⟨b,0,none⟩))) (hi:B[i]? = some (.blk b (.cells C u))) (hn:C.size=n)
 (hT:T (.agg C) w):bodyPost P fn (bW w0 T) .ret a w:=by
 refine ⟨h.defers,.agg C,?_,.agg C,rfl,hT,s.ext⟩
 have hp':a.tmps[p]?.getD undef=.pointer (some ⟨b,0,none⟩):=by simpa using h.holds p _ hp
 simp [results,hres,hp',asAddr,fq hr w b C u (0,0) (s.get i hi) hn]
theorem ct {fn:Func} {p q:Tmp} {T:c8} {b n:Nat} {C:Array Value} {u:TypeId} {V:Value} (i:Nat) (hres:fn.results=#[.cell p t,.tmp q]) (h:Sl N a L) (s:St w0 B w) (hr:Row P t n) (hp:lk L p=some (.pointer (some ⟨b,0,none⟩))) (hi:B[i]? = some (.blk b (.cells C u))) (hn:C.size=n)
 (hq:lk L q=some V) (hT:T (.tuple #[.agg C,V]) w):bodyPost P fn (bW w0 T) .ret a w:=by
 refine ⟨h.defers,.tuple #[.agg C,V],?_,_,rfl,hT,s.ext⟩
 have hp':a.tmps[p]?.getD undef=.pointer (some ⟨b,0,none⟩):=by simpa using h.holds p _ hp
 have hq':a.tmps[q]?.getD undef=V:=by simpa using h.holds q _ hq
 simp [results,hres,hp',hq',asAddr,fq hr w b C u (0,0) (s.get i hi) hn]
end
section
variable (P:Program) (ops:Array Oper) (K:Act->World->Prop) (w0:World)
def gd:List Oper->Act->Prop
 |[],a=>∀ w,Ext w0 w->K a w
 |o::l,a=>∃ X,(if Region.wanted o (yielded ops a.tmps) then ∀ w,Ext w0 w->cN P o a.eval w (λv w'=>v=X/\Ext w w') else X=undef)/\gd l (a.put o.dst X)
end
def dD:List Oper->List Value->Act->Act
 |o::l,X::r,a=>dD l r (a.put o.dst X)
 |_,_,a=>a
theorem jT:∀ (l:List Oper) (r:List Value) (a:Act),(dD l r a).tmps.size=a.tmps.size
 |[],_,_=>by simp [dD]
 |_::_,[],_=>by simp [dD]
 |o::l,X::r,a=>by rw [dD,jT l r,Act.tmps_put_size]
theorem gH (a:Act) (d t:Nat) (v:Value):(a.put (some d) v).tmps.getD t undef=if d=t/\d<a.tmps.size then v else a.tmps.getD t undef:=by
 by_cases e:d=t
 ·subst e
  by_cases h:d<a.tmps.size
  ·simp [Act.put,h]
  ·simp [Act.put,h]
 ·simp [Act.put,e,YW e]
theorem gT:∀ (l:List Oper) (r:List Value) (a:Act) (t:Nat),(∀ (j:Nat) (o:Oper),l[j]? = some o->o.dst≠some t)->(dD l r a).tmps.getD t undef=a.tmps.getD t undef
 |[],_,_,_,_=>by simp [dD]
 |_::_,[],_,_,_=>by simp [dD]
 |o::l,X::r,a,t,h=>by
  rw [dD,gT l r _ t (λj o' hj=>h (j+1) o' (by simpa using hj))]
  cases hd:o.dst with
  |none=>rfl
  |some d=>rw [gH,if_neg (λe=>h 0 o (by simp) (by rw [hd,e.1]))]
theorem jn:∀ (l:List Oper) (r:List Value) (a:Act) (t i:Nat) (o:Oper) (X:Value),l[i]? = some o->r[i]? = some X->o.dst=some t->t<a.tmps.size->
 (∀ (j:Nat) (o':Oper),l[j]? = some o'->o'.dst=some t->j=i)->(dD l r a).tmps.getD t undef=X
 |[],_,_,_,_,_,_,h,_,_,_,_=>by simp at h
 |_::_,[],_,_,_,_,_,_,h,_,_,_=>by simp at h
 |o::l,Y::r,a,t,0,o',X,h1,h2,hd,hs,hu=>by
  simp at h1 h2;subst h1;subst h2
  rw [dD,gT l r _ t (λj o' hj e=>by have:=hu (j+1) o' (by simpa using hj) e;omega),hd,gH,if_pos ⟨rfl,hs⟩]
 |o::l,Y::r,a,t,i+1,o',X,h1,h2,hd,hs,hu=>by
  rw [dD]
  exact jn l r _ t i o' X (by simpa using h1) (by simpa using h2) hd (by rw [Act.tmps_put_size];exact hs) (λj o2 hj e=>by have:=hu (j+1) o2 (by simpa using hj) e;omega)
theorem wG {P:Program} {ops:Array Oper} {K:Act->World->Prop} {w0:World}:∀ (l:List Oper) (a:Act),gd P ops K w0 l a->
 ∃ Xs:List Value,Xs.length=l.length/\(∀ w,Ext w0 w->K (dD l Xs a) w)/\
  ∀ (i:Nat) (o:Oper) (X:Value),l[i]? = some o->Xs[i]? = some X->(if Region.wanted o (yielded ops (dD (l.take i) (Xs.take i) a).tmps) then ∀ w,Ext w0 w->cN P o (dD (l.take i) (Xs.take i) a).eval w (λv w'=>v=X/\Ext w w') else X=undef)
 |[],a,h=>⟨[],rfl,h,λi o X hi=>by simp at hi⟩
 |o::l,a,⟨X,hX,h⟩=>by
  obtain ⟨Xs,h1,h2,h3⟩:=wG l _ h
  refine ⟨X::Xs,by simp [h1],h2,λi o' X' hi hx=>?_⟩
  cases i with
  |zero=>simp at hi hx;subst hi;subst hx;simpa [dD] using hX
  |succ i=>simpa [dD] using h3 i o' X' (by simpa using hi) (by simpa using hx)
theorem tN {ops:Array Oper} {o:Oper} {x y:Array Value} (hs:x.size=y.size) (h:∀ t∈o.looksAt ops,x.getD t undef=y.getD t undef):Region.wanted o (yielded ops x)=Region.wanted o (yielded ops y):=by
 unfold Region.wanted
 cases hg:o.guard with
 |none=>rfl
 |some gw=>
  obtain ⟨g,want⟩:=gw
  have:yielded ops x g=yielded ops y g:=by
   unfold yielded
   cases ht:(ops[g]?).bind (·.dst) with
   |none=>rfl
   |some t=>
    have ht':t∈o.looksAt ops:=by simp [Oper.looksAt,hg,ht]
    have h1:=h t ht'
    have:x[t]? = y[t]? := by
     by_cases hlt:t<x.size
     ·have hlt':t<y.size:=by rw [← hs];exact hlt
      simp [hlt,hlt'] at h1 ⊢;exact h1
     ·rw [YV (Nat.le_of_not_lt hlt),YV (by rw [← hs];exact Nat.le_of_not_lt hlt)]
    simp [this]
  simp only [this]
theorem yE {P:Program} {o:Oper} {ops:Array Oper} {a b:Act} (hsel:∀ cs bl,o.op≠.select cs bl) (h:∀ t∈o.looksAt ops,a.tmps.getD t undef=b.tmps.getD t undef) {w:World} {R:Value->World->Prop} (hd:cN P o b.eval w R):cN P o a.eval w R:=by
 have:execOp a.eval o=execOp b.eval o:=execOp_congr o hsel λx hx=>by
  cases x with
  |tmp t=>exact h t (List.mem_append_left _ (List.mem_filterMap.2 ⟨.tmp t,by simpa using hx,rfl⟩))
  |_=>rfl
 unfold cN at hd ⊢
 rw [this];exact hd
theorem kD:∀ (l:List Oper) (r:List Value) (a:Act),(dD l r a).defers=a.defers
 |[],_,_=>by simp [dD]
 |_::_,[],_=>by simp [dD]
 |o::l,X::r,a=>by rw [dD,kD l r];cases o.dst<;>rfl
theorem K8 {a b:Act} (h1:a.defers=b.defers) (h2:a.tmps.size=b.tmps.size) (h3:∀ t,a.tmps.getD t undef=b.tmps.getD t undef):a=b:=by
 obtain ⟨at_,ad⟩:=a
 obtain ⟨bt,bd⟩:=b
 simp only at h1 h2 h3
 subst h1
 congr 1
 apply Array.ext h2
 intro i hi1 hi2
 have:=h3 i
 simpa [hi1,hi2] using this
theorem oK {P:Program} {ro:Option Nat} {id:Nat} {l tl:List Oper} (cls:List (List Nat)) {a0:Act} {w0:World} {Q:Exit->Act->World->Prop}
 (hm:P.follows .mixedOrders=true) (hok:gQ (l++tl) l.length cls a0.tmps.size=true) (hsel:Region.noSelect (l++tl).toArray=true)
 (h:gd P (l++tl).toArray (bZ P (l++tl).toArray (Q .normal) tl) w0 l a0):(Code.region id (l++tl).toArray true).wpIn (FR ro) 0 P Q a0 w0:=by
 obtain ⟨Xs,hlen,hfin,hob⟩:=wG l a0 h
 generalize hops:l++tl=ops at *
 have hin:∀ i,i<l.length->ops[i]? = l[i]? := λi hi=>by rw [← hops,Y3 hi]
 have hopl:ops.length=l.length+tl.length:=by rw [← hops];simp
 have hO:∀ i o,i<l.length->ops[i]? = some o->Ob P ops cls (λi=>is (Xs.getD i undef)) a0 w0 i o:=by
  intro i o hil hi a w hE hs hslot
  have hX:Xs[i]? = some (Xs.getD i undef):=by simp [hlen,hil]
  have hB:=hob i o _ (by rw [← hin i hil];exact hi) hX
  obtain ⟨_,_,hcl,hlook⟩:=gp (ii hok hi hil)
  have hag:∀ t∈o.looksAt ops.toArray,a.tmps.getD t undef=(dD (l.take i) (Xs.take i) a0).tmps.getD t undef:=λt ht=>by
   have h1:=hslot t ht
   unfold tY at h1
   cases hw:eJ ops (cls.getD i []) t with
   |some j=>
    rw [hw] at h1
    obtain ⟨hm,oj,hj,hdj⟩:=jX hw
    have hji:=sk hok i hil j hm
    obtain ⟨⟨d,hd,hds,huniq⟩,_⟩:=gp (ii hok hj (by omega))
    rw [hdj] at hd;cases hd
    have h1':a.tmps.getD t undef=Xs.getD j undef:=h1
    have hjl:j<Xs.length:=by rw [hlen];omega
    rw [h1',jn (l.take i) (Xs.take i) a0 t j oj (Xs.getD j undef) (by rw [Zw hji,← hin j (by omega)];exact hj) (by rw [Zw hji];simp [hjl]) hdj hds
     (λk ok hk hdk=>by
      rw [List.getElem?_take] at hk
      split at hk
      ·exact huniq k ok (by omega) (by rw [hin k (by omega)];exact hk) hdk
      ·cases hk)]
   |none=>
    rw [hw] at h1
    rw [h1,gT]
    intro k ok hk hdk
    rw [List.getElem?_take] at hk
    split at hk
    ·rename_i hki
     have hk':ops[k]? = some ok:=by rw [hin k (by omega)];exact hk
     have hnot:=mT hw k ok hk' hdk
     have hin2:=(hlook t ht k ok (by omega) hk' hdk).resolve_left hnot
     have:=sk hok k (by omega) i hin2
     omega
    ·cases hk
  have hwant:=tN (o:=o) (ops:=ops.toArray) (hs.trans (jT (l.take i) (Xs.take i) a0).symm) hag
  rw [hwant]
  split
  ·rename_i hw
   rw [if_pos hw] at hB
   exact yE (λcs bl=>Region.noSelect_spec hsel i o cs bl (by simpa using hi)) hag (hB w hE)
  ·rename_i hw
   rw [if_neg hw] at hB
   exact hB.symm
 have hend:∀ a w listed,Inv ops l.length cls (λi=>is (Xs.getD i undef)) a0 w0 listed a w->(∀ i,i<l.length->listed.getD i false=true)->∀ fuel,ops.length=l.length+fuel->wpAnyIn (FR ro) 0 P .any ops.toArray Q fuel listed a w:=by
  intro a w listed I hall fuel hfuel
  have ha:a=dD l Xs a0:=by
   refine K8 (by rw [I.defers,kD]) (by rw [I.size,jT]) λt=>?_
   by_cases hex:∃ i o,i<l.length/\l[i]? = some o/\o.dst=some t
   ·obtain ⟨i,o,hil,hi,hd⟩:=hex
    have hio:ops[i]? = some o:=by rw [hin i hil];exact hi
    obtain ⟨⟨d,hd',hds,huniq⟩,_⟩:=gp (ii hok hio hil)
    rw [hd] at hd';cases hd'
    have h1:a.tmps.getD t undef=Xs.getD i undef:=I.done i o t hil hio hd (hall i hil)
    rw [h1,jn l Xs a0 t i o (Xs.getD i undef) hi (by simp [hlen,hil]) hd hds (λk ok hk hdk=>by
     have hkl:=(Yv.1 hk).1
     exact huniq k ok hkl (by rw [hin k hkl];exact hk) hdk)]
   ·rw [I.rest t (λi o hil hi hd=>ZF ⟨i,o,hil,by rw [← hin i hil];exact hi,hd⟩ hex),gT l Xs a0 t (λj o hj hd=>hex ⟨j,o,(Yv.1 hj).1,hj,hd⟩)]
  have hw:=hfin w I.ext
  rw [← ha] at hw
  refine zr hok fuel l.length listed a w hfuel (YM _) I.lsize hall (λj hj=>I.tail j hj) (λj hj k hk=>sk hok j hj k hk) ?_
  have:fuel=tl.length:=by omega
  subst this
  rw [wpOpsIn_eq_wpListIn tl l.length (λj=>by rw [← hops,YT,Y2 (Nat.le_add_right _ _),Nat.add_sub_cancel_left])]
  exact hw.wp
 refine wpIn_region_any hm ?_
 have hcount:∀ (fuel:Nat) (listed:Array Bool) (a:Act) (w:World),listed.toList.count false=fuel->Inv ops l.length cls (λi=>is (Xs.getD i undef)) a0 w0 listed a w->wpAnyIn (FR ro) 0 P .any ops.toArray Q fuel listed a w:=by
  intro fuel
  induction fuel with
  |zero=>
   intro listed a w hc I
   have hall:∀ i,i<ops.length->listed.getD i false=true:=λi hi=>by
    have hil:i<listed.size:=by rw [I.lsize];exact hi
    cases hb:listed.getD i false with
    |true=>rfl
    |false=>
     have:false∈listed.toList:=by
      simp [hil] at hb
      exact List.mem_of_getElem? (i:=i) (by simp [hil,hb])
     have:=List.count_pos_iff.2 this
     omega
   refine hend a w listed I (λi hi=>hall i (by omega)) 0 ?_
   by_cases htl:tl.length=0
   ·omega
   ·have:=I.tail l.length (YM _)
    rw [hall l.length (by omega)] at this;cases this
  |succ fuel ih=>
   intro listed a w hc I
   by_cases hall:∀ i,i<l.length->listed.getD i false=true
   ·refine hend a w listed I hall (fuel+1) ?_
    have key:∀ (b:List Bool) (m:Nat),m<=b.length->(∀ i,i<m->b[i]? = some true)->(∀ i,m<=i->i<b.length->b[i]? = some false)->b.count false=b.length - m:=by
     intro b
     induction b with
     |nil=>intro m _ _ _;simp
     |cons x b ihb=>
      intro m hm h1 h2
      cases m with
      |zero=>
       have hx:x=false:=by simpa using h2 0 (YM _) (by simp)
       have:=ihb 0 (YO _) (λi hi=>by omega) (λi _ hi=>by simpa using h2 (i+1) (YO _) (by simp;omega))
       subst hx;simp [this]
      |succ m=>
       have hx:x=true:=by simpa using h1 0 (by omega)
       have:=ihb m (by simpa using hm) (λi hi=>by simpa using h1 (i+1) (by omega)) (λi hi hi2=>by simpa using h2 (i+1) (by omega) (by simp;omega))
       subst hx;simp [this]
    have hk:=key listed.toList l.length (by simp [I.lsize];omega)
     (fun i hi=>by have:=hall i hi;have hil:i<listed.size:=by rw [I.lsize];omega
                   simp [hil] at this ⊢;exact this)
     (fun i hi hi2=>by have:=I.tail i hi;have hil:i<listed.size:=by simpa using hi2
                       simp [hil] at this ⊢;exact this)
    rw [hc] at hk
    simp [I.lsize] at hk
    omega
   ·refine ⟨λhr=>ZF (λi hi=>C5 hok I.lsize hr i (by omega)) hall,λi hi=>?_⟩
    obtain ⟨o,hio,hf,hd⟩:=eF hi
    have hu:=hf I.lsize
    have hil:i<l.length:=by
     rcases YP i l.length with h3|h3
     ·exact h3
     ·exfalso
      apply hall
      intro j hj
      rcases (li hok hio h3).2 j (by omega) with h4|⟨k,hk,h4⟩
      ·exact hd j h4
      ·rcases h4 with h4|h4
       ·exact I.closed k (hd k hk) j h4.2
       ·have:=I.tail k h4.1;rw [hd k hk] at this;cases this
    have hils:i<listed.size:=by rw [I.lsize];omega
    refine GX hok (λi=>Lf _) (λi o h1 h2=>hO i o h1 h2) I hil hio hd hu λa' w' I'=>ih _ a' w' ?_ I'
    have:=i3 listed.toList i (by simp [hils] at hu ⊢;exact hu)
    rw [Array.toList_setIfInBounds]
    omega
 refine hcount _ _ _ _ (by simp) ⟨(Ext.refl w0).drew,rfl,rfl,by simp,λi _=>?_,λi o d _ _ _ h=>?_,λ_ _=>rfl,λi h=>?_⟩
 ·simp [YY];split<;>rfl
 ·simp [YY] at h;split at h<;>simp at h
 ·simp [YY] at h;split at h<;>simp at h
theorem bq {P:Program} {o:Oper} {ρ:Operand->Value} {X:Value} (Y:Value) (hr:aP P o ρ X) (e:X=Y):aP P o ρ Y:=e▸hr
theorem kG {P:Program} {ρ:Operand->Value} {d:Option Tmp} {ty:TypeId} {pos:String} {af:Array Edge} {g:Option (Nat × Bool)} {x y:Operand} {t:TypeId} {k:IntKind} {m:Int} {b len:Nat} {e:TypeId} (j:Nat)
 (ht:P.underlying t=some (.array len e)) (he:(P.info? e).map (·.size)=some 1) (hx:ρ x=.pointer (some ⟨b,0,none⟩)) (hy:ρ y=.int k m)
 (hj:m=(j:Int)) (hm:j<len):aP P ⟨d,.indexAddr t x y,ty,pos,af,g⟩ ρ (.pointer (some ⟨b,j,none⟩)):=by
 have:=uT (P:=P) (d:=d) (ty:=ty) (pos:=pos) (af:=af) (g:=g) ht he hx hy (by omega)
 rw [hj] at this
 simpa using this
theorem qe {P:Program} {ρ:Operand->Value} {d:Option Tmp} {ty:TypeId} {pos:String} {af:Array Edge} {g:Option (Nat × Bool)} {x:Operand} {t t':TypeId} {k k':IntKind} {m:Int} {s:TypeDesc}
 (hs:P.underlying t=some s) (ht:P.underlying t'=some (.int k')) (hx:ρ x=.int k m) (h:k'.wrap m=m):aP P ⟨d,.convert t t' x,ty,pos,af,g⟩ ρ (.int k' m):=
 bq _ (Br hs ht hx) (by rw [h])
theorem eT {P:Program} {ρ:Operand->Value} {d:Option Tmp} {ty:TypeId} {pos:String} {af:Array Edge} {g:Option (Nat × Bool)} {x:Operand} {t t':TypeId} {k:IntKind} {m:Int} {s:TypeDesc}
 (hs:P.underlying t=some s) (ht:P.underlying t'=some (.int .u8)) (hx:ρ x=.int k m):aP P ⟨d,.convert t t' x,ty,pos,af,g⟩ ρ (.int .u8 (m % 256)):=
 bq _ (Br hs ht hx) (by rw [IntKind.wrap_u8])
section
variable {ro:Option Nat} {P:Program} {ops:List Oper} {K:Act->World->Prop} {l:List Oper} {a:Act} {w w0:World} {N:Nat} {L:List (Nat × Value)} {Df:List Deferred} {B:List Own} {d:Tmp} {op:Op} {ty:TypeId} {pos:String} {af:Array Edge} {x y:Operand} {t:TypeId}
theorem bQ (s:St w0 B w) (k:∀ w',St w0 B w'->K a w'):gd P ops.toArray K w [] a:=λw' hE=>k w' (s.more hE)
theorem iy (X:Value) (h:Sl N a L Df) (hr:∀ w',Ext w w'->cN P ⟨some d,op,ty,pos,af,none⟩ a.eval w' (λv w''=>v=X/\Ext w' w'')) (hd:Nat.blt d N=true)
 (k:∀ a',Sl N a' ((d,X)::L) Df->gd P ops.toArray K w l a'):gd P ops.toArray K w (⟨some d,op,ty,pos,af,none⟩::l) a:=
 ⟨X,by rw [if_pos (by simp [Region.wanted])];exact hr,k _ (h.put hd X)⟩
theorem ar {X:Value} (h:Sl N a L Df) (hr:aP P ⟨some d,op,ty,pos,af,none⟩ a.eval X) (hd:Nat.blt d N=true)
 (k:∀ a',Sl N a' ((d,X)::L) Df->gd P ops.toArray K w l a'):gd P ops.toArray K w (⟨some d,op,ty,pos,af,none⟩::l) a:=
 iy X h (λw' _=>hr.does ⟨rfl,Ext.refl _⟩) hd k
theorem ba {b n:Nat} {C:Array Value} {u:TypeId} (i:Nat) (h:Sl N a L Df) (s:St w0 B w) (hr:Row P t n) (hx:dO L x=some (.pointer (some ⟨b,0,none⟩))) (hi:B[i]? = some (.blk b (.cells C u))) (hn:C.size=n) (hd:Nat.blt d N=true)
 (k:∀ a',Sl N a' ((d,.agg C)::L) Df->gd P ops.toArray K w l a'):gd P ops.toArray K w (⟨some d,.load t x,ty,pos,af,none⟩::l) a:=
 iy _ h (λ_ hE=>kI hr (h.ev hx) ((s.more hE).get i hi) hn ⟨rfl,Ext.refl _⟩) hd k
theorem eU {b j:Nat} {C:Array Value} {u:TypeId} {V:Value} (i:Nat) (h:Sl N a L Df) (s:St w0 B w) (ho:One P t) (hx:dO L x=some (.pointer (some ⟨b,j,none⟩))) (hi:B[i]? = some (.blk b (.cells C u))) (hC:C[j]? = some V) (hd:Nat.blt d N=true)
 (k:∀ a',Sl N a' ((d,V)::L) Df->gd P ops.toArray K w l a'):gd P ops.toArray K w (⟨some d,.load t x,ty,pos,af,none⟩::l) a:=
 iy _ h (λ_ hE=>fR ho (h.ev hx) (jz (s.more hE) i hi hC) ⟨rfl,Ext.refl _⟩) hd k
theorem VT {as:List Operand} {vs:List Value} (h:Sl N a L Df) (hvs:as.map (dO L)=vs.map some):as.map a.eval=vs:=by
 induction as generalizing vs with
 |nil=>cases vs with
  |nil=>rfl
  |cons v vs=>simp at hvs
 |cons x as ih=>cases vs with
  |nil=>simp at hvs
  |cons v vs=>
   simp only [List.map_cons,List.cons.injEq] at hvs
   simp only [List.map_cons,h.ev hvs.1,ih hvs.2]
theorem bj {f:FuncId} {args:List Operand} {tys:Array TypeId} {vs:List Value} {X:Value} (h:Sl N a L Df) (hf:Fnc P f)
 (hc:∀ w',Ext w w'->Calls P f vs.toArray w' (bW w' (is X))) (hvs:args.map (dO L)=vs.map some) (hd:Nat.blt d N=true)
 (k:∀ a',Sl N a' ((d,X)::L) Df->gd P ops.toArray K w l a'):
 gd P ops.toArray K w (⟨some d,.call {callee:=.value (.func f),args:=args.toArray,argTypes:=tys},ty,pos,af,none⟩::l) a:=
 iy X h (λw' hE=>m1 hf rfl (vs:=vs.toArray) (by rw [List.map_toArray,VT h hvs]) (hc w' hE)) hd k
theorem Re {j:Nat} {b:Bool} {od:Oper} {t:Tmp} (h:Sl N a L Df) (hj:ops[j]? = some od) (ht:od.dst=some t) (hv:lk L t=some (.bool b))
 (k:gd P ops.toArray K w (⟨some d,op,ty,pos,af,none⟩::l) a):gd P ops.toArray K w (⟨some d,op,ty,pos,af,some (j,b)⟩::l) a:=by
 have hlt:t<a.tmps.size:=by
  rcases YP t a.tmps.size with h'|h'
  ·exact h'
  ·have h2:=h.holds t _ hv;simp [YV h',undef] at h2
 have hy:yielded ops.toArray a.tmps j=some b:=by
  have h2:=h.holds t _ hv
  unfold yielded
  have h3:a.tmps[t]? = some (.bool b):=by simp [hlt] at h2 ⊢;exact h2
  simp [hj,ht,h3]
 obtain ⟨X,h1,h2⟩:=k
 refine ⟨X,?_,h2⟩
 have e1:Region.wanted ⟨some d,op,ty,pos,af,some (j,b)⟩ (yielded ops.toArray a.tmps)=true:=by simp [Region.wanted,hy]
 have e2:Region.wanted ⟨some d,op,ty,pos,af,none⟩ (yielded ops.toArray a.tmps)=true:=by simp [Region.wanted]
 rw [if_pos e2] at h1
 rw [if_pos e1]
 exact h1
theorem TD {j:Nat} {b:Bool} {od:Oper} {t:Tmp} (h:Sl N a L Df) (hj:ops[j]? = some od) (ht:od.dst=some t) (hv:lk L t=some (.bool (!b))) (hd:Nat.blt d N=true)
 (k:∀ a',Sl N a' ((d,undef)::L) Df->gd P ops.toArray K w l a'):gd P ops.toArray K w (⟨some d,op,ty,pos,af,some (j,b)⟩::l) a:=by
 have hlt:t<a.tmps.size:=by
  rcases YP t a.tmps.size with h'|h'
  ·exact h'
  ·have h2:=h.holds t _ hv;simp [YV h',undef] at h2
 have hy:yielded ops.toArray a.tmps j=some (!b):=by
  have h2:=h.holds t _ hv
  unfold yielded
  have h3:a.tmps[t]? = some (.bool (!b)):=by simp [hlt] at h2 ⊢;exact h2
  simp [hj,ht,h3]
 refine ⟨undef,?_,k _ (h.put hd undef)⟩
 have e1:Region.wanted ⟨some d,op,ty,pos,af,some (j,b)⟩ (yielded ops.toArray a.tmps)=false:=by simp [Region.wanted,hy]
 rw [e1];rfl
end
def Ih (L:List (Nat × Value)):List (Nat × Value)->Prop
 |[]=>True
 |(t,v)::r=>lk L t=some v/\Ih L r
theorem rK {L:List (Nat × Value)}:∀ {L':List (Nat × Value)},Ih L L'->∀ p∈L',lk L p.1=some p.2
 |[],_,p,hp=>by simp at hp
 |(t,v)::r,⟨h1,h2⟩,p,hp=>by
  rcases YH.1 hp with rfl|hp
  ·exact h1
  ·exact rK h2 p hp
theorem Sl.only {n:Nat} {a:Act} {L L':List (Nat × Value)} {Df:List Deferred} (h:Sl n a L Df) (e:Ih L L'):Sl n a L' Df:=h.cut L' (rK e)
def Kj:List Own->List Own->Prop
 |[],[]=>True
 |p::r,p'::r'=>p=p'/\Kj r r'
 |_,_=>False
theorem Ax:∀ {B B':List Own},Kj B B'->B=B'
 |[],[],_=>rfl
 |p::r,p'::r',⟨h1,h2⟩=>by subst h1;rw [Ax h2]
 |[],_::_,h=>h.elim
 |_::_,[],h=>h.elim
theorem St.as {w0 w:World} {B B':List Own} (h:St w0 B w) (e:Kj B B'):St w0 B' w:=Ax e▸h
theorem ff {C D:Array Value} {b:Nat} {t:TypeId} (h:C=D):Own.blk b (.cells C t)=Own.blk b (.cells D t):=by rw [h]
theorem ge {v:Value} {e:TypeId} {sz n m:Nat} {xs ys:List Value} (hn:n=m) (h:xs=ys):Own.sl v e sz n xs=Own.sl v e sz m ys:=by rw [hn,h]
section
variable {K:Act->World->Prop} {Q:Exit->Act->World->Prop} {a:Act} {w:World} {i j:Nat}
theorem a7 (h:Q (.exit i) a w):Exit.then K Q (.exit i) a w:=h
theorem aV (h:Q .ret a w):Exit.then K Q .ret a w:=h
theorem aO (h:K a w):Exit.then K Q .normal a w:=h
theorem cd (h:Q .normal a w):Exit.inBlock i Q (.exit i) a w:=by simp [Exit.inBlock,h]
theorem bo (h:Q .ret a w):Exit.inBlock i Q .ret a w:=h
theorem bw (h:Q .normal a w):Exit.inBlock i Q .normal a w:=h
end
theorem av {L:List (Nat × Value)} {t:Nat} {k:IntKind} {m n:Int} (h:lk L t=some (.int k m)) (e:m=n):lk L t=some (.int k n):=e▸h
end Go.Proofs.YtkhepdpfdhdlaaaGreatDoor
