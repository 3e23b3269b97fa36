/- Drawn regions in general; slices of elements of several cells; equality of such; links that lead back; the reference of the sum; keys and links; no Go in it. -/
import Derived.Deep.Slices
import Derived.Test.YthmlflaiidhoiaaGreatDoorDg
set_option linter.unusedVariables false
set_option linter.unusedSimpArgs false
set_option linter.unusedSectionVars false
namespace Go.Proofs.YthmlflaiidhoiaaGreatDoor
open Go.RowKit
def cC (ops:List Oper) (j:Nat):Option Tmp:=(ops[j]?).bind (·.dst)
def Wb:Value->List Nat
 |.pointer (some a)=>[a.block]
 |.slice (some a) _ _=>[a.block]
 |_=>[]
section
variable (ops:List Oper) (m:Nat) (Hs:List Nat) (cls:List (List Nat))
end
def ym (P:Program) (ops:Array Oper) (Wp:World->Prop) (K:Act->World->Prop):List Oper->Act->World->Prop
 |[],a,w=>K a w
 |o::l,a,w=>ce P ops (λa w=>Wp w/\ym P ops Wp K l a w) [o] a w
theorem ym.of {P:Program} {ops:Array Oper} {K:Act->World->Prop}:∀ {l:List Oper} {a:Act} {w:World},ce P ops K l a w->ym P ops (λ_=>True) K l a w
 |[],_,_,h=>ce.nil.1 h
 |o::l,a,w,h=>by
  have h2:ce P ops (ce P ops K l) [o] a w:=(ce.append (l:=[o])).1 h
  exact ce.mono (λa w h=>⟨trivial,ym.of h⟩) h2
section law
variable {P:Program} {ro:Option Nat} {ops:List Oper} {m:Nat} {Hs:List Nat} {cls:List (List Nat)} {X:Nat->Value} {Wp:World->Prop} {a0:Act} {Q:Exit->Act->World->Prop}
structure J2 (ops:List Oper) (Hs:List Nat) (cls:List (List Nat)) (X:Nat->Value) (a0:Act) (listed:Array Bool) (a:Act):Prop where
 size:a.tmps.size=a0.tmps.size
 lsize:listed.size=ops.length
 doneH:∀ i d,i∈Hs->cC ops i=some d->listed.getD i false=true->a.tmps.getD d undef=X i
 rest:∀ t,(∀ j,cC ops j=some t->listed.getD j false=false)->a.tmps.getD t undef=a0.tmps.getD t undef
 closed:∀ i,listed.getD i false=true->∀ j∈cls.getD i [],listed.getD j false=true
theorem Nx {listed:Array Bool} {i:Nat} (hi:i<listed.size) (j:Nat):(listed.setIfInBounds i true).getD j false=true↔(j=i∨listed.getD j false=true):=by
 by_cases hji:i=j
 ·subst hji;simp [hi]
 ·have:¬ j=i:=λe=>hji e.symm
  simp [at1 hji,this]
theorem Gu {listed:Array Bool} {i:Nat} (hi:i<listed.size) (hu:listed.getD i false=false):(listed.setIfInBounds i true).toList.count false+1=listed.toList.count false:=by
 rw [Array.toList_setIfInBounds]
 exact kC listed.toList i (by simp [hi] at hu ⊢;exact hu)
theorem pV {o:Oper} {i:Nat} (hi:ops[i]? = some o):cC ops i=o.dst:=by unfold cC;rw [hi];rfl
theorem Gh {listed:Array Bool} {i:Nat} (hi:i<listed.size) (hb:listed.getD i false=false):0<listed.toList.count false:=by
 refine List.count_pos_iff.2 ?_
 simp [hi] at hb
 exact List.mem_of_getElem? (i:=i) (by simp [hi,hb])
theorem CY {listed:Array Bool} (h:listed.toList.count false=0) (i:Nat) (hi:i<listed.size):listed.getD i false=true:=by
 cases hb:listed.getD i false with
 |true=>rfl
 |false=>have:=Gh hi hb;omega
variable {Fr:List Nat} {T:Nat->cX} {w1:World}
structure J1 (ops:List Oper) (m:Nat) (Hs:List Nat) (cls:List (List Nat)) (X:Nat->Value) (Fr:List Nat) (T:Nat->cX) (a0:Act) (w1:World) (listed:Array Bool) (a:Act) (w:World):Prop where
 J:J2 ops Hs cls X a0 listed a
 ext:Ext w1 w
 defers:a.defers=a0.defers
 tail:∀ i,m<=i->i ∉ Hs->listed.getD i false=false
 done:∀ i d,i<m->i ∉ Hs->cC ops i=some d->listed.getD i false=true->T i (a.tmps.getD d undef) w
 fresh:∀ i∈Fr,∀ d,cC ops i=some d->listed.getD i false=true->∀ k∈Wb (a.tmps.getD d undef),w1.heap.size<=k/\k<w.heap.size
 disj:∀ i∈Fr,∀ j∈Fr,i≠j->∀ d e,cC ops i=some d->cC ops j=some e->listed.getD i false=true->listed.getD j false=true->∀ k∈Wb (a.tmps.getD d undef),k ∉ Wb (a.tmps.getD e undef)
theorem w8 {i:Nat} {t:Tmp} (h:cC ops i=some t):∃ o,ops[i]? = some o/\o.dst=some t:=by
 unfold cC at h
 cases hq:ops[i]? with
 |none=>rw [hq] at h;cases h
 |some o=>rw [hq] at h;exact ⟨o,rfl,h⟩
end law
section
variable {P:Program} {ops:List Oper} {cls:List (List Nat)} {Ts:List cX} {a0:Act}
theorem sl_new {N:Nat} {L:List (Nat × Value)} {Df:List Deferred} {b:Act} {mH:Nat->Bool} (news:List (Nat × Value)) (h:Sl N a0 L Df) (hs:b.tmps.size=N) (hd:b.defers=Df)
 (hR:∀ t,((List.range ops.length).all λi => !(mH i) || decide (cC ops i≠some t))=true->b.tmps.getD t undef=a0.tmps.getD t undef) (hn:r5 b news)
 (hc:((List.range ops.length).all λi => !(mH i) || match cC ops i with|some t=>news.any (λp=>Nat.beq p.1 t)|none=>true)=true):Sl N b (news++L) Df:=by
 refine ⟨hs,hd,λt v ht=>?_⟩
 have key:∀ (news:List (Nat × Value)),r5 b news->lk (news++L) t=some v->b.tmps.getD t undef=v∨(lk L t=some v/\news.any (λp=>Nat.beq p.1 t)=false):=by
  intro news
  induction news with
  |nil=>intro _ h1;exact .inr ⟨h1,rfl⟩
  |cons p r ih=>
   obtain ⟨k,u⟩:=p
   intro hh h1
   rw [List.cons_append] at h1
   unfold lk at h1
   cases hb:Nat.beq k t with
   |true=>
    rw [hb] at h1
    simp at h1
    have e:k=t:=by simpa using hb
    subst e;subst h1
    exact .inl hh.1
   |false=>
    rw [hb] at h1
    rcases ih hh.2 h1 with h2|⟨h2,h3⟩
    ·exact .inl h2
    ·exact .inr ⟨h2,by simp [hb,h3]⟩
 rcases key news hn ht with h1|⟨h1,h2⟩
 ·exact h1
 ·rw [hR t (aq6.2 λi hi=>?_)]
  ·exact h.holds t v h1
  ·have h3:=aq6.1 hc i hi
   cases hmi:mH i with
   |false=>simp
   |true=>
    rw [hmi] at h3
    simp only [Bool.not_true,Bool.false_or,ar0,ne_eq]
    intro e
    rw [e] at h3
    simp only [Bool.not_true,Bool.false_or] at h3
    rw [h3] at h2;cases h2
end
theorem St.join {w0 w1 w:World} {B:List Own} (s:St w0 B w1) (hE:Ext w1 w) (F:List Own) (hF:∀ p∈F,p.holds w0 w) (hk:∀ p∈F,∀ k,p.at k->w1.heap.size<=k) (hnd:F.Pairwise λp q=>∀ k,p.at k->¬ q.at k):St w0 (F++B) w:=by
 have s2:=s.more hE
 refine ⟨s2.ext,λp hp=>?_,λp hp k hpk=>?_,List.pairwise_append.2 ⟨hnd,s2.nd,λp hp q hq k hpk hqk=>?_⟩⟩
 ·rcases at9.1 hp with h|h
  ·exact hF p h
  ·exact s2.has p h
 ·rcases at9.1 hp with h|h
  ·exact av5 s.ext.le (hk p h k hpk)
  ·exact s2.own p h k hpk
 ·have h1:=hk p hp k hpk
  have h2:=Own.lt (s.has q hq) hqk
  omega
theorem St.join1 {w0 w1 w:World} {B:List Own} (s:St w0 B w1) (hE:Ext w1 w) (p:Own) (hF:p.holds w0 w) (hk:∀ k,p.at k->w1.heap.size<=k):St w0 (p::B) w:=
 s.join hE [p] (λq hq=>by rw [ar4] at hq;subst hq;exact hF) (λq hq=>by rw [ar4] at hq;subst hq;exact hk) (List.pairwise_singleton _ _)
structure EqV (P:Program) (D:Nat) (e:TypeId) (sz:Nat) (V:List Value->Prop) (vl:List Value->Value):Prop where
 len:∀ xs,V xs->xs.length=sz
 size:(P.info? e).map (·.size)=some sz
 part:∀ (cs:Array Value) (off:Nat) (w:World),V ((cs.toList.drop off).take sz)->(part e cs off).run P w=.ok (vl ((cs.toList.drop off).take sz)) w
 eq:∀ (d:Nat) (xs ys:List Value) (w:World),V xs->V ys->∃ r:Bool,(Op.equalIn (d+D) e (vl xs) (vl ys)).run P w=.ok r w/\(r=true↔xs=ys)
theorem cy {P:Program} {e:TypeId} {sz:Nat} (h:(P.info? e).map (·.size)=some sz) (w:World):(sizeOf e).run P w=.ok sz w:=by
 cases hi:P.info? e with
 |none=>simp [hi] at h
 |some i=>simp [hi] at h;simp [sizeOf,typeInfo,au7,hi,h]
def Ex (xs:List Value):Value:=xs.headD undef
def Be (xs:List Value):Value:=.agg xs.toArray
theorem EqV.int {P:Program} {e:TypeId} (k:IntKind) (he:P.underlying e=some (.int k)) (hs:(P.info? e).map (·.size)=some 1):EqV P 1 e 1 (λxs=>∃ n,xs=[.int k n]) Ex:=by
 refine ⟨λxs ⟨n,h⟩=>by rw [h];rfl,hs,λcs off w ⟨n,h⟩=>?_,λd xs ys w ⟨m,hx⟩ ⟨n,hy⟩=>?_⟩
 ·have h1:(isAgg e).run P w=.ok false w:=by
   unfold isAgg;rw [au7,ar1 he w];rfl
  have h2:cs[off]? = some (.int k n):=by
   have:=aq3 (λl=>l[0]?) h
   simpa [List.getElem?_take,aw8] using this
  simp only [Go.part,au7,h1,aq9,Bool.false_eq_true,if_false,h2,h]
  rfl
 ·subst hx;subst hy
  exact ⟨m == n,run_equalIn_int w d e k k m n he,by simp⟩
theorem EqV.bool {P:Program} {e:TypeId} (he:P.underlying e=some .bool) (hs:(P.info? e).map (·.size)=some 1):EqV P 1 e 1 (λxs=>∃ n,xs=[.bool n]) Ex:=by
 refine ⟨λxs ⟨n,h⟩=>by rw [h];rfl,hs,λcs off w ⟨n,h⟩=>?_,λd xs ys w ⟨m,hx⟩ ⟨n,hy⟩=>?_⟩
 ·have h1:(isAgg e).run P w=.ok false w:=by
   unfold isAgg;rw [au7,ar1 he w];rfl
  have h2:cs[off]? = some (.bool n):=by
   have:=aq3 (λl=>l[0]?) h
   simpa [List.getElem?_take,aw8] using this
  simp only [Go.part,au7,h1,aq9,Bool.false_eq_true,if_false,h2,h]
  rfl
 ·subst hx;subst hy
  exact ⟨m == n,run_equalIn_bool w d e m n he,by simp⟩
theorem oP {P:Program} {t:TypeId} {sz:Nat} (hd:∃ dsc,P.underlying t=some dsc/\Uq dsc=true) (hs:(P.info? t).map (·.size)=some sz) (cs:Array Value) (off:Nat) (w:World) (hl:((cs.toList.drop off).take sz).length=sz):
 (part t cs off).run P w=.ok (Be ((cs.toList.drop off).take sz)) w:=by
 obtain ⟨dsc,h1,h2⟩:=hd
 have h3:(isAgg t).run P w=.ok true w:=by
  unfold isAgg;rw [au7,ar1 h1 w]
  cases dsc<;>first|rfl|cases h2
 simp only [Go.part,au7,h3,aq9,if_true,cy hs w,au8]
 congr 1
 unfold Be
 congr 1
 apply Array.ext'
 rw [Array.toList_extract,List.extract_eq_take_drop]
 rw [show off+sz - off=sz from by omega]
theorem EqV.arr {P:Program} {t e:TypeId} {D n sz:Nat} {V:List Value->Prop} {vl:List Value->Value} (E:EqV P D e sz V vl) (ht:P.underlying t=some (.array n e)) (hs:(P.info? t).map (·.size)=some (n*sz)):
 EqV P (D+1) t (n*sz) (λxs=>xs.length=n*sz/\∀ i,i<n->V ((xs.drop (i*sz)).take sz)) Be:=by
 refine ⟨λxs h=>h.1,hs,λcs off w h=>oP ⟨_,ht,rfl⟩ hs cs off w h.1,λd xs ys w ⟨hxl,hx⟩ ⟨hyl,hy⟩=>?_⟩
 have hc:∀ i,∃ r:Bool,i<n->(Op.equalIn (d+D) e (vl ((xs.drop (i*sz)).take sz)) (vl ((ys.drop (i*sz)).take sz))).run P w=.ok r w/\(r=true↔(xs.drop (i*sz)).take sz=(ys.drop (i*sz)).take sz):=λi=>by
  by_cases hi:i<n
  ·obtain ⟨r,h1,h2⟩:=E.eq d _ _ w (hx i hi) (hy i hi)
   exact ⟨r,λ_=>⟨h1,h2⟩⟩
  ·exact ⟨true,λh=>ax7 h hi⟩
 obtain ⟨c,hc⟩:=Classical.axiomOfChoice hc
 have hloop:∀ (F:Nat->Option Bool × Unit->Sem (ForInStep (Option Bool × Unit))),(∀ i,i<n->∀ r,(F i r).run P w=if c i=true then .ok (.yield (none,())) w else .ok (.done (some false,())) w)->
  ∀ k s,s+k<=n->(forIn (List.range' s k) ((none,()):Option Bool × Unit) F).run P w=.ok (if (List.range' s k).all c=true then none else some false,()) w:=by
  intro F hF k
  induction k with
  |zero=>intro s _;simp
  |succ k ih=>
   intro s hs
   simp only [List.range'_succ,List.forIn_cons,au7,hF s (by omega)]
   by_cases h:c s=true
   ·rw [if_pos h]
    simp only [aq9]
    rw [ih (s+1) (by omega)]
    simp only [List.all_cons,h,Bool.true_and]
   ·rw [if_neg h]
    simp [h]
 have hrun:(Op.equalIn (d+D+1) t (.agg xs.toArray) (.agg ys.toArray)).run P w=.ok ((List.range' 0 n).all c) w:=by
  unfold Op.equalIn
  simp only [au7,ar1 ht w,aq9,cy E.size w]
  simp only [Std.Legacy.Range.forIn_eq_forIn_range']
  rw [hloop _ (λi hi r=>by
   have h1:=E.part xs.toArray (i*sz) w (by simpa using hx i hi)
   have h2:=E.part ys.toArray (i*sz) w (by simpa using hy i hi)
   simp only [] at h1 h2
   simp only [au7,h1,h2,aq9,(hc i hi).1]
   by_cases h:c i=true<;>simp [h]) _ 0 (by simp [Std.Legacy.Range.size])]
  simp only [aq9]
  have e:[:n].size=n:=by simp [Std.Legacy.Range.size]
  rw [e]
  by_cases h:(List.range' 0 n).all c=true
  ·rw [if_pos h,h];rfl
  ·rw [if_neg h]
   simp only [Bool.not_eq_true] at h
   rw [h];rfl
 refine ⟨_,hrun,?_⟩
 constructor
 ·intro g
  have key:∀ k,k<=n->xs.take (k*sz)=ys.take (k*sz):=by
   intro k
   induction k with
   |zero=>intro _;simp
   |succ k ih=>
    intro hk
    have h1:=ih (by omega)
    have h2:=(hc k (by omega)).2.1 (aq6.1 g k (by simp [List.mem_range'];omega))
    rw [Nat.succ_mul,List.take_add,List.take_add,h1,h2]
  have h3:=key n (as1 _)
  rw [as9 (by omega),as9 (by omega)] at h3
  exact h3
 ·intro e
  subst e
  refine aq6.2 λi hi=>?_
  exact(hc i (by simp [List.mem_range'] at hi;omega)).2.2 rfl
def ZZ (P:Program) (D:Nat):List Field->List (Nat × (List Value->Prop))->Prop
 |[],[]=>True
 |f::fs,(sz,V)::r=>f.name ≠ "_" /\ (∃ vl,EqV P D f.type sz V vl)/\ZZ P D fs r
 |_,_=>False
def lP (xs:List Value) (f:Field) (sz:Nat):List Value:=(xs.drop f.offset).take sz
def zv (xs:List Value):List Field->List (Nat × (List Value->Prop))->Prop
 |f::fs,(sz,V)::r=>V (lP xs f sz)/\zv xs fs r
 |_,_=>True
def nM (xs ys:List Value):List Field->List (Nat × (List Value->Prop))->Prop
 |f::fs,(sz,_)::r=>lP xs f sz=lP ys f sz/\nM xs ys fs r
 |_,_=>True
theorem mS {P:Program} {D:Nat} (d:Nat) (xs ys:List Value) (w:World):∀ (fs:List Field) (r:List (Nat × (List Value->Prop))),ZZ P D fs r->zv xs fs r->zv ys fs r->
 ∃ b:Bool,(Op.eqFields (d+D) xs.toArray ys.toArray fs).run P w=.ok b w/\(b=true↔nM xs ys fs r)
 |[],[],_,_,_=>⟨true,by simp [Op.eqFields],by simp [nM]⟩
 |[],_::_,h,_,_=>h.elim
 |f::fs,[],h,_,_=>h.elim
 |f::fs,(sz,V)::r,⟨hn,⟨vl,E⟩,hr⟩,⟨hx,hxr⟩,⟨hy,hyr⟩=>by
  obtain ⟨b,h1,h2⟩:=mS d xs ys w fs r hr hxr hyr
  obtain ⟨c,h3,h4⟩:=E.eq d _ _ w hx hy
  have p1:=E.part xs.toArray f.offset w (by simpa [lP] using hx)
  have p2:=E.part ys.toArray f.offset w (by simpa [lP] using hy)
  simp only [] at p1 p2
  unfold lP at h3 h4
  simp only [Op.eqFields,hn,ne_eq,not_false_eq_true,if_true,au7,p1,p2,aq9,h3]
  cases c
  ·refine ⟨false,by simp,?_⟩
   simp only [Bool.false_eq_true,false_iff]
   intro h
   exact ax7 (h4.2 h.1) (by simp)
  ·refine ⟨b,by simpa using h1,?_⟩
   rw [h2]
   exact ⟨λh=>⟨h4.1 rfl,h⟩,λh=>h.2⟩
def rz:Nat->List Field->List (Nat × (List Value->Prop))->Nat->Prop
 |k,f::fs,(sz,_)::r,n=>f.offset=k/\rz (k+sz) fs r n
 |k,[],[],n=>k=n
 |_,_,_,_=>False
theorem tN {xs ys:List Value} {n:Nat} (hx:xs.length=n) (hy:ys.length=n):∀ (fs:List Field) (r:List (Nat × (List Value->Prop))) (k:Nat),rz k fs r n->xs.take k=ys.take k->nM xs ys fs r->xs=ys
 |[],[],k,h,e,_=>by
  have h':k=n:=h
  subst h'
  rw [as9 (by omega),as9 (by omega)] at e
  exact e
 |[],_::_,_,h,_,_=>h.elim
 |_::_,[],_,h,_,_=>h.elim
 |f::fs,(sz,V)::r,k,h,e,hs=>by
  obtain ⟨h1,h2⟩:=h
  refine tN hx hy fs r (k+sz) h2 ?_ hs.2
  have h3:=hs.1
  unfold lP at h3
  rw [h1] at h3
  rw [List.take_add,List.take_add,e,h3]
theorem qx (xs:List Value):∀ (fs:List Field) (r:List (Nat × (List Value->Prop))),nM xs xs fs r
 |[],_=>by simp [nM]
 |_::_,[]=>by simp [nM]
 |f::fs,(sz,V)::r=>⟨rfl,qx xs fs r⟩
theorem EqV.struct {P:Program} {t:TypeId} {D n:Nat} (r:List (Nat × (List Value->Prop))) (ht:P.underlying t=some (.struct (P.fieldsOf t))) (hp:P.stoodInHeld t=false) (hs:(P.info? t).map (·.size)=some n)
 (hf:ZZ P D (P.fieldsOf t).toList r) (hc:rz 0 (P.fieldsOf t).toList r n):
 EqV P (D+1) t n (λxs=>xs.length=n/\zv xs (P.fieldsOf t).toList r) Be:=by
 refine ⟨λxs h=>h.1,hs,λcs off w h=>oP ⟨_,ht,rfl⟩ hs cs off w h.1,λd xs ys w ⟨hxl,hx⟩ ⟨hyl,hy⟩=>?_⟩
 obtain ⟨b,h1,h2⟩:=mS d xs ys w _ r hf hx hy
 refine ⟨b,?_,h2.trans ⟨λh=>tN hxl hyl _ r 0 hc (by simp) h,λe=>by subst e;exact qx _ _ _⟩⟩
 rw [← h1]
 exact run_equalIn_struct w (d+D) t xs.toArray ys.toArray ht hp
section
variable {P:Program} {ρ:Operand->Value} {d:Option Tmp} {ty:TypeId} {pos:String} {af:Array Edge} {g:Option (Nat × Bool)} {a b:Operand} {t t':TypeId} {D n:Nat} {V:List Value->Prop}
theorem OW (E:EqV P D t n V Be) (hg:P.eqGuardType P.depth t=false) (hD:Nat.ble D 10000=true) {X Y:Array Value} (hx:ρ a=.agg X) (hy:ρ b=.agg Y) (hX:V X.toList) (hY:V Y.toList) (p:Bool) (hp:p=true↔X.toList=Y.toList):
 a8 P ⟨d,.binOp .eql t a b t',ty,pos,af,g⟩ ρ (.bool p):=λw=>by
 obtain ⟨r,h1,h2⟩:=E.eq (10000 - D) _ _ w hX hY
 have hD':10000 - D+D=10000:=by have:D≤10000:=by simpa using hD
                                omega
 rw [hD'] at h1
 have hr:r=p:=by rw [aw6,h2,hp]
 have h3:(Op.equalIn 10000 t (.agg X) (.agg Y)).run P w=.ok r w:=by simpa [Be] using h1
 simp only [execOp,hx,hy,au7,run_eqGuard_agg w .eql t a b _ _ hg,aq9,run_eql_struct,h3,hr,au8]
theorem Pg (E:EqV P D t n V Be) (hg:P.eqGuardType P.depth t=false) (hD:Nat.ble D 10000=true) {X Y:Array Value} (hx:ρ a=.agg X) (hy:ρ b=.agg Y) (hX:V X.toList) (hY:V Y.toList) (p:Bool) (hp:p=true↔X.toList=Y.toList):
 a8 P ⟨d,.binOp .neq t a b t',ty,pos,af,g⟩ ρ (.bool (!p)):=λw=>by
 obtain ⟨r,h1,h2⟩:=E.eq (10000 - D) _ _ w hX hY
 have hD':10000 - D+D=10000:=by have:D≤10000:=by simpa using hD
                                omega
 rw [hD'] at h1
 have hr:r=p:=by rw [aw6,h2,hp]
 have h3:(Op.equalIn 10000 t (.agg X) (.agg Y)).run P w=.ok r w:=by simpa [Be] using h1
 simp only [execOp,hx,hy,au7,run_eqGuard_agg w .neq t a b _ _ hg,aq9,run_neq_struct,h3,hr,au8]
end
theorem l4 (p:Addr) (i j:Nat):(p.add i).add j=p.add (i+j):=by
 unfold Addr.add
 by_cases hi:i=0
 ·subst hi;simp
 ·by_cases hj:j=0
  ·subst hj;simp [hi]
  ·simp [hi,hj,Nat.add_assoc]
def aX (w:World) (p:Addr) (C:Array Value):Prop:=∀ j v,C[j]? = some v->w.cell? (p.add j)=some v
theorem aX.ext {w w':World} {p:Addr} {C:Array Value} (h:aX w p C) (e:Ext w w'):aX w' p C:=λj v hv=>by
 have:=h j v hv
 rw [e.cell (xZ this)];exact this
theorem aX.sub {w:World} {p:Addr} {C:Array Value} (h:aX w p C) (o n:Nat) {D:Array Value} (hD:C.extract o (o+n)=D):aX w (p.add o) D:=λj v hv=>by
 subst hD
 rw [l4]
 refine h (o+j) v ?_
 rw [Array.getElem?_extract] at hv
 split at hv
 ·exact hv
 ·cases hv
theorem aX.of_blk {w:World} {b:Nat} {C:Array Value} {u:TypeId} {fr:Nat × Nat} (h:w.heap[b]? = some (.cells C u fr)):aX w ⟨b,0,none⟩ C:=λj v hv=>by
 have hadd:(⟨b,0,none⟩:Addr).add j=⟨b,j,none⟩:=by unfold Addr.add;split<;>simp_all
 rw [hadd,cell_of_row w b j C u fr h];exact hv
theorem aX.of_tab {w:World} {g:Nat} {C:Array Value} (h:jA w g C):aX w ⟨g,0,none⟩ C:=by
 obtain ⟨t,fr,h⟩:=h
 exact aX.of_blk h
theorem aX.of_own {w0 w:World} {B:List Own} (s:St w0 B w) (i:Nat) {b:Nat} {C:Array Value} {u:TypeId} (hi:B[i]? = some (.blk b (.cells C u))):aX w ⟨b,0,none⟩ C:=aX.of_blk (s.get i hi)
theorem jA.of_own {w0 w:World} {B:List Own} (s:St w0 B w) (i:Nat) {b:Nat} {C:Array Value} {u:TypeId} (hi:B[i]? = some (.blk b (.cells C u))):jA w b C:=⟨u,(0,0),s.get i hi⟩
theorem qJ {P:Program} {t:TypeId} {n:Nat} (hr:Row P t n) (w:World) (p:Addr) (C:Array Value) (h:aX w p C) (hn:C.size=n):(loadVar t p).run P w=.ok (.agg C) w:=by
 obtain ⟨dsc,h1,h2⟩:=hr.desc
 have h3:(isAgg t).run P w=.ok true w:=by
  unfold isAgg;rw [au7,ar1 h1 w]
  cases dsc<;>first|rfl|cases h2
 have h4:=run_loadCells_list (P:=P) w p C.toList (λj v hv=>h j v (by simpa using hv))
 rw [ar2,hn] at h4
 simp [loadVar,au7,h3,cy hr.size w,h4]
section
variable {P:Program} {ops:Array Oper} {Q:Act->World->Prop} {l:List Oper} {a:Act} {w w0:World} {N:Nat} {L:List (Nat × Value)} {Df:List Deferred} {B:List Own} {d:Tmp} {ty:TypeId} {pos:String} {af:Array Edge} {x y:Operand} {t t' e:TypeId}
theorem ax {n:Nat} {p:Addr} {C:Array Value} (hH:aX w p C) (h:Sl N a L Df) (hr:Row P t n) (hx:ec L x=some (.pointer (some p))) (hn:C.size=n) (hd:Nat.blt d N=true)
 (k:∀ a',Sl N a' ((d,.agg C)::L) Df->ce P ops Q l a' w):ce P ops Q (⟨some d,.load t x,ty,pos,af,none⟩::l) a w:=
 dR (R:=λv w'=>v=.agg C/\w'=w) h (by
  unfold cL
  simp only [execOp,h.ev hx,Instr.loadAt,Instr.sureAddr,au7,au8,aq9,qJ hr w p C hH hn]
  first|exact ⟨rfl,rfl⟩|exact ⟨trivial,rfl⟩|exact ⟨trivial,trivial⟩|trivial) hd λa' w' v ⟨h1,h2⟩ hs=>by subst h1;subst h2;exact k a' hs
theorem ai {p:Addr} {V:Value} (hH:w.cell? p=some V) (h:Sl N a L Df) (ho:One P t) (hx:ec L x=some (.pointer (some p))) (hd:Nat.blt d N=true)
 (k:∀ a',Sl N a' ((d,V)::L) Df->ce P ops Q l a' w):ce P ops Q (⟨some d,.load t x,ty,pos,af,none⟩::l) a w:=
 dR (R:=λu w'=>u=V/\w'=w) h (gL ho (h.ev hx) hH ⟨rfl,rfl⟩) hd λa' w' u ⟨h1,h2⟩ hs=>by subst h1;subst h2;exact k a' hs
end
theorem aX.at {w:World} {p:Addr} {C:Array Value} (h:aX w p C) {j:Nat} {v:Value} (hv:C[j]? = some v):w.cell? (p.add j)=some v:=h j v hv
def a7 (w:World) (v:Value) (sz n:Nat) (xs:List Value):Prop:=
 xs.length=n*sz/\((v=.slice none 0 0/\n=0)∨∃ p c,v=.slice (some p) n c/\n<=c/\aX w p xs.toArray)
theorem a7.keep {w0 w:World} {v:Value} {sz n:Nat} {xs:List Value} (h:a7 w0 v sz n xs) (e:Ext w0 w):a7 w v sz n xs:=
 ⟨h.1,h.2.imp id λ⟨p,c,hv,hnc,hc⟩=>⟨p,c,hv,hnc,hc.ext e⟩⟩
theorem a7.mono {sz n:Nat} {xs:List Value}:qV (λv w=>a7 w v sz n xs):=λ_ _ _ h e=>h.keep e
theorem a7.of_own {w:World} {base:Nat} {e:TypeId} {v:Value} {sz n:Nat} {xs:List Value} (h:cd w base e sz v n xs):a7 w v sz n xs:=by
 refine ⟨h.1,?_⟩
 rcases h.2 with ⟨h1,h2⟩|⟨g,cap,cur,fz,h1,_,_,_,h2,_⟩
 ·exact .inl ⟨h1,h2⟩
 ·subst h1
  exact .inr ⟨⟨g,0,none⟩,cap,rfl,h2,λj x hx=>h.cells (g:=g) rfl j x (by simpa using hx)⟩
theorem a7.len {w:World} {v:Value} {sz n:Nat} {xs:List Value} (h:a7 w v sz n xs):∃ a c,v=.slice a n c:=by
 rcases h.2 with ⟨h1,h2⟩|⟨p,c,h1,_,_⟩
 ·exact ⟨none,0,by rw [h1,h2]⟩
 ·exact ⟨some p,c,h1⟩
theorem a7.cut {w:World} {v:Value} {sz n:Nat} {xs:List Value} (h:a7 w v sz n xs) (k:Nat) (hk:k<=n):a7 w (gG v k) sz k (xs.take (k*sz)):=by
 refine ⟨by rw [au0,h.1];exact Nat.min_eq_left (Nat.mul_le_mul_right _ hk),?_⟩
 rcases h.2 with ⟨h1,h2⟩|⟨p,c,h1,h3,h2⟩
 ·left;subst h1;obtain rfl:k=0:=by omega
  exact ⟨rfl,rfl⟩
 ·right;subst h1
  refine ⟨p,c,rfl,by omega,λj x hx=>h2 j x ?_⟩
  simp only [as8] at hx ⊢
  rw [List.getElem?_take] at hx
  split at hx
  ·exact hx
  ·cases hx
def hQ (v:Value) (sz k:Nat):Value:=match v with|.slice a n c=>.slice (if c=k then a else a.map (·.add (k*sz))) (n - k) (c - k)|v=>v
theorem a7.drop {w:World} {v:Value} {sz n:Nat} {xs:List Value} (h:a7 w v sz n xs) (k:Nat) (hk:k<=n):a7 w (hQ v sz k) sz (n - k) (xs.drop (k*sz)):=by
 refine ⟨by rw [at2,h.1,Nat.sub_mul],?_⟩
 rcases h.2 with ⟨h1,h2⟩|⟨p,c,h1,h3,h2⟩
 ·left;subst h1;subst h2;obtain rfl:k=0:=by omega
  exact ⟨rfl,rfl⟩
 ·right;subst h1
  by_cases hc:c=k
  ·subst hc
   have:n=c:=by omega
   subst this
   refine ⟨p,0,by simp [hQ],by omega,λj x hx=>?_⟩
   simp only [as8] at hx
   have:=(aq4.1 hx).1
   rw [at2,h.1] at this
   omega
  ·refine ⟨p.add (k*sz),c - k,by simp [hQ,hc],by omega,λj x hx=>?_⟩
   rw [l4]
   refine h2 _ x ?_
   simpa [aw8] using hx
theorem a7.el {w:World} {v:Value} {sz n:Nat} {xs:List Value} (h:a7 w v sz n xs) (j:Nat) (hj:j<n) (hz:0<sz) {D:Array Value} (hD:((xs.drop (j*sz)).take sz).toArray=D):aX w (bf v (j*sz)) D:=by
 rcases h.2 with ⟨h1,h2⟩|⟨p,c,h1,h3,h2⟩
 ·omega
 ·subst h1;subst hD
  intro i x hx
  show w.cell? ((p.add (j*sz)).add i)=some x
  rw [l4]
  refine h2 _ x ?_
  simp only [as8] at hx ⊢
  rw [List.getElem?_take] at hx
  split at hx
  ·rw [aw8] at hx;exact hx
  ·cases hx
theorem a7.el1 {w:World} {v:Value} {n:Nat} {xs:List Value} (h:a7 w v 1 n xs) (j:Nat) {V:Value} (hV:xs[j]? = some V):w.cell? (bf v (j*1))=some V:=by
 have hj:j<n:=by have:=(aq4.1 hV).1;rw [h.1] at this;omega
 have hl:=(aq4.1 hV).1
 have h9:=h.el j hj (by decide) (D:=#[V]) (by
  rw [Nat.mul_one,List.drop_eq_getElem_cons hl,List.take_succ_cons,List.take_zero]
  have:=(aq4.1 hV).2
  rw [this]) 0 V rfl
 have e:(bf v (j*1)).add 0=bf v (j*1):=by simp [Addr.add]
 rwa [e] at h9
section
variable {P:Program} {ρ:Operand->Value} {d:Option Tmp} {ty:TypeId} {pos:String} {af:Array Edge} {g:Option (Nat × Bool)} {x y z:Operand} {t t' e:TypeId} {k:IntKind} {m m2:Int}
theorem bj {w0:World} {v:Value} {sz n:Nat} {xs:List Value} (hR:a7 w0 v sz n xs) (j:Nat) (ht:P.underlying t=some (.slice e)) (he:(P.info? e).map (·.size)=some sz) (hx:ρ x=v) (hy:ρ y=.int k m) (hj:m=(j:Int)) (hlt:j<n):
 a8 P ⟨d,.indexAddr t x y,ty,pos,af,g⟩ ρ (.pointer (some (bf v (j*sz)))):=λw=>by
 subst hj
 rcases hR.2 with ⟨h1,h2⟩|⟨p,c,h1,h3,_⟩
 ·omega
 ·subst h1
  simp [execOp,hx,hy,Instr.indexAt,asIntOf,au7,ar1 ht,hlt,cy he,bf]
theorem l9 {w0:World} {v:Value} {sz n:Nat} {xs:List Value} (hR:a7 w0 v sz n xs) (ht:P.underlying t=some (.slice e)) (hx:ρ x=v):a8 P ⟨d,.call {callee:=.builtin .len,args:=#[x],argTypes:=#[t]},ty,pos,af,g⟩ ρ (.int .i64 (n:Int)):=λw=>by
 obtain ⟨a,c,rfl⟩:=hR.len
 simp [execOp,resolve,hx,invoke,builtin,Builtin.len_,au7,ar1 ht,goInt]
theorem ei {w0:World} {v:Value} {sz n:Nat} {xs:List Value} (hR:a7 w0 v sz n xs) (j:Nat) (ht:P.underlying t=some (.slice e)) (he:(P.info? e).map (·.size)=some sz) (hx:ρ x=v) (hy:ρ y=.int k m) (hj:m=(j:Int)) (hle:j<=n):a8 P ⟨d,.slice t x none (some y) none,ty,pos,af,g⟩ ρ (gG v j):=λw=>by
 subst hj
 rcases hR.2 with ⟨h1,h2⟩|⟨p,c,h1,h3,_⟩
 ·subst h1;obtain rfl:j=0:=by omega
  simp [execOp,hx,hy,Instr.sliceAt,au7,ar1 ht,Instr.slice,Instr.sliceBounds,Instr.sliceBound,asIntOf,cy he,gG]
 ·subst h1
  have h4:j<=c:=by omega
  have ha:p.add 0=p:=by simp [Addr.add]
  simp [execOp,hx,hy,Instr.sliceAt,au7,ar1 ht,Instr.slice,Instr.sliceBounds,Instr.sliceBound,asIntOf,cy he,h4,gG,ha]
theorem xH {w0:World} {v:Value} {sz n:Nat} {xs:List Value} (hR:a7 w0 v sz n xs) (j:Nat) (ht:P.underlying t=some (.slice e)) (he:(P.info? e).map (·.size)=some sz) (hx:ρ x=v) (hy:ρ y=.int k m) (hj:m=(j:Int)) (hle:j<=n):a8 P ⟨d,.slice t x (some y) none none,ty,pos,af,g⟩ ρ (hQ v sz j):=λw=>by
 subst hj
 rcases hR.2 with ⟨h1,h2⟩|⟨p,c,h1,h3,_⟩
 ·subst h1;subst h2;obtain rfl:j=0:=by omega
  simp [execOp,hx,hy,Instr.sliceAt,au7,ar1 ht,Instr.slice,Instr.sliceBounds,Instr.sliceBound,asIntOf,cy he,hQ]
 ·subst h1
  simp [execOp,hx,hy,Instr.sliceAt,au7,ar1 ht,Instr.slice,Instr.sliceBounds,Instr.sliceBound,asIntOf,cy he,hle,hQ]
structure Fld (P:Program) (t:TypeId) (f off:Nat):Prop where
 has:∃ fields fd s,P.underlying t=some (.struct fields)/\fields[f]? = some fd/\(P.info? fd.type).map (·.size)=some (s+1)/\fd.offset=off
theorem Jt {f off b o:Nat} (F:Fld P t f off) (hx:ρ x=.pointer (some ⟨b,o,none⟩)):a8 P ⟨d,.fieldAddr t x f,ty,pos,af,g⟩ ρ (.pointer (some ⟨b,o+off,none⟩)):=λw=>by
 obtain ⟨fields,fd,i,h1,h2,h3,h5⟩:=F.has
 simp [execOp,hx,Instr.fieldAt,fieldPlace,au7,ar1 h1,h2,Instr.sureAddr,cy h3,h5,Addr.add_lit]
theorem a6 {f off:Nat} {v:Value} {j:Nat} (F:Fld P t f off) (hx:ρ x=.pointer (some (bf v j))) (hv:∃ p n c,v=.slice (some p) n c):a8 P ⟨d,.fieldAddr t x f,ty,pos,af,g⟩ ρ (.pointer (some (bf v (j+off)))):=λw=>by
 obtain ⟨fields,fd,i,h1,h2,h3,h5⟩:=F.has
 obtain ⟨p,n,c,rfl⟩:=hv
 simp [execOp,hx,Instr.fieldAt,fieldPlace,au7,ar1 h1,h2,Instr.sureAddr,cy h3,h5,bf,l4]
theorem A1 {p:Addr} (hx:ρ x=.pointer (some p)):a8 P ⟨d,.nilCheck x,ty,pos,af,g⟩ ρ (.pointer (some p)):=λw=>by
 simp [execOp,hx]
end
def Mh (zs:List (List Value)):List (Nat × Value)->List (List Value)
 |[]=>zs
 |(i,v)::r=>Mh (zs.set i v.cells.toList) r
theorem qD {α:Type}:∀ (zs:List (List α)) (i:Nat) (v z:List α),zs[i]? = some z->v.length=z.length->
 (zs.set i v).flatten=zs.flatten.take ((zs.take i).flatten.length)++v++zs.flatten.drop ((zs.take i).flatten.length+v.length)
 |[],i,v,z,h,_=>by simp at h
 |y::zs,0,v,z,h,hl=>by
  simp at h;subst h
  simp [List.drop_append,hl]
 |y::zs,i+1,v,z,h,hl=>by
  have ih:=qD zs i v z (by simpa using h) hl
  rw [List.set_cons_succ,List.flatten_cons,ih,List.take_succ_cons,List.flatten_cons,List.flatten_cons,aq7,List.take_length_add_append,Nat.add_assoc,List.drop_length_add_append]
  simp only [av3]
theorem Aa (place:Nat->Option (Nat × Nat)):∀ (parts:List (Nat × Value)) (zs:List (List Value)) (cells:Array Value),cells.toList=zs.flatten->
 (∀ i v,(i,v)∈parts->∃ z,zs[i]? = some z/\v.cells.size=z.length/\place i=some ((zs.take i).flatten.length,z.length))->
 ∃ D:Array Value,Instr.fill place cells parts=some D/\D.toList=(Mh zs parts).flatten
 |[],zs,cells,h,_=>⟨cells,rfl,h⟩
 |(i,v)::r,zs,cells,h,hp=>by
  obtain ⟨z,hz,hv,hpl⟩:=hp i v ar5
  have hil:=(aq4.1 hz).1
  have hvl:v.cells.toList.length=z.length:=by rw [ar2];exact hv
  have hsum:(zs.take i).flatten.length+z.length<=zs.flatten.length:=by
   have e:zs=zs.take i++z::zs.drop (i+1):=by
    have:=(aq4.1 hz).2
    rw [← this,List.getElem_cons_drop,as7]
   have:=aq3 (λl=>(List.flatten l).length) e
   simp only [List.flatten_append,List.flatten_cons,aq7] at this
   omega
  have hcs:cells.size=zs.flatten.length:=by rw [← h,ar2]
  have hf:=m8 (zs.take i).flatten.length v.cells.toList 0 cells (by rw [hvl];omega)
  generalize hD:(v.cells.toList.zipIdx).foldl (λcs p=>cs.setIfInBounds ((zs.take i).flatten.length+p.2) p.1) cells=C1 at hf
  have hC1:C1.toList=(zs.set i v.cells.toList).flatten:=by
   rw [hf,qD zs i _ z hz hvl,h];simp
  have hset:∀ j,((zs.set i v.cells.toList).take j).flatten.length=(zs.take j).flatten.length:=λj=>by
   rw [List.length_flatten,List.length_flatten]
   congr 1
   apply List.ext_getElem?
   intro q
   rw [av0,av0,List.getElem?_take,List.getElem?_take]
   split
   ·by_cases e:i=q
    ·subst e;rw [List.getElem?_set_self hil,hz];simp [hvl]
    ·rw [List.getElem?_set_ne e]
   ·rfl
  obtain ⟨D,h1,h2⟩:=Aa place r (zs.set i v.cells.toList) C1 hC1 λj u hm=>by
   obtain ⟨z2,hz2,hu,hpl2⟩:=hp j u (as5 _ hm)
   by_cases e:i=j
   ·subst e
    rw [hz] at hz2;cases hz2
    exact ⟨v.cells.toList,by rw [List.getElem?_set_self hil],by rw [hvl];exact hu,by rw [hset,hvl];exact hpl2⟩
   ·exact ⟨z2,by rw [List.getElem?_set_ne e];exact hz2,hu,by rw [hset];exact hpl2⟩
  refine ⟨D,?_,h2⟩
  rw [Instr.fill,hpl]
  simp only
  have hc:¬ ((v.cells.size≠z.length || decide ((zs.take i).flatten.length+v.cells.size>cells.size))=true):=by
   rw [hv]
   simp only [ne_eq,not_true_eq_false,decide_false,Bool.false_or,ar0]
   omega
  rw [if_neg hc]
  have hz9:v.cells.zipIdx.foldl (λcs (x:Value × Nat)=>match x with|(c,j)=>cs.setIfInBounds ((zs.take i).flatten.length+j) c) cells=C1:=by
   rw [← hD,← Array.foldl_toList,Array.toList_zipIdx]
  rw [hz9]
  exact h1
structure Stt (P:Program) (t:TypeId) (zs:List (List Value)):Prop where
 fields:∃ fs,P.underlying t=some (.struct fs)/\fs.toList.length=zs.length/\∀ i f,fs[i]? = some f->∃ z,zs[i]? = some z/\(P.info? f.type).map (·.size)=some z.length/\f.offset=(zs.take i).flatten.length
 zero:(P.info? t).bind (·.zero)=some (.agg zs.flatten.toArray)
theorem sZ {P:Program} (w:World):∀ (fs:List Field) (ss:List Nat),fs.length=ss.length->(∀ (i:Nat) (f:Field) (s:Nat),fs[i]? = some f->ss[i]? = some s->(P.info? f.type).map (·.size)=some s)->
 (fs.mapM λ(f:Field)=>(do pure (f.offset,← sizeOf f.type):Sem (Nat × Nat))).run P w=.ok ((fs.zip ss).map λ(p:Field × Nat)=>(p.1.offset,p.2)) w
 |[],[],_,_=>by simp
 |[],_::_,h,_=>by simp at h
 |_::_,[],h,_=>by simp at h
 |f::fs,s::ss,h,hs=>by
  have ih:=sZ (P:=P) w fs ss (by simpa using h) λi f' s' h1 h2=>hs (i+1) f' s' (by simpa using h1) (by simpa using h2)
  have h0:=cy (hs 0 f s rfl rfl) w
  simp only [List.mapM_cons,au7,h0,aq9,au8,ih,List.zip_cons_cons,List.map_cons]
section
variable {P:Program} {ρ:Operand->Value} {d:Option Tmp} {ty:TypeId} {pos:String} {af:Array Edge} {g:Option (Nat × Bool)} {t:TypeId}
theorem cx {zs:List (List Value)} {parts:Array (Nat × Operand)} (S:Stt P t zs) (ps:List (Nat × Value)) (hps:parts.toList.map (λp=>(p.1,ρ p.2))=ps) (hok:∀ i v,(i,v)∈ps->∃ z,zs[i]? = some z/\v.cells.size=z.length) {D:List Value} (hD:(Mh zs ps).flatten=D):
 a8 P ⟨d,.build t parts,ty,pos,af,g⟩ ρ (.agg D.toArray):=λw=>by
 obtain ⟨fs,h1,h2,h3⟩:=S.fields
 cases hi:P.info? t with
 |none=>have:=S.zero;simp [hi] at this
 |some i=>
  have hz:i.zero=some (.agg zs.flatten.toArray):=by have:=S.zero;simpa [hi] using this
  have hpl:(fs.mapM λ(f:Field)=>(do pure (f.offset,← sizeOf f.type):Sem (Nat × Nat))).run P w=.ok ((fs.toList.zip (zs.map List.length)).map λ(p:Field × Nat)=>(p.1.offset,p.2)).toArray w:=by
   have:=sZ (P:=P) w fs.toList (zs.map List.length) (by rw [h2,au1]) λi f s hf hs=>by
    obtain ⟨z,hz1,hz2,_⟩:=h3 i f (by simpa using hf)
    rw [av0,hz1] at hs
    simp at hs;subst hs;exact hz2
   rw [Array.mapM_eq_mapM_toList]
   show Sem.run P ((List.mapM (λ(f:Field)=>(do pure (f.offset,← sizeOf f.type):Sem (Nat × Nat))) fs.toList) >>= λl=>pure l.toArray) w=_
   rw [au7,this,aq9,au8]
  obtain ⟨C,hC1,hC2⟩:=Aa (λi=>(((fs.toList.zip (zs.map List.length)).map λ(p:Field × Nat)=>(p.1.offset,p.2)).toArray)[i]?) ps zs zs.flatten.toArray rfl λi v hm=>by
   obtain ⟨z,hz1,hz2⟩:=hok i v hm
   have hil:i<fs.toList.length:=by rw [h2];exact(aq4.1 hz1).1
   have hfi:fs[i]? = some fs.toList[i]:=by rw [← aw9,aq8 hil]
   obtain ⟨z',hz1',_,hoff⟩:=h3 i _ hfi
   rw [hz1] at hz1';cases hz1'
   refine ⟨z,hz1,hz2,?_⟩
   simp only [as8,av0,List.getElem?_zip_eq_some]
   have:(fs.toList.zip (zs.map List.length))[i]? = some (fs.toList[i],z.length):=by
    rw [List.getElem?_zip_eq_some]
    exact ⟨aq8 hil,by rw [av0,hz1];rfl⟩
   rw [this,Option.map_some]
   show some (fs.toList[i].offset,z.length)=_
   rw [hoff]
  have hDC:C=D.toArray:=by
   apply Array.ext'
   rw [hC2,hD]
  have hmap:(parts.map λ(i,x)=>(i,ρ x)).toList=ps:=by rw [Array.toList_map];exact hps
  have hrun:(Instr.build t (parts.map λ(i,x)=>(i,ρ x))).run P w=.ok (.agg D.toArray) w:=by
   unfold Instr.build
   simp only [zeroValue,typeInfo,au7,run_program,hi,hz,au8,aq9,ar1 h1 w,hpl,hmap,Value.cells]
   rw [hC1,hDC]
   rfl
  simp only [execOp,au7,hrun,aq9,au8]
end
theorem sg (f:Nat->Nat) (M o n:Nat) (h:o+n<=M):(eX f M).extract o (o+n)=eX (λi=>f (o+i)) n:=by
 apply Array.ext_getElem?
 intro i
 by_cases hi:i<n
 ·rw [nH _ _ _ hi,Array.getElem?_extract,if_pos (by simp;omega),nH _ _ _ (by omega)]
 ·rw [at0 (by simp;omega),at0 (by simp;omega)]
theorem aX.bytes {w:World} {b:Nat} {f:Nat->Nat} {M:Nat} (h:aX w ⟨b,0,none⟩ (eX f M)) (o n:Nat) (hn:o+n<=M):aX w ⟨b,o,none⟩ (eX (λi=>f (o+i)) n):=by
 have:=h.sub o n (sg f M o n hn)
 rwa [Addr.add_lit,Nat.zero_add] at this
theorem nv {P:Program} {ρ:Operand->Value} {dst:Option Tmp} {g:Option (Nat × Bool)} {ty:TypeId} {pos:String} {af:Array Edge} {f:FuncId} {caps:Array Value} {cal:Operand} {args:Array Operand} {tys:Array TypeId} {vs:Array Value} {w:World} (hf:Fnc P f)
 (hc:ρ cal=.func (.func f) #[] caps) (hvs:args.map ρ=vs) {R:Value->World->Prop} (hC:Calls P f (vs++caps) w λe w'=>∃ v,e=.returned v/\R v w'):cL P ⟨dst,.call {callee:=.value cal,args:=args,argTypes:=tys},ty,pos,af,g⟩ ρ w R:=by
 obtain ⟨fn,h1,h2,h3⟩:=hf.has
 unfold cL
 simp only [execOp,resolve,hc,hvs,Deferred.ofValue,au7,au8,aq9,invoke,Array.empty_append,fB h1 h2 h3]
 exact hC
section
variable {P:Program} {ops:Array Oper} {Q:Act->World->Prop} {l:List Oper} {a:Act} {w w0:World} {N:Nat} {L:List (Nat × Value)} {Df:List Deferred} {B:List Own} {d:Tmp} {ty:TypeId} {pos:String} {af:Array Edge} {x y:Operand} {t t' e:TypeId}
theorem gQ {f:FuncId} {caps:List Value} {cal:Operand} {args:Array Operand} {tys:Array TypeId} (vs:List Value) {T:cX} (h:Sl N a L Df) (s:St w0 B w) (hf:Fnc P f) (hc:ec L cal=some (.func (.func f) #[] caps.toArray)) (hC:Calls P f (vs++caps).toArray w (bW w T)) (hvs:args.toList.map (ec L)=vs.map some)
 (hd:Nat.blt d N=true) (k:∀ a' w' v,T v w'->Ext w w'->Sl N a' ((d,v)::L) Df->St w0 B w'->ce P ops Q l a' w'):
 ce P ops Q (⟨some d,.call {callee:=.value cal,args:=args,argTypes:=tys},ty,pos,af,none⟩::l) a w:=
 dR (R:=λv w'=>T v w'/\Ext w w') h (nv hf (h.ev hc) (lL h hvs) (by rw [show vs.toArray++caps.toArray=(vs++caps).toArray from by simp];exact hC)) hd λa' w' v ⟨h1,h2⟩ hs=>k a' w' v h1 h2 hs (s.more h2)
theorem HB {f:FuncId} {caps:List Value} {cal:Operand} {args:Array Operand} {tys:Array TypeId} (vs:List Value) {T:Value->World->Prop} (h:Sl N a L Df) (hf:Fnc P f) (hc:ec L cal=some (.func (.func f) #[] caps.toArray)) (hC:Calls P f (vs++caps).toArray w (λe w'=>∃ v,e=.returned v/\T v w')) (hvs:args.toList.map (ec L)=vs.map some)
 (hd:Nat.blt d N=true) (k:∀ a' w' v,T v w'->Sl N a' ((d,v)::L) Df->ce P ops Q l a' w'):
 ce P ops Q (⟨some d,.call {callee:=.value cal,args:=args,argTypes:=tys},ty,pos,af,none⟩::l) a w:=
 dR (R:=T) h (nv hf (h.ev hc) (lL h hvs) (by rw [show vs.toArray++caps.toArray=(vs++caps).toArray from by simp];exact hC)) hd k
theorem kF {P:Program} {w:World} {t ty e:TypeId} {sz:Nat} (ht:P.underlying t=some (.slice e)) (he:(P.info? e).map (·.size)=some sz) {base:Nat} {v:Value} {n:Nat} {xs:List Value} (hown:cd w base e sz v n xs)
 {u:Option Addr} {c:Nat}:(Builtin.append_ #[t,t] ty #[v,.slice u 0 c]).run P w=.ok v w:=by
 rcases hown.2 with ⟨rfl,rfl⟩|⟨g,cap,cur,fz,rfl,_,_,_,hnc,_⟩
 ·cases u<;>simp [Builtin.append_,ar1 ht,cy he,au7,Builtin.lenOf,Builtin.firstCells,loadCells,loadCellsFrom]
 ·cases u<;>simp [Builtin.append_,ar1 ht,cy he,au7,Builtin.lenOf,Builtin.firstCells,hnc,loadCells,loadCellsFrom,storeCells]
theorem Elm.size {P:Program} {e:TypeId} {sz by_:Nat} (E:Elm P e sz by_):(P.info? e).map (·.size)=some sz:=by
 obtain ⟨i,z,h1,_,h2,_⟩:=E.info
 rw [h1];simp [h2]
theorem uC {P:Program} {w w0:World} {t ty e:TypeId} {sz by_:Nat} (ht:P.underlying t=some (.slice e)) (E:Elm P e sz by_) {v:Value} {n:Nat} {xs:List Value} (hown:cd w w0.heap.size e sz v n xs)
 {u:Value} {m:Nat} {ys:List Value} (hR:a7 w u sz m ys) (h1:∀ u∈ys,u.oneCell'=true) (h63:n+m<=maxLen) (hbytes:(n+m)*by_<=140737488355328) (hbase:w0.heap.size<=w.heap.size):
 ∃ v' w',(Builtin.append_ #[t,t] ty #[v,u]).run P w=.ok v' w'/\cd w' w0.heap.size e sz v' (n+m) (xs++ys)/\Grw w w' v.ownBlock/\(v'.ownBlock=v.ownBlock∨v'.ownBlock=some w.heap.size):=by
 by_cases hm:m=0
 ·subst hm
  have hy:ys=[]:=List.eq_nil_of_length_eq_zero (by have:=hR.1;omega)
  subst hy
  obtain ⟨a,c,rfl⟩:=hR.len
  refine ⟨v,w,kF ht E.size hown,by simpa using hown,⟨⟨rfl,rfl,rfl,as1 _,λk _ _=>rfl⟩,as1 _⟩,.inl rfl⟩
 ·rcases hR.2 with ⟨_,h0⟩|⟨p,c,rfl,_,hH⟩
  ·exact ax7 h0 hm
  ·exact mI ht E hown hR.1 (λj u hj=>hH j u (by simpa using hj)) h1 (by omega) h63 hbytes hbase
theorem lc {v u:Value} {sz by_ n m:Nat} {xs ys:List Value} (i:Nat) (hR:a7 w u sz m ys) (h:Sl N a L Df) (s:St w0 B w) (ht:P.underlying t=some (.slice e)) (E:Elm P e sz by_) (hx:ec L x=some v) (hy:ec L y=some u)
 (hi:B[i]? = some (.sl v e sz n xs)) (h1:∀ u∈ys,u.oneCell'=true) (h63:n+m<=maxLen) (hbytes:(n+m)*by_<=140737488355328) (hd:Nat.blt d N=true)
 (k:∀ a' w' v',Sl N a' ((d,v')::L) Df->St w0 (B.set i (.sl v' e sz (n+m) (xs++ys))) w'->ce P ops Q l a' w'):
 ce P ops Q (⟨some d,.call {callee:=.builtin .append,args:=#[x,y],argTypes:=#[t,t]},ty,pos,af,none⟩::l) a w:=by
 obtain ⟨v',w',hr,h2,h3,h4⟩:=uC (ty:=ty) ht E (s.getSl i hi) hR h1 h63 hbytes s.ext.le
 refine dR (R:=λu w''=>u=v'/\w''=w') h (by
  unfold cL
  simp only [execOp,resolve,invoke,builtin,au7,au8,aq9,List.map_toArray,List.map_cons,List.map_nil,h.ev hx,h.ev hy,hr]
  first|exact ⟨rfl,rfl⟩|exact ⟨trivial,rfl⟩|exact ⟨trivial,trivial⟩|trivial) hd λa' w'' u ⟨e1,e2⟩ hs=>?_
 subst e1;subst e2
 refine k _ _ _ hs (s.upd i hi h3.os h3.tape h3.output h3.size h2 (λk hk=>?_) (λk hk hne=>?_) h3.drawn)
 ·rcases h4 with h4|h4
  ·exact .inl (Own.at_sl.2 (by rw [← Own.at_sl.1 hk];exact h4.symm))
  ·right
   have:u.ownBlock=some k:=Own.at_sl.1 hk
   rw [h4] at this;cases this;exact as1 _
 ·exact h3.block k hk λe=>hne (Own.at_sl.2 e.symm)
def Wc (base:Nat) (e:TypeId):cX:=λv w=>∃ b,v=.slice (some ⟨b,0,none⟩) 0 0/\base<=b/\w.heap[b]? = some (.cells #[] e (0,0))
theorem Wc.mono (base:Nat) (e:TypeId):qV (Wc base e):=λv w w' ⟨b,h1,h2,h3⟩ hE=>⟨b,h1,h2,(hE.heap (ax1.1 h3).1).trans h3⟩
theorem Wc.owns {base:Nat} {e:TypeId} {v:Value} {w:World} (h:Wc base e v w) (sz:Nat):cd w base e sz v 0 []:=by
 obtain ⟨b,h1,h2,h3⟩:=h
 exact ⟨by simp,.inr ⟨b,0,#[],(0,0),h1,h2,h3,.inl rfl,as1 _,as3 _,by simp,by simp⟩⟩
theorem Y3 (base:Nat) (e:TypeId) (sz n:Nat) (xs:List Value):qV (λv w=>cd w base e sz v n xs):=λv w w' h hE=>by
 refine ⟨h.1,?_⟩
 rcases h.2 with hv|⟨g,cap,cur,fz,hv,hb,hg,r⟩
 ·exact .inl hv
 ·exact .inr ⟨g,cap,cur,fz,hv,hb,(hE.heap (ax1.1 hg).1).trans hg,r⟩
theorem dL {v u:Value} {sz by_ m base:Nat} {ys:List Value} (hv:Wc base e v w) (hR:a7 w u sz m ys) (h:Sl N a L Df) (ht:P.underlying t=some (.slice e)) (E:Elm P e sz by_) (hx:ec L x=some v) (hy:ec L y=some u) (hbase:base<=w.heap.size)
 (h1:∀ u∈ys,u.oneCell'=true) (h63:m<=maxLen) (hbytes:m*by_<=140737488355328) (hd:Nat.blt d N=true)
 (k:∀ a' w' v',Sl N a' ((d,v')::L) Df->Ext w w'->cd w' base e sz v' m ys->ce P ops Q l a' w'):
 ce P ops Q (⟨some d,.call {callee:=.builtin .append,args:=#[x,y],argTypes:=#[t,t]},ty,pos,af,none⟩::l) a w:=by
 have hO:=hv.owns sz
 by_cases hm:m=0
 ·subst hm
  have hys:ys=[]:=List.eq_nil_of_length_eq_zero (by have:=hR.1;omega)
  subst hys
  obtain ⟨q,c,rfl⟩:=hR.len
  have hr:=kF (ty:=ty) ht E.size hO (u:=q) (c:=c)
  exact dR (R:=λu w''=>u=v/\w''=w) h (by
   unfold cL
   simp only [execOp,resolve,invoke,builtin,au7,au8,aq9,List.map_toArray,List.map_cons,List.map_nil,h.ev hx,h.ev hy,hr]
   first|exact ⟨rfl,rfl⟩|exact ⟨trivial,rfl⟩|exact ⟨trivial,trivial⟩|trivial) hd λa' w'' u ⟨e1,e2⟩ hs=>by subst e1;subst e2;exact k _ _ _ hs (Ext.refl _) hO
 ·obtain ⟨b,rfl,hb,hbl⟩:=hv
  obtain ⟨p,c,rfl,_,hH⟩:=hR.2.resolve_left λh9=>hm h9.2
  obtain ⟨i,z,hi,hz,rfl,rfl,hzs⟩:=E.info
  have hsmall:0+m<=9223372036854775807:=by simp only [maxLen] at h63;omega
  have hr:=run_append_grow (P:=P) w t ty e i z ht hi hz ⟨b,0,none⟩ 0 0 [] (by simp) (λj u hj=>by simp at hj) p m c ys hR.1 (λj u hj=>hH j u (by simpa using hj)) (by omega) (by omega) (growslice_fits (by omega) (by simpa using hbytes))
  obtain ⟨V9,W9,hr9,hE9,hO9⟩:∃ V W,(Builtin.append_ #[t,t] ty #[.slice (some ⟨b,0,none⟩) 0 0,.slice (some p) m c]).run P w=.ok V W/\Ext w W/\cd W base e i.size V m ys:=by
   refine ⟨_,_,hr,(Ext.refl w).drew.alloc _,hR.1,.inr ⟨w.heap.size,grownCap w (0+m) 0 e,_,(0,0),by simp,hbase,heap_alloc_new w.drew _,.inl rfl,?_,?_,?_,?_⟩⟩
   ·have:=grownCap_ge w (0+m) 0 e;omega
   ·exact grownCap_le_maxLen w _ 0 e (by omega)
   ·simp only [Array.size_append,List.size_toArray,size_zeroCells,hzs,hR.1,at6,Nat.zero_add]
    rw [← Nat.add_mul]
    congr 1
    have:=grownCap_ge w (0+m) 0 e
    simp only [Nat.zero_add] at this
    omega
   ·simp only [Array.toList_append,Array.empty_append]
    rw [← hR.1]
    simp
  refine dR (R:=λu w''=>u=V9/\w''=W9) h (by
   unfold cL
   simp only [execOp,resolve,invoke,builtin,au7,au8,aq9,List.map_toArray,List.map_cons,List.map_nil,h.ev hx,h.ev hy,hr9]
   first|exact ⟨rfl,rfl⟩|exact ⟨trivial,rfl⟩|exact ⟨trivial,trivial⟩|trivial) hd λa' w'' u ⟨e1,e2⟩ hs=>?_
  subst e1;subst e2
  exact k _ _ _ hs hE9 hO9
theorem fC {sz by_ base:Nat} (h:Sl N a L Df) (ht:P.underlying t=some (.slice e)) (E:Elm P e sz by_) (hbase:base<=w.heap.size) (hd:Nat.blt d N=true)
 (k:∀ a' w' v',Sl N a' ((d,v')::L) Df->Ext w w'->Wc base e v' w'->ce P ops Q l a' w'):ce P ops Q (⟨some d,.buildSlice t 0 #[],ty,pos,af,none⟩::l) a w:=by
 obtain ⟨i,z,hi,hz,hsz,_,hzs⟩:=E.info
 have hm:(#[]:Array (Nat × Operand)).map (λ(i,x)=>(i,a.eval x))=#[]:=by simp
 have hrun:(Instr.buildSlice t 0 #[]).run P w=.ok (.slice (some ⟨w.heap.size,0,none⟩) 0 0) (w.alloc (.cells #[] e)):=by
  unfold Instr.buildSlice
  simp only [au7,ar1 ht,aq9,sizeOf,typeInfo,run_program,hi,au8,hsz,Nat.zero_mul,newRow]
  have h0:(Array.range 0).map (λx=>(#[]:Array Value)[x % (#[]:Array Value).size]!)=#[]:=by simp
  simp only [show ¬ (0:Nat)>2 ^ 24 by decide,if_false,if_true,au7,au8,aq9,h0,Instr.fill,run_newObj]
  rfl
 refine dR (R:=λu w''=>u=.slice (some ⟨w.heap.size,0,none⟩) 0 0/\w''=w.alloc (.cells #[] e)) h ?_ hd λa' w'' u ⟨e1,e2⟩ hs=>?_
 ·unfold cL
  simp only [execOp,hm,au7,hrun,aq9,au8]
  first|exact ⟨rfl,rfl⟩|exact ⟨trivial,rfl⟩|exact ⟨trivial,trivial⟩|trivial
 ·subst e1;subst e2
  exact k _ _ _ hs ((Ext.refl w).alloc _) ⟨w.heap.size,rfl,hbase,heap_alloc_new w _⟩
end
theorem St.sl_new {w0 w w':World} {B:List Own} (s:St w0 B w) (hE:Ext w w') {v:Value} {e:TypeId} {sz n:Nat} {xs:List Value} (h:cd w' w.heap.size e sz v n xs):St w0 (.sl v e sz n xs::B) w':=by
 refine s.join1 hE _ ⟨h.1,?_⟩ λk hk=>?_
 ·rcases h.2 with hv|⟨g,cap,cur,fz,hv,hb,r⟩
  ·exact .inl hv
  ·exact .inr ⟨g,cap,cur,fz,hv,av5 s.ext.le hb,r⟩
 ·rw [Own.at_sl] at hk
  rcases h.2 with ⟨hv,_⟩|⟨g,cap,cur,fz,hv,hb,r⟩
  ·subst hv;simp [Value.ownBlock] at hk
  ·subst hv;simp [Value.ownBlock] at hk;omega
theorem cd.base {w:World} {b1 b2:Nat} {e:TypeId} {sz n:Nat} {v:Value} {xs:List Value} (h:cd w b1 e sz v n xs) (hb:b2<=b1):cd w b2 e sz v n xs:=by
 refine ⟨h.1,h.2.imp id λ⟨g,cap,cur,fz,hv,hb',r⟩=>⟨g,cap,cur,fz,hv,av5 hb hb',r⟩⟩
def FT (P:Program):List (Nat × Nat × Nat)->Prop
 |[]=>True
 |(t,i,o)::r=>Fld P t i o/\FT P r
def Pb:List (Nat × Nat × Nat)->Nat->Nat->Option Nat
 |[],_,_=>none
 |(t,i,o)::r,t',i'=>bif Nat.beq t t' && Nat.beq i i' then some o else Pb r t' i'
theorem FT.get {P:Program}:∀ {T:List (Nat × Nat × Nat)},FT P T->∀ {t i o:Nat},Pb T t i=some o->Fld P t i o
 |[],_,_,_,_,h=>by cases h
 |(t,i,o)::r,hT,t',i',o',h=>by
  unfold Pb at h
  cases hb:(Nat.beq t t' && Nat.beq i i') with
  |true=>
   rw [hb] at h
   simp only [cond_true,Option.some.injEq] at h
   obtain ⟨h1,h2⟩:=aq5 _ _▸hb
   obtain rfl:=Nat.eq_of_beq_eq_true h1
   obtain rfl:=Nat.eq_of_beq_eq_true h2
   subst h;exact hT.1
  |false=>rw [hb] at h;exact FT.get hT.2 h
def Zp:BinOp->Int->Int->Option Bool
 |.lss,m,n=>some (decide (m<n))
 |.leq,m,n=>some (decide (m<=n))
 |.gtr,m,n=>some (decide (n<m))
 |.geq,m,n=>some (decide (n<=m))
 |.eql,m,n=>some (decide (m=n))
 |.neq,m,n=>some (decide (m≠n))
 |_,_,_=>none
def Fn (T:List (Nat × Nat × Nat)) (L:List (Nat × Value)):Op->Option Value
 |.move x=>ec L x
 |.assign x=>ec L x
 |.pick c x y=>match ec L c with
  |some (.bool b)=>bif b then ec L x else ec L y
  |_=>none
 |.extract x i=>match ec L x with
  |some (.tuple vs)=>vs[i]?
  |_=>none
 |.nilCheck x=>match ec L x with
  |some (.pointer (some p))=>some (.pointer (some p))
  |_=>none
 |.fieldAddr t x i=>match ec L x with
  |some (.pointer (some ⟨b,o,none⟩))=>match Pb T t i with
   |some off=>some (.pointer (some ⟨b,o+off,none⟩))
   |none=>none
  |_=>none
 |.unOp .not _ x=>match ec L x with
  |some (.bool b)=>some (.bool (!b))
  |_=>none
 |.binOp op _ x y _=>match ec L x with
  |some (.int k m)=>match ec L y with
   |some (.int k' n)=>match Zp op m n with
    |some b=>bif decide (k=k') then some (.bool b) else none
    |none=>none
   |_=>none
  |_=>none
 |_=>none
theorem g5 {P:Program} {T:List (Nat × Nat × Nat)} (hT:FT P T) {N:Nat} {a:Act} {L:List (Nat × Value)} {Df:List Deferred} (h:Sl N a L Df) {op:Op} {V:Value} (hv:Fn T L op=some V) {d:Option Tmp} {ty:TypeId} {pos:String} {af:Array Edge} {g:Option (Nat × Bool)}:
 a8 P ⟨d,op,ty,pos,af,g⟩ a.eval V:=by
 unfold Fn at hv
 split at hv
 ·exact Pe (h.ev hv)
 ·exact Gv (h.ev hv)
 ·split at hv
  ·next b hc=>
   cases b with
   |true=>exact FA (h.ev hc) (h.ev hv)
   |false=>exact Gs (h.ev hc) (h.ev hv)
  ·cases hv
 ·split at hv
  ·next vs hx=>exact Bg (h.ev hx) hv
  ·cases hv
 ·split at hv
  ·next p hx=>cases hv;exact A1 (h.ev hx)
  ·cases hv
 ·split at hv
  ·next b o hx=>
   split at hv
   ·next off ho=>cases hv;exact Jt (hT.get ho) (h.ev hx)
   ·cases hv
  ·cases hv
 ·split at hv
  ·next b hx=>cases hv;exact Sm (h.ev hx)
  ·cases hv
 ·split at hv
  ·next k m hx=>
   split at hv
   ·next k' n hy=>
    split at hv
    ·next b hb=>
     cases hk:decide (k=k') with
     |false=>rw [hk] at hv;cases hv
     |true=>
      rw [hk] at hv
      have hv:some (Value.bool b)=some V:=hv
      cases hv
      obtain rfl:=ap9 hk
      unfold Zp at hb
      split at hb<;>cases hb
      ·exact HD (h.ev hx) (h.ev hy)
      ·exact Lf (h.ev hx) (h.ev hy)
      ·exact LF (h.ev hx) (h.ev hy)
      ·exact Ss (h.ev hx) (h.ev hy)
      ·exact Um (h.ev hx) (h.ev hy)
      ·exact UE (h.ev hx) (h.ev hy)
    ·cases hv
   ·cases hv
  ·cases hv
 ·cases hv
def nA (T:List (Nat × Nat × Nat)) (ops:Array Oper) (N:Nat):Nat->List (Nat × Value)->List Oper->Option (List (Nat × Value) × List Oper)
 |0,L,l=>some (L,l)
 |n+1,L,⟨some d,op,_,_,_,none⟩::l=>match Fn T L op with
  |some V=>bif Nat.blt d N then nA T ops N n ((d,V)::L) l else none
  |none=>none
 |n+1,L,⟨some d,op,_,_,_,some (j,b)⟩::l=>match ops[j]? with
  |some ⟨some t,_,_,_,_,_⟩=>match lk L t with
   |some (.bool v)=>bif (bif v then b else !b) then
    match Fn T L op with
    |some V=>bif Nat.blt d N then nA T ops N n ((d,V)::L) l else none
    |none=>none
    else bif Nat.blt d N then nA T ops N n ((d,undef)::L) l else none
   |_=>none
  |_=>none
 |_+1,_,_=>none
theorem pi {P:Program} {T:List (Nat × Nat × Nat)} (hT:FT P T) {ops:Array Oper} {Q:Act->World->Prop} {N:Nat} {w:World} {Df:List Deferred} {L':List (Nat × Value)} {r:List Oper}:∀ (n:Nat) {L:List (Nat × Value)} {l:List Oper} {a:Act},Sl N a L Df->nA T ops N n L l=some (L',r)->
 (∀ a',Sl N a' L' Df->ce P ops Q r a' w)->ce P ops Q l a w
 |0,L,l,a,h,hr,k=>by
  cases hr;exact k a h
 |n+1,L,[],a,h,hr,k=>by cases hr
 |n+1,L,⟨none,op,ty,pos,af,g⟩::l,a,h,hr,k=>by cases g<;>cases hr
 |n+1,L,⟨some d,op,ty,pos,af,none⟩::l,a,h,hr,k=>by
  unfold nA at hr
  split at hr
  ·next V hv=>
   cases hd:Nat.blt d N with
   |true=>rw [hd] at hr;exact ak h (g5 hT h hv) hd λa' h'=>pi hT n h' hr k
   |false=>rw [hd] at hr;cases hr
  ·cases hr
 |n+1,L,⟨some d,op,ty,pos,af,some (j,b)⟩::l,a,h,hr,k=>by
  unfold nA at hr
  split at hr
  ·next t _ _ _ _ _ hj=>
   split at hr
   ·next v hv=>
    cases hc:(bif v then b else !b) with
    |true=>
     rw [hc] at hr
     have hvb:v=b:=by cases v<;>cases b<;>first|rfl|cases hc
     subst hvb
     refine WI h hj rfl hv ?_
     have hr:(match Fn T L op with|some V=>bif Nat.blt d N then nA T ops N n ((d,V)::L) l else none|none=>none)=some (L',r):=hr
     split at hr
     ·next V hV=>
      cases hd:Nat.blt d N with
      |true=>rw [hd] at hr;exact ak h (g5 hT h hV) hd λa' h'=>pi hT n h' hr k
      |false=>rw [hd] at hr;cases hr
     ·cases hr
    |false=>
     rw [hc] at hr
     have hvb:v = !b:=by cases v<;>cases b<;>first|rfl|cases hc
     subst hvb
     have hr:(bif Nat.blt d N then nA T ops N n ((d,undef)::L) l else none)=some (L',r):=hr
     cases hd:Nat.blt d N with
     |true=>rw [hd] at hr;exact Xf h hj rfl hv hd λa' h'=>pi hT n h' hr k
     |false=>rw [hd] at hr;cases hr
   ·cases hr
  ·cases hr
theorem ap {P:Program} {T:List (Nat × Nat × Nat)} (hT:FT P T) (n:Nat) {ops:Array Oper} {Q:Act->World->Prop} {N:Nat} {L L':List (Nat × Value)} {Df:List Deferred} {l r:List Oper} {a:Act} {w:World} (h:Sl N a L Df) (hr:nA T ops N n L l=some (L',r))
 (k:∀ a',Sl N a' L' Df->ce P ops Q r a' w):ce P ops Q l a w:=pi hT n h hr k
theorem Ym {P:Program} {T:List (Nat × Nat × Nat)} (hT:FT P T) (n:Nat) {ops:Array Oper} {Q:Act->World->Prop} {N:Nat} {L L':List (Nat × Value)} {Df:List Deferred} {l:List Oper} {a:Act} {w:World} (h:Sl N a L Df) (hr:nA T ops N n L l=some (L',[]))
 (k:∀ a',Sl N a' L' Df->Q a' w):ce P ops Q l a w:=pi hT n h hr λa' h'=>aE (k a' h')
theorem ol {P:Program} {T:List (Nat × Nat × Nat)} (hT:FT P T) (V:Value) {ops:Array Oper} {Q:Act->World->Prop} {N:Nat} {L:List (Nat × Value)} {Df:List Deferred} {d:Tmp} {op:Op} {ty:TypeId} {pos:String} {af:Array Edge} {l:List Oper} {a:Act} {w:World} {R:Value} (h:Sl N a L Df) (hr:Fn T L op=some R) (e:R=V) (hd:Nat.blt d N=true)
 (k:∀ a',Sl N a' ((d,V)::L) Df->ce P ops Q l a' w):ce P ops Q (⟨some d,op,ty,pos,af,none⟩::l) a w:=ak h (e▸g5 hT h hr) hd k
section
variable {ro:Option Nat} {P:Program} {a:Act} {w:World}
theorem ag {x y:Code} {Q:Exit->Act->World->Prop} (h:x.wpIn (FR ro) 0 P (Exit.then (y.wpIn (FR ro) 0 P Q) Q) a w):(Code.seq x y).wpIn (FR ro) 0 P Q a w:=wpIn_seq h
variable {N:Nat} {L:List (Nat × Value)} {Df:List Deferred}
theorem dF {c:Operand} {x y:Code} {Q:Exit->Act->World->Prop} (h:Sl N a L Df) (hc:ec L c=some (.bool true)) (k:x.wpIn (FR ro) 0 P Q a w):(Code.cond c x y).wpIn (FR ro) 0 P Q a w:=wpIn_cond_true (h.ev hc) k
theorem mx {c:Operand} {x y:Code} {Q:Exit->Act->World->Prop} (h:Sl N a L Df) (hc:ec L c=some (.bool false)) (k:y.wpIn (FR ro) 0 P Q a w):(Code.cond c x y).wpIn (FR ro) 0 P Q a w:=wpIn_cond_false (h.ev hc) k
theorem nt {ops:Array Oper} {K:Act->World->Prop} {Q:Exit->Act->World->Prop} (k:K a w):ce P ops (Exit.then K Q .normal) [] a w:=aE (aG k)
theorem qr {id:Nat} {l:List Oper} {y:Code} {Q:Exit->Act->World->Prop} (k:ce P l.toArray (Exit.then (y.wpIn (FR ro) 0 P Q) Q .normal) l a w):(Code.seq (Code.region id l.toArray false) y).wpIn (FR ro) 0 P Q a w:=ag (aC k)
variable {T:List (Nat × Nat × Nat)} {L':List (Nat × Value)}
theorem e9 (hT:FT P T) (n:Nat) {ops:Array Oper} {K:Act->World->Prop} {Q:Exit->Act->World->Prop} {l:List Oper} (h:Sl N a L Df) (hr:nA T ops N n L l=some (L',[])) (k:∀ a',Sl N a' L' Df->K a' w):ce P ops (Exit.then K Q .normal) l a w:=Ym hT n h hr λf h=>aG (k f h)
theorem rs (hT:FT P T) (n:Nat) {id:Nat} {l r:List Oper} {Q:Exit->Act->World->Prop} (h:Sl N a L Df) (hr:nA T l.toArray N n L l=some (L',r)) (k:∀ a',Sl N a' L' Df->ce P l.toArray (Q .normal) r a' w):(Code.region id l.toArray false).wpIn (FR ro) 0 P Q a w:=aC (ap hT n h hr k)
theorem re (hT:FT P T) (n:Nat) {id:Nat} {l:List Oper} {K:Act->World->Prop} {Q:Exit->Act->World->Prop} (h:Sl N a L Df) (hr:nA T l.toArray N n L l=some (L',[])) (k:∀ a',Sl N a' L' Df->K a' w):(Code.region id l.toArray false).wpIn (FR ro) 0 P (Exit.then K Q) a w:=aC (e9 hT n h hr k)
theorem cw (hT:FT P T) (n:Nat) {id:Nat} {l r:List Oper} {y:Code} {Q:Exit->Act->World->Prop} (h:Sl N a L Df) (hr:nA T l.toArray N n L l=some (L',r)) (k:∀ a',Sl N a' L' Df->ce P l.toArray (Exit.then (y.wpIn (FR ro) 0 P Q) Q .normal) r a' w):(Code.seq (Code.region id l.toArray false) y).wpIn (FR ro) 0 P Q a w:=ag (rs hT n h hr k)
theorem bD (hT:FT P T) (n:Nat) {id:Nat} {l:List Oper} {y:Code} {Q:Exit->Act->World->Prop} (h:Sl N a L Df) (hr:nA T l.toArray N n L l=some (L',[])) (k:∀ a',Sl N a' L' Df->y.wpIn (FR ro) 0 P Q a' w):(Code.seq (Code.region id l.toArray false) y).wpIn (FR ro) 0 P Q a w:=ag (re hT n h hr k)
theorem fP {w0:World} {B:List Own} {ops:Array Oper} {Q:Act->World->Prop} {l:List Oper} {d:Tmp} {ty:TypeId} {pos:String} {af:Array Edge} {f:FuncId} {args:Array Operand} {tys:Array TypeId} {vs:List Value} {V:Value} (h:Sl N a L Df) (s:St w0 B w) (hf:Fnc P f) (hc:Calls P f vs.toArray w (bW w (is V))) (hvs:args.toList.map (ec L)=vs.map some)
 (hd:Nat.blt d N=true) (k:∀ a' w',Sl N a' ((d,V)::L) Df->St w0 B w'->ce P ops Q l a' w'):ce P ops Q (⟨some d,.call {callee:=.value (.func f),args:=args,argTypes:=tys},ty,pos,af,none⟩::l) a w:=
 bg h s hf hc hvs hd λa' w' v hT _ h s=>by obtain rfl:=hT;exact k a' w' h s
def G1 (T:List (Nat × Nat × Nat)) (N:Nat) (L:List (Nat × Value)) (d:Nat) (op:Op):Option Value:=bif Nat.blt d N then Fn T L op else none
theorem xM {d:Nat} {op:Op} {V:Value} (h:G1 T N L d op=some V):Nat.blt d N=true/\Fn T L op=some V:=by
 unfold G1 at h
 cases e:Nat.blt d N with
 |true=>rw [e] at h;exact ⟨rfl,h⟩
 |false=>rw [e] at h;cases h
section
variable {ops:Array Oper} {Q:Act->World->Prop} {l:List Oper} {d:Tmp} {op:Op} {ty:TypeId} {pos:String} {af:Array Edge} {b c:Bool}
theorem MF (hT:FT P T) (h:Sl N a L Df) (hr:G1 T N L d op=some (.bool b)) (e:b=c) (k:∀ a',Sl N a' ((d,.bool c)::L) Df->ce P ops Q l a' w):ce P ops Q (⟨some d,op,ty,pos,af,none⟩::l) a w:=by
 subst e;exact ak h (g5 hT h (xM hr).2) (xM hr).1 k
theorem jy (hT:FT P T) (h:Sl N a L Df) (hr:G1 T N L d op=some (.bool b)) (e:b=true) (k:∀ a',Sl N a' ((d,.bool true)::L) Df->ce P ops Q l a' w):ce P ops Q (⟨some d,op,ty,pos,af,none⟩::l) a w:=MF hT h hr e k
theorem jd (hT:FT P T) (h:Sl N a L Df) (hr:G1 T N L d op=some (.bool b)) (e:b=false) (k:∀ a',Sl N a' ((d,.bool false)::L) Df->ce P ops Q l a' w):ce P ops Q (⟨some d,op,ty,pos,af,none⟩::l) a w:=MF hT h hr e k
def ZO (ops:Array Oper) (L:List (Nat × Value)) (j:Nat):Option Bool:=match ops[j]? with
 |some ⟨some t,_,_,_,_,_⟩=>match lk L t with
  |some (.bool v)=>some v
  |_=>none
 |_=>none
theorem Ik {j:Nat} (h:ZO ops L j=some b):∃ od t,ops[j]? = some od/\od.dst=some t/\lk L t=some (.bool b):=by
 unfold ZO at h
 split at h
 ·next t _ _ _ _ _ hj=>
  split at h
  ·next v hv=>cases h;exact ⟨_,_,hj,rfl,hv⟩
  ·cases h
 ·cases h
theorem cg {j:Nat} (h:Sl N a L Df) (hg:ZO ops L j=some b) (k:ce P ops Q (⟨some d,op,ty,pos,af,none⟩::l) a w):ce P ops Q (⟨some d,op,ty,pos,af,some (j,b)⟩::l) a w:=by
 obtain ⟨od,t,h1,h2,h3⟩:=Ik hg
 exact WI h h1 h2 h3 k
theorem cb {t e:TypeId} {x:Operand} {w0:World} {v:Value} {sz n:Nat} {xs:List Value} (h:Sl N a L Df) (hR:a7 w0 v sz n xs) (ht:P.underlying t=some (.slice e)) (hx:ec L x=some v) (hd:Nat.blt d N=true)
 (k:∀ a',Sl N a' ((d,.int .i64 (n:Int))::L) Df->ce P ops Q l a' w):ce P ops Q (⟨some d,.call {callee:=.builtin .len,args:=#[x],argTypes:=#[t]},ty,pos,af,none⟩::l) a w:=ak h (l9 hR ht (h.ev hx)) hd k
theorem jX {w0:World} {B:List Own} {f:FuncId} {args:Array Operand} {tys:Array TypeId} {vs:List Value} (c:Bool) (h:Sl N a L Df) (s:St w0 B w) (hf:Fnc P f) (hc:Calls P f vs.toArray w (bW w (is (.bool b)))) (e:b=c) (hvs:args.toList.map (ec L)=vs.map some)
 (hd:Nat.blt d N=true) (k:∀ a' w',Sl N a' ((d,.bool c)::L) Df->St w0 B w'->ce P ops Q l a' w'):ce P ops Q (⟨some d,.call {callee:=.value (.func f),args:=args,argTypes:=tys},ty,pos,af,none⟩::l) a w:=by
 subst e;exact fP h s hf hc hvs hd k
end
section
variable {c:Operand} {x y:Code} {ops:Array Oper} {Q:Exit->Act->World->Prop} {K:Act->World->Prop}
theorem iz {Q':Exit->Act->World->Prop} (h:Sl N a L Df) (hc:ec L c=some (.bool true)) (k:x.wpIn (FR ro) 0 P Q a w):ce P ops (Exit.then ((Code.cond c x y).wpIn (FR ro) 0 P Q) Q' .normal) [] a w:=nt (dF h hc k)
theorem tS {Q':Exit->Act->World->Prop} (h:Sl N a L Df) (hc:ec L c=some (.bool false)) (k:y.wpIn (FR ro) 0 P Q a w):ce P ops (Exit.then ((Code.cond c x y).wpIn (FR ro) 0 P Q) Q' .normal) [] a w:=nt (mx h hc k)
theorem kt (k:K a w):Code.skip.wpIn (FR ro) 0 P (Exit.then K Q) a w:=wpIn_skip (aG k)
theorem iA {Q':Exit->Act->World->Prop} (h:Sl N a L Df) (hc:ec L c=some (.bool false)) (k:K a w):ce P ops (Exit.then ((Code.cond c x .skip).wpIn (FR ro) 0 P (Exit.then K Q)) Q' .normal) [] a w:=tS h hc (kt k)
theorem ry (h:Sl N a L Df) (hc:ec L c=some (.bool false)) (k:K a w):(Code.cond c x .skip).wpIn (FR ro) 0 P (Exit.then K Q) a w:=mx h hc (kt k)
theorem rt (k:Q .ret a w):Code.ret.wpIn (FR ro) 0 P (Exit.then K Q) a w:=au3 (aQ k)
end
def XB (ops:List Oper):List (List Nat):=ops.foldl (λacc o=>acc++[(List.range acc.length).filter λj=>(dD o).contains j || (dD o).any λk=>(acc.getD k []).contains j]) []
theorem cK {id:Nat} {ops:List Oper} (m:Nat) {Q:Exit->Act->World->Prop} (h:Sl N a L Df) (hok:(P.follows .mixedOrders && (jk ops m (XB ops) N && Region.noSelect ops.toArray))=true)
 (k:ip P ops.toArray (ce P ops.toArray (Q .normal) (ops.drop m)) w (ops.take m) a):(Code.region id ops.toArray true).wpIn (FR ro) 0 P Q a w:=by
 obtain ⟨h1,h2⟩:=(aq5 _ _).mp hok
 obtain ⟨h3,h4⟩:=(aq5 _ _).mp h2
 exact Pq m (XB ops) h h1 h3 h4 k
def uz (T:List (Nat × Nat × Nat)) (ops:List Oper) (N:Nat):Nat->List (Nat × Value)->List Oper->Option (List (Nat × Value) × List Oper)
 |0,L,l=>some (L,l)
 |n+1,L,⟨some d,op,_,_,_,none⟩::l=>match Fn T L op with
  |some V=>bif Nat.blt d N then uz T ops N n ((d,V)::L) l else none
  |none=>none
 |n+1,L,⟨some d,op,_,_,_,some (j,b)⟩::l=>match ops[j]? with
  |some ⟨some t,_,_,_,_,_⟩=>match lk L t with
   |some (.bool v)=>bif (bif v then b else !b) then
    match Fn T L op with
    |some V=>bif Nat.blt d N then uz T ops N n ((d,V)::L) l else none
    |none=>none
    else bif Nat.blt d N then uz T ops N n ((d,undef)::L) l else none
   |some (.tuple vs)=>bif vs.isEmpty && Nat.blt d N then uz T ops N n ((d,undef)::L) l else none
   |_=>none
  |_=>none
 |_+1,_,_=>none
theorem oK (hT:FT P T) {ops:List Oper} {K:Act->World->Prop} {r:List Oper}:∀ (n:Nat) {L:List (Nat × Value)} {l:List Oper} {a:Act},Sl N a L Df->uz T ops N n L l=some (L',r)->
 (∀ a',Sl N a' L' Df->ip P ops.toArray K w r a')->ip P ops.toArray K w l a
 |0,L,l,a,h,hr,k=>by
  cases hr;exact k a h
 |n+1,L,[],a,h,hr,k=>by cases hr
 |n+1,L,⟨none,op,ty,pos,af,g⟩::l,a,h,hr,k=>by cases g<;>cases hr
 |n+1,L,⟨some d,op,ty,pos,af,none⟩::l,a,h,hr,k=>by
  unfold uz at hr
  split at hr
  ·next V hv=>
   cases hd:Nat.blt d N with
   |true=>rw [hd] at hr;exact aF h (g5 hT h hv) hd λa' h'=>oK hT n h' hr k
   |false=>rw [hd] at hr;cases hr
  ·cases hr
 |n+1,L,⟨some d,op,ty,pos,af,some (j,b)⟩::l,a,h,hr,k=>by
  unfold uz at hr
  split at hr
  ·next t _ _ _ _ _ hj=>
   split at hr
   ·next v hv=>
    cases hc:(bif v then b else !b) with
    |true=>
     rw [hc] at hr
     have hvb:v=b:=by cases v<;>cases b<;>first|rfl|cases hc
     subst hvb
     refine W0 h hj rfl hv ?_
     have hr:(match Fn T L op with|some V=>bif Nat.blt d N then uz T ops N n ((d,V)::L) l else none|none=>none)=some (L',r):=hr
     split at hr
     ·next V hV=>
      cases hd:Nat.blt d N with
      |true=>rw [hd] at hr;exact aF h (g5 hT h hV) hd λa' h'=>oK hT n h' hr k
      |false=>rw [hd] at hr;cases hr
     ·cases hr
    |false=>
     rw [hc] at hr
     have hvb:v = !b:=by cases v<;>cases b<;>first|rfl|cases hc
     subst hvb
     have hr:(bif Nat.blt d N then uz T ops N n ((d,undef)::L) l else none)=some (L',r):=hr
     cases hd:Nat.blt d N with
     |true=>rw [hd] at hr;exact Y8 h hj rfl hv hd λa' h'=>oK hT n h' hr k
     |false=>rw [hd] at hr;cases hr
   ·next vs hv=>
    cases he:vs.isEmpty with
    |false=>rw [he] at hr;cases hr
    |true=>
     rw [he] at hr
     obtain rfl:vs=#[]:=by simpa using he
     cases hd:Nat.blt d N with
     |true=>rw [hd] at hr;exact SO h hj rfl hv hd λa' h'=>oK hT n h' hr k
     |false=>rw [hd] at hr;cases hr
   ·cases hr
  ·cases hr
theorem aD (hT:FT P T) (n:Nat) {ops:List Oper} {K:Act->World->Prop} {l r:List Oper} (h:Sl N a L Df) (hr:uz T ops N n L l=some (L',r)) (k:∀ a',Sl N a' L' Df->ip P ops.toArray K w r a'):ip P ops.toArray K w l a:=oK hT n h hr k
section
variable {ops:List Oper} {K:Act->World->Prop} {l:List Oper} {d:Tmp} {op:Op} {ty:TypeId} {pos:String} {af:Array Edge} {b c:Bool}
theorem Nu (hT:FT P T) (h:Sl N a L Df) (hr:G1 T N L d op=some (.bool b)) (e:b=c) (k:∀ a',Sl N a' ((d,.bool c)::L) Df->ip P ops.toArray K w l a'):ip P ops.toArray K w (⟨some d,op,ty,pos,af,none⟩::l) a:=by
 subst e;exact aF h (g5 hT h (xM hr).2) (xM hr).1 k
theorem ql (hT:FT P T) (h:Sl N a L Df) (hr:G1 T N L d op=some (.bool b)) (e:b=true) (k:∀ a',Sl N a' ((d,.bool true)::L) Df->ip P ops.toArray K w l a'):ip P ops.toArray K w (⟨some d,op,ty,pos,af,none⟩::l) a:=Nu hT h hr e k
theorem sT (hT:FT P T) (h:Sl N a L Df) (hr:G1 T N L d op=some (.bool b)) (e:b=false) (k:∀ a',Sl N a' ((d,.bool false)::L) Df->ip P ops.toArray K w l a'):ip P ops.toArray K w (⟨some d,op,ty,pos,af,none⟩::l) a:=Nu hT h hr e k
theorem cj {j:Nat} (h:Sl N a L Df) (hg:ZO ops.toArray L j=some b) (k:ip P ops.toArray K w (⟨some d,op,ty,pos,af,none⟩::l) a):ip P ops.toArray K w (⟨some d,op,ty,pos,af,some (j,b)⟩::l) a:=by
 obtain ⟨od,t,h1,h2,h3⟩:=Ik hg
 exact W0 h (by simpa using h1) h2 h3 k
end
end
def aL:Nat->List Value->List (Nat × Value)
 |_,[]=>[]
 |k,v::r=>(k,v)::aL (k+1) r
theorem QP:∀ (l:List Value) (k:Nat),∀ p∈aL k l,∃ j,p.1=k+j/\l[j]? = some p.2
 |[],_,_,h=>by cases h
 |v::r,k,p,h=>by
  rcases ar6.1 h with rfl|h
  ·exact ⟨0,rfl,rfl⟩
  ·obtain ⟨j,h1,h2⟩:=QP r (k+1) p h
   exact ⟨j+1,by omega,h2⟩
theorem bG {P:Program} {w:World} {f:FuncId} {fn:Func} {c:Code} {args:List Value} {T:cX} {n:Nat} (hf:P.funcs[f]? = some fn) (hb:fn.body=some c) (hn:fn.ntmps=n) (hs:Nat.ble args.length n=true)
 (h:∀ a,Sl n a (aL 0 args)->St w [] w->c.wpIn (FR none) 0 P (bodyPost P fn (bW w T)) a w):Calls P f args.toArray w (bW w T):=
 N4 hf hb hn hs (aL 0 args) (λp hp=>by obtain ⟨j,h1,h2⟩:=QP args 0 p hp;rw [h1,Nat.zero_add];exact h2) λa ha=>h a ha (St.start w)
theorem cZ {ro:Option Nat} {P:Program} {a:Act} {w:World} {N:Nat} {L:List (Nat × Value)} {Df:List Deferred} {c:Operand} {x y:Code} {p:Prop} [Decidable p] {Q:Exit->Act->World->Prop} (h:Sl N a L Df) (hc:ec L c=some (.bool (decide p))) (ht:p->x.wpIn (FR ro) 0 P Q a w) (hf:¬ p->y.wpIn (FR ro) 0 P Q a w):(Code.cond c x y).wpIn (FR ro) 0 P Q a w:=
 cT h hc (λe=>ht (ap9 e)) (λe=>hf (aq0 e))
section
variable {P:Program} {a:Act} {w:World} {N:Nat} {L:List (Nat × Value)} {Df:List Deferred} {T:List (Nat × Nat × Nat)} {Q:Act->World->Prop} {l:List Oper} {d:Tmp} {op:Op} {ty:TypeId} {pos:String} {af:Array Edge} {b c:Bool}
theorem nq (hT:FT P T) {ops:Array Oper} (c:Bool) (h:Sl N a L Df) (hr:G1 T N L d op=some (.bool b)) (e:b=c) (kf:c=false->∀ a',Sl N a' ((d,.bool false)::L) Df->ce P ops Q l a' w) (kt:c=true->∀ a',Sl N a' ((d,.bool true)::L) Df->ce P ops Q l a' w):ce P ops Q (⟨some d,op,ty,pos,af,none⟩::l) a w:=by
 cases hc:c with
 |false=>exact MF hT h hr (e.trans hc) (kf hc)
 |true=>exact MF hT h hr (e.trans hc) (kt hc)
theorem kJ (hT:FT P T) {ops:Array Oper} (h:Sl N a L Df) (hr:G1 T N L d op=some (.bool b)) (kf:b=false->∀ a',Sl N a' ((d,.bool false)::L) Df->ce P ops Q l a' w) (kt:b=true->∀ a',Sl N a' ((d,.bool true)::L) Df->ce P ops Q l a' w):ce P ops Q (⟨some d,op,ty,pos,af,none⟩::l) a w:=nq hT b h hr rfl kf kt
theorem HM (hT:FT P T) {ops:List Oper} (c:Bool) (h:Sl N a L Df) (hr:G1 T N L d op=some (.bool b)) (e:b=c) (kf:c=false->∀ a',Sl N a' ((d,.bool false)::L) Df->ip P ops.toArray Q w l a') (kt:c=true->∀ a',Sl N a' ((d,.bool true)::L) Df->ip P ops.toArray Q w l a'):ip P ops.toArray Q w (⟨some d,op,ty,pos,af,none⟩::l) a:=by
 cases hc:c with
 |false=>exact Nu hT h hr (e.trans hc) (kf hc)
 |true=>exact Nu hT h hr (e.trans hc) (kt hc)
theorem UC (hT:FT P T) {ops:List Oper} (h:Sl N a L Df) (hr:G1 T N L d op=some (.bool b)) (kf:b=false->∀ a',Sl N a' ((d,.bool false)::L) Df->ip P ops.toArray Q w l a') (kt:b=true->∀ a',Sl N a' ((d,.bool true)::L) Df->ip P ops.toArray Q w l a'):ip P ops.toArray Q w (⟨some d,op,ty,pos,af,none⟩::l) a:=HM hT b h hr rfl kf kt
theorem SW {ops:Array Oper} {w0:World} {B:List Own} {f:FuncId} {args:Array Operand} {tys:Array TypeId} {vs:List Value} (c:Bool) (h:Sl N a L Df) (s:St w0 B w) (hf:Fnc P f) (hc:Calls P f vs.toArray w (bW w (is (.bool b)))) (e:b=c) (hvs:args.toList.map (ec L)=vs.map some) (hd:Nat.blt d N=true)
 (kf:c=false->∀ a' w',Sl N a' ((d,.bool false)::L) Df->St w0 B w'->ce P ops Q l a' w') (kt:c=true->∀ a' w',Sl N a' ((d,.bool true)::L) Df->St w0 B w'->ce P ops Q l a' w'):ce P ops Q (⟨some d,.call {callee:=.value (.func f),args:=args,argTypes:=tys},ty,pos,af,none⟩::l) a w:=by
 cases h9:c with
 |false=>exact jX false h s hf hc (e.trans h9) hvs hd (kf h9)
 |true=>exact jX true h s hf hc (e.trans h9) hvs hd (kt h9)
theorem fx {ops:Array Oper} {w0:World} {B:List Own} {f:FuncId} {args:Array Operand} {tys:Array TypeId} {vs:List Value} (h:Sl N a L Df) (s:St w0 B w) (hf:Fnc P f) (hc:Calls P f vs.toArray w (bW w (is (.bool b)))) (hvs:args.toList.map (ec L)=vs.map some) (hd:Nat.blt d N=true)
 (kf:b=false->∀ a' w',Sl N a' ((d,.bool false)::L) Df->St w0 B w'->ce P ops Q l a' w') (kt:b=true->∀ a' w',Sl N a' ((d,.bool true)::L) Df->St w0 B w'->ce P ops Q l a' w'):ce P ops Q (⟨some d,.call {callee:=.value (.func f),args:=args,argTypes:=tys},ty,pos,af,none⟩::l) a w:=SW b h s hf hc rfl hvs hd kf kt
end
section
variable {α:Type}
abbrev DK (E:List (α × α)) (a b:α):Prop:=(a,b)∈E
def Cyc (E:List (α × α)):Prop:=∃ k,Relation.TransGen (DK E) k k
theorem TU {E F:List (α × α)} (h:∀ s∈E,s∈F) {a b:α} (t:Relation.TransGen (DK E) a b):Relation.TransGen (DK F) a b:=by
 induction t with
 |single h1=>exact .single (h _ h1)
 |tail _ h1 ih=>exact .tail ih (h _ h1)
theorem Cyc.sub {E F:List (α × α)} (h:∀ s∈E,s∈F) (c:Cyc E):Cyc F:=by
 obtain ⟨k,hk⟩:=c
 exact ⟨k,TU h hk⟩
variable [DecidableEq α]
structure BfsJ (E:List (α × α)) (now out:List α) (i:Nat) (o n:List α):Prop where
 outJ:∀ x,x∈o↔x∈out∨x∈n
 newJ:∀ x∈n,x ∉ out/\∃ l∈E,l.1∈now/\l.2=x
 doneJ:∀ j (h:j<E.length),j<i->E[j].1∈now->E[j].2∈o
structure BfsK (E:List (α × α)) (k:α) (now out:List α):Prop where
 outK:∀ x∈out,Relation.TransGen (DK E) k x
 nowK:∀ x∈now,x=k∨x∈out
 doneK:∀ x,(x=k∨x∈out)->x ∉ now->∀ y,(x,y)∈E->y∈out
end
abbrev VX:=BitVec 128
def ac2 (k:VX) (i:Nat):Nat:=k.toNat / 256 ^ (15 - i) % 256
def su (a:Id):VX:=BitVec.ofNat 128 (a.toNat / 256 ^ 16)
def Jr (k:VX):ByteArray:=LP (ac2 k) 16
theorem Fd (k:VX):(Jr k).size=16:=Ff _ _
theorem f7 {α:Type} (f:α->List Value) (sz:Nat) (hf:∀ x,(f x).length=sz):∀ l:List α,(l.flatMap f).length=l.length*sz
 |[]=>by simp
 |x::l=>by rw [List.flatMap_cons,aq7,f7 f sz hf l,hf,at5,Nat.succ_mul];omega
theorem r8 {α:Type} (f:α->List Value) (sz:Nat) (hf:∀ x,(f x).length=sz) (k:Nat):∀ l:List α,(l.flatMap f).drop (k*sz)=(l.drop k).flatMap f:=by
 induction k with
 |zero=>intro l;simp
 |succ k ih=>
  intro l
  cases l with
  |nil=>simp
  |cons x l=>
   rw [List.flatMap_cons,List.drop_succ_cons,← ih l,Nat.succ_mul,Nat.add_comm,← List.drop_drop]
   congr 1
   rw [← hf x,List.drop_left]
theorem gE {α:Type} (f:α->List Value) (sz:Nat) (hf:∀ x,(f x).length=sz) (k:Nat):∀ l:List α,(l.flatMap f).take (k*sz)=(l.take k).flatMap f:=by
 induction k with
 |zero=>intro l;simp
 |succ k ih=>
  intro l
  cases l with
  |nil=>simp
  |cons x l=>
   rw [List.flatMap_cons,List.take_succ_cons,List.flatMap_cons,← ih l,Nat.succ_mul,Nat.add_comm,List.take_add]
   rw [← hf x,List.take_left,List.drop_left]
theorem fS {α:Type} (f:α->List Value) (sz:Nat) (hf:∀ x,(f x).length=sz) (l:List α) (j:Nat) (hj:j<l.length):((l.flatMap f).drop (j*sz)).take sz=f l[j]:=by
 rw [r8 f sz hf,List.drop_eq_getElem_cons hj,List.flatMap_cons,← hf l[j],List.take_left]
def ai4 (a:Id):Id:=nk λi=>if i<16 then bA a i else 0
def Xw:ByteArray:=⟨#[108,101,102,116]⟩
def Vh:ByteArray:=⟨#[114,105,103,104,116]⟩
def TJ:ByteArray:=⟨#[110,111,110,99,101]⟩
def Rk (word:ByteArray) (k:VX):Id:=ai4 (XA (word++Jr k))
def nG (a b:Id):Bool:=decide (su b=su (Rk Xw (su a))) || decide (su a=su (Rk Vh (su b)))
def Ww (a:Id):ByteArray:=LP (bA a) 32
def Tt (secret:ByteArray) (id:Id) (h:Nat):ByteArray:=TJ++secret++Ww id++LP (λ_=>h) 1
def Ua (secret:ByteArray) (id:Id) (h:Nat):ByteArray:=Jr (su (XA (Tt secret id h)))
def r1 (x:mj):mj:=BitVec.ofNat 32 (x.toNat / 2+x.toNat % 2*2147483648)
def wL (f:Nat->mj) (n:Nat):List Value:=(List.range n).map λi=>wv (f i)
@[simp] theorem ag0 (f:Nat->mj) (n:Nat):(wL f n).length=n:=by simp [wL]
theorem R8 (x:ByteArray) (a b i:Nat) (hb:b<=x.size) (h:a+i<b):sb (x.extract a b) i=sb x (a+i):=by
 rw [wb,wb,ByteArray.data_extract,Array.getElem?_extract,if_pos]
 have:x.data.size=x.size:=rfl
 omega
theorem aX.subL {w:World} {b o:Nat} {C:Array Value} (h:aX w ⟨b,o,none⟩ C) (off n:Nat) {D:Array Value} (hD:C.extract off (off+n)=D):aX w ⟨b,o+off,none⟩ D:=by
 have:=h.sub off n hD
 rwa [Addr.add_lit] at this
theorem aX.as {w:World} {p:Addr} {C D:Array Value} (h:aX w p C) (e:C=D):aX w p D:=e▸h
section
variable {P:Program} {a:Act} {w w0:World} {N:Nat} {L:List (Nat × Value)} {Df:List Deferred}
end
section
variable {P:Program} {ρ:Operand->Value} {d:Option Tmp} {ty:TypeId} {pos:String} {af:Array Edge} {g:Option (Nat × Bool)} {x y:Operand} {t t':TypeId}
end
section
variable {P:Program} {ops:List Oper} {K:Act->World->Prop} {l:List Oper} {a:Act} {w w0:World} {N:Nat} {L:List (Nat × Value)} {Df:List Deferred} {B:List Own} {d:Tmp} {op:Op} {ty:TypeId} {pos:String} {af:Array Edge} {x y:Operand} {t:TypeId}
theorem aU {n:Nat} {p:Addr} {C:Array Value} (hH:aX w p C) (h:Sl N a L Df) (hr:Row P t n) (hx:ec L x=some (.pointer (some p))) (hn:C.size=n) (hd:Nat.blt d N=true)
 (k:∀ a',Sl N a' ((d,.agg C)::L) Df->ip P ops.toArray K w l a'):ip P ops.toArray K w (⟨some d,.load t x,ty,pos,af,none⟩::l) a:=
 j8 _ h (λw' hE=>by
  unfold cL
  simp only [execOp,h.ev hx,Instr.loadAt,Instr.sureAddr,au7,au8,aq9,qJ hr w' p C (hH.ext hE) hn]
  first|exact ⟨rfl,Ext.refl _⟩|exact ⟨trivial,Ext.refl _⟩) hd k
theorem bw {p:Addr} {V:Value} (hH:w.cell? p=some V) (h:Sl N a L Df) (ho:One P t) (hx:ec L x=some (.pointer (some p))) (hd:Nat.blt d N=true)
 (k:∀ a',Sl N a' ((d,V)::L) Df->ip P ops.toArray K w l a'):ip P ops.toArray K w (⟨some d,.load t x,ty,pos,af,none⟩::l) a:=
 j8 _ h (λw' hE=>gL ho (h.ev hx) (by rw [hE.cell (xZ hH)];exact hH) ⟨rfl,Ext.refl _⟩) hd k
end
theorem ah {w:World} {b o:Nat} {C:Array Value} (h:aX w ⟨b,o,none⟩ C) (off:Nat) {V:Value} (hV:C[off]? = some V):w.cell? ⟨b,o+off,none⟩=some V:=by
 have:=h off V hV
 rwa [Addr.add_lit] at this
theorem a7.some {w:World} {v:Value} {sz n:Nat} {xs:List Value} (h:a7 w v sz n xs) (hn:0<n):∃ p m c,v=.slice (some p) m c:=by
 rcases h.2 with ⟨_,h2⟩|⟨p,c,h1,_,_⟩
 ·omega
 ·exact ⟨p,n,c,h1⟩
theorem St.sel {w0 w:World} {B:List Own} (s:St w0 B w) (ix:List Nat) {B':List Own} (hB:ix.filterMap (λi=>B[i]?)=B') (hn:ix.Nodup):St w0 B' w:=by
 subst hB
 have hmem:∀ p∈ix.filterMap (λi=>B[i]?),p∈B:=λp hp=>by
  obtain ⟨i,_,h⟩:=List.mem_filterMap.1 hp
  exact List.mem_of_getElem? h
 refine ⟨s.ext,λp hp=>s.has p (hmem p hp),λp hp=>s.own p (hmem p hp),?_⟩
 rw [List.pairwise_filterMap]
 refine List.Pairwise.imp ?_ hn
 intro i j hij p hp q hq k hk hk'
 obtain ⟨hi,rfl⟩:=aq4.1 hp
 obtain ⟨hj,rfl⟩:=aq4.1 hq
 have hpw:=List.pairwise_iff_getElem.1 s.nd
 rcases Nat.lt_or_gt_of_ne hij with h|h
 ·exact hpw i j hi hj h k hk hk'
 ·exact hpw j i hj hi h k hk' hk
theorem pw (f:Nat->Nat) (n:Nat):(eX f n).toList.length=n*1/\∀ i,i<n->∃ m,((eX f n).toList.drop (i*1)).take 1=[Value.int .u8 m]:=by
 refine ⟨by simp,λi hi=>⟨f i,?_⟩⟩
 have hl:i*1<(eX f n).toList.length:=by simp;omega
 rw [List.drop_eq_getElem_cons hl,List.take_succ_cons,List.take_zero]
 have h1:=nH f n i hi
 have h2:(eX f n).toList[i*1]=.int .u8 (f i:Int):=by
  have:(eX f n).toList[i*1]? = some (.int .u8 (f i:Int)):=by rw [aw9,Nat.mul_one];exact h1
  rw [aq8 hl] at this
  exact av9 this
 rw [h2]
theorem EqV.struct' {P:Program} {t:TypeId} {D n:Nat} {fs:Array Field} (r:List (Nat × (List Value->Prop))) (ht:P.underlying t=some (.struct fs)) (hp:P.stoodInHeld t=false) (hs:(P.info? t).map (·.size)=some n)
 (hf:ZZ P D fs.toList r) (hc:rz 0 fs.toList r n):EqV P (D+1) t n (λxs=>xs.length=n/\zv xs fs.toList r) Be:=by
 have e:P.fieldsOf t=fs:=by simp [Program.fieldsOf,ht]
 have:=EqV.struct (P:=P) (t:=t) (D:=D) (n:=n) r (by rw [e];exact ht) hp hs (by rw [e];exact hf) (by rw [e];exact hc)
 rw [e] at this
 exact this
def X7 (C:Array Value) (t:TypeId):cX:=λv w=>∃ b,v=.pointer (some ⟨b,0,none⟩)/\w.heap[b]? = some (.cells C t)
theorem X7.mono (C:Array Value) (t:TypeId):qV (X7 C t):=λv w w' ⟨b,h1,h2⟩ hE=>⟨b,h1,(hE.heap (ax1.1 h2).1).trans h2⟩
section
variable {P:Program} {ops:Array Oper} {Q:Act->World->Prop} {l:List Oper} {a:Act} {w w0:World} {N:Nat} {L:List (Nat × Value)} {Df:List Deferred} {B:List Own} {d:Tmp} {ty:TypeId} {pos:String} {af:Array Edge} {x y:Operand} {t t' e:TypeId}
end
section
variable {P:Program} {ρ:Operand->Value} {d:Option Tmp} {ty:TypeId} {pos:String} {af:Array Edge} {g:Option (Nat × Bool)} {a b:Operand} {t t':TypeId} {D n:Nat}
def Zm (P:Program) (D:Nat) (t:TypeId) (n:Nat) (X Y:Array Value):Prop:=∃ V,EqV P D t n V Be/\V X.toList/\V Y.toList
theorem gj {X Y:Array Value} (E:Zm P D t n X Y) (hg:P.eqGuardType P.depth t=false) (hD:Nat.ble D 10000=true) (hx:ρ a=.agg X) (hy:ρ b=.agg Y) (p:Bool) (hp:p=true↔X.toList=Y.toList):
 a8 P ⟨d,.binOp .eql t a b t',ty,pos,af,g⟩ ρ (.bool p):=by
 obtain ⟨V,hE,hX,hY⟩:=E
 exact OW hE hg hD hx hy hX hY p hp
theorem kj {X Y:Array Value} (E:Zm P D t n X Y) (hg:P.eqGuardType P.depth t=false) (hD:Nat.ble D 10000=true) (hx:ρ a=.agg X) (hy:ρ b=.agg Y) (p:Bool) (hp:p=true↔X.toList=Y.toList):
 a8 P ⟨d,.binOp .neq t a b t',ty,pos,af,g⟩ ρ (.bool (!p)):=by
 obtain ⟨V,hE,hX,hY⟩:=E
 exact Pg hE hg hD hx hy hX hY p hp
end
theorem aZ {w:World} {base:Nat} {e:TypeId} {sz:Nat} {v:Value} {n:Nat} {xs:List Value} (h:cd w base e sz v n xs):v.oneCell'=true:=by
 obtain ⟨a,c,rfl⟩:=fR h
 rfl
theorem St.open_sl {w0 w:World} {B:List Own} {v:Value} {e:TypeId} {sz n:Nat} {xs:List Value} (s:St w0 (.sl v e sz n xs::B) w) (hn:1<=n):
 ∃ g cap cur fz,v=.slice (some ⟨g,0,none⟩) n cap/\(fz.2=0∨cur.size<=fz.1)/\n<=cap/\cap<=maxLen/\cur.size=cap*sz/\cur.toList.take (n*sz)=xs/\St w0 (.blk g (.cells cur e fz)::B) w:=by
 have h:=s.getSl 0 rfl
 rcases h.2 with ⟨rfl,rfl⟩|⟨g,cap,cur,fz,rfl,hb,hg,hfz,h1,h2,h3,h4⟩
 ·omega
 ·refine ⟨g,cap,cur,fz,rfl,hfz,h1,h2,h3,h4,s.ext,λp hp=>?_,λp hp k hk=>?_,?_⟩
  ·rcases ar6.1 hp with rfl|hp
   ·exact hg
   ·exact s.has p (as5 _ hp)
  ·rcases ar6.1 hp with rfl|hp
   ·rw [Own.at_blk] at hk;subst hk;exact hb
   ·exact s.own p (as5 _ hp) k hk
  ·have hpw:=List.pairwise_cons.1 s.nd
   exact List.pairwise_cons.2 ⟨λq hq k hk=>hpw.1 q hq k (by rw [Own.at_blk] at hk;subst hk;exact Own.at_sl.2 rfl),hpw.2⟩
theorem St.close_sl {w0 w:World} {B:List Own} {g n cap:Nat} {cur:Array Value} {e:TypeId} {fz:Nat × Nat} {sz:Nat} {xs:List Value} (s:St w0 (.blk g (.cells cur e fz)::B) w) (hfz:fz.2=0∨cur.size<=fz.1) (h1:n<=cap) (h2:cap<=maxLen) (h3:cur.size=cap*sz) (h4:cur.toList.take (n*sz)=xs) (h5:xs.length=n*sz):
 St w0 (.sl (.slice (some ⟨g,0,none⟩) n cap) e sz n xs::B) w:=by
 refine ⟨s.ext,λp hp=>?_,λp hp k hk=>?_,?_⟩
 ·rcases ar6.1 hp with rfl|hp
  ·exact ⟨h5,.inr ⟨g,cap,cur,fz,rfl,s.own _ ar5 g (Own.at_blk.2 rfl),s.get 0 rfl,hfz,h1,h2,h3,h4⟩⟩
  ·exact s.has p (as5 _ hp)
 ·rcases ar6.1 hp with rfl|hp
  ·rw [Own.at_sl] at hk
   simp [Value.ownBlock] at hk
   subst hk
   exact s.own _ ar5 _ (Own.at_blk.2 rfl)
  ·exact s.own p (as5 _ hp) k hk
 ·have hpw:=List.pairwise_cons.1 s.nd
  refine List.pairwise_cons.2 ⟨λq hq k hk=>hpw.1 q hq k ?_,hpw.2⟩
  rw [Own.at_sl] at hk
  simp [Value.ownBlock] at hk
  exact Own.at_blk.2 hk.symm
section
variable {P:Program} {ρ:Operand->Value} {d:Option Tmp} {ty:TypeId} {pos:String} {af:Array Edge} {g:Option (Nat × Bool)} {x y z u:Operand} {t t' e:TypeId} {k:IntKind}
theorem ke {a:Option Addr} {n c:Nat} (ht:P.underlying t=some (.slice e)) (hx:ρ x=.slice a n c):a8 P ⟨d,.call {callee:=.builtin .len,args:=#[x],argTypes:=#[t]},ty,pos,af,g⟩ ρ (.int .i64 (n:Int)):=λw=>by
 simp [execOp,resolve,hx,invoke,builtin,Builtin.len_,au7,ar1 ht,goInt]
end
section
variable {P:Program} {ops:Array Oper} {Q:Act->World->Prop} {l:List Oper} {a:Act} {w w0:World} {N:Nat} {L:List (Nat × Value)} {Df:List Deferred} {B:List Own} {d:Tmp} {ty:TypeId} {pos:String} {af:Array Edge} {x y:Operand} {t t' e:TypeId}
theorem AU {g o m c:Nat} {cur:Array Value} {fz:Nat × Nat} {Z:Value} (i:Nat) (h:Sl N a L Df) (s:St w0 B w) (ht:P.underlying t=some (.slice e)) (hzv:(P.info? e).bind (·.zero)=some Z) (hx:ec L x=some (.slice (some ⟨g,o,none⟩) m c)) (hm:1<=m)
 (hi:B[i]? = some (.blk g (.cells cur e fz))) (hz:fz.2=0∨cur.size<=fz.1) (hfit:o+m*Z.cells.size<=cur.size) (h1:∀ u∈Z.cells.toList,u.oneCell'=true)
 (kk:∀ w',St w0 (B.set i (.blk g (.cells (cur.toList.take o++(Builtin.zeroCells Z.cells m).toList++cur.toList.drop (o+m*Z.cells.size)).toArray e fz))) w'->ce P ops Q l a w'):
 ce P ops Q (⟨none,.call {callee:=.builtin .clear,args:=#[x],argTypes:=#[t]},ty,pos,af,none⟩::l) a w:=by
 have hz2:(zeroValue e).run P w=.ok Z w:=by
  cases hq:P.info? e with
  |none=>simp [hq] at hzv
  |some i2=>have:i2.zero=some Z:=by simpa [hq] using hzv
            simp [zeroValue,typeInfo,au7,hq,this]
 have hlen:(Builtin.zeroCells Z.cells m).toList.length=m*Z.cells.size:=by rw [ar2,size_zeroCells]
 have hones:∀ u∈(Builtin.zeroCells Z.cells m).toList,u.oneCell'=true:=λu hu=>by
  unfold Builtin.zeroCells at hu
  simp only [Array.toList_map,au9] at hu
  obtain ⟨q,hq,rfl⟩:=hu
  have hp:0<Z.cells.size:=by
   rcases Nat.eq_zero_or_pos Z.cells.size with h0|h0
   ·rw [h0] at hq;simp at hq
   ·exact h0
  rw [getElem!_pos Z.cells _ (ax6 _ hp)]
  exact h1 _ (by simp)
 have hst:=dl P g o e fz (Builtin.zeroCells Z.cells m).toList 0 cur w (s.get i hi) hz (by rw [hlen];omega) hones
 rw [Nat.add_zero,hlen] at hst
 cases m with
 |zero=>omega
 |succ m=>
  have hrun:(Builtin.clear_ #[t] ty #[.slice (some ⟨g,o,none⟩) (m+1) c]).run P w=.ok (.tuple #[]) (w.setRow g (cur.toList.take o++(Builtin.zeroCells Z.cells (m+1)).toList++cur.toList.drop (o+(m+1)*Z.cells.size)).toArray):=by
   simp [Builtin.clear_,au7,ar1 ht,hz2,hst]
  exact ji (R:=λ_ w''=>w''=w.setRow g (cur.toList.take o++(Builtin.zeroCells Z.cells (m+1)).toList++cur.toList.drop (o+(m+1)*Z.cells.size)).toArray) (by
   unfold cL
   simp only [execOp,resolve,invoke,builtin,au7,au8,aq9,List.map_toArray,List.map_cons,List.map_nil,h.ev hx,hrun]) λw'' _ e=>by
    subst e
    exact kk _ (s.upd i hi rfl rfl rfl (by simp) (setRow_heap w g cur _ _ fz (s.get i hi)) (λk hk=>.inl hk) (λk _ hk=>setRow_other w g k _ (λe=>hk (Own.at_blk.2 e))))
end
theorem AM {α:Type} {l:List α} (Q:α->Prop) {k:Nat} (h:∀ i (hi:i<l.length),i<k->Q l[i]) (hk:k<l.length) (hq:Q l[k]):∀ i (hi:i<l.length),i<k+1->Q l[i]:=λi hi h9=>by
 by_cases e:i=k
 ·subst e;exact hq
 ·exact h i hi (by omega)
section
variable {P:Program} {ρ:Operand->Value} {d:Option Tmp} {ty:TypeId} {pos:String} {af:Array Edge} {g:Option (Nat × Bool)} {x y z u:Operand} {t t' e:TypeId} {k:IntKind}
theorem qZ {b n c i sz:Nat} {p:Int} (ht:P.underlying t=some (.slice e)) (he:(P.info? e).map (·.size)=some sz) (hx:ρ x=.slice (some ⟨b,0,none⟩) n c) (hy:ρ y=.int .i64 p) (hp:p=(i:Int)) (h1:i<=c):
 a8 P ⟨d,.slice t x none (some y) none,ty,pos,af,g⟩ ρ (.slice (some ⟨b,0,none⟩) i c):=λw=>by
 subst hp
 have ha:(⟨b,0,none⟩:Addr).add 0=⟨b,0,none⟩:=by simp [Addr.add]
 simp [execOp,hx,hy,Instr.sliceAt,au7,ar1 ht,Instr.slice,Instr.sliceBounds,Instr.sliceBound,asIntOf,cy he,h1,ha]
def ZT (b c i sz:Nat):Addr:=if c=i then ⟨b,0,none⟩ else ⟨b,i*sz,none⟩
theorem qX {b n c i sz:Nat} {p:Int} (ht:P.underlying t=some (.slice e)) (he:(P.info? e).map (·.size)=some sz) (hx:ρ x=.slice (some ⟨b,0,none⟩) n c) (hy:ρ y=.int .i64 p) (hp:p=(i:Int)) (h1:i<=n):
 a8 P ⟨d,.slice t x (some y) none none,ty,pos,af,g⟩ ρ (.slice (some (ZT b c i sz)) (n - i) (c - i)):=λw=>by
 subst hp
 have ha:(if c=i then some (⟨b,0,none⟩:Addr) else some ((⟨b,0,none⟩:Addr).add (i*sz)))=some (ZT b c i sz):=by
  unfold ZT
  split
  ·rfl
  ·rw [Addr.add_lit,Nat.zero_add]
 simp only [execOp,hx,hy,Instr.sliceAt,au7,ar1 ht,Instr.slice,Instr.sliceBounds,Instr.sliceBound,asIntOf,cy he,Option.map_some,Option.map_none,au8,aq9,Option.isSome_none]
 rw [if_pos (by omega)]
 simp only [au8,aq9,cy he,au7,Int.toNat_natCast,Option.map_some]
 rw [ha]
end
theorem OD (c1:List Value) (z:List Value) (o m:Nat) (h:o+m<=c1.length) (hz:z.length=m):(c1.take o++z++c1.drop (o+m)).length=c1.length/\(c1.take o++z++c1.drop (o+m)).take o=c1.take o:=by
 refine ⟨by simp only [aq7,au0,at2,hz];omega,?_⟩
 rw [av3,List.take_append_of_le_length (by rw [au0];omega),List.take_take,Nat.min_self]
end Go.Proofs.YthmlflaiidhoiaaGreatDoor
namespace Go.Proofs.YthmlflaiidhoiaaGreatDoor
open Go.RowKit Go.ChangeShapes Go.WideShapes Go.ChangeAt
theorem oq {α:Type} (f:α->List Value) (sz:Nat) (hz:0<sz) (hf:∀ x,(f x).length=sz) {w:World} {p:Addr} (l:List α) (h:∀ i (hi:i<l.length),aX w (p.add (i*sz)) (f l[i]).toArray):aX w p (l.flatMap f).toArray:=λj v hj=>by
 simp only [as8] at hj
 have hlen:=f7 f sz hf l
 have hjl:j<l.length*sz:=by have:=(aq4.1 hj).1;omega
 have hi:j / sz<l.length:=Nat.div_lt_of_lt_mul (by rw [Nat.mul_comm];exact hjl)
 have e1:=fS f sz hf l (j / sz) hi
 have h2:(f l[j / sz])[j % sz]? = some v:=by
  rw [← e1,aw7 (ax6 _ hz),aw8]
  rw [show j / sz*sz+j % sz=j from by rw [Nat.mul_comm];exact Nat.div_add_mod j sz]
  exact hj
 have h3:=h (j / sz) hi (j % sz) v (by simpa using h2)
 rw [l4,show j / sz*sz+j % sz=j from by rw [Nat.mul_comm];exact Nat.div_add_mod j sz] at h3
 exact h3
theorem lg {H:Type} {enc:TypeId × Value->H} {P:Program} {w:World} {base:Nat} {spare:Nat->Bool} {held:Bool} {t e:TypeId} {fuel:Nat} {cs:List Value} {x:DataW H × List MemPlace} (T:IdTy P t e) (hc:P.cellsOf t=32) (hce:P.cellsOf e=1)
 (h:DataW.trod enc P w base spare held fuel t cs=some x):∃ a:Id,cs=(aJ a).toList:=by
 obtain ⟨a,ha⟩:=Qg (v:=.agg cs.toArray) (d:=x.1) (ps:=x.2) T hc hce ⟨fuel,by simpa [Value.cells] using h⟩
 refine ⟨a,?_⟩
 have h2:cs.toArray=aJ a:=by simpa [kL] using ha
 rw [← h2]
theorem ym.cons {P:Program} {ops:Array Oper} {Wp:World->Prop} {K:Act->World->Prop} {o:Oper} {l:List Oper} {a:Act} {w:World} (h:ce P ops (λa w=>Wp w/\ym P ops Wp K l a w) [o] a w):ym P ops Wp K (o::l) a w:=h
theorem ym.nil {P:Program} {ops:Array Oper} {Wp:World->Prop} {K:Act->World->Prop} {a:Act} {w:World} (h:K a w):ym P ops Wp K [] a w:=h
theorem GL {w w':World} {b:Nat} {o:Obj} (h:w.heap[b]? = some o) (e:Ext w w'):w'.heap[b]? = some o:=(e.heap (ax1.1 h).1).trans h
section
variable (ops:List Oper) (m:Nat) (Hs Vs:List Nat) (cls:List (List Nat))
end
def VZ (ops:List Oper) (Vs:List Nat) (T:Nat->cX) (o:Oper) (a:Act) (w:World):Prop:=∀ i∈Vs,∀ d,cC ops i=some d->o.dst=some d->T i (a.tmps.getD d undef) w
def FF (P:Program) (ops:List Oper) (Wp:World->Prop) (Vs:List Nat) (T:Nat->cX) (K:Act->World->Prop):List Oper->Act->World->Prop
 |[],a,w=>K a w
 |o::l,a,w=>ce P ops.toArray (λa w=>Wp w/\VZ ops Vs T o a w/\FF P ops Wp Vs T K l a w) [o] a w
section law
variable {P:Program} {ro:Option Nat} {ops:List Oper} {m:Nat} {Hs Vs:List Nat} {cls:List (List Nat)} {X:Nat->Value} {Wp:World->Prop} {a0:Act} {T:Nat->cX} {Q:Exit->Act->World->Prop}
structure J3 (ops:List Oper) (Hs Vs:List Nat) (cls:List (List Nat)) (X:Nat->Value) (a0:Act) (listed:Array Bool) (a:Act):Prop where
 size:a.tmps.size=a0.tmps.size
 lsize:listed.size=ops.length
 doneH:∀ i d,(i∈Hs∨i∈Vs)->cC ops i=some d->listed.getD i false=true->a.tmps.getD d undef=X i
 rest:∀ t,(∀ j,cC ops j=some t->listed.getD j false=false)->a.tmps.getD t undef=a0.tmps.getD t undef
 closed:∀ i,listed.getD i false=true->∀ j∈cls.getD i [],listed.getD j false=true
variable {Fr:List Nat} {w1:World}
structure J4 (ops:List Oper) (m:Nat) (Hs Vs:List Nat) (cls:List (List Nat)) (X:Nat->Value) (Fr:List Nat) (T:Nat->cX) (a0:Act) (w1:World) (listed:Array Bool) (a:Act) (w:World):Prop where
 J:J3 ops Hs Vs cls X a0 listed a
 ext:Ext w1 w
 defers:a.defers=a0.defers
 tail:∀ i,m<=i->i ∉ Hs->listed.getD i false=false
 done:∀ i d,i<m->i ∉ Hs->cC ops i=some d->listed.getD i false=true->T i (a.tmps.getD d undef) w
 fresh:∀ i∈Fr,∀ d,cC ops i=some d->listed.getD i false=true->∀ k∈Wb (a.tmps.getD d undef),w1.heap.size<=k/\k<w.heap.size
 disj:∀ i∈Fr,∀ j∈Fr,i≠j->∀ d e,cC ops i=some d->cC ops j=some e->listed.getD i false=true->listed.getD j false=true->∀ k∈Wb (a.tmps.getD d undef),k ∉ Wb (a.tmps.getD e undef)
end law
section
variable {P:Program} {ops:List Oper} {cls:List (List Nat)} {Ts:List cX} {a0:Act}
end
section
variable {P:Program} {ops:List Oper} {Vs:List Nat} {T:Nat->cX} {K:Act->World->Prop} {Wp:World->Prop} {o:Oper} {l:List Oper} {a:Act} {w:World}
theorem FF.cons (h:ce P ops.toArray (λa w=>Wp w/\VZ ops Vs T o a w/\FF P ops Wp Vs T K l a w) [o] a w):FF P ops Wp Vs T K (o::l) a w:=h
theorem FF.nil (h:K a w):FF P ops Wp Vs T K [] a w:=h
def af7 (ops:List Oper) (Vs:List Nat) (o:Oper):Bool:=Vs.all λi=>match cC ops i with|some d=>decide (o.dst≠some d)|none=>true
theorem VZ.no (h:af7 ops Vs o=true):VZ ops Vs T o a w:=λi hi d hd ho=>by
 have:=aq6.1 h i hi
 rw [hd] at this
 simp [ho] at this
theorem VZ.one {i d:Nat} (hd:o.dst=some d) (hi:cC ops i=some d) (hn:(Vs.all λj=>j == i || decide (cC ops j≠some d))=true) (h:T i (a.tmps.getD d undef) w):VZ ops Vs T o a w:=λj hj e he ho=>by
 rw [hd] at ho
 cases ho
 have:=aq6.1 hn j hj
 rw [he] at this
 have hji:j=i:=by simpa using this
 rw [hji];exact h
end
end Go.Proofs.YthmlflaiidhoiaaGreatDoor
