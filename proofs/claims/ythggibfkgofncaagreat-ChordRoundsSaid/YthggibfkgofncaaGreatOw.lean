/- Own overlays, changed in place: own rows that are sorted; ranges over functions within a round; regions that draw their order, in which what was there ahead may be read; sets; what the package asks of overlays and the reference asks too; no Go in it. -/
import Derived.Shelf.SlSortCmp.WholeK
import Derived.Test.YthggibfkgofncaaGreatOv
set_option linter.unusedVariables false
set_option linter.unusedSimpArgs false
set_option linter.unusedSectionVars false
namespace Go.Proofs.YthggibfkgofncaaGreat
open Go.RowKit Go.Sort
theorem mn (d:Array Mb):(flatK ib 33 d).toList=am d.toList:=by
 apply List.ext_getElem?
 intro t
 by_cases ht:t<d.size*33
 ·have hj:t / 33<d.size:=by omega
  have hr:t % 33<33:=Nat.mod_lt _ (by decide)
  have h1:(am d.toList)[t]? = (ib d[t / 33])[t % 33]? := by
   have h2:t=t / 33*33+t % 33:=by omega
   conv=>lhs;rw [h2]
   rw [← List.getElem?_drop,← List.getElem?_take_of_lt hr]
   unfold am
   rw [gJ _ 33 cj d.toList (t / 33) (by simpa using hj)]
   simp
  rw [h1]
  have h3:=get_flatK ib 33 d t ht
  have h4:t<(flatK ib 33 d).size:=by rw [size_flatK];exact ht
  rw [getElem!_pos _ t h4,getElem!_pos d _ hj] at h3
  rw [Array.getElem?_toList,Array.getElem?_eq_getElem h4,h3]
  have h5:t % 33<(ib d[t / 33]).length:=by rw [cj];exact hr
  rw [getElem!_pos (ib d[t / 33]) (t % 33) h5,List.getElem?_eq_getElem h5]
 ·rw [List.getElem?_eq_none (by rw [Array.length_toList,size_flatK];omega),List.getElem?_eq_none (by rw [dC,Array.length_toList];omega)]
theorem jD (F c:Array Value):(putCells id 0 F c).size=c.size:=by simp [putCells]
theorem pt (F c:Array Value) (h:F.size≤c.size):(putCells id 0 F c).toList.take F.size=F.toList:=by
 apply List.ext_getElem?
 intro t
 by_cases ht:t<F.size
 ·rw [List.getElem?_take_of_lt ht,Array.getElem?_toList,Array.getElem?_toList]
  unfold putCells
  rw [Array.getElem?_mapIdx,Array.getElem?_eq_getElem (by omega),Option.map_some,if_pos ⟨Nat.zero_le _,by omega⟩,Array.getElem?_eq_getElem ht,Nat.sub_zero,getElem!_pos F t ht]
  rfl
 ·rw [List.getElem?_eq_none (by rw [List.length_take];omega),List.getElem?_eq_none (by rw [Array.length_toList];omega)]
theorem i0 (w:World) (g m:Nat) (d:Array Mb) (os:Array Obj):(sortWorldK ib 33 w g 0 m d os).heap=w.heap.modify g (onCells (putCells id 0 (flatK ib 33 d)))++os:=rfl
theorem kE (w:World) (g m:Nat) (d:Array Mb) (os:Array Obj) {k:Nat} (hk:k<w.heap.size) (hne:k≠g):(sortWorldK ib 33 w g 0 m d os).heap[k]? = w.heap[k]? := by
 rw [i0,Array.getElem?_append_left (by rw [Array.size_modify];exact hk),Array.getElem?_modify,if_neg (fun e=>hne e.symm)]
theorem tD (w:World) (g m:Nat) (d:Array Mb) (os:Array Obj) {cur:Array Value} {e:TypeId} {fz:Nat × Nat} (hg:w.heap[g]? = some (.cells cur e fz)):(sortWorldK ib 33 w g 0 m d os).heap[g]? = some (.cells (putCells id 0 (flatK ib 33 d) cur) e fz):=by
 have hk:g<w.heap.size:=(Array.getElem?_eq_some_iff.1 hg).1
 rw [i0,Array.getElem?_append_left (by rw [Array.size_modify];exact hk),Array.getElem?_modify,if_pos rfl,hg]
 rfl
theorem wP {w0 w:World} {B:List Own} {v:Value} {e:TypeId} {n:Nat} {l:List Mb} (s:St w0 (.sl v e 33 n (am l)::B) w) (hl:l.length=n) (hn:1≤n):
 ∃ g cap,v=.slice (some ⟨g,0,none⟩) n cap∧g<w.heap.size∧w0.heap.size≤g∧HoldsK ib 33 w g 0 l.toArray∧
  ∀ (m:Nat) (os:Array Obj) (d:Array Mb),d.size=n→St w0 (.sl v e 33 n (am d.toList)::B) (sortWorldK ib 33 w g 0 m d os):=by
 obtain ⟨g,cap,cur,fz,rfl,hfz,hnc,hcm,hcs,htk,s⟩:=s.open_sl hn
 have hg:=s.get 0 rfl
 have hlt:g<w.heap.size:=(Array.getElem?_eq_some_iff.1 hg).1
 have hroom:n*33≤cur.size:=by rw [hcs];exact Nat.mul_le_mul_right _ hnc
 refine ⟨g,cap,rfl,hlt,s.own _ List.mem_cons_self g (Own.at_blk.2 rfl),fun j hj=>?_,fun m os d hd=>?_⟩
 ·have hjs:j<n*33:=by rw [size_flatK] at hj;simpa [hl] using hj
  constructor
  ·rw [Nat.zero_add,cell_of_row w g j cur e fz hg]
   have h1:(flatK ib 33 l.toArray).toList=cur.toList.take (n*33):=by rw [mn,htk]
   have h2:(flatK ib 33 l.toArray).toList[j]? = cur.toList[j]? := by rw [h1,List.getElem?_take_of_lt hjs]
   rw [Array.getElem?_toList,Array.getElem?_toList,Array.getElem?_eq_getElem hj] at h2
   rw [getElem!_pos _ j hj]
   exact h2.symm
  ·simp only [World.frozen?,hg,Nat.zero_add]
   obtain ⟨lo,hi⟩:=fz
   rcases hfz with h9|h9
   ·change hi=0 at h9;subst h9;simp
   ·change cur.size≤lo at h9
    have:¬ lo≤j:=by omega
    simp [this]
 ·have hF:(flatK ib 33 d).size=n*33:=by rw [size_flatK,hd]
  have s2:=s.upd 0 (w':=sortWorldK ib 33 w g 0 m d os) (p':=.blk g (.cells (putCells id 0 (flatK ib 33 d) cur) e fz)) rfl rfl rfl rfl (by rw [i0];simp) (tD w g m d os hg) (fun k hk=>.inl hk) (fun k hk hne=>kE w g m d os hk (fun e9=>hne (Own.at_blk.2 e9))) (Nat.le_add_right _ _)
  refine s2.close_sl (by rw [jD];exact hfz) hnc hcm (by rw [jD];exact hcs) ?_ ?_
  ·rw [← hF,pt _ _ (by omega),mn]
  ·rw [dC,Array.length_toList,hd]
theorem rM {W w':World} (h:Ext W w'):∃ q os',w'=grow (W.drewN q) os':=by
 refine ⟨w'.drawn - W.drawn,w'.heap.extract W.heap.size w'.heap.size,?_⟩
 have hh:w'.heap=W.heap++w'.heap.extract W.heap.size w'.heap.size:=by
  apply Array.ext_getElem?
  intro k
  rw [Array.getElem?_append]
  by_cases hk:k<W.heap.size
  ·rw [if_pos hk];exact h.block k hk
  ·rw [if_neg hk,Array.getElem?_extract]
   by_cases h2:k<w'.heap.size
   ·rw [if_pos (by omega)];congr 1;omega
   ·rw [if_neg (by omega),Array.getElem?_eq_none (by omega)]
 have h1:=h.os
 have h2:=h.tape
 have h3:=h.output
 have h4:=h.drawn
 obtain ⟨hp,tp,dr,o,ou⟩:=w'
 obtain ⟨hp2,tp2,dr2,o2,ou2⟩:=W
 simp only at h1 h2 h3 h4 hh
 subst h1;subst h2;subst h3
 have h5:dr2+(dr - dr2)=dr:=by omega
 simp only [grow,World.drewN,h5]
 rw [← hh]
theorem nH (x9:Id) (a b:Mb):ltOf (fun x y:Mb=>gd (x.2 - x9) (y.2 - x9)) a b=decide (fd x9 a.2<fd x9 b.2):=xP _ _ _
theorem xf (x9:Id):SWO (ltOf fun x y:Mb=>gd (x.2 - x9) (y.2 - x9)) where
 irrefl x:=by rw [nH];simp
 trans x y z h1 h2:=by rw [nH] at *;simp at *;omega
 ntrans x y z h1 h2:=by rw [nH] at *;simp at *;omega
theorem qq {l:List Mb} (h:Rg l) (x9:Id) {d:Array Mb} (hp:PermIn 0 l.toArray.size l.toArray d) (hs:SortedIn (ltOf fun x y:Mb=>gd (x.2 - x9) (y.2 - x9)) 0 l.toArray.size d):d.toList=eg x9 l:=by
 obtain ⟨hsz,_,hpm⟩:=hp
 have e1:d.extract 0 l.toArray.size=d:=by rw [← hsz];exact Array.extract_size
 rw [e1,Array.extract_size] at hpm
 refine AV h x9 hpm ?_
 rw [List.pairwise_iff_getElem]
 intro i j hi hj hij
 have hi':i<d.size:=by simpa using hi
 have hj':j<d.size:=by simpa using hj
 have:=hs i j (Nat.zero_le _) hij (by omega)
 rw [getElem!_pos d j hj',getElem!_pos d i hi',nH] at this
 simpa using this
end Go.Proofs.YthggibfkgofncaaGreat
namespace Go.Proofs.YthggibfkgofncaaGreat
open Go.RowKit
def t7 (ops:List Oper) (cls cons rd:List (List Nat)) (q:Nat):Bool:=(List.range ops.length).all fun i=>(rd.getD i []).all fun j=>
 decide (j<q) && (!(cons.getD i []).contains (ops.length+j) && (List.range ops.length).all fun k => !(cons.getD k []).contains (ops.length+j) || (cls.getD k []).contains i)
theorem yk {ops:List Oper} {cls cons rd:List (List Nat)} {q:Nat} (h:t7 ops cls cons rd q=true) {i:Nat} (hi:i<ops.length) {j:Nat} (hj:j∈rd.getD i []):j<q∧ops.length+j ∉ cons.getD i []∧∀ k,k<ops.length→ops.length+j∈cons.getD k []→i∈cls.getD k []:=by
 have h1:=List.all_eq_true.1 (List.all_eq_true.1 h i (List.mem_range.2 hi)) j hj
 rw [Bool.and_eq_true,Bool.and_eq_true] at h1
 refine ⟨of_decide_eq_true h1.1,eB.1 h1.2.1,fun k hk hm=>?_⟩
 have h2:=List.all_eq_true.1 h1.2.2 k (List.mem_range.2 hk)
 rw [Bool.or_eq_true] at h2
 rcases h2 with h2|h2
 ·exact absurd hm (eB.1 h2)
 ·exact List.contains_iff_mem.1 h2
section
variable {P:Program} {ro:Option Nat} {ops:List Oper} {cls cons:List (List Nat)} {a0:Act} {Q:Exit→Act→World→Prop} {w0 w1:World}
def DD (P:Program) (ops:List Oper) (cls cons rd:List (List Nat)) (Rs:List td) (I0:List (List Own)) (Fs:List sH) (Bs:List Own) (w0:World) (a0:Act) (i:Nat) (o:Oper):Prop:=
 ∀ (a:Act) (w:World) (val:Nat→Value) (E:List Own),a.tmps.size=a0.tmps.size→a.defers=a0.defers→
  (∀ t∈o.looksAt ops.toArray,iB ops (cls.getD i []) a0 a val t)→
  (∀ j∈cls.getD i [],jg cls Fs val j)→(∀ j∈rd.getD i [],∀ p∈I0.getD j [],p∈E)→St w0 ((cons.getD i []).flatMap (eQ ops cls Rs I0 val)++(Bs++E)) w→
  cy P ops.toArray (fun a' w'=>∃ v,(∀ d,o.dst=some d→a'.tmps.getD d undef=v)∧jg cls Fs (oz val i v) i∧St w0 (eQ ops cls Rs I0 (oz val i v) i++(Bs++E)) w') [o] a w
theorem qy {q rid m:Nat} {rd:List (List Nat)} (hrd:t7 ops cls cons rd q=true) {Rs:List td} {I0:List (List Own)} {Fs:List sH} {Bs:List Own} (hm:P.follows .mixedOrders=true) (hok:ey ops cls cons q a0.tmps.size=true) (hsel:Region.noSelect ops.toArray=true)
 (hml:m≤ops.length) (hT:∀ i,m≤i→i<ops.length→∀ j,j<i→j∈cls.getD i [])
 (hob:∀ i o,i<m→ops[i]? = some o→DD P ops cls cons rd Rs I0 Fs Bs w0 a0 i o)
 (s:St w0 (((List.range (ops.length+q)).filter (c6 ops cons fun _=>false)).flatMap (eQ ops cls Rs I0 fun _=>undef)++Bs) w1)
 (hfin:∀ (b:Act) (w:World) (val:Nat→Value),b.tmps.size=a0.tmps.size→b.defers=a0.defers→(∀ i d,i<m→aS ops i=some d→b.tmps.getD d undef=val i)→(∀ t,(∀ i,i<m→aS ops i≠some t)→b.tmps.getD t undef=a0.tmps.getD t undef)→
  (∀ i,i<m→jg cls Fs val i)→St w0 (((List.range (ops.length+q)).filter (c6 ops cons fun j=>Nat.blt j m)).flatMap (eQ ops cls Rs I0 val)++Bs) w→cy P ops.toArray (Q .normal) (ops.drop m) b w):
 (Code.region rid ops.toArray true).wpIn (FR ro) 0 P Q a0 w1:=by
 refine wpIn_region_any hm ?_
 have hend:∀ (listed:Array Bool) (a:Act) (w:World) (val:Nat→Value),JC ops cls cons q Rs I0 Fs Bs w0 a0 m listed a w val→(∀ i,i<m→listed.getD i false=true)→∀ fuel,ops.length=m+fuel→wpAnyIn (FR ro) 0 P .any ops.toArray Q fuel listed a w:=by
  intro listed a w val I hall fuel hfu
  refine j6 hok hT fuel m listed a w hfu (Nat.le_refl _) I.lsize hall I.tail ?_
  have hfd:fuel=(ops.drop m).length:=by rw [List.length_drop];omega
  rw [hfd,wpOpsIn_eq_wpListIn (ops.drop m) m (fun j=>by rw [List.getElem?_toArray,List.getElem?_drop])]
  refine cy.wp ?_
  refine hfin a w val I.size I.defers (fun i d hi hd=>I.done i d hd (hall i hi)) (fun t ht=>I.rest t fun j hj=>?_) (fun i hi=>I.facts i (hall i hi)) ?_
  ·rcases Nat.lt_or_ge j m with h|h
   ·exact absurd hj (ht j h)
   ·exact I.tail j h
  have hfun:(fun j=>listed.getD j false)=fun j=>Nat.blt j m:=by
   funext j
   rcases Nat.lt_or_ge j m with h|h
   ·rw [hall j h];exact(wg h).symm
   ·rw [mT h];exact I.tail j h
  have h9:=I.st
  rw [hfun] at h9
  exact h9
 have hcount:∀ (fuel:Nat) (listed:Array Bool) (a:Act) (w:World) (val:Nat→Value),listed.toList.count false=fuel→JC ops cls cons q Rs I0 Fs Bs w0 a0 m listed a w val→wpAnyIn (FR ro) 0 P .any ops.toArray Q fuel listed a w:=by
  intro fuel
  induction fuel with
  |zero=>
   intro listed a w val hc I
   have hall:∀ i,i<ops.length→listed.getD i false=true:=fun i hi=>eI hc i (by rw [I.lsize];exact hi)
   refine hend listed a w val I (fun i hi=>hall i (by omega)) 0 ?_
   rcases Nat.lt_or_ge m ops.length with h|h
   ·have:=I.tail m (Nat.le_refl _)
    rw [hall m h] at this;cases this
   ·omega
  |succ fuel ih=>
   intro listed a w val hc I
   by_cases hall:∀ i,i<m→listed.getD i false=true
   ·refine hend listed a w val I hall (fuel+1) ?_
    have key:∀ (b:List Bool) (m:Nat),m≤b.length→(∀ i,i<m→b[i]? = some true)→(∀ i,m≤i→i<b.length→b[i]? = some false)→b.count false=b.length - m:=by
     intro b
     induction b with
     |nil=>intro m _ _ _;simp
     |cons x b ihb=>
      intro m hm h1 h2
      cases m with
      |zero=>
       have hx:x=false:=by simpa using h2 0 (Nat.le_refl _) (by simp)
       have:=ihb 0 (Nat.zero_le _) (fun i hi=>by omega) (fun i _ hi=>by simpa using h2 (i+1) (Nat.zero_le _) (by simp;omega))
       subst hx;simp [this]
      |succ m=>
       have hx:x=true:=by simpa using h1 0 (by omega)
       have:=ihb m (by simpa using hm) (fun i hi=>by simpa using h1 (i+1) (by omega)) (fun i hi hi2=>by simpa using h2 (i+1) (by omega) (by simp;omega))
       subst hx;simp [this]
    have hk:=key listed.toList m (by simp [I.lsize];omega)
     (fun i hi=>by have:=hall i hi;have hil:i<listed.size:=by rw [I.lsize];omega
                   simp [hil] at this ⊢;exact this)
     (fun i hi hi2=>by have:=I.tail i hi;have hil:i<listed.size:=by simpa using hi2
                       simp [hil] at this ⊢;exact this)
    rw [hc] at hk
    simp [I.lsize] at hk
    omega
   refine ⟨fun hr=>absurd (fun i hi=>iX hok I.lsize hr i (by omega)) hall,fun k hk=>?_⟩
   obtain ⟨o,ho,hf,hdir⟩:=cB hk
   have hkl:=(List.getElem?_eq_some_iff.1 ho).1
   have hks:k<listed.size:=by rw [I.lsize];exact hkl
   have hkm:k<m:=by
    rcases Nat.lt_or_ge k m with h3|h3
    ·exact h3
    ·exfalso
     apply hall
     intro j hj
     rcases (eh hok ho).2 j (hT k h3 hkl j (by omega)) with h4|⟨p,hp,h4⟩
     ·exact hdir j h4
     ·exact I.closed p (hdir p hp) j h4
   have hu:=hf I.lsize
   have hcl:∀ j∈cls.getD k [],listed.getD j false=true:=fun j hj=>by
    rcases (eh hok ho).2 j hj with h1|⟨q,hq,h1⟩
    ·exact hdir j h1
    ·exact I.closed q (hdir q hq) j h1
   have hcnt:(listed.setIfInBounds k true).toList.count false=fuel:=by have:=fm hks hu;omega
   have hnk:∀ i,listed.getD i false=true→k ∉ cls.getD i []:=fun i hi hm=>by have:=I.closed i hi k hm;rw [hu] at this;cases this
   have hkk:k ∉ cls.getD k []:=fun hm=>by have:=np hok k hkl k hm;omega
   obtain ⟨hcn,hcc⟩:=jy hok ho
   have hclive:∀ j∈cons.getD k [],c6 ops cons (fun j=>listed.getD j false) j=true:=fun j hj=>by
    obtain ⟨_,h2,h3⟩:=hcc j hj
    refine dW.2 ⟨h2.imp id (hcl j),fun i hi hl hm=>?_⟩
    rw [h3 i hi hm] at hl
    rw [hu] at hl;cases hl
   have hperm:((List.range (ops.length+q)).filter (c6 ops cons fun j=>listed.getD j false)).Perm (cons.getD k []++(List.range (ops.length+q)).filter (fun j=>c6 ops cons (fun j=>listed.getD j false) j && !(cons.getD k []).contains j)):=by
    refine(List.perm_ext_iff_of_nodup (List.nodup_range.filter _) ?_).2 fun j=>?_
    ·rw [List.nodup_append]
     refine ⟨hcn,List.nodup_range.filter _,fun x hx y hy e=>?_⟩
     subst e
     have:=(Bool.and_eq_true _ _▸(List.mem_filter.1 hy).2:_∧_).2
     exact eB.1 this hx
    ·rw [List.mem_append,List.mem_filter,List.mem_filter,List.mem_range,Bool.and_eq_true]
     constructor
     ·rintro ⟨h1,h2⟩
      by_cases hj:j∈cons.getD k []
      ·exact .inl hj
      ·exact .inr ⟨h1,h2,eB.2 hj⟩
     ·rintro (h1|⟨h1,h2,_⟩)
      ·exact ⟨(hcc j h1).1,hclive j h1⟩
      ·exact ⟨h1,h2⟩
   obtain ⟨E,hE⟩:∃ E,E=((List.range (ops.length+q)).filter (fun j=>c6 ops cons (fun j=>listed.getD j false) j && !(cons.getD k []).contains j)).flatMap (eQ ops cls Rs I0 val):=⟨_,rfl⟩
   have hst:St w0 ((cons.getD k []).flatMap (eQ ops cls Rs I0 val)++(Bs++E)) w:=by
    refine I.st.perm ?_
    refine((hperm.flatMap_right _).append_right Bs).trans ?_
    rw [List.flatMap_append,← hE,List.append_assoc]
    exact(List.perm_append_comm).append_left _
   have hslots:∀ t∈o.looksAt ops.toArray,iB ops (cls.getD k []) a0 a val t:=fun t ht=>by
    unfold iB
    cases hw:dy ops (cls.getD k []) t with
    |some j=>
     obtain ⟨hmj,oj,hj,hdj⟩:=dL hw
     exact I.done j t (by rw [ci hj,hdj]) (hcl j hmj)
    |none=>
     refine I.rest t fun j hdj=>?_
     cases hb:listed.getD j false with
     |false=>rfl
     |true=>
      rcases pT hok ho t ht j hdj with h|h
      ·obtain ⟨oj,h1,h2⟩:=ee hdj
       exact absurd h (eo hw j oj h1 h2)
      ·exact absurd h (hnk j hb)
   have hrdE:∀ j∈rd.getD k [],∀ p∈I0.getD j [],p∈E:=fun j hj p hp=>by
    obtain ⟨h1,h2,h3⟩:=yk hrd hkl hj
    rw [hE]
    refine List.mem_flatMap.2 ⟨ops.length+j,List.mem_filter.2 ⟨List.mem_range.2 (by omega),?_⟩,?_⟩
    ·rw [Bool.and_eq_true]
     refine ⟨dW.2 ⟨.inl (Nat.le_add_right _ _),fun i hi hl hm=>hnk i hl (h3 i hi hm)⟩,eB.2 h2⟩
    ·unfold eQ
     rw [mT (Nat.le_add_right _ _),cond_false,Nat.add_sub_cancel_left];exact hp
   have hO:=hob k o hkm ho a w val E I.size I.defers hslots (fun j hj=>I.facts j (hcl j hj)) hrdE hst
   have hset:=bE hks
   have step:∀ v v' w',(∀ d,o.dst=some d→v'=v)→jg cls Fs (oz val k v) k→St w0 (eQ ops cls Rs I0 (oz val k v) k++(Bs++E)) w'→wpAnyIn (FR ro) 0 P .any ops.toArray Q fuel (listed.setIfInBounds k true) (a.put o.dst v') w':=fun v v' w' hv hF hS=>by
    have hmk:∀ i,listed.getD i false=true→w5 (i::cls.getD i []) (oz val k v)=w5 (i::cls.getD i []) val:=fun i hi=>nj fun j hj=>by
     refine hQ val v fun e=>?_
     subst e
     rcases List.mem_cons.1 hj with h|h
     ·subst h;rw [hu] at hi;cases hi
     ·exact hnk i hi h
    refine ih _ _ w' (oz val k v) hcnt ⟨by rw [Act.tmps_put_size];exact I.size,by cases o.dst<;>exact I.defers,by simp [I.lsize],fun i hi=>(by have h8:=I.tail i hi;have h7:k≠i:=(by omega);simpa [Array.getElem?_setIfInBounds_ne h7] using h8),fun i d hd hl=>?_,fun t ht=>?_,fun i hi j hj=>?_,fun i hi=>?_,?_⟩
    ·obtain ⟨hds,huniq⟩:=ia hok hd
     by_cases hik:i=k
     ·subst hik
      have hdo:o.dst=some d:=by rw [ci ho] at hd;exact hd
      rw [hdo,bQ,if_pos ⟨rfl,by rw [I.size];exact hds⟩,oD]
      exact hv d hdo
     ·have hne:o.dst≠some d:=fun e=>hik (huniq k (by rw [ci ho,e])).symm
      rw [hQ val v hik]
      have h9:=I.done i d hd (((hset i).1 hl).resolve_left hik)
      cases hdo:o.dst with
      |none=>exact h9
      |some d2=>rw [bQ,if_neg (fun h=>hne (by rw [hdo,h.1]))];exact h9
    ·have h9:=I.rest t fun j hj=>by
      have:=ht j hj
      cases hb:listed.getD j false with
      |false=>rfl
      |true=>rw [(hset j).2 (.inr hb)] at this;cases this
     cases hdo:o.dst with
     |none=>exact h9
     |some d2=>
      rw [bQ,if_neg]
      ·exact h9
      ·rintro ⟨e,_⟩
       subst e
       have:=ht k (by rw [ci ho,hdo])
       rw [(hset k).2 (.inl rfl)] at this;cases this
    ·rcases (hset i).1 hi with e|e
     ·subst e;exact(hset j).2 (.inr (hcl j hj))
     ·exact(hset j).2 (.inr (I.closed i e j hj))
    ·rcases (hset i).1 hi with e|e
     ·subst e;exact hF
     ·unfold jg
      rw [hmk i e]
      exact I.facts i e
    ·
     have hlive:∀ j,c6 ops cons (fun j=>(listed.setIfInBounds k true).getD j false) j=true↔(j=k∨(c6 ops cons (fun j=>listed.getD j false) j=true∧j ∉ cons.getD k [])):=fun j=>by
      rw [dW,dW]
      constructor
      ·rintro ⟨h1,h2⟩
       by_cases hjk:j=k
       ·exact .inl hjk
       ·refine .inr ⟨⟨h1.imp id fun h=>((hset j).1 h).resolve_left hjk,fun i hi hl=>h2 i hi ((hset i).2 (.inr hl))⟩,h2 k hkl ((hset k).2 (.inl rfl))⟩
      ·rintro (rfl|⟨⟨h1,h2⟩,h3⟩)
       ·refine ⟨.inr ((hset j).2 (.inl rfl)),fun i hi hl hm=>?_⟩
        have hio:ops[i]? = some ops[i]:=by simp [hi]
        rcases ((jy hok hio).2 j hm).2.1 with h|h
        ·omega
        ·rcases (hset i).1 hl with e|e
         ·subst e;exact hkk h
         ·exact hnk i e h
       ·refine ⟨h1.imp id fun h=>(hset j).2 (.inr h),fun i hi hl=>?_⟩
        rcases (hset i).1 hl with e|e
        ·subst e;exact h3
        ·exact h2 i hi e
     have hp2:((List.range (ops.length+q)).filter (c6 ops cons fun j=>(listed.setIfInBounds k true).getD j false)).Perm (k::(List.range (ops.length+q)).filter (fun j=>c6 ops cons (fun j=>listed.getD j false) j && !(cons.getD k []).contains j)):=by
      refine(List.perm_ext_iff_of_nodup (List.nodup_range.filter _) ?_).2 fun j=>?_
      ·rw [List.nodup_cons]
       refine ⟨fun hm=>?_,List.nodup_range.filter _⟩
       have h1:=(List.mem_filter.1 hm).2
       rw [Bool.and_eq_true] at h1
       rcases (dW.1 h1.1).1 with h|h
       ·omega
       ·rw [hu] at h;cases h
      ·rw [List.mem_filter,List.mem_cons,List.mem_filter,List.mem_range,Bool.and_eq_true,hlive]
       constructor
       ·rintro ⟨h1,h2|⟨h2,h3⟩⟩
        ·exact .inl h2
        ·exact .inr ⟨h1,h2,eB.2 h3⟩
       ·rintro (h1|⟨h1,h2,h3⟩)
        ·exact ⟨by omega,.inl h1⟩
        ·exact ⟨h1,.inr ⟨h2,eB.1 h3⟩⟩
     refine hS.perm ?_
     refine List.Perm.trans ?_ ((hp2.flatMap_right _).append_right Bs).symm
     rw [List.flatMap_cons]
     have hEq:((List.range (ops.length+q)).filter (fun j=>c6 ops cons (fun j=>listed.getD j false) j && !(cons.getD k []).contains j)).flatMap (eQ ops cls Rs I0 (oz val k v))=E:=by
      rw [hE,List.flatMap_def,List.flatMap_def]
      congr 1
      refine List.map_congr_left fun j hj=>?_
      have h1:=(List.mem_filter.1 hj).2
      rw [Bool.and_eq_true] at h1
      unfold eQ
      rcases Nat.lt_or_ge j ops.length with h|h
      ·have hl:=(dW.1 h1.1).1.resolve_left (by omega)
       rw [hmk j hl]
      ·rw [mT h];rfl
     rw [hEq,List.append_assoc]
     exact(List.perm_append_comm).append_left _
   have ho':ops.toArray[k]? = some o:=by simpa using ho
   unfold wpOpIn
   simp only [ho']
   unfold cy at hO
   split at hO
   ·rename_i hw
    rw [if_pos hw]
    exact hO.wp fun v w' h9=>by
     unfold cy at h9
     obtain ⟨u,h1,h2,h3⟩:=h9
     refine step u v w' (fun d hd=>?_) h2 h3
     have:=h1 d hd
     rwa [hd,bQ,if_pos ⟨rfl,by rw [I.size];exact(ia hok (by rw [ci ho,hd])).1⟩] at this
   ·rename_i hw
    rw [if_neg hw]
    unfold cy at hO
    obtain ⟨u,h1,h2,h3⟩:=hO
    refine ⟨fun _ _=>trivial,step u undef w (fun d hd=>?_) h2 h3⟩
    have:=h1 d hd
    rwa [hd,bQ,if_pos ⟨rfl,by rw [I.size];exact(ia hok (by rw [ci ho,hd])).1⟩] at this
 have hz:∀ i,(Array.replicate ops.toArray.size false).getD i false=false:=fun i=>by simp [Array.getElem?_replicate];split<;>rfl
 have hfz:(fun j=>(Array.replicate ops.toArray.size false).getD j false)=fun _=>false:=funext hz
 refine hcount _ _ _ _ (fun _=>undef) (by simp) ⟨rfl,rfl,by simp,fun i _=>hz i,fun i d _ h=>?_,fun _ _=>rfl,fun i h=>?_,fun i h=>?_,?_⟩
 ·rw [hz] at h;cases h
 ·rw [hz] at h;cases h
 ·rw [hz] at h;cases h
 ·rw [hfz];exact s.drew
def zN (P:Program) (ops:List Oper) (cls cons rd:List (List Nat)) (Rs:List td) (I0:List (List Own)) (Fs:List sH) (Bs:List Own) (w0:World) (a0:Act):List Oper→Nat→Prop
 |[],_=>True
 |o::r,i=>DD P ops cls cons rd Rs I0 Fs Bs w0 a0 i o∧zN P ops cls cons rd Rs I0 Fs Bs w0 a0 r (i+1)
theorem o7 {rd:List (List Nat)} {Rs:List td} {I0:List (List Own)} {Fs:List sH} {Bs:List Own}:∀ {l:List Oper} {k:Nat},zN P ops cls cons rd Rs I0 Fs Bs w0 a0 l k→∀ i o,l[i]? = some o→DD P ops cls cons rd Rs I0 Fs Bs w0 a0 (k+i) o
 |[],_,_,i,o,h=>by simp at h
 |x::r,k,H,0,o,h=>by simp at h;subst h;exact H.1
 |x::r,k,H,i+1,o,h=>by
  have:=o7 H.2 i o (by simpa using h)
  rwa [show k+(i+1)=k+1+i by omega]
theorem uT {rid N:Nat} {L:List (Nat × Value)} {Df:List Deferred} {B:List Own} (q:Nat) (cls cons rd:List (List Nat)) (Rs:List td) (I0:List (List Own)) (Fs:List sH) (Bs:List Own)
 (h:Sl N a0 L Df) (s:St w0 B w1) (hB:((List.range (ops.length+q)).filter (c6 ops cons fun _=>false)).flatMap (eQ ops cls Rs I0 fun _=>undef)++Bs=B) (hm:P.follows .mixedOrders=true) (hok:ey ops cls cons q N=true) (hrd:t7 ops cls cons rd q=true) (hsel:Region.noSelect ops.toArray=true)
 (hob:zN P ops cls cons rd Rs I0 Fs Bs w0 a0 ops 0) (lv:List Nat) (hlv:(List.range (ops.length+q)).filter (c6 ops cons fun j=>Nat.blt j ops.length)=lv)
 (hfin:∀ (b:Act) (w:World) (val:Nat→Value),b.tmps.size=N→b.defers=Df→(∀ i d,aS ops i=some d→b.tmps.getD d undef=val i)→(∀ t,(∀ i,aS ops i≠some t)→b.tmps.getD t undef=a0.tmps.getD t undef)→
  (∀ i,Nat.blt i ops.length=true→jg cls Fs val i)→St w0 (lv.flatMap (eQ ops cls Rs I0 val)++Bs) w→Q .normal b w):
 (Code.region rid ops.toArray true).wpIn (FR ro) 0 P Q a0 w1:=by
 subst hB
 refine qy hrd (m:=ops.length) (Fs:=Fs) (I0:=I0) (Rs:=Rs) hm (by rw [h.size];exact hok) hsel (Nat.le_refl _) (fun i h1 h2=>absurd h2 (by omega)) (fun i o _ hi=>?_) s fun b w val h1 h2 h3 h4 h5 h6=>?_
 ·have:=o7 hob i o hi
  rwa [Nat.zero_add] at this
 ·rw [List.drop_length]
  refine cy.nil.2 (hfin b w val (h1.trans h.size) (h2.trans h.defers) (fun i d hd=>h3 i d (jT hd) hd) (fun t ht=>h4 t fun i _=>ht i) (fun i hi=>h5 i (Nat.le_of_ble_eq_true hi)) (by rw [hlv] at h6;exact h6))
end
theorem St.memSl {w0 w:World} {B:List Own} {v:Value} {e:TypeId} {sz n:Nat} {xs:List Value} (s:St w0 B w) (h:Own.sl v e sz n xs∈B):cH w w0.heap.size e sz v n xs:=by
 obtain ⟨i,hi⟩:=List.mem_iff_getElem?.1 h
 exact s.getSl i hi
end Go.Proofs.YthggibfkgofncaaGreat
namespace Go.Proofs.YthggibfkgofncaaGreat
open Go.RowKit
theorem oT {P:Program} {l0:Nat} {r0:Loop} {w:World} (h:w.heap[l0]? = some (.loop r0)) (fn:FuncId) (tmps:Array Value) (ps:Array Tmp) (assign body:Code):
 (Instr.enterLoop fn tmps ps assign body (some l0)).run P w=.ok (w.heap.size,[]) (w.alloc (.loop {state:=.ready,pending:=none,fn,tmps,params:=ps,assign,body,defers:=r0.defers})):=by
 unfold Instr.enterLoop
 simp only [Sem.run_bind,run_getLoop h,run_newObj_alloc,Result.andThen,Sem.run_pure]
theorem vW {P:Program} {N lo:Nat} {ro:Loop} {a:Act} {L:List (Nat × Value)} {Df:List Deferred} {w w0:World} {B:List Own} {g:Operand} {ps:Array Tmp} {assign body:Code} {f:FuncId} {lb:Array Value} {Q:Exit→Act→World→Prop}
 (J:Nat→List Own→Prop) (A0:List Own) (X:List Own) (m:Nat) (q:Nat→Bool) (arg:Nat→List Value) (h:Sl N a L Df) (s:St w0 B w) (hg:eD L g=some (.func (.func f) #[] lb)) (hf:Fnc P f) (io:Nat) (hio:B[io]? = some (.blk lo (.loop ro)))
 (hB:B.Perm (X++A0)) (hJ0:J 0 A0) (hps:∀ d,(arg d).length=ps.size)
 (hiter:∀ (l:Nat) (w1:World) (GG:Nat→Own→Prop) (g0:Own),GG 0 g0→St w0 (X++[g0]) w1→
  (∀ (d:Nat) (B':List Own) (w':World) (i:Nat) (g:Own),d<m→(∀ j,j<d→q j=false)→GG d g→St w0 B' w'→B'[i]? = some g→gS P l (arg d).toArray w' (fun v w''=>v=.bool (!q d)∧∃ g',GG (d+1) g'∧St w0 (B'.set i g') w''))→
  Calls P f (#[.func (.yield l) #[] #[]]++lb) w1 (fun e w'=>(∃ v,e=.returned v)∧∃ d g,GG d g∧St w0 (X++[g]) w'∧d≤m∧(∀ j,j+1<d→q j=false)∧(lq q d=false→d=m)))
 (hround:∀ (l d:Nat) (rc:LoopState→Loop) (R A:List Own) (w1:World),d<m→(∀ j,j<d→q j=false)→J d A→St w0 (.blk l (.loop (rc .ready))::(A++R)) w1→
  assign.wpIn (FR (some l)) 0 P (Exit.then (fun a1 w2=>∃ X1,St w0 (.blk l (.loop (rc .ready))::X1) w2∧∀ w3,St w0 (.blk l (.loop (rc .busy))::X1) w3→body.wpIn (FR (some l)) 0 P
   (fun e _ w4=>uj (q d) e∧∃ A',J (d+1) A'∧St w0 (.blk l (.loop (rc .busy))::(A'++R)) w4) a1 w3) (fun _ _ _=>False))
   {tmps:=(ps.zip (arg d).toArray).foldl (fun t (p,v)=>t.setIfInBounds p v) a.tmps,defers:=[]} w1)
 (hdone:∀ (A:List Own) (w2:World),J m A→(∀ j,j<m→q j=false)→St w0 (X++A) w2→Q .normal a w2)
 (hleft:∀ (d:Nat) (A:List Own) (w2:World),d<m→q d=true→(∀ j,j<d→q j=false)→J (d+1) A→St w0 (X++A) w2→Q .ret a w2):
 (Code.rangeFunc g ps assign body).wpIn (FR (some lo)) 0 P Q a w:=by
 refine wpIn_rangeFunc (F:=FR (some lo)) fun fn _=>?_
 obtain ⟨rq,hrq⟩:∃ rq,rq=fun pe st=>fQ a ro.defers fn ps assign body pe st:=⟨_,rfl⟩
 obtain ⟨df,e1,e2,e3⟩:=hf.has
 have hl0:fQ a ro.defers fn ps assign body none .ready=rq none .ready:=by rw [hrq]
 refine ⟨w.heap.size,[],w.alloc (.loop (rq none .ready)),{target:=.fn (.func f) lb,args:=#[.func (.yield w.heap.size) #[] #[]]},w.alloc (.loop (rq none .ready)),f,
  #[.func (.yield w.heap.size) #[] #[]]++lb,w.alloc (.loop (rq none .ready)),?_,?_,fun _ _=>trivial,?_,(fun hh=>by cases hh),?_⟩
 ·rw [hrq];exact oT (s.get io hio) _ _ _ _ _
 ·simp only [resolve,h.ev hg]
  simp [go_sem]
 ·simp only [invoke];exact fb e1 e2 e3 _ _
 have s1:St w0 (.blk w.heap.size (.loop (rq none .ready))::B) (w.alloc (.loop (rq none .ready))):=s.new (.loop (rq none .ready))
 have s2:St w0 ((.blk w.heap.size (.loop (rq none .ready))::A0)++X) (w.alloc (.loop (rq none .ready))):=
  s1.perm ((hB.trans List.perm_append_comm).cons _)
 have hnd0:=d4 s2
 have s3:=s2.group
 refine callsIn_wide.2 ((hiter w.heap.size _ (fun d g=>∃ A,J d A∧g=.all w0 (.blk w.heap.size (.loop (rq (mY (lq q d)) (oA (lq q d))))::A)∧
  (Own.blk w.heap.size (.loop (rq (mY (lq q d)) (oA (lq q d))))::A).Pairwise fun p q=>∀ k,p.at k→¬ q.at k)
  _ ⟨A0,hJ0,rfl,hnd0⟩ (s3.perm (List.perm_append_comm (l₁:=[_]))) ?_).mono ?_)
 ·rintro d B' w' i g hd hq0 ⟨A,hJ,rfl,hnd⟩ s' hi
  have hlq:lq q d=false:=by cases d with|zero=>rfl|succ d=>exact hq0 d (Nat.lt_succ_self d)
  rw [hlq] at hi hnd
  have hil:=(List.getElem?_eq_some_iff.1 hi).1
  have s4:St w0 ((.blk w.heap.size (.loop (rq none .ready))::A)++B'.eraseIdx i) w':=(s'.perm (iZ hi)).ungroup hnd
  have hl:=s4.get 0 rfl
  have hy:=run_yield (P:=P) (args:=(arg d).toArray) hl (by rw [hrq,List.size_toArray];exact hps d)
  refine ⟨_,_,_,_,hy,?_⟩
  have hw:=hround w.heap.size d (rq none) (B'.eraseIdx i) A w' hd hq0 hJ (by simpa using s4)
  subst hrq
  refine roundIn_of_wpIn (F:=Fence.wide) (n:=0) trivial (Go.wpIn_mono hw ?_)
  intro e a1 w2 he
  cases e with
  |normal=>
   obtain ⟨X1,s5,hb⟩:=he
   refine ⟨_,run_beginRound (s5.get 0 rfl) rfl,Go.wpIn_mono (hb _ (s5.putObj 0 rfl _)) ?_⟩
   rintro e2 a3 w4 ⟨hle,A',hJ',s6⟩
   have key:∀ (jump:Option Code),jump=mY (q d)→∃ v w',(Instr.endRound w.heap.size jump).run P w4=.ok v w'∧∃ u,Ending.returned v=.returned u∧u=.bool (!q d)∧∃ g',(∃ A,J (d+1) A∧g'=Own.all w0 (.blk w.heap.size (.loop (fQ a ro.defers fn ps assign body (mY (q d)) (oA (q d))))::A)∧
    (Own.blk w.heap.size (.loop (fQ a ro.defers fn ps assign body (mY (q d)) (oA (q d))))::A).Pairwise fun p q=>∀ k,p.at k→¬ q.at k)∧St w0 (B'.set i g') w':=by
    rintro jump rfl
    refine ⟨_,_,run_endRound _ (s6.get 0 rfl),_,rfl,(by cases q d<;>rfl),_,⟨A',hJ',rfl,?_⟩,?_⟩
    ·have hn:=d4 (A:=.blk w.heap.size (.loop (fQ a ro.defers fn ps assign body none .busy))::A') (R:=B'.eraseIdx i) (by simpa using s6)
     exact pD (A:=.blk w.heap.size (.loop (fQ a ro.defers fn ps assign body none .busy))::A') rfl hn
    ·have s7:=s6.putObj 0 rfl (.loop (fQ a ro.defers fn ps assign body (mY (q d)) (oA (q d))))
     have s8:St w0 ((.blk w.heap.size (.loop (fQ a ro.defers fn ps assign body (mY (q d)) (oA (q d))))::A')++B'.eraseIdx i) _:=s7
     have s9:=s8.group.perm (ng hil _)
     cases hqd:q d<;>rw [hqd] at s9<;>exact s9
   cases e2 with
   |normal=>exact key none (by rw [show q d=false from hle];rfl)
   |ret=>exact key (some .ret) (by rw [show q d=true from hle];rfl)
   |exit _=>exact hle.elim
   |goto _=>exact hle.elim
   |panic _=>exact hle.elim
   |outgrown=>exact hle.elim
  |ret=>exact he.elim
  |exit _=>exact he.elim
  |goto _=>exact he.elim
  |panic _=>exact he.elim
  |outgrown=>exact he.elim
 ·rintro e w2 ⟨⟨v,rfl⟩,d,g,⟨A,hJ,rfl,hnd⟩,s4,hdm,hq0,hend⟩
  have s5:St w0 ((.blk w.heap.size (.loop (rq (mY (lq q d)) (oA (lq q d))))::A)++X) w2:=(s4.perm (List.perm_append_comm (l₂:=[_]))).ungroup hnd
  have hl:=s5.get 0 rfl
  subst hrq
  refine ⟨mY (lq q d),_,run_endLoop hl (by cases lq q d<;>simp [fQ,oA]),?_⟩
  have s6:=s5.putObj 0 rfl (.loop {fQ a ro.defers fn ps assign body (mY (lq q d)) (oA (lq q d)) with state:=.exhausted})
  have s7:=(s6.pick (A++X) (List.sublist_cons_self _ _)).perm List.perm_append_comm
  cases hqd:lq q d with
  |false=>
   obtain rfl:=hend hqd
   refine hdone A _ hJ (fun j hj=>?_) (by rw [hqd] at s7;exact s7)
   by_cases h1:j+1<d
   ·exact hq0 j h1
   ·have:d=j+1:=by omega
    subst this;exact hqd
  |true=>
   cases d with
   |zero=>cases hqd
   |succ d=>
    refine wpIn_ret ?_
    exact hleft d A _ (by omega) hqd (fun j hj=>hq0 j (by omega)) hJ (by rw [hqd] at s7;exact s7)
section
variable {P:Program} {ops:Array Oper} {Q:Act→World→Prop} {l:List Oper} {a:Act} {w w0:World} {N:Nat} {L:List (Nat × Value)} {Df:List Deferred} {B:List Own} {d:Tmp} {ty:TypeId} {pos:String} {af:Array Edge} {x y z:Operand} {t e:TypeId}
theorem mt {v u9:Value} {sz n p:Nat} {xs ys D:List Value} (i:Nat) (h:Sl N a L Df) (s:St w0 B w) (hx:eD L x=some (.pointer (some (aF v p)))) (hy:eD L y=some u9) (hi:B[i]? = some (.sl v e sz n xs)) (hp:p+D.length≤n*sz) (h1:0<D.length) (hv:∀ u∈D,u.oneCell'=true)
 (hst:∀ (g:Nat) (w9:World) (cur:Array Value) (fz:Nat × Nat),w9.heap[g]? = some (.cells cur e fz)→(fz.2=0∨cur.size≤fz.1)→p+D.length≤cur.size→(storeVar t ⟨g,p,none⟩ u9).run P w9=.ok () (w9.setRow g (cur.toList.take p++D++cur.toList.drop (p+D.length)).toArray))
 (hys:xs.take p++D++xs.drop (p+D.length)=ys)
 (k:∀ w',St w0 (B.set i (.sl v e sz n ys)) w'→cy P ops Q l a w'):cy P ops Q (⟨none,.store t x y,ty,pos,af,none⟩::l) a w:=by
 have ho:=s.getSl i hi
 rcases ho.2 with ⟨_,h0⟩|⟨g,cap,cur,fz,rfl,hb,hg,hfz,hnc,hcm,hcs,htk⟩
 ·subst h0;omega
 ·have hcl:n*sz≤cur.size:=by rw [hcs];exact Nat.mul_le_mul_right _ hnc
  have hxl:xs.length=n*sz:=ho.1
  have hcx:cur.toList=xs++cur.toList.drop (n*sz):=by rw [← htk];exact(List.take_append_drop _ _).symm
  have hyl:ys.length=n*sz:=by
   rw [← hys];simp only [List.length_append,List.length_take,List.length_drop];omega
  have hnew:cur.toList.take p++D++cur.toList.drop (p+D.length)=ys++cur.toList.drop (n*sz):=by
   rw [← hys]
   conv=>lhs;rw [hcx]
   rw [List.take_append_of_le_length (by omega),List.drop_append_of_le_length (by omega)]
   simp only [List.append_assoc]
  have hel:(some (aF (Value.slice (some ⟨g,0,none⟩) n cap) p):Option Addr)=some ⟨g,p,none⟩:=by show some (Addr.add _ _)=_;rw [Addr.add_lit,Nat.zero_add]
  have hstr:=hst g w cur fz hg hfz (by omega)
  rw [hnew] at hstr
  have hsz:(ys++cur.toList.drop (n*sz)).toArray.size=cur.size:=by
   rw [List.size_toArray,List.length_append,List.length_drop,hyl];have:=Array.length_toList (xs:=cur);omega
  refine gq (R:=fun _ w'=>w'=w.setRow g (ys++cur.toList.drop (n*sz)).toArray) ?_ fun w' _ hw=>by
   subst hw
   refine k _ (s.upd i hi (p':=.sl _ e sz n ys) rfl rfl rfl (by simp) ⟨hyl,.inr ⟨g,cap,_,fz,rfl,hb,setRow_heap w g cur _ e fz hg,?_,hnc,hcm,?_,?_⟩⟩ (fun k hk=>.inl hk) (fun k hk hne=>setRow_other w g k _ fun e9=>hne (Own.at_sl.2 (by simp [Value.ownBlock,e9]))))
   ·rw [hsz];exact hfz
   ·rw [hsz];exact hcs
   ·show (ys++cur.toList.drop (n*sz)).take (n*sz)=ys
    rw [← hyl];exact List.take_left
  unfold cQ
  rw [hel] at hx
  simp only [execOp,h.ev hx,h.ev hy,Instr.storeAt,Instr.sureAddr,Sem.run_bind,Sem.run_pure,Result.andThen_ok,hstr]
theorem kB {v V:Value} {sz n p:Nat} {xs ys:List Value} (i:Nat) (h:Sl N a L Df) (s:St w0 B w) (ho:One P t) (hx:eD L x=some (.pointer (some (aF v p)))) (hy:eD L y=some V) (hi:B[i]? = some (.sl v e sz n xs)) (hp:p+1≤n*sz) (hv:V.oneCell'=true)
 (hys:xs.set p V=ys)
 (k:∀ w',St w0 (B.set i (.sl v e sz n ys)) w'→cy P ops Q l a w'):cy P ops Q (⟨none,.store t x y,ty,pos,af,none⟩::l) a w:=by
 have hxl:xs.length=n*sz:=(s.getSl i hi).1
 refine mt (D:=[V]) i h s hx hy hi hp (by simp) (fun u hu=>by rw [List.mem_singleton] at hu;subst hu;exact hv) (fun g w9 cur fz hg hfz hc=>?_) (by rw [← hys];simp only [List.length_cons,List.length_nil,Nat.zero_add];rw [List.set_eq_take_append_cons_drop,if_pos (by omega)];simp) k
 have hs:(sizeOf t).run P w9=.ok 1 w9:=by
  cases hq:P.info? t with
  |none=>have:=ho.size;simp [hq] at this
  |some i=>have:=ho.size;simp [hq] at this;simp [sizeOf,typeInfo,Sem.run_bind,hq,this]
 have hc1:V.cells=#[V]:=by
  cases V<;>first|rfl|(simp [Value.oneCell'] at hv)
 have:=cT P g p e fz [V] 0 cur w9 hg hfz (by simpa using hc) (fun u hu=>by rw [List.mem_singleton] at hu;subst hu;exact hv)
 simp only [Nat.add_zero,List.length_cons,List.length_nil,Nat.zero_add] at this
 simp [storeVar,Sem.run_bind,hs,hc1,this]
theorem tN {b c:Nat} {es:Array MapEntry} {n:Int} {V:Value} {kt et:TypeId} (i:Nat) (h:Sl N a L Df) (s:St w0 B w) (ht:P.underlying t=some (.map kt et)) (hk:P.underlying kt=some (.int .i64))
 (hx:eD L x=some (.map (some b))) (hy:eD L y=some (.int .i64 n)) (hz:eD L z=some V) (hi:B[i]? = some (.blk b (.map es c))) (hf:Instr.findNow (.int .i64) (.int .i64 n) es.toList 0=some none)
 (k:∀ w',St w0 (B.set i (.blk b (.map (es.push {key:=.int .i64 n,val:=V,born:=c}) (c+1)))) w'→cy P ops Q l a w'):cy P ops Q (⟨none,.mapUpdate t x y z,ty,pos,af,none⟩::l) a w:=by
 have hb:=s.get i hi
 have hrun:(Instr.mapUpdate t (.map (some b)) (.int .i64 n) V).run P w=.ok () (w.putObj b (.map (es.push {key:=.int .i64 n,val:=V,born:=c}) (c+1))):=by
  simp [Instr.mapUpdate,run_underlying ht,MapKept.run_getObj_map hb,MapKept.run_checkKey hk (show MapKept.IsKey (.int .i64) (.int .i64 n) from rfl),MapKept.run_findKey hk hf,MapKept.run_setObj_map _ hb,Result.andThen,World.putObj]
 refine gq (R:=fun v' w'=>w'=w.putObj b (.map (es.push {key:=.int .i64 n,val:=V,born:=c}) (c+1))) ?_ fun w' v' hw=>by subst hw;exact k _ (s.putObj i hi _)
 simp [cQ,execOp,h.ev hx,h.ev hy,h.ev hz,hrun,Result.andThen]
theorem q6 {b c:Nat} {es:Array MapEntry} {n:Int} {Z V:Value} {ok:Bool} {kt et:TypeId} (h:Sl N a L Df) (hb:w.heap[b]? = some (.map es c)) (ht:P.underlying t=some (.map kt et)) (hk:P.underlying kt=some (.int .i64)) (hZ:(P.info? et).bind (·.zero)=some Z)
 (hx:eD L x=some (.map (some b))) (hy:eD L y=some (.int .i64 n))
 (hf:(∃ j,Instr.findNow (.int .i64) (.int .i64 n) es.toList 0=some (some (j,V))∧ok=true)∨(Instr.findNow (.int .i64) (.int .i64 n) es.toList 0=some none∧V=Z∧ok=false)) (hd:Nat.blt d N=true)
 (k:∀ a',Sl N a' ((d,.tuple #[V,.bool ok])::L) Df→cy P ops Q l a' w):cy P ops Q (⟨some d,.lookup t x y true,ty,pos,af,none⟩::l) a w:=by
 have hzr:(zeroValue et).run P w=.ok Z w:=by
  cases hi9:P.info? et with
  |none=>simp [hi9] at hZ
  |some info=>simp [hi9] at hZ;simp [zeroValue,typeInfo,hi9,hZ,Result.andThen]
 have hrun:(Instr.lookup t (.map (some b)) (.int .i64 n) true).run P w=.ok (.tuple #[V,.bool ok]) w:=by
  rcases hf with ⟨j,hf,rfl⟩|⟨hf,rfl,rfl⟩
  ·simp [Instr.lookup,run_underlying ht,MapKept.run_getObj_map hb,MapKept.run_checkKey hk (show MapKept.IsKey (.int .i64) (.int .i64 n) from rfl),MapKept.run_findKey hk hf,Result.andThen]
  ·simp [Instr.lookup,run_underlying ht,MapKept.run_getObj_map hb,MapKept.run_checkKey hk (show MapKept.IsKey (.int .i64) (.int .i64 n) from rfl),MapKept.run_findKey hk hf,hzr,Result.andThen]
 refine dm h (R:=fun v w'=>v=.tuple #[V,.bool ok]∧w'=w) ?_ hd fun a' w' v ⟨hv,hw⟩ h'=>by subst hv;subst hw;exact k _ h'
 simp [cQ,execOp,h.ev hx,h.ev hy,hrun,Result.andThen]
end
theorem nX {P:Program} {e:TypeId} {sz by_:Nat} (h:((P.info? e).bind fun i=>i.zero.map fun z=>(i.size,i.bytes,z.cells.size))=some (sz,by_,sz)) (h0:0<sz):Elm P e sz by_:=by
 cases hi:P.info? e with
 |none=>rw [hi] at h;simp at h
 |some i=>
  rw [hi] at h
  cases hz:i.zero with
  |none=>simp [hz] at h
  |some z=>
   simp only [Option.bind_some,hz,Option.map_some,Option.some.injEq,Prod.mk.injEq] at h
   exact ⟨⟨i,z,hi,hz,h.1,h.2.1,h.2.2⟩,h0⟩
section
variable {P:Program} {ρ:Operand→Value} {d:Option Tmp} {ty:TypeId} {pos:String} {af:Array Edge} {g:Option (Nat × Bool)} {x y:Operand} {t t' e:TypeId}
theorem vd {w:World} (ht:P.underlying t=some (.pointer e)) (q:Option Addr) (n:Nat):(Op.equalIn (n+1) t (.pointer q) (.pointer none)).run P w=.ok q.isNone w:=by
 cases q<;>simp [Op.equalIn,run_underlying ht]
theorem m7 {w:World} (ht:P.underlying t=some (.pointer e)) (q:Option Addr):(Op.equal t (.pointer q) (.pointer none)).run P w=.ok q.isNone w:=vd ht q 9999
theorem fL {q:Option Addr} (ht:P.underlying t=some (.pointer e)) (hx:ρ x=.pointer q) (hy:ρ y=.pointer none):bM P ⟨d,.binOp .eql t x y t',ty,pos,af,g⟩ ρ (.bool q.isNone):=fun w=>by
 simp [execOp,hx,hy,eqGuard,binOp,m7 ht,Result.andThen]
theorem dV {q:Option Addr} (ht:P.underlying t=some (.pointer e)) (hx:ρ x=.pointer q) (hy:ρ y=.pointer none):bM P ⟨d,.binOp .neq t x y t',ty,pos,af,g⟩ ρ (.bool !q.isNone):=fun w=>by
 simp [execOp,hx,hy,eqGuard,binOp,m7 ht,Result.andThen]
end
def yF (ks:List Int):Array MapEntry:=(ks.zipIdx.map fun p=>{key:=Value.int .i64 p.1,val:=Value.agg #[],born:=p.2}).toArray
theorem uS (ks:List Int) (n:Int):(yF ks).push {key:=.int .i64 n,val:=.agg #[],born:=ks.length}=yF (ks++[n]):=by
 unfold yF
 rw [List.zipIdx_append,List.map_append,List.push_toArray]
 simp
theorem oY {ks:List Int} {n:Int} (h:n ∉ ks):Instr.findNow (.int .i64) (.int .i64 n) (yF ks).toList 0=some none:=by
 refine rr n _ 0 fun e he=>?_
 obtain ⟨p,hp,rfl⟩:=List.mem_map.1 he
 refine ⟨p.1,fun e9=>h ?_,rfl⟩
 rw [← e9]
 exact List.fst_mem_of_mem_zipIdx hp
theorem nh (n:Int):∀ (es:List MapEntry) (i:Nat),(∀ e∈es,∃ m:Int,e.key=.int .i64 m∧e.val=.agg #[])→(∃ e∈es,e.key=.int .i64 n)→∃ j,Instr.findNow (.int .i64) (.int .i64 n) es i=some (some (j,.agg #[]))
 |[],_,_,h=>by obtain ⟨e,he,_⟩:=h;cases he
 |e::es,i,h,hx=>by
  obtain ⟨m,he,hv⟩:=h e List.mem_cons_self
  unfold Instr.findNow
  rw [he]
  have hs:Instr.sameNow (.int .i64) (.int .i64 n) (.int .i64 m)=some (n == m):=by simp [Instr.sameNow]
  rw [hs]
  by_cases hm:n=m
  ·subst hm;simp only [BEq.rfl];exact ⟨i,by rw [hv]⟩
  ·rw [beq_eq_false_iff_ne.2 hm]
   refine nh n es (i+1) (fun e9 h9=>h e9 (List.mem_cons_of_mem _ h9)) ?_
   obtain ⟨e9,h9,h8⟩:=hx
   rcases List.mem_cons.1 h9 with rfl|h9
   ·rw [he] at h8;simp only [Value.int.injEq,true_and] at h8;exact absurd h8.symm hm
   ·exact ⟨e9,h9,h8⟩
theorem vv {ks:List Int} {n:Int} (h:n∈ks):∃ j,Instr.findNow (.int .i64) (.int .i64 n) (yF ks).toList 0=some (some (j,.agg #[])):=by
 refine nh n _ 0 (fun e he=>?_) ?_
 ·obtain ⟨p,hp,rfl⟩:=List.mem_map.1 he
  exact ⟨p.1,rfl,rfl⟩
 ·obtain ⟨i,hi,e⟩:=List.getElem_of_mem h
  refine ⟨{key:=Value.int .i64 n,val:=Value.agg #[],born:=i},List.mem_map.2 ⟨(n,i),?_,rfl⟩,rfl⟩
  rw [List.mem_zipIdx_iff_getElem?]
  simp [e,hi]
theorem wX (ks:List Int) (n:Int):(∃ j,Instr.findNow (.int .i64) (.int .i64 n) (yF ks).toList 0=some (some (j,.agg #[]))∧decide (n∈ks)=true)∨(Instr.findNow (.int .i64) (.int .i64 n) (yF ks).toList 0=some none∧Value.agg #[]=Value.agg #[]∧decide (n∈ks)=false):=by
 by_cases h:n∈ks
 ·obtain ⟨j,hj⟩:=vv h;exact .inl ⟨j,hj,decide_eq_true h⟩
 ·exact .inr ⟨oY h,rfl,decide_eq_false h⟩
end Go.Proofs.YthggibfkgofncaaGreat
namespace Go.Proofs.YthggibfkgofncaaGreat
open Go.RowKit
def az (L:List N3) (no:Int):Nat:=L.findIdx fun x=>decide (x.1.me.1=no)
def qO (vo:Value) (L:List N3) (no:Int):Value:=bif decide (az L no<L.length) then .pointer (some (aF vo (az L no*68))) else .pointer none
theorem zE {L:List N3} {no:Int} {k:Nat} (hk:k<L.length) (h:∀ j,j<k→decide ((L.getD j z3).1.me.1=no)=false) (he:decide ((L.getD k z3).1.me.1=no)=true):az L no=k:=by
 unfold az
 rw [List.findIdx_eq hk]
 refine ⟨by rw [jE hk];exact he,fun j hj=>?_⟩
 rw [jE (by omega)];exact h j hj
theorem wK {L:List N3} {no:Int} {k:Nat} (hk:L.length≤k) (h:∀ j,j<k→decide ((L.getD j z3).1.me.1=no)=false):az L no=L.length:=by
 unfold az
 rw [List.findIdx_eq_length]
 intro x hx
 obtain ⟨j,hj,rfl⟩:=nc hx
 exact h j (by omega)
theorem yK {L:List N3} {no:Int} (h:az L no<L.length):(∀ j,j<az L no→decide ((L.getD j z3).1.me.1=no)=false)∧decide ((L.getD (az L no) z3).1.me.1=no)=true:=by
 refine ⟨fun j hj=>?_,?_⟩
 ·have:=List.not_of_lt_findIdx (p:=fun x:N3=>decide (x.1.me.1=no)) (xs:=L) hj
  rw [jE (by omega)] at this
  simpa using this
 ·have:=List.findIdx_getElem (p:=fun x:N3=>decide (x.1.me.1=no)) (xs:=L) (w:=h)
  rw [← jE h]
  exact this
theorem lW {L:List N3} {no:Int} (h:az L no<L.length):L.getD (az L no) z3=cg L no∧(cg L no).1.me.1=no:=by
 obtain ⟨h1,h2⟩:=yK h
 have e:=qQ h h1 h2
 exact ⟨e.symm,by rw [e];exact of_decide_eq_true h2⟩
theorem mi {vo:Value} {L:List N3} {no:Int} (h:az L no<L.length):qO vo L no=.pointer (some (aF vo (az L no*68))):=by unfold qO;rw [decide_eq_true h];rfl
theorem mE {vo:Value} {L:List N3} {no:Int} (h:¬ az L no<L.length):qO vo L no=.pointer none:=by unfold qO;rw [decide_eq_false h];rfl
theorem uB {L:List N3} {no:Int} (h:∃ x∈L,x.1.me.1=no):az L no<L.length:=by
 obtain ⟨x,hx,e⟩:=h
 exact List.findIdx_lt_length_of_exists ⟨x,hx,decide_eq_true e⟩
theorem eb {L:List N3} {no:Int} (hn:∀ m∈ae L,0≤m.1):decide (az L no<L.length)=bP (ae L) no:=by
 rw [Bool.eq_iff_iff,decide_eq_true_iff,en hn]
 constructor
 ·intro h
  obtain ⟨e1,e2⟩:=lW h
  exact ⟨(cg L no).1.me,List.mem_map.2 ⟨cg L no,by rw [← e1];exact bj h,rfl⟩,e2⟩
 ·rintro ⟨m,hm,e⟩
  obtain ⟨x,hx,rfl⟩:=List.mem_map.1 hm
  exact uB ⟨x,hx,e⟩
def BD (vo:Value) (q:Nat→Bool):Nat→Value|0=>.pointer none|d+1=>bif q d then .pointer (some (aF vo (d*68))) else .pointer none
theorem x1 {vo:Value} {q:Nat→Bool} {d:Nat} (h:∀ j,j<d→q j=false):BD vo q d=.pointer none:=by
 cases d with
 |zero=>rfl
 |succ d=>show (bif q d then _ else _)=_;rw [h d (Nat.lt_succ_self d)];rfl
def qL (L:List N3) (no:Int) (j:Nat):Bool:=decide ((L.getD j z3).1.me.1=no)
theorem BQ {vo:Value} {L:List N3} {no:Int} {d:Nat} (hd:d<L.length) (h:∀ j,j<d→qL L no j=false) (he:qL L no d=true):BD vo (qL L no) (d+1)=qO vo L no:=by
 show (bif qL L no d then _ else _)=_
 have e:=zE hd h he
 rw [he,mi (by rw [e];exact hd),e];rfl
theorem CO {vo:Value} {L:List N3} {no:Int} (h:∀ j,j<L.length→qL L no j=false):qO vo L no=.pointer none:=mE (by rw [wK (Nat.le_refl _) h];omega)
def iI (l:List Mb) (k:Nat):Bool:=decide ((l.getD k ap).1<(l.getD (k - 1) ap).1)
def lA (l:List Mb):Bool:=(List.range l.length).all fun k => !(decide (0<k) && iI l k)
theorem oX {l:List Mb} {k:Nat} (hk:k<l.length) (h0:0<k) (h:iI l k=true):lA l=false:=by
 unfold lA
 rw [← Bool.not_eq_true,List.all_eq_true]
 intro h9
 have:=h9 k (List.mem_range.2 hk)
 rw [h,decide_eq_true h0] at this;cases this
theorem lM {l:List Mb} (h:∀ j,0<j→j<l.length→iI l j=false):lA l=true:=by
 unfold lA
 rw [List.all_eq_true]
 intro j hj
 by_cases h0:0<j
 ·rw [h j h0 (List.mem_range.1 hj)];simp
 ·rw [decide_eq_false h0];rfl
theorem w8 {l:List Mb}:lA l=true↔∀ j,0<j→j<l.length→iI l j=false:=by
 refine ⟨fun h j h0 hj=>?_,lM⟩
 cases hq:iI l j with
 |false=>rfl
 |true=>rw [oX hj h0 hq] at h;cases h
theorem uc {l:List Mb} {k:Nat} (h:∀ j,k≤j→0<j→j<l.length→iI l j=false) (hk:0<k) (hq:iI l (k - 1)=false):∀ j,k - 1≤j→0<j→j<l.length→iI l j=false:=fun j h1 h2 h3=>by
 by_cases e:j=k - 1
 ·subst e;exact hq
 ·exact h j (by omega) h2 h3
theorem iN (x y:Int):dN x y<0↔x<y:=by unfold dN;split<;>(try split)<;>omega
theorem ft {L:List N3} {k:Nat} (hk:k<L.length):(ae L).getD k ap=(L.getD k z3).1.me:=by
 rw [← ms (by rw [List.length_map];exact hk),← jE hk];exact List.getElem_map _
theorem Bb {L:List N3} {no:Int} (h:az L no<L.length):d5 (ae L) no=some (L.getD (az L no) z3).1.me:=by
 obtain ⟨h1,h2⟩:=yK h
 have e:=lh (l:=ae L) (no:=no) (k:=az L no) (by rw [List.length_map];exact h) (fun j hj=>by rw [ft (by omega)];exact h1 j hj) (by rw [ft h];exact h2)
 rw [e,ft h]
theorem yC {L:List N3} {no:Int} (h:¬ az L no<L.length):d5 (ae L) no=none:=by
 refine lf (k:=L.length) (by rw [List.length_map];exact Nat.le_refl _) fun j hj=>?_
 rw [ft hj]
 refine decide_eq_false fun e=>h (uB ⟨_,bj hj,e⟩)
def i1 (L:List N3) (m:Mb):Bool:=decide (az L m.1<L.length) && !decide ((L.getD (az L m.1) z3).1.me=m)
theorem vU {L:List N3} (hr:Rg (ae L)) (m:Mb):i1 L m=kJ (ae L) m:=by
 unfold i1 kJ fR
 by_cases h:az L m.1<L.length
 ·rw [Bb h,decide_eq_true h]
  have h0:=(hr.nos _ (List.mem_map.2 ⟨_,bj h,rfl⟩)).1
  rw [Option.getD_some,decide_eq_true h0]
 ·rw [yC h,decide_eq_false h]
  rfl
theorem Ds {L:List N3} {m:Mb} (h:decide (az L m.1<L.length)=false):i1 L m=false:=by unfold i1;rw [h];rfl
theorem CF {L:List N3} {m:Mb} (h:decide (az L m.1<L.length)=true):i1 L m = !decide ((L.getD (az L m.1) z3).1.me=m):=by unfold i1;rw [h];rfl
def CX (n:Nd) (L:List N3) (j:Nat):Bool:=i1 L ((aH n).getD j ap)
theorem yn {n:Nd} {L:List N3} {d:Nat} (hd:d<(aH n).length) (h:CX n L d=true):(aH n).any (i1 L)=true:=List.any_eq_true.2 ⟨_,dx hd,h⟩
theorem yg {n:Nd} {L:List N3} (h:∀ j,j<(aH n).length→CX n L j=false):(aH n).any (i1 L)=false:=by
 rw [List.any_eq_false]
 intro x hx
 obtain ⟨j,hj,rfl⟩:=jp hx
 rw [show i1 L ((aH n).getD j ap)=false from h j hj];decide
def vP (L:List N3) (k:Nat):Bool := !cr (L.getD k z3).1 || (aH (L.getD k z3).1).any (i1 L)
theorem Aj {L:List N3} (h:c0 (ae L)=false):fH L=false:=by unfold fH;rw [h,Bool.and_false]
theorem Am {L:List N3} (h:lA (ae L)=false):fH L=false:=by
 have:¬ ∀ j,0<j→j<(ae L).length→iI (ae L) j=false:=fun h9=>by rw [lM h9] at h;cases h
 rw [Classical.not_forall] at this
 obtain ⟨k,hk⟩:=this
 rw [Classical.not_imp,Classical.not_imp] at hk
 obtain ⟨h0,h1,h2⟩:=hk
 rw [List.length_map] at h1
 refine xI h1 (Dl (decide_eq_true h0) ?_)
 have h3:iI (ae L) k=true:=by cases hq:iI (ae L) k with|true=>rfl|false=>exact absurd hq h2
 unfold iI at h3
 rw [ft h1,ft (by omega)] at h3
 have:=of_decide_eq_true h3
 exact decide_eq_true (by omega)
theorem t8 {L:List N3} (h0:c0 (ae L)=true) (h1:lA (ae L)=true):fH L=(List.range L.length).all fun k => !vP L k:=by
 have hg:=(iP _).1 h0
 have key:∀ k,k<L.length→jm L k=vP L k:=fun k hk=>by
  have e1:(decide (0<k) && decide ((L.getD k z3).1.me.1≤(L.getD (k - 1) z3).1.me.1))=false:=by
   by_cases hk0:0<k
   ·have h2:=w8.1 h1 k hk0 (by rw [List.length_map];exact hk)
    unfold iI at h2
    rw [ft hk,ft (by omega)] at h2
    have h3:=of_decide_eq_false h2
    have h4:=(List.pairwise_iff_getElem.1 hg.nd (k - 1) k (by rw [List.length_map];omega) (by rw [List.length_map];exact hk) (by omega)).1
    rw [ms,ms,ft hk,ft (by omega)] at h4
    rw [decide_eq_true hk0,decide_eq_false (by omega)];rfl
   ·rw [decide_eq_false hk0];rfl
  have e2:(aH (L.getD k z3).1).any (kJ (ae L))=(aH (L.getD k z3).1).any (i1 L):=by
   congr 1;funext m;exact(vU hg m).symm
  unfold jm vP
  rw [e1,e2,Bool.false_or]
 unfold fH
 rw [h0,Bool.and_true,Bool.eq_iff_iff,List.all_eq_true,List.all_eq_true]
 exact ⟨fun h k hk=>by rw [← key k (List.mem_range.1 hk)];exact h k hk,fun h k hk=>by rw [key k (List.mem_range.1 hk)];exact h k hk⟩
theorem xx {L:List N3} {d:Nat} (h0:c0 (ae L)=true) (h1:lA (ae L)=true) (hd:d<L.length) (h:vP L d=true):fH L=false:=by
 rw [t8 h0 h1,← Bool.not_eq_true,List.all_eq_true]
 intro h9
 have:=h9 d (List.mem_range.2 hd)
 rw [h] at this;cases this
theorem xJ {L:List N3} (h0:c0 (ae L)=true) (h1:lA (ae L)=true) (h:∀ j,j<L.length→vP L j=false):fH L=true:=by
 rw [t8 h0 h1,List.all_eq_true]
 intro k hk
 rw [h k (List.mem_range.1 hk)];rfl
theorem Da {L:List N3} {k:Nat} (h:cr (L.getD k z3).1=false):vP L k=true:=by unfold vP;rw [h];rfl
theorem CR {L:List N3} {k:Nat} (h:cr (L.getD k z3).1=true):vP L k=(aH (L.getD k z3).1).any (i1 L):=by unfold vP;rw [h];rfl
theorem iR (a b c:List Mb):[a,b,c].flatten=a++(b++c):=by simp
theorem ux {w:World} {u v x:Value} {a b c:List Mb} (h1:bO w u 33 a.length (am a)) (h2:bO w v 33 b.length (am b)) (h3:bO w x 33 c.length (am c)):∀ k,k<[u,v,x].length→bO w ([u,v,x].getD k undef) 33 ([a,b,c].getD k []).length (am ([a,b,c].getD k [])):=fun k hk=>by
 match k,hk with
 |0,_=>exact h1
 |1,_=>exact h2
 |2,_=>exact h3
def jx (l:List Mb) (m:Mb):Mb:=bif decide (l.length=1) then c4 else qX l m
def oB (l:List Mb) (m:Mb):List Mb:=bif decide (l.length=1) then [m] else iq l m (min (l.length - 1) 4)
theorem wm {l:List Mb} {m:Mb} (h:l.length=1):jx l m=c4∧oB l m=[m]:=by unfold jx oB;rw [decide_eq_true h];exact ⟨rfl,rfl⟩
theorem vy {l:List Mb} {m:Mb} (h:¬ l.length=1):jx l m=qX l m∧oB l m=iq l m (min (l.length - 1) 4):=by unfold jx oB;rw [decide_eq_false h];exact ⟨rfl,rfl⟩
theorem yJ (l:List Mb) (m:Mb):(oB l m).length≤4:=by
 by_cases h:l.length=1
 ·rw [(wm h).2];simp
 ·rw [(vy h).2,k6];omega
def DH (w:World) (M:TypeId) (l:List Mb) (m:Mb):cL:=fun v w9=>∃ v8,v=.tuple #[.agg (av (jx l m)),v8]∧cH w9 w.heap.size M 33 v8 (oB l m).length (am (oB l m))
theorem yr {w w':World} {M:TypeId} {l:List Mb} {m:Mb} {v8:Value} (h:l.length=1) (hO:cH w' w.heap.size M 33 v8 [m].length (am [m])):DH w M l m (.tuple #[.agg (av c4),v8]) w':=
 ⟨v8,by rw [(wm h).1],by rw [(wm h).2];exact hO⟩
theorem yc {w w':World} {M:TypeId} {l:List Mb} {m:Mb} {v8:Value} (h:¬ l.length=1) (hO:cH w' w.heap.size M 33 v8 (iq l m (min (l.length - 1) 4)).length (am (iq l m (min (l.length - 1) 4)))):DH w M l m (.tuple #[.agg (av (qX l m)),v8]) w':=
 ⟨v8,by rw [(vy h).1],by rw [(vy h).2];exact hO⟩
def fv (v:Value):Value:=match v with|.tuple a=>a.getD 1 undef|_=>undef
def tF (L:List N3) (k:Nat):Bool := !decide ((L.getD k z3).1.pr=jx (ae L) (L.getD k z3).1.me) || !decide ((L.getD k z3).1.sc=oB (ae L) (L.getD k z3).1.me)
theorem Cw {L:List N3} {k:Nat} (h:decide ((L.getD k z3).1.pr=jx (ae L) (L.getD k z3).1.me)=false):tF L k=true:=by unfold tF;rw [h];rfl
theorem zi {L:List N3} {k:Nat} (h:decide ((L.getD k z3).1.pr=jx (ae L) (L.getD k z3).1.me)=true):tF L k = !decide ((L.getD k z3).1.sc=oB (ae L) (L.getD k z3).1.me):=by unfold tF;rw [h];rfl
theorem tU {L:List N3} {k:Nat} (h:L.length=1):tF L k = !yt (L.getD k z3).1:=by
 have hm:(ae L).length=1:=by rw [List.length_map];exact h
 unfold tF yt
 rw [(wm hm).1,(wm hm).2,Bool.not_and]
 congr 2
 rw [Bool.eq_iff_iff]
 simp only [decide_eq_true_eq,Bool.and_eq_true]
 constructor
 ·intro e;rw [e];exact ⟨rfl,rfl⟩
 ·rintro ⟨h1,h2⟩
  match hs:(L.getD k z3).1.sc,h1 with
  |[x],_=>rw [hs] at h2;rw [show x=_ from h2]
theorem r8 {L:List N3} {k:Nat} (h:¬ L.length=1):tF L k = !qF L k:=by
 have hm:¬ (ae L).length=1:=by rw [List.length_map];exact h
 unfold tF qF
 rw [(vy hm).1,(vy hm).2,Bool.not_and,List.length_map]
theorem xl {L:List N3} {d:Nat} (h:fH L=true) (hd:d<L.length) (hq:tF L d=true):gD L=false:=by
 by_cases h1:L.length=1
 ·rw [u7 h hd h1];rw [tU h1] at hq;simpa using hq
 ·refine xv h1 hd ?_;rw [r8 h1] at hq;simpa using hq
theorem yE {L:List N3} (h:fH L=true) (hq:∀ j,j<L.length→tF L j=false):gD L=true:=by
 by_cases h1:L.length=1
 ·have h2:=hq 0 (by omega)
  rw [u7 h (k:=0) (by omega) h1];rw [tU h1] at h2;simpa using h2
 ·refine wO h h1 (Nat.le_refl _) fun j hj=>?_
  have h2:=hq j hj
  rw [r8 h1] at h2;simpa using h2
theorem ut (L:List N3) (j i:Nat) (hj:j<L.length) (hi:i<68):(aD L)[j*68+i]? = (mw (L.getD j z3))[i]? := by
 have h1:=congrArg (fun a:Array Value=>a[i]?) (cR L j hj)
 simp only [List.getElem?_toArray] at h1
 rw [List.getElem?_take_of_lt hi,List.getElem?_drop] at h1
 rw [h1];simp [au,mw]
theorem gW (L:List N3) (j:Nat) (hj:j<L.length):(aD L)[j*68+66]? = some (L.getD j z3).2.1:=by rw [ut L j 66 hj (by decide)];exact nY _ _ _ _ 0
theorem Be (L:List N3) (j:Nat) (hj:j<L.length):(aD L)[j*68+67]? = some (L.getD j z3).2.2:=by rw [ut L j 67 hj (by decide)];exact nY _ _ _ _ 1
end Go.Proofs.YthggibfkgofncaaGreat
namespace Go.Proofs.YthggibfkgofncaaGreat
open Go.RowKit
theorem jF {K:List N3} {j:Nat} (hj:j<K.length) (x:N3):(K.set j x).getD j z3=x:=by
 rw [← jE (by rw [List.length_set];exact hj)];exact List.getElem_set_self _
theorem CH {K:List N3} {i j:Nat} (h:i≠j) (x:N3):(K.set j x).getD i z3=K.getD i z3:=by
 rw [List.getD_eq_getElem?_getD,List.getD_eq_getElem?_getD,List.getElem?_set_ne (fun e=>h e.symm)]
theorem sR {K:List N3} {j:Nat} (hj:j<K.length) (x:N3):(K.set j x).take (j+1)=K.take j++[x]:=by
 rw [fE (by rw [List.length_set];exact hj),jF hj,List.take_set_of_le (Nat.le_refl _)]
theorem pB {K:List N3} {j:Nat} (hj:j<K.length):aD K=aD (K.take j)++(mw (K.getD j z3)++aD (K.drop (j+1))):=by
 conv=>lhs;rw [← List.take_append_drop j K,List.drop_eq_getElem_cons hj,jE hj]
 rw [fD];rfl
theorem rS {K:List N3} {j:Nat} (hj:j<K.length) (x:N3):aD (K.set j x)=aD (K.take j)++(mw x++aD (K.drop (j+1))):=by
 rw [List.set_eq_take_append_cons_drop,if_pos hj,fD];rfl
theorem oo {K:List N3} {j:Nat} (hj:j<K.length):(aD (K.take j)).length=j*68:=by rw [fy,List.length_take,Nat.min_eq_left (by omega)]
theorem xD {K:List N3} {j off:Nat} (hj:j<K.length) (D:List Value) (h:off+D.length≤68):
 (aD K).take (j*68+off)++D++(aD K).drop (j*68+off+D.length)=aD (K.take j)++((mw (K.getD j z3)).take off++D++(mw (K.getD j z3)).drop (off+D.length)++aD (K.drop (j+1))):=by
 rw [pB hj]
 obtain ⟨a,ha⟩:∃ a,a=aD (K.take j):=⟨_,rfl⟩
 obtain ⟨c,hc⟩:∃ c,c=aD (K.drop (j+1)):=⟨_,rfl⟩
 have hl:a.length=j*68:=by rw [ha];exact oo hj
 have hn:(mw (K.getD j z3)).length=68:=fI _
 rw [← ha,← hc]
 rw [show j*68+off=a.length+off by omega,List.take_length_add_append,List.take_append_of_le_length (by omega),show a.length+off+D.length=a.length+(off+D.length) by omega,List.drop_length_add_append,List.drop_append_of_le_length (by omega)]
 simp only [List.append_assoc]
theorem jW {K:List N3} {j:Nat} (hj:j<K.length) (x:N3):(aD K).take (j*68)++(au x.1.me x.1.pr x.2.1 x.2.2).toList++(aD K).drop (j*68+68)=aD (K.set j x):=by
 have hl:(au x.1.me x.1.pr x.2.1 x.2.2).toList.length=68:=by rw [Array.length_toList];exact aw _ _ _ _
 have h:=xD hj (off:=0) (au x.1.me x.1.pr x.2.1 x.2.2).toList (by omega)
 rw [hl] at h
 rw [show j*68+0=j*68 from rfl] at h
 rw [h,rS hj]
 have hn:(mw (K.getD j z3)).length=68:=fI _
 rw [List.take_zero,List.nil_append,List.drop_of_length_le (by omega),List.append_nil]
 rfl
theorem B3 (m p:Mb) (u v V:Value):(il m p u v).set 66 V=il m p V v:=by
 have:=congrArg Array.toList (gR m p u v V)
 rwa [Array.toList_setIfInBounds] at this
theorem CM (m p:Mb) (u v V:Value):(il m p u v).set 67 V=il m p u V:=by
 have:=congrArg Array.toList (jv m p u v V)
 rwa [Array.toList_setIfInBounds] at this
theorem rh {K:List N3} {j off:Nat} (hj:j<K.length) (ho:off<68) {V:Value} {x:N3} (h:(mw (K.getD j z3)).set off V=mw x):(aD K).set (j*68+off) V=aD (K.set j x):=by
 rw [rS hj,← h,pB hj,List.set_append_right _ _ (by rw [oo hj];omega),oo hj,Nat.add_sub_cancel_left,List.set_append_left _ _ (by rw [fI];exact ho)]
theorem wj {K:List N3} {j:Nat} (hj:j<K.length) (V:Value) (l:List Mb):(aD K).set (j*68+66) V=aD (K.set j (⟨(K.getD j z3).1.me,(K.getD j z3).1.pr,l,(K.getD j z3).1.fg⟩,V,(K.getD j z3).2.2)):=rh hj (by decide) (B3 _ _ _ _ _)
theorem uM {K:List N3} {j:Nat} (hj:j<K.length) (V:Value) (l:List Mb):(aD K).set (j*68+67) V=aD (K.set j (⟨(K.getD j z3).1.me,(K.getD j z3).1.pr,(K.getD j z3).1.sc,l⟩,(K.getD j z3).2.1,V)):=rh hj (by decide) (CM _ _ _ _ _)
theorem nx {L:List N3} {w:World} (h:∀ x∈L,mP w x):∀ u∈aD L,u.oneCell'=true:=fun u hu=>by
 unfold aD at hu
 obtain ⟨x,hx,hu⟩:=List.mem_flatMap.1 hu
 exact br (h x hx).ones.1 (h x hx).ones.2 u hu
theorem qS {w:World} {a:Option Addr} {n c:Nat} {L:List N3} (ha:a.isNone=true) (h:bO w (.slice a n c) 68 L.length (aD L)):L=[]:=by
 cases a with
 |some p=>cases ha
 |none=>
  rcases h.2 with ⟨_,h2⟩|⟨p,cap,h1,_⟩
  ·exact List.eq_nil_of_length_eq_zero h2
  ·cases h1
def DV (w:World) (N:TypeId) (E:List Nd):cL:=fun v w9=>∃ vq K ks,v=.agg #[vq]∧nds K=E∧St w [.sl vq N 68 K.length (aD K),.grp ks (cD K)] w9
theorem St.bring {w0 w:World} {B:List Own} {p:Own} (s:St w0 B w) (i:Nat) (hi:B[i]? = some p):St w0 (p::B.eraseIdx i) w:=s.perm (iZ hi)
theorem xn {K:List N3} {E:List Nd} {j:Nat} {x:N3} (h:nds K=E) (hx:x.1=(K.getD j z3).1) (hj:j<K.length):nds (K.set j x)=E:=by
 subst h
 apply List.ext_getElem?
 intro i
 unfold nds
 rw [List.getElem?_map,List.getElem?_map,List.getElem?_set]
 by_cases e:j=i
 ·subst e;rw [if_pos rfl,if_pos hj,List.getElem?_eq_getElem hj,jE hj,Option.map_some,Option.map_some,hx]
 ·rw [if_neg e]
theorem yA {K:List N3} {j:Nat} {x:N3} (hj:j<K.length) {w9:World} (h:cD (K.take j) w9) (hx:mP w9 x):cD ((K.set j x).take (j+1)) w9:=fun y hy=>by
 rw [sR hj] at hy
 rcases List.mem_append.1 hy with hy|hy
 ·exact h y hy
 ·rw [List.mem_singleton] at hy;subst hy;exact hx
theorem ub (K:List N3) (j:Nat) (x y:N3):(K.set j x).set j y=K.set j y:=List.set_set _
theorem qG {q:Nat→Bool} {d:Nat} (h:∀ j,j<d→q j=false):lq q d=false:=by
 cases d with
 |zero=>rfl
 |succ d=>exact h d (Nat.lt_succ_self d)
end Go.Proofs.YthggibfkgofncaaGreat
namespace Go.Proofs.YthggibfkgofncaaGreat
open Go.RowKit Go.Sort
def kQ:Type:={x:N3 // x.2.1.oneCell'=true∧x.2.2.oneCell'=true}
instance:Inhabited kQ:=⟨⟨z3,rfl,rfl⟩⟩
def mb (x:kQ):List Value:=mw x.1
def fe (l:List kQ):List Value:=l.flatMap mb
theorem k7 (x:kQ):(mb x).length=68:=fI _
theorem tW (x:kQ):∀ v∈mb x,v.oneCell'=true:=br x.2.1 x.2.2
theorem kl (l:List kQ):(fe l).length=l.length*68:=eG _ 68 k7 l
theorem l6 (l:List kQ):fe l=aD (l.map (·.1)):=by unfold fe aD;rw [List.flatMap_map];rfl
theorem ky (d:Array kQ):(flatK mb 68 d).toList=fe d.toList:=by
 apply List.ext_getElem?
 intro t
 by_cases ht:t<d.size*68
 ·have hj:t / 68<d.size:=by omega
  have hr:t % 68<68:=Nat.mod_lt _ (by decide)
  have h1:(fe d.toList)[t]? = (mb d[t / 68])[t % 68]? := by
   have h2:t=t / 68*68+t % 68:=by omega
   conv=>lhs;rw [h2]
   rw [← List.getElem?_drop,← List.getElem?_take_of_lt hr]
   unfold fe
   rw [gJ _ 68 k7 d.toList (t / 68) (by simpa using hj)]
   simp
  rw [h1]
  have h3:=get_flatK mb 68 d t ht
  have h4:t<(flatK mb 68 d).size:=by rw [size_flatK];exact ht
  rw [getElem!_pos _ t h4,getElem!_pos d _ hj] at h3
  rw [Array.getElem?_toList,Array.getElem?_eq_getElem h4,h3]
  have h5:t % 68<(mb d[t / 68]).length:=by rw [k7];exact hr
  rw [getElem!_pos (mb d[t / 68]) (t % 68) h5,List.getElem?_eq_getElem h5]
 ·rw [List.getElem?_eq_none (by rw [Array.length_toList,size_flatK];omega),List.getElem?_eq_none (by rw [kl,Array.length_toList];omega)]
theorem gQ (w:World) (g m:Nat) (d:Array kQ) (os:Array Obj):(sortWorldK mb 68 w g 0 m d os).heap=w.heap.modify g (onCells (putCells id 0 (flatK mb 68 d)))++os:=rfl
theorem oy (w:World) (g m:Nat) (d:Array kQ) (os:Array Obj) {k:Nat} (hk:k<w.heap.size) (hne:k≠g):(sortWorldK mb 68 w g 0 m d os).heap[k]? = w.heap[k]? := by
 rw [gQ,Array.getElem?_append_left (by rw [Array.size_modify];exact hk),Array.getElem?_modify,if_neg (fun e=>hne e.symm)]
theorem qZ (w:World) (g m:Nat) (d:Array kQ) (os:Array Obj) {cur:Array Value} {e:TypeId} {fz:Nat × Nat} (hg:w.heap[g]? = some (.cells cur e fz)):(sortWorldK mb 68 w g 0 m d os).heap[g]? = some (.cells (putCells id 0 (flatK mb 68 d) cur) e fz):=by
 have hk:g<w.heap.size:=(Array.getElem?_eq_some_iff.1 hg).1
 rw [gQ,Array.getElem?_append_left (by rw [Array.size_modify];exact hk),Array.getElem?_modify,if_pos rfl,hg]
 rfl
theorem uP {w0 w:World} {B:List Own} {v:Value} {e:TypeId} {n:Nat} {l:List kQ} (s:St w0 (.sl v e 68 n (fe l)::B) w) (hl:l.length=n) (hn:1≤n):
 ∃ g cap,v=.slice (some ⟨g,0,none⟩) n cap∧g<w.heap.size∧w0.heap.size≤g∧HoldsK mb 68 w g 0 l.toArray∧
  ∀ (m:Nat) (os:Array Obj) (d:Array kQ),d.size=n→St w0 (.sl v e 68 n (fe d.toList)::B) (sortWorldK mb 68 w g 0 m d os):=by
 obtain ⟨g,cap,cur,fz,rfl,hfz,hnc,hcm,hcs,htk,s⟩:=s.open_sl hn
 have hg:=s.get 0 rfl
 have hlt:g<w.heap.size:=(Array.getElem?_eq_some_iff.1 hg).1
 have hroom:n*68≤cur.size:=by rw [hcs];exact Nat.mul_le_mul_right _ hnc
 refine ⟨g,cap,rfl,hlt,s.own _ List.mem_cons_self g (Own.at_blk.2 rfl),fun j hj=>?_,fun m os d hd=>?_⟩
 ·have hjs:j<n*68:=by rw [size_flatK] at hj;simpa [hl] using hj
  constructor
  ·rw [Nat.zero_add,cell_of_row w g j cur e fz hg]
   have h1:(flatK mb 68 l.toArray).toList=cur.toList.take (n*68):=by rw [ky,htk]
   have h2:(flatK mb 68 l.toArray).toList[j]? = cur.toList[j]? := by rw [h1,List.getElem?_take_of_lt hjs]
   rw [Array.getElem?_toList,Array.getElem?_toList,Array.getElem?_eq_getElem hj] at h2
   rw [getElem!_pos _ j hj]
   exact h2.symm
  ·simp only [World.frozen?,hg,Nat.zero_add]
   obtain ⟨lo,hi⟩:=fz
   rcases hfz with h9|h9
   ·change hi=0 at h9;subst h9;simp
   ·change cur.size≤lo at h9
    have:¬ lo≤j:=by omega
    simp [this]
 ·have hF:(flatK mb 68 d).size=n*68:=by rw [size_flatK,hd]
  have s2:=s.upd 0 (w':=sortWorldK mb 68 w g 0 m d os) (p':=.blk g (.cells (putCells id 0 (flatK mb 68 d) cur) e fz)) rfl rfl rfl rfl (by rw [gQ];simp) (qZ w g m d os hg) (fun k hk=>.inl hk) (fun k hk hne=>oy w g m d os hk (fun e9=>hne (Own.at_blk.2 e9))) (Nat.le_add_right _ _)
  refine s2.close_sl (by rw [jD];exact hfz) hnc hcm (by rw [jD];exact hcs) ?_ ?_
  ·rw [← hF,pt _ _ (by omega),ky]
  ·rw [kl,Array.length_toList,hd]
theorem la (a b:kQ):ltOf (fun x y:kQ=>dN x.1.1.me.1 y.1.1.me.1) a b=decide (a.1.1.me.1<b.1.1.me.1):=decide_eq_decide.2 (iN _ _)
theorem wn:SWO (ltOf fun x y:kQ=>dN x.1.1.me.1 y.1.1.me.1) where
 irrefl x:=by rw [la];simp
 trans x y z h1 h2:=by rw [la] at *;simp at *;omega
 ntrans x y z h1 h2:=by rw [la] at *;simp at *;omega
theorem sY {l:List kQ} (hd:l.Pairwise fun a b=>a.1.1.me.1≠b.1.1.me.1) {d:Array kQ} (hp:PermIn 0 l.toArray.size l.toArray d) (hs:SortedIn (ltOf fun x y:kQ=>dN x.1.1.me.1 y.1.1.me.1) 0 l.toArray.size d):
 d.toList.Perm l∧d.toList.Pairwise fun a b=>a.1.1.me.1<b.1.1.me.1:=by
 obtain ⟨hsz,_,hpm⟩:=hp
 have e1:d.extract 0 l.toArray.size=d:=by rw [← hsz];exact Array.extract_size
 rw [e1,Array.extract_size] at hpm
 have hpl:d.toList.Perm l:=by first|exact hpm|exact hpm.symm|exact hpm.toList|exact hpm.toList.symm
 have hd2:d.toList.Pairwise fun a b=>a.1.1.me.1≠b.1.1.me.1:=(hpl.pairwise_iff (fun h=>fun e=>h e.symm)).2 hd
 refine ⟨hpl,?_⟩
 rw [List.pairwise_iff_getElem] at hd2 ⊢
 intro i j hi hj hij
 have hi':i<d.size:=by simpa using hi
 have hj':j<d.size:=by simpa using hj
 have h1:=hs i j (Nat.zero_le _) hij (by omega)
 rw [getElem!_pos d j hj',getElem!_pos d i hi',la] at h1
 have h2:=hd2 i j hi hj hij
 have h3:=of_decide_eq_false h1
 simp only [Array.getElem_toList] at h2 ⊢
 omega
def Aw (L:List N3) (h:∀ x∈L,x.2.1.oneCell'=true∧x.2.2.oneCell'=true):List kQ:=L.attach.map fun x=>(⟨x.1,h x.1 x.2⟩:kQ)
theorem pF (L:List N3) (h:∀ x∈L,x.2.1.oneCell'=true∧x.2.2.oneCell'=true):(Aw L h).map (·.1)=L:=by
 refine(List.map_map (f:=fun x:{x // x∈L}=>(⟨x.1,h x.1 x.2⟩:kQ)) (g:=fun x:kQ=>x.1) (l:=L.attach)).trans ?_
 exact List.attach_map_subtype_val L
theorem vj (L:List N3) (h:∀ x∈L,x.2.1.oneCell'=true∧x.2.2.oneCell'=true):(Aw L h).length=L.length:=by
 have:=congrArg List.length (pF L h);simpa using this
theorem vi {L:List kQ} {R:N3→N3→Prop}:(L.map (·.1)).Pairwise R↔L.Pairwise fun a b=>R a.1 b.1:=List.pairwise_map
theorem mQ {x:N3}:∀ K:List N3,(K.Pairwise fun a b=>a.1.me.1<b.1.me.1)→(∀ y∈K,y.1.me.1≠x.1.me.1)→∃ A B,K=A++B∧(∀ a∈A,a.1.me.1<x.1.me.1)∧∀ b∈B,x.1.me.1<b.1.me.1
 |[],_,_=>⟨[],[],rfl,by simp,by simp⟩
 |y::K,h,hx=>by
  have hp:=List.pairwise_cons.1 h
  by_cases e:x.1.me.1<y.1.me.1
  ·refine ⟨[],y::K,rfl,by simp,fun b hb=>?_⟩
   rcases List.mem_cons.1 hb with rfl|hb
   ·exact e
   ·have:=hp.1 b hb;omega
  ·obtain ⟨A,B,rfl,hA,hB⟩:=mQ K hp.2 fun z hz=>hx z (List.mem_cons_of_mem _ hz)
   have:=hx y List.mem_cons_self
   refine ⟨y::A,B,rfl,fun a ha=>?_,hB⟩
   rcases List.mem_cons.1 ha with rfl|ha
   ·omega
   ·exact hA a ha
theorem x8 {A B:List N3} {x:N3} (hA:∀ z∈A,z.1.me.1<x.1.me.1) (hB:∀ z∈B,x.1.me.1<z.1.me.1):eu (A++B) x=A++x::B:=by
 match B,hB with
 |[],_=>
  have:eE x (A++[])=(A,false):=by unfold eE;rw [List.append_nil,jl A [] hA];rfl
  rw [BW (by rw [this]),this]
 |b::B,hB=>
  have hb:=hB b List.mem_cons_self
  have:eE x (A++b::B)=(A++x::b::B,true):=by
   unfold eE
   rw [List.foldl_append,jl A [] hA,List.nil_append,List.foldl_cons,zA rfl (decide_eq_true (by show x.1.me.1≤b.1.me.1;omega)) (decide_eq_true (by show b.1.me.1≠x.1.me.1;omega)),kY B _ fun z hz=>hB z (List.mem_cons_of_mem _ hz)]
   simp
  rw [BO (by rw [this]),this]
theorem xF {K K2:List N3} {x:N3} (hK:K.Pairwise fun a b=>a.1.me.1<b.1.me.1) (hx:∀ y∈K,y.1.me.1≠x.1.me.1) (hp:K2.Perm (K++[x])) (hs:K2.Pairwise fun a b=>a.1.me.1<b.1.me.1):K2=eu K x:=by
 obtain ⟨A,B,rfl,hA,hB⟩:=mQ K hK hx
 rw [x8 hA hB]
 have h1:=List.pairwise_append.1 hK
 refine List.Perm.eq_of_pairwise (le:=fun a b:N3=>a.1.me.1<b.1.me.1) (fun a b _ _ h1 h2=>absurd h1 (by omega)) hs ?_ (hp.trans ?_)
 ·rw [List.pairwise_append,List.pairwise_cons]
  refine ⟨h1.1,⟨hB,h1.2.1⟩,fun a ha b hb=>?_⟩
  rcases List.mem_cons.1 hb with rfl|hb
  ·exact hA a ha
  ·exact h1.2.2 a ha b hb
 ·rw [List.append_assoc]
  exact(List.perm_append_comm (l₁:=B) (l₂:=[x])).append_left A
theorem qY {K L:List N3} (h:nds K=nds L) (hL:L.Pairwise fun a b=>a.1.me.1<b.1.me.1):K.Pairwise fun a b=>a.1.me.1<b.1.me.1:=by
 have h1:(nds L).Pairwise fun a b=>a.me.1<b.me.1:=by unfold nds;rw [List.pairwise_map];exact hL
 rw [← h] at h1
 unfold nds at h1
 rw [List.pairwise_map] at h1;exact h1
theorem nQ {K L:List N3} (h:nds K=nds L) {P:Nd→Prop} (hL:∀ y∈L,P y.1):∀ y∈K,P y.1:=fun y hy=>by
 have:y.1∈nds L:=by rw [← h];exact List.mem_map.2 ⟨y,hy,rfl⟩
 obtain ⟨z,hz,e⟩:=List.mem_map.1 this
 rw [← e];exact hL z hz
theorem y8 {L:List N3} {m:Mb} (h:sJ L m=false):∀ y∈L,y.1.me.1≠m.1:=fun y hy e=>by
 obtain ⟨j,hj,rfl⟩:=nc hy
 rw [CK hj (Bj (decide_eq_true e))] at h;cases h
theorem rg {L K:List N3} {x:N3} {m:Mb} (hr:RS L) (hj:sJ L m=false) (hk:nds K=nds L) (hx:x.1.me=m):(K++[x]).Pairwise fun a b=>a.1.me.1≠b.1.me.1:=by
 rw [List.pairwise_append]
 refine ⟨(qY hk hr.inc).imp (fun h=>by omega),List.pairwise_singleton _ _,fun a ha b hb=>?_⟩
 rw [List.mem_singleton] at hb;subst hb
 rw [hx]
 exact nQ hk (P:=fun n=>n.me.1≠m.1) (y8 hj) a ha
theorem tV {L K K2:List N3} {x:N3} {m:Mb} {no:Int} (hok:q5 L m=true) (hr:RS L) (hj:sJ L m=false) (he:sT L m no=0) (hk:nds K=nds L) (hx:x.1=⟨m,c4,[zt L m no],[]⟩) (hp:K2.Perm (K++[x])) (hs:K2.Pairwise fun a b=>a.1.me.1<b.1.me.1):nds K2=wB L m no:=by
 have hm:x.1.me=m:=by rw [hx]
 have e:=xF (qY hk hr.inc) (fun y hy=>by rw [hm];exact nQ hk (P:=fun n=>n.me.1≠m.1) (y8 hj) y hy) hp hs
 rw [(lI hok).2,e,eX,hk,hx]
 unfold zl
 rw [decide_eq_true he];rfl
theorem zx {L:List N3} {m:Mb} (h:fH L=true) (h0:dI m=true):q5 L m=true:=by unfold q5;rw [h,h0];rfl
theorem zp {L:List N3} {m:Mb} (h:dI m=false):q5 L m=false:=by unfold q5;rw [h,Bool.and_false]
def bJ (L:List N3):List Int:=L.map (·.1.me.1)
theorem wy {L:List N3} {k:Nat} (hk:k<L.length):bJ (L.take (k+1))=bJ (L.take k)++[(L.getD k z3).1.me.1]:=by unfold bJ;rw [fE hk,List.map_append];rfl
theorem tK {L:List N3} (hd:L.Pairwise fun a b=>a.1.me.1≠b.1.me.1) {k:Nat} (hk:k<L.length):(L.getD k z3).1.me.1 ∉ bJ (L.take k):=fun hx=>by
 obtain ⟨y,hy,e⟩:=List.mem_map.1 hx
 obtain ⟨j,hj,rfl⟩:=List.mem_iff_getElem.1 hy
 rw [List.length_take] at hj
 have h1:=List.pairwise_iff_getElem.1 hd j k (by omega) hk (by omega)
 rw [List.getElem_take] at e
 rw [jE hk] at h1
 exact h1 e
theorem Ap {L:List N3} (h:L.Pairwise fun a b=>a.1.me.1<b.1.me.1):L.Pairwise fun a b=>a.1.me.1≠b.1.me.1:=h.imp fun h=>by omega
theorem jG {L:List N3} (hn:∀ m∈ae L,0≤m.1) (no:Int):decide (no∈bJ L)=bP (ae L) no:=by
 rw [Bool.eq_iff_iff,decide_eq_true_iff,en hn]
 constructor
 ·intro h
  obtain ⟨y,hy,e⟩:=List.mem_map.1 h
  exact ⟨y.1.me,List.mem_map.2 ⟨y,hy,rfl⟩,e⟩
 ·rintro ⟨m,hm,e⟩
  obtain ⟨y,hy,rfl⟩:=List.mem_map.1 hm
  exact List.mem_map.2 ⟨y,hy,e⟩
abbrev cZ (ks:List Int):Obj:=.map (yF ks) ks.length
theorem xT (ks:List Int) (n:Int):Obj.map ((yF ks).push {key:=.int .i64 n,val:=.agg #[],born:=ks.length}) (ks.length+1)=cZ (ks++[n]):=by
 rw [uS];simp [cZ]
theorem qr {P:Program} {ρ:Operand→Value} {d:Option Tmp} {ty:TypeId} {pos:String} {af:Array Edge} {g:Option (Nat × Bool)} {t:TypeId} (S:Stt P t []):bM P ⟨d,.build t #[],ty,pos,af,g⟩ ρ (.agg #[]):=
 dX (parts:=#[]) S [] (by simp) (fun i v hm=>by simp at hm) (D:=[]) rfl
theorem vF {K L:List N3} (h:nds K=nds L) (no:Int):az K no=az L no:=by
 have e:∀ M:List N3,az M no=(nds M).findIdx fun n=>decide (n.me.1=no):=fun M=>by
  unfold az nds
  rw [List.findIdx_map];rfl
 rw [e K,e L,h]
theorem nS {K L:List N3} (h:nds K=nds L):K.length=L.length:=by have h9:=congrArg List.length h;simpa [nds] using h9
theorem zK {K L:List N3} (h:nds K=nds L) {j:Nat} (hj:j<L.length):(K.getD j z3).1=(L.getD j z3).1:=by
 have hl:=nS h
 have h9:=congrArg (fun E:List Nd=>E[j]?) h
 simp only [nds,List.getElem?_map] at h9
 rw [List.getElem?_eq_getElem (by omega),List.getElem?_eq_getElem hj] at h9
 simp only [Option.map_some,Option.some.injEq] at h9
 rw [← jE hj,← jE (by omega)];exact h9
def Cd (w:World) (N:TypeId) (L:List N3) (no:Int):cL:=fun v w9=>
 (∃ k,cE L no=k∧k≠0∧v=.tuple #[.agg #[aU],.pointer none,.int .i64 k]) ∨
 (cE L no=0∧∃ vq K ks,v=.tuple #[.agg #[vq],.pointer (some (aF vq (az L no*68))),.int .i64 0]∧nds K=nds L∧St w [.sl vq N 68 K.length (aD K),.grp ks (cD K)] w9)
theorem Cd.n {w w9:World} {N:TypeId} {L:List N3} {no k:Int} {v:Value} (h:Cd w N L no v w9) (hk:cE L no=k) (h0:k≠0):v=.tuple #[.agg #[aU],.pointer none,.int .i64 k]:=by
 rcases h with ⟨q,h1,_,h3⟩|⟨h1,_⟩
 ·rw [h3,← h1,hk]
 ·exact absurd (hk.symm.trans h1) h0
theorem Cd.y {w w9:World} {N:TypeId} {L:List N3} {no:Int} {v:Value} (h:Cd w N L no v w9) (hk:cE L no=0):∃ vq K ks,v=.tuple #[.agg #[vq],.pointer (some (aF vq (az L no*68))),.int .i64 0]∧nds K=nds L∧St w [.sl vq N 68 K.length (aD K),.grp ks (cD K)] w9:=by
 rcases h with ⟨q,h1,h2,_⟩|⟨_,h3⟩
 ·exact absurd (h1.symm.trans hk) h2
 ·exact h3
theorem RS.nds {K L:List N3} (h:RS L) (e:nds K=nds L):RS K:=
 ⟨fun y hy=>nQ e (P:=RN) h.rn y hy,qY e h.inc,by have:ae K=ae L:=by rw [← cY,← cY,e]
                                                 rw [this];exact h.ring⟩
theorem zY {K L:List N3} (e:nds K=nds L):ae K=ae L:=by rw [← cY,← cY,e]
theorem St.reob9 {w0 w:World} {B:List Own} {b:Nat} {o o':Obj} (s:St w0 B w) (i:Nat) (hi:B[i]? = some (.blk b o)) (e:o=o'):St w0 (B.set i (.blk b o')) w:=by
 subst e
 have:B.set i (.blk b o)=B:=by
  apply List.ext_getElem?
  intro j
  by_cases h:i=j
  ·subst h
   rw [List.getElem?_set_self (List.getElem?_eq_some_iff.1 hi).1,hi]
  ·rw [List.getElem?_set_ne h]
 rw [this];exact s
theorem jz {K:List N3} {j:Nat} {x:N3} {w9:World} (h:cD K w9) (hx:mP w9 x):cD (K.set j x) w9:=fun y hy=>by
 rcases List.mem_or_eq_of_mem_set hy with hy|rfl
 ·exact h y hy
 ·exact hx
theorem CC {K:List N3} (h:K.Pairwise fun a b=>a.1.me.1<b.1.me.1) {j:Nat} (hj:j<K.length):az K (K.getD j z3).1.me.1=j∧cg K (K.getD j z3).1.me.1=K.getD j z3:=by
 have h1:∀ i,i<j→decide ((K.getD i z3).1.me.1=(K.getD j z3).1.me.1)=false:=fun i hi=>by
  have:=List.pairwise_iff_getElem.1 h i j (by omega) hj hi
  rw [jE hj,jE (by omega)] at this
  exact decide_eq_false (by omega)
 have h2:decide ((K.getD j z3).1.me.1=(K.getD j z3).1.me.1)=true:=decide_eq_true rfl
 exact ⟨zE hj h1 h2,qQ hj h1 h2⟩
theorem jt {K:List N3} (h:RS K) {j:Nat} (hj:j<K.length) {x:N3} (he:(K.getD j z3).1.me=x.1.me) (hx:RN x.1):K.set j x=eu K x∧RS (K.set j x)∧ae (K.set j x)=ae K:=by
 have hp:=h.inc
 have hsp:K=K.take j++K.getD j z3::K.drop (j+1):=by
  conv=>lhs;rw [← List.take_append_drop j K,List.drop_eq_getElem_cons hj,jE hj]
 rw [hsp] at hp
 have h1:=List.pairwise_append.1 hp
 have h2:=List.pairwise_cons.1 h1.2.1
 have hno:(K.getD j z3).1.me.1=x.1.me.1:=by rw [he]
 have e:K.set j x=eu K x:=by
  rw [List.set_eq_take_append_cons_drop,if_pos hj]
  conv=>rhs;rw [hsp]
  exact(rR (x:=x) (fun z hz=>by rw [← hno];exact h1.2.2 z hz _ List.mem_cons_self) hno (fun z hz=>by rw [← hno];exact h2.1 z hz)).symm
 obtain ⟨q1,q2,_⟩:=h.put (x:=x) (bj hj) he hx
 rw [e];exact ⟨rfl,q1,q2⟩
theorem pO {K K1 K2:List N3} {j:Nat} (h:RS K) (hj:j<K.length) {T1 T2:Nd} (hT1:T1=ar (ae K) (K.getD j z3).1) (h1:nds K1=gH (nds K) T1) (hT2:T2=aN T1 (aG (ae K1) (cg K1 (T1.sc.getD 0 ap).1).1)) (h2:nds K2=gH (nds K1) T2):
 fB (nds K) (K.getD j z3).1.me.1=bif bP (ae K2) (T2.sc.getD 0 ap).1 then gH (nds K2) (cP (cg K2 (T2.sc.getD 0 ap).1).1 T2.me) else nds K2:=by
 have e0:qv (nds K) (K.getD j z3).1.me.1=(K.getD j z3).1:=by rw [← ig,(CC h.inc hj).2]
 unfold fB
 simp only [e0,cY,← hT1]
 rw [← h1,cY,← ig,← hT2,← h2,cY,← ig]
theorem g5 {K:List N3} (h:RS K) {no:Int} (hl:bP (ae K) no=true):az K no<K.length∧K.getD (az K no) z3=cg K no∧cg K no∈K:=by
 have h1:az K no<K.length:=of_decide_eq_true ((eb h.nos).trans hl)
 have h2:=(lW h1).1
 exact ⟨h1,h2,by rw [← h2];exact bj h1⟩
theorem pG {K:List N3} (h:RS K) {j:Nat} (hj:j<K.length):bP (ae K) (K.getD j z3).1.me.1=true:=(en h.nos).2 ⟨_,List.mem_map.2 ⟨_,bj hj,rfl⟩,rfl⟩
theorem dE {w:World} {K:List N3} {j:Nat} {T:Nd} {u v:Value} (h:cD K w) (hj:j<K.length) (e:K.getD j z3=(T,u,v)):bO w u 33 T.sc.length (am T.sc)∧bO w v 33 T.fg.length (am T.fg):=by
 have h9:=h _ (bj hj)
 rw [e] at h9;exact h9
def gc (q:N3→Bool) (l:List N3) (j:Nat):List N3:=(l.take j).filter q++l.drop ((l.take j).filter q).length
def ew (q:N3→Bool) (l:List N3) (j:Nat):Nat:=((l.take j).filter q).length
theorem oe (q:N3→Bool) (l:List N3) (j:Nat):ew q l j≤j:=by
 unfold ew
 have:=List.length_filter_le q (l.take j)
 rw [List.length_take] at this;omega
theorem uK (q:N3→Bool) (l:List N3) (j:Nat):ew q l j≤l.length:=by
 unfold ew
 have:=List.length_filter_le q (l.take j)
 rw [List.length_take] at this;omega
theorem pc (q:N3→Bool) (l:List N3) (j:Nat):(gc q l j).length=l.length:=by
 have:=uK q l j
 unfold ew at this
 unfold gc;rw [List.length_append,List.length_drop];omega
theorem um {q:N3→Bool} {l:List N3} {j:Nat} (hj:j<l.length):(gc q l j).getD j z3=l.getD j z3:=by
 have h1:=oe q l j
 unfold ew at h1
 unfold gc
 rw [List.getD_eq_getElem?_getD,List.getElem?_append_right h1,List.getElem?_drop,List.getD_eq_getElem?_getD]
 congr 2
 omega
theorem rm {q:N3→Bool} {l:List N3} {j:Nat} (hj:j<l.length) (h:q (l.getD j z3)=false):gc q l (j+1)=gc q l j∧ew q l (j+1)=ew q l j:=by
 have e:(l.take (j+1)).filter q=(l.take j).filter q:=by rw [fE hj,List.filter_append,List.filter_cons,h];simp
 unfold gc ew;rw [e];exact ⟨rfl,rfl⟩
theorem pg {q:N3→Bool} {l:List N3} {j:Nat} (hj:j<l.length) (h:q (l.getD j z3)=true):gc q l (j+1)=(gc q l j).set (ew q l j) (l.getD j z3)∧ew q l (j+1)=ew q l j+1:=by
 have e:(l.take (j+1)).filter q=(l.take j).filter q++[l.getD j z3]:=by rw [fE hj,List.filter_append,List.filter_cons,h];simp
 have h1:=oe q l j
 refine ⟨?_,by unfold ew;rw [e,List.length_append];rfl⟩
 unfold ew at h1
 unfold gc ew
 rw [e,List.length_append]
 show (_++[_])++l.drop (_+1)=_
 rw [List.set_append_right _ _ (Nat.le_refl _),Nat.sub_self,List.append_assoc]
 congr 1
 rw [List.drop_eq_getElem_cons (show ((l.take j).filter q).length<l.length by omega),List.set_cons_zero];rfl
theorem qA {q:N3→Bool} {l:List N3} {k:Nat} (hk:k<l.length) (h:∀ i,i<k→q (l.getD i z3)=true) (hq:q (l.getD k z3)=false):gc q l (k+1)=l∧ew q l (k+1)=k:=by
 have e:(l.take k).filter q=l.take k:=by
  rw [List.filter_eq_self]
  intro x hx
  obtain ⟨i,hi,rfl⟩:=List.mem_iff_getElem.1 hx
  rw [List.length_take] at hi
  rw [List.getElem_take,jE (by omega)]
  exact h i (by omega)
 obtain ⟨e1,e2⟩:=rm hk hq
 rw [e1,e2]
 unfold gc ew
 rw [e,List.length_take,Nat.min_eq_left (by omega),List.take_append_drop]
 exact ⟨rfl,rfl⟩
theorem vQ (q:N3→Bool) (l:List N3):ew q l l.length=(l.filter q).length:=by unfold ew;rw [List.take_length]
theorem vI (q:N3→Bool) (l:List N3):gc q l l.length=l.filter q++l.drop (l.filter q).length:=by unfold gc;rw [List.take_length]
theorem x5 {q:N3→Bool} {l:List N3} {k:Nat} (hk:k<l.length) (hq:q (l.getD k z3)=false):(l.filter q).length<l.length:=by
 rcases Nat.lt_or_ge (l.filter q).length l.length with h|h
 ·exact h
 ·have h1:=List.length_filter_le q l
  have h2:l.filter q=l:=List.filter_eq_self.2 (by
   have:=List.length_filter_eq_length_iff.1 (show (l.filter q).length=l.length by omega)
   exact this)
  have h3:=List.filter_eq_self.1 h2 _ (bj hk)
  rw [hq] at h3;cases h3
theorem qt (q:N3→Bool) (l:List N3):(aD (gc q l l.length)).take ((l.filter q).length*68)=aD (l.filter q):=by
 rw [vI,fD,List.take_left' (fy _)]
theorem p6 {l:List N3} {p:N3→Bool} (h:∀ x∈l,p x=false):(l.filter fun x => !p x)=l:=List.filter_eq_self.2 fun x hx=>by rw [h x hx];rfl
theorem sm (cur:List Value) (z:List Value) (q:N3→Bool) (l:List N3) (h1:cur.take (l.length*68)=aD (gc q l l.length)) (hl:l.length*68≤cur.length) (hz:z.length=(l.length - (l.filter q).length)*68) (o:Nat) (ho:o=(l.filter q).length*68) (m:Nat) (hm:m=(l.length - (l.filter q).length)*68):
 (cur.take o++z++cur.drop (o+m)).length=cur.length∧(cur.take o++z++cur.drop (o+m)).take o=aD (l.filter q):=by
 subst ho;subst hm
 have hle:=List.length_filter_le q l
 obtain ⟨e1,e2⟩:=rp cur z ((l.filter q).length*68) ((l.length - (l.filter q).length)*68) (by rw [← Nat.add_mul];rw [show (l.filter q).length+(l.length - (l.filter q).length)=l.length by omega];exact hl) hz
 refine ⟨e1,e2.trans ?_⟩
 have h9:=congrArg (List.take ((l.filter q).length*68)) h1
 rw [List.take_take,Nat.min_eq_left (Nat.mul_le_mul_right 68 hle),qt] at h9
 exact h9
theorem t1 {w:World} {B:List Own} {w':World} {v:Value} {M:TypeId} {l r:List N3} (h:l=r) (s:St w (.sl v M 68 l.length (aD l)::B) w'):St w (.sl v M 68 r.length (aD r)::B) w':=by subst h;exact s
theorem CL {K L:List N3} {no:Int} (hk:nds K=nds L) (hi:az L no<L.length):(K.getD (az L no) z3).1.me.1=no:=by
 rw [zK hk hi,(lW hi).1];exact(lW hi).2
theorem x7 {K L:List N3} {no:Int} (hk:nds K=nds L):nds (K.filter fun x => !decide (x.1.me.1=no))=nD (nds L) no:=by
 have e:(K.filter fun x => !decide (x.1.me.1=no))=eZ K no:=by
  unfold eZ
  refine List.filter_congr fun x _=>?_
  rw [decide_not]
 rw [e,qT,hk]
theorem sG {K:List N3} {p:N3→Bool} {w9:World} (h:cD K w9):cD (K.filter p) w9:=fun y hy=>h y (List.mem_filter.1 hy).1
end Go.Proofs.YthggibfkgofncaaGreat
namespace Go.Proofs.YthggibfkgofncaaGreat
open Go.RowKit
def Ai (w:World) (N:TypeId) (L:List N3) (no:Int):cL:=fun v w9=>
 (∃ k,cE L no=k∧k≠0∧v=.tuple #[.agg #[aU],.int .i64 k]) ∨
 (cE L no=0∧∃ vq K ks,v=.tuple #[.agg #[vq],.int .i64 0]∧nds K=nD (nds L) no∧St w [.sl vq N 68 K.length (aD K),.grp ks (cD K)] w9)
theorem Ai.n {w w9:World} {N:TypeId} {L:List N3} {no k:Int} {v:Value} (h:Ai w N L no v w9) (hk:cE L no=k) (h0:k≠0):v=.tuple #[.agg #[aU],.int .i64 k]:=by
 rcases h with ⟨q,h1,_,h3⟩|⟨h1,_⟩
 ·rw [h3,← h1,hk]
 ·exact absurd (hk.symm.trans h1) h0
theorem Ai.y {w w9:World} {N:TypeId} {L:List N3} {no:Int} {v:Value} (h:Ai w N L no v w9) (hk:cE L no=0):∃ vq K ks,v=.tuple #[.agg #[vq],.int .i64 0]∧nds K=nD (nds L) no∧St w [.sl vq N 68 K.length (aD K),.grp ks (cD K)] w9:=by
 rcases h with ⟨q,h1,h2,_⟩|⟨_,h3⟩
 ·exact absurd (h1.symm.trans hk) h2
 ·exact h3
theorem Ai.any {w w9:World} {N:TypeId} {L:List N3} {vo:Value} {no:Int} {v:Value} (h:Ai w N L no v w9) (e:Ext w w9):xH w (fU vo L) (zR L no) (cE L no) v w9:=by
 rcases h with ⟨k,h1,h2,rfl⟩|⟨h1,vq,K,ks,rfl,hk,s⟩
 ·exact gX ((St.start w).more e) (y2 h1 h2) h1
 ·exact lu h1 (oH (by rw [vV h1,hk]) s)
end Go.Proofs.YthggibfkgofncaaGreat
