/- Own overlays, changed in place: own rows that are sorted; ranges over functions within a round; regions that draw their order, in which what was there ahead may be read; sets; what the package asks of overlays and the reference asks too; no Go in it. -/
import Derived.Shelf.SlSortCmp.WholeK
import Derived.Test.YthggibfkgofncaaGreatOv
set_option linter.unusedVariables false
set_option linter.unusedSimpArgs false
set_option linter.unusedSectionVars false
namespace Go.Proofs.YthggibfkgofncaaGreat
open Go.RowKit Go.Sort
theorem lJ (d:Array Mb):(flatK iG 33 d).toList=av d.toList:=by
 apply List.ext_getElem?
 intro t
 by_cases ht:t<d.size*33
 ·have hj:t / 33<d.size:=by omega
  have hr:t % 33<33:=Nat.mod_lt _ (by decide)
  have h1:(av d.toList)[t]? = (iG d[t / 33])[t % 33]? := by
   have h2:t=t / 33*33+t % 33:=by omega
   conv=>lhs;rw [h2]
   rw [← List.getElem?_drop,← List.getElem?_take_of_lt hr]
   unfold av
   rw [hZ _ 33 ct d.toList (t / 33) (by simpa using hj)]
   simp
  rw [h1]
  have h3:=get_flatK iG 33 d t ht
  have h4:t<(flatK iG 33 d).size:=by rw [size_flatK];exact ht
  rw [getElem!_pos _ t h4,getElem!_pos d _ hj] at h3
  rw [Array.getElem?_toList,Array.getElem?_eq_getElem h4,h3]
  have h5:t % 33<(iG d[t / 33]).length:=by rw [ct];exact hr
  rw [getElem!_pos (iG d[t / 33]) (t % 33) h5,List.getElem?_eq_getElem h5]
 ·rw [List.getElem?_eq_none (by rw [Array.length_toList,size_flatK];omega),List.getElem?_eq_none (by rw [es,Array.length_toList];omega)]
theorem jI (F c:Array Value):(putCells id 0 F c).size=c.size:=by simp [putCells]
theorem pj (F c:Array Value) (h:F.size≤c.size):(putCells id 0 F c).toList.take F.size=F.toList:=by
 apply List.ext_getElem?
 intro t
 by_cases ht:t<F.size
 ·rw [List.getElem?_take_of_lt ht,Array.getElem?_toList,Array.getElem?_toList]
  unfold putCells
  rw [Array.getElem?_mapIdx,Array.getElem?_eq_getElem (by omega),Option.map_some,if_pos ⟨Nat.zero_le _,by omega⟩,Array.getElem?_eq_getElem ht,Nat.sub_zero,getElem!_pos F t ht]
  rfl
 ·rw [List.getElem?_eq_none (by rw [List.length_take];omega),List.getElem?_eq_none (by rw [Array.length_toList];omega)]
theorem i3 (w:World) (g m:Nat) (d:Array Mb) (os:Array Obj):(sortWorldK iG 33 w g 0 m d os).heap=w.heap.modify g (onCells (putCells id 0 (flatK iG 33 d)))++os:=rfl
theorem kx (w:World) (g m:Nat) (d:Array Mb) (os:Array Obj) {k:Nat} (hk:k<w.heap.size) (hne:k≠g):(sortWorldK iG 33 w g 0 m d os).heap[k]? = w.heap[k]? := by
 rw [i3,Array.getElem?_append_left (by rw [Array.size_modify];exact hk),Array.getElem?_modify,if_neg (fun e=>hne e.symm)]
theorem sB (w:World) (g m:Nat) (d:Array Mb) (os:Array Obj) {cur:Array Value} {e:TypeId} {fz:Nat × Nat} (hg:w.heap[g]? = some (.cells cur e fz)):(sortWorldK iG 33 w g 0 m d os).heap[g]? = some (.cells (putCells id 0 (flatK iG 33 d) cur) e fz):=by
 have hk:g<w.heap.size:=(Array.getElem?_eq_some_iff.1 hg).1
 rw [i3,Array.getElem?_append_left (by rw [Array.size_modify];exact hk),Array.getElem?_modify,if_pos rfl,hg]
 rfl
theorem xG {w0 w:World} {B:List Own} {v:Value} {e:TypeId} {n:Nat} {l:List Mb} (s:St w0 (.sl v e 33 n (av l)::B) w) (hl:l.length=n) (hn:1≤n):
 ∃ g cap,v=.slice (some ⟨g,0,none⟩) n cap∧g<w.heap.size∧w0.heap.size≤g∧HoldsK iG 33 w g 0 l.toArray∧
  ∀ (m:Nat) (os:Array Obj) (d:Array Mb),d.size=n→St w0 (.sl v e 33 n (av d.toList)::B) (sortWorldK iG 33 w g 0 m d os):=by
 obtain ⟨g,cap,cur,fz,rfl,hfz,hnc,hcm,hcs,htk,s⟩:=s.open_sl hn
 have hg:=s.get 0 rfl
 have hlt:g<w.heap.size:=(Array.getElem?_eq_some_iff.1 hg).1
 have hroom:n*33≤cur.size:=by rw [hcs];exact Nat.mul_le_mul_right _ hnc
 refine ⟨g,cap,rfl,hlt,s.own _ List.mem_cons_self g (Own.at_blk.2 rfl),fun j hj=>?_,fun m os d hd=>?_⟩
 ·have hjs:j<n*33:=by rw [size_flatK] at hj;simpa [hl] using hj
  constructor
  ·rw [Nat.zero_add,cell_of_row w g j cur e fz hg]
   have h1:(flatK iG 33 l.toArray).toList=cur.toList.take (n*33):=by rw [lJ,htk]
   have h2:(flatK iG 33 l.toArray).toList[j]? = cur.toList[j]? := by rw [h1,List.getElem?_take_of_lt hjs]
   rw [Array.getElem?_toList,Array.getElem?_toList,Array.getElem?_eq_getElem hj] at h2
   rw [getElem!_pos _ j hj]
   exact h2.symm
  ·simp only [World.frozen?,hg,Nat.zero_add]
   obtain ⟨lo,hi⟩:=fz
   rcases hfz with h9|h9
   ·change hi=0 at h9;subst h9;simp
   ·change cur.size≤lo at h9
    have:¬ lo≤j:=by omega
    simp [this]
 ·have hF:(flatK iG 33 d).size=n*33:=by rw [size_flatK,hd]
  have s2:=s.upd 0 (w':=sortWorldK iG 33 w g 0 m d os) (p':=.blk g (.cells (putCells id 0 (flatK iG 33 d) cur) e fz)) rfl rfl rfl rfl (by rw [i3];simp) (sB w g m d os hg) (fun k hk=>.inl hk) (fun k hk hne=>kx w g m d os hk (fun e9=>hne (Own.at_blk.2 e9))) (Nat.le_add_right _ _)
  refine s2.close_sl (by rw [jI];exact hfz) hnc hcm (by rw [jI];exact hcs) ?_ ?_
  ·rw [← hF,pj _ _ (by omega),lJ]
  ·rw [es,Array.length_toList,hd]
theorem rv {W w':World} (h:Ext W w'):∃ q os',w'=grow (W.drewN q) os':=by
 refine ⟨w'.drawn - W.drawn,w'.heap.extract W.heap.size w'.heap.size,?_⟩
 have hh:w'.heap=W.heap++w'.heap.extract W.heap.size w'.heap.size:=by
  apply Array.ext_getElem?
  intro k
  rw [Array.getElem?_append]
  by_cases hk:k<W.heap.size
  ·rw [if_pos hk];exact h.block k hk
  ·rw [if_neg hk,Array.getElem?_extract]
   by_cases h2:k<w'.heap.size
   ·rw [if_pos (by omega)];congr 1;omega
   ·rw [if_neg (by omega),Array.getElem?_eq_none (by omega)]
 have h1:=h.os
 have h2:=h.tape
 have h3:=h.output
 have h4:=h.drawn
 obtain ⟨hp,tp,dr,o,ou⟩:=w'
 obtain ⟨hp2,tp2,dr2,o2,ou2⟩:=W
 simp only at h1 h2 h3 h4 hh
 subst h1;subst h2;subst h3
 have h5:dr2+(dr - dr2)=dr:=by omega
 simp only [grow,World.drewN,h5]
 rw [← hh]
theorem nO (x9:Id) (a b:Mb):ltOf (fun x y:Mb=>fk (x.2 - x9) (y.2 - x9)) a b=decide (fd x9 a.2<fd x9 b.2):=rD _ _ _
theorem wD (x9:Id):SWO (ltOf fun x y:Mb=>fk (x.2 - x9) (y.2 - x9)) where
 irrefl x:=by rw [nO];simp
 trans x y z h1 h2:=by rw [nO] at *;simp at *;omega
 ntrans x y z h1 h2:=by rw [nO] at *;simp at *;omega
theorem qE {l:List Mb} (h:Rg l) (x9:Id) {d:Array Mb} (hp:PermIn 0 l.toArray.size l.toArray d) (hs:SortedIn (ltOf fun x y:Mb=>fk (x.2 - x9) (y.2 - x9)) 0 l.toArray.size d):d.toList=ei x9 l:=by
 obtain ⟨hsz,_,hpm⟩:=hp
 have e1:d.extract 0 l.toArray.size=d:=by rw [← hsz];exact Array.extract_size
 rw [e1,Array.extract_size] at hpm
 refine zb h x9 hpm ?_
 rw [List.pairwise_iff_getElem]
 intro i j hi hj hij
 have hi':i<d.size:=by simpa using hi
 have hj':j<d.size:=by simpa using hj
 have:=hs i j (Nat.zero_le _) hij (by omega)
 rw [getElem!_pos d j hj',getElem!_pos d i hi',nO] at this
 simpa using this
end Go.Proofs.YthggibfkgofncaaGreat
namespace Go.Proofs.YthggibfkgofncaaGreat
open Go.RowKit
def tu (ops:List Oper) (cls cons rd:List (List Nat)) (q:Nat):Bool:=(List.range ops.length).all fun i=>(rd.getD i []).all fun j=>
 decide (j<q) && (!(cons.getD i []).contains (ops.length+j) && (List.range ops.length).all fun k => !(cons.getD k []).contains (ops.length+j) || (cls.getD k []).contains i)
theorem xn {ops:List Oper} {cls cons rd:List (List Nat)} {q:Nat} (h:tu ops cls cons rd q=true) {i:Nat} (hi:i<ops.length) {j:Nat} (hj:j∈rd.getD i []):j<q∧ops.length+j ∉ cons.getD i []∧∀ k,k<ops.length→ops.length+j∈cons.getD k []→i∈cls.getD k []:=by
 have h1:=List.all_eq_true.1 (List.all_eq_true.1 h i (List.mem_range.2 hi)) j hj
 rw [Bool.and_eq_true,Bool.and_eq_true] at h1
 refine ⟨of_decide_eq_true h1.1,eB.1 h1.2.1,fun k hk hm=>?_⟩
 have h2:=List.all_eq_true.1 h1.2.2 k (List.mem_range.2 hk)
 rw [Bool.or_eq_true] at h2
 rcases h2 with h2|h2
 ·exact absurd hm (eB.1 h2)
 ·exact List.contains_iff_mem.1 h2
section
variable {P:Program} {ro:Option Nat} {ops:List Oper} {cls cons:List (List Nat)} {a0:Act} {Q:Exit→Act→World→Prop} {w0 w1:World}
def Bm (P:Program) (ops:List Oper) (cls cons rd:List (List Nat)) (Rs:List sG) (I0:List (List Own)) (Fs:List sD) (Bs:List Own) (w0:World) (a0:Act) (i:Nat) (o:Oper):Prop:=
 ∀ (a:Act) (w:World) (val:Nat→Value) (E:List Own),a.tmps.size=a0.tmps.size→a.defers=a0.defers→
  (∀ t∈o.looksAt ops.toArray,iQ ops (cls.getD i []) a0 a val t)→
  (∀ j∈cls.getD i [],jx cls Fs val j)→(∀ j∈rd.getD i [],∀ p∈I0.getD j [],p∈E)→St w0 ((cons.getD i []).flatMap (eW ops cls Rs I0 val)++(Bs++E)) w→
  cJ P ops.toArray (fun a' w'=>∃ v,(∀ d,o.dst=some d→a'.tmps.getD d undef=v)∧jx cls Fs (oz val i v) i∧St w0 (eW ops cls Rs I0 (oz val i v) i++(Bs++E)) w') [o] a w
theorem qt {q rid m:Nat} {rd:List (List Nat)} (hrd:tu ops cls cons rd q=true) {Rs:List sG} {I0:List (List Own)} {Fs:List sD} {Bs:List Own} (hm:P.follows .mixedOrders=true) (hok:eA ops cls cons q a0.tmps.size=true) (hsel:Region.noSelect ops.toArray=true)
 (hml:m≤ops.length) (hT:∀ i,m≤i→i<ops.length→∀ j,j<i→j∈cls.getD i [])
 (hob:∀ i o,i<m→ops[i]? = some o→Bm P ops cls cons rd Rs I0 Fs Bs w0 a0 i o)
 (s:St w0 (((List.range (ops.length+q)).filter (c8 ops cons fun _=>false)).flatMap (eW ops cls Rs I0 fun _=>undef)++Bs) w1)
 (hfin:∀ (b:Act) (w:World) (val:Nat→Value),b.tmps.size=a0.tmps.size→b.defers=a0.defers→(∀ i d,i<m→aZ ops i=some d→b.tmps.getD d undef=val i)→(∀ t,(∀ i,i<m→aZ ops i≠some t)→b.tmps.getD t undef=a0.tmps.getD t undef)→
  (∀ i,i<m→jx cls Fs val i)→St w0 (((List.range (ops.length+q)).filter (c8 ops cons fun j=>Nat.blt j m)).flatMap (eW ops cls Rs I0 val)++Bs) w→cJ P ops.toArray (Q .normal) (ops.drop m) b w):
 (Code.region rid ops.toArray true).wpIn (FR ro) 0 P Q a0 w1:=by
 refine wpIn_region_any hm ?_
 have hend:∀ (listed:Array Bool) (a:Act) (w:World) (val:Nat→Value),JC ops cls cons q Rs I0 Fs Bs w0 a0 m listed a w val→(∀ i,i<m→listed.getD i false=true)→∀ fuel,ops.length=m+fuel→wpAnyIn (FR ro) 0 P .any ops.toArray Q fuel listed a w:=by
  intro listed a w val I hall fuel hfu
  refine kw hok hT fuel m listed a w hfu (Nat.le_refl _) I.lsize hall I.tail ?_
  have hfd:fuel=(ops.drop m).length:=by rw [List.length_drop];omega
  rw [hfd,wpOpsIn_eq_wpListIn (ops.drop m) m (fun j=>by rw [List.getElem?_toArray,List.getElem?_drop])]
  refine cJ.wp ?_
  refine hfin a w val I.size I.defers (fun i d hi hd=>I.done i d hd (hall i hi)) (fun t ht=>I.rest t fun j hj=>?_) (fun i hi=>I.facts i (hall i hi)) ?_
  ·rcases Nat.lt_or_ge j m with h|h
   ·exact absurd hj (ht j h)
   ·exact I.tail j h
  have hfun:(fun j=>listed.getD j false)=fun j=>Nat.blt j m:=by
   funext j
   rcases Nat.lt_or_ge j m with h|h
   ·rw [hall j h];exact(uH h).symm
   ·rw [mF h];exact I.tail j h
  have h9:=I.st
  rw [hfun] at h9
  exact h9
 have hcount:∀ (fuel:Nat) (listed:Array Bool) (a:Act) (w:World) (val:Nat→Value),listed.toList.count false=fuel→JC ops cls cons q Rs I0 Fs Bs w0 a0 m listed a w val→wpAnyIn (FR ro) 0 P .any ops.toArray Q fuel listed a w:=by
  intro fuel
  induction fuel with
  |zero=>
   intro listed a w val hc I
   have hall:∀ i,i<ops.length→listed.getD i false=true:=fun i hi=>eK hc i (by rw [I.lsize];exact hi)
   refine hend listed a w val I (fun i hi=>hall i (by omega)) 0 ?_
   rcases Nat.lt_or_ge m ops.length with h|h
   ·have:=I.tail m (Nat.le_refl _)
    rw [hall m h] at this;cases this
   ·omega
  |succ fuel ih=>
   intro listed a w val hc I
   by_cases hall:∀ i,i<m→listed.getD i false=true
   ·refine hend listed a w val I hall (fuel+1) ?_
    have key:∀ (b:List Bool) (m:Nat),m≤b.length→(∀ i,i<m→b[i]? = some true)→(∀ i,m≤i→i<b.length→b[i]? = some false)→b.count false=b.length - m:=by
     intro b
     induction b with
     |nil=>intro m _ _ _;simp
     |cons x b ihb=>
      intro m hm h1 h2
      cases m with
      |zero=>
       have hx:x=false:=by simpa using h2 0 (Nat.le_refl _) (by simp)
       have:=ihb 0 (Nat.zero_le _) (fun i hi=>by omega) (fun i _ hi=>by simpa using h2 (i+1) (Nat.zero_le _) (by simp;omega))
       subst hx;simp [this]
      |succ m=>
       have hx:x=true:=by simpa using h1 0 (by omega)
       have:=ihb m (by simpa using hm) (fun i hi=>by simpa using h1 (i+1) (by omega)) (fun i hi hi2=>by simpa using h2 (i+1) (by omega) (by simp;omega))
       subst hx;simp [this]
    have hk:=key listed.toList m (by simp [I.lsize];omega)
     (fun i hi=>by have:=hall i hi;have hil:i<listed.size:=by rw [I.lsize];omega
                   simp [hil] at this ⊢;exact this)
     (fun i hi hi2=>by have:=I.tail i hi;have hil:i<listed.size:=by simpa using hi2
                       simp [hil] at this ⊢;exact this)
    rw [hc] at hk
    simp [I.lsize] at hk
    omega
   refine ⟨fun hr=>absurd (fun i hi=>jr hok I.lsize hr i (by omega)) hall,fun k hk=>?_⟩
   obtain ⟨o,ho,hf,hdir⟩:=cI hk
   have hkl:=(List.getElem?_eq_some_iff.1 ho).1
   have hks:k<listed.size:=by rw [I.lsize];exact hkl
   have hkm:k<m:=by
    rcases Nat.lt_or_ge k m with h3|h3
    ·exact h3
    ·exfalso
     apply hall
     intro j hj
     rcases (ee hok ho).2 j (hT k h3 hkl j (by omega)) with h4|⟨p,hp,h4⟩
     ·exact hdir j h4
     ·exact I.closed p (hdir p hp) j h4
   have hu:=hf I.lsize
   have hcl:∀ j∈cls.getD k [],listed.getD j false=true:=fun j hj=>by
    rcases (ee hok ho).2 j hj with h1|⟨q,hq,h1⟩
    ·exact hdir j h1
    ·exact I.closed q (hdir q hq) j h1
   have hcnt:(listed.setIfInBounds k true).toList.count false=fuel:=by have:=ft hks hu;omega
   have hnk:∀ i,listed.getD i false=true→k ∉ cls.getD i []:=fun i hi hm=>by have:=I.closed i hi k hm;rw [hu] at this;cases this
   have hkk:k ∉ cls.getD k []:=fun hm=>by have:=nq hok k hkl k hm;omega
   obtain ⟨hcn,hcc⟩:=jL hok ho
   have hclive:∀ j∈cons.getD k [],c8 ops cons (fun j=>listed.getD j false) j=true:=fun j hj=>by
    obtain ⟨_,h2,h3⟩:=hcc j hj
    refine dN.2 ⟨h2.imp id (hcl j),fun i hi hl hm=>?_⟩
    rw [h3 i hi hm] at hl
    rw [hu] at hl;cases hl
   have hperm:((List.range (ops.length+q)).filter (c8 ops cons fun j=>listed.getD j false)).Perm (cons.getD k []++(List.range (ops.length+q)).filter (fun j=>c8 ops cons (fun j=>listed.getD j false) j && !(cons.getD k []).contains j)):=by
    refine(List.perm_ext_iff_of_nodup (List.nodup_range.filter _) ?_).2 fun j=>?_
    ·rw [List.nodup_append]
     refine ⟨hcn,List.nodup_range.filter _,fun x hx y hy e=>?_⟩
     subst e
     have:=(Bool.and_eq_true _ _▸(List.mem_filter.1 hy).2:_∧_).2
     exact eB.1 this hx
    ·rw [List.mem_append,List.mem_filter,List.mem_filter,List.mem_range,Bool.and_eq_true]
     constructor
     ·rintro ⟨h1,h2⟩
      by_cases hj:j∈cons.getD k []
      ·exact .inl hj
      ·exact .inr ⟨h1,h2,eB.2 hj⟩
     ·rintro (h1|⟨h1,h2,_⟩)
      ·exact ⟨(hcc j h1).1,hclive j h1⟩
      ·exact ⟨h1,h2⟩
   obtain ⟨E,hE⟩:∃ E,E=((List.range (ops.length+q)).filter (fun j=>c8 ops cons (fun j=>listed.getD j false) j && !(cons.getD k []).contains j)).flatMap (eW ops cls Rs I0 val):=⟨_,rfl⟩
   have hst:St w0 ((cons.getD k []).flatMap (eW ops cls Rs I0 val)++(Bs++E)) w:=by
    refine I.st.perm ?_
    refine((hperm.flatMap_right _).append_right Bs).trans ?_
    rw [List.flatMap_append,← hE,List.append_assoc]
    exact(List.perm_append_comm).append_left _
   have hslots:∀ t∈o.looksAt ops.toArray,iQ ops (cls.getD k []) a0 a val t:=fun t ht=>by
    unfold iQ
    cases hw:du ops (cls.getD k []) t with
    |some j=>
     obtain ⟨hmj,oj,hj,hdj⟩:=dG hw
     exact I.done j t (by rw [cp hj,hdj]) (hcl j hmj)
    |none=>
     refine I.rest t fun j hdj=>?_
     cases hb:listed.getD j false with
     |false=>rfl
     |true=>
      rcases pB hok ho t ht j hdj with h|h
      ·obtain ⟨oj,h1,h2⟩:=ea hdj
       exact absurd h (ew hw j oj h1 h2)
      ·exact absurd h (hnk j hb)
   have hrdE:∀ j∈rd.getD k [],∀ p∈I0.getD j [],p∈E:=fun j hj p hp=>by
    obtain ⟨h1,h2,h3⟩:=xn hrd hkl hj
    rw [hE]
    refine List.mem_flatMap.2 ⟨ops.length+j,List.mem_filter.2 ⟨List.mem_range.2 (by omega),?_⟩,?_⟩
    ·rw [Bool.and_eq_true]
     refine ⟨dN.2 ⟨.inl (Nat.le_add_right _ _),fun i hi hl hm=>hnk i hl (h3 i hi hm)⟩,eB.2 h2⟩
    ·unfold eW
     rw [mF (Nat.le_add_right _ _),cond_false,Nat.add_sub_cancel_left];exact hp
   have hO:=hob k o hkm ho a w val E I.size I.defers hslots (fun j hj=>I.facts j (hcl j hj)) hrdE hst
   have hset:=bL hks
   have step:∀ v v' w',(∀ d,o.dst=some d→v'=v)→jx cls Fs (oz val k v) k→St w0 (eW ops cls Rs I0 (oz val k v) k++(Bs++E)) w'→wpAnyIn (FR ro) 0 P .any ops.toArray Q fuel (listed.setIfInBounds k true) (a.put o.dst v') w':=fun v v' w' hv hF hS=>by
    have hmk:∀ i,listed.getD i false=true→wi (i::cls.getD i []) (oz val k v)=wi (i::cls.getD i []) val:=fun i hi=>ng fun j hj=>by
     refine ik val v fun e=>?_
     subst e
     rcases List.mem_cons.1 hj with h|h
     ·subst h;rw [hu] at hi;cases hi
     ·exact hnk i hi h
    refine ih _ _ w' (oz val k v) hcnt ⟨by rw [Act.tmps_put_size];exact I.size,by cases o.dst<;>exact I.defers,by simp [I.lsize],fun i hi=>(by have h8:=I.tail i hi;have h7:k≠i:=(by omega);simpa [Array.getElem?_setIfInBounds_ne h7] using h8),fun i d hd hl=>?_,fun t ht=>?_,fun i hi j hj=>?_,fun i hi=>?_,?_⟩
    ·obtain ⟨hds,huniq⟩:=iq hok hd
     by_cases hik:i=k
     ·subst hik
      have hdo:o.dst=some d:=by rw [cp ho] at hd;exact hd
      rw [hdo,bZ,if_pos ⟨rfl,by rw [I.size];exact hds⟩,oO]
      exact hv d hdo
     ·have hne:o.dst≠some d:=fun e=>hik (huniq k (by rw [cp ho,e])).symm
      rw [ik val v hik]
      have h9:=I.done i d hd (((hset i).1 hl).resolve_left hik)
      cases hdo:o.dst with
      |none=>exact h9
      |some d2=>rw [bZ,if_neg (fun h=>hne (by rw [hdo,h.1]))];exact h9
    ·have h9:=I.rest t fun j hj=>by
      have:=ht j hj
      cases hb:listed.getD j false with
      |false=>rfl
      |true=>rw [(hset j).2 (.inr hb)] at this;cases this
     cases hdo:o.dst with
     |none=>exact h9
     |some d2=>
      rw [bZ,if_neg]
      ·exact h9
      ·rintro ⟨e,_⟩
       subst e
       have:=ht k (by rw [cp ho,hdo])
       rw [(hset k).2 (.inl rfl)] at this;cases this
    ·rcases (hset i).1 hi with e|e
     ·subst e;exact(hset j).2 (.inr (hcl j hj))
     ·exact(hset j).2 (.inr (I.closed i e j hj))
    ·rcases (hset i).1 hi with e|e
     ·subst e;exact hF
     ·unfold jx
      rw [hmk i e]
      exact I.facts i e
    ·
     have hlive:∀ j,c8 ops cons (fun j=>(listed.setIfInBounds k true).getD j false) j=true↔(j=k∨(c8 ops cons (fun j=>listed.getD j false) j=true∧j ∉ cons.getD k [])):=fun j=>by
      rw [dN,dN]
      constructor
      ·rintro ⟨h1,h2⟩
       by_cases hjk:j=k
       ·exact .inl hjk
       ·refine .inr ⟨⟨h1.imp id fun h=>((hset j).1 h).resolve_left hjk,fun i hi hl=>h2 i hi ((hset i).2 (.inr hl))⟩,h2 k hkl ((hset k).2 (.inl rfl))⟩
      ·rintro (rfl|⟨⟨h1,h2⟩,h3⟩)
       ·refine ⟨.inr ((hset j).2 (.inl rfl)),fun i hi hl hm=>?_⟩
        have hio:ops[i]? = some ops[i]:=by simp [hi]
        rcases ((jL hok hio).2 j hm).2.1 with h|h
        ·omega
        ·rcases (hset i).1 hl with e|e
         ·subst e;exact hkk h
         ·exact hnk i e h
       ·refine ⟨h1.imp id fun h=>(hset j).2 (.inr h),fun i hi hl=>?_⟩
        rcases (hset i).1 hl with e|e
        ·subst e;exact h3
        ·exact h2 i hi e
     have hp2:((List.range (ops.length+q)).filter (c8 ops cons fun j=>(listed.setIfInBounds k true).getD j false)).Perm (k::(List.range (ops.length+q)).filter (fun j=>c8 ops cons (fun j=>listed.getD j false) j && !(cons.getD k []).contains j)):=by
      refine(List.perm_ext_iff_of_nodup (List.nodup_range.filter _) ?_).2 fun j=>?_
      ·rw [List.nodup_cons]
       refine ⟨fun hm=>?_,List.nodup_range.filter _⟩
       have h1:=(List.mem_filter.1 hm).2
       rw [Bool.and_eq_true] at h1
       rcases (dN.1 h1.1).1 with h|h
       ·omega
       ·rw [hu] at h;cases h
      ·rw [List.mem_filter,List.mem_cons,List.mem_filter,List.mem_range,Bool.and_eq_true,hlive]
       constructor
       ·rintro ⟨h1,h2|⟨h2,h3⟩⟩
        ·exact .inl h2
        ·exact .inr ⟨h1,h2,eB.2 h3⟩
       ·rintro (h1|⟨h1,h2,h3⟩)
        ·exact ⟨by omega,.inl h1⟩
        ·exact ⟨h1,.inr ⟨h2,eB.1 h3⟩⟩
     refine hS.perm ?_
     refine List.Perm.trans ?_ ((hp2.flatMap_right _).append_right Bs).symm
     rw [List.flatMap_cons]
     have hEq:((List.range (ops.length+q)).filter (fun j=>c8 ops cons (fun j=>listed.getD j false) j && !(cons.getD k []).contains j)).flatMap (eW ops cls Rs I0 (oz val k v))=E:=by
      rw [hE,List.flatMap_def,List.flatMap_def]
      congr 1
      refine List.map_congr_left fun j hj=>?_
      have h1:=(List.mem_filter.1 hj).2
      rw [Bool.and_eq_true] at h1
      unfold eW
      rcases Nat.lt_or_ge j ops.length with h|h
      ·have hl:=(dN.1 h1.1).1.resolve_left (by omega)
       rw [hmk j hl]
      ·rw [mF h];rfl
     rw [hEq,List.append_assoc]
     exact(List.perm_append_comm).append_left _
   have ho':ops.toArray[k]? = some o:=by simpa using ho
   unfold wpOpIn
   simp only [ho']
   unfold cJ at hO
   split at hO
   ·rename_i hw
    rw [if_pos hw]
    exact hO.wp fun v w' h9=>by
     unfold cJ at h9
     obtain ⟨u,h1,h2,h3⟩:=h9
     refine step u v w' (fun d hd=>?_) h2 h3
     have:=h1 d hd
     rwa [hd,bZ,if_pos ⟨rfl,by rw [I.size];exact(iq hok (by rw [cp ho,hd])).1⟩] at this
   ·rename_i hw
    rw [if_neg hw]
    unfold cJ at hO
    obtain ⟨u,h1,h2,h3⟩:=hO
    refine ⟨fun _ _=>trivial,step u undef w (fun d hd=>?_) h2 h3⟩
    have:=h1 d hd
    rwa [hd,bZ,if_pos ⟨rfl,by rw [I.size];exact(iq hok (by rw [cp ho,hd])).1⟩] at this
 have hz:∀ i,(Array.replicate ops.toArray.size false).getD i false=false:=fun i=>by simp [Array.getElem?_replicate];split<;>rfl
 have hfz:(fun j=>(Array.replicate ops.toArray.size false).getD j false)=fun _=>false:=funext hz
 refine hcount _ _ _ _ (fun _=>undef) (by simp) ⟨rfl,rfl,by simp,fun i _=>hz i,fun i d _ h=>?_,fun _ _=>rfl,fun i h=>?_,fun i h=>?_,?_⟩
 ·rw [hz] at h;cases h
 ·rw [hz] at h;cases h
 ·rw [hz] at h;cases h
 ·rw [hfz];exact s.drew
def yJ (P:Program) (ops:List Oper) (cls cons rd:List (List Nat)) (Rs:List sG) (I0:List (List Own)) (Fs:List sD) (Bs:List Own) (w0:World) (a0:Act):List Oper→Nat→Prop
 |[],_=>True
 |o::r,i=>Bm P ops cls cons rd Rs I0 Fs Bs w0 a0 i o∧yJ P ops cls cons rd Rs I0 Fs Bs w0 a0 r (i+1)
theorem o4 {rd:List (List Nat)} {Rs:List sG} {I0:List (List Own)} {Fs:List sD} {Bs:List Own}:∀ {l:List Oper} {k:Nat},yJ P ops cls cons rd Rs I0 Fs Bs w0 a0 l k→∀ i o,l[i]? = some o→Bm P ops cls cons rd Rs I0 Fs Bs w0 a0 (k+i) o
 |[],_,_,i,o,h=>by simp at h
 |x::r,k,H,0,o,h=>by simp at h;subst h;exact H.1
 |x::r,k,H,i+1,o,h=>by
  have:=o4 H.2 i o (by simpa using h)
  rwa [show k+(i+1)=k+1+i by omega]
theorem y9 {rid N:Nat} {L:List (Nat × Value)} {Df:List Deferred} {B:List Own} (q:Nat) (cls cons rd:List (List Nat)) (Rs:List sG) (I0:List (List Own)) (Fs:List sD) (Bs:List Own)
 (h:Sl N a0 L Df) (s:St w0 B w1) (hB:((List.range (ops.length+q)).filter (c8 ops cons fun _=>false)).flatMap (eW ops cls Rs I0 fun _=>undef)++Bs=B) (hm:P.follows .mixedOrders=true) (hok:eA ops cls cons q N=true) (hrd:tu ops cls cons rd q=true) (hsel:Region.noSelect ops.toArray=true)
 (hob:yJ P ops cls cons rd Rs I0 Fs Bs w0 a0 ops 0) (lv:List Nat) (hlv:(List.range (ops.length+q)).filter (c8 ops cons fun j=>Nat.blt j ops.length)=lv)
 (hfin:∀ (b:Act) (w:World) (val:Nat→Value),b.tmps.size=N→b.defers=Df→(∀ i d,aZ ops i=some d→b.tmps.getD d undef=val i)→(∀ t,(∀ i,aZ ops i≠some t)→b.tmps.getD t undef=a0.tmps.getD t undef)→
  (∀ i,Nat.blt i ops.length=true→jx cls Fs val i)→St w0 (lv.flatMap (eW ops cls Rs I0 val)++Bs) w→Q .normal b w):
 (Code.region rid ops.toArray true).wpIn (FR ro) 0 P Q a0 w1:=by
 subst hB
 refine qt hrd (m:=ops.length) (Fs:=Fs) (I0:=I0) (Rs:=Rs) hm (by rw [h.size];exact hok) hsel (Nat.le_refl _) (fun i h1 h2=>absurd h2 (by omega)) (fun i o _ hi=>?_) s fun b w val h1 h2 h3 h4 h5 h6=>?_
 ·have:=o4 hob i o hi
  rwa [Nat.zero_add] at this
 ·rw [List.drop_length]
  refine cJ.nil.2 (hfin b w val (h1.trans h.size) (h2.trans h.defers) (fun i d hd=>h3 i d (ki hd) hd) (fun t ht=>h4 t fun i _=>ht i) (fun i hi=>h5 i (Nat.le_of_ble_eq_true hi)) (by rw [hlv] at h6;exact h6))
end
theorem St.memSl {w0 w:World} {B:List Own} {v:Value} {e:TypeId} {sz n:Nat} {xs:List Value} (s:St w0 B w) (h:Own.sl v e sz n xs∈B):cN w w0.heap.size e sz v n xs:=by
 obtain ⟨i,hi⟩:=List.mem_iff_getElem?.1 h
 exact s.getSl i hi
end Go.Proofs.YthggibfkgofncaaGreat
namespace Go.Proofs.YthggibfkgofncaaGreat
open Go.RowKit
theorem pp {P:Program} {l0:Nat} {r0:Loop} {w:World} (h:w.heap[l0]? = some (.loop r0)) (fn:FuncId) (tmps:Array Value) (ps:Array Tmp) (assign body:Code):
 (Instr.enterLoop fn tmps ps assign body (some l0)).run P w=.ok (w.heap.size,[]) (w.alloc (.loop {state:=.ready,pending:=none,fn,tmps,params:=ps,assign,body,defers:=r0.defers})):=by
 unfold Instr.enterLoop
 simp only [Sem.run_bind,run_getLoop h,run_newObj_alloc,Result.andThen,Sem.run_pure]
theorem uX {P:Program} {N lo:Nat} {ro:Loop} {a:Act} {L:List (Nat × Value)} {Df:List Deferred} {w w0:World} {B:List Own} {g:Operand} {ps:Array Tmp} {assign body:Code} {f:FuncId} {lb:Array Value} {Q:Exit→Act→World→Prop}
 (J:Nat→List Own→Prop) (A0:List Own) (X:List Own) (m:Nat) (q:Nat→Bool) (arg:Nat→List Value) (h:Sl N a L Df) (s:St w0 B w) (hg:fb L g=some (.func (.func f) #[] lb)) (hf:Fnc P f) (io:Nat) (hio:B[io]? = some (.blk lo (.loop ro)))
 (hB:B.Perm (X++A0)) (hJ0:J 0 A0) (hps:∀ d,(arg d).length=ps.size)
 (hiter:∀ (l:Nat) (w1:World) (GG:Nat→Own→Prop) (g0:Own),GG 0 g0→St w0 (X++[g0]) w1→
  (∀ (d:Nat) (B':List Own) (w':World) (i:Nat) (g:Own),d<m→(∀ j,j<d→q j=false)→GG d g→St w0 B' w'→B'[i]? = some g→i4 P l (arg d).toArray w' (fun v w''=>v=.bool (!q d)∧∃ g',GG (d+1) g'∧St w0 (B'.set i g') w''))→
  Calls P f (#[.func (.yield l) #[] #[]]++lb) w1 (fun e w'=>(∃ v,e=.returned v)∧∃ d g,GG d g∧St w0 (X++[g]) w'∧d≤m∧(∀ j,j+1<d→q j=false)∧(lq q d=false→d=m)))
 (hround:∀ (l d:Nat) (rc:LoopState→Loop) (R A:List Own) (w1:World),d<m→(∀ j,j<d→q j=false)→J d A→St w0 (.blk l (.loop (rc .ready))::(A++R)) w1→
  assign.wpIn (FR (some l)) 0 P (Exit.then (fun a1 w2=>∃ X1,St w0 (.blk l (.loop (rc .ready))::X1) w2∧∀ w3,St w0 (.blk l (.loop (rc .busy))::X1) w3→body.wpIn (FR (some l)) 0 P
   (fun e _ w4=>vF (q d) e∧∃ A',J (d+1) A'∧St w0 (.blk l (.loop (rc .busy))::(A'++R)) w4) a1 w3) (fun _ _ _=>False))
   {tmps:=(ps.zip (arg d).toArray).foldl (fun t (p,v)=>t.setIfInBounds p v) a.tmps,defers:=[]} w1)
 (hdone:∀ (A:List Own) (w2:World),J m A→(∀ j,j<m→q j=false)→St w0 (X++A) w2→Q .normal a w2)
 (hleft:∀ (d:Nat) (A:List Own) (w2:World),d<m→q d=true→(∀ j,j<d→q j=false)→J (d+1) A→St w0 (X++A) w2→Q .ret a w2):
 (Code.rangeFunc g ps assign body).wpIn (FR (some lo)) 0 P Q a w:=by
 refine wpIn_rangeFunc (F:=FR (some lo)) fun fn _=>?_
 obtain ⟨rq,hrq⟩:∃ rq,rq=fun pe st=>f8 a ro.defers fn ps assign body pe st:=⟨_,rfl⟩
 obtain ⟨df,e1,e2,e3⟩:=hf.has
 have hl0:f8 a ro.defers fn ps assign body none .ready=rq none .ready:=by rw [hrq]
 refine ⟨w.heap.size,[],w.alloc (.loop (rq none .ready)),{target:=.fn (.func f) lb,args:=#[.func (.yield w.heap.size) #[] #[]]},w.alloc (.loop (rq none .ready)),f,
  #[.func (.yield w.heap.size) #[] #[]]++lb,w.alloc (.loop (rq none .ready)),?_,?_,fun _ _=>trivial,?_,(fun hh=>by cases hh),?_⟩
 ·rw [hrq];exact pp (s.get io hio) _ _ _ _ _
 ·simp only [resolve,h.ev hg]
  simp [go_sem]
 ·simp only [invoke];exact fj e1 e2 e3 _ _
 have s1:St w0 (.blk w.heap.size (.loop (rq none .ready))::B) (w.alloc (.loop (rq none .ready))):=s.new (.loop (rq none .ready))
 have s2:St w0 ((.blk w.heap.size (.loop (rq none .ready))::A0)++X) (w.alloc (.loop (rq none .ready))):=
  s1.perm ((hB.trans List.perm_append_comm).cons _)
 have hnd0:=dT s2
 have s3:=s2.group
 refine callsIn_wide.2 ((hiter w.heap.size _ (fun d g=>∃ A,J d A∧g=.all w0 (.blk w.heap.size (.loop (rq (mD (lq q d)) (oy (lq q d))))::A)∧
  (Own.blk w.heap.size (.loop (rq (mD (lq q d)) (oy (lq q d))))::A).Pairwise fun p q=>∀ k,p.at k→¬ q.at k)
  _ ⟨A0,hJ0,rfl,hnd0⟩ (s3.perm (List.perm_append_comm (l₁:=[_]))) ?_).mono ?_)
 ·rintro d B' w' i g hd hq0 ⟨A,hJ,rfl,hnd⟩ s' hi
  have hlq:lq q d=false:=by cases d with|zero=>rfl|succ d=>exact hq0 d (Nat.lt_succ_self d)
  rw [hlq] at hi hnd
  have hil:=(List.getElem?_eq_some_iff.1 hi).1
  have s4:St w0 ((.blk w.heap.size (.loop (rq none .ready))::A)++B'.eraseIdx i) w':=(s'.perm (jl hi)).ungroup hnd
  have hl:=s4.get 0 rfl
  have hy:=run_yield (P:=P) (args:=(arg d).toArray) hl (by rw [hrq,List.size_toArray];exact hps d)
  refine ⟨_,_,_,_,hy,?_⟩
  have hw:=hround w.heap.size d (rq none) (B'.eraseIdx i) A w' hd hq0 hJ (by simpa using s4)
  subst hrq
  refine roundIn_of_wpIn (F:=Fence.wide) (n:=0) trivial (Go.wpIn_mono hw ?_)
  intro e a1 w2 he
  cases e with
  |normal=>
   obtain ⟨X1,s5,hb⟩:=he
   refine ⟨_,run_beginRound (s5.get 0 rfl) rfl,Go.wpIn_mono (hb _ (s5.putObj 0 rfl _)) ?_⟩
   rintro e2 a3 w4 ⟨hle,A',hJ',s6⟩
   have key:∀ (jump:Option Code),jump=mD (q d)→∃ v w',(Instr.endRound w.heap.size jump).run P w4=.ok v w'∧∃ u,Ending.returned v=.returned u∧u=.bool (!q d)∧∃ g',(∃ A,J (d+1) A∧g'=Own.all w0 (.blk w.heap.size (.loop (f8 a ro.defers fn ps assign body (mD (q d)) (oy (q d))))::A)∧
    (Own.blk w.heap.size (.loop (f8 a ro.defers fn ps assign body (mD (q d)) (oy (q d))))::A).Pairwise fun p q=>∀ k,p.at k→¬ q.at k)∧St w0 (B'.set i g') w':=by
    rintro jump rfl
    refine ⟨_,_,run_endRound _ (s6.get 0 rfl),_,rfl,(by cases q d<;>rfl),_,⟨A',hJ',rfl,?_⟩,?_⟩
    ·have hn:=dT (A:=.blk w.heap.size (.loop (f8 a ro.defers fn ps assign body none .busy))::A') (R:=B'.eraseIdx i) (by simpa using s6)
     exact oZ (A:=.blk w.heap.size (.loop (f8 a ro.defers fn ps assign body none .busy))::A') rfl hn
    ·have s7:=s6.putObj 0 rfl (.loop (f8 a ro.defers fn ps assign body (mD (q d)) (oy (q d))))
     have s8:St w0 ((.blk w.heap.size (.loop (f8 a ro.defers fn ps assign body (mD (q d)) (oy (q d))))::A')++B'.eraseIdx i) _:=s7
     have s9:=s8.group.perm (m4 hil _)
     cases hqd:q d<;>rw [hqd] at s9<;>exact s9
   cases e2 with
   |normal=>exact key none (by rw [show q d=false from hle];rfl)
   |ret=>exact key (some .ret) (by rw [show q d=true from hle];rfl)
   |exit _=>exact hle.elim
   |goto _=>exact hle.elim
   |panic _=>exact hle.elim
   |outgrown=>exact hle.elim
  |ret=>exact he.elim
  |exit _=>exact he.elim
  |goto _=>exact he.elim
  |panic _=>exact he.elim
  |outgrown=>exact he.elim
 ·rintro e w2 ⟨⟨v,rfl⟩,d,g,⟨A,hJ,rfl,hnd⟩,s4,hdm,hq0,hend⟩
  have s5:St w0 ((.blk w.heap.size (.loop (rq (mD (lq q d)) (oy (lq q d))))::A)++X) w2:=(s4.perm (List.perm_append_comm (l₂:=[_]))).ungroup hnd
  have hl:=s5.get 0 rfl
  subst hrq
  refine ⟨mD (lq q d),_,run_endLoop hl (by cases lq q d<;>simp [f8,oy]),?_⟩
  have s6:=s5.putObj 0 rfl (.loop {f8 a ro.defers fn ps assign body (mD (lq q d)) (oy (lq q d)) with state:=.exhausted})
  have s7:=(s6.pick (A++X) (List.sublist_cons_self _ _)).perm List.perm_append_comm
  cases hqd:lq q d with
  |false=>
   obtain rfl:=hend hqd
   refine hdone A _ hJ (fun j hj=>?_) (by rw [hqd] at s7;exact s7)
   by_cases h1:j+1<d
   ·exact hq0 j h1
   ·have:d=j+1:=by omega
    subst this;exact hqd
  |true=>
   cases d with
   |zero=>cases hqd
   |succ d=>
    refine wpIn_ret ?_
    exact hleft d A _ (by omega) hqd (fun j hj=>hq0 j (by omega)) hJ (by rw [hqd] at s7;exact s7)
section
variable {P:Program} {ops:Array Oper} {Q:Act→World→Prop} {l:List Oper} {a:Act} {w w0:World} {N:Nat} {L:List (Nat × Value)} {Df:List Deferred} {B:List Own} {d:Tmp} {ty:TypeId} {pos:String} {af:Array Edge} {x y z:Operand} {t e:TypeId}
theorem mu {v u9:Value} {sz n p:Nat} {xs ys D:List Value} (i:Nat) (h:Sl N a L Df) (s:St w0 B w) (hx:fb L x=some (.pointer (some (bs v p)))) (hy:fb L y=some u9) (hi:B[i]? = some (.sl v e sz n xs)) (hp:p+D.length≤n*sz) (h1:0<D.length) (hv:∀ u∈D,u.oneCell'=true)
 (hst:∀ (g:Nat) (w9:World) (cur:Array Value) (fz:Nat × Nat),w9.heap[g]? = some (.cells cur e fz)→(fz.2=0∨cur.size≤fz.1)→p+D.length≤cur.size→(storeVar t ⟨g,p,none⟩ u9).run P w9=.ok () (w9.setRow g (cur.toList.take p++D++cur.toList.drop (p+D.length)).toArray))
 (hys:xs.take p++D++xs.drop (p+D.length)=ys)
 (k:∀ w',St w0 (B.set i (.sl v e sz n ys)) w'→cJ P ops Q l a w'):cJ P ops Q (⟨none,.store t x y,ty,pos,af,none⟩::l) a w:=by
 have ho:=s.getSl i hi
 rcases ho.2 with ⟨_,h0⟩|⟨g,cap,cur,fz,rfl,hb,hg,hfz,hnc,hcm,hcs,htk⟩
 ·subst h0;omega
 ·have hcl:n*sz≤cur.size:=by rw [hcs];exact Nat.mul_le_mul_right _ hnc
  have hxl:xs.length=n*sz:=ho.1
  have hcx:cur.toList=xs++cur.toList.drop (n*sz):=by rw [← htk];exact(List.take_append_drop _ _).symm
  have hyl:ys.length=n*sz:=by
   rw [← hys];simp only [List.length_append,List.length_take,List.length_drop];omega
  have hnew:cur.toList.take p++D++cur.toList.drop (p+D.length)=ys++cur.toList.drop (n*sz):=by
   rw [← hys]
   conv=>lhs;rw [hcx]
   rw [List.take_append_of_le_length (by omega),List.drop_append_of_le_length (by omega)]
   simp only [List.append_assoc]
  have hel:(some (bs (Value.slice (some ⟨g,0,none⟩) n cap) p):Option Addr)=some ⟨g,p,none⟩:=by show some (Addr.add _ _)=_;rw [Addr.add_lit,Nat.zero_add]
  have hstr:=hst g w cur fz hg hfz (by omega)
  rw [hnew] at hstr
  have hsz:(ys++cur.toList.drop (n*sz)).toArray.size=cur.size:=by
   rw [List.size_toArray,List.length_append,List.length_drop,hyl];have:=Array.length_toList (xs:=cur);omega
  refine lg (R:=fun _ w'=>w'=w.setRow g (ys++cur.toList.drop (n*sz)).toArray) ?_ fun w' _ hw=>by
   subst hw
   refine k _ (s.upd i hi (p':=.sl _ e sz n ys) rfl rfl rfl (by simp) ⟨hyl,.inr ⟨g,cap,_,fz,rfl,hb,setRow_heap w g cur _ e fz hg,?_,hnc,hcm,?_,?_⟩⟩ (fun k hk=>.inl hk) (fun k hk hne=>setRow_other w g k _ fun e9=>hne (Own.at_sl.2 (by simp [Value.ownBlock,e9]))))
   ·rw [hsz];exact hfz
   ·rw [hsz];exact hcs
   ·show (ys++cur.toList.drop (n*sz)).take (n*sz)=ys
    rw [← hyl];exact List.take_left
  unfold cX
  rw [hel] at hx
  simp only [execOp,h.ev hx,h.ev hy,Instr.storeAt,Instr.sureAddr,Sem.run_bind,Sem.run_pure,Result.andThen_ok,hstr]
theorem kv {v V:Value} {sz n p:Nat} {xs ys:List Value} (i:Nat) (h:Sl N a L Df) (s:St w0 B w) (ho:One P t) (hx:fb L x=some (.pointer (some (bs v p)))) (hy:fb L y=some V) (hi:B[i]? = some (.sl v e sz n xs)) (hp:p+1≤n*sz) (hv:V.oneCell'=true)
 (hys:xs.set p V=ys)
 (k:∀ w',St w0 (B.set i (.sl v e sz n ys)) w'→cJ P ops Q l a w'):cJ P ops Q (⟨none,.store t x y,ty,pos,af,none⟩::l) a w:=by
 have hxl:xs.length=n*sz:=(s.getSl i hi).1
 refine mu (D:=[V]) i h s hx hy hi hp (by simp) (fun u hu=>by rw [List.mem_singleton] at hu;subst hu;exact hv) (fun g w9 cur fz hg hfz hc=>?_) (by rw [← hys];simp only [List.length_cons,List.length_nil,Nat.zero_add];rw [List.set_eq_take_append_cons_drop,if_pos (by omega)];simp) k
 have hs:(sizeOf t).run P w9=.ok 1 w9:=by
  cases hq:P.info? t with
  |none=>have:=ho.size;simp [hq] at this
  |some i=>have:=ho.size;simp [hq] at this;simp [sizeOf,typeInfo,Sem.run_bind,hq,this]
 have hc1:V.cells=#[V]:=by
  cases V<;>first|rfl|(simp [Value.oneCell'] at hv)
 have:=dA P g p e fz [V] 0 cur w9 hg hfz (by simpa using hc) (fun u hu=>by rw [List.mem_singleton] at hu;subst hu;exact hv)
 simp only [Nat.add_zero,List.length_cons,List.length_nil,Nat.zero_add] at this
 simp [storeVar,Sem.run_bind,hs,hc1,this]
end
theorem ql {P:Program} {e:TypeId} {sz by_:Nat} (h:((P.info? e).bind fun i=>i.zero.map fun z=>(i.size,i.bytes,z.cells.size))=some (sz,by_,sz)) (h0:0<sz):Elm P e sz by_:=by
 cases hi:P.info? e with
 |none=>rw [hi] at h;simp at h
 |some i=>
  rw [hi] at h
  cases hz:i.zero with
  |none=>simp [hz] at h
  |some z=>
   simp only [Option.bind_some,hz,Option.map_some,Option.some.injEq,Prod.mk.injEq] at h
   exact ⟨⟨i,z,hi,hz,h.1,h.2.1,h.2.2⟩,h0⟩
section
variable {P:Program} {ρ:Operand→Value} {d:Option Tmp} {ty:TypeId} {pos:String} {af:Array Edge} {g:Option (Nat × Bool)} {x y:Operand} {t t' e:TypeId}
theorem tX {w:World} (ht:P.underlying t=some (.pointer e)) (q:Option Addr) (n:Nat):(Op.equalIn (n+1) t (.pointer q) (.pointer none)).run P w=.ok q.isNone w:=by
 cases q<;>simp [Op.equalIn,run_underlying ht]
theorem mW {w:World} (ht:P.underlying t=some (.pointer e)) (q:Option Addr):(Op.equal t (.pointer q) (.pointer none)).run P w=.ok q.isNone w:=tX ht q 9999
theorem en {q:Option Addr} (ht:P.underlying t=some (.pointer e)) (hx:ρ x=.pointer q) (hy:ρ y=.pointer none):bR P ⟨d,.binOp .eql t x y t',ty,pos,af,g⟩ ρ (.bool q.isNone):=fun w=>by
 simp [execOp,hx,hy,eqGuard,binOp,mW ht,Result.andThen]
theorem ib {q:Option Addr} (ht:P.underlying t=some (.pointer e)) (hx:ρ x=.pointer q) (hy:ρ y=.pointer none):bR P ⟨d,.binOp .neq t x y t',ty,pos,af,g⟩ ρ (.bool !q.isNone):=fun w=>by
 simp [execOp,hx,hy,eqGuard,binOp,mW ht,Result.andThen]
end
end Go.Proofs.YthggibfkgofncaaGreat
namespace Go.Proofs.YthggibfkgofncaaGreat
open Go.RowKit
def bG (L:List N3) (no:Int):Nat:=L.findIdx fun x=>decide (x.1.me.1=no)
def qo (vo:Value) (L:List N3) (no:Int):Value:=bif decide (bG L no<L.length) then .pointer (some (bs vo (bG L no*68))) else .pointer none
theorem AD {L:List N3} {no:Int} {k:Nat} (hk:k<L.length) (h:∀ j,j<k→decide ((L.getD j z3).1.me.1=no)=false) (he:decide ((L.getD k z3).1.me.1=no)=true):bG L no=k:=by
 unfold bG
 rw [List.findIdx_eq hk]
 refine ⟨by rw [mq hk];exact he,fun j hj=>?_⟩
 rw [mq (by omega)];exact h j hj
theorem vV {L:List N3} {no:Int} {k:Nat} (hk:L.length≤k) (h:∀ j,j<k→decide ((L.getD j z3).1.me.1=no)=false):bG L no=L.length:=by
 unfold bG
 rw [List.findIdx_eq_length]
 intro x hx
 obtain ⟨j,hj,rfl⟩:=oV hx
 exact h j (by omega)
theorem yt {L:List N3} {no:Int} (h:bG L no<L.length):(∀ j,j<bG L no→decide ((L.getD j z3).1.me.1=no)=false)∧decide ((L.getD (bG L no) z3).1.me.1=no)=true:=by
 refine ⟨fun j hj=>?_,?_⟩
 ·have:=List.not_of_lt_findIdx (p:=fun x:N3=>decide (x.1.me.1=no)) (xs:=L) hj
  rw [mq (by omega)] at this
  simpa using this
 ·have:=List.findIdx_getElem (p:=fun x:N3=>decide (x.1.me.1=no)) (xs:=L) (w:=h)
  rw [← mq h]
  exact this
theorem qu {L:List N3} {no:Int} (h:bG L no<L.length):L.getD (bG L no) z3=ax L no∧(ax L no).1.me.1=no:=by
 obtain ⟨h1,h2⟩:=yt h
 have e:=tN h h1 h2
 exact ⟨e.symm,by rw [e];exact of_decide_eq_true h2⟩
theorem oU {vo:Value} {L:List N3} {no:Int} (h:bG L no<L.length):qo vo L no=.pointer (some (bs vo (bG L no*68))):=by unfold qo;rw [decide_eq_true h];rfl
theorem oX {vo:Value} {L:List N3} {no:Int} (h:¬ bG L no<L.length):qo vo L no=.pointer none:=by unfold qo;rw [decide_eq_false h];rfl
theorem u3 {L:List N3} {no:Int} (h:∃ x∈L,x.1.me.1=no):bG L no<L.length:=by
 obtain ⟨x,hx,e⟩:=h
 exact List.findIdx_lt_length_of_exists ⟨x,hx,decide_eq_true e⟩
theorem d6 {L:List N3} {no:Int} (hn:∀ m∈aN L,0≤m.1):decide (bG L no<L.length)=cw (aN L) no:=by
 rw [Bool.eq_iff_iff,decide_eq_true_iff,m3 hn]
 constructor
 ·intro h
  obtain ⟨e1,e2⟩:=qu h
  exact ⟨(ax L no).1.me,List.mem_map.2 ⟨ax L no,by rw [← e1];exact bh h,rfl⟩,e2⟩
 ·rintro ⟨m,hm,e⟩
  obtain ⟨x,hx,rfl⟩:=List.mem_map.1 hm
  exact u3 ⟨x,hx,e⟩
def AV (vo:Value) (q:Nat→Bool):Nat→Value|0=>.pointer none|d+1=>bif q d then .pointer (some (bs vo (d*68))) else .pointer none
theorem wa {vo:Value} {q:Nat→Bool} {d:Nat} (h:∀ j,j<d→q j=false):AV vo q d=.pointer none:=by
 cases d with
 |zero=>rfl
 |succ d=>show (bif q d then _ else _)=_;rw [h d (Nat.lt_succ_self d)];rfl
def qL (L:List N3) (no:Int) (j:Nat):Bool:=decide ((L.getD j z3).1.me.1=no)
theorem Ax {vo:Value} {L:List N3} {no:Int} {d:Nat} (hd:d<L.length) (h:∀ j,j<d→qL L no j=false) (he:qL L no d=true):AV vo (qL L no) (d+1)=qo vo L no:=by
 show (bif qL L no d then _ else _)=_
 have e:=AD hd h he
 rw [he,oU (by rw [e];exact hd),e];rfl
theorem A2 {vo:Value} {L:List N3} {no:Int} (h:∀ j,j<L.length→qL L no j=false):qo vo L no=.pointer none:=oX (by rw [vV (Nat.le_refl _) h];omega)
def iX (l:List Mb) (k:Nat):Bool:=decide ((l.getD k a8).1<(l.getD (k - 1) a8).1)
def lK (l:List Mb):Bool:=(List.range l.length).all fun k => !(decide (0<k) && iX l k)
theorem oL {l:List Mb} {k:Nat} (hk:k<l.length) (h0:0<k) (h:iX l k=true):lK l=false:=by
 unfold lK
 rw [← Bool.not_eq_true,List.all_eq_true]
 intro h9
 have:=h9 k (List.mem_range.2 hk)
 rw [h,decide_eq_true h0] at this;cases this
theorem lR {l:List Mb} (h:∀ j,0<j→j<l.length→iX l j=false):lK l=true:=by
 unfold lK
 rw [List.all_eq_true]
 intro j hj
 by_cases h0:0<j
 ·rw [h j h0 (List.mem_range.1 hj)];simp
 ·rw [decide_eq_false h0];rfl
theorem wW {l:List Mb}:lK l=true↔∀ j,0<j→j<l.length→iX l j=false:=by
 refine ⟨fun h j h0 hj=>?_,lR⟩
 cases hq:iX l j with
 |false=>rfl
 |true=>rw [oL hj h0 hq] at h;cases h
theorem vI {l:List Mb} {k:Nat} (h:∀ j,k≤j→0<j→j<l.length→iX l j=false) (hk:0<k) (hq:iX l (k - 1)=false):∀ j,k - 1≤j→0<j→j<l.length→iX l j=false:=fun j h1 h2 h3=>by
 by_cases e:j=k - 1
 ·subst e;exact hq
 ·exact h j (by omega) h2 h3
theorem i7 (x y:Int):dI x y<0↔x<y:=by unfold dI;split<;>(try split)<;>omega
theorem fZ {L:List N3} {k:Nat} (hk:k<L.length):(aN L).getD k a8=(L.getD k z3).1.me:=by
 rw [← oq (by rw [List.length_map];exact hk),← mq hk];exact List.getElem_map _
theorem zJ {L:List N3} {no:Int} (h:bG L no<L.length):dW (aN L) no=some (L.getD (bG L no) z3).1.me:=by
 obtain ⟨h1,h2⟩:=yt h
 have e:=ld (l:=aN L) (no:=no) (k:=bG L no) (by rw [List.length_map];exact h) (fun j hj=>by rw [fZ (by omega)];exact h1 j hj) (by rw [fZ h];exact h2)
 rw [e,fZ h]
theorem w7 {L:List N3} {no:Int} (h:¬ bG L no<L.length):dW (aN L) no=none:=by
 refine k4 (k:=L.length) (by rw [List.length_map];exact Nat.le_refl _) fun j hj=>?_
 rw [fZ hj]
 refine decide_eq_false fun e=>h (u3 ⟨_,bh hj,e⟩)
def i6 (L:List N3) (m:Mb):Bool:=decide (bG L m.1<L.length) && !decide ((L.getD (bG L m.1) z3).1.me=m)
theorem uB {L:List N3} (hr:Rg (aN L)) (m:Mb):i6 L m=iI (aN L) m:=by
 unfold i6 iI fm
 by_cases h:bG L m.1<L.length
 ·rw [zJ h,decide_eq_true h]
  have h0:=(hr.nos _ (List.mem_map.2 ⟨_,bh h,rfl⟩)).1
  rw [Option.getD_some,decide_eq_true h0]
 ·rw [w7 h,decide_eq_false h]
  rfl
theorem Bf {L:List N3} {m:Mb} (h:decide (bG L m.1<L.length)=false):i6 L m=false:=by unfold i6;rw [h];rfl
theorem AA {L:List N3} {m:Mb} (h:decide (bG L m.1<L.length)=true):i6 L m = !decide ((L.getD (bG L m.1) z3).1.me=m):=by unfold i6;rw [h];rfl
def Bb (n:Nd) (L:List N3) (j:Nat):Bool:=i6 L ((aS n).getD j a8)
theorem wK {n:Nd} {L:List N3} {d:Nat} (hd:d<(aS n).length) (h:Bb n L d=true):(aS n).any (i6 L)=true:=List.any_eq_true.2 ⟨_,fB hd,h⟩
theorem xk {n:Nd} {L:List N3} (h:∀ j,j<(aS n).length→Bb n L j=false):(aS n).any (i6 L)=false:=by
 rw [List.any_eq_false]
 intro x hx
 obtain ⟨j,hj,rfl⟩:=hQ hx
 rw [show i6 L ((aS n).getD j a8)=false from h j hj];decide
def uo (L:List N3) (k:Nat):Bool := !cM (L.getD k z3).1 || (aS (L.getD k z3).1).any (i6 L)
theorem zc {L:List N3} (h:cY (aN L)=false):fQ L=false:=by unfold fQ;rw [h,Bool.and_false]
theorem zr {L:List N3} (h:lK (aN L)=false):fQ L=false:=by
 have:¬ ∀ j,0<j→j<(aN L).length→iX (aN L) j=false:=fun h9=>by rw [lR h9] at h;cases h
 rw [Classical.not_forall] at this
 obtain ⟨k,hk⟩:=this
 rw [Classical.not_imp,Classical.not_imp] at hk
 obtain ⟨h0,h1,h2⟩:=hk
 rw [List.length_map] at h1
 refine jM h1 (A3 (decide_eq_true h0) ?_)
 have h3:iX (aN L) k=true:=by cases hq:iX (aN L) k with|true=>rfl|false=>exact absurd hq h2
 unfold iX at h3
 rw [fZ h1,fZ (by omega)] at h3
 have:=of_decide_eq_true h3
 exact decide_eq_true (by omega)
theorem vn {L:List N3} (h0:cY (aN L)=true) (h1:lK (aN L)=true):fQ L=(List.range L.length).all fun k => !uo L k:=by
 have hg:=(j3 _).1 h0
 have key:∀ k,k<L.length→gi L k=uo L k:=fun k hk=>by
  have e1:(decide (0<k) && decide ((L.getD k z3).1.me.1≤(L.getD (k - 1) z3).1.me.1))=false:=by
   by_cases hk0:0<k
   ·have h2:=wW.1 h1 k hk0 (by rw [List.length_map];exact hk)
    unfold iX at h2
    rw [fZ hk,fZ (by omega)] at h2
    have h3:=of_decide_eq_false h2
    have h4:=(List.pairwise_iff_getElem.1 hg.nd (k - 1) k (by rw [List.length_map];omega) (by rw [List.length_map];exact hk) (by omega)).1
    rw [oq,oq,fZ hk,fZ (by omega)] at h4
    rw [decide_eq_true hk0,decide_eq_false (by omega)];rfl
   ·rw [decide_eq_false hk0];rfl
  have e2:(aS (L.getD k z3).1).any (iI (aN L))=(aS (L.getD k z3).1).any (i6 L):=by
   congr 1;funext m;exact(uB hg m).symm
  unfold gi uo
  rw [e1,e2,Bool.false_or]
 unfold fQ
 rw [h0,Bool.and_true,Bool.eq_iff_iff,List.all_eq_true,List.all_eq_true]
 exact ⟨fun h k hk=>by rw [← key k (List.mem_range.1 hk)];exact h k hk,fun h k hk=>by rw [key k (List.mem_range.1 hk)];exact h k hk⟩
theorem xu {L:List N3} {d:Nat} (h0:cY (aN L)=true) (h1:lK (aN L)=true) (hd:d<L.length) (h:uo L d=true):fQ L=false:=by
 rw [vn h0 h1,← Bool.not_eq_true,List.all_eq_true]
 intro h9
 have:=h9 d (List.mem_range.2 hd)
 rw [h] at this;cases this
theorem xH {L:List N3} (h0:cY (aN L)=true) (h1:lK (aN L)=true) (h:∀ j,j<L.length→uo L j=false):fQ L=true:=by
 rw [vn h0 h1,List.all_eq_true]
 intro k hk
 rw [h k (List.mem_range.1 hk)];rfl
theorem Bg {L:List N3} {k:Nat} (h:cM (L.getD k z3).1=false):uo L k=true:=by unfold uo;rw [h];rfl
theorem zZ {L:List N3} {k:Nat} (h:cM (L.getD k z3).1=true):uo L k=(aS (L.getD k z3).1).any (i6 L):=by unfold uo;rw [h];rfl
theorem jt (a b c:List Mb):[a,b,c].flatten=a++(b++c):=by simp
theorem vJ {w:World} {u v x:Value} {a b c:List Mb} (h1:bK w u 33 a.length (av a)) (h2:bK w v 33 b.length (av b)) (h3:bK w x 33 c.length (av c)):∀ k,k<[u,v,x].length→bK w ([u,v,x].getD k undef) 33 ([a,b,c].getD k []).length (av ([a,b,c].getD k [])):=fun k hk=>by
 match k,hk with
 |0,_=>exact h1
 |1,_=>exact h2
 |2,_=>exact h3
def jz (l:List Mb) (m:Mb):Mb:=bif decide (l.length=1) then d5 else ec l m
def ow (l:List Mb) (m:Mb):List Mb:=bif decide (l.length=1) then [m] else dV l m (min (l.length - 1) 4)
theorem ux {l:List Mb} {m:Mb} (h:l.length=1):jz l m=d5∧ow l m=[m]:=by unfold jz ow;rw [decide_eq_true h];exact ⟨rfl,rfl⟩
theorem t8 {l:List Mb} {m:Mb} (h:¬ l.length=1):jz l m=ec l m∧ow l m=dV l m (min (l.length - 1) 4):=by unfold jz ow;rw [decide_eq_false h];exact ⟨rfl,rfl⟩
theorem xV (l:List Mb) (m:Mb):(ow l m).length≤4:=by
 by_cases h:l.length=1
 ·rw [(ux h).2];simp
 ·rw [(t8 h).2,fL];omega
def Bt (w:World) (M:TypeId) (l:List Mb) (m:Mb):cQ:=fun v w9=>∃ v8,v=.tuple #[.agg (au (jz l m)),v8]∧cN w9 w.heap.size M 33 v8 (ow l m).length (av (ow l m))
theorem xi {w w':World} {M:TypeId} {l:List Mb} {m:Mb} {v8:Value} (h:l.length=1) (hO:cN w' w.heap.size M 33 v8 [m].length (av [m])):Bt w M l m (.tuple #[.agg (au d5),v8]) w':=
 ⟨v8,by rw [(ux h).1],by rw [(ux h).2];exact hO⟩
theorem xz {w w':World} {M:TypeId} {l:List Mb} {m:Mb} {v8:Value} (h:¬ l.length=1) (hO:cN w' w.heap.size M 33 v8 (dV l m (min (l.length - 1) 4)).length (av (dV l m (min (l.length - 1) 4)))):Bt w M l m (.tuple #[.agg (au (ec l m)),v8]) w':=
 ⟨v8,by rw [(t8 h).1],by rw [(t8 h).2];exact hO⟩
def fI (v:Value):Value:=match v with|.tuple a=>a.getD 1 undef|_=>undef
def sM (L:List N3) (k:Nat):Bool := !decide ((L.getD k z3).1.pr=jz (aN L) (L.getD k z3).1.me) || !decide ((L.getD k z3).1.sc=ow (aN L) (L.getD k z3).1.me)
theorem zY {L:List N3} {k:Nat} (h:decide ((L.getD k z3).1.pr=jz (aN L) (L.getD k z3).1.me)=false):sM L k=true:=by unfold sM;rw [h];rfl
theorem xX {L:List N3} {k:Nat} (h:decide ((L.getD k z3).1.pr=jz (aN L) (L.getD k z3).1.me)=true):sM L k = !decide ((L.getD k z3).1.sc=ow (aN L) (L.getD k z3).1.me):=by unfold sM;rw [h];rfl
theorem uy {L:List N3} {k:Nat} (h:L.length=1):sM L k = !pb (L.getD k z3).1:=by
 have hm:(aN L).length=1:=by rw [List.length_map];exact h
 unfold sM pb
 rw [(ux hm).1,(ux hm).2,Bool.not_and]
 congr 2
 rw [Bool.eq_iff_iff]
 simp only [decide_eq_true_eq,Bool.and_eq_true]
 constructor
 ·intro e;rw [e];exact ⟨rfl,rfl⟩
 ·rintro ⟨h1,h2⟩
  match hs:(L.getD k z3).1.sc,h1 with
  |[x],_=>rw [hs] at h2;rw [show x=_ from h2]
theorem qP {L:List N3} {k:Nat} (h:¬ L.length=1):sM L k = !kT L k:=by
 have hm:¬ (aN L).length=1:=by rw [List.length_map];exact h
 unfold sM kT
 rw [(t8 hm).1,(t8 hm).2,Bool.not_and,List.length_map]
theorem wC {L:List N3} {d:Nat} (h:fQ L=true) (hd:d<L.length) (hq:sM L d=true):gd L=false:=by
 by_cases h1:L.length=1
 ·rw [kk h hd h1];rw [uy h1] at hq;simpa using hq
 ·refine nU h1 hd ?_;rw [qP h1] at hq;simpa using hq
theorem wI {L:List N3} (h:fQ L=true) (hq:∀ j,j<L.length→sM L j=false):gd L=true:=by
 by_cases h1:L.length=1
 ·have h2:=hq 0 (by omega)
  rw [kk h (k:=0) (by omega) h1];rw [uy h1] at h2;simpa using h2
 ·refine qH h h1 (Nat.le_refl _) fun j hj=>?_
  have h2:=hq j hj
  rw [qP h1] at h2;simpa using h2
theorem vz (L:List N3) (j i:Nat) (hj:j<L.length) (hi:i<68):(aK L)[j*68+i]? = (mv (L.getD j z3))[i]? := by
 have h1:=congrArg (fun a:Array Value=>a[i]?) (c6 L j hj)
 simp only [List.getElem?_toArray] at h1
 rw [List.getElem?_take_of_lt hi,List.getElem?_drop] at h1
 rw [h1];simp [aD,mv]
theorem qf (L:List N3) (j:Nat) (hj:j<L.length):(aK L)[j*68+66]? = some (L.getD j z3).2.1:=by rw [vz L j 66 hj (by decide)];exact ol _ _ _ _ 0
theorem zx (L:List N3) (j:Nat) (hj:j<L.length):(aK L)[j*68+67]? = some (L.getD j z3).2.2:=by rw [vz L j 67 hj (by decide)];exact ol _ _ _ _ 1
end Go.Proofs.YthggibfkgofncaaGreat
namespace Go.Proofs.YthggibfkgofncaaGreat
open Go.RowKit
theorem pO {K:List N3} {j:Nat} (hj:j<K.length) (x:N3):(K.set j x).getD j z3=x:=by
 rw [← mq (by rw [List.length_set];exact hj)];exact List.getElem_set_self _
theorem Ak {K:List N3} {i j:Nat} (h:i≠j) (x:N3):(K.set j x).getD i z3=K.getD i z3:=by
 rw [List.getD_eq_getElem?_getD,List.getD_eq_getElem?_getD,List.getElem?_set_ne (fun e=>h e.symm)]
theorem sI {K:List N3} {j:Nat} (hj:j<K.length) (x:N3):(K.set j x).take (j+1)=K.take j++[x]:=by
 rw [iy (by rw [List.length_set];exact hj),pO hj,List.take_set_of_le (Nat.le_refl _)]
theorem pa {K:List N3} {j:Nat} (hj:j<K.length):aK K=aK (K.take j)++(mv (K.getD j z3)++aK (K.drop (j+1))):=by
 conv=>lhs;rw [← List.take_append_drop j K,List.drop_eq_getElem_cons hj,mq hj]
 rw [hN];rfl
theorem rM {K:List N3} {j:Nat} (hj:j<K.length) (x:N3):aK (K.set j x)=aK (K.take j)++(mv x++aK (K.drop (j+1))):=by
 rw [List.set_eq_take_append_cons_drop,if_pos hj,hN];rfl
theorem nr {K:List N3} {j:Nat} (hj:j<K.length):(aK (K.take j)).length=j*68:=by rw [kF,List.length_take,Nat.min_eq_left (by omega)]
theorem xy {K:List N3} {j off:Nat} (hj:j<K.length) (D:List Value) (h:off+D.length≤68):
 (aK K).take (j*68+off)++D++(aK K).drop (j*68+off+D.length)=aK (K.take j)++((mv (K.getD j z3)).take off++D++(mv (K.getD j z3)).drop (off+D.length)++aK (K.drop (j+1))):=by
 rw [pa hj]
 obtain ⟨a,ha⟩:∃ a,a=aK (K.take j):=⟨_,rfl⟩
 obtain ⟨c,hc⟩:∃ c,c=aK (K.drop (j+1)):=⟨_,rfl⟩
 have hl:a.length=j*68:=by rw [ha];exact nr hj
 have hn:(mv (K.getD j z3)).length=68:=fR _
 rw [← ha,← hc]
 rw [show j*68+off=a.length+off by omega,List.take_length_add_append,List.take_append_of_le_length (by omega),show a.length+off+D.length=a.length+(off+D.length) by omega,List.drop_length_add_append,List.drop_append_of_le_length (by omega)]
 simp only [List.append_assoc]
theorem zk {K:List N3} {j:Nat} (hj:j<K.length) (x:N3):(aK K).take (j*68)++(aD x.1.me x.1.pr x.2.1 x.2.2).toList++(aK K).drop (j*68+68)=aK (K.set j x):=by
 have hl:(aD x.1.me x.1.pr x.2.1 x.2.2).toList.length=68:=by rw [Array.length_toList];exact aA _ _ _ _
 have h:=xy hj (off:=0) (aD x.1.me x.1.pr x.2.1 x.2.2).toList (by omega)
 rw [hl] at h
 rw [show j*68+0=j*68 from rfl] at h
 rw [h,rM hj]
 have hn:(mv (K.getD j z3)).length=68:=fR _
 rw [List.take_zero,List.nil_append,List.drop_of_length_le (by omega),List.append_nil]
 rfl
theorem AU (m p:Mb) (u v V:Value):(ju m p u v).set 66 V=ju m p V v:=by
 have:=congrArg Array.toList (jG m p u v V)
 rwa [Array.toList_setIfInBounds] at this
theorem Aa (m p:Mb) (u v V:Value):(ju m p u v).set 67 V=ju m p u V:=by
 have:=congrArg Array.toList (jA m p u v V)
 rwa [Array.toList_setIfInBounds] at this
theorem qM {K:List N3} {j off:Nat} (hj:j<K.length) (ho:off<68) {V:Value} {x:N3} (h:(mv (K.getD j z3)).set off V=mv x):(aK K).set (j*68+off) V=aK (K.set j x):=by
 rw [rM hj,← h,pa hj,List.set_append_right _ _ (by rw [nr hj];omega),nr hj,Nat.add_sub_cancel_left,List.set_append_left _ _ (by rw [fR];exact ho)]
theorem tJ {K:List N3} {j:Nat} (hj:j<K.length) (V:Value) (l:List Mb):(aK K).set (j*68+66) V=aK (K.set j (⟨(K.getD j z3).1.me,(K.getD j z3).1.pr,l,(K.getD j z3).1.fg⟩,V,(K.getD j z3).2.2)):=qM hj (by decide) (AU _ _ _ _ _)
theorem vE {K:List N3} {j:Nat} (hj:j<K.length) (V:Value) (l:List Mb):(aK K).set (j*68+67) V=aK (K.set j (⟨(K.getD j z3).1.me,(K.getD j z3).1.pr,(K.getD j z3).1.sc,l⟩,(K.getD j z3).2.1,V)):=qM hj (by decide) (Aa _ _ _ _ _)
theorem n7 {L:List N3} {w:World} (h:∀ x∈L,j4 w x):∀ u∈aK L,u.oneCell'=true:=fun u hu=>by
 unfold aK at hu
 obtain ⟨x,hx,hu⟩:=List.mem_flatMap.1 hu
 exact bW (h x hx).ones.1 (h x hx).ones.2 u hu
theorem pZ {w:World} {a:Option Addr} {n c:Nat} {L:List N3} (ha:a.isNone=true) (h:bK w (.slice a n c) 68 L.length (aK L)):L=[]:=by
 cases a with
 |some p=>cases ha
 |none=>
  rcases h.2 with ⟨_,h2⟩|⟨p,cap,h1,_⟩
  ·exact List.eq_nil_of_length_eq_zero h2
  ·cases h1
def BY (w:World) (N:TypeId) (E:List Nd):cQ:=fun v w9=>∃ vq K ks,v=.agg #[vq]∧nds K=E∧St w [.sl vq N 68 K.length (aK K),.grp ks (fN K)] w9
theorem St.bring {w0 w:World} {B:List Own} {p:Own} (s:St w0 B w) (i:Nat) (hi:B[i]? = some p):St w0 (p::B.eraseIdx i) w:=s.perm (jl hi)
theorem wo {K:List N3} {E:List Nd} {j:Nat} {x:N3} (h:nds K=E) (hx:x.1=(K.getD j z3).1) (hj:j<K.length):nds (K.set j x)=E:=by
 subst h
 apply List.ext_getElem?
 intro i
 unfold nds
 rw [List.getElem?_map,List.getElem?_map,List.getElem?_set]
 by_cases e:j=i
 ·subst e;rw [if_pos rfl,if_pos hj,List.getElem?_eq_getElem hj,mq hj,Option.map_some,Option.map_some,hx]
 ·rw [if_neg e]
theorem wz {K:List N3} {j:Nat} {x:N3} (hj:j<K.length) {w9:World} (h:fN (K.take j) w9) (hx:j4 w9 x):fN ((K.set j x).take (j+1)) w9:=fun y hy=>by
 rw [sI hj] at hy
 rcases List.mem_append.1 hy with hy|hy
 ·exact h y hy
 ·rw [List.mem_singleton] at hy;subst hy;exact hx
theorem uK (K:List N3) (j:Nat) (x y:N3):(K.set j x).set j y=K.set j y:=List.set_set _
theorem qy {q:Nat→Bool} {d:Nat} (h:∀ j,j<d→q j=false):lq q d=false:=by
 cases d with
 |zero=>rfl
 |succ d=>exact h d (Nat.lt_succ_self d)
end Go.Proofs.YthggibfkgofncaaGreat
namespace Go.Proofs.YthggibfkgofncaaGreat
open Go.RowKit Go.Sort
def kR:Type:={x:N3 // x.2.1.oneCell'=true∧x.2.2.oneCell'=true}
instance:Inhabited kR:=⟨⟨z3,rfl,rfl⟩⟩
def lA (x:kR):List Value:=mv x.1
def fo (l:List kR):List Value:=l.flatMap lA
theorem lh (x:kR):(lA x).length=68:=fR _
theorem uq (x:kR):∀ v∈lA x,v.oneCell'=true:=bW x.2.1 x.2.2
theorem kz (l:List kR):(fo l).length=l.length*68:=eM _ 68 lh l
theorem l7 (l:List kR):fo l=aK (l.map (·.1)):=by unfold fo aK;rw [List.flatMap_map];rfl
theorem kL (d:Array kR):(flatK lA 68 d).toList=fo d.toList:=by
 apply List.ext_getElem?
 intro t
 by_cases ht:t<d.size*68
 ·have hj:t / 68<d.size:=by omega
  have hr:t % 68<68:=Nat.mod_lt _ (by decide)
  have h1:(fo d.toList)[t]? = (lA d[t / 68])[t % 68]? := by
   have h2:t=t / 68*68+t % 68:=by omega
   conv=>lhs;rw [h2]
   rw [← List.getElem?_drop,← List.getElem?_take_of_lt hr]
   unfold fo
   rw [hZ _ 68 lh d.toList (t / 68) (by simpa using hj)]
   simp
  rw [h1]
  have h3:=get_flatK lA 68 d t ht
  have h4:t<(flatK lA 68 d).size:=by rw [size_flatK];exact ht
  rw [getElem!_pos _ t h4,getElem!_pos d _ hj] at h3
  rw [Array.getElem?_toList,Array.getElem?_eq_getElem h4,h3]
  have h5:t % 68<(lA d[t / 68]).length:=by rw [lh];exact hr
  rw [getElem!_pos (lA d[t / 68]) (t % 68) h5,List.getElem?_eq_getElem h5]
 ·rw [List.getElem?_eq_none (by rw [Array.length_toList,size_flatK];omega),List.getElem?_eq_none (by rw [kz,Array.length_toList];omega)]
theorem g7 (w:World) (g m:Nat) (d:Array kR) (os:Array Obj):(sortWorldK lA 68 w g 0 m d os).heap=w.heap.modify g (onCells (putCells id 0 (flatK lA 68 d)))++os:=rfl
theorem n2 (w:World) (g m:Nat) (d:Array kR) (os:Array Obj) {k:Nat} (hk:k<w.heap.size) (hne:k≠g):(sortWorldK lA 68 w g 0 m d os).heap[k]? = w.heap[k]? := by
 rw [g7,Array.getElem?_append_left (by rw [Array.size_modify];exact hk),Array.getElem?_modify,if_neg (fun e=>hne e.symm)]
theorem qi (w:World) (g m:Nat) (d:Array kR) (os:Array Obj) {cur:Array Value} {e:TypeId} {fz:Nat × Nat} (hg:w.heap[g]? = some (.cells cur e fz)):(sortWorldK lA 68 w g 0 m d os).heap[g]? = some (.cells (putCells id 0 (flatK lA 68 d) cur) e fz):=by
 have hk:g<w.heap.size:=(Array.getElem?_eq_some_iff.1 hg).1
 rw [g7,Array.getElem?_append_left (by rw [Array.size_modify];exact hk),Array.getElem?_modify,if_pos rfl,hg]
 rfl
theorem th {w0 w:World} {B:List Own} {v:Value} {e:TypeId} {n:Nat} {l:List kR} (s:St w0 (.sl v e 68 n (fo l)::B) w) (hl:l.length=n) (hn:1≤n):
 ∃ g cap,v=.slice (some ⟨g,0,none⟩) n cap∧g<w.heap.size∧w0.heap.size≤g∧HoldsK lA 68 w g 0 l.toArray∧
  ∀ (m:Nat) (os:Array Obj) (d:Array kR),d.size=n→St w0 (.sl v e 68 n (fo d.toList)::B) (sortWorldK lA 68 w g 0 m d os):=by
 obtain ⟨g,cap,cur,fz,rfl,hfz,hnc,hcm,hcs,htk,s⟩:=s.open_sl hn
 have hg:=s.get 0 rfl
 have hlt:g<w.heap.size:=(Array.getElem?_eq_some_iff.1 hg).1
 have hroom:n*68≤cur.size:=by rw [hcs];exact Nat.mul_le_mul_right _ hnc
 refine ⟨g,cap,rfl,hlt,s.own _ List.mem_cons_self g (Own.at_blk.2 rfl),fun j hj=>?_,fun m os d hd=>?_⟩
 ·have hjs:j<n*68:=by rw [size_flatK] at hj;simpa [hl] using hj
  constructor
  ·rw [Nat.zero_add,cell_of_row w g j cur e fz hg]
   have h1:(flatK lA 68 l.toArray).toList=cur.toList.take (n*68):=by rw [kL,htk]
   have h2:(flatK lA 68 l.toArray).toList[j]? = cur.toList[j]? := by rw [h1,List.getElem?_take_of_lt hjs]
   rw [Array.getElem?_toList,Array.getElem?_toList,Array.getElem?_eq_getElem hj] at h2
   rw [getElem!_pos _ j hj]
   exact h2.symm
  ·simp only [World.frozen?,hg,Nat.zero_add]
   obtain ⟨lo,hi⟩:=fz
   rcases hfz with h9|h9
   ·change hi=0 at h9;subst h9;simp
   ·change cur.size≤lo at h9
    have:¬ lo≤j:=by omega
    simp [this]
 ·have hF:(flatK lA 68 d).size=n*68:=by rw [size_flatK,hd]
  have s2:=s.upd 0 (w':=sortWorldK lA 68 w g 0 m d os) (p':=.blk g (.cells (putCells id 0 (flatK lA 68 d) cur) e fz)) rfl rfl rfl rfl (by rw [g7];simp) (qi w g m d os hg) (fun k hk=>.inl hk) (fun k hk hne=>n2 w g m d os hk (fun e9=>hne (Own.at_blk.2 e9))) (Nat.le_add_right _ _)
  refine s2.close_sl (by rw [jI];exact hfz) hnc hcm (by rw [jI];exact hcs) ?_ ?_
  ·rw [← hF,pj _ _ (by omega),kL]
  ·rw [kz,Array.length_toList,hd]
theorem k5 (a b:kR):ltOf (fun x y:kR=>dI x.1.1.me.1 y.1.1.me.1) a b=decide (a.1.1.me.1<b.1.1.me.1):=decide_eq_decide.2 (i7 _ _)
theorem t6:SWO (ltOf fun x y:kR=>dI x.1.1.me.1 y.1.1.me.1) where
 irrefl x:=by rw [k5];simp
 trans x y z h1 h2:=by rw [k5] at *;simp at *;omega
 ntrans x y z h1 h2:=by rw [k5] at *;simp at *;omega
theorem rT {l:List kR} (hd:l.Pairwise fun a b=>a.1.1.me.1≠b.1.1.me.1) {d:Array kR} (hp:PermIn 0 l.toArray.size l.toArray d) (hs:SortedIn (ltOf fun x y:kR=>dI x.1.1.me.1 y.1.1.me.1) 0 l.toArray.size d):
 d.toList.Perm l∧d.toList.Pairwise fun a b=>a.1.1.me.1<b.1.1.me.1:=by
 obtain ⟨hsz,_,hpm⟩:=hp
 have e1:d.extract 0 l.toArray.size=d:=by rw [← hsz];exact Array.extract_size
 rw [e1,Array.extract_size] at hpm
 have hpl:d.toList.Perm l:=by first|exact hpm|exact hpm.symm|exact hpm.toList|exact hpm.toList.symm
 have hd2:d.toList.Pairwise fun a b=>a.1.1.me.1≠b.1.1.me.1:=(hpl.pairwise_iff (fun h=>fun e=>h e.symm)).2 hd
 refine ⟨hpl,?_⟩
 rw [List.pairwise_iff_getElem] at hd2 ⊢
 intro i j hi hj hij
 have hi':i<d.size:=by simpa using hi
 have hj':j<d.size:=by simpa using hj
 have h1:=hs i j (Nat.zero_le _) hij (by omega)
 rw [getElem!_pos d j hj',getElem!_pos d i hi',k5] at h1
 have h2:=hd2 i j hi hj hij
 have h3:=of_decide_eq_false h1
 simp only [Array.getElem_toList] at h2 ⊢
 omega
def zd (L:List N3) (h:∀ x∈L,x.2.1.oneCell'=true∧x.2.2.oneCell'=true):List kR:=L.attach.map fun x=>(⟨x.1,h x.1 x.2⟩:kR)
theorem oB (L:List N3) (h:∀ x∈L,x.2.1.oneCell'=true∧x.2.2.oneCell'=true):(zd L h).map (·.1)=L:=by
 refine(List.map_map (f:=fun x:{x // x∈L}=>(⟨x.1,h x.1 x.2⟩:kR)) (g:=fun x:kR=>x.1) (l:=L.attach)).trans ?_
 exact List.attach_map_subtype_val L
theorem uW (L:List N3) (h:∀ x∈L,x.2.1.oneCell'=true∧x.2.2.oneCell'=true):(zd L h).length=L.length:=by
 have:=congrArg List.length (oB L h);simpa using this
theorem tC {L:List kR} {R:N3→N3→Prop}:(L.map (·.1)).Pairwise R↔L.Pairwise fun a b=>R a.1 b.1:=List.pairwise_map
theorem nm {x:N3}:∀ K:List N3,(K.Pairwise fun a b=>a.1.me.1<b.1.me.1)→(∀ y∈K,y.1.me.1≠x.1.me.1)→∃ A B,K=A++B∧(∀ a∈A,a.1.me.1<x.1.me.1)∧∀ b∈B,x.1.me.1<b.1.me.1
 |[],_,_=>⟨[],[],rfl,by simp,by simp⟩
 |y::K,h,hx=>by
  have hp:=List.pairwise_cons.1 h
  by_cases e:x.1.me.1<y.1.me.1
  ·refine ⟨[],y::K,rfl,by simp,fun b hb=>?_⟩
   rcases List.mem_cons.1 hb with rfl|hb
   ·exact e
   ·have:=hp.1 b hb;omega
  ·obtain ⟨A,B,rfl,hA,hB⟩:=nm K hp.2 fun z hz=>hx z (List.mem_cons_of_mem _ hz)
   have:=hx y List.mem_cons_self
   refine ⟨y::A,B,rfl,fun a ha=>?_,hB⟩
   rcases List.mem_cons.1 ha with rfl|ha
   ·omega
   ·exact hA a ha
theorem wO {A B:List N3} {x:N3} (hA:∀ z∈A,z.1.me.1<x.1.me.1) (hB:∀ z∈B,x.1.me.1<z.1.me.1):fA (A++B) x=A++x::B:=by
 match B,hB with
 |[],_=>
  have:dg x (A++[])=(A,false):=by unfold dg;rw [List.append_nil,k8 A [] hA];rfl
  rw [x6 (by rw [this]),this]
 |b::B,hB=>
  have hb:=hB b List.mem_cons_self
  have:dg x (A++b::B)=(A++x::b::B,true):=by
   unfold dg
   rw [List.foldl_append,k8 A [] hA,List.nil_append,List.foldl_cons,xO rfl (decide_eq_true (by show x.1.me.1≤b.1.me.1;omega)) (decide_eq_true (by show b.1.me.1≠x.1.me.1;omega)),n8 B _ fun z hz=>hB z (List.mem_cons_of_mem _ hz)]
   simp
  rw [x3 (by rw [this]),this]
theorem xK {K K2:List N3} {x:N3} (hK:K.Pairwise fun a b=>a.1.me.1<b.1.me.1) (hx:∀ y∈K,y.1.me.1≠x.1.me.1) (hp:K2.Perm (K++[x])) (hs:K2.Pairwise fun a b=>a.1.me.1<b.1.me.1):K2=fA K x:=by
 obtain ⟨A,B,rfl,hA,hB⟩:=nm K hK hx
 rw [wO hA hB]
 have h1:=List.pairwise_append.1 hK
 refine List.Perm.eq_of_pairwise (le:=fun a b:N3=>a.1.me.1<b.1.me.1) (fun a b _ _ h1 h2=>absurd h1 (by omega)) hs ?_ (hp.trans ?_)
 ·rw [List.pairwise_append,List.pairwise_cons]
  refine ⟨h1.1,⟨hB,h1.2.1⟩,fun a ha b hb=>?_⟩
  rcases List.mem_cons.1 hb with rfl|hb
  ·exact hA a ha
  ·exact h1.2.2 a ha b hb
 ·rw [List.append_assoc]
  exact(List.perm_append_comm (l₁:=B) (l₂:=[x])).append_left A
theorem p5 {K L:List N3} (h:nds K=nds L) (hL:L.Pairwise fun a b=>a.1.me.1<b.1.me.1):K.Pairwise fun a b=>a.1.me.1<b.1.me.1:=by
 have h1:(nds L).Pairwise fun a b=>a.me.1<b.me.1:=by unfold nds;rw [List.pairwise_map];exact hL
 rw [← h] at h1
 unfold nds at h1
 rw [List.pairwise_map] at h1;exact h1
theorem nG {K L:List N3} (h:nds K=nds L) {P:Nd→Prop} (hL:∀ y∈L,P y.1):∀ y∈K,P y.1:=fun y hy=>by
 have:y.1∈nds L:=by rw [← h];exact List.mem_map.2 ⟨y,hy,rfl⟩
 obtain ⟨z,hz,e⟩:=List.mem_map.1 this
 rw [← e];exact hL z hz
theorem yf {L:List N3} {m:Mb} (h:sL L m=false):∀ y∈L,y.1.me.1≠m.1:=fun y hy e=>by
 obtain ⟨j,hj,rfl⟩:=oV hy
 rw [oW hj (vH (decide_eq_true e))] at h;cases h
theorem rz {L K:List N3} {x:N3} {m:Mb} (hr:RS L) (hj:sL L m=false) (hk:nds K=nds L) (hx:x.1.me=m):(K++[x]).Pairwise fun a b=>a.1.me.1≠b.1.me.1:=by
 rw [List.pairwise_append]
 refine ⟨(p5 hk hr.inc).imp (fun h=>by omega),List.pairwise_singleton _ _,fun a ha b hb=>?_⟩
 rw [List.mem_singleton] at hb;subst hb
 rw [hx]
 exact nG hk (P:=fun n=>n.me.1≠m.1) (yf hj) a ha
theorem uV {L K K2:List N3} {x:N3} {m:Mb} {no:Int} (hok:mw L m=true) (hr:RS L) (hj:sL L m=false) (he:qh L m no=0) (hk:nds K=nds L) (hx:x.1=⟨m,d5,[yW L m no],[]⟩) (hp:K2.Perm (K++[x])) (hs:K2.Pairwise fun a b=>a.1.me.1<b.1.me.1):nds K2=wc L m no:=by
 have hm:x.1.me=m:=by rw [hx]
 have e:=xK (p5 hk hr.inc) (fun y hy=>by rw [hm];exact nG hk (P:=fun n=>n.me.1≠m.1) (yf hj) y hy) hp hs
 rw [(ij hok).2,e,jc,hk,hx]
 unfold vt
 rw [decide_eq_true he];rfl
theorem yy {L:List N3} {m:Mb} (h:fQ L=true) (h0:dd m=true):mw L m=true:=by unfold mw;rw [h,h0];rfl
theorem yA {L:List N3} {m:Mb} (h:dd m=false):mw L m=false:=by unfold mw;rw [h,Bool.and_false]
theorem nH {K L:List N3} (h:nds K=nds L) (no:Int):bG K no=bG L no:=by
 have e:∀ M:List N3,bG M no=(nds M).findIdx fun n=>decide (n.me.1=no):=fun M=>by
  unfold bG nds
  rw [List.findIdx_map];rfl
 rw [e K,e L,h]
theorem nD {K L:List N3} (h:nds K=nds L):K.length=L.length:=by have h9:=congrArg List.length h;simpa [nds] using h9
theorem tU {K L:List N3} (h:nds K=nds L) {j:Nat} (hj:j<L.length):(K.getD j z3).1=(L.getD j z3).1:=by
 have hl:=nD h
 have h9:=congrArg (fun E:List Nd=>E[j]?) h
 simp only [nds,List.getElem?_map] at h9
 rw [List.getElem?_eq_getElem (by omega),List.getElem?_eq_getElem hj] at h9
 simp only [Option.map_some,Option.some.injEq] at h9
 rw [← mq hj,← mq (by omega)];exact h9
def AE (w:World) (N:TypeId) (L:List N3) (no:Int):cQ:=fun v w9=>
 (∃ k,cE L no=k∧k≠0∧v=.tuple #[.agg #[bo],.pointer none,.int .i64 k]) ∨
 (cE L no=0∧∃ vq K ks,v=.tuple #[.agg #[vq],.pointer (some (bs vq (bG L no*68))),.int .i64 0]∧nds K=nds L∧St w [.sl vq N 68 K.length (aK K),.grp ks (fN K)] w9)
theorem AE.n {w w9:World} {N:TypeId} {L:List N3} {no k:Int} {v:Value} (h:AE w N L no v w9) (hk:cE L no=k) (h0:k≠0):v=.tuple #[.agg #[bo],.pointer none,.int .i64 k]:=by
 rcases h with ⟨q,h1,_,h3⟩|⟨h1,_⟩
 ·rw [h3,← h1,hk]
 ·exact absurd (hk.symm.trans h1) h0
theorem AE.y {w w9:World} {N:TypeId} {L:List N3} {no:Int} {v:Value} (h:AE w N L no v w9) (hk:cE L no=0):∃ vq K ks,v=.tuple #[.agg #[vq],.pointer (some (bs vq (bG L no*68))),.int .i64 0]∧nds K=nds L∧St w [.sl vq N 68 K.length (aK K),.grp ks (fN K)] w9:=by
 rcases h with ⟨q,h1,h2,_⟩|⟨_,h3⟩
 ·exact absurd (h1.symm.trans hk) h2
 ·exact h3
theorem RS.nds {K L:List N3} (h:RS L) (e:nds K=nds L):RS K:=
 ⟨fun y hy=>nG e (P:=RN) h.rn y hy,p5 e h.inc,by have:aN K=aN L:=by rw [← rr,← rr,e]
                                                 rw [this];exact h.ring⟩
theorem wN {K:List N3} {j:Nat} {x:N3} {w9:World} (h:fN K w9) (hx:j4 w9 x):fN (K.set j x) w9:=fun y hy=>by
 rcases List.mem_or_eq_of_mem_set hy with hy|rfl
 ·exact h y hy
 ·exact hx
theorem vQ {K:List N3} (h:RS K) {j:Nat} (hj:j<K.length) {x:N3} (he:(K.getD j z3).1.me=x.1.me) (hx:RN x.1):K.set j x=fA K x∧RS (K.set j x)∧aN (K.set j x)=aN K:=by
 have hp:=h.inc
 have hsp:K=K.take j++K.getD j z3::K.drop (j+1):=by
  conv=>lhs;rw [← List.take_append_drop j K,List.drop_eq_getElem_cons hj,mq hj]
 rw [hsp] at hp
 have h1:=List.pairwise_append.1 hp
 have h2:=List.pairwise_cons.1 h1.2.1
 have hno:(K.getD j z3).1.me.1=x.1.me.1:=by rw [he]
 have e:K.set j x=fA K x:=by
  rw [List.set_eq_take_append_cons_drop,if_pos hj]
  conv=>rhs;rw [hsp]
  exact(rf (x:=x) (fun z hz=>by rw [← hno];exact h1.2.2 z hz _ List.mem_cons_self) hno (fun z hz=>by rw [← hno];exact h2.1 z hz)).symm
 obtain ⟨q1,q2,_⟩:=h.put (x:=x) (bh hj) he hx
 rw [e];exact ⟨rfl,q1,q2⟩
theorem pw {K:List N3} (h:RS K) {no:Int} (hl:cw (aN K) no=true):bG K no<K.length∧K.getD (bG K no) z3=ax K no∧ax K no∈K:=by
 have h1:bG K no<K.length:=of_decide_eq_true ((d6 h.nos).trans hl)
 have h2:=(qu h1).1
 exact ⟨h1,h2,by rw [← h2];exact bh h1⟩
end Go.Proofs.YthggibfkgofncaaGreat
namespace Go.Proofs.YthggibfkgofncaaGreat
open Go.RowKit
def zR (w:World) (N:TypeId) (L:List N3) (no:Int):cQ:=fun v w9=>
 (∃ k,cE L no=k∧k≠0∧v=.tuple #[.agg #[bo],.int .i64 k]) ∨
 (cE L no=0∧∃ vq K ks,v=.tuple #[.agg #[vq],.int .i64 0]∧nds K=xA (nds L) no∧St w [.sl vq N 68 K.length (aK K),.grp ks (fN K)] w9)
theorem zR.n {w w9:World} {N:TypeId} {L:List N3} {no k:Int} {v:Value} (h:zR w N L no v w9) (hk:cE L no=k) (h0:k≠0):v=.tuple #[.agg #[bo],.int .i64 k]:=by
 rcases h with ⟨q,h1,_,h3⟩|⟨h1,_⟩
 ·rw [h3,← h1,hk]
 ·exact absurd (hk.symm.trans h1) h0
theorem zR.y {w w9:World} {N:TypeId} {L:List N3} {no:Int} {v:Value} (h:zR w N L no v w9) (hk:cE L no=0):∃ vq K ks,v=.tuple #[.agg #[vq],.int .i64 0]∧nds K=xA (nds L) no∧St w [.sl vq N 68 K.length (aK K),.grp ks (fN K)] w9:=by
 rcases h with ⟨q,h1,h2,_⟩|⟨_,h3⟩
 ·exact absurd (h1.symm.trans hk) h2
 ·exact h3
theorem zR.any {w w9:World} {N:TypeId} {L:List N3} {vo:Value} {no:Int} {v:Value} (h:zR w N L no v w9) (e:Ext w w9):yg w (cP vo L) (AB L no) (cE L no) v w9:=by
 rcases h with ⟨k,h1,h2,rfl⟩|⟨h1,vq,K,ks,rfl,hk,s⟩
 ·exact eH ((St.start w).more e) (z7 h1 h2) h1
 ·exact jV h1 (rK (by rw [AZ h1,hk]) s)
theorem zI {K L:List N3} {no to:Int} {u v:Value} (h:RS L) (hr:fQ L=true) (l0:cw (aN L) no=true) (l1:cw (aN L) to=true) (hk:nds K=nds L):
 de (K.getD (bG L no) z3).1 (K.getD (bG L to) z3).1.me=i5 L no to∧(i5 L no to=0→nds (K.set (bG L no) ((ci (K.getD (bG L no) z3).1 (K.getD (bG L to) z3).1.me,u,v):N3))=x7 L no to):=by
 obtain ⟨i0,g0,_⟩:=pw h l0
 obtain ⟨i1,g1,_⟩:=pw h l1
 have e0:(K.getD (bG L no) z3).1=(ax L no).1:=by rw [tU hk i0,g0]
 have e1:(K.getD (bG L to) z3).1=(ax L to).1:=by rw [tU hk i1,g1]
 have hE:de (K.getD (bG L no) z3).1 (K.getD (bG L to) z3).1.me=i5 L no to:=by rw [e0,e1,gB hr l0 l1]
 refine ⟨hE,fun hz=>?_⟩
 have hp:=rL (hE.trans hz)
 have hkl:bG L no<K.length:=by rw [nD hk];exact i0
 have h2:=(vQ (h.nds hk) hkl (x:=((ci (K.getD (bG L no) z3).1 (K.getD (bG L to) z3).1.me,u,v):N3)) hp.2.symm hp.1).1
 rw [h2,jc,iR hz,hk]
 show hU (Go.Proofs.YthggibfkgofncaaGreat.nds L) (ci (K.getD (bG L no) z3).1 (K.getD (bG L to) z3).1.me)=_
 rw [e0,e1]
end Go.Proofs.YthggibfkgofncaaGreat
