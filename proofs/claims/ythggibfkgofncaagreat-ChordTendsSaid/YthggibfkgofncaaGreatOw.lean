/- Own overlays, changed in place: own rows that are sorted; ranges over functions within a round; regions that draw their order, in which what was there ahead may be read; sets; what the package asks of overlays and the reference asks too; no Go in it. -/
import Derived.Shelf.SlSortCmp.WholeK
import Derived.Test.YthggibfkgofncaaGreatOv
set_option linter.unusedVariables false
set_option linter.unusedSimpArgs false
set_option linter.unusedSectionVars false
namespace Go.Proofs.YthggibfkgofncaaGreat
open Go.RowKit Go.Sort
theorem ny (d:Array Mb):(flatK iV 33 d).toList=ap d.toList:=by
 apply List.ext_getElem?
 intro t
 by_cases ht:t<d.size*33
 ·have hj:t / 33<d.size:=by omega
  have hr:t % 33<33:=Nat.mod_lt _ (by decide)
  have h1:(ap d.toList)[t]? = (iV d[t / 33])[t % 33]? := by
   have h2:t=t / 33*33+t % 33:=by omega
   conv=>lhs;rw [h2]
   rw [← List.getElem?_drop,← List.getElem?_take_of_lt hr]
   unfold ap
   rw [iF _ 33 cF d.toList (t / 33) (by simpa using hj)]
   simp
  rw [h1]
  have h3:=get_flatK iV 33 d t ht
  have h4:t<(flatK iV 33 d).size:=by rw [size_flatK];exact ht
  rw [getElem!_pos _ t h4,getElem!_pos d _ hj] at h3
  rw [Array.getElem?_toList,Array.getElem?_eq_getElem h4,h3]
  have h5:t % 33<(iV d[t / 33]).length:=by rw [cF];exact hr
  rw [getElem!_pos (iV d[t / 33]) (t % 33) h5,List.getElem?_eq_getElem h5]
 ·rw [List.getElem?_eq_none (by rw [Array.length_toList,size_flatK];omega),List.getElem?_eq_none (by rw [eu,Array.length_toList];omega)]
theorem jU (F c:Array Value):(putCells id 0 F c).size=c.size:=by simp [putCells]
theorem q5 (F c:Array Value) (h:F.size≤c.size):(putCells id 0 F c).toList.take F.size=F.toList:=by
 apply List.ext_getElem?
 intro t
 by_cases ht:t<F.size
 ·rw [List.getElem?_take_of_lt ht,Array.getElem?_toList,Array.getElem?_toList]
  unfold putCells
  rw [Array.getElem?_mapIdx,Array.getElem?_eq_getElem (by omega),Option.map_some,if_pos ⟨Nat.zero_le _,by omega⟩,Array.getElem?_eq_getElem ht,Nat.sub_zero,getElem!_pos F t ht]
  rfl
 ·rw [List.getElem?_eq_none (by rw [List.length_take];omega),List.getElem?_eq_none (by rw [Array.length_toList];omega)]
theorem jr (w:World) (g m:Nat) (d:Array Mb) (os:Array Obj):(sortWorldK iV 33 w g 0 m d os).heap=w.heap.modify g (onCells (putCells id 0 (flatK iV 33 d)))++os:=rfl
theorem k7 (w:World) (g m:Nat) (d:Array Mb) (os:Array Obj) {k:Nat} (hk:k<w.heap.size) (hne:k≠g):(sortWorldK iV 33 w g 0 m d os).heap[k]? = w.heap[k]? := by
 rw [jr,Array.getElem?_append_left (by rw [Array.size_modify];exact hk),Array.getElem?_modify,if_neg (fun e=>hne e.symm)]
theorem uV (w:World) (g m:Nat) (d:Array Mb) (os:Array Obj) {cur:Array Value} {e:TypeId} {fz:Nat × Nat} (hg:w.heap[g]? = some (.cells cur e fz)):(sortWorldK iV 33 w g 0 m d os).heap[g]? = some (.cells (putCells id 0 (flatK iV 33 d) cur) e fz):=by
 have hk:g<w.heap.size:=(Array.getElem?_eq_some_iff.1 hg).1
 rw [jr,Array.getElem?_append_left (by rw [Array.size_modify];exact hk),Array.getElem?_modify,if_pos rfl,hg]
 rfl
theorem yW {w0 w:World} {B:List Own} {v:Value} {e:TypeId} {n:Nat} {l:List Mb} (s:St w0 (.sl v e 33 n (ap l)::B) w) (hl:l.length=n) (hn:1≤n):
 ∃ g cap,v=.slice (some ⟨g,0,none⟩) n cap∧g<w.heap.size∧w0.heap.size≤g∧HoldsK iV 33 w g 0 l.toArray∧
  ∀ (m:Nat) (os:Array Obj) (d:Array Mb),d.size=n→St w0 (.sl v e 33 n (ap d.toList)::B) (sortWorldK iV 33 w g 0 m d os):=by
 obtain ⟨g,cap,cur,fz,rfl,hfz,hnc,hcm,hcs,htk,s⟩:=s.open_sl hn
 have hg:=s.get 0 rfl
 have hlt:g<w.heap.size:=(Array.getElem?_eq_some_iff.1 hg).1
 have hroom:n*33≤cur.size:=by rw [hcs];exact Nat.mul_le_mul_right _ hnc
 refine ⟨g,cap,rfl,hlt,s.own _ List.mem_cons_self g (Own.at_blk.2 rfl),fun j hj=>?_,fun m os d hd=>?_⟩
 ·have hjs:j<n*33:=by rw [size_flatK] at hj;simpa [hl] using hj
  constructor
  ·rw [Nat.zero_add,cell_of_row w g j cur e fz hg]
   have h1:(flatK iV 33 l.toArray).toList=cur.toList.take (n*33):=by rw [ny,htk]
   have h2:(flatK iV 33 l.toArray).toList[j]? = cur.toList[j]? := by rw [h1,List.getElem?_take_of_lt hjs]
   rw [Array.getElem?_toList,Array.getElem?_toList,Array.getElem?_eq_getElem hj] at h2
   rw [getElem!_pos _ j hj]
   exact h2.symm
  ·simp only [World.frozen?,hg,Nat.zero_add]
   obtain ⟨lo,hi⟩:=fz
   rcases hfz with h9|h9
   ·change hi=0 at h9;subst h9;simp
   ·change cur.size≤lo at h9
    have:¬ lo≤j:=by omega
    simp [this]
 ·have hF:(flatK iV 33 d).size=n*33:=by rw [size_flatK,hd]
  have s2:=s.upd 0 (w':=sortWorldK iV 33 w g 0 m d os) (p':=.blk g (.cells (putCells id 0 (flatK iV 33 d) cur) e fz)) rfl rfl rfl rfl (by rw [jr];simp) (uV w g m d os hg) (fun k hk=>.inl hk) (fun k hk hne=>k7 w g m d os hk (fun e9=>hne (Own.at_blk.2 e9))) (Nat.le_add_right _ _)
  refine s2.close_sl (by rw [jU];exact hfz) hnc hcm (by rw [jU];exact hcs) ?_ ?_
  ·rw [← hF,q5 _ _ (by omega),ny]
  ·rw [eu,Array.length_toList,hd]
theorem sJ {W w':World} (h:Ext W w'):∃ q os',w'=grow (W.drewN q) os':=by
 refine ⟨w'.drawn - W.drawn,w'.heap.extract W.heap.size w'.heap.size,?_⟩
 have hh:w'.heap=W.heap++w'.heap.extract W.heap.size w'.heap.size:=by
  apply Array.ext_getElem?
  intro k
  rw [Array.getElem?_append]
  by_cases hk:k<W.heap.size
  ·rw [if_pos hk];exact h.block k hk
  ·rw [if_neg hk,Array.getElem?_extract]
   by_cases h2:k<w'.heap.size
   ·rw [if_pos (by omega)];congr 1;omega
   ·rw [if_neg (by omega),Array.getElem?_eq_none (by omega)]
 have h1:=h.os
 have h2:=h.tape
 have h3:=h.output
 have h4:=h.drawn
 obtain ⟨hp,tp,dr,o,ou⟩:=w'
 obtain ⟨hp2,tp2,dr2,o2,ou2⟩:=W
 simp only at h1 h2 h3 h4 hh
 subst h1;subst h2;subst h3
 have h5:dr2+(dr - dr2)=dr:=by omega
 simp only [grow,World.drewN,h5]
 rw [← hh]
theorem pb (x9:Id) (a b:Mb):ltOf (fun x y:Mb=>fJ (x.2 - x9) (y.2 - x9)) a b=decide (fd x9 a.2<fd x9 b.2):=zI _ _ _
theorem yq (x9:Id):SWO (ltOf fun x y:Mb=>fJ (x.2 - x9) (y.2 - x9)) where
 irrefl x:=by rw [pb];simp
 trans x y z h1 h2:=by rw [pb] at *;simp at *;omega
 ntrans x y z h1 h2:=by rw [pb] at *;simp at *;omega
theorem r5 {l:List Mb} (h:Rg l) (x9:Id) {d:Array Mb} (hp:PermIn 0 l.toArray.size l.toArray d) (hs:SortedIn (ltOf fun x y:Mb=>fJ (x.2 - x9) (y.2 - x9)) 0 l.toArray.size d):d.toList=eM x9 l:=by
 obtain ⟨hsz,_,hpm⟩:=hp
 have e1:d.extract 0 l.toArray.size=d:=by rw [← hsz];exact Array.extract_size
 rw [e1,Array.extract_size] at hpm
 refine BJ h x9 hpm ?_
 rw [List.pairwise_iff_getElem]
 intro i j hi hj hij
 have hi':i<d.size:=by simpa using hi
 have hj':j<d.size:=by simpa using hj
 have:=hs i j (Nat.zero_le _) hij (by omega)
 rw [getElem!_pos d j hj',getElem!_pos d i hi',pb] at this
 simpa using this
end Go.Proofs.YthggibfkgofncaaGreat
namespace Go.Proofs.YthggibfkgofncaaGreat
open Go.RowKit
def xQ (ops:List Oper) (cls cons rd:List (List Nat)) (q:Nat):Bool:=(List.range ops.length).all fun i=>(rd.getD i []).all fun j=>
 decide (j<q) && (!(cons.getD i []).contains (ops.length+j) && (List.range ops.length).all fun k => !(cons.getD k []).contains (ops.length+j) || (cls.getD k []).contains i)
theorem yG {ops:List Oper} {cls cons rd:List (List Nat)} {q:Nat} (h:xQ ops cls cons rd q=true) {i:Nat} (hi:i<ops.length) {j:Nat} (hj:j∈rd.getD i []):j<q∧ops.length+j ∉ cons.getD i []∧∀ k,k<ops.length→ops.length+j∈cons.getD k []→i∈cls.getD k []:=by
 have h1:=List.all_eq_true.1 (List.all_eq_true.1 h i (List.mem_range.2 hi)) j hj
 rw [Bool.and_eq_true,Bool.and_eq_true] at h1
 refine ⟨of_decide_eq_true h1.1,eW.1 h1.2.1,fun k hk hm=>?_⟩
 have h2:=List.all_eq_true.1 h1.2.2 k (List.mem_range.2 hk)
 rw [Bool.or_eq_true] at h2
 rcases h2 with h2|h2
 ·exact absurd hm (eW.1 h2)
 ·exact List.contains_iff_mem.1 h2
section
variable {P:Program} {ro:Option Nat} {ops:List Oper} {cls cons:List (List Nat)} {a0:Act} {Q:Exit→Act→World→Prop} {w0 w1:World}
def Ez (P:Program) (ops:List Oper) (cls cons rd:List (List Nat)) (Rs:List uH) (I0:List (List Own)) (Fs:List uM) (Bs:List Own) (w0:World) (a0:Act) (i:Nat) (o:Oper):Prop:=
 ∀ (a:Act) (w:World) (val:Nat→Value) (E:List Own),a.tmps.size=a0.tmps.size→a.defers=a0.defers→
  (∀ t∈o.looksAt ops.toArray,i8 ops (cls.getD i []) a0 a val t)→
  (∀ j∈cls.getD i [],ke cls Fs val j)→(∀ j∈rd.getD i [],∀ p∈I0.getD j [],p∈E)→St w0 ((cons.getD i []).flatMap (fw ops cls Rs I0 val)++(Bs++E)) w→
  cJ P ops.toArray (fun a' w'=>∃ v,(∀ d,o.dst=some d→a'.tmps.getD d undef=v)∧ke cls Fs (pK val i v) i∧St w0 (fw ops cls Rs I0 (pK val i v) i++(Bs++E)) w') [o] a w
theorem rU {q rid m:Nat} {rd:List (List Nat)} (hrd:xQ ops cls cons rd q=true) {Rs:List uH} {I0:List (List Own)} {Fs:List uM} {Bs:List Own} (hm:P.follows .mixedOrders=true) (hok:eV ops cls cons q a0.tmps.size=true) (hsel:Region.noSelect ops.toArray=true)
 (hml:m≤ops.length) (hT:∀ i,m≤i→i<ops.length→∀ j,j<i→j∈cls.getD i [])
 (hob:∀ i o,i<m→ops[i]? = some o→Ez P ops cls cons rd Rs I0 Fs Bs w0 a0 i o)
 (s:St w0 (((List.range (ops.length+q)).filter (dB ops cons fun _=>false)).flatMap (fw ops cls Rs I0 fun _=>undef)++Bs) w1)
 (hfin:∀ (b:Act) (w:World) (val:Nat→Value),b.tmps.size=a0.tmps.size→b.defers=a0.defers→(∀ i d,i<m→ba ops i=some d→b.tmps.getD d undef=val i)→(∀ t,(∀ i,i<m→ba ops i≠some t)→b.tmps.getD t undef=a0.tmps.getD t undef)→
  (∀ i,i<m→ke cls Fs val i)→St w0 (((List.range (ops.length+q)).filter (dB ops cons fun j=>Nat.blt j m)).flatMap (fw ops cls Rs I0 val)++Bs) w→cJ P ops.toArray (Q .normal) (ops.drop m) b w):
 (Code.region rid ops.toArray true).wpIn (FR ro) 0 P Q a0 w1:=by
 refine wpIn_region_any hm ?_
 have hend:∀ (listed:Array Bool) (a:Act) (w:World) (val:Nat→Value),JC ops cls cons q Rs I0 Fs Bs w0 a0 m listed a w val→(∀ i,i<m→listed.getD i false=true)→∀ fuel,ops.length=m+fuel→wpAnyIn (FR ro) 0 P .any ops.toArray Q fuel listed a w:=by
  intro listed a w val I hall fuel hfu
  refine lE hok hT fuel m listed a w hfu (Nat.le_refl _) I.lsize hall I.tail ?_
  have hfd:fuel=(ops.drop m).length:=by rw [List.length_drop];omega
  rw [hfd,wpOpsIn_eq_wpListIn (ops.drop m) m (fun j=>by rw [List.getElem?_toArray,List.getElem?_drop])]
  refine cJ.wp ?_
  refine hfin a w val I.size I.defers (fun i d hi hd=>I.done i d hd (hall i hi)) (fun t ht=>I.rest t fun j hj=>?_) (fun i hi=>I.facts i (hall i hi)) ?_
  ·rcases Nat.lt_or_ge j m with h|h
   ·exact absurd hj (ht j h)
   ·exact I.tail j h
  have hfun:(fun j=>listed.getD j false)=fun j=>Nat.blt j m:=by
   funext j
   rcases Nat.lt_or_ge j m with h|h
   ·rw [hall j h];exact(xF h).symm
   ·rw [ox h];exact I.tail j h
  have h9:=I.st
  rw [hfun] at h9
  exact h9
 have hcount:∀ (fuel:Nat) (listed:Array Bool) (a:Act) (w:World) (val:Nat→Value),listed.toList.count false=fuel→JC ops cls cons q Rs I0 Fs Bs w0 a0 m listed a w val→wpAnyIn (FR ro) 0 P .any ops.toArray Q fuel listed a w:=by
  intro fuel
  induction fuel with
  |zero=>
   intro listed a w val hc I
   have hall:∀ i,i<ops.length→listed.getD i false=true:=fun i hi=>fh hc i (by rw [I.lsize];exact hi)
   refine hend listed a w val I (fun i hi=>hall i (by omega)) 0 ?_
   rcases Nat.lt_or_ge m ops.length with h|h
   ·have:=I.tail m (Nat.le_refl _)
    rw [hall m h] at this;cases this
   ·omega
  |succ fuel ih=>
   intro listed a w val hc I
   by_cases hall:∀ i,i<m→listed.getD i false=true
   ·refine hend listed a w val I hall (fuel+1) ?_
    have key:∀ (b:List Bool) (m:Nat),m≤b.length→(∀ i,i<m→b[i]? = some true)→(∀ i,m≤i→i<b.length→b[i]? = some false)→b.count false=b.length - m:=by
     intro b
     induction b with
     |nil=>intro m _ _ _;simp
     |cons x b ihb=>
      intro m hm h1 h2
      cases m with
      |zero=>
       have hx:x=false:=by simpa using h2 0 (Nat.le_refl _) (by simp)
       have:=ihb 0 (Nat.zero_le _) (fun i hi=>by omega) (fun i _ hi=>by simpa using h2 (i+1) (Nat.zero_le _) (by simp;omega))
       subst hx;simp [this]
      |succ m=>
       have hx:x=true:=by simpa using h1 0 (by omega)
       have:=ihb m (by simpa using hm) (fun i hi=>by simpa using h1 (i+1) (by omega)) (fun i hi hi2=>by simpa using h2 (i+1) (by omega) (by simp;omega))
       subst hx;simp [this]
    have hk:=key listed.toList m (by simp [I.lsize];omega)
     (fun i hi=>by have:=hall i hi;have hil:i<listed.size:=by rw [I.lsize];omega
                   simp [hil] at this ⊢;exact this)
     (fun i hi hi2=>by have:=I.tail i hi;have hil:i<listed.size:=by simpa using hi2
                       simp [hil] at this ⊢;exact this)
    rw [hc] at hk
    simp [I.lsize] at hk
    omega
   refine ⟨fun hr=>absurd (fun i hi=>jq hok I.lsize hr i (by omega)) hall,fun k hk=>?_⟩
   obtain ⟨o,ho,hf,hdir⟩:=cN hk
   have hkl:=(List.getElem?_eq_some_iff.1 ho).1
   have hks:k<listed.size:=by rw [I.lsize];exact hkl
   have hkm:k<m:=by
    rcases Nat.lt_or_ge k m with h3|h3
    ·exact h3
    ·exfalso
     apply hall
     intro j hj
     rcases (eL hok ho).2 j (hT k h3 hkl j (by omega)) with h4|⟨p,hp,h4⟩
     ·exact hdir j h4
     ·exact I.closed p (hdir p hp) j h4
   have hu:=hf I.lsize
   have hcl:∀ j∈cls.getD k [],listed.getD j false=true:=fun j hj=>by
    rcases (eL hok ho).2 j hj with h1|⟨q,hq,h1⟩
    ·exact hdir j h1
    ·exact I.closed q (hdir q hq) j h1
   have hcnt:(listed.setIfInBounds k true).toList.count false=fuel:=by have:=fT hks hu;omega
   have hnk:∀ i,listed.getD i false=true→k ∉ cls.getD i []:=fun i hi hm=>by have:=I.closed i hi k hm;rw [hu] at this;cases this
   have hkk:k ∉ cls.getD k []:=fun hm=>by have:=oA hok k hkl k hm;omega
   obtain ⟨hcn,hcc⟩:=jZ hok ho
   have hclive:∀ j∈cons.getD k [],dB ops cons (fun j=>listed.getD j false) j=true:=fun j hj=>by
    obtain ⟨_,h2,h3⟩:=hcc j hj
    refine eo.2 ⟨h2.imp id (hcl j),fun i hi hl hm=>?_⟩
    rw [h3 i hi hm] at hl
    rw [hu] at hl;cases hl
   have hperm:((List.range (ops.length+q)).filter (dB ops cons fun j=>listed.getD j false)).Perm (cons.getD k []++(List.range (ops.length+q)).filter (fun j=>dB ops cons (fun j=>listed.getD j false) j && !(cons.getD k []).contains j)):=by
    refine(List.perm_ext_iff_of_nodup (List.nodup_range.filter _) ?_).2 fun j=>?_
    ·rw [List.nodup_append]
     refine ⟨hcn,List.nodup_range.filter _,fun x hx y hy e=>?_⟩
     subst e
     have:=(Bool.and_eq_true _ _▸(List.mem_filter.1 hy).2:_∧_).2
     exact eW.1 this hx
    ·rw [List.mem_append,List.mem_filter,List.mem_filter,List.mem_range,Bool.and_eq_true]
     constructor
     ·rintro ⟨h1,h2⟩
      by_cases hj:j∈cons.getD k []
      ·exact .inl hj
      ·exact .inr ⟨h1,h2,eW.2 hj⟩
     ·rintro (h1|⟨h1,h2,_⟩)
      ·exact ⟨(hcc j h1).1,hclive j h1⟩
      ·exact ⟨h1,h2⟩
   obtain ⟨E,hE⟩:∃ E,E=((List.range (ops.length+q)).filter (fun j=>dB ops cons (fun j=>listed.getD j false) j && !(cons.getD k []).contains j)).flatMap (fw ops cls Rs I0 val):=⟨_,rfl⟩
   have hst:St w0 ((cons.getD k []).flatMap (fw ops cls Rs I0 val)++(Bs++E)) w:=by
    refine I.st.perm ?_
    refine((hperm.flatMap_right _).append_right Bs).trans ?_
    rw [List.flatMap_append,← hE,List.append_assoc]
    exact(List.perm_append_comm).append_left _
   have hslots:∀ t∈o.looksAt ops.toArray,i8 ops (cls.getD k []) a0 a val t:=fun t ht=>by
    unfold i8
    cases hw:dU ops (cls.getD k []) t with
    |some j=>
     obtain ⟨hmj,oj,hj,hdj⟩:=eh hw
     exact I.done j t (by rw [cA hj,hdj]) (hcl j hmj)
    |none=>
     refine I.rest t fun j hdj=>?_
     cases hb:listed.getD j false with
     |false=>rfl
     |true=>
      rcases qb hok ho t ht j hdj with h|h
      ·obtain ⟨oj,h1,h2⟩:=eK hdj
       exact absurd h (eP hw j oj h1 h2)
      ·exact absurd h (hnk j hb)
   have hrdE:∀ j∈rd.getD k [],∀ p∈I0.getD j [],p∈E:=fun j hj p hp=>by
    obtain ⟨h1,h2,h3⟩:=yG hrd hkl hj
    rw [hE]
    refine List.mem_flatMap.2 ⟨ops.length+j,List.mem_filter.2 ⟨List.mem_range.2 (by omega),?_⟩,?_⟩
    ·rw [Bool.and_eq_true]
     refine ⟨eo.2 ⟨.inl (Nat.le_add_right _ _),fun i hi hl hm=>hnk i hl (h3 i hi hm)⟩,eW.2 h2⟩
    ·unfold fw
     rw [ox (Nat.le_add_right _ _),cond_false,Nat.add_sub_cancel_left];exact hp
   have hO:=hob k o hkm ho a w val E I.size I.defers hslots (fun j hj=>I.facts j (hcl j hj)) hrdE hst
   have hset:=bS hks
   have step:∀ v v' w',(∀ d,o.dst=some d→v'=v)→ke cls Fs (pK val k v) k→St w0 (fw ops cls Rs I0 (pK val k v) k++(Bs++E)) w'→wpAnyIn (FR ro) 0 P .any ops.toArray Q fuel (listed.setIfInBounds k true) (a.put o.dst v') w':=fun v v' w' hv hF hS=>by
    have hmk:∀ i,listed.getD i false=true→zd (i::cls.getD i []) (pK val k v)=zd (i::cls.getD i []) val:=fun i hi=>oc fun j hj=>by
     refine iS val v fun e=>?_
     subst e
     rcases List.mem_cons.1 hj with h|h
     ·subst h;rw [hu] at hi;cases hi
     ·exact hnk i hi h
    refine ih _ _ w' (pK val k v) hcnt ⟨by rw [Act.tmps_put_size];exact I.size,by cases o.dst<;>exact I.defers,by simp [I.lsize],fun i hi=>(by have h8:=I.tail i hi;have h7:k≠i:=(by omega);simpa [Array.getElem?_setIfInBounds_ne h7] using h8),fun i d hd hl=>?_,fun t ht=>?_,fun i hi j hj=>?_,fun i hi=>?_,?_⟩
    ·obtain ⟨hds,huniq⟩:=iK hok hd
     by_cases hik:i=k
     ·subst hik
      have hdo:o.dst=some d:=by rw [cA ho] at hd;exact hd
      rw [hdo,cd,if_pos ⟨rfl,by rw [I.size];exact hds⟩,qd]
      exact hv d hdo
     ·have hne:o.dst≠some d:=fun e=>hik (huniq k (by rw [cA ho,e])).symm
      rw [iS val v hik]
      have h9:=I.done i d hd (((hset i).1 hl).resolve_left hik)
      cases hdo:o.dst with
      |none=>exact h9
      |some d2=>rw [cd,if_neg (fun h=>hne (by rw [hdo,h.1]))];exact h9
    ·have h9:=I.rest t fun j hj=>by
      have:=ht j hj
      cases hb:listed.getD j false with
      |false=>rfl
      |true=>rw [(hset j).2 (.inr hb)] at this;cases this
     cases hdo:o.dst with
     |none=>exact h9
     |some d2=>
      rw [cd,if_neg]
      ·exact h9
      ·rintro ⟨e,_⟩
       subst e
       have:=ht k (by rw [cA ho,hdo])
       rw [(hset k).2 (.inl rfl)] at this;cases this
    ·rcases (hset i).1 hi with e|e
     ·subst e;exact(hset j).2 (.inr (hcl j hj))
     ·exact(hset j).2 (.inr (I.closed i e j hj))
    ·rcases (hset i).1 hi with e|e
     ·subst e;exact hF
     ·unfold ke
      rw [hmk i e]
      exact I.facts i e
    ·
     have hlive:∀ j,dB ops cons (fun j=>(listed.setIfInBounds k true).getD j false) j=true↔(j=k∨(dB ops cons (fun j=>listed.getD j false) j=true∧j ∉ cons.getD k [])):=fun j=>by
      rw [eo,eo]
      constructor
      ·rintro ⟨h1,h2⟩
       by_cases hjk:j=k
       ·exact .inl hjk
       ·refine .inr ⟨⟨h1.imp id fun h=>((hset j).1 h).resolve_left hjk,fun i hi hl=>h2 i hi ((hset i).2 (.inr hl))⟩,h2 k hkl ((hset k).2 (.inl rfl))⟩
      ·rintro (rfl|⟨⟨h1,h2⟩,h3⟩)
       ·refine ⟨.inr ((hset j).2 (.inl rfl)),fun i hi hl hm=>?_⟩
        have hio:ops[i]? = some ops[i]:=by simp [hi]
        rcases ((jZ hok hio).2 j hm).2.1 with h|h
        ·omega
        ·rcases (hset i).1 hl with e|e
         ·subst e;exact hkk h
         ·exact hnk i e h
       ·refine ⟨h1.imp id fun h=>(hset j).2 (.inr h),fun i hi hl=>?_⟩
        rcases (hset i).1 hl with e|e
        ·subst e;exact h3
        ·exact h2 i hi e
     have hp2:((List.range (ops.length+q)).filter (dB ops cons fun j=>(listed.setIfInBounds k true).getD j false)).Perm (k::(List.range (ops.length+q)).filter (fun j=>dB ops cons (fun j=>listed.getD j false) j && !(cons.getD k []).contains j)):=by
      refine(List.perm_ext_iff_of_nodup (List.nodup_range.filter _) ?_).2 fun j=>?_
      ·rw [List.nodup_cons]
       refine ⟨fun hm=>?_,List.nodup_range.filter _⟩
       have h1:=(List.mem_filter.1 hm).2
       rw [Bool.and_eq_true] at h1
       rcases (eo.1 h1.1).1 with h|h
       ·omega
       ·rw [hu] at h;cases h
      ·rw [List.mem_filter,List.mem_cons,List.mem_filter,List.mem_range,Bool.and_eq_true,hlive]
       constructor
       ·rintro ⟨h1,h2|⟨h2,h3⟩⟩
        ·exact .inl h2
        ·exact .inr ⟨h1,h2,eW.2 h3⟩
       ·rintro (h1|⟨h1,h2,h3⟩)
        ·exact ⟨by omega,.inl h1⟩
        ·exact ⟨h1,.inr ⟨h2,eW.1 h3⟩⟩
     refine hS.perm ?_
     refine List.Perm.trans ?_ ((hp2.flatMap_right _).append_right Bs).symm
     rw [List.flatMap_cons]
     have hEq:((List.range (ops.length+q)).filter (fun j=>dB ops cons (fun j=>listed.getD j false) j && !(cons.getD k []).contains j)).flatMap (fw ops cls Rs I0 (pK val k v))=E:=by
      rw [hE,List.flatMap_def,List.flatMap_def]
      congr 1
      refine List.map_congr_left fun j hj=>?_
      have h1:=(List.mem_filter.1 hj).2
      rw [Bool.and_eq_true] at h1
      unfold fw
      rcases Nat.lt_or_ge j ops.length with h|h
      ·have hl:=(eo.1 h1.1).1.resolve_left (by omega)
       rw [hmk j hl]
      ·rw [ox h];rfl
     rw [hEq,List.append_assoc]
     exact(List.perm_append_comm).append_left _
   have ho':ops.toArray[k]? = some o:=by simpa using ho
   unfold wpOpIn
   simp only [ho']
   unfold cJ at hO
   split at hO
   ·rename_i hw
    rw [if_pos hw]
    exact hO.wp fun v w' h9=>by
     unfold cJ at h9
     obtain ⟨u,h1,h2,h3⟩:=h9
     refine step u v w' (fun d hd=>?_) h2 h3
     have:=h1 d hd
     rwa [hd,cd,if_pos ⟨rfl,by rw [I.size];exact(iK hok (by rw [cA ho,hd])).1⟩] at this
   ·rename_i hw
    rw [if_neg hw]
    unfold cJ at hO
    obtain ⟨u,h1,h2,h3⟩:=hO
    refine ⟨fun _ _=>trivial,step u undef w (fun d hd=>?_) h2 h3⟩
    have:=h1 d hd
    rwa [hd,cd,if_pos ⟨rfl,by rw [I.size];exact(iK hok (by rw [cA ho,hd])).1⟩] at this
 have hz:∀ i,(Array.replicate ops.toArray.size false).getD i false=false:=fun i=>by simp [Array.getElem?_replicate];split<;>rfl
 have hfz:(fun j=>(Array.replicate ops.toArray.size false).getD j false)=fun _=>false:=funext hz
 refine hcount _ _ _ _ (fun _=>undef) (by simp) ⟨rfl,rfl,by simp,fun i _=>hz i,fun i d _ h=>?_,fun _ _=>rfl,fun i h=>?_,fun i h=>?_,?_⟩
 ·rw [hz] at h;cases h
 ·rw [hz] at h;cases h
 ·rw [hz] at h;cases h
 ·rw [hfz];exact s.drew
def BT (P:Program) (ops:List Oper) (cls cons rd:List (List Nat)) (Rs:List uH) (I0:List (List Own)) (Fs:List uM) (Bs:List Own) (w0:World) (a0:Act):List Oper→Nat→Prop
 |[],_=>True
 |o::r,i=>Ez P ops cls cons rd Rs I0 Fs Bs w0 a0 i o∧BT P ops cls cons rd Rs I0 Fs Bs w0 a0 r (i+1)
theorem qn {rd:List (List Nat)} {Rs:List uH} {I0:List (List Own)} {Fs:List uM} {Bs:List Own}:∀ {l:List Oper} {k:Nat},BT P ops cls cons rd Rs I0 Fs Bs w0 a0 l k→∀ i o,l[i]? = some o→Ez P ops cls cons rd Rs I0 Fs Bs w0 a0 (k+i) o
 |[],_,_,i,o,h=>by simp at h
 |x::r,k,H,0,o,h=>by simp at h;subst h;exact H.1
 |x::r,k,H,i+1,o,h=>by
  have:=qn H.2 i o (by simpa using h)
  rwa [show k+(i+1)=k+1+i by omega]
theorem vS {rid N:Nat} {L:List (Nat × Value)} {Df:List Deferred} {B:List Own} (q:Nat) (cls cons rd:List (List Nat)) (Rs:List uH) (I0:List (List Own)) (Fs:List uM) (Bs:List Own)
 (h:Sl N a0 L Df) (s:St w0 B w1) (hB:((List.range (ops.length+q)).filter (dB ops cons fun _=>false)).flatMap (fw ops cls Rs I0 fun _=>undef)++Bs=B) (hm:P.follows .mixedOrders=true) (hok:eV ops cls cons q N=true) (hrd:xQ ops cls cons rd q=true) (hsel:Region.noSelect ops.toArray=true)
 (hob:BT P ops cls cons rd Rs I0 Fs Bs w0 a0 ops 0) (lv:List Nat) (hlv:(List.range (ops.length+q)).filter (dB ops cons fun j=>Nat.blt j ops.length)=lv)
 (hfin:∀ (b:Act) (w:World) (val:Nat→Value),b.tmps.size=N→b.defers=Df→(∀ i d,ba ops i=some d→b.tmps.getD d undef=val i)→(∀ t,(∀ i,ba ops i≠some t)→b.tmps.getD t undef=a0.tmps.getD t undef)→
  (∀ i,Nat.blt i ops.length=true→ke cls Fs val i)→St w0 (lv.flatMap (fw ops cls Rs I0 val)++Bs) w→Q .normal b w):
 (Code.region rid ops.toArray true).wpIn (FR ro) 0 P Q a0 w1:=by
 subst hB
 refine rU hrd (m:=ops.length) (Fs:=Fs) (I0:=I0) (Rs:=Rs) hm (by rw [h.size];exact hok) hsel (Nat.le_refl _) (fun i h1 h2=>absurd h2 (by omega)) (fun i o _ hi=>?_) s fun b w val h1 h2 h3 h4 h5 h6=>?_
 ·have:=qn hob i o hi
  rwa [Nat.zero_add] at this
 ·rw [List.drop_length]
  refine cJ.nil.2 (hfin b w val (h1.trans h.size) (h2.trans h.defers) (fun i d hd=>h3 i d (kA hd) hd) (fun t ht=>h4 t fun i _=>ht i) (fun i hi=>h5 i (Nat.le_of_ble_eq_true hi)) (by rw [hlv] at h6;exact h6))
end
theorem St.memSl {w0 w:World} {B:List Own} {v:Value} {e:TypeId} {sz n:Nat} {xs:List Value} (s:St w0 B w) (h:Own.sl v e sz n xs∈B):cQ w w0.heap.size e sz v n xs:=by
 obtain ⟨i,hi⟩:=List.mem_iff_getElem?.1 h
 exact s.getSl i hi
end Go.Proofs.YthggibfkgofncaaGreat
namespace Go.Proofs.YthggibfkgofncaaGreat
open Go.RowKit
theorem p5 {P:Program} {l0:Nat} {r0:Loop} {w:World} (h:w.heap[l0]? = some (.loop r0)) (fn:FuncId) (tmps:Array Value) (ps:Array Tmp) (assign body:Code):
 (Instr.enterLoop fn tmps ps assign body (some l0)).run P w=.ok (w.heap.size,[]) (w.alloc (.loop {state:=.ready,pending:=none,fn,tmps,params:=ps,assign,body,defers:=r0.defers})):=by
 unfold Instr.enterLoop
 simp only [Sem.run_bind,run_getLoop h,run_newObj_alloc,Result.andThen,Sem.run_pure]
theorem vt {P:Program} {N lo:Nat} {ro:Loop} {a:Act} {L:List (Nat × Value)} {Df:List Deferred} {w w0:World} {B:List Own} {g:Operand} {ps:Array Tmp} {assign body:Code} {f:FuncId} {lb:Array Value} {Q:Exit→Act→World→Prop}
 (J:Nat→List Own→Prop) (A0:List Own) (X:List Own) (m:Nat) (q:Nat→Bool) (arg:Nat→List Value) (h:Sl N a L Df) (s:St w0 B w) (hg:eZ L g=some (.func (.func f) #[] lb)) (hf:Fnc P f) (io:Nat) (hio:B[io]? = some (.blk lo (.loop ro)))
 (hB:B.Perm (X++A0)) (hJ0:J 0 A0) (hps:∀ d,(arg d).length=ps.size)
 (hiter:∀ (l:Nat) (w1:World) (GG:Nat→Own→Prop) (g0:Own),GG 0 g0→St w0 (X++[g0]) w1→
  (∀ (d:Nat) (B':List Own) (w':World) (i:Nat) (g:Own),d<m→(∀ j,j<d→q j=false)→GG d g→St w0 B' w'→B'[i]? = some g→ie P l (arg d).toArray w' (fun v w''=>v=.bool (!q d)∧∃ g',GG (d+1) g'∧St w0 (B'.set i g') w''))→
  Calls P f (#[.func (.yield l) #[] #[]]++lb) w1 (fun e w'=>(∃ v,e=.returned v)∧∃ d g,GG d g∧St w0 (X++[g]) w'∧d≤m∧(∀ j,j+1<d→q j=false)∧(lq q d=false→d=m)))
 (hround:∀ (l d:Nat) (rc:LoopState→Loop) (R A:List Own) (w1:World),d<m→(∀ j,j<d→q j=false)→J d A→St w0 (.blk l (.loop (rc .ready))::(A++R)) w1→
  assign.wpIn (FR (some l)) 0 P (Exit.then (fun a1 w2=>∃ X1,St w0 (.blk l (.loop (rc .ready))::X1) w2∧∀ w3,St w0 (.blk l (.loop (rc .busy))::X1) w3→body.wpIn (FR (some l)) 0 P
   (fun e _ w4=>xL (q d) e∧∃ A',J (d+1) A'∧St w0 (.blk l (.loop (rc .busy))::(A'++R)) w4) a1 w3) (fun _ _ _=>False))
   {tmps:=(ps.zip (arg d).toArray).foldl (fun t (p,v)=>t.setIfInBounds p v) a.tmps,defers:=[]} w1)
 (hdone:∀ (A:List Own) (w2:World),J m A→(∀ j,j<m→q j=false)→St w0 (X++A) w2→Q .normal a w2)
 (hleft:∀ (d:Nat) (A:List Own) (w2:World),d<m→q d=true→(∀ j,j<d→q j=false)→J (d+1) A→St w0 (X++A) w2→Q .ret a w2):
 (Code.rangeFunc g ps assign body).wpIn (FR (some lo)) 0 P Q a w:=by
 refine wpIn_rangeFunc (F:=FR (some lo)) fun fn _=>?_
 obtain ⟨rq,hrq⟩:∃ rq,rq=fun pe st=>gu a ro.defers fn ps assign body pe st:=⟨_,rfl⟩
 obtain ⟨dl,e1,e2,e3⟩:=hf.has
 have hl0:gu a ro.defers fn ps assign body none .ready=rq none .ready:=by rw [hrq]
 refine ⟨w.heap.size,[],w.alloc (.loop (rq none .ready)),{target:=.fn (.func f) lb,args:=#[.func (.yield w.heap.size) #[] #[]]},w.alloc (.loop (rq none .ready)),f,
  #[.func (.yield w.heap.size) #[] #[]]++lb,w.alloc (.loop (rq none .ready)),?_,?_,fun _ _=>trivial,?_,(fun hh=>by cases hh),?_⟩
 ·rw [hrq];exact p5 (s.get io hio) _ _ _ _ _
 ·simp only [resolve,h.ev hg]
  simp [go_sem]
 ·simp only [invoke];exact fL e1 e2 e3 _ _
 have s1:St w0 (.blk w.heap.size (.loop (rq none .ready))::B) (w.alloc (.loop (rq none .ready))):=s.new (.loop (rq none .ready))
 have s2:St w0 ((.blk w.heap.size (.loop (rq none .ready))::A0)++X) (w.alloc (.loop (rq none .ready))):=
  s1.perm ((hB.trans List.perm_append_comm).cons _)
 have hnd0:=eD s2
 have s3:=s2.group
 refine callsIn_wide.2 ((hiter w.heap.size _ (fun d g=>∃ A,J d A∧g=.all w0 (.blk w.heap.size (.loop (rq (nW (lq q d)) (pM (lq q d))))::A)∧
  (Own.blk w.heap.size (.loop (rq (nW (lq q d)) (pM (lq q d))))::A).Pairwise fun p q=>∀ k,p.at k→¬ q.at k)
  _ ⟨A0,hJ0,rfl,hnd0⟩ (s3.perm (List.perm_append_comm (l₁:=[_]))) ?_).mono ?_)
 ·rintro d B' w' i g hd hq0 ⟨A,hJ,rfl,hnd⟩ s' hi
  have hlq:lq q d=false:=by cases d with|zero=>rfl|succ d=>exact hq0 d (Nat.lt_succ_self d)
  rw [hlq] at hi hnd
  have hil:=(List.getElem?_eq_some_iff.1 hi).1
  have s4:St w0 ((.blk w.heap.size (.loop (rq none .ready))::A)++B'.eraseIdx i) w':=(s'.perm (js hi)).ungroup hnd
  have hl:=s4.get 0 rfl
  have hy:=run_yield (P:=P) (args:=(arg d).toArray) hl (by rw [hrq,List.size_toArray];exact hps d)
  refine ⟨_,_,_,_,hy,?_⟩
  have hw:=hround w.heap.size d (rq none) (B'.eraseIdx i) A w' hd hq0 hJ (by simpa using s4)
  subst hrq
  refine roundIn_of_wpIn (F:=Fence.wide) (n:=0) trivial (Go.wpIn_mono hw ?_)
  intro e a1 w2 he
  cases e with
  |normal=>
   obtain ⟨X1,s5,hb⟩:=he
   refine ⟨_,run_beginRound (s5.get 0 rfl) rfl,Go.wpIn_mono (hb _ (s5.putObj 0 rfl _)) ?_⟩
   rintro e2 a3 w4 ⟨hle,A',hJ',s6⟩
   have key:∀ (jump:Option Code),jump=nW (q d)→∃ v w',(Instr.endRound w.heap.size jump).run P w4=.ok v w'∧∃ u,Ending.returned v=.returned u∧u=.bool (!q d)∧∃ g',(∃ A,J (d+1) A∧g'=Own.all w0 (.blk w.heap.size (.loop (gu a ro.defers fn ps assign body (nW (q d)) (pM (q d))))::A)∧
    (Own.blk w.heap.size (.loop (gu a ro.defers fn ps assign body (nW (q d)) (pM (q d))))::A).Pairwise fun p q=>∀ k,p.at k→¬ q.at k)∧St w0 (B'.set i g') w':=by
    rintro jump rfl
    refine ⟨_,_,run_endRound _ (s6.get 0 rfl),_,rfl,(by cases q d<;>rfl),_,⟨A',hJ',rfl,?_⟩,?_⟩
    ·have hn:=eD (A:=.blk w.heap.size (.loop (gu a ro.defers fn ps assign body none .busy))::A') (R:=B'.eraseIdx i) (by simpa using s6)
     exact pR (A:=.blk w.heap.size (.loop (gu a ro.defers fn ps assign body none .busy))::A') rfl hn
    ·have s7:=s6.putObj 0 rfl (.loop (gu a ro.defers fn ps assign body (nW (q d)) (pM (q d))))
     have s8:St w0 ((.blk w.heap.size (.loop (gu a ro.defers fn ps assign body (nW (q d)) (pM (q d))))::A')++B'.eraseIdx i) _:=s7
     have s9:=s8.group.perm (nK hil _)
     cases hqd:q d<;>rw [hqd] at s9<;>exact s9
   cases e2 with
   |normal=>exact key none (by rw [show q d=false from hle];rfl)
   |ret=>exact key (some .ret) (by rw [show q d=true from hle];rfl)
   |exit _=>exact hle.elim
   |goto _=>exact hle.elim
   |panic _=>exact hle.elim
   |outgrown=>exact hle.elim
  |ret=>exact he.elim
  |exit _=>exact he.elim
  |goto _=>exact he.elim
  |panic _=>exact he.elim
  |outgrown=>exact he.elim
 ·rintro e w2 ⟨⟨v,rfl⟩,d,g,⟨A,hJ,rfl,hnd⟩,s4,hdm,hq0,hend⟩
  have s5:St w0 ((.blk w.heap.size (.loop (rq (nW (lq q d)) (pM (lq q d))))::A)++X) w2:=(s4.perm (List.perm_append_comm (l₂:=[_]))).ungroup hnd
  have hl:=s5.get 0 rfl
  subst hrq
  refine ⟨nW (lq q d),_,run_endLoop hl (by cases lq q d<;>simp [gu,pM]),?_⟩
  have s6:=s5.putObj 0 rfl (.loop {gu a ro.defers fn ps assign body (nW (lq q d)) (pM (lq q d)) with state:=.exhausted})
  have s7:=(s6.pick (A++X) (List.sublist_cons_self _ _)).perm List.perm_append_comm
  cases hqd:lq q d with
  |false=>
   obtain rfl:=hend hqd
   refine hdone A _ hJ (fun j hj=>?_) (by rw [hqd] at s7;exact s7)
   by_cases h1:j+1<d
   ·exact hq0 j h1
   ·have:d=j+1:=by omega
    subst this;exact hqd
  |true=>
   cases d with
   |zero=>cases hqd
   |succ d=>
    refine wpIn_ret ?_
    exact hleft d A _ (by omega) hqd (fun j hj=>hq0 j (by omega)) hJ (by rw [hqd] at s7;exact s7)
section
variable {P:Program} {ops:Array Oper} {Q:Act→World→Prop} {l:List Oper} {a:Act} {w w0:World} {N:Nat} {L:List (Nat × Value)} {Df:List Deferred} {B:List Own} {d:Tmp} {ty:TypeId} {pos:String} {af:Array Edge} {x y z:Operand} {t e:TypeId}
theorem nI {v u9:Value} {sz n p:Nat} {xs ys D:List Value} (i:Nat) (h:Sl N a L Df) (s:St w0 B w) (hx:eZ L x=some (.pointer (some (aN v p)))) (hy:eZ L y=some u9) (hi:B[i]? = some (.sl v e sz n xs)) (hp:p+D.length≤n*sz) (h1:0<D.length) (hv:∀ u∈D,u.oneCell'=true)
 (hst:∀ (g:Nat) (w9:World) (cur:Array Value) (fz:Nat × Nat),w9.heap[g]? = some (.cells cur e fz)→(fz.2=0∨cur.size≤fz.1)→p+D.length≤cur.size→(storeVar t ⟨g,p,none⟩ u9).run P w9=.ok () (w9.setRow g (cur.toList.take p++D++cur.toList.drop (p+D.length)).toArray))
 (hys:xs.take p++D++xs.drop (p+D.length)=ys)
 (k:∀ w',St w0 (B.set i (.sl v e sz n ys)) w'→cJ P ops Q l a w'):cJ P ops Q (⟨none,.store t x y,ty,pos,af,none⟩::l) a w:=by
 have ho:=s.getSl i hi
 rcases ho.2 with ⟨_,h0⟩|⟨g,cap,cur,fz,rfl,hb,hg,hfz,hnc,hcm,hcs,htk⟩
 ·subst h0;omega
 ·have hcl:n*sz≤cur.size:=by rw [hcs];exact Nat.mul_le_mul_right _ hnc
  have hxl:xs.length=n*sz:=ho.1
  have hcx:cur.toList=xs++cur.toList.drop (n*sz):=by rw [← htk];exact(List.take_append_drop _ _).symm
  have hyl:ys.length=n*sz:=by
   rw [← hys];simp only [List.length_append,List.length_take,List.length_drop];omega
  have hnew:cur.toList.take p++D++cur.toList.drop (p+D.length)=ys++cur.toList.drop (n*sz):=by
   rw [← hys]
   conv=>lhs;rw [hcx]
   rw [List.take_append_of_le_length (by omega),List.drop_append_of_le_length (by omega)]
   simp only [List.append_assoc]
  have hel:(some (aN (Value.slice (some ⟨g,0,none⟩) n cap) p):Option Addr)=some ⟨g,p,none⟩:=by show some (Addr.add _ _)=_;rw [Addr.add_lit,Nat.zero_add]
  have hstr:=hst g w cur fz hg hfz (by omega)
  rw [hnew] at hstr
  have hsz:(ys++cur.toList.drop (n*sz)).toArray.size=cur.size:=by
   rw [List.size_toArray,List.length_append,List.length_drop,hyl];have:=Array.length_toList (xs:=cur);omega
  refine gT (R:=fun _ w'=>w'=w.setRow g (ys++cur.toList.drop (n*sz)).toArray) ?_ fun w' _ hw=>by
   subst hw
   refine k _ (s.upd i hi (p':=.sl _ e sz n ys) rfl rfl rfl (by simp) ⟨hyl,.inr ⟨g,cap,_,fz,rfl,hb,setRow_heap w g cur _ e fz hg,?_,hnc,hcm,?_,?_⟩⟩ (fun k hk=>.inl hk) (fun k hk hne=>setRow_other w g k _ fun e9=>hne (Own.at_sl.2 (by simp [Value.ownBlock,e9]))))
   ·rw [hsz];exact hfz
   ·rw [hsz];exact hcs
   ·show (ys++cur.toList.drop (n*sz)).take (n*sz)=ys
    rw [← hyl];exact List.take_left
  unfold c5
  rw [hel] at hx
  simp only [execOp,h.ev hx,h.ev hy,Instr.storeAt,Instr.sureAddr,Sem.run_bind,Sem.run_pure,Result.andThen_ok,hstr]
theorem lu {v V:Value} {sz n p:Nat} {xs ys:List Value} (i:Nat) (h:Sl N a L Df) (s:St w0 B w) (ho:One P t) (hx:eZ L x=some (.pointer (some (aN v p)))) (hy:eZ L y=some V) (hi:B[i]? = some (.sl v e sz n xs)) (hp:p+1≤n*sz) (hv:V.oneCell'=true)
 (hys:xs.set p V=ys)
 (k:∀ w',St w0 (B.set i (.sl v e sz n ys)) w'→cJ P ops Q l a w'):cJ P ops Q (⟨none,.store t x y,ty,pos,af,none⟩::l) a w:=by
 have hxl:xs.length=n*sz:=(s.getSl i hi).1
 refine nI (D:=[V]) i h s hx hy hi hp (by simp) (fun u hu=>by rw [List.mem_singleton] at hu;subst hu;exact hv) (fun g w9 cur fz hg hfz hc=>?_) (by rw [← hys];simp only [List.length_cons,List.length_nil,Nat.zero_add];rw [List.set_eq_take_append_cons_drop,if_pos (by omega)];simp) k
 have hs:(sizeOf t).run P w9=.ok 1 w9:=by
  cases hq:P.info? t with
  |none=>have:=ho.size;simp [hq] at this
  |some i=>have:=ho.size;simp [hq] at this;simp [sizeOf,typeInfo,Sem.run_bind,hq,this]
 have hc1:V.cells=#[V]:=by
  cases V<;>first|rfl|(simp [Value.oneCell'] at hv)
 have:=db P g p e fz [V] 0 cur w9 hg hfz (by simpa using hc) (fun u hu=>by rw [List.mem_singleton] at hu;subst hu;exact hv)
 simp only [Nat.add_zero,List.length_cons,List.length_nil,Nat.zero_add] at this
 simp [storeVar,Sem.run_bind,hs,hc1,this]
theorem xy {b c:Nat} {es:Array MapEntry} {n:Int} {V:Value} {kt et:TypeId} (i:Nat) (h:Sl N a L Df) (s:St w0 B w) (ht:P.underlying t=some (.map kt et)) (hk:P.underlying kt=some (.int .i64))
 (hx:eZ L x=some (.map (some b))) (hy:eZ L y=some (.int .i64 n)) (hz:eZ L z=some V) (hi:B[i]? = some (.blk b (.map es c))) (hf:Instr.findNow (.int .i64) (.int .i64 n) es.toList 0=some none)
 (k:∀ w',St w0 (B.set i (.blk b (.map (es.push {key:=.int .i64 n,val:=V,born:=c}) (c+1)))) w'→cJ P ops Q l a w'):cJ P ops Q (⟨none,.mapUpdate t x y z,ty,pos,af,none⟩::l) a w:=by
 have hb:=s.get i hi
 have hrun:(Instr.mapUpdate t (.map (some b)) (.int .i64 n) V).run P w=.ok () (w.putObj b (.map (es.push {key:=.int .i64 n,val:=V,born:=c}) (c+1))):=by
  simp [Instr.mapUpdate,run_underlying ht,MapKept.run_getObj_map hb,MapKept.run_checkKey hk (show MapKept.IsKey (.int .i64) (.int .i64 n) from rfl),MapKept.run_findKey hk hf,MapKept.run_setObj_map _ hb,Result.andThen,World.putObj]
 refine gT (R:=fun v' w'=>w'=w.putObj b (.map (es.push {key:=.int .i64 n,val:=V,born:=c}) (c+1))) ?_ fun w' v' hw=>by subst hw;exact k _ (s.putObj i hi _)
 simp [c5,execOp,h.ev hx,h.ev hy,h.ev hz,hrun,Result.andThen]
theorem q9 {b c:Nat} {es:Array MapEntry} {n:Int} {Z V:Value} {ok:Bool} {kt et:TypeId} (h:Sl N a L Df) (hb:w.heap[b]? = some (.map es c)) (ht:P.underlying t=some (.map kt et)) (hk:P.underlying kt=some (.int .i64)) (hZ:(P.info? et).bind (·.zero)=some Z)
 (hx:eZ L x=some (.map (some b))) (hy:eZ L y=some (.int .i64 n))
 (hf:(∃ j,Instr.findNow (.int .i64) (.int .i64 n) es.toList 0=some (some (j,V))∧ok=true)∨(Instr.findNow (.int .i64) (.int .i64 n) es.toList 0=some none∧V=Z∧ok=false)) (hd:Nat.blt d N=true)
 (k:∀ a',Sl N a' ((d,.tuple #[V,.bool ok])::L) Df→cJ P ops Q l a' w):cJ P ops Q (⟨some d,.lookup t x y true,ty,pos,af,none⟩::l) a w:=by
 have hzr:(zeroValue et).run P w=.ok Z w:=by
  cases hi9:P.info? et with
  |none=>simp [hi9] at hZ
  |some info=>simp [hi9] at hZ;simp [zeroValue,typeInfo,hi9,hZ,Result.andThen]
 have hrun:(Instr.lookup t (.map (some b)) (.int .i64 n) true).run P w=.ok (.tuple #[V,.bool ok]) w:=by
  rcases hf with ⟨j,hf,rfl⟩|⟨hf,rfl,rfl⟩
  ·simp [Instr.lookup,run_underlying ht,MapKept.run_getObj_map hb,MapKept.run_checkKey hk (show MapKept.IsKey (.int .i64) (.int .i64 n) from rfl),MapKept.run_findKey hk hf,Result.andThen]
  ·simp [Instr.lookup,run_underlying ht,MapKept.run_getObj_map hb,MapKept.run_checkKey hk (show MapKept.IsKey (.int .i64) (.int .i64 n) from rfl),MapKept.run_findKey hk hf,hzr,Result.andThen]
 refine dR h (R:=fun v w'=>v=.tuple #[V,.bool ok]∧w'=w) ?_ hd fun a' w' v ⟨hv,hw⟩ h'=>by subst hv;subst hw;exact k _ h'
 simp [c5,execOp,h.ev hx,h.ev hy,hrun,Result.andThen]
end
theorem oK {P:Program} {e:TypeId} {sz by_:Nat} (h:((P.info? e).bind fun i=>i.zero.map fun z=>(i.size,i.bytes,z.cells.size))=some (sz,by_,sz)) (h0:0<sz):Elm P e sz by_:=by
 cases hi:P.info? e with
 |none=>rw [hi] at h;simp at h
 |some i=>
  rw [hi] at h
  cases hz:i.zero with
  |none=>simp [hz] at h
  |some z=>
   simp only [Option.bind_some,hz,Option.map_some,Option.some.injEq,Prod.mk.injEq] at h
   exact ⟨⟨i,z,hi,hz,h.1,h.2.1,h.2.2⟩,h0⟩
section
variable {P:Program} {ρ:Operand→Value} {d:Option Tmp} {ty:TypeId} {pos:String} {af:Array Edge} {g:Option (Nat × Bool)} {x y:Operand} {t t' e:TypeId}
theorem vv {w:World} (ht:P.underlying t=some (.pointer e)) (q:Option Addr) (n:Nat):(Op.equalIn (n+1) t (.pointer q) (.pointer none)).run P w=.ok q.isNone w:=by
 cases q<;>simp [Op.equalIn,run_underlying ht]
theorem nR {w:World} (ht:P.underlying t=some (.pointer e)) (q:Option Addr):(Op.equal t (.pointer q) (.pointer none)).run P w=.ok q.isNone w:=vv ht q 9999
theorem gd {q:Option Addr} (ht:P.underlying t=some (.pointer e)) (hx:ρ x=.pointer q) (hy:ρ y=.pointer none):ca P ⟨d,.binOp .eql t x y t',ty,pos,af,g⟩ ρ (.bool q.isNone):=fun w=>by
 simp [execOp,hx,hy,eqGuard,binOp,nR ht,Result.andThen]
theorem ey {q:Option Addr} (ht:P.underlying t=some (.pointer e)) (hx:ρ x=.pointer q) (hy:ρ y=.pointer none):ca P ⟨d,.binOp .neq t x y t',ty,pos,af,g⟩ ρ (.bool !q.isNone):=fun w=>by
 simp [execOp,hx,hy,eqGuard,binOp,nR ht,Result.andThen]
end
def yZ (ks:List Int):Array MapEntry:=(ks.zipIdx.map fun p=>{key:=Value.int .i64 p.1,val:=Value.agg #[],born:=p.2}).toArray
theorem xI (ks:List Int) (n:Int):(yZ ks).push {key:=.int .i64 n,val:=.agg #[],born:=ks.length}=yZ (ks++[n]):=by
 unfold yZ
 rw [List.zipIdx_append,List.map_append,List.push_toArray]
 simp
theorem pZ {ks:List Int} {n:Int} (h:n ∉ ks):Instr.findNow (.int .i64) (.int .i64 n) (yZ ks).toList 0=some none:=by
 refine sv n _ 0 fun e he=>?_
 obtain ⟨p,hp,rfl⟩:=List.mem_map.1 he
 refine ⟨p.1,fun e9=>h ?_,rfl⟩
 rw [← e9]
 exact List.fst_mem_of_mem_zipIdx hp
theorem oy (n:Int):∀ (es:List MapEntry) (i:Nat),(∀ e∈es,∃ m:Int,e.key=.int .i64 m∧e.val=.agg #[])→(∃ e∈es,e.key=.int .i64 n)→∃ j,Instr.findNow (.int .i64) (.int .i64 n) es i=some (some (j,.agg #[]))
 |[],_,_,h=>by obtain ⟨e,he,_⟩:=h;cases he
 |e::es,i,h,hx=>by
  obtain ⟨m,he,hv⟩:=h e List.mem_cons_self
  unfold Instr.findNow
  rw [he]
  have hs:Instr.sameNow (.int .i64) (.int .i64 n) (.int .i64 m)=some (n == m):=by simp [Instr.sameNow]
  rw [hs]
  by_cases hm:n=m
  ·subst hm;simp only [BEq.rfl];exact ⟨i,by rw [hv]⟩
  ·rw [beq_eq_false_iff_ne.2 hm]
   refine oy n es (i+1) (fun e9 h9=>h e9 (List.mem_cons_of_mem _ h9)) ?_
   obtain ⟨e9,h9,h8⟩:=hx
   rcases List.mem_cons.1 h9 with rfl|h9
   ·rw [he] at h8;simp only [Value.int.injEq,true_and] at h8;exact absurd h8.symm hm
   ·exact ⟨e9,h9,h8⟩
theorem yg {ks:List Int} {n:Int} (h:n∈ks):∃ j,Instr.findNow (.int .i64) (.int .i64 n) (yZ ks).toList 0=some (some (j,.agg #[])):=by
 refine oy n _ 0 (fun e he=>?_) ?_
 ·obtain ⟨p,hp,rfl⟩:=List.mem_map.1 he
  exact ⟨p.1,rfl,rfl⟩
 ·obtain ⟨i,hi,e⟩:=List.getElem_of_mem h
  refine ⟨{key:=Value.int .i64 n,val:=Value.agg #[],born:=i},List.mem_map.2 ⟨(n,i),?_,rfl⟩,rfl⟩
  rw [List.mem_zipIdx_iff_getElem?]
  simp [e,hi]
theorem zW (ks:List Int) (n:Int):(∃ j,Instr.findNow (.int .i64) (.int .i64 n) (yZ ks).toList 0=some (some (j,.agg #[]))∧decide (n∈ks)=true)∨(Instr.findNow (.int .i64) (.int .i64 n) (yZ ks).toList 0=some none∧Value.agg #[]=Value.agg #[]∧decide (n∈ks)=false):=by
 by_cases h:n∈ks
 ·obtain ⟨j,hj⟩:=yg h;exact .inl ⟨j,hj,decide_eq_true h⟩
 ·exact .inr ⟨pZ h,rfl,decide_eq_false h⟩
end Go.Proofs.YthggibfkgofncaaGreat
namespace Go.Proofs.YthggibfkgofncaaGreat
open Go.RowKit
def eb (L:List N3) (no:Int):Nat:=L.findIdx fun x=>decide (x.1.me.1=no)
def rp (vo:Value) (L:List N3) (no:Int):Value:=bif decide (eb L no<L.length) then .pointer (some (aN vo (eb L no*68))) else .pointer none
theorem At {L:List N3} {no:Int} {k:Nat} (hk:k<L.length) (h:∀ j,j<k→decide ((L.getD j z3).1.me.1=no)=false) (he:decide ((L.getD k z3).1.me.1=no)=true):eb L no=k:=by
 unfold eb
 rw [List.findIdx_eq hk]
 refine ⟨by rw [lR hk];exact he,fun j hj=>?_⟩
 rw [lR (by omega)];exact h j hj
theorem zg {L:List N3} {no:Int} {k:Nat} (hk:L.length≤k) (h:∀ j,j<k→decide ((L.getD j z3).1.me.1=no)=false):eb L no=L.length:=by
 unfold eb
 rw [List.findIdx_eq_length]
 intro x hx
 obtain ⟨j,hj,rfl⟩:=qe hx
 exact h j (by omega)
theorem Ar {L:List N3} {no:Int} (h:eb L no<L.length):(∀ j,j<eb L no→decide ((L.getD j z3).1.me.1=no)=false)∧decide ((L.getD (eb L no) z3).1.me.1=no)=true:=by
 refine ⟨fun j hj=>?_,?_⟩
 ·have:=List.not_of_lt_findIdx (p:=fun x:N3=>decide (x.1.me.1=no)) (xs:=L) hj
  rw [lR (by omega)] at this
  simpa using this
 ·have:=List.findIdx_getElem (p:=fun x:N3=>decide (x.1.me.1=no)) (xs:=L) (w:=h)
  rw [← lR h]
  exact this
theorem nA {L:List N3} {no:Int} (h:eb L no<L.length):L.getD (eb L no) z3=bC L no∧(bC L no).1.me.1=no:=by
 obtain ⟨h1,h2⟩:=Ar h
 have e:=r4 h h1 h2
 exact ⟨e.symm,by rw [e];exact of_decide_eq_true h2⟩
theorem mK {vo:Value} {L:List N3} {no:Int} (h:eb L no<L.length):rp vo L no=.pointer (some (aN vo (eb L no*68))):=by unfold rp;rw [decide_eq_true h];rfl
theorem ob {vo:Value} {L:List N3} {no:Int} (h:¬ eb L no<L.length):rp vo L no=.pointer none:=by unfold rp;rw [decide_eq_false h];rfl
theorem x8 {L:List N3} {no:Int} (h:∃ x∈L,x.1.me.1=no):eb L no<L.length:=by
 obtain ⟨x,hx,e⟩:=h
 exact List.findIdx_lt_length_of_exists ⟨x,hx,decide_eq_true e⟩
theorem eX {L:List N3} {no:Int} (hn:∀ m∈aM L,0≤m.1):decide (eb L no<L.length)=ce (aM L) no:=by
 rw [Bool.eq_iff_iff,decide_eq_true_iff,fj hn]
 constructor
 ·intro h
  obtain ⟨e1,e2⟩:=nA h
  exact ⟨(bC L no).1.me,List.mem_map.2 ⟨bC L no,by rw [← e1];exact bw h,rfl⟩,e2⟩
 ·rintro ⟨m,hm,e⟩
  obtain ⟨x,hx,rfl⟩:=List.mem_map.1 hm
  exact x8 ⟨x,hx,e⟩
def Dz (vo:Value) (q:Nat→Bool):Nat→Value|0=>.pointer none|d+1=>bif q d then .pointer (some (aN vo (d*68))) else .pointer none
theorem zx {vo:Value} {q:Nat→Bool} {d:Nat} (h:∀ j,j<d→q j=false):Dz vo q d=.pointer none:=by
 cases d with
 |zero=>rfl
 |succ d=>show (bif q d then _ else _)=_;rw [h d (Nat.lt_succ_self d)];rfl
def qL (L:List N3) (no:Int) (j:Nat):Bool:=decide ((L.getD j z3).1.me.1=no)
theorem CZ {vo:Value} {L:List N3} {no:Int} {d:Nat} (hd:d<L.length) (h:∀ j,j<d→qL L no j=false) (he:qL L no d=true):Dz vo (qL L no) (d+1)=rp vo L no:=by
 show (bif qL L no d then _ else _)=_
 have e:=At hd h he
 rw [he,mK (by rw [e];exact hd),e];rfl
theorem DI {vo:Value} {L:List N3} {no:Int} (h:∀ j,j<L.length→qL L no j=false):rp vo L no=.pointer none:=ob (by rw [zg (Nat.le_refl _) h];omega)
def jF (l:List Mb) (k:Nat):Bool:=decide ((l.getD k aT).1<(l.getD (k - 1) aT).1)
def mF (l:List Mb):Bool:=(List.range l.length).all fun k => !(decide (0<k) && jF l k)
theorem q6 {l:List Mb} {k:Nat} (hk:k<l.length) (h0:0<k) (h:jF l k=true):mF l=false:=by
 unfold mF
 rw [← Bool.not_eq_true,List.all_eq_true]
 intro h9
 have:=h9 k (List.mem_range.2 hk)
 rw [h,decide_eq_true h0] at this;cases this
theorem nh {l:List Mb} (h:∀ j,0<j→j<l.length→jF l j=false):mF l=true:=by
 unfold mF
 rw [List.all_eq_true]
 intro j hj
 by_cases h0:0<j
 ·rw [h j h0 (List.mem_range.1 hj)];simp
 ·rw [decide_eq_false h0];rfl
theorem yA {l:List Mb}:mF l=true↔∀ j,0<j→j<l.length→jF l j=false:=by
 refine ⟨fun h j h0 hj=>?_,nh⟩
 cases hq:jF l j with
 |false=>rfl
 |true=>rw [q6 hj h0 hq] at h;cases h
theorem xv {l:List Mb} {k:Nat} (h:∀ j,k≤j→0<j→j<l.length→jF l j=false) (hk:0<k) (hq:jF l (k - 1)=false):∀ j,k - 1≤j→0<j→j<l.length→jF l j=false:=fun j h1 h2 h3=>by
 by_cases e:j=k - 1
 ·subst e;exact hq
 ·exact h j (by omega) h2 h3
theorem jm (x y:Int):ei x y<0↔x<y:=by unfold ei;split<;>(try split)<;>omega
theorem fV {L:List N3} {k:Nat} (hk:k<L.length):(aM L).getD k aT=(L.getD k z3).1.me:=by
 rw [← nB (by rw [List.length_map];exact hk),← lR hk];exact List.getElem_map _
theorem Bt {L:List N3} {no:Int} (h:eb L no<L.length):eH (aM L) no=some (L.getD (eb L no) z3).1.me:=by
 obtain ⟨h1,h2⟩:=Ar h
 have e:=mg (l:=aM L) (no:=no) (k:=eb L no) (by rw [List.length_map];exact h) (fun j hj=>by rw [fV (by omega)];exact h1 j hj) (by rw [fV h];exact h2)
 rw [e,fV h]
theorem zr {L:List N3} {no:Int} (h:¬ eb L no<L.length):eH (aM L) no=none:=by
 refine l7 (k:=L.length) (by rw [List.length_map];exact Nat.le_refl _) fun j hj=>?_
 rw [fV hj]
 refine decide_eq_false fun e=>h (x8 ⟨_,bw hj,e⟩)
def jv (L:List N3) (m:Mb):Bool:=decide (eb L m.1<L.length) && !decide ((L.getD (eb L m.1) z3).1.me=m)
theorem xe {L:List N3} (hr:Rg (aM L)) (m:Mb):jv L m=iZ (aM L) m:=by
 unfold jv iZ fB
 by_cases h:eb L m.1<L.length
 ·rw [Bt h,decide_eq_true h]
  have h0:=(hr.nos _ (List.mem_map.2 ⟨_,bw h,rfl⟩)).1
  rw [Option.getD_some,decide_eq_true h0]
 ·rw [zr h,decide_eq_false h]
  rfl
theorem EK {L:List N3} {m:Mb} (h:decide (eb L m.1<L.length)=false):jv L m=false:=by unfold jv;rw [h];rfl
theorem Dr {L:List N3} {m:Mb} (h:decide (eb L m.1<L.length)=true):jv L m = !decide ((L.getD (eb L m.1) z3).1.me=m):=by unfold jv;rw [h];rfl
def DS (n:Nd) (L:List N3) (j:Nat):Bool:=jv L ((aE n).getD j aT)
theorem yp {n:Nd} {L:List N3} {d:Nat} (hd:d<(aE n).length) (h:DS n L d=true):(aE n).any (jv L)=true:=List.any_eq_true.2 ⟨_,eA hd,h⟩
theorem zY {n:Nd} {L:List N3} (h:∀ j,j<(aE n).length→DS n L j=false):(aE n).any (jv L)=false:=by
 rw [List.any_eq_false]
 intro x hx
 obtain ⟨j,hj,rfl⟩:=jN hx
 rw [show jv L ((aE n).getD j aT)=false from h j hj];decide
def xK (L:List N3) (k:Nat):Bool := !cy (L.getD k z3).1 || (aE (L.getD k z3).1).any (jv L)
theorem BC {L:List N3} (h:dc (aM L)=false):gm L=false:=by unfold gm;rw [h,Bool.and_false]
theorem BA {L:List N3} (h:mF (aM L)=false):gm L=false:=by
 have:¬ ∀ j,0<j→j<(aM L).length→jF (aM L) j=false:=fun h9=>by rw [nh h9] at h;cases h
 rw [Classical.not_forall] at this
 obtain ⟨k,hk⟩:=this
 rw [Classical.not_imp,Classical.not_imp] at hk
 obtain ⟨h0,h1,h2⟩:=hk
 rw [List.length_map] at h1
 refine jQ h1 (CT (decide_eq_true h0) ?_)
 have h3:jF (aM L) k=true:=by cases hq:jF (aM L) k with|true=>rfl|false=>exact absurd hq h2
 unfold jF at h3
 rw [fV h1,fV (by omega)] at h3
 have:=of_decide_eq_true h3
 exact decide_eq_true (by omega)
theorem wR {L:List N3} (h0:dc (aM L)=true) (h1:mF (aM L)=true):gm L=(List.range L.length).all fun k => !xK L k:=by
 have hg:=(kz _).1 h0
 have key:∀ k,k<L.length→go L k=xK L k:=fun k hk=>by
  have e1:(decide (0<k) && decide ((L.getD k z3).1.me.1≤(L.getD (k - 1) z3).1.me.1))=false:=by
   by_cases hk0:0<k
   ·have h2:=yA.1 h1 k hk0 (by rw [List.length_map];exact hk)
    unfold jF at h2
    rw [fV hk,fV (by omega)] at h2
    have h3:=of_decide_eq_false h2
    have h4:=(List.pairwise_iff_getElem.1 hg.nd (k - 1) k (by rw [List.length_map];omega) (by rw [List.length_map];exact hk) (by omega)).1
    rw [nB,nB,fV hk,fV (by omega)] at h4
    rw [decide_eq_true hk0,decide_eq_false (by omega)];rfl
   ·rw [decide_eq_false hk0];rfl
  have e2:(aE (L.getD k z3).1).any (iZ (aM L))=(aE (L.getD k z3).1).any (jv L):=by
   congr 1;funext m;exact(xe hg m).symm
  unfold go xK
  rw [e1,e2,Bool.false_or]
 unfold gm
 rw [h0,Bool.and_true,Bool.eq_iff_iff,List.all_eq_true,List.all_eq_true]
 exact ⟨fun h k hk=>by rw [← key k (List.mem_range.1 hk)];exact h k hk,fun h k hk=>by rw [key k (List.mem_range.1 hk)];exact h k hk⟩
theorem zk {L:List N3} {d:Nat} (h0:dc (aM L)=true) (h1:mF (aM L)=true) (hd:d<L.length) (h:xK L d=true):gm L=false:=by
 rw [wR h0 h1,← Bool.not_eq_true,List.all_eq_true]
 intro h9
 have:=h9 d (List.mem_range.2 hd)
 rw [h] at this;cases this
theorem yL {L:List N3} (h0:dc (aM L)=true) (h1:mF (aM L)=true) (h:∀ j,j<L.length→xK L j=false):gm L=true:=by
 rw [wR h0 h1,List.all_eq_true]
 intro k hk
 rw [h k (List.mem_range.1 hk)];rfl
theorem Er {L:List N3} {k:Nat} (h:cy (L.getD k z3).1=false):xK L k=true:=by unfold xK;rw [h];rfl
theorem C9 {L:List N3} {k:Nat} (h:cy (L.getD k z3).1=true):xK L k=(aE (L.getD k z3).1).any (jv L):=by unfold xK;rw [h];rfl
theorem jG (a b c:List Mb):[a,b,c].flatten=a++(b++c):=by simp
theorem x2 {w:World} {u v x:Value} {a b c:List Mb} (h1:bq w u 33 a.length (ap a)) (h2:bq w v 33 b.length (ap b)) (h3:bq w x 33 c.length (ap c)):∀ k,k<[u,v,x].length→bq w ([u,v,x].getD k undef) 33 ([a,b,c].getD k []).length (ap ([a,b,c].getD k [])):=fun k hk=>by
 match k,hk with
 |0,_=>exact h1
 |1,_=>exact h2
 |2,_=>exact h3
def ki (l:List Mb) (m:Mb):Mb:=bif decide (l.length=1) then de else rl l m
def pL (l:List Mb) (m:Mb):List Mb:=bif decide (l.length=1) then [m] else i3 l m (min (l.length - 1) 4)
theorem xo {l:List Mb} {m:Mb} (h:l.length=1):ki l m=de∧pL l m=[m]:=by unfold ki pL;rw [decide_eq_true h];exact ⟨rfl,rfl⟩
theorem vZ {l:List Mb} {m:Mb} (h:¬ l.length=1):ki l m=rl l m∧pL l m=i3 l m (min (l.length - 1) 4):=by unfold ki pL;rw [decide_eq_false h];exact ⟨rfl,rfl⟩
theorem AW (l:List Mb) (m:Mb):(pL l m).length≤4:=by
 by_cases h:l.length=1
 ·rw [(xo h).2];simp
 ·rw [(vZ h).2,ma];omega
def D3 (w:World) (M:TypeId) (l:List Mb) (m:Mb):cX:=fun v w9=>∃ v8,v=.tuple #[.agg (aw (ki l m)),v8]∧cQ w9 w.heap.size M 33 v8 (pL l m).length (ap (pL l m))
theorem y8 {w w':World} {M:TypeId} {l:List Mb} {m:Mb} {v8:Value} (h:l.length=1) (hO:cQ w' w.heap.size M 33 v8 [m].length (ap [m])):D3 w M l m (.tuple #[.agg (aw de),v8]) w':=
 ⟨v8,by rw [(xo h).1],by rw [(xo h).2];exact hO⟩
theorem y5 {w w':World} {M:TypeId} {l:List Mb} {m:Mb} {v8:Value} (h:¬ l.length=1) (hO:cQ w' w.heap.size M 33 v8 (i3 l m (min (l.length - 1) 4)).length (ap (i3 l m (min (l.length - 1) 4)))):D3 w M l m (.tuple #[.agg (aw (rl l m)),v8]) w':=
 ⟨v8,by rw [(vZ h).1],by rw [(vZ h).2];exact hO⟩
def f2 (v:Value):Value:=match v with|.tuple a=>a.getD 1 undef|_=>undef
def u4 (L:List N3) (k:Nat):Bool := !decide ((L.getD k z3).1.pr=ki (aM L) (L.getD k z3).1.me) || !decide ((L.getD k z3).1.sc=pL (aM L) (L.getD k z3).1.me)
theorem Dk {L:List N3} {k:Nat} (h:decide ((L.getD k z3).1.pr=ki (aM L) (L.getD k z3).1.me)=false):u4 L k=true:=by unfold u4;rw [h];rfl
theorem AM {L:List N3} {k:Nat} (h:decide ((L.getD k z3).1.pr=ki (aM L) (L.getD k z3).1.me)=true):u4 L k = !decide ((L.getD k z3).1.sc=pL (aM L) (L.getD k z3).1.me):=by unfold u4;rw [h];rfl
theorem wT {L:List N3} {k:Nat} (h:L.length=1):u4 L k = !zX (L.getD k z3).1:=by
 have hm:(aM L).length=1:=by rw [List.length_map];exact h
 unfold u4 zX
 rw [(xo hm).1,(xo hm).2,Bool.not_and]
 congr 2
 rw [Bool.eq_iff_iff]
 simp only [decide_eq_true_eq,Bool.and_eq_true]
 constructor
 ·intro e;rw [e];exact ⟨rfl,rfl⟩
 ·rintro ⟨h1,h2⟩
  match hs:(L.getD k z3).1.sc,h1 with
  |[x],_=>rw [hs] at h2;rw [show x=_ from h2]
theorem tK {L:List N3} {k:Nat} (h:¬ L.length=1):u4 L k = !r6 L k:=by
 have hm:¬ (aM L).length=1:=by rw [List.length_map];exact h
 unfold u4 r6
 rw [(vZ hm).1,(vZ hm).2,Bool.not_and,List.length_map]
theorem zH {L:List N3} {d:Nat} (h:gm L=true) (hd:d<L.length) (hq:u4 L d=true):hQ L=false:=by
 by_cases h1:L.length=1
 ·rw [xT h hd h1];rw [wT h1] at hq;simpa using hq
 ·refine yO h1 hd ?_;rw [tK h1] at hq;simpa using hq
theorem zV {L:List N3} (h:gm L=true) (hq:∀ j,j<L.length→u4 L j=false):hQ L=true:=by
 by_cases h1:L.length=1
 ·have h2:=hq 0 (by omega)
  rw [xT h (k:=0) (by omega) h1];rw [wT h1] at h2;simpa using h2
 ·refine zQ h h1 (Nat.le_refl _) fun j hj=>?_
  have h2:=hq j hj
  rw [tK h1] at h2;simpa using h2
theorem vD (L:List N3) (j i:Nat) (hj:j<L.length) (hi:i<68):(aD L)[j*68+i]? = (nG (L.getD j z3))[i]? := by
 have h1:=congrArg (fun a:Array Value=>a[i]?) (df L j hj)
 simp only [List.getElem?_toArray] at h1
 rw [List.getElem?_take_of_lt hi,List.getElem?_drop] at h1
 rw [h1];simp [aC,nG]
theorem iy (L:List N3) (j:Nat) (hj:j<L.length):(aD L)[j*68+66]? = some (L.getD j z3).2.1:=by rw [vD L j 66 hj (by decide)];exact pG _ _ _ _ 0
theorem Bl (L:List N3) (j:Nat) (hj:j<L.length):(aD L)[j*68+67]? = some (L.getD j z3).2.2:=by rw [vD L j 67 hj (by decide)];exact pG _ _ _ _ 1
end Go.Proofs.YthggibfkgofncaaGreat
namespace Go.Proofs.YthggibfkgofncaaGreat
open Go.RowKit
theorem kP {K:List N3} {j:Nat} (hj:j<K.length) (x:N3):(K.set j x).getD j z3=x:=by
 rw [← lR (by rw [List.length_set];exact hj)];exact List.getElem_set_self _
theorem Di {K:List N3} {i j:Nat} (h:i≠j) (x:N3):(K.set j x).getD i z3=K.getD i z3:=by
 rw [List.getD_eq_getElem?_getD,List.getD_eq_getElem?_getD,List.getElem?_set_ne (fun e=>h e.symm)]
theorem uE {K:List N3} {j:Nat} (hj:j<K.length) (x:N3):(K.set j x).take (j+1)=K.take j++[x]:=by
 rw [j8 (by rw [List.length_set];exact hj),kP hj,List.take_set_of_le (Nat.le_refl _)]
theorem p9 {K:List N3} {j:Nat} (hj:j<K.length):aD K=aD (K.take j)++(nG (K.getD j z3)++aD (K.drop (j+1))):=by
 conv=>lhs;rw [← List.take_append_drop j K,List.drop_eq_getElem_cons hj,lR hj]
 rw [ic];rfl
theorem tR {K:List N3} {j:Nat} (hj:j<K.length) (x:N3):aD (K.set j x)=aD (K.take j)++(nG x++aD (K.drop (j+1))):=by
 rw [List.set_eq_take_append_cons_drop,if_pos hj,ic];rfl
theorem pp {K:List N3} {j:Nat} (hj:j<K.length):(aD (K.take j)).length=j*68:=by rw [lw,List.length_take,Nat.min_eq_left (by omega)]
theorem yU {K:List N3} {j off:Nat} (hj:j<K.length) (D:List Value) (h:off+D.length≤68):
 (aD K).take (j*68+off)++D++(aD K).drop (j*68+off+D.length)=aD (K.take j)++((nG (K.getD j z3)).take off++D++(nG (K.getD j z3)).drop (off+D.length)++aD (K.drop (j+1))):=by
 rw [p9 hj]
 obtain ⟨a,ha⟩:∃ a,a=aD (K.take j):=⟨_,rfl⟩
 obtain ⟨c,hc⟩:∃ c,c=aD (K.drop (j+1)):=⟨_,rfl⟩
 have hl:a.length=j*68:=by rw [ha];exact pp hj
 have hn:(nG (K.getD j z3)).length=68:=gf _
 rw [← ha,← hc]
 rw [show j*68+off=a.length+off by omega,List.take_length_add_append,List.take_append_of_le_length (by omega),show a.length+off+D.length=a.length+(off+D.length) by omega,List.drop_length_add_append,List.drop_append_of_le_length (by omega)]
 simp only [List.append_assoc]
theorem mu {K:List N3} {j:Nat} (hj:j<K.length) (x:N3):(aD K).take (j*68)++(aC x.1.me x.1.pr x.2.1 x.2.2).toList++(aD K).drop (j*68+68)=aD (K.set j x):=by
 have hl:(aC x.1.me x.1.pr x.2.1 x.2.2).toList.length=68:=by rw [Array.length_toList];exact aq _ _ _ _
 have h:=yU hj (off:=0) (aC x.1.me x.1.pr x.2.1 x.2.2).toList (by omega)
 rw [hl] at h
 rw [show j*68+0=j*68 from rfl] at h
 rw [h,tR hj]
 have hn:(nG (K.getD j z3)).length=68:=gf _
 rw [List.take_zero,List.nil_append,List.drop_of_length_le (by omega),List.append_nil]
 rfl
theorem DK (m p:Mb) (u v V:Value):(i1 m p u v).set 66 V=i1 m p V v:=by
 have:=congrArg Array.toList (ek m p u v V)
 rwa [Array.toList_setIfInBounds] at this
theorem DG (m p:Mb) (u v V:Value):(i1 m p u v).set 67 V=i1 m p u V:=by
 have:=congrArg Array.toList (iz m p u v V)
 rwa [Array.toList_setIfInBounds] at this
theorem tu {K:List N3} {j off:Nat} (hj:j<K.length) (ho:off<68) {V:Value} {x:N3} (h:(nG (K.getD j z3)).set off V=nG x):(aD K).set (j*68+off) V=aD (K.set j x):=by
 rw [tR hj,← h,p9 hj,List.set_append_right _ _ (by rw [pp hj];omega),pp hj,Nat.add_sub_cancel_left,List.set_append_left _ _ (by rw [gf];exact ho)]
theorem vE {K:List N3} {j:Nat} (hj:j<K.length) (V:Value) (l:List Mb):(aD K).set (j*68+66) V=aD (K.set j (⟨(K.getD j z3).1.me,(K.getD j z3).1.pr,l,(K.getD j z3).1.fg⟩,V,(K.getD j z3).2.2)):=tu hj (by decide) (DK _ _ _ _ _)
theorem w6 {K:List N3} {j:Nat} (hj:j<K.length) (V:Value) (l:List Mb):(aD K).set (j*68+67) V=aD (K.set j (⟨(K.getD j z3).1.me,(K.getD j z3).1.pr,(K.getD j z3).1.sc,l⟩,(K.getD j z3).2.1,V)):=tu hj (by decide) (DG _ _ _ _ _)
theorem pm {L:List N3} {w:World} (h:∀ x∈L,jX w x):∀ u∈aD L,u.oneCell'=true:=fun u hu=>by
 unfold aD at hu
 obtain ⟨x,hx,hu⟩:=List.mem_flatMap.1 hu
 exact a7 (h x hx).ones.1 (h x hx).ones.2 u hu
theorem rz {w:World} {a:Option Addr} {n c:Nat} {L:List N3} (ha:a.isNone=true) (h:bq w (.slice a n c) 68 L.length (aD L)):L=[]:=by
 cases a with
 |some p=>cases ha
 |none=>
  rcases h.2 with ⟨_,h2⟩|⟨p,cap,h1,_⟩
  ·exact List.eq_nil_of_length_eq_zero h2
  ·cases h1
def ET (w:World) (N:TypeId) (E:List Nd):cX:=fun v w9=>∃ vq K ks,v=.agg #[vq]∧nds K=E∧St w [.sl vq N 68 K.length (aD K),.grp ks (cS K)] w9
theorem St.bring {w0 w:World} {B:List Own} {p:Own} (s:St w0 B w) (i:Nat) (hi:B[i]? = some p):St w0 (p::B.eraseIdx i) w:=s.perm (js hi)
theorem zR {K:List N3} {E:List Nd} {j:Nat} {x:N3} (h:nds K=E) (hx:x.1=(K.getD j z3).1) (hj:j<K.length):nds (K.set j x)=E:=by
 subst h
 apply List.ext_getElem?
 intro i
 unfold nds
 rw [List.getElem?_map,List.getElem?_map,List.getElem?_set]
 by_cases e:j=i
 ·subst e;rw [if_pos rfl,if_pos hj,List.getElem?_eq_getElem hj,lR hj,Option.map_some,Option.map_some,hx]
 ·rw [if_neg e]
theorem zv {K:List N3} {j:Nat} {x:N3} (hj:j<K.length) {w9:World} (h:cS (K.take j) w9) (hx:jX w9 x):cS ((K.set j x).take (j+1)) w9:=fun y hy=>by
 rw [uE hj] at hy
 rcases List.mem_append.1 hy with hy|hy
 ·exact h y hy
 ·rw [List.mem_singleton] at hy;subst hy;exact hx
theorem wU (K:List N3) (j:Nat) (x y:N3):(K.set j x).set j y=K.set j y:=List.set_set _
theorem si {q:Nat→Bool} {d:Nat} (h:∀ j,j<d→q j=false):lq q d=false:=by
 cases d with
 |zero=>rfl
 |succ d=>exact h d (Nat.lt_succ_self d)
end Go.Proofs.YthggibfkgofncaaGreat
namespace Go.Proofs.YthggibfkgofncaaGreat
open Go.RowKit Go.Sort
def lL:Type:={x:N3 // x.2.1.oneCell'=true∧x.2.2.oneCell'=true}
instance:Inhabited lL:=⟨⟨z3,rfl,rfl⟩⟩
def mw (x:lL):List Value:=nG x.1
def fP (l:List lL):List Value:=l.flatMap mw
theorem l8 (x:lL):(mw x).length=68:=gf _
theorem xG (x:lL):∀ v∈mw x,v.oneCell'=true:=a7 x.2.1 x.2.2
theorem k4 (l:List lL):(fP l).length=l.length*68:=gC _ 68 l8 l
theorem mV (l:List lL):fP l=aD (l.map (·.1)):=by unfold fP aD;rw [List.flatMap_map];rfl
theorem lx (d:Array lL):(flatK mw 68 d).toList=fP d.toList:=by
 apply List.ext_getElem?
 intro t
 by_cases ht:t<d.size*68
 ·have hj:t / 68<d.size:=by omega
  have hr:t % 68<68:=Nat.mod_lt _ (by decide)
  have h1:(fP d.toList)[t]? = (mw d[t / 68])[t % 68]? := by
   have h2:t=t / 68*68+t % 68:=by omega
   conv=>lhs;rw [h2]
   rw [← List.getElem?_drop,← List.getElem?_take_of_lt hr]
   unfold fP
   rw [iF _ 68 l8 d.toList (t / 68) (by simpa using hj)]
   simp
  rw [h1]
  have h3:=get_flatK mw 68 d t ht
  have h4:t<(flatK mw 68 d).size:=by rw [size_flatK];exact ht
  rw [getElem!_pos _ t h4,getElem!_pos d _ hj] at h3
  rw [Array.getElem?_toList,Array.getElem?_eq_getElem h4,h3]
  have h5:t % 68<(mw d[t / 68]).length:=by rw [l8];exact hr
  rw [getElem!_pos (mw d[t / 68]) (t % 68) h5,List.getElem?_eq_getElem h5]
 ·rw [List.getElem?_eq_none (by rw [Array.length_toList,size_flatK];omega),List.getElem?_eq_none (by rw [k4,Array.length_toList];omega)]
theorem ii (w:World) (g m:Nat) (d:Array lL) (os:Array Obj):(sortWorldK mw 68 w g 0 m d os).heap=w.heap.modify g (onCells (putCells id 0 (flatK mw 68 d)))++os:=rfl
theorem oB (w:World) (g m:Nat) (d:Array lL) (os:Array Obj) {k:Nat} (hk:k<w.heap.size) (hne:k≠g):(sortWorldK mw 68 w g 0 m d os).heap[k]? = w.heap[k]? := by
 rw [ii,Array.getElem?_append_left (by rw [Array.size_modify];exact hk),Array.getElem?_modify,if_neg (fun e=>hne e.symm)]
theorem rT (w:World) (g m:Nat) (d:Array lL) (os:Array Obj) {cur:Array Value} {e:TypeId} {fz:Nat × Nat} (hg:w.heap[g]? = some (.cells cur e fz)):(sortWorldK mw 68 w g 0 m d os).heap[g]? = some (.cells (putCells id 0 (flatK mw 68 d) cur) e fz):=by
 have hk:g<w.heap.size:=(Array.getElem?_eq_some_iff.1 hg).1
 rw [ii,Array.getElem?_append_left (by rw [Array.size_modify];exact hk),Array.getElem?_modify,if_pos rfl,hg]
 rfl
theorem xE {w0 w:World} {B:List Own} {v:Value} {e:TypeId} {n:Nat} {l:List lL} (s:St w0 (.sl v e 68 n (fP l)::B) w) (hl:l.length=n) (hn:1≤n):
 ∃ g cap,v=.slice (some ⟨g,0,none⟩) n cap∧g<w.heap.size∧w0.heap.size≤g∧HoldsK mw 68 w g 0 l.toArray∧
  ∀ (m:Nat) (os:Array Obj) (d:Array lL),d.size=n→St w0 (.sl v e 68 n (fP d.toList)::B) (sortWorldK mw 68 w g 0 m d os):=by
 obtain ⟨g,cap,cur,fz,rfl,hfz,hnc,hcm,hcs,htk,s⟩:=s.open_sl hn
 have hg:=s.get 0 rfl
 have hlt:g<w.heap.size:=(Array.getElem?_eq_some_iff.1 hg).1
 have hroom:n*68≤cur.size:=by rw [hcs];exact Nat.mul_le_mul_right _ hnc
 refine ⟨g,cap,rfl,hlt,s.own _ List.mem_cons_self g (Own.at_blk.2 rfl),fun j hj=>?_,fun m os d hd=>?_⟩
 ·have hjs:j<n*68:=by rw [size_flatK] at hj;simpa [hl] using hj
  constructor
  ·rw [Nat.zero_add,cell_of_row w g j cur e fz hg]
   have h1:(flatK mw 68 l.toArray).toList=cur.toList.take (n*68):=by rw [lx,htk]
   have h2:(flatK mw 68 l.toArray).toList[j]? = cur.toList[j]? := by rw [h1,List.getElem?_take_of_lt hjs]
   rw [Array.getElem?_toList,Array.getElem?_toList,Array.getElem?_eq_getElem hj] at h2
   rw [getElem!_pos _ j hj]
   exact h2.symm
  ·simp only [World.frozen?,hg,Nat.zero_add]
   obtain ⟨lo,hi⟩:=fz
   rcases hfz with h9|h9
   ·change hi=0 at h9;subst h9;simp
   ·change cur.size≤lo at h9
    have:¬ lo≤j:=by omega
    simp [this]
 ·have hF:(flatK mw 68 d).size=n*68:=by rw [size_flatK,hd]
  have s2:=s.upd 0 (w':=sortWorldK mw 68 w g 0 m d os) (p':=.blk g (.cells (putCells id 0 (flatK mw 68 d) cur) e fz)) rfl rfl rfl rfl (by rw [ii];simp) (rT w g m d os hg) (fun k hk=>.inl hk) (fun k hk hne=>oB w g m d os hk (fun e9=>hne (Own.at_blk.2 e9))) (Nat.le_add_right _ _)
  refine s2.close_sl (by rw [jU];exact hfz) hnc hcm (by rw [jU];exact hcs) ?_ ?_
  ·rw [← hF,q5 _ _ (by omega),lx]
  ·rw [k4,Array.length_toList,hd]
theorem lY (a b:lL):ltOf (fun x y:lL=>ei x.1.1.me.1 y.1.1.me.1) a b=decide (a.1.1.me.1<b.1.1.me.1):=decide_eq_decide.2 (jm _ _)
theorem xl:SWO (ltOf fun x y:lL=>ei x.1.1.me.1 y.1.1.me.1) where
 irrefl x:=by rw [lY];simp
 trans x y z h1 h2:=by rw [lY] at *;simp at *;omega
 ntrans x y z h1 h2:=by rw [lY] at *;simp at *;omega
theorem uT {l:List lL} (hd:l.Pairwise fun a b=>a.1.1.me.1≠b.1.1.me.1) {d:Array lL} (hp:PermIn 0 l.toArray.size l.toArray d) (hs:SortedIn (ltOf fun x y:lL=>ei x.1.1.me.1 y.1.1.me.1) 0 l.toArray.size d):
 d.toList.Perm l∧d.toList.Pairwise fun a b=>a.1.1.me.1<b.1.1.me.1:=by
 obtain ⟨hsz,_,hpm⟩:=hp
 have e1:d.extract 0 l.toArray.size=d:=by rw [← hsz];exact Array.extract_size
 rw [e1,Array.extract_size] at hpm
 have hpl:d.toList.Perm l:=by first|exact hpm|exact hpm.symm|exact hpm.toList|exact hpm.toList.symm
 have hd2:d.toList.Pairwise fun a b=>a.1.1.me.1≠b.1.1.me.1:=(hpl.pairwise_iff (fun h=>fun e=>h e.symm)).2 hd
 refine ⟨hpl,?_⟩
 rw [List.pairwise_iff_getElem] at hd2 ⊢
 intro i j hi hj hij
 have hi':i<d.size:=by simpa using hi
 have hj':j<d.size:=by simpa using hj
 have h1:=hs i j (Nat.zero_le _) hij (by omega)
 rw [getElem!_pos d j hj',getElem!_pos d i hi',lY] at h1
 have h2:=hd2 i j hi hj hij
 have h3:=of_decide_eq_false h1
 simp only [Array.getElem_toList] at h2 ⊢
 omega
def BE (L:List N3) (h:∀ x∈L,x.2.1.oneCell'=true∧x.2.2.oneCell'=true):List lL:=L.attach.map fun x=>(⟨x.1,h x.1 x.2⟩:lL)
theorem qj (L:List N3) (h:∀ x∈L,x.2.1.oneCell'=true∧x.2.2.oneCell'=true):(BE L h).map (·.1)=L:=by
 refine(List.map_map (f:=fun x:{x // x∈L}=>(⟨x.1,h x.1 x.2⟩:lL)) (g:=fun x:lL=>x.1) (l:=L.attach)).trans ?_
 exact List.attach_map_subtype_val L
theorem yc (L:List N3) (h:∀ x∈L,x.2.1.oneCell'=true∧x.2.2.oneCell'=true):(BE L h).length=L.length:=by
 have:=congrArg List.length (qj L h);simpa using this
theorem wn {L:List lL} {R:N3→N3→Prop}:(L.map (·.1)).Pairwise R↔L.Pairwise fun a b=>R a.1 b.1:=List.pairwise_map
theorem nU {x:N3}:∀ K:List N3,(K.Pairwise fun a b=>a.1.me.1<b.1.me.1)→(∀ y∈K,y.1.me.1≠x.1.me.1)→∃ A B,K=A++B∧(∀ a∈A,a.1.me.1<x.1.me.1)∧∀ b∈B,x.1.me.1<b.1.me.1
 |[],_,_=>⟨[],[],rfl,by simp,by simp⟩
 |y::K,h,hx=>by
  have hp:=List.pairwise_cons.1 h
  by_cases e:x.1.me.1<y.1.me.1
  ·refine ⟨[],y::K,rfl,by simp,fun b hb=>?_⟩
   rcases List.mem_cons.1 hb with rfl|hb
   ·exact e
   ·have:=hp.1 b hb;omega
  ·obtain ⟨A,B,rfl,hA,hB⟩:=nU K hp.2 fun z hz=>hx z (List.mem_cons_of_mem _ hz)
   have:=hx y List.mem_cons_self
   refine ⟨y::A,B,rfl,fun a ha=>?_,hB⟩
   rcases List.mem_cons.1 ha with rfl|ha
   ·omega
   ·exact hA a ha
theorem yx {A B:List N3} {x:N3} (hA:∀ z∈A,z.1.me.1<x.1.me.1) (hB:∀ z∈B,x.1.me.1<z.1.me.1):ec (A++B) x=A++x::B:=by
 match B,hB with
 |[],_=>
  have:dH x (A++[])=(A,false):=by unfold dH;rw [List.append_nil,mh A [] hA];rfl
  rw [Ab (by rw [this]),this]
 |b::B,hB=>
  have hb:=hB b List.mem_cons_self
  have:dH x (A++b::B)=(A++x::b::B,true):=by
   unfold dH
   rw [List.foldl_append,mh A [] hA,List.nil_append,List.foldl_cons,Ap rfl (decide_eq_true (by show x.1.me.1≤b.1.me.1;omega)) (decide_eq_true (by show b.1.me.1≠x.1.me.1;omega)),pz B _ fun z hz=>hB z (List.mem_cons_of_mem _ hz)]
   simp
  rw [z7 (by rw [this]),this]
theorem zz {K K2:List N3} {x:N3} (hK:K.Pairwise fun a b=>a.1.me.1<b.1.me.1) (hx:∀ y∈K,y.1.me.1≠x.1.me.1) (hp:K2.Perm (K++[x])) (hs:K2.Pairwise fun a b=>a.1.me.1<b.1.me.1):K2=ec K x:=by
 obtain ⟨A,B,rfl,hA,hB⟩:=nU K hK hx
 rw [yx hA hB]
 have h1:=List.pairwise_append.1 hK
 refine List.Perm.eq_of_pairwise (le:=fun a b:N3=>a.1.me.1<b.1.me.1) (fun a b _ _ h1 h2=>absurd h1 (by omega)) hs ?_ (hp.trans ?_)
 ·rw [List.pairwise_append,List.pairwise_cons]
  refine ⟨h1.1,⟨hB,h1.2.1⟩,fun a ha b hb=>?_⟩
  rcases List.mem_cons.1 hb with rfl|hb
  ·exact hA a ha
  ·exact h1.2.2 a ha b hb
 ·rw [List.append_assoc]
  exact(List.perm_append_comm (l₁:=B) (l₂:=[x])).append_left A
theorem rQ {K L:List N3} (h:nds K=nds L) (hL:L.Pairwise fun a b=>a.1.me.1<b.1.me.1):K.Pairwise fun a b=>a.1.me.1<b.1.me.1:=by
 have h1:(nds L).Pairwise fun a b=>a.me.1<b.me.1:=by unfold nds;rw [List.pairwise_map];exact hL
 rw [← h] at h1
 unfold nds at h1
 rw [List.pairwise_map] at h1;exact h1
theorem oF {K L:List N3} (h:nds K=nds L) {P:Nd→Prop} (hL:∀ y∈L,P y.1):∀ y∈K,P y.1:=fun y hy=>by
 have:y.1∈nds L:=by rw [← h];exact List.mem_map.2 ⟨y,hy,rfl⟩
 obtain ⟨z,hz,e⟩:=List.mem_map.1 this
 rw [← e];exact hL z hz
theorem AG {L:List N3} {m:Mb} (h:vg L m=false):∀ y∈L,y.1.me.1≠m.1:=fun y hy e=>by
 obtain ⟨j,hj,rfl⟩:=qe hy
 rw [Dh hj (Ca (decide_eq_true e))] at h;cases h
theorem sp {L K:List N3} {x:N3} {m:Mb} (hr:RS L) (hj:vg L m=false) (hk:nds K=nds L) (hx:x.1.me=m):(K++[x]).Pairwise fun a b=>a.1.me.1≠b.1.me.1:=by
 rw [List.pairwise_append]
 refine ⟨(rQ hk hr.inc).imp (fun h=>by omega),List.pairwise_singleton _ _,fun a ha b hb=>?_⟩
 rw [List.mem_singleton] at hb;subst hb
 rw [hx]
 exact oF hk (P:=fun n=>n.me.1≠m.1) (AG hj) a ha
theorem wq {L K K2:List N3} {x:N3} {m:Mb} {no:Int} (hok:ut L m=true) (hr:RS L) (hj:vg L m=false) (he:ve L m no=0) (hk:nds K=nds L) (hx:x.1=⟨m,de,[Cx L m no],[]⟩) (hp:K2.Perm (K++[x])) (hs:K2.Pairwise fun a b=>a.1.me.1<b.1.me.1):nds K2=zT L m no:=by
 have hm:x.1.me=m:=by rw [hx]
 have e:=zz (rQ hk hr.inc) (fun y hy=>by rw [hm];exact oF hk (P:=fun n=>n.me.1≠m.1) (AG hj) y hy) hp hs
 rw [(mr hok).2,e,fF,hk,hx]
 unfold Bh
 rw [decide_eq_true he];rfl
theorem AA {L:List N3} {m:Mb} (h:gm L=true) (h0:dT m=true):ut L m=true:=by unfold ut;rw [h,h0];rfl
theorem Az {L:List N3} {m:Mb} (h:dT m=false):ut L m=false:=by unfold ut;rw [h,Bool.and_false]
def bY (L:List N3):List Int:=L.map (·.1.me.1)
theorem vQ {L:List N3} {k:Nat} (hk:k<L.length):bY (L.take (k+1))=bY (L.take k)++[(L.getD k z3).1.me.1]:=by unfold bY;rw [j8 hk,List.map_append];rfl
theorem xd {L:List N3} (hd:L.Pairwise fun a b=>a.1.me.1≠b.1.me.1) {k:Nat} (hk:k<L.length):(L.getD k z3).1.me.1 ∉ bY (L.take k):=fun hx=>by
 obtain ⟨y,hy,e⟩:=List.mem_map.1 hx
 obtain ⟨j,hj,rfl⟩:=List.mem_iff_getElem.1 hy
 rw [List.length_take] at hj
 have h1:=List.pairwise_iff_getElem.1 hd j k (by omega) hk (by omega)
 rw [List.getElem_take] at e
 rw [lR hk] at h1
 exact h1 e
theorem Ba {L:List N3} (h:L.Pairwise fun a b=>a.1.me.1<b.1.me.1):L.Pairwise fun a b=>a.1.me.1≠b.1.me.1:=h.imp fun h=>by omega
theorem kS {L:List N3} (hn:∀ m∈aM L,0≤m.1) (no:Int):decide (no∈bY L)=ce (aM L) no:=by
 rw [Bool.eq_iff_iff,decide_eq_true_iff,fj hn]
 constructor
 ·intro h
  obtain ⟨y,hy,e⟩:=List.mem_map.1 h
  exact ⟨y.1.me,List.mem_map.2 ⟨y,hy,rfl⟩,e⟩
 ·rintro ⟨m,hm,e⟩
  obtain ⟨y,hy,rfl⟩:=List.mem_map.1 hm
  exact List.mem_map.2 ⟨y,hy,e⟩
abbrev dn (ks:List Int):Obj:=.map (yZ ks) ks.length
theorem zy (ks:List Int) (n:Int):Obj.map ((yZ ks).push {key:=.int .i64 n,val:=.agg #[],born:=ks.length}) (ks.length+1)=dn (ks++[n]):=by
 rw [xI];simp [dn]
theorem re {P:Program} {ρ:Operand→Value} {d:Option Tmp} {ty:TypeId} {pos:String} {af:Array Edge} {g:Option (Nat × Bool)} {t:TypeId} (S:Stt P t []):ca P ⟨d,.build t #[],ty,pos,af,g⟩ ρ (.agg #[]):=
 ew (parts:=#[]) S [] (by simp) (fun i v hm=>by simp at hm) (D:=[]) rfl
theorem wo {K L:List N3} (h:nds K=nds L) (no:Int):eb K no=eb L no:=by
 have e:∀ M:List N3,eb M no=(nds M).findIdx fun n=>decide (n.me.1=no):=fun M=>by
  unfold eb nds
  rw [List.findIdx_map];rfl
 rw [e K,e L,h]
theorem tT {K L:List N3} (h:nds K=nds L):K.length=L.length:=by have h9:=congrArg List.length h;simpa [nds] using h9
theorem B8 {K L:List N3} (h:nds K=nds L) {j:Nat} (hj:j<L.length):(K.getD j z3).1=(L.getD j z3).1:=by
 have hl:=tT h
 have h9:=congrArg (fun E:List Nd=>E[j]?) h
 simp only [nds,List.getElem?_map] at h9
 rw [List.getElem?_eq_getElem (by omega),List.getElem?_eq_getElem hj] at h9
 simp only [Option.map_some,Option.some.injEq] at h9
 rw [← lR hj,← lR (by omega)];exact h9
def CY (w:World) (N:TypeId) (L:List N3) (no:Int):cX:=fun v w9=>
 (∃ k,cE L no=k∧k≠0∧v=.tuple #[.agg #[a8],.pointer none,.int .i64 k]) ∨
 (cE L no=0∧∃ vq K ks,v=.tuple #[.agg #[vq],.pointer (some (aN vq (eb L no*68))),.int .i64 0]∧nds K=nds L∧St w [.sl vq N 68 K.length (aD K),.grp ks (cS K)] w9)
theorem CY.n {w w9:World} {N:TypeId} {L:List N3} {no k:Int} {v:Value} (h:CY w N L no v w9) (hk:cE L no=k) (h0:k≠0):v=.tuple #[.agg #[a8],.pointer none,.int .i64 k]:=by
 rcases h with ⟨q,h1,_,h3⟩|⟨h1,_⟩
 ·rw [h3,← h1,hk]
 ·exact absurd (hk.symm.trans h1) h0
theorem CY.y {w w9:World} {N:TypeId} {L:List N3} {no:Int} {v:Value} (h:CY w N L no v w9) (hk:cE L no=0):∃ vq K ks,v=.tuple #[.agg #[vq],.pointer (some (aN vq (eb L no*68))),.int .i64 0]∧nds K=nds L∧St w [.sl vq N 68 K.length (aD K),.grp ks (cS K)] w9:=by
 rcases h with ⟨q,h1,h2,_⟩|⟨_,h3⟩
 ·exact absurd (h1.symm.trans hk) h2
 ·exact h3
theorem RS.nds {K L:List N3} (h:RS L) (e:nds K=nds L):RS K:=
 ⟨fun y hy=>oF e (P:=RN) h.rn y hy,rQ e h.inc,by have:aM K=aM L:=by rw [← dE,← dE,e]
                                                 rw [this];exact h.ring⟩
theorem BW {K L:List N3} (e:nds K=nds L):aM K=aM L:=by rw [← dE,← dE,e]
theorem St.reob9 {w0 w:World} {B:List Own} {b:Nat} {o o':Obj} (s:St w0 B w) (i:Nat) (hi:B[i]? = some (.blk b o)) (e:o=o'):St w0 (B.set i (.blk b o')) w:=by
 subst e
 have:B.set i (.blk b o)=B:=by
  apply List.ext_getElem?
  intro j
  by_cases h:i=j
  ·subst h
   rw [List.getElem?_set_self (List.getElem?_eq_some_iff.1 hi).1,hi]
  ·rw [List.getElem?_set_ne h]
 rw [this];exact s
theorem jO {K:List N3} {j:Nat} {x:N3} {w9:World} (h:cS K w9) (hx:jX w9 x):cS (K.set j x) w9:=fun y hy=>by
 rcases List.mem_or_eq_of_mem_set hy with hy|rfl
 ·exact h y hy
 ·exact hx
theorem CD {K:List N3} (h:K.Pairwise fun a b=>a.1.me.1<b.1.me.1) {j:Nat} (hj:j<K.length):eb K (K.getD j z3).1.me.1=j∧bC K (K.getD j z3).1.me.1=K.getD j z3:=by
 have h1:∀ i,i<j→decide ((K.getD i z3).1.me.1=(K.getD j z3).1.me.1)=false:=fun i hi=>by
  have:=List.pairwise_iff_getElem.1 h i j (by omega) hj hi
  rw [lR hj,lR (by omega)] at this
  exact decide_eq_false (by omega)
 have h2:decide ((K.getD j z3).1.me.1=(K.getD j z3).1.me.1)=true:=decide_eq_true rfl
 exact ⟨At hj h1 h2,r4 hj h1 h2⟩
theorem jW {K:List N3} (h:RS K) {j:Nat} (hj:j<K.length) {x:N3} (he:(K.getD j z3).1.me=x.1.me) (hx:RN x.1):K.set j x=ec K x∧RS (K.set j x)∧aM (K.set j x)=aM K:=by
 have hp:=h.inc
 have hsp:K=K.take j++K.getD j z3::K.drop (j+1):=by
  conv=>lhs;rw [← List.take_append_drop j K,List.drop_eq_getElem_cons hj,lR hj]
 rw [hsp] at hp
 have h1:=List.pairwise_append.1 hp
 have h2:=List.pairwise_cons.1 h1.2.1
 have hno:(K.getD j z3).1.me.1=x.1.me.1:=by rw [he]
 have e:K.set j x=ec K x:=by
  rw [List.set_eq_take_append_cons_drop,if_pos hj]
  conv=>rhs;rw [hsp]
  exact(sQ (x:=x) (fun z hz=>by rw [← hno];exact h1.2.2 z hz _ List.mem_cons_self) hno (fun z hz=>by rw [← hno];exact h2.1 z hz)).symm
 obtain ⟨q1,q2,_⟩:=h.put (x:=x) (bw hj) he hx
 rw [e];exact ⟨rfl,q1,q2⟩
theorem p3 {K K1 K2:List N3} {j:Nat} (h:RS K) (hj:j<K.length) {T1 T2:Nd} (hT1:T1=dG (aM K) (K.getD j z3).1) (h1:nds K1=iw (nds K) T1) (hT2:T2=q7 T1 (pI (aM K1) (bC K1 (T1.sc.getD 0 aT).1).1)) (h2:nds K2=iw (nds K1) T2):
 fE (nds K) (K.getD j z3).1.me.1=bif ce (aM K2) (T2.sc.getD 0 aT).1 then iw (nds K2) (AF (bC K2 (T2.sc.getD 0 aT).1).1 T2.me) else nds K2:=by
 have e0:rx (nds K) (K.getD j z3).1.me.1=(K.getD j z3).1:=by rw [← gZ,(CD h.inc hj).2]
 unfold fE
 simp only [e0,dE,← hT1]
 rw [← h1,dE,← gZ,← hT2,← h2,dE,← gZ]
theorem ij {K:List N3} (h:RS K) {no:Int} (hl:ce (aM K) no=true):eb K no<K.length∧K.getD (eb K no) z3=bC K no∧bC K no∈K:=by
 have h1:eb K no<K.length:=of_decide_eq_true ((eX h.nos).trans hl)
 have h2:=(nA h1).1
 exact ⟨h1,h2,by rw [← h2];exact bw h1⟩
theorem qp {K:List N3} (h:RS K) {j:Nat} (hj:j<K.length):ce (aM K) (K.getD j z3).1.me.1=true:=(fj h.nos).2 ⟨_,List.mem_map.2 ⟨_,bw hj,rfl⟩,rfl⟩
theorem d7 {w:World} {K:List N3} {j:Nat} {T:Nd} {u v:Value} (h:cS K w) (hj:j<K.length) (e:K.getD j z3=(T,u,v)):bq w u 33 T.sc.length (ap T.sc)∧bq w v 33 T.fg.length (ap T.fg):=by
 have h9:=h _ (bw hj)
 rw [e] at h9;exact h9
theorem DP {K L:List N3} {no:Int} (hk:nds K=nds L) (hi:eb L no<L.length):(K.getD (eb L no) z3).1.me.1=no:=by
 rw [B8 hk hi,(nA hi).1];exact(nA hi).2
end Go.Proofs.YthggibfkgofncaaGreat
namespace Go.Proofs.YthggibfkgofncaaGreat
open Go.RowKit
def Cp (w:World) (N:TypeId) (L:List N3) (no:Int):cX:=fun v w9=>
 (∃ k,cE L no=k∧k≠0∧v=.tuple #[.agg #[a8],.int .i64 k]) ∨
 (cE L no=0∧∃ vq K ks,v=.tuple #[.agg #[vq],.int .i64 0]∧nds K=yt (nds L) no∧St w [.sl vq N 68 K.length (aD K),.grp ks (cS K)] w9)
theorem Cp.n {w w9:World} {N:TypeId} {L:List N3} {no k:Int} {v:Value} (h:Cp w N L no v w9) (hk:cE L no=k) (h0:k≠0):v=.tuple #[.agg #[a8],.int .i64 k]:=by
 rcases h with ⟨q,h1,_,h3⟩|⟨h1,_⟩
 ·rw [h3,← h1,hk]
 ·exact absurd (hk.symm.trans h1) h0
theorem Cp.y {w w9:World} {N:TypeId} {L:List N3} {no:Int} {v:Value} (h:Cp w N L no v w9) (hk:cE L no=0):∃ vq K ks,v=.tuple #[.agg #[vq],.int .i64 0]∧nds K=yt (nds L) no∧St w [.sl vq N 68 K.length (aD K),.grp ks (cS K)] w9:=by
 rcases h with ⟨q,h1,h2,_⟩|⟨_,h3⟩
 ·exact absurd (h1.symm.trans hk) h2
 ·exact h3
theorem Cp.any {w w9:World} {N:TypeId} {L:List N3} {vo:Value} {no:Int} {v:Value} (h:Cp w N L no v w9) (e:Ext w w9):Av w (DR vo L) (CU L no) (cE L no) v w9:=by
 rcases h with ⟨k,h1,h2,rfl⟩|⟨h1,vq,K,ks,rfl,hk,s⟩
 ·exact iC ((St.start w).more e) (Dn h1 h2) h1
 ·exact m7 h1 (p8 (by rw [DQ h1,hk]) s)
abbrev cx (x:Nd) (u v:Value):Array Value:=aC x.me x.pr u v
abbrev qS (y:N3):Array Value:=aC y.1.me y.1.pr y.2.1 y.2.2
abbrev tA (K:List N3) (kx:Nat):Nd:=dG (aM K) (K.getD kx z3).1
abbrev tX (K K1:List N3) (kx:Nat):Nat:=eb K1 ((tA K kx).sc.getD 0 aT).1
abbrev tB (K K1:List N3) (kx:Nat):N3:=K1.getD (tX K K1 kx) z3
abbrev tC (K K1:List N3) (kx:Nat):Nd:=pI (aM K1) (tB K K1 kx).1
abbrev tD (K K1:List N3) (kx:Nat):Nd:=q7 (tA K kx) (tC K K1 kx)
abbrev tY (K K1 K2:List N3) (kx:Nat):Nat:=eb K2 ((tD K K1 kx).sc.getD 0 aT).1
abbrev tE (K K1 K2:List N3) (kx:Nat):N3:=K2.getD (tY K K1 K2 kx) z3
abbrev tF (K K1 K2:List N3) (kx:Nat):Nd:=AF (tE K K1 K2 kx).1 (tD K K1 kx).me
abbrev rA (L:List N3) (no:Int):Nd:=dG (aM L) (bC L no).1
abbrev rX (L:List N3) (no:Int):Int:=((rA L no).sc.getD 0 aT).1
abbrev rB (L L1:List N3) (no:Int):N3:=bC L1 (rX L no)
abbrev rC (L L1:List N3) (no:Int):Nd:=pI (aM L1) (rB L L1 no).1
abbrev rD (L L1:List N3) (no:Int):Nd:=q7 (rA L no) (rC L L1 no)
abbrev rY (L L1:List N3) (no:Int):Int:=((rD L L1 no).sc.getD 0 aT).1
abbrev rE (L L1 L2:List N3) (no:Int):N3:=bC L2 (rY L L1 no)
abbrev rF (L L1 L2:List N3) (no:Int):Nd:=AF (rE L L1 L2 no).1 (rD L L1 no).me
end Go.Proofs.YthggibfkgofncaaGreat
