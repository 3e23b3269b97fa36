/- Own overlays, changed in place: own rows that are sorted; ranges over functions within a round; regions that draw their order, in which what was there ahead may be read; sets; what the package asks of overlays and the reference asks too; no Go in it. -/
import Derived.Shelf.SlSortCmp.WholeK
import Derived.Test.YthggibfkgofncaaGreatOv
set_option linter.unusedVariables false
set_option linter.unusedSimpArgs false
set_option linter.unusedSectionVars false
namespace Go.Proofs.YthggibfkgofncaaGreat
open Go.RowKit Go.Sort
theorem mw (d:Array Mb):(flatK iP 33 d).toList=ar d.toList:=by
 apply List.ext_getElem?
 intro t
 by_cases ht:t<d.size*33
 ·have hj:t / 33<d.size:=by omega
  have hr:t % 33<33:=Nat.mod_lt _ (by decide)
  have h1:(ar d.toList)[t]? = (iP d[t / 33])[t % 33]? := by
   have h2:t=t / 33*33+t % 33:=by omega
   conv=>lhs;rw [h2]
   rw [← List.getElem?_drop,← List.getElem?_take_of_lt hr]
   unfold ar
   rw [ip _ 33 cz d.toList (t / 33) (by simpa using hj)]
   simp
  rw [h1]
  have h3:=get_flatK iP 33 d t ht
  have h4:t<(flatK iP 33 d).size:=by rw [size_flatK];exact ht
  rw [getElem!_pos _ t h4,getElem!_pos d _ hj] at h3
  rw [Array.getElem?_toList,Array.getElem?_eq_getElem h4,h3]
  have h5:t % 33<(iP d[t / 33]).length:=by rw [cz];exact hr
  rw [getElem!_pos (iP d[t / 33]) (t % 33) h5,List.getElem?_eq_getElem h5]
 ·rw [List.getElem?_eq_none (by rw [Array.length_toList,size_flatK];omega),List.getElem?_eq_none (by rw [dS,Array.length_toList];omega)]
theorem j4 (F c:Array Value):(putCells id 0 F c).size=c.size:=by simp [putCells]
theorem pz (F c:Array Value) (h:F.size≤c.size):(putCells id 0 F c).toList.take F.size=F.toList:=by
 apply List.ext_getElem?
 intro t
 by_cases ht:t<F.size
 ·rw [List.getElem?_take_of_lt ht,Array.getElem?_toList,Array.getElem?_toList]
  unfold putCells
  rw [Array.getElem?_mapIdx,Array.getElem?_eq_getElem (by omega),Option.map_some,if_pos ⟨Nat.zero_le _,by omega⟩,Array.getElem?_eq_getElem ht,Nat.sub_zero,getElem!_pos F t ht]
  rfl
 ·rw [List.getElem?_eq_none (by rw [List.length_take];omega),List.getElem?_eq_none (by rw [Array.length_toList];omega)]
theorem jB (w:World) (g m:Nat) (d:Array Mb) (os:Array Obj):(sortWorldK iP 33 w g 0 m d os).heap=w.heap.modify g (onCells (putCells id 0 (flatK iP 33 d)))++os:=rfl
theorem kO (w:World) (g m:Nat) (d:Array Mb) (os:Array Obj) {k:Nat} (hk:k<w.heap.size) (hne:k≠g):(sortWorldK iP 33 w g 0 m d os).heap[k]? = w.heap[k]? := by
 rw [jB,Array.getElem?_append_left (by rw [Array.size_modify];exact hk),Array.getElem?_modify,if_neg (fun e=>hne e.symm)]
theorem sN (w:World) (g m:Nat) (d:Array Mb) (os:Array Obj) {cur:Array Value} {e:TypeId} {fz:Nat × Nat} (hg:w.heap[g]? = some (.cells cur e fz)):(sortWorldK iP 33 w g 0 m d os).heap[g]? = some (.cells (putCells id 0 (flatK iP 33 d) cur) e fz):=by
 have hk:g<w.heap.size:=(Array.getElem?_eq_some_iff.1 hg).1
 rw [jB,Array.getElem?_append_left (by rw [Array.size_modify];exact hk),Array.getElem?_modify,if_pos rfl,hg]
 rfl
theorem yO {w0 w:World} {B:List Own} {v:Value} {e:TypeId} {n:Nat} {l:List Mb} (s:St w0 (.sl v e 33 n (ar l)::B) w) (hl:l.length=n) (hn:1≤n):
 ∃ g cap,v=.slice (some ⟨g,0,none⟩) n cap∧g<w.heap.size∧w0.heap.size≤g∧HoldsK iP 33 w g 0 l.toArray∧
  ∀ (m:Nat) (os:Array Obj) (d:Array Mb),d.size=n→St w0 (.sl v e 33 n (ar d.toList)::B) (sortWorldK iP 33 w g 0 m d os):=by
 obtain ⟨g,cap,cur,fz,rfl,hfz,hnc,hcm,hcs,htk,s⟩:=s.open_sl hn
 have hg:=s.get 0 rfl
 have hlt:g<w.heap.size:=(Array.getElem?_eq_some_iff.1 hg).1
 have hroom:n*33≤cur.size:=by rw [hcs];exact Nat.mul_le_mul_right _ hnc
 refine ⟨g,cap,rfl,hlt,s.own _ List.mem_cons_self g (Own.at_blk.2 rfl),fun j hj=>?_,fun m os d hd=>?_⟩
 ·have hjs:j<n*33:=by rw [size_flatK] at hj;simpa [hl] using hj
  constructor
  ·rw [Nat.zero_add,cell_of_row w g j cur e fz hg]
   have h1:(flatK iP 33 l.toArray).toList=cur.toList.take (n*33):=by rw [mw,htk]
   have h2:(flatK iP 33 l.toArray).toList[j]? = cur.toList[j]? := by rw [h1,List.getElem?_take_of_lt hjs]
   rw [Array.getElem?_toList,Array.getElem?_toList,Array.getElem?_eq_getElem hj] at h2
   rw [getElem!_pos _ j hj]
   exact h2.symm
  ·simp only [World.frozen?,hg,Nat.zero_add]
   obtain ⟨lo,hi⟩:=fz
   rcases hfz with h9|h9
   ·change hi=0 at h9;subst h9;simp
   ·change cur.size≤lo at h9
    have:¬ lo≤j:=by omega
    simp [this]
 ·have hF:(flatK iP 33 d).size=n*33:=by rw [size_flatK,hd]
  have s2:=s.upd 0 (w':=sortWorldK iP 33 w g 0 m d os) (p':=.blk g (.cells (putCells id 0 (flatK iP 33 d) cur) e fz)) rfl rfl rfl rfl (by rw [jB];simp) (sN w g m d os hg) (fun k hk=>.inl hk) (fun k hk hne=>kO w g m d os hk (fun e9=>hne (Own.at_blk.2 e9))) (Nat.le_add_right _ _)
  refine s2.close_sl (by rw [j4];exact hfz) hnc hcm (by rw [j4];exact hcs) ?_ ?_
  ·rw [← hF,pz _ _ (by omega),mw]
  ·rw [dS,Array.length_toList,hd]
theorem sn {W w':World} (h:Ext W w'):∃ q os',w'=grow (W.drewN q) os':=by
 refine ⟨w'.drawn - W.drawn,w'.heap.extract W.heap.size w'.heap.size,?_⟩
 have hh:w'.heap=W.heap++w'.heap.extract W.heap.size w'.heap.size:=by
  apply Array.ext_getElem?
  intro k
  rw [Array.getElem?_append]
  by_cases hk:k<W.heap.size
  ·rw [if_pos hk];exact h.block k hk
  ·rw [if_neg hk,Array.getElem?_extract]
   by_cases h2:k<w'.heap.size
   ·rw [if_pos (by omega)];congr 1;omega
   ·rw [if_neg (by omega),Array.getElem?_eq_none (by omega)]
 have h1:=h.os
 have h2:=h.tape
 have h3:=h.output
 have h4:=h.drawn
 obtain ⟨hp,tp,dr,o,ou⟩:=w'
 obtain ⟨hp2,tp2,dr2,o2,ou2⟩:=W
 simp only at h1 h2 h3 h4 hh
 subst h1;subst h2;subst h3
 have h5:dr2+(dr - dr2)=dr:=by omega
 simp only [grow,World.drewN,h5]
 rw [← hh]
theorem nF (x9:Id) (a b:Mb):ltOf (fun x y:Mb=>gE (x.2 - x9) (y.2 - x9)) a b=decide (fd x9 a.2<fd x9 b.2):=x6 _ _ _
theorem yu (x9:Id):SWO (ltOf fun x y:Mb=>gE (x.2 - x9) (y.2 - x9)) where
 irrefl x:=by rw [nF];simp
 trans x y z h1 h2:=by rw [nF] at *;simp at *;omega
 ntrans x y z h1 h2:=by rw [nF] at *;simp at *;omega
theorem qu {l:List Mb} (h:Rg l) (x9:Id) {d:Array Mb} (hp:PermIn 0 l.toArray.size l.toArray d) (hs:SortedIn (ltOf fun x y:Mb=>gE (x.2 - x9) (y.2 - x9)) 0 l.toArray.size d):d.toList=ey x9 l:=by
 obtain ⟨hsz,_,hpm⟩:=hp
 have e1:d.extract 0 l.toArray.size=d:=by rw [← hsz];exact Array.extract_size
 rw [e1,Array.extract_size] at hpm
 refine BB h x9 hpm ?_
 rw [List.pairwise_iff_getElem]
 intro i j hi hj hij
 have hi':i<d.size:=by simpa using hi
 have hj':j<d.size:=by simpa using hj
 have:=hs i j (Nat.zero_le _) hij (by omega)
 rw [getElem!_pos d j hj',getElem!_pos d i hi',nF] at this
 simpa using this
end Go.Proofs.YthggibfkgofncaaGreat
namespace Go.Proofs.YthggibfkgofncaaGreat
open Go.RowKit
section
variable {P:Program} {ro:Option Nat} {ops:List Oper} {cls cons:List (List Nat)} {a0:Act} {Q:Exit→Act→World→Prop} {w0 w1:World}
end
end Go.Proofs.YthggibfkgofncaaGreat
namespace Go.Proofs.YthggibfkgofncaaGreat
open Go.RowKit
theorem pd {P:Program} {l0:Nat} {r0:Loop} {w:World} (h:w.heap[l0]? = some (.loop r0)) (fn:FuncId) (tmps:Array Value) (ps:Array Tmp) (assign body:Code):
 (Instr.enterLoop fn tmps ps assign body (some l0)).run P w=.ok (w.heap.size,[]) (w.alloc (.loop {state:=.ready,pending:=none,fn,tmps,params:=ps,assign,body,defers:=r0.defers})):=by
 unfold Instr.enterLoop
 simp only [Sem.run_bind,run_getLoop h,run_newObj_alloc,Result.andThen,Sem.run_pure]
theorem wx {P:Program} {N lo:Nat} {ro:Loop} {a:Act} {L:List (Nat × Value)} {Df:List Deferred} {w w0:World} {B:List Own} {g:Operand} {ps:Array Tmp} {assign body:Code} {f:FuncId} {lb:Array Value} {Q:Exit→Act→World→Prop}
 (J:Nat→List Own→Prop) (A0:List Own) (X:List Own) (m:Nat) (q:Nat→Bool) (arg:Nat→List Value) (h:Sl N a L Df) (s:St w0 B w) (hg:eF L g=some (.func (.func f) #[] lb)) (hf:Fnc P f) (io:Nat) (hio:B[io]? = some (.blk lo (.loop ro)))
 (hB:B.Perm (X++A0)) (hJ0:J 0 A0) (hps:∀ d,(arg d).length=ps.size)
 (hiter:∀ (l:Nat) (w1:World) (GG:Nat→Own→Prop) (g0:Own),GG 0 g0→St w0 (X++[g0]) w1→
  (∀ (d:Nat) (B':List Own) (w':World) (i:Nat) (g:Own),d<m→(∀ j,j<d→q j=false)→GG d g→St w0 B' w'→B'[i]? = some g→iu P l (arg d).toArray w' (fun v w''=>v=.bool (!q d)∧∃ g',GG (d+1) g'∧St w0 (B'.set i g') w''))→
  Calls P f (#[.func (.yield l) #[] #[]]++lb) w1 (fun e w'=>(∃ v,e=.returned v)∧∃ d g,GG d g∧St w0 (X++[g]) w'∧d≤m∧(∀ j,j+1<d→q j=false)∧(lq q d=false→d=m)))
 (hround:∀ (l d:Nat) (rc:LoopState→Loop) (R A:List Own) (w1:World),d<m→(∀ j,j<d→q j=false)→J d A→St w0 (.blk l (.loop (rc .ready))::(A++R)) w1→
  assign.wpIn (FR (some l)) 0 P (Exit.then (fun a1 w2=>∃ X1,St w0 (.blk l (.loop (rc .ready))::X1) w2∧∀ w3,St w0 (.blk l (.loop (rc .busy))::X1) w3→body.wpIn (FR (some l)) 0 P
   (fun e _ w4=>vC (q d) e∧∃ A',J (d+1) A'∧St w0 (.blk l (.loop (rc .busy))::(A'++R)) w4) a1 w3) (fun _ _ _=>False))
   {tmps:=(ps.zip (arg d).toArray).foldl (fun t (p,v)=>t.setIfInBounds p v) a.tmps,defers:=[]} w1)
 (hdone:∀ (A:List Own) (w2:World),J m A→(∀ j,j<m→q j=false)→St w0 (X++A) w2→Q .normal a w2)
 (hleft:∀ (d:Nat) (A:List Own) (w2:World),d<m→q d=true→(∀ j,j<d→q j=false)→J (d+1) A→St w0 (X++A) w2→Q .ret a w2):
 (Code.rangeFunc g ps assign body).wpIn (FR (some lo)) 0 P Q a w:=by
 refine wpIn_rangeFunc (F:=FR (some lo)) fun fn _=>?_
 obtain ⟨rq,hrq⟩:∃ rq,rq=fun pe st=>gm a ro.defers fn ps assign body pe st:=⟨_,rfl⟩
 obtain ⟨di,e1,e2,e3⟩:=hf.has
 have hl0:gm a ro.defers fn ps assign body none .ready=rq none .ready:=by rw [hrq]
 refine ⟨w.heap.size,[],w.alloc (.loop (rq none .ready)),{target:=.fn (.func f) lb,args:=#[.func (.yield w.heap.size) #[] #[]]},w.alloc (.loop (rq none .ready)),f,
  #[.func (.yield w.heap.size) #[] #[]]++lb,w.alloc (.loop (rq none .ready)),?_,?_,fun _ _=>trivial,?_,(fun hh=>by cases hh),?_⟩
 ·rw [hrq];exact pd (s.get io hio) _ _ _ _ _
 ·simp only [resolve,h.ev hg]
  simp [go_sem]
 ·simp only [invoke];exact fx e1 e2 e3 _ _
 have s1:St w0 (.blk w.heap.size (.loop (rq none .ready))::B) (w.alloc (.loop (rq none .ready))):=s.new (.loop (rq none .ready))
 have s2:St w0 ((.blk w.heap.size (.loop (rq none .ready))::A0)++X) (w.alloc (.loop (rq none .ready))):=
  s1.perm ((hB.trans List.perm_append_comm).cons _)
 have hnd0:=ei s2
 have s3:=s2.group
 refine callsIn_wide.2 ((hiter w.heap.size _ (fun d g=>∃ A,J d A∧g=.all w0 (.blk w.heap.size (.loop (rq (nr (lq q d)) (oK (lq q d))))::A)∧
  (Own.blk w.heap.size (.loop (rq (nr (lq q d)) (oK (lq q d))))::A).Pairwise fun p q=>∀ k,p.at k→¬ q.at k)
  _ ⟨A0,hJ0,rfl,hnd0⟩ (s3.perm (List.perm_append_comm (l₁:=[_]))) ?_).mono ?_)
 ·rintro d B' w' i g hd hq0 ⟨A,hJ,rfl,hnd⟩ s' hi
  have hlq:lq q d=false:=by cases d with|zero=>rfl|succ d=>exact hq0 d (Nat.lt_succ_self d)
  rw [hlq] at hi hnd
  have hil:=(List.getElem?_eq_some_iff.1 hi).1
  have s4:St w0 ((.blk w.heap.size (.loop (rq none .ready))::A)++B'.eraseIdx i) w':=(s'.perm (jA hi)).ungroup hnd
  have hl:=s4.get 0 rfl
  have hy:=run_yield (P:=P) (args:=(arg d).toArray) hl (by rw [hrq,List.size_toArray];exact hps d)
  refine ⟨_,_,_,_,hy,?_⟩
  have hw:=hround w.heap.size d (rq none) (B'.eraseIdx i) A w' hd hq0 hJ (by simpa using s4)
  subst hrq
  refine roundIn_of_wpIn (F:=Fence.wide) (n:=0) trivial (Go.wpIn_mono hw ?_)
  intro e a1 w2 he
  cases e with
  |normal=>
   obtain ⟨X1,s5,hb⟩:=he
   refine ⟨_,run_beginRound (s5.get 0 rfl) rfl,Go.wpIn_mono (hb _ (s5.putObj 0 rfl _)) ?_⟩
   rintro e2 a3 w4 ⟨hle,A',hJ',s6⟩
   have key:∀ (jump:Option Code),jump=nr (q d)→∃ v w',(Instr.endRound w.heap.size jump).run P w4=.ok v w'∧∃ u,Ending.returned v=.returned u∧u=.bool (!q d)∧∃ g',(∃ A,J (d+1) A∧g'=Own.all w0 (.blk w.heap.size (.loop (gm a ro.defers fn ps assign body (nr (q d)) (oK (q d))))::A)∧
    (Own.blk w.heap.size (.loop (gm a ro.defers fn ps assign body (nr (q d)) (oK (q d))))::A).Pairwise fun p q=>∀ k,p.at k→¬ q.at k)∧St w0 (B'.set i g') w':=by
    rintro jump rfl
    refine ⟨_,_,run_endRound _ (s6.get 0 rfl),_,rfl,(by cases q d<;>rfl),_,⟨A',hJ',rfl,?_⟩,?_⟩
    ·have hn:=ei (A:=.blk w.heap.size (.loop (gm a ro.defers fn ps assign body none .busy))::A') (R:=B'.eraseIdx i) (by simpa using s6)
     exact pX (A:=.blk w.heap.size (.loop (gm a ro.defers fn ps assign body none .busy))::A') rfl hn
    ·have s7:=s6.putObj 0 rfl (.loop (gm a ro.defers fn ps assign body (nr (q d)) (oK (q d))))
     have s8:St w0 ((.blk w.heap.size (.loop (gm a ro.defers fn ps assign body (nr (q d)) (oK (q d))))::A')++B'.eraseIdx i) _:=s7
     have s9:=s8.group.perm (mY hil _)
     cases hqd:q d<;>rw [hqd] at s9<;>exact s9
   cases e2 with
   |normal=>exact key none (by rw [show q d=false from hle];rfl)
   |ret=>exact key (some .ret) (by rw [show q d=true from hle];rfl)
   |exit _=>exact hle.elim
   |goto _=>exact hle.elim
   |panic _=>exact hle.elim
   |outgrown=>exact hle.elim
  |ret=>exact he.elim
  |exit _=>exact he.elim
  |goto _=>exact he.elim
  |panic _=>exact he.elim
  |outgrown=>exact he.elim
 ·rintro e w2 ⟨⟨v,rfl⟩,d,g,⟨A,hJ,rfl,hnd⟩,s4,hdm,hq0,hend⟩
  have s5:St w0 ((.blk w.heap.size (.loop (rq (nr (lq q d)) (oK (lq q d))))::A)++X) w2:=(s4.perm (List.perm_append_comm (l₂:=[_]))).ungroup hnd
  have hl:=s5.get 0 rfl
  subst hrq
  refine ⟨nr (lq q d),_,run_endLoop hl (by cases lq q d<;>simp [gm,oK]),?_⟩
  have s6:=s5.putObj 0 rfl (.loop {gm a ro.defers fn ps assign body (nr (lq q d)) (oK (lq q d)) with state:=.exhausted})
  have s7:=(s6.pick (A++X) (List.sublist_cons_self _ _)).perm List.perm_append_comm
  cases hqd:lq q d with
  |false=>
   obtain rfl:=hend hqd
   refine hdone A _ hJ (fun j hj=>?_) (by rw [hqd] at s7;exact s7)
   by_cases h1:j+1<d
   ·exact hq0 j h1
   ·have:d=j+1:=by omega
    subst this;exact hqd
  |true=>
   cases d with
   |zero=>cases hqd
   |succ d=>
    refine wpIn_ret ?_
    exact hleft d A _ (by omega) hqd (fun j hj=>hq0 j (by omega)) hJ (by rw [hqd] at s7;exact s7)
section
variable {P:Program} {ops:Array Oper} {Q:Act→World→Prop} {l:List Oper} {a:Act} {w w0:World} {N:Nat} {L:List (Nat × Value)} {Df:List Deferred} {B:List Own} {d:Tmp} {ty:TypeId} {pos:String} {af:Array Edge} {x y z:Operand} {t e:TypeId}
theorem i0 {v u9:Value} {sz n p:Nat} {xs ys D:List Value} (i:Nat) (h:Sl N a L Df) (s:St w0 B w) (hx:eF L x=some (.pointer (some (a2 v p)))) (hy:eF L y=some u9) (hi:B[i]? = some (.sl v e sz n xs)) (hp:p+D.length≤n*sz) (h1:0<D.length) (hv:∀ u∈D,u.oneCell'=true)
 (hst:∀ (g:Nat) (w9:World) (cur:Array Value) (fz:Nat × Nat),w9.heap[g]? = some (.cells cur e fz)→(fz.2=0∨cur.size≤fz.1)→p+D.length≤cur.size→(storeVar t ⟨g,p,none⟩ u9).run P w9=.ok () (w9.setRow g (cur.toList.take p++D++cur.toList.drop (p+D.length)).toArray))
 (hys:xs.take p++D++xs.drop (p+D.length)=ys)
 (k:∀ w',St w0 (B.set i (.sl v e sz n ys)) w'→cM P ops Q l a w'):cM P ops Q (⟨none,.store t x y,ty,pos,af,none⟩::l) a w:=by
 have ho:=s.getSl i hi
 rcases ho.2 with ⟨_,h0⟩|⟨g,cap,cur,fz,rfl,hb,hg,hfz,hnc,hcm,hcs,htk⟩
 ·subst h0;omega
 ·have hcl:n*sz≤cur.size:=by rw [hcs];exact Nat.mul_le_mul_right _ hnc
  have hxl:xs.length=n*sz:=ho.1
  have hcx:cur.toList=xs++cur.toList.drop (n*sz):=by rw [← htk];exact(List.take_append_drop _ _).symm
  have hyl:ys.length=n*sz:=by
   rw [← hys];simp only [List.length_append,List.length_take,List.length_drop];omega
  have hnew:cur.toList.take p++D++cur.toList.drop (p+D.length)=ys++cur.toList.drop (n*sz):=by
   rw [← hys]
   conv=>lhs;rw [hcx]
   rw [List.take_append_of_le_length (by omega),List.drop_append_of_le_length (by omega)]
   simp only [List.append_assoc]
  have hel:(some (a2 (Value.slice (some ⟨g,0,none⟩) n cap) p):Option Addr)=some ⟨g,p,none⟩:=by show some (Addr.add _ _)=_;rw [Addr.add_lit,Nat.zero_add]
  have hstr:=hst g w cur fz hg hfz (by omega)
  rw [hnew] at hstr
  have hsz:(ys++cur.toList.drop (n*sz)).toArray.size=cur.size:=by
   rw [List.size_toArray,List.length_append,List.length_drop,hyl];have:=Array.length_toList (xs:=cur);omega
  refine gz (R:=fun _ w'=>w'=w.setRow g (ys++cur.toList.drop (n*sz)).toArray) ?_ fun w' _ hw=>by
   subst hw
   refine k _ (s.upd i hi (p':=.sl _ e sz n ys) rfl rfl rfl (by simp) ⟨hyl,.inr ⟨g,cap,_,fz,rfl,hb,setRow_heap w g cur _ e fz hg,?_,hnc,hcm,?_,?_⟩⟩ (fun k hk=>.inl hk) (fun k hk hne=>setRow_other w g k _ fun e9=>hne (Own.at_sl.2 (by simp [Value.ownBlock,e9]))))
   ·rw [hsz];exact hfz
   ·rw [hsz];exact hcs
   ·show (ys++cur.toList.drop (n*sz)).take (n*sz)=ys
    rw [← hyl];exact List.take_left
  unfold c7
  rw [hel] at hx
  simp only [execOp,h.ev hx,h.ev hy,Instr.storeAt,Instr.sureAddr,Sem.run_bind,Sem.run_pure,Result.andThen_ok,hstr]
theorem iy {v:Value} {sz n m p:Nat} {xs ys:List Value} {D:Array Value} (i:Nat) (h:Sl N a L Df) (s:St w0 B w) (hr:Row P t m) (hx:eF L x=some (.pointer (some (a2 v p)))) (hy:eF L y=some (.agg D)) (hi:B[i]? = some (.sl v e sz n xs)) (hD:D.size=m) (hm:0<m) (hp:p+m≤n*sz) (hv:∀ u∈D.toList,u.oneCell'=true)
 (hys:xs.take p++D.toList++xs.drop (p+m)=ys)
 (k:∀ w',St w0 (B.set i (.sl v e sz n ys)) w'→cM P ops Q l a w'):cM P ops Q (⟨none,.store t x y,ty,pos,af,none⟩::l) a w:=by
 have hDl:D.toList.length=m:=by rw [Array.length_toList,hD]
 refine i0 (D:=D.toList) i h s hx hy hi (by omega) (by omega) hv (fun g w9 cur fz hg hfz hc=>?_) (by rw [hDl];exact hys) k
 have hs:(sizeOf t).run P w9=.ok D.size w9:=by
  cases hq:P.info? t with
  |none=>have:=hr.size;simp [hq] at this
  |some i=>have:=hr.size;simp [hq] at this;simp [sizeOf,typeInfo,Sem.run_bind,hq,this,hD]
 have:=cZ P g p e fz D.toList 0 cur w9 hg hfz (by omega) hv
 simp only [Nat.add_zero] at this
 simp [storeVar,Sem.run_bind,hs,Value.cells,this]
theorem ir {v V:Value} {sz n p:Nat} {xs ys:List Value} (i:Nat) (h:Sl N a L Df) (s:St w0 B w) (ho:One P t) (hx:eF L x=some (.pointer (some (a2 v p)))) (hy:eF L y=some V) (hi:B[i]? = some (.sl v e sz n xs)) (hp:p+1≤n*sz) (hv:V.oneCell'=true)
 (hys:xs.set p V=ys)
 (k:∀ w',St w0 (B.set i (.sl v e sz n ys)) w'→cM P ops Q l a w'):cM P ops Q (⟨none,.store t x y,ty,pos,af,none⟩::l) a w:=by
 have hxl:xs.length=n*sz:=(s.getSl i hi).1
 refine i0 (D:=[V]) i h s hx hy hi hp (by simp) (fun u hu=>by rw [List.mem_singleton] at hu;subst hu;exact hv) (fun g w9 cur fz hg hfz hc=>?_) (by rw [← hys];simp only [List.length_cons,List.length_nil,Nat.zero_add];rw [List.set_eq_take_append_cons_drop,if_pos (by omega)];simp) k
 have hs:(sizeOf t).run P w9=.ok 1 w9:=by
  cases hq:P.info? t with
  |none=>have:=ho.size;simp [hq] at this
  |some i=>have:=ho.size;simp [hq] at this;simp [sizeOf,typeInfo,Sem.run_bind,hq,this]
 have hc1:V.cells=#[V]:=by
  cases V<;>first|rfl|(simp [Value.oneCell'] at hv)
 have:=cZ P g p e fz [V] 0 cur w9 hg hfz (by simpa using hc) (fun u hu=>by rw [List.mem_singleton] at hu;subst hu;exact hv)
 simp only [Nat.add_zero,List.length_cons,List.length_nil,Nat.zero_add] at this
 simp [storeVar,Sem.run_bind,hs,hc1,this]
theorem wU {b c:Nat} {es:Array MapEntry} {n:Int} {V:Value} {kt et:TypeId} (i:Nat) (h:Sl N a L Df) (s:St w0 B w) (ht:P.underlying t=some (.map kt et)) (hk:P.underlying kt=some (.int .i64))
 (hx:eF L x=some (.map (some b))) (hy:eF L y=some (.int .i64 n)) (hz:eF L z=some V) (hi:B[i]? = some (.blk b (.map es c))) (hf:Instr.findNow (.int .i64) (.int .i64 n) es.toList 0=some none)
 (k:∀ w',St w0 (B.set i (.blk b (.map (es.push {key:=.int .i64 n,val:=V,born:=c}) (c+1)))) w'→cM P ops Q l a w'):cM P ops Q (⟨none,.mapUpdate t x y z,ty,pos,af,none⟩::l) a w:=by
 have hb:=s.get i hi
 have hrun:(Instr.mapUpdate t (.map (some b)) (.int .i64 n) V).run P w=.ok () (w.putObj b (.map (es.push {key:=.int .i64 n,val:=V,born:=c}) (c+1))):=by
  simp [Instr.mapUpdate,run_underlying ht,MapKept.run_getObj_map hb,MapKept.run_checkKey hk (show MapKept.IsKey (.int .i64) (.int .i64 n) from rfl),MapKept.run_findKey hk hf,MapKept.run_setObj_map _ hb,Result.andThen,World.putObj]
 refine gz (R:=fun v' w'=>w'=w.putObj b (.map (es.push {key:=.int .i64 n,val:=V,born:=c}) (c+1))) ?_ fun w' v' hw=>by subst hw;exact k _ (s.putObj i hi _)
 simp [c7,execOp,h.ev hx,h.ev hy,h.ev hz,hrun,Result.andThen]
theorem qe {b c:Nat} {es:Array MapEntry} {n:Int} {Z V:Value} {ok:Bool} {kt et:TypeId} (h:Sl N a L Df) (hb:w.heap[b]? = some (.map es c)) (ht:P.underlying t=some (.map kt et)) (hk:P.underlying kt=some (.int .i64)) (hZ:(P.info? et).bind (·.zero)=some Z)
 (hx:eF L x=some (.map (some b))) (hy:eF L y=some (.int .i64 n))
 (hf:(∃ j,Instr.findNow (.int .i64) (.int .i64 n) es.toList 0=some (some (j,V))∧ok=true)∨(Instr.findNow (.int .i64) (.int .i64 n) es.toList 0=some none∧V=Z∧ok=false)) (hd:Nat.blt d N=true)
 (k:∀ a',Sl N a' ((d,.tuple #[V,.bool ok])::L) Df→cM P ops Q l a' w):cM P ops Q (⟨some d,.lookup t x y true,ty,pos,af,none⟩::l) a w:=by
 have hzr:(zeroValue et).run P w=.ok Z w:=by
  cases hi9:P.info? et with
  |none=>simp [hi9] at hZ
  |some info=>simp [hi9] at hZ;simp [zeroValue,typeInfo,hi9,hZ,Result.andThen]
 have hrun:(Instr.lookup t (.map (some b)) (.int .i64 n) true).run P w=.ok (.tuple #[V,.bool ok]) w:=by
  rcases hf with ⟨j,hf,rfl⟩|⟨hf,rfl,rfl⟩
  ·simp [Instr.lookup,run_underlying ht,MapKept.run_getObj_map hb,MapKept.run_checkKey hk (show MapKept.IsKey (.int .i64) (.int .i64 n) from rfl),MapKept.run_findKey hk hf,Result.andThen]
  ·simp [Instr.lookup,run_underlying ht,MapKept.run_getObj_map hb,MapKept.run_checkKey hk (show MapKept.IsKey (.int .i64) (.int .i64 n) from rfl),MapKept.run_findKey hk hf,hzr,Result.andThen]
 refine dJ h (R:=fun v w'=>v=.tuple #[V,.bool ok]∧w'=w) ?_ hd fun a' w' v ⟨hv,hw⟩ h'=>by subst hv;subst hw;exact k _ h'
 simp [c7,execOp,h.ev hx,h.ev hy,hrun,Result.andThen]
end
theorem n8 {P:Program} {e:TypeId} {sz by_:Nat} (h:((P.info? e).bind fun i=>i.zero.map fun z=>(i.size,i.bytes,z.cells.size))=some (sz,by_,sz)) (h0:0<sz):Elm P e sz by_:=by
 cases hi:P.info? e with
 |none=>rw [hi] at h;simp at h
 |some i=>
  rw [hi] at h
  cases hz:i.zero with
  |none=>simp [hz] at h
  |some z=>
   simp only [Option.bind_some,hz,Option.map_some,Option.some.injEq,Prod.mk.injEq] at h
   exact ⟨⟨i,z,hi,hz,h.1,h.2.1,h.2.2⟩,h0⟩
section
variable {P:Program} {ρ:Operand→Value} {d:Option Tmp} {ty:TypeId} {pos:String} {af:Array Edge} {g:Option (Nat × Bool)} {x y:Operand} {t t' e:TypeId}
theorem vi {w:World} (ht:P.underlying t=some (.pointer e)) (q:Option Addr) (n:Nat):(Op.equalIn (n+1) t (.pointer q) (.pointer none)).run P w=.ok q.isNone w:=by
 cases q<;>simp [Op.equalIn,run_underlying ht]
theorem mP {w:World} (ht:P.underlying t=some (.pointer e)) (q:Option Addr):(Op.equal t (.pointer q) (.pointer none)).run P w=.ok q.isNone w:=vi ht q 9999
theorem fR {q:Option Addr} (ht:P.underlying t=some (.pointer e)) (hx:ρ x=.pointer q) (hy:ρ y=.pointer none):ca P ⟨d,.binOp .eql t x y t',ty,pos,af,g⟩ ρ (.bool q.isNone):=fun w=>by
 simp [execOp,hx,hy,eqGuard,binOp,mP ht,Result.andThen]
theorem iI {q:Option Addr} (ht:P.underlying t=some (.pointer e)) (hx:ρ x=.pointer q) (hy:ρ y=.pointer none):ca P ⟨d,.binOp .neq t x y t',ty,pos,af,g⟩ ρ (.bool !q.isNone):=fun w=>by
 simp [execOp,hx,hy,eqGuard,binOp,mP ht,Result.andThen]
end
def yP (ks:List Int):Array MapEntry:=(ks.zipIdx.map fun p=>{key:=Value.int .i64 p.1,val:=Value.agg #[],born:=p.2}).toArray
theorem uS (ks:List Int) (n:Int):(yP ks).push {key:=.int .i64 n,val:=.agg #[],born:=ks.length}=yP (ks++[n]):=by
 unfold yP
 rw [List.zipIdx_append,List.map_append,List.push_toArray]
 simp
theorem o5 {ks:List Int} {n:Int} (h:n ∉ ks):Instr.findNow (.int .i64) (.int .i64 n) (yP ks).toList 0=some none:=by
 refine sd n _ 0 fun e he=>?_
 obtain ⟨p,hp,rfl⟩:=List.mem_map.1 he
 refine ⟨p.1,fun e9=>h ?_,rfl⟩
 rw [← e9]
 exact List.fst_mem_of_mem_zipIdx hp
theorem m6 (n:Int):∀ (es:List MapEntry) (i:Nat),(∀ e∈es,∃ m:Int,e.key=.int .i64 m∧e.val=.agg #[])→(∃ e∈es,e.key=.int .i64 n)→∃ j,Instr.findNow (.int .i64) (.int .i64 n) es i=some (some (j,.agg #[]))
 |[],_,_,h=>by obtain ⟨e,he,_⟩:=h;cases he
 |e::es,i,h,hx=>by
  obtain ⟨m,he,hv⟩:=h e List.mem_cons_self
  unfold Instr.findNow
  rw [he]
  have hs:Instr.sameNow (.int .i64) (.int .i64 n) (.int .i64 m)=some (n == m):=by simp [Instr.sameNow]
  rw [hs]
  by_cases hm:n=m
  ·subst hm;simp only [BEq.rfl];exact ⟨i,by rw [hv]⟩
  ·rw [beq_eq_false_iff_ne.2 hm]
   refine m6 n es (i+1) (fun e9 h9=>h e9 (List.mem_cons_of_mem _ h9)) ?_
   obtain ⟨e9,h9,h8⟩:=hx
   rcases List.mem_cons.1 h9 with rfl|h9
   ·rw [he] at h8;simp only [Value.int.injEq,true_and] at h8;exact absurd h8.symm hm
   ·exact ⟨e9,h9,h8⟩
theorem uY {ks:List Int} {n:Int} (h:n∈ks):∃ j,Instr.findNow (.int .i64) (.int .i64 n) (yP ks).toList 0=some (some (j,.agg #[])):=by
 refine m6 n _ 0 (fun e he=>?_) ?_
 ·obtain ⟨p,hp,rfl⟩:=List.mem_map.1 he
  exact ⟨p.1,rfl,rfl⟩
 ·obtain ⟨i,hi,e⟩:=List.getElem_of_mem h
  refine ⟨{key:=Value.int .i64 n,val:=Value.agg #[],born:=i},List.mem_map.2 ⟨(n,i),?_,rfl⟩,rfl⟩
  rw [List.mem_zipIdx_iff_getElem?]
  simp [e,hi]
theorem yE (ks:List Int) (n:Int):(∃ j,Instr.findNow (.int .i64) (.int .i64 n) (yP ks).toList 0=some (some (j,.agg #[]))∧decide (n∈ks)=true)∨(Instr.findNow (.int .i64) (.int .i64 n) (yP ks).toList 0=some none∧Value.agg #[]=Value.agg #[]∧decide (n∈ks)=false):=by
 by_cases h:n∈ks
 ·obtain ⟨j,hj⟩:=uY h;exact .inl ⟨j,hj,decide_eq_true h⟩
 ·exact .inr ⟨o5 h,rfl,decide_eq_false h⟩
end Go.Proofs.YthggibfkgofncaaGreat
namespace Go.Proofs.YthggibfkgofncaaGreat
open Go.RowKit
def dx (L:List N3) (no:Int):Nat:=L.findIdx fun x=>decide (x.1.me.1=no)
def qt (vo:Value) (L:List N3) (no:Int):Value:=bif decide (dx L no<L.length) then .pointer (some (a2 vo (dx L no*68))) else .pointer none
theorem B5 {L:List N3} {no:Int} {k:Nat} (hk:k<L.length) (h:∀ j,j<k→decide ((L.getD j z3).1.me.1=no)=false) (he:decide ((L.getD k z3).1.me.1=no)=true):dx L no=k:=by
 unfold dx
 rw [List.findIdx_eq hk]
 refine ⟨by rw [lB hk];exact he,fun j hj=>?_⟩
 rw [lB (by omega)];exact h j hj
theorem zg {L:List N3} {no:Int} {k:Nat} (hk:L.length≤k) (h:∀ j,j<k→decide ((L.getD j z3).1.me.1=no)=false):dx L no=L.length:=by
 unfold dx
 rw [List.findIdx_eq_length]
 intro x hx
 obtain ⟨j,hj,rfl⟩:=mO hx
 exact h j (by omega)
theorem Ad {L:List N3} {no:Int} (h:dx L no<L.length):(∀ j,j<dx L no→decide ((L.getD j z3).1.me.1=no)=false)∧decide ((L.getD (dx L no) z3).1.me.1=no)=true:=by
 refine ⟨fun j hj=>?_,?_⟩
 ·have:=List.not_of_lt_findIdx (p:=fun x:N3=>decide (x.1.me.1=no)) (xs:=L) hj
  rw [lB (by omega)] at this
  simpa using this
 ·have:=List.findIdx_getElem (p:=fun x:N3=>decide (x.1.me.1=no)) (xs:=L) (w:=h)
  rw [← lB h]
  exact this
theorem qr {L:List N3} {no:Int} (h:dx L no<L.length):L.getD (dx L no) z3=cb L no∧(cb L no).1.me.1=no:=by
 obtain ⟨h1,h2⟩:=Ad h
 have e:=uG h h1 h2
 exact ⟨e.symm,by rw [e];exact of_decide_eq_true h2⟩
theorem oP {vo:Value} {L:List N3} {no:Int} (h:dx L no<L.length):qt vo L no=.pointer (some (a2 vo (dx L no*68))):=by unfold qt;rw [decide_eq_true h];rfl
theorem sm {vo:Value} {L:List N3} {no:Int} (h:¬ dx L no<L.length):qt vo L no=.pointer none:=by unfold qt;rw [decide_eq_false h];rfl
theorem uI {L:List N3} {no:Int} (h:∃ x∈L,x.1.me.1=no):dx L no<L.length:=by
 obtain ⟨x,hx,e⟩:=h
 exact List.findIdx_lt_length_of_exists ⟨x,hx,decide_eq_true e⟩
theorem fD {L:List N3} {no:Int} (hn:∀ m∈aR L,0≤m.1):decide (dx L no<L.length)=cx (aR L) no:=by
 rw [Bool.eq_iff_iff,decide_eq_true_iff,kg hn]
 constructor
 ·intro h
  obtain ⟨e1,e2⟩:=qr h
  exact ⟨(cb L no).1.me,List.mem_map.2 ⟨cb L no,by rw [← e1];exact bu h,rfl⟩,e2⟩
 ·rintro ⟨m,hm,e⟩
  obtain ⟨x,hx,rfl⟩:=List.mem_map.1 hm
  exact uI ⟨x,hx,e⟩
def Cj (vo:Value) (q:Nat→Bool):Nat→Value|0=>.pointer none|d+1=>bif q d then .pointer (some (a2 vo (d*68))) else .pointer none
theorem xU {vo:Value} {q:Nat→Bool} {d:Nat} (h:∀ j,j<d→q j=false):Cj vo q d=.pointer none:=by
 cases d with
 |zero=>rfl
 |succ d=>show (bif q d then _ else _)=_;rw [h d (Nat.lt_succ_self d)];rfl
def qL (L:List N3) (no:Int) (j:Nat):Bool:=decide ((L.getD j z3).1.me.1=no)
theorem CI {vo:Value} {L:List N3} {no:Int} {d:Nat} (hd:d<L.length) (h:∀ j,j<d→qL L no j=false) (he:qL L no d=true):Cj vo (qL L no) (d+1)=qt vo L no:=by
 show (bif qL L no d then _ else _)=_
 have e:=B5 hd h he
 rw [he,oP (by rw [e];exact hd),e];rfl
theorem Cb {vo:Value} {L:List N3} {no:Int} (h:∀ j,j<L.length→qL L no j=false):qt vo L no=.pointer none:=sm (by rw [zg (Nat.le_refl _) h];omega)
def jy (l:List Mb) (k:Nat):Bool:=decide ((l.getD k aZ).1<(l.getD (k - 1) aZ).1)
def lU (l:List Mb):Bool:=(List.range l.length).all fun k => !(decide (0<k) && jy l k)
theorem po {l:List Mb} {k:Nat} (hk:k<l.length) (h0:0<k) (h:jy l k=true):lU l=false:=by
 unfold lU
 rw [← Bool.not_eq_true,List.all_eq_true]
 intro h9
 have:=h9 k (List.mem_range.2 hk)
 rw [h,decide_eq_true h0] at this;cases this
theorem mq {l:List Mb} (h:∀ j,0<j→j<l.length→jy l j=false):lU l=true:=by
 unfold lU
 rw [List.all_eq_true]
 intro j hj
 by_cases h0:0<j
 ·rw [h j h0 (List.mem_range.1 hj)];simp
 ·rw [decide_eq_false h0];rfl
theorem yX {l:List Mb}:lU l=true↔∀ j,0<j→j<l.length→jy l j=false:=by
 refine ⟨fun h j h0 hj=>?_,mq⟩
 cases hq:jy l j with
 |false=>rfl
 |true=>rw [po hj h0 hq] at h;cases h
theorem vH {l:List Mb} {k:Nat} (h:∀ j,k≤j→0<j→j<l.length→jy l j=false) (hk:0<k) (hq:jy l (k - 1)=false):∀ j,k - 1≤j→0<j→j<l.length→jy l j=false:=fun j h1 h2 h3=>by
 by_cases e:j=k - 1
 ·subst e;exact hq
 ·exact h j (by omega) h2 h3
theorem jo (x y:Int):d4 x y<0↔x<y:=by unfold d4;split<;>(try split)<;>omega
theorem fX {L:List N3} {k:Nat} (hk:k<L.length):(aR L).getD k aZ=(L.getD k z3).1.me:=by
 rw [← mG (by rw [List.length_map];exact hk),← lB hk];exact List.getElem_map _
theorem AG {L:List N3} {no:Int} (h:dx L no<L.length):ej (aR L) no=some (L.getD (dx L no) z3).1.me:=by
 obtain ⟨h1,h2⟩:=Ad h
 have e:=lw (l:=aR L) (no:=no) (k:=dx L no) (by rw [List.length_map];exact h) (fun j hj=>by rw [fX (by omega)];exact h1 j hj) (by rw [fX h];exact h2)
 rw [e,fX h]
theorem yh {L:List N3} {no:Int} (h:¬ dx L no<L.length):ej (aR L) no=none:=by
 refine lg (k:=L.length) (by rw [List.length_map];exact Nat.le_refl _) fun j hj=>?_
 rw [fX hj]
 refine decide_eq_false fun e=>h (uI ⟨_,bu hj,e⟩)
def jn (L:List N3) (m:Mb):Bool:=decide (dx L m.1<L.length) && !decide ((L.getD (dx L m.1) z3).1.me=m)
theorem wc {L:List N3} (hr:Rg (aR L)) (m:Mb):jn L m=iX (aR L) m:=by
 unfold jn iX ft
 by_cases h:dx L m.1<L.length
 ·rw [AG h,decide_eq_true h]
  have h0:=(hr.nos _ (List.mem_map.2 ⟨_,bu h,rfl⟩)).1
  rw [Option.getD_some,decide_eq_true h0]
 ·rw [yh h,decide_eq_false h]
  rfl
theorem Dv {L:List N3} {m:Mb} (h:decide (dx L m.1<L.length)=false):jn L m=false:=by unfold jn;rw [h];rfl
theorem C4 {L:List N3} {m:Mb} (h:decide (dx L m.1<L.length)=true):jn L m = !decide ((L.getD (dx L m.1) z3).1.me=m):=by unfold jn;rw [h];rfl
def Dn (n:Nd) (L:List N3) (j:Nat):Bool:=jn L ((aJ n).getD j aZ)
theorem x8 {n:Nd} {L:List N3} {d:Nat} (hd:d<(aJ n).length) (h:Dn n L d=true):(aJ n).any (jn L)=true:=List.any_eq_true.2 ⟨_,eG hd,h⟩
theorem y4 {n:Nd} {L:List N3} (h:∀ j,j<(aJ n).length→Dn n L j=false):(aJ n).any (jn L)=false:=by
 rw [List.any_eq_false]
 intro x hx
 obtain ⟨j,hj,rfl⟩:=j3 hx
 rw [show jn L ((aJ n).getD j aZ)=false from h j hj];decide
def xf (L:List N3) (k:Nat):Bool := !cr (L.getD k z3).1 || (aJ (L.getD k z3).1).any (jn L)
theorem Bb {L:List N3} (h:dd (aR L)=false):hQ L=false:=by unfold hQ;rw [h,Bool.and_false]
theorem By {L:List N3} (h:lU (aR L)=false):hQ L=false:=by
 have:¬ ∀ j,0<j→j<(aR L).length→jy (aR L) j=false:=fun h9=>by rw [mq h9] at h;cases h
 rw [Classical.not_forall] at this
 obtain ⟨k,hk⟩:=this
 rw [Classical.not_imp,Classical.not_imp] at hk
 obtain ⟨h0,h1,h2⟩:=hk
 rw [List.length_map] at h1
 refine jG h1 (Dd (decide_eq_true h0) ?_)
 have h3:jy (aR L) k=true:=by cases hq:jy (aR L) k with|true=>rfl|false=>exact absurd hq h2
 unfold jy at h3
 rw [fX h1,fX (by omega)] at h3
 have:=of_decide_eq_true h3
 exact decide_eq_true (by omega)
theorem xd {L:List N3} (h0:dd (aR L)=true) (h1:lU (aR L)=true):hQ L=(List.range L.length).all fun k => !xf L k:=by
 have hg:=(kv _).1 h0
 have key:∀ k,k<L.length→gc L k=xf L k:=fun k hk=>by
  have e1:(decide (0<k) && decide ((L.getD k z3).1.me.1≤(L.getD (k - 1) z3).1.me.1))=false:=by
   by_cases hk0:0<k
   ·have h2:=yX.1 h1 k hk0 (by rw [List.length_map];exact hk)
    unfold jy at h2
    rw [fX hk,fX (by omega)] at h2
    have h3:=of_decide_eq_false h2
    have h4:=(List.pairwise_iff_getElem.1 hg.nd (k - 1) k (by rw [List.length_map];omega) (by rw [List.length_map];exact hk) (by omega)).1
    rw [mG,mG,fX hk,fX (by omega)] at h4
    rw [decide_eq_true hk0,decide_eq_false (by omega)];rfl
   ·rw [decide_eq_false hk0];rfl
  have e2:(aJ (L.getD k z3).1).any (iX (aR L))=(aJ (L.getD k z3).1).any (jn L):=by
   congr 1;funext m;exact(wc hg m).symm
  unfold gc xf
  rw [e1,e2,Bool.false_or]
 unfold hQ
 rw [h0,Bool.and_true,Bool.eq_iff_iff,List.all_eq_true,List.all_eq_true]
 exact ⟨fun h k hk=>by rw [← key k (List.mem_range.1 hk)];exact h k hk,fun h k hk=>by rw [key k (List.mem_range.1 hk)];exact h k hk⟩
theorem y6 {L:List N3} {d:Nat} (h0:dd (aR L)=true) (h1:lU (aR L)=true) (hd:d<L.length) (h:xf L d=true):hQ L=false:=by
 rw [xd h0 h1,← Bool.not_eq_true,List.all_eq_true]
 intro h9
 have:=h9 d (List.mem_range.2 hd)
 rw [h] at this;cases this
theorem xE {L:List N3} (h0:dd (aR L)=true) (h1:lU (aR L)=true) (h:∀ j,j<L.length→xf L j=false):hQ L=true:=by
 rw [xd h0 h1,List.all_eq_true]
 intro k hk
 rw [h k (List.mem_range.1 hk)];rfl
theorem D0 {L:List N3} {k:Nat} (h:cr (L.getD k z3).1=false):xf L k=true:=by unfold xf;rw [h];rfl
theorem Ct {L:List N3} {k:Nat} (h:cr (L.getD k z3).1=true):xf L k=(aJ (L.getD k z3).1).any (jn L):=by unfold xf;rw [h];rfl
theorem jh (a b c:List Mb):[a,b,c].flatten=a++(b++c):=by simp
theorem xn {w:World} {u v x:Value} {a b c:List Mb} (h1:bX w u 33 a.length (ar a)) (h2:bX w v 33 b.length (ar b)) (h3:bX w x 33 c.length (ar c)):∀ k,k<[u,v,x].length→bX w ([u,v,x].getD k undef) 33 ([a,b,c].getD k []).length (ar ([a,b,c].getD k [])):=fun k hk=>by
 match k,hk with
 |0,_=>exact h1
 |1,_=>exact h2
 |2,_=>exact h3
def j1 (l:List Mb) (m:Mb):Mb:=bif decide (l.length=1) then dB else qy l m
def oL (l:List Mb) (m:Mb):List Mb:=bif decide (l.length=1) then [m] else iZ l m (min (l.length - 1) 4)
theorem wi {l:List Mb} {m:Mb} (h:l.length=1):j1 l m=dB∧oL l m=[m]:=by unfold j1 oL;rw [decide_eq_true h];exact ⟨rfl,rfl⟩
theorem w7 {l:List Mb} {m:Mb} (h:¬ l.length=1):j1 l m=qy l m∧oL l m=iZ l m (min (l.length - 1) 4):=by unfold j1 oL;rw [decide_eq_false h];exact ⟨rfl,rfl⟩
theorem zi (l:List Mb) (m:Mb):(oL l m).length≤4:=by
 by_cases h:l.length=1
 ·rw [(wi h).2];simp
 ·rw [(w7 h).2,lC];omega
def DC (w:World) (M:TypeId) (l:List Mb) (m:Mb):cX:=fun v w9=>∃ v8,v=.tuple #[.agg (av (j1 l m)),v8]∧cS w9 w.heap.size M 33 v8 (oL l m).length (ar (oL l m))
theorem ya {w w':World} {M:TypeId} {l:List Mb} {m:Mb} {v8:Value} (h:l.length=1) (hO:cS w' w.heap.size M 33 v8 [m].length (ar [m])):DC w M l m (.tuple #[.agg (av dB),v8]) w':=
 ⟨v8,by rw [(wi h).1],by rw [(wi h).2];exact hO⟩
theorem yR {w w':World} {M:TypeId} {l:List Mb} {m:Mb} {v8:Value} (h:¬ l.length=1) (hO:cS w' w.heap.size M 33 v8 (iZ l m (min (l.length - 1) 4)).length (ar (iZ l m (min (l.length - 1) 4)))):DC w M l m (.tuple #[.agg (av (qy l m)),v8]) w':=
 ⟨v8,by rw [(w7 h).1],by rw [(w7 h).2];exact hO⟩
def fL (v:Value):Value:=match v with|.tuple a=>a.getD 1 undef|_=>undef
def tY (L:List N3) (k:Nat):Bool := !decide ((L.getD k z3).1.pr=j1 (aR L) (L.getD k z3).1.me) || !decide ((L.getD k z3).1.sc=oL (aR L) (L.getD k z3).1.me)
theorem Dj {L:List N3} {k:Nat} (h:decide ((L.getD k z3).1.pr=j1 (aR L) (L.getD k z3).1.me)=false):tY L k=true:=by unfold tY;rw [h];rfl
theorem Af {L:List N3} {k:Nat} (h:decide ((L.getD k z3).1.pr=j1 (aR L) (L.getD k z3).1.me)=true):tY L k = !decide ((L.getD k z3).1.sc=oL (aR L) (L.getD k z3).1.me):=by unfold tY;rw [h];rfl
theorem vz {L:List N3} {k:Nat} (h:L.length=1):tY L k = !yG (L.getD k z3).1:=by
 have hm:(aR L).length=1:=by rw [List.length_map];exact h
 unfold tY yG
 rw [(wi hm).1,(wi hm).2,Bool.not_and]
 congr 2
 rw [Bool.eq_iff_iff]
 simp only [decide_eq_true_eq,Bool.and_eq_true]
 constructor
 ·intro e;rw [e];exact ⟨rfl,rfl⟩
 ·rintro ⟨h1,h2⟩
  match hs:(L.getD k z3).1.sc,h1 with
  |[x],_=>rw [hs] at h2;rw [show x=_ from h2]
theorem rG {L:List N3} {k:Nat} (h:¬ L.length=1):tY L k = !qx L k:=by
 have hm:¬ (aR L).length=1:=by rw [List.length_map];exact h
 unfold tY qx
 rw [(w7 hm).1,(w7 hm).2,Bool.not_and,List.length_map]
theorem zb {L:List N3} {d:Nat} (h:hQ L=true) (hd:d<L.length) (hq:tY L d=true):gR L=false:=by
 by_cases h1:L.length=1
 ·rw [uD h hd h1];rw [vz h1] at hq;simpa using hq
 ·refine yC h1 hd ?_;rw [rG h1] at hq;simpa using hq
theorem yH {L:List N3} (h:hQ L=true) (hq:∀ j,j<L.length→tY L j=false):gR L=true:=by
 by_cases h1:L.length=1
 ·have h2:=hq 0 (by omega)
  rw [uD h (k:=0) (by omega) h1];rw [vz h1] at h2;simpa using h2
 ·refine xI h h1 (Nat.le_refl _) fun j hj=>?_
  have h2:=hq j hj
  rw [rG h1] at h2;simpa using h2
theorem xr (L:List N3) (j i:Nat) (hj:j<L.length) (hi:i<68):(aG L)[j*68+i]? = (ll (L.getD j z3))[i]? := by
 have h1:=congrArg (fun a:Array Value=>a[i]?) (df L j hj)
 simp only [List.getElem?_toArray] at h1
 rw [List.getElem?_take_of_lt hi,List.getElem?_drop] at h1
 rw [h1];simp [ay,ll]
theorem qv (L:List N3) (j:Nat) (hj:j<L.length):(aG L)[j*68+66]? = some (L.getD j z3).2.1:=by rw [xr L j 66 hj (by decide)];exact nQ _ _ _ _ 0
theorem AI (L:List N3) (j:Nat) (hj:j<L.length):(aG L)[j*68+67]? = some (L.getD j z3).2.2:=by rw [xr L j 67 hj (by decide)];exact nQ _ _ _ _ 1
end Go.Proofs.YthggibfkgofncaaGreat
namespace Go.Proofs.YthggibfkgofncaaGreat
open Go.RowKit
theorem en {K:List N3} {j:Nat} (hj:j<K.length) (x:N3):(K.set j x).getD j z3=x:=by
 rw [← lB (by rw [List.length_set];exact hj)];exact List.getElem_set_self _
theorem B7 {K:List N3} {i j:Nat} (h:i≠j) (x:N3):(K.set j x).getD i z3=K.getD i z3:=by
 rw [List.getD_eq_getElem?_getD,List.getD_eq_getElem?_getD,List.getElem?_set_ne (fun e=>h e.symm)]
theorem tt {K:List N3} {j:Nat} (hj:j<K.length) (x:N3):(K.set j x).take (j+1)=K.take j++[x]:=by
 rw [fw (by rw [List.length_set];exact hj),en hj,List.take_set_of_le (Nat.le_refl _)]
theorem pI {K:List N3} {j:Nat} (hj:j<K.length):aG K=aG (K.take j)++(ll (K.getD j z3)++aG (K.drop (j+1))):=by
 conv=>lhs;rw [← List.take_append_drop j K,List.drop_eq_getElem_cons hj,lB hj]
 rw [fO];rfl
theorem nY {K:List N3} {j:Nat} (hj:j<K.length) (x:N3):aG (K.set j x)=aG (K.take j)++(ll x++aG (K.drop (j+1))):=by
 rw [List.set_eq_take_append_cons_drop,if_pos hj,fO];rfl
theorem nN {K:List N3} {j:Nat} (hj:j<K.length):(aG (K.take j)).length=j*68:=by rw [fP,List.length_take,Nat.min_eq_left (by omega)]
theorem sv {K:List N3} {j off:Nat} (hj:j<K.length) (D:List Value) (h:off+D.length≤68):
 (aG K).take (j*68+off)++D++(aG K).drop (j*68+off+D.length)=aG (K.take j)++((ll (K.getD j z3)).take off++D++(ll (K.getD j z3)).drop (off+D.length)++aG (K.drop (j+1))):=by
 rw [pI hj]
 obtain ⟨a,ha⟩:∃ a,a=aG (K.take j):=⟨_,rfl⟩
 obtain ⟨c,hc⟩:∃ c,c=aG (K.drop (j+1)):=⟨_,rfl⟩
 have hl:a.length=j*68:=by rw [ha];exact nN hj
 have hn:(ll (K.getD j z3)).length=68:=fW _
 rw [← ha,← hc]
 rw [show j*68+off=a.length+off by omega,List.take_length_add_append,List.take_append_of_le_length (by omega),show a.length+off+D.length=a.length+(off+D.length) by omega,List.drop_length_add_append,List.drop_append_of_le_length (by omega)]
 simp only [List.append_assoc]
theorem qq {K:List N3} {j:Nat} (hj:j<K.length) (x:N3):(aG K).take (j*68)++(ay x.1.me x.1.pr x.2.1 x.2.2).toList++(aG K).drop (j*68+68)=aG (K.set j x):=by
 have hl:(ay x.1.me x.1.pr x.2.1 x.2.2).toList.length=68:=by rw [Array.length_toList];exact ap _ _ _ _
 have h:=sv hj (off:=0) (ay x.1.me x.1.pr x.2.1 x.2.2).toList (by omega)
 rw [hl] at h
 rw [show j*68+0=j*68 from rfl] at h
 rw [h,nY hj]
 have hn:(ll (K.getD j z3)).length=68:=fW _
 rw [List.take_zero,List.nil_append,List.drop_of_length_le (by omega),List.append_nil]
 rfl
theorem BS (m p:Mb) (u v V:Value):(iW m p u v).set 66 V=iW m p V v:=by
 have:=congrArg Array.toList (fo m p u v V)
 rwa [Array.toList_setIfInBounds] at this
theorem Cc (m p:Mb) (u v V:Value):(iW m p u v).set 67 V=iW m p u V:=by
 have:=congrArg Array.toList (il m p u v V)
 rwa [Array.toList_setIfInBounds] at this
theorem re {K:List N3} {j off:Nat} (hj:j<K.length) (ho:off<68) {V:Value} {x:N3} (h:(ll (K.getD j z3)).set off V=ll x):(aG K).set (j*68+off) V=aG (K.set j x):=by
 rw [nY hj,← h,pI hj,List.set_append_right _ _ (by rw [nN hj];omega),nN hj,Nat.add_sub_cancel_left,List.set_append_left _ _ (by rw [fW];exact ho)]
theorem pW {K:List N3} {j:Nat} (hj:j<K.length) (V:Value) (l:List Mb):(aG K).set (j*68+66) V=aG (K.set j (⟨(K.getD j z3).1.me,(K.getD j z3).1.pr,l,(K.getD j z3).1.fg⟩,V,(K.getD j z3).2.2)):=re hj (by decide) (BS _ _ _ _ _)
theorem vQ {K:List N3} {j:Nat} (hj:j<K.length) (V:Value) (l:List Mb):(aG K).set (j*68+67) V=aG (K.set j (⟨(K.getD j z3).1.me,(K.getD j z3).1.pr,(K.getD j z3).1.sc,l⟩,(K.getD j z3).2.1,V)):=re hj (by decide) (Cc _ _ _ _ _)
theorem x4 {K:List N3} {j:Nat} (hj:j<K.length) (q:Mb):(aG K).take (j*68+33)++(av q).toList++(aG K).drop (j*68+33+33)=aG (K.set j (⟨(K.getD j z3).1.me,q,(K.getD j z3).1.sc,(K.getD j z3).1.fg⟩,(K.getD j z3).2.1,(K.getD j z3).2.2)):=by
 have hl:(av q).toList.length=33:=by rw [Array.length_toList];exact aj q
 have h:=sv hj (off:=33) (av q).toList (by omega)
 rw [hl] at h
 rw [h,nY hj]
 have h2:=congrArg Array.toList (ff (K.getD j z3).1.me (K.getD j z3).1.pr q (K.getD j z3).2.1 (K.getD j z3).2.2)
 rw [aj] at h2
 exact congrArg (fun z=>aG (K.take j)++(z++aG (K.drop (j+1)))) h2
theorem oD {L:List N3} {w:World} (h:∀ x∈L,f4 w x):∀ u∈aG L,u.oneCell'=true:=fun u hu=>by
 unfold aG at hu
 obtain ⟨x,hx,hu⟩:=List.mem_flatMap.1 hu
 exact a7 (h x hx).ones.1 (h x hx).ones.2 u hu
theorem qd {w:World} {a:Option Addr} {n c:Nat} {L:List N3} (ha:a.isNone=true) (h:bX w (.slice a n c) 68 L.length (aG L)):L=[]:=by
 cases a with
 |some p=>cases ha
 |none=>
  rcases h.2 with ⟨_,h2⟩|⟨p,cap,h1,_⟩
  ·exact List.eq_nil_of_length_eq_zero h2
  ·cases h1
def Ek (w:World) (N:TypeId) (E:List Nd):cX:=fun v w9=>∃ vq K ks,v=.agg #[vq]∧nds K=E∧St w [.sl vq N 68 K.length (aG K),.grp ks (c6 K)] w9
theorem St.bring {w0 w:World} {B:List Own} {p:Own} (s:St w0 B w) (i:Nat) (hi:B[i]? = some p):St w0 (p::B.eraseIdx i) w:=s.perm (jA hi)
theorem yp {K:List N3} {E:List Nd} {j:Nat} {x:N3} (h:nds K=E) (hx:x.1=(K.getD j z3).1) (hj:j<K.length):nds (K.set j x)=E:=by
 subst h
 apply List.ext_getElem?
 intro i
 unfold nds
 rw [List.getElem?_map,List.getElem?_map,List.getElem?_set]
 by_cases e:j=i
 ·subst e;rw [if_pos rfl,if_pos hj,List.getElem?_eq_getElem hj,lB hj,Option.map_some,Option.map_some,hx]
 ·rw [if_neg e]
theorem yc {K:List N3} {j:Nat} {x:N3} (hj:j<K.length) {w9:World} (h:c6 (K.take j) w9) (hx:f4 w9 x):c6 ((K.set j x).take (j+1)) w9:=fun y hy=>by
 rw [tt hj] at hy
 rcases List.mem_append.1 hy with hy|hy
 ·exact h y hy
 ·rw [List.mem_singleton] at hy;subst hy;exact hx
theorem jF (K:List N3) (j:Nat) (x y:N3):(K.set j x).set j y=K.set j y:=List.set_set _
theorem qV {q:Nat→Bool} {d:Nat} (h:∀ j,j<d→q j=false):lq q d=false:=by
 cases d with
 |zero=>rfl
 |succ d=>exact h d (Nat.lt_succ_self d)
end Go.Proofs.YthggibfkgofncaaGreat
namespace Go.Proofs.YthggibfkgofncaaGreat
open Go.RowKit Go.Sort
def k7:Type:={x:N3 // x.2.1.oneCell'=true∧x.2.2.oneCell'=true}
instance:Inhabited k7:=⟨⟨z3,rfl,rfl⟩⟩
def mf (x:k7):List Value:=ll x.1
def fy (l:List k7):List Value:=l.flatMap mf
theorem lj (x:k7):(mf x).length=68:=fW _
theorem vN (x:k7):∀ v∈mf x,v.oneCell'=true:=a7 x.2.1 x.2.2
theorem kP (l:List k7):(fy l).length=l.length*68:=eQ _ 68 lj l
theorem lK (l:List k7):fy l=aG (l.map (·.1)):=by unfold fy aG;rw [List.flatMap_map];rfl
theorem kU (d:Array k7):(flatK mf 68 d).toList=fy d.toList:=by
 apply List.ext_getElem?
 intro t
 by_cases ht:t<d.size*68
 ·have hj:t / 68<d.size:=by omega
  have hr:t % 68<68:=Nat.mod_lt _ (by decide)
  have h1:(fy d.toList)[t]? = (mf d[t / 68])[t % 68]? := by
   have h2:t=t / 68*68+t % 68:=by omega
   conv=>lhs;rw [h2]
   rw [← List.getElem?_drop,← List.getElem?_take_of_lt hr]
   unfold fy
   rw [ip _ 68 lj d.toList (t / 68) (by simpa using hj)]
   simp
  rw [h1]
  have h3:=get_flatK mf 68 d t ht
  have h4:t<(flatK mf 68 d).size:=by rw [size_flatK];exact ht
  rw [getElem!_pos _ t h4,getElem!_pos d _ hj] at h3
  rw [Array.getElem?_toList,Array.getElem?_eq_getElem h4,h3]
  have h5:t % 68<(mf d[t / 68]).length:=by rw [lj];exact hr
  rw [getElem!_pos (mf d[t / 68]) (t % 68) h5,List.getElem?_eq_getElem h5]
 ·rw [List.getElem?_eq_none (by rw [Array.length_toList,size_flatK];omega),List.getElem?_eq_none (by rw [kP,Array.length_toList];omega)]
theorem iF (w:World) (g m:Nat) (d:Array k7) (os:Array Obj):(sortWorldK mf 68 w g 0 m d os).heap=w.heap.modify g (onCells (putCells id 0 (flatK mf 68 d)))++os:=rfl
theorem nV (w:World) (g m:Nat) (d:Array k7) (os:Array Obj) {k:Nat} (hk:k<w.heap.size) (hne:k≠g):(sortWorldK mf 68 w g 0 m d os).heap[k]? = w.heap[k]? := by
 rw [iF,Array.getElem?_append_left (by rw [Array.size_modify];exact hk),Array.getElem?_modify,if_neg (fun e=>hne e.symm)]
theorem qk (w:World) (g m:Nat) (d:Array k7) (os:Array Obj) {cur:Array Value} {e:TypeId} {fz:Nat × Nat} (hg:w.heap[g]? = some (.cells cur e fz)):(sortWorldK mf 68 w g 0 m d os).heap[g]? = some (.cells (putCells id 0 (flatK mf 68 d) cur) e fz):=by
 have hk:g<w.heap.size:=(Array.getElem?_eq_some_iff.1 hg).1
 rw [iF,Array.getElem?_append_left (by rw [Array.size_modify];exact hk),Array.getElem?_modify,if_pos rfl,hg]
 rfl
theorem xt {w0 w:World} {B:List Own} {v:Value} {e:TypeId} {n:Nat} {l:List k7} (s:St w0 (.sl v e 68 n (fy l)::B) w) (hl:l.length=n) (hn:1≤n):
 ∃ g cap,v=.slice (some ⟨g,0,none⟩) n cap∧g<w.heap.size∧w0.heap.size≤g∧HoldsK mf 68 w g 0 l.toArray∧
  ∀ (m:Nat) (os:Array Obj) (d:Array k7),d.size=n→St w0 (.sl v e 68 n (fy d.toList)::B) (sortWorldK mf 68 w g 0 m d os):=by
 obtain ⟨g,cap,cur,fz,rfl,hfz,hnc,hcm,hcs,htk,s⟩:=s.open_sl hn
 have hg:=s.get 0 rfl
 have hlt:g<w.heap.size:=(Array.getElem?_eq_some_iff.1 hg).1
 have hroom:n*68≤cur.size:=by rw [hcs];exact Nat.mul_le_mul_right _ hnc
 refine ⟨g,cap,rfl,hlt,s.own _ List.mem_cons_self g (Own.at_blk.2 rfl),fun j hj=>?_,fun m os d hd=>?_⟩
 ·have hjs:j<n*68:=by rw [size_flatK] at hj;simpa [hl] using hj
  constructor
  ·rw [Nat.zero_add,cell_of_row w g j cur e fz hg]
   have h1:(flatK mf 68 l.toArray).toList=cur.toList.take (n*68):=by rw [kU,htk]
   have h2:(flatK mf 68 l.toArray).toList[j]? = cur.toList[j]? := by rw [h1,List.getElem?_take_of_lt hjs]
   rw [Array.getElem?_toList,Array.getElem?_toList,Array.getElem?_eq_getElem hj] at h2
   rw [getElem!_pos _ j hj]
   exact h2.symm
  ·simp only [World.frozen?,hg,Nat.zero_add]
   obtain ⟨lo,hi⟩:=fz
   rcases hfz with h9|h9
   ·change hi=0 at h9;subst h9;simp
   ·change cur.size≤lo at h9
    have:¬ lo≤j:=by omega
    simp [this]
 ·have hF:(flatK mf 68 d).size=n*68:=by rw [size_flatK,hd]
  have s2:=s.upd 0 (w':=sortWorldK mf 68 w g 0 m d os) (p':=.blk g (.cells (putCells id 0 (flatK mf 68 d) cur) e fz)) rfl rfl rfl rfl (by rw [iF];simp) (qk w g m d os hg) (fun k hk=>.inl hk) (fun k hk hne=>nV w g m d os hk (fun e9=>hne (Own.at_blk.2 e9))) (Nat.le_add_right _ _)
  refine s2.close_sl (by rw [j4];exact hfz) hnc hcm (by rw [j4];exact hcs) ?_ ?_
  ·rw [← hF,pz _ _ (by omega),kU]
  ·rw [kP,Array.length_toList,hd]
theorem lu (a b:k7):ltOf (fun x y:k7=>d4 x.1.1.me.1 y.1.1.me.1) a b=decide (a.1.1.me.1<b.1.1.me.1):=decide_eq_decide.2 (jo _ _)
theorem uN:SWO (ltOf fun x y:k7=>d4 x.1.1.me.1 y.1.1.me.1) where
 irrefl x:=by rw [lu];simp
 trans x y z h1 h2:=by rw [lu] at *;simp at *;omega
 ntrans x y z h1 h2:=by rw [lu] at *;simp at *;omega
theorem tK {l:List k7} (hd:l.Pairwise fun a b=>a.1.1.me.1≠b.1.1.me.1) {d:Array k7} (hp:PermIn 0 l.toArray.size l.toArray d) (hs:SortedIn (ltOf fun x y:k7=>d4 x.1.1.me.1 y.1.1.me.1) 0 l.toArray.size d):
 d.toList.Perm l∧d.toList.Pairwise fun a b=>a.1.1.me.1<b.1.1.me.1:=by
 obtain ⟨hsz,_,hpm⟩:=hp
 have e1:d.extract 0 l.toArray.size=d:=by rw [← hsz];exact Array.extract_size
 rw [e1,Array.extract_size] at hpm
 have hpl:d.toList.Perm l:=by first|exact hpm|exact hpm.symm|exact hpm.toList|exact hpm.toList.symm
 have hd2:d.toList.Pairwise fun a b=>a.1.1.me.1≠b.1.1.me.1:=(hpl.pairwise_iff (fun h=>fun e=>h e.symm)).2 hd
 refine ⟨hpl,?_⟩
 rw [List.pairwise_iff_getElem] at hd2 ⊢
 intro i j hi hj hij
 have hi':i<d.size:=by simpa using hi
 have hj':j<d.size:=by simpa using hj
 have h1:=hs i j (Nat.zero_le _) hij (by omega)
 rw [getElem!_pos d j hj',getElem!_pos d i hi',lu] at h1
 have h2:=hd2 i j hi hj hij
 have h3:=of_decide_eq_false h1
 simp only [Array.getElem_toList] at h2 ⊢
 omega
def Bg (L:List N3) (h:∀ x∈L,x.2.1.oneCell'=true∧x.2.2.oneCell'=true):List k7:=L.attach.map fun x=>(⟨x.1,h x.1 x.2⟩:k7)
theorem px (L:List N3) (h:∀ x∈L,x.2.1.oneCell'=true∧x.2.2.oneCell'=true):(Bg L h).map (·.1)=L:=by
 refine(List.map_map (f:=fun x:{x // x∈L}=>(⟨x.1,h x.1 x.2⟩:k7)) (g:=fun x:k7=>x.1) (l:=L.attach)).trans ?_
 exact List.attach_map_subtype_val L
theorem wN (L:List N3) (h:∀ x∈L,x.2.1.oneCell'=true∧x.2.2.oneCell'=true):(Bg L h).length=L.length:=by
 have:=congrArg List.length (px L h);simpa using this
theorem vP {L:List k7} {R:N3→N3→Prop}:(L.map (·.1)).Pairwise R↔L.Pairwise fun a b=>R a.1 b.1:=List.pairwise_map
theorem nm {x:N3}:∀ K:List N3,(K.Pairwise fun a b=>a.1.me.1<b.1.me.1)→(∀ y∈K,y.1.me.1≠x.1.me.1)→∃ A B,K=A++B∧(∀ a∈A,a.1.me.1<x.1.me.1)∧∀ b∈B,x.1.me.1<b.1.me.1
 |[],_,_=>⟨[],[],rfl,by simp,by simp⟩
 |y::K,h,hx=>by
  have hp:=List.pairwise_cons.1 h
  by_cases e:x.1.me.1<y.1.me.1
  ·refine ⟨[],y::K,rfl,by simp,fun b hb=>?_⟩
   rcases List.mem_cons.1 hb with rfl|hb
   ·exact e
   ·have:=hp.1 b hb;omega
  ·obtain ⟨A,B,rfl,hA,hB⟩:=nm K hp.2 fun z hz=>hx z (List.mem_cons_of_mem _ hz)
   have:=hx y List.mem_cons_self
   refine ⟨y::A,B,rfl,fun a ha=>?_,hB⟩
   rcases List.mem_cons.1 ha with rfl|ha
   ·omega
   ·exact hA a ha
theorem yq {A B:List N3} {x:N3} (hA:∀ z∈A,z.1.me.1<x.1.me.1) (hB:∀ z∈B,x.1.me.1<z.1.me.1):g7 (A++B) x=A++x::B:=by
 match B,hB with
 |[],_=>
  have:eR x (A++[])=(A,false):=by unfold eR;rw [List.append_nil,la A [] hA];rfl
  rw [CS (by rw [this]),this]
 |b::B,hB=>
  have hb:=hB b List.mem_cons_self
  have:eR x (A++b::B)=(A++x::b::B,true):=by
   unfold eR
   rw [List.foldl_append,la A [] hA,List.nil_append,List.foldl_cons,BY rfl (decide_eq_true (by show x.1.me.1≤b.1.me.1;omega)) (decide_eq_true (by show b.1.me.1≠x.1.me.1;omega)),n0 B _ fun z hz=>hB z (List.mem_cons_of_mem _ hz)]
   simp
  rw [Cn (by rw [this]),this]
theorem xJ {K K2:List N3} {x:N3} (hK:K.Pairwise fun a b=>a.1.me.1<b.1.me.1) (hx:∀ y∈K,y.1.me.1≠x.1.me.1) (hp:K2.Perm (K++[x])) (hs:K2.Pairwise fun a b=>a.1.me.1<b.1.me.1):K2=g7 K x:=by
 obtain ⟨A,B,rfl,hA,hB⟩:=nm K hK hx
 rw [yq hA hB]
 have h1:=List.pairwise_append.1 hK
 refine List.Perm.eq_of_pairwise (le:=fun a b:N3=>a.1.me.1<b.1.me.1) (fun a b _ _ h1 h2=>absurd h1 (by omega)) hs ?_ (hp.trans ?_)
 ·rw [List.pairwise_append,List.pairwise_cons]
  refine ⟨h1.1,⟨hB,h1.2.1⟩,fun a ha b hb=>?_⟩
  rcases List.mem_cons.1 hb with rfl|hb
  ·exact hA a ha
  ·exact h1.2.2 a ha b hb
 ·rw [List.append_assoc]
  exact(List.perm_append_comm (l₁:=B) (l₂:=[x])).append_left A
theorem q9 {K L:List N3} (h:nds K=nds L) (hL:L.Pairwise fun a b=>a.1.me.1<b.1.me.1):K.Pairwise fun a b=>a.1.me.1<b.1.me.1:=by
 have h1:(nds L).Pairwise fun a b=>a.me.1<b.me.1:=by unfold nds;rw [List.pairwise_map];exact hL
 rw [← h] at h1
 unfold nds at h1
 rw [List.pairwise_map] at h1;exact h1
theorem nz {K L:List N3} (h:nds K=nds L) {P:Nd→Prop} (hL:∀ y∈L,P y.1):∀ y∈K,P y.1:=fun y hy=>by
 have:y.1∈nds L:=by rw [← h];exact List.mem_map.2 ⟨y,hy,rfl⟩
 obtain ⟨z,hz,e⟩:=List.mem_map.1 this
 rw [← e];exact hL z hz
theorem zC {L:List N3} {m:Mb} (h:tZ L m=false):∀ y∈L,y.1.me.1≠m.1:=fun y hy e=>by
 obtain ⟨j,hj,rfl⟩:=mO hy
 rw [CD hj (A2 (decide_eq_true e))] at h;cases h
theorem sg {L K:List N3} {x:N3} {m:Mb} (hr:RS L) (hj:tZ L m=false) (hk:nds K=nds L) (hx:x.1.me=m):(K++[x]).Pairwise fun a b=>a.1.me.1≠b.1.me.1:=by
 rw [List.pairwise_append]
 refine ⟨(q9 hk hr.inc).imp (fun h=>by omega),List.pairwise_singleton _ _,fun a ha b hb=>?_⟩
 rw [List.mem_singleton] at hb;subst hb
 rw [hx]
 exact nz hk (P:=fun n=>n.me.1≠m.1) (zC hj) a ha
theorem xi {L K K2:List N3} {x:N3} {m:Mb} {no:Int} (hok:tD L m=true) (hr:RS L) (hj:tZ L m=false) (he:ua L m no=0) (hk:nds K=nds L) (hx:x.1=⟨m,dB,[BL L m no],[]⟩) (hp:K2.Perm (K++[x])) (hs:K2.Pairwise fun a b=>a.1.me.1<b.1.me.1):nds K2=zc L m no:=by
 have hm:x.1.me=m:=by rw [hx]
 have e:=xJ (q9 hk hr.inc) (fun y hy=>by rw [hm];exact nz hk (P:=fun n=>n.me.1≠m.1) (zC hj) y hy) hp hs
 rw [(lI hok).2,e,ul,hk,hx]
 unfold Bx
 rw [decide_eq_true he];rfl
theorem zX {L:List N3} {m:Mb} (h:hQ L=true) (h0:dO m=true):tD L m=true:=by unfold tD;rw [h,h0];rfl
theorem Ag {L:List N3} {m:Mb} (h:dO m=false):tD L m=false:=by unfold tD;rw [h,Bool.and_false]
def fU (L:List N3):List Int:=L.map (·.1.me.1)
theorem wz {L:List N3} {k:Nat} (hk:k<L.length):fU (L.take (k+1))=fU (L.take k)++[(L.getD k z3).1.me.1]:=by unfold fU;rw [fw hk,List.map_append];rfl
theorem wQ {L:List N3} (hd:L.Pairwise fun a b=>a.1.me.1≠b.1.me.1) {k:Nat} (hk:k<L.length):(L.getD k z3).1.me.1 ∉ fU (L.take k):=fun hx=>by
 obtain ⟨y,hy,e⟩:=List.mem_map.1 hx
 obtain ⟨j,hj,rfl⟩:=List.mem_iff_getElem.1 hy
 rw [List.length_take] at hj
 have h1:=List.pairwise_iff_getElem.1 hd j k (by omega) hk (by omega)
 rw [List.getElem_take] at e
 rw [lB hk] at h1
 exact h1 e
theorem Ax {L:List N3} (h:L.Pairwise fun a b=>a.1.me.1<b.1.me.1):L.Pairwise fun a b=>a.1.me.1≠b.1.me.1:=h.imp fun h=>by omega
theorem sU {L:List N3} (hn:∀ m∈aR L,0≤m.1) (no:Int):decide (no∈fU L)=cx (aR L) no:=by
 rw [Bool.eq_iff_iff,decide_eq_true_iff,kg hn]
 constructor
 ·intro h
  obtain ⟨y,hy,e⟩:=List.mem_map.1 h
  exact ⟨y.1.me,List.mem_map.2 ⟨y,hy,rfl⟩,e⟩
 ·rintro ⟨m,hm,e⟩
  obtain ⟨y,hy,rfl⟩:=List.mem_map.1 hm
  exact List.mem_map.2 ⟨y,hy,e⟩
abbrev d5 (ks:List Int):Obj:=.map (yP ks) ks.length
theorem yB (ks:List Int) (n:Int):Obj.map ((yP ks).push {key:=.int .i64 n,val:=.agg #[],born:=ks.length}) (ks.length+1)=d5 (ks++[n]):=by
 rw [uS];simp [d5]
theorem qK {P:Program} {ρ:Operand→Value} {d:Option Tmp} {ty:TypeId} {pos:String} {af:Array Edge} {g:Option (Nat × Bool)} {t:TypeId} (S:Stt P t []):ca P ⟨d,.build t #[],ty,pos,af,g⟩ ρ (.agg #[]):=
 ec (parts:=#[]) S [] (by simp) (fun i v hm=>by simp at hm) (D:=[]) rfl
theorem uO {K L:List N3} (h:nds K=nds L) (no:Int):dx K no=dx L no:=by
 have e:∀ M:List N3,dx M no=(nds M).findIdx fun n=>decide (n.me.1=no):=fun M=>by
  unfold dx nds
  rw [List.findIdx_map];rfl
 rw [e K,e L,h]
theorem y5 {K L:List N3} (h:nds K=nds L):K.length=L.length:=by have h9:=congrArg List.length h;simpa [nds] using h9
def Cd (w:World) (N:TypeId) (L:List N3) (no:Int):cX:=fun v w9=>
 (∃ k,cE L no=k∧k≠0∧v=.tuple #[.agg #[bp],.pointer none,.int .i64 k]) ∨
 (cE L no=0∧∃ vq K ks,v=.tuple #[.agg #[vq],.pointer (some (a2 vq (dx L no*68))),.int .i64 0]∧nds K=nds L∧St w [.sl vq N 68 K.length (aG K),.grp ks (c6 K)] w9)
theorem Cd.n {w w9:World} {N:TypeId} {L:List N3} {no k:Int} {v:Value} (h:Cd w N L no v w9) (hk:cE L no=k) (h0:k≠0):v=.tuple #[.agg #[bp],.pointer none,.int .i64 k]:=by
 rcases h with ⟨q,h1,_,h3⟩|⟨h1,_⟩
 ·rw [h3,← h1,hk]
 ·exact absurd (hk.symm.trans h1) h0
theorem Cd.y {w w9:World} {N:TypeId} {L:List N3} {no:Int} {v:Value} (h:Cd w N L no v w9) (hk:cE L no=0):∃ vq K ks,v=.tuple #[.agg #[vq],.pointer (some (a2 vq (dx L no*68))),.int .i64 0]∧nds K=nds L∧St w [.sl vq N 68 K.length (aG K),.grp ks (c6 K)] w9:=by
 rcases h with ⟨q,h1,h2,_⟩|⟨_,h3⟩
 ·exact absurd (h1.symm.trans hk) h2
 ·exact h3
theorem RS.nds {K L:List N3} (h:RS L) (e:nds K=nds L):RS K:=
 ⟨fun y hy=>nz e (P:=RN) h.rn y hy,q9 e h.inc,by have:aR K=aR L:=by rw [← li,← li,e]
                                                 rw [this];exact h.ring⟩
theorem St.reob9 {w0 w:World} {B:List Own} {b:Nat} {o o':Obj} (s:St w0 B w) (i:Nat) (hi:B[i]? = some (.blk b o)) (e:o=o'):St w0 (B.set i (.blk b o')) w:=by
 subst e
 have:B.set i (.blk b o)=B:=by
  apply List.ext_getElem?
  intro j
  by_cases h:i=j
  ·subst h
   rw [List.getElem?_set_self (List.getElem?_eq_some_iff.1 hi).1,hi]
  ·rw [List.getElem?_set_ne h]
 rw [this];exact s
theorem nT {K:List N3} {j:Nat} {x:N3} {w9:World} (h:c6 K w9) (hx:f4 w9 x):c6 (K.set j x) w9:=fun y hy=>by
 rcases List.mem_or_eq_of_mem_set hy with hy|rfl
 ·exact h y hy
 ·exact hx
theorem uW {K:List N3} (h:RS K) {no:Int} (hl:cx (aR K) no=true):dx K no<K.length∧K.getD (dx K no) z3=cb K no∧cb K no∈K:=by
 have h1:dx K no<K.length:=of_decide_eq_true ((fD h.nos).trans hl)
 have h2:=(qr h1).1
 exact ⟨h1,h2,by rw [← h2];exact bu h1⟩
theorem n1 {w:World} {K:List N3} {j:Nat} {T:Nd} {u v:Value} (h:c6 K w) (hj:j<K.length) (e:K.getD j z3=(T,u,v)):bX w u 33 T.sc.length (ar T.sc)∧bX w v 33 T.fg.length (ar T.fg):=by
 have h9:=h _ (bu hj)
 rw [e] at h9;exact h9
def gC (q:N3→Bool) (l:List N3) (j:Nat):List N3:=(l.take j).filter q++l.drop ((l.take j).filter q).length
def eD (q:N3→Bool) (l:List N3) (j:Nat):Nat:=((l.take j).filter q).length
theorem oA (q:N3→Bool) (l:List N3) (j:Nat):eD q l j≤j:=by
 unfold eD
 have:=List.length_filter_le q (l.take j)
 rw [List.length_take] at this;omega
theorem uM (q:N3→Bool) (l:List N3) (j:Nat):eD q l j≤l.length:=by
 unfold eD
 have:=List.length_filter_le q (l.take j)
 rw [List.length_take] at this;omega
theorem pZ (q:N3→Bool) (l:List N3) (j:Nat):(gC q l j).length=l.length:=by
 have:=uM q l j
 unfold eD at this
 unfold gC;rw [List.length_append,List.length_drop];omega
theorem vy {q:N3→Bool} {l:List N3} {j:Nat} (hj:j<l.length):(gC q l j).getD j z3=l.getD j z3:=by
 have h1:=oA q l j
 unfold eD at h1
 unfold gC
 rw [List.getD_eq_getElem?_getD,List.getElem?_append_right h1,List.getElem?_drop,List.getD_eq_getElem?_getD]
 congr 2
 omega
theorem rx {q:N3→Bool} {l:List N3} {j:Nat} (hj:j<l.length) (h:q (l.getD j z3)=false):gC q l (j+1)=gC q l j∧eD q l (j+1)=eD q l j:=by
 have e:(l.take (j+1)).filter q=(l.take j).filter q:=by rw [fw hj,List.filter_append,List.filter_cons,h];simp
 unfold gC eD;rw [e];exact ⟨rfl,rfl⟩
theorem pT {q:N3→Bool} {l:List N3} {j:Nat} (hj:j<l.length) (h:q (l.getD j z3)=true):gC q l (j+1)=(gC q l j).set (eD q l j) (l.getD j z3)∧eD q l (j+1)=eD q l j+1:=by
 have e:(l.take (j+1)).filter q=(l.take j).filter q++[l.getD j z3]:=by rw [fw hj,List.filter_append,List.filter_cons,h];simp
 have h1:=oA q l j
 refine ⟨?_,by unfold eD;rw [e,List.length_append];rfl⟩
 unfold eD at h1
 unfold gC eD
 rw [e,List.length_append]
 show (_++[_])++l.drop (_+1)=_
 rw [List.set_append_right _ _ (Nat.le_refl _),Nat.sub_self,List.append_assoc]
 congr 1
 rw [List.drop_eq_getElem_cons (show ((l.take j).filter q).length<l.length by omega),List.set_cons_zero];rfl
theorem ql {q:N3→Bool} {l:List N3} {k:Nat} (hk:k<l.length) (h:∀ i,i<k→q (l.getD i z3)=true) (hq:q (l.getD k z3)=false):gC q l (k+1)=l∧eD q l (k+1)=k:=by
 have e:(l.take k).filter q=l.take k:=by
  rw [List.filter_eq_self]
  intro x hx
  obtain ⟨i,hi,rfl⟩:=List.mem_iff_getElem.1 hx
  rw [List.length_take] at hi
  rw [List.getElem_take,lB (by omega)]
  exact h i (by omega)
 obtain ⟨e1,e2⟩:=rx hk hq
 rw [e1,e2]
 unfold gC eD
 rw [e,List.length_take,Nat.min_eq_left (by omega),List.take_append_drop]
 exact ⟨rfl,rfl⟩
theorem wo (q:N3→Bool) (l:List N3):eD q l l.length=(l.filter q).length:=by unfold eD;rw [List.take_length]
theorem wR (q:N3→Bool) (l:List N3):gC q l l.length=l.filter q++l.drop (l.filter q).length:=by unfold gC;rw [List.take_length]
theorem xY {q:N3→Bool} {l:List N3} {k:Nat} (hk:k<l.length) (hq:q (l.getD k z3)=false):(l.filter q).length<l.length:=by
 rcases Nat.lt_or_ge (l.filter q).length l.length with h|h
 ·exact h
 ·have h1:=List.length_filter_le q l
  have h2:l.filter q=l:=List.filter_eq_self.2 (by
   have:=List.length_filter_eq_length_iff.1 (show (l.filter q).length=l.length by omega)
   exact this)
  have h3:=List.filter_eq_self.1 h2 _ (bu hk)
  rw [hq] at h3;cases h3
theorem qI (q:N3→Bool) (l:List N3):(aG (gC q l l.length)).take ((l.filter q).length*68)=aG (l.filter q):=by
 rw [wR,fO,List.take_left' (fP _)]
theorem qH {l:List N3} {p:N3→Bool} (h:∀ x∈l,p x=false):(l.filter fun x => !p x)=l:=List.filter_eq_self.2 fun x hx=>by rw [h x hx];rfl
theorem tH (cur:List Value) (z:List Value) (q:N3→Bool) (l:List N3) (h1:cur.take (l.length*68)=aG (gC q l l.length)) (hl:l.length*68≤cur.length) (hz:z.length=(l.length - (l.filter q).length)*68) (o:Nat) (ho:o=(l.filter q).length*68) (m:Nat) (hm:m=(l.length - (l.filter q).length)*68):
 (cur.take o++z++cur.drop (o+m)).length=cur.length∧(cur.take o++z++cur.drop (o+m)).take o=aG (l.filter q):=by
 subst ho;subst hm
 have hle:=List.length_filter_le q l
 obtain ⟨e1,e2⟩:=r6 cur z ((l.filter q).length*68) ((l.length - (l.filter q).length)*68) (by rw [← Nat.add_mul];rw [show (l.filter q).length+(l.length - (l.filter q).length)=l.length by omega];exact hl) hz
 refine ⟨e1,e2.trans ?_⟩
 have h9:=congrArg (List.take ((l.filter q).length*68)) h1
 rw [List.take_take,Nat.min_eq_left (Nat.mul_le_mul_right 68 hle),qI] at h9
 exact h9
theorem uF {w:World} {B:List Own} {w':World} {v:Value} {M:TypeId} {l r:List N3} (h:l=r) (s:St w (.sl v M 68 l.length (aG l)::B) w'):St w (.sl v M 68 r.length (aG r)::B) w':=by subst h;exact s
theorem yo {K L:List N3} {no:Int} (hk:nds K=nds L):nds (K.filter fun x => !decide (x.1.me.1=no))=gp (nds L) no:=by
 have e:(K.filter fun x => !decide (x.1.me.1=no))=gN K no:=by
  unfold gN
  refine List.filter_congr fun x _=>?_
  rw [decide_not]
 rw [e,oC,hk]
theorem tw {K:List N3} {p:N3→Bool} {w9:World} (h:c6 K w9):c6 (K.filter p) w9:=fun y hy=>h y (List.mem_filter.1 hy).1
end Go.Proofs.YthggibfkgofncaaGreat
namespace Go.Proofs.YthggibfkgofncaaGreat
open Go.RowKit
def Bm (w:World) (N:TypeId) (L:List N3) (no:Int):cX:=fun v w9=>
 (∃ k,cE L no=k∧k≠0∧v=.tuple #[.agg #[bp],.int .i64 k]) ∨
 (cE L no=0∧∃ vq K ks,v=.tuple #[.agg #[vq],.int .i64 0]∧nds K=gp (nds L) no∧St w [.sl vq N 68 K.length (aG K),.grp ks (c6 K)] w9)
theorem Bm.n {w w9:World} {N:TypeId} {L:List N3} {no k:Int} {v:Value} (h:Bm w N L no v w9) (hk:cE L no=k) (h0:k≠0):v=.tuple #[.agg #[bp],.int .i64 k]:=by
 rcases h with ⟨q,h1,_,h3⟩|⟨h1,_⟩
 ·rw [h3,← h1,hk]
 ·exact absurd (hk.symm.trans h1) h0
theorem Bm.y {w w9:World} {N:TypeId} {L:List N3} {no:Int} {v:Value} (h:Bm w N L no v w9) (hk:cE L no=0):∃ vq K ks,v=.tuple #[.agg #[vq],.int .i64 0]∧nds K=gp (nds L) no∧St w [.sl vq N 68 K.length (aG K),.grp ks (c6 K)] w9:=by
 rcases h with ⟨q,h1,h2,_⟩|⟨_,h3⟩
 ·exact absurd (h1.symm.trans hk) h2
 ·exact h3
theorem Bm.any {w w9:World} {N:TypeId} {L:List N3} {vo:Value} {no:Int} {v:Value} (h:Bm w N L no v w9) (e:Ext w w9):zr w (Do vo L) (AZ L no) (cE L no) v w9:=by
 rcases h with ⟨k,h1,h2,rfl⟩|⟨h1,vq,K,ks,rfl,hk,s⟩
 ·exact jg ((St.start w).more e) (rM h1 h2) h1
 ·exact oz h1 (oO (by rw [wT h1,hk]) s)
def bD (n g:Nd):Nd:=⟨n.me,p4 n [g.me.1],kK (cK n.sc [g.me.1] n.me.1) n.me,cK n.fg [g.me.1] n.me.1⟩
theorem Ar {n g:Nd} (h:RN n):AN n [g.me.1]=bD n g∧AY n=0:=by
 have hr:=ms [g.me.1] (qP.2 h)
 refine ⟨hr.1.trans ?_,hr.2⟩
 unfold bD
 rw [rv h,sr h,r5 h]
def rA (l:List Mb) (no:Int) (m:Mb):Bool:=decide (m.1≠no) && cx l m.1
theorem qA (l:List Mb) (no:Int):rA l no=tU l no:=by funext m;unfold rA tU;exact Bool.and_comm _ _
theorem B1 {l:List Mb} {no:Int} {m:Mb} (h:decide (m.1≠no)=false):rA l no m=false:=by unfold rA;rw [h];rfl
theorem z6 {l:List Mb} {no:Int} {m:Mb} (h:decide (m.1≠no)=true):rA l no m=cx l m.1:=by unfold rA;rw [h];rfl
def ct (l:List Mb) (n g:Nd):List Mb:=g.sc.filter (rA l n.me.1)
theorem vX (l:List Mb) (n g:Nd):ct l n g=yZ l n.me.1 g:=by unfold ct yZ;rw [qA]
theorem ve {l:List Mb} {n g:Nd} (h0:decide (n.sc=[g.me])=true) (h1:0<(ct l n g).length):kh l n g=ct l n g:=by
 have h2:=of_decide_eq_true h0
 rw [vX] at h1 ⊢
 unfold kh g8
 rw [h2,decide_eq_true h1,decide_eq_true (show [g.me].length=1 from rfl),decide_eq_true (show [g.me].getD 0 aZ=g.me from rfl)];rfl
theorem qE {l:List Mb} {n g:Nd} (h0:decide (n.sc=[g.me])=false):kh l n g=kK (cK n.sc [g.me.1] n.me.1) n.me:=by
 have h2:(decide (n.sc.length=1) && (decide (n.sc.getD 0 aZ=g.me) && decide (0<(yZ l n.me.1 g).length)))=false:=by
  rw [← Bool.not_eq_true]
  intro h
  simp only [Bool.and_eq_true,decide_eq_true_eq] at h
  refine of_decide_eq_false h0 ?_
  match hs:n.sc,h.1 with
  |[x],_=>have:=h.2.1;rw [hs] at this;rw [show x=g.me from this]
 unfold kh g8
 rw [h2];rfl
theorem qS {l:List Mb} {n g:Nd} (h1:¬ 0<(ct l n g).length):kh l n g=kK (cK n.sc [g.me.1] n.me.1) n.me:=by
 rw [vX] at h1
 unfold kh g8
 rw [decide_eq_false h1,Bool.and_false,Bool.and_false];rfl
theorem wj {l:List Mb} {n g:Nd} (h0:decide (n.pr=g.me)=true) (h1:rA l n.me.1 g.pr=true):kZ l n g=g.pr:=by
 rw [qA] at h1;unfold tU at h1
 unfold kZ ib
 rw [h0,h1];rfl
theorem qh {l:List Mb} {n g:Nd} (h0:decide (n.pr=g.me)=false):kZ l n g=p4 n [g.me.1]:=by unfold kZ ib;rw [h0];rfl
theorem qR {l:List Mb} {n g:Nd} (h1:rA l n.me.1 g.pr=false):kZ l n g=p4 n [g.me.1]:=by
 rw [qA] at h1;unfold tU at h1
 unfold kZ ib
 rw [h1,Bool.and_false];rfl
theorem gG {l:List Mb} {n g:Nd} {p:Mb} {s:List Mb} (hp:kZ l n g=p) (hs:kh l n g=s):eK l n g=⟨n.me,p,s,(bD n g).fg⟩:=by unfold eK;rw [hp,hs];rfl
theorem Eh {K:List N3} {j:Nat} (hj:j<K.length) (N:Nd) (u v V:Value) (l:List Mb):(aG (K.set j ((N,u,v):N3))).set (j*68+66) V=aG (K.set j ((⟨N.me,N.pr,l,N.fg⟩,V,v):N3)):=by
 rw [pW (by rw [List.length_set];exact hj) V l,en hj,jF]
theorem DN {K:List N3} {j:Nat} (hj:j<K.length) (N:Nd) (u v:Value) (q:Mb):(aG (K.set j ((N,u,v):N3))).take (j*68+33)++(av q).toList++(aG (K.set j ((N,u,v):N3))).drop (j*68+33+33)=aG (K.set j ((⟨N.me,q,N.sc,N.fg⟩,u,v):N3)):=by
 rw [x4 (by rw [List.length_set];exact hj) q,en hj,jF]
theorem rm {l:List Mb} {p:Mb→Bool} {k:Nat} (hk:k<l.length) (h:p (l.getD k aZ)=true):(l.take (k+1)).filter p=(l.take k).filter p++[l.getD k aZ]:=by rw [gP hk,List.filter_append,List.filter_cons,h];simp
theorem sw {l:List Mb} {p:Mb→Bool} {k:Nat} (hk:k<l.length) (h:p (l.getD k aZ)=false):(l.take (k+1)).filter p=(l.take k).filter p:=by rw [gP hk,List.filter_append,List.filter_cons,h];simp
theorem pN (l:List Mb) (p:Mb→Bool) (k:Nat):((l.take k).filter p).length≤l.length:=Nat.le_trans (List.length_filter_le _ _) (by rw [List.length_take];omega)
def mg (E:List Nd) (l:List Mb) (g:Nd) (d:Nat):List Nd:=(E.take d).map (fun y=>eK l y g)++E.drop d
theorem rT (E:List Nd) (l:List Mb) (g:Nd) (d:Nat):(mg E l g d).length=E.length:=by unfold mg;rw [List.length_append,List.length_map,List.length_take,List.length_drop];omega
theorem y3 (E:List Nd) (l:List Mb) (g:Nd):mg E l g E.length=E.map fun y=>eK l y g:=by unfold mg;rw [List.take_length,List.drop_length,List.append_nil]
theorem Bk {K K0:List N3} {l:List Mb} {g:Nd} {d:Nat} (h:nds K=mg (nds K0) l g d) (hd:d<K0.length):d<K.length∧(K.getD d z3).1=(K0.getD d z3).1:=by
 have hl:K.length=K0.length:=by have:=congrArg List.length h;rw [rT] at this;simpa [nds] using this
 have hdk:d<K.length:=by omega
 refine ⟨hdk,?_⟩
 have h9:=congrArg (fun E:List Nd=>E[d]?) h
 simp only [nds,mg,List.getElem?_map] at h9
 rw [List.getElem?_append_right (by rw [List.length_map,List.length_take,List.length_map];omega),List.length_map,List.length_take,List.length_map,Nat.min_eq_left (by omega),Nat.sub_self,List.getElem?_drop,Nat.add_zero,List.getElem?_map,List.getElem?_eq_getElem hdk,List.getElem?_eq_getElem hd] at h9
 simp only [Option.map_some,Option.some.injEq] at h9
 rw [← lB hdk,← lB hd];exact h9
theorem uA {K K0:List N3} {l:List Mb} {g:Nd} {d:Nat} {x:N3} (h:nds K=mg (nds K0) l g d) (hd:d<K0.length) (hx:x.1=eK l (K0.getD d z3).1 g):nds (K.set d x)=mg (nds K0) l g (d+1):=by
 have e1:nds (K.set d x)=(nds K).set d x.1:=by unfold nds;rw [List.map_set]
 have hl:d<(nds K0).length:=by unfold nds;rw [List.length_map];exact hd
 rw [e1,h,hx]
 unfold mg
 rw [List.set_append_right _ _ (by rw [List.length_map,List.length_take];omega),List.length_map,List.length_take,Nat.min_eq_left (by omega),Nat.sub_self,List.drop_eq_getElem_cons hl,List.set_cons_zero,List.take_succ_eq_append_getElem hl,List.map_append,List.append_assoc]
 congr 1
 have:(nds K0)[d]=(K0.getD d z3).1:=by unfold nds;rw [List.getElem_map,lB hd]
 rw [this];rfl
theorem Ap {K K0 L:List N3} {no:Int} (h0:nds K0=gp (nds L) no) (h:nds K=mg (nds K0) (aR K0) (cb L no).1 K0.length):nds K=fp (nds L) no:=by
 have e:K0.length=(nds K0).length:=by unfold nds;rw [List.length_map]
 rw [h,e,y3,h0]
 unfold fp
 rw [← nt]
 have:aR K0=qX (gp (nds L) no):=by rw [← h0,li]
 rw [this]
theorem lA {K:List N3} {j:Nat} {x y:N3} {w9:World} (h:c6 (K.set j x) w9) (hy:f4 w9 y):c6 (K.set j y) w9:=by
 have h9:=nT (j:=j) h hy
 rwa [jF] at h9
theorem RS.wos {L:List N3} (h:RS L) (no:Int):RS (gN L no):=
 ⟨fun x hx=>h.rn x (List.mem_filter.1 hx).1,h.inc.sublist List.filter_sublist,h.ring.sub ((List.filter_sublist (l:=L)).map _)⟩
theorem RS.wosn {K L:List N3} {no:Int} (h:RS L) (e:Go.Proofs.YthggibfkgofncaaGreat.nds K=gp (Go.Proofs.YthggibfkgofncaaGreat.nds L) no):RS K:=(h.wos no).nds (by rw [e,oC])
end Go.Proofs.YthggibfkgofncaaGreat
