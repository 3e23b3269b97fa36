/- Own overlays, changed in place; ranges within a round; drawn regions; sets. -/
import Derived.Shelf.SlSortCmp.WholeK
import Derived.Test.YthmlflaiidhoiaaGreatDoorOv
set_option linter.unusedVariables false
set_option linter.unusedSimpArgs false
set_option linter.unusedSectionVars false
namespace Go.Proofs.YthmlflaiidhoiaaGreatDoor
open Go.RowKit Go.Sort
theorem uj (d:Array Mb):(flatK nq 33 d).toList=aq d.toList:=by
 apply List.ext_getElem?
 intro t
 by_cases ht:t<d.size*33
 ·have hj:t / 33<d.size:=by omega
  have hr:t % 33<33:=aO6 _ (by decide)
  have h1:(aq d.toList)[t]? = (nq d[t / 33])[t % 33]? := by
   have h2:t=t / 33*33+t % 33:=by omega
   conv=>lhs;rw [h2]
   rw [← aN8,← aN7 hr]
   unfold aq
   rw [eU _ 33 cD d.toList (t / 33) (by simpa using hj)]
   simp
  rw [h1]
  have h3:=get_flatK nq 33 d t ht
  have h4:t<(flatK nq 33 d).size:=by rw [size_flatK];exact ht
  rw [getElem!_pos _ t h4,getElem!_pos d _ hj] at h3
  rw [aN9,aO0 h4,h3]
  have h5:t % 33<(nq d[t / 33]).length:=by rw [cD];exact hr
  rw [getElem!_pos (nq d[t / 33]) (t % 33) h5,aH8 h5]
 ·rw [aM1 (by rw [aI2,size_flatK];omega),aM1 (by rw [fM,aI2];omega)]
theorem kG (F c:Array Value):(putCells id 0 F c).size=c.size:=by simp [putCells]
theorem tP (F c:Array Value) (h:F.size<=c.size):(putCells id 0 F c).toList.take F.size=F.toList:=by
 apply List.ext_getElem?
 intro t
 by_cases ht:t<F.size
 ·rw [aN7 ht,aN9,aN9]
  unfold putCells
  rw [Array.getElem?_mapIdx,aO0 (by omega),Option.map_some,if_pos ⟨aJ3 _,by omega⟩,aO0 ht,Nat.sub_zero,getElem!_pos F t ht]
  rfl
 ·rw [aM1 (by rw [aL0];omega),aM1 (by rw [aI2];omega)]
theorem oE (w:World) (g m:Nat) (d:Array Mb) (os:Array Obj):(sortWorldK nq 33 w g 0 m d os).heap=w.heap.modify g (onCells (putCells id 0 (flatK nq 33 d)))++os:=rfl
theorem ra (w:World) (g m:Nat) (d:Array Mb) (os:Array Obj) {k:Nat} (hk:k<w.heap.size) (hne:k≠g):(sortWorldK nq 33 w g 0 m d os).heap[k]? = w.heap[k]? := by
 rw [oE,aN3 (by rw [Array.size_modify];exact hk),Array.getElem?_modify,if_neg (λe=>hne e.symm)]
theorem HX (w:World) (g m:Nat) (d:Array Mb) (os:Array Obj) {cur:Array Value} {e:TypeId} {fz:Nat × Nat} (hg:w.heap[g]? = some (.cells cur e fz)):(sortWorldK nq 33 w g 0 m d os).heap[g]? = some (.cells (putCells id 0 (flatK nq 33 d) cur) e fz):=by
 have hk:g<w.heap.size:=(aO1.1 hg).1
 rw [oE,aN3 (by rw [Array.size_modify];exact hk),Array.getElem?_modify,if_pos rfl,hg]
 rfl
theorem RU {w0 w:World} {B:List Own} {v:Value} {e:TypeId} {n:Nat} {l:List Mb} (s:St w0 (.sl v e 33 n (aq l)::B) w) (hl:l.length=n) (hn:1<=n):
 ∃ g cap,v=.slice (some ⟨g,0,none⟩) n cap/\g<w.heap.size/\w0.heap.size<=g/\HoldsK nq 33 w g 0 l.toArray/\
  ∀ (m:Nat) (os:Array Obj) (d:Array Mb),d.size=n->St w0 (.sl v e 33 n (aq d.toList)::B) (sortWorldK nq 33 w g 0 m d os):=by
 obtain ⟨g,cap,cur,fz,rfl,hfz,hnc,hcm,hcs,htk,s⟩:=s.open_sl hn
 have hg:=s.get 0 rfl
 have hlt:g<w.heap.size:=(aO1.1 hg).1
 have hroom:n*33<=cur.size:=by rw [hcs];exact Nat.mul_le_mul_right _ hnc
 refine ⟨g,cap,rfl,hlt,s.own _ aI5 g (Own.at_blk.2 rfl),λj hj=>?_,λm os d hd=>?_⟩
 ·have hjs:j<n*33:=by rw [size_flatK] at hj;simpa [hl] using hj
  constructor
  ·rw [Nat.zero_add,cell_of_row w g j cur e fz hg]
   have h1:(flatK nq 33 l.toArray).toList=cur.toList.take (n*33):=by rw [uj,htk]
   have h2:(flatK nq 33 l.toArray).toList[j]? = cur.toList[j]? := by rw [h1,aN7 hjs]
   rw [aN9,aN9,aO0 hj] at h2
   rw [getElem!_pos _ j hj]
   exact h2.symm
  ·simp only [World.frozen?,hg,Nat.zero_add]
   obtain ⟨lo,hi⟩:=fz
   rcases hfz with h9|h9
   ·change hi=0 at h9;subst h9;simp
   ·change cur.size<=lo at h9
    have:¬ lo<=j:=by omega
    simp [this]
 ·have hF:(flatK nq 33 d).size=n*33:=by rw [size_flatK,hd]
  have s2:=s.upd 0 (w':=sortWorldK nq 33 w g 0 m d os) (p':=.blk g (.cells (putCells id 0 (flatK nq 33 d) cur) e fz)) rfl rfl rfl rfl (by rw [oE];simp) (HX w g m d os hg) (λk hk=>.inl hk) (λk hk hne=>ra w g m d os hk (λe9=>hne (Own.at_blk.2 e9))) (Nat.le_add_right _ _)
  refine s2.close_sl (by rw [kG];exact hfz) hnc hcm (by rw [kG];exact hcs) ?_ ?_
  ·rw [← hF,tP _ _ (by omega),uj]
  ·rw [fM,aI2,hd]
theorem sA {W w':World} (h:Ext W w'):∃ q os',w'=grow (W.drewN q) os':=by
 refine ⟨w'.drawn - W.drawn,w'.heap.extract W.heap.size w'.heap.size,?_⟩
 have hh:w'.heap=W.heap++w'.heap.extract W.heap.size w'.heap.size:=by
  apply Array.ext_getElem?
  intro k
  rw [Array.getElem?_append]
  by_cases hk:k<W.heap.size
  ·rw [if_pos hk];exact h.block k hk
  ·rw [if_neg hk,Array.getElem?_extract]
   by_cases h2:k<w'.heap.size
   ·rw [if_pos (by omega)];congr 1;omega
   ·rw [if_neg (by omega),aK0 (by omega)]
 have h1:=h.os
 have h2:=h.tape
 have h3:=h.output
 have h4:=h.drawn
 obtain ⟨hp,tp,dr,o,ou⟩:=w'
 obtain ⟨hp2,tp2,dr2,o2,ou2⟩:=W
 simp only at h1 h2 h3 h4 hh
 subst h1;subst h2;subst h3
 have h5:dr2+(dr - dr2)=dr:=by omega
 simp only [grow,World.drewN,h5]
 rw [← hh]
theorem y7 (x9:Id) (a b:Mb):ltOf (λx y:Mb=>ei (x.2 - x9) (y.2 - x9)) a b=decide (fd x9 a.2<fd x9 b.2):=Fo _ _ _
theorem O9 (x9:Id):SWO (ltOf λx y:Mb=>ei (x.2 - x9) (y.2 - x9)) where
 irrefl x:=by rw [y7];simp
 trans x y z h1 h2:=by rw [y7] at *;simp at *;omega
 ntrans x y z h1 h2:=by rw [y7] at *;simp at *;omega
theorem EA {l:List Mb} (h:Rg l) (x9:Id) {d:Array Mb} (hp:PermIn 0 l.toArray.size l.toArray d) (hs:SortedIn (ltOf λx y:Mb=>ei (x.2 - x9) (y.2 - x9)) 0 l.toArray.size d):d.toList=gI x9 l:=by
 obtain ⟨hsz,_,hpm⟩:=hp
 have e1:d.extract 0 l.toArray.size=d:=by rw [← hsz];exact Array.extract_size
 rw [e1,Array.extract_size] at hpm
 refine XO h x9 hpm ?_
 rw [List.pairwise_iff_getElem]
 intro i j hi hj hij
 have hi':i<d.size:=by simpa using hi
 have hj':j<d.size:=by simpa using hj
 have:=hs i j (aJ3 _) hij (by omega)
 rw [getElem!_pos d j hj',getElem!_pos d i hi',y7] at this
 simpa using this
theorem zL {P:Program} {l0:Nat} {r0:Loop} {w:World} (h:w.heap[l0]? = some (.loop r0)) (fn:FuncId) (tmps:Array Value) (ps:Array Tmp) (assign body:Code):
 (Instr.enterLoop fn tmps ps assign body (some l0)).run P w=.ok (w.heap.size,[]) (w.alloc (.loop {state:=.ready,pending:=none,fn,tmps,params:=ps,assign,body,defers:=r0.defers})):=by
 unfold Instr.enterLoop
 simp only [aL7,run_getLoop h,run_newObj_alloc,Result.andThen,aL8]
theorem OD {P:Program} {N lo:Nat} {ro:Loop} {a:Act} {L:List (Nat × Value)} {Df:List Deferred} {w w0:World} {B:List Own} {g:Operand} {ps:Array Tmp} {assign body:Code} {f:FuncId} {lb:Array Value} {Q:Exit->Act->World->Prop}
 (J:Nat->List Own->Prop) (A0:List Own) (X:List Own) (m:Nat) (q:Nat->Bool) (arg:Nat->List Value) (h:Sl N a L Df) (s:St w0 B w) (hg:eI L g=some (.func (.func f) #[] lb)) (hf:Fnc P f) (io:Nat) (hio:B[io]? = some (.blk lo (.loop ro)))
 (hB:B.Perm (X++A0)) (hJ0:J 0 A0) (hps:∀ d,(arg d).length=ps.size)
 (hiter:∀ (l:Nat) (w1:World) (GG:Nat->Own->Prop) (g0:Own),GG 0 g0->St w0 (X++[g0]) w1->
  (∀ (d:Nat) (B':List Own) (w':World) (i:Nat) (g:Own),d<m->(∀ j,j<d->q j=false)->GG d g->St w0 B' w'->B'[i]? = some g->l9 P l (arg d).toArray w' (λv w''=>v=.bool (!q d)/\∃ g',GG (d+1) g'/\St w0 (B'.set i g') w''))->
  Calls P f (#[.func (.yield l) #[] #[]]++lb) w1 (λe w'=>(∃ v,e=.returned v)/\∃ d g,GG d g/\St w0 (X++[g]) w'/\d<=m/\(∀ j,j+1<d->q j=false)/\(lq q d=false->d=m)))
 (hround:∀ (l d:Nat) (rc:LoopState->Loop) (R A:List Own) (w1:World),d<m->(∀ j,j<d->q j=false)->J d A->St w0 (.blk l (.loop (rc .ready))::(A++R)) w1->
  assign.wpIn (FR (some l)) 0 P (Exit.then (λa1 w2=>∃ X1,St w0 (.blk l (.loop (rc .ready))::X1) w2/\∀ w3,St w0 (.blk l (.loop (rc .busy))::X1) w3->body.wpIn (FR (some l)) 0 P
   (λe _ w4=>Of (q d) e/\∃ A',J (d+1) A'/\St w0 (.blk l (.loop (rc .busy))::(A'++R)) w4) a1 w3) (λ_ _ _=>False))
   {tmps:=(ps.zip (arg d).toArray).foldl (λt (p,v)=>t.setIfInBounds p v) a.tmps,defers:=[]} w1)
 (hdone:∀ (A:List Own) (w2:World),J m A->(∀ j,j<m->q j=false)->St w0 (X++A) w2->Q .normal a w2)
 (hleft:∀ (d:Nat) (A:List Own) (w2:World),d<m->q d=true->(∀ j,j<d->q j=false)->J (d+1) A->St w0 (X++A) w2->Q .ret a w2):
 (Code.rangeFunc g ps assign body).wpIn (FR (some lo)) 0 P Q a w:=by
 refine wpIn_rangeFunc (F:=FR (some lo)) λfn _=>?_
 obtain ⟨rq,hrq⟩:∃ rq,rq=λpe st=>ku a ro.defers fn ps assign body pe st:=⟨_,rfl⟩
 obtain ⟨cw,e1,e2,e3⟩:=hf.has
 have hl0:ku a ro.defers fn ps assign body none .ready=rq none .ready:=by rw [hrq]
 refine ⟨w.heap.size,[],w.alloc (.loop (rq none .ready)),{target:=.fn (.func f) lb,args:=#[.func (.yield w.heap.size) #[] #[]]},w.alloc (.loop (rq none .ready)),f,
  #[.func (.yield w.heap.size) #[] #[]]++lb,w.alloc (.loop (rq none .ready)),?_,?_,λ_ _=>trivial,?_,(λhh=>by cases hh),?_⟩
 ·rw [hrq];exact zL (s.get io hio) _ _ _ _ _
 ·simp only [resolve,h.ev hg]
  simp [go_sem]
 ·simp only [invoke];exact fX e1 e2 e3 _ _
 have s1:St w0 (.blk w.heap.size (.loop (rq none .ready))::B) (w.alloc (.loop (rq none .ready))):=s.new (.loop (rq none .ready))
 have s2:St w0 ((.blk w.heap.size (.loop (rq none .ready))::A0)++X) (w.alloc (.loop (rq none .ready))):=
  s1.perm ((hB.trans List.perm_append_comm).cons _)
 have hnd0:=f8 s2
 have s3:=s2.group
 refine callsIn_wide.2 ((hiter w.heap.size _ (λd g=>∃ A,J d A/\g=.all w0 (.blk w.heap.size (.loop (rq (wB (lq q d)) (rK (lq q d))))::A)/\
  (Own.blk w.heap.size (.loop (rq (wB (lq q d)) (rK (lq q d))))::A).Pairwise λp q=>∀ k,p.at k->¬ q.at k)
  _ ⟨A0,hJ0,rfl,hnd0⟩ (s3.perm (List.perm_append_comm (l₁:=[_]))) ?_).mono ?_)
 ·rintro d B' w' i g hd oW ⟨A,hJ,rfl,hnd⟩ s' hi
  have hlq:lq q d=false:=by cases d with|zero=>rfl|succ d=>exact oW d (Nat.lt_succ_self d)
  rw [hlq] at hi hnd
  have hil:=(aH4.1 hi).1
  have s4:St w0 ((.blk w.heap.size (.loop (rq none .ready))::A)++B'.eraseIdx i) w':=(s'.perm (oD hi)).ungroup hnd
  have hl:=s4.get 0 rfl
  have hy:=run_yield (P:=P) (args:=(arg d).toArray) hl (by rw [hrq,List.size_toArray];exact hps d)
  refine ⟨_,_,_,_,hy,?_⟩
  have hw:=hround w.heap.size d (rq none) (B'.eraseIdx i) A w' hd oW hJ (by simpa using s4)
  subst hrq
  refine roundIn_of_wpIn (F:=Fence.wide) (n:=0) trivial (Go.wpIn_mono hw ?_)
  intro e a1 w2 he
  cases e with
  |normal=>
   obtain ⟨X1,s5,hb⟩:=he
   refine ⟨_,run_beginRound (s5.get 0 rfl) rfl,Go.wpIn_mono (hb _ (s5.putObj 0 rfl _)) ?_⟩
   rintro e2 a3 w4 ⟨hle,A',hJ',s6⟩
   have key:∀ (jump:Option Code),jump=wB (q d)->∃ v w',(Instr.endRound w.heap.size jump).run P w4=.ok v w'/\∃ u,Ending.returned v=.returned u/\u=.bool (!q d)/\∃ g',(∃ A,J (d+1) A/\g'=Own.all w0 (.blk w.heap.size (.loop (ku a ro.defers fn ps assign body (wB (q d)) (rK (q d))))::A)/\
    (Own.blk w.heap.size (.loop (ku a ro.defers fn ps assign body (wB (q d)) (rK (q d))))::A).Pairwise λp q=>∀ k,p.at k->¬ q.at k)/\St w0 (B'.set i g') w':=by
    rintro jump rfl
    refine ⟨_,_,run_endRound _ (s6.get 0 rfl),_,rfl,(by cases q d<;>rfl),_,⟨A',hJ',rfl,?_⟩,?_⟩
    ·have hn:=f8 (A:=.blk w.heap.size (.loop (ku a ro.defers fn ps assign body none .busy))::A') (R:=B'.eraseIdx i) (by simpa using s6)
     exact By (A:=.blk w.heap.size (.loop (ku a ro.defers fn ps assign body none .busy))::A') rfl hn
    ·have s7:=s6.putObj 0 rfl (.loop (ku a ro.defers fn ps assign body (wB (q d)) (rK (q d))))
     have s8:St w0 ((.blk w.heap.size (.loop (ku a ro.defers fn ps assign body (wB (q d)) (rK (q d))))::A')++B'.eraseIdx i) _:=s7
     have s9:=s8.group.perm (w8 hil _)
     cases hqd:q d<;>rw [hqd] at s9<;>exact s9
   cases e2 with
   |normal=>exact key none (by rw [show q d=false from hle];rfl)
   |ret=>exact key (some .ret) (by rw [show q d=true from hle];rfl)
   |exit _=>exact hle.elim
   |goto _=>exact hle.elim
   |panic _=>exact hle.elim
   |outgrown=>exact hle.elim
  |ret=>exact he.elim
  |exit _=>exact he.elim
  |goto _=>exact he.elim
  |panic _=>exact he.elim
  |outgrown=>exact he.elim
 ·rintro e w2 ⟨⟨v,rfl⟩,d,g,⟨A,hJ,rfl,hnd⟩,s4,hdm,oW,hend⟩
  have s5:St w0 ((.blk w.heap.size (.loop (rq (wB (lq q d)) (rK (lq q d))))::A)++X) w2:=(s4.perm (List.perm_append_comm (l₂:=[_]))).ungroup hnd
  have hl:=s5.get 0 rfl
  subst hrq
  refine ⟨wB (lq q d),_,run_endLoop hl (by cases lq q d<;>simp [ku,rK]),?_⟩
  have s6:=s5.putObj 0 rfl (.loop {ku a ro.defers fn ps assign body (wB (lq q d)) (rK (lq q d)) with state:=.exhausted})
  have s7:=(s6.pick (A++X) (aJ2 _ _)).perm List.perm_append_comm
  cases hqd:lq q d with
  |false=>
   obtain rfl:=hend hqd
   refine hdone A _ hJ (λj hj=>?_) (by rw [hqd] at s7;exact s7)
   by_cases h1:j+1<d
   ·exact oW j h1
   ·have:d=j+1:=by omega
    subst this;exact hqd
  |true=>
   cases d with
   |zero=>cases hqd
   |succ d=>
    refine aL3 ?_
    exact hleft d A _ (by omega) hqd (λj hj=>oW j (by omega)) hJ (by rw [hqd] at s7;exact s7)
section
variable {P:Program} {ops:Array Oper} {Q:Act->World->Prop} {l:List Oper} {a:Act} {w w0:World} {N:Nat} {L:List (Nat × Value)} {Df:List Deferred} {B:List Own} {d:Tmp} {ty:TypeId} {pos:String} {af:Array Edge} {x y z:Operand} {t e:TypeId}
theorem nO {v u9:Value} {sz n p:Nat} {xs ys D:List Value} (i:Nat) (h:Sl N a L Df) (s:St w0 B w) (hx:eI L x=some (.pointer (some (bO v p)))) (hy:eI L y=some u9) (hi:B[i]? = some (.sl v e sz n xs)) (hp:p+D.length<=n*sz) (h1:0<D.length) (hv:∀ u∈D,u.oneCell'=true)
 (hst:∀ (g:Nat) (w9:World) (cur:Array Value) (fz:Nat × Nat),w9.heap[g]? = some (.cells cur e fz)->(fz.2=0∨cur.size<=fz.1)->p+D.length<=cur.size->(storeVar t ⟨g,p,none⟩ u9).run P w9=.ok () (w9.setRow g (cur.toList.take p++D++cur.toList.drop (p+D.length)).toArray))
 (hys:xs.take p++D++xs.drop (p+D.length)=ys)
 (k:∀ w',St w0 (B.set i (.sl v e sz n ys)) w'->cQ P ops Q l a w'):cQ P ops Q (⟨none,.store t x y,ty,pos,af,none⟩::l) a w:=by
 have ho:=s.getSl i hi
 rcases ho.2 with ⟨_,h0⟩|⟨g,cap,cur,fz,rfl,hb,hg,hfz,hnc,hcm,hcs,htk⟩
 ·subst h0;omega
 ·have hcl:n*sz<=cur.size:=by rw [hcs];exact Nat.mul_le_mul_right _ hnc
  have hxl:xs.length=n*sz:=ho.1
  have hcx:cur.toList=xs++cur.toList.drop (n*sz):=by rw [← htk];exact(aJ7 _ _).symm
  have hyl:ys.length=n*sz:=by
   rw [← hys];simp only [aH7,aL0,aK2];omega
  have hnew:cur.toList.take p++D++cur.toList.drop (p+D.length)=ys++cur.toList.drop (n*sz):=by
   rw [← hys]
   conv=>lhs;rw [hcx]
   rw [List.take_append_of_le_length (by omega),List.drop_append_of_le_length (by omega)]
   simp only [aM3]
  have hel:(some (bO (Value.slice (some ⟨g,0,none⟩) n cap) p):Option Addr)=some ⟨g,p,none⟩:=by show some (Addr.add _ _)=_;rw [Addr.add_lit,Nat.zero_add]
  have hstr:=hst g w cur fz hg hfz (by omega)
  rw [hnew] at hstr
  have hsz:(ys++cur.toList.drop (n*sz)).toArray.size=cur.size:=by
   rw [List.size_toArray,aH7,aK2,hyl];have:=aI2 (xs:=cur);omega
  refine jV (R:=λ_ w'=>w'=w.setRow g (ys++cur.toList.drop (n*sz)).toArray) ?_ λw' _ hw=>by
   subst hw
   refine k _ (s.upd i hi (p':=.sl _ e sz n ys) rfl rfl rfl (by simp) ⟨hyl,.inr ⟨g,cap,_,fz,rfl,hb,setRow_heap w g cur _ e fz hg,?_,hnc,hcm,?_,?_⟩⟩ (λk hk=>.inl hk) (λk hk hne=>setRow_other w g k _ λe9=>hne (Own.at_sl.2 (by simp [Value.ownBlock,e9]))))
   ·rw [hsz];exact hfz
   ·rw [hsz];exact hcs
   ·show (ys++cur.toList.drop (n*sz)).take (n*sz)=ys
    rw [← hyl];exact List.take_left
  unfold dp
  rw [hel] at hx
  simp only [execOp,h.ev hx,h.ev hy,Instr.storeAt,Instr.sureAddr,aL7,aL8,aH9,hstr]
theorem mh {v:Value} {sz n m p:Nat} {xs ys:List Value} {D:Array Value} (i:Nat) (h:Sl N a L Df) (s:St w0 B w) (hr:Row P t m) (hx:eI L x=some (.pointer (some (bO v p)))) (hy:eI L y=some (.agg D)) (hi:B[i]? = some (.sl v e sz n xs)) (hD:D.size=m) (hm:0<m) (hp:p+m<=n*sz) (hv:∀ u∈D.toList,u.oneCell'=true)
 (hys:xs.take p++D.toList++xs.drop (p+m)=ys)
 (k:∀ w',St w0 (B.set i (.sl v e sz n ys)) w'->cQ P ops Q l a w'):cQ P ops Q (⟨none,.store t x y,ty,pos,af,none⟩::l) a w:=by
 have hDl:D.toList.length=m:=by rw [aI2,hD]
 refine nO (D:=D.toList) i h s hx hy hi (by omega) (by omega) hv (λg w9 cur fz hg hfz hc=>?_) (by rw [hDl];exact hys) k
 have hs:(sizeOf t).run P w9=.ok D.size w9:=by
  cases hq:P.info? t with
  |none=>have:=hr.size;simp [hq] at this
  |some i=>have:=hr.size;simp [hq] at this;simp [sizeOf,typeInfo,aL7,hq,this,hD]
 have:=c8 P g p e fz D.toList 0 cur w9 hg hfz (by omega) hv
 simp only [Nat.add_zero] at this
 simp [storeVar,aL7,hs,Value.cells,this]
theorem eD {v V:Value} {sz n p:Nat} {xs ys:List Value} (i:Nat) (h:Sl N a L Df) (s:St w0 B w) (ho:One P t) (hx:eI L x=some (.pointer (some (bO v p)))) (hy:eI L y=some V) (hi:B[i]? = some (.sl v e sz n xs)) (hp:p+1<=n*sz) (hv:V.oneCell'=true)
 (hys:xs.set p V=ys)
 (k:∀ w',St w0 (B.set i (.sl v e sz n ys)) w'->cQ P ops Q l a w'):cQ P ops Q (⟨none,.store t x y,ty,pos,af,none⟩::l) a w:=by
 have hxl:xs.length=n*sz:=(s.getSl i hi).1
 refine nO (D:=[V]) i h s hx hy hi hp (by simp) (λu hu=>by rw [aI4] at hu;subst hu;exact hv) (λg w9 cur fz hg hfz hc=>?_) (by rw [← hys];simp only [aK5,aK6,Nat.zero_add];rw [List.set_eq_take_append_cons_drop,if_pos (by omega)];simp) k
 have hs:(sizeOf t).run P w9=.ok 1 w9:=by
  cases hq:P.info? t with
  |none=>have:=ho.size;simp [hq] at this
  |some i=>have:=ho.size;simp [hq] at this;simp [sizeOf,typeInfo,aL7,hq,this]
 have hc1:V.cells=#[V]:=by
  cases V<;>first|rfl|(simp [Value.oneCell'] at hv)
 have:=c8 P g p e fz [V] 0 cur w9 hg hfz (by simpa using hc) (λu hu=>by rw [aI4] at hu;subst hu;exact hv)
 simp only [Nat.add_zero,aK5,aK6,Nat.zero_add] at this
 simp [storeVar,aL7,hs,hc1,this]
theorem Me {b c:Nat} {es:Array MapEntry} {n:Int} {V:Value} {kt et:TypeId} (i:Nat) (h:Sl N a L Df) (s:St w0 B w) (ht:P.underlying t=some (.map kt et)) (hk:P.underlying kt=some (.int .i64))
 (hx:eI L x=some (.map (some b))) (hy:eI L y=some (.int .i64 n)) (hz:eI L z=some V) (hi:B[i]? = some (.blk b (.map es c))) (hf:Instr.findNow (.int .i64) (.int .i64 n) es.toList 0=some none)
 (k:∀ w',St w0 (B.set i (.blk b (.map (es.push {key:=.int .i64 n,val:=V,born:=c}) (c+1)))) w'->cQ P ops Q l a w'):cQ P ops Q (⟨none,.mapUpdate t x y z,ty,pos,af,none⟩::l) a w:=by
 have hb:=s.get i hi
 have hrun:(Instr.mapUpdate t (.map (some b)) (.int .i64 n) V).run P w=.ok () (w.putObj b (.map (es.push {key:=.int .i64 n,val:=V,born:=c}) (c+1))):=by
  simp [Instr.mapUpdate,aI1 ht,MapKept.run_getObj_map hb,MapKept.run_checkKey hk (show MapKept.IsKey (.int .i64) (.int .i64 n) from rfl),MapKept.run_findKey hk hf,MapKept.run_setObj_map _ hb,Result.andThen,World.putObj]
 refine jV (R:=λv' w'=>w'=w.putObj b (.map (es.push {key:=.int .i64 n,val:=V,born:=c}) (c+1))) ?_ λw' v' hw=>by subst hw;exact k _ (s.putObj i hi _)
 simp [dp,execOp,h.ev hx,h.ev hy,h.ev hz,hrun,Result.andThen]
theorem DG {b c:Nat} {es:Array MapEntry} {n:Int} {Z V:Value} {ok:Bool} {kt et:TypeId} (h:Sl N a L Df) (hb:w.heap[b]? = some (.map es c)) (ht:P.underlying t=some (.map kt et)) (hk:P.underlying kt=some (.int .i64)) (hZ:(P.info? et).bind (·.zero)=some Z)
 (hx:eI L x=some (.map (some b))) (hy:eI L y=some (.int .i64 n))
 (hf:(∃ j,Instr.findNow (.int .i64) (.int .i64 n) es.toList 0=some (some (j,V))/\ok=true)∨(Instr.findNow (.int .i64) (.int .i64 n) es.toList 0=some none/\V=Z/\ok=false)) (hd:Nat.blt d N=true)
 (k:∀ a',Sl N a' ((d,.tuple #[V,.bool ok])::L) Df->cQ P ops Q l a' w):cQ P ops Q (⟨some d,.lookup t x y true,ty,pos,af,none⟩::l) a w:=by
 have hzr:(zeroValue et).run P w=.ok Z w:=by
  cases hi9:P.info? et with
  |none=>simp [hi9] at hZ
  |some info=>simp [hi9] at hZ;simp [zeroValue,typeInfo,hi9,hZ,Result.andThen]
 have hrun:(Instr.lookup t (.map (some b)) (.int .i64 n) true).run P w=.ok (.tuple #[V,.bool ok]) w:=by
  rcases hf with ⟨j,hf,rfl⟩|⟨hf,rfl,rfl⟩
  ·simp [Instr.lookup,aI1 ht,MapKept.run_getObj_map hb,MapKept.run_checkKey hk (show MapKept.IsKey (.int .i64) (.int .i64 n) from rfl),MapKept.run_findKey hk hf,Result.andThen]
  ·simp [Instr.lookup,aI1 ht,MapKept.run_getObj_map hb,MapKept.run_checkKey hk (show MapKept.IsKey (.int .i64) (.int .i64 n) from rfl),MapKept.run_findKey hk hf,hzr,Result.andThen]
 refine ee h (R:=λv w'=>v=.tuple #[V,.bool ok]/\w'=w) ?_ hd λa' w' v ⟨hv,hw⟩ h'=>by subst hv;subst hw;exact k _ h'
 simp [dp,execOp,h.ev hx,h.ev hy,hrun,Result.andThen]
end
theorem fJ {P:Program} {e:TypeId} {sz by_:Nat} (h:((P.info? e).bind λi=>i.zero.map λz=>(i.size,i.bytes,z.cells.size))=some (sz,by_,sz)) (h0:0<sz):Elm P e sz by_:=by
 cases hi:P.info? e with
 |none=>rw [hi] at h;simp at h
 |some i=>
  rw [hi] at h
  cases hz:i.zero with
  |none=>simp [hz] at h
  |some z=>
   simp only [Option.bind_some,hz,Option.map_some,Option.some.injEq,aM8] at h
   exact ⟨⟨i,z,hi,hz,h.1,h.2.1,h.2.2⟩,h0⟩
section
variable {P:Program} {ρ:Operand->Value} {d:Option Tmp} {ty:TypeId} {pos:String} {af:Array Edge} {g:Option (Nat × Bool)} {x y:Operand} {t t' e:TypeId}
theorem Jz {w:World} (ht:P.underlying t=some (.pointer e)) (q:Option Addr) (n:Nat):(Op.equalIn (n+1) t (.pointer q) (.pointer none)).run P w=.ok q.isNone w:=by
 cases q<;>simp [Op.equalIn,aI1 ht]
theorem xj {w:World} (ht:P.underlying t=some (.pointer e)) (q:Option Addr):(Op.equal t (.pointer q) (.pointer none)).run P w=.ok q.isNone w:=Jz ht q 9999
theorem gO {q:Option Addr} (ht:P.underlying t=some (.pointer e)) (hx:ρ x=.pointer q) (hy:ρ y=.pointer none):aZ P ⟨d,.binOp .eql t x y t',ty,pos,af,g⟩ ρ (.bool q.isNone):=λw=>by
 simp [execOp,hx,hy,eqGuard,binOp,xj ht,Result.andThen]
theorem gN {q:Option Addr} (ht:P.underlying t=some (.pointer e)) (hx:ρ x=.pointer q) (hy:ρ y=.pointer none):aZ P ⟨d,.binOp .neq t x y t',ty,pos,af,g⟩ ρ (.bool !q.isNone):=λw=>by
 simp [execOp,hx,hy,eqGuard,binOp,xj ht,Result.andThen]
end
def Sr (ks:List Int):Array MapEntry:=(ks.zipIdx.map λp=>{key:=Value.int .i64 p.1,val:=Value.agg #[],born:=p.2}).toArray
theorem Ma (ks:List Int) (n:Int):(Sr ks).push {key:=.int .i64 n,val:=.agg #[],born:=ks.length}=Sr (ks++[n]):=by
 unfold Sr
 rw [List.zipIdx_append,aO5,List.push_toArray]
 simp
theorem Ah {ks:List Int} {n:Int} (h:n ∉ ks):Instr.findNow (.int .i64) (.int .i64 n) (Sr ks).toList 0=some none:=by
 refine GE n _ 0 λe he=>?_
 obtain ⟨p,hp,rfl⟩:=aL9.1 he
 refine ⟨p.1,λe9=>h ?_,rfl⟩
 rw [← e9]
 exact List.fst_mem_of_mem_zipIdx hp
theorem xl (n:Int):∀ (es:List MapEntry) (i:Nat),(∀ e∈es,∃ m:Int,e.key=.int .i64 m/\e.val=.agg #[])->(∃ e∈es,e.key=.int .i64 n)->∃ j,Instr.findNow (.int .i64) (.int .i64 n) es i=some (some (j,.agg #[]))
 |[],_,_,h=>by obtain ⟨e,he,_⟩:=h;cases he
 |e::es,i,h,hx=>by
  obtain ⟨m,he,hv⟩:=h e aI5
  unfold Instr.findNow
  rw [he]
  have hs:Instr.sameNow (.int .i64) (.int .i64 n) (.int .i64 m)=some (n == m):=by simp [Instr.sameNow]
  rw [hs]
  by_cases hm:n=m
  ·subst hm;simp only [BEq.rfl];exact ⟨i,by rw [hv]⟩
  ·rw [beq_eq_false_iff_ne.2 hm]
   refine xl n es (i+1) (λe9 h9=>h e9 (aJ5 _ h9)) ?_
   obtain ⟨e9,h9,h8⟩:=hx
   rcases aI6.1 h9 with rfl|h9
   ·rw [he] at h8;simp only [Value.int.injEq,true_and] at h8;exact aO7 h8.symm hm
   ·exact ⟨e9,h9,h8⟩
theorem Ja {ks:List Int} {n:Int} (h:n∈ks):∃ j,Instr.findNow (.int .i64) (.int .i64 n) (Sr ks).toList 0=some (some (j,.agg #[])):=by
 refine xl n _ 0 (λe he=>?_) ?_
 ·obtain ⟨p,hp,rfl⟩:=aL9.1 he
  exact ⟨p.1,rfl,rfl⟩
 ·obtain ⟨i,hi,e⟩:=aN2 h
  refine ⟨{key:=Value.int .i64 n,val:=Value.agg #[],born:=i},aL9.2 ⟨(n,i),?_,rfl⟩,rfl⟩
  rw [List.mem_zipIdx_iff_getElem?]
  simp [e,hi]
theorem O1 (ks:List Int) (n:Int):(∃ j,Instr.findNow (.int .i64) (.int .i64 n) (Sr ks).toList 0=some (some (j,.agg #[]))/\decide (n∈ks)=true)∨(Instr.findNow (.int .i64) (.int .i64 n) (Sr ks).toList 0=some none/\Value.agg #[]=Value.agg #[]/\decide (n∈ks)=false):=by
 by_cases h:n∈ks
 ·obtain ⟨j,hj⟩:=Ja h;exact .inl ⟨j,hj,aH2 h⟩
 ·exact .inr ⟨Ah h,rfl,aH1 h⟩
def eQ (L:List N3) (no:Int):Nat:=L.findIdx λx=>decide (x.1.me.1=no)
def CO (vo:Value) (L:List N3) (no:Int):Value:=bif decide (eQ L no<L.length) then .pointer (some (bO vo (eQ L no*68))) else .pointer none
theorem ah9 {L:List N3} {no:Int} {k:Nat} (hk:k<L.length) (h:∀ j,j<k->decide ((L.getD j z3).1.me.1=no)=false) (he:decide ((L.getD k z3).1.me.1=no)=true):eQ L no=k:=by
 unfold eQ
 rw [List.findIdx_eq hk]
 refine ⟨by rw [tB hk];exact he,λj hj=>?_⟩
 rw [tB (by omega)];exact h j hj
theorem PT {L:List N3} {no:Int} {k:Nat} (hk:L.length<=k) (h:∀ j,j<k->decide ((L.getD j z3).1.me.1=no)=false):eQ L no=L.length:=by
 unfold eQ
 rw [List.findIdx_eq_length]
 intro x hx
 obtain ⟨j,hj,rfl⟩:=B0 hx
 exact h j (by omega)
theorem TR {L:List N3} {no:Int} (h:eQ L no<L.length):(∀ j,j<eQ L no->decide ((L.getD j z3).1.me.1=no)=false)/\decide ((L.getD (eQ L no) z3).1.me.1=no)=true:=by
 refine ⟨λj hj=>?_,?_⟩
 ·have:=List.not_of_lt_findIdx (p:=λx:N3=>decide (x.1.me.1=no)) (xs:=L) hj
  rw [tB (by omega)] at this
  simpa using this
 ·have:=List.findIdx_getElem (p:=λx:N3=>decide (x.1.me.1=no)) (xs:=L) (w:=h)
  rw [← tB h]
  exact this
theorem Cu {L:List N3} {no:Int} (h:eQ L no<L.length):L.getD (eQ L no) z3=kE L no/\(kE L no).1.me.1=no:=by
 obtain ⟨h1,h2⟩:=TR h
 have e:=Vn h h1 h2
 exact ⟨e.symm,by rw [e];exact aG9 h2⟩
theorem AI {vo:Value} {L:List N3} {no:Int} (h:eQ L no<L.length):CO vo L no=.pointer (some (bO vo (eQ L no*68))):=by unfold CO;rw [aH2 h];rfl
theorem FI {vo:Value} {L:List N3} {no:Int} (h:¬ eQ L no<L.length):CO vo L no=.pointer none:=by unfold CO;rw [aH1 h];rfl
theorem LL {L:List N3} {no:Int} (h:∃ x∈L,x.1.me.1=no):eQ L no<L.length:=by
 obtain ⟨x,hx,e⟩:=h
 exact List.findIdx_lt_length_of_exists ⟨x,hx,aH2 e⟩
theorem jy {L:List N3} {no:Int} (hn:∀ m∈aN L,0<=m.1):decide (eQ L no<L.length)=dd (aN L) no:=by
 rw [aN6,decide_eq_true_iff,mX hn]
 constructor
 ·intro h
  obtain ⟨e1,e2⟩:=Cu h
  exact ⟨(kE L no).1.me,aL9.2 ⟨kE L no,by rw [← e1];exact ci h,rfl⟩,e2⟩
 ·rintro ⟨m,hm,e⟩
  obtain ⟨x,hx,rfl⟩:=aL9.1 hm
  exact LL ⟨x,hx,e⟩
def Z2 (vo:Value) (q:Nat->Bool):Nat->Value|0=>.pointer none|d+1=>bif q d then .pointer (some (bO vo (d*68))) else .pointer none
theorem Q3 {vo:Value} {q:Nat->Bool} {d:Nat} (h:∀ j,j<d->q j=false):Z2 vo q d=.pointer none:=by
 cases d with
 |zero=>rfl
 |succ d=>show (bif q d then _ else _)=_;rw [h d (Nat.lt_succ_self d)];rfl
def qL (L:List N3) (no:Int) (j:Nat):Bool:=decide ((L.getD j z3).1.me.1=no)
theorem aj8 {vo:Value} {L:List N3} {no:Int} {d:Nat} (hd:d<L.length) (h:∀ j,j<d->qL L no j=false) (he:qL L no d=true):Z2 vo (qL L no) (d+1)=CO vo L no:=by
 show (bif qL L no d then _ else _)=_
 have e:=ah9 hd h he
 rw [he,AI (by rw [e];exact hd),e];rfl
theorem YA {vo:Value} {L:List N3} {no:Int} (h:∀ j,j<L.length->qL L no j=false):CO vo L no=.pointer none:=FI (by rw [PT (aJ1 _) h];omega)
def nZ (l:List Mb) (k:Nat):Bool:=decide ((l.getD k bH).1<(l.getD (k - 1) bH).1)
def vK (l:List Mb):Bool:=(List.range l.length).all λk => !(decide (0<k) && nZ l k)
theorem BC {l:List Mb} {k:Nat} (hk:k<l.length) (h0:0<k) (h:nZ l k=true):vK l=false:=by
 unfold vK
 rw [← Bool.not_eq_true,aH6]
 intro h9
 have:=h9 k (aI7.2 hk)
 rw [h,aH2 h0] at this;cases this
theorem uD {l:List Mb} (h:∀ j,0<j->j<l.length->nZ l j=false):vK l=true:=by
 unfold vK
 rw [aH6]
 intro j hj
 by_cases h0:0<j
 ·rw [h j h0 (aI7.1 hj)];simp
 ·rw [aH1 h0];rfl
theorem SI {l:List Mb}:vK l=true↔∀ j,0<j->j<l.length->nZ l j=false:=by
 refine ⟨λh j h0 hj=>?_,uD⟩
 cases hq:nZ l j with
 |false=>rfl
 |true=>rw [BC hj h0 hq] at h;cases h
theorem NB {l:List Mb} {k:Nat} (h:∀ j,k<=j->0<j->j<l.length->nZ l j=false) (hk:0<k) (hq:nZ l (k - 1)=false):∀ j,k - 1<=j->0<j->j<l.length->nZ l j=false:=λj h1 h2 h3=>by
 by_cases e:j=k - 1
 ·subst e;exact hq
 ·exact h j (by omega) h2 h3
theorem kL (x y:Int):cH x y<0↔x<y:=by unfold cH;split<;>(try split)<;>omega
theorem j7 {L:List N3} {k:Nat} (hk:k<L.length):(aN L).getD k bH=(L.getD k z3).1.me:=by
 rw [← yI (by rw [aL1];exact hk),← tB hk];exact List.getElem_map _
theorem VV {L:List N3} {no:Int} (h:eQ L no<L.length):gb (aN L) no=some (L.getD (eQ L no) z3).1.me:=by
 obtain ⟨h1,h2⟩:=TR h
 have e:=zq (l:=aN L) (no:=no) (k:=eQ L no) (by rw [aL1];exact h) (λj hj=>by rw [j7 (by omega)];exact h1 j hj) (by rw [j7 h];exact h2)
 rw [e,j7 h]
theorem Rr {L:List N3} {no:Int} (h:¬ eQ L no<L.length):gb (aN L) no=none:=by
 refine yA (k:=L.length) (by rw [aL1];exact aJ1 _) λj hj=>?_
 rw [j7 hj]
 refine aH1 λe=>h (LL ⟨_,ci hj,e⟩)
def oG (L:List N3) (m:Mb):Bool:=decide (eQ L m.1<L.length) && !decide ((L.getD (eQ L m.1) z3).1.me=m)
theorem Md {L:List N3} (hr:Rg (aN L)) (m:Mb):oG L m=rP (aN L) m:=by
 unfold oG rP pj
 by_cases h:eQ L m.1<L.length
 ·rw [VV h,aH2 h]
  have h0:=(hr.nos _ (aL9.2 ⟨_,ci h,rfl⟩)).1
  rw [Option.getD_some,aH2 h0]
 ·rw [Rr h,aH1 h]
  rfl
theorem as1 {L:List N3} {m:Mb} (h:decide (eQ L m.1<L.length)=false):oG L m=false:=by unfold oG;rw [h];rfl
theorem Zl {L:List N3} {m:Mb} (h:decide (eQ L m.1<L.length)=true):oG L m = !decide ((L.getD (eQ L m.1) z3).1.me=m):=by unfold oG;rw [h];rfl
def kbQ (n:Nd) (L:List N3) (j:Nat):Bool:=oG L ((bp n).getD j bH)
theorem QB {n:Nd} {L:List N3} {d:Nat} (hd:d<(bp n).length) (h:kbQ n L d=true):(bp n).any (oG L)=true:=aN4.2 ⟨_,i8 hd,h⟩
theorem Su {n:Nd} {L:List N3} (h:∀ j,j<(bp n).length->kbQ n L j=false):(bp n).any (oG L)=false:=by
 rw [aN5]
 intro x hx
 obtain ⟨j,hj,rfl⟩:=pA hx
 rw [show oG L ((bp n).getD j bH)=false from h j hj];decide
def KJ (L:List N3) (k:Nat):Bool := !ex (L.getD k z3).1 || (bp (L.getD k z3).1).any (oG L)
theorem Vc {L:List N3} (h:dL (aN L)=false):kK L=false:=by unfold kK;rw [h,Bool.and_false]
theorem VH {L:List N3} (h:vK (aN L)=false):kK L=false:=by
 have:¬ ∀ j,0<j->j<(aN L).length->nZ (aN L) j=false:=λh9=>by rw [uD h9] at h;cases h
 rw [Classical.not_forall] at this
 obtain ⟨k,hk⟩:=this
 rw [Classical.not_imp,Classical.not_imp] at hk
 obtain ⟨h0,h1,h2⟩:=hk
 rw [aL1] at h1
 refine Q6 h1 (aq2 (aH2 h0) ?_)
 have h3:nZ (aN L) k=true:=by cases hq:nZ (aN L) k with|true=>rfl|false=>exact aO7 hq h2
 unfold nZ at h3
 rw [j7 h1,j7 (by omega)] at h3
 have:=aG9 h3
 exact aH2 (by omega)
theorem K9 {L:List N3} (h0:dL (aN L)=true) (h1:vK (aN L)=true):kK L=(List.range L.length).all λk => !KJ L k:=by
 have hg:=(lU _).1 h0
 have key:∀ k,k<L.length->mE L k=KJ L k:=λk hk=>by
  have e1:(decide (0<k) && decide ((L.getD k z3).1.me.1<=(L.getD (k - 1) z3).1.me.1))=false:=by
   by_cases hk0:0<k
   ·have h2:=SI.1 h1 k hk0 (by rw [aL1];exact hk)
    unfold nZ at h2
    rw [j7 hk,j7 (by omega)] at h2
    have h3:=aH0 h2
    have h4:=(List.pairwise_iff_getElem.1 hg.nd (k - 1) k (by rw [aL1];omega) (by rw [aL1];exact hk) (by omega)).1
    rw [yI,yI,j7 hk,j7 (by omega)] at h4
    rw [aH2 hk0,aH1 (by omega)];rfl
   ·rw [aH1 hk0];rfl
  have e2:(bp (L.getD k z3).1).any (rP (aN L))=(bp (L.getD k z3).1).any (oG L):=by
   congr 1;funext m;exact(Md hg m).symm
  unfold mE KJ
  rw [e1,e2,Bool.false_or]
 unfold kK
 rw [h0,Bool.and_true,aN6,aH6,aH6]
 exact ⟨λh k hk=>by rw [← key k (aI7.1 hk)];exact h k hk,λh k hk=>by rw [key k (aI7.1 hk)];exact h k hk⟩
theorem Pc {L:List N3} {d:Nat} (h0:dL (aN L)=true) (h1:vK (aN L)=true) (hd:d<L.length) (h:KJ L d=true):kK L=false:=by
 rw [K9 h0 h1,← Bool.not_eq_true,aH6]
 intro h9
 have:=h9 d (aI7.2 hd)
 rw [h] at this;cases this
theorem Ry {L:List N3} (h0:dL (aN L)=true) (h1:vK (aN L)=true) (h:∀ j,j<L.length->KJ L j=false):kK L=true:=by
 rw [K9 h0 h1,aH6]
 intro k hk
 rw [h k (aI7.1 hk)];rfl
theorem at7 {L:List N3} {k:Nat} (h:ex (L.getD k z3).1=false):KJ L k=true:=by unfold KJ;rw [h];rfl
theorem ac0 {L:List N3} {k:Nat} (h:ex (L.getD k z3).1=true):KJ L k=(bp (L.getD k z3).1).any (oG L):=by unfold KJ;rw [h];rfl
theorem oU (a b c:List Mb):[a,b,c].flatten=a++(b++c):=by simp
theorem Kr {w:World} {u v x:Value} {a b c:List Mb} (h1:bs w u 33 a.length (aq a)) (h2:bs w v 33 b.length (aq b)) (h3:bs w x 33 c.length (aq c)):∀ k,k<[u,v,x].length->bs w ([u,v,x].getD k undef) 33 ([a,b,c].getD k []).length (aq ([a,b,c].getD k [])):=λk hk=>by
 match k,hk with
 |0,_=>exact h1
 |1,_=>exact h2
 |2,_=>exact h3
theorem Ku (L:List N3) (j i:Nat) (hj:j<L.length) (hi:i<68):(aI L)[j*68+i]? = (za (L.getD j z3))[i]? := by
 have h1:=aH3 (λa:Array Value=>a[i]?) (g5 L j hj)
 simp only [aJ8] at h1
 rw [aN7 hi,aN8] at h1
 rw [h1];simp [bu,za]
theorem NH (L:List N3) (j:Nat) (hj:j<L.length):(aI L)[j*68+66]? = some (L.getD j z3).2.1:=by rw [Ku L j 66 hj (by decide)];exact zh _ _ _ _ 0
theorem Ol (L:List N3) (j:Nat) (hj:j<L.length):(aI L)[j*68+67]? = some (L.getD j z3).2.2:=by rw [Ku L j 67 hj (by decide)];exact zh _ _ _ _ 1
theorem fD {K:List N3} {j:Nat} (hj:j<K.length) (x:N3):(K.set j x).getD j z3=x:=by
 rw [← tB (by rw [List.length_set];exact hj)];exact List.getElem_set_self _
theorem T1 {K:List N3} {i j:Nat} (h:i≠j) (x:N3):(K.set j x).getD i z3=K.getD i z3:=by
 rw [aJ6,aJ6,List.getElem?_set_ne (λe=>h e.symm)]
theorem GZ {K:List N3} {j:Nat} (hj:j<K.length) (x:N3):(K.set j x).take (j+1)=K.take j++[x]:=by
 rw [pP (by rw [List.length_set];exact hj),fD hj,List.take_set_of_le (aJ1 _)]
theorem zV {K:List N3} {j:Nat} (hj:j<K.length):aI K=aI (K.take j)++(za (K.getD j z3)++aI (K.drop (j+1))):=by
 conv=>lhs;rw [← aJ7 j K,List.drop_eq_getElem_cons hj,tB hj]
 rw [jM];rfl
theorem xq {K:List N3} {j:Nat} (hj:j<K.length) (x:N3):aI (K.set j x)=aI (K.take j)++(za x++aI (K.drop (j+1))):=by
 rw [List.set_eq_take_append_cons_drop,if_pos hj,jM];rfl
theorem xA {K:List N3} {j:Nat} (hj:j<K.length):(aI (K.take j)).length=j*68:=by rw [l5,aL0,Nat.min_eq_left (by omega)]
theorem EG {K:List N3} {j off:Nat} (hj:j<K.length) (D:List Value) (h:off+D.length<=68):
 (aI K).take (j*68+off)++D++(aI K).drop (j*68+off+D.length)=aI (K.take j)++((za (K.getD j z3)).take off++D++(za (K.getD j z3)).drop (off+D.length)++aI (K.drop (j+1))):=by
 rw [zV hj]
 obtain ⟨a,ha⟩:∃ a,a=aI (K.take j):=⟨_,rfl⟩
 obtain ⟨c,hc⟩:∃ c,c=aI (K.drop (j+1)):=⟨_,rfl⟩
 have hl:a.length=j*68:=by rw [ha];exact xA hj
 have hn:(za (K.getD j z3)).length=68:=nu _
 rw [← ha,← hc]
 rw [show j*68+off=a.length+off by omega,List.take_length_add_append,List.take_append_of_le_length (by omega),show a.length+off+D.length=a.length+(off+D.length) by omega,List.drop_length_add_append,List.drop_append_of_le_length (by omega)]
 simp only [aM3]
theorem Nk {K:List N3} {j:Nat} (hj:j<K.length) (x:N3):(aI K).take (j*68)++(bu x.1.me x.1.pr x.2.1 x.2.2).toList++(aI K).drop (j*68+68)=aI (K.set j x):=by
 have hl:(bu x.1.me x.1.pr x.2.1 x.2.2).toList.length=68:=by rw [aI2];exact aP _ _ _ _
 have h:=EG hj (off:=0) (bu x.1.me x.1.pr x.2.1 x.2.2).toList (by omega)
 rw [hl] at h
 rw [show j*68+0=j*68 from rfl] at h
 rw [h,xq hj]
 have hn:(za (K.getD j z3)).length=68:=nu _
 rw [List.take_zero,List.nil_append,List.drop_of_length_le (by omega),aM4]
 rfl
theorem ak1 (m p:Mb) (u v V:Value):(nP m p u v).set 66 V=nP m p V v:=by
 have:=aH3 Array.toList (tR m p u v V)
 rwa [Array.toList_setIfInBounds] at this
theorem aj5 (m p:Mb) (u v V:Value):(nP m p u v).set 67 V=nP m p u V:=by
 have:=aH3 Array.toList (sX m p u v V)
 rwa [Array.toList_setIfInBounds] at this
theorem Ft {K:List N3} {j off:Nat} (hj:j<K.length) (ho:off<68) {V:Value} {x:N3} (h:(za (K.getD j z3)).set off V=za x):(aI K).set (j*68+off) V=aI (K.set j x):=by
 rw [xq hj,← h,zV hj,List.set_append_right _ _ (by rw [xA hj];omega),xA hj,Nat.add_sub_cancel_left,List.set_append_left _ _ (by rw [nu];exact ho)]
theorem tZ {K:List N3} {j:Nat} (hj:j<K.length) (V:Value) (l:List Mb):(aI K).set (j*68+66) V=aI (K.set j (⟨(K.getD j z3).1.me,(K.getD j z3).1.pr,l,(K.getD j z3).1.fg⟩,V,(K.getD j z3).2.2)):=Ft hj (by decide) (ak1 _ _ _ _ _)
theorem zW {K:List N3} {j:Nat} (hj:j<K.length) (V:Value) (l:List Mb):(aI K).set (j*68+67) V=aI (K.set j (⟨(K.getD j z3).1.me,(K.getD j z3).1.pr,(K.getD j z3).1.sc,l⟩,(K.getD j z3).2.1,V)):=Ft hj (by decide) (aj5 _ _ _ _ _)
theorem RQ {K:List N3} {j:Nat} (hj:j<K.length) (q:Mb):(aI K).take (j*68+33)++(ar q).toList++(aI K).drop (j*68+33+33)=aI (K.set j (⟨(K.getD j z3).1.me,q,(K.getD j z3).1.sc,(K.getD j z3).1.fg⟩,(K.getD j z3).2.1,(K.getD j z3).2.2)):=by
 have hl:(ar q).toList.length=33:=by rw [aI2];exact aj q
 have h:=EG hj (off:=33) (ar q).toList (by omega)
 rw [hl] at h
 rw [h,xq hj]
 have h2:=aH3 Array.toList (Gs (K.getD j z3).1.me (K.getD j z3).1.pr q (K.getD j z3).2.1 (K.getD j z3).2.2)
 rw [aj] at h2
 exact aH3 (λz=>aI (K.take j)++(z++aI (K.drop (j+1)))) h2
theorem yt {L:List N3} {w:World} (h:∀ x∈L,wQ w x):∀ u∈aI L,u.oneCell'=true:=λu hu=>by
 unfold aI at hu
 obtain ⟨x,hx,hu⟩:=List.mem_flatMap.1 hu
 exact cI (h x hx).ones.1 (h x hx).ones.2 u hu
theorem Cs {w:World} {a:Option Addr} {n c:Nat} {L:List N3} (ha:a.isNone=true) (h:bs w (.slice a n c) 68 L.length (aI L)):L=[]:=by
 cases a with
 |some p=>cases ha
 |none=>
  rcases h.2 with ⟨_,h2⟩|⟨p,cap,h1,_⟩
  ·exact List.eq_nil_of_length_eq_zero h2
  ·cases h1
def CpP (w:World) (N:TypeId) (E:List Nd):ez:=λv w9=>∃ vq K ks,v=.agg #[vq]/\nds K=E/\St w [.sl vq N 68 K.length (aI K),.grp ks (iZ K)] w9
theorem St.bring {w0 w:World} {B:List Own} {p:Own} (s:St w0 B w) (i:Nat) (hi:B[i]? = some p):St w0 (p::B.eraseIdx i) w:=s.perm (oD hi)
theorem FP {K:List N3} {E:List Nd} {j:Nat} {x:N3} (h:nds K=E) (hx:x.1=(K.getD j z3).1) (hj:j<K.length):nds (K.set j x)=E:=by
 subst h
 apply List.ext_getElem?
 intro i
 unfold nds
 rw [aM0,aM0,List.getElem?_set]
 by_cases e:j=i
 ·subst e;rw [if_pos rfl,if_pos hj,aH8 hj,tB hj,Option.map_some,Option.map_some,hx]
 ·rw [if_neg e]
theorem FC {K:List N3} {j:Nat} {x:N3} (hj:j<K.length) {w9:World} (h:iZ (K.take j) w9) (hx:wQ w9 x):iZ ((K.set j x).take (j+1)) w9:=λy hy=>by
 rw [GZ hj] at hy
 rcases aK9.1 hy with hy|hy
 ·exact h y hy
 ·rw [aI4] at hy;subst hy;exact hx
theorem lS (K:List N3) (j:Nat) (x y:N3):(K.set j x).set j y=K.set j y:=List.set_set _
theorem CD {q:Nat->Bool} {d:Nat} (h:∀ j,j<d->q j=false):lq q d=false:=by
 cases d with
 |zero=>rfl
 |succ d=>exact h d (Nat.lt_succ_self d)
theorem qo {x:N3}:∀ K:List N3,(K.Pairwise λa b=>a.1.me.1<b.1.me.1)->(∀ y∈K,y.1.me.1≠x.1.me.1)->∃ A B,K=A++B/\(∀ a∈A,a.1.me.1<x.1.me.1)/\∀ b∈B,x.1.me.1<b.1.me.1
 |[],_,_=>⟨[],[],rfl,by simp,by simp⟩
 |y::K,h,hx=>by
  have hp:=List.pairwise_cons.1 h
  by_cases e:x.1.me.1<y.1.me.1
  ·refine ⟨[],y::K,rfl,by simp,λb hb=>?_⟩
   rcases aI6.1 hb with rfl|hb
   ·exact e
   ·have:=hp.1 b hb;omega
  ·obtain ⟨A,B,rfl,hA,hB⟩:=qo K hp.2 λz hz=>hx z (aJ5 _ hz)
   have:=hx y aI5
   refine ⟨y::A,B,rfl,λa ha=>?_,hB⟩
   rcases aI6.1 ha with rfl|ha
   ·omega
   ·exact hA a ha
theorem FQ {A B:List N3} {x:N3} (hA:∀ z∈A,z.1.me.1<x.1.me.1) (hB:∀ z∈B,x.1.me.1<z.1.me.1):AG (A++B) x=A++x::B:=by
 match B,hB with
 |[],_=>
  have:mu x (A++[])=(A,false):=by unfold mu;rw [aM4,zz A [] hA];rfl
  rw [ag0 (by rw [this]),this]
 |b::B,hB=>
  have hb:=hB b aI5
  have:mu x (A++b::B)=(A++x::b::B,true):=by
   unfold mu
   rw [List.foldl_append,zz A [] hA,List.nil_append,List.foldl_cons,Zo rfl (aH2 (by show x.1.me.1<=b.1.me.1;omega)) (aH2 (by show b.1.me.1≠x.1.me.1;omega)),GS B _ λz hz=>hB z (aJ5 _ hz)]
   simp
  rw [ak7 (by rw [this]),this]
theorem P8 {K K2:List N3} {x:N3} (hK:K.Pairwise λa b=>a.1.me.1<b.1.me.1) (hx:∀ y∈K,y.1.me.1≠x.1.me.1) (hp:K2.Perm (K++[x])) (hs:K2.Pairwise λa b=>a.1.me.1<b.1.me.1):K2=AG K x:=by
 obtain ⟨A,B,rfl,hA,hB⟩:=qo K hK hx
 rw [FQ hA hB]
 have h1:=List.pairwise_append.1 hK
 refine List.Perm.eq_of_pairwise (le:=λa b:N3=>a.1.me.1<b.1.me.1) (λa b _ _ h1 h2=>aO7 h1 (by omega)) hs ?_ (hp.trans ?_)
 ·rw [List.pairwise_append,List.pairwise_cons]
  refine ⟨h1.1,⟨hB,h1.2.1⟩,λa ha b hb=>?_⟩
  rcases aI6.1 hb with rfl|hb
  ·exact hA a ha
  ·exact h1.2.2 a ha b hb
 ·rw [aM3]
  exact(List.perm_append_comm (l₁:=B) (l₂:=[x])).append_left A
theorem C3 {K L:List N3} (h:nds K=nds L) (hL:L.Pairwise λa b=>a.1.me.1<b.1.me.1):K.Pairwise λa b=>a.1.me.1<b.1.me.1:=by
 have h1:(nds L).Pairwise λa b=>a.me.1<b.me.1:=by unfold nds;rw [List.pairwise_map];exact hL
 rw [← h] at h1
 unfold nds at h1
 rw [List.pairwise_map] at h1;exact h1
theorem zA {K L:List N3} (h:nds K=nds L) {P:Nd->Prop} (hL:∀ y∈L,P y.1):∀ y∈K,P y.1:=λy hy=>by
 have:y.1∈nds L:=by rw [← h];exact aL9.2 ⟨y,hy,rfl⟩
 obtain ⟨z,hz,e⟩:=aL9.1 this
 rw [← e];exact hL z hz
theorem Tn {L:List N3} {m:Mb} (h:zH L m=false):∀ y∈L,y.1.me.1≠m.1:=λy hy e=>by
 obtain ⟨j,hj,rfl⟩:=B0 hy
 rw [YB hj (Xa (aH2 e))] at h;cases h
theorem Gy {L K:List N3} {x:N3} {m:Mb} (hr:RS L) (hj:zH L m=false) (hk:nds K=nds L) (hx:x.1.me=m):(K++[x]).Pairwise λa b=>a.1.me.1≠b.1.me.1:=by
 rw [List.pairwise_append]
 refine ⟨(C3 hk hr.inc).imp (λh=>by omega),List.pairwise_singleton _ _,λa ha b hb=>?_⟩
 rw [aI4] at hb;subst hb
 rw [hx]
 exact zA hk (P:=λn=>n.me.1≠m.1) (Tn hj) a ha
theorem JS {L K K2:List N3} {x:N3} {m:Mb} {no:Int} (hok:Bt L m=true) (hr:RS L) (hj:zH L m=false) (he:AN L m no=0) (hk:nds K=nds L) (hx:x.1=⟨m,i1,[Cp L m no],[]⟩) (hp:K2.Perm (K++[x])) (hs:K2.Pairwise λa b=>a.1.me.1<b.1.me.1):nds K2=nB L m no:=by
 have hm:x.1.me=m:=by rw [hx]
 have e:=P8 (C3 hk hr.inc) (λy hy=>by rw [hm];exact zA hk (P:=λn=>n.me.1≠m.1) (Tn hj) y hy) hp hs
 rw [(sI hok).2,e,OQ,hk,hx]
 unfold WX
 rw [aH2 he];rfl
theorem TZ {L:List N3} {m:Mb} (h:kK L=true) (h0:im m=true):Bt L m=true:=by unfold Bt;rw [h,h0];rfl
theorem TG {L:List N3} {m:Mb} (h:im m=false):Bt L m=false:=by unfold Bt;rw [h,Bool.and_false]
def lJ (L:List N3):List Int:=L.map (·.1.me.1)
theorem I5 {L:List N3} {k:Nat} (hk:k<L.length):lJ (L.take (k+1))=lJ (L.take k)++[(L.getD k z3).1.me.1]:=by unfold lJ;rw [pP hk,aO5];rfl
theorem N5 {L:List N3} (hd:L.Pairwise λa b=>a.1.me.1≠b.1.me.1) {k:Nat} (hk:k<L.length):(L.getD k z3).1.me.1 ∉ lJ (L.take k):=λhx=>by
 obtain ⟨y,hy,e⟩:=aL9.1 hx
 obtain ⟨j,hj,rfl⟩:=List.mem_iff_getElem.1 hy
 rw [aL0] at hj
 have h1:=List.pairwise_iff_getElem.1 hd j k (by omega) hk (by omega)
 rw [List.getElem_take] at e
 rw [tB hk] at h1
 exact h1 e
theorem Vm {L:List N3} (h:L.Pairwise λa b=>a.1.me.1<b.1.me.1):L.Pairwise λa b=>a.1.me.1≠b.1.me.1:=h.imp λh=>by omega
theorem Iu {L:List N3} (hn:∀ m∈aN L,0<=m.1) (no:Int):decide (no∈lJ L)=dd (aN L) no:=by
 rw [aN6,decide_eq_true_iff,mX hn]
 constructor
 ·intro h
  obtain ⟨y,hy,e⟩:=aL9.1 h
  exact ⟨y.1.me,aL9.2 ⟨y,hy,rfl⟩,e⟩
 ·rintro ⟨m,hm,e⟩
  obtain ⟨y,hy,rfl⟩:=aL9.1 hm
  exact aL9.2 ⟨y,hy,e⟩
abbrev HR (ks:List Int):Obj:=.map (Sr ks) ks.length
theorem SG (ks:List Int) (n:Int):Obj.map ((Sr ks).push {key:=.int .i64 n,val:=.agg #[],born:=ks.length}) (ks.length+1)=HR (ks++[n]):=by
 rw [Ma];simp [HR]
theorem Dn {P:Program} {ρ:Operand->Value} {d:Option Tmp} {ty:TypeId} {pos:String} {af:Array Edge} {g:Option (Nat × Bool)} {t:TypeId} (S:Stt P t []):aZ P ⟨d,.build t #[],ty,pos,af,g⟩ ρ (.agg #[]):=
 bw (parts:=#[]) S [] (by simp) (λi v hm=>by simp at hm) (D:=[]) rfl
theorem IW {K L:List N3} (h:nds K=nds L) (no:Int):eQ K no=eQ L no:=by
 have e:∀ M:List N3,eQ M no=(nds M).findIdx λn=>decide (n.me.1=no):=λM=>by
  unfold eQ nds
  rw [List.findIdx_map];rfl
 rw [e K,e L,h]
theorem SF {K L:List N3} (h:nds K=nds L):K.length=L.length:=by have h9:=aH3 List.length h;simpa [nds] using h9
def ZD (w:World) (N:TypeId) (L:List N3) (no:Int):ez:=λv w9=>
 (∃ k,cE L no=k/\k≠0/\v=.tuple #[.agg #[ax],.pointer none,.int .i64 k]) ∨
 (cE L no=0/\∃ vq K ks,v=.tuple #[.agg #[vq],.pointer (some (bO vq (eQ L no*68))),.int .i64 0]/\nds K=nds L/\St w [.sl vq N 68 K.length (aI K),.grp ks (iZ K)] w9)
theorem ZD.n {w w9:World} {N:TypeId} {L:List N3} {no k:Int} {v:Value} (h:ZD w N L no v w9) (hk:cE L no=k) (h0:k≠0):v=.tuple #[.agg #[ax],.pointer none,.int .i64 k]:=by
 rcases h with ⟨q,h1,_,h3⟩|⟨h1,_⟩
 ·rw [h3,← h1,hk]
 ·exact aO7 (hk.symm.trans h1) h0
theorem ZD.y {w w9:World} {N:TypeId} {L:List N3} {no:Int} {v:Value} (h:ZD w N L no v w9) (hk:cE L no=0):∃ vq K ks,v=.tuple #[.agg #[vq],.pointer (some (bO vq (eQ L no*68))),.int .i64 0]/\nds K=nds L/\St w [.sl vq N 68 K.length (aI K),.grp ks (iZ K)] w9:=by
 rcases h with ⟨q,h1,h2,_⟩|⟨_,h3⟩
 ·exact aO7 (h1.symm.trans hk) h2
 ·exact h3
theorem RS.nds {K L:List N3} (h:RS L) (e:nds K=nds L):RS K:=
 ⟨fun y hy=>zA e (P:=RN) h.rn y hy,C3 e h.inc,by have:aN K=aN L:=by rw [← jQ,← jQ,e]
                                                 rw [this];exact h.ring⟩
theorem St.reob9 {w0 w:World} {B:List Own} {b:Nat} {o o':Obj} (s:St w0 B w) (i:Nat) (hi:B[i]? = some (.blk b o)) (e:o=o'):St w0 (B.set i (.blk b o')) w:=by
 subst e
 have:B.set i (.blk b o)=B:=by
  apply List.ext_getElem?
  intro j
  by_cases h:i=j
  ·subst h
   rw [List.getElem?_set_self (aH4.1 hi).1,hi]
  ·rw [List.getElem?_set_ne h]
 rw [this];exact s
theorem Ge {K:List N3} {j:Nat} {x:N3} {w9:World} (h:iZ K w9) (hx:wQ w9 x):iZ (K.set j x) w9:=λy hy=>by
 rcases List.mem_or_eq_of_mem_set hy with hy|rfl
 ·exact h y hy
 ·exact hx
theorem LB {K:List N3} (h:RS K) {no:Int} (hl:dd (aN K) no=true):eQ K no<K.length/\K.getD (eQ K no) z3=kE K no/\kE K no∈K:=by
 have h1:eQ K no<K.length:=aG9 ((jy h.nos).trans hl)
 have h2:=(Cu h1).1
 exact ⟨h1,h2,by rw [← h2];exact ci h1⟩
theorem xZ {w:World} {K:List N3} {j:Nat} {T:Nd} {u v:Value} (h:iZ K w) (hj:j<K.length) (e:K.getD j z3=(T,u,v)):bs w u 33 T.sc.length (aq T.sc)/\bs w v 33 T.fg.length (aq T.fg):=by
 have h9:=h _ (ci hj)
 rw [e] at h9;exact h9
def kY (q:N3->Bool) (l:List N3) (j:Nat):List N3:=(l.take j).filter q++l.drop ((l.take j).filter q).length
def gR (q:N3->Bool) (l:List N3) (j:Nat):Nat:=((l.take j).filter q).length
theorem yc (q:N3->Bool) (l:List N3) (j:Nat):gR q l j<=j:=by
 unfold gR
 have:=aL2 q (l.take j)
 rw [aL0] at this;omega
theorem Jy (q:N3->Bool) (l:List N3) (j:Nat):gR q l j<=l.length:=by
 unfold gR
 have:=aL2 q (l.take j)
 rw [aL0] at this;omega
theorem BO (q:N3->Bool) (l:List N3) (j:Nat):(kY q l j).length=l.length:=by
 have:=Jy q l j
 unfold gR at this
 unfold kY;rw [aH7,aK2];omega
theorem I2 {q:N3->Bool} {l:List N3} {j:Nat} (hj:j<l.length):(kY q l j).getD j z3=l.getD j z3:=by
 have h1:=yc q l j
 unfold gR at h1
 unfold kY
 rw [aJ6,aK7 h1,aN8,aJ6]
 congr 2
 omega
theorem GF {q:N3->Bool} {l:List N3} {j:Nat} (hj:j<l.length) (h:q (l.getD j z3)=false):kY q l (j+1)=kY q l j/\gR q l (j+1)=gR q l j:=by
 have e:(l.take (j+1)).filter q=(l.take j).filter q:=by rw [pP hj,aO4,List.filter_cons,h];simp
 unfold kY gR;rw [e];exact ⟨rfl,rfl⟩
theorem AQ {q:N3->Bool} {l:List N3} {j:Nat} (hj:j<l.length) (h:q (l.getD j z3)=true):kY q l (j+1)=(kY q l j).set (gR q l j) (l.getD j z3)/\gR q l (j+1)=gR q l j+1:=by
 have e:(l.take (j+1)).filter q=(l.take j).filter q++[l.getD j z3]:=by rw [pP hj,aO4,List.filter_cons,h];simp
 have h1:=yc q l j
 refine ⟨?_,by unfold gR;rw [e,aH7];rfl⟩
 unfold gR at h1
 unfold kY gR
 rw [e,aH7]
 show (_++[_])++l.drop (_+1)=_
 rw [List.set_append_right _ _ (aJ1 _),Nat.sub_self,aM3]
 congr 1
 rw [List.drop_eq_getElem_cons (show ((l.take j).filter q).length<l.length by omega),List.set_cons_zero];rfl
theorem Eo {q:N3->Bool} {l:List N3} {k:Nat} (hk:k<l.length) (h:∀ i,i<k->q (l.getD i z3)=true) (hq:q (l.getD k z3)=false):kY q l (k+1)=l/\gR q l (k+1)=k:=by
 have e:(l.take k).filter q=l.take k:=by
  rw [List.filter_eq_self]
  intro x hx
  obtain ⟨i,hi,rfl⟩:=List.mem_iff_getElem.1 hx
  rw [aL0] at hi
  rw [List.getElem_take,tB (by omega)]
  exact h i (by omega)
 obtain ⟨e1,e2⟩:=GF hk hq
 rw [e1,e2]
 unfold kY gR
 rw [e,aL0,Nat.min_eq_left (by omega),aJ7]
 exact ⟨rfl,rfl⟩
theorem Jo (q:N3->Bool) (l:List N3):gR q l l.length=(l.filter q).length:=by unfold gR;rw [List.take_length]
theorem NT (q:N3->Bool) (l:List N3):kY q l l.length=l.filter q++l.drop (l.filter q).length:=by unfold kY;rw [List.take_length]
theorem PN {q:N3->Bool} {l:List N3} {k:Nat} (hk:k<l.length) (hq:q (l.getD k z3)=false):(l.filter q).length<l.length:=by
 rcases aJ4 (l.filter q).length l.length with h|h
 ·exact h
 ·have h1:=aL2 q l
  have h2:l.filter q=l:=List.filter_eq_self.2 (by
   have:=List.length_filter_eq_length_iff.1 (show (l.filter q).length=l.length by omega)
   exact this)
  have h3:=List.filter_eq_self.1 h2 _ (ci hk)
  rw [hq] at h3;cases h3
theorem En (q:N3->Bool) (l:List N3):(aI (kY q l l.length)).take ((l.filter q).length*68)=aI (l.filter q):=by
 rw [NT,jM,List.take_left' (l5 _)]
theorem Dh {l:List N3} {p:N3->Bool} (h:∀ x∈l,p x=false):(l.filter λx => !p x)=l:=List.filter_eq_self.2 λx hx=>by rw [h x hx];rfl
theorem Im (cur:List Value) (z:List Value) (q:N3->Bool) (l:List N3) (h1:cur.take (l.length*68)=aI (kY q l l.length)) (hl:l.length*68<=cur.length) (hz:z.length=(l.length - (l.filter q).length)*68) (o:Nat) (ho:o=(l.filter q).length*68) (m:Nat) (hm:m=(l.length - (l.filter q).length)*68):
 (cur.take o++z++cur.drop (o+m)).length=cur.length/\(cur.take o++z++cur.drop (o+m)).take o=aI (l.filter q):=by
 subst ho;subst hm
 have hle:=aL2 q l
 obtain ⟨e1,e2⟩:=xm cur z ((l.filter q).length*68) ((l.length - (l.filter q).length)*68) (by rw [← Nat.add_mul];rw [show (l.filter q).length+(l.length - (l.filter q).length)=l.length by omega];exact hl) hz
 refine ⟨e1,e2.trans ?_⟩
 have h9:=aH3 (List.take ((l.filter q).length*68)) h1
 rw [List.take_take,Nat.min_eq_left (Nat.mul_le_mul_right 68 hle),En] at h9
 exact h9
theorem LA {w:World} {B:List Own} {w':World} {v:Value} {M:TypeId} {l r:List N3} (h:l=r) (s:St w (.sl v M 68 l.length (aI l)::B) w'):St w (.sl v M 68 r.length (aI r)::B) w':=by subst h;exact s
theorem RY {K L:List N3} {no:Int} (hk:nds K=nds L):nds (K.filter λx => !decide (x.1.me.1=no))=sU (nds L) no:=by
 have e:(K.filter λx => !decide (x.1.me.1=no))=KW K no:=by
  unfold KW
  refine List.filter_congr λx _=>?_
  rw [decide_not]
 rw [e,Jv,hk]
theorem HI {K:List N3} {p:N3->Bool} {w9:World} (h:iZ K w9):iZ (K.filter p) w9:=λy hy=>h y (aK4.1 hy).1
def rW:Type:={x:N3 // x.2.1.oneCell'=true/\x.2.2.oneCell'=true}
instance:Inhabited rW:=⟨⟨z3,rfl,rfl⟩⟩
def tI (x:rW):List Value:=za x.1
def jj (l:List rW):List Value:=l.flatMap tI
theorem sp (x:rW):(tI x).length=68:=nu _
theorem Kw (x:rW):∀ v∈tI x,v.oneCell'=true:=cI x.2.1 x.2.2
theorem qZ (l:List rW):(jj l).length=l.length*68:=eF _ 68 sp l
theorem uR (l:List rW):jj l=aI (l.map (·.1)):=by unfold jj aI;rw [List.flatMap_map];rfl
theorem rk (d:Array rW):(flatK tI 68 d).toList=jj d.toList:=by
 apply List.ext_getElem?
 intro t
 by_cases ht:t<d.size*68
 ·have hj:t / 68<d.size:=by omega
  have hr:t % 68<68:=aO6 _ (by decide)
  have h1:(jj d.toList)[t]? = (tI d[t / 68])[t % 68]? := by
   have h2:t=t / 68*68+t % 68:=by omega
   conv=>lhs;rw [h2]
   rw [← aN8,← aN7 hr]
   unfold jj
   rw [eU _ 68 sp d.toList (t / 68) (by simpa using hj)]
   simp
  rw [h1]
  have h3:=get_flatK tI 68 d t ht
  have h4:t<(flatK tI 68 d).size:=by rw [size_flatK];exact ht
  rw [getElem!_pos _ t h4,getElem!_pos d _ hj] at h3
  rw [aN9,aO0 h4,h3]
  have h5:t % 68<(tI d[t / 68]).length:=by rw [sp];exact hr
  rw [getElem!_pos (tI d[t / 68]) (t % 68) h5,aH8 h5]
 ·rw [aM1 (by rw [aI2,size_flatK];omega),aM1 (by rw [qZ,aI2];omega)]
theorem my (w:World) (g m:Nat) (d:Array rW) (os:Array Obj):(sortWorldK tI 68 w g 0 m d os).heap=w.heap.modify g (onCells (putCells id 0 (flatK tI 68 d)))++os:=rfl
theorem yW (w:World) (g m:Nat) (d:Array rW) (os:Array Obj) {k:Nat} (hk:k<w.heap.size) (hne:k≠g):(sortWorldK tI 68 w g 0 m d os).heap[k]? = w.heap[k]? := by
 rw [my,aN3 (by rw [Array.size_modify];exact hk),Array.getElem?_modify,if_neg (λe=>hne e.symm)]
theorem CC (w:World) (g m:Nat) (d:Array rW) (os:Array Obj) {cur:Array Value} {e:TypeId} {fz:Nat × Nat} (hg:w.heap[g]? = some (.cells cur e fz)):(sortWorldK tI 68 w g 0 m d os).heap[g]? = some (.cells (putCells id 0 (flatK tI 68 d) cur) e fz):=by
 have hk:g<w.heap.size:=(aO1.1 hg).1
 rw [my,aN3 (by rw [Array.size_modify];exact hk),Array.getElem?_modify,if_pos rfl,hg]
 rfl
theorem OC {w0 w:World} {B:List Own} {v:Value} {e:TypeId} {n:Nat} {l:List rW} (s:St w0 (.sl v e 68 n (jj l)::B) w) (hl:l.length=n) (hn:1<=n):
 ∃ g cap,v=.slice (some ⟨g,0,none⟩) n cap/\g<w.heap.size/\w0.heap.size<=g/\HoldsK tI 68 w g 0 l.toArray/\
  ∀ (m:Nat) (os:Array Obj) (d:Array rW),d.size=n->St w0 (.sl v e 68 n (jj d.toList)::B) (sortWorldK tI 68 w g 0 m d os):=by
 obtain ⟨g,cap,cur,fz,rfl,hfz,hnc,hcm,hcs,htk,s⟩:=s.open_sl hn
 have hg:=s.get 0 rfl
 have hlt:g<w.heap.size:=(aO1.1 hg).1
 have hroom:n*68<=cur.size:=by rw [hcs];exact Nat.mul_le_mul_right _ hnc
 refine ⟨g,cap,rfl,hlt,s.own _ aI5 g (Own.at_blk.2 rfl),λj hj=>?_,λm os d hd=>?_⟩
 ·have hjs:j<n*68:=by rw [size_flatK] at hj;simpa [hl] using hj
  constructor
  ·rw [Nat.zero_add,cell_of_row w g j cur e fz hg]
   have h1:(flatK tI 68 l.toArray).toList=cur.toList.take (n*68):=by rw [rk,htk]
   have h2:(flatK tI 68 l.toArray).toList[j]? = cur.toList[j]? := by rw [h1,aN7 hjs]
   rw [aN9,aN9,aO0 hj] at h2
   rw [getElem!_pos _ j hj]
   exact h2.symm
  ·simp only [World.frozen?,hg,Nat.zero_add]
   obtain ⟨lo,hi⟩:=fz
   rcases hfz with h9|h9
   ·change hi=0 at h9;subst h9;simp
   ·change cur.size<=lo at h9
    have:¬ lo<=j:=by omega
    simp [this]
 ·have hF:(flatK tI 68 d).size=n*68:=by rw [size_flatK,hd]
  have s2:=s.upd 0 (w':=sortWorldK tI 68 w g 0 m d os) (p':=.blk g (.cells (putCells id 0 (flatK tI 68 d) cur) e fz)) rfl rfl rfl rfl (by rw [my];simp) (CC w g m d os hg) (λk hk=>.inl hk) (λk hk hne=>yW w g m d os hk (λe9=>hne (Own.at_blk.2 e9))) (Nat.le_add_right _ _)
  refine s2.close_sl (by rw [kG];exact hfz) hnc hcm (by rw [kG];exact hcs) ?_ ?_
  ·rw [← hF,tP _ _ (by omega),rk]
  ·rw [qZ,aI2,hd]
theorem r5 (a b:rW):ltOf (λx y:rW=>cH x.1.1.me.1 y.1.1.me.1) a b=decide (a.1.1.me.1<b.1.1.me.1):=aI3.2 (kL _ _)
theorem Ll:SWO (ltOf λx y:rW=>cH x.1.1.me.1 y.1.1.me.1) where
 irrefl x:=by rw [r5];simp
 trans x y z h1 h2:=by rw [r5] at *;simp at *;omega
 ntrans x y z h1 h2:=by rw [r5] at *;simp at *;omega
theorem HG {l:List rW} (hd:l.Pairwise λa b=>a.1.1.me.1≠b.1.1.me.1) {d:Array rW} (hp:PermIn 0 l.toArray.size l.toArray d) (hs:SortedIn (ltOf λx y:rW=>cH x.1.1.me.1 y.1.1.me.1) 0 l.toArray.size d):
 d.toList.Perm l/\d.toList.Pairwise λa b=>a.1.1.me.1<b.1.1.me.1:=by
 obtain ⟨hsz,_,hpm⟩:=hp
 have e1:d.extract 0 l.toArray.size=d:=by rw [← hsz];exact Array.extract_size
 rw [e1,Array.extract_size] at hpm
 have hpl:d.toList.Perm l:=by first|exact hpm|exact hpm.symm|exact hpm.toList|exact hpm.toList.symm
 have hd2:d.toList.Pairwise λa b=>a.1.1.me.1≠b.1.1.me.1:=(hpl.pairwise_iff (λh=>λe=>h e.symm)).2 hd
 refine ⟨hpl,?_⟩
 rw [List.pairwise_iff_getElem] at hd2 ⊢
 intro i j hi hj hij
 have hi':i<d.size:=by simpa using hi
 have hj':j<d.size:=by simpa using hj
 have h1:=hs i j (aJ3 _) hij (by omega)
 rw [getElem!_pos d j hj',getElem!_pos d i hi',r5] at h1
 have h2:=hd2 i j hi hj hij
 have h3:=aH0 h1
 simp only [Array.getElem_toList] at h2 ⊢
 omega
def WQ (L:List N3) (h:∀ x∈L,x.2.1.oneCell'=true/\x.2.2.oneCell'=true):List rW:=L.attach.map λx=>(⟨x.1,h x.1 x.2⟩:rW)
theorem Ag (L:List N3) (h:∀ x∈L,x.2.1.oneCell'=true/\x.2.2.oneCell'=true):(WQ L h).map (·.1)=L:=by
 refine(List.map_map (f:=λx:{x // x∈L}=>(⟨x.1,h x.1 x.2⟩:rW)) (g:=λx:rW=>x.1) (l:=L.attach)).trans ?_
 exact List.attach_map_subtype_val L
theorem OL (L:List N3) (h:∀ x∈L,x.2.1.oneCell'=true/\x.2.2.oneCell'=true):(WQ L h).length=L.length:=by
 have:=aH3 List.length (Ag L h);simpa using this
theorem LF {L:List rW} {R:N3->N3->Prop}:(L.map (·.1)).Pairwise R↔L.Pairwise λa b=>R a.1 b.1:=List.pairwise_map
def ZM (w:World) (N:TypeId) (L:List N3) (no:Int):ez:=λv w9=>
 (∃ k,cE L no=k/\k≠0/\v=.tuple #[.agg #[ax],.int .i64 k]) ∨
 (cE L no=0/\∃ vq K ks,v=.tuple #[.agg #[vq],.int .i64 0]/\nds K=sU (nds L) no/\St w [.sl vq N 68 K.length (aI K),.grp ks (iZ K)] w9)
theorem ZM.n {w w9:World} {N:TypeId} {L:List N3} {no k:Int} {v:Value} (h:ZM w N L no v w9) (hk:cE L no=k) (h0:k≠0):v=.tuple #[.agg #[ax],.int .i64 k]:=by
 rcases h with ⟨q,h1,_,h3⟩|⟨h1,_⟩
 ·rw [h3,← h1,hk]
 ·exact aO7 (hk.symm.trans h1) h0
theorem ZM.y {w w9:World} {N:TypeId} {L:List N3} {no:Int} {v:Value} (h:ZM w N L no v w9) (hk:cE L no=0):∃ vq K ks,v=.tuple #[.agg #[vq],.int .i64 0]/\nds K=sU (nds L) no/\St w [.sl vq N 68 K.length (aI K),.grp ks (iZ K)] w9:=by
 rcases h with ⟨q,h1,h2,_⟩|⟨_,h3⟩
 ·exact aO7 (h1.symm.trans hk) h2
 ·exact h3
def cR (n g:Nd):Nd:=⟨n.me,US n [g.me.1],wC (jI n.sc [g.me.1] n.me.1) n.me,jI n.fg [g.me.1] n.me.1⟩
theorem XT {n g:Nd} (h:RN n):Yn n [g.me.1]=cR n g/\Yv n=0:=by
 have hr:=AK [g.me.1] (D2.2 h)
 refine ⟨hr.1.trans ?_,hr.2⟩
 unfold cR
 rw [PJ h,SO h,RP h]
def EH (l:List Mb) (no:Int) (m:Mb):Bool:=decide (m.1≠no) && dd l m.1
theorem D0 (l:List Mb) (no:Int):EH l no=Zj l no:=by funext m;unfold EH Zj;exact Bool.and_comm _ _
theorem ak0 {l:List Mb} {no:Int} {m:Mb} (h:decide (m.1≠no)=false):EH l no m=false:=by unfold EH;rw [h];rfl
theorem Uq {l:List Mb} {no:Int} {m:Mb} (h:decide (m.1≠no)=true):EH l no m=dd l m.1:=by unfold EH;rw [h];rfl
def fU (l:List Mb) (n g:Nd):List Mb:=g.sc.filter (EH l n.me.1)
theorem J8 (l:List Mb) (n g:Nd):fU l n g=Zm l n.me.1 g:=by unfold fU Zm;rw [D0]
theorem Ko {l:List Mb} {n g:Nd} (h0:decide (n.sc=[g.me])=true) (h1:0<(fU l n g).length):Tw l n g=fU l n g:=by
 have h2:=aG9 h0
 rw [J8] at h1 ⊢
 unfold Tw tlC
 rw [h2,aH2 h1,aH2 (show [g.me].length=1 from rfl),aH2 (show [g.me].getD 0 bH=g.me from rfl)];rfl
theorem DP {l:List Mb} {n g:Nd} (h0:decide (n.sc=[g.me])=false):Tw l n g=wC (jI n.sc [g.me.1] n.me.1) n.me:=by
 have h2:(decide (n.sc.length=1) && (decide (n.sc.getD 0 bH=g.me) && decide (0<(Zm l n.me.1 g).length)))=false:=by
  rw [← Bool.not_eq_true]
  intro h
  simp only [aH5,aI0] at h
  refine aH0 h0 ?_
  match hs:n.sc,h.1 with
  |[x],_=>have:=h.2.1;rw [hs] at this;rw [show x=g.me from this]
 unfold Tw tlC
 rw [h2];rfl
theorem Ex {l:List Mb} {n g:Nd} (h1:¬ 0<(fU l n g).length):Tw l n g=wC (jI n.sc [g.me.1] n.me.1) n.me:=by
 rw [J8] at h1
 unfold Tw tlC
 rw [aH1 h1,Bool.and_false,Bool.and_false];rfl
theorem Oc {l:List Mb} {n g:Nd} (h0:decide (n.pr=g.me)=true) (h1:EH l n.me.1 g.pr=true):Ta l n g=g.pr:=by
 rw [D0] at h1;unfold Zj at h1
 unfold Ta tlD
 rw [h0,h1];rfl
theorem CZ {l:List Mb} {n g:Nd} (h0:decide (n.pr=g.me)=false):Ta l n g=US n [g.me.1]:=by unfold Ta tlD;rw [h0];rfl
theorem Ef {l:List Mb} {n g:Nd} (h1:EH l n.me.1 g.pr=false):Ta l n g=US n [g.me.1]:=by
 rw [D0] at h1;unfold Zj at h1
 unfold Ta tlD
 rw [h1,Bool.and_false];rfl
theorem kV {l:List Mb} {n g:Nd} {p:Mb} {s:List Mb} (hp:Ta l n g=p) (hs:Tw l n g=s):Hi l n g=⟨n.me,p,s,(cR n g).fg⟩:=by unfold Hi;rw [hp,hs];rfl
theorem s66 {K:List N3} {j:Nat} (hj:j<K.length) (N:Nd) (u v V:Value) (l:List Mb):(aI (K.set j ((N,u,v):N3))).set (j*68+66) V=aI (K.set j ((⟨N.me,N.pr,l,N.fg⟩,V,v):N3)):=by
 rw [tZ (by rw [List.length_set];exact hj) V l,fD hj,lS]
theorem s33 {K:List N3} {j:Nat} (hj:j<K.length) (N:Nd) (u v:Value) (q:Mb):(aI (K.set j ((N,u,v):N3))).take (j*68+33)++(ar q).toList++(aI (K.set j ((N,u,v):N3))).drop (j*68+33+33)=aI (K.set j ((⟨N.me,q,N.sc,N.fg⟩,u,v):N3)):=by
 rw [RQ (by rw [List.length_set];exact hj) q,fD hj,lS]
theorem Gh {l:List Mb} {p:Mb->Bool} {k:Nat} (hk:k<l.length) (h:p (l.getD k bH)=true):(l.take (k+1)).filter p=(l.take k).filter p++[l.getD k bH]:=by rw [wy hk,aO4,List.filter_cons,h];simp
theorem EM {l:List Mb} {p:Mb->Bool} {k:Nat} (hk:k<l.length) (h:p (l.getD k bH)=false):(l.take (k+1)).filter p=(l.take k).filter p:=by rw [wy hk,aO4,List.filter_cons,h];simp
theorem Af (l:List Mb) (p:Mb->Bool) (k:Nat):((l.take k).filter p).length<=l.length:=aM5 (aL2 _ _) (by rw [aL0];omega)
def tM (E:List Nd) (l:List Mb) (g:Nd) (d:Nat):List Nd:=(E.take d).map (λy=>Hi l y g)++E.drop d
theorem Gp (E:List Nd) (l:List Mb) (g:Nd) (d:Nat):(tM E l g d).length=E.length:=by unfold tM;rw [aH7,aL1,aL0,aK2];omega
theorem PY (E:List Nd) (l:List Mb) (g:Nd):tM E l g E.length=E.map λy=>Hi l y g:=by unfold tM;rw [List.take_length,List.drop_length,aM4]
theorem Wo {K K0:List N3} {l:List Mb} {g:Nd} {d:Nat} (h:nds K=tM (nds K0) l g d) (hd:d<K0.length):d<K.length/\(K.getD d z3).1=(K0.getD d z3).1:=by
 have hl:K.length=K0.length:=by have:=aH3 List.length h;rw [Gp] at this;simpa [nds] using this
 have hdk:d<K.length:=by omega
 refine ⟨hdk,?_⟩
 have h9:=aH3 (λE:List Nd=>E[d]?) h
 simp only [nds,tM,aM0] at h9
 rw [aK7 (by rw [aL1,aL0,aL1];omega),aL1,aL0,aL1,Nat.min_eq_left (by omega),Nat.sub_self,aN8,Nat.add_zero,aM0,aH8 hdk,aH8 hd] at h9
 simp only [Option.map_some,Option.some.injEq] at h9
 rw [← tB hdk,← tB hd];exact h9
theorem LD {K K0:List N3} {l:List Mb} {g:Nd} {d:Nat} {x:N3} (h:nds K=tM (nds K0) l g d) (hd:d<K0.length) (hx:x.1=Hi l (K0.getD d z3).1 g):nds (K.set d x)=tM (nds K0) l g (d+1):=by
 have e1:nds (K.set d x)=(nds K).set d x.1:=by unfold nds;rw [List.map_set]
 have hl:d<(nds K0).length:=by unfold nds;rw [aL1];exact hd
 rw [e1,h,hx]
 unfold tM
 rw [List.set_append_right _ _ (by rw [aL1,aL0];omega),aL1,aL0,Nat.min_eq_left (by omega),Nat.sub_self,List.drop_eq_getElem_cons hl,List.set_cons_zero,List.take_succ_eq_append_getElem hl,aO5,aM3]
 congr 1
 have:(nds K0)[d]=(K0.getD d z3).1:=by unfold nds;rw [List.getElem_map,tB hd]
 rw [this];rfl
theorem W1 {K K0 L:List N3} {no:Int} (h0:nds K0=sU (nds L) no) (h:nds K=tM (nds K0) (aN K0) (kE L no).1 K0.length):nds K=ja (nds L) no:=by
 have e:K0.length=(nds K0).length:=by unfold nds;rw [aL1]
 rw [h,e,PY,h0]
 unfold ja
 rw [← FS]
 have:aN K0=dO (sU (nds L) no):=by rw [← h0,jQ]
 rw [this]
theorem su {K:List N3} {j:Nat} {x y:N3} {w9:World} (h:iZ (K.set j x) w9) (hy:wQ w9 y):iZ (K.set j y) w9:=by
 have h9:=Ge (j:=j) h hy
 rwa [lS] at h9
theorem RS.wos {L:List N3} (h:RS L) (no:Int):RS (KW L no):=
 ⟨λx hx=>h.rn x (aK4.1 hx).1,h.inc.sublist List.filter_sublist,h.ring.sub ((List.filter_sublist (l:=L)).map _)⟩
theorem RS.wosn {K L:List N3} {no:Int} (h:RS L) (e:Go.Proofs.YthmlflaiidhoiaaGreatDoor.nds K=sU (Go.Proofs.YthmlflaiidhoiaaGreatDoor.nds L) no):RS K:=(h.wos no).nds (by rw [e,Jv])
end Go.Proofs.YthmlflaiidhoiaaGreatDoor
