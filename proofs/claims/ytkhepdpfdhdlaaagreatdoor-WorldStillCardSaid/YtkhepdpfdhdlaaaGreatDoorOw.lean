/- Own overlays, changed in place: own rows that are sorted; ranges over functions within a round; regions that draw their order, in which what was there ahead may be read; sets; what the package asks of overlays and the reference asks too; no Go in it. -/
import Derived.Shelf.SlSortCmp.WholeK
import Derived.Test.YtkhepdpfdhdlaaaGreatDoorOv
set_option linter.unusedVariables false
set_option linter.unusedSimpArgs false
set_option linter.unusedSectionVars false
namespace Go.Proofs.YtkhepdpfdhdlaaaGreatDoor
open Go.RowKit Go.Sort
theorem nB (F c:Array Value):(putCells id 0 F c).size=c.size:=by simp [putCells]
theorem zd (F c:Array Value) (h:F.size<=c.size):(putCells id 0 F c).toList.take F.size=F.toList:=by
 apply List.ext_getElem?
 intro t
 by_cases ht:t<F.size
 ·rw [ay2 ht,ay4,ay4]
  unfold putCells
  rw [Array.getElem?_mapIdx,ay5 (by omega),Option.map_some,if_pos ⟨at8 _,by omega⟩,ay5 ht,Nat.sub_zero,getElem!_pos F t ht]
  rfl
 ·rw [aw6 (by rw [av5];omega),aw6 (by rw [as7];omega)]
theorem vV {W w':World} (h:Ext W w'):∃ q os',w'=grow (W.drewN q) os':=by
 refine ⟨w'.drawn - W.drawn,w'.heap.extract W.heap.size w'.heap.size,?_⟩
 have hh:w'.heap=W.heap++w'.heap.extract W.heap.size w'.heap.size:=by
  apply Array.ext_getElem?
  intro k
  rw [Array.getElem?_append]
  by_cases hk:k<W.heap.size
  ·rw [if_pos hk];exact h.block k hk
  ·rw [if_neg hk,Array.getElem?_extract]
   by_cases h2:k<w'.heap.size
   ·rw [if_pos (by omega)];congr 1;omega
   ·rw [if_neg (by omega),au5 (by omega)]
 have h1:=h.os
 have h2:=h.tape
 have h3:=h.output
 have h4:=h.drawn
 obtain ⟨hp,tp,dr,o,ou⟩:=w'
 obtain ⟨hp2,tp2,dr2,o2,ou2⟩:=W
 simp only at h1 h2 h3 h4 hh
 subst h1;subst h2;subst h3
 have h5:dr2+(dr - dr2)=dr:=by omega
 simp only [grow,World.drewN,h5]
 rw [← hh]
theorem St.memSl {w0 w:World} {B:List Own} {v:Value} {e:TypeId} {sz n:Nat} {xs:List Value} (s:St w0 B w) (h:Own.sl v e sz n xs∈B):cI w w0.heap.size e sz v n xs:=by
 obtain ⟨i,hi⟩:=List.mem_iff_getElem?.1 h
 exact s.getSl i hi
theorem yq {P:Program} {l0:Nat} {r0:Loop} {w:World} (h:w.heap[l0]? = some (.loop r0)) (fn:FuncId) (tmps:Array Value) (ps:Array Tmp) (assign body:Code):
 (Instr.enterLoop fn tmps ps assign body (some l0)).run P w=.ok (w.heap.size,[]) (w.alloc (.loop {state:=.ready,pending:=none,fn,tmps,params:=ps,assign,body,defers:=r0.defers})):=by
 unfold Instr.enterLoop
 simp only [aw2,run_getLoop h,run_newObj_alloc,Result.andThen,aw3]
theorem Jy {P:Program} {N lo:Nat} {ro:Loop} {a:Act} {L:List (Nat × Value)} {Df:List Deferred} {w w0:World} {B:List Own} {g:Operand} {ps:Array Tmp} {assign body:Code} {f:FuncId} {lb:Array Value} {Q:Exit->Act->World->Prop}
 (J:Nat->List Own->Prop) (A0:List Own) (X:List Own) (m:Nat) (q:Nat->Bool) (arg:Nat->List Value) (h:Sl N a L Df) (s:St w0 B w) (hg:ep L g=some (.func (.func f) #[] lb)) (hf:Fnc P f) (io:Nat) (hio:B[io]? = some (.blk lo (.loop ro)))
 (hB:B.Perm (X++A0)) (hJ0:J 0 A0) (hps:∀ d,(arg d).length=ps.size)
 (hiter:∀ (l:Nat) (w1:World) (GG:Nat->Own->Prop) (g0:Own),GG 0 g0->St w0 (X++[g0]) w1->
  (∀ (d:Nat) (B':List Own) (w':World) (i:Nat) (g:Own),d<m->(∀ j,j<d->q j=false)->GG d g->St w0 B' w'->B'[i]? = some g->lf P l (arg d).toArray w' (λv w''=>v=.bool (!q d)/\∃ g',GG (d+1) g'/\St w0 (B'.set i g') w''))->
  Calls P f (#[.func (.yield l) #[] #[]]++lb) w1 (λe w'=>(∃ v,e=.returned v)/\∃ d g,GG d g/\St w0 (X++[g]) w'/\d<=m/\(∀ j,j+1<d->q j=false)/\(lq q d=false->d=m)))
 (hround:∀ (l d:Nat) (rc:LoopState->Loop) (R A:List Own) (w1:World),d<m->(∀ j,j<d->q j=false)->J d A->St w0 (.blk l (.loop (rc .ready))::(A++R)) w1->
  assign.wpIn (FR (some l)) 0 P (Exit.then (λa1 w2=>∃ X1,St w0 (.blk l (.loop (rc .ready))::X1) w2/\∀ w3,St w0 (.blk l (.loop (rc .busy))::X1) w3->body.wpIn (FR (some l)) 0 P
   (λe _ w4=>JJ (q d) e/\∃ A',J (d+1) A'/\St w0 (.blk l (.loop (rc .busy))::(A'++R)) w4) a1 w3) (λ_ _ _=>False))
   {tmps:=(ps.zip (arg d).toArray).foldl (λt (p,v)=>t.setIfInBounds p v) a.tmps,defers:=[]} w1)
 (hdone:∀ (A:List Own) (w2:World),J m A->(∀ j,j<m->q j=false)->St w0 (X++A) w2->Q .normal a w2)
 (hleft:∀ (d:Nat) (A:List Own) (w2:World),d<m->q d=true->(∀ j,j<d->q j=false)->J (d+1) A->St w0 (X++A) w2->Q .ret a w2):
 (Code.rangeFunc g ps assign body).wpIn (FR (some lo)) 0 P Q a w:=by
 refine wpIn_rangeFunc (F:=FR (some lo)) λfn _=>?_
 obtain ⟨rq,hrq⟩:∃ rq,rq=λpe st=>jw a ro.defers fn ps assign body pe st:=⟨_,rfl⟩
 obtain ⟨cC,e1,e2,e3⟩:=hf.has
 have hl0:jw a ro.defers fn ps assign body none .ready=rq none .ready:=by rw [hrq]
 refine ⟨w.heap.size,[],w.alloc (.loop (rq none .ready)),{target:=.fn (.func f) lb,args:=#[.func (.yield w.heap.size) #[] #[]]},w.alloc (.loop (rq none .ready)),f,
  #[.func (.yield w.heap.size) #[] #[]]++lb,w.alloc (.loop (rq none .ready)),?_,?_,λ_ _=>trivial,?_,(λhh=>by cases hh),?_⟩
 ·rw [hrq];exact yq (s.get io hio) _ _ _ _ _
 ·simp only [resolve,h.ev hg]
  simp [go_sem]
 ·simp only [invoke];exact fP e1 e2 e3 _ _
 have s1:St w0 (.blk w.heap.size (.loop (rq none .ready))::B) (w.alloc (.loop (rq none .ready))):=s.new (.loop (rq none .ready))
 have s2:St w0 ((.blk w.heap.size (.loop (rq none .ready))::A0)++X) (w.alloc (.loop (rq none .ready))):=
  s1.perm ((hB.trans List.perm_append_comm).cons _)
 have hnd0:=fR s2
 have s3:=s2.group
 refine callsIn_wide.2 ((hiter w.heap.size _ (λd g=>∃ A,J d A/\g=.all w0 (.blk w.heap.size (.loop (rq (ue (lq q d)) (qi (lq q d))))::A)/\
  (Own.blk w.heap.size (.loop (rq (ue (lq q d)) (qi (lq q d))))::A).Pairwise λp q=>∀ k,p.at k->¬ q.at k)
  _ ⟨A0,hJ0,rfl,hnd0⟩ (s3.perm (List.perm_append_comm (l₁:=[_]))) ?_).mono ?_)
 ·rintro d B' w' i g hd mW ⟨A,hJ,rfl,hnd⟩ s' hi
  have hlq:lq q d=false:=by cases d with|zero=>rfl|succ d=>exact mW d (Nat.lt_succ_self d)
  rw [hlq] at hi hnd
  have hil:=(ar9.1 hi).1
  have s4:St w0 ((.blk w.heap.size (.loop (rq none .ready))::A)++B'.eraseIdx i) w':=(s'.perm (mJ hi)).ungroup hnd
  have hl:=s4.get 0 rfl
  have hy:=run_yield (P:=P) (args:=(arg d).toArray) hl (by rw [hrq,List.size_toArray];exact hps d)
  refine ⟨_,_,_,_,hy,?_⟩
  have hw:=hround w.heap.size d (rq none) (B'.eraseIdx i) A w' hd mW hJ (by simpa using s4)
  subst hrq
  refine roundIn_of_wpIn (F:=Fence.wide) (n:=0) trivial (Go.wpIn_mono hw ?_)
  intro e a1 w2 he
  cases e with
  |normal=>
   obtain ⟨X1,s5,hb⟩:=he
   refine ⟨_,run_beginRound (s5.get 0 rfl) rfl,Go.wpIn_mono (hb _ (s5.putObj 0 rfl _)) ?_⟩
   rintro e2 a3 w4 ⟨hle,A',hJ',s6⟩
   have key:∀ (jump:Option Code),jump=ue (q d)->∃ v w',(Instr.endRound w.heap.size jump).run P w4=.ok v w'/\∃ u,Ending.returned v=.returned u/\u=.bool (!q d)/\∃ g',(∃ A,J (d+1) A/\g'=Own.all w0 (.blk w.heap.size (.loop (jw a ro.defers fn ps assign body (ue (q d)) (qi (q d))))::A)/\
    (Own.blk w.heap.size (.loop (jw a ro.defers fn ps assign body (ue (q d)) (qi (q d))))::A).Pairwise λp q=>∀ k,p.at k->¬ q.at k)/\St w0 (B'.set i g') w':=by
    rintro jump rfl
    refine ⟨_,_,run_endRound _ (s6.get 0 rfl),_,rfl,(by cases q d<;>rfl),_,⟨A',hJ',rfl,?_⟩,?_⟩
    ·have hn:=fR (A:=.blk w.heap.size (.loop (jw a ro.defers fn ps assign body none .busy))::A') (R:=B'.eraseIdx i) (by simpa using s6)
     exact zr (A:=.blk w.heap.size (.loop (jw a ro.defers fn ps assign body none .busy))::A') rfl hn
    ·have s7:=s6.putObj 0 rfl (.loop (jw a ro.defers fn ps assign body (ue (q d)) (qi (q d))))
     have s8:St w0 ((.blk w.heap.size (.loop (jw a ro.defers fn ps assign body (ue (q d)) (qi (q d))))::A')++B'.eraseIdx i) _:=s7
     have s9:=s8.group.perm (tR hil _)
     cases hqd:q d<;>rw [hqd] at s9<;>exact s9
   cases e2 with
   |normal=>exact key none (by rw [show q d=false from hle];rfl)
   |ret=>exact key (some .ret) (by rw [show q d=true from hle];rfl)
   |exit _=>exact hle.elim
   |goto _=>exact hle.elim
   |panic _=>exact hle.elim
   |outgrown=>exact hle.elim
  |ret=>exact he.elim
  |exit _=>exact he.elim
  |goto _=>exact he.elim
  |panic _=>exact he.elim
  |outgrown=>exact he.elim
 ·rintro e w2 ⟨⟨v,rfl⟩,d,g,⟨A,hJ,rfl,hnd⟩,s4,hdm,mW,hend⟩
  have s5:St w0 ((.blk w.heap.size (.loop (rq (ue (lq q d)) (qi (lq q d))))::A)++X) w2:=(s4.perm (List.perm_append_comm (l₂:=[_]))).ungroup hnd
  have hl:=s5.get 0 rfl
  subst hrq
  refine ⟨ue (lq q d),_,run_endLoop hl (by cases lq q d<;>simp [jw,qi]),?_⟩
  have s6:=s5.putObj 0 rfl (.loop {jw a ro.defers fn ps assign body (ue (lq q d)) (qi (lq q d)) with state:=.exhausted})
  have s7:=(s6.pick (A++X) (at7 _ _)).perm List.perm_append_comm
  cases hqd:lq q d with
  |false=>
   obtain rfl:=hend hqd
   refine hdone A _ hJ (λj hj=>?_) (by rw [hqd] at s7;exact s7)
   by_cases h1:j+1<d
   ·exact mW j h1
   ·have:d=j+1:=by omega
    subst this;exact hqd
  |true=>
   cases d with
   |zero=>cases hqd
   |succ d=>
    refine av8 ?_
    exact hleft d A _ (by omega) hqd (λj hj=>mW j (by omega)) hJ (by rw [hqd] at s7;exact s7)
section
variable {P:Program} {ops:Array Oper} {Q:Act->World->Prop} {l:List Oper} {a:Act} {w w0:World} {N:Nat} {L:List (Nat × Value)} {Df:List Deferred} {B:List Own} {d:Tmp} {ty:TypeId} {pos:String} {af:Array Edge} {x y z:Operand} {t e:TypeId}
theorem tG {v u9:Value} {sz n p:Nat} {xs ys D:List Value} (i:Nat) (h:Sl N a L Df) (s:St w0 B w) (hx:ep L x=some (.pointer (some (bC v p)))) (hy:ep L y=some u9) (hi:B[i]? = some (.sl v e sz n xs)) (hp:p+D.length<=n*sz) (h1:0<D.length) (hv:∀ u∈D,u.oneCell'=true)
 (hst:∀ (g:Nat) (w9:World) (cur:Array Value) (fz:Nat × Nat),w9.heap[g]? = some (.cells cur e fz)->(fz.2=0∨cur.size<=fz.1)->p+D.length<=cur.size->(storeVar t ⟨g,p,none⟩ u9).run P w9=.ok () (w9.setRow g (cur.toList.take p++D++cur.toList.drop (p+D.length)).toArray))
 (hys:xs.take p++D++xs.drop (p+D.length)=ys)
 (k:∀ w',St w0 (B.set i (.sl v e sz n ys)) w'->cB P ops Q l a w'):cB P ops Q (⟨none,.store t x y,ty,pos,af,none⟩::l) a w:=by
 have ho:=s.getSl i hi
 rcases ho.2 with ⟨_,h0⟩|⟨g,cap,cur,fz,rfl,hb,hg,hfz,hnc,hcm,hcs,htk⟩
 ·subst h0;omega
 ·have hcl:n*sz<=cur.size:=by rw [hcs];exact Nat.mul_le_mul_right _ hnc
  have hxl:xs.length=n*sz:=ho.1
  have hcx:cur.toList=xs++cur.toList.drop (n*sz):=by rw [← htk];exact(au2 _ _).symm
  have hyl:ys.length=n*sz:=by
   rw [← hys];simp only [as2,av5,au7];omega
  have hnew:cur.toList.take p++D++cur.toList.drop (p+D.length)=ys++cur.toList.drop (n*sz):=by
   rw [← hys]
   conv=>lhs;rw [hcx]
   rw [List.take_append_of_le_length (by omega),List.drop_append_of_le_length (by omega)]
   simp only [aw8]
  have hel:(some (bC (Value.slice (some ⟨g,0,none⟩) n cap) p):Option Addr)=some ⟨g,p,none⟩:=by show some (Addr.add _ _)=_;rw [Addr.add_lit,Nat.zero_add]
  have hstr:=hst g w cur fz hg hfz (by omega)
  rw [hnew] at hstr
  have hsz:(ys++cur.toList.drop (n*sz)).toArray.size=cur.size:=by
   rw [List.size_toArray,as2,au7,hyl];have:=as7 (xs:=cur);omega
  refine iZ (R:=λ_ w'=>w'=w.setRow g (ys++cur.toList.drop (n*sz)).toArray) ?_ λw' _ hw=>by
   subst hw
   refine k _ (s.upd i hi (p':=.sl _ e sz n ys) rfl rfl rfl (by simp) ⟨hyl,.inr ⟨g,cap,_,fz,rfl,hb,setRow_heap w g cur _ e fz hg,?_,hnc,hcm,?_,?_⟩⟩ (λk hk=>.inl hk) (λk hk hne=>setRow_other w g k _ λe9=>hne (Own.at_sl.2 (by simp [Value.ownBlock,e9]))))
   ·rw [hsz];exact hfz
   ·rw [hsz];exact hcs
   ·show (ys++cur.toList.drop (n*sz)).take (n*sz)=ys
    rw [← hyl];exact List.take_left
  unfold dh
  rw [hel] at hx
  simp only [execOp,h.ev hx,h.ev hy,Instr.storeAt,Instr.sureAddr,aw2,aw3,as4,hstr]
theorem eP {v V:Value} {sz n p:Nat} {xs ys:List Value} (i:Nat) (h:Sl N a L Df) (s:St w0 B w) (ho:One P t) (hx:ep L x=some (.pointer (some (bC v p)))) (hy:ep L y=some V) (hi:B[i]? = some (.sl v e sz n xs)) (hp:p+1<=n*sz) (hv:V.oneCell'=true)
 (hys:xs.set p V=ys)
 (k:∀ w',St w0 (B.set i (.sl v e sz n ys)) w'->cB P ops Q l a w'):cB P ops Q (⟨none,.store t x y,ty,pos,af,none⟩::l) a w:=by
 have hxl:xs.length=n*sz:=(s.getSl i hi).1
 refine tG (D:=[V]) i h s hx hy hi hp (by simp) (λu hu=>by rw [as9] at hu;subst hu;exact hv) (λg w9 cur fz hg hfz hc=>?_) (by rw [← hys];simp only [av0,av1,Nat.zero_add];rw [List.set_eq_take_append_cons_drop,if_pos (by omega)];simp) k
 have hs:(sizeOf t).run P w9=.ok 1 w9:=by
  cases hq:P.info? t with
  |none=>have:=ho.size;simp [hq] at this
  |some i=>have:=ho.size;simp [hq] at this;simp [sizeOf,typeInfo,aw2,hq,this]
 have hc1:V.cells=#[V]:=by
  cases V<;>first|rfl|(simp [Value.oneCell'] at hv)
 have:=dp P g p e fz [V] 0 cur w9 hg hfz (by simpa using hc) (λu hu=>by rw [as9] at hu;subst hu;exact hv)
 simp only [Nat.add_zero,av0,av1,Nat.zero_add] at this
 simp [storeVar,aw2,hs,hc1,this]
theorem L4 {b c:Nat} {es:Array MapEntry} {n:Int} {V:Value} {kt et:TypeId} (i:Nat) (h:Sl N a L Df) (s:St w0 B w) (ht:P.underlying t=some (.map kt et)) (hk:P.underlying kt=some (.int .i64))
 (hx:ep L x=some (.map (some b))) (hy:ep L y=some (.int .i64 n)) (hz:ep L z=some V) (hi:B[i]? = some (.blk b (.map es c))) (hf:Instr.findNow (.int .i64) (.int .i64 n) es.toList 0=some none)
 (k:∀ w',St w0 (B.set i (.blk b (.map (es.push {key:=.int .i64 n,val:=V,born:=c}) (c+1)))) w'->cB P ops Q l a w'):cB P ops Q (⟨none,.mapUpdate t x y z,ty,pos,af,none⟩::l) a w:=by
 have hb:=s.get i hi
 have hrun:(Instr.mapUpdate t (.map (some b)) (.int .i64 n) V).run P w=.ok () (w.putObj b (.map (es.push {key:=.int .i64 n,val:=V,born:=c}) (c+1))):=by
  simp [Instr.mapUpdate,as6 ht,MapKept.run_getObj_map hb,MapKept.run_checkKey hk (show MapKept.IsKey (.int .i64) (.int .i64 n) from rfl),MapKept.run_findKey hk hf,MapKept.run_setObj_map _ hb,Result.andThen,World.putObj]
 refine iZ (R:=λv' w'=>w'=w.putObj b (.map (es.push {key:=.int .i64 n,val:=V,born:=c}) (c+1))) ?_ λw' v' hw=>by subst hw;exact k _ (s.putObj i hi _)
 simp [dh,execOp,h.ev hx,h.ev hy,h.ev hz,hrun,Result.andThen]
theorem A7 {b c:Nat} {es:Array MapEntry} {n:Int} {Z V:Value} {ok:Bool} {kt et:TypeId} (h:Sl N a L Df) (hb:w.heap[b]? = some (.map es c)) (ht:P.underlying t=some (.map kt et)) (hk:P.underlying kt=some (.int .i64)) (hZ:(P.info? et).bind (·.zero)=some Z)
 (hx:ep L x=some (.map (some b))) (hy:ep L y=some (.int .i64 n))
 (hf:(∃ j,Instr.findNow (.int .i64) (.int .i64 n) es.toList 0=some (some (j,V))/\ok=true)∨(Instr.findNow (.int .i64) (.int .i64 n) es.toList 0=some none/\V=Z/\ok=false)) (hd:Nat.blt d N=true)
 (k:∀ a',Sl N a' ((d,.tuple #[V,.bool ok])::L) Df->cB P ops Q l a' w):cB P ops Q (⟨some d,.lookup t x y true,ty,pos,af,none⟩::l) a w:=by
 have hzr:(zeroValue et).run P w=.ok Z w:=by
  cases hi9:P.info? et with
  |none=>simp [hi9] at hZ
  |some info=>simp [hi9] at hZ;simp [zeroValue,typeInfo,hi9,hZ,Result.andThen]
 have hrun:(Instr.lookup t (.map (some b)) (.int .i64 n) true).run P w=.ok (.tuple #[V,.bool ok]) w:=by
  rcases hf with ⟨j,hf,rfl⟩|⟨hf,rfl,rfl⟩
  ·simp [Instr.lookup,as6 ht,MapKept.run_getObj_map hb,MapKept.run_checkKey hk (show MapKept.IsKey (.int .i64) (.int .i64 n) from rfl),MapKept.run_findKey hk hf,Result.andThen]
  ·simp [Instr.lookup,as6 ht,MapKept.run_getObj_map hb,MapKept.run_checkKey hk (show MapKept.IsKey (.int .i64) (.int .i64 n) from rfl),MapKept.run_findKey hk hf,hzr,Result.andThen]
 refine dW h (R:=λv w'=>v=.tuple #[V,.bool ok]/\w'=w) ?_ hd λa' w' v ⟨hv,hw⟩ h'=>by subst hv;subst hw;exact k _ h'
 simp [dh,execOp,h.ev hx,h.ev hy,hrun,Result.andThen]
end
theorem fX {P:Program} {e:TypeId} {sz by_:Nat} (h:((P.info? e).bind λi=>i.zero.map λz=>(i.size,i.bytes,z.cells.size))=some (sz,by_,sz)) (h0:0<sz):Elm P e sz by_:=by
 cases hi:P.info? e with
 |none=>rw [hi] at h;simp at h
 |some i=>
  rw [hi] at h
  cases hz:i.zero with
  |none=>simp [hz] at h
  |some z=>
   simp only [Option.bind_some,hz,Option.map_some,Option.some.injEq,ax3] at h
   exact ⟨⟨i,z,hi,hz,h.1,h.2.1,h.2.2⟩,h0⟩
section
variable {P:Program} {ρ:Operand->Value} {d:Option Tmp} {ty:TypeId} {pos:String} {af:Array Edge} {g:Option (Nat × Bool)} {x y:Operand} {t t' e:TypeId}
theorem Lj {w:World} (ht:P.underlying t=some (.pointer e)) (q:Option Addr) (n:Nat):(Op.equalIn (n+1) t (.pointer q) (.pointer none)).run P w=.ok q.isNone w:=by
 cases q<;>simp [Op.equalIn,as6 ht]
theorem tS {w:World} (ht:P.underlying t=some (.pointer e)) (q:Option Addr):(Op.equal t (.pointer q) (.pointer none)).run P w=.ok q.isNone w:=Lj ht q 9999
theorem i5 {q:Option Addr} (ht:P.underlying t=some (.pointer e)) (hx:ρ x=.pointer q) (hy:ρ y=.pointer none):a7 P ⟨d,.binOp .eql t x y t',ty,pos,af,g⟩ ρ (.bool q.isNone):=λw=>by
 simp [execOp,hx,hy,eqGuard,binOp,tS ht,Result.andThen]
theorem eN {q:Option Addr} (ht:P.underlying t=some (.pointer e)) (hx:ρ x=.pointer q) (hy:ρ y=.pointer none):a7 P ⟨d,.binOp .neq t x y t',ty,pos,af,g⟩ ρ (.bool !q.isNone):=λw=>by
 simp [execOp,hx,hy,eqGuard,binOp,tS ht,Result.andThen]
end
def ON (ks:List Int):Array MapEntry:=(ks.zipIdx.map λp=>{key:=Value.int .i64 p.1,val:=Value.agg #[],born:=p.2}).toArray
theorem Ik (ks:List Int) (n:Int):(ON ks).push {key:=.int .i64 n,val:=.agg #[],born:=ks.length}=ON (ks++[n]):=by
 unfold ON
 rw [List.zipIdx_append,az0,List.push_toArray]
 simp
theorem zR {ks:List Int} {n:Int} (h:n ∉ ks):Instr.findNow (.int .i64) (.int .i64 n) (ON ks).toList 0=some none:=by
 refine DC n _ 0 λe he=>?_
 obtain ⟨p,hp,rfl⟩:=aw4.1 he
 refine ⟨p.1,λe9=>h ?_,rfl⟩
 rw [← e9]
 exact List.fst_mem_of_mem_zipIdx hp
theorem ut (n:Int):∀ (es:List MapEntry) (i:Nat),(∀ e∈es,∃ m:Int,e.key=.int .i64 m/\e.val=.agg #[])->(∃ e∈es,e.key=.int .i64 n)->∃ j,Instr.findNow (.int .i64) (.int .i64 n) es i=some (some (j,.agg #[]))
 |[],_,_,h=>by obtain ⟨e,he,_⟩:=h;cases he
 |e::es,i,h,hx=>by
  obtain ⟨m,he,hv⟩:=h e at0
  unfold Instr.findNow
  rw [he]
  have hs:Instr.sameNow (.int .i64) (.int .i64 n) (.int .i64 m)=some (n == m):=by simp [Instr.sameNow]
  rw [hs]
  by_cases hm:n=m
  ·subst hm;simp only [BEq.rfl];exact ⟨i,by rw [hv]⟩
  ·rw [beq_eq_false_iff_ne.2 hm]
   refine ut n es (i+1) (λe9 h9=>h e9 (au0 _ h9)) ?_
   obtain ⟨e9,h9,h8⟩:=hx
   rcases at1.1 h9 with rfl|h9
   ·rw [he] at h8;simp only [Value.int.injEq,true_and] at h8;exact az2 h8.symm hm
   ·exact ⟨e9,h9,h8⟩
theorem Iv {ks:List Int} {n:Int} (h:n∈ks):∃ j,Instr.findNow (.int .i64) (.int .i64 n) (ON ks).toList 0=some (some (j,.agg #[])):=by
 refine ut n _ 0 (λe he=>?_) ?_
 ·obtain ⟨p,hp,rfl⟩:=aw4.1 he
  exact ⟨p.1,rfl,rfl⟩
 ·obtain ⟨i,hi,e⟩:=ax7 h
  refine ⟨{key:=Value.int .i64 n,val:=Value.agg #[],born:=i},aw4.2 ⟨(n,i),?_,rfl⟩,rfl⟩
  rw [List.mem_zipIdx_iff_getElem?]
  simp [e,hi]
theorem Mv (ks:List Int) (n:Int):(∃ j,Instr.findNow (.int .i64) (.int .i64 n) (ON ks).toList 0=some (some (j,.agg #[]))/\decide (n∈ks)=true)∨(Instr.findNow (.int .i64) (.int .i64 n) (ON ks).toList 0=some none/\Value.agg #[]=Value.agg #[]/\decide (n∈ks)=false):=by
 by_cases h:n∈ks
 ·obtain ⟨j,hj⟩:=Iv h;exact .inl ⟨j,hj,ar7 h⟩
 ·exact .inr ⟨zR h,rfl,ar6 h⟩
def fU (L:List N3) (no:Int):Nat:=L.findIdx λx=>decide (x.1.me.1=no)
def A6 (vo:Value) (L:List N3) (no:Int):Value:=bif decide (fU L no<L.length) then .pointer (some (bC vo (fU L no*68))) else .pointer none
theorem RC {L:List N3} {no:Int} {k:Nat} (hk:k<L.length) (h:∀ j,j<k->decide ((L.getD j z3).1.me.1=no)=false) (he:decide ((L.getD k z3).1.me.1=no)=true):fU L no=k:=by
 unfold fU
 rw [List.findIdx_eq hk]
 refine ⟨by rw [pz hk];exact he,λj hj=>?_⟩
 rw [pz (by omega)];exact h j hj
theorem O4 {L:List N3} {no:Int} {k:Nat} (hk:L.length<=k) (h:∀ j,j<k->decide ((L.getD j z3).1.me.1=no)=false):fU L no=L.length:=by
 unfold fU
 rw [List.findIdx_eq_length]
 intro x hx
 obtain ⟨j,hj,rfl⟩:=Da hx
 exact h j (by omega)
theorem QJ {L:List N3} {no:Int} (h:fU L no<L.length):(∀ j,j<fU L no->decide ((L.getD j z3).1.me.1=no)=false)/\decide ((L.getD (fU L no) z3).1.me.1=no)=true:=by
 refine ⟨λj hj=>?_,?_⟩
 ·have:=List.not_of_lt_findIdx (p:=λx:N3=>decide (x.1.me.1=no)) (xs:=L) hj
  rw [pz (by omega)] at this
  simpa using this
 ·have:=List.findIdx_getElem (p:=λx:N3=>decide (x.1.me.1=no)) (xs:=L) (w:=h)
  rw [← pz h]
  exact this
theorem CQ {L:List N3} {no:Int} (h:fU L no<L.length):L.getD (fU L no) z3=cx L no/\(cx L no).1.me.1=no:=by
 obtain ⟨h1,h2⟩:=QJ h
 have e:=Jx h h1 h2
 exact ⟨e.symm,by rw [e];exact ar4 h2⟩
theorem uN {vo:Value} {L:List N3} {no:Int} (h:fU L no<L.length):A6 vo L no=.pointer (some (bC vo (fU L no*68))):=by unfold A6;rw [ar7 h];rfl
theorem yZ {vo:Value} {L:List N3} {no:Int} (h:¬ fU L no<L.length):A6 vo L no=.pointer none:=by unfold A6;rw [ar6 h];rfl
theorem I9 {L:List N3} {no:Int} (h:∃ x∈L,x.1.me.1=no):fU L no<L.length:=by
 obtain ⟨x,hx,e⟩:=h
 exact List.findIdx_lt_length_of_exists ⟨x,hx,ar7 e⟩
theorem jt {L:List N3} {no:Int} (hn:∀ m∈aQ L,0<=m.1):decide (fU L no<L.length)=ck (aQ L) no:=by
 rw [ay1,decide_eq_true_iff,jz hn]
 constructor
 ·intro h
  obtain ⟨e1,e2⟩:=CQ h
  exact ⟨(cx L no).1.me,aw4.2 ⟨cx L no,by rw [← e1];exact bU h,rfl⟩,e2⟩
 ·rintro ⟨m,hm,e⟩
  obtain ⟨x,hx,rfl⟩:=aw4.1 hm
  exact I9 ⟨x,hx,e⟩
def XM (vo:Value) (q:Nat->Bool):Nat->Value|0=>.pointer none|d+1=>bif q d then .pointer (some (bC vo (d*68))) else .pointer none
theorem Nu {vo:Value} {q:Nat->Bool} {d:Nat} (h:∀ j,j<d->q j=false):XM vo q d=.pointer none:=by
 cases d with
 |zero=>rfl
 |succ d=>show (bif q d then _ else _)=_;rw [h d (Nat.lt_succ_self d)];rfl
def qL (L:List N3) (no:Int) (j:Nat):Bool:=decide ((L.getD j z3).1.me.1=no)
theorem YX {vo:Value} {L:List N3} {no:Int} {d:Nat} (hd:d<L.length) (h:∀ j,j<d->qL L no j=false) (he:qL L no d=true):XM vo (qL L no) (d+1)=A6 vo L no:=by
 show (bif qL L no d then _ else _)=_
 have e:=RC hd h he
 rw [he,uN (by rw [e];exact hd),e];rfl
theorem Wy {vo:Value} {L:List N3} {no:Int} (h:∀ j,j<L.length->qL L no j=false):A6 vo L no=.pointer none:=yZ (by rw [O4 (at6 _) h];omega)
def m8 (l:List Mb) (k:Nat):Bool:=decide ((l.getD k bz).1<(l.getD (k - 1) bz).1)
def tH (l:List Mb):Bool:=(List.range l.length).all λk => !(decide (0<k) && m8 l k)
theorem za {l:List Mb} {k:Nat} (hk:k<l.length) (h0:0<k) (h:m8 l k=true):tH l=false:=by
 unfold tH
 rw [← Bool.not_eq_true,as1]
 intro h9
 have:=h9 k (at2.2 hk)
 rw [h,ar7 h0] at this;cases this
theorem rE {l:List Mb} (h:∀ j,0<j->j<l.length->m8 l j=false):tH l=true:=by
 unfold tH
 rw [as1]
 intro j hj
 by_cases h0:0<j
 ·rw [h j h0 (at2.1 hj)];simp
 ·rw [ar6 h0];rfl
theorem MH {l:List Mb}:tH l=true↔∀ j,0<j->j<l.length->m8 l j=false:=by
 refine ⟨λh j h0 hj=>?_,rE⟩
 cases hq:m8 l j with
 |false=>rfl
 |true=>rw [za hj h0 hq] at h;cases h
theorem GV {l:List Mb} {k:Nat} (h:∀ j,k<=j->0<j->j<l.length->m8 l j=false) (hk:0<k) (hq:m8 l (k - 1)=false):∀ j,k - 1<=j->0<j->j<l.length->m8 l j=false:=λj h1 h2 h3=>by
 by_cases e:j=k - 1
 ·subst e;exact hq
 ·exact h j (by omega) h2 h3
theorem j6 (x y:Int):cJ x y<0↔x<y:=by unfold cJ;split<;>(try split)<;>omega
theorem iT {L:List N3} {k:Nat} (hk:k<L.length):(aQ L).getD k bz=(L.getD k z3).1.me:=by
 rw [← yo (by rw [av6];exact hk),← pz hk];exact List.getElem_map _
theorem Vo {L:List N3} {no:Int} (h:fU L no<L.length):iY (aQ L) no=some (L.getD (fU L no) z3).1.me:=by
 obtain ⟨h1,h2⟩:=QJ h
 have e:=PT (l:=aQ L) (no:=no) (k:=fU L no) (by rw [av6];exact h) (λj hj=>by rw [iT (by omega)];exact h1 j hj) (by rw [iT h];exact h2)
 rw [e,iT h]
theorem MJ {L:List N3} {no:Int} (h:¬ fU L no<L.length):iY (aQ L) no=none:=by
 refine PP (k:=L.length) (by rw [av6];exact at6 _) λj hj=>?_
 rw [iT hj]
 refine ar6 λe=>h (I9 ⟨_,bU hj,e⟩)
def mD (L:List N3) (m:Mb):Bool:=decide (fU L m.1<L.length) && !decide ((L.getD (fU L m.1) z3).1.me=m)
theorem Ld {L:List N3} (hr:Rg (aQ L)) (m:Mb):mD L m=qe (aQ L) m:=by
 unfold mD qe nG
 by_cases h:fU L m.1<L.length
 ·rw [Vo h,ar7 h]
  have h0:=(hr.nos _ (aw4.2 ⟨_,bU h,rfl⟩)).1
  rw [Option.getD_some,ar7 h0]
 ·rw [MJ h,ar6 h]
  rfl
theorem ag4 {L:List N3} {m:Mb} (h:decide (fU L m.1<L.length)=false):mD L m=false:=by unfold mD;rw [h];rfl
theorem Wg {L:List N3} {m:Mb} (h:decide (fU L m.1<L.length)=true):mD L m = !decide ((L.getD (fU L m.1) z3).1.me=m):=by unfold mD;rw [h];rfl
def Zn (n:Nd) (L:List N3) (j:Nat):Bool:=mD L ((aN n).getD j bz)
theorem PB {n:Nd} {L:List N3} {d:Nat} (hd:d<(aN n).length) (h:Zn n L d=true):(aN n).any (mD L)=true:=ax9.2 ⟨_,iI hd,h⟩
theorem OP {n:Nd} {L:List N3} (h:∀ j,j<(aN n).length->Zn n L j=false):(aN n).any (mD L)=false:=by
 rw [ay0]
 intro x hx
 obtain ⟨j,hj,rfl⟩:=uD hx
 rw [show mD L ((aN n).getD j bz)=false from h j hj];decide
def LT (L:List N3) (k:Nat):Bool := !cY (L.getD k z3).1 || (aN (L.getD k z3).1).any (mD L)
theorem Vt {L:List N3} (h:ft (aQ L)=false):kH L=false:=by unfold kH;rw [h,Bool.and_false]
theorem Vg {L:List N3} (h:tH (aQ L)=false):kH L=false:=by
 have:¬ ∀ j,0<j->j<(aQ L).length->m8 (aQ L) j=false:=λh9=>by rw [rE h9] at h;cases h
 rw [Classical.not_forall] at this
 obtain ⟨k,hk⟩:=this
 rw [Classical.not_imp,Classical.not_imp] at hk
 obtain ⟨h0,h1,h2⟩:=hk
 rw [av6] at h1
 refine Nx h1 (ae8 (ar7 h0) ?_)
 have h3:m8 (aQ L) k=true:=by cases hq:m8 (aQ L) k with|true=>rfl|false=>exact az2 hq h2
 unfold m8 at h3
 rw [iT h1,iT (by omega)] at h3
 have:=ar4 h3
 exact ar7 (by omega)
theorem Ju {L:List N3} (h0:ft (aQ L)=true) (h1:tH (aQ L)=true):kH L=(List.range L.length).all λk => !LT L k:=by
 have hg:=(rU _).1 h0
 have key:∀ k,k<L.length->kK L k=LT L k:=λk hk=>by
  have e1:(decide (0<k) && decide ((L.getD k z3).1.me.1<=(L.getD (k - 1) z3).1.me.1))=false:=by
   by_cases hk0:0<k
   ·have h2:=MH.1 h1 k hk0 (by rw [av6];exact hk)
    unfold m8 at h2
    rw [iT hk,iT (by omega)] at h2
    have h3:=ar5 h2
    have h4:=(List.pairwise_iff_getElem.1 hg.nd (k - 1) k (by rw [av6];omega) (by rw [av6];exact hk) (by omega)).1
    rw [yo,yo,iT hk,iT (by omega)] at h4
    rw [ar7 hk0,ar6 (by omega)];rfl
   ·rw [ar6 hk0];rfl
  have e2:(aN (L.getD k z3).1).any (qe (aQ L))=(aN (L.getD k z3).1).any (mD L):=by
   congr 1;funext m;exact(Ld hg m).symm
  unfold kK LT
  rw [e1,e2,Bool.false_or]
 unfold kH
 rw [h0,Bool.and_true,ay1,as1,as1]
 exact ⟨λh k hk=>by rw [← key k (at2.1 hk)];exact h k hk,λh k hk=>by rw [key k (at2.1 hk)];exact h k hk⟩
theorem M4 {L:List N3} {d:Nat} (h0:ft (aQ L)=true) (h1:tH (aQ L)=true) (hd:d<L.length) (h:LT L d=true):kH L=false:=by
 rw [Ju h0 h1,← Bool.not_eq_true,as1]
 intro h9
 have:=h9 d (at2.2 hd)
 rw [h] at this;cases this
theorem Nc {L:List N3} (h0:ft (aQ L)=true) (h1:tH (aQ L)=true) (h:∀ j,j<L.length->LT L j=false):kH L=true:=by
 rw [Ju h0 h1,as1]
 intro k hk
 rw [h k (at2.1 hk)];rfl
theorem ab3 {L:List N3} {k:Nat} (h:cY (L.getD k z3).1=false):LT L k=true:=by unfold LT;rw [h];rfl
theorem WM {L:List N3} {k:Nat} (h:cY (L.getD k z3).1=true):LT L k=(aN (L.getD k z3).1).any (mD L):=by unfold LT;rw [h];rfl
theorem mI (a b c:List Mb):[a,b,c].flatten=a++(b++c):=by simp
theorem HS {w:World} {u v x:Value} {a b c:List Mb} (h1:br w u 33 a.length (ap a)) (h2:br w v 33 b.length (ap b)) (h3:br w x 33 c.length (ap c)):∀ k,k<[u,v,x].length->br w ([u,v,x].getD k undef) 33 ([a,b,c].getD k []).length (ap ([a,b,c].getD k [])):=λk hk=>by
 match k,hk with
 |0,_=>exact h1
 |1,_=>exact h2
 |2,_=>exact h3
theorem LK (L:List N3) (j i:Nat) (hj:j<L.length) (hi:i<68):(ax L)[j*68+i]? = (x6 (L.getD j z3))[i]? := by
 have h1:=ar8 (λa:Array Value=>a[i]?) (eE L j hj)
 simp only [au3] at h1
 rw [ay2 hi,ay3] at h1
 rw [h1];simp [aP,x6]
theorem nj (L:List N3) (j:Nat) (hj:j<L.length):(ax L)[j*68+66]? = some (L.getD j z3).2.1:=by rw [LK L j 66 hj (by decide)];exact w7 _ _ _ _ 0
theorem Iq (L:List N3) (j:Nat) (hj:j<L.length):(ax L)[j*68+67]? = some (L.getD j z3).2.2:=by rw [LK L j 67 hj (by decide)];exact w7 _ _ _ _ 1
theorem k6 {K:List N3} {j:Nat} (hj:j<K.length) (x:N3):(K.set j x).getD j z3=x:=by
 rw [← pz (by rw [List.length_set];exact hj)];exact List.getElem_set_self _
theorem Rx {K:List N3} {i j:Nat} (h:i≠j) (x:N3):(K.set j x).getD i z3=K.getD i z3:=by
 rw [au1,au1,List.getElem?_set_ne (λe=>h e.symm)]
theorem Fq {K:List N3} {j:Nat} (hj:j<K.length) (x:N3):(K.set j x).take (j+1)=K.take j++[x]:=by
 rw [wm (by rw [List.length_set];exact hj),k6 hj,List.take_set_of_le (at6 _)]
theorem AQ {K:List N3} {j:Nat} (hj:j<K.length):ax K=ax (K.take j)++(x6 (K.getD j z3)++ax (K.drop (j+1))):=by
 conv=>lhs;rw [← au2 j K,List.drop_eq_getElem_cons hj,pz hj]
 rw [kX];rfl
theorem ER {K:List N3} {j:Nat} (hj:j<K.length) (x:N3):ax (K.set j x)=ax (K.take j)++(x6 x++ax (K.drop (j+1))):=by
 rw [List.set_eq_take_append_cons_drop,if_pos hj,kX];rfl
theorem vU {K:List N3} {j:Nat} (hj:j<K.length):(ax (K.take j)).length=j*68:=by rw [yU,av5,Nat.min_eq_left (by omega)]
theorem Oo {K:List N3} {j off:Nat} (hj:j<K.length) (D:List Value) (h:off+D.length<=68):
 (ax K).take (j*68+off)++D++(ax K).drop (j*68+off+D.length)=ax (K.take j)++((x6 (K.getD j z3)).take off++D++(x6 (K.getD j z3)).drop (off+D.length)++ax (K.drop (j+1))):=by
 rw [AQ hj]
 obtain ⟨a,ha⟩:∃ a,a=ax (K.take j):=⟨_,rfl⟩
 obtain ⟨c,hc⟩:∃ c,c=ax (K.drop (j+1)):=⟨_,rfl⟩
 have hl:a.length=j*68:=by rw [ha];exact vU hj
 have hn:(x6 (K.getD j z3)).length=68:=jV _
 rw [← ha,← hc]
 rw [show j*68+off=a.length+off by omega,List.take_length_add_append,List.take_append_of_le_length (by omega),show a.length+off+D.length=a.length+(off+D.length) by omega,List.drop_length_add_append,List.drop_append_of_le_length (by omega)]
 simp only [aw8]
theorem su {K:List N3} {j:Nat} (hj:j<K.length) (x:N3):(ax K).take (j*68)++(aP x.1.me x.1.pr x.2.1 x.2.2).toList++(ax K).drop (j*68+68)=ax (K.set j x):=by
 have hl:(aP x.1.me x.1.pr x.2.1 x.2.2).toList.length=68:=by rw [as7];exact aq _ _ _ _
 have h:=Oo hj (off:=0) (aP x.1.me x.1.pr x.2.1 x.2.2).toList (by omega)
 rw [hl] at h
 rw [show j*68+0=j*68 from rfl] at h
 rw [h,ER hj]
 have hn:(x6 (K.getD j z3)).length=68:=jV _
 rw [List.take_zero,List.nil_append,List.drop_of_length_le (by omega),aw9]
 rfl
theorem Y6 (m p:Mb) (u v V:Value):(mm m p u v).set 66 V=mm m p V v:=by
 have:=ar8 Array.toList (nu m p u v V)
 rwa [Array.toList_setIfInBounds] at this
theorem WN (m p:Mb) (u v V:Value):(mm m p u v).set 67 V=mm m p u V:=by
 have:=ar8 Array.toList (q9 m p u v V)
 rwa [Array.toList_setIfInBounds] at this
theorem D0 {K:List N3} {j off:Nat} (hj:j<K.length) (ho:off<68) {V:Value} {x:N3} (h:(x6 (K.getD j z3)).set off V=x6 x):(ax K).set (j*68+off) V=ax (K.set j x):=by
 rw [ER hj,← h,AQ hj,List.set_append_right _ _ (by rw [vU hj];omega),vU hj,Nat.add_sub_cancel_left,List.set_append_left _ _ (by rw [jV];exact ho)]
theorem yz {K:List N3} {j:Nat} (hj:j<K.length) (V:Value) (l:List Mb):(ax K).set (j*68+66) V=ax (K.set j (⟨(K.getD j z3).1.me,(K.getD j z3).1.pr,l,(K.getD j z3).1.fg⟩,V,(K.getD j z3).2.2)):=D0 hj (by decide) (Y6 _ _ _ _ _)
theorem yN {K:List N3} {j:Nat} (hj:j<K.length) (V:Value) (l:List Mb):(ax K).set (j*68+67) V=ax (K.set j (⟨(K.getD j z3).1.me,(K.getD j z3).1.pr,(K.getD j z3).1.sc,l⟩,(K.getD j z3).2.1,V)):=D0 hj (by decide) (WN _ _ _ _ _)
theorem vY {L:List N3} {w:World} (h:∀ x∈L,CU w x):∀ u∈ax L,u.oneCell'=true:=λu hu=>by
 unfold ax at hu
 obtain ⟨x,hx,hu⟩:=List.mem_flatMap.1 hu
 exact bP (h x hx).ones.1 (h x hx).ones.2 u hu
theorem Bz {w:World} {a:Option Addr} {n c:Nat} {L:List N3} (ha:a.isNone=true) (h:br w (.slice a n c) 68 L.length (ax L)):L=[]:=by
 cases a with
 |some p=>cases ha
 |none=>
  rcases h.2 with ⟨_,h2⟩|⟨p,cap,h1,_⟩
  ·exact List.eq_nil_of_length_eq_zero h2
  ·cases h1
def CpP (w:World) (N:TypeId) (E:List Nd):dz:=λv w9=>∃ vq K ks,v=.agg #[vq]/\nds K=E/\St w [.sl vq N 68 K.length (ax K),.grp ks (eG K)] w9
theorem St.bring {w0 w:World} {B:List Own} {p:Own} (s:St w0 B w) (i:Nat) (hi:B[i]? = some p):St w0 (p::B.eraseIdx i) w:=s.perm (mJ hi)
theorem Dq {K:List N3} {E:List Nd} {j:Nat} {x:N3} (h:nds K=E) (hx:x.1=(K.getD j z3).1) (hj:j<K.length):nds (K.set j x)=E:=by
 subst h
 apply List.ext_getElem?
 intro i
 unfold nds
 rw [aw5,aw5,List.getElem?_set]
 by_cases e:j=i
 ·subst e;rw [if_pos rfl,if_pos hj,as3 hj,pz hj,Option.map_some,Option.map_some,hx]
 ·rw [if_neg e]
theorem Ex {K:List N3} {j:Nat} {x:N3} (hj:j<K.length) {w9:World} (h:eG (K.take j) w9) (hx:CU w9 x):eG ((K.set j x).take (j+1)) w9:=λy hy=>by
 rw [Fq hj] at hy
 rcases av4.1 hy with hy|hy
 ·exact h y hy
 ·rw [as9] at hy;subst hy;exact hx
theorem Az (K:List N3) (j:Nat) (x y:N3):(K.set j x).set j y=K.set j y:=List.set_set _
theorem Bd {q:Nat->Bool} {d:Nat} (h:∀ j,j<d->q j=false):lq q d=false:=by
 cases d with
 |zero=>rfl
 |succ d=>exact h d (Nat.lt_succ_self d)
theorem uy {x:N3}:∀ K:List N3,(K.Pairwise λa b=>a.1.me.1<b.1.me.1)->(∀ y∈K,y.1.me.1≠x.1.me.1)->∃ A B,K=A++B/\(∀ a∈A,a.1.me.1<x.1.me.1)/\∀ b∈B,x.1.me.1<b.1.me.1
 |[],_,_=>⟨[],[],rfl,by simp,by simp⟩
 |y::K,h,hx=>by
  have hp:=List.pairwise_cons.1 h
  by_cases e:x.1.me.1<y.1.me.1
  ·refine ⟨[],y::K,rfl,by simp,λb hb=>?_⟩
   rcases at1.1 hb with rfl|hb
   ·exact e
   ·have:=hp.1 b hb;omega
  ·obtain ⟨A,B,rfl,hA,hB⟩:=uy K hp.2 λz hz=>hx z (au0 _ hz)
   have:=hx y at0
   refine ⟨y::A,B,rfl,λa ha=>?_,hB⟩
   rcases at1.1 ha with rfl|ha
   ·omega
   ·exact hA a ha
theorem Oa {A B:List N3} {x:N3} (hA:∀ z∈A,z.1.me.1<x.1.me.1) (hB:∀ z∈B,x.1.me.1<z.1.me.1):ig (A++B) x=A++x::B:=by
 match B,hB with
 |[],_=>
  have:iU x (A++[])=(A,false):=by unfold iU;rw [aw9,qB A [] hA];rfl
  rw [W7 (by rw [this]),this]
 |b::B,hB=>
  have hb:=hB b at0
  have:iU x (A++b::B)=(A++x::b::B,true):=by
   unfold iU
   rw [List.foldl_append,qB A [] hA,List.nil_append,List.foldl_cons,XX rfl (ar7 (by show x.1.me.1<=b.1.me.1;omega)) (ar7 (by show b.1.me.1≠x.1.me.1;omega)),vJ B _ λz hz=>hB z (au0 _ hz)]
   simp
  rw [Xb (by rw [this]),this]
theorem PM {K K2:List N3} {x:N3} (hK:K.Pairwise λa b=>a.1.me.1<b.1.me.1) (hx:∀ y∈K,y.1.me.1≠x.1.me.1) (hp:K2.Perm (K++[x])) (hs:K2.Pairwise λa b=>a.1.me.1<b.1.me.1):K2=ig K x:=by
 obtain ⟨A,B,rfl,hA,hB⟩:=uy K hK hx
 rw [Oa hA hB]
 have h1:=List.pairwise_append.1 hK
 refine List.Perm.eq_of_pairwise (le:=λa b:N3=>a.1.me.1<b.1.me.1) (λa b _ _ h1 h2=>az2 h1 (by omega)) hs ?_ (hp.trans ?_)
 ·rw [List.pairwise_append,List.pairwise_cons]
  refine ⟨h1.1,⟨hB,h1.2.1⟩,λa ha b hb=>?_⟩
  rcases at1.1 hb with rfl|hb
  ·exact hA a ha
  ·exact h1.2.2 a ha b hb
 ·rw [aw8]
  exact(List.perm_append_comm (l₁:=B) (l₂:=[x])).append_left A
theorem Cq {K L:List N3} (h:nds K=nds L) (hL:L.Pairwise λa b=>a.1.me.1<b.1.me.1):K.Pairwise λa b=>a.1.me.1<b.1.me.1:=by
 have h1:(nds L).Pairwise λa b=>a.me.1<b.me.1:=by unfold nds;rw [List.pairwise_map];exact hL
 rw [← h] at h1
 unfold nds at h1
 rw [List.pairwise_map] at h1;exact h1
theorem uZ {K L:List N3} (h:nds K=nds L) {P:Nd->Prop} (hL:∀ y∈L,P y.1):∀ y∈K,P y.1:=λy hy=>by
 have:y.1∈nds L:=by rw [← h];exact aw4.2 ⟨y,hy,rfl⟩
 obtain ⟨z,hz,e⟩:=aw4.1 this
 rw [← e];exact hL z hz
theorem Qz {L:List N3} {m:Mb} (h:GO L m=false):∀ y∈L,y.1.me.1≠m.1:=λy hy e=>by
 obtain ⟨j,hj,rfl⟩:=Da hy
 rw [Yw hj (Vu (ar7 e))] at h;cases h
theorem EA {L K:List N3} {x:N3} {m:Mb} (hr:RS L) (hj:GO L m=false) (hk:nds K=nds L) (hx:x.1.me=m):(K++[x]).Pairwise λa b=>a.1.me.1≠b.1.me.1:=by
 rw [List.pairwise_append]
 refine ⟨(Cq hk hr.inc).imp (λh=>by omega),List.pairwise_singleton _ _,λa ha b hb=>?_⟩
 rw [as9] at hb;subst hb
 rw [hx]
 exact uZ hk (P:=λn=>n.me.1≠m.1) (Qz hj) a ha
theorem Ln {L K K2:List N3} {x:N3} {m:Mb} {no:Int} (hok:GN L m=true) (hr:RS L) (hj:GO L m=false) (he:Jg L m no=0) (hk:nds K=nds L) (hx:x.1=⟨m,fe,[VQ L m no],[]⟩) (hp:K2.Perm (K++[x])) (hs:K2.Pairwise λa b=>a.1.me.1<b.1.me.1):nds K2=um L m no:=by
 have hm:x.1.me=m:=by rw [hx]
 have e:=PM (Cq hk hr.inc) (λy hy=>by rw [hm];exact uZ hk (P:=λn=>n.me.1≠m.1) (Qz hj) y hy) hp hs
 rw [(rh hok).2,e,jd,hk,hx]
 unfold Yh
 rw [ar7 he];rfl
theorem Rn {L:List N3} {m:Mb} (h:kH L=true) (h0:gb m=true):GN L m=true:=by unfold GN;rw [h,h0];rfl
theorem Ru {L:List N3} {m:Mb} (h:gb m=false):GN L m=false:=by unfold GN;rw [h,Bool.and_false]
def dE (L:List N3):List Int:=L.map (·.1.me.1)
theorem Mj {L:List N3} {k:Nat} (hk:k<L.length):dE (L.take (k+1))=dE (L.take k)++[(L.getD k z3).1.me.1]:=by unfold dE;rw [wm hk,az0];rfl
theorem Hm {L:List N3} (hd:L.Pairwise λa b=>a.1.me.1≠b.1.me.1) {k:Nat} (hk:k<L.length):(L.getD k z3).1.me.1 ∉ dE (L.take k):=λhx=>by
 obtain ⟨y,hy,e⟩:=aw4.1 hx
 obtain ⟨j,hj,rfl⟩:=List.mem_iff_getElem.1 hy
 rw [av5] at hj
 have h1:=List.pairwise_iff_getElem.1 hd j k (by omega) hk (by omega)
 rw [List.getElem_take] at e
 rw [pz hk] at h1
 exact h1 e
theorem Uk {L:List N3} (h:L.Pairwise λa b=>a.1.me.1<b.1.me.1):L.Pairwise λa b=>a.1.me.1≠b.1.me.1:=h.imp λh=>by omega
theorem uR {L:List N3} (hn:∀ m∈aQ L,0<=m.1) (no:Int):decide (no∈dE L)=ck (aQ L) no:=by
 rw [ay1,decide_eq_true_iff,jz hn]
 constructor
 ·intro h
  obtain ⟨y,hy,e⟩:=aw4.1 h
  exact ⟨y.1.me,aw4.2 ⟨y,hy,rfl⟩,e⟩
 ·rintro ⟨m,hm,e⟩
  obtain ⟨y,hy,rfl⟩:=aw4.1 hm
  exact aw4.2 ⟨y,hy,e⟩
abbrev jm (ks:List Int):Obj:=.map (ON ks) ks.length
theorem OG (ks:List Int) (n:Int):Obj.map ((ON ks).push {key:=.int .i64 n,val:=.agg #[],born:=ks.length}) (ks.length+1)=jm (ks++[n]):=by
 rw [Ik];simp [jm]
theorem BM {P:Program} {ρ:Operand->Value} {d:Option Tmp} {ty:TypeId} {pos:String} {af:Array Edge} {g:Option (Nat × Bool)} {t:TypeId} (S:Stt P t []):a7 P ⟨d,.build t #[],ty,pos,af,g⟩ ρ (.agg #[]):=
 bk (parts:=#[]) S [] (by simp) (λi v hm=>by simp at hm) (D:=[]) rfl
def Zm (w:World) (N:TypeId) (L:List N3) (no:Int):dz:=λv w9=>
 (∃ k,cE L no=k/\k≠0/\v=.tuple #[.agg #[au],.pointer none,.int .i64 k]) ∨
 (cE L no=0/\∃ vq K ks,v=.tuple #[.agg #[vq],.pointer (some (bC vq (fU L no*68))),.int .i64 0]/\nds K=nds L/\St w [.sl vq N 68 K.length (ax K),.grp ks (eG K)] w9)
theorem Zm.n {w w9:World} {N:TypeId} {L:List N3} {no k:Int} {v:Value} (h:Zm w N L no v w9) (hk:cE L no=k) (h0:k≠0):v=.tuple #[.agg #[au],.pointer none,.int .i64 k]:=by
 rcases h with ⟨q,h1,_,h3⟩|⟨h1,_⟩
 ·rw [h3,← h1,hk]
 ·exact az2 (hk.symm.trans h1) h0
theorem Zm.y {w w9:World} {N:TypeId} {L:List N3} {no:Int} {v:Value} (h:Zm w N L no v w9) (hk:cE L no=0):∃ vq K ks,v=.tuple #[.agg #[vq],.pointer (some (bC vq (fU L no*68))),.int .i64 0]/\nds K=nds L/\St w [.sl vq N 68 K.length (ax K),.grp ks (eG K)] w9:=by
 rcases h with ⟨q,h1,h2,_⟩|⟨_,h3⟩
 ·exact az2 (h1.symm.trans hk) h2
 ·exact h3
theorem RS.nds {K L:List N3} (h:RS L) (e:nds K=nds L):RS K:=
 ⟨fun y hy=>uZ e (P:=RN) h.rn y hy,Cq e h.inc,by have:aQ K=aQ L:=by rw [← ec,← ec,e]
                                                 rw [this];exact h.ring⟩
theorem Vj {K L:List N3} (e:nds K=nds L):aQ K=aQ L:=by rw [← ec,← ec,e]
theorem St.reob9 {w0 w:World} {B:List Own} {b:Nat} {o o':Obj} (s:St w0 B w) (i:Nat) (hi:B[i]? = some (.blk b o)) (e:o=o'):St w0 (B.set i (.blk b o')) w:=by
 subst e
 have:B.set i (.blk b o)=B:=by
  apply List.ext_getElem?
  intro j
  by_cases h:i=j
  ·subst h
   rw [List.getElem?_set_self (ar9.1 hi).1,hi]
  ·rw [List.getElem?_set_ne h]
 rw [this];exact s
theorem nX {K:List N3} {j:Nat} {x:N3} {w9:World} (h:eG K w9) (hx:CU w9 x):eG (K.set j x) w9:=λy hy=>by
 rcases List.mem_or_eq_of_mem_set hy with hy|rfl
 ·exact h y hy
 ·exact hx
theorem XI {K:List N3} (h:K.Pairwise λa b=>a.1.me.1<b.1.me.1) {j:Nat} (hj:j<K.length):fU K (K.getD j z3).1.me.1=j/\cx K (K.getD j z3).1.me.1=K.getD j z3:=by
 have h1:∀ i,i<j->decide ((K.getD i z3).1.me.1=(K.getD j z3).1.me.1)=false:=λi hi=>by
  have:=List.pairwise_iff_getElem.1 h i j (by omega) hj hi
  rw [pz hj,pz (by omega)] at this
  exact ar6 (by omega)
 have h2:decide ((K.getD j z3).1.me.1=(K.getD j z3).1.me.1)=true:=ar7 rfl
 exact ⟨RC hj h1 h2,Jx hj h1 h2⟩
theorem n3 {K:List N3} (h:RS K) {j:Nat} (hj:j<K.length) {x:N3} (he:(K.getD j z3).1.me=x.1.me) (hx:RN x.1):K.set j x=ig K x/\RS (K.set j x)/\aQ (K.set j x)=aQ K:=by
 have hp:=h.inc
 have hsp:K=K.take j++K.getD j z3::K.drop (j+1):=by
  conv=>lhs;rw [← au2 j K,List.drop_eq_getElem_cons hj,pz hj]
 rw [hsp] at hp
 have h1:=List.pairwise_append.1 hp
 have h2:=List.pairwise_cons.1 h1.2.1
 have hno:(K.getD j z3).1.me.1=x.1.me.1:=by rw [he]
 have e:K.set j x=ig K x:=by
  rw [List.set_eq_take_append_cons_drop,if_pos hj]
  conv=>rhs;rw [hsp]
  exact(EG (x:=x) (λz hz=>by rw [← hno];exact h1.2.2 z hz _ at0) hno (λz hz=>by rw [← hno];exact h2.1 z hz)).symm
 obtain ⟨q1,q2,_⟩:=h.put (x:=x) (bU hj) he hx
 rw [e];exact ⟨rfl,q1,q2⟩
theorem yM {K K1 K2:List N3} {j:Nat} (h:RS K) (hj:j<K.length) {T1 T2:Nd} (hT1:T1=dT (aQ K) (K.getD j z3).1) (h1:nds K1=nf (nds K) T1) (hT2:T2=sP T1 (pI (aQ K1) (cx K1 (T1.sc.getD 0 bz).1).1)) (h2:nds K2=nf (nds K1) T2):
 iq (nds K) (K.getD j z3).1.me.1=bif ck (aQ K2) (T2.sc.getD 0 bz).1 then nf (nds K2) (Mn (cx K2 (T2.sc.getD 0 bz).1).1 T2.me) else nds K2:=by
 have e0:vH (nds K) (K.getD j z3).1.me.1=(K.getD j z3).1:=by rw [← lU,(XI h.inc hj).2]
 unfold iq
 simp only [e0,ec,← hT1]
 rw [← h1,ec,← lU,← hT2,← h2,ec,← lU]
theorem kP {K:List N3} (h:RS K) {no:Int} (hl:ck (aQ K) no=true):fU K no<K.length/\K.getD (fU K no) z3=cx K no/\cx K no∈K:=by
 have h1:fU K no<K.length:=ar4 ((jt h.nos).trans hl)
 have h2:=(CQ h1).1
 exact ⟨h1,h2,by rw [← h2];exact bU h1⟩
theorem yD {K:List N3} (h:RS K) {j:Nat} (hj:j<K.length):ck (aQ K) (K.getD j z3).1.me.1=true:=(jz h.nos).2 ⟨_,aw4.2 ⟨_,bU hj,rfl⟩,rfl⟩
theorem eX {w:World} {K:List N3} {j:Nat} {T:Nd} {u v:Value} (h:eG K w) (hj:j<K.length) (e:K.getD j z3=(T,u,v)):br w u 33 T.sc.length (ap T.sc)/\br w v 33 T.fg.length (ap T.fg):=by
 have h9:=h _ (bU hj)
 rw [e] at h9;exact h9
def qd:Type:={x:N3 // x.2.1.oneCell'=true/\x.2.2.oneCell'=true}
instance:Inhabited qd:=⟨⟨z3,rfl,rfl⟩⟩
def rH (x:qd):List Value:=x6 x.1
def iu (l:List qd):List Value:=l.flatMap rH
theorem qm (x:qd):(rH x).length=68:=jV _
theorem Jz (x:qd):∀ v∈rH x,v.oneCell'=true:=bP x.2.1 x.2.2
theorem pM (l:List qd):(iu l).length=l.length*68:=fq _ 68 qm l
theorem qU (l:List qd):iu l=ax (l.map (·.1)):=by unfold iu ax;rw [List.flatMap_map];rfl
theorem px (d:Array qd):(flatK rH 68 d).toList=iu d.toList:=by
 apply List.ext_getElem?
 intro t
 by_cases ht:t<d.size*68
 ·have hj:t / 68<d.size:=by omega
  have hr:t % 68<68:=az1 _ (by decide)
  have h1:(iu d.toList)[t]? = (rH d[t / 68])[t % 68]? := by
   have h2:t=t / 68*68+t % 68:=by omega
   conv=>lhs;rw [h2]
   rw [← ay3,← ay2 hr]
   unfold iu
   rw [fk _ 68 qm d.toList (t / 68) (by simpa using hj)]
   simp
  rw [h1]
  have h3:=get_flatK rH 68 d t ht
  have h4:t<(flatK rH 68 d).size:=by rw [size_flatK];exact ht
  rw [getElem!_pos _ t h4,getElem!_pos d _ hj] at h3
  rw [ay4,ay5 h4,h3]
  have h5:t % 68<(rH d[t / 68]).length:=by rw [qm];exact hr
  rw [getElem!_pos (rH d[t / 68]) (t % 68) h5,as3 h5]
 ·rw [aw6 (by rw [as7,size_flatK];omega),aw6 (by rw [pM,as7];omega)]
theorem ln (w:World) (g m:Nat) (d:Array qd) (os:Array Obj):(sortWorldK rH 68 w g 0 m d os).heap=w.heap.modify g (onCells (putCells id 0 (flatK rH 68 d)))++os:=rfl
theorem vL (w:World) (g m:Nat) (d:Array qd) (os:Array Obj) {k:Nat} (hk:k<w.heap.size) (hne:k≠g):(sortWorldK rH 68 w g 0 m d os).heap[k]? = w.heap[k]? := by
 rw [ln,ax8 (by rw [Array.size_modify];exact hk),Array.getElem?_modify,if_neg (λe=>hne e.symm)]
theorem BG (w:World) (g m:Nat) (d:Array qd) (os:Array Obj) {cur:Array Value} {e:TypeId} {fz:Nat × Nat} (hg:w.heap[g]? = some (.cells cur e fz)):(sortWorldK rH 68 w g 0 m d os).heap[g]? = some (.cells (putCells id 0 (flatK rH 68 d) cur) e fz):=by
 have hk:g<w.heap.size:=(ay6.1 hg).1
 rw [ln,ax8 (by rw [Array.size_modify];exact hk),Array.getElem?_modify,if_pos rfl,hg]
 rfl
theorem Mf {w0 w:World} {B:List Own} {v:Value} {e:TypeId} {n:Nat} {l:List qd} (s:St w0 (.sl v e 68 n (iu l)::B) w) (hl:l.length=n) (hn:1<=n):
 ∃ g cap,v=.slice (some ⟨g,0,none⟩) n cap/\g<w.heap.size/\w0.heap.size<=g/\HoldsK rH 68 w g 0 l.toArray/\
  ∀ (m:Nat) (os:Array Obj) (d:Array qd),d.size=n->St w0 (.sl v e 68 n (iu d.toList)::B) (sortWorldK rH 68 w g 0 m d os):=by
 obtain ⟨g,cap,cur,fz,rfl,hfz,hnc,hcm,hcs,htk,s⟩:=s.open_sl hn
 have hg:=s.get 0 rfl
 have hlt:g<w.heap.size:=(ay6.1 hg).1
 have hroom:n*68<=cur.size:=by rw [hcs];exact Nat.mul_le_mul_right _ hnc
 refine ⟨g,cap,rfl,hlt,s.own _ at0 g (Own.at_blk.2 rfl),λj hj=>?_,λm os d hd=>?_⟩
 ·have hjs:j<n*68:=by rw [size_flatK] at hj;simpa [hl] using hj
  constructor
  ·rw [Nat.zero_add,cell_of_row w g j cur e fz hg]
   have h1:(flatK rH 68 l.toArray).toList=cur.toList.take (n*68):=by rw [px,htk]
   have h2:(flatK rH 68 l.toArray).toList[j]? = cur.toList[j]? := by rw [h1,ay2 hjs]
   rw [ay4,ay4,ay5 hj] at h2
   rw [getElem!_pos _ j hj]
   exact h2.symm
  ·simp only [World.frozen?,hg,Nat.zero_add]
   obtain ⟨lo,hi⟩:=fz
   rcases hfz with h9|h9
   ·change hi=0 at h9;subst h9;simp
   ·change cur.size<=lo at h9
    have:¬ lo<=j:=by omega
    simp [this]
 ·have hF:(flatK rH 68 d).size=n*68:=by rw [size_flatK,hd]
  have s2:=s.upd 0 (w':=sortWorldK rH 68 w g 0 m d os) (p':=.blk g (.cells (putCells id 0 (flatK rH 68 d) cur) e fz)) rfl rfl rfl rfl (by rw [ln];simp) (BG w g m d os hg) (λk hk=>.inl hk) (λk hk hne=>vL w g m d os hk (λe9=>hne (Own.at_blk.2 e9))) (Nat.le_add_right _ _)
  refine s2.close_sl (by rw [nB];exact hfz) hnc hcm (by rw [nB];exact hcs) ?_ ?_
  ·rw [← hF,zd _ _ (by omega),px]
  ·rw [pM,as7,hd]
theorem qn (a b:qd):ltOf (λx y:qd=>cJ x.1.1.me.1 y.1.1.me.1) a b=decide (a.1.1.me.1<b.1.1.me.1):=as8.2 (j6 _ _)
theorem GY:SWO (ltOf λx y:qd=>cJ x.1.1.me.1 y.1.1.me.1) where
 irrefl x:=by rw [qn];simp
 trans x y z h1 h2:=by rw [qn] at *;simp at *;omega
 ntrans x y z h1 h2:=by rw [qn] at *;simp at *;omega
theorem Gx {l:List qd} (hd:l.Pairwise λa b=>a.1.1.me.1≠b.1.1.me.1) {d:Array qd} (hp:PermIn 0 l.toArray.size l.toArray d) (hs:SortedIn (ltOf λx y:qd=>cJ x.1.1.me.1 y.1.1.me.1) 0 l.toArray.size d):
 d.toList.Perm l/\d.toList.Pairwise λa b=>a.1.1.me.1<b.1.1.me.1:=by
 obtain ⟨hsz,_,hpm⟩:=hp
 have e1:d.extract 0 l.toArray.size=d:=by rw [← hsz];exact Array.extract_size
 rw [e1,Array.extract_size] at hpm
 have hpl:d.toList.Perm l:=by first|exact hpm|exact hpm.symm|exact hpm.toList|exact hpm.toList.symm
 have hd2:d.toList.Pairwise λa b=>a.1.1.me.1≠b.1.1.me.1:=(hpl.pairwise_iff (λh=>λe=>h e.symm)).2 hd
 refine ⟨hpl,?_⟩
 rw [List.pairwise_iff_getElem] at hd2 ⊢
 intro i j hi hj hij
 have hi':i<d.size:=by simpa using hi
 have hj':j<d.size:=by simpa using hj
 have h1:=hs i j (at8 _) hij (by omega)
 rw [getElem!_pos d j hj',getElem!_pos d i hi',qn] at h1
 have h2:=hd2 i j hi hj hij
 have h3:=ar5 h1
 simp only [Array.getElem_toList] at h2 ⊢
 omega
def Vc (L:List N3) (h:∀ x∈L,x.2.1.oneCell'=true/\x.2.2.oneCell'=true):List qd:=L.attach.map λx=>(⟨x.1,h x.1 x.2⟩:qd)
theorem ze (L:List N3) (h:∀ x∈L,x.2.1.oneCell'=true/\x.2.2.oneCell'=true):(Vc L h).map (·.1)=L:=by
 refine(List.map_map (f:=λx:{x // x∈L}=>(⟨x.1,h x.1 x.2⟩:qd)) (g:=λx:qd=>x.1) (l:=L.attach)).trans ?_
 exact List.attach_map_subtype_val L
theorem IP (L:List N3) (h:∀ x∈L,x.2.1.oneCell'=true/\x.2.2.oneCell'=true):(Vc L h).length=L.length:=by
 have:=ar8 List.length (ze L h);simpa using this
theorem IV {L:List qd} {R:N3->N3->Prop}:(L.map (·.1)).Pairwise R↔L.Pairwise λa b=>R a.1 b.1:=List.pairwise_map
def VH (w:World) (N:TypeId) (L:List N3) (no:Int):dz:=λv w9=>
 (∃ k,cE L no=k/\k≠0/\v=.tuple #[.agg #[au],.int .i64 k]) ∨
 (cE L no=0/\∃ vq K ks,v=.tuple #[.agg #[vq],.int .i64 0]/\nds K=Bc (nds L) no/\St w [.sl vq N 68 K.length (ax K),.grp ks (eG K)] w9)
theorem VH.n {w w9:World} {N:TypeId} {L:List N3} {no k:Int} {v:Value} (h:VH w N L no v w9) (hk:cE L no=k) (h0:k≠0):v=.tuple #[.agg #[au],.int .i64 k]:=by
 rcases h with ⟨q,h1,_,h3⟩|⟨h1,_⟩
 ·rw [h3,← h1,hk]
 ·exact az2 (hk.symm.trans h1) h0
theorem VH.y {w w9:World} {N:TypeId} {L:List N3} {no:Int} {v:Value} (h:VH w N L no v w9) (hk:cE L no=0):∃ vq K ks,v=.tuple #[.agg #[vq],.int .i64 0]/\nds K=Bc (nds L) no/\St w [.sl vq N 68 K.length (ax K),.grp ks (eG K)] w9:=by
 rcases h with ⟨q,h1,h2,_⟩|⟨_,h3⟩
 ·exact az2 (h1.symm.trans hk) h2
 ·exact h3
theorem VH.any {w w9:World} {N:TypeId} {L:List N3} {vo:Value} {no:Int} {v:Value} (h:VH w N L no v w9) (e:Ext w w9):T8 w (EY vo L) (WX L no) (cE L no) v w9:=by
 rcases h with ⟨k,h1,h2,rfl⟩|⟨h1,vq,K,ks,rfl,hk,s⟩
 ·exact o8 ((St.start w).more e) (WI h1 h2) h1
 ·exact wC h1 (D7 (by rw [WB h1,hk]) s)
abbrev f5 (x:Nd) (u v:Value):Array Value:=aP x.me x.pr u v
abbrev Rb (y:N3):Array Value:=aP y.1.me y.1.pr y.2.1 y.2.2
abbrev tA (K:List N3) (kx:Nat):Nd:=dT (aQ K) (K.getD kx z3).1
abbrev tX (K K1:List N3) (kx:Nat):Nat:=fU K1 ((tA K kx).sc.getD 0 bz).1
abbrev tB (K K1:List N3) (kx:Nat):N3:=K1.getD (tX K K1 kx) z3
abbrev tC (K K1:List N3) (kx:Nat):Nd:=pI (aQ K1) (tB K K1 kx).1
abbrev tD (K K1:List N3) (kx:Nat):Nd:=sP (tA K kx) (tC K K1 kx)
abbrev tY (K K1 K2:List N3) (kx:Nat):Nat:=fU K2 ((tD K K1 kx).sc.getD 0 bz).1
abbrev tE (K K1 K2:List N3) (kx:Nat):N3:=K2.getD (tY K K1 K2 kx) z3
abbrev tF (K K1 K2:List N3) (kx:Nat):Nd:=Mn (tE K K1 K2 kx).1 (tD K K1 kx).me
end Go.Proofs.YtkhepdpfdhdlaaaGreatDoor
