/- Own overlays, changed in place: own rows that are sorted; ranges over functions within a round; regions that draw their order, in which what was there ahead may be read; sets; what the package asks of overlays and the reference asks too; no Go in it. -/
import Derived.Shelf.SlSortCmp.WholeK
import Derived.Test.YtkhepdpfdhdlaaaGreatDoorOv
set_option linter.unusedVariables false
set_option linter.unusedSimpArgs false
set_option linter.unusedSectionVars false
namespace Go.Proofs.YtkhepdpfdhdlaaaGreatDoor
open Go.RowKit Go.Sort
theorem lZ (F c:Array Value):(putCells id 0 F c).size=c.size:=by simp [putCells]
theorem xi (F c:Array Value) (h:F.size<=c.size):(putCells id 0 F c).toList.take F.size=F.toList:=by
 apply List.ext_getElem?
 intro t
 by_cases ht:t<F.size
 ·rw [Zw ht,Zy,Zy]
  unfold putCells
  rw [Array.getElem?_mapIdx,Zz (by omega),Option.map_some,if_pos ⟨YO _,by omega⟩,Zz ht,Nat.sub_zero,getElem!_pos F t ht]
  rfl
 ·rw [Zg (by rw [Y5];omega),Zg (by rw [YD];omega)]
theorem ut {W w':World} (h:Ext W w'):∃ q os',w'=grow (W.drewN q) os':=by
 refine ⟨w'.drawn - W.drawn,w'.heap.extract W.heap.size w'.heap.size,?_⟩
 have hh:w'.heap=W.heap++w'.heap.extract W.heap.size w'.heap.size:=by
  apply Array.ext_getElem?
  intro k
  rw [Array.getElem?_append]
  by_cases hk:k<W.heap.size
  ·rw [if_pos hk];exact h.block k hk
  ·rw [if_neg hk,Array.getElem?_extract]
   by_cases h2:k<w'.heap.size
   ·rw [if_pos (by omega)];congr 1;omega
   ·rw [if_neg (by omega),YV (by omega)]
 have h1:=h.os
 have h2:=h.tape
 have h3:=h.output
 have h4:=h.drawn
 obtain ⟨hp,tp,dr,o,ou⟩:=w'
 obtain ⟨hp2,tp2,dr2,o2,ou2⟩:=W
 simp only at h1 h2 h3 h4 hh
 subst h1;subst h2;subst h3
 have h5:dr2+(dr - dr2)=dr:=by omega
 simp only [grow,World.drewN,h5]
 rw [← hh]
theorem xM {P:Program} {l0:Nat} {r0:Loop} {w:World} (h:w.heap[l0]? = some (.loop r0)) (fn:FuncId) (tmps:Array Value) (ps:Array Tmp) (assign body:Code):
 (Instr.enterLoop fn tmps ps assign body (some l0)).run P w=.ok (w.heap.size,[]) (w.alloc (.loop {state:=.ready,pending:=none,fn,tmps,params:=ps,assign,body,defers:=r0.defers})):=by
 unfold Instr.enterLoop
 simp only [Zc,run_getLoop h,run_newObj_alloc,Result.andThen,Zd]
theorem DK {P:Program} {N lo:Nat} {ro:Loop} {a:Act} {L:List (Nat × Value)} {Df:List Deferred} {w w0:World} {B:List Own} {g:Operand} {ps:Array Tmp} {assign body:Code} {f:FuncId} {lb:Array Value} {Q:Exit->Act->World->Prop}
 (J:Nat->List Own->Prop) (A0:List Own) (X:List Own) (m:Nat) (q:Nat->Bool) (arg:Nat->List Value) (h:Sl N a L Df) (s:St w0 B w) (hg:dO L g=some (.func (.func f) #[] lb)) (hf:Fnc P f) (io:Nat) (hio:B[io]? = some (.blk lo (.loop ro)))
 (hB:B.Perm (X++A0)) (hJ0:J 0 A0) (hps:∀ d,(arg d).length=ps.size)
 (hiter:∀ (l:Nat) (w1:World) (GG:Nat->Own->Prop) (g0:Own),GG 0 g0->St w0 (X++[g0]) w1->
  (∀ (d:Nat) (B':List Own) (w':World) (i:Nat) (g:Own),d<m->(∀ j,j<d->q j=false)->GG d g->St w0 B' w'->B'[i]? = some g->ld P l (arg d).toArray w' (λv w''=>v=.bool (!q d)/\∃ g',GG (d+1) g'/\St w0 (B'.set i g') w''))->
  Calls P f (#[.func (.yield l) #[] #[]]++lb) w1 (λe w'=>(∃ v,e=.returned v)/\∃ d g,GG d g/\St w0 (X++[g]) w'/\d<=m/\(∀ j,j+1<d->q j=false)/\(lq q d=false->d=m)))
 (hround:∀ (l d:Nat) (rc:LoopState->Loop) (R A:List Own) (w1:World),d<m->(∀ j,j<d->q j=false)->J d A->St w0 (.blk l (.loop (rc .ready))::(A++R)) w1->
  assign.wpIn (FR (some l)) 0 P (Exit.then (λa1 w2=>∃ X1,St w0 (.blk l (.loop (rc .ready))::X1) w2/\∀ w3,St w0 (.blk l (.loop (rc .busy))::X1) w3->body.wpIn (FR (some l)) 0 P
   (λe _ w4=>Gp (q d) e/\∃ A',J (d+1) A'/\St w0 (.blk l (.loop (rc .busy))::(A'++R)) w4) a1 w3) (λ_ _ _=>False))
   {tmps:=(ps.zip (arg d).toArray).foldl (λt (p,v)=>t.setIfInBounds p v) a.tmps,defers:=[]} w1)
 (hdone:∀ (A:List Own) (w2:World),J m A->(∀ j,j<m->q j=false)->St w0 (X++A) w2->Q .normal a w2)
 (hleft:∀ (d:Nat) (A:List Own) (w2:World),d<m->q d=true->(∀ j,j<d->q j=false)->J (d+1) A->St w0 (X++A) w2->Q .ret a w2):
 (Code.rangeFunc g ps assign body).wpIn (FR (some lo)) 0 P Q a w:=by
 refine wpIn_rangeFunc (F:=FR (some lo)) λfn _=>?_
 obtain ⟨rq,hrq⟩:∃ rq,rq=λpe st=>im a ro.defers fn ps assign body pe st:=⟨_,rfl⟩
 obtain ⟨cD,e1,e2,e3⟩:=hf.has
 have hl0:im a ro.defers fn ps assign body none .ready=rq none .ready:=by rw [hrq]
 refine ⟨w.heap.size,[],w.alloc (.loop (rq none .ready)),{target:=.fn (.func f) lb,args:=#[.func (.yield w.heap.size) #[] #[]]},w.alloc (.loop (rq none .ready)),f,
  #[.func (.yield w.heap.size) #[] #[]]++lb,w.alloc (.loop (rq none .ready)),?_,?_,λ_ _=>trivial,?_,(λhh=>by cases hh),?_⟩
 ·rw [hrq];exact xM (s.get io hio) _ _ _ _ _
 ·simp only [resolve,h.ev hg]
  simp [go_sem]
 ·simp only [invoke];exact eC e1 e2 e3 _ _
 have s1:St w0 (.blk w.heap.size (.loop (rq none .ready))::B) (w.alloc (.loop (rq none .ready))):=s.new (.loop (rq none .ready))
 have s2:St w0 ((.blk w.heap.size (.loop (rq none .ready))::A0)++X) (w.alloc (.loop (rq none .ready))):=
  s1.perm ((hB.trans List.perm_append_comm).cons _)
 have hnd0:=ex s2
 have s3:=s2.group
 refine callsIn_wide.2 ((hiter w.heap.size _ (λd g=>∃ A,J d A/\g=.all w0 (.blk w.heap.size (.loop (rq (rZ (lq q d)) (nY (lq q d))))::A)/\
  (Own.blk w.heap.size (.loop (rq (rZ (lq q d)) (nY (lq q d))))::A).Pairwise λp q=>∀ k,p.at k->¬ q.at k)
  _ ⟨A0,hJ0,rfl,hnd0⟩ (s3.perm (List.perm_append_comm (l₁:=[_]))) ?_).mono ?_)
 ·rintro d B' w' i g hd ln ⟨A,hJ,rfl,hnd⟩ s' hi
  have hlq:lq q d=false:=by cases d with|zero=>rfl|succ d=>exact ln d (Nat.lt_succ_self d)
  rw [hlq] at hi hnd
  have hil:=(Yv.1 hi).1
  have s4:St w0 ((.blk w.heap.size (.loop (rq none .ready))::A)++B'.eraseIdx i) w':=(s'.perm (lm hi)).ungroup hnd
  have hl:=s4.get 0 rfl
  have hy:=run_yield (P:=P) (args:=(arg d).toArray) hl (by rw [hrq,List.size_toArray];exact hps d)
  refine ⟨_,_,_,_,hy,?_⟩
  have hw:=hround w.heap.size d (rq none) (B'.eraseIdx i) A w' hd ln hJ (by simpa using s4)
  subst hrq
  refine roundIn_of_wpIn (F:=Fence.wide) (n:=0) trivial (Go.wpIn_mono hw ?_)
  intro e a1 w2 he
  cases e with
  |normal=>
   obtain ⟨X1,s5,hb⟩:=he
   refine ⟨_,run_beginRound (s5.get 0 rfl) rfl,Go.wpIn_mono (hb _ (s5.putObj 0 rfl _)) ?_⟩
   rintro e2 a3 w4 ⟨hle,A',hJ',s6⟩
   have key:∀ (jump:Option Code),jump=rZ (q d)->∃ v w',(Instr.endRound w.heap.size jump).run P w4=.ok v w'/\∃ u,Ending.returned v=.returned u/\u=.bool (!q d)/\∃ g',(∃ A,J (d+1) A/\g'=Own.all w0 (.blk w.heap.size (.loop (im a ro.defers fn ps assign body (rZ (q d)) (nY (q d))))::A)/\
    (Own.blk w.heap.size (.loop (im a ro.defers fn ps assign body (rZ (q d)) (nY (q d))))::A).Pairwise λp q=>∀ k,p.at k->¬ q.at k)/\St w0 (B'.set i g') w':=by
    rintro jump rfl
    refine ⟨_,_,run_endRound _ (s6.get 0 rfl),_,rfl,(by cases q d<;>rfl),_,⟨A',hJ',rfl,?_⟩,?_⟩
    ·have hn:=ex (A:=.blk w.heap.size (.loop (im a ro.defers fn ps assign body none .busy))::A') (R:=B'.eraseIdx i) (by simpa using s6)
     exact wm (A:=.blk w.heap.size (.loop (im a ro.defers fn ps assign body none .busy))::A') rfl hn
    ·have s7:=s6.putObj 0 rfl (.loop (im a ro.defers fn ps assign body (rZ (q d)) (nY (q d))))
     have s8:St w0 ((.blk w.heap.size (.loop (im a ro.defers fn ps assign body (rZ (q d)) (nY (q d))))::A')++B'.eraseIdx i) _:=s7
     have s9:=s8.group.perm (rM hil _)
     cases hqd:q d<;>rw [hqd] at s9<;>exact s9
   cases e2 with
   |normal=>exact key none (by rw [show q d=false from hle];rfl)
   |ret=>exact key (some .ret) (by rw [show q d=true from hle];rfl)
   |exit _=>exact hle.elim
   |goto _=>exact hle.elim
   |panic _=>exact hle.elim
   |outgrown=>exact hle.elim
  |ret=>exact he.elim
  |exit _=>exact he.elim
  |goto _=>exact he.elim
  |panic _=>exact he.elim
  |outgrown=>exact he.elim
 ·rintro e w2 ⟨⟨v,rfl⟩,d,g,⟨A,hJ,rfl,hnd⟩,s4,hdm,ln,hend⟩
  have s5:St w0 ((.blk w.heap.size (.loop (rq (rZ (lq q d)) (nY (lq q d))))::A)++X) w2:=(s4.perm (List.perm_append_comm (l₂:=[_]))).ungroup hnd
  have hl:=s5.get 0 rfl
  subst hrq
  refine ⟨rZ (lq q d),_,run_endLoop hl (by cases lq q d<;>simp [im,nY]),?_⟩
  have s6:=s5.putObj 0 rfl (.loop {im a ro.defers fn ps assign body (rZ (lq q d)) (nY (lq q d)) with state:=.exhausted})
  have s7:=(s6.pick (A++X) (YN _ _)).perm List.perm_append_comm
  cases hqd:lq q d with
  |false=>
   obtain rfl:=hend hqd
   refine hdone A _ hJ (λj hj=>?_) (by rw [hqd] at s7;exact s7)
   by_cases h1:j+1<d
   ·exact ln j h1
   ·have:d=j+1:=by omega
    subst this;exact hqd
  |true=>
   cases d with
   |zero=>cases hqd
   |succ d=>
    refine Y8 ?_
    exact hleft d A _ (by omega) hqd (λj hj=>ln j (by omega)) hJ (by rw [hqd] at s7;exact s7)
section
variable {P:Program} {ops:Array Oper} {Q:Act->World->Prop} {l:List Oper} {a:Act} {w w0:World} {N:Nat} {L:List (Nat × Value)} {Df:List Deferred} {B:List Own} {d:Tmp} {ty:TypeId} {pos:String} {af:Array Edge} {x y z:Operand} {t e:TypeId}
theorem qK {v u9:Value} {sz n p:Nat} {xs ys D:List Value} (i:Nat) (h:Sl N a L Df) (s:St w0 B w) (hx:dO L x=some (.pointer (some (bI v p)))) (hy:dO L y=some u9) (hi:B[i]? = some (.sl v e sz n xs)) (hp:p+D.length<=n*sz) (h1:0<D.length) (hv:∀ u∈D,u.oneCell'=true)
 (hst:∀ (g:Nat) (w9:World) (cur:Array Value) (fz:Nat × Nat),w9.heap[g]? = some (.cells cur e fz)->(fz.2=0∨cur.size<=fz.1)->p+D.length<=cur.size->(storeVar t ⟨g,p,none⟩ u9).run P w9=.ok () (w9.setRow g (cur.toList.take p++D++cur.toList.drop (p+D.length)).toArray))
 (hys:xs.take p++D++xs.drop (p+D.length)=ys)
 (k:∀ w',St w0 (B.set i (.sl v e sz n ys)) w'->bZ P ops Q l a w'):bZ P ops Q (⟨none,.store t x y,ty,pos,af,none⟩::l) a w:=by
 have ho:=s.getSl i hi
 rcases ho.2 with ⟨_,h0⟩|⟨g,cap,cur,fz,rfl,hb,hg,hfz,hnc,hcm,hcs,htk⟩
 ·subst h0;omega
 ·have hcl:n*sz<=cur.size:=by rw [hcs];exact Nat.mul_le_mul_right _ hnc
  have hxl:xs.length=n*sz:=ho.1
  have hcx:cur.toList=xs++cur.toList.drop (n*sz):=by rw [← htk];exact(YS _ _).symm
  have hyl:ys.length=n*sz:=by
   rw [← hys];simp only [Yy,Y5,YX];omega
  have hnew:cur.toList.take p++D++cur.toList.drop (p+D.length)=ys++cur.toList.drop (n*sz):=by
   rw [← hys]
   conv=>lhs;rw [hcx]
   rw [List.take_append_of_le_length (by omega),List.drop_append_of_le_length (by omega)]
   simp only [Zi]
  have hel:(some (bI (Value.slice (some ⟨g,0,none⟩) n cap) p):Option Addr)=some ⟨g,p,none⟩:=by show some (Addr.add _ _)=_;rw [Addr.add_lit,Nat.zero_add]
  have hstr:=hst g w cur fz hg hfz (by omega)
  rw [hnew] at hstr
  have hsz:(ys++cur.toList.drop (n*sz)).toArray.size=cur.size:=by
   rw [List.size_toArray,Yy,YX,hyl];have:=YD (xs:=cur);omega
  refine kp (R:=λ_ w'=>w'=w.setRow g (ys++cur.toList.drop (n*sz)).toArray) ?_ λw' _ hw=>by
   subst hw
   refine k _ (s.upd i hi (p':=.sl _ e sz n ys) rfl rfl rfl (by simp) ⟨hyl,.inr ⟨g,cap,_,fz,rfl,hb,setRow_heap w g cur _ e fz hg,?_,hnc,hcm,?_,?_⟩⟩ (λk hk=>.inl hk) (λk hk hne=>setRow_other w g k _ λe9=>hne (Own.at_sl.2 (by simp [Value.ownBlock,e9]))))
   ·rw [hsz];exact hfz
   ·rw [hsz];exact hcs
   ·show (ys++cur.toList.drop (n*sz)).take (n*sz)=ys
    rw [← hyl];exact List.take_left
  unfold cN
  rw [hel] at hx
  simp only [execOp,h.ev hx,h.ev hy,Instr.storeAt,Instr.sureAddr,Zc,Zd,YA,hstr]
theorem dX {v V:Value} {sz n p:Nat} {xs ys:List Value} (i:Nat) (h:Sl N a L Df) (s:St w0 B w) (ho:One P t) (hx:dO L x=some (.pointer (some (bI v p)))) (hy:dO L y=some V) (hi:B[i]? = some (.sl v e sz n xs)) (hp:p+1<=n*sz) (hv:V.oneCell'=true)
 (hys:xs.set p V=ys)
 (k:∀ w',St w0 (B.set i (.sl v e sz n ys)) w'->bZ P ops Q l a w'):bZ P ops Q (⟨none,.store t x y,ty,pos,af,none⟩::l) a w:=by
 have hxl:xs.length=n*sz:=(s.getSl i hi).1
 refine qK (D:=[V]) i h s hx hy hi hp (by simp) (λu hu=>by rw [YF] at hu;subst hu;exact hv) (λg w9 cur fz hg hfz hc=>?_) (by rw [← hys];simp only [Y0,Y1,Nat.zero_add];rw [List.set_eq_take_append_cons_drop,if_pos (by omega)];simp) k
 have hs:(sizeOf t).run P w9=.ok 1 w9:=by
  cases hq:P.info? t with
  |none=>have:=ho.size;simp [hq] at this
  |some i=>have:=ho.size;simp [hq] at this;simp [sizeOf,typeInfo,Zc,hq,this]
 have hc1:V.cells=#[V]:=by
  cases V<;>first|rfl|(simp [Value.oneCell'] at hv)
 have:=dc P g p e fz [V] 0 cur w9 hg hfz (by simpa using hc) (λu hu=>by rw [YF] at hu;subst hu;exact hv)
 simp only [Nat.add_zero,Y0,Y1,Nat.zero_add] at this
 simp [storeVar,Zc,hs,hc1,this]
end
theorem eM {P:Program} {e:TypeId} {sz by_:Nat} (h:((P.info? e).bind λi=>i.zero.map λz=>(i.size,i.bytes,z.cells.size))=some (sz,by_,sz)) (h0:0<sz):Elm P e sz by_:=by
 cases hi:P.info? e with
 |none=>rw [hi] at h;simp at h
 |some i=>
  rw [hi] at h
  cases hz:i.zero with
  |none=>simp [hz] at h
  |some z=>
   simp only [Option.bind_some,hz,Option.map_some,Option.some.injEq,Zn] at h
   exact ⟨⟨i,z,hi,hz,h.1,h.2.1,h.2.2⟩,h0⟩
section
variable {P:Program} {ρ:Operand->Value} {d:Option Tmp} {ty:TypeId} {pos:String} {af:Array Edge} {g:Option (Nat × Bool)} {x y:Operand} {t t' e:TypeId}
theorem Ep {w:World} (ht:P.underlying t=some (.pointer e)) (q:Option Addr) (n:Nat):(Op.equalIn (n+1) t (.pointer q) (.pointer none)).run P w=.ok q.isNone w:=by
 cases q<;>simp [Op.equalIn,YC ht]
theorem rp {w:World} (ht:P.underlying t=some (.pointer e)) (q:Option Addr):(Op.equal t (.pointer q) (.pointer none)).run P w=.ok q.isNone w:=Ep ht q 9999
theorem eX {q:Option Addr} (ht:P.underlying t=some (.pointer e)) (hx:ρ x=.pointer q) (hy:ρ y=.pointer none):aP P ⟨d,.binOp .eql t x y t',ty,pos,af,g⟩ ρ (.bool q.isNone):=λw=>by
 simp [execOp,hx,hy,eqGuard,binOp,rp ht,Result.andThen]
theorem gY {q:Option Addr} (ht:P.underlying t=some (.pointer e)) (hx:ρ x=.pointer q) (hy:ρ y=.pointer none):aP P ⟨d,.binOp .neq t x y t',ty,pos,af,g⟩ ρ (.bool !q.isNone):=λw=>by
 simp [execOp,hx,hy,eqGuard,binOp,rp ht,Result.andThen]
end
def eY (L:List N3) (no:Int):Nat:=L.findIdx λx=>decide (x.1.me.1=no)
def za (vo:Value) (L:List N3) (no:Int):Value:=bif decide (eY L no<L.length) then .pointer (some (bI vo (eY L no*68))) else .pointer none
theorem Rc {L:List N3} {no:Int} {k:Nat} (hk:k<L.length) (h:∀ j,j<k->decide ((L.getD j z3).1.me.1=no)=false) (he:decide ((L.getD k z3).1.me.1=no)=true):eY L no=k:=by
 unfold eY
 rw [List.findIdx_eq hk]
 refine ⟨by rw [uX hk];exact he,λj hj=>?_⟩
 rw [uX (by omega)];exact h j hj
theorem Lw {L:List N3} {no:Int} {k:Nat} (hk:L.length<=k) (h:∀ j,j<k->decide ((L.getD j z3).1.me.1=no)=false):eY L no=L.length:=by
 unfold eY
 rw [List.findIdx_eq_length]
 intro x hx
 obtain ⟨j,hj,rfl⟩:=Bb hx
 exact h j (by omega)
theorem Nj {L:List N3} {no:Int} (h:eY L no<L.length):(∀ j,j<eY L no->decide ((L.getD j z3).1.me.1=no)=false)/\decide ((L.getD (eY L no) z3).1.me.1=no)=true:=by
 refine ⟨λj hj=>?_,?_⟩
 ·have:=List.not_of_lt_findIdx (p:=λx:N3=>decide (x.1.me.1=no)) (xs:=L) hj
  rw [uX (by omega)] at this
  simpa using this
 ·have:=List.findIdx_getElem (p:=λx:N3=>decide (x.1.me.1=no)) (xs:=L) (w:=h)
  rw [← uX h]
  exact this
theorem FO {L:List N3} {no:Int} (h:eY L no<L.length):L.getD (eY L no) z3=cb L no/\(cb L no).1.me.1=no:=by
 obtain ⟨h1,h2⟩:=Nj h
 have e:=OG h h1 h2
 exact ⟨e.symm,by rw [e];exact Yq h2⟩
theorem EE {vo:Value} {L:List N3} {no:Int} (h:eY L no<L.length):za vo L no=.pointer (some (bI vo (eY L no*68))):=by unfold za;rw [Yt h];rfl
theorem FB {vo:Value} {L:List N3} {no:Int} (h:¬ eY L no<L.length):za vo L no=.pointer none:=by unfold za;rw [Ys h];rfl
theorem GD {L:List N3} {no:Int} (h:∃ x∈L,x.1.me.1=no):eY L no<L.length:=by
 obtain ⟨x,hx,e⟩:=h
 exact List.findIdx_lt_length_of_exists ⟨x,hx,Yt e⟩
theorem qu {L:List N3} {no:Int} (hn:∀ m∈aI L,0<=m.1):decide (eY L no<L.length)=cC (aI L) no:=by
 rw [Zv,decide_eq_true_iff,mD hn]
 constructor
 ·intro h
  obtain ⟨e1,e2⟩:=FO h
  exact ⟨(cb L no).1.me,Ze.2 ⟨cb L no,by rw [← e1];exact cF h,rfl⟩,e2⟩
 ·rintro ⟨m,hm,e⟩
  obtain ⟨x,hx,rfl⟩:=Ze.1 hm
  exact GD ⟨x,hx,e⟩
def Uk (vo:Value) (q:Nat->Bool):Nat->Value|0=>.pointer none|d+1=>bif q d then .pointer (some (bI vo (d*68))) else .pointer none
theorem Lm {vo:Value} {q:Nat->Bool} {d:Nat} (h:∀ j,j<d->q j=false):Uk vo q d=.pointer none:=by
 cases d with
 |zero=>rfl
 |succ d=>show (bif q d then _ else _)=_;rw [h d (Nat.lt_succ_self d)];rfl
def qL (L:List N3) (no:Int) (j:Nat):Bool:=decide ((L.getD j z3).1.me.1=no)
theorem Q7 {vo:Value} {L:List N3} {no:Int} {d:Nat} (hd:d<L.length) (h:∀ j,j<d->qL L no j=false) (he:qL L no d=true):Uk vo (qL L no) (d+1)=za vo L no:=by
 show (bif qL L no d then _ else _)=_
 have e:=Rc hd h he
 rw [he,EE (by rw [e];exact hd),e];rfl
theorem SX {vo:Value} {L:List N3} {no:Int} (h:∀ j,j<L.length->qL L no j=false):za vo L no=.pointer none:=FB (by rw [Lw (YM _) h];omega)
def kX (l:List Mb) (k:Nat):Bool:=decide ((l.getD k bE).1<(l.getD (k - 1) bE).1)
def qI (l:List Mb):Bool:=(List.range l.length).all λk => !(decide (0<k) && kX l k)
theorem wI {l:List Mb} {k:Nat} (hk:k<l.length) (h0:0<k) (h:kX l k=true):qI l=false:=by
 unfold qI
 rw [← Bool.not_eq_true,Yx]
 intro h9
 have:=h9 k (YI.2 hk)
 rw [h,Yt h0] at this;cases this
theorem pz {l:List Mb} (h:∀ j,0<j->j<l.length->kX l j=false):qI l=true:=by
 unfold qI
 rw [Yx]
 intro j hj
 by_cases h0:0<j
 ·rw [h j h0 (YI.1 hj)];simp
 ·rw [Ys h0];rfl
theorem KE {l:List Mb}:qI l=true↔∀ j,0<j->j<l.length->kX l j=false:=by
 refine ⟨λh j h0 hj=>?_,pz⟩
 cases hq:kX l j with
 |false=>rfl
 |true=>rw [wI hj h0 hq] at h;cases h
theorem HX {l:List Mb} {k:Nat} (h:∀ j,k<=j->0<j->j<l.length->kX l j=false) (hk:0<k) (hq:kX l (k - 1)=false):∀ j,k - 1<=j->0<j->j<l.length->kX l j=false:=λj h1 h2 h3=>by
 by_cases e:j=k - 1
 ·subst e;exact hq
 ·exact h j (by omega) h2 h3
theorem iK (x y:Int):cc x y<0↔x<y:=by unfold cc;split<;>(try split)<;>omega
theorem g8 {L:List N3} {k:Nat} (hk:k<L.length):(aI L).getD k bE=(L.getD k z3).1.me:=by
 rw [← Fe (by rw [Y6];exact hk),← uX hk];exact List.getElem_map _
theorem On {L:List N3} {no:Int} (h:eY L no<L.length):g5 (aI L) no=some (L.getD (eY L no) z3).1.me:=by
 obtain ⟨h1,h2⟩:=Nj h
 have e:=KH (l:=aI L) (no:=no) (k:=eY L no) (by rw [Y6];exact h) (λj hj=>by rw [g8 (by omega)];exact h1 j hj) (by rw [g8 h];exact h2)
 rw [e,g8 h]
theorem Lo {L:List N3} {no:Int} (h:¬ eY L no<L.length):g5 (aI L) no=none:=by
 refine Iy (k:=L.length) (by rw [Y6];exact YM _) λj hj=>?_
 rw [g8 hj]
 refine Ys λe=>h (GD ⟨_,cF hj,e⟩)
def k9 (L:List N3) (m:Mb):Bool:=decide (eY L m.1<L.length) && !decide ((L.getD (eY L m.1) z3).1.me=m)
theorem F7 {L:List N3} (hr:Rg (aI L)) (m:Mb):k9 L m=nP (aI L) m:=by
 unfold k9 nP lH
 by_cases h:eY L m.1<L.length
 ·rw [On h,Yt h]
  have h0:=(hr.nos _ (Ze.2 ⟨_,cF h,rfl⟩)).1
  rw [Option.getD_some,Yt h0]
 ·rw [Lo h,Ys h]
  rfl
theorem WH {L:List N3} {m:Mb} (h:decide (eY L m.1<L.length)=false):k9 L m=false:=by unfold k9;rw [h];rfl
theorem R3 {L:List N3} {m:Mb} (h:decide (eY L m.1<L.length)=true):k9 L m = !decide ((L.getD (eY L m.1) z3).1.me=m):=by unfold k9;rw [h];rfl
def UQ (n:Nd) (L:List N3) (j:Nat):Bool:=k9 L ((aM n).getD j bE)
theorem Lk {n:Nd} {L:List N3} {d:Nat} (hd:d<(aM n).length) (h:UQ n L d=true):(aM n).any (k9 L)=true:=Zt.2 ⟨_,mC hd,h⟩
theorem Jn {n:Nd} {L:List N3} (h:∀ j,j<(aM n).length->UQ n L j=false):(aM n).any (k9 L)=false:=by
 rw [Zu]
 intro x hx
 obtain ⟨j,hj,rfl⟩:=rr hx
 rw [show k9 L ((aM n).getD j bE)=false from h j hj];decide
def GT (L:List N3) (k:Nat):Bool := !dU (L.getD k z3).1 || (aM (L.getD k z3).1).any (k9 L)
theorem NS {L:List N3} (h:eo (aI L)=false):lD L=false:=by unfold lD;rw [h,Bool.and_false]
theorem Pz {L:List N3} (h:qI (aI L)=false):lD L=false:=by
 have:¬ ∀ j,0<j->j<(aI L).length->kX (aI L) j=false:=λh9=>by rw [pz h9] at h;cases h
 rw [Classical.not_forall] at this
 obtain ⟨k,hk⟩:=this
 rw [Classical.not_imp,Classical.not_imp] at hk
 obtain ⟨h0,h1,h2⟩:=hk
 rw [Y6] at h1
 refine KO h1 (WK (Yt h0) ?_)
 have h3:kX (aI L) k=true:=by cases hq:kX (aI L) k with|true=>rfl|false=>exact ZF hq h2
 unfold kX at h3
 rw [g8 h1,g8 (by omega)] at h3
 have:=Yq h3
 exact Yt (by omega)
theorem F1 {L:List N3} (h0:eo (aI L)=true) (h1:qI (aI L)=true):lD L=(List.range L.length).all λk => !GT L k:=by
 have hg:=(qq _).1 h0
 have key:∀ k,k<L.length->jt L k=GT L k:=λk hk=>by
  have e1:(decide (0<k) && decide ((L.getD k z3).1.me.1<=(L.getD (k - 1) z3).1.me.1))=false:=by
   by_cases hk0:0<k
   ·have h2:=KE.1 h1 k hk0 (by rw [Y6];exact hk)
    unfold kX at h2
    rw [g8 hk,g8 (by omega)] at h2
    have h3:=Yr h2
    have h4:=(List.pairwise_iff_getElem.1 hg.nd (k - 1) k (by rw [Y6];omega) (by rw [Y6];exact hk) (by omega)).1
    rw [Fe,Fe,g8 hk,g8 (by omega)] at h4
    rw [Yt hk0,Ys (by omega)];rfl
   ·rw [Ys hk0];rfl
  have e2:(aM (L.getD k z3).1).any (nP (aI L))=(aM (L.getD k z3).1).any (k9 L):=by
   congr 1;funext m;exact(F7 hg m).symm
  unfold jt GT
  rw [e1,e2,Bool.false_or]
 unfold lD
 rw [h0,Bool.and_true,Zv,Yx,Yx]
 exact ⟨λh k hk=>by rw [← key k (YI.1 hk)];exact h k hk,λh k hk=>by rw [key k (YI.1 hk)];exact h k hk⟩
theorem Lr {L:List N3} {d:Nat} (h0:eo (aI L)=true) (h1:qI (aI L)=true) (hd:d<L.length) (h:GT L d=true):lD L=false:=by
 rw [F1 h0 h1,← Bool.not_eq_true,Yx]
 intro h9
 have:=h9 d (YI.2 hd)
 rw [h] at this;cases this
theorem Kb {L:List N3} (h0:eo (aI L)=true) (h1:qI (aI L)=true) (h:∀ j,j<L.length->GT L j=false):lD L=true:=by
 rw [F1 h0 h1,Yx]
 intro k hk
 rw [h k (YI.1 hk)];rfl
theorem Wc {L:List N3} {k:Nat} (h:dU (L.getD k z3).1=false):GT L k=true:=by unfold GT;rw [h];rfl
theorem Sg {L:List N3} {k:Nat} (h:dU (L.getD k z3).1=true):GT L k=(aM (L.getD k z3).1).any (k9 L):=by unfold GT;rw [h];rfl
theorem kW (a b c:List Mb):[a,b,c].flatten=a++(b++c):=by simp
theorem Eh {w:World} {u v x:Value} {a b c:List Mb} (h1:bp w u 33 a.length (aw a)) (h2:bp w v 33 b.length (aw b)) (h3:bp w x 33 c.length (aw c)):∀ k,k<[u,v,x].length->bp w ([u,v,x].getD k undef) 33 ([a,b,c].getD k []).length (aw ([a,b,c].getD k [])):=λk hk=>by
 match k,hk with
 |0,_=>exact h1
 |1,_=>exact h2
 |2,_=>exact h3
theorem H2 (L:List N3) (j i:Nat) (hj:j<L.length) (hi:i<68):(aK L)[j*68+i]? = (yX (L.getD j z3))[i]? := by
 have h1:=Yu (λa:Array Value=>a[i]?) (gz L j hj)
 simp only [YT] at h1
 rw [Zw hi,Zx] at h1
 rw [h1];simp [bJ,yX]
theorem Fi (L:List N3) (j:Nat) (hj:j<L.length):(aK L)[j*68+66]? = some (L.getD j z3).2.1:=by rw [H2 L j 66 hj (by decide)];exact sI _ _ _ _ 0
theorem EN (L:List N3) (j:Nat) (hj:j<L.length):(aK L)[j*68+67]? = some (L.getD j z3).2.2:=by rw [H2 L j 67 hj (by decide)];exact sI _ _ _ _ 1
theorem qo {K:List N3} {j:Nat} (hj:j<K.length) (x:N3):(K.set j x).getD j z3=x:=by
 rw [← uX (by rw [List.length_set];exact hj)];exact List.getElem_set_self _
theorem Na {K:List N3} {i j:Nat} (h:i≠j) (x:N3):(K.set j x).getD i z3=K.getD i z3:=by
 rw [YR,YR,List.getElem?_set_ne (λe=>h e.symm)]
theorem C6 {K:List N3} {j:Nat} (hj:j<K.length) (x:N3):(K.set j x).take (j+1)=K.take j++[x]:=by
 rw [Ah (by rw [List.length_set];exact hj),qo hj,List.take_set_of_le (YM _)]
theorem EK {K:List N3} {j:Nat} (hj:j<K.length):aK K=aK (K.take j)++(yX (K.getD j z3)++aK (K.drop (j+1))):=by
 conv=>lhs;rw [← YS j K,List.drop_eq_getElem_cons hj,uX hj]
 rw [jI];rfl
theorem JD {K:List N3} {j:Nat} (hj:j<K.length) (x:N3):aK (K.set j x)=aK (K.take j)++(yX x++aK (K.drop (j+1))):=by
 rw [List.set_eq_take_append_cons_drop,if_pos hj,jI];rfl
theorem Bu {K:List N3} {j:Nat} (hj:j<K.length):(aK (K.take j)).length=j*68:=by rw [wh,Y5,Nat.min_eq_left (by omega)]
theorem Ra (m p:Mb) (u v V:Value):(mA m p u v).set 66 V=mA m p V v:=by
 have:=Yu Array.toList (GC m p u v V)
 rwa [Array.toList_setIfInBounds] at this
theorem Ub (m p:Mb) (u v V:Value):(mA m p u v).set 67 V=mA m p u V:=by
 have:=Yu Array.toList (El m p u v V)
 rwa [Array.toList_setIfInBounds] at this
theorem Bm {K:List N3} {j off:Nat} (hj:j<K.length) (ho:off<68) {V:Value} {x:N3} (h:(yX (K.getD j z3)).set off V=yX x):(aK K).set (j*68+off) V=aK (K.set j x):=by
 rw [JD hj,← h,EK hj,List.set_append_right _ _ (by rw [Bu hj];omega),Bu hj,Nat.add_sub_cancel_left,List.set_append_left _ _ (by rw [lM];exact ho)]
theorem xK {K:List N3} {j:Nat} (hj:j<K.length) (V:Value) (l:List Mb):(aK K).set (j*68+66) V=aK (K.set j (⟨(K.getD j z3).1.me,(K.getD j z3).1.pr,l,(K.getD j z3).1.fg⟩,V,(K.getD j z3).2.2)):=Bm hj (by decide) (Ra _ _ _ _ _)
theorem vM {K:List N3} {j:Nat} (hj:j<K.length) (V:Value) (l:List Mb):(aK K).set (j*68+67) V=aK (K.set j (⟨(K.getD j z3).1.me,(K.getD j z3).1.pr,(K.getD j z3).1.sc,l⟩,(K.getD j z3).2.1,V)):=Bm hj (by decide) (Ub _ _ _ _ _)
theorem sj {L:List N3} {w:World} (h:∀ x∈L,BT w x):∀ u∈aK L,u.oneCell'=true:=λu hu=>by
 unfold aK at hu
 obtain ⟨x,hx,hu⟩:=List.mem_flatMap.1 hu
 exact ed (h x hx).ones.1 (h x hx).ones.2 u hu
theorem yk {w:World} {a:Option Addr} {n c:Nat} {L:List N3} (ha:a.isNone=true) (h:bp w (.slice a n c) 68 L.length (aK L)):L=[]:=by
 cases a with
 |some p=>cases ha
 |none=>
  rcases h.2 with ⟨_,h2⟩|⟨p,cap,h1,_⟩
  ·exact List.eq_nil_of_length_eq_zero h2
  ·cases h1
def XJ (w:World) (N:TypeId) (E:List Nd):c8:=λv w9=>∃ vq K ks,v=.agg #[vq]/\nds K=E/\St w [.sl vq N 68 K.length (aK K),.grp ks (jM K)] w9
theorem St.bring {w0 w:World} {B:List Own} {p:Own} (s:St w0 B w) (i:Nat) (hi:B[i]? = some p):St w0 (p::B.eraseIdx i) w:=s.perm (lm hi)
theorem Ba {K:List N3} {E:List Nd} {j:Nat} {x:N3} (h:nds K=E) (hx:x.1=(K.getD j z3).1) (hj:j<K.length):nds (K.set j x)=E:=by
 subst h
 apply List.ext_getElem?
 intro i
 unfold nds
 rw [Zf,Zf,List.getElem?_set]
 by_cases e:j=i
 ·subst e;rw [if_pos rfl,if_pos hj,Yz hj,uX hj,Option.map_some,Option.map_some,hx]
 ·rw [if_neg e]
theorem AJ {K:List N3} {j:Nat} {x:N3} (hj:j<K.length) {w9:World} (h:jM (K.take j) w9) (hx:BT w9 x):jM ((K.set j x).take (j+1)) w9:=λy hy=>by
 rw [C6 hj] at hy
 rcases Y4.1 hy with hy|hy
 ·exact h y hy
 ·rw [YF] at hy;subst hy;exact hx
theorem xR (K:List N3) (j:Nat) (x y:N3):(K.set j x).set j y=K.set j y:=List.set_set _
theorem z6 {q:Nat->Bool} {d:Nat} (h:∀ j,j<d->q j=false):lq q d=false:=by
 cases d with
 |zero=>rfl
 |succ d=>exact h d (Nat.lt_succ_self d)
theorem rF {x:N3}:∀ K:List N3,(K.Pairwise λa b=>a.1.me.1<b.1.me.1)->(∀ y∈K,y.1.me.1≠x.1.me.1)->∃ A B,K=A++B/\(∀ a∈A,a.1.me.1<x.1.me.1)/\∀ b∈B,x.1.me.1<b.1.me.1
 |[],_,_=>⟨[],[],rfl,by simp,by simp⟩
 |y::K,h,hx=>by
  have hp:=List.pairwise_cons.1 h
  by_cases e:x.1.me.1<y.1.me.1
  ·refine ⟨[],y::K,rfl,by simp,λb hb=>?_⟩
   rcases YH.1 hb with rfl|hb
   ·exact e
   ·have:=hp.1 b hb;omega
  ·obtain ⟨A,B,rfl,hA,hB⟩:=rF K hp.2 λz hz=>hx z (YQ _ hz)
   have:=hx y YG
   refine ⟨y::A,B,rfl,λa ha=>?_,hB⟩
   rcases YH.1 ha with rfl|ha
   ·omega
   ·exact hA a ha
theorem IK {A B:List N3} {x:N3} (hA:∀ z∈A,z.1.me.1<x.1.me.1) (hB:∀ z∈B,x.1.me.1<z.1.me.1):gi (A++B) x=A++x::B:=by
 match B,hB with
 |[],_=>
  have:gN x (A++[])=(A,false):=by unfold gN;rw [Zj,oo A [] hA];rfl
  rw [Us (by rw [this]),this]
 |b::B,hB=>
  have hb:=hB b YG
  have:gN x (A++b::B)=(A++x::b::B,true):=by
   unfold gN
   rw [List.foldl_append,oo A [] hA,List.nil_append,List.foldl_cons,Sn rfl (Yt (by show x.1.me.1<=b.1.me.1;omega)) (Yt (by show b.1.me.1≠x.1.me.1;omega)),sg B _ λz hz=>hB z (YQ _ hz)]
   simp
  rw [Sz (by rw [this]),this]
theorem IE {K K2:List N3} {x:N3} (hK:K.Pairwise λa b=>a.1.me.1<b.1.me.1) (hx:∀ y∈K,y.1.me.1≠x.1.me.1) (hp:K2.Perm (K++[x])) (hs:K2.Pairwise λa b=>a.1.me.1<b.1.me.1):K2=gi K x:=by
 obtain ⟨A,B,rfl,hA,hB⟩:=rF K hK hx
 rw [IK hA hB]
 have h1:=List.pairwise_append.1 hK
 refine List.Perm.eq_of_pairwise (le:=λa b:N3=>a.1.me.1<b.1.me.1) (λa b _ _ h1 h2=>ZF h1 (by omega)) hs ?_ (hp.trans ?_)
 ·rw [List.pairwise_append,List.pairwise_cons]
  refine ⟨h1.1,⟨hB,h1.2.1⟩,λa ha b hb=>?_⟩
  rcases YH.1 hb with rfl|hb
  ·exact hA a ha
  ·exact h1.2.2 a ha b hb
 ·rw [Zi]
  exact(List.perm_append_comm (l₁:=B) (l₂:=[x])).append_left A
theorem yr {K L:List N3} (h:nds K=nds L) (hL:L.Pairwise λa b=>a.1.me.1<b.1.me.1):K.Pairwise λa b=>a.1.me.1<b.1.me.1:=by
 have h1:(nds L).Pairwise λa b=>a.me.1<b.me.1:=by unfold nds;rw [List.pairwise_map];exact hL
 rw [← h] at h1
 unfold nds at h1
 rw [List.pairwise_map] at h1;exact h1
theorem sH {K L:List N3} (h:nds K=nds L) {P:Nd->Prop} (hL:∀ y∈L,P y.1):∀ y∈K,P y.1:=λy hy=>by
 have:y.1∈nds L:=by rw [← h];exact Ze.2 ⟨y,hy,rfl⟩
 obtain ⟨z,hz,e⟩:=Ze.1 this
 rw [← e];exact hL z hz
theorem Mi {L:List N3} {m:Mb} (h:Do L m=false):∀ y∈L,y.1.me.1≠m.1:=λy hy e=>by
 obtain ⟨j,hj,rfl⟩:=Bb hy
 rw [RJ hj (NK (Yt e))] at h;cases h
theorem Ai {L K:List N3} {x:N3} {m:Mb} (hr:RS L) (hj:Do L m=false) (hk:nds K=nds L) (hx:x.1.me=m):(K++[x]).Pairwise λa b=>a.1.me.1≠b.1.me.1:=by
 rw [List.pairwise_append]
 refine ⟨(yr hk hr.inc).imp (λh=>by omega),List.pairwise_singleton _ _,λa ha b hb=>?_⟩
 rw [YF] at hb;subst hb
 rw [hx]
 exact sH hk (P:=λn=>n.me.1≠m.1) (Mi hj) a ha
theorem E4 {L K K2:List N3} {x:N3} {m:Mb} {no:Int} (hok:Dq L m=true) (hr:RS L) (hj:Do L m=false) (he:Hv L m no=0) (hk:nds K=nds L) (hx:x.1=⟨m,fc,[Q1 L m no],[]⟩) (hp:K2.Perm (K++[x])) (hs:K2.Pairwise λa b=>a.1.me.1<b.1.me.1):nds K2=ra L m no:=by
 have hm:x.1.me=m:=by rw [hx]
 have e:=IE (yr hk hr.inc) (λy hy=>by rw [hm];exact sH hk (P:=λn=>n.me.1≠m.1) (Mi hj) y hy) hp hs
 rw [(qv hok).2,e,pM,hk,hx]
 unfold Ta
 rw [Yt he];rfl
theorem Ni {L:List N3} {m:Mb} (h:lD L=true) (h0:fy m=true):Dq L m=true:=by unfold Dq;rw [h,h0];rfl
theorem MD {L:List N3} {m:Mb} (h:fy m=false):Dq L m=false:=by unfold Dq;rw [h,Bool.and_false]
def UC (w:World) (N:TypeId) (L:List N3) (no:Int):c8:=λv w9=>
 (∃ k,cE L no=k/\k≠0/\v=.tuple #[.agg #[aj],.pointer none,.int .i64 k]) ∨
 (cE L no=0/\∃ vq K ks,v=.tuple #[.agg #[vq],.pointer (some (bI vq (eY L no*68))),.int .i64 0]/\nds K=nds L/\St w [.sl vq N 68 K.length (aK K),.grp ks (jM K)] w9)
theorem UC.n {w w9:World} {N:TypeId} {L:List N3} {no k:Int} {v:Value} (h:UC w N L no v w9) (hk:cE L no=k) (h0:k≠0):v=.tuple #[.agg #[aj],.pointer none,.int .i64 k]:=by
 rcases h with ⟨q,h1,_,h3⟩|⟨h1,_⟩
 ·rw [h3,← h1,hk]
 ·exact ZF (hk.symm.trans h1) h0
theorem UC.y {w w9:World} {N:TypeId} {L:List N3} {no:Int} {v:Value} (h:UC w N L no v w9) (hk:cE L no=0):∃ vq K ks,v=.tuple #[.agg #[vq],.pointer (some (bI vq (eY L no*68))),.int .i64 0]/\nds K=nds L/\St w [.sl vq N 68 K.length (aK K),.grp ks (jM K)] w9:=by
 rcases h with ⟨q,h1,h2,_⟩|⟨_,h3⟩
 ·exact ZF (h1.symm.trans hk) h2
 ·exact h3
theorem RS.nds {K L:List N3} (h:RS L) (e:nds K=nds L):RS K:=
 ⟨fun y hy=>sH e (P:=RN) h.rn y hy,yr e h.inc,by have:aI K=aI L:=by rw [← eR,← eR,e]
                                                 rw [this];exact h.ring⟩
def nW:Type:={x:N3 // x.2.1.oneCell'=true/\x.2.2.oneCell'=true}
instance:Inhabited nW:=⟨⟨z3,rfl,rfl⟩⟩
def pQ (x:nW):List Value:=yX x.1
def gk (l:List nW):List Value:=l.flatMap pQ
theorem n4 (x:nW):(pQ x).length=68:=lM _
theorem HG (x:nW):∀ v∈pQ x,v.oneCell'=true:=ed x.2.1 x.2.2
theorem nl (l:List nW):(gk l).length=l.length*68:=dW _ 68 n4 l
theorem pG (l:List nW):gk l=aK (l.map (·.1)):=by unfold gk aK;rw [List.flatMap_map];rfl
theorem nI (d:Array nW):(flatK pQ 68 d).toList=gk d.toList:=by
 apply List.ext_getElem?
 intro t
 by_cases ht:t<d.size*68
 ·have hj:t / 68<d.size:=by omega
  have hr:t % 68<68:=ZE _ (by decide)
  have h1:(gk d.toList)[t]? = (pQ d[t / 68])[t % 68]? := by
   have h2:t=t / 68*68+t % 68:=by omega
   conv=>lhs;rw [h2]
   rw [← Zx,← Zw hr]
   unfold gk
   rw [dS _ 68 n4 d.toList (t / 68) (by simpa using hj)]
   simp
  rw [h1]
  have h3:=get_flatK pQ 68 d t ht
  have h4:t<(flatK pQ 68 d).size:=by rw [size_flatK];exact ht
  rw [getElem!_pos _ t h4,getElem!_pos d _ hj] at h3
  rw [Zy,Zz h4,h3]
  have h5:t % 68<(pQ d[t / 68]).length:=by rw [n4];exact hr
  rw [getElem!_pos (pQ d[t / 68]) (t % 68) h5,Yz h5]
 ·rw [Zg (by rw [YD,size_flatK];omega),Zg (by rw [nl,YD];omega)]
theorem jq (w:World) (g m:Nat) (d:Array nW) (os:Array Obj):(sortWorldK pQ 68 w g 0 m d os).heap=w.heap.modify g (onCells (putCells id 0 (flatK pQ 68 d)))++os:=rfl
theorem tR (w:World) (g m:Nat) (d:Array nW) (os:Array Obj) {k:Nat} (hk:k<w.heap.size) (hne:k≠g):(sortWorldK pQ 68 w g 0 m d os).heap[k]? = w.heap[k]? := by
 rw [jq,Zs (by rw [Array.size_modify];exact hk),Array.getElem?_modify,if_neg (λe=>hne e.symm)]
theorem yn (w:World) (g m:Nat) (d:Array nW) (os:Array Obj) {cur:Array Value} {e:TypeId} {fz:Nat × Nat} (hg:w.heap[g]? = some (.cells cur e fz)):(sortWorldK pQ 68 w g 0 m d os).heap[g]? = some (.cells (putCells id 0 (flatK pQ 68 d) cur) e fz):=by
 have hk:g<w.heap.size:=(ZA.1 hg).1
 rw [jq,Zs (by rw [Array.size_modify];exact hk),Array.getElem?_modify,if_pos rfl,hg]
 rfl
theorem FF {w0 w:World} {B:List Own} {v:Value} {e:TypeId} {n:Nat} {l:List nW} (s:St w0 (.sl v e 68 n (gk l)::B) w) (hl:l.length=n) (hn:1<=n):
 ∃ g cap,v=.slice (some ⟨g,0,none⟩) n cap/\g<w.heap.size/\w0.heap.size<=g/\HoldsK pQ 68 w g 0 l.toArray/\
  ∀ (m:Nat) (os:Array Obj) (d:Array nW),d.size=n->St w0 (.sl v e 68 n (gk d.toList)::B) (sortWorldK pQ 68 w g 0 m d os):=by
 obtain ⟨g,cap,cur,fz,rfl,hfz,hnc,hcm,hcs,htk,s⟩:=s.open_sl hn
 have hg:=s.get 0 rfl
 have hlt:g<w.heap.size:=(ZA.1 hg).1
 have hroom:n*68<=cur.size:=by rw [hcs];exact Nat.mul_le_mul_right _ hnc
 refine ⟨g,cap,rfl,hlt,s.own _ YG g (Own.at_blk.2 rfl),λj hj=>?_,λm os d hd=>?_⟩
 ·have hjs:j<n*68:=by rw [size_flatK] at hj;simpa [hl] using hj
  constructor
  ·rw [Nat.zero_add,cell_of_row w g j cur e fz hg]
   have h1:(flatK pQ 68 l.toArray).toList=cur.toList.take (n*68):=by rw [nI,htk]
   have h2:(flatK pQ 68 l.toArray).toList[j]? = cur.toList[j]? := by rw [h1,Zw hjs]
   rw [Zy,Zy,Zz hj] at h2
   rw [getElem!_pos _ j hj]
   exact h2.symm
  ·simp only [World.frozen?,hg,Nat.zero_add]
   obtain ⟨lo,hi⟩:=fz
   rcases hfz with h9|h9
   ·change hi=0 at h9;subst h9;simp
   ·change cur.size<=lo at h9
    have:¬ lo<=j:=by omega
    simp [this]
 ·have hF:(flatK pQ 68 d).size=n*68:=by rw [size_flatK,hd]
  have s2:=s.upd 0 (w':=sortWorldK pQ 68 w g 0 m d os) (p':=.blk g (.cells (putCells id 0 (flatK pQ 68 d) cur) e fz)) rfl rfl rfl rfl (by rw [jq];simp) (yn w g m d os hg) (λk hk=>.inl hk) (λk hk hne=>tR w g m d os hk (λe9=>hne (Own.at_blk.2 e9))) (Nat.le_add_right _ _)
  refine s2.close_sl (by rw [lZ];exact hfz) hnc hcm (by rw [lZ];exact hcs) ?_ ?_
  ·rw [← hF,xi _ _ (by omega),nI]
  ·rw [nl,YD,hd]
theorem n8 (a b:nW):ltOf (λx y:nW=>cc x.1.1.me.1 y.1.1.me.1) a b=decide (a.1.1.me.1<b.1.1.me.1):=YE.2 (iK _ _)
theorem He:SWO (ltOf λx y:nW=>cc x.1.1.me.1 y.1.1.me.1) where
 irrefl x:=by rw [n8];simp
 trans x y z h1 h2:=by rw [n8] at *;simp at *;omega
 ntrans x y z h1 h2:=by rw [n8] at *;simp at *;omega
theorem CZ {l:List nW} (hd:l.Pairwise λa b=>a.1.1.me.1≠b.1.1.me.1) {d:Array nW} (hp:PermIn 0 l.toArray.size l.toArray d) (hs:SortedIn (ltOf λx y:nW=>cc x.1.1.me.1 y.1.1.me.1) 0 l.toArray.size d):
 d.toList.Perm l/\d.toList.Pairwise λa b=>a.1.1.me.1<b.1.1.me.1:=by
 obtain ⟨hsz,_,hpm⟩:=hp
 have e1:d.extract 0 l.toArray.size=d:=by rw [← hsz];exact Array.extract_size
 rw [e1,Array.extract_size] at hpm
 have hpl:d.toList.Perm l:=by first|exact hpm|exact hpm.symm|exact hpm.toList|exact hpm.toList.symm
 have hd2:d.toList.Pairwise λa b=>a.1.1.me.1≠b.1.1.me.1:=(hpl.pairwise_iff (λh=>λe=>h e.symm)).2 hd
 refine ⟨hpl,?_⟩
 rw [List.pairwise_iff_getElem] at hd2 ⊢
 intro i j hi hj hij
 have hi':i<d.size:=by simpa using hi
 have hj':j<d.size:=by simpa using hj
 have h1:=hs i j (YO _) hij (by omega)
 rw [getElem!_pos d j hj',getElem!_pos d i hi',n8] at h1
 have h2:=hd2 i j hi hj hij
 have h3:=Yr h1
 simp only [Array.getElem_toList] at h2 ⊢
 omega
def N9 (L:List N3) (h:∀ x∈L,x.2.1.oneCell'=true/\x.2.2.oneCell'=true):List nW:=L.attach.map λx=>(⟨x.1,h x.1 x.2⟩:nW)
theorem xB (L:List N3) (h:∀ x∈L,x.2.1.oneCell'=true/\x.2.2.oneCell'=true):(N9 L h).map (·.1)=L:=by
 refine(List.map_map (f:=λx:{x // x∈L}=>(⟨x.1,h x.1 x.2⟩:nW)) (g:=λx:nW=>x.1) (l:=L.attach)).trans ?_
 exact List.attach_map_subtype_val L
theorem Gi (L:List N3) (h:∀ x∈L,x.2.1.oneCell'=true/\x.2.2.oneCell'=true):(N9 L h).length=L.length:=by
 have:=Yu List.length (xB L h);simpa using this
theorem G5 {L:List nW} {R:N3->N3->Prop}:(L.map (·.1)).Pairwise R↔L.Pairwise λa b=>R a.1 b.1:=List.pairwise_map
def QR (w:World) (N:TypeId) (L:List N3) (no:Int):c8:=λv w9=>
 (∃ k,cE L no=k/\k≠0/\v=.tuple #[.agg #[aj],.int .i64 k]) ∨
 (cE L no=0/\∃ vq K ks,v=.tuple #[.agg #[vq],.int .i64 0]/\nds K=zR (nds L) no/\St w [.sl vq N 68 K.length (aK K),.grp ks (jM K)] w9)
theorem QR.n {w w9:World} {N:TypeId} {L:List N3} {no k:Int} {v:Value} (h:QR w N L no v w9) (hk:cE L no=k) (h0:k≠0):v=.tuple #[.agg #[aj],.int .i64 k]:=by
 rcases h with ⟨q,h1,_,h3⟩|⟨h1,_⟩
 ·rw [h3,← h1,hk]
 ·exact ZF (hk.symm.trans h1) h0
theorem QR.y {w w9:World} {N:TypeId} {L:List N3} {no:Int} {v:Value} (h:QR w N L no v w9) (hk:cE L no=0):∃ vq K ks,v=.tuple #[.agg #[vq],.int .i64 0]/\nds K=zR (nds L) no/\St w [.sl vq N 68 K.length (aK K),.grp ks (jM K)] w9:=by
 rcases h with ⟨q,h1,h2,_⟩|⟨_,h3⟩
 ·exact ZF (h1.symm.trans hk) h2
 ·exact h3
theorem QR.any {w w9:World} {N:TypeId} {L:List N3} {vo:Value} {no:Int} {v:Value} (h:QR w N L no v w9) (e:Ext w w9):Q0 w (Em vo L) (RB L no) (cE L no) v w9:=by
 rcases h with ⟨k,h1,h2,rfl⟩|⟨h1,vq,K,ks,rfl,hk,s⟩
 ·exact o4 ((St.start w).more e) (RR h1 h2) h1
 ·exact yd h1 (FM (by rw [Rq h1,hk]) s)
end Go.Proofs.YtkhepdpfdhdlaaaGreatDoor
