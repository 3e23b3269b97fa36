/- Ways that meet again, calls that panic; ranges over functions, a round of which may leave early; regions that draw their order, by resources, with a tail; no Go in it. -/
import Derived.DefersIn
import Derived.RecoverIn
import Derived.Laws.OwnMore
import Derived.Lib.UnsafeStr
import Derived.MapKept
import Derived.Lib.AppendStr
import Derived.RangeFuncLeaves
import Derived.Test.YthmlflaiidhoiaaGreatDoorEt
set_option linter.unusedVariables false
set_option linter.unusedSimpArgs false
set_option linter.unusedSectionVars false
namespace Go.Proofs.YthmlflaiidhoiaaGreatDoor
open Go.RowKit
section
variable {ro:Option Nat} {P:Program} {Q:Exit->Act->World->Prop} {K:Act->World->Prop} {a:Act} {w w0:World} {N i:Nat} {L:List (Nat × Value)} {Df:List Deferred} {B:List Own} {ch:List PanicEntry}
theorem Sl.deferred {a:Act} (h:Sl N a L Df) (d:Deferred):Sl N {a with defers:=d::a.defers} L (d::Df):=⟨h.size,by rw [h.defers],h.holds⟩
theorem cM {ρ:Operand->Value} {dst:Option Tmp} {ty:TypeId} {pos:String} {af:Array Edge} {g:Option (Nat × Bool)} {x:Operand} {t:TypeId} {V:Value} {s:TypeDesc} (ht:P.underlying t=some s) (hn:(match s with|.interface _=>false|_=>true)=true) (hx:ρ x=V):
 a8 P ⟨dst,.makeInterface t x,ty,pos,af,g⟩ ρ (.iface t V):=λw=>by
 simp only [execOp,hx]
 cases s<;>simp_all [Instr.makeInterface,ar1 ht,Result.andThen]
end
section
variable {P:Program} {a:Act} {w w0:World} {N:Nat} {L:List (Nat × Value)} {Df:List Deferred} {B:List Own}
section
variable {ops:Array Oper} {Q:Exit->Act->List Frame->World->Prop} {cs:List Frame} {i:Nat} {rest:List Nat} {o:Oper} {V:Value} {w':World}
end
end
section
variable {P:Program} {a:Act} {w w0:World} {N:Nat} {L:List (Nat × Value)} {B:List Own} {fn:Func} {R:Ending->World->Prop}
end
section
variable {P:Program} {ops:Array Oper} {Q:Act->World->Prop} {l:List Oper} {a:Act} {w w0:World} {N:Nat} {L:List (Nat × Value)} {Df:List Deferred} {B:List Own} {d:Tmp} {ty:TypeId} {pos:String} {af:Array Edge} {x y z:Operand} {t:TypeId}
theorem u0 (h:Sl N a L Df) (s:St w0 B w) (hd:Nat.blt d N=true) (k:∀ a' w' b,Sl N a' ((d,.map (some b))::L) Df->St w0 (.blk b (.map #[] 0)::B) w'->ce P ops Q l a' w'):
 ce P ops Q (⟨some d,.makeMap t none,ty,pos,af,none⟩::l) a w:=
 dR h (R:=λv w'=>v=.map (some w.heap.size)/\w'=w.alloc (.map #[] 0)) (by simp [cL,execOp,run_makeMap,Result.andThen]) hd λa' w' v ⟨hv,hw⟩ h'=>by
  subst hv;subst hw;exact k _ _ _ h' (s.new _)
theorem dV {kt et:TypeId} {kd:TypeDesc} {b:Nat} {es:Array MapEntry} {c:Nat} {K V:Value} (i:Nat) (h:Sl N a L Df) (s:St w0 B w) (ht:P.underlying t=some (.map kt et)) (hk:P.underlying kt=some kd) (hkd:MapKept.IsKey kd K)
 (hx:ec L x=some (.map (some b))) (hy:ec L y=some K) (hz:ec L z=some V) (hi:B[i]? = some (.blk b (.map es c))) (hf:Instr.findNow kd K es.toList 0=some none)
 (k:∀ w',St w0 (B.set i (.blk b (.map (es.push {key:=K,val:=V,born:=c}) (c+1)))) w'->ce P ops Q l a w'):ce P ops Q (⟨none,.insert t x y z,ty,pos,af,none⟩::l) a w:=by
 have hb:=s.get i hi
 have hrun:(Instr.mapUpdate t (.map (some b)) K V).run P w=.ok () (w.putObj b (.map (es.push {key:=K,val:=V,born:=c}) (c+1))):=by
  simp [Instr.mapUpdate,ar1 ht,MapKept.run_getObj_map hb,MapKept.run_checkKey hk hkd,MapKept.run_findKey hk hf,MapKept.run_setObj_map _ hb,Result.andThen,World.putObj]
 refine ji (R:=λv w'=>w'=w.putObj b (.map (es.push {key:=K,val:=V,born:=c}) (c+1))) ?_ λw' v hw=>by subst hw;exact k _ (s.putObj i hi _)
 simp [cL,execOp,h.ev hx,h.ev hy,h.ev hz,hrun,Result.andThen]
theorem Iy {kt et:TypeId} {kd:TypeDesc} {b:Nat} {es:Array MapEntry} {c:Nat} {K Z V:Value} {ok:Bool} (i:Nat) (h:Sl N a L Df) (s:St w0 B w) (ht:P.underlying t=some (.map kt et)) (hk:P.underlying kt=some kd) (hkd:MapKept.IsKey kd K) (hZ:(P.info? et).bind (·.zero)=some Z)
 (hx:ec L x=some (.map (some b))) (hy:ec L y=some K) (hi:B[i]? = some (.blk b (.map es c)))
 (hf:(∃ j,Instr.findNow kd K es.toList 0=some (some (j,V))/\ok=true)∨(Instr.findNow kd K es.toList 0=some none/\V=Z/\ok=false)) (hd:Nat.blt d N=true)
 (k:∀ a',Sl N a' ((d,.tuple #[V,.bool ok])::L) Df->ce P ops Q l a' w):ce P ops Q (⟨some d,.lookup t x y true,ty,pos,af,none⟩::l) a w:=by
 have hb:=s.get i hi
 have hzr:(zeroValue et).run P w=.ok Z w:=by
  cases hi9:P.info? et with
  |none=>simp [hi9] at hZ
  |some info=>simp [hi9] at hZ;simp [zeroValue,typeInfo,hi9,hZ,Result.andThen]
 have hrun:(Instr.lookup t (.map (some b)) K true).run P w=.ok (.tuple #[V,.bool ok]) w:=by
  rcases hf with ⟨j,hf,rfl⟩|⟨hf,rfl,rfl⟩
  ·simp [Instr.lookup,ar1 ht,MapKept.run_getObj_map hb,MapKept.run_checkKey hk hkd,MapKept.run_findKey hk hf,Result.andThen]
  ·simp [Instr.lookup,ar1 ht,MapKept.run_getObj_map hb,MapKept.run_checkKey hk hkd,MapKept.run_findKey hk hf,hzr,Result.andThen]
 refine dR h (R:=λv w'=>v=.tuple #[V,.bool ok]/\w'=w) ?_ hd λa' w' v ⟨hv,hw⟩ h'=>by subst hv;subst hw;exact k _ h'
 simp [cL,execOp,h.ev hx,h.ev hy,hrun,Result.andThen]
end
section
variable {P:Program} {ops:Array Oper} {Q:Act->World->Prop} {l:List Oper} {a:Act} {w w0:World} {N:Nat} {L:List (Nat × Value)} {Df:List Deferred} {B:List Own} {d:Tmp} {ty:TypeId} {pos:String} {af:Array Edge} {x y:Operand} {t e:TypeId}
end
section
variable {P:Program} {ops:Array Oper} {Q:Act->World->Prop} {l:List Oper} {a:Act} {w w0:World} {N:Nat} {L:List (Nat × Value)} {Df:List Deferred} {B:List Own} {d:Tmp} {ty:TypeId} {pos:String} {af:Array Edge} {x y:Operand} {t:TypeId} {fn:Func}
theorem ga {b o n:Nat} {C D:Array Value} {u:TypeId} (i:Nat) (h:Sl N a L Df) (s:St w0 B w) (hr:Row P t n) (hx:ec L x=some (.pointer (some ⟨b,o,none⟩))) (hy:ec L y=some (.agg D)) (hi:B[i]? = some (.blk b (.cells C u))) (hD:D.size=n) (hC:o+n<=C.size) (hv:∀ v∈D.toList,v.oneCell'=true)
 (k:∀ w',St w0 (B.set i (.blk b (.cells (C.toList.take o++D.toList++C.toList.drop (o+D.size)).toArray u))) w'->ce P ops Q l a w'):ce P ops Q (⟨none,.store t x y,ty,pos,af,none⟩::l) a w:=
 ji (R:=λ_ w'=>w'=w.setRow b (C.toList.take o++D.toList++C.toList.drop (o+D.size)).toArray) (by
  have hs:(sizeOf t).run P w=.ok D.size w:=by
   cases hq:P.info? t with
   |none=>have:=hr.size;simp [hq] at this
   |some i=>have:=hr.size;simp [hq] at this;simp [sizeOf,typeInfo,au7,hq,this,hD]
  have hst:(storeVar t ⟨b,o,none⟩ (.agg D)).run P w=.ok () (w.setRow b (C.toList.take o++D.toList++C.toList.drop (o+D.size)).toArray):=by
   have:=dl P b o u (0,0) D.toList 0 C w (s.get i hi) (.inl rfl) (by rw [ar2];omega) hv
   simp only [Nat.add_zero,ar2] at this
   simp [storeVar,au7,hs,Value.cells,this]
  unfold cL
  simp only [execOp,h.ev hx,h.ev hy,Instr.storeAt,Instr.sureAddr,au7,au8,aq9,hst]) λw' _ hw=>by subst hw;exact k _ (s.row i hi _)
end
section
variable {P:Program} {ops:Array Oper} {Q:Act->World->Prop} {l:List Oper} {a:Act} {w w0:World} {N:Nat} {L:List (Nat × Value)} {Df:List Deferred} {B:List Own} {d:Tmp} {ty:TypeId} {pos:String} {af:Array Edge} {x y:Operand} {t u e:TypeId}
end
theorem mf:∀ B:List Own,Nq B B
 |[]=>trivial
 |_::r=>⟨rfl,mf r⟩
section
variable {P:Program} {ρ:Operand->Value} {d:Option Tmp} {ty:TypeId} {pos:String} {af:Array Edge} {g:Option (Nat × Bool)} {x y:Operand} {t t':TypeId} {k:IntKind} {m n:Int}
end
theorem N5 {a b:Tmp} {V U:Value} (t:Array Value):((#[a,b]:Array Tmp).zip [V,U].toArray).foldl (λt (q,v)=>t.setIfInBounds q v) t=(t.setIfInBounds a V).setIfInBounds b U:=by simp
section
variable {N:Nat} {a:Act} {L:List (Nat × Value)} {Df:List Deferred}
theorem Sl.round2 {p q:Nat} {V U:Value} (h:Sl N a L Df) (hp:Nat.blt p N=true) (hq:Nat.blt q N=true):Sl N {tmps:=((#[p,q]:Array Tmp).zip [V,U].toArray).foldl (λt (x,v)=>t.setIfInBounds x v) a.tmps,defers:=[]} ((q,U)::(p,V)::L):=by
 have h1:Sl N {a with defers:=[]} L:=⟨h.size,rfl,h.holds⟩
 rw [N5]
 exact(h1.put hp V).put hq U
end
def Tw (q:Bool):Exit->Prop
 |.normal=>q=false
 |.ret=>q=true
 |_=>False
def qS (q:Bool):LoopState:=bif q then .done else .ready
def Mo (q:Bool):Option Code:=bif q then some .ret else none
def lq (q:Nat->Bool):Nat->Bool|0=>false|d+1=>q d
theorem eg {P:Program} {N:Nat} {a:Act} {L:List (Nat × Value)} {Df:List Deferred} {w w0:World} {B:List Own} {g:Operand} {ps:Array Tmp} {assign body:Code} {f:FuncId} {lb:Array Value} {Q:Exit->Act->World->Prop}
 (J:Nat->List Own->Prop) (A0:List Own) (X:List Own) (m:Nat) (q:Nat->Bool) (arg:Nat->List Value) (h:Sl N a L Df) (s:St w0 B w) (hg:ec L g=some (.func (.func f) #[] lb)) (hf:Fnc P f)
 (hB:B.Perm (X++A0)) (hJ0:J 0 A0) (hps:∀ d,(arg d).length=ps.size)
 (hiter:∀ (l:Nat) (w1:World) (GG:Nat->Own->Prop) (g0:Own),GG 0 g0->St w0 (X++[g0]) w1->
  (∀ (d:Nat) (B':List Own) (w':World) (i:Nat) (g:Own),d<m->(∀ j,j<d->q j=false)->GG d g->St w0 B' w'->B'[i]? = some g->i6 P l (arg d).toArray w' (λv w''=>v=.bool (!q d)/\∃ g',GG (d+1) g'/\St w0 (B'.set i g') w''))->
  Calls P f (#[.func (.yield l) #[] #[]]++lb) w1 (λe w'=>(∃ v,e=.returned v)/\∃ d g,GG d g/\St w0 (X++[g]) w'/\d<=m/\(∀ j,j+1<d->q j=false)/\(lq q d=false->d=m)))
 (hround:∀ (l D d:Nat) (rc:LoopState->Loop) (R A:List Own) (w1:World),d<m->(∀ j,j<d->q j=false)->J d A->St w0 (.blk l (.loop (rc .ready))::.blk D (.deferred (some []))::(A++R)) w1->
  assign.wpIn (FR (some l)) 0 P (Exit.then (λa1 w2=>∃ X1,St w0 (.blk l (.loop (rc .ready))::X1) w2/\∀ w3,St w0 (.blk l (.loop (rc .busy))::X1) w3->body.wpIn (FR (some l)) 0 P
   (λe _ w4=>Tw (q d) e/\∃ A',J (d+1) A'/\St w0 (.blk l (.loop (rc .busy))::.blk D (.deferred (some []))::(A'++R)) w4) a1 w3) (λ_ _ _=>False))
   {tmps:=(ps.zip (arg d).toArray).foldl (λt (p,v)=>t.setIfInBounds p v) a.tmps,defers:=[]} w1)
 (hdone:∀ (D:Nat) (A:List Own) (w2:World),J m A->(∀ j,j<m->q j=false)->St w0 (.blk D (.deferred (some []))::(X++A)) w2->Q .normal {a with defers:={target:=.collected D,args:=#[]}::a.defers} w2)
 (hleft:∀ (D d:Nat) (A:List Own) (w2:World),d<m->q d=true->(∀ j,j<d->q j=false)->J (d+1) A->St w0 (.blk D (.deferred (some []))::(X++A)) w2->Q .ret {a with defers:={target:=.collected D,args:=#[]}::a.defers} w2):
 (Code.rangeFunc g ps assign body).wpIn (FR none) 0 P Q a w:=by
 refine wpIn_rangeFunc (F:=FR none) λfn _=>?_
 obtain ⟨rq,hrq⟩:∃ rq,rq=λpe st=>jQ a w.heap.size fn ps assign body pe st:=⟨_,rfl⟩
 obtain ⟨cA,e1,e2,e3⟩:=hf.has
 have hl0:jQ a w.heap.size fn ps assign body none .ready=rq none .ready:=by rw [hrq]
 refine ⟨w.heap.size+1,[{target:=.collected w.heap.size,args:=#[]}],(w.alloc (.deferred (some []))).alloc (.loop (rq none .ready)),{target:=.fn (.func f) lb,args:=#[.func (.yield (w.heap.size+1)) #[] #[]]},(w.alloc (.deferred (some []))).alloc (.loop (rq none .ready)),f,
  #[.func (.yield (w.heap.size+1)) #[] #[]]++lb,(w.alloc (.deferred (some []))).alloc (.loop (rq none .ready)),?_,?_,λ_ _=>trivial,?_,(λhh=>by cases hh),?_⟩
 ·rw [hrq];exact run_enterLoop_outer _ _ _ _ _
 ·simp only [resolve,h.ev hg]
  simp [go_sem]
 ·simp only [invoke];exact fB e1 e2 e3 _ _
 have s1:St w0 (.blk (w.heap.size+1) (.loop (rq none .ready))::.blk w.heap.size (.deferred (some []))::B) ((w.alloc (.deferred (some []))).alloc (.loop (rq none .ready))):=by
  have:=(s.new (.deferred (some []))).new (.loop (rq none .ready))
  rwa [World.size_alloc] at this
 have s2:St w0 ((.blk (w.heap.size+1) (.loop (rq none .ready))::.blk w.heap.size (.deferred (some []))::A0)++X) ((w.alloc (.deferred (some []))).alloc (.loop (rq none .ready))):=
  s1.perm ((((hB.trans List.perm_append_comm).cons _).cons _))
 have hnd0:=fA s2
 have s3:=s2.group
 refine callsIn_wide.2 ((hiter (w.heap.size+1) _ (λd g=>∃ A,J d A/\g=.all w0 (.blk (w.heap.size+1) (.loop (rq (Mo (lq q d)) (qS (lq q d))))::.blk w.heap.size (.deferred (some []))::A)/\
  (Own.blk (w.heap.size+1) (.loop (rq (Mo (lq q d)) (qS (lq q d))))::.blk w.heap.size (.deferred (some []))::A).Pairwise λp q=>∀ k,p.at k->¬ q.at k)
  _ ⟨A0,hJ0,rfl,hnd0⟩ (s3.perm (List.perm_append_comm (l₁:=[_]))) ?_).mono ?_)
 ·rintro d B' w' i g hd xO ⟨A,hJ,rfl,hnd⟩ s' hi
  have hlq:lq q d=false:=by cases d with|zero=>rfl|succ d=>exact xO d (Nat.lt_succ_self d)
  rw [hlq] at hi hnd
  have hil:=(aq4.1 hi).1
  have s4:St w0 ((.blk (w.heap.size+1) (.loop (rq none .ready))::.blk w.heap.size (.deferred (some []))::A)++B'.eraseIdx i) w':=(s'.perm (ni hi)).ungroup hnd
  have hl:=s4.get 0 rfl
  have hy:=run_yield (P:=P) (args:=(arg d).toArray) hl (by rw [hrq,List.size_toArray];exact hps d)
  refine ⟨_,_,_,_,hy,?_⟩
  have hw:=hround (w.heap.size+1) w.heap.size d (rq none) (B'.eraseIdx i) A w' hd xO hJ (by simpa using s4)
  subst hrq
  refine roundIn_of_wpIn (F:=Fence.wide) (n:=0) trivial (Go.wpIn_mono hw ?_)
  intro e a1 w2 he
  cases e with
  |normal=>
   obtain ⟨X1,s5,hb⟩:=he
   refine ⟨_,run_beginRound (s5.get 0 rfl) rfl,Go.wpIn_mono (hb _ (s5.putObj 0 rfl _)) ?_⟩
   rintro e2 a3 w4 ⟨hle,A',hJ',s6⟩
   have key:∀ (jump:Option Code),jump=Mo (q d)->∃ v w',(Instr.endRound (w.heap.size+1) jump).run P w4=.ok v w'/\∃ u,Ending.returned v=.returned u/\u=.bool (!q d)/\∃ g',(∃ A,J (d+1) A/\g'=Own.all w0 (.blk (w.heap.size+1) (.loop (jQ a w.heap.size fn ps assign body (Mo (q d)) (qS (q d))))::.blk w.heap.size (.deferred (some []))::A)/\
    (Own.blk (w.heap.size+1) (.loop (jQ a w.heap.size fn ps assign body (Mo (q d)) (qS (q d))))::.blk w.heap.size (.deferred (some []))::A).Pairwise λp q=>∀ k,p.at k->¬ q.at k)/\St w0 (B'.set i g') w':=by
    rintro jump rfl
    refine ⟨_,_,run_endRound _ (s6.get 0 rfl),_,rfl,(by cases q d<;>rfl),_,⟨A',hJ',rfl,?_⟩,?_⟩
    ·have hn:=fA (A:=.blk (w.heap.size+1) (.loop (jQ a w.heap.size fn ps assign body none .busy))::.blk w.heap.size (.deferred (some []))::A') (R:=B'.eraseIdx i) (by simpa using s6)
     exact AA (A:=.blk (w.heap.size+1) (.loop (jQ a w.heap.size fn ps assign body none .busy))::.blk w.heap.size (.deferred (some []))::A') rfl hn
    ·have s7:=s6.putObj 0 rfl (.loop (jQ a w.heap.size fn ps assign body (Mo (q d)) (qS (q d))))
     have s8:St w0 ((.blk (w.heap.size+1) (.loop (jQ a w.heap.size fn ps assign body (Mo (q d)) (qS (q d))))::.blk w.heap.size (.deferred (some []))::A')++B'.eraseIdx i) _:=s7
     have s9:=s8.group.perm (uW hil _)
     cases hqd:q d<;>rw [hqd] at s9<;>exact s9
   cases e2 with
   |normal=>exact key none (by rw [show q d=false from hle];rfl)
   |ret=>exact key (some .ret) (by rw [show q d=true from hle];rfl)
   |exit _=>exact hle.elim
   |goto _=>exact hle.elim
   |panic _=>exact hle.elim
   |outgrown=>exact hle.elim
  |ret=>exact he.elim
  |exit _=>exact he.elim
  |goto _=>exact he.elim
  |panic _=>exact he.elim
  |outgrown=>exact he.elim
 ·rintro e w2 ⟨⟨v,rfl⟩,d,g,⟨A,hJ,rfl,hnd⟩,s4,hdm,xO,hend⟩
  have s5:St w0 ((.blk (w.heap.size+1) (.loop (rq (Mo (lq q d)) (qS (lq q d))))::.blk w.heap.size (.deferred (some []))::A)++X) w2:=(s4.perm (List.perm_append_comm (l₂:=[_]))).ungroup hnd
  have hl:=s5.get 0 rfl
  subst hrq
  refine ⟨Mo (lq q d),_,run_endLoop hl (by cases lq q d<;>simp [jQ,qS]),?_⟩
  have s6:=s5.putObj 0 rfl (.loop {jQ a w.heap.size fn ps assign body (Mo (lq q d)) (qS (lq q d)) with state:=.exhausted})
  have s7:=(s6.pick (.blk w.heap.size (.deferred (some []))::A++X) (as2 _ _)).perm (List.Perm.cons _ List.perm_append_comm)
  cases hqd:lq q d with
  |false=>
   obtain rfl:=hend hqd
   refine hdone _ A _ hJ (λj hj=>?_) (by rw [hqd] at s7;exact s7)
   by_cases h1:j+1<d
   ·exact xO j h1
   ·have:d=j+1:=by omega
    subst this;exact hqd
  |true=>
   cases d with
   |zero=>cases hqd
   |succ d=>
    refine au3 ?_
    exact hleft _ d A _ (by omega) hqd (λj hj=>xO j (by omega)) hJ (by rw [hqd] at s7;exact s7)
section
variable {P:Program} {fn:Func} {w w0:World} {N:Nat} {a:Act} {L:List (Nat × Value)} {B:List Own}
theorem fT {T:cX} {p:Tmp} {b j0 D:Nat} {C:Array Value} {V:Value} {t u:TypeId} (i j:Nat) (hres:fn.results=#[.cell p t]) (h:Sl N a L [{target:=.collected D,args:=#[]}]) (s:St w0 B w) (ho:One P t) (hp:lk L p=some (.pointer (some ⟨b,j0,none⟩))) (_hi:B[i]? = some (.blk b (.cells C u)))
 (hj:B[j]? = some (.blk D (.deferred (some [])))) (hij:(B.set j (.blk D (.deferred none)))[i]? = some (.blk b (.cells C u))) (hC:C[j0]? = some V) (hT:∀ w',T V w'):bodyPostM (FR none) 0 P fn (bW w0 T) .ret a w:=by
 show LeavesInM (FR none) 0 P fn a.tmps (bW w0 T) a.defers .returning w
 rw [h.defers]
 have s2:=s.putObj j hj (.deferred none)
 refine ⟨by simp,.inl ⟨D,_,rfl,run_takeDeferred (s.get j hj),?_⟩⟩
 have hp':a.tmps[p]?.getD undef=.pointer (some ⟨b,j0,none⟩):=by simpa using h.holds p _ hp
 refine ⟨V,?_,V,rfl,hT _,s2.ext⟩
 have hc:(w.putObj D (.deferred none)).cell? ⟨b,j0,none⟩=some V:=by rw [cell_of_row _ b j0 C u (0,0) (s2.get i hij)];exact hC
 simp [results,hres,hp',asAddr,dK ho _ _ hc]
theorem Iu {T:cX} {p:Tmp} {b n D:Nat} {C:Array Value} {t u:TypeId} (i j:Nat) (hres:fn.results=#[.cell p t]) (h:Sl N a L [{target:=.collected D,args:=#[]}]) (s:St w0 B w) (hr:Row P t n) (hp:lk L p=some (.pointer (some ⟨b,0,none⟩))) (_hi:B[i]? = some (.blk b (.cells C u)))
 (hj:B[j]? = some (.blk D (.deferred (some [])))) (hij:(B.set j (.blk D (.deferred none)))[i]? = some (.blk b (.cells C u))) (hn:C.size=n) (hT:∀ w',St w0 (B.set j (.blk D (.deferred none))) w'->T (.agg C) w'):bodyPostM (FR none) 0 P fn (bW w0 T) .ret a w:=by
 show LeavesInM (FR none) 0 P fn a.tmps (bW w0 T) a.defers .returning w
 rw [h.defers]
 have s2:=s.putObj j hj (.deferred none)
 refine ⟨by simp,.inl ⟨D,_,rfl,run_takeDeferred (s.get j hj),?_⟩⟩
 have hp':a.tmps[p]?.getD undef=.pointer (some ⟨b,0,none⟩):=by simpa using h.holds p _ hp
 refine ⟨.agg C,?_,.agg C,rfl,hT _ s2,s2.ext⟩
 simp [results,hres,hp',asAddr,eo hr _ b C u (0,0) (s2.get i hij) hn]
theorem g6 {T:cX} {p:Tmp} {b j0:Nat} {C:Array Value} {V:Value} {t u:TypeId} (i:Nat) (hres:fn.results=#[.cell p t]) (h:Sl N a L) (s:St w0 B w) (ho:One P t) (hp:lk L p=some (.pointer (some ⟨b,j0,none⟩))) (hi:B[i]? = some (.blk b (.cells C u)))
 (hC:C[j0]? = some V) (hT:∀ w',T V w'):bodyPostM (FR none) 0 P fn (bW w0 T) .ret a w:=by
 show LeavesInM (FR none) 0 P fn a.tmps (bW w0 T) a.defers .returning w
 rw [h.defers]
 have hp':a.tmps[p]?.getD undef=.pointer (some ⟨b,j0,none⟩):=by simpa using h.holds p _ hp
 have hc:w.cell? ⟨b,j0,none⟩=some V:=by rw [cell_of_row _ b j0 C u (0,0) (s.get i hi)];exact hC
 refine ⟨V,?_,V,rfl,hT _,s.ext⟩
 simp [results,hres,hp',asAddr,dK ho _ _ hc]
end
def H0 {τ:Type} (d0:τ) (l:List Nat) (val:Nat->τ):Nat->τ:=λj=>bif l.any (Nat.beq j) then val j else d0
def wB {τ:Type} (val:Nat->τ) (i:Nat) (v:τ):Nat->τ:=λj=>bif Nat.beq j i then v else val j
theorem E4 {τ:Type} {d0:τ} {l:List Nat} {val val':Nat->τ} (h:∀ j∈l,val j=val' j):H0 d0 l val=H0 d0 l val':=by
 funext j
 unfold H0
 cases hb:l.any (Nat.beq j) with
 |false=>rfl
 |true=>
  obtain ⟨x,hx,he⟩:=aw4.1 hb
  obtain rfl:j=x:=by simpa using he
  exact h j hx
theorem zF {τ:Type} (val:Nat->τ) (i:Nat) (v:τ):wB val i v i=v:=by unfold wB;rw [show Nat.beq i i=true by simp];rfl
theorem uV {τ:Type} (val:Nat->τ) {i j:Nat} (v:τ) (h:j≠i):wB val i v j=val j:=by
 unfold wB
 cases hb:Nat.beq j i with
 |false=>rfl
 |true=>exact ax7 (by simpa using hb) h
def PP (l:Nat->Bool) (i:Nat):Nat->Bool:=λj=>bif Nat.beq j i then true else l j
theorem EF {i j:Nat} (h:i<j):Nat.blt i j=true:=Nat.ble_eq_true_of_le h
theorem Ds {i j:Nat} (h:j<=i):Nat.blt i j=false:=by
 cases hb:Nat.blt i j with
 |false=>rfl
 |true=>exact ax7 (Nat.le_of_ble_eq_true hb) (by omega)
theorem j7 {l:List Nat} {j:Nat}:(!l.contains j)=true↔j ∉ l:=by
 rw [Bool.not_eq_true',← Bool.not_eq_true,av7]
def G4:Value->Nat
 |.pointer (some a)=>a.block
 |_=>0
section
variable (ops:List Oper) (cls cons:List (List Nat)) (q:Nat)
def pQ (size i:Nat) (o:Oper):Bool:=
 (dD o).all (λj=>decide (j<i)) &&
 (cls.getD i []).all (λj=>(dD o).contains j || (dD o).any λk=>(cls.getD k []).contains j) &&
 (match o.dst with|some d=>decide (d<size) && (List.range ops.length).all (λj=>j == i || decide (cC ops j≠some d))|none=>true) &&
 ((o.looksAt ops.toArray).all λt=>(List.range ops.length).all λj=>decide (cC ops j≠some t) || (cls.getD i []).contains j || (cls.getD j []).contains i) &&
 (decide (cons.getD i []).Nodup && (cons.getD i []).all λj=>(decide (j<ops.length+q) && (decide (ops.length<=j) || (cls.getD i []).contains j)) && (List.range ops.length).all λk=>k == i || !(cons.getD k []).contains j)
def gi (size:Nat):Bool:=(List.range ops.length).all λi=>match ops[i]? with|some o=>pQ ops cls cons q size i o|none=>false
end
section
variable {ops:List Oper} {cls cons:List (List Nat)} {q size:Nat}
theorem wi (h:gi ops cls cons q size=true) {i:Nat} {o:Oper} (hi:ops[i]? = some o):pQ ops cls cons q size i o=true:=by
 unfold gi at h
 have hlt:i<ops.length:=(aq4.1 hi).1
 have:=aq6.1 h i (ar7.2 hlt)
 simpa [hi] using this
theorem iM (h:gi ops cls cons q size=true) {i:Nat} {o:Oper} (hi:ops[i]? = some o):
 (∀ j∈dD o,j<i)/\∀ j∈cls.getD i [],j∈dD o∨∃ k∈dD o,j∈cls.getD k []:=by
 have:=wi h hi
 unfold pQ at this
 simp only [aq5] at this
 refine ⟨λj hj=>by simpa using aq6.1 this.1.1.1.1 j hj,λj hj=>?_⟩
 have:=aq6.1 this.1.1.1.2 j hj
 simpa using this
theorem sS {j:Nat} {t:Tmp} (hd:cC ops j=some t):j<ops.length:=by obtain ⟨o,ho,_⟩:=w8 hd;exact(aq4.1 ho).1
theorem wO (h:gi ops cls cons q size=true) {i:Nat} {d:Tmp} (hd:cC ops i=some d):d<size/\∀ j,cC ops j=some d->j=i:=by
 obtain ⟨o,ho,hdo⟩:=w8 hd
 have:=wi h ho
 unfold pQ at this
 simp only [aq5,hdo] at this
 have h2:=this.1.1.2
 simp only [ar0] at h2
 refine ⟨h2.1,λj hj=>?_⟩
 have:=aq6.1 h2.2 j (ar7.2 (sS hj))
 simpa [hj] using this
theorem Ly (h:gi ops cls cons q size=true) {i:Nat} {o:Oper} (hi:ops[i]? = some o):∀ t∈o.looksAt ops.toArray,∀ j,cC ops j=some t->j∈cls.getD i []∨i∈cls.getD j []:=by
 have:=wi h hi
 unfold pQ at this
 simp only [aq5] at this
 intro t ht j hj
 have h2:=aq6.1 (aq6.1 this.1.2 t ht) j (ar7.2 (sS hj))
 simpa [hj] using h2
theorem zC (h:gi ops cls cons q size=true) {i:Nat} {o:Oper} (hi:ops[i]? = some o):(cons.getD i []).Nodup/\∀ j∈cons.getD i [],j<ops.length+q/\(ops.length<=j∨j∈cls.getD i [])/\∀ k,k<ops.length->j∈cons.getD k []->k=i:=by
 have:=wi h hi
 unfold pQ at this
 simp only [aq5,ar0] at this
 obtain ⟨_,h1,h2⟩:=this
 refine ⟨h1,λj hj=>?_⟩
 have h3:=aq6.1 h2 j hj
 simp only [aq5,Bool.or_eq_true,ar0,av7] at h3
 refine ⟨h3.1.1,h3.1.2,λk hk hm=>?_⟩
 have h4:=aq6.1 h3.2 k (ar7.2 hk)
 simp only [Bool.or_eq_true,beq_iff_eq,Bool.not_eq_true',List.contains_eq_mem,decide_eq_false_iff_not] at h4
 exact h4.resolve_right λh5=>h5 hm
theorem EH (hok:gi ops cls cons q size=true):∀ (i:Nat),i<ops.length->∀ j∈cls.getD i [],j<i:=by
 intro i
 induction i using Nat.strongRecOn with
 |_ i ih=>
  intro hi j hj
  have hio:ops[i]? = some ops[i]:=by simp [hi]
  obtain ⟨hlt,hcl⟩:=iM hok hio
  rcases hcl j hj with h|⟨k,hk,hjk⟩
  ·exact hlt j h
  ·have:=hlt k hk
   have:=ih k this (by omega) j hjk
   omega
theorem tu (hok:gi ops cls cons q size=true) {listed:Array Bool} (hs:listed.size=ops.length) (h:Region.ready .any ops.toArray listed=[]):
 ∀ i,i<ops.length->listed.getD i false=true:=by
 intro i
 induction i using Nat.strongRecOn with
 |_ i ih=>
  intro hi
  cases hb:listed.getD i false with
  |true=>rfl
  |false=>
   have hio:ops[i]? = some ops[i]:=by simp [hi]
   have hlt:=(iM hok hio).1
   have:i∈Region.ready .any ops.toArray listed:=mem_ready.2 ⟨by simp [hs,hi] at hb ⊢;exact hb,ops[i],by simp [hi],λe he hbd=>by
    have hm:e.on∈dD ops[i]:=au9.2 ⟨e,at4.2 ⟨by simpa using he,by simpa using hbd⟩,rfl⟩
    exact ih _ (hlt _ hm) (by have:=hlt _ hm;omega)⟩
   rw [h] at this;cases this
end
def uP (ops:List Oper) (cls cons rd:List (List Nat)) (q:Nat):Bool:=(List.range ops.length).all λi=>(rd.getD i []).all λj=>
 decide (j<q) && (!(cons.getD i []).contains (ops.length+j) && (List.range ops.length).all λk => !(cons.getD k []).contains (ops.length+j) || (cls.getD k []).contains i)
theorem PZ {ops:List Oper} {cls cons rd:List (List Nat)} {q:Nat} (h:uP ops cls cons rd q=true) {i:Nat} (hi:i<ops.length) {j:Nat} (hj:j∈rd.getD i []):j<q/\ops.length+j ∉ cons.getD i []/\∀ k,k<ops.length->ops.length+j∈cons.getD k []->i∈cls.getD k []:=by
 have h1:=aq6.1 (aq6.1 h i (ar7.2 hi)) j hj
 rw [aq5,aq5] at h1
 refine ⟨ap9 h1.1,j7.1 h1.2.1,λk hk hm=>?_⟩
 have h2:=aq6.1 h1.2.2 k (ar7.2 hk)
 rw [Bool.or_eq_true] at h2
 rcases h2 with h2|h2
 ·exact ax7 hm (j7.1 h2)
 ·exact av7.1 h2
section
variable {P:Program} {ro:Option Nat} {ops:List Oper} {cls cons:List (List Nat)} {a0:Act} {Q:Exit->Act->World->Prop} {w0 w1:World}
def iJ {τ:Type} (d0:τ) (ops:List Oper) (cls:List (List Nat)) (Rs:List ((Nat->τ)->List Own)) (I0:List (List Own)) (val:Nat->τ) (j:Nat):List Own:=
 bif Nat.blt j ops.length then (Rs.getD j λ_=>[]) (H0 d0 (j::cls.getD j []) val) else I0.getD (j - ops.length) []
def my {τ:Type} (d0:τ) (cls:List (List Nat)) (Fs:List ((Nat->τ)->Prop)) (val:Nat->τ) (j:Nat):Prop:=(Fs.getD j λ_=>True) (H0 d0 (j::cls.getD j []) val)
def fF (ops:List Oper) (cons:List (List Nat)) (listed:Nat->Bool) (j:Nat):Bool:=(Nat.ble ops.length j || listed j) && (List.range ops.length).all λi => !(listed i && (cons.getD i []).any (Nat.beq j))
theorem jR {listed:Nat->Bool} {j:Nat}:fF ops cons listed j=true↔(ops.length<=j∨listed j=true)/\∀ i,i<ops.length->listed i=true->j ∉ cons.getD i []:=by
 unfold fF
 rw [aq5,Bool.or_eq_true,Nat.ble_eq,aq6]
 refine and_congr Iff.rfl ⟨λh i hi hl hm=>?_,λh i hi=>?_⟩
 ·have:=h i (ar7.2 hi)
  rw [hl,aw4.2 ⟨j,hm,by simp⟩] at this;cases this
 ·cases hl:listed i with
  |false=>rfl
  |true=>
   cases hb:(cons.getD i []).any (Nat.beq j) with
   |false=>rfl
   |true=>
    obtain ⟨x,hx,he⟩:=aw4.1 hb
    obtain rfl:j=x:=by simpa using he
    exact ax7 hx (h i (ar7.1 hi) hl)
def lO {τ:Type} (π:τ->Value) (ops:List Oper) (cl:List Nat) (a0 a:Act) (val:Nat->τ) (t:Tmp):Prop:=
 match fN ops cl t with
 |some j=>a.tmps.getD t undef=π (val j)
 |none=>a.tmps.getD t undef=a0.tmps.getD t undef
def oOb {τ:Type} (π:τ->Value) (d0:τ) (P:Program) (ops:List Oper) (cls cons rd:List (List Nat)) (Rs:List ((Nat->τ)->List Own)) (I0:List (List Own)) (Fs:List ((Nat->τ)->Prop)) (Sh:(Nat->Bool)->(Nat->τ)->List Own) (Bs:List Own) (w0:World) (a0:Act) (i:Nat) (o:Oper):Prop:=
 ∀ (a:Act) (w:World) (val:Nat->τ) (E:List Own) (qS:Nat->Bool),qS i=false->(∀ j∈cls.getD i [],qS j=true)->(∀ k,qS k=true->∀ j∈cls.getD k [],qS j=true)->a.tmps.size=a0.tmps.size->a.defers=a0.defers->
  (∀ t∈o.looksAt ops.toArray,lO π ops (cls.getD i []) a0 a val t)->
  (∀ j∈cls.getD i [],my d0 cls Fs val j)->(∀ j∈rd.getD i [],∀ p∈I0.getD j [],p∈E)->St w0 ((cons.getD i []).flatMap (iJ d0 ops cls Rs I0 val)++(Sh qS val++(Bs++E))) w->
  ce P ops.toArray (λa' w'=>∃ v,(∀ d,o.dst=some d->a'.tmps.getD d undef=π v)/\my d0 cls Fs (wB val i v) i/\St w0 (iJ d0 ops cls Rs I0 (wB val i v) i++(Sh (PP qS i) (wB val i v)++(Bs++E))) w') [o] a w
theorem Ae {q m size:Nat} (hok:gi ops cls cons q size=true) (hT:∀ i,m<=i->i<ops.length->∀ j,j<i->j∈cls.getD i []):
 ∀ (n i:Nat) (listed:Array Bool) (a:Act) (w:World),ops.length=i+n->m<=i->listed.size=ops.length->(∀ j,j<i->listed.getD j false=true)->(∀ j,i<=j->listed.getD j false=false)->
  wpOpsIn (FR ro) 0 P ops.toArray Q (List.range' i n) a w->wpAnyIn (FR ro) 0 P .any ops.toArray Q n listed a w:=by
 intro n
 induction n with
 |zero=>
  intro i listed a w hn him hs h1 h2 h
  have hq:Q .normal a w:=by simpa [wpOpsIn] using h
  refine ⟨?_,hq⟩
  cases hr:Region.ready .any ops.toArray listed with
  |nil=>rfl
  |cons x xs=>
   have hx:x∈Region.ready .any ops.toArray listed:=by rw [hr];exact ar5
   obtain ⟨o,ho,hf,_⟩:=fw hx
   have hlt:=(aq4.1 ho).1
   have:=h1 x (by omega)
   rw [hf hs] at this;cases this
 |succ n ih=>
  intro i listed a w hn him hs h1 h2 h
  have hi:i<ops.length:=by omega
  refine ⟨λhr=>?_,λk hk=>?_⟩
  ·have:=tu hok hs hr i hi
   rw [h2 i (as1 _)] at this;cases this
  obtain ⟨o,ho,hf,hd⟩:=fw hk
  have hkl:=(aq4.1 ho).1
  have hki:k=i:=by
   rcases Nat.lt_trichotomy k i with h3|h3|h3
   ·have:=h1 k h3;rw [hf hs] at this;cases this
   ·exact h3
   ·rcases (iM hok ho).2 i (hT k (by omega) hkl i h3) with h4|⟨p,hp,h4⟩
    ·have:=hd i h4;rw [h2 i (as1 _)] at this;cases this
    ·have hql:=hd p hp
     have hqi:p<i:=by
      rcases as4 p i with h5|h5
      ·exact h5
      ·rw [h2 p h5] at hql;cases hql
     have:=EH hok p (by omega) i h4
     omega
  subst hki
  rw [List.range'_succ,wpOpsIn_cons] at h
  refine wpOpIn_mono (λa' w' h'=>ih (k+1) _ a' w' (by omega) (by omega) (by simp [hs]) (λj hj=>?_) (λj hj=>?_) h') h
  ·by_cases e:k=j
   ·subst e;have:k<listed.size:=by rw [hs];exact hi
    simp [this]
   ·have:=h1 j (by omega);simpa [at1 e] using this
  ·have e:k≠j:=by omega
   have:=h2 j (by omega);simpa [at1 e] using this
structure oJt {τ:Type} (π:τ->Value) (d0:τ) (ops:List Oper) (cls cons:List (List Nat)) (q:Nat) (Rs:List ((Nat->τ)->List Own)) (I0:List (List Own)) (Fs:List ((Nat->τ)->Prop)) (Sh:(Nat->Bool)->(Nat->τ)->List Own) (Bs:List Own) (w0:World) (a0:Act) (m:Nat) (listed:Array Bool) (a:Act) (w:World) (val:Nat->τ):Prop where
 size:a.tmps.size=a0.tmps.size
 defers:a.defers=a0.defers
 lsize:listed.size=ops.length
 tail:∀ i,m<=i->listed.getD i false=false
 done:∀ i d,cC ops i=some d->listed.getD i false=true->a.tmps.getD d undef=π (val i)
 rest:∀ t,(∀ j,cC ops j=some t->listed.getD j false=false)->a.tmps.getD t undef=a0.tmps.getD t undef
 closed:∀ i,listed.getD i false=true->∀ j∈cls.getD i [],listed.getD j false=true
 facts:∀ i,listed.getD i false=true->my d0 cls Fs val i
 st:St w0 (((List.range (ops.length+q)).filter (fF ops cons λj=>listed.getD j false)).flatMap (iJ d0 ops cls Rs I0 val)++(Sh (λj=>listed.getD j false) val++Bs)) w
theorem Cz {τ:Type} {π:τ->Value} {d0:τ} {q rid m:Nat} {rd:List (List Nat)} (hrd:uP ops cls cons rd q=true) {Rs:List ((Nat->τ)->List Own)} {I0:List (List Own)} {Fs:List ((Nat->τ)->Prop)} {Sh:(Nat->Bool)->(Nat->τ)->List Own} {Bs:List Own} (hm:P.follows .mixedOrders=true) (hok:gi ops cls cons q a0.tmps.size=true) (hsel:Region.noSelect ops.toArray=true)
 (hml:m<=ops.length) (hT:∀ i,m<=i->i<ops.length->∀ j,j<i->j∈cls.getD i [])
 (hob:∀ i o,i<m->ops[i]? = some o->oOb π d0 P ops cls cons rd Rs I0 Fs Sh Bs w0 a0 i o)
 (s:St w0 (((List.range (ops.length+q)).filter (fF ops cons λ_=>false)).flatMap (iJ d0 ops cls Rs I0 λ_=>d0)++(Sh (λ_=>false) (λ_=>d0)++Bs)) w1)
 (hfin:∀ (b:Act) (w:World) (val:Nat->τ),b.tmps.size=a0.tmps.size->b.defers=a0.defers->(∀ i d,i<m->cC ops i=some d->b.tmps.getD d undef=π (val i))->(∀ t,(∀ i,i<m->cC ops i≠some t)->b.tmps.getD t undef=a0.tmps.getD t undef)->
  (∀ i,i<m->my d0 cls Fs val i)->St w0 (((List.range (ops.length+q)).filter (fF ops cons λj=>Nat.blt j m)).flatMap (iJ d0 ops cls Rs I0 val)++(Sh (λj=>Nat.blt j m) val++Bs)) w->ce P ops.toArray (Q .normal) (ops.drop m) b w):
 (Code.region rid ops.toArray true).wpIn (FR ro) 0 P Q a0 w1:=by
 refine wpIn_region_any hm ?_
 have hend:∀ (listed:Array Bool) (a:Act) (w:World) (val:Nat->τ),oJt π d0 ops cls cons q Rs I0 Fs Sh Bs w0 a0 m listed a w val->(∀ i,i<m->listed.getD i false=true)->∀ fuel,ops.length=m+fuel->wpAnyIn (FR ro) 0 P .any ops.toArray Q fuel listed a w:=by
  intro listed a w val I hall fuel hfu
  refine Ae hok hT fuel m listed a w hfu (as1 _) I.lsize hall I.tail ?_
  have hfd:fuel=(ops.drop m).length:=by rw [at2];omega
  rw [hfd,wpOpsIn_eq_wpListIn (ops.drop m) m (λj=>by rw [as8,aw8])]
  refine ce.wp ?_
  refine hfin a w val I.size I.defers (λi d hi hd=>I.done i d hd (hall i hi)) (λt ht=>I.rest t λj hj=>?_) (λi hi=>I.facts i (hall i hi)) ?_
  ·rcases as4 j m with h|h
   ·exact ax7 hj (ht j h)
   ·exact I.tail j h
  have hfun:(λj=>listed.getD j false)=λj=>Nat.blt j m:=by
   funext j
   rcases as4 j m with h|h
   ·rw [hall j h];exact(EF h).symm
   ·rw [Ds h];exact I.tail j h
  have h9:=I.st
  rw [hfun] at h9
  exact h9
 have hcount:∀ (fuel:Nat) (listed:Array Bool) (a:Act) (w:World) (val:Nat->τ),listed.toList.count false=fuel->oJt π d0 ops cls cons q Rs I0 Fs Sh Bs w0 a0 m listed a w val->wpAnyIn (FR ro) 0 P .any ops.toArray Q fuel listed a w:=by
  intro fuel
  induction fuel with
  |zero=>
   intro listed a w val hc I
   have hall:∀ i,i<ops.length->listed.getD i false=true:=λi hi=>CY hc i (by rw [I.lsize];exact hi)
   refine hend listed a w val I (λi hi=>hall i (by omega)) 0 ?_
   rcases as4 m ops.length with h|h
   ·have:=I.tail m (as1 _)
    rw [hall m h] at this;cases this
   ·omega
  |succ fuel ih=>
   intro listed a w val hc I
   by_cases hall:∀ i,i<m->listed.getD i false=true
   ·refine hend listed a w val I hall (fuel+1) ?_
    have key:∀ (b:List Bool) (m:Nat),m<=b.length->(∀ i,i<m->b[i]? = some true)->(∀ i,m<=i->i<b.length->b[i]? = some false)->b.count false=b.length - m:=by
     intro b
     induction b with
     |nil=>intro m _ _ _;simp
     |cons x b ihb=>
      intro m hm h1 h2
      cases m with
      |zero=>
       have hx:x=false:=by simpa using h2 0 (as1 _) (by simp)
       have:=ihb 0 (as3 _) (λi hi=>by omega) (λi _ hi=>by simpa using h2 (i+1) (as3 _) (by simp;omega))
       subst hx;simp [this]
      |succ m=>
       have hx:x=true:=by simpa using h1 0 (by omega)
       have:=ihb m (by simpa using hm) (λi hi=>by simpa using h1 (i+1) (by omega)) (λi hi hi2=>by simpa using h2 (i+1) (by omega) (by simp;omega))
       subst hx;simp [this]
    have hk:=key listed.toList m (by simp [I.lsize];omega)
     (fun i hi=>by have:=hall i hi;have hil:i<listed.size:=by rw [I.lsize];omega
                   simp [hil] at this ⊢;exact this)
     (fun i hi hi2=>by have:=I.tail i hi;have hil:i<listed.size:=by simpa using hi2
                       simp [hil] at this ⊢;exact this)
    rw [hc] at hk
    simp [I.lsize] at hk
    omega
   refine ⟨λhr=>ax7 (λi hi=>tu hok I.lsize hr i (by omega)) hall,λk hk=>?_⟩
   obtain ⟨o,ho,hf,hdir⟩:=fw hk
   have hkl:=(aq4.1 ho).1
   have hks:k<listed.size:=by rw [I.lsize];exact hkl
   have hkm:k<m:=by
    rcases as4 k m with h3|h3
    ·exact h3
    ·exfalso
     apply hall
     intro j hj
     rcases (iM hok ho).2 j (hT k h3 hkl j (by omega)) with h4|⟨p,hp,h4⟩
     ·exact hdir j h4
     ·exact I.closed p (hdir p hp) j h4
   have hu:=hf I.lsize
   have hcl:∀ j∈cls.getD k [],listed.getD j false=true:=λj hj=>by
    rcases (iM hok ho).2 j hj with h1|⟨q,hq,h1⟩
    ·exact hdir j h1
    ·exact I.closed q (hdir q hq) j h1
   have hcnt:(listed.setIfInBounds k true).toList.count false=fuel:=by have:=Gu hks hu;omega
   have hnk:∀ i,listed.getD i false=true->k ∉ cls.getD i []:=λi hi hm=>by have:=I.closed i hi k hm;rw [hu] at this;cases this
   have hkk:k ∉ cls.getD k []:=λhm=>by have:=EH hok k hkl k hm;omega
   obtain ⟨hcn,hcc⟩:=zC hok ho
   have hclive:∀ j∈cons.getD k [],fF ops cons (λj=>listed.getD j false) j=true:=λj hj=>by
    obtain ⟨_,h2,h3⟩:=hcc j hj
    refine jR.2 ⟨h2.imp id (hcl j),λi hi hl hm=>?_⟩
    rw [h3 i hi hm] at hl
    rw [hu] at hl;cases hl
   have hperm:((List.range (ops.length+q)).filter (fF ops cons λj=>listed.getD j false)).Perm (cons.getD k []++(List.range (ops.length+q)).filter (λj=>fF ops cons (λj=>listed.getD j false) j && !(cons.getD k []).contains j)):=by
    refine(List.perm_ext_iff_of_nodup (List.nodup_range.filter _) ?_).2 λj=>?_
    ·rw [List.nodup_append]
     refine ⟨hcn,List.nodup_range.filter _,λx hx y hy e=>?_⟩
     subst e
     have:=(aq5 _ _▸(at4.1 hy).2:_/\_).2
     exact j7.1 this hx
    ·rw [at9,at4,at4,ar7,aq5]
     constructor
     ·rintro ⟨h1,h2⟩
      by_cases hj:j∈cons.getD k []
      ·exact .inl hj
      ·exact .inr ⟨h1,h2,j7.2 hj⟩
     ·rintro (h1|⟨h1,h2,_⟩)
      ·exact ⟨(hcc j h1).1,hclive j h1⟩
      ·exact ⟨h1,h2⟩
   obtain ⟨E,hE⟩:∃ E,E=((List.range (ops.length+q)).filter (λj=>fF ops cons (λj=>listed.getD j false) j && !(cons.getD k []).contains j)).flatMap (iJ d0 ops cls Rs I0 val):=⟨_,rfl⟩
   have hst:St w0 ((cons.getD k []).flatMap (iJ d0 ops cls Rs I0 val)++(Sh (λj=>listed.getD j false) val++(Bs++E))) w:=by
    refine I.st.perm ?_
    refine((hperm.flatMap_right _).append_right (Sh (λj=>listed.getD j false) val++Bs)).trans ?_
    rw [av2,← hE,av3,← av3 (Sh _ _)]
    exact(List.perm_append_comm).append_left _
   have hslots:∀ t∈o.looksAt ops.toArray,lO π ops (cls.getD k []) a0 a val t:=λt ht=>by
    unfold lO
    cases hw:fN ops (cls.getD k []) t with
    |some j=>
     obtain ⟨hmj,oj,hj,hdj⟩:=mi hw
     exact I.done j t (by rw [pV hj,hdj]) (hcl j hmj)
    |none=>
     refine I.rest t λj hdj=>?_
     cases hb:listed.getD j false with
     |false=>rfl
     |true=>
      rcases Ly hok ho t ht j hdj with h|h
      ·obtain ⟨oj,h1,h2⟩:=w8 hdj
       exact ax7 h (pB hw j oj h1 h2)
      ·exact ax7 h (hnk j hb)
   have hrdE:∀ j∈rd.getD k [],∀ p∈I0.getD j [],p∈E:=λj hj p hp=>by
    obtain ⟨h1,h2,h3⟩:=PZ hrd hkl hj
    rw [hE]
    refine List.mem_flatMap.2 ⟨ops.length+j,at4.2 ⟨ar7.2 (by omega),?_⟩,?_⟩
    ·rw [aq5]
     refine ⟨jR.2 ⟨.inl (Nat.le_add_right _ _),λi hi hl hm=>hnk i hl (h3 i hi hm)⟩,j7.2 h2⟩
    ·unfold iJ
     rw [Ds (Nat.le_add_right _ _),cond_false,Nat.add_sub_cancel_left];exact hp
   have hO:=hob k o hkm ho a w val E (λj=>listed.getD j false) hu hcl I.closed I.size I.defers hslots (λj hj=>I.facts j (hcl j hj)) hrdE hst
   have hset:=Nx hks
   have step:∀ v v' w',(∀ d,o.dst=some d->v'=π v)->my d0 cls Fs (wB val k v) k->St w0 (iJ d0 ops cls Rs I0 (wB val k v) k++(Sh (PP (λj=>listed.getD j false) k) (wB val k v)++(Bs++E))) w'->wpAnyIn (FR ro) 0 P .any ops.toArray Q fuel (listed.setIfInBounds k true) (a.put o.dst v') w':=λv v' w' hv hF hS=>by
    have hmk:∀ i,listed.getD i false=true->H0 d0 (i::cls.getD i []) (wB val k v)=H0 d0 (i::cls.getD i []) val:=λi hi=>E4 λj hj=>by
     refine uV val v λe=>?_
     subst e
     rcases ar6.1 hj with h|h
     ·subst h;rw [hu] at hi;cases hi
     ·exact hnk i hi h
    refine ih _ _ w' (wB val k v) hcnt ⟨by rw [Act.tmps_put_size];exact I.size,by cases o.dst<;>exact I.defers,by simp [I.lsize],λi hi=>(by have h8:=I.tail i hi;have h7:k≠i:=(by omega);simpa [at1 h7] using h8),λi d hd hl=>?_,λt ht=>?_,λi hi j hj=>?_,λi hi=>?_,?_⟩
    ·obtain ⟨hds,huniq⟩:=wO hok hd
     by_cases hik:i=k
     ·subst hik
      have hdo:o.dst=some d:=by rw [pV ho] at hd;exact hd
      rw [hdo,iK,if_pos ⟨rfl,by rw [I.size];exact hds⟩,zF]
      exact hv d hdo
     ·have hne:o.dst≠some d:=λe=>hik (huniq k (by rw [pV ho,e])).symm
      rw [uV val v hik]
      have h9:=I.done i d hd (((hset i).1 hl).resolve_left hik)
      cases hdo:o.dst with
      |none=>exact h9
      |some d2=>rw [iK,if_neg (λh=>hne (by rw [hdo,h.1]))];exact h9
    ·have h9:=I.rest t λj hj=>by
      have:=ht j hj
      cases hb:listed.getD j false with
      |false=>rfl
      |true=>rw [(hset j).2 (.inr hb)] at this;cases this
     cases hdo:o.dst with
     |none=>exact h9
     |some d2=>
      rw [iK,if_neg]
      ·exact h9
      ·rintro ⟨e,_⟩
       subst e
       have:=ht k (by rw [pV ho,hdo])
       rw [(hset k).2 (.inl rfl)] at this;cases this
    ·rcases (hset i).1 hi with e|e
     ·subst e;exact(hset j).2 (.inr (hcl j hj))
     ·exact(hset j).2 (.inr (I.closed i e j hj))
    ·rcases (hset i).1 hi with e|e
     ·subst e;exact hF
     ·unfold my
      rw [hmk i e]
      exact I.facts i e
    ·
     have hlive:∀ j,fF ops cons (λj=>(listed.setIfInBounds k true).getD j false) j=true↔(j=k∨(fF ops cons (λj=>listed.getD j false) j=true/\j ∉ cons.getD k [])):=λj=>by
      rw [jR,jR]
      constructor
      ·rintro ⟨h1,h2⟩
       by_cases hjk:j=k
       ·exact .inl hjk
       ·refine .inr ⟨⟨h1.imp id λh=>((hset j).1 h).resolve_left hjk,λi hi hl=>h2 i hi ((hset i).2 (.inr hl))⟩,h2 k hkl ((hset k).2 (.inl rfl))⟩
      ·rintro (rfl|⟨⟨h1,h2⟩,h3⟩)
       ·refine ⟨.inr ((hset j).2 (.inl rfl)),λi hi hl hm=>?_⟩
        have hio:ops[i]? = some ops[i]:=by simp [hi]
        rcases ((zC hok hio).2 j hm).2.1 with h|h
        ·omega
        ·rcases (hset i).1 hl with e|e
         ·subst e;exact hkk h
         ·exact hnk i e h
       ·refine ⟨h1.imp id λh=>(hset j).2 (.inr h),λi hi hl=>?_⟩
        rcases (hset i).1 hl with e|e
        ·subst e;exact h3
        ·exact h2 i hi e
     have hp2:((List.range (ops.length+q)).filter (fF ops cons λj=>(listed.setIfInBounds k true).getD j false)).Perm (k::(List.range (ops.length+q)).filter (λj=>fF ops cons (λj=>listed.getD j false) j && !(cons.getD k []).contains j)):=by
      refine(List.perm_ext_iff_of_nodup (List.nodup_range.filter _) ?_).2 λj=>?_
      ·rw [List.nodup_cons]
       refine ⟨λhm=>?_,List.nodup_range.filter _⟩
       have h1:=(at4.1 hm).2
       rw [aq5] at h1
       rcases (jR.1 h1.1).1 with h|h
       ·omega
       ·rw [hu] at h;cases h
      ·rw [at4,ar6,at4,ar7,aq5,hlive]
       constructor
       ·rintro ⟨h1,h2|⟨h2,h3⟩⟩
        ·exact .inl h2
        ·exact .inr ⟨h1,h2,j7.2 h3⟩
       ·rintro (h1|⟨h1,h2,h3⟩)
        ·exact ⟨by omega,.inl h1⟩
        ·exact ⟨h1,.inr ⟨h2,j7.1 h3⟩⟩
     have hsf:(λj=>(listed.setIfInBounds k true).getD j false)=PP (λj=>listed.getD j false) k:=by
      funext j
      unfold PP
      cases hb:Nat.beq j k with
      |true=>exact (hset j).2 (.inl (by simpa using hb))
      |false=>
       show _=listed.getD j false
       cases hl:listed.getD j false with
       |true=>exact (hset j).2 (.inr hl)
       |false=>
        cases h9:(listed.setIfInBounds k true).getD j false with
        |false=>rfl
        |true=>
         rcases (hset j).1 h9 with e|e
         ·subst e;simp at hb
         ·rw [hl] at e;cases e
     refine hS.perm ?_
     refine List.Perm.trans ?_ ((hp2.flatMap_right _).append_right (Sh (λj=>(listed.setIfInBounds k true).getD j false) (wB val k v)++Bs)).symm
     rw [List.flatMap_cons,hsf]
     have hEq:((List.range (ops.length+q)).filter (λj=>fF ops cons (λj=>listed.getD j false) j && !(cons.getD k []).contains j)).flatMap (iJ d0 ops cls Rs I0 (wB val k v))=E:=by
      rw [hE,List.flatMap_def,List.flatMap_def]
      congr 1
      refine List.map_congr_left λj hj=>?_
      have h1:=(at4.1 hj).2
      rw [aq5] at h1
      unfold iJ
      rcases as4 j ops.length with h|h
      ·have hl:=(jR.1 h1.1).1.resolve_left (by omega)
       rw [hmk j hl]
      ·rw [Ds h];rfl
     rw [hEq,av3,← av3 (Sh _ _)]
     exact(List.perm_append_comm).append_left _
   have ho':ops.toArray[k]? = some o:=by simpa using ho
   unfold wpOpIn
   simp only [ho']
   unfold ce at hO
   split at hO
   ·rename_i hw
    rw [if_pos hw]
    exact hO.wp λv w' h9=>by
     unfold ce at h9
     obtain ⟨u,h1,h2,h3⟩:=h9
     refine step u v w' (λd hd=>?_) h2 h3
     have:=h1 d hd
     rwa [hd,iK,if_pos ⟨rfl,by rw [I.size];exact(wO hok (by rw [pV ho,hd])).1⟩] at this
   ·rename_i hw
    rw [if_neg hw]
    unfold ce at hO
    obtain ⟨u,h1,h2,h3⟩:=hO
    refine ⟨λ_ _=>trivial,step u undef w (λd hd=>?_) h2 h3⟩
    have:=h1 d hd
    rwa [hd,iK,if_pos ⟨rfl,by rw [I.size];exact(wO hok (by rw [pV ho,hd])).1⟩] at this
 have hz:∀ i,(Array.replicate ops.toArray.size false).getD i false=false:=λi=>by simp [at3];split<;>rfl
 have hfz:(λj=>(Array.replicate ops.toArray.size false).getD j false)=λ_=>false:=funext hz
 refine hcount _ _ _ _ (λ_=>d0) (by simp) ⟨rfl,rfl,by simp,λi _=>hz i,λi d _ h=>?_,λ_ _=>rfl,λi h=>?_,λi h=>?_,?_⟩
 ·rw [hz] at h;cases h
 ·rw [hz] at h;cases h
 ·rw [hz] at h;cases h
 ·rw [hfz];exact s.drew
end
section
variable {P:Program} {ro:Option Nat} {ops:List Oper} {cls cons:List (List Nat)} {a0:Act} {Q:Exit->Act->World->Prop} {w0 w1:World}
def oo (F:Nat->Oper->Prop):List Oper->Nat->Prop
 |[],_=>True
 |o::r,i=>F i o/\oo F r (i+1)
theorem zq {F:Nat->Oper->Prop}:∀ {l:List Oper} {k:Nat},oo F l k->∀ i o,l[i]? = some o->F (k+i) o
 |[],_,_,i,o,h=>by simp at h
 |x::r,k,H,0,o,h=>by simp at h;subst h;exact H.1
 |x::r,k,H,i+1,o,h=>by
  have:=zq H.2 i o (by simpa using h)
  rwa [show k+(i+1)=k+1+i by omega]
def Gm (m:Nat) (cls:List (List Nat)) (n:Nat):Bool:=Nat.ble m n && (List.range n).all λi=>Nat.blt i m || (List.range i).all λj=>(cls.getD i []).contains j
theorem Gt {m n:Nat} {cls:List (List Nat)} (h:Gm m cls n=true):m<=n/\∀ i,m<=i->i<n->∀ j,j<i->j∈cls.getD i []:=by
 unfold Gm at h
 rw [aq5] at h
 refine ⟨Nat.le_of_ble_eq_true h.1,λi h1 h2 j hj=>?_⟩
 have h3:=aq6.1 h.2 i (ar7.2 h2)
 rw [Ds h1,Bool.false_or] at h3
 have h4:=aq6.1 h3 j (ar7.2 hj)
 exact av7.1 h4
theorem I3 {τ:Type} {π:τ->Value} {d0:τ} {rid N:Nat} {L:List (Nat × Value)} {Df:List Deferred} {B:List Own} (q m:Nat) (cls cons rd:List (List Nat)) (Rs:List ((Nat->τ)->List Own)) (I0:List (List Own)) (Fs:List ((Nat->τ)->Prop)) (Sh:(Nat->Bool)->(Nat->τ)->List Own) (Bs:List Own)
 (h:Sl N a0 L Df) (s:St w0 B w1) (hB:((List.range (ops.length+q)).filter (fF ops cons λ_=>false)).flatMap (iJ d0 ops cls Rs I0 λ_=>d0)++(Sh (λ_=>false) (λ_=>d0)++Bs)=B) (hm:P.follows .mixedOrders=true) (hok:(gi ops cls cons q N && Gm m cls ops.length)=true) (hrd:uP ops cls cons rd q=true) (hsel:Region.noSelect ops.toArray=true)
 (hob:oo (oOb π d0 P ops cls cons rd Rs I0 Fs Sh Bs w0 a0) (ops.take m) 0) (lv:List Nat) (hlv:(List.range (ops.length+q)).filter (fF ops cons λj=>Nat.blt j m)=lv)
 (hfin:∀ (b:Act) (w:World) (val:Nat->τ),b.tmps.size=N->b.defers=Df->(∀ i d,Nat.blt i m=true->cC ops i=some d->b.tmps.getD d undef=π (val i))->(∀ t,(∀ i,Nat.blt i m=true->cC ops i≠some t)->b.tmps.getD t undef=a0.tmps.getD t undef)->
  (∀ i,Nat.blt i m=true->my d0 cls Fs val i)->St w0 (lv.flatMap (iJ d0 ops cls Rs I0 val)++(Sh (λj=>Nat.blt j m) val++Bs)) w->ce P ops.toArray (Q .normal) (ops.drop m) b w):
 (Code.region rid ops.toArray true).wpIn (FR ro) 0 P Q a0 w1:=by
 subst hB
 obtain ⟨hok,htl⟩:=(aq5 _ _▸hok:_/\_)
 obtain ⟨hml,hT⟩:=Gt htl
 refine Cz hrd hm (by rw [h.size];exact hok) hsel hml hT (λi o him hi=>?_) s λb w val h1 h2 h3 h4 h5 h6=>hfin b w val (h1.trans h.size) (h2.trans h.defers) (λi d hi=>h3 i d (Nat.le_of_ble_eq_true hi)) (λt ht=>h4 t λi hi=>ht i (EF hi)) (λi hi=>h5 i (Nat.le_of_ble_eq_true hi)) (by rw [hlv] at h6;exact h6)
 have:=zq hob i o (by rw [List.getElem?_take,if_pos him];exact hi)
 rwa [Nat.zero_add] at this
end
abbrev Mj:Value->Value:=λv=>v
inductive FcE (τ:Type) where
 |n
 |v (X:Value)
 |p
 |f (F:(Nat->τ)->Prop)
 |r (R:(Nat->τ)->List Own) (F:(Nat->τ)->Prop)
 |m (R:(Nat->τ)->List Own)
 |w (R:(Nat->τ)->List Own) (X:Value)
 |q (R:(Nat->τ)->List Own)
def FcE.fct {τ:Type} (π:τ->Value) (i:Nat):FcE τ->(Nat->τ)->Prop
 |.v X=>λv=>π (v i)=X
 |.w _ X=>λv=>π (v i)=X
 |.p=>λv=>∃ b,π (v i)=.pointer (some ⟨b,0,none⟩)
 |.q _=>λv=>∃ b,π (v i)=.pointer (some ⟨b,0,none⟩)
 |.f F=>F
 |.r _ F=>F
 |_=>λ_=>True
def FcE.res {τ:Type}:FcE τ->(Nat->τ)->List Own
 |.r R _=>R
 |.m R=>R
 |.w R _=>R
 |.q R=>R
 |_=>λ_=>[]
def Fj {τ:Type} (π:τ->Value):List (FcE τ)->Nat->List ((Nat->τ)->Prop)
 |[],_=>[]
 |e::r,i=>e.fct π i::Fj π r (i+1)
def Mr {τ:Type}:List (FcE τ)->List ((Nat->τ)->List Own)
 |[]=>[]
 |e::r=>e.res::Mr r
theorem xF {τ:Type} {π:τ->Value}:∀ {E:List (FcE τ)} {k j:Nat} {X:Value},E.getD j .n=.v X->(Fj π E k).getD j (λ_=>True)=λv=>π (v (k+j))=X
 |[],k,j,X,h=>by cases j<;>cases h
 |e::r,k,0,X,h=>by
  have h:e=.v X:=h
  subst h;rfl
 |e::r,k,j+1,X,h=>by
  have:=xF (π:=π) (E:=r) (k:=k+1) (j:=j) (X:=X) h
  rw [show k+(j+1)=k+1+j by omega];exact this
theorem RL {τ:Type} {π:τ->Value}:∀ {E:List (FcE τ)} {k j:Nat} {R:(Nat->τ)->List Own} {X:Value},E.getD j .n=.w R X->(Fj π E k).getD j (λ_=>True)=λv=>π (v (k+j))=X
 |[],k,j,R,X,h=>by cases j<;>cases h
 |e::r,k,0,R,X,h=>by
  have h:e=.w R X:=h
  subst h;rfl
 |e::r,k,j+1,R,X,h=>by
  have:=RL (π:=π) (E:=r) (k:=k+1) (j:=j) (R:=R) (X:=X) h
  rw [show k+(j+1)=k+1+j by omega];exact this
theorem E3 {τ:Type}:∀ {E:List (FcE τ)} {j:Nat} {X:Value},E.getD j .n=.v X->(Mr E).getD j (λ_=>[])=λ_=>[]
 |[],j,X,h=>by cases j<;>cases h
 |e::r,0,X,h=>by
  have h:e=.v X:=h
  subst h;rfl
 |e::r,j+1,X,h=>E3 (E:=r) (j:=j) (X:=X) h
def xE {τ:Type} (E:List (FcE τ)) (j:Nat):Option Value:=match E.getD j .n with
 |.v X=>some X
 |.w _ X=>some X
 |_=>none
theorem Ti {τ:Type} {π:τ->Value} {d0:τ} {cls:List (List Nat)} {E:List (FcE τ)} {val:Nat->τ} {j:Nat} {X:Value} (h:xE E j=some X) (hF:my d0 cls (Fj π E 0) val j):π (val j)=X:=by
 unfold xE at h
 have key:(Fj π E 0).getD j (λ_=>True)=(λv=>π (v (0+j))=X)->π (val j)=X:=λhg=>by
  unfold my at hF
  rw [hg,Nat.zero_add] at hF
  have h9:π (H0 d0 (j::cls.getD j []) val j)=X:=hF
  unfold H0 at h9
  rw [aw4.2 ⟨j,ar5,by simp⟩] at h9
  exact h9
 split at h
 ·next Y hY=>cases h;exact key (xF hY)
 ·next Y hY=>cases h;exact key (RL hY)
 ·cases h
theorem oFx {τ:Type} {π:τ->Value} {d0:τ} {cls:List (List Nat)} {E:List (FcE τ)} {val:Nat->τ} {i:Nat} {u:τ} {Y:Value} (hE:E.getD i .n=.v Y) (hX:π u=Y):my d0 cls (Fj π E 0) (wB val i u) i:=by
 unfold my
 rw [xF hE]
 show π (H0 d0 (i::cls.getD i []) (wB val i u) (0+i))=Y
 rw [Nat.zero_add]
 unfold H0
 rw [aw4.2 ⟨i,ar5,by simp⟩,← hX]
 exact aq3 π (zF val i u)
theorem cq {F:Nat->Oper->Prop} {o:Oper} {r:List Oper} {i:Nat} (h:F i o) (t:oo F r (i+1)):oo F (o::r) i:=⟨h,t⟩
def V0 {τ:Type} (π:τ->Value) (d0:τ) (P:Program) (ops:List Oper) (cls cons:List (List Nat)) (Rs:List ((Nat->τ)->List Own)) (I0:List (List Own)) (Fs:List ((Nat->τ)->Prop)) (Bs:List Own) (w0:World) (a0:Act) (i:Nat) (o:Oper):Prop:=
 ∀ (a:Act) (w:World) (val:Nat->τ) (E:List Own),a.tmps.size=a0.tmps.size->a.defers=a0.defers->
  (∀ t∈o.looksAt ops.toArray,lO π ops (cls.getD i []) a0 a val t)->(∀ j∈cls.getD i [],my d0 cls Fs val j)->St w0 ((cons.getD i []).flatMap (iJ d0 ops cls Rs I0 val)++(Bs++E)) w->
  ce P ops.toArray (λa' w'=>∃ v,(∀ d,o.dst=some d->a'.tmps.getD d undef=π v)/\my d0 cls Fs (wB val i v) i/\St w0 (iJ d0 ops cls Rs I0 (wB val i v) i++(Bs++E)) w') [o] a w
theorem pY {F G:Nat->Oper->Prop} (h:∀ i o,F i o->G i o):∀ {l:List Oper} {k:Nat},oo F l k->oo G l k
 |[],_,_=>trivial
 |_::_,_,H=>⟨h _ _ H.1,pY h H.2⟩
theorem z7 (ops:List Oper) (cls cons:List (List Nat)) (q:Nat):uP ops cls cons [] q=true:=by
 unfold uP
 exact aq6.2 λi _=>rfl
theorem Jl (cls:List (List Nat)) (n:Nat):Gm n cls n=true:=by
 unfold Gm
 rw [aq5]
 exact ⟨Nat.ble_eq_true_of_le (as1 n),aq6.2 λi hi=>by rw [EF (ar7.1 hi)];rfl⟩
section
variable {P:Program} {ro:Option Nat} {ops:List Oper} {a0:Act} {Q:Exit->Act->World->Prop} {w0 w1:World} {τ:Type} {π:τ->Value} {d0:τ} {rid N:Nat} {L:List (Nat × Value)} {Df:List Deferred} {B:List Own}
theorem Ek (q:Nat) (cls cons rd:List (List Nat)) (Rs:List ((Nat->τ)->List Own)) (I0:List (List Own)) (Fs:List ((Nat->τ)->Prop)) (Sh:(Nat->Bool)->(Nat->τ)->List Own) (Bs:List Own)
 (h:Sl N a0 L Df) (s:St w0 B w1) (hB:((List.range (ops.length+q)).filter (fF ops cons λ_=>false)).flatMap (iJ d0 ops cls Rs I0 λ_=>d0)++(Sh (λ_=>false) (λ_=>d0)++Bs)=B) (hm:P.follows .mixedOrders=true) (hok:gi ops cls cons q N=true) (hrd:uP ops cls cons rd q=true) (hsel:Region.noSelect ops.toArray=true)
 (hob:oo (oOb π d0 P ops cls cons rd Rs I0 Fs Sh Bs w0 a0) ops 0) (lv:List Nat) (hlv:(List.range (ops.length+q)).filter (fF ops cons λj=>Nat.blt j ops.length)=lv)
 (hfin:∀ (b:Act) (w:World) (val:Nat->τ),b.tmps.size=N->b.defers=Df->(∀ i d,cC ops i=some d->b.tmps.getD d undef=π (val i))->(∀ t,(∀ i,cC ops i≠some t)->b.tmps.getD t undef=a0.tmps.getD t undef)->
  (∀ i,Nat.blt i ops.length=true->my d0 cls Fs val i)->St w0 (lv.flatMap (iJ d0 ops cls Rs I0 val)++(Sh (λj=>Nat.blt j ops.length) val++Bs)) w->Q .normal b w):
 (Code.region rid ops.toArray true).wpIn (FR ro) 0 P Q a0 w1:=by
 refine I3 q ops.length cls cons rd Rs I0 Fs Sh Bs h s hB hm (by rw [hok,Jl];rfl) hrd hsel (by rw [List.take_length];exact hob) lv hlv λb w val h1 h2 h3 h4 h5 h6=>?_
 rw [List.drop_length]
 exact ce.nil.2 (hfin b w val h1 h2 (λi d hd=>h3 i d (EF (sS hd)) hd) (λt ht=>h4 t λi _=>ht i) h5 h6)
theorem PH (q:Nat) (cls cons:List (List Nat)) (Rs:List ((Nat->τ)->List Own)) (I0:List (List Own)) (Fs:List ((Nat->τ)->Prop)) (Bs:List Own)
 (h:Sl N a0 L Df) (s:St w0 B w1) (hB:((List.range (ops.length+q)).filter (fF ops cons λ_=>false)).flatMap (iJ d0 ops cls Rs I0 λ_=>d0)++Bs=B) (hm:P.follows .mixedOrders=true) (hok:gi ops cls cons q N=true) (hsel:Region.noSelect ops.toArray=true)
 (hob:oo (V0 π d0 P ops cls cons Rs I0 Fs Bs w0 a0) ops 0) (lv:List Nat) (hlv:(List.range (ops.length+q)).filter (fF ops cons λj=>Nat.blt j ops.length)=lv)
 (hfin:∀ (b:Act) (w:World) (val:Nat->τ),b.tmps.size=N->b.defers=Df->(∀ i d,cC ops i=some d->b.tmps.getD d undef=π (val i))->(∀ t,(∀ i,cC ops i≠some t)->b.tmps.getD t undef=a0.tmps.getD t undef)->
  (∀ i,Nat.blt i ops.length=true->my d0 cls Fs val i)->St w0 (lv.flatMap (iJ d0 ops cls Rs I0 val)++Bs) w->Q .normal b w):
 (Code.region rid ops.toArray true).wpIn (FR ro) 0 P Q a0 w1:=
 Ek q cls cons [] Rs I0 Fs (λ_ _=>[]) Bs h s hB hm hok (z7 ops cls cons q) hsel (pY (λi o H a w val E _ _ _ _ h1 h2 h3 h4 _ s=>H a w val E h1 h2 h3 h4 s) hob) lv hlv hfin
theorem VR (q m:Nat) (cls cons:List (List Nat)) (Rs:List ((Nat->τ)->List Own)) (I0:List (List Own)) (Fs:List ((Nat->τ)->Prop)) (Bs:List Own)
 (h:Sl N a0 L Df) (s:St w0 B w1) (hB:((List.range (ops.length+q)).filter (fF ops cons λ_=>false)).flatMap (iJ d0 ops cls Rs I0 λ_=>d0)++Bs=B) (hm:P.follows .mixedOrders=true) (hok:(gi ops cls cons q N && Gm m cls ops.length)=true) (hsel:Region.noSelect ops.toArray=true)
 (hob:oo (V0 π d0 P ops cls cons Rs I0 Fs Bs w0 a0) (ops.take m) 0) (lv:List Nat) (hlv:(List.range (ops.length+q)).filter (fF ops cons λj=>Nat.blt j m)=lv)
 (hfin:∀ (b:Act) (w:World) (val:Nat->τ),b.tmps.size=N->b.defers=Df->(∀ i d,Nat.blt i m=true->cC ops i=some d->b.tmps.getD d undef=π (val i))->(∀ t,(∀ i,Nat.blt i m=true->cC ops i≠some t)->b.tmps.getD t undef=a0.tmps.getD t undef)->
  (∀ i,Nat.blt i m=true->my d0 cls Fs val i)->St w0 (lv.flatMap (iJ d0 ops cls Rs I0 val)++Bs) w->ce P ops.toArray (Q .normal) (ops.drop m) b w):
 (Code.region rid ops.toArray true).wpIn (FR ro) 0 P Q a0 w1:=
 I3 q m cls cons [] Rs I0 Fs (λ_ _=>[]) Bs h s hB hm hok (z7 ops cls cons q) hsel (pY (λi o H a w val E _ _ _ _ h1 h2 h3 h4 _ s=>H a w val E h1 h2 h3 h4 s) hob) lv hlv hfin
abbrev nI:=λ(q:Nat) (cls cons:List (List Nat)) (I0:List (List Own)) (E:List (FcE Value)) => @PH P ro ops a0 Q w0 w1 Value Mj undef rid N L Df B q cls cons (Mr E) I0 (Fj Mj E 0)
abbrev jC:=λ(q m:Nat) (cls cons:List (List Nat)) (I0:List (List Own)) (E:List (FcE Value)) => @VR P ro ops a0 Q w0 w1 Value Mj undef rid N L Df B q m cls cons (Mr E) I0 (Fj Mj E 0)
abbrev BE:=λ(q:Nat) (cls cons rd:List (List Nat)) (I0:List (List Own)) (E:List (FcE Value)) => @Ek P ro ops a0 Q w0 w1 Value Mj undef rid N L Df B q cls cons rd (Mr E) I0 (Fj Mj E 0)
theorem eN {cl:List Nat} {a:Act} {val:Nat->τ} {lk9:List Tmp} (hl:∀ t∈lk9,lO π ops cl a0 a val t) (t j:Nat) (hm:lk9.contains t=true) (hw:fN ops cl t=some j):a.tmps.getD t undef=π (val j):=by
 have:=hl t (av7.1 hm)
 unfold lO at this
 rw [hw] at this
 exact this
theorem S3 {cl:List Nat} {a:Act} {val:Nat->τ} {lk9:List Tmp} (hl:∀ t∈lk9,lO π ops cl a0 a val t) (t:Nat) (hm:lk9.contains t=true) (hw:fN ops cl t=none) {v:Value} (hv:a0.tmps.getD t undef=v):a.tmps.getD t undef=v:=by
 have:=hl t (av7.1 hm)
 unfold lO at this
 rw [hw] at this
 exact this.trans hv
end
section
variable {ops:List Oper} {a0:Act}
theorem Tx {o:Oper} {a:Act} {v:Value} (D:Tmp) (hd:o.dst=some D) (h:a.tmps.getD D undef=v):∀ d,o.dst=some d->a.tmps.getD d undef=v:=λd hd'=>by
 rw [hd] at hd';cases hd';exact h
theorem gO {o:Oper} {a:Act} {v:Value} (hd:o.dst=none):∀ d,o.dst=some d->a.tmps.getD d undef=v:=λd hd'=>by
 rw [hd] at hd';cases hd'
theorem mT {N:Nat} {L:List (Nat × Value)} {Df:List Deferred} {b:Act} (news:List (Nat × Value)) (h:Sl N a0 L Df) (hs:b.tmps.size=N) (hd:b.defers=Df)
 (hr:∀ t,(∀ i,cC ops i≠some t)->b.tmps.getD t undef=a0.tmps.getD t undef) (hn:r5 b news)
 (hc:((List.range ops.length).all λi=>match cC ops i with|some t=>news.any (λp=>Nat.beq p.1 t)|none=>true)=true):Sl N b (news++L) Df:=by
 refine sl_new (ops:=ops) (mH:=λ_=>true) news h hs hd (λt ht=>hr t λi hi=>?_) hn ?_
 ·have:=aq6.1 ht i (ar7.2 (sS hi))
  rw [hi] at this
  simp at this
 ·refine aq6.2 λi hi=>?_
  have:=aq6.1 hc i hi
  cases hdi:cC ops i with
  |none=>rfl
  |some t=>rw [hdi] at this;exact this
theorem jx {N:Nat} {L:List (Nat × Value)} {Df:List Deferred} {b:Act} (m:Nat) (news:List (Nat × Value)) (h:Sl N a0 L Df) (hs:b.tmps.size=N) (hd:b.defers=Df)
 (hr:∀ t,(∀ i,Nat.blt i m=true->cC ops i≠some t)->b.tmps.getD t undef=a0.tmps.getD t undef) (hn:r5 b news)
 (hc:((List.range m).all λi=>match cC ops i with|some t=>news.any (λp=>Nat.beq p.1 t)|none=>true)=true):Sl N b (news++L) Df:=by
 refine sl_new (ops:=ops) (mH:=λi=>Nat.blt i m) news h hs hd (λt ht=>hr t λi hi hdi=>?_) hn ?_
 ·have:=aq6.1 ht i (ar7.2 (sS hdi))
  simp only [hdi,hi] at this
  simp at this
 ·refine aq6.2 λi hi=>?_
  cases hb:Nat.blt i m with
  |false=>rfl
  |true=>
   have:=aq6.1 hc i (ar7.2 (Nat.le_of_ble_eq_true hb))
   cases hdi:cC ops i with
   |none=>rfl
   |some t=>rw [hdi] at this;exact this
end
theorem cJ {a b:Act} {N:Nat} {M:List (Nat × Value)} {Df:List Deferred} (L:List (Nat × Value)) (h:Sl N a M Df) (hs:b.tmps.size=a.tmps.size) (hd:b.defers=a.defers) (H:r5 b L):Sl N b L Df:=dU L (hs.trans h.size) (hd.trans h.defers) (holds_lk H)
section
variable {ops:List Oper} {a0 a:Act} {cl:List Nat} {τ:Type} {π:τ->Value} {val:Nat->τ} {lk9:List Tmp} {v:Value}
theorem bp (hl:∀ t∈lk9,lO π ops cl a0 a val t) (t j:Nat) (hw:(lk9.contains t && (fN ops cl t == some j))=true) (e:π (val j)=v):a.tmps.getD t undef=v:=by
 obtain ⟨h1,h2⟩:=(aq5 _ _).mp hw
 exact(eN hl t j h1 (eq_of_beq h2)).trans e
theorem gp (hl:∀ t∈lk9,lO π ops cl a0 a val t) (t:Nat) (hw:(lk9.contains t && (fN ops cl t == none))=true) (hv:a0.tmps.getD t undef=v):a.tmps.getD t undef=v:=by
 obtain ⟨h1,h2⟩:=(aq5 _ _).mp hw
 exact S3 hl t h1 (eq_of_beq h2) hv
end
theorem bq {o:Oper} {a:Act} {v:Value} {N:Nat} {L:List (Nat × Value)} {Df:List Deferred} (D:Tmp) (h:Sl N a L Df) (hv:lk L D=some v) (hd:o.dst=some D):∀ d,o.dst=some d->a.tmps.getD d undef=v:=Tx D hd (h.holds D _ hv)
def TF (ops:List Oper) (j t:Nat):Bool:=match ops[j]? with
 |some ⟨some d,_,_,_,_,_⟩=>Nat.beq d t
 |_=>false
def Zy (ops:List Oper) (t:Nat):List Nat->Option Nat
 |[]=>none
 |j::r=>bif TF ops j t then some j else Zy ops t r
theorem KR (ops:List Oper) (j t:Nat):TF ops j t=decide ((ops[j]?).bind (·.dst)=some t):=by
 unfold TF
 split
 ·next d _ _ _ _ _ h=>
  rw [h]
  show Nat.beq d t=decide (some d=some t)
  cases hb:Nat.beq d t with
  |true=>rw [Nat.eq_of_beq_eq_true hb];simp
  |false=>
   have:d≠t:=λe=>by subst e;simp at hb
   simp [this]
 ·next h=>
  cases ho:ops[j]? with
  |none=>simp
  |some o=>
   obtain ⟨d,a,b,c,e,f⟩:=o
   cases d with
   |none=>simp
   |some d=>exact ax7 ho (h d a b c e f)
theorem J5 (ops:List Oper) (t:Nat):∀ cl:List Nat,Zy ops t cl=fN ops cl t
 |[]=>rfl
 |j::r=>by
  unfold Zy fN
  rw [List.find?_cons,KR,J5 ops t r]
  cases decide ((ops[j]?).bind (·.dst)=some t)<;>rfl
def Ig {τ:Type} (ops:List Oper) (cl:List Nat) (L:List (Nat × Value)) (E:List (FcE τ)) (t:Nat):Option Value:=match Zy ops t cl with
 |some j=>xE E j
 |none=>lk L t
def ZG {τ:Type} (ops:List Oper) (cl:List Nat) (L:List (Nat × Value)) (E:List (FcE τ)) (op:Op):List (Nat × Value):=
 op.operands.toList.filterMap λx=>match x with
  |.tmp t=>(Ig ops cl L E t).map λv=>(t,v)
  |_=>none
section
variable {P:Program} {ops:List Oper} {cls cons:List (List Nat)} {I0:List (List Own)} {Bs:List Own} {w0:World} {a0:Act} {τ:Type} {π:τ->Value} {d0:τ} {E:List (FcE τ)} {T:List (Nat × Nat × Nat)} {N:Nat} {L:List (Nat × Value)} {Df:List Deferred}
theorem af8 (mk:Value->τ) (hmk:∀ X,π (mk X)=X) (hT:FT P T) (h:Sl N a0 L Df) {X:Value} {d:Tmp} {op:Op} {ty:TypeId} {pos:String} {af:Array Edge} {l:List Oper} {i:Nat}
 (hev:Fn T (ZG ops (cls.getD i []) L E op) op=some X) (hX:E.getD i .n=.v X) (hok:(Nat.blt d N && (Nat.blt i ops.length && (cons.getD i []).isEmpty))=true)
 (k:oo (V0 π d0 P ops cls cons (Mr E) I0 (Fj π E 0) Bs w0 a0) l (i+1)):oo (V0 π d0 P ops cls cons (Mr E) I0 (Fj π E 0) Bs w0 a0) (⟨some d,op,ty,pos,af,none⟩::l) i:=by
 refine ⟨λa w val E9 hs hd hl hF s=>?_,k⟩
 rw [aq5,aq5] at hok
 obtain ⟨hdl,hil,hce⟩:=hok
 rw [List.isEmpty_iff] at hce
 have hM:∀ t v,lk (ZG ops (cls.getD i []) L E op) t=some v->a.tmps.getD t undef=v:=λt v hm=>by
  obtain ⟨x,hx,hxm⟩:=List.mem_filterMap.1 (CU hm)
  cases x with
  |tmp u=>
   cases hsr:Ig ops (cls.getD i []) L E u with
   |none=>
    have hxm:(Ig ops (cls.getD i []) L E u).map (λv=>(u,v))=some (t,v):=hxm
    rw [hsr] at hxm;cases hxm
   |some y=>
    have hxm:(Ig ops (cls.getD i []) L E u).map (λv=>(u,v))=some (t,v):=hxm
    simp only [hsr,Option.map_some,Option.some.injEq,av8] at hxm
    obtain ⟨rfl,rfl⟩:=hxm
    have hlook:u∈(Oper.looksAt ops.toArray ⟨some d,op,ty,pos,af,none⟩):=List.mem_append_left _ (List.mem_filterMap.2 ⟨.tmp u,hx,rfl⟩)
    have h9:=hl u hlook
    unfold lO at h9
    unfold Ig at hsr
    rw [J5] at hsr
    cases hw:fN ops (cls.getD i []) u with
    |some j=>
     rw [hw] at h9 hsr
     exact h9.trans (Ti hsr (hF j (mi hw).1))
    |none=>
     rw [hw] at h9 hsr
     exact h9.trans (h.holds u y hsr)
  |_=>simp at hxm
 have hS:Sl N a (ZG ops (cls.getD i []) L E op) Df:=⟨hs.trans h.size,hd.trans h.defers,hM⟩
 refine ak hS (g5 hT hS hev) hdl λf h9=>aE ⟨mk X,λd' hd'=>?_,oFx hX (hmk X),?_⟩
 ·cases hd'
  rw [hmk];exact h9.holds d X (by unfold lk;simp)
 ·rw [hce] at s
  have e:iJ d0 ops cls (Mr E) I0 (wB val i (mk X)) i=[]:=by
   unfold iJ
   rw [hil,E3 hX];rfl
  rw [e];exact s
end
section
variable {P:Program} {ops:List Oper} {cls cons:List (List Nat)} {I0:List (List Own)} {Bs:List Own} {w0:World} {a0:Act} {T:List (Nat × Nat × Nat)} {N:Nat} {L:List (Nat × Value)} {Df:List Deferred} {d:Tmp} {op:Op} {ty:TypeId} {pos:String} {af:Array Edge} {l:List Oper} {i:Nat} {X:Value}
theorem iG {E:List (FcE Value)} (hT:FT P T) (h:Sl N a0 L Df) (hev:Fn T (ZG ops (cls.getD i []) L E op) op=some X) (hX:E.getD i .n=.v X) (hok:(Nat.blt d N && (Nat.blt i ops.length && (cons.getD i []).isEmpty))=true)
 (k:oo (V0 Mj undef P ops cls cons (Mr E) I0 (Fj Mj E 0) Bs w0 a0) l (i+1)):oo (V0 Mj undef P ops cls cons (Mr E) I0 (Fj Mj E 0) Bs w0 a0) (⟨some d,op,ty,pos,af,none⟩::l) i:=af8 (λx=>x) (λ_=>rfl) hT h hev hX hok k
end
end Go.Proofs.YthmlflaiidhoiaaGreatDoor
