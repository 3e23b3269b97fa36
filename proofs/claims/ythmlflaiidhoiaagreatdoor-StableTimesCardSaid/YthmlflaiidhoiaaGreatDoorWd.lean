/- Worlds: what they are, what acts make of them; a course in memory; rows sorted in place; no Go in it. -/
import Derived.Test.YthmlflaiidhoiaaGreatDoorHo
set_option linter.unusedVariables false
set_option linter.unusedSimpArgs false
set_option linter.unusedSectionVars false
namespace Go.Proofs.YthmlflaiidhoiaaGreatDoor
open Go.RowKit
def U8 (id:Nat) (q:Bool):Exit->Prop
 |.normal=>q=false
 |.exit i=>q=true/\i=id
 |_=>False
def Mq (id:Nat) (q:Bool):Option Code:=bif q then some (.exit id) else none
theorem JS {P:Program} {N:Nat} {a:Act} {L:List (Nat × Value)} {Df:List Deferred} {w w0:World} {B:List Own} {g:Operand} {ps:Array Tmp} {assign body:Code} {f:FuncId} {lb:Array Value} {Q:Exit->Act->World->Prop}
 (id:Nat) (J:Nat->List Own->Prop) (A0:List Own) (X:List Own) (m:Nat) (q:Nat->Bool) (arg:Nat->List Value) (h:Sl N a L Df) (s:St w0 B w) (hg:ec L g=some (.func (.func f) #[] lb)) (hf:Fnc P f)
 (hB:B.Perm (X++A0)) (hJ0:J 0 A0) (hps:∀ d,(arg d).length=ps.size)
 (hiter:∀ (l:Nat) (w1:World) (GG:Nat->Own->Prop) (g0:Own),GG 0 g0->St w0 (X++[g0]) w1->
  (∀ (d:Nat) (B':List Own) (w':World) (i:Nat) (g:Own),d<m->(∀ j,j<d->q j=false)->GG d g->St w0 B' w'->B'[i]? = some g->i6 P l (arg d).toArray w' (λv w''=>v=.bool (!q d)/\∃ g',GG (d+1) g'/\St w0 (B'.set i g') w''))->
  Calls P f (#[.func (.yield l) #[] #[]]++lb) w1 (λe w'=>(∃ v,e=.returned v)/\∃ d g,GG d g/\St w0 (X++[g]) w'/\d<=m/\(∀ j,j+1<d->q j=false)/\(lq q d=false->d=m)))
 (hround:∀ (l D d:Nat) (rc:LoopState->Loop) (R A:List Own) (w1:World),d<m->(∀ j,j<d->q j=false)->J d A->St w0 (.blk l (.loop (rc .ready))::.blk D (.deferred (some []))::(A++R)) w1->
  assign.wpIn (FR (some l)) 0 P (Exit.then (λa1 w2=>∃ X1,St w0 (.blk l (.loop (rc .ready))::X1) w2/\∀ w3,St w0 (.blk l (.loop (rc .busy))::X1) w3->body.wpIn (FR (some l)) 0 P
   (λe _ w4=>U8 id (q d) e/\∃ A',J (d+1) A'/\St w0 (.blk l (.loop (rc .busy))::.blk D (.deferred (some []))::(A'++R)) w4) a1 w3) (λ_ _ _=>False))
   {tmps:=(ps.zip (arg d).toArray).foldl (λt (p,v)=>t.setIfInBounds p v) a.tmps,defers:=[]} w1)
 (hdone:∀ (D:Nat) (A:List Own) (w2:World),J m A->(∀ j,j<m->q j=false)->St w0 (.blk D (.deferred (some []))::(X++A)) w2->Q .normal {a with defers:={target:=.collected D,args:=#[]}::a.defers} w2)
 (hleft:∀ (D d:Nat) (A:List Own) (w2:World),d<m->q d=true->(∀ j,j<d->q j=false)->J (d+1) A->St w0 (.blk D (.deferred (some []))::(X++A)) w2->Q (.exit id) {a with defers:={target:=.collected D,args:=#[]}::a.defers} w2):
 (Code.rangeFunc g ps assign body).wpIn (FR none) 0 P Q a w:=by
 refine wpIn_rangeFunc (F:=FR none) λfn _=>?_
 obtain ⟨rq,hrq⟩:∃ rq,rq=λpe st=>jQ a w.heap.size fn ps assign body pe st:=⟨_,rfl⟩
 obtain ⟨cA,e1,e2,e3⟩:=hf.has
 have hl0:jQ a w.heap.size fn ps assign body none .ready=rq none .ready:=by rw [hrq]
 refine ⟨w.heap.size+1,[{target:=.collected w.heap.size,args:=#[]}],(w.alloc (.deferred (some []))).alloc (.loop (rq none .ready)),{target:=.fn (.func f) lb,args:=#[.func (.yield (w.heap.size+1)) #[] #[]]},(w.alloc (.deferred (some []))).alloc (.loop (rq none .ready)),f,
  #[.func (.yield (w.heap.size+1)) #[] #[]]++lb,(w.alloc (.deferred (some []))).alloc (.loop (rq none .ready)),?_,?_,λ_ _=>trivial,?_,(λhh=>by cases hh),?_⟩
 ·rw [hrq];exact run_enterLoop_outer _ _ _ _ _
 ·simp only [resolve,h.ev hg]
  simp [go_sem]
 ·simp only [invoke];exact fB e1 e2 e3 _ _
 have s1:St w0 (.blk (w.heap.size+1) (.loop (rq none .ready))::.blk w.heap.size (.deferred (some []))::B) ((w.alloc (.deferred (some []))).alloc (.loop (rq none .ready))):=by
  have:=(s.new (.deferred (some []))).new (.loop (rq none .ready))
  rwa [World.size_alloc] at this
 have s2:St w0 ((.blk (w.heap.size+1) (.loop (rq none .ready))::.blk w.heap.size (.deferred (some []))::A0)++X) ((w.alloc (.deferred (some []))).alloc (.loop (rq none .ready))):=
  s1.perm ((((hB.trans List.perm_append_comm).cons _).cons _))
 have hnd0:=fA s2
 have s3:=s2.group
 refine callsIn_wide.2 ((hiter (w.heap.size+1) _ (λd g=>∃ A,J d A/\g=.all w0 (.blk (w.heap.size+1) (.loop (rq (Mq id (lq q d)) (qS (lq q d))))::.blk w.heap.size (.deferred (some []))::A)/\
  (Own.blk (w.heap.size+1) (.loop (rq (Mq id (lq q d)) (qS (lq q d))))::.blk w.heap.size (.deferred (some []))::A).Pairwise λp q=>∀ k,p.at k->¬ q.at k)
  _ ⟨A0,hJ0,rfl,hnd0⟩ (s3.perm (List.perm_append_comm (l₁:=[_]))) ?_).mono ?_)
 ·rintro d B' w' i g hd xO ⟨A,hJ,rfl,hnd⟩ s' hi
  have hlq:lq q d=false:=by cases d with|zero=>rfl|succ d=>exact xO d (Nat.lt_succ_self d)
  rw [hlq] at hi hnd
  have hil:=(aq4.1 hi).1
  have s4:St w0 ((.blk (w.heap.size+1) (.loop (rq none .ready))::.blk w.heap.size (.deferred (some []))::A)++B'.eraseIdx i) w':=(s'.perm (ni hi)).ungroup hnd
  have hl:=s4.get 0 rfl
  have hy:=run_yield (P:=P) (args:=(arg d).toArray) hl (by rw [hrq,List.size_toArray];exact hps d)
  refine ⟨_,_,_,_,hy,?_⟩
  have hw:=hround (w.heap.size+1) w.heap.size d (rq none) (B'.eraseIdx i) A w' hd xO hJ (by simpa using s4)
  subst hrq
  refine roundIn_of_wpIn (F:=Fence.wide) (n:=0) trivial (Go.wpIn_mono hw ?_)
  intro e a1 w2 he
  cases e with
  |normal=>
   obtain ⟨X1,s5,hb⟩:=he
   refine ⟨_,run_beginRound (s5.get 0 rfl) rfl,Go.wpIn_mono (hb _ (s5.putObj 0 rfl _)) ?_⟩
   rintro e2 a3 w4 ⟨hle,A',hJ',s6⟩
   have key:∀ (jump:Option Code),jump=Mq id (q d)->∃ v w',(Instr.endRound (w.heap.size+1) jump).run P w4=.ok v w'/\∃ u,Ending.returned v=.returned u/\u=.bool (!q d)/\∃ g',(∃ A,J (d+1) A/\g'=Own.all w0 (.blk (w.heap.size+1) (.loop (jQ a w.heap.size fn ps assign body (Mq id (q d)) (qS (q d))))::.blk w.heap.size (.deferred (some []))::A)/\
    (Own.blk (w.heap.size+1) (.loop (jQ a w.heap.size fn ps assign body (Mq id (q d)) (qS (q d))))::.blk w.heap.size (.deferred (some []))::A).Pairwise λp q=>∀ k,p.at k->¬ q.at k)/\St w0 (B'.set i g') w':=by
    rintro jump rfl
    refine ⟨_,_,run_endRound _ (s6.get 0 rfl),_,rfl,(by cases q d<;>rfl),_,⟨A',hJ',rfl,?_⟩,?_⟩
    ·have hn:=fA (A:=.blk (w.heap.size+1) (.loop (jQ a w.heap.size fn ps assign body none .busy))::.blk w.heap.size (.deferred (some []))::A') (R:=B'.eraseIdx i) (by simpa using s6)
     exact AA (A:=.blk (w.heap.size+1) (.loop (jQ a w.heap.size fn ps assign body none .busy))::.blk w.heap.size (.deferred (some []))::A') rfl hn
    ·have s7:=s6.putObj 0 rfl (.loop (jQ a w.heap.size fn ps assign body (Mq id (q d)) (qS (q d))))
     have s8:St w0 ((.blk (w.heap.size+1) (.loop (jQ a w.heap.size fn ps assign body (Mq id (q d)) (qS (q d))))::.blk w.heap.size (.deferred (some []))::A')++B'.eraseIdx i) _:=s7
     have s9:=s8.group.perm (uW hil _)
     cases hqd:q d<;>rw [hqd] at s9<;>exact s9
   cases e2 with
   |normal=>exact key none (by rw [show q d=false from hle];rfl)
   |ret=>exact hle.elim
   |exit i=>exact key (some (.exit i)) (by rw [show q d=true from hle.1,show i=id from hle.2];rfl)
   |goto _=>exact hle.elim
   |panic _=>exact hle.elim
   |outgrown=>exact hle.elim
  |ret=>exact he.elim
  |exit _=>exact he.elim
  |goto _=>exact he.elim
  |panic _=>exact he.elim
  |outgrown=>exact he.elim
 ·rintro e w2 ⟨⟨v,rfl⟩,d,g,⟨A,hJ,rfl,hnd⟩,s4,hdm,xO,hend⟩
  have s5:St w0 ((.blk (w.heap.size+1) (.loop (rq (Mq id (lq q d)) (qS (lq q d))))::.blk w.heap.size (.deferred (some []))::A)++X) w2:=(s4.perm (List.perm_append_comm (l₂:=[_]))).ungroup hnd
  have hl:=s5.get 0 rfl
  subst hrq
  refine ⟨Mq id (lq q d),_,run_endLoop hl (by cases lq q d<;>simp [jQ,qS]),?_⟩
  have s6:=s5.putObj 0 rfl (.loop {jQ a w.heap.size fn ps assign body (Mq id (lq q d)) (qS (lq q d)) with state:=.exhausted})
  have s7:=(s6.pick (.blk w.heap.size (.deferred (some []))::A++X) (as2 _ _)).perm (List.Perm.cons _ List.perm_append_comm)
  cases hqd:lq q d with
  |false=>
   obtain rfl:=hend hqd
   refine hdone _ A _ hJ (λj hj=>?_) (by rw [hqd] at s7;exact s7)
   by_cases h1:j+1<d
   ·exact xO j h1
   ·have:d=j+1:=by omega
    subst this;exact hqd
  |true=>
   cases d with
   |zero=>cases hqd
   |succ d=>
    refine au5 ?_
    exact hleft _ d A _ (by omega) hqd (λj hj=>xO j (by omega)) hJ (by rw [hqd] at s7;exact s7)
section
variable {P:Program} {fn:Func} {w w0:World} {N:Nat} {a:Act} {L:List (Nat × Value)} {B:List Own}
theorem Ap {T:cX} {p q:Tmp} {b b' D:Nat} {C C':Array Value} {V U:Value} {t t' u u':TypeId} (i i' j:Nat) (hres:fn.results=#[.cell p t,.cell q t']) (h:Sl N a L [{target:=.collected D,args:=#[]}]) (s:St w0 B w) (ho:One P t) (ho2:One P t')
 (hp:lk L p=some (.pointer (some ⟨b,0,none⟩))) (hq:lk L q=some (.pointer (some ⟨b',0,none⟩)))
 (hj:B[j]? = some (.blk D (.deferred (some [])))) (hij:(B.set j (.blk D (.deferred none)))[i]? = some (.blk b (.cells C u))) (hij':(B.set j (.blk D (.deferred none)))[i']? = some (.blk b' (.cells C' u')))
 (hC:C[0]? = some V) (hC2:C'[0]? = some U) (hT:∀ w',St w0 (B.set j (.blk D (.deferred none))) w'->T (.tuple #[V,U]) w'):bodyPostM (FR none) 0 P fn (bW w0 T) .ret a w:=by
 show LeavesInM (FR none) 0 P fn a.tmps (bW w0 T) a.defers .returning w
 rw [h.defers]
 have s2:=s.putObj j hj (.deferred none)
 refine ⟨by simp,.inl ⟨D,_,rfl,run_takeDeferred (s.get j hj),?_⟩⟩
 have hp':a.tmps[p]?.getD undef=.pointer (some ⟨b,0,none⟩):=by simpa using h.holds p _ hp
 have hq':a.tmps[q]?.getD undef=.pointer (some ⟨b',0,none⟩):=by simpa using h.holds q _ hq
 have hc:(w.putObj D (.deferred none)).cell? ⟨b,0,none⟩=some V:=by rw [cell_of_row _ b 0 C u (0,0) (s2.get i hij)];exact hC
 have hc2:(w.putObj D (.deferred none)).cell? ⟨b',0,none⟩=some U:=by rw [cell_of_row _ b' 0 C' u' (0,0) (s2.get i' hij')];exact hC2
 refine ⟨.tuple #[V,U],?_,_,rfl,hT _ s2,s2.ext⟩
 simp [results,hres,hp',hq',asAddr,dK ho _ _ hc,dK ho2 _ _ hc2]
theorem F0 {T:cX} {p q:Tmp} {b b':Nat} {C C':Array Value} {V U:Value} {t t' u u':TypeId} (i i':Nat) (hres:fn.results=#[.cell p t,.cell q t']) (h:Sl N a L) (s:St w0 B w) (ho:One P t) (ho2:One P t')
 (hp:lk L p=some (.pointer (some ⟨b,0,none⟩))) (hq:lk L q=some (.pointer (some ⟨b',0,none⟩)))
 (hi:B[i]? = some (.blk b (.cells C u))) (hi':B[i']? = some (.blk b' (.cells C' u')))
 (hC:C[0]? = some V) (hC2:C'[0]? = some U) (hT:T (.tuple #[V,U]) w):bodyPostM (FR none) 0 P fn (bW w0 T) .ret a w:=by
 show LeavesInM (FR none) 0 P fn a.tmps (bW w0 T) a.defers .returning w
 rw [h.defers]
 have hp':a.tmps[p]?.getD undef=.pointer (some ⟨b,0,none⟩):=by simpa using h.holds p _ hp
 have hq':a.tmps[q]?.getD undef=.pointer (some ⟨b',0,none⟩):=by simpa using h.holds q _ hq
 have hc:w.cell? ⟨b,0,none⟩=some V:=by rw [cell_of_row _ b 0 C u (0,0) (s.get i hi)];exact hC
 have hc2:w.cell? ⟨b',0,none⟩=some U:=by rw [cell_of_row _ b' 0 C' u' (0,0) (s.get i' hi')];exact hC2
 refine ⟨.tuple #[V,U],?_,_,rfl,hT,s.ext⟩
 simp [results,hres,hp',hq',asAddr,dK ho _ _ hc,dK ho2 _ _ hc2]
theorem xP {T:cX} {p q r:Tmp} {b b' b'' n D:Nat} {C C' C'':Array Value} {V U:Value} {t t' t'' u u' u'':TypeId} (i i' i'' j:Nat) (hres:fn.results=#[.cell p t,.cell q t',.cell r t'']) (h:Sl N a L [{target:=.collected D,args:=#[]}]) (s:St w0 B w) (hr:Row P t n) (ho:One P t') (ho2:One P t'')
 (hp:lk L p=some (.pointer (some ⟨b,0,none⟩))) (hq:lk L q=some (.pointer (some ⟨b',0,none⟩))) (hr9:lk L r=some (.pointer (some ⟨b'',0,none⟩)))
 (hj:B[j]? = some (.blk D (.deferred (some [])))) (hij:(B.set j (.blk D (.deferred none)))[i]? = some (.blk b (.cells C u))) (hij':(B.set j (.blk D (.deferred none)))[i']? = some (.blk b' (.cells C' u'))) (hij2:(B.set j (.blk D (.deferred none)))[i'']? = some (.blk b'' (.cells C'' u'')))
 (hn:C.size=n) (hC:C'[0]? = some V) (hC2:C''[0]? = some U) (hT:∀ w',St w0 (B.set j (.blk D (.deferred none))) w'->T (.tuple #[.agg C,V,U]) w'):bodyPostM (FR none) 0 P fn (bW w0 T) .ret a w:=by
 show LeavesInM (FR none) 0 P fn a.tmps (bW w0 T) a.defers .returning w
 rw [h.defers]
 have s2:=s.putObj j hj (.deferred none)
 refine ⟨by simp,.inl ⟨D,_,rfl,run_takeDeferred (s.get j hj),?_⟩⟩
 have hp':a.tmps[p]?.getD undef=.pointer (some ⟨b,0,none⟩):=by simpa using h.holds p _ hp
 have hq':a.tmps[q]?.getD undef=.pointer (some ⟨b',0,none⟩):=by simpa using h.holds q _ hq
 have hr':a.tmps[r]?.getD undef=.pointer (some ⟨b'',0,none⟩):=by simpa using h.holds r _ hr9
 have hc:(w.putObj D (.deferred none)).cell? ⟨b',0,none⟩=some V:=by rw [cell_of_row _ b' 0 C' u' (0,0) (s2.get i' hij')];exact hC
 have hc2:(w.putObj D (.deferred none)).cell? ⟨b'',0,none⟩=some U:=by rw [cell_of_row _ b'' 0 C'' u'' (0,0) (s2.get i'' hij2)];exact hC2
 refine ⟨.tuple #[.agg C,V,U],?_,_,rfl,hT _ s2,s2.ext⟩
 simp [results,hres,hp',hq',hr',asAddr,eo hr _ b C u (0,0) (s2.get i hij) hn,dK ho _ _ hc,dK ho2 _ _ hc2]
end
structure Nt where
 k:Int
 tm:Int
 no:Int
 wa:Int
 le:Int
 tr:Tg
 d:ByteArray
 y:Int
deriving DecidableEq
def naL (k tm no wa le:Int) (t:Tg) (d:ByteArray) (y:Int):List Value:=.int .i64 k::.int .i64 tm::.int .i64 no::.int .i64 wa::.int .i64 le::(qB t++[.string d,.int .i64 y])
section
variable (k tm no wa le:Int) (t:Tg) (d e:ByteArray) (y:Int)
end
def naX (x:Nt):List Value:=naL x.k x.tm x.no x.wa x.le x.tr x.d x.y
def dB (l:List Nt):List Value:=l.flatMap naX
structure Ac where
 k:Int
 no:Int
 tO:Int
 n:Int
 i:Id
 l:List eA
 d:ByteArray
def WE (a:Ac) (v:Value):List Value:=.int .i64 a.k::.int .i64 a.no::.int .i64 a.tO::.int .i64 a.n::((aJ a.i).toList++[v,.string a.d])
def fb (a:Ac) (v:Value):Array Value:=(WE a v).toArray
theorem PU (a:Ac) (v:Value):(WE a v).length=38:=by simp only [WE,at5,aq7,QR,at6]
theorem CD (a:Ac) (v:Value):(fb a v).size=38:=by simp only [fb,List.size_toArray,PU]
section
variable (a:Ac) (v:Value)
theorem ag6:(fb a v)[0]? = some (.int .i64 a.k):=rfl
theorem ai8:(fb a v)[3]? = some (.int .i64 a.n):=rfl
end
def acZ:List (List Value):=[[.int .i64 0],[.int .i64 0],[.int .i64 0],[.int .i64 0],List.replicate 32 (.int .u8 0),[.slice none 0 0],[.string ByteArray.empty]]
end Go.Proofs.YthmlflaiidhoiaaGreatDoor
namespace Go.Proofs.YthmlflaiidhoiaaGreatDoor
open Go.RowKit Go.ChangeShapes Go.WideShapes Go.ChangeAt
theorem It {H α:Type} {enc:TypeId × Value->H} {P:Program} {W:World} {ts t:TypeId} {fuel:Nat} {cs:List Value} {x:DataW H × List MemPlace} (C:α->Array Value) (sz:Nat) (h0:0<sz) (hC:∀ a,(C a).size=sz) (z:α) (Q:α->Prop)
 (hts:P.underlying ts=some (.slice t)) (hct:P.cellsOf t=sz) (op:∀ (fuel:Nat) (cs:List Value) (x:DataW H × List MemPlace),DataW.trod enc P W 0 (λ_=>true) true fuel t cs=some x->∃ l:α,cs=(C l).toList/\Q l)
 (hf:DataW.trod enc P W 0 (λ_=>true) true fuel ts cs=some x):∃ (v:Value) (ls:List α),cs=[v]/\a7 W v sz ls.length (ls.flatMap λa=>(C a).toList)/\∀ x∈ls,Q x:=by
 rcases Go.Deep.open_slice hts hf with ⟨hcs,_⟩|⟨a',len,cap,m,k,D,Pl,hcs,_,hl,_,hm,_,hel⟩
 ·exact ⟨_,[],hcs,⟨by simp,.inl ⟨rfl,rfl⟩⟩,λx h=>by cases h⟩
 ·have hml:len<=m:=by rw [hm];split<;>omega
  have each:∀ i,∃ l:α,i<len->aX W (a'.add (i*sz)) (C l)/\Q l:=λi=>by
   by_cases hi:i<len
   ·obtain ⟨cs',hc1,hc2⟩:=hel i (by omega)
    obtain ⟨l,rfl,hq⟩:=op _ _ _ hc2
    refine ⟨l,λ_=>⟨λj u hj=>?_,hq⟩⟩
    rw [hct] at hc1
    obtain ⟨_,hlen,hall⟩:=World.cells?_some hc1
    have hj34:j<sz:=by have:=(ax1.1 hj).1;rw [hC] at this;exact this
    have:=hall j hj34
    rw [this,aw9];exact hj
   ·exact ⟨z,λh9=>ax7 h9 hi⟩
  obtain ⟨L,hL⟩:=Classical.axiomOfChoice each
  refine ⟨_,(List.range len).map L,hcs,⟨?_,.inr ⟨a',cap,by simp,by simpa using hl,?_⟩⟩,λx hx=>?_⟩
  ·exact f7 _ sz (λa=>by rw [ar2,hC]) _
  ·refine oq _ sz h0 (λx=>by rw [ar2,hC]) _ λi hi=>?_
   have hi':i<len:=by simpa using hi
   have:=(hL i hi').1
   simpa using this
  ·obtain ⟨j,hj,rfl⟩:=au9.1 hx
   exact(hL j (ar7.1 hj)).2
structure Wd where
 ov:List Nd
 sv:List Sv
 ho:List Ho
 ml:Ml
def A7:Wd:=⟨[],[],[],Ll⟩
abbrev V2:=Sv × Value
abbrev H4:=Ho × Value × Value × Value
def dA:V2:=(kP,aq)
def dy:H4:=(EU,aq,aq,aq)
structure Wx where
 L:List N3
 S:List V2
 H:List H4
 M:Ml
def mB:Wx:=⟨[],[],[],Ll⟩
def Zh (vo vs vh vl:Value) (la nw:Int):List Value:=[vo,vs,vh,vl,.int .i64 la,.int .i64 nw]
def cY (vo vs vh vl:Value) (la nw:Int):Array Value:=(Zh vo vs vh vl la nw).toArray
theorem bo (vo vs vh vl:Value) (la nw:Int):(cY vo vs vh vl la nw).size=6:=rfl
theorem gY {vo vs vh vl:Value} (la nw:Int) (h1:vo.oneCell'=true) (h2:vs.oneCell'=true) (h3:vh.oneCell'=true) (h4:vl.oneCell'=true):∀ u∈(cY vo vs vh vl la nw).toList,u.oneCell'=true:=λu hu=>by
 have hu:u∈Zh vo vs vh vl la nw:=hu
 unfold Zh at hu
 simp only [ar6,ar9,or_false] at hu
 rcases hu with rfl|rfl|rfl|rfl|rfl|rfl<;>first|assumption|rfl
section
variable (vo vs vh vl:Value) (la nw:Int)
theorem LB:(cY vo vs vh vl la nw).extract 0 (0+1)=#[vo]:=rfl
theorem AJ:(cY vo vs vh vl la nw)[0]? = some vo:=rfl
theorem wK:(cY vo vs vh vl la nw)[1]? = some vs:=rfl
theorem F9:(cY vo vs vh vl la nw)[2]? = some vh:=rfl
theorem ag9:(cY vo vs vh vl la nw).extract 3 (3+3)=#[vl,.int .i64 la,.int .i64 nw]:=rfl
theorem NS:(cY vo vs vh vl la nw)[3]? = some vl:=rfl
theorem Yc:(cY vo vs vh vl la nw)[5]? = some (.int .i64 nw):=rfl
end
def wdZ:List (List Value):=[[.slice none 0 0],[.slice none 0 0],[.slice none 0 0],[.slice none 0 0,.int .i64 0,.int .i64 0]]
def Wa (x:V2):List Value:=ZR x.1.no x.1.sec x.2
theorem xW (x:V2):(Wa x).length=3:=rfl
def bM (l:List V2):List Value:=l.flatMap Wa
theorem Z8 {l:List V2} {j:Nat} (hj:j<l.length):l[j]=l.getD j dA:=by rw [as6,aq8 hj];rfl
theorem JB (l:List V2) (j:Nat) (hj:j<l.length):(((bM l).drop (j*3)).take 3).toArray=gx (l.getD j dA).1.no (l.getD j dA).1.sec (l.getD j dA).2:=by
 unfold bM
 rw [fS _ 3 xW l j hj,Z8 hj];rfl
theorem fO {l:List V2} {j:Nat} (hj:j<l.length):l.getD j dA∈l:=by rw [← Z8 hj];exact aw0 hj
def Mm (x:H4):List Value:=Yh x.1.no x.1.gt x.2.1 x.2.2.1 x.2.2.2
theorem kq (x:H4):(Mm x).length=5:=rfl
def bC (l:List H4):List Value:=l.flatMap Mm
theorem ZP {l:List H4} {j:Nat} (hj:j<l.length):l[j]=l.getD j dy:=by rw [as6,aq8 hj];rfl
theorem LA (l:List H4) (j:Nat) (hj:j<l.length):(((bC l).drop (j*5)).take 5).toArray=cB (l.getD j dy).1.no (l.getD j dy).1.gt (l.getD j dy).2.1 (l.getD j dy).2.2.1 (l.getD j dy).2.2.2:=by
 unfold bC
 rw [fS _ 5 kq l j hj,ZP hj];rfl
theorem d8 {l:List H4} {j:Nat} (hj:j<l.length):l.getD j dy∈l:=by rw [← ZP hj];exact aw0 hj
structure RdW (w:World) (vo vs vh vl:Value) (X:Wx):Prop where
 ov:qC w vo X.L
 sv:a7 w vs 3 X.S.length (bM X.S)
 sw:∀ x∈X.S,ma w x.2 x.1.tb
 ho:a7 w vh 5 X.H.length (bC X.H)
 hw:∀ x∈X.H,EV w x.2.1 x.2.2.1 x.2.2.2 x.1
 ml:a7 w vl 4 X.M.l.length (ck X.M.l)
theorem RdW.keep {w w':World} {vo vs vh vl:Value} {X:Wx} (h:RdW w vo vs vh vl X) (e:Ext w w'):RdW w' vo vs vh vl X:=
 ⟨⟨h.ov.1.keep e,λx hx=>⟨(h.ov.2 x hx).1.keep e,(h.ov.2 x hx).2.keep e⟩⟩,h.sv.keep e,λx hx=>(h.sw x hx).keep e,h.ho.keep e,λx hx=>⟨(h.hw x hx).1.keep e,(h.hw x hx).2.1.keep e,(h.hw x hx).2.2.keep e⟩,h.ml.keep e⟩
def aM (X:Wx):Wd:=⟨nds X.L,X.S.map (·.1),X.H.map (·.1),X.M⟩
theorem c7 (w:World):RdW w aq aq aq aq mB:=
 ⟨⟨⟨rfl,.inl ⟨rfl,rfl⟩⟩,λ_ h=>(by cases h)⟩,⟨rfl,.inl ⟨rfl,rfl⟩⟩,λ_ h=>(by cases h),⟨rfl,.inl ⟨rfl,rfl⟩⟩,λ_ h=>(by cases h),⟨rfl,.inl ⟨rfl,rfl⟩⟩⟩
def pD (i:Id):Bool:=(List.range 16).all λk=>decide (bA i (k+16)=255)
def qy (W:Wd) (k:Nat):Bool:=cU (W.sv.getD k kP) && (decide ((W.sv.getD k kP).no=(W.ov.getD k zN).me.1) && pD (W.ov.getD k zN).me.2)
def xR (l:List Ho) (k:Nat):Bool:=cp (l.getD k EU) && !(decide (0<k) && decide ((l.getD k EU).no<=(l.getD (k - 1) EU).no))
def bN (W:Wd):Bool:=iv (cS W.ov) && (bU W.ml && (decide (W.sv.length=W.ov.length) && ((List.range W.sv.length).all (qy W) && (List.range W.ho.length).all (xR W.ho))))
structure Wr where
 w:Wd
 n:List Nt
 e:Int
def dM (e:Int):Wr:=⟨A7,[],e⟩
def fc (W:Wd):Wr:=⟨W,[],0⟩
def zf {α:Type} (f:α->Int) (z:α) (l:List α) (n:Int):α:=(l.find? λx=>decide (f x=n)).getD z
def fZ {α:Type} (f:α->Int) (l:List α) (x:α):List α:=(l.filter λy=>decide (f y<f x))++x::l.filter λy=>decide (f x<f y)
def Q3 {α:Type} (f:α->Int) (l:List α) (n:Int):List α:=l.filter λy => !decide (f y=n)
def noS:Sv:=⟨-1,ByteArray.empty,[]⟩
def noH:Ho:=⟨-1,0,[],[],[]⟩
def ic (W:Wd) (n:Int):Sv:=zf (·.no) noS W.sv n
def bP (W:Wd) (n:Int):Ho:=zf (·.no) noH W.ho n
def fG (W:Wd) (s:Sv):Wd:={W with sv:=fZ (·.no) W.sv s}
def dZ (W:Wd) (h:Ho):Wd:={W with ho:=fZ (·.no) W.ho h}
structure Pt where
 w:Wd
 n:List Nt
 no:Int
def fI (t:Pt) (x:Nt):Pt:=⟨t.w,t.n++[{x with tm:=t.w.ml.now}],t.no⟩
def EC (no wa y:Int):Nt:=⟨5,0,no,wa,0,cr,ByteArray.empty,y⟩
def WC (m:Mg):eA:=m.l.getD 0 (0,0#256,0)
def ZK (m:Mg):Bool:=kz m || (decide (m.k=1) && decide ((WC m).1=1))
def BW (m:Mg):Id:=bif decide (m.k=1) then (WC m).2.1 else m.i
def Sy (W:Wd) (fr:Int) (s:Se):Int:=bif decide (s.1<0) then VW (cS W.ov) (BW s.2.1) fr 16 else 0
def RQ (W:Wd) (fr:Int) (s:Se):Int:=bif decide (s.1<0) then (MI (cS W.ov) (BW s.2.1) fr 16).1 else s.1
def rg (W:Wd) (fr:Int) (s:Se):Int:=bif decide (Sy W fr s=0) then gz W.ml fr (RQ W fr s) (eH s.2.1) else Sy W fr s
def dO (t:Pt) (fr:Int) (s:Se):Pt:=
 bif decide (rg t.w fr s=0) then ⟨{t.w with ml:=JH t.w.ml fr (RQ t.w fr s) (eH s.2.1)},t.n,KU t.w.ml fr (RQ t.w fr s) (eH s.2.1)⟩
 else fI ⟨t.w,t.n,0⟩ (EC fr 0 (rg t.w fr s))
def io (t:Pt) (fr:Int) (l:List Se):Pt:=l.foldl (λt s=>dO t fr s) t
def onN (no wa le:Int) (tr:Tg):Nt:=⟨3,0,no,wa,le,tr,ByteArray.empty,0⟩
def Fu (t:Pt) (fr no wa:Int) (s:Se):Pt:=bif decide (0<(dO t fr s).no) && decide (s.2.1.k=1) then fI (dO t fr s) (onN no wa (dO t fr s).no s.2.2) else dO t fr s
def pZ (t:Pt) (fr no wa:Int) (l:List Se):Pt:=l.foldl (λt s=>Fu t fr no wa s) t
def g8 (t:Pt):Wr:=⟨t.w,t.n,0⟩
def mR (W:Wd) (x:Lt) (y:Int):Wr:=g8 (fI ⟨W,[],0⟩ (EC x.2.2.1 x.1 y))
def vU (no:Int) (tr:Tg):Nt:=⟨2,0,no,0,0,tr,ByteArray.empty,0⟩
def uK (no wa:Int) (d:ByteArray):Nt:=⟨4,0,no,wa,0,cr,d,0⟩
noncomputable def rX (W:Wd) (s:Sv) (x:Lt) (m:Mg):Wr:=
 bif !decide ((dY s x.2.1 m W.ml.now).e=0) then mR W x (dY s x.2.1 m W.ml.now).e else
 g8 (pZ (bif decide (0<(dY s x.2.1 m W.ml.now).l.length) && decide (((dY s x.2.1 m W.ml.now).l.getD 0 RG).2.1.k=5) then fI ⟨fG W (dY s x.2.1 m W.ml.now).s,[],0⟩ (vU s.no (nl m W.ml.now)) else ⟨fG W (dY s x.2.1 m W.ml.now).s,[],0⟩) s.no s.no x.1 (dY s x.2.1 m W.ml.now).l)
noncomputable def uI (W:Wd) (s:Sv) (x:Lt) (m:Mg):Wr:=
 bif ZK m then (bif !decide (VW (cS W.ov) (BW m) s.no 16=0) then mR W x (VW (cS W.ov) (BW m) s.no 16) else
  bif !decide ((MI (cS W.ov) (BW m) s.no 16).1=s.no) then g8 (Fu ⟨W,[],0⟩ x.2.1 s.no x.1 ((MI (cS W.ov) (BW m) s.no 16).1,m,cr)) else rX W s x m) else rX W s x m
def uH (W:Wd) (h:Ho) (x:Lt) (m:Mg):Wr:=
 bif !decide ((eD h x.2.1 m W.ml.now).e=0) then mR W x (eD h x.2.1 m W.ml.now).e else
 g8 (io (bif decide (m.k=1) then fI ⟨dZ W (eD h x.2.1 m W.ml.now).h,[],0⟩ (uK h.no x.1 m.d) else ⟨dZ W (eD h x.2.1 m W.ml.now).h,[],0⟩) x.2.2.1 (eD h x.2.1 m W.ml.now).l)
noncomputable def uE (W:Wd) (x:Lt):Wr:=
 bif !decide (Bu x.2.2.2=0) then mR W x 4 else
 bif decide (0<=(ic W x.2.2.1).no) then uI W (ic W x.2.2.1) x (Ag x.2.2.2) else
 bif decide (16<=x.2.2.1) && decide (0<=(bP W (x.2.2.1 - 16)).no) then uH W (bP W (x.2.2.1 - 16)) x (Ag x.2.2.2) else mR W x 10
def zr (W:Wd) (a:Ac):Mb:=xC (bV W.ov) a.i
def Fh (W:Wd) (a:Ac):Int:=bif decide (64<a.d.size) || !pD a.i then 1 else R4 (cS W.ov) (a.no,a.i) (zr W a).1
def Ui (W:Wd) (a:Ac):List Nd:=KS (cS W.ov) (a.no,a.i) (zr W a).1
def F1 (W:Wd) (a:Ac):Id:=(oI (bV (Ui W a)) (a.no,a.i)).2
def pG (W:Wd) (a:Ac):Sv:=ic W (zr W a).1
def pv (W:Wd) (a:Ac):Wr:=
 bif !decide (Fh W a=0) then dM (Fh W a) else
 bif decide (0<W.ov.length) then fc {fG (fG W ⟨(pG W a).no,(pG W a).sec,We (pG W a).tb (F1 W a) a.i false⟩) ⟨a.no,a.d,We (pG W a).tb (F1 W a) a.i true⟩ with ov:=Ui W a}
 else fc {fG W ⟨a.no,a.d,[]⟩ with ov:=Ui W a}
def sD (W:Wd) (n:Int):List Sv:=Q3 (·.no) W.sv n
def pA (W:Wd) (n:Int):Wr:=
 bif !decide (cE (cS W.ov) n=0) then dM (cE (cS W.ov) n) else
 bif decide (1<W.ov.length) then fc {fG {W with sv:=sD W n} (SI (ic W (fV (bV W.ov) (ii W.ov n).me).1) (ic W n).tb) with ov:=qh W.ov n}
 else fc {W with sv:=sD W n,ov:=qh W.ov n}
def pM (W:Wd) (n:Int):Wr:=bif !decide (cE (cS W.ov) n=0) then dM (cE (cS W.ov) n) else fc {W with sv:=sD W n,ov:=iC W.ov n}
def Cg (W:Wd):Wr:=fc {W with ov:=nL W.ov}
def zI (W:Wd) (n:Int):Wr:=bif decide (eJ W.ml n=0) then fc {W with ml:=cW W.ml n} else dM (eJ W.ml n)
def pU (W:Wd) (n g:Int):Wr:=bif !decide (yL n g=0) then dM (yL n g) else bif decide (0<=(bP W n).no) then dM 7 else fc (dZ W (wo n g))
def pH (W:Wd) (a:Ac):Wr:=bif decide ((bP W a.no).no<0) then dM 6 else bif decide (oT (bP W a.no) a.i a.n=0) then fc (dZ W (xw (bP W a.no) a.i a.n)) else dM (oT (bP W a.no) a.i a.n)
def pT (W:Wd) (a:Ac):Wr:=bif decide ((bP W a.no).no<0) then dM 6 else bif decide (qU (bP W a.no) a.i=0) then fc (dZ W (zQ (bP W a.no) a.i)) else dM (qU (bP W a.no) a.i)
def p8 (W:Wd) (n:Int):Wr:=bif decide ((bP W n).no<0) then dM 6 else g8 (io ⟨W,[],0⟩ (16+n) (I6 (bP W n) W.ml.now))
def ra (no le:Int) (d:ByteArray):Nt:=⟨1,0,no,0,le,cr,d,0⟩
def dJ (W:Wd) (a:Ac):Pt:=dO ⟨W,[],0⟩ (16+a.no) (J0 (bP W a.no) a.l a.d W.ml.now)
def pO (W:Wd) (a:Ac):Wr:=bif decide ((bP W a.no).no<0) then dM 6 else bif !decide (yz (bP W a.no) a.l a.d W.ml.now=0) then dM (yz (bP W a.no) a.l a.d W.ml.now) else
 bif decide (0<(dJ W a).no) then g8 (fI (dJ W a) (ra a.no (dJ W a).no a.d)) else g8 (dJ W a)
def Bz (a:Ac):Mg:=⟨2,a.i,a.l.getD 0 (0,0#256,0),[],a.n,ByteArray.empty,ByteArray.empty⟩
def pL (W:Wd) (a:Ac):Wr:=bif decide ((bP W a.no).no<0) then dM 6 else
 bif decide (a.l.length=1) && (decide ((a.l.getD 0 (0,0#256,0)).1=1) && (dw a.l && gh a.n 1 1048576)) then g8 (dO ⟨W,[],0⟩ (16+a.no) ((bP W a.no).gt,Bz a,cr)) else dM 1
def X8 (W:Wd) (n:Int):Wr:=bif decide (MT W.ml n=0) then fc {W with ml:=XU W.ml n} else dM (MT W.ml n)
def Xb (W:Wd) (n:Int):Wr:=bif decide (mo W.ml n=0) then fc {W with ml:=lu W.ml n} else dM (mo W.ml n)
def Wg (W:Wd) (n:Int):Wr:=bif decide (mo W.ml n=0) then fc {W with ml:=yE W.ml n} else dM (mo W.ml n)
noncomputable def pz (W:Wd) (n:Int):Wr:=bif decide (mo W.ml n=0) then uE {W with ml:=lu W.ml n} (Rx W.ml n) else dM (mo W.ml n)
noncomputable def np (W:Wd) (a:Ac):Nat->Wr
 |1=>pv W a|2=>pA W a.no|3=>pM W a.no|4=>Cg W|5=>zI W a.n|6=>pU W a.no a.tO|7=>pH W a|8=>pT W a|9=>p8 W a.no|10=>pO W a
 |11=>pz W a.n|12=>X8 W a.n|13=>Xb W a.n|14=>Wg W a.n|15=>pL W a|_=>dM 1
noncomputable def bY (W:Wd) (a:Ac):Wr:=bif bN W && (decide (1<=a.k) && decide (a.k<=15)) then np W a a.k.toNat else dM 1
def WA (w:World) (vo vs vh vl:Value) (X:Wx) (va:Value) (l:List eA) (R:Wr):cX:=λv w'=>∃ uo us uh ul un Y ks,v=.tuple #[.agg (cY uo us uh ul Y.M.last Y.M.now),un,.int .i64 R.e]/\aM Y=R.w/\
 St w [.grp ks λw9=>RdW w9 vo vs vh vl X->Co w9 va l->RdW w9 uo us uh ul Y/\a7 w9 un 74 R.n.length (dB R.n)] w'
theorem ta {H α:Type} {enc:TypeId × Value->H} {P:Program} {W:World} {ts t:TypeId} {fuel:Nat} {cs:List Value} {x:DataW H × List MemPlace} (C:α->Array Value) (sz:Nat) (h0:0<sz) (hC:∀ a,(C a).size=sz) (z:α) (Q:α->Prop)
 (hts:P.underlying ts=some (.slice t)) (hct:P.cellsOf t=sz) (op:∀ (fuel:Nat) (cs:List Value) (x:DataW H × List MemPlace),DataW.trod enc P W 0 (λ_=>true) true fuel t cs=some x->∃ l:α,cs=(C l).toList/\Q l)
 (hf:DataW.trod enc P W 0 (λ_=>true) true fuel ts cs=some x):∃ (v:Value) (ls:List α),cs=[v]/\a7 W v sz ls.length (ls.flatMap λa=>(C a).toList)/\(∀ x∈ls,Q x)/\ls.length<=maxLen:=by
 obtain ⟨v,ls,h1,h2,h3⟩:=It C sz h0 hC z Q hts hct op hf
 refine ⟨v,ls,h1,h2,h3,?_⟩
 rcases Go.Deep.open_slice hts hf with ⟨hcs,_⟩|⟨a',len,cap,m,k,D,Pl,hcs,_,hl,hcap,_⟩
 ·rcases h2.2 with ⟨_,h9⟩|⟨p,c,h9,_⟩
  ·rw [h9];exact as3 _
  ·rw [h1] at hcs
   rw [h9] at hcs
   simp at hcs
 ·rw [h1] at hcs
  obtain rfl:=(List.cons.inj hcs).1
  rcases h2.2 with ⟨h9,_⟩|⟨p,c,h9,_⟩
  ·cases h9
  ·have e:=(Value.slice.inj h9).2.1
   omega
theorem CR {cs:List Value} {a b c d e:Value} (hl:cs.length=5) (h0:(cs.drop 0).take 1=[a]) (h1:(cs.drop 1).take 1=[b]) (h2:(cs.drop 2).take 1=[c]) (h3:(cs.drop 3).take 1=[d]) (h4:(cs.drop 4).take 1=[e]):cs=[a,b,c,d,e]:=by
 match cs,hl with
 |[x,y,z,u,v],_=>simp at h0 h1 h2 h3 h4;subst h0;subst h1;subst h2;subst h3;subst h4;rfl
theorem P2 {cs:List Value} {a b c d e f:Value} (hl:cs.length=6) (h0:(cs.drop 0).take 1=[a]) (h1:(cs.drop 1).take 1=[b]) (h2:(cs.drop 2).take 1=[c]) (h3:(cs.drop 3).take 3=[d,e,f]):cs=[a,b,c,d,e,f]:=by
 match cs,hl with
 |[x,y,z,u,v,w],_=>simp at h0 h1 h2 h3;obtain ⟨rfl,rfl,rfl⟩:=h3;subst h0;subst h1;subst h2;rfl
theorem Kl {H:Type} {enc:TypeId × Value->H} {P:Program} {W:World} {ti e tn tz tb tsb td tsd to:TypeId} {b0 b1 d0 d1 d2 d3 q0:Field} {fuel:Nat} {cs:List Value} {x:DataW H × List MemPlace} (T:IdTy P ti e) (hc:P.cellsOf ti=32) (hce:P.cellsOf e=1) (hn:P.underlying tn=some (.int .i64)) (hcn:P.cellsOf tn=1) (hz:P.underlying tz=some .string) (hcz:P.cellsOf tz=1) (hb:P.underlying tb=some (.struct #[b0,b1])) (hb0:b0.type=tn) (hb1:b1.type=ti) (ob0:b0.offset=0) (ob1:b1.offset=1) (hcb:P.cellsOf tb=33) (htsb:P.underlying tsb=some (.slice tb)) (hcsb:P.cellsOf tsb=1) (hd:P.underlying td=some (.struct #[d0,d1,d2,d3])) (hd0:d0.type=tb) (Ex:d1.type=tb) (hd2:d2.type=tsb) (hd3:d3.type=tsb) (od0:d0.offset=0) (od1:d1.offset=33) (od2:d2.offset=66) (od3:d3.offset=67) (hcd:P.cellsOf td=68) (htsd:P.underlying tsd=some (.slice td)) (hcsd:P.cellsOf tsd=1) (hto:P.underlying to=some (.struct #[q0])) (xO:q0.type=tsd) (oq0:q0.offset=0) (hcto:P.cellsOf to=1) (hf:DataW.trod enc P W 0 (λ_=>true) true fuel to cs=some x):∃ (v:Value) (L:List N3),cs=[v]/\qC W v L/\L.length<=maxLen:=by
 obtain ⟨xs,n,hcells,_,hl,hxl,hel⟩:=DataW.trod_struct hto hf
 have hcl:cs.length=1:=by rw [← hcto];simpa using hl
 have hx1:xs.length=1:=by simpa using hxl
 have e0:=hel 0 q0 rfl
 rw [xO,oq0,hcsd,aq8 (by omega)] at e0
 obtain ⟨u,L,hu,hL,hL2,hL3⟩:=ta (λy:N3=>aR y.1.me y.1.pr y.2.1 y.2.2) 68 (by decide) (λy=>ao ..) z3 (λy=>CW W y) htsd hcd (λ_ _ _ h=>I8 T hc hce hn hcn hcsb htsb hb hb0 hb1 ob0 ob1 hcb hd hd0 Ex hd2 hd3 od0 od1 od2 od3 hcd h) e0
 refine ⟨u,L,?_,⟨hL,hL2⟩,hL3⟩
 rw [List.drop_zero,as9 (by omega)] at hu
 exact hu
theorem KB {H:Type} {enc:TypeId × Value->H} {P:Program} {W:World} {ti e tn tz tl tsl ty:TypeId} {l0 l1 l2 l3 y0 y1 y2:Field} {fuel:Nat} {cs:List Value} {x:DataW H × List MemPlace} (T:IdTy P ti e) (hc:P.cellsOf ti=32) (hce:P.cellsOf e=1) (hn:P.underlying tn=some (.int .i64)) (hcn:P.cellsOf tn=1) (hz:P.underlying tz=some .string) (hcz:P.cellsOf tz=1) (hl:P.underlying tl=some (.struct #[l0,l1,l2,l3])) (hl0:l0.type=tn) (hl1:l1.type=tn) (hl2:l2.type=tn) (hl3:l3.type=tz) (ol0:l0.offset=0) (ol1:l1.offset=1) (ol2:l2.offset=2) (ol3:l3.offset=3) (hcl:P.cellsOf tl=4) (htsl:P.underlying tsl=some (.slice tl)) (hcsl:P.cellsOf tsl=1) (hy:P.underlying ty=some (.struct #[y0,y1,y2])) (hy0:y0.type=tsl) (hy1:y1.type=tn) (hy2:y2.type=tn) (oy0:y0.offset=0) (oy1:y1.offset=1) (oy2:y2.offset=2) (hcy:P.cellsOf ty=3) (hf:DataW.trod enc P W 0 (λ_=>true) true fuel ty cs=some x):∃ (v:Value) (m:Ml),cs=[v,.int .i64 m.last,.int .i64 m.now]/\a7 W v 4 m.l.length (ck m.l):=by
 obtain ⟨xs,n,hcells,_,hl9,hxl,hel⟩:=DataW.trod_struct hy hf
 have hcl9:cs.length=3:=by rw [← hcy];simpa using hl9
 have hx3:xs.length=3:=by simpa using hxl
 have e0:=hel 0 y0 rfl
 have e1:=hel 1 y1 rfl
 have e2:=hel 2 y2 rfl
 rw [hy0,oy0,hcsl,aq8 (by omega)] at e0
 rw [hy1,oy1,hcn,aq8 (by omega)] at e1
 rw [hy2,oy2,hcn,aq8 (by omega)] at e2
 obtain ⟨u,ls,hu,hls⟩:=Fl hn hcn hz hcz htsl hl hl0 hl1 hl2 hl3 ol0 ol1 ol2 ol3 hcl e0
 obtain ⟨a,ha,_⟩:=DataW.trod_int hn e1
 obtain ⟨b,hb,_⟩:=DataW.trod_int hn e2
 exact ⟨u,⟨ls,a,b⟩,ue hcl9 hu ha hb,hls⟩
theorem Li {H:Type} {enc:TypeId × Value->H} {P:Program} {W:World} {ti e tn tz te ts tg tm:TypeId} {f0 f1 f2 k0 k1 k2 g0 g1 g2:Field} {fuel:Nat} {cs:List Value} {x:DataW H × List MemPlace} (T:IdTy P ti e) (hc:P.cellsOf ti=32) (hce:P.cellsOf e=1) (hn:P.underlying tn=some (.int .i64)) (hcn:P.cellsOf tn=1) (hz:P.underlying tz=some .string) (hcz:P.cellsOf tz=1) (hte:P.underlying te=some (.struct #[f0,f1,f2])) (h0:f0.type=tn) (h1:f1.type=ti) (h2:f2.type=tn) (o0:f0.offset=0) (o1:f1.offset=1) (o2:f2.offset=33) (hcte:P.cellsOf te=34) (hts:P.underlying ts=some (.slice tg)) (hcs:P.cellsOf ts=1) (htg:P.underlying tg=some (.struct #[k0,k1,k2])) (j0:k0.type=ti) (j1:k1.type=te) (j2:k2.type=tn) (p0:k0.offset=0) (p1:k1.offset=32) (p2:k2.offset=66) (hctg:P.cellsOf tg=67) (htm:P.underlying tm=some (.struct #[g0,g1,g2])) (ht0:g0.type=tn) (ht1:g1.type=tz) (ht2:g2.type=ts) (Q4:g0.offset=0) (ho1:g1.offset=1) (ho2:g2.offset=2) (hctm:P.cellsOf tm=3) (hf:DataW.trod enc P W 0 (λ_=>true) true fuel tm cs=some x):∃ y:V2,cs=(gx y.1.no y.1.sec y.2).toList/\ma W y.2 y.1.tb:=by
 obtain ⟨xs,n,hcells,_,hl,hxl,hel⟩:=DataW.trod_struct htm hf
 have hcl:cs.length=3:=by rw [← hctm];simpa using hl
 have hx3:xs.length=3:=by simpa using hxl
 have e0:=hel 0 g0 rfl
 have e1:=hel 1 g1 rfl
 have e2:=hel 2 g2 rfl
 rw [ht0,Q4,hcn,aq8 (by omega)] at e0
 rw [ht1,ho1,hcz,aq8 (by omega)] at e1
 rw [ht2,ho2,hcs,aq8 (by omega)] at e2
 obtain ⟨k,Fc,_⟩:=DataW.trod_int hn e0
 obtain ⟨d9,hd9,_⟩:=DataW.trod_string hz e1
 obtain ⟨u,ls,hu,hls⟩:=n5 aV 67 (by decide) aN cr hts hctg (λ_ _ _ h=>LK T hc hce hn hcn hte h0 h1 h2 o0 o1 o2 hcte htg j0 j1 j2 p0 p1 p2 hctg h) e2
 exact ⟨(⟨k,d9,ls⟩,u),ue hcl Fc hd9 hu,hls⟩
theorem IC {H:Type} {enc:TypeId × Value->H} {P:Program} {W:World} {ti e tn tz tw tsw th tsh tst tx:TypeId} {a0 a1 c0 c1 c2 x0 x1 x2 x3 x4:Field} {fuel:Nat} {cs:List Value} {x:DataW H × List MemPlace} (T:IdTy P ti e) (hc:P.cellsOf ti=32) (hce:P.cellsOf e=1) (hn:P.underlying tn=some (.int .i64)) (hcn:P.cellsOf tn=1) (hz:P.underlying tz=some .string) (hcz:P.cellsOf tz=1) (hw:P.underlying tw=some (.struct #[a0,a1])) (ha0:a0.type=ti) (ha1:a1.type=tn) (oa0:a0.offset=0) (oa1:a1.offset=32) (hcw:P.cellsOf tw=33) (htsw:P.underlying tsw=some (.slice tw)) (hcsw:P.cellsOf tsw=1) (hh:P.underlying th=some (.struct #[c0,c1,c2])) (hc0:c0.type=ti) (hc1:c1.type=tn) (hc2:c2.type=tn) (oc0:c0.offset=0) (oc1:c1.offset=32) (oc2:c2.offset=33) (hch:P.cellsOf th=34) (htsh:P.underlying tsh=some (.slice th)) (hcsh:P.cellsOf tsh=1) (htst:P.underlying tst=some (.slice tz)) (hcst:P.cellsOf tst=1) (hx:P.underlying tx=some (.struct #[x0,x1,x2,x3,x4])) (hx0:x0.type=tn) (hx1:x1.type=tn) (hx2:x2.type=tsw) (hx3:x3.type=tsh) (hx4:x4.type=tst) (ox0:x0.offset=0) (ox1:x1.offset=1) (ox2:x2.offset=2) (ox3:x3.offset=3) (ox4:x4.offset=4) (hcx:P.cellsOf tx=5) (hf:DataW.trod enc P W 0 (λ_=>true) true fuel tx cs=some x):∃ y:H4,cs=(cB y.1.no y.1.gt y.2.1 y.2.2.1 y.2.2.2).toList/\EV W y.2.1 y.2.2.1 y.2.2.2 y.1:=by
 obtain ⟨xs,n,hcells,_,hl,hxl,hel⟩:=DataW.trod_struct hx hf
 have hcl:cs.length=5:=by rw [← hcx];simpa using hl
 have hx5:xs.length=5:=by simpa using hxl
 have e0:=hel 0 x0 rfl
 have e1:=hel 1 x1 rfl
 have e2:=hel 2 x2 rfl
 have e3:=hel 3 x3 rfl
 have e4:=hel 4 x4 rfl
 rw [hx0,ox0,hcn,aq8 (by omega)] at e0
 rw [hx1,ox1,hcn,aq8 (by omega)] at e1
 rw [hx2,ox2,hcsw,aq8 (by omega)] at e2
 rw [hx3,ox3,hcsh,aq8 (by omega)] at e3
 rw [hx4,ox4,hcst,aq8 (by omega)] at e4
 obtain ⟨k,Fc,_⟩:=DataW.trod_int hn e0
 obtain ⟨k2,hk2,_⟩:=DataW.trod_int hn e1
 obtain ⟨vw,ws,hvw,hws⟩:=n5 dq 33 (by decide) cR iI htsw hcw (λ_ _ _ h=>Kr T hc hce hn hcn hw ha0 ha1 oa0 oa1 hcw h) e2
 obtain ⟨vh,hs,hvh,hhs⟩:=n5 dh 34 (by decide) cP ij htsh hch (λ_ _ _ h=>JF T hc hce hn hcn hh hc0 hc1 hc2 oc0 oc1 oc2 hch h) e3
 obtain ⟨vi,bx,hvi,hbx⟩:=n5 (λa=>#[Value.string a]) 1 (by decide) (λ_=>rfl) ByteArray.empty htst hcz (λ_ _ _ h=>Jh hz h) e4
 rw [Nw] at hbx
 exact ⟨(⟨k,k2,ws,hs,bx⟩,vw,vh,vi),CR hcl Fc hk2 hvw hvh hvi,hws,hhs,hbx⟩
theorem LZ {H:Type} {enc:TypeId × Value->H} {P:Program} {W:World} {ti e tn tz te ts tg tm tb tsb td tsd to tw tsw th tsh tst tx tl tsl ty tW tss tsx:TypeId} {f0 f1 f2 k0 k1 k2 g0 g1 g2 b0 b1 d0 d1 d2 d3 q0 a0 a1 c0 c1 c2 x0 x1 x2 x3 x4 l0 l1 l2 l3 y0 y1 y2 w0 w1 w2 w3:Field} {fuel:Nat} {cs:List Value} {x:DataW H × List MemPlace} (T:IdTy P ti e) (hc:P.cellsOf ti=32) (hce:P.cellsOf e=1) (hn:P.underlying tn=some (.int .i64)) (hcn:P.cellsOf tn=1) (hz:P.underlying tz=some .string) (hcz:P.cellsOf tz=1) (hte:P.underlying te=some (.struct #[f0,f1,f2])) (h0:f0.type=tn) (h1:f1.type=ti) (h2:f2.type=tn) (o0:f0.offset=0) (o1:f1.offset=1) (o2:f2.offset=33) (hcte:P.cellsOf te=34) (hts:P.underlying ts=some (.slice tg)) (hcs:P.cellsOf ts=1) (htg:P.underlying tg=some (.struct #[k0,k1,k2])) (j0:k0.type=ti) (j1:k1.type=te) (j2:k2.type=tn) (p0:k0.offset=0) (p1:k1.offset=32) (p2:k2.offset=66) (hctg:P.cellsOf tg=67) (htm:P.underlying tm=some (.struct #[g0,g1,g2])) (ht0:g0.type=tn) (ht1:g1.type=tz) (ht2:g2.type=ts) (Q4:g0.offset=0) (ho1:g1.offset=1) (ho2:g2.offset=2) (hctm:P.cellsOf tm=3) (hb:P.underlying tb=some (.struct #[b0,b1])) (hb0:b0.type=tn) (hb1:b1.type=ti) (ob0:b0.offset=0) (ob1:b1.offset=1) (hcb:P.cellsOf tb=33) (htsb:P.underlying tsb=some (.slice tb)) (hcsb:P.cellsOf tsb=1) (hd:P.underlying td=some (.struct #[d0,d1,d2,d3])) (hd0:d0.type=tb) (Ex:d1.type=tb) (hd2:d2.type=tsb) (hd3:d3.type=tsb) (od0:d0.offset=0) (od1:d1.offset=33) (od2:d2.offset=66) (od3:d3.offset=67) (hcd:P.cellsOf td=68) (htsd:P.underlying tsd=some (.slice td)) (hcsd:P.cellsOf tsd=1) (hto:P.underlying to=some (.struct #[q0])) (xO:q0.type=tsd) (oq0:q0.offset=0) (hcto:P.cellsOf to=1) (hw:P.underlying tw=some (.struct #[a0,a1])) (ha0:a0.type=ti) (ha1:a1.type=tn) (oa0:a0.offset=0) (oa1:a1.offset=32) (hcw:P.cellsOf tw=33) (htsw:P.underlying tsw=some (.slice tw)) (hcsw:P.cellsOf tsw=1) (hh:P.underlying th=some (.struct #[c0,c1,c2])) (hc0:c0.type=ti) (hc1:c1.type=tn) (hc2:c2.type=tn) (oc0:c0.offset=0) (oc1:c1.offset=32) (oc2:c2.offset=33) (hch:P.cellsOf th=34) (htsh:P.underlying tsh=some (.slice th)) (hcsh:P.cellsOf tsh=1) (htst:P.underlying tst=some (.slice tz)) (hcst:P.cellsOf tst=1) (hx:P.underlying tx=some (.struct #[x0,x1,x2,x3,x4])) (hx0:x0.type=tn) (hx1:x1.type=tn) (hx2:x2.type=tsw) (hx3:x3.type=tsh) (hx4:x4.type=tst) (ox0:x0.offset=0) (ox1:x1.offset=1) (ox2:x2.offset=2) (ox3:x3.offset=3) (ox4:x4.offset=4) (hcx:P.cellsOf tx=5) (hl:P.underlying tl=some (.struct #[l0,l1,l2,l3])) (hl0:l0.type=tn) (hl1:l1.type=tn) (hl2:l2.type=tn) (hl3:l3.type=tz) (ol0:l0.offset=0) (ol1:l1.offset=1) (ol2:l2.offset=2) (ol3:l3.offset=3) (hcl:P.cellsOf tl=4) (htsl:P.underlying tsl=some (.slice tl)) (hcsl:P.cellsOf tsl=1) (hy:P.underlying ty=some (.struct #[y0,y1,y2])) (hy0:y0.type=tsl) (hy1:y1.type=tn) (hy2:y2.type=tn) (oy0:y0.offset=0) (oy1:y1.offset=1) (oy2:y2.offset=2) (hcy:P.cellsOf ty=3) (hW:P.underlying tW=some (.struct #[w0,w1,w2,w3])) (hw0:w0.type=to) (hw1:w1.type=tss) (hw2:w2.type=tsx) (hw3:w3.type=ty) (ow0:w0.offset=0) (ow1:w1.offset=1) (ow2:w2.offset=2) (ow3:w3.offset=3) (hcW:P.cellsOf tW=6) (htss:P.underlying tss=some (.slice tm)) (hcss:P.cellsOf tss=1) (htsx:P.underlying tsx=some (.slice tx)) (hcsx:P.cellsOf tsx=1) (hf:DataW.trod enc P W 0 (λ_=>true) true fuel tW cs=some x):∃ (X:Wx) (vo vs vh vl:Value),cs=Zh vo vs vh vl X.M.last X.M.now/\RdW W vo vs vh vl X/\X.L.length<=maxLen/\X.S.length<=maxLen/\X.H.length<=maxLen:=by
 obtain ⟨xs,n,hcells,_,hl9,hxl,hel⟩:=DataW.trod_struct hW hf
 have hcl9:cs.length=6:=by rw [← hcW];simpa using hl9
 have hxl4:xs.length=4:=by simpa using hxl
 have e0:=hel 0 w0 rfl
 have e1:=hel 1 w1 rfl
 have e2:=hel 2 w2 rfl
 have e3:=hel 3 w3 rfl
 rw [hw0,ow0,hcto,aq8 (by omega)] at e0
 rw [hw1,ow1,hcss,aq8 (by omega)] at e1
 rw [hw2,ow2,hcsx,aq8 (by omega)] at e2
 rw [hw3,ow3,hcy,aq8 (by omega)] at e3
 obtain ⟨vo,L,ho,hL,hbL⟩:=Kl T hc hce hn hcn hz hcz hb hb0 hb1 ob0 ob1 hcb htsb hcsb hd hd0 Ex hd2 hd3 od0 od1 od2 od3 hcd htsd hcsd hto xO oq0 hcto e0
 obtain ⟨vs,S,hs,hS,hS2,hbS⟩:=ta (λy:V2=>gx y.1.no y.1.sec y.2) 3 (by decide) (λy=>dm ..) dA (λy=>ma W y.2 y.1.tb) htss hctm (λ_ _ _ h=>Li T hc hce hn hcn hz hcz hte h0 h1 h2 o0 o1 o2 hcte hts hcs htg j0 j1 j2 p0 p1 p2 hctg htm ht0 ht1 ht2 Q4 ho1 ho2 hctm h) e1
 obtain ⟨vh,Hs,hh9,hH,hH2,hbH⟩:=ta (λy:H4=>cB y.1.no y.1.gt y.2.1 y.2.2.1 y.2.2.2) 5 (by decide) (λy=>rfl) dy (λy=>EV W y.2.1 y.2.2.1 y.2.2.2 y.1) htsx hcx (λ_ _ _ h=>IC T hc hce hn hcn hz hcz hw ha0 ha1 oa0 oa1 hcw htsw hcsw hh hc0 hc1 hc2 oc0 oc1 oc2 hch htsh hcsh htst hcst hx hx0 hx1 hx2 hx3 hx4 ox0 ox1 ox2 ox3 ox4 hcx h) e2
 obtain ⟨vl,m,hm,hM⟩:=KB T hc hce hn hcn hz hcz hl hl0 hl1 hl2 hl3 ol0 ol1 ol2 ol3 hcl htsl hcsl hy hy0 hy1 hy2 oy0 oy1 oy2 hcy e3
 exact ⟨⟨L,S,Hs,m⟩,vo,vs,vh,vl,P2 hcl9 ho hs hh9 hm,⟨hL,hS,hS2,hH,hH2,hM⟩,hbL,hbS,hbH⟩
theorem PF {H:Type} {enc:TypeId × Value->H} {P:Program} {W:World} {r:Reach} {bb:Nat} {v:Value} {d:DataW H} {ps:List MemPlace} {ti e tn tz te ts tg tm tb tsb td tsd to tw tsw th tsh tst tx tl tsl ty tW tss tsx:TypeId} {f0 f1 f2 k0 k1 k2 g0 g1 g2 b0 b1 d0 d1 d2 d3 q0 a0 a1 c0 c1 c2 x0 x1 x2 x3 x4 l0 l1 l2 l3 y0 y1 y2 w0 w1 w2 w3:Field} (T:IdTy P ti e) (hc:P.cellsOf ti=32) (hce:P.cellsOf e=1) (hn:P.underlying tn=some (.int .i64)) (hcn:P.cellsOf tn=1) (hz:P.underlying tz=some .string) (hcz:P.cellsOf tz=1) (hte:P.underlying te=some (.struct #[f0,f1,f2])) (h0:f0.type=tn) (h1:f1.type=ti) (h2:f2.type=tn) (o0:f0.offset=0) (o1:f1.offset=1) (o2:f2.offset=33) (hcte:P.cellsOf te=34) (hts:P.underlying ts=some (.slice tg)) (hcs:P.cellsOf ts=1) (htg:P.underlying tg=some (.struct #[k0,k1,k2])) (j0:k0.type=ti) (j1:k1.type=te) (j2:k2.type=tn) (p0:k0.offset=0) (p1:k1.offset=32) (p2:k2.offset=66) (hctg:P.cellsOf tg=67) (htm:P.underlying tm=some (.struct #[g0,g1,g2])) (ht0:g0.type=tn) (ht1:g1.type=tz) (ht2:g2.type=ts) (Q4:g0.offset=0) (ho1:g1.offset=1) (ho2:g2.offset=2) (hctm:P.cellsOf tm=3) (hb:P.underlying tb=some (.struct #[b0,b1])) (hb0:b0.type=tn) (hb1:b1.type=ti) (ob0:b0.offset=0) (ob1:b1.offset=1) (hcb:P.cellsOf tb=33) (htsb:P.underlying tsb=some (.slice tb)) (hcsb:P.cellsOf tsb=1) (hd:P.underlying td=some (.struct #[d0,d1,d2,d3])) (hd0:d0.type=tb) (Ex:d1.type=tb) (hd2:d2.type=tsb) (hd3:d3.type=tsb) (od0:d0.offset=0) (od1:d1.offset=33) (od2:d2.offset=66) (od3:d3.offset=67) (hcd:P.cellsOf td=68) (htsd:P.underlying tsd=some (.slice td)) (hcsd:P.cellsOf tsd=1) (hto:P.underlying to=some (.struct #[q0])) (xO:q0.type=tsd) (oq0:q0.offset=0) (hcto:P.cellsOf to=1) (hw:P.underlying tw=some (.struct #[a0,a1])) (ha0:a0.type=ti) (ha1:a1.type=tn) (oa0:a0.offset=0) (oa1:a1.offset=32) (hcw:P.cellsOf tw=33) (htsw:P.underlying tsw=some (.slice tw)) (hcsw:P.cellsOf tsw=1) (hh:P.underlying th=some (.struct #[c0,c1,c2])) (hc0:c0.type=ti) (hc1:c1.type=tn) (hc2:c2.type=tn) (oc0:c0.offset=0) (oc1:c1.offset=32) (oc2:c2.offset=33) (hch:P.cellsOf th=34) (htsh:P.underlying tsh=some (.slice th)) (hcsh:P.cellsOf tsh=1) (htst:P.underlying tst=some (.slice tz)) (hcst:P.cellsOf tst=1) (hx:P.underlying tx=some (.struct #[x0,x1,x2,x3,x4])) (hx0:x0.type=tn) (hx1:x1.type=tn) (hx2:x2.type=tsw) (hx3:x3.type=tsh) (hx4:x4.type=tst) (ox0:x0.offset=0) (ox1:x1.offset=1) (ox2:x2.offset=2) (ox3:x3.offset=3) (ox4:x4.offset=4) (hcx:P.cellsOf tx=5) (hl:P.underlying tl=some (.struct #[l0,l1,l2,l3])) (hl0:l0.type=tn) (hl1:l1.type=tn) (hl2:l2.type=tn) (hl3:l3.type=tz) (ol0:l0.offset=0) (ol1:l1.offset=1) (ol2:l2.offset=2) (ol3:l3.offset=3) (hcl:P.cellsOf tl=4) (htsl:P.underlying tsl=some (.slice tl)) (hcsl:P.cellsOf tsl=1) (hy:P.underlying ty=some (.struct #[y0,y1,y2])) (hy0:y0.type=tsl) (hy1:y1.type=tn) (hy2:y2.type=tn) (oy0:y0.offset=0) (oy1:y1.offset=1) (oy2:y2.offset=2) (hcy:P.cellsOf ty=3) (hW:P.underlying tW=some (.struct #[w0,w1,w2,w3])) (hw0:w0.type=to) (hw1:w1.type=tss) (hw2:w2.type=tsx) (hw3:w3.type=ty) (ow0:w0.offset=0) (ow1:w1.offset=1) (ow2:w2.offset=2) (ow3:w3.offset=3) (hcW:P.cellsOf tW=6) (htss:P.underlying tss=some (.slice tm)) (hcss:P.cellsOf tss=1) (htsx:P.underlying tsx=some (.slice tx)) (hcsx:P.cellsOf tsx=1) (hval:Value.okWide P W r bb tW v) (h:DataW.Trod enc P W 0 (λ_=>true) true tW v d ps):∃ (X:Wx) (vo vs vh vl:Value),v=.agg (cY vo vs vh vl X.M.last X.M.now)/\RdW W vo vs vh vl X/\X.L.length<=maxLen/\X.S.length<=maxLen/\X.H.length<=maxLen:=by
 have hv:∃ cs,v=.agg cs:=by
  unfold Value.okWide at hval
  simp only [hW] at hval
  obtain ⟨cs,h9,_⟩:=hval
  exact ⟨cs,h9⟩
 obtain ⟨cs,rfl⟩:=hv
 obtain ⟨fuel,hf⟩:=h
 obtain ⟨X,vo,vs,vh,vl,hcs9,hX⟩:=LZ T hc hce hn hcn hz hcz hte h0 h1 h2 o0 o1 o2 hcte hts hcs htg j0 j1 j2 p0 p1 p2 hctg htm ht0 ht1 ht2 Q4 ho1 ho2 hctm hb hb0 hb1 ob0 ob1 hcb htsb hcsb hd hd0 Ex hd2 hd3 od0 od1 od2 od3 hcd htsd hcsd hto xO oq0 hcto hw ha0 ha1 oa0 oa1 hcw htsw hcsw hh hc0 hc1 hc2 oc0 oc1 oc2 hch htsh hcsh htst hcst hx hx0 hx1 hx2 hx3 hx4 ox0 ox1 ox2 ox3 ox4 hcx hl hl0 hl1 hl2 hl3 ol0 ol1 ol2 ol3 hcl htsl hcsl hy hy0 hy1 hy2 oy0 oy1 oy2 hcy hW hw0 hw1 hw2 hw3 ow0 ow1 ow2 ow3 hcW htss hcss htsx hcsx hf
 refine ⟨X,vo,vs,vh,vl,?_,hX⟩
 have key:cs.toList=(cY vo vs vh vl X.M.last X.M.now).toList:=hcs9
 rw [Array.toList_inj.1 key]
def px (W:Wd):Bool:=W.sv.any (λs=>decide (34<s.tb.length)) || (W.ov.any (λn=>decide (6<n.sc.length) || decide (18<n.fg.length)) || (W.ho.any (λh=>decide (10<h.ws.length) || (decide (10<h.hs.length) || decide (34<h.bx.length))) ||
 (decide (18<W.sv.length) || (decide (18<W.ov.length) || (decide (18<W.ho.length) || decide (66<W.ml.l.length))))))
structure BdW (W:Wd):Prop where
 sv:W.sv.length<=40
 tb:∀ s∈W.sv,s.tb.length<=100
 ov:W.ov.length<=40
 nd:∀ n∈W.ov,n.sc.length<=100/\n.fg.length<=100
 ho:W.ho.length<=40
 hb:∀ h∈W.ho,h.ws.length<=100/\h.hs.length<=100/\h.bx.length<=100
 ml:W.ml.l.length<=100
theorem Hh {W:Wd} (h:px W=false):BdW W:=by
 unfold px at h
 simp only [Bool.or_eq_false_iff,decide_eq_false_iff_not,aw5,Bool.or_eq_true,ar0,not_or] at h
 obtain ⟨h1,h2,h3,h4,h5,h6,h7⟩:=h
 exact ⟨by omega,λs hs=>by have:=h1 s hs;omega,by omega,λn hn=>by have:=h2 n hn;omega,by omega,λy hy=>by have:=h3 y hy;omega,by omega⟩
def dG (k n:Int):Ac:=⟨k,0,0,n,0#256,[],ByteArray.empty⟩
theorem wy {W:Wd} {a:Ac} (h:bN W=true) (h1:1<=a.k) (h2:a.k<=15):bY W a=np W a a.k.toNat:=by
 unfold bY
 rw [h,aq2 h1,aq2 h2];rfl
theorem SP:bN A7=true:=by decide +kernel
structure RWd (W:Wd):Prop where
 ov:iv (cS W.ov)=true
 ml:bU W.ml=true
 len:W.sv.length=W.ov.length
 sv:∀ k,k<W.sv.length->qy W k=true
 ho:∀ k,k<W.ho.length->xR W.ho k=true
theorem rF {W:Wd}:bN W=true↔RWd W:=by
 unfold bN
 rw [aq5,aq5,aq5,aq5,ar0,aq6,aq6]
 refine ⟨λ⟨h1,h2,h3,h4,h5⟩=>⟨h1,h2,h3,λk hk=>h4 k (ar7.2 hk),λk hk=>h5 k (ar7.2 hk)⟩,λh=>⟨h.ov,h.ml,h.len,λk hk=>h.sv k (ar7.1 hk),λk hk=>h.ho k (ar7.1 hk)⟩⟩
theorem VY {l:List Ho} {j:Nat} (hj:j<l.length):l[j]=l.getD j EU:=by rw [as6,aq8 hj];rfl
theorem RWd.right {W:Wd} (h:RWd W) {y:Ho} (hy:y∈W.ho):cp y=true:=by
 obtain ⟨k,hk,rfl⟩:=List.mem_iff_getElem.1 hy
 have:=h.ho k hk
 unfold xR at this
 rw [aq5] at this
 rw [VY hk];exact this.1
theorem RWd.inc {W:Wd} (h:RWd W):∀ i j,i<j->j<W.ho.length->(W.ho.getD i EU).no<(W.ho.getD j EU).no:=λi j hij hj=>by
 induction j with
 |zero=>omega
 |succ j ih=>
  have h1:=h.ho (j+1) hj
  unfold xR at h1
  rw [aq5] at h1
  have h2:=h1.2
  simp only [Nat.zero_lt_succ,decide_true,Bool.true_and,Nat.add_sub_cancel,Bool.not_eq_true',decide_eq_false_iff_not] at h2
  rcases as4 i j with g|g
  ·have:=ih g (by omega);omega
  ·obtain rfl:i=j:=by omega
   omega
theorem sN (W:Wd) (n:Int):((bP W n).no = -1/\bP W n=noH/\∀ y∈W.ho,y.no≠n)∨(bP W n∈W.ho/\(bP W n).no=n):=by
 unfold bP zf
 cases h:W.ho.find? λx=>decide (x.no=n) with
 |none=>exact .inl ⟨rfl,rfl,λy hy e=>by have:=List.find?_eq_none.1 h y hy;simp [e] at this⟩
 |some y=>exact .inr ⟨List.mem_of_find?_eq_some h,by simpa using List.find?_some h⟩
theorem iL (t:Pt) (fr:Int) (s:Se):
 (rg t.w fr s=0/\dO t fr s=⟨{t.w with ml:=⟨t.w.ml.l++[(t.w.ml.last+1,fr,RQ t.w fr s,eH s.2.1)],t.w.ml.last+1,t.w.ml.now⟩},t.n,t.w.ml.last+1⟩) ∨
 (rg t.w fr s≠0/\dO t fr s=fI ⟨t.w,t.n,0⟩ (EC fr 0 (rg t.w fr s))):=by
 cases h:decide (rg t.w fr s=0) with
 |true=>
  have h0:=ap9 h
  have h1:Sy t.w fr s=0/\gz t.w.ml fr (RQ t.w fr s) (eH s.2.1)=0:=by
   unfold rg at h0
   cases h9:decide (Sy t.w fr s=0) with
   |true=>rw [h9] at h0;exact ⟨ap9 h9,h0⟩
   |false=>rw [h9] at h0;exact ax7 h0 (aq0 h9)
  refine .inl ⟨h0,?_⟩
  unfold dO
  rw [h]
  show Pt.mk _ _ _=_
  rw [(Am h1.2).1,(Am h1.2).2]
 |false=>
  refine .inr ⟨aq0 h,?_⟩
  unfold dO
  rw [h];rfl
def FW (l:List Sv):List Tg:=l.flatMap (·.tb)
theorem rR:∀ (l:List Tg) (A:List Tg),mn A->mn (l.foldl dn A)
 |[],_,h=>h
 |x::l,A,h=>rR l _ (iY h x)
theorem DD {A:List Tg} (h:mn A) (x:Tg):A.length<=(dn A x).length:=by
 obtain ⟨_,h2,h3⟩:=JG h x
 by_cases e:∃ y∈A,jG y x
 ·rw [h2 e];exact as1 _
 ·rw [h3 λy hy hs=>e ⟨y,hy,hs⟩];omega
theorem DM:∀ (l:List Tg) {A:List Tg},mn A->A.length<=(l.foldl dn A).length
 |[],_,_=>as1 _
 |x::l,A,h=>av5 (DD h x) (DM l (iY h x))
structure Inj {α:Type} (f:α->Int) (l:List α):Prop where
 eq:∀ x∈l,∀ y∈l,f x=f y->x=y
 nd:l.Nodup
theorem RWd.ro {W:Wd} (h:RWd W):RO W.ov:=by have:=qm h.ov;rwa [kr] at this
theorem Zj {l:List Sv} {j:Nat} (hj:j<l.length):l[j]=l.getD j kP:=by rw [as6,aq8 hj];rfl
theorem ZH {l:List Nd} {j:Nat} (hj:j<l.length):l[j]=l.getD j zN:=by rw [as6,aq8 hj];rfl
theorem RWd.nos {W:Wd} (h:RWd W):W.sv.map (·.no)=W.ov.map (·.me.1):=by
 refine List.ext_getElem (by rw [au1,au1];exact h.len) λk h1 h2=>?_
 rw [au1] at h1 h2
 rw [List.getElem_map,List.getElem_map,Zj h1,ZH h2]
 have:=h.sv k h1
 unfold qy at this
 simp only [aq5,ar0] at this
 exact this.2.1
theorem RWd.sright {W:Wd} (h:RWd W) {s:Sv} (hs:s∈W.sv):cU s=true:=by
 obtain ⟨k,hk,rfl⟩:=List.mem_iff_getElem.1 hs
 have:=h.sv k hk
 unfold qy at this
 rw [aq5] at this
 rw [Zj hk];exact this.1
theorem RWd.inj {W:Wd} (h:RWd W):Inj (·.no) W.sv:=by
 have hp:W.sv.Pairwise λa b=>a.no<b.no:=by
  have h1:(W.ov.map (·.me.1)).Pairwise (· < ·):=List.pairwise_map.2 h.ro.inc
  rw [← h.nos] at h1
  exact List.pairwise_map.1 h1
 refine ⟨λx hx y hy e=>?_,hp.imp λ{a b} hab e=>by subst e;omega⟩
 obtain ⟨i,hi,rfl⟩:=List.mem_iff_getElem.1 hx
 obtain ⟨j,hj,rfl⟩:=List.mem_iff_getElem.1 hy
 have hg:=List.pairwise_iff_getElem.1 hp
 rcases Nat.lt_trichotomy i j with g|g|g
 ·have:=hg i j hi hj g;omega
 ·subst g;rfl
 ·have:=hg j i hj hi g;omega
theorem lU {W:Wd} {n:Int} (h:n∈W.sv.map (·.no)):ic W n∈W.sv/\(ic W n).no=n:=by
 obtain ⟨s,hs,rfl⟩:=au9.1 h
 unfold ic zf
 cases hf:W.sv.find? λx=>decide (x.no=s.no) with
 |none=>have:=List.find?_eq_none.1 hf s hs;simp at this
 |some y=>exact ⟨List.mem_of_find?_eq_some hf,by simpa using List.find?_some hf⟩
section
variable {P:Program} {ρ:Operand->Value} {d:Option Tmp} {ty:TypeId} {pos:String} {af:Array Edge} {g:Option (Nat × Bool)} {x y z u:Operand} {t:TypeId}
theorem HP {v:Value} (a b:Int) (h:v.oneCell'=true):∀ u∈(#[v,.int .i64 a,.int .i64 b]:Array Value).toList,u.oneCell'=true:=λu hu=>by
 simp only [ar6,ar9,or_false] at hu
 rcases hu with rfl|rfl|rfl<;>first|assumption|rfl
theorem oY (S:Stt P t wdZ):a8 P ⟨d,.build t #[],ty,pos,af,g⟩ ρ (.agg (cY aq aq aq aq 0 0)):=
 cx (P:=P) (ρ:=ρ) (d:=d) (ty:=ty) (pos:=pos) (af:=af) (g:=g) (parts:=#[]) S [] (by simp) (λi v hm=>by simp at hm) (D:=Zh aq aq aq aq 0 0) rfl
theorem yo {a b:Int} (S:Stt P t acZ) (hx:ρ x=.int .i64 a) (hy:ρ y=.int .i64 b):a8 P ⟨d,.build t #[(0,x),(3,y)],ty,pos,af,g⟩ ρ (.agg (fb (dG a b) aq)):=by
 have:=cx (P:=P) (ρ:=ρ) (d:=d) (ty:=ty) (pos:=pos) (af:=af) (g:=g) (parts:=#[(0,x),(3,y)]) S [(0,.int .i64 a),(3,.int .i64 b)] (by simp [hx,hy]) (λj q hm=>by
  simp only [ar6,av8,ar9,or_false] at hm
  rcases hm with ⟨rfl,rfl⟩|⟨rfl,rfl⟩
  ·exact ⟨_,rfl,rfl⟩
  ·exact ⟨_,rfl,rfl⟩) (D:=WE (dG a b) aq) (by
   show [Value.int .i64 a]++([Value.int .i64 0]++([Value.int .i64 0]++([Value.int .i64 b]++(List.replicate 32 (Value.int .u8 0)++([aq]++([Value.string ByteArray.empty]++[]))))))=_
   rw [show List.replicate 32 (Value.int .u8 0)=(aJ 0#256).toList from by rw [fe];rfl];rfl)
 exact this
end
def BT (s:Sv):Bool:=decide (34<s.tb.length)
def yl (n:Nd):Bool:=decide (6<n.sc.length) || decide (18<n.fg.length)
def wm (h:Ho):Bool:=decide (10<h.ws.length) || (decide (10<h.hs.length) || decide (34<h.bx.length))
theorem wI (l:List V2) (k:Nat):(l.map (·.1)).getD k kP=(l.getD k dA).1:=by
 rw [as6,as6,av0];cases l[k]? <;> rfl
theorem HQ (l:List H4) (k:Nat):(l.map (·.1)).getD k EU=(l.getD k dy).1:=by
 rw [as6,as6,av0];cases l[k]? <;> rfl
theorem Wi {X:Wx} {k:Nat} (hk:k<X.S.length) (h:BT (X.S.getD k dA).1=true):px (aM X)=true:=by
 unfold px
 rw [show (aM X).sv.any (λs=>decide (34<s.tb.length))=true from aw4.2 ⟨_,au9.2 ⟨_,fO hk,rfl⟩,h⟩];rfl
theorem RV {X:Wx} {k:Nat} (hk:k<X.L.length) (h:yl (X.L.getD k z3).1=true):px (aM X)=true:=by
 unfold px
 rw [show (aM X).ov.any (λn=>decide (6<n.sc.length) || decide (18<n.fg.length))=true from aw4.2 ⟨_,au9.2 ⟨_,bE hk,rfl⟩,h⟩,Bool.true_or,Bool.or_true]
theorem Ii {X:Wx} {k:Nat} (hk:k<X.H.length) (h:wm (X.H.getD k dy).1=true):px (aM X)=true:=by
 unfold px
 rw [show (aM X).ho.any (λh=>decide (10<h.ws.length) || (decide (10<h.hs.length) || decide (34<h.bx.length)))=true from aw4.2 ⟨_,au9.2 ⟨_,d8 hk,rfl⟩,h⟩,Bool.true_or,Bool.or_true,Bool.or_true]
theorem Xq {X:Wx} (h1:∀ j,j<X.S.length->BT (X.S.getD j dA).1=false) (h2:∀ j,j<X.L.length->yl (X.L.getD j z3).1=false) (h3:∀ j,j<X.H.length->wm (X.H.getD j dy).1=false):
 px (aM X)=(decide (18<X.S.length) || (decide (18<X.L.length) || (decide (18<X.H.length) || decide (66<X.M.l.length)))):=by
 have e1:(aM X).sv.any (λs=>decide (34<s.tb.length))=false:=aw5.2 λs hs=>by
  obtain ⟨x,hx,rfl⟩:=au9.1 hs
  obtain ⟨j,hj,rfl⟩:=List.mem_iff_getElem.1 hx
  rw [Z8 hj];exact λh=>by have:=h1 j hj;unfold BT at this;rw [this] at h;cases h
 have e2:(aM X).ov.any (λn=>decide (6<n.sc.length) || decide (18<n.fg.length))=false:=aw5.2 λs hs=>by
  obtain ⟨x,hx,rfl⟩:=au9.1 hs
  obtain ⟨j,hj,rfl⟩:=List.mem_iff_getElem.1 hx
  rw [uw hj];exact λh=>by have:=h2 j hj;unfold yl at this;rw [this] at h;cases h
 have e3:(aM X).ho.any (λh=>decide (10<h.ws.length) || (decide (10<h.hs.length) || decide (34<h.bx.length)))=false:=aw5.2 λs hs=>by
  obtain ⟨x,hx,rfl⟩:=au9.1 hs
  obtain ⟨j,hj,rfl⟩:=List.mem_iff_getElem.1 hx
  rw [ZP hj];exact λh=>by have:=h3 j hj;unfold wm at this;rw [this] at h;cases h
 unfold px
 rw [e1,e2,e3,Bool.false_or,Bool.false_or,Bool.false_or]
 show (decide (18<(X.S.map _).length) || (decide (18<(X.L.map _).length) || (decide (18<(X.H.map _).length) || _)))=_
 rw [au1,au1,au1];rfl
theorem BdW.sx {X:Wx} (h:BdW (aM X)):X.S.length<=40:=by have:=h.sv;unfold aM at this;simpa using this
theorem BdW.hx {X:Wx} (h:BdW (aM X)):X.H.length<=40:=by have:=h.ho;unfold aM at this;simpa using this
theorem BdW.ox {X:Wx} (h:BdW (aM X)):X.L.length<=40:=by have:=h.ov;unfold aM nds at this;simpa using this
theorem BdW.se {X:Wx} (h:BdW (aM X)) {k:Nat} (hk:k<X.S.length):(X.S.getD k dA).1.tb.length<=1000:=av5 (h.tb _ (au9.2 ⟨_,fO hk,rfl⟩)) (by decide)
theorem BdW.he {X:Wx} (h:BdW (aM X)) {k:Nat} (hk:k<X.H.length):(X.H.getD k dy).1.ws.length<=1000/\(X.H.getD k dy).1.hs.length<=1000/\(X.H.getD k dy).1.bx.length<=1000:=by
 obtain ⟨a,b,c⟩:=h.hb _ (au9.2 ⟨_,d8 hk,rfl⟩)
 exact ⟨by omega,by omega,by omega⟩
theorem BdW.oe {X:Wx} (h:BdW (aM X)):RwB X.L:=⟨λy hy=>by
 have:=h.nd _ (au9.2 ⟨y,hy,rfl⟩)
 omega⟩
theorem XD:BdW A7:=⟨by decide,λs h=>(by cases h),by decide,λs h=>(by cases h),by decide,λs h=>(by cases h),by decide⟩
theorem ah7 {X:Wx} {W:Wd} (h:aM X=W) (hb:BdW W):BdW (aM X):=by rw [h];exact hb
def ZU (l:List Sv) (k:Nat):List Tg:=(FW (l.take k)).foldl dn []
theorem RX (l:List Sv):ZU l l.length=(FW l).foldl dn []:=by unfold ZU;rw [List.take_length]
theorem Qn (l:List Sv) (k:Nat):mn (ZU l k):=rR _ _ List.Pairwise.nil
structure RW (W:Wd):Prop where
 ov:RK (cS W.ov)
 ml:bU W.ml=true
 nos:W.sv.map (·.no)=W.ov.map (·.me.1)
 sv:∀ s∈W.sv,cU s=true
 en:∀ n∈W.ov,pD n.me.2=true
 ho:∀ h∈W.ho,cp h=true
 inc:W.ho.Pairwise λa b=>a.no<b.no
theorem Xm {W:Wd} (h:RWd W):RW W:=by
 refine ⟨tI h.ov,h.ml,h.nos,λs hs=>h.sright hs,λn hn=>?_,λy hy=>h.right hy,?_⟩
 ·obtain ⟨k,hk,rfl⟩:=List.mem_iff_getElem.1 hn
  have h9:=h.sv k (by rw [h.len];exact hk)
  unfold qy at h9
  simp only [aq5] at h9
  rw [ZH hk];exact h9.2.2
 ·refine List.pairwise_iff_getElem.2 λi j hi hj hij=>?_
  have:=h.inc i j hij hj
  rw [VY hi,VY hj];exact this
theorem RW.wd {W:Wd} (h:RW W):RWd W:=by
 have hl:W.sv.length=W.ov.length:=by have:=aq3 List.length h.nos;simpa using this
 refine ⟨h.ov.ov,h.ml,hl,λk hk=>?_,λk hk=>?_⟩
 ·have hk2:k<W.ov.length:=by omega
  unfold qy
  rw [aq5,aq5,ar0]
  refine ⟨by rw [← Zj hk];exact h.sv _ (aw0 hk),?_,by rw [← ZH hk2];exact h.en _ (aw0 hk2)⟩
  have h1:(W.sv.map (·.no))[k]? = (W.ov.map (·.me.1))[k]? := by rw [h.nos]
  rw [av0,av0,aq8 hk,aq8 hk2] at h1
  rw [← Zj hk,← ZH hk2]
  simpa using h1
 ·unfold xR
  rw [aq5]
  refine ⟨by rw [← VY hk];exact h.ho _ (aw0 hk),?_⟩
  by_cases h0:0<k
  ·have:=List.pairwise_iff_getElem.1 h.inc (k - 1) k (by omega) hk (by omega)
   rw [VY (show k - 1<W.ho.length by omega),VY hk] at this
   rw [aq1 (show ¬ (W.ho.getD k EU).no<=(W.ho.getD (k - 1) EU).no by omega),Bool.and_false];rfl
  ·rw [aq1 h0];rfl
theorem lw {W:Wd}:bN W=true↔RW W:=⟨λh=>Xm (rF.1 h),λh=>rF.2 h.wd⟩
theorem wP {α:Type} {l:List α} {i:Nat} {x:α} (h:x∈l.eraseIdx i):x∈l:=List.eraseIdx_subset h
theorem qk {m:Ml} {l:List Lt} (hs:∀ x∈l,x∈m.l) (hl:l.length<=64) (hr:bU m=true):bU {m with l:=l}=true:=by
 rw [dP] at hr ⊢
 exact ⟨hl,hr.2.1,hr.2.2.1,λx hx=>hr.2.2.2 x (hs x hx)⟩
theorem sQ {m:Ml} {p:Int} (h:mo m p=0):Rx m p∈m.l:=by
 obtain ⟨hr,h0,hp⟩:=EG h
 rw [Vm hr h0 hp,as6,aq8 (show p.toNat<m.l.length by omega)]
 exact aw0 _
theorem KZ {m:Ml} {p:Int} (h:mo m p=0):bU (lu m p)=true/\(lu m p).now=m.now/\(lu m p).last=m.last:=by
 obtain ⟨hr,_,_⟩:=EG h
 unfold lu
 rw [h]
 refine ⟨?_,rfl,rfl⟩
 have hl:=((dP m).1 hr).1
 exact qk (m:=m) (λx hx=>wP hx) (av5 (List.length_eraseIdx_le _ _) hl) hr
theorem Uy {m:Ml} {p:Int} (h:mo m p=0):bU (yE m p)=true:=by
 obtain ⟨hr,h0,hp⟩:=EG h
 unfold yE
 rw [h]
 have hl:=((dP m).1 hr).1
 refine qk (m:=m) (λx hx=>?_) ?_ hr
 ·rcases at9.1 hx with g|g
  ·exact wP g
  ·rw [ar4.1 g];exact sQ h
 ·rw [aq7,List.length_eraseIdx,if_pos (show p.toNat<m.l.length by omega)]
  show _ - 1+1<=64
  omega
theorem ae0 {m:Ml} {p:Int} (h:MT m p=0):bU (XU m p)=true:=by
 have ha:mo m p=0:=by
  unfold MT at h
  by_cases g:mo m p=0
  ·exact g
  ·rw [aq1 g] at h;exact h
 obtain ⟨hr,h0,hp⟩:=EG ha
 have h64:m.l.length≠64:=λe=>by
  unfold MT at h
  rw [ha,aq2 e] at h
  exact ax7 h (by decide)
 unfold XU
 rw [h]
 have hl:=((dP m).1 hr).1
 refine qk (m:=m) (λx hx=>?_) ?_ hr
 ·rcases at9.1 hx with g|g
  ·exact g
  ·rw [ar4.1 g];exact sQ ha
 ·rw [aq7]
  show _+1<=64
  omega
theorem Tv {m:Ml} {t:Int} (h:eJ m t=0):bU (cW m t)=true:=by
 have hb:(!bU m || decide (t<0))=false:=by
  cases hb:(!bU m || decide (t<0)) with
  |false=>rfl
  |true=>rw [wZ hb] at h;exact ax7 h (by decide)
 simp only [Bool.or_eq_false_iff,Bool.not_eq_false',decide_eq_false_iff_not] at hb
 obtain ⟨hr,ht⟩:=hb
 unfold cW
 rw [h]
 have h9:=(dP m).1 hr
 exact(dP _).2 ⟨h9.1,h9.2.1,⟨by show 0<=m.now+min t (1099511627776 - m.now);omega,by show m.now+min t (1099511627776 - m.now)<=_;omega⟩,h9.2.2.2⟩
theorem RW.mail {W:Wd} (h:RW W) {m:Ml} (hm:bU m=true):RW {W with ml:=m}:=⟨h.ov,hm,h.nos,h.sv,h.en,h.ho,h.inc⟩
theorem mb {α:Type} {f:α->Int} {l:List α} {x y:α} (h:y∈fZ f l x):y=x∨y∈l:=by
 unfold fZ at h
 rcases at9.1 h with g|g
 ·exact .inr (at4.1 g).1
 ·rcases ar6.1 g with g|g
  ·exact .inl g
  ·exact .inr (at4.1 g).1
theorem L8 {α:Type} {f:α->Int} {l:List α} {x:α}:x∈fZ f l x:=by
 unfold fZ
 exact List.mem_append_right _ ar5
theorem Oh {α:Type} {f:α->Int} {l:List α} {x:α} (h:l.Pairwise λa b=>f a<f b):(fZ f l x).Pairwise λa b=>f a<f b:=by
 unfold fZ
 refine List.pairwise_append.2 ⟨h.filter _,List.pairwise_cons.2 ⟨λy hy=>?_,h.filter _⟩,λa ha b hb=>?_⟩
 ·exact ap9 (at4.1 hy).2
 ·have h1:=ap9 (at4.1 ha).2
  rcases ar6.1 hb with rfl|hb
  ·exact h1
  ·have:=ap9 (at4.1 hb).2;omega
theorem EP {α:Type} {f:α->Int}:∀ {l:List α} {x:α},(l.Pairwise λa b=>f a<f b)->f x∈l.map f->(fZ f l x).map f=l.map f
 |[],x,_,h=>by simp at h
 |y::r,x,hp,h=>by
  have hp':=List.pairwise_cons.1 hp
  have hlo:∀ (q:α->Bool),(∀ z∈r,q z=true)->r.filter q=r:=λq hq=>List.filter_eq_self.2 hq
  have hno:∀ (q:α->Bool),(∀ z∈r,q z=false)->r.filter q=[]:=λq hq=>List.filter_eq_nil_iff.2 λz hz=>by rw [hq z hz];decide
  rcases ar6.1 (by simpa using h:f x∈f y::r.map f) with e|hm
  ·unfold fZ
   rw [List.filter_cons_of_neg (by simp;omega),hno _ (λz hz=>aq1 (by have:=hp'.1 z hz;omega)),List.filter_cons_of_neg (by simp;omega),hlo _ (λz hz=>aq2 (by have:=hp'.1 z hz;omega))]
   simp [e]
  ·obtain ⟨z,hz,hzx⟩:=au9.1 hm
   have hyx:f y<f x:=by have:=hp'.1 z hz;omega
   have ih:=EP (f:=f) (l:=r) (x:=x) hp'.2 hm
   unfold fZ at ih ⊢
   rw [List.filter_cons_of_pos (by simpa using hyx),List.filter_cons_of_neg (by simp;omega)]
   simp only [List.cons_append,List.map_cons]
   rw [ih]
theorem RW.putH {W:Wd} (h:RW W) {x:Ho} (hx:cp x=true):RW (dZ W x):=
 ⟨h.ov,h.ml,h.nos,h.sv,h.en,λy hy=>by rcases mb hy with rfl|g;exact hx;exact h.ho y g,Oh h.inc⟩
theorem RW.sinc {W:Wd} (h:RW W):W.sv.Pairwise λa b=>a.no<b.no:=by
 have h1:(W.ov.map (·.me.1)).Pairwise (· < ·):=List.pairwise_map.2 h.wd.ro.inc
 rw [← h.nos] at h1
 exact List.pairwise_map.1 h1
theorem RW.putS {W:Wd} (h:RW W) {x:Sv} (hx:cU x=true) (hn:x.no∈W.sv.map (·.no)):RW (fG W x):=
 ⟨h.ov,h.ml,(EP h.sinc hn).trans h.nos,λy hy=>by rcases mb hy with rfl|g;exact hx;exact h.sv y g,h.en,h.ho,h.inc⟩
theorem Zk {W:Wd} {fr:Int} {s:Se} (h:rg W fr s=0):gz W.ml fr (RQ W fr s) (eH s.2.1)=0:=by
 unfold rg at h
 cases h9:decide (Sy W fr s=0) with
 |true=>rw [h9] at h;exact h
 |false=>rw [h9] at h;exact ax7 h (aq0 h9)
theorem jB (t:Pt) (fr:Int) (s:Se):(dO t fr s).w.ov=t.w.ov/\(dO t fr s).w.sv=t.w.sv/\(dO t fr s).w.ho=t.w.ho/\(dO t fr s).w.ml.now=t.w.ml.now:=by
 rcases iL t fr s with ⟨_,e⟩|⟨_,e⟩<;>rw [e]<;>exact ⟨rfl,rfl,rfl,rfl⟩
theorem RW.post {t:Pt} (h:RW t.w) (fr:Int) (s:Se):RW (dO t fr s).w:=by
 rcases iL t fr s with ⟨h0,e⟩|⟨_,e⟩
 ·rw [e];exact h.mail (CT (Zk h0))
 ·rw [e];exact h
theorem RW.pstK:∀ (l:List Se) {t:Pt} (_:RW t.w) (fr:Int),RW (io t fr l).w
 |[],_,h,_=>h
 |s::l,_,h,fr=>RW.pstK l (h.post fr s) fr
theorem A5 (t:Pt) (fr no wa:Int) (s:Se):(Fu t fr no wa s).w=(dO t fr s).w:=by
 unfold Fu
 cases (decide (0<(dO t fr s).no) && decide (s.2.1.k=1))<;>rfl
theorem RW.go {t:Pt} (h:RW t.w) (fr no wa:Int) (s:Se):RW (Fu t fr no wa s).w:=by rw [A5];exact h.post fr s
theorem RW.goK:∀ (l:List Se) {t:Pt} (_:RW t.w) (fr no wa:Int),RW (pZ t fr no wa l).w
 |[],_,h,_,_,_=>h
 |s::l,_,h,fr,no,wa=>RW.goK l (h.go fr no wa s) fr no wa
theorem CA (W:Wd) (n:Int):((ic W n).no = -1/\ic W n=noS/\∀ y∈W.sv,y.no≠n)∨(ic W n∈W.sv/\(ic W n).no=n):=by
 unfold ic zf
 cases h:W.sv.find? λx=>decide (x.no=n) with
 |none=>exact .inl ⟨rfl,rfl,λy hy e=>by have:=List.find?_eq_none.1 h y hy;simp [e] at this⟩
 |some y=>exact .inr ⟨List.mem_of_find?_eq_some h,by simpa using List.find?_some h⟩
theorem En {W:Wd} {n:Int} (h:0<=(ic W n).no):ic W n∈W.sv/\(ic W n).no=n:=by
 rcases CA W n with ⟨e,_⟩|h9
 ·omega
 ·exact h9
theorem pj {W:Wd} {n:Int} (h:¬ (bP W n).no<0):bP W n∈W.ho/\(bP W n).no=n:=by
 rcases sN W n with ⟨e,_⟩|h9
 ·omega
 ·exact h9
theorem RW.lost {W:Wd} (h:RW W) (x:Lt) (y:Int):RW (mR W x y).w:=h
theorem RW.srv {W:Wd} (h:RW W) {s:Sv} (hs:s∈W.sv) (x:Lt) (m:Mg):RW (rX W s x m).w:=by
 unfold rX
 cases he:decide ((dY s x.2.1 m W.ml.now).e=0) with
 |false=>exact h.lost x _
 |true=>
  obtain ⟨_,h2,h3,_⟩:=BD (ap9 he)
  have hp:RW (fG W (dY s x.2.1 m W.ml.now).s):=h.putS h2 (by rw [h3];exact au9.2 ⟨s,hs,rfl⟩)
  show RW (pZ (bif _ then _ else _) _ _ _ _).w
  refine RW.goK _ ?_ _ _ _
  cases (decide (0<(dY s x.2.1 m W.ml.now).l.length) && decide (((dY s x.2.1 m W.ml.now).l.getD 0 RG).2.1.k=5))<;>exact hp
theorem RW.ser {W:Wd} (h:RW W) {s:Sv} (hs:s∈W.sv) (x:Lt) (m:Mg):RW (uI W s x m).w:=by
 unfold uI
 cases ZK m with
 |false=>exact h.srv hs x m
 |true=>
  rw [cond_true]
  cases decide (VW (cS W.ov) (BW m) s.no 16=0) with
  |false=>exact h.lost x _
  |true=>
   show RW (bif _ then _ else _:Wr).w
   cases decide ((MI (cS W.ov) (BW m) s.no 16).1=s.no) with
   |false=>exact RW.go (t:=⟨W,[],0⟩) h _ _ _ _
   |true=>exact h.srv hs x m
theorem RW.hst {W:Wd} (h:RW W) (y:Ho) (x:Lt) (m:Mg):RW (uH W y x m).w:=by
 unfold uH
 cases he:decide ((eD y x.2.1 m W.ml.now).e=0) with
 |false=>exact h.lost x _
 |true=>
  have hp:RW (dZ W (eD y x.2.1 m W.ml.now).h):=h.putH (AE (ap9 he)).1
  show RW (io (bif _ then _ else _) _ _).w
  refine RW.pstK _ ?_ _
  cases decide (m.k=1)<;>exact hp
theorem RW.brg {W:Wd} (h:RW W) (x:Lt):RW (uE W x).w:=by
 unfold uE
 cases decide (Bu x.2.2.2=0) with
 |false=>exact h.lost x _
 |true=>
  show RW (bif _ then _ else _:Wr).w
  cases h1:decide (0<=(ic W x.2.2.1).no) with
  |true=>exact h.ser (En (ap9 h1)).1 x _
  |false=>
   show RW (bif _ then _ else _:Wr).w
   cases (decide (16<=x.2.2.1) && decide (0<=(bP W (x.2.2.1 - 16)).no)) with
   |true=>exact h.hst _ x _
   |false=>exact h.lost x _
theorem eB (E:List Nd):av (cS E)=bV E:=by unfold cS bV av;rw [List.map_map];rfl
theorem RW.over {W:Wd} (h:RW W) {E:List Nd} (hE:RK (cS E)) (hm:bV E=bV W.ov):RW {W with ov:=E}:=by
 have hm1:E.map (·.me.1)=W.ov.map (·.me.1):=by
  have:=aq3 (List.map (·.1)) hm
  unfold bV at this
  rwa [List.map_map,List.map_map] at this
 refine ⟨hE,h.ml,h.nos.trans hm1.symm,h.sv,λn hn=>?_,h.ho,h.inc⟩
 have:n.me∈bV E:=au9.2 ⟨n,hn,rfl⟩
 rw [hm] at this
 obtain ⟨z,hz,e⟩:=au9.1 this
 rw [← e];exact h.en z hz
theorem Ug {E:List Nd} {no:Int} (h:RK (cS E)) (hl:bu (bV E) no=true):RK (cS (fl E no))/\bV (fl E no)=bV E:=by
 have hl':bu (av (cS E)) no=true:=by rw [eB];exact hl
 have hK:nds (cS (fl E no))=fl (nds (cS E)) no:=by rw [kr,kr]
 have:=(DA h.rs hl' hK).2
 rw [eB,eB] at this
 exact ⟨Ng h hl' hK,this⟩
theorem RK.live {E:List Nd} (h:RK (cS E)) {m:Mb} (hm:m∈bV E):bu (bV E) m.1=true:=by
 rw [← eB] at hm ⊢
 exact(gD h.rs.nos).2 ⟨m,hm,rfl⟩
theorem Ep:∀ (ms:List Mb) {E:List Nd} (_:RK (cS E)) (_:∀ m∈ms,m∈bV E),RK (cS (ms.foldl (λF m=>fl F m.1) E))/\bV (ms.foldl (λF m=>fl F m.1) E)=bV E
 |[],_,h,_=>⟨h,rfl⟩
 |m::ms,E,h,hm=>by
  obtain ⟨h1,h2⟩:=Ug h (RK.live h (hm m ar5))
  obtain ⟨h3,h4⟩:=Ep ms h1 λx hx=>by rw [h2];exact hm x (as5 _ hx)
  exact ⟨h3,h4.trans h2⟩
theorem RW.rnd {W:Wd} (h:RW W):RW (Cg W).w:=by
 obtain ⟨h1,h2⟩:=Ep (bV W.ov) h.ov λm hm=>hm
 exact h.over h1 h2
theorem TS (E:List Nd) (no:Int):cS (iC E no)=oM (cS E) no:=by
 unfold cS iC oM
 rw [List.filter_map];rfl
theorem Qm {W:Wd} (h:RW W) (n:Int):(sD W n).map (·.no)=(iC W.ov n).map (·.me.1):=by
 have e1:(sD W n).map (·.no)=(W.sv.map (·.no)).filter λk => !decide (k=n):=by
  unfold sD Q3
  rw [List.filter_map];rfl
 have e2:(iC W.ov n).map (·.me.1)=(W.ov.map (·.me.1)).filter λk => !decide (k=n):=by
  unfold iC
  rw [List.filter_map]
  congr 1
  refine List.filter_congr λx _=>?_
  show decide (x.me.1≠n) = !decide (x.me.1=n)
  by_cases e:x.me.1=n<;>simp [e]
 rw [e1,e2,h.nos]
theorem RW.wos {W:Wd} (h:RW W) (n:Int) {E:List Nd} (hE:RK (cS E)) (hm:bV E=bV (iC W.ov n)):RW {W with sv:=sD W n,ov:=E}:=by
 have hm1:E.map (·.me.1)=(iC W.ov n).map (·.me.1):=by
  have:=aq3 (List.map (·.1)) hm
  unfold bV at this
  rwa [List.map_map,List.map_map] at this
 refine ⟨hE,h.ml,(Qm h n).trans hm1.symm,λs hs=>h.sv s (at4.1 hs).1,λy hy=>?_,h.ho,h.inc⟩
 have:y.me∈bV E:=au9.2 ⟨y,hy,rfl⟩
 rw [hm] at this
 obtain ⟨z,hz,e⟩:=au9.1 this
 rw [← e];exact h.en z (at4.1 hz).1
theorem RW.fal {W:Wd} (h:RW W) {n:Int} (he:(pM W n).e=0):RW (pM W n).w:=by
 unfold pM at he ⊢
 cases h1:decide (cE (cS W.ov) n=0) with
 |false=>rw [h1] at he;exact ax7 he (aq0 h1)
 |true=>exact h.wos n (by rw [TS];exact KW h.ov n) rfl
def A2 (now:Int) (t:List Tg):List Tg:=t.filter λy=>decide (now<y.2.2)
def lvS (now:Int) (s:Sv):Sv:=⟨s.no,s.sec,A2 now s.tb⟩
def Wq (W:Wd):List Sv:=W.sv.map (lvS W.ml.now)
def iV (W:Wd):List Tg:=ZU (Wq W) (Wq W).length
def kN (W:Wd):Int:=bif bN W then (bif decide ((iV W).length<=32) then 0 else 8) else 1
def gf (W:Wd):List Tg:=bif decide (kN W=0) then iV W else []
def FL (M:List Mb) (now no:Int) (y:Tg):Bool := !decide (now<y.2.2) || decide ((Dd M y.1 M.length).1=no)
def IE (M:List Mb) (now:Int) (s:Sv):Bool:=s.tb.all (FL M now s.no)
def iP (W:Wd):Bool:=bN W && (cV (cS W.ov) && W.sv.all (IE (bV W.ov) W.ml.now))
theorem xK (L:List N3) (k:Nat):((cS (nds L)).getD k z3).1=(L.getD k z3).1:=by
 unfold cS nds
 rw [as6,as6,av0,av0]
 cases L[k]? <;> rfl
theorem C7 (L:List N3):iv (cS (nds L))=iv L:=by
 have e1:(cS (nds L)).length=L.length:=by unfold cS nds;rw [au1,au1]
 have e2:av (cS (nds L))=av L:=by rw [eB,cN]
 unfold iv
 have:ly (cS (nds L))=ly L:=funext λk=>by unfold ly;rw [xK,xK,e2]
 rw [e1,e2,this]
theorem ow (L:List N3):cV (cS (nds L))=cV L:=by
 have e1:(cS (nds L)).length=L.length:=by unfold cS nds;rw [au1,au1]
 have e2:av (cS (nds L))=av L:=by rw [eB,cN]
 have e3:iv (cS (nds L))=iv L:=C7 L
 unfold cV
 rw [e1,e3,xK]
 have:pS (cS (nds L))=pS L:=funext λk=>by unfold pS;rw [xK,e1,e2]
 rw [this]
theorem ST {W:Wd} (h:bN W=false):iP W=false:=by unfold iP;rw [h];rfl
theorem SS {X:Wx} (h:cV X.L=false):iP (aM X)=false:=by
 unfold iP
 rw [show cV (cS (aM X).ov)=false from (ow X.L).trans h,Bool.false_and,Bool.and_false]
def zG (W:Wd):Bool:=px W || (decide (8<W.sv.length) || (decide (8<W.ov.length) || decide (8<W.ho.length)))
theorem lS {W:Wd} (h:px W=true):zG W=true:=by unfold zG;rw [h];rfl
theorem EZ {W:Wd} (h:zG W=false):px W=false/\W.sv.length<=8/\W.ov.length<=8/\W.ho.length<=8:=by
 unfold zG at h
 simp only [Bool.or_eq_false_iff,decide_eq_false_iff_not] at h
 exact ⟨h.1,by omega,by omega,by omega⟩
theorem r6 {X:Wx} (h1:∀ j,j<X.S.length->BT (X.S.getD j dA).1=false) (h2:∀ j,j<X.L.length->yl (X.L.getD j z3).1=false) (h3:∀ j,j<X.H.length->wm (X.H.getD j dy).1=false):
 zG (aM X)=(decide (8<X.S.length) || (decide (8<X.L.length) || (decide (8<X.H.length) || decide (66<X.M.l.length)))):=by
 unfold zG
 rw [Xq h1 h2 h3]
 have a:(aM X).sv.length=X.S.length:=au1 _
 have b:(aM X).ov.length=X.L.length:=au1 _
 have c:(aM X).ho.length=X.H.length:=au1 _
 rw [a,b,c,aw6]
 simp only [Bool.or_eq_true,ar0]
 omega
theorem Np {x:Id} {k:Nat} (hk:k<16) (h:¬ bA x (k+16)=255):pD x=false:=by
 rw [← Bool.not_eq_true]
 intro h9
 exact h (ap9 (aq6.1 h9 k (ar7.2 hk)))
theorem Qp {x:Id} (h:∀ j,j<16->bA x (j+16)=255):pD x=true:=
 aq6.2 λj hj=>aq2 (h j (ar7.1 hj))
theorem nO (X:Wx):(aM X).sv.length=X.S.length/\(aM X).ov.length=X.L.length/\(aM X).ho.length=X.H.length:=⟨au1 _,au1 _,au1 _⟩
theorem n3m (L:List N3) (k:Nat):(nds L).getD k zN=(L.getD k z3).1:=by
 unfold nds
 rw [as6,as6,av0];cases L[k]? <;> rfl
theorem U4 (X:Wx) (k:Nat):qy (aM X) k=(cU (X.S.getD k dA).1 && (decide ((X.S.getD k dA).1.no=(X.L.getD k z3).1.me.1) && pD (X.L.getD k z3).1.me.2)):=by
 unfold qy
 rw [show (aM X).sv.getD k kP=(X.S.getD k dA).1 from wI X.S k,show (aM X).ov.getD k zN=(X.L.getD k z3).1 from n3m X.L k]
theorem WS (l:List H4) (j:Nat) (hj:j<l.length):(bC l)[j*5+0]? = some (.int .i64 (l.getD j dy).1.no):=by
 have h1:=aq3 (λa:Array Value=>a[0]?) (LA l j hj)
 rw [show ∀ x:H4,(cB x.1.no x.1.gt x.2.1 x.2.2.1 x.2.2.2)[0]? = some (.int .i64 x.1.no) from λ_=>rfl] at h1
 rw [← h1];simp
def Z3 (w:World) (vo vs vh vl:Value) (X:Wx) (K:List Tg) (E:Int):cX:=λv w'=>∃ p ks,v=.tuple #[p,.int .i64 E]/\St w [.grp ks λw9=>RdW w9 vo vs vh vl X->ma w9 p K] w'
def Ze (o:List Int) (i many:Nat):Int:=bif decide (o.length=0) then 0 else (o.getD (i % o.length) 0) % (many:Int)
def YS (n:Int):Ac:=⟨11,0,0,n,0#256,[],ByteArray.empty⟩
noncomputable def WM (o:List Int):Nat->(Nat->Wd->List Nt->Wr)
 |0=>λ_ W n=>bif decide (W.ml.l.length=0) then ⟨W,n,0⟩ else dM 8
 |g9+1=>λi W n=>bif decide (W.ml.l.length=0) then ⟨W,n,0⟩ else WM o g9 (i+1) (bY W (YS (Ze o i W.ml.l.length))).w (n++(bY W (YS (Ze o i W.ml.l.length))).n)
noncomputable def GX (W:Wd) (o:List Int):Wr:=bif bN W then WM o 1000 0 W [] else dM 1
def ad0 (w:World) (vo vs vh vl:Value) (X:Wx) (R:Wr):cX:=λv w'=>∃ uo us uh ul un Y ks,v=.tuple #[.agg (cY uo us uh ul Y.M.last Y.M.now),un,.int .i64 R.e]/\aM Y=R.w/\
 St w [.grp ks λw9=>RdW w9 vo vs vh vl X->RdW w9 uo us uh ul Y/\a7 w9 un 74 R.n.length (dB R.n)] w'
theorem YW {W:Wd} (o:List Int) (h:bN W=true) (h0:W.ml.l.length=0):GX W o=⟨W,[],0⟩:=by
 unfold GX
 rw [h]
 show (bif decide (W.ml.l.length=0) then _ else _)=_
 rw [h0];rfl
theorem u7 (o:List Int):GX (aM mB) o=⟨A7,[],0⟩:=YW o (show bN A7=true by decide +kernel) rfl
theorem Yl {X:Wx} (h:aM X=A7):iP (aM X)=true:=by rw [h];decide +kernel
theorem aa2 {X:Wx} (h:aM X=A7):X.S.length=0:=by rw [← (nO X).1,h];rfl
theorem Ci {W:Wd} (h:bN W=false):kN W=1/\gf W=[]:=by
 have:kN W=1:=by unfold kN;rw [h];rfl
 exact ⟨this,by unfold gf;rw [this];rfl⟩
theorem yX {W:Wd} (h:bN W=true) (h2:decide ((iV W).length<=32)=false):kN W=8/\gf W=[]:=by
 have:kN W=8:=by unfold kN;rw [h,h2];rfl
 exact ⟨this,by unfold gf;rw [this];rfl⟩
theorem Ct {W:Wd} (h:bN W=true) (h2:decide ((iV W).length<=32)=true):kN W=0/\gf W=iV W:=by
 have:kN W=0:=by unfold kN;rw [h,h2];rfl
 exact ⟨this,by unfold gf;rw [this];rfl⟩
def MB (now:Int) (s:Sv):List (Int × Tg):=(A2 now s.tb).map λy=>(s.no,y)
def mz (W:Wd):List (Int × Tg):=W.sv.flatMap (MB W.ml.now)
def kQ (W:Wd) (k j:Nat):Nat:=((W.sv.take k).flatMap (MB W.ml.now)).length+(A2 W.ml.now ((W.sv.getD k kP).tb.take j)).length
def jF (W:Wd) (d:Nat):Int × Tg:=(mz W).getD d (0,cr)
theorem Xl (W:Wd):kQ W 0 0=0:=rfl
theorem ai2 {W:Wd} {k j:Nat} (hj:j<(W.sv.getD k kP).tb.length) (h:decide (W.ml.now<((W.sv.getD k kP).tb.getD j cr).2.2)=false):kQ W k (j+1)=kQ W k j:=by
 unfold kQ
 rw [E0 hj]
 show _+(List.filter _ (_++_)).length=_
 rw [ax4,List.filter_cons_of_neg (by rw [h];decide),List.filter_nil,av4]
 rfl
theorem aa7 {W:Wd} {k:Nat} (hk:k<W.sv.length):kQ W k (W.sv.getD k kP).tb.length=kQ W (k+1) 0:=by
 unfold kQ
 rw [List.take_length,List.take_succ_eq_append_getElem hk,Zj hk,av2,aq7,List.take_zero]
 show _=_+(List.flatMap _ [_]).length+0
 simp [MB]
theorem SL {W:Wd} {k:Nat} (hk:W.sv.length<=k):kQ W k 0=(mz W).length:=by
 unfold kQ mz
 rw [as9 hk];rfl
theorem Yi {α:Type} (l:List α) (d:α) {j:Nat} (hj:j<l.length):l=l.take j++l.getD j d::l.drop (j+1):=by
 rw [as6,aq8 hj,Option.getD_some,List.getElem_cons_drop,as7]
theorem I9 {W:Wd} {k j:Nat} (hk:k<W.sv.length) (hj:j<(W.sv.getD k kP).tb.length) (h:decide (W.ml.now<((W.sv.getD k kP).tb.getD j cr).2.2)=true):
 ∃ A B,mz W=A++((W.sv.getD k kP).no,(W.sv.getD k kP).tb.getD j cr)::B/\A.length=kQ W k j:=by
 refine ⟨(W.sv.take k).flatMap (MB W.ml.now)++(A2 W.ml.now ((W.sv.getD k kP).tb.take j)).map (λy=>((W.sv.getD k kP).no,y)),(A2 W.ml.now ((W.sv.getD k kP).tb.drop (j+1))).map (λy=>((W.sv.getD k kP).no,y))++(W.sv.drop (k+1)).flatMap (MB W.ml.now),?_,?_⟩
 ·have e1:=Yi W.sv kP hk
  have e2:=Yi (W.sv.getD k kP).tb cr hj
  have e3:MB W.ml.now (W.sv.getD k kP)=(A2 W.ml.now ((W.sv.getD k kP).tb.take j)).map (λy=>((W.sv.getD k kP).no,y))++((W.sv.getD k kP).no,(W.sv.getD k kP).tb.getD j cr)::(A2 W.ml.now ((W.sv.getD k kP).tb.drop (j+1))).map (λy=>((W.sv.getD k kP).no,y)):=by
   unfold MB
   conv=>lhs;rw [e2]
   show List.map _ (List.filter _ (_++_))=_
   rw [ax4,List.filter_cons_of_pos (by exact h),ax5,List.map_cons];rfl
  unfold mz
  conv=>lhs;rw [e1]
  rw [av2,List.flatMap_cons,e3]
  simp only [av3,List.cons_append]
 ·unfold kQ
  rw [aq7,au1]
theorem ag2 {W:Wd} {k j:Nat} (hk:k<W.sv.length) (hj:j<(W.sv.getD k kP).tb.length) (h:decide (W.ml.now<((W.sv.getD k kP).tb.getD j cr).2.2)=true):
 kQ W k j<(mz W).length/\jF W (kQ W k j)=((W.sv.getD k kP).no,(W.sv.getD k kP).tb.getD j cr)/\kQ W k (j+1)=kQ W k j+1:=by
 obtain ⟨A,B,e,hA⟩:=I9 hk hj h
 refine ⟨?_,?_,?_⟩
 ·rw [e,aq7,at5];omega
 ·unfold jF
  rw [e,← hA,as6,at7 (as1 _),Nat.sub_self];rfl
 ·unfold kQ
  rw [E0 hj]
  show _+(List.filter _ (_++_)).length=_
  rw [ax4,List.filter_cons_of_pos (by exact h),List.filter_nil,aq7]
  rfl
theorem Md {W:Wd} {d:Nat} (hd:d<(mz W).length):∃ s∈W.sv,(jF W d).1=s.no/\(jF W d).2∈s.tb:=by
 have h:jF W d∈mz W:=by unfold jF;rw [as6,aq8 hd];exact aw0 hd
 obtain ⟨s,hs,h⟩:=List.mem_flatMap.1 h
 obtain ⟨y,hy,e⟩:=au9.1 h
 rw [← e]
 exact ⟨s,hs,rfl,(at4.1 hy).1⟩
def Rb (W:Wd) (d:Nat):Bool := !decide ((Dd (bV W.ov) (jF W d).2.1 (bV W.ov).length).1=(jF W d).1)
theorem J7 (W:Wd):W.sv.all (IE (bV W.ov) W.ml.now)=(mz W).all λx=>decide ((Dd (bV W.ov) x.2.1 (bV W.ov).length).1=x.1):=by
 unfold mz
 rw [List.all_flatMap]
 refine aq3 (λf=>W.sv.all f) (funext λs=>?_)
 unfold IE MB A2
 rw [List.all_map,List.all_filter]
 rfl
theorem Pj {W:Wd} (h0:bN W=true) (h1:cV (cS W.ov)=true) (h:∀ d,d<(mz W).length->Rb W d=false):iP W=true:=by
 unfold iP
 rw [h0,h1,Bool.true_and,Bool.true_and,J7]
 refine aq6.2 λx hx=>?_
 obtain ⟨d,hd,rfl⟩:=List.mem_iff_getElem.1 hx
 have:=h d hd
 unfold Rb jF at this
 rw [as6,aq8 hd,Option.getD_some] at this
 simpa using this
theorem PT {W:Wd} {d:Nat} (hd:d<(mz W).length) (h:Rb W d=true):iP W=false:=by
 have:W.sv.all (IE (bV W.ov) W.ml.now)=false:=by
  rw [J7,← Bool.not_eq_true,aq6]
  intro h9
  have h8:=h9 _ (aw0 hd)
  unfold Rb jF at h
  rw [as6,aq8 hd,Option.getD_some] at h
  rw [h8] at h;cases h
 unfold iP
 rw [this,Bool.and_false,Bool.and_false]
def mL (W:Wd) (d:Nat):List Tg:=(((mz W).take d).map (·.2)).foldl dn []
theorem D8 {W:Wd} {d:Nat} (hd:d<(mz W).length):mL W (d+1)=dn (mL W d) (jF W d).2:=by
 unfold mL jF
 rw [List.take_succ_eq_append_getElem hd,ax5,List.foldl_append,as6,aq8 hd];rfl
theorem P9 (W:Wd):(mz W).map (·.2)=FW (Wq W):=by
 unfold mz FW Wq
 rw [List.map_flatMap,List.flatMap_map]
 refine aq3 (λf=>List.flatMap f W.sv) (funext λs=>?_)
 unfold MB
 rw [List.map_map]
 exact List.map_id _
theorem Rr (W:Wd):mL W (mz W).length=iV W:=by
 unfold mL iV
 rw [List.take_length,P9,RX]
theorem D7 (W:Wd) (d:Nat):mn (mL W d):=rR _ _ List.Pairwise.nil
theorem T4 (W:Wd) (d:Nat):(mL W d).length<=(iV W).length:=by
 rw [← Rr]
 unfold mL
 rw [List.take_length]
 have e:=as7 d (mz W)
 conv=>rhs;rw [← e]
 rw [ax5,List.foldl_append]
 exact DM _ (D7 W d)
theorem Oj {W:Wd} {d:Nat} (hd:d<(mz W).length) (h:¬ (dn (mL W d) (jF W d).2).length<=32):decide ((iV W).length<=32)=false:=by
 rw [← D8 hd] at h
 have:=T4 W (d+1)
 exact aq1 (by omega)
theorem YB {X:Wx} {k j:Nat} (hj:j<(X.S.getD k dA).1.tb.length) (h:decide (X.M.now<((X.S.getD k dA).1.tb.getD j cr).2.2)=false):kQ (aM X) k (j+1)=kQ (aM X) k j:=by
 have e:(aM X).sv.getD k kP=(X.S.getD k dA).1:=wI X.S k
 exact ai2 (by rw [e];exact hj) (by rw [e];exact h)
theorem CH {X:Wx} {k j:Nat} (hk:k<X.S.length) (hj:j<(X.S.getD k dA).1.tb.length) (h:decide (X.M.now<((X.S.getD k dA).1.tb.getD j cr).2.2)=true):
 kQ (aM X) k j<(mz (aM X)).length/\jF (aM X) (kQ (aM X) k j)=((X.S.getD k dA).1.no,(X.S.getD k dA).1.tb.getD j cr)/\kQ (aM X) k (j+1)=kQ (aM X) k j+1:=by
 have e:(aM X).sv.getD k kP=(X.S.getD k dA).1:=wI X.S k
 have h9:=ag2 (W:=aM X) (k:=k) (j:=j) (by rw [(nO X).1];exact hk) (by rw [e];exact hj) (by rw [e];exact h)
 rwa [e] at h9
theorem af6 {X:Wx} {k j:Nat} (hk:k<X.S.length) (h1:j<=(X.S.getD k dA).1.tb.length) (h2:(X.S.getD k dA).1.tb.length<=j):kQ (aM X) k j=kQ (aM X) (k+1) 0:=by
 have e:(aM X).sv.getD k kP=(X.S.getD k dA).1:=wI X.S k
 rw [← aa7 (W:=aM X) (by rw [(nO X).1];exact hk),e,Nat.le_antisymm h1 h2]
theorem Ih {X:Wx} {k:Nat} (hk:X.S.length<=k):kQ (aM X) k 0=(mz (aM X)).length:=SL (by rw [(nO X).1];exact hk)
theorem JI {W:Wd} (h:bN W=true) {d:Nat} (hd:d<(mz W).length):gH (jF W d).2=true:=by
 obtain ⟨s,hs,_,hy⟩:=Md hd
 have h1:=(rF.1 h).sright hs
 unfold cU at h1
 simp only [aq5] at h1
 exact(d7.1 h1.2.2.2).may _ hy
theorem Rt {W:Wd} (h:bN W=true):∀ d,d<=(mz W).length->(mL W d).length<=32->RT (mL W d)
 |0,_,_=>{may:=λy hy=>ax7 hy ar9,srt:=List.Pairwise.nil,len:=as3 _}
 |d+1,hd,hl=>by
  rw [D8 (by omega)] at hl ⊢
  have:=DD (D7 W d) (jF W d).2
  exact nT (Rt h d (by omega) (by omega)) (JI h (by omega)) hl
def Du (W:Wd) (d:Nat):Bool := !decide ((mL W (d+1)).length<=32)
def Lw (W:Wd) (d:Nat):Int:=bif decide ((mL W d).length<=32) then 0 else 8
theorem yd {W:Wd} {d:Nat} (h:∀ j,j<d->Du W j=false):(mL W d).length<=32:=by
 cases d with
 |zero=>exact as3 _
 |succ d=>have:=h d (Nat.lt_succ_self d);unfold Du at this;simpa using this
theorem Oa {W:Wd} {d:Nat} (h:∀ j,j<d->Du W j=false):Lw W d=0:=by unfold Lw;rw [aq2 (yd h)];rfl
theorem J6 {W:Wd} (h:bN W=true) {d:Nat} (hd:d<(mz W).length) (hl:∀ j,j<d->Du W j=false):
 (Du W d=false->iD (mL W d) (jF W d).2=0/\mr (mL W d) (jF W d).2=mL W (d+1))/\(Du W d=true->iD (mL W d) (jF W d).2=8/\Lw W (d+1)=8):=by
 have h1:=d7.2 (Rt h d (by omega) (yd hl))
 have h2:=JI h hd
 have h3:=D8 hd
 have h4:iD (mL W d) (jF W d).2=Lw W (d+1):=by unfold iD Lw;rw [h1,h2,h3];rfl
 constructor
 ·intro q
  have h5:=Oa (d:=d+1) λj hj=>by
   by_cases hjd:j=d
   ·subst hjd;exact q
   ·exact hl j (by omega)
  rw [h5] at h4
  exact ⟨h4,by unfold mr;rw [h4,h3];rfl⟩
 ·intro q
  have h5:Lw W (d+1)=8:=by unfold Du at q;unfold Lw;rw [Bool.not_eq_true'] at q;rw [q];rfl
  exact ⟨h4.trans h5,h5⟩
theorem Er {W:Wd} (h:bN W=true) (hl:∀ j,j<(mz W).length->Du W j=false):kN W=0/\gf W=mL W (mz W).length:=by
 have h1:=yd hl
 rw [Rr] at h1 ⊢
 exact Ct h (aq2 h1)
theorem Dh {W:Wd} (h:bN W=true) {d:Nat} (hd:d<(mz W).length) (hq:Du W d=true):kN W=8/\gf W=[]:=by
 unfold Du at hq
 rw [D8 hd] at hq
 exact yX h (Oj hd (aq0 (by simpa using hq)))
theorem US {X:Wx} (h0:bN (aM X)=true) (h1:cV X.L=true) {d:Nat} (hd:d<(mz (aM X)).length):Rb (aM X) d = !decide ((wC (av X.L) (jF (aM X) d).2.1).1=(jF (aM X) d).1):=by
 have hr:c8 (av X.L)=true:=(lH _).2 (qm (jg h1)).rs.ring
 have hn:¬ (av X.L).length=0:=by
  intro h9
  obtain ⟨s,hs,_⟩:=Md hd
  have h2:=(rF.1 h0).len
  have h3:(aM X).ov.length=X.L.length:=au1 _
  have h4:(av X.L).length=X.L.length:=au1 _
  have h5:=List.length_pos_of_mem hs
  omega
 unfold Rb
 rw [show bV (aM X).ov=av X.L from cN X.L,KT hn,(B7 _ hr hn).2]
theorem Xc {X:Wx} (h:cV X.L=true):cV (cS (aM X).ov)=true:=(ow X.L).trans h
theorem MS (w:World):a7 w aq 1 0 []:=⟨rfl,.inl ⟨rfl,rfl⟩⟩
theorem Bj:(bY (aM mB) (dG 5 0)).w=A7/\(bY (aM mB) (dG 5 0)).e=0/\(bY (aM mB) (dG 5 0)).n.length=0:=by
 have h:bY (aM mB) (dG 5 0)=fc A7:=by
  refine(wy (show bN (aM mB)=true by decide +kernel) (show (1:Int)<=5 by decide) (show (5:Int)<=15 by decide)).trans ?_
  show zI A7 0=fc A7
  have pe:eJ A7.ml 0=0:=by decide +kernel
  unfold zI cW
  rw [pe];rfl
 rw [h];exact ⟨rfl,rfl,rfl⟩
theorem Y1 {l:List Mb} {y g:Nd} (hy:RN y) (hg:RN g) (hno:bu l g.me.1=false):RN (tlN l y g):=by
 have hb:RN ⟨y.me,Mi y [g.me.1],nY (gv y.sc [g.me.1] y.me.1) y.me,gv y.fg [g.me.1] y.me.1⟩:=by
  rw [EY hy,DU hy,DV hy];exact D4 hy _
 refine ⟨hy.me,?_,?_,hb.fg⟩
 ·show RD l y g=fj∨((0<=(RD l y g).1/\(RD l y g).1<16)/\(RD l y g).1≠y.me.1)
  unfold RD
  cases hd:ZE l y g with
  |false=>exact hb.pr
  |true=>
   unfold ZE at hd
   simp only [aq5,ar0] at hd
   rw [cond_true]
   rcases hg.pr with e|⟨e,_⟩
   ·exact .inl e
   ·exact .inr ⟨e,hd.2.2⟩
 ·show R3 l y g=[y.me]∨(1<=(R3 l y g).length/\(R3 l y g).length<=4/\Oth (R3 l y g) y.me.1)
  unfold R3
  cases hc:ZC l y g with
  |false=>exact hb.sc
  |true=>
   unfold ZC at hc
   simp only [aq5,ar0] at hc
   rw [cond_true]
   refine .inr ⟨hc.2.2,av5 (UT _ _ _) hg.len.2,?_⟩
   rcases hg.sc with e|⟨_,_,e⟩
   ·have h9:=hc.2.2
    unfold Wt at h9
    rw [e,List.filter_cons] at h9
    have:ZB l y.me.1 g.me=false:=by unfold ZB;rw [hno];rfl
    rw [this] at h9
    exact ax7 h9 (by simp)
   ·refine ⟨λx hx=>e.may x (at4.1 hx).1,λx hx=>?_,e.nd.filter _⟩
    have:=(at4.1 hx).2
    unfold ZB at this
    rw [aq5,ar0] at this
    exact this.2
theorem Wz {l k:List Mb} {y g:Nd} (hr:Rg k) (hm:y.me∈k) (h:∀ m∈aO y,yv k m) (h2:∀ m∈aO g,yv k m):∀ m∈aO (tlN l y g),yv k m:=λm hx=>by
 have hx:m∈RD l y g::(R3 l y g++gv y.fg [g.me.1] y.me.1):=hx
 rcases ar6.1 hx with hx|hx
 ·unfold RD at hx
  cases hd:ZE l y g with
  |true=>rw [hd] at hx;rw [hx];exact h2 _ ar5
  |false=>
   rw [hd] at hx
   have hx:m=Mi y [g.me.1]:=hx
   rcases K8 y [g.me.1] with e|e
   ·rw [hx,e];exact El hr
   ·rw [hx,e];exact h _ ar5
 ·rcases at9.1 hx with hx|hx
  ·unfold R3 at hx
   cases hc:ZC l y g with
   |true=>
    rw [hc] at hx
    have hx:m∈Wt l y.me.1 g:=hx
    exact h2 _ (as5 _ (List.mem_append_left _ (at4.1 hx).1))
   |false=>
    rw [hc] at hx
    rcases Cj hx with hx|hx
    ·rw [hx];exact sj hr hm
    ·exact h _ (as5 _ (List.mem_append_left _ (pd hx)))
  ·exact h _ (as5 _ (List.mem_append_right _ (pd hx)))
theorem Ec {E:List Nd} {n:Nd} (h:n∈E):(n,aq,aq)∈cS E:=au9.2 ⟨n,h,rfl⟩
theorem RB {E:List Nd} (rn:∀ n∈E,RN n) (inc:E.Pairwise λa b=>a.me.1<b.me.1) (ring:Rg (bV E)) (kn:∀ n∈E,∀ m∈aO n,yv (bV E) m):RK (cS E):=by
 refine ⟨⟨λx hx=>?_,List.pairwise_map.2 inc,by rw [eB];exact ring⟩,λx hx m hm=>?_⟩
 ·obtain ⟨n,hn,rfl⟩:=au9.1 hx;exact rn n hn
 ·obtain ⟨n,hn,rfl⟩:=au9.1 hx;rw [eB];exact kn n hn m hm
theorem RK.rn {E:List Nd} (h:RK (cS E)) {n:Nd} (hn:n∈E):RN n:=h.rs.rn _ (Ec hn)
theorem RK.kno {E:List Nd} (h:RK (cS E)) {n:Nd} (hn:n∈E):∀ m∈aO n,yv (bV E) m:=by
 have:=h.kn _ (Ec hn);rwa [eB] at this
theorem RK.inc {E:List Nd} (h:RK (cS E)):E.Pairwise λa b=>a.me.1<b.me.1:=by
 have:=h.rs.inc
 unfold cS at this;rw [List.pairwise_map] at this
 exact this
theorem RK.ring {E:List Nd} (h:RK (cS E)):Rg (bV E):=by have:=h.rs.ring;rwa [eB] at this
theorem rH {E:List Nd} {n:Int} (h:RK (cS E)) (hl:bu (bV E) n=true):ii E n∈E/\(ii E n).me.1=n:=by
 obtain ⟨m,hm,e⟩:=RY h.ring hl
 obtain ⟨g,hg,rfl⟩:=au9.1 hm
 unfold ii
 cases hf:E.find? λx=>decide (x.me.1=n) with
 |none=>have:=List.find?_eq_none.1 hf g hg;simp [e] at this
 |some y=>exact ⟨List.mem_of_find?_eq_some hf,by simpa using List.find?_some hf⟩
theorem tV (E:List Nd) (n:Int):bV (qh E n)=bV (iC E n):=by unfold qh bV;rw [List.map_map];rfl
theorem LI {E:List Nd} {n:Int} (h:RK (cS E)) (hl:bu (bV E) n=true):RK (cS (qh E n)):=by
 obtain ⟨hg,hgn⟩:=rH h hl
 have hsub:(iC E n).Sublist E:=List.filter_sublist
 have hms:(bV (iC E n)).Sublist (bV E):=hsub.map _
 have hring:Rg (bV (iC E n)):=h.ring.sub hms
 have hdead:bu (bV (iC E n)) (ii E n).me.1=false:=by
  cases hb:bu (bV (iC E n)) (ii E n).me.1 with
  |false=>rfl
  |true=>
   obtain ⟨m,hm,e⟩:=RY hring hb
   obtain ⟨z,hz,rfl⟩:=au9.1 hm
   have:=ap9 (at4.1 hz).2
   exact ax7 (e.trans hgn) this
 have hk:∀ {m:Mb},yv (bV E) m->yv (bV (iC E n)) m:=λhm s hs e=>hm s (hms.subset hs) e
 refine RB (λy hy=>?_) ?_ (by rw [tV];exact hring) (λy hy=>?_)
 ·obtain ⟨z,hz,rfl⟩:=au9.1 hy
  exact Y1 (h.rn (hsub.subset hz)) (h.rn hg) hdead
 ·exact List.pairwise_map.2 (h.inc.sublist hsub)
 ·obtain ⟨z,hz,rfl⟩:=au9.1 hy
  rw [tV]
  exact Wz hring (au9.2 ⟨z,hz,rfl⟩) (λm hm=>hk (h.kno (hsub.subset hz) m hm)) (λm hm=>hk (h.kno hg m hm))
theorem B0:∀ (l:List Tg) (A:List Tg) (n:Nat),RT A->(∀ y∈l,gH y=true)->RT (ux l (A,n)).1
 |[],_,_,h,_=>h
 |x::l,A,n,h,hm=>by
  show RT (ux l (bif decide ((dn A x).length<=32) then (dn A x,n) else (A,n+1))).1
  cases hb:decide ((dn A x).length<=32) with
  |true=>exact B0 l _ _ (nT h (hm x ar5) (ap9 hb)) λy hy=>hm y (as5 _ hy)
  |false=>exact B0 l _ _ h λy hy=>hm y (as5 _ hy)
theorem Hw {s t:Sv} (hs:cU s=true) (ht:cU t=true):cU (SI t s.tb)=true/\(SI t s.tb).no=t.no:=by
 have h1:=(cI.1 hs).2.2.2
 have h2:=cI.1 ht
 obtain ⟨_,e,_⟩:=W7 ht h1
 rw [e]
 exact ⟨cI.2 ⟨h2.1,h2.2.1,h2.2.2.1,d7.2 (B0 _ _ _ (d7.1 h2.2.2.2) (d7.1 h1).may)⟩,rfl⟩
theorem RW.lea {W:Wd} (h:RW W) {n:Int} (he:(pA W n).e=0):RW (pA W n).w:=by
 unfold pA at he ⊢
 cases h1:decide (cE (cS W.ov) n=0) with
 |false=>rw [h1] at he;exact ax7 he (aq0 h1)
 |true=>
  have hc:=(Zs (ap9 h1)).2
  rw [eB] at hc
  have hw:RW {W with sv:=sD W n,ov:=qh W.ov n}:=h.wos n (LI h.ov hc) (tV _ _)
  show RW (bif decide (1<W.ov.length) then _ else _:Wr).w
  cases h2:decide (1<W.ov.length) with
  |false=>exact hw
  |true=>
   obtain ⟨hg,hgn⟩:=rH h.ov hc
   have hRg:Rg (bV W.ov):=h.ov.ring
   have hmem:(ii W.ov n).me∈bV W.ov:=au9.2 ⟨_,hg,rfl⟩
   have h2:=ap9 h2
   obtain ⟨y,hy,hyn⟩:∃ y∈bV W.ov,y≠(ii W.ov n).me:=by
    apply Classical.byContradiction
    intro h9
    have hall:∀ y∈W.ov,y.me=(ii W.ov n).me:=λy hy=>Classical.byContradiction λe=>h9 ⟨y.me,au9.2 ⟨y,hy,rfl⟩,e⟩
    have hp:=List.pairwise_iff_getElem.1 h.ov.inc 0 1 (by omega) h2 (by decide)
    have e0:=hall _ (aw0 (show 0<W.ov.length by omega))
    have e1:=hall _ (aw0 h2)
    rw [e0,e1] at hp;omega
   have hnx:=(IF hRg hmem hy hyn).1
   have hnm:=md hmem
   obtain ⟨ht,htn⟩:=lU (W:=W) (n:=(fV (bV W.ov) (ii W.ov n).me).1) (by
    rw [h.nos]
    obtain ⟨z,hz,e⟩:=au9.1 hnm
    exact au9.2 ⟨z,hz,by rw [e]⟩)
   obtain ⟨hs,hsn⟩:=lU (W:=W) (n:=n) (by rw [h.nos];exact au9.2 ⟨_,hg,hgn⟩)
   have hne:(fV (bV W.ov) (ii W.ov n).me).1≠n:=λe9=>hnx (hRg.no hnm hmem (by rw [e9,hgn]))
   obtain ⟨r1,r2⟩:=Hw (h.sv _ hs) (h.sv _ ht)
   have:=hw.putS (x:=SI (ic W (fV (bV W.ov) (ii W.ov n).me).1) (ic W n).tb) r1 (by
    rw [r2]
    exact au9.2 ⟨_,at4.2 ⟨ht,by show (!decide ((ic W (fV (bV W.ov) (ii W.ov n).me).1).no=n))=true;rw [htn];simpa using hne⟩,rfl⟩)
   exact this
theorem uq {E:List Nd} {m:Mb} {no:Int} (h:RK (cS E)) (he:R4 (cS E) m no=0):
 (0<=m.1/\m.1<16)/\(∀ n∈E,n.me.1≠m.1/\n.me.2≠m.2/\∀ y∈aO n,y.1=m.1->y=m)/\(0<E.length->bu (bV E) no=true)/\
 KS (cS E) m no=jI E ⟨m,fj,[G0 (cS E) m no],[]⟩:=by
 unfold R4 at he
 cases h4:V7 (cS E) m with
 |false=>rw [h4] at he;cases he
 |true=>
  rw [h4] at he
  have he:Tn (cS E) m no=0:=he
  have hN:KS (cS E) m no=jI E ⟨m,fj,[G0 (cS E) m no],[]⟩:=by
   unfold KS Z6
   rw [h4,he,kr];rfl
  unfold V7 at h4
  rw [aq5] at h4
  unfold Tn at he
  cases hT:Vo (cS E) m with
  |true=>rw [hT] at he;cases he
  |false=>
   rw [hT] at he
   refine ⟨iE.1 h4.2,λn hn=>?_,λhl=>?_,hN⟩
   ·obtain ⟨k,hk,ek⟩:=List.mem_iff_getElem.1 hn
    have hk3:k<(cS E).length:=by unfold cS;rw [au1];exact hk
    have hg:((cS E).getD k z3).1=n:=by
     unfold cS
     rw [as6,av0,aq8 hk,ek];rfl
    unfold Vo at hT
    have hb:=aw5.1 hT k (ar7.2 hk3)
    unfold Zt at hb
    rw [hg] at hb
    simp only [Bool.or_eq_true,ar0,not_or] at hb
    refine ⟨hb.1,hb.2.1,λy hy e=>Classical.byContradiction λe9=>hb.2.2 (aw4.2 ⟨y,hy,?_⟩)⟩
    unfold Xi
    rw [aq2 e,aq1 e9];rfl
   ·rw [eB] at he
    have hl3:0<(cS E).length:=by unfold cS;rw [au1];exact hl
    rw [aq2 hl3] at he
    cases hb:bu (bV E) no with
    |true=>rfl
    |false=>rw [hb] at he;cases he
theorem IT {E:List Nd} {x:Nd} (hi:E.Pairwise λa b=>a.me.1<b.me.1) (hx:∀ y∈E,y.me.1≠x.me.1):∃ A B,E=A++B/\(∀ a∈A,a.me.1<x.me.1)/\(∀ b∈B,x.me.1<b.me.1)/\jI E x=A++x::B:=by
 have hi3:(cS E).Pairwise λa b=>a.1.me.1<b.1.me.1:=by unfold cS;exact List.pairwise_map.2 hi
 obtain ⟨A,B,e,hA,hB⟩:=vK (x:=(x,aq,aq)) (cS E) hi3 λy hy=>by
  obtain ⟨n,hn,rfl⟩:=au9.1 hy;exact hx n hn
 have hE:E=nds A++nds B:=by
  have:=aq3 nds e
  rw [kr] at this
  rw [this];unfold nds;exact ax5
 refine ⟨nds A,nds B,hE,λa ha=>?_,λb hb=>?_,?_⟩
 ·obtain ⟨z,hz,rfl⟩:=au9.1 ha;exact hA z hz
 ·obtain ⟨z,hz,rfl⟩:=au9.1 hb;exact hB z hz
 ·have h9:=ik (cS E) (x,aq,aq)
  rw [kr,e,P7 hA hB] at h9
  rw [← h9]
  unfold nds
  rw [ax5,List.map_cons]
theorem rx:∀ (l:List Int) (lo hi:Int),l.Pairwise (· < ·)->(∀ x∈l,lo<=x/\x<hi)->lo<=hi->(l.length:Int)<=hi - lo
 |[],lo,hi,_,_,h=>by simp;omega
 |x::l,lo,hi,hp,hx,_=>by
  have h1:=hx x ar5
  have hp:=List.pairwise_cons.1 hp
  have:=rx l (x+1) hi hp.2 (λy hy=>by have:=hp.1 y hy;have:=(hx y (as5 _ hy)).2;omega) (by omega)
  rw [at5];omega
theorem PM {E:List Nd} {m:Mb} {no:Int} (h:RK (cS E)) (he:R4 (cS E) m no=0):
 RK (cS (KS (cS E) m no))/\(∀ n∈KS (cS E) m no,n∈E∨n.me=m)/\
 (KS (cS E) m no).map (·.me.1)=((E.map (·.me.1)).filter λk=>decide (k<m.1))++m.1::((E.map (·.me.1)).filter λk=>decide (m.1<k)):=by
 obtain ⟨hm,hE,hl,hN⟩:=uq h he
 obtain ⟨x,hx⟩:∃ x:Nd,x=⟨m,fj,[G0 (cS E) m no],[]⟩:=⟨_,rfl⟩
 rw [← hx] at hN
 have hxm:x.me=m:=by rw [hx]
 obtain ⟨A,B,rfl,hA,hB,hP⟩:=IT (x:=x) h.inc λy hy=>by rw [hxm];exact(hE y hy).1
 rw [hN,hP]
 have hring:=h.ring
 have hjs:G0 (cS (A++B)) m no=m/\(A++B).length=0∨G0 (cS (A++B)) m no∈bV (A++B):=by
  unfold G0
  by_cases h0:0<(A++B).length
  ·rw [aq2 (show 0<(cS (A++B)).length by unfold cS;rw [au1];exact h0)]
   obtain ⟨h1,_⟩:=rH h (hl h0)
   refine .inr ?_
   show (br (cS (A++B)) no).1.me∈_
   rw [jj,kr]
   exact au9.2 ⟨_,h1,rfl⟩
  ·rw [aq1 (show ¬ 0<(cS (A++B)).length by unfold cS;rw [au1];exact h0)]
   exact .inl ⟨rfl,by omega⟩
 have hmem:∀ y,y∈bV (A++x::B)↔y=m∨y∈bV (A++B):=λy=>by
  unfold bV
  rw [ax5,List.map_cons,ax5,hxm]
  simp only [at9,ar6]
  constructor
  ·rintro (g|g|g)
   ·exact .inr (.inl g)
   ·exact .inl g
   ·exact .inr (.inr g)
  ·rintro (g|g|g)
   ·exact .inr (.inl g)
   ·exact .inl g
   ·exact .inr (.inr g)
 have hinc:(A++x::B).Pairwise λa b=>a.me.1<b.me.1:=by
  have hp:=List.pairwise_append.1 h.inc
  refine List.pairwise_append.2 ⟨hp.1,List.pairwise_cons.2 ⟨hB,hp.2.1⟩,λa ha b hb=>?_⟩
  rcases ar6.1 hb with rfl|hb
  ·exact hA a ha
  ·exact hp.2.2 a ha b hb
 have hrx:RN x:=by
  rw [hx]
  refine ⟨hm,.inl rfl,?_,⟨as3 _,λy hy=>(by cases hy),λy hy=>(by cases hy),List.Pairwise.nil⟩⟩
  rcases hjs with ⟨e,_⟩|e
  ·exact .inl (by show [G0 (cS (A++B)) m no]=[m];rw [e])
  ·refine .inr ⟨as1 _,by show 1<=4;decide,⟨λy hy=>?_,λy hy=>?_,List.pairwise_singleton _ _⟩⟩
   ·rw [ar4.1 hy];exact hring.nos _ e
   ·rw [ar4.1 hy]
    obtain ⟨n,hn,en⟩:=au9.1 e
    show (G0 (cS (A++B)) m no).1≠m.1
    rw [← en];exact(hE n hn).1
 have hnos:∀ y∈bV (A++x::B),0<=y.1/\y.1<16:=λy hy=>by
  rcases (hmem y).1 hy with rfl|g
  ·exact hm
  ·exact hring.nos y g
 have hR:Rg (bV (A++x::B)):=by
  refine ⟨?_,hnos,?_⟩
  ·have h1:((A++x::B).map (·.me.1)).Pairwise (· < ·):=List.pairwise_map.2 hinc
   have h2:=rx _ 0 16 h1 (λk hk=>by
    obtain ⟨n,hn,rfl⟩:=au9.1 hk
    exact hnos n.me (au9.2 ⟨n,hn,rfl⟩)) (by decide)
   unfold bV
   rw [au1] at h2 ⊢
   omega
  ·have hnd:=hring.nd
   unfold bV at hnd ⊢
   rw [ax5] at hnd
   rw [ax5,List.map_cons,hxm]
   have hp:=List.pairwise_append.1 hnd
   have hmA:∀ y∈A.map (·.me),y.1≠m.1/\y.2≠m.2:=λy hy=>by
    obtain ⟨n,hn,rfl⟩:=au9.1 hy
    have:=hE n (List.mem_append_left _ hn);exact ⟨this.1,this.2.1⟩
   have hmB:∀ y∈B.map (·.me),m.1≠y.1/\m.2≠y.2:=λy hy=>by
    obtain ⟨n,hn,rfl⟩:=au9.1 hy
    have:=hE n (List.mem_append_right _ hn);exact ⟨this.1.symm,this.2.1.symm⟩
   refine List.pairwise_append.2 ⟨hp.1,List.pairwise_cons.2 ⟨hmB,hp.2.1⟩,λa ha b hb=>?_⟩
   rcases ar6.1 hb with rfl|hb
   ·exact hmA a ha
   ·exact hp.2.2 a ha b hb
 refine ⟨RB (λn hn=>?_) hinc hR (λn hn y hy=>?_),λn hn=>?_,?_⟩
 ·rcases at9.1 hn with g|g
  ·exact h.rn (List.mem_append_left _ g)
  ·rcases ar6.1 g with rfl|g
   ·exact hrx
   ·exact h.rn (List.mem_append_right _ g)
 ·have hold:n∈A++B->yv (bV (A++x::B)) y:=λg s hs e=>by
   rcases (hmem s).1 hs with rfl|hs
   ·exact((hE n g).2.2 y hy e.symm).symm
   ·exact h.kno g y hy s hs e
  rcases at9.1 hn with g|g
  ·exact hold (List.mem_append_left _ g)
  ·rcases ar6.1 g with rfl|g
   ·rw [hx] at hy
    have hy:y∈fj::([G0 (cS (A++B)) m no]++[]):=hy
    rcases ar6.1 hy with rfl|hy
    ·exact El hR
    ·rw [av4,ar4] at hy
     rw [hy]
     rcases hjs with ⟨e,_⟩|e
     ·rw [e];exact sj hR ((hmem m).2 (.inl rfl))
     ·exact sj hR ((hmem _).2 (.inr e))
   ·exact hold (List.mem_append_right _ g)
 ·rcases at9.1 hn with g|g
  ·exact .inl (List.mem_append_left _ g)
  ·rcases ar6.1 g with rfl|g
   ·exact .inr hxm
   ·exact .inl (List.mem_append_right _ g)
 ·have a1:(A.map (·.me.1)).filter (λk=>decide (k<m.1))=A.map (·.me.1):=List.filter_eq_self.2 λk hk=>by
   obtain ⟨n,hn,rfl⟩:=au9.1 hk;have:=hA n hn;rw [hxm] at this;exact aq2 this
  have b1:(B.map (·.me.1)).filter (λk=>decide (k<m.1))=[]:=List.filter_eq_nil_iff.2 λk hk=>by
   obtain ⟨n,hn,rfl⟩:=au9.1 hk;have:=hB n hn;rw [hxm] at this;simp;omega
  have a2:(A.map (·.me.1)).filter (λk=>decide (m.1<k))=[]:=List.filter_eq_nil_iff.2 λk hk=>by
   obtain ⟨n,hn,rfl⟩:=au9.1 hk;have:=hA n hn;rw [hxm] at this;simp;omega
  have b2:(B.map (·.me.1)).filter (λk=>decide (m.1<k))=B.map (·.me.1):=List.filter_eq_self.2 λk hk=>by
   obtain ⟨n,hn,rfl⟩:=au9.1 hk;have:=hB n hn;rw [hxm] at this;exact aq2 this
  rw [show (A++B).map (·.me.1)=A.map (·.me.1)++B.map (·.me.1) from ax5,ax4,ax4,a1,b1,a2,b2,av4,List.nil_append,ax5,List.map_cons,hxm]
theorem MX {α:Type} (f:α->Int) (l:List α) (x:α):(fZ f l x).map f=((l.map f).filter λk=>decide (k<f x))++f x::((l.map f).filter λk=>decide (f x<k)):=by
 unfold fZ
 rw [ax5,List.map_cons,List.filter_map,List.filter_map];rfl
theorem RW.come {W:Wd} (h:RW W) {m:Mb} {no:Int} (he:R4 (cS W.ov) m no=0) (hi:pD m.2=true) {s:Sv} (hs:cU s=true) (hn:s.no=m.1):RW {fG W s with ov:=KS (cS W.ov) m no}:=by
 obtain ⟨h1,h2,h3⟩:=PM h.ov he
 refine ⟨h1,h.ml,?_,λy hy=>?_,λn hn9=>?_,h.ho,h.inc⟩
 ·show (fZ (·.no) W.sv s).map (·.no)=(KS (cS W.ov) m no).map (·.me.1)
  rw [MX,h3,h.nos,hn]
 ·rcases mb hy with rfl|g
  ·exact hs
  ·exact h.sv y g
 ·rcases h2 n hn9 with g|g
  ·exact h.en n g
  ·rw [g];exact hi
theorem RW.joi {W:Wd} (h:RW W) {a:Ac} (he:(pv W a).e=0):RW (pv W a).w:=by
 unfold pv at he ⊢
 cases h1:decide (Fh W a=0) with
 |false=>rw [h1] at he;exact ax7 he (aq0 h1)
 |true=>
  have hE:=ap9 h1
  unfold Fh at hE
  cases h3:(decide (64<a.d.size) || !pD a.i) with
  |true=>rw [h3] at hE;cases hE
  |false=>
   rw [h3] at hE
   have hE:R4 (cS W.ov) (a.no,a.i) (zr W a).1=0:=hE
   simp only [Bool.or_eq_false_iff,decide_eq_false_iff_not,Bool.not_eq_false'] at h3
   have hm:=(uq h.ov hE).1
   have hm:0<=a.no/\a.no<16:=hm
   show RW (bif decide (0<W.ov.length) then _ else _:Wr).w
   cases h2:decide (0<W.ov.length) with
   |false=>
    have:=h.come hE h3.2 (s:=⟨a.no,a.d,[]⟩) (cI.2 ⟨hm.1,by show a.no<=15;omega,by show a.d.size<=64;omega,by show eu []=true;rfl⟩) rfl
    exact this
   |true=>
    have hl:0<W.ov.length:=ap9 h2
    have hml:0<(bV W.ov).length:=by unfold bV;rw [au1];exact hl
    have hom:(zr W a).1∈W.sv.map (·.no):=by
     rw [h.nos]
     obtain ⟨n,hn,e⟩:=au9.1 (rJ (l:=bV W.ov) a.i hml)
     exact au9.2 ⟨n,hn,by rw [e];rfl⟩
    obtain ⟨hs,hno⟩:=lU hom
    have hr:=cI.1 (h.sv _ hs)
    have hRT:=d7.1 hr.2.2.2
    have hg:RW (fG W ⟨(pG W a).no,(pG W a).sec,We (pG W a).tb (F1 W a) a.i false⟩):=h.putS (cI.2 ⟨hr.1,hr.2.1,hr.2.2.1,d7.2 (hRT.filter _)⟩) (by show (ic W (zr W a).1).no∈_;rw [hno];exact hom)
    have:=hg.come (m:=(a.no,a.i)) (no:=(zr W a).1) hE h3.2 (s:=⟨a.no,a.d,We (pG W a).tb (F1 W a) a.i true⟩) (cI.2 ⟨hm.1,by show a.no<=15;omega,by show a.d.size<=64;omega,d7.2 (hRT.filter _)⟩) rfl
    exact this
theorem F6 {h:Ho} {x:Id} {l:Int} (he:oT h x l=0):cp (xw h x l)=true:=by
 unfold xw
 rw [aq2 he]
 unfold oT at he
 cases h1:(cp h && gh l 1 1048576) with
 |false=>rw [h1] at he;cases he
 |true=>
  rw [h1] at he
  rw [aq5] at h1
  have he:(bif decide (0<=p9 h x) then (7:Int) else bif decide (h.ws.length=8) then 8 else 0)=0:=he
  cases h2:decide (0<=p9 h x) with
  |true=>rw [h2] at he;cases he
  |false=>
   rw [h2] at he
   have he:(bif decide (h.ws.length=8) then (8:Int) else 0)=0:=he
   cases h3:decide (h.ws.length=8) with
   |true=>rw [h3] at he;cases he
   |false=>
    have R:=fM.1 h1.1
    have hl:=fD.1 h1.2
    have h8:=aq0 h3
    have hno:=ED.1 (show l8 (wk h.ws) x<0 by have:=aq0 h2;show p9 h x<0;omega)
    refine fM.2 ⟨λy hy=>?_,?_,R.hs,R.hn,R.bx,R.no,R.gt,?_,R.hl,R.bl⟩
    ·have hy:y∈h.ws++[(x,l)]:=hy
     rcases at9.1 hy with g|g
     ·exact R.ws y g
     ·rw [ar4.1 g];exact hl
    ·show (wk (h.ws++[(x,l)])).Nodup
     have e:wk (h.ws++[(x,l)])=wk h.ws++[x]:=by unfold wk;rw [ax5];rfl
     rw [e,List.nodup_append]
     refine ⟨R.wn,List.pairwise_singleton _ _,λa ha b hb=>?_⟩
     rw [ar4.1 hb];exact hno a ha
    ·show (h.ws++[(x,l)]).length<=8
     rw [aq7]
     have:=R.wl
     show _+1<=8
     omega
theorem FZ {n g:Int} (he:yL n g=0):cp (wo n g)=true:=by
 unfold yL at he
 cases h1:(gh n 0 15 && gh g 0 15) with
 |false=>rw [h1] at he;cases he
 |true=>
  unfold wo
  rw [h1]
  rw [aq5] at h1
  exact fM.2 ⟨λ_ h=>(by cases h),List.Pairwise.nil,λ_ h=>(by cases h),List.Pairwise.nil,λ_ h=>(by cases h),fD.1 h1.1,fD.1 h1.2,as3 _,as3 _,as3 _⟩
theorem RW.wan {W:Wd} (h:RW W) {a:Ac} (he:(pH W a).e=0):RW (pH W a).w:=by
 unfold pH at he ⊢
 cases h1:decide ((bP W a.no).no<0) with
 |true=>rw [h1] at he;cases he
 |false=>
  rw [h1] at he
  show RW (bif _ then _ else _:Wr).w
  have he:(bif decide (oT (bP W a.no) a.i a.n=0) then fc (dZ W (xw (bP W a.no) a.i a.n)) else dM (oT (bP W a.no) a.i a.n)).e=0:=he
  cases h2:decide (oT (bP W a.no) a.i a.n=0) with
  |false=>rw [h2] at he;exact ax7 he (aq0 h2)
  |true=>exact h.putH (F6 (ap9 h2))
theorem RW.unw {W:Wd} (h:RW W) {a:Ac} (he:(pT W a).e=0):RW (pT W a).w:=by
 unfold pT at he ⊢
 cases h1:decide ((bP W a.no).no<0) with
 |true=>rw [h1] at he;cases he
 |false=>
  rw [h1] at he
  show RW (bif _ then _ else _:Wr).w
  have he:(bif decide (qU (bP W a.no) a.i=0) then fc (dZ W (zQ (bP W a.no) a.i)) else dM (qU (bP W a.no) a.i)).e=0:=he
  cases h2:decide (qU (bP W a.no) a.i=0) with
  |false=>rw [h2] at he;exact ax7 he (aq0 h2)
  |true=>
   have hr:=h.ho _ (pj (aq0 h1)).1
   refine h.putH ?_
   unfold zQ
   rw [h2]
   exact FJ hr
theorem RW.hos {W:Wd} (h:RW W) {n g:Int} (he:(pU W n g).e=0):RW (pU W n g).w:=by
 unfold pU at he ⊢
 cases h1:decide (yL n g=0) with
 |false=>rw [h1] at he;exact ax7 he (aq0 h1)
 |true=>
  rw [h1] at he
  show RW (bif _ then _ else _:Wr).w
  have he:(bif decide (0<=(bP W n).no) then dM 7 else fc (dZ W (wo n g)):Wr).e=0:=he
  cases h2:decide (0<=(bP W n).no) with
  |true=>rw [h2] at he;cases he
  |false=>exact h.putH (FZ (ap9 h1))
theorem RW.ask {W:Wd} (h:RW W) {n:Int} (he:(p8 W n).e=0):RW (p8 W n).w:=by
 unfold p8 at he ⊢
 cases h1:decide ((bP W n).no<0) with
 |true=>rw [h1] at he;cases he
 |false=>exact RW.pstK _ (t:=⟨W,[],0⟩) h _
theorem RW.snd {W:Wd} (h:RW W) {a:Ac} (he:(pO W a).e=0):RW (pO W a).w:=by
 have hp:RW (dJ W a).w:=RW.post (t:=⟨W,[],0⟩) h _ _
 unfold pO at he ⊢
 cases h1:decide ((bP W a.no).no<0) with
 |true=>rw [h1] at he;cases he
 |false=>
  rw [h1] at he
  show RW (bif _ then _ else _:Wr).w
  have he:(bif !decide (yz (bP W a.no) a.l a.d W.ml.now=0) then dM (yz (bP W a.no) a.l a.d W.ml.now) else bif decide (0<(dJ W a).no) then g8 (fI (dJ W a) (ra a.no (dJ W a).no a.d)) else g8 (dJ W a):Wr).e=0:=he
  cases h2:decide (yz (bP W a.no) a.l a.d W.ml.now=0) with
  |false=>rw [h2] at he;exact ax7 he (aq0 h2)
  |true=>
   show RW (bif _ then _ else _:Wr).w
   cases decide (0<(dJ W a).no)<;>exact hp
theorem RW.lnk {W:Wd} (h:RW W) {a:Ac} (he:(pL W a).e=0):RW (pL W a).w:=by
 unfold pL at he ⊢
 cases h1:decide ((bP W a.no).no<0) with
 |true=>rw [h1] at he;cases he
 |false=>
  rw [h1] at he
  show RW (bif _ then _ else _:Wr).w
  have he:(bif decide (a.l.length=1) && (decide ((a.l.getD 0 (0,0#256,0)).1=1) && (dw a.l && gh a.n 1 1048576)) then g8 (dO ⟨W,[],0⟩ (16+a.no) ((bP W a.no).gt,Bz a,cr)) else dM 1:Wr).e=0:=he
  cases h2:(decide (a.l.length=1) && (decide ((a.l.getD 0 (0,0#256,0)).1=1) && (dw a.l && gh a.n 1 1048576))) with
  |false=>rw [h2] at he;cases he
  |true=>exact RW.post (t:=⟨W,[],0⟩) h _ _
theorem x5 {W:Wd} (h:RW W) {e:Int} {m:Ml} (hm:e=0->bU m=true) (he:(bif decide (e=0) then fc {W with ml:=m} else dM e:Wr).e=0):RW (bif decide (e=0) then fc {W with ml:=m} else dM e:Wr).w:=by
 cases h1:decide (e=0) with
 |false=>rw [h1] at he;exact ax7 he (aq0 h1)
 |true=>exact h.mail (hm (ap9 h1))
theorem RW.bri {W:Wd} (h:RW W) {n:Int} (he:(pz W n).e=0):RW (pz W n).w:=by
 unfold pz at he ⊢
 cases h1:decide (mo W.ml n=0) with
 |false=>rw [h1] at he;exact ax7 he (aq0 h1)
 |true=>exact RW.brg (h.mail (KZ (ap9 h1)).1) _
theorem RW.step {W:Wd} {a:Ac} (he:(bY W a).e=0):RW (bY W a).w:=by
 unfold bY at he ⊢
 cases h1:(bN W && (decide (1<=a.k) && decide (a.k<=15))) with
 |false=>rw [h1] at he;cases he
 |true=>
  rw [h1] at he
  rw [aq5,aq5,ar0,ar0] at h1
  obtain ⟨hr,hk1,hk2⟩:=h1
  have h:=lw.1 hr
  have he:(np W a a.k.toNat).e=0:=he
  show RW (np W a a.k.toNat).w
  have hk:a.k.toNat=1∨a.k.toNat=2∨a.k.toNat=3∨a.k.toNat=4∨a.k.toNat=5∨a.k.toNat=6∨a.k.toNat=7∨a.k.toNat=8∨a.k.toNat=9∨a.k.toNat=10∨a.k.toNat=11∨a.k.toNat=12∨a.k.toNat=13∨a.k.toNat=14∨a.k.toNat=15:=by omega
  generalize a.k.toNat=k at he hk ⊢
  rcases hk with rfl|rfl|rfl|rfl|rfl|rfl|rfl|rfl|rfl|rfl|rfl|rfl|rfl|rfl|rfl
  ·exact h.joi he
  ·exact h.lea he
  ·exact h.fal he
  ·exact h.rnd
  ·exact x5 h (λe=>Tv e) he
  ·exact h.hos he
  ·exact h.wan he
  ·exact h.unw he
  ·exact h.ask he
  ·exact h.snd he
  ·exact h.bri he
  ·exact x5 h (λe=>ae0 e) he
  ·exact x5 h (λe=>(KZ e).1) he
  ·exact x5 h (λe=>Uy e) he
  ·exact h.lnk he
theorem TE {l:List Tg} {x:Tg} (h0:0<=x.2.2):jK l x=x∨jK l x∈l:=by
 unfold jK
 cases h:decide (x.2.2<(eT l x.1 x.2.1).2.2) with
 |false=>exact .inl rfl
 |true=>
  have h:=ap9 h
  refine .inr ?_
  unfold eT at h ⊢
  cases hf:l.find? (vC x.1 x.2.1) with
  |none=>rw [hf] at h;have h:x.2.2 < -1:=h;omega
  |some y=>
   have h1:=eO.1 (List.find?_some hf)
   have hm:=List.mem_of_find?_eq_some hf
   have e:(x.1,x.2.1,y.2.2)=y:=Prod.ext h1.1.symm (Prod.ext h1.2.symm rfl)
   show (x.1,x.2.1,y.2.2)∈l
   rw [e];exact hm
theorem H8 {l:List Tg} {x y:Tg} (h0:0<=x.2.2) (h:y∈dn l x):y=x∨y∈l:=by
 rcases lJ.1 h with ⟨h1,_⟩|rfl
 ·exact .inr h1
 ·exact TE h0
theorem CC:∀ (l:List Tg) {A:List Tg} {n:Nat} {y:Tg} (_:∀ x∈l,0<=x.2.2),y∈(ux l (A,n)).1->y∈A∨y∈l
 |[],_,_,_,_,h=>.inl h
 |x::l,A,n,y,h0,h=>by
  have h:y∈(ux l (bif decide ((dn A x).length<=32) then (dn A x,n) else (A,n+1))).1:=h
  cases hb:decide ((dn A x).length<=32) with
  |true=>
   rw [hb] at h
   rcases CC l (λz hz=>h0 z (as5 _ hz)) h with g|g
   ·rcases H8 (h0 x ar5) g with rfl|g
    ·exact .inr ar5
    ·exact .inl g
   ·exact .inr (as5 _ g)
  |false=>
   rw [hb] at h
   rcases CC l (λz hz=>h0 z (as5 _ hz)) h with g|g
   ·exact .inl g
   ·exact .inr (as5 _ g)
def VD (N:List Nt) (x:Tg):Prop:=(∃ n∈N,n.k=2/\n.tr=x)/\(x.2.1.1=1->nG x.1 x.2.1.2.1=true)
theorem VD.more {N M:List Nt} {x:Tg} (h:VD N x):VD (N++M) x:=⟨h.1.imp λn hn=>⟨List.mem_append_left _ hn.1,hn.2⟩,h.2⟩
def fH (W:Wd) (N:List Nt):Prop:=∀ s∈W.sv,∀ x∈s.tb,VD N x
theorem fH.same {W Y:Wd} {N M:List Nt} (h:fH W N) (e:Y.sv=W.sv):fH Y (N++M):=λs hs x hx=>by rw [e] at hs;exact(h s hs x hx).more
theorem fH.put {W:Wd} {N:List Nt} (h:fH W N) {s:Sv} (hs:∀ x∈s.tb,VD N x):fH (fG W s) N:=λt ht x hx=>by
 rcases mb ht with rfl|g
 ·exact hs x hx
 ·exact h t g x hx
theorem xc (t:Pt) (fr:Int) (s:Se):∃ M,(dO t fr s).n=t.n++M/\∀ x∈M,x.k=5:=by
 rcases iL t fr s with ⟨_,e⟩|⟨_,e⟩<;>rw [e]
 ·exact ⟨[],by simp,λx hx=>by cases hx⟩
 ·exact ⟨_,rfl,λx hx=>by rw [ar4.1 hx];rfl⟩
theorem p7:∀ (l:List Se) (t:Pt) (fr:Int),(∃ M,(io t fr l).n=t.n++M/\∀ x∈M,x.k=5)/\(io t fr l).w.sv=t.w.sv/\(io t fr l).w.ho=t.w.ho/\(io t fr l).w.ml.now=t.w.ml.now
 |[],t,_=>⟨⟨[],by show t.n=_;simp,λx hx=>by cases hx⟩,rfl,rfl,rfl⟩
 |s::l,t,fr=>by
  obtain ⟨M1,e1,k1⟩:=xc t fr s
  obtain ⟨⟨M2,e2,k2⟩,e3,e4,e5⟩:=p7 l (dO t fr s) fr
  have hw:=jB t fr s
  refine ⟨⟨M1++M2,by show (io (dO t fr s) fr l).n=_;rw [e2,e1,av3],λx hx=>?_⟩,e3.trans hw.2.1,e4.trans hw.2.2.1,e5.trans hw.2.2.2⟩
  rcases at9.1 hx with g|g
  ·exact k1 x g
  ·exact k2 x g
theorem XV (t:Pt) (fr no wa:Int) (s:Se):∃ M,(Fu t fr no wa s).n=t.n++M/\∀ x∈M,x.k=5∨x.k=3:=by
 obtain ⟨M,e,k⟩:=xc t fr s
 unfold Fu
 cases (decide (0<(dO t fr s).no) && decide (s.2.1.k=1)) with
 |false=>exact ⟨M,e,λx hx=>.inl (k x hx)⟩
 |true=>
  refine ⟨M++[{onN no wa (dO t fr s).no s.2.2 with tm:=(dO t fr s).w.ml.now}],?_,λx hx=>?_⟩
  ·show (dO t fr s).n++[_]=_
   rw [e,av3]
  ·rcases at9.1 hx with g|g
   ·exact .inl (k x g)
   ·rw [ar4.1 g];exact .inr rfl
theorem zB:∀ (l:List Se) (t:Pt) (fr no wa:Int),(∃ M,(pZ t fr no wa l).n=t.n++M/\∀ x∈M,x.k=5∨x.k=3)/\(pZ t fr no wa l).w.sv=t.w.sv/\(pZ t fr no wa l).w.ho=t.w.ho/\(pZ t fr no wa l).w.ml.now=t.w.ml.now
 |[],t,_,_,_=>⟨⟨[],by show t.n=_;simp,λx hx=>by cases hx⟩,rfl,rfl,rfl⟩
 |s::l,t,fr,no,wa=>by
  obtain ⟨M1,e1,k1⟩:=XV t fr no wa s
  obtain ⟨⟨M2,e2,k2⟩,e3,e4,e5⟩:=zB l (Fu t fr no wa s) fr no wa
  have hw:=jB t fr s
  rw [A5] at e3 e4 e5
  refine ⟨⟨M1++M2,by show (pZ (Fu t fr no wa s) fr no wa l).n=_;rw [e2,e1,av3],λx hx=>?_⟩,e3.trans hw.2.1,e4.trans hw.2.2.1,e5.trans hw.2.2.2⟩
  rcases at9.1 hx with g|g
  ·exact k1 x g
  ·exact k2 x g
theorem Kf {s:Sv} {fr:Int} {m:Mg} {now:Int} (h:(dY s fr m now).e=0) {y:Tg} (hy:y∈(dY s fr m now).s.tb):
 y∈s.tb∨(y=nl m now/\(decide (0<(dY s fr m now).l.length) && decide (((dY s fr m now).l.getD 0 RG).2.1.k=5))=true/\(y.2.1.1=1->nG y.1 y.2.1.2.1=true)):=by
 obtain ⟨hb,_⟩:=BD h
 obtain ⟨hs,hm,f0,f1,t0,t1,Fc⟩:=sB.1 hb
 by_cases hk:m.k=1
 ·rw [uu hb hk] at hy
  exact .inl (at4.1 hy).1
 ·have ha:=l7 (kV Fc hk)
  have hn:0<=m.n:=by
   rcases (gA.1 (kV Fc hk)).2 with e|e|e
   ·exact(ha.2.2.2.1 e).1
   ·exact(ha.2.2.2.2.1 e).1
   ·rw [(ha.2.2.2.2.2 e).1];exact Int.le_refl _
  rw [xy hb hk] at h hy ⊢
  rcases pX (pE s now) s fr m now with ⟨g,e⟩|⟨g,g2,e⟩|⟨_,_,e⟩|⟨_,_,e⟩|⟨g,_,e⟩|⟨_,e⟩<;>rw [e] at h hy ⊢
  ·exact .inl (at4.1 hy).1
  ·rcases H8 (show 0<=(nl m now).2.2 by show 0<=min (now+m.n) 1099511627776;omega) hy with rfl|g9
   ·refine .inr ⟨rfl,rfl,λh1=>?_⟩
    have h1:m.t.1=1:=h1
    rcases Q6 g with ⟨_,_,c⟩|⟨a,_,_⟩
    ·exact c
    ·exact ax7 h1 a
   ·exact .inl (at4.1 g9).1
  ·cases h
  ·cases h
  ·exact .inl (at4.1 (at4.1 hy).1).1
  ·cases h
theorem fH.srv {W:Wd} {N:List Nt} (h:fH W N) {s:Sv} (hs:s∈W.sv) (x:Lt) (m:Mg):fH (rX W s x m).w (N++(rX W s x m).n):=by
 unfold rX
 cases he:decide ((dY s x.2.1 m W.ml.now).e=0) with
 |false=>exact h.same rfl
 |true=>
  have he:=ap9 he
  show fH (pZ (bif _ then _ else _) _ _ _ _).w (N++(pZ (bif _ then _ else _) _ _ _ _).n)
  cases hb:(decide (0<(dY s x.2.1 m W.ml.now).l.length) && decide (((dY s x.2.1 m W.ml.now).l.getD 0 RG).2.1.k=5)) with
  |false=>
   obtain ⟨⟨M,e,_⟩,e2,_⟩:=zB (dY s x.2.1 m W.ml.now).l ⟨fG W (dY s x.2.1 m W.ml.now).s,[],0⟩ s.no s.no x.1
   have hp:fH (fG W (dY s x.2.1 m W.ml.now).s) N:=h.put λy hy=>by
    rcases Kf he hy with g|⟨_,g,_⟩
    ·exact h s hs y g
    ·rw [hb] at g;cases g
   exact hp.same e2
  |true=>
   obtain ⟨⟨M,e,_⟩,e2,_⟩:=zB (dY s x.2.1 m W.ml.now).l (fI ⟨fG W (dY s x.2.1 m W.ml.now).s,[],0⟩ (vU s.no (nl m W.ml.now))) s.no s.no x.1
   intro t ht y hy
   rw [cond_true] at ht ⊢
   rw [e2] at ht
   rw [e]
   have hnew:∀ z∈(dY s x.2.1 m W.ml.now).s.tb,VD (N++([{vU s.no (nl m W.ml.now) with tm:=W.ml.now}]++M)) z:=λz hz=>by
    rcases Kf he hz with g|⟨rfl,_,g⟩
    ·exact(h s hs z g).more
    ·exact ⟨⟨{vU s.no (nl m W.ml.now) with tm:=W.ml.now},List.mem_append_right _ (List.mem_append_left _ (ar4.2 rfl)),rfl,rfl⟩,g⟩
   rcases mb ht with rfl|g
   ·exact hnew y hy
   ·exact(h t g y hy).more
theorem fH.ser {W:Wd} {N:List Nt} (h:fH W N) {s:Sv} (hs:s∈W.sv) (x:Lt) (m:Mg):fH (uI W s x m).w (N++(uI W s x m).n):=by
 unfold uI
 cases ZK m with
 |false=>exact h.srv hs x m
 |true=>
  rw [cond_true]
  cases decide (VW (cS W.ov) (BW m) s.no 16=0) with
  |false=>exact h.same rfl
  |true=>
   show fH (bif _ then _ else _:Wr).w (N++(bif _ then _ else _:Wr).n)
   cases decide ((MI (cS W.ov) (BW m) s.no 16).1=s.no) with
   |false=>
    refine h.same ?_
    show (Fu ⟨W,[],0⟩ _ _ _ _).w.sv=W.sv
    rw [A5];exact(jB _ _ _).2.1
   |true=>exact h.srv hs x m
theorem fH.hst {W:Wd} {N:List Nt} (h:fH W N) (y:Ho) (x:Lt) (m:Mg):fH (uH W y x m).w (N++(uH W y x m).n):=by
 unfold uH
 cases he:decide ((eD y x.2.1 m W.ml.now).e=0) with
 |false=>exact h.same rfl
 |true=>
  refine h.same ?_
  show (io (bif _ then _ else _) _ _).w.sv=W.sv
  rw [(p7 _ _ _).2.1]
  cases decide (m.k=1)<;>rfl
theorem fH.brg {W:Wd} {N:List Nt} (h:fH W N) (x:Lt):fH (uE W x).w (N++(uE W x).n):=by
 unfold uE
 cases decide (Bu x.2.2.2=0) with
 |false=>exact h.same rfl
 |true=>
  show fH (bif _ then _ else _:Wr).w (N++(bif _ then _ else _:Wr).n)
  cases h1:decide (0<=(ic W x.2.2.1).no) with
  |true=>exact h.ser (En (ap9 h1)).1 x _
  |false=>
   show fH (bif _ then _ else _:Wr).w (N++(bif _ then _ else _:Wr).n)
   cases (decide (16<=x.2.2.1) && decide (0<=(bP W (x.2.2.1 - 16)).no)) with
   |true=>exact h.hst _ x _
   |false=>exact h.same rfl
theorem fH.sub {W Y:Wd} {N:List Nt} (h:fH W N) (hs:∀ s∈Y.sv,∀ x∈s.tb,∃ t∈W.sv,x∈t.tb):fH Y N:=λs h1 x h2=>by
 obtain ⟨t,ht,hx⟩:=hs s h1 x h2;exact h t ht x hx
theorem fH.nil {W:Wd} {N:List Nt} (h:fH W N):fH W (N++[]):=by rw [av4];exact h
theorem fH.joi {W:Wd} {N:List Nt} (R:RW W) (h:fH W N) {a:Ac} (he:(pv W a).e=0):fH (pv W a).w (N++(pv W a).n):=by
 unfold pv at he ⊢
 cases h1:decide (Fh W a=0) with
 |false=>rw [h1] at he;exact ax7 he (aq0 h1)
 |true=>
  show fH (bif decide (0<W.ov.length) then _ else _:Wr).w (N++(bif decide (0<W.ov.length) then _ else _:Wr).n)
  cases h2:decide (0<W.ov.length) with
  |false=>
   refine fH.nil (N:=N) ?_
   have:fH (fG W ⟨a.no,a.d,[]⟩) N:=h.put λx hx=>by cases hx
   exact this
  |true=>
   have hl:0<W.ov.length:=ap9 h2
   have hml:0<(bV W.ov).length:=by unfold bV;rw [au1];exact hl
   have hom:(zr W a).1∈W.sv.map (·.no):=by
    rw [R.nos]
    obtain ⟨n,hn,e⟩:=au9.1 (rJ (l:=bV W.ov) a.i hml)
    exact au9.2 ⟨n,hn,by rw [e];rfl⟩
   obtain ⟨hs,_⟩:=lU hom
   have hg:∀ x∈(pG W a).tb,VD N x:=h _ hs
   refine fH.nil (N:=N) ?_
   have:fH (fG (fG W ⟨(pG W a).no,(pG W a).sec,We (pG W a).tb (F1 W a) a.i false⟩) ⟨a.no,a.d,We (pG W a).tb (F1 W a) a.i true⟩) N:=
    fH.put (fH.put h λx hx=>hg x (at4.1 hx).1) λx hx=>hg x (at4.1 hx).1
   exact this
theorem fH.lea {W:Wd} {N:List Nt} (R:RW W) (h:fH W N) {n:Int} (he:(pA W n).e=0):fH (pA W n).w (N++(pA W n).n):=by
 unfold pA at he ⊢
 cases h1:decide (cE (cS W.ov) n=0) with
 |false=>rw [h1] at he;exact ax7 he (aq0 h1)
 |true=>
  have hc:=(Zs (ap9 h1)).2
  rw [eB] at hc
  have hw:fH {W with sv:=sD W n} N:=h.sub λs hs x hx=>⟨s,(at4.1 hs).1,hx⟩
  show fH (bif decide (1<W.ov.length) then _ else _:Wr).w (N++(bif decide (1<W.ov.length) then _ else _:Wr).n)
  cases h2:decide (1<W.ov.length) with
  |false=>exact hw.nil
  |true=>
   obtain ⟨hg,hgn⟩:=rH R.ov hc
   have hmem:(ii W.ov n).me∈bV W.ov:=au9.2 ⟨_,hg,rfl⟩
   obtain ⟨ht,_⟩:=lU (W:=W) (n:=(fV (bV W.ov) (ii W.ov n).me).1) (by
    rw [R.nos]
    obtain ⟨z,hz,e⟩:=au9.1 (md hmem)
    exact au9.2 ⟨z,hz,by rw [e];rfl⟩)
   obtain ⟨hs,_⟩:=lU (W:=W) (n:=n) (by rw [R.nos];exact au9.2 ⟨_,hg,hgn⟩)
   have hrs:=(cI.1 (R.sv _ hs)).2.2.2
   have hrt:=R.sv _ ht
   have hp:fH (fG {W with sv:=sD W n} (SI (ic W (fV (bV W.ov) (ii W.ov n).me).1) (ic W n).tb)) N:=hw.put λx hx=>by
    rw [(W7 hrt hrs).2.1] at hx
    rcases CC _ (λz hz=>(iZ.1 ((d7.1 hrs).may z hz)).2.1) hx with g|g
    ·exact h _ ht x g
    ·exact h _ hs x g
   exact fH.nil (N:=N) hp
theorem fH.step {W:Wd} {N:List Nt} (h:fH W N) {a:Ac} (he:(bY W a).e=0):fH (bY W a).w (N++(bY W a).n):=by
 unfold bY at he ⊢
 cases h1:(bN W && (decide (1<=a.k) && decide (a.k<=15))) with
 |false=>rw [h1] at he;cases he
 |true=>
  rw [h1] at he
  rw [aq5,aq5,ar0,ar0] at h1
  obtain ⟨hr,hk1,hk2⟩:=h1
  have R:=lw.1 hr
  have he:(np W a a.k.toNat).e=0:=he
  show fH (np W a a.k.toNat).w (N++(np W a a.k.toNat).n)
  have hk:a.k.toNat=1∨a.k.toNat=2∨a.k.toNat=3∨a.k.toNat=4∨a.k.toNat=5∨a.k.toNat=6∨a.k.toNat=7∨a.k.toNat=8∨a.k.toNat=9∨a.k.toNat=10∨a.k.toNat=11∨a.k.toNat=12∨a.k.toNat=13∨a.k.toNat=14∨a.k.toNat=15:=by omega
  generalize a.k.toNat=k at he hk ⊢
  have mail:∀ {e:Int} {m:Ml},(bif decide (e=0) then fc {W with ml:=m} else dM e:Wr).e=0->fH (bif decide (e=0) then fc {W with ml:=m} else dM e:Wr).w (N++(bif decide (e=0) then fc {W with ml:=m} else dM e:Wr).n):=λ{e m} he9=>by
   cases h9:decide (e=0) with
   |false=>rw [h9] at he9;exact ax7 he9 (aq0 h9)
   |true=>exact h.same rfl
  rcases hk with rfl|rfl|rfl|rfl|rfl|rfl|rfl|rfl|rfl|rfl|rfl|rfl|rfl|rfl|rfl
  ·exact h.joi R he
  ·exact h.lea R he
  ·show fH (pM W a.no).w (N++(pM W a.no).n)
   have he:(pM W a.no).e=0:=he
   unfold pM at he ⊢
   cases h9:decide (cE (cS W.ov) a.no=0) with
   |false=>rw [h9] at he;exact ax7 he (aq0 h9)
   |true=>
    refine fH.nil (N:=N) ?_
    have:fH {W with sv:=sD W a.no} N:=h.sub λs hs x hx=>⟨s,(at4.1 hs).1,hx⟩
    exact this
  ·exact h.same rfl
  ·exact mail he
  ·show fH (pU W a.no a.tO).w (N++(pU W a.no a.tO).n)
   have he:(pU W a.no a.tO).e=0:=he
   unfold pU at he ⊢
   cases h9:decide (yL a.no a.tO=0) with
   |false=>rw [h9] at he;exact ax7 he (aq0 h9)
   |true=>
    rw [h9] at he
    have he:(bif decide (0<=(bP W a.no).no) then dM 7 else fc (dZ W (wo a.no a.tO)):Wr).e=0:=he
    show fH (bif _ then _ else _:Wr).w (N++(bif _ then _ else _:Wr).n)
    cases h8:decide (0<=(bP W a.no).no) with
    |true=>rw [h8] at he;cases he
    |false=>exact h.same rfl
  ·show fH (pH W a).w (N++(pH W a).n)
   have he:(pH W a).e=0:=he
   unfold pH at he ⊢
   cases h9:decide ((bP W a.no).no<0) with
   |true=>rw [h9] at he;cases he
   |false=>
    rw [h9] at he
    have he:(bif decide (oT (bP W a.no) a.i a.n=0) then fc (dZ W (xw (bP W a.no) a.i a.n)) else dM (oT (bP W a.no) a.i a.n):Wr).e=0:=he
    show fH (bif _ then _ else _:Wr).w (N++(bif _ then _ else _:Wr).n)
    cases h8:decide (oT (bP W a.no) a.i a.n=0) with
    |false=>rw [h8] at he;exact ax7 he (aq0 h8)
    |true=>exact h.same rfl
  ·show fH (pT W a).w (N++(pT W a).n)
   have he:(pT W a).e=0:=he
   unfold pT at he ⊢
   cases h9:decide ((bP W a.no).no<0) with
   |true=>rw [h9] at he;cases he
   |false=>
    rw [h9] at he
    have he:(bif decide (qU (bP W a.no) a.i=0) then fc (dZ W (zQ (bP W a.no) a.i)) else dM (qU (bP W a.no) a.i):Wr).e=0:=he
    show fH (bif _ then _ else _:Wr).w (N++(bif _ then _ else _:Wr).n)
    cases h8:decide (qU (bP W a.no) a.i=0) with
    |false=>rw [h8] at he;exact ax7 he (aq0 h8)
    |true=>exact h.same rfl
  ·show fH (p8 W a.no).w (N++(p8 W a.no).n)
   have he:(p8 W a.no).e=0:=he
   unfold p8 at he ⊢
   cases h9:decide ((bP W a.no).no<0) with
   |true=>rw [h9] at he;cases he
   |false=>exact h.same (p7 _ _ _).2.1
  ·show fH (pO W a).w (N++(pO W a).n)
   have he:(pO W a).e=0:=he
   have hp:(dJ W a).w.sv=W.sv:=(jB _ _ _).2.1
   unfold pO at he ⊢
   cases h9:decide ((bP W a.no).no<0) with
   |true=>rw [h9] at he;cases he
   |false=>
    rw [h9] at he
    have he:(bif !decide (yz (bP W a.no) a.l a.d W.ml.now=0) then dM (yz (bP W a.no) a.l a.d W.ml.now) else bif decide (0<(dJ W a).no) then g8 (fI (dJ W a) (ra a.no (dJ W a).no a.d)) else g8 (dJ W a):Wr).e=0:=he
    show fH (bif _ then _ else _:Wr).w (N++(bif _ then _ else _:Wr).n)
    cases h8:decide (yz (bP W a.no) a.l a.d W.ml.now=0) with
    |false=>rw [h8] at he;exact ax7 he (aq0 h8)
    |true=>
     show fH (bif _ then _ else _:Wr).w (N++(bif _ then _ else _:Wr).n)
     cases decide (0<(dJ W a).no)<;>exact h.same hp
  ·show fH (pz W a.n).w (N++(pz W a.n).n)
   have he:(pz W a.n).e=0:=he
   unfold pz at he ⊢
   cases h9:decide (mo W.ml a.n=0) with
   |false=>rw [h9] at he;exact ax7 he (aq0 h9)
   |true=>
    have hW:fH {W with ml:=lu W.ml a.n} N:=h
    exact hW.brg _
  ·exact mail he
  ·exact mail he
  ·exact mail he
  ·show fH (pL W a).w (N++(pL W a).n)
   have he:(pL W a).e=0:=he
   unfold pL at he ⊢
   cases h9:decide ((bP W a.no).no<0) with
   |true=>rw [h9] at he;cases he
   |false=>
    rw [h9] at he
    show fH (bif _ then _ else _:Wr).w (N++(bif _ then _ else _:Wr).n)
    have he:(bif decide (a.l.length=1) && (decide ((a.l.getD 0 (0,0#256,0)).1=1) && (dw a.l && gh a.n 1 1048576)) then g8 (dO ⟨W,[],0⟩ (16+a.no) ((bP W a.no).gt,Bz a,cr)) else dM 1:Wr).e=0:=he
    cases h8:(decide (a.l.length=1) && (decide ((a.l.getD 0 (0,0#256,0)).1=1) && (dw a.l && gh a.n 1 1048576))) with
    |false=>rw [h8] at he;cases he
    |true=>exact h.same (jB _ _ _).2.1
def ie (N:List Nt):List ByteArray:=(N.filter λn=>decide (n.k=1)).map (·.d)
def nQ (N:List Nt) (no:Int):List ByteArray:=(N.filter λn=>decide (n.k=4) && decide (n.no=no)).map (·.d)
def yP (N:List Nt):Prop:=∀ A n B,N=A++n::B->n.k=4->n.d∈ie A
structure OkD (D:List ByteArray) (m:Mg):Prop where
 right:cn m=true
 dat:m.k=1->m.d∈D
def MK (D:List ByteArray) (x:Lt):Prop:=Bu x.2.2.2=0->(Ag x.2.2.2).k=1->(Ag x.2.2.2).d∈D
def PD (D:List ByteArray) (W:Wd):Prop:=∀ x∈W.ml.l,MK D x
theorem rA (N M:List Nt):ie (N++M)=ie N++ie M:=by unfold ie;rw [ax4,ax5]
theorem rj (N M:List Nt) (no:Int):nQ (N++M) no=nQ N no++nQ M no:=by unfold nQ;rw [ax4,ax5]
theorem LL {M:List Nt} (h:∀ x∈M,x.k≠1):ie M=[]:=by
 unfold ie
 rw [List.filter_eq_nil_iff.2 λx hx=>by simpa using h x hx];rfl
theorem LR {M:List Nt} (h:∀ x∈M,x.k≠4) (no:Int):nQ M no=[]:=by
 unfold nQ
 rw [List.filter_eq_nil_iff.2 λx hx=>by simp [h x hx]];rfl
theorem yP.more {N M:List Nt} (h:yP N) (hM:∀ A n B,M=A++n::B->n.k=4->n.d∈ie (N++A)):yP (N++M):=λA n B e hk=>by
 rcases List.append_eq_append_iff.1 e with ⟨A',e1,e2⟩|⟨C,e1,e2⟩
 ·rw [e1];exact hM A' n B e2 hk
 ·cases C with
  |nil=>
   rw [av4] at e1
   have:=hM [] n B (by simpa using e2.symm) hk
   rw [av4,e1] at this;exact this
  |cons c C=>
   have e2:n::B=c::(C++M):=e2
   injection e2 with e3 e4
   subst e3
   exact h A n C e1 hk
structure DW (W:Wd) (N:List Nt):Prop where
 ltr:PD (ie N) W
 get:yP N
 box:∀ h∈W.ho,h.bx=nQ N h.no
 own:∀ n∈N,n.k=4->∃ h∈W.ho,h.no=n.no
theorem MK.text {D:List ByteArray} {m:Mg} (h:OkD D m) {x:Lt} (e:x.2.2.2=eH m):MK D x:=λ_ hk=>by
 rw [e,E8 h.right] at hk ⊢
 exact h.dat hk
theorem MK.mono {D E:List ByteArray} {x:Lt} (h:MK D x) (hs:∀ d∈D,d∈E):MK E x:=λh1 h2=>hs _ (h h1 h2)
theorem PD.post {D:List ByteArray} {t:Pt} (h:PD D t.w) {fr:Int} {s:Se} (hs:OkD D s.2.1):PD D (dO t fr s).w:=by
 rcases iL t fr s with ⟨_,e⟩|⟨_,e⟩<;>rw [e]
 ·intro x hx
  rcases at9.1 hx with g|g
  ·exact h x g
  ·exact MK.text hs (by rw [ar4.1 g])
 ·exact h
theorem PD.pstK {D:List ByteArray}:∀ (l:List Se) {t:Pt} (_:PD D t.w) {fr:Int} (_:∀ s∈l,OkD D s.2.1),PD D (io t fr l).w
 |[],_,h,_,_=>h
 |s::l,_,h,_,hs=>PD.pstK l (h.post (hs s ar5)) λx hx=>hs x (as5 _ hx)
theorem PD.go {D:List ByteArray} {t:Pt} (h:PD D t.w) {fr no wa:Int} {s:Se} (hs:OkD D s.2.1):PD D (Fu t fr no wa s).w:=by rw [A5];exact h.post hs
theorem PD.goK {D:List ByteArray}:∀ (l:List Se) {t:Pt} (_:PD D t.w) {fr no wa:Int} (_:∀ s∈l,OkD D s.2.1),PD D (pZ t fr no wa l).w
 |[],_,h,_,_,_,_=>h
 |s::l,_,h,_,_,_,hs=>PD.goK l (h.go (hs s ar5)) λx hx=>hs x (as5 _ hx)
theorem DW.quiet {W Y:Wd} {N M:List Nt} (h:DW W N) (hM:∀ x∈M,x.k≠1/\x.k≠4) (hl:PD (ie N) Y) (hh:Y.ho=W.ho):DW Y (N++M):=by
 have h1:ie (N++M)=ie N:=by rw [rA,LL (λx hx=>(hM x hx).1),av4]
 refine ⟨by rw [h1];exact hl,h.get.more λA n B e hk=>ax7 hk (hM n (by rw [e];simp)).2,λy hy=>?_,λn hn hk=>?_⟩
 ·rw [hh] at hy
  rw [rj,LR (λx hx=>(hM x hx).2),av4];exact h.box y hy
 ·rcases at9.1 hn with g|g
  ·rw [hh];exact h.own n g hk
  ·exact ax7 hk (hM n g).2
theorem DW.same {W Y:Wd} {N:List Nt} (h:DW W N) (hl:∀ x∈Y.ml.l,x∈W.ml.l) (hh:Y.ho=W.ho):DW Y (N++[]):=h.quiet (λx hx=>by cases hx) (λx hx=>h.ltr x (hl x hx)) hh
theorem Vf {fr:Int} {t:List Tg} {p:Pk} (hp:jD p=true) (ht:eu t=true):∀ x∈Vd fr p (di t p),x.2.1.k=1->x.2.1.d=p.2.2:=λx hx hk=>by
 obtain ⟨o,ho,hx⟩:=List.mem_flatMap.1 hx
 unfold U2 at hx
 by_cases k1:o.k=1
 ·rw [aq2 k1,cond_true,ar4] at hx
  subst hx
  have:o.p=p:=by
   rcases zo (t:=t) (p:=p) with g|⟨o',g1,g2⟩
   ·have:=g o ho;omega
   ·rw [g1,ar4] at ho
    subst ho
    by_cases hf:(eG p).1=2
    ·have h9:=pu (t:=t) (aq2 hf)
     rw [g1] at h9
     injection h9 with h9 _
     rw [h9];rfl
    ·exfalso
     have hh:o∈di t p:=by rw [g1];exact ar4.2 rfl
     unfold di at hh
     rw [aq1 hf] at hh
     cases h2:decide (p.2.1=0)<;>rw [h2] at hh
     ·cases h3:decide ((Bc t (eG p).2.1).length=0)<;>rw [h3] at hh
      ·obtain ⟨z,_,rfl⟩:=au9.1 hh
       exact ax7 k1 (by show ¬ (2:Int)=1;decide)
      ·cases h4:decide (1<p.1.length)<;>rw [h4] at hh
       ·rw [ar4.1 hh] at k1;exact ax7 k1 (by show ¬ (3:Int)=1;decide)
       ·rw [ar4.1 hh] at k1;exact ax7 k1 (by show ¬ (2:Int)=1;decide)
     ·rw [ar4.1 hh] at k1;exact ax7 k1 (by show ¬ (3:Int)=1;decide)
  show o.p.2.2=p.2.2
  rw [this]
 ·rw [aq1 k1,cond_false] at hx
  by_cases k2:o.k=2
  ·rw [aq2 k2,cond_true] at hx
   have hd:=(De hp ht ho k2).2.1
   cases hf:decide ((eG o.p).1=2)<;>rw [hf] at hx
   ·rw [cond_false,ar4] at hx;subst hx;exact hd
   ·rw [cond_true,ar4] at hx;subst hx;exact hd
  ·rw [aq1 k2,cond_false] at hx
   cases hb:decide (o.y=6) && decide (16<=fr)<;>rw [hb] at hx
   ·cases hx
   ·rw [cond_true,ar4] at hx
    subst hx
    exact ax7 hk (by show ¬ (7:Int)=1;decide)
theorem Yv {s:Sv} {fr:Int} {m:Mg} {now:Int} (h:(dY s fr m now).e=0) {D:List ByteArray} (hm:m.k=1->m.d∈D):∀ x∈(dY s fr m now).l,OkD D x.2.1:=λx hx=>by
 obtain ⟨hb,_,_,_,hok⟩:=BD h
 obtain ⟨hs,hr,f0,f1,t0,t1,Fc⟩:=sB.1 hb
 refine ⟨(hok x hx).1,λhk=>?_⟩
 by_cases k1:m.k=1
 ·rw [uu hb k1] at hx
  have hx:x∈F4 (pE s now) fr m:=hx
  unfold F4 at hx
  rcases at9.1 hx with g|g
  ·have:=Vf (oR hr k1) (cI.1 (jV hs now)).2.2.2 x g hk
   rw [this];exact hm k1
  ·cases hb2:decide (16<=fr) && (decide ((eG (uJ m)).1=1) && !(di (pE s now).tb (uJ m)).any (VQ fr)) with
   |false=>rw [hb2] at g;cases g
   |true=>
    rw [hb2,cond_true,ar4] at g
    subst g
    exact ax7 hk (by show ¬ (8:Int)=1;decide)
 ·rw [xy hb k1] at hx
  rcases pX (pE s now) s fr m now with ⟨g,e⟩|⟨g,g2,e⟩|⟨_,_,e⟩|⟨_,_,e⟩|⟨g,_,e⟩|⟨_,e⟩<;>rw [e] at hx
  ·rw [ar4] at hx;subst hx
   have hk:(HH (pE s now).sec m).k=1:=hk
   rw [(Rn g).2.2] at hk
   exact ax7 hk (by show ¬ (3:Int)=1;decide)
  ·rw [ar4] at hx;subst hx
   exact ax7 hk (by show ¬ (5:Int)=1;decide)
  all_goals cases hx
theorem DW.lost {W:Wd} {N:List Nt} (h:DW W N) (x:Lt) (y:Int):DW (mR W x y).w (N++(mR W x y).n):=
 h.quiet (M:=(mR W x y).n) (λn hn=>by
  have hn:n∈[]++[_]:=hn
  rw [List.nil_append,ar4] at hn
  subst hn
  exact ⟨by show (5:Int)≠1;decide,by show (5:Int)≠4;decide⟩) h.ltr rfl
theorem DW.srv {W:Wd} {N:List Nt} (h:DW W N) (s:Sv) (x:Lt) {m:Mg} (hm:m.k=1->m.d∈ie N):DW (rX W s x m).w (N++(rX W s x m).n):=by
 unfold rX
 cases he:decide ((dY s x.2.1 m W.ml.now).e=0) with
 |false=>exact h.lost x _
 |true=>
  have he:=ap9 he
  have hd:=Yv he hm
  show DW (pZ (bif _ then _ else _) _ _ _ _).w (N++(pZ (bif _ then _ else _) _ _ _ _).n)
  cases hb:(decide (0<(dY s x.2.1 m W.ml.now).l.length) && decide (((dY s x.2.1 m W.ml.now).l.getD 0 RG).2.1.k=5)) with
  |false=>
   obtain ⟨⟨M,e,k⟩,_,e3,_⟩:=zB (dY s x.2.1 m W.ml.now).l ⟨fG W (dY s x.2.1 m W.ml.now).s,[],0⟩ s.no s.no x.1
   refine h.quiet (λn hn=>?_) (PD.goK _ (t:=⟨fG W (dY s x.2.1 m W.ml.now).s,[],0⟩) h.ltr hd) e3
   rw [cond_false,e] at hn
   have hn:n∈M:=hn
   rcases k n hn with g|g<;>exact ⟨by rw [g];decide,by rw [g];decide⟩
  |true=>
   obtain ⟨⟨M,e,k⟩,_,e3,_⟩:=zB (dY s x.2.1 m W.ml.now).l (fI ⟨fG W (dY s x.2.1 m W.ml.now).s,[],0⟩ (vU s.no (nl m W.ml.now))) s.no s.no x.1
   refine h.quiet (λn hn=>?_) (PD.goK _ (t:=fI ⟨fG W (dY s x.2.1 m W.ml.now).s,[],0⟩ (vU s.no (nl m W.ml.now))) h.ltr hd) e3
   rw [cond_true,e] at hn
   rcases at9.1 hn with g|g
   ·have g:n∈[]++[_]:=g
    rw [List.nil_append,ar4] at g
    subst g
    exact ⟨by show (2:Int)≠1;decide,by show (2:Int)≠4;decide⟩
   ·rcases k n g with g|g<;>exact ⟨by rw [g];decide,by rw [g];decide⟩
theorem DW.ser {W:Wd} {N:List Nt} (h:DW W N) (s:Sv) (x:Lt) {m:Mg} (hr:cn m=true) (hm:m.k=1->m.d∈ie N):DW (uI W s x m).w (N++(uI W s x m).n):=by
 unfold uI
 cases ZK m with
 |false=>exact h.srv s x hm
 |true=>
  rw [cond_true]
  cases decide (VW (cS W.ov) (BW m) s.no 16=0) with
  |false=>exact h.lost x _
  |true=>
   show DW (bif _ then _ else _:Wr).w (N++(bif _ then _ else _:Wr).n)
   cases decide ((MI (cS W.ov) (BW m) s.no 16).1=s.no) with
   |false=>
    obtain ⟨M,e,k⟩:=XV ⟨W,[],0⟩ x.2.1 s.no x.1 ((MI (cS W.ov) (BW m) s.no 16).1,m,cr)
    refine h.quiet (λn hn=>?_) (PD.go (t:=⟨W,[],0⟩) h.ltr (s:=((MI (cS W.ov) (BW m) s.no 16).1,m,cr)) ⟨hr,hm⟩) (by
     show (Fu ⟨W,[],0⟩ _ _ _ _).w.ho=W.ho
     rw [A5];exact(jB _ _ _).2.2.1)
    have hn:n∈(Fu ⟨W,[],0⟩ x.2.1 s.no x.1 ((MI (cS W.ov) (BW m) s.no 16).1,m,cr)).n:=hn
    rw [e] at hn
    have hn:n∈M:=hn
    rcases k n hn with g|g<;>exact ⟨by rw [g];decide,by rw [g];decide⟩
   |true=>exact h.srv s x hm
theorem Uz {h:Ho} {fr:Int} {m:Mg} {now:Int} (e:(eD h fr m now).e=0) (k1:¬ m.k=1):(eD h fr m now).h.bx=h.bx:=by
 obtain ⟨_,g⟩:=rG e
 cases g with
 |data k q b g=>exact ax7 k k1
 |ask k q b g=>rw [g]
 |ack k b g=>rw [g]
 |push k g=>rw [g];rfl
 |cache k b g=>rw [g]
theorem DW.putH {W:Wd} {N M:List Nt} (h:DW W N) {x y:Ho} (hy:y∈W.ho) (hn:x.no=y.no) (hs:ie M=[]) (hg:yP (N++M)) (hx:x.bx=nQ (N++M) x.no) (ho:∀ n∈M,n.k=4->n.no=x.no) (hl:PD (ie N) (dZ W x)):DW (dZ W x) (N++M):=by
 have h1:ie (N++M)=ie N:=by rw [rA,hs,av4]
 refine ⟨by rw [h1];exact hl,hg,λz hz=>?_,λn hn9 hk=>?_⟩
 ·have hz:z∈fZ (·.no) W.ho x:=hz
  unfold fZ at hz
  have hother:∀ z∈W.ho,z.no≠x.no->z.bx=nQ (N++M) z.no:=λz hz hne=>by
   have:nQ M z.no=[]:=by
    unfold nQ
    rw [List.filter_eq_nil_iff.2 λn hn9=>?_]
    ·rfl
    ·simp only [aq5,ar0,not_and]
     exact λhk e=>hne (e.symm.trans (ho n hn9 hk))
   rw [rj,this,av4];exact h.box z hz
  rcases at9.1 hz with g|g
  ·obtain ⟨g1,g2⟩:=at4.1 g
   exact hother z g1 (by have g3:z.no<x.no:=ap9 g2;omega)
  ·rcases ar6.1 g with rfl|g
   ·exact hx
   ·obtain ⟨g1,g2⟩:=at4.1 g
    exact hother z g1 (by have g3:x.no<z.no:=ap9 g2;omega)
 ·have hxin:x∈(dZ W x).ho:=L8
  rcases at9.1 hn9 with g|g
  ·obtain ⟨z,hz,e⟩:=h.own n g hk
   by_cases hzx:z.no=x.no
   ·exact ⟨x,hxin,by rw [← e,hzx]⟩
   ·refine ⟨z,?_,e⟩
    show z∈fZ (·.no) W.ho x
    unfold fZ
    rcases Int.lt_trichotomy z.no x.no with q|q|q
    ·exact List.mem_append_left _ (at4.2 ⟨hz,aq2 q⟩)
    ·exact ax7 q hzx
    ·exact List.mem_append_right _ (as5 _ (at4.2 ⟨hz,aq2 q⟩))
  ·exact ⟨x,hxin,(ho n g hk).symm⟩
theorem DW.hst {W:Wd} {N:List Nt} (h:DW W N) {y:Ho} (hy:y∈W.ho) (x:Lt) {m:Mg} (hm:m.k=1->m.d∈ie N):DW (uH W y x m).w (N++(uH W y x m).n):=by
 unfold uH
 cases he:decide ((eD y x.2.1 m W.ml.now).e=0) with
 |false=>exact h.lost x _
 |true=>
  have he:=ap9 he
  obtain ⟨_,hno,_⟩:=AE he
  have hs:∀ s∈(eD y x.2.1 m W.ml.now).l,OkD (ie N) s.2.1:=λs hs9=>by
   obtain ⟨a,b,_⟩:=Uc he s hs9
   exact ⟨a,λhk=>ax7 (b.symm.trans hk) (by decide)⟩
  show DW (io (bif _ then _ else _) _ _).w (N++(io (bif _ then _ else _) _ _).n)
  by_cases k1:m.k=1
  ·rw [aq2 k1,cond_true]
   obtain ⟨⟨M,e,k⟩,e2,e3,_⟩:=p7 (eD y x.2.1 m W.ml.now).l (fI ⟨dZ W (eD y x.2.1 m W.ml.now).h,[],0⟩ (uK y.no x.1 m.d)) x.2.2.1
   have hbx:=(U1 he k1).1
   have hw:DW (dZ W (eD y x.2.1 m W.ml.now).h) (N++[{uK y.no x.1 m.d with tm:=W.ml.now}]):=by
    refine h.putH hy hno (LL λn hn=>by rw [ar4.1 hn];show (4:Int)≠1;decide) ?_ ?_ (λn hn _=>by rw [ar4.1 hn];exact hno.symm) h.ltr
    ·refine h.get.more λA n B e9 hk=>?_
     cases A with
     |nil=>
      injection e9 with e9 _
      subst e9
      rw [av4];exact hm k1
     |cons a A=>
      injection e9 with _ e9
      cases A<;>cases e9
    ·rw [hbx,h.box y hy,rj,hno]
     have:nQ [{uK y.no x.1 m.d with tm:=W.ml.now}] y.no=[m.d]:=by
      unfold nQ
      rw [List.filter_cons_of_pos (by show (decide ((4:Int)=4) && decide (y.no=y.no))=true;simp)];rfl
     rw [this]
   have hq:=hw.quiet (M:=M) (Y:=(io (fI ⟨dZ W (eD y x.2.1 m W.ml.now).h,[],0⟩ (uK y.no x.1 m.d)) x.2.2.1 (eD y x.2.1 m W.ml.now).l).w) (λn hn=>by rw [k n hn];exact ⟨by decide,by decide⟩)
    (PD.pstK _ (t:=fI ⟨dZ W (eD y x.2.1 m W.ml.now).h,[],0⟩ (uK y.no x.1 m.d)) hw.ltr λs hs9=>⟨(hs s hs9).right,λhk=>by
     rw [rA];exact List.mem_append_left _ ((hs s hs9).dat hk)⟩) e3
   rw [e]
   rw [av3] at hq
   exact hq
  ·rw [aq1 k1,cond_false]
   obtain ⟨⟨M,e,k⟩,e2,e3,_⟩:=p7 (eD y x.2.1 m W.ml.now).l ⟨dZ W (eD y x.2.1 m W.ml.now).h,[],0⟩ x.2.2.1
   have hw:DW (dZ W (eD y x.2.1 m W.ml.now).h) (N++[]):=by
    refine h.putH hy hno rfl (by rw [av4];exact h.get) ?_ (λn hn=>by cases hn) h.ltr
    rw [av4,Uz he k1,h.box y hy,hno]
   rw [av4] at hw
   have hq:=hw.quiet (M:=M) (Y:=(io ⟨dZ W (eD y x.2.1 m W.ml.now).h,[],0⟩ x.2.2.1 (eD y x.2.1 m W.ml.now).l).w) (λn hn=>by rw [k n hn];exact ⟨by decide,by decide⟩)
    (PD.pstK _ (t:=⟨dZ W (eD y x.2.1 m W.ml.now).h,[],0⟩) hw.ltr hs) e3
   rw [e]
   exact hq
theorem MG {s:ByteArray} (h:Bu s=0):Mk s=true:=by
 unfold Bu at h
 cases hb:Mk s with
 |true=>rfl
 |false=>rw [hb] at h;cases h
theorem DW.brg {W:Wd} {N:List Nt} (h:DW W N) {x:Lt} (hx:MK (ie N) x):DW (uE W x).w (N++(uE W x).n):=by
 unfold uE
 cases he:decide (Bu x.2.2.2=0) with
 |false=>exact h.lost x _
 |true=>
  have he:=ap9 he
  have hr:=Gp (MG he)
  have hm:=hx he
  show DW (bif _ then _ else _:Wr).w (N++(bif _ then _ else _:Wr).n)
  cases h1:decide (0<=(ic W x.2.2.1).no) with
  |true=>exact h.ser _ x hr hm
  |false=>
   show DW (bif _ then _ else _:Wr).w (N++(bif _ then _ else _:Wr).n)
   cases h2:(decide (16<=x.2.2.1) && decide (0<=(bP W (x.2.2.1 - 16)).no)) with
   |true=>
    rw [aq5] at h2
    exact h.hst (pj (by have:=ap9 h2.2;omega)).1 x hm
   |false=>exact h.lost x _
theorem Ip {m:Ml} {p:Int} (h:mo m p=0):∀ x∈(lu m p).l,x∈m.l:=λx hx=>by
 unfold lu at hx
 rw [h] at hx
 exact wP hx
theorem LU {m:Ml} {p:Int} (h:mo m p=0):∀ x∈(yE m p).l,x∈m.l:=λx hx=>by
 unfold yE at hx
 rw [h] at hx
 rcases at9.1 (show x∈m.l.eraseIdx p.toNat++[Rx m p] from hx) with g|g
 ·exact wP g
 ·rw [ar4.1 g];exact sQ h
theorem Zu {m:Ml} {p:Int} (h:MT m p=0):mo m p=0:=by
 unfold MT at h
 by_cases g:mo m p=0
 ·exact g
 ·rw [aq1 g] at h;exact h
theorem Vi {m:Ml} {p:Int} (h:MT m p=0):∀ x∈(XU m p).l,x∈m.l:=λx hx=>by
 unfold XU at hx
 rw [h] at hx
 rcases at9.1 (show x∈m.l++[Rx m p] from hx) with g|g
 ·exact g
 ·rw [ar4.1 g];exact sQ (Zu h)
theorem JC {m:Ml} {t:Int} (h:eJ m t=0):∀ x∈(cW m t).l,x∈m.l:=λx hx=>by
 unfold cW at hx
 rw [h] at hx;exact hx
theorem DW.mail {W:Wd} {N:List Nt} (h:DW W N) {e:Int} {m:Ml} (hm:e=0->∀ x∈m.l,x∈W.ml.l) (he:(bif decide (e=0) then fc {W with ml:=m} else dM e:Wr).e=0):
 DW (bif decide (e=0) then fc {W with ml:=m} else dM e:Wr).w (N++(bif decide (e=0) then fc {W with ml:=m} else dM e:Wr).n):=by
 cases h9:decide (e=0) with
 |false=>rw [h9] at he;exact ax7 he (aq0 h9)
 |true=>exact h.same (hm (ap9 h9)) rfl
theorem Nj {h:Ho} (hr:cp h=true):kR (jp h)=true:=(kA _).2 (.inr ⟨rfl,rfl,(fM.1 hr).no.1,by have:=(fM.1 hr).no.2;show h.no<16;omega⟩)
theorem SX {h:Ho} (hr:cp h=true) {x:Wn} (hx:x∈h.ws) (D:List ByteArray):OkD D (Y9 h x):=by
 have hl:=(fM.1 hr).ws x hx
 exact ⟨(gA.1 (kT (Nj hr) (.inl ⟨rfl,by omega,by omega,rfl⟩))).1,λhk=>ax7 (show (2:Int)=1 from hk) (by decide)⟩
theorem DW.step {W:Wd} {N:List Nt} (h:DW W N) {a:Ac} (he:(bY W a).e=0):DW (bY W a).w (N++(bY W a).n):=by
 unfold bY at he ⊢
 cases h1:(bN W && (decide (1<=a.k) && decide (a.k<=15))) with
 |false=>rw [h1] at he;cases he
 |true=>
  rw [h1] at he
  rw [aq5,aq5,ar0,ar0] at h1
  obtain ⟨hr,hk1,hk2⟩:=h1
  have R:=lw.1 hr
  have he:(np W a a.k.toNat).e=0:=he
  show DW (np W a a.k.toNat).w (N++(np W a a.k.toNat).n)
  have hk:a.k.toNat=1∨a.k.toNat=2∨a.k.toNat=3∨a.k.toNat=4∨a.k.toNat=5∨a.k.toNat=6∨a.k.toNat=7∨a.k.toNat=8∨a.k.toNat=9∨a.k.toNat=10∨a.k.toNat=11∨a.k.toNat=12∨a.k.toNat=13∨a.k.toNat=14∨a.k.toNat=15:=by omega
  generalize a.k.toNat=k at he hk ⊢
  have ml0:∀ {Y:Wd},Y.ml=W.ml->∀ x∈Y.ml.l,x∈W.ml.l:=λe x hx=>by rw [e] at hx;exact hx
  rcases hk with rfl|rfl|rfl|rfl|rfl|rfl|rfl|rfl|rfl|rfl|rfl|rfl|rfl|rfl|rfl
  ·show DW (pv W a).w (N++(pv W a).n)
   have he:(pv W a).e=0:=he
   unfold pv at he ⊢
   cases h9:decide (Fh W a=0) with
   |false=>rw [h9] at he;exact ax7 he (aq0 h9)
   |true=>
    show DW (bif decide (0<W.ov.length) then _ else _:Wr).w (N++(bif decide (0<W.ov.length) then _ else _:Wr).n)
    cases decide (0<W.ov.length)<;>exact h.same (ml0 rfl) rfl
  ·show DW (pA W a.no).w (N++(pA W a.no).n)
   have he:(pA W a.no).e=0:=he
   unfold pA at he ⊢
   cases h9:decide (cE (cS W.ov) a.no=0) with
   |false=>rw [h9] at he;exact ax7 he (aq0 h9)
   |true=>
    show DW (bif decide (1<W.ov.length) then _ else _:Wr).w (N++(bif decide (1<W.ov.length) then _ else _:Wr).n)
    cases decide (1<W.ov.length)<;>exact h.same (ml0 rfl) rfl
  ·show DW (pM W a.no).w (N++(pM W a.no).n)
   have he:(pM W a.no).e=0:=he
   unfold pM at he ⊢
   cases h9:decide (cE (cS W.ov) a.no=0) with
   |false=>rw [h9] at he;exact ax7 he (aq0 h9)
   |true=>exact h.same (ml0 rfl) rfl
  ·exact h.same (ml0 rfl) rfl
  ·exact h.mail (λe=>JC e) he
  ·show DW (pU W a.no a.tO).w (N++(pU W a.no a.tO).n)
   have he:(pU W a.no a.tO).e=0:=he
   unfold pU at he ⊢
   cases h9:decide (yL a.no a.tO=0) with
   |false=>rw [h9] at he;exact ax7 he (aq0 h9)
   |true=>
    rw [h9] at he
    have he:(bif decide (0<=(bP W a.no).no) then dM 7 else fc (dZ W (wo a.no a.tO)):Wr).e=0:=he
    show DW (bif _ then _ else _:Wr).w (N++(bif _ then _ else _:Wr).n)
    cases h8:decide (0<=(bP W a.no).no) with
    |true=>rw [h8] at he;cases he
    |false=>
     have hnew:wo a.no a.tO=⟨a.no,a.tO,[],[],[]⟩:=by
      have:=ap9 h9
      unfold yL at this
      unfold wo
      cases hb:(gh a.no 0 15 && gh a.tO 0 15) with
      |false=>rw [hb] at this;cases this
      |true=>rfl
     have hnone:∀ y∈W.ho,y.no≠a.no:=by
      rcases sN W a.no with ⟨_,_,g⟩|⟨g1,g2⟩
      ·exact g
      ·have:=(fM.1 (R.ho _ g1)).no.1
       exact ax7 this (aq0 h8)
     show DW (dZ W (wo a.no a.tO)) (N++[])
     rw [av4,hnew]
     refine ⟨h.ltr,h.get,λy hy=>?_,λn hn9 hk=>?_⟩
     ·rcases mb hy with rfl|g
      ·show []=nQ N a.no
       unfold nQ
       rw [List.filter_eq_nil_iff.2 λn hn9=>?_]
       ·rfl
       ·simp only [aq5,ar0,not_and]
        intro hk e
        obtain ⟨z,hz,e2⟩:=h.own n hn9 hk
        exact hnone z hz (e2.trans e)
      ·exact h.box y g
     ·obtain ⟨z,hz,e⟩:=h.own n hn9 hk
      have hne:=hnone z hz
      refine ⟨z,?_,e⟩
      show z∈fZ (·.no) W.ho _
      unfold fZ
      rcases Int.lt_trichotomy z.no a.no with q|q|q
      ·exact List.mem_append_left _ (at4.2 ⟨hz,aq2 q⟩)
      ·exact ax7 q hne
      ·exact List.mem_append_right _ (as5 _ (at4.2 ⟨hz,aq2 q⟩))
  ·show DW (pH W a).w (N++(pH W a).n)
   have he:(pH W a).e=0:=he
   unfold pH at he ⊢
   cases h9:decide ((bP W a.no).no<0) with
   |true=>rw [h9] at he;cases he
   |false=>
    rw [h9] at he
    have he:(bif decide (oT (bP W a.no) a.i a.n=0) then fc (dZ W (xw (bP W a.no) a.i a.n)) else dM (oT (bP W a.no) a.i a.n):Wr).e=0:=he
    show DW (bif _ then _ else _:Wr).w (N++(bif _ then _ else _:Wr).n)
    cases h8:decide (oT (bP W a.no) a.i a.n=0) with
    |false=>rw [h8] at he;exact ax7 he (aq0 h8)
    |true=>
     have hin:=(pj (aq0 h9)).1
     have e1:xw (bP W a.no) a.i a.n=WD (bP W a.no) a.i a.n:=by unfold xw;rw [h8];rfl
     show DW (dZ W (xw (bP W a.no) a.i a.n)) (N++[])
     rw [e1]
     exact h.putH hin rfl rfl (by rw [av4];exact h.get) (by rw [av4];exact h.box (bP W a.no) hin) (λn hn=>by cases hn) h.ltr
  ·show DW (pT W a).w (N++(pT W a).n)
   have he:(pT W a).e=0:=he
   unfold pT at he ⊢
   cases h9:decide ((bP W a.no).no<0) with
   |true=>rw [h9] at he;cases he
   |false=>
    rw [h9] at he
    have he:(bif decide (qU (bP W a.no) a.i=0) then fc (dZ W (zQ (bP W a.no) a.i)) else dM (qU (bP W a.no) a.i):Wr).e=0:=he
    show DW (bif _ then _ else _:Wr).w (N++(bif _ then _ else _:Wr).n)
    cases h8:decide (qU (bP W a.no) a.i=0) with
    |false=>rw [h8] at he;exact ax7 he (aq0 h8)
    |true=>
     have hin:=(pj (aq0 h9)).1
     have e1:zQ (bP W a.no) a.i=MP (bP W a.no) a.i:=by unfold zQ;rw [h8];rfl
     show DW (dZ W (zQ (bP W a.no) a.i)) (N++[])
     rw [e1]
     exact h.putH hin rfl rfl (by rw [av4];exact h.get) (by rw [av4];exact h.box (bP W a.no) hin) (λn hn=>by cases hn) h.ltr
  ·show DW (p8 W a.no).w (N++(p8 W a.no).n)
   have he:(p8 W a.no).e=0:=he
   unfold p8 at he ⊢
   cases h9:decide ((bP W a.no).no<0) with
   |true=>rw [h9] at he;cases he
   |false=>
    have hin:=R.ho _ (pj (aq0 h9)).1
    obtain ⟨⟨M,e,k⟩,_,e3,_⟩:=p7 (I6 (bP W a.no) W.ml.now) ⟨W,[],0⟩ (16+a.no)
    refine h.quiet (λn hn=>?_) (PD.pstK _ (t:=⟨W,[],0⟩) h.ltr λs hs=>?_) e3
    ·have hn:n∈(io ⟨W,[],0⟩ (16+a.no) (I6 (bP W a.no) W.ml.now)).n:=hn
     rw [e] at hn
     rw [k n hn];exact ⟨by decide,by decide⟩
    ·obtain ⟨z,hz,rfl⟩:=au9.1 hs
     exact SX hin hz _
  ·show DW (pO W a).w (N++(pO W a).n)
   have he:(pO W a).e=0:=he
   unfold pO at he ⊢
   cases h9:decide ((bP W a.no).no<0) with
   |true=>rw [h9] at he;cases he
   |false=>
    rw [h9] at he
    have he:(bif !decide (yz (bP W a.no) a.l a.d W.ml.now=0) then dM (yz (bP W a.no) a.l a.d W.ml.now) else bif decide (0<(dJ W a).no) then g8 (fI (dJ W a) (ra a.no (dJ W a).no a.d)) else g8 (dJ W a):Wr).e=0:=he
    show DW (bif _ then _ else _:Wr).w (N++(bif _ then _ else _:Wr).n)
    cases h8:decide (yz (bP W a.no) a.l a.d W.ml.now=0) with
    |false=>rw [h8] at he;exact ax7 he (aq0 h8)
    |true=>
     have hsd:cn (YK a.l a.d)=true:=by
      have h8:=ap9 h8
      have hcond:(cp (bP W a.no)=true/\(0<=W.ml.now/\W.ml.now<=1099511627776)/\dw a.l=true):=Classical.byContradiction λhb=>by rw [(ab4 (d:=a.d) hb).1] at h8;cases h8
      have hsz:a.d.size<=64:=Classical.byContradiction λhb=>by rw [(af9 hcond hb).1] at h8;cases h8
      have:=mW (p:=(a.l,64,a.d)) (ey.2 ⟨(eQ _).1 hcond.2.2,by show (0:Int)<=64;decide,by show (64:Int)<=64;decide,hsz⟩)
      exact this
     show DW (bif decide (0<(dJ W a).no) then g8 (fI (dJ W a) (ra a.no (dJ W a).no a.d)) else g8 (dJ W a):Wr).w (N++(bif decide (0<(dJ W a).no) then g8 (fI (dJ W a) (ra a.no (dJ W a).no a.d)) else g8 (dJ W a):Wr).n)
     have hlast:0<=W.ml.last:=((dP W.ml).1 R.ml).2.1.1
     rcases iL ⟨W,[],0⟩ (16+a.no) (J0 (bP W a.no) a.l a.d W.ml.now) with ⟨_,e⟩|⟨_,e⟩
     ·have e:dJ W a=_:=e
      have hno:(dJ W a).no=W.ml.last+1:=by rw [e]
      rw [aq2 (show 0<(dJ W a).no by rw [hno];omega),cond_true]
      have hn:(g8 (fI (dJ W a) (ra a.no (dJ W a).no a.d))).n=[{ra a.no (dJ W a).no a.d with tm:=(dJ W a).w.ml.now}]:=by
       show (dJ W a).n++[_]=[_]
       rw [e];rfl
      have hs:ie (N++(g8 (fI (dJ W a) (ra a.no (dJ W a).no a.d))).n)=ie N++[a.d]:=by
       rw [rA,hn];rfl
      refine ⟨?_,?_,λy hy=>?_,λn hn9 hk=>?_⟩
      ·rw [hs]
       refine PD.post (t:=⟨W,[],0⟩) (λx hx=>MK.mono (h.ltr x hx) λd hd=>List.mem_append_left _ hd) ⟨hsd,λ_=>?_⟩
       exact List.mem_append_right _ (ar4.2 rfl)
      ·rw [hn]
       exact h.get.more λA n B e9 hk=>by
        cases A with
        |nil=>injection e9 with e9 _;subst e9;exact ax7 (show (1:Int)=4 from hk) (by decide)
        |cons c A=>injection e9 with _ e9;cases A<;>cases e9
      ·have hy:y∈W.ho:=by
        have:(g8 (fI (dJ W a) (ra a.no (dJ W a).no a.d))).w.ho=W.ho:=(jB ⟨W,[],0⟩ _ _).2.2.1
        rw [this] at hy;exact hy
       rw [hn,rj,LR (M:=[{ra a.no (dJ W a).no a.d with tm:=(dJ W a).w.ml.now}]) (λx hx=>by rw [ar4.1 hx];show (1:Int)≠4;decide),av4]
       exact h.box y hy
      ·have hho:(g8 (fI (dJ W a) (ra a.no (dJ W a).no a.d))).w.ho=W.ho:=(jB ⟨W,[],0⟩ _ _).2.2.1
       rw [hn] at hn9
       rw [hho]
       rcases at9.1 hn9 with g|g
       ·exact h.own n g hk
       ·rw [ar4.1 g] at hk;exact ax7 (show (1:Int)=4 from hk) (by decide)
     ·have e:dJ W a=_:=e
      have hno:(dJ W a).no=0:=by rw [e];rfl
      rw [aq1 (show ¬ 0<(dJ W a).no by rw [hno];omega),cond_false]
      refine h.quiet (λn hn=>?_) ?_ ((jB ⟨W,[],0⟩ _ _).2.2.1)
      ·have hn:n∈(dJ W a).n:=hn
       rw [e] at hn
       have hn:n∈[]++[_]:=hn
       rw [List.nil_append,ar4] at hn
       subst hn
       exact ⟨by show (5:Int)≠1;decide,by show (5:Int)≠4;decide⟩
      ·show PD (ie N) (dJ W a).w
       rw [e];exact h.ltr
  ·show DW (pz W a.n).w (N++(pz W a.n).n)
   have he:(pz W a.n).e=0:=he
   unfold pz at he ⊢
   cases h9:decide (mo W.ml a.n=0) with
   |false=>rw [h9] at he;exact ax7 he (aq0 h9)
   |true=>
    have h9:=ap9 h9
    have hW:DW {W with ml:=lu W.ml a.n} N:=by
     have:=h.same (Y:={W with ml:=lu W.ml a.n}) (Ip h9) rfl
     rwa [av4] at this
    exact hW.brg (h.ltr _ (sQ h9))
  ·exact h.mail (λe=>Vi e) he
  ·exact h.mail (λe=>Ip e) he
  ·exact h.mail (λe=>LU e) he
  ·show DW (pL W a).w (N++(pL W a).n)
   have he:(pL W a).e=0:=he
   unfold pL at he ⊢
   cases h9:decide ((bP W a.no).no<0) with
   |true=>rw [h9] at he;cases he
   |false=>
    rw [h9] at he
    show DW (bif _ then _ else _:Wr).w (N++(bif _ then _ else _:Wr).n)
    have he:(bif decide (a.l.length=1) && (decide ((a.l.getD 0 (0,0#256,0)).1=1) && (dw a.l && gh a.n 1 1048576)) then g8 (dO ⟨W,[],0⟩ (16+a.no) ((bP W a.no).gt,Bz a,cr)) else dM 1:Wr).e=0:=he
    cases h8:(decide (a.l.length=1) && (decide ((a.l.getD 0 (0,0#256,0)).1=1) && (dw a.l && gh a.n 1 1048576))) with
    |false=>rw [h8] at he;cases he
    |true=>
     simp only [aq5,ar0] at h8
     obtain ⟨hl1,_,hre,hin⟩:=h8
     have hE:=(eQ _).1 hre
     have hmem:a.l.getD 0 (0,0#256,0)∈a.l:=by
      rw [as6,aq8 (by omega)];exact aw0 _
     have hb:=fD.1 hin
     have hok:OkD (ie N) (Bz a):=⟨(gA.1 (kT (hE.2.2 _ hmem) (.inl ⟨rfl,by omega,by omega,rfl⟩))).1,λhk=>ax7 (show (2:Int)=1 from hk) (by decide)⟩
     obtain ⟨M,e,k⟩:=xc ⟨W,[],0⟩ (16+a.no) ((bP W a.no).gt,Bz a,cr)
     refine h.quiet (λn hn=>?_) (PD.post (t:=⟨W,[],0⟩) h.ltr hok) (jB ⟨W,[],0⟩ _ _).2.2.1
     have hn:n∈(dO ⟨W,[],0⟩ (16+a.no) ((bP W a.no).gt,Bz a,cr)).n:=hn
     rw [e] at hn
     rw [k n hn];exact ⟨by decide,by decide⟩
theorem YZ {W:Wd} (h:RW W):BdW W:=by
 have hrn:∀ n∈W.ov,RN n:=λn hn=>h.ov.rs.rn (n,aq,aq) (au9.2 ⟨n,hn,rfl⟩)
 have hov:W.ov.length<=16:=by
  have hinc:=h.ov.rs.inc
  unfold cS at hinc
  rw [List.pairwise_map] at hinc
  have:=rx (W.ov.map λn=>n.me.1) 0 16 (List.pairwise_map.2 hinc) (λx hx=>by obtain ⟨n,hn,rfl⟩:=au9.1 hx;exact(hrn n hn).me) (by decide)
  rw [au1] at this;omega
 have hsv:W.sv.length=W.ov.length:=by have:=aq3 List.length h.nos;rwa [au1,au1] at this
 have hho:W.ho.length<=16:=by
  have:=rx (W.ho.map λy=>y.no) 0 16 (List.pairwise_map.2 h.inc) (λx hx=>by obtain ⟨y,hy,rfl⟩:=au9.1 hx;have:=(fM.1 (h.ho y hy)).no;omega) (by decide)
  rw [au1] at this;omega
 refine ⟨by omega,λs hs=>?_,by omega,λn hn=>?_,by omega,λy hy=>?_,?_⟩
 ·have:=(d7.1 (cI.1 (h.sv s hs)).2.2.2).len;omega
 ·have h1:=(hrn n hn).len;have h2:=(hrn n hn).fg.1;omega
 ·have R:=fM.1 (h.ho y hy);have h1:=R.wl;have h2:=R.hl;have h3:=R.bl;omega
 ·have:=((dP W.ml).1 h.ml).1;omega
instance:Inhabited Wx:=⟨mB⟩
theorem A4 {l:List Tg} (h:mn l) {x y:Tg} (hy:y∈l) (hs:jG y x) (hu:x.2.2<y.2.2):jK l x=y:=by
 have e:=lz h hy hs
 unfold jK
 rw [e,aq2 hu]
 exact Prod.ext hs.1.symm (Prod.ext hs.2.symm rfl)
theorem PN {l:List Tg} (h:mn l) {c:Int} (hc:0<=c) (x:Tg):(dn l x).filter (λy=>decide (c<y.2.2))=bif decide (c<x.2.2) then dn (l.filter λy=>decide (c<y.2.2)) x else l.filter λy=>decide (c<y.2.2):=by
 have hf:mn (l.filter λy=>decide (c<y.2.2)):=h.filter _
 by_cases hx:c<x.2.2
 ·rw [aq2 hx]
  show _=dn _ x
  have eb:jK (l.filter λy=>decide (c<y.2.2)) x=jK l x:=by
   refine Prod.ext ((jY _ x).1.trans (jY l x).1.symm) (Prod.ext ((jY _ x).2.trans (jY l x).2.symm) ?_)
   rw [nN,nN]
   rcases nF h x with ⟨e,he,hs,e9⟩|⟨hn,e9⟩
   ·by_cases hp:c<e.2.2
    ·rw [e9,lz hf (at4.2 ⟨he,aq2 hp⟩) hs]
    ·rw [e9,oW λy hy hys=>?_]
     ·show max (-1) x.2.2=max e.2.2 x.2.2;omega
     ·obtain ⟨y1,y2⟩:=at4.1 hy
      have:=JO h y1 he (hys.trans hs.symm)
      subst this
      exact hp (ap9 y2)
   ·rw [e9,oW λy hy hys=>hn y (at4.1 hy).1 hys]
  refine yc ((iY h x).filter _) (iY hf x) λy=>?_
  rw [at4,lJ,lJ,eb,at4,ar0]
  constructor
  ·rintro ⟨h1|h1,h2⟩
   ·exact .inl ⟨⟨h1.1,h2⟩,h1.2⟩
   ·exact .inr h1
  ·rintro (⟨⟨h1,h2⟩,h3⟩|h1)
   ·exact ⟨.inl ⟨h1,h3⟩,h2⟩
   ·refine ⟨.inr h1,?_⟩
    rw [h1,nN];omega
 ·rw [aq1 hx]
  show _=l.filter _
  refine yc ((iY h x).filter _) hf λy=>?_
  rw [at4,lJ,at4,ar0]
  constructor
  ·rintro ⟨h1|h1,h2⟩
   ·exact ⟨h1.1,h2⟩
   ·rcases nF h x with ⟨e,he,hs,e9⟩|⟨hn,e9⟩
    ·have hu:y.2.2=max e.2.2 x.2.2:=by rw [h1,nN,e9]
     have:jK l x=e:=A4 h he hs (by omega)
     rw [h1,this]
     exact ⟨he,by rw [h1,this] at h2;exact h2⟩
    ·have hu:y.2.2=max (-1) x.2.2:=by rw [h1,nN,e9];rfl
     omega
  ·rintro ⟨h1,h2⟩
   refine ⟨?_,h2⟩
   by_cases hs:jG y x
   ·exact .inr (A4 h h1 hs (by omega)).symm
   ·exact .inl ⟨h1,hs⟩
theorem Av {c:Int} (hc:0<=c):∀ (l:List Tg) {A:List Tg},mn A->(l.foldl dn A).filter (λy=>decide (c<y.2.2))=(l.filter λy=>decide (c<y.2.2)).foldl dn (A.filter λy=>decide (c<y.2.2))
 |[],_,_=>rfl
 |x::l,A,h=>by
  rw [List.foldl_cons,Av hc l (iY h x),PN h hc]
  by_cases hx:c<x.2.2
  ·rw [List.filter_cons_of_pos (by exact aq2 hx),aq2 hx];rfl
  ·rw [List.filter_cons_of_neg (by rw [aq1 hx];decide),aq1 hx];rfl
theorem Ix (W:Wd):iV W=((FW W.sv).filter λy=>decide (W.ml.now<y.2.2)).foldl dn []:=by
 unfold iV
 rw [RX]
 refine aq3 (λl=>List.foldl dn [] l) ?_
 unfold FW Wq
 rw [List.flatMap_map,List.filter_flatMap]
 rfl
theorem ve {W Y:Wd} (h0:0<=W.ml.now) (hn:W.ml.now<=Y.ml.now) (hs:Y.sv=W.sv):iV Y=(iV W).filter λy=>decide (Y.ml.now<y.2.2):=by
 rw [Ix,Ix,Av (by omega) _ List.Pairwise.nil,hs]
 show _=List.foldl dn [] _
 rw [List.filter_filter]
 refine aq3 (λl=>List.foldl dn [] l) (List.filter_congr λy _=>?_)
 rw [aw6,aq5,ar0,ar0]
 omega
theorem NG (W:Wd):mn (iV W):=by unfold iV;exact Qn _ _
theorem JU {W Y:Wd} (h0:0<=W.ml.now) (hn:W.ml.now<=Y.ml.now) (hs:Y.sv=W.sv) {y:Tg} (hy:y∈iV Y):eT (iV W) y.1 y.2.1=y/\Y.ml.now<y.2.2:=by
 rw [ve h0 hn hs] at hy
 obtain ⟨h1,h2⟩:=at4.1 hy
 exact ⟨lz (NG W) h1 ⟨rfl,rfl⟩,ap9 h2⟩
theorem Km {W Y:Wd} (h0:0<=W.ml.now) (hn:W.ml.now<=Y.ml.now) (hs:Y.sv=W.sv):(iV Y).length<=(iV W).length:=by
 rw [ve h0 hn hs];exact au2 _ _
theorem ut {L:List N3} (hs:cV L=true) {y x:N3} (hy:y∈L) (hme:x.1.me=y.1.me) (hpr:x.1.pr=y.1.pr) (hsc:x.1.sc=y.1.sc) (hRN:RN x.1) (hfg:∀ m∈x.1.fg,m∈y.1.fg):
 cV (fm L x)=true/\av (fm L x)=av L:=by
 have hrk:=tI (jg hs)
 obtain ⟨p1,p2,p3⟩:=hrk.rs.put (x:=x) hy hme.symm hRN
 have hlen:(fm L x).length=L.length:=by have h9:=aq3 List.length p2;simpa [av] using h9
 have node:∀ u∈fm L x,∃ z∈L,u.1.me=z.1.me/\u.1.pr=z.1.pr/\u.1.sc=z.1.sc/\∀ m∈u.1.fg,m∈z.1.fg:=λu hu=>by
  rcases Hx hu with h9|h9
  ·rw [h9];exact ⟨y,hy,hme,hpr,hsc,hfg⟩
  ·exact ⟨u,h9,rfl,rfl,rfl,λm hm=>hm⟩
 have hRK:RK (fm L x):=⟨p1,λu hu m hm=>by
  obtain ⟨z,hz,_,q2,q3,q4⟩:=node u hu
  rw [p2]
  refine hrk.kn z hz m ?_
  unfold aO at hm ⊢
  rcases ar6.1 hm with h9|h9
  ·rw [h9,q2];exact ar5 ..
  ·rcases at9.1 h9 with h8|h8
   ·rw [q3] at h8;exact as5 _ (List.mem_append_left _ h8)
   ·exact as5 _ (List.mem_append_right _ (q4 m h8))⟩
 refine ⟨O6 hRK.ov (λh1 u hu=>?_) λhn u hu=>?_,p2⟩
 ·obtain ⟨z,hz,q1,q2,q3,_⟩:=node u hu
  obtain ⟨r1,r2⟩:=iT hs (by omega) hz
  exact ⟨q2.trans r1,by rw [q3,q1];exact r2⟩
 ·obtain ⟨z,hz,q1,q2,q3,_⟩:=node u hu
  obtain ⟨r1,r2⟩:=iB hs (by omega) hz
  exact ⟨by rw [p2,q1,q2];exact r1,by rw [p2,q1,q3,hlen];exact r2⟩
theorem Ah {L K:List N3} (h:nds K=nds L):cV K=cV L:=by rw [← ow K,h,ow]
theorem Eg (l:List Mb) (m:Mb):∀ i,jz l (fV l m) i=jz l m (i+1)
 |0=>rfl
 |i+1=>by show fV l (jz l (fV l m) i)=fV l (jz l m (i+1));rw [Eg l m i]
theorem oi (l:List Mb) (m:Mb):∀ k,eV l m (k+1)=fV l m::eV l (fV l m) k
 |0=>rfl
 |k+1=>by rw [jN,oi l m k,jN,List.cons_append,Eg]
theorem CP {l:List Mb} (h:Rg l) {m:Mb} (hm:m∈l) {i j:Nat} (hij:i<j) (hj:j<i+l.length):(jz l m i).1≠(jz l m j).1:=λe=>
 PO h hm hij hj (h.no (oE hm i) (oE hm j) e)
theorem wY {l:List Mb} {m:Mb} {k:Nat} {x:Mb} (hx:x∈eV l m k):∃ i,i<k/\x=jz l m (i+1):=by
 unfold eV at hx
 obtain ⟨i,hi,rfl⟩:=au9.1 hx
 exact ⟨i,ar7.1 hi,rfl⟩
theorem zY {l:List Mb} (h:Rg l) {m:Mb} (hm:m∈l):∀ k,k<l.length->(eV l m k).foldl eE []=eV l m (min k 4)
 |0,_=>rfl
 |k+1,hk=>by
  rw [jN,List.foldl_append,zY h hm k (by omega)]
  show eE _ _=_
  unfold eE
  rw [jl]
  by_cases h4:k<4
  ·rw [aq2 (by omega),show min k 4=k from by omega,show min (k+1) 4=k+1 from by omega,jN]
   have:nD (eV l m k) (jz l m (k+1)).1=false:=by
    rw [← Bool.not_eq_true]
    intro h9
    unfold nD at h9
    obtain ⟨x,hx,e⟩:=aw4.1 h9
    obtain ⟨i,hi,rfl⟩:=wY hx
    exact CP h hm (i:=i+1) (j:=k+1) (by omega) (by omega) (ap9 e)
   rw [this];rfl
  ·rw [aq1 (by omega),show min k 4=4 from by omega,show min (k+1) 4=4 from by omega];rfl
theorem Jx (a:Mb) (l:List Mb):(a::a::l).foldl eE []=(a::l).foldl eE []:=by
 have e1:eE [] a=[a]:=rfl
 have e2:eE [a] a=[a]:=by unfold eE nD;simp
 rw [List.foldl_cons,List.foldl_cons,List.foldl_cons,e1,e2]
theorem Ey {l:List Mb} (h:Rg l) {m:Mb} (hm:m∈l) {k:Nat} (hk:k<l.length):dH m.1 (eV l m k)=eV l m k/\dH m.1 (eV l m k++[m])=eV l m k:=by
 have ha:∀ x∈eV l m k,decide (x.1≠m.1)=true:=λx hx=>by
  obtain ⟨i,hi,rfl⟩:=wY hx
  exact aq2 λe=>CP h hm (i:=0) (j:=i+1) (by omega) (by omega) e.symm
 unfold dH
 refine ⟨by have h9:=List.takeWhile_append_of_pos (l₂:=[]) ha;rwa [av4,List.takeWhile_nil,av4] at h9,?_⟩
 rw [List.takeWhile_append_of_pos ha,List.takeWhile_cons_of_neg (by simp),av4]
theorem GN {l:List Mb} (h:Rg l) {n s:Nd} (hm:n.me∈l) (h2:2<=l.length) (e1:s.me=fV l n.me) (e2:s.pr=n.me) (e3:s.sc=eV l s.me (min (l.length - 1) 4)):sI n s=eV l n.me (min (l.length - 1) 4):=by
 unfold sI fK
 rw [Wm (s:=s) (me:=n.me) (aq2 (by rw [e2]))]
 have er:s.me::s.sc=eV l n.me (min (l.length - 1) 4+1):=by rw [oi,e3,e1]
 have et:∃ c,c<l.length/\1<=c/\min c 4=min (l.length - 1) 4/\dH n.me.1 (s.me::s.sc)=eV l n.me c:=by
  rw [er]
  by_cases h5:l.length - 1<=4
  ·refine ⟨l.length - 1,by omega,by omega,by omega,?_⟩
   have hl:jz l n.me (min (l.length - 1) 4+1)=n.me:=by
    rw [show min (l.length - 1) 4+1=l.length from by omega];exact Kq h hm
   rw [jN,hl,show min (l.length - 1) 4=l.length - 1 from by omega]
   exact(Ey h hm (by omega)).2
  ·refine ⟨5,by omega,by omega,by omega,?_⟩
   rw [show min (l.length - 1) 4+1=5 from by omega]
   exact(Ey h hm (by omega)).1
 obtain ⟨c,c1,c2,c3,c4⟩:=et
 have hn1:decide (s.me.1≠n.me.1)=true:=aq2 λe=>by
  rw [e1] at e
  exact CP h hm (i:=0) (j:=1) (by omega) (by omega) e.symm
 have e5:dH n.me.1 (s.me::s.me::s.sc)=s.me::eV l n.me c:=by
  rw [← c4]
  unfold dH
  rw [List.takeWhile_cons_of_pos (p:=λx:Mb=>decide (x.1≠n.me.1)) hn1]
 obtain ⟨d,rfl⟩:∃ d,c=d+1:=⟨c - 1,by omega⟩
 rw [e5,oi,e1]
 unfold jv
 rw [Jx,← oi,zY h hm _ c1,c3]
 unfold nY
 rw [jl,aq1 (by omega)];rfl
theorem AD {l:List Mb} {n:Nd} (h:Rg l) {m:Mb} (hm:m∈l):eK (mu l n) m=false:=by
 rw [← Bool.not_eq_true]
 intro h9
 have h8:=rU.1 h9
 unfold mu at h8
 obtain ⟨x,hx,e⟩:=au9.1 h8
 have h7:=(at4.1 hx).2
 rw [e,Iw h hm] at h7
 cases h7
theorem Hi {L:List N3} (hs:cV L=true) {y:N3} (hy:y∈L):(cD (av L) y.1).me=y.1.me/\(cD (av L) y.1).pr=y.1.pr/\(cD (av L) y.1).sc=y.1.sc/\RN (cD (av L) y.1)/\∀ m∈(cD (av L) y.1).fg,m∈y.1.fg:=by
 have hrk:=tI (jg hs)
 have hr:=hrk.rs.rn _ hy
 have hg:=hrk.rs.ring
 have hme:y.1.me∈av L:=au9.2 ⟨y,hy,rfl⟩
 have hp0:0<(av L).length:=gP hme
 have hml:(av L).length=L.length:=au1 _
 have key:∀ m∈y.1.sc,m∈av L:=λm hm=>by
  by_cases h1:L.length=1
  ·rw [(iT hs h1 hy).2] at hm
   rw [ar4.1 hm];exact hme
  ·rw [(iB hs h1 hy).2] at hm
   obtain ⟨i,_,rfl⟩:=wY hm
   exact oE hme _
 have hsc:dS y.1.sc (mu (av L) y.1)=y.1.sc:=by
  unfold dS
  exact List.filter_eq_self.2 λm hm=>by rw [AD hg (key m hm)];rfl
 have hpos:¬ y.1.sc.length=0:=by
  by_cases h1:L.length=1
  ·rw [(iT hs h1 hy).2];show ¬ (1:Nat)=0;decide
  ·rw [(iB hs h1 hy).2,jl];omega
 have hpr:Bd y.1 (mu (av L) y.1)=y.1.pr:=by
  unfold Bd
  by_cases h1:L.length=1
  ·rw [(iT hs h1 hy).1];cases eK _ fj<;>rfl
  ·rw [AD hg (by rw [(iB hs h1 hy).1];exact ye _ hp0)];rfl
 refine ⟨rfl,?_,?_,wE hr,?_⟩
 ·rw [pP hr];exact hpr
 ·rw [pP hr]
  show nY (dS y.1.sc (mu (av L) y.1)) y.1.me=_
  rw [hsc,vY hpos]
 ·rw [pP hr]
  intro m hm
  exact(at4.1 hm).1
theorem F8 {L K:List N3} (hs:cV L=true) {no:Int} (hl:bu (av L) no=true) (hK:nds K=fl (nds L) no):cV K=true/\av K=av L:=by
 have hrk:=tI (jg hs)
 obtain ⟨g1,g2⟩:=hrk.rs.get hl
 obtain ⟨n,hn⟩:∃ n,n=cD (av L) (br L no).1:=⟨_,rfl⟩
 obtain ⟨t1,t2,t3,t4,t5⟩:=Hi hs g1
 obtain ⟨L1,hL1⟩:∃ x,x=fm L (cD (av L) (br L no).1,aq,aq):=⟨_,rfl⟩
 obtain ⟨a1,a2⟩:=ut (x:=(cD (av L) (br L no).1,aq,aq)) hs g1 t1 t2 t3 t4 t5
 have i1:=(hrk.rs.put (x:=(cD (av L) (br L no).1,aq,aq)) g1 t1.symm t4).2.2
 rw [← hL1] at a1 a2 i1
 have hme:(br L no).1.me∈av L:=au9.2 ⟨_,g1,rfl⟩
 have hml:(av L).length=L.length:=au1 _
 have hml1:L1.length=L.length:=by have h9:=aq3 List.length a2;simpa [av] using h9
 have hrk1:=tI (jg a1)
 have f0:bu (av L1) ((cD (av L) (br L no).1).sc.getD 0 aS).1=true:=by
  rw [a2];exact lR (hrk.rs.rn _ g1) (by rw [g2];exact hl)
 obtain ⟨b1,b2⟩:=hrk1.rs.get f0
 obtain ⟨S,hS⟩:∃ S,S=br L1 ((cD (av L) (br L no).1).sc.getD 0 aS).1:=⟨_,rfl⟩
 have b3:S∈L1:=by rw [hS];exact b1
 have hSn:=hrk1.rs.rn _ b3
 have hSm:S.1.me∈av L:=by rw [← a2];exact au9.2 ⟨_,b3,rfl⟩
 have hp0:0<(av L).length:=gP hme
 have eS:(kw (av L1) S.1).me=S.1.me/\(kw (av L1) S.1).pr=S.1.pr/\(kw (av L1) S.1).sc=S.1.sc:=by
  refine ⟨rfl,?_,rfl⟩
  show (bif bu (av L1) S.1.pr.1 then S.1.pr else fj)=S.1.pr
  by_cases h1:L.length=1
  ·rw [(iT a1 (by omega) b3).1];cases bu _ _<;>rfl
  ·rw [Iw hrk1.rs.ring (by rw [(iB a1 (by omega) b3).1];exact ye _ (by rw [a2];exact hp0))];rfl
 have efol:sI (cD (av L) (br L no).1) (kw (av L1) S.1)=(br L no).1.sc:=by
  by_cases h1:L.length=1
  ·obtain ⟨r1,r2⟩:=iT hs h1 g1
   obtain ⟨q1,q2⟩:=iT a1 (by omega) b3
   have em:S.1.me=(br L no).1.me:=by
    have hall:∀ m∈av L,∀ m9∈av L,m=m9:=λm hm m9 hm9=>by
     obtain ⟨z,hz⟩:=List.length_eq_one_iff.1 (show (av L).length=1 by omega)
     rw [hz] at hm hm9
     rw [ar4.1 hm,ar4.1 hm9]
    exact hall _ hSm _ hme
   unfold sI fK
   rw [Y6 (aq2 (eS.2.1.trans q1)),eS.1,t1,em]
   unfold dH
   rw [List.takeWhile_cons_of_neg (by simp),r2];rfl
  ·obtain ⟨r1,r2⟩:=iB hs h1 g1
   obtain ⟨q1,q2⟩:=iB a1 (by omega) b3
   have em:S.1.me=fV (av L) (br L no).1.me:=by
    have e9:(cD (av L) (br L no).1).sc.getD 0 aS=fV (av L) (br L no).1.me:=by
     rw [t3,r2,D3 _ _ (by omega)];rfl
    have e8:=b2
    rw [← hS,e9] at e8
    exact hrk.rs.ring.no hSm (md hme) e8
   rw [a2] at q1 q2
   rw [r2,hml.symm]
   have:=GN (n:=cD (av L) (br L no).1) (s:=kw (av L1) S.1) hrk.rs.ring (by rw [t1];exact hme) (by omega) (by rw [eS.1,t1,em]) (by rw [eS.2.1,t1,q1,em];exact Ew hrk.rs.ring hme) (by rw [eS.2.2,eS.1,q2,hml,hml1])
   rw [t1] at this
   exact this
 obtain ⟨L2,hL2⟩:∃ x,x=fm L1 (oz (cD (av L) (br L no).1) (kw (av L1) S.1),aq,aq):=⟨_,rfl⟩
 have hT2:RN (oz (cD (av L) (br L no).1) (kw (av L1) S.1)):=pJ t4 (ur hSn)
 obtain ⟨c1,c2⟩:=ut (x:=(oz (cD (av L) (br L no).1) (kw (av L1) S.1),aq,aq)) a1 i1 rfl rfl (efol.trans t3.symm) hT2 λm hm=>hm
 rw [← hL2] at c1 c2
 have hrk2:=tI (jg c1)
 have hml2:L2.length=L.length:=by have h9:=aq3 List.length (c2.trans a2);simpa [av] using h9
 rw [yf L no (u1:=aq) (u2:=aq) (f1:=aq) (L1:=L1) (L2:=L2) hL1 (by rw [← hS];exact hL2)] at hK
 cases hb:bu (av L2) ((oz (cD (av L) (br L no).1) (kw (av L1) (br L1 ((cD (av L) (br L no).1).sc.getD 0 aS).1).1)).sc.getD 0 aS).1 with
 |false=>
  rw [hb] at hK
  have hK:nds K=nds L2:=hK
  exact ⟨by rw [Ah hK];exact c1,by rw [← cN,hK,cN,c2,a2]⟩
 |true=>
  rw [hb] at hK
  obtain ⟨d1,d2⟩:=hrk2.rs.get hb
  obtain ⟨G,hG⟩:∃ G,G=br L2 ((oz (cD (av L) (br L no).1) (kw (av L1) (br L1 ((cD (av L) (br L no).1).sc.getD 0 aS).1).1)).sc.getD 0 aS).1:=⟨_,rfl⟩
  have hK:nds K=jI (nds L2) (EO (ii (nds L2) ((oz (cD (av L) (br L no).1) (kw (av L1) (br L1 ((cD (av L) (br L no).1).sc.getD 0 aS).1).1)).sc.getD 0 aS).1) (cD (av L) (br L no).1).me):=hK
  rw [← jj,← hG] at hK
  rw [← hG] at d1 d2
  have ep:(EO G.1 (cD (av L) (br L no).1).me).pr=G.1.pr:=by
   show mD G.1 (cD (av L) (br L no).1).me=G.1.pr
   rw [t1]
   by_cases h1:L.length=1
   ·refine KL (aq1 λe=>e ?_)
    have hall:∀ m∈av L,∀ m9∈av L,m=m9:=λm hm m9 hm9=>by
     obtain ⟨z,hz⟩:=List.length_eq_one_iff.1 (show (av L).length=1 by omega)
     rw [hz] at hm hm9
     rw [ar4.1 hm,ar4.1 hm9]
    have hGm:G.1.me∈av L:=by rw [← a2,← c2];exact au9.2 ⟨_,d1,rfl⟩
    rw [hall _ hme _ hGm]
   ·obtain ⟨r1,r2⟩:=iB hs h1 g1
    obtain ⟨q1,q2⟩:=iB c1 (by omega) d1
    have hGm:G.1.me∈av L:=by rw [← a2,← c2];exact au9.2 ⟨_,d1,rfl⟩
    have em:G.1.me=fV (av L) (br L no).1.me:=by
     have e9:(oz (cD (av L) (br L no).1) (kw (av L1) (br L1 ((cD (av L) (br L no).1).sc.getD 0 aS).1).1)).sc.getD 0 aS=fV (av L) (br L no).1.me:=by
      show (sI (cD (av L) (br L no).1) (kw (av L1) (br L1 ((cD (av L) (br L no).1).sc.getD 0 aS).1).1)).getD 0 aS=_
      rw [← hS,efol,r2,D3 _ _ (by omega)];rfl
     rw [e9] at d2
     exact hrk.rs.ring.no hGm (md hme) d2
    rw [c2,a2] at q1
    have eq:G.1.pr=(br L no).1.me:=by rw [q1,em];exact Ew hrk.rs.ring hme
    unfold mD
    rw [eq]
    cases (decide ((br L no).1.me.1≠G.1.me.1) && (decide ((br L no).1.me.2≠G.1.me.2) && (decide ((br L no).1.me=fj) || xq (br L no).1.me.2 (br L no).1.me.2 G.1.me.2)))<;>rfl
  have hmm:=hrk.rs.ring.nos _ hme
  obtain ⟨u1,u2⟩:=ut (x:=(EO G.1 (cD (av L) (br L no).1).me,aq,aq)) c1 d1 rfl ep rfl (tR (hrk2.rs.rn _ d1) (by rw [t1];exact hmm)) λm hm=>hm
  have hK:nds K=nds (fm L2 (EO G.1 (cD (av L) (br L no).1).me,aq,aq)):=by rw [hK,ik]
  exact ⟨by rw [Ah hK];exact u1,by rw [← cN,hK,cN,u2,c2,a2]⟩
theorem P8 {E:List Nd} {no:Int} (hs:cV (cS E)=true) (hl:bu (bV E) no=true):cV (cS (fl E no))=true/\bV (fl E no)=bV E:=by
 have hl':bu (av (cS E)) no=true:=by rw [eB];exact hl
 have hK:nds (cS (fl E no))=fl (nds (cS E)) no:=by rw [kr,kr]
 obtain ⟨h1,h2⟩:=F8 hs hl' hK
 rw [eB,eB] at h2
 exact ⟨h1,h2⟩
theorem yQ:∀ (ms:List Mb) {E:List Nd} (_:cV (cS E)=true) (_:∀ m∈ms,m∈bV E),cV (cS (ms.foldl (λF m=>fl F m.1) E))=true/\bV (ms.foldl (λF m=>fl F m.1) E)=bV E
 |[],_,h,_=>⟨h,rfl⟩
 |m::ms,E,h,hm=>by
  obtain ⟨h1,h2⟩:=P8 h (RK.live (tI (jg h)) (hm m ar5))
  obtain ⟨h3,h4⟩:=yQ ms h1 λx hx=>by rw [h2];exact hm x (as5 _ hx)
  exact ⟨h3,h4.trans h2⟩
theorem jf {W:Wd}:iP W=true↔bN W=true/\cV (cS W.ov)=true/\∀ s∈W.sv,∀ y∈s.tb,FL (bV W.ov) W.ml.now s.no y=true:=by
 unfold iP IE
 rw [aq5,aq5,aq6]
 exact ⟨λ⟨h1,h2,h3⟩=>⟨h1,h2,λs hs y hy=>aq6.1 (h3 s hs) y hy⟩,λ⟨h1,h2,h3⟩=>⟨h1,h2,λs hs=>aq6.2 (h3 s hs)⟩⟩
theorem E6 {M:List Mb} {a b no:Int} {y:Tg} (hab:a<=b) (h:FL M a no y=true):FL M b no y=true:=by
 unfold FL at h ⊢
 by_cases hb:b<y.2.2
 ·rw [aq2 (by omega)] at h
  rw [aq2 hb];exact h
 ·rw [aq1 hb];rfl
theorem OM {W:Wd} (h:iP W=true):iP (Cg W).w=true:=by
 obtain ⟨h1,h2,h3⟩:=jf.1 h
 obtain ⟨g1,g2⟩:=yQ (bV W.ov) h2 λm hm=>hm
 refine jf.2 ⟨lw.2 (RW.rnd (lw.1 h1)),g1,λs hs y hy=>?_⟩
 show FL (bV (nL W.ov)) W.ml.now s.no y=true
 rw [show bV (nL W.ov)=bV W.ov from g2]
 exact h3 s hs y hy
theorem IH {W:Wd} {n:Int} (h:iP W=true) (h0:0<=n):(bY W (dG 5 n)).e=0/\iP (bY W (dG 5 n)).w=true/\
 (bY (bY W (dG 5 n)).w (dG 4 0)).e=0/\iP (bY (bY W (dG 5 n)).w (dG 4 0)).w=true/\
 (bY (bY W (dG 5 n)).w (dG 4 0)).w.sv=W.sv/\W.ml.now<=(bY (bY W (dG 5 n)).w (dG 4 0)).w.ml.now/\0<=W.ml.now:=by
 obtain ⟨h1,h2,h3⟩:=jf.1 h
 have hR:=lw.1 h1
 obtain ⟨_,_,hn,_⟩:=(dP W.ml).1 hR.ml
 have e1:bY W (dG 5 n)=zI W n:=wy h1 (show (1:Int)<=5 by decide) (show (5:Int)<=15 by decide)
 have pe:eJ W.ml n=0:=by unfold eJ;rw [hR.ml,aq1 (by omega)];rfl
 have e2:zI W n=fc {W with ml:={W.ml with now:=W.ml.now+min n (1099511627776 - W.ml.now)}}:=by
  unfold zI cW
  rw [pe];rfl
 have p1:(bY W (dG 5 n)).e=0:=by rw [e1,e2];rfl
 have r1:bN (bY W (dG 5 n)).w=true:=lw.2 (RW.step p1)
 have ew:(bY W (dG 5 n)).w={W with ml:={W.ml with now:=W.ml.now+min n (1099511627776 - W.ml.now)}}:=by rw [e1,e2];rfl
 have s1:iP (bY W (dG 5 n)).w=true:=by
  refine jf.2 ⟨r1,by rw [ew];exact h2,λs hs y hy=>?_⟩
  rw [ew] at hs ⊢
  exact E6 (by show W.ml.now<=W.ml.now+_;omega) (h3 s hs y hy)
 have e3:bY (bY W (dG 5 n)).w (dG 4 0)=Cg (bY W (dG 5 n)).w:=wy r1 (show (1:Int)<=4 by decide) (show (4:Int)<=15 by decide)
 refine ⟨p1,s1,by rw [e3];rfl,by rw [e3];exact OM s1,by rw [e3,ew];rfl,?_,hn.1⟩
 rw [e3,ew]
 show W.ml.now<=W.ml.now+_
 omega
theorem Yf {W:Wd} (h:kN W=0):bN W=true/\(iV W).length<=32/\gf W=iV W:=by
 cases hr:bN W with
 |false=>rw [(Ci hr).1] at h;cases h
 |true=>
  cases ht:decide ((iV W).length<=32) with
  |false=>rw [(yX hr ht).1] at h;cases h
  |true=>exact ⟨rfl,ap9 ht,(Ct hr ht).2⟩
theorem T3 {W Y:Wd} (he:kN W=0) (hy:iP Y=true) (h0:0<=W.ml.now) (hn:W.ml.now<=Y.ml.now) (hs:Y.sv=W.sv):kN Y=0/\(gf Y).length<=(gf W).length/\(gf W).length<=32/\
 ∀ y∈gf Y,eT (gf W) y.1 y.2.1=y/\Y.ml.now<y.2.2:=by
 obtain ⟨a1,a2,a3⟩:=Yf he
 have b1:=Km h0 hn hs
 obtain ⟨c1,c2⟩:=Ct (jf.1 hy).1 (aq2 (show (iV Y).length<=32 by omega))
 rw [c2,a3]
 exact ⟨c1,b1,a2,λy hy=>JU h0 hn hs hy⟩
section
variable {P:Program} {ρ:Operand->Value} {d:Option Tmp} {ty:TypeId} {pos:String} {af:Array Edge} {g:Option (Nat × Bool)} {x y z u:Operand} {t:TypeId}
theorem n8 {a:Int} (S:Stt P t acZ) (hx:ρ x=.int .i64 a):a8 P ⟨d,.build t #[(0,x)],ty,pos,af,g⟩ ρ (.agg (fb (dG a 0) aq)):=by
 have:=cx (P:=P) (ρ:=ρ) (d:=d) (ty:=ty) (pos:=pos) (af:=af) (g:=g) (parts:=#[(0,x)]) S [(0,.int .i64 a)] (by simp [hx]) (λj q hm=>by
  simp only [ar6,av8,ar9,or_false] at hm
  rcases hm with ⟨rfl,rfl⟩
  exact ⟨_,rfl,rfl⟩) (D:=WE (dG a 0) aq) (by
   show [Value.int .i64 a]++([Value.int .i64 0]++([Value.int .i64 0]++([Value.int .i64 0]++(List.replicate 32 (Value.int .u8 0)++([aq]++([Value.string ByteArray.empty]++[]))))))=_
   rw [show List.replicate 32 (Value.int .u8 0)=(aJ 0#256).toList from by rw [fe];rfl];rfl)
 exact this
end
theorem OZ (n:Int):(n.tmod 1000+1000) % 1000=((pC n 1000:Nat):Int)/\pC n 1000<1000:=P1 n (n:=1000) (by decide)
theorem Kt {W:Wd} (h:iP W=true):BdW W:=YZ (lw.1 (jf.1 h).1)
def ZJ (vo vs vh vl:Value) (la nw:Int) (vn:Value):List Value:=[vo,vs,vh,vl,.int .i64 la,.int .i64 nw,vn]
def qP (vo vs vh vl:Value) (la nw:Int) (vn:Value):Array Value:=(ZJ vo vs vh vl la nw vn).toArray
def crZ:List (List Value):=[[aq,aq,aq,aq,.int .i64 0,.int .i64 0],[aq]]
section
variable (vo vs vh vl:Value) (la nw:Int) (vn:Value)
theorem oG:(qP vo vs vh vl la nw vn).size=7:=rfl
theorem af3:(qP vo vs vh vl la nw vn).extract 0 (0+6)=cY vo vs vh vl la nw:=rfl
theorem ab3:(qP vo vs vh vl la nw vn).extract 0 (0+1)=#[vo]:=rfl
theorem ai0:(qP vo vs vh vl la nw vn).extract 3 (3+3)=#[vl,.int .i64 la,.int .i64 nw]:=rfl
theorem ae8:(qP vo vs vh vl la nw vn)[6]? = some vn:=rfl
end
theorem JA {vo vs vh vl vn:Value} (la nw:Int) (h1:vo.oneCell'=true) (h2:vs.oneCell'=true) (h3:vh.oneCell'=true) (h4:vl.oneCell'=true) (h5:vn.oneCell'=true):∀ u∈(qP vo vs vh vl la nw vn).toList,u.oneCell'=true:=λu hu=>by
 have hu:u∈ZJ vo vs vh vl la nw vn:=hu
 unfold ZJ at hu
 simp only [ar6,ar9,or_false] at hu
 rcases hu with rfl|rfl|rfl|rfl|rfl|rfl|rfl<;>first|assumption|rfl
structure RdC (w:World) (vo vl:Value) (X:Wx):Prop where
 ov:qC w vo X.L
 sw:∀ x∈X.S,ma w x.2 x.1.tb
 hw:∀ x∈X.H,EV w x.2.1 x.2.2.1 x.2.2.2 x.1
 ml:a7 w vl 4 X.M.l.length (ck X.M.l)
theorem RdC.keep {w w':World} {vo vl:Value} {X:Wx} (h:RdC w vo vl X) (e:Ext w w'):RdC w' vo vl X:=
 ⟨⟨h.ov.1.keep e,λx hx=>⟨(h.ov.2 x hx).1.keep e,(h.ov.2 x hx).2.keep e⟩⟩,λx hx=>(h.sw x hx).keep e,λx hx=>⟨(h.hw x hx).1.keep e,(h.hw x hx).2.1.keep e,(h.hw x hx).2.2.keep e⟩,h.ml.keep e⟩
abbrev ZN (c:Nat) (tc ts th tn:TypeId) (vo vs vh vl vn:Value) (X:Wx) (N:List Nt) (kk:List Nat) (B9:List Own):List Own:=
 .blk c (.cells (qP vo vs vh vl X.M.last X.M.now vn) tc)::.sl vs ts 3 X.S.length (bM X.S)::.sl vh th 5 X.H.length (bC X.H)::.sl vn tn 74 N.length (dB N)::.grp kk (λw9=>RdC w9 vo vl X)::B9
def Xx (w0:World) (c:Nat) (tc ts th tn:TypeId) (R:Wr) (B9:List Own) (v:Value) (w9:World):Prop:=
 v=.int .i64 R.e/\∃ vo vs vh vl vn Y N kk,(R.e=0->aM Y=R.w/\N=R.n)/\St w0 (ZN c tc ts th tn vo vs vh vl vn Y N kk B9) w9
def Z1 (P:Program) (g:FuncId) (tc ts th tn:TypeId) (X0:Wx) (a:Ac) (va:Value):Prop:=
 ∀ (vo vs vh vl vn:Value) (X:Wx) (kk:List Nat) (c:Nat) (B9:List Own) (w0 w:World),aM X=aM X0->(∀ w9,St w0 B9 w9->Co w9 va a.l)->
  St w0 (ZN c tc ts th tn vo vs vh vl vn X [] kk B9) w->Calls P g [.pointer (some ⟨c,0,none⟩),.agg (fb a va)].toArray w (λe w9=>∃ v,e=.returned v/\Xx w0 c tc ts th tn (np (aM X0) a a.k.toNat) B9 v w9)
theorem XG {w0 w:World} {B:List Own} {kk:List Nat} {vo vl vx:Value} {X:Wx} {e:TypeId} {m:Ml} (s:St w0 (.sl vx e 4 m.l.length (ck m.l)::.grp kk (λw9=>RdC w9 vo vl X)::B) w):∃ kn,St w0 (.grp kn (λw9=>RdC w9 vo vx {X with M:=m})::B) w:=
 ⟨_,(St.group (A:=[.sl vx e 4 m.l.length (ck m.l),.grp kk (λw9=>RdC w9 vo vl X)]) (B:=B) s).weak λw9 h9=>
  have h:=(h9 (.grp kk (λw9=>RdC w9 vo vl X)) (by simp)).2 w9 λ_ _=>rfl
  ⟨h.ov,h.sw,h.hw,a7.of_own (h9 (.sl vx e 4 m.l.length (ck m.l)) (by simp))⟩⟩
theorem W6 {w0 w:World} {B:List Own} {k1 kk:List Nat} {vo vl vp:Value} {X:Wx} {L:List N3} (s:St w0 (.grp k1 (λw9=>ZY vo X.L w9->qC w9 vp L)::.grp kk (λw9=>RdC w9 vo vl X)::B) w):St w0 (.grp (k1++kk) (λw9=>RdC w9 vp vl {X with L:=L})::B) w:=
 s.merge λw9 a h=>⟨a h.ov,h.sw,h.hw,h.ml⟩
theorem Ux {w0 w:World} {c:Nat} {tc ts th tn:TypeId} {vo vs vh vl vn:Value} {X:Wx} {N:List Nt} {kk:List Nat} {B9:List Own} (s:St w0 (ZN c tc ts th tn vo vs vh vl vn X N kk B9) w):
 ∃ kn,St w0 [.grp kn λw9=>RdW w9 vo vs vh vl X/\a7 w9 vn 74 N.length (dB N)] w:=by
 have s1:=s.sel [1,2,3,4] (B':=[.sl vs ts 3 X.S.length (bM X.S),.sl vh th 5 X.H.length (bC X.H),.sl vn tn 74 N.length (dB N),.grp kk (λw9=>RdC w9 vo vl X)]) rfl (by decide)
 exact ⟨_,(St.group (A:=[.sl vs ts 3 X.S.length (bM X.S),.sl vh th 5 X.H.length (bC X.H),.sl vn tn 74 N.length (dB N),.grp kk (λw9=>RdC w9 vo vl X)]) (B:=[]) s1).weak λw9 h9=>
  have h:=(h9 (.grp kk (λw9=>RdC w9 vo vl X)) (by simp)).2 w9 λ_ _=>rfl
  ⟨⟨h.ov,a7.of_own (h9 (.sl vs ts 3 X.S.length (bM X.S)) (by simp)),h.sw,a7.of_own (h9 (.sl vh th 5 X.H.length (bC X.H)) (by simp)),h.hw,h.ml⟩,a7.of_own (h9 (.sl vn tn 74 N.length (dB N)) (by simp))⟩⟩
def Ve (R:Wr):Prop:=R.e=0∨(R.w=A7/\R.n=[])
theorem Og (e:Int):Ve (dM e):=.inr ⟨rfl,rfl⟩
theorem Ue (W:Wd):Ve (fc W):=.inl rfl
theorem M5 (t:Pt):Ve (g8 t):=.inl rfl
theorem Tp {c:Bool} {a b:Wr} (h:Ve a) (h':Ve b):Ve (bif c then a else b):=by cases c<;>assumption
theorem C4 (W:Wd) (a:Ac) (k:Nat):Ve (np W a k):=by
 unfold np
 split<;>(try unfold pv)<;>(try unfold pA)<;>(try unfold pM)<;>(try unfold Cg)<;>(try unfold zI)<;>(try unfold pU)<;>(try unfold pH)<;>(try unfold pT)<;>(try unfold p8)<;>(try unfold pO)<;>(try unfold X8)<;>(try unfold Xb)<;>(try unfold Wg)<;>(try unfold pL)<;>(try unfold pz)<;>(try unfold uE)<;>(try unfold uI)<;>(try unfold rX)<;>(try unfold uH)<;>(try unfold mR)<;>repeat (first|exact Og _|exact Ue _|exact M5 _|apply Tp)
theorem Wj {w0 w:World} {c:Nat} {tc ts th tn:TypeId} {po ps ph pl va:Value} {X:Wx} {l:List eA} {R:Wr} {vo vs vh vl vn:Value} {Y:Wx} {N:List Nt} {kk:List Nat} {B9:List Own} (hr:R.e=0->aM Y=R.w/\N=R.n) (he:R.e=0)
 (s:St w0 (ZN c tc ts th tn vo vs vh vl vn Y N kk B9) w):WA w0 po ps ph pl X va l R (.tuple #[.agg (cY vo vs vh vl Y.M.last Y.M.now),vn,.int .i64 0]) w:=by
 obtain ⟨kn,s⟩:=Ux s
 obtain ⟨h1,h2⟩:=hr he
 refine ⟨vo,vs,vh,vl,vn,Y,kn,by rw [he],h1,s.weak λw9 h9 _ _=>?_⟩
 rw [← h2];exact h9
theorem YJ {w0 w:World} {po ps ph pl va:Value} {X:Wx} {l:List eA} {R:Wr} {B:List Own} {e:Int} (hw:R.w=A7) (hn:R.n=[]) (he:R.e=e) (s:St w0 B w):WA w0 po ps ph pl X va l R (.tuple #[.agg (cY aq aq aq aq 0 0),aq,.int .i64 e]) w:=
 ⟨aq,aq,aq,aq,aq,mB,[],by rw [he];rfl,hw.symm,(s.pick [] (as0 _)).grp0 λw9 _ _=>⟨c7 w9,by rw [hn];exact ⟨rfl,.inl ⟨rfl,rfl⟩⟩⟩⟩
section
variable {P:Program} {ρ:Operand->Value} {d:Option Tmp} {t ty:TypeId} {pos:String} {af:Array Edge} {g:Option (Nat × Bool)} {x y z u:Operand}
theorem zj {vo vs vh vl:Value} {la nw:Int} (S:Stt P t crZ) (hx:ρ x=.agg (cY vo vs vh vl la nw)):a8 P ⟨d,.build t #[(0,x)],ty,pos,af,g⟩ ρ (.agg (qP vo vs vh vl la nw aq)):=by
 have:=cx (P:=P) (ρ:=ρ) (d:=d) (ty:=ty) (pos:=pos) (af:=af) (g:=g) (parts:=#[(0,x)]) S [(0,.agg (cY vo vs vh vl la nw))] (by simp [hx]) (λj q hm=>by
  simp only [ar6,av8,ar9,or_false] at hm
  obtain ⟨rfl,rfl⟩:=hm
  exact ⟨_,rfl,rfl⟩) (D:=ZJ vo vs vh vl la nw aq) (by
   show (cY vo vs vh vl la nw).toList++([aq]++[])=_
   rfl)
 exact this
end
theorem Lx (x:Id):(aJ x).extract 16 (16+16)=((eY x).drop 16).toArray:=by
 show ((eY x).toArray).extract 16 32=_
 rw [List.extract_toArray,List.extract_eq_take_drop]
 rw [as9 (by rw [at2,lK];exact as1 _)]
theorem qg (x:Id):((eY x).drop 16).toArray.size=16:=by rw [List.size_toArray,at2,lK]
theorem Ja (x:Id) {k:Nat} (hk:k<16):((eY x).drop 16).toArray.toList[k]? = some (.int .u8 (bA x (k+16):Int)):=by
 rw [show k+16=16+k from Nat.add_comm _ _]
 rw [aw8]
 exact qN x (16+k) (by omega)
def oS (S:List V2) (L:List N3):Bool:=decide (S.length=L.length) && (List.range S.length).all λk=>cU (S.getD k dA).1 && decide ((S.getD k dA).1.no=(L.getD k z3).1.me.1)
def mM (L:List N3):Bool:=iv L && (List.range L.length).all λk=>pD (L.getD k z3).1.me.2
def vV (H:List H4):Bool:=(List.range H.length).all λk=>xR (H.map (·.1)) k
theorem UR {n:Nat} {f:Nat->Bool} (h:∀ j,j<n->f j=true):(List.range n).all f=true:=aq6.2 λj hj=>h j (ar7.1 hj)
theorem yp {n k:Nat} {f:Nat->Bool} (hk:k<n) (h:f k=false):(List.range n).all f=false:=by
 rw [← Bool.not_eq_true,aq6]
 intro h9
 have:=h9 k (ar7.2 hk)
 rw [h] at this;cases this
theorem Fi (X:Wx):bN (aM X)=(mM X.L && (oS X.S X.L && (vV X.H && bU X.M))):=by
 rw [aw6]
 have e1:iv (cS (aM X).ov)=iv X.L:=C7 X.L
 have e2:(aM X).sv.length=X.S.length:=(nO X).1
 have e3:(aM X).ov.length=X.L.length:=(nO X).2.1
 have e4:(aM X).ho.length=X.H.length:=(nO X).2.2
 unfold bN mM oS vV
 rw [e1,e2,e3,e4]
 simp only [aq5,aq6,ar7,ar0,U4]
 constructor
 ·rintro ⟨a,b,c,d,e⟩
  exact ⟨⟨a,λk hk=>(d k (by omega)).2.2⟩,⟨c,λk hk=>⟨(d k hk).1,(d k hk).2.1⟩⟩,e,b⟩
 ·rintro ⟨⟨a,f⟩,⟨c,d⟩,e,b⟩
  exact ⟨a,b,c,λk hk=>⟨(d k hk).1,(d k hk).2,f k (by omega)⟩,e⟩
theorem Un (L:List N3) (h:iv L=false):mM L=false:=by unfold mM;rw [h];rfl
theorem Kw {L:List N3} {k:Nat} (hk:k<L.length) (h:pD (L.getD k z3).1.me.2=false):mM L=false:=by unfold mM;rw [yp hk h,Bool.and_false]
theorem Jd {L:List N3} (h:iv L=true) (h1:∀ j,j<L.length->pD (L.getD j z3).1.me.2=true):mM L=true:=by unfold mM;rw [h,UR h1];rfl
theorem Tj {S:List V2} {L:List N3} (h:¬ S.length=L.length):oS S L=false:=by unfold oS;rw [aq1 h];rfl
theorem AS {S:List V2} {L:List N3} {k:Nat} (hk:k<S.length) (h:(cU (S.getD k dA).1 && decide ((S.getD k dA).1.no=(L.getD k z3).1.me.1))=false):oS S L=false:=by unfold oS;rw [yp hk h,Bool.and_false]
theorem Kx {S:List V2} {L:List N3} (h:S.length=L.length) (h1:∀ j,j<S.length->(cU (S.getD j dA).1 && decide ((S.getD j dA).1.no=(L.getD j z3).1.me.1))=true):oS S L=true:=by unfold oS;rw [aq2 h,UR h1];rfl
theorem LG {L:List N3} (k:Nat):(av L).getD k aS=(L.getD k z3).1.me:=by
 unfold av
 rw [as6,as6,av0];cases L[k]? <;> rfl
theorem wH (H:List H4) (k:Nat):xR (H.map (·.1)) k=(cp (H.getD k dy).1 && !(decide (0<k) && decide ((H.getD k dy).1.no<=(H.getD (k - 1) dy).1.no))):=by
 unfold xR
 rw [HQ,HQ]
theorem BdW.s8 {X:Wx} (h:BdW (aM X)):X.S.length<=1000:=by have:=h.sx;omega
theorem BdW.h8 {X:Wx} (h:BdW (aM X)):X.H.length<=1000:=by have:=h.hx;omega
theorem BdW.s9 {X:Wx} (h:BdW (aM X)):∀ x∈X.S,x.1.tb.length<=1000:=λx hx=>av5 (h.tb _ (au9.2 ⟨x,hx,rfl⟩)) (by decide)
theorem BdW.h9 {X:Wx} (h:BdW (aM X)):∀ x∈X.H,B9 x.1:=λx hx=>by
 obtain ⟨k,hk,e⟩:=aw1 hx
 have h1:=h.he hk
 rw [ZP hk |>.symm,e] at h1
 exact h1
theorem iX {α:Type} (C:α->List Value) (sz:Nat) (hC:∀ x,(C x).length=sz) (z:α):∀ (l:List α) {j off:Nat},j<l.length->off<sz->∀ {V:Value} {x:α},(C (l.getD j z)).set off V=C x->(l.flatMap C).set (j*sz+off) V=(l.set j x).flatMap C
 |[],_,_,hj,_,_,_,_=>ax7 hj (av6 _)
 |a::l,0,off,_,ho,V,x,h=>by
  rw [List.flatMap_cons,List.set_cons_zero,List.flatMap_cons,Nat.zero_mul,Nat.zero_add,List.set_append_left _ _ (by rw [hC];exact ho)]
  rw [← h];rfl
 |a::l,j+1,off,hj,ho,V,x,h=>by
  have hj':j<l.length:=by simpa using hj
  rw [List.flatMap_cons,List.set_cons_succ,List.flatMap_cons,List.set_append_right _ _ (by rw [hC,Nat.succ_mul];omega),hC,show (j+1)*sz+off - sz=j*sz+off by rw [Nat.succ_mul];omega,
   iX C sz hC z l hj' ho h]
theorem jH {α:Type} (C:α->List Value) (sz:Nat) (hC:∀ x,(C x).length=sz) (z:α):∀ (l:List α) {j off:Nat},j<l.length->off<sz->(l.flatMap C)[j*sz+off]? = (C (l.getD j z))[off]?
 |[],_,_,hj,_=>ax7 hj (av6 _)
 |a::l,0,off,_,ho=>by
  rw [List.flatMap_cons,Nat.zero_mul,Nat.zero_add,at8 (by rw [hC];exact ho)];rfl
 |a::l,j+1,off,hj,ho=>by
  have hj':j<l.length:=by simpa using hj
  rw [List.flatMap_cons,at7 (by rw [hC,Nat.succ_mul];omega),hC,show (j+1)*sz+off - sz=j*sz+off by rw [Nat.succ_mul];omega,jH C sz hC z l hj' ho];rfl
theorem tt {α:Type} (C:α->List Value) (l:List α) (h:∀ x∈l,∀ u∈C x,u.oneCell'=true):∀ u∈l.flatMap C,u.oneCell'=true:=λu hu=>by
 obtain ⟨x,hx,hu⟩:=List.mem_flatMap.1 hu
 exact h x hx u hu
theorem Nz {l:List V2} (h:∀ x∈l,x.2.oneCell'=true):∀ u∈bM l,u.oneCell'=true:=tt _ l λx hx u hu=>by
 have hu:u∈[Value.int .i64 x.1.no,.string x.1.sec,x.2]:=hu
 simp only [ar6,ar9,or_false] at hu
 rcases hu with rfl|rfl|rfl
 ·rfl
 ·rfl
 ·exact h x hx
theorem O3 {l:List H4} (h:∀ x∈l,x.2.1.oneCell'=true/\x.2.2.1.oneCell'=true/\x.2.2.2.oneCell'=true):∀ u∈bC l,u.oneCell'=true:=tt _ l λx hx u hu=>by
 have hu:u∈[Value.int .i64 x.1.no,.int .i64 x.1.gt,x.2.1,x.2.2.1,x.2.2.2]:=hu
 simp only [ar6,ar9,or_false] at hu
 obtain ⟨a,b,c⟩:=h x hx
 rcases hu with rfl|rfl|rfl|rfl|rfl
 ·rfl
 ·rfl
 ·exact a
 ·exact b
 ·exact c
theorem UB {l:List V2} {j:Nat} (hj:j<l.length):(bM l)[j*3+2]? = some (l.getD j dA).2:=jH Wa 3 xW dA l hj (by decide)
theorem SH {l:List H4} {j:Nat} (hj:j<l.length):(bC l)[j*5+2]? = some (l.getD j dy).2.1:=jH Mm 5 kq dy l hj (by decide)
theorem Ub {l:List H4} {j:Nat} (hj:j<l.length):(bC l)[j*5+3]? = some (l.getD j dy).2.2.1:=jH Mm 5 kq dy l hj (by decide)
theorem TR {l:List H4} {j:Nat} (hj:j<l.length):(bC l)[j*5+4]? = some (l.getD j dy).2.2.2:=jH Mm 5 kq dy l hj (by decide)
theorem OI {l:List V2} {j:Nat} (hj:j<l.length) (V:Value):(bM l).set (j*3+2) V=bM (l.set j ((l.getD j dA).1,V)):=iX Wa 3 xW dA l hj (by decide) rfl
theorem Mw {l:List H4} {j:Nat} (hj:j<l.length) (V:Value):(bC l).set (j*5+2) V=bC (l.set j ((l.getD j dy).1,V,(l.getD j dy).2.2)):=iX Mm 5 kq dy l hj (by decide) rfl
theorem NK {l:List H4} {j:Nat} (hj:j<l.length) (V:Value):(bC l).set (j*5+3) V=bC (l.set j ((l.getD j dy).1,(l.getD j dy).2.1,V,(l.getD j dy).2.2.2)):=iX Mm 5 kq dy l hj (by decide) rfl
theorem PY {l:List H4} {j:Nat} (hj:j<l.length) (V:Value):(bC l).set (j*5+4) V=bC (l.set j ((l.getD j dy).1,(l.getD j dy).2.1,(l.getD j dy).2.2.1,V)):=iX Mm 5 kq dy l hj (by decide) rfl
theorem rB {α:Type} {l:List α} {j:Nat} (hj:j<l.length) (x z:α):(l.set j x).getD j z=x:=by
 rw [as6,List.getElem?_set_self hj];rfl
theorem HE {α:Type} {l:List α} {i j:Nat} (h:i≠j) (x z:α):(l.set j x).getD i z=l.getD i z:=by
 rw [as6,List.getElem?_set_ne (λe=>h e.symm),as6]
theorem Ad {α β:Type} (f:α->β) {l:List α} {j:Nat} {x z:α} (hj:j<l.length) (h:f x=f (l.getD j z)):(l.set j x).map f=l.map f:=by
 rw [List.map_set]
 apply List.ext_getElem?
 intro i
 by_cases e:j=i
 ·subst e
  rw [List.getElem?_set_self (by rw [au1];exact hj),av0,aq8 hj,h,as6,aq8 hj];rfl
 ·rw [List.getElem?_set_ne e]
theorem Kj {α:Type} {l:List α} {j:Nat} (hj:j<l.length) (x:α):(l.set j x).take (j+1)=l.take j++[x]:=by
 rw [List.take_set,List.take_succ_eq_append_getElem hj,List.set_append_right _ _ (by rw [au0];omega)]
 rw [au0,Nat.min_eq_left (by omega),Nat.sub_self];rfl
theorem zP {α:Type} {Q:α->Prop} {l:List α} {j:Nat} {x:α} (hj:j<l.length) (h:∀ y∈l.take j,Q y) (hx:Q x):∀ y∈(l.set j x).take (j+1),Q y:=λy hy=>by
 rw [Kj hj] at hy
 rcases at9.1 hy with hy|hy
 ·exact h y hy
 ·rw [ar4.1 hy];exact hx
def GB (l:List V2) (w:World):Prop:=∀ x∈l,ma w x.2 x.1.tb
def wV (l:List H4) (w:World):Prop:=∀ x∈l,EV w x.2.1 x.2.2.1 x.2.2.2 x.1
theorem St.slG {w0 w:World} {a:Value} {M:TypeId} {sa n:Nat} {xs:List Value} {ks:List Nat} {S S':World->Prop} {B:List Own} (s:St w0 (.sl a M sa n xs::.grp ks S::B) w) (h:∀ w9,a7 w9 a sa n xs->S w9->S' w9):∃ kn,St w0 (.grp kn S'::B) w:=
 ⟨_,(St.group (A:=[.sl a M sa n xs,.grp ks S]) (B:=B) s).weak λw9 h9=>h w9 (a7.of_own (h9 (.sl a M sa n xs) (by simp))) ((h9 (.grp ks S) (by simp)).2 w9 λ_ _=>rfl)⟩
theorem St.sl3G {w0 w:World} {a b c:Value} {M N K:TypeId} {sa sb sc n m k:Nat} {xs ys zs:List Value} {ks:List Nat} {S S':World->Prop} {B:List Own} (s:St w0 (.sl a M sa n xs::.sl b N sb m ys::.sl c K sc k zs::.grp ks S::B) w) (h:∀ w9,a7 w9 a sa n xs->a7 w9 b sb m ys->a7 w9 c sc k zs->S w9->S' w9):∃ kn,St w0 (.grp kn S'::B) w:=
 ⟨_,(St.group (A:=[.sl a M sa n xs,.sl b N sb m ys,.sl c K sc k zs,.grp ks S]) (B:=B) s).weak λw9 h9=>h w9 (a7.of_own (h9 (.sl a M sa n xs) (by simp))) (a7.of_own (h9 (.sl b N sb m ys) (by simp))) (a7.of_own (h9 (.sl c K sc k zs) (by simp))) ((h9 (.grp ks S) (by simp)).2 w9 λ_ _=>rfl)⟩
def CpW (w:World) (ts th:TypeId) (X:Wx):cX:=λv w9=>∃ uo us uh ul Y ks,v=.agg (cY uo us uh ul X.M.last X.M.now)/\aM Y=aM X/\St w [.sl us ts 3 Y.S.length (bM Y.S),.sl uh th 5 Y.H.length (bC Y.H),.grp ks λw9=>RdC w9 uo ul Y] w9
theorem VE {w w9:World} {tn ts th tl:TypeId} {X:Wx} {uo us uh ul:Value} {Kn:List N3} {Ks:List V2} {Kh:List H4} {k1 k2 k3:List Nat} (e1:nds Kn=nds X.L) (e2:Ks.map (·.1)=X.S.map (·.1)) (e3:Kh.map (·.1)=X.H.map (·.1))
 (s:St w [.sl us ts 3 Ks.length (bM Ks),.sl uh th 5 Kh.length (bC Kh),.sl uo tn 68 Kn.length (au Kn),.sl ul tl 4 X.M.l.length (ck X.M.l),.grp k1 (eI Kn),.grp k2 (GB Ks),.grp k3 (wV Kh)] w9):CpW w ts th X (.agg (cY uo us uh ul X.M.last X.M.now)) w9:=by
 have s1:=s.sel [2,3,4,5,6,0,1] (B':=[.sl uo tn 68 Kn.length (au Kn),.sl ul tl 4 X.M.l.length (ck X.M.l),.grp k1 (eI Kn),.grp k2 (GB Ks),.grp k3 (wV Kh),.sl us ts 3 Ks.length (bM Ks),.sl uh th 5 Kh.length (bC Kh)]) rfl (by decide)
 have s2:=St.group (A:=[.sl uo tn 68 Kn.length (au Kn),.sl ul tl 4 X.M.l.length (ck X.M.l),.grp k1 (eI Kn),.grp k2 (GB Ks),.grp k3 (wV Kh)]) (B:=[.sl us ts 3 Ks.length (bM Ks),.sl uh th 5 Kh.length (bC Kh)]) s1
 have s3:=s2.weak (S':=λw9=>RdC w9 uo ul ⟨Kn,Ks,Kh,X.M⟩) λw9 h9=>⟨⟨a7.of_own (h9 (.sl uo tn 68 Kn.length (au Kn)) (by simp)),(h9 (.grp k1 (eI Kn)) (by simp)).2 w9 λ_ _=>rfl⟩,(h9 (.grp k2 (GB Ks)) (by simp)).2 w9 λ_ _=>rfl,(h9 (.grp k3 (wV Kh)) (by simp)).2 w9 λ_ _=>rfl,a7.of_own (h9 (.sl ul tl 4 X.M.l.length (ck X.M.l)) (by simp))⟩
 refine ⟨uo,us,uh,ul,⟨Kn,Ks,Kh,X.M⟩,_,rfl,?_,s3.sel [1,2,0] rfl (by decide)⟩
 unfold aM
 rw [e1,e2,e3]
def EX (v:Value):Value:=slV (match v with
 |.tuple a=>match (a[0]?).getD (.bool false) with
  |.agg c=>(c[0]?).getD (.bool false)
  |_=>.bool false
 |_=>.bool false)
theorem Pu (v:Value):(EX v).oneCell'=true:=Pv _
theorem St.o5 {w0 w:World} {a b c d e:Own} {B:List Own} (s:St w0 (a::b::c::d::e::B) w):St w0 (b::c::d::e::a::B) w:=s.perm (ax2 (l₁:=[b,c,d,e]) (a:=a) (l₂:=B)).symm
theorem SV {w0 w9:World} {c:Nat} {tc ts th tn tl:TypeId} {vo vs vh vl vx vn:Value} {X:Wx} {kk:List Nat} {B9:List Own} {e:Int} {m:Ml}
 (s:St w0 (.sl vx tl 4 m.l.length (ck m.l)::.grp kk (λw9=>RdC w9 vo vl X)::.blk c (.cells (qP vo vs vh vx m.last m.now vn) tc)::.sl vs ts 3 X.S.length (bM X.S)::.sl vh th 5 X.H.length (bC X.H)::.sl vn tn 74 0 []::B9) w9):
 Xx w0 c tc ts th tn (bif decide (e=0) then fc {aM X with ml:=m} else dM e) B9 (.int .i64 e) w9:=by
 obtain ⟨kn,s⟩:=XG s
 have he:(bif decide (e=0) then fc {aM X with ml:=m} else dM e:Wr).e=e:=by
  by_cases h:e=0
  ·rw [aq2 h];exact h.symm
  ·rw [aq1 h];rfl
 refine ⟨by rw [he],vo,vs,vh,vx,vn,{X with M:=m},[],kn,λh=>?_,s.o5⟩
 rw [he] at h
 rw [aq2 h]
 exact ⟨rfl,rfl⟩
theorem Tc {w0 w9:World} {c:Nat} {tc ts th tn:TypeId} {vo vs vh vl vp vn:Value} {X:Wx} {L:List N3} {k1 kk:List Nat} {B9:List Own} (hr:bN (aM X)=true) (hL:nds L=VV X.L)
 (s:St w0 (.grp k1 (λw9=>ZY vo X.L w9->qC w9 vp L)::.grp kk (λw9=>RdC w9 vo vl X)::.blk c (.cells (qP vp vs vh vl X.M.last X.M.now vn) tc)::.sl vs ts 3 X.S.length (bM X.S)::.sl vh th 5 X.H.length (bC X.H)::.sl vn tn 74 0 []::B9) w9):
 V6 X.L=0/\Xx w0 c tc ts th tn (Cg (aM X)) B9 (.int .i64 0) w9:=by
 have ho:iv X.L=true:=by
  have h:=hr
  rw [Fi] at h
  unfold mM at h
  simp only [aq5] at h
  exact h.1.1
 refine ⟨(DJ ho).1,rfl,vp,vs,vh,vl,vn,{X with L:=L},[],_,λ_=>⟨?_,rfl⟩,(W6 s).o5⟩
 show (⟨nds L,_,_,_⟩:Wd)=_
 rw [hL,(DJ ho).2];rfl
end Go.Proofs.YthmlflaiidhoiaaGreatDoor
namespace Go.Proofs.YthmlflaiidhoiaaGreatDoor
open Go.RowKit Go.Sort
section
variable {α:Type} (f:α->List Value) (sz:Nat) (z:α) (num:α->Int)
def KQ (f:α->List Value):Type:={x:α // ∀ u∈f x,u.oneCell'=true}
abbrev Zo (h:∀ u∈f z,u.oneCell'=true):Inhabited (KQ f):=⟨⟨z,h⟩⟩
def subL (x:KQ f):List Value:=f x.1
variable [Inhabited (KQ f)] (hf:∀ x,(f x).length=sz) (hz:0<sz)
include hf in
include hf hz in
include hf hz in
end
instance:Inhabited (KQ Wa):=Zo Wa dA (by decide)
instance:Inhabited (KQ Mm):=Zo Mm dy (by decide)
def LD (v:Value):Nat:=match v with
 |.func _ _ c=>match (c[0]?).getD (.bool false) with
  |.pointer (some p)=>p.block
  |_=>0
 |_=>0
end Go.Proofs.YthmlflaiidhoiaaGreatDoor
