/- Words of 32 bits, tables, texts and their blocks. -/
import Derived.Laws.CopyRow
import Derived.RangeFuncLeaves
import Derived.Laws.IdiomStrings
import Derived.ProofKit
import Derived.LaidMore
import Derived.OpenShut
import Derived.Stop.Joined
import Derived.MakeChecks
import Derived.SliceStrings
import Derived.Test.YthmlflaiidhoiaaGreatDoorId
set_option linter.unusedVariables false
set_option linter.unusedSimpArgs false
set_option linter.unusedSectionVars false
namespace Go.Proofs.YthmlflaiidhoiaaGreatDoor
open Go.RowKit
abbrev nE:=BitVec 32
def wv (x:nE):Value:=.int .u32 (x.toNat:Int)
def wF (f:Nat->nE) (n:Nat):Array Value:=((List.range n).map λi=>wv (f i)).toArray
@[simp] theorem am8 (f:Nat->nE) (n:Nat):(wF f n).size=n:=by simp [wF]
theorem eE (f:Nat->Nat) (n:Nat):∀ v∈(cS f n).toList,v.oneCell'=true:=by
 intro v hv
 simp [cS] at hv
 obtain ⟨x,_,rfl⟩:=hv
 rfl
section
variable {P:Program} {ρ:Operand->Value} {d:Option Tmp} {ty:TypeId} {pos:String} {af:Array Edge} {g:Option (Nat × Bool)} {x y:Operand} {t t' e:TypeId} {k k':IntKind} {m n:Int} {a b:nE}
theorem x7 {len:Nat} {parts:Array (Nat × Operand)} (xs:List Operand) (vs:List Value) (hd:P.underlying t=some (.array len e)) (he:(P.info? e).map (·.size)=some 1) (hz:∃ z,(P.info? t).bind (·.zero)=some z/\z.cells.size=len)
 (hp:parts.toList=xs.zipIdx.map λp=>(p.2,p.1)) (hxs:xs.map ρ=vs) (hv:∀ v∈vs,v.cells=#[v]) (hl:vs.length=len):aZ P ⟨d,.build t parts,ty,pos,af,g⟩ ρ (.agg vs.toArray):=λw=>by
 obtain ⟨z,hz,hzs⟩:=hz
 cases hi:P.info? t with
 |none=>simp [hi] at hz
 |some i=>
  have hz':i.zero=some z:=by simpa [hi] using hz
  cases he2:P.info? e with
  |none=>simp [he2] at he
  |some i2=>
   have h1:i2.size=1:=by simpa [he2] using he
   have hc:∀ v∈vs,v.cells.size=1:=λv hm=>by rw [hv v hm];rfl
   obtain ⟨D,h2,h3⟩:=tQ 1 vs 0 z.cells hc (by simp [hl,hzs])
   have h4:D=vs.toArray:=by
    apply Array.ext'
    rw [h3]
    have hfm:∀ l:List Value,(∀ v∈l,v.cells=#[v])->l.flatMap (λv=>v.cells.toList)=l:=by
     intro l
     induction l with
     |nil=>intro _;rfl
     |cons v l ih=>intro hh;rw [List.flatMap_cons,hh v aI5,ih (λu hu=>hh u (aJ5 _ hu))];rfl
    rw [hfm vs hv]
    simp [hl,hzs]
   have h5:(parts.map λp=>(p.1,ρ p.2)).toList=(vs.zipIdx 0).map λp=>(p.2,p.1):=by
    rw [Array.toList_map,hp,List.map_map,← hxs]
    generalize (0:Nat)=k
    clear h3 h2 hp hxs hv hl hc h4
    induction xs generalizing k with
    |nil=>rfl
    |cons x xs ih=>simp only [List.zipIdx_cons,List.map_cons,Function.comp];rw [ih]
   have h6:(Instr.build t (parts.map λp=>(p.1,ρ p.2))).run P w=.ok (.agg D) w:=by
    simp only [Instr.build,aL7,zeroValue,typeInfo,run_program,hi,hz',aH9,aL8,aI1 hd w,sizeOf,he2,h1,h5]
    rw [h2]
    simp
   have:(execOp ρ ⟨d,.build t parts,ty,pos,af,g⟩)=(do let v ← Instr.build t (parts.map λp=>(p.1,ρ p.2));pure (.value v)):=rfl
   rw [this,aL7,h6,h4];rfl
end
def OT (x:nE) (n:Nat):nE:=(x <<< (32 - n)) ||| (x >>> n)
structure V8 where
 (a b c d e f g h:nE)
 deriving DecidableEq
def V8.at (v:V8) (i:Nat):nE:=[v.a,v.b,v.c,v.d,v.e,v.f,v.g,v.h].getD i 0#32
def tt1 (v:V8) (k w:nE):nE:=v.h+(OT v.e 6 ^^^ OT v.e 11 ^^^ OT v.e 25)+(v.e &&& v.f ^^^ ~~~v.e &&& v.g)+k+w
def tt2 (v:V8):nE:=(OT v.a 2 ^^^ OT v.a 13 ^^^ OT v.a 22)+(v.a &&& v.b ^^^ v.a &&& v.c ^^^ v.b &&& v.c)
def rnd (v:V8) (k w:nE):V8:=⟨tt1 v k w+tt2 v,v.a,v.b,v.c,v.d+tt1 v k w,v.e,v.f,v.g⟩
def aq3 (i:Nat):nE:=([0x428a2f98,0x71374491,0xb5c0fbcf,0xe9b5dba5,0x3956c25b,0x59f111f1,0x923f82a4,0xab1c5ed5,
 0xd807aa98,0x12835b01,0x243185be,0x550c7dc3,0x72be5d74,0x80deb1fe,0x9bdc06a7,0xc19bf174,
 0xe49b69c1,0xefbe4786,0x0fc19dc6,0x240ca1cc,0x2de92c6f,0x4a7484aa,0x5cb0a9dc,0x76f988da,
 0x983e5152,0xa831c66d,0xb00327c8,0xbf597fc7,0xc6e00bf3,0xd5a79147,0x06ca6351,0x14292967,
 0x27b70a85,0x2e1b2138,0x4d2c6dfc,0x53380d13,0x650a7354,0x766a0abb,0x81c2c92e,0x92722c85,
 0xa2bfe8a1,0xa81a664b,0xc24b8b70,0xc76c51a3,0xd192e819,0xd6990624,0xf40e3585,0x106aa070,
 0x19a4c116,0x1e376c08,0x2748774c,0x34b0bcb5,0x391c0cb3,0x4ed8aa4a,0x5b9cca4f,0x682e6ff3,
 0x748f82ee,0x78a5636f,0x84c87814,0x8cc70208,0x90befffa,0xa4506ceb,0xbef9a3f7,0xc67178f2]:List nE).getD i 0#32
def au6 (i:Nat):nE:=([0x6a09e667,0xbb67ae85,0x3c6ef372,0xa54ff53a,0x510e527f,0x9b05688c,0x1f83d9ab,0x5be0cd19]:List nE).getD i 0#32
def ak5 (s ws:Nat->nE):Nat->V8
 |0=>⟨s 0,s 1,s 2,s 3,s 4,s 5,s 6,s 7⟩
 |k+1=>rnd (ak5 s ws k) (aq3 k) (ws k)
def ae5 (s ws:Nat->nE) (i:Nat):nE:=s i+(ak5 s ws 64).at i
def Xg (f:Nat->Nat):Nat->Nat->nE
 |0=>λ_=>0#32
 |k+1=>λi=>if i=k / 4 then (Xg f k (k / 4) <<< 8) ||| BitVec.ofNat 32 (f k) else Xg f k i
def sg0 (x:nE):nE:=OT x 7 ^^^ OT x 18 ^^^ (x >>> 3)
def sg1 (x:nE):nE:=OT x 17 ^^^ OT x 19 ^^^ (x >>> 10)
def HU (f:Nat->Nat):Nat->Nat->nE
 |0=>Xg f 64
 |k+1=>λi=>if i=k+16 then sg1 (HU f k (k+14))+HU f k (k+9)+sg0 (HU f k (k+1))+HU f k k else HU f k i
def Sq (f:Nat->Nat):Nat->nE:=HU f 48
def Zb (s:Nat->nE) (i:Nat):Nat:=(s (i / 4) >>> (8*(3 - i % 4))).toNat % 256
def ap0 (s:Nat->nE):Id:=Co (Zb s)
def gq (w:World) (g:Nat) (C:Array Value):Prop:=∃ t fr,w.heap[g]? = some (.cells C t fr)
theorem gq.keep {w0 w:World} {g:Nat} {C:Array Value} (h:gq w0 g C) (e:Ext w0 w):gq w g C:=by
 obtain ⟨t,fr,h⟩:=h
 exact ⟨t,fr,(e.heap (aO1.1 h).1).trans h⟩
section
variable {ro:Option Nat} {P:Program} {ops:Array Oper} {Q:Act->World->Prop} {l:List Oper} {a:Act} {w w0:World} {N:Nat} {L:List (Nat × Value)} {Df:List Deferred} {B:List Own} {d:Tmp} {ty:TypeId} {pos:String} {af:Array Edge} {x y:Operand} {t:TypeId} {g:Nat} {C:Array Value}
end
section
variable {P:Program} {ops:List Oper} {K:Act->World->Prop} {l:List Oper} {a:Act} {w w0:World} {N:Nat} {L:List (Nat × Value)} {Df:List Deferred} {B:List Own} {d:Tmp} {ty:TypeId} {pos:String} {af:Array Edge} {x:Operand} {t:TypeId} {g:Nat} {C:Array Value}
end
section
variable {P:Program} {a:Act} {w w0:World} {N:Nat} {L:List (Nat × Value)} {Df:List Deferred} {B:List Own} {fn:Func} {T:ez}
theorem fc {t u:Tmp} {V U:Value} (hr:fn.results=#[.tmp t,.tmp u]) (h:Sl N a L) (s:St w0 B w) (hv:lk L t=some V) (hu:lk L u=some U) (hT:T (.tuple #[V,U]) w):bodyPost P fn (cb w0 T) .ret a w:=
 ⟨h.defers,.tuple #[V,U],by rw [results_tmp2 hr,h.holds t V hv,h.holds u U hu],_,rfl,hT,s.ext⟩
end
section
variable {P:Program} {ρ:Operand->Value} {d:Option Tmp} {ty:TypeId} {pos:String} {af:Array Edge} {g:Option (Nat × Bool)} {x y:Operand} {t t' e:TypeId} {k:IntKind} {m n:Int}
end
def l9 (P:Program) (l:Nat) (args:Array Value) (w:World) (R:Value->World->Prop):Prop:=
 ∃ fn tmps assign body,(Instr.yield l args).run P w=.ok (.round l fn tmps assign body) w/\RoundIn Fence.wide 0 P l fn tmps assign body w λe w'=>∃ v,e=.returned v/\R v w'
theorem D4 {P:Program} {ρ:Operand->Value} {dst:Option Tmp} {g:Option (Nat × Bool)} {ty:TypeId} {pos:String} {af:Array Edge} {l:Nat} {cal:Operand} {args:Array Operand} {tys:Array TypeId} {vs:Array Value} {w:World}
 (hc:ρ cal=.func (.yield l) #[] #[]) (hvs:args.map ρ=vs) {R:Value->World->Prop} (hy:l9 P l vs w R):dp P ⟨dst,.call {callee:=.value cal,args:=args,argTypes:=tys},ty,pos,af,g⟩ ρ w R:=by
 obtain ⟨fn,tmps,assign,body,h1,h2⟩:=hy
 unfold dp
 simp only [execOp,resolve,hc,hvs,Deferred.ofValue,aL7,aL8,aH9,invoke,Array.append_empty,Array.empty_append,h1]
 exact h2
section
variable {ro:Option Nat} {P:Program} {ops:Array Oper} {Q:Act->World->Prop} {l:List Oper} {a:Act} {w w0:World} {N:Nat} {L:List (Nat × Value)} {Df:List Deferred} {B:List Own} {d:Tmp} {ty:TypeId} {pos:String} {af:Array Edge} {x y:Operand} {t:TypeId}
theorem ke {args:Array Operand} {vs:List Value} (h:Sl N a L Df) (hvs:args.toList.map (eI L)=vs.map some):args.map a.eval=vs.toArray:=by
 apply Array.ext'
 rw [Array.toList_map]
 exact evs h hvs
theorem cM {f:FuncId} {args:Array Operand} {tys:Array TypeId} (vs:List Value) {T:Value->World->Prop} (h:Sl N a L Df) (hf:Fnc P f) (hc:Calls P f vs.toArray w (λe w'=>∃ v,e=.returned v/\T v w')) (hvs:args.toList.map (eI L)=vs.map some)
 (hd:Nat.blt d N=true) (k:∀ a' w' v,T v w'->Sl N a' ((d,v)::L) Df->cQ P ops Q l a' w'):
 cQ P ops Q (⟨some d,.call {callee:=.value (.func f),args:=args,argTypes:=tys},ty,pos,af,none⟩::l) a w:=
 ee (R:=T) h (qQ hf rfl (ke h hvs) hc) hd k
theorem cO {ρ:Operand->Value} {dst:Option Tmp} {g:Option (Nat × Bool)} {f:FuncId} {cap:Array Operand} (vs:List Value) (hvs:cap.map ρ=vs.toArray):aZ P ⟨dst,.makeFunc (.func f) #[] cap,ty,pos,af,g⟩ ρ (.func (.func f) #[] vs.toArray):=λw=>by
 simp [execOp,Instr.makeFunc,hvs,aL7]
theorem Sl.round1 {p:Nat} {V:Value} (h:Sl N a L Df) (hp:Nat.blt p N=true):Sl N {tmps:=((#[p]:Array Tmp).zip [V].toArray).foldl (λt (q,v)=>t.setIfInBounds q v) a.tmps,defers:=[]} ((p,V)::L):=by
 have h1:Sl N {a with defers:=[]} L:=⟨h.size,rfl,h.holds⟩
 have e:((#[p]:Array Tmp).zip [V].toArray).foldl (λt (q,v)=>t.setIfInBounds q v) a.tmps=a.tmps.setIfInBounds p V:=by simp
 rw [e]
 exact h1.put hp V
end
def ku (a:Act) (D:Nat) (fn:FuncId) (ps:Array Tmp) (assign body:Code) (pe:Option Code) (st:LoopState):Loop:={state:=st,pending:=pe,fn:=fn,tmps:=a.tmps,params:=ps,assign:=assign,body:=body,defers:=D}
theorem St.putObj {w0:World} {B:List Own} {w:World} (h:St w0 B w) (i:Nat) {b:Nat} {o:Obj} (hi:B[i]? = some (.blk b o)) (o':Obj):St w0 (B.set i (.blk b o')) (w.putObj b o'):=
 h.upd i hi rfl rfl rfl (by simp) (World.putObj_heap_same (aO1.1 (h.get i hi)).1) (λk hk=>.inl hk) (λk _ hk=>World.putObj_heap_other (λe=>hk (Own.at_blk.2 e)))
theorem oD {α:Type} {B:List α} {i:Nat} {p:α} (hi:B[i]? = some p):B.Perm (p::B.eraseIdx i):=by
 induction B generalizing i with
 |nil=>simp at hi
 |cons b B ih=>
  cases i with
  |zero=>simp at hi;subst hi;simp
  |succ i=>exact (List.Perm.cons _ (ih (by simpa using hi))).trans (aO3 _ _ _)
theorem w8 {α:Type} {B:List α} {i:Nat} (hi:i<B.length) (p:α):(p::B.eraseIdx i).Perm (B.set i p):=by
 induction B generalizing i with
 |nil=>simp at hi
 |cons b B ih=>
  cases i with
  |zero=>simp
  |succ i=>exact (aO3 _ _ _).trans (List.Perm.cons _ (ih (by simpa using hi)))
theorem f8 {A:List Own} {w0 w:World} {R:List Own} (s:St w0 (A++R) w):A.Pairwise λp q=>∀ k,p.at k->¬ q.at k:=(List.pairwise_append.1 s.nd).1
theorem By {A A':List Own} (he:A.map Own.ks=A'.map Own.ks) (h:A.Pairwise λp q=>∀ k,p.at k->¬ q.at k):A'.Pairwise λp q=>∀ k,p.at k->¬ q.at k:=by
 have e1:∀ l:List Own,(l.Pairwise λp q=>∀ k,p.at k->¬ q.at k)↔(l.map Own.ks).Pairwise λx y=>∀ k,k∈x->¬ k∈y:=λl=>by rw [List.pairwise_map];rfl
 rw [e1] at h ⊢
 rw [← he];exact h
def bO (v:Value) (j:Nat):Addr:=match v with|.slice (some p) _ _=>p.add j|_=>⟨0,0,none⟩
theorem GA {w:World} {p:Addr} {x:Value} (h:w.cell? p=some x):p.block<w.heap.size:=by
 rcases aJ4 p.block w.heap.size with h'|h'
 ·exact h'
 ·simp [World.cell?,aK0 h'] at h
def eT (v:Value) (k:Nat):Value:=match v with|.slice a _ c=>.slice a k c|v=>v
section
variable {P:Program} {ρ:Operand->Value} {d:Option Tmp} {ty:TypeId} {pos:String} {af:Array Edge} {g:Option (Nat × Bool)} {x y:Operand} {t t' e:TypeId} {k:IntKind} {m:Int}
theorem rR {b len:Nat} (j:Nat) (ht:P.underlying t=some (.array len e)) (he:(P.info? e).map (·.size)=some 1) (hx:ρ x=.pointer (some ⟨b,0,none⟩)) (hy:ρ y=.int k m) (hj:m=(j:Int)) (hle:j<=len):
 aZ P ⟨d,.slice t x (some y) none none,ty,pos,af,g⟩ ρ (.slice (some ⟨b,if len=j then 0 else j,none⟩) (len - j) (len - j)):=λw=>by
 subst hj
 cases hi:P.info? e with
 |none=>simp [hi] at he
 |some i=>
  have h1:i.size=1:=by simpa [hi] using he
  have h2:(0:Int)<=(j:Int)/\(j:Int)<=(len:Int):=by omega
  have ha:(⟨b,0,none⟩:Addr).add j=⟨b,j,none⟩:=by unfold Addr.add;split<;>simp_all
  by_cases hjl:len=j
  ·subst hjl
   simp [execOp,hx,hy,Instr.sliceAt,Instr.sliceBounds,Instr.sliceBound,asIntOf,aL7,aI1 ht,Instr.sureAddr,sizeOf,typeInfo,hi,h1]
  ·simp [execOp,hx,hy,Instr.sliceAt,Instr.sliceBounds,Instr.sliceBound,asIntOf,aL7,aI1 ht,Instr.sureAddr,sizeOf,typeInfo,hi,h1,hle,ha,hjl]
end
section
variable {ro:Option Nat} {P:Program} {ops:Array Oper} {Q:Act->World->Prop} {l:List Oper} {a:Act} {w w0:World} {N:Nat} {L:List (Nat × Value)} {Df:List Deferred} {B:List Own} {d:Tmp} {ty:TypeId} {pos:String} {af:Array Edge} {x y:Operand} {t t' e:TypeId}
end
section
variable {P:Program} {a:Act} {w w0:World} {N:Nat} {L:List (Nat × Value)} {B:List Own} {fn:Func} {T:ez} {R:Ending->World->Prop}
theorem c7 {f:FuncId} {c:Code} {args:List Value} {n:Nat} (hf:P.funcs[f]? = some fn) (hb:fn.body=some c) (hn:fn.ntmps=n) (hs:Nat.ble args.length n=true) (L:List (Nat × Value)) (hL:∀ p∈L,args[p.1]? = some p.2)
 (h:∀ a,Sl n a L->c.wpIn (FR none) 0 P (bodyPost P fn R) a w):Calls P f args.toArray w R:=by
 refine callsIn_wide.1 (callsIn_of_wp (n:=0) hf hb trivial ?_)
 rw [hn]
 exact h _ (Sl.enter L (by simpa using hs) (by simpa using hL))
theorem go {f:FuncId} {c:Code} {args:List Value} {n:Nat} (hf:P.funcs[f]? = some fn) (hb:fn.body=some c) (hn:fn.ntmps=n) (hs:Nat.ble args.length n=true) (L:List (Nat × Value)) (hL:∀ p∈L,args[p.1]? = some p.2)
 (h:∀ a,Sl n a L->c.wpIn (FR none) 0 P (bodyPostM (FR none) 0 P fn (cb w T)) a w):Calls P f args.toArray w (cb w T):=by
 refine callsIn_wide.1 (callsIn_of_wp_marks (n:=0) hf hb trivial ?_)
 rw [hn]
 exact h _ (Sl.enter L (by simpa using hs) (by simpa using hL))
theorem sG (hr:fn.results=#[]) (h:Sl N a L) (hR:R (.returned (.tuple #[])) w):bodyPost P fn R .ret a w:=⟨h.defers,_,results_none hr _ _ _,hR⟩
theorem cX (hr:fn.results=#[]) (h:Sl N a L) (hR:R (.returned (.tuple #[])) w):bodyPost P fn R .normal a w:=⟨h.defers,_,results_none hr _ _ _,hR⟩
theorem dK {t:Tmp} {V:Value} (hr:fn.results=#[.tmp t]) (h:Sl N a L) (hv:lk L t=some V) (hR:R (.returned V) w):bodyPost P fn R .ret a w:=⟨h.defers,V,by rw [results_tmp hr,h.holds t V hv],hR⟩
end
def nbk (s:ByteArray):Nat:=(s.size+8) / 64+1
def as4 (s:ByteArray) (i:Nat):Nat:=
 if i<s.size then sb s i else if i=s.size then 128 else if i<64*((s.size+8) / 64)+56 then 0 else 8*s.size / 256 ^ (64*((s.size+8) / 64)+63 - i) % 256
def ax3 (s:ByteArray) (d i:Nat):Nat:=as4 s (64*d+i)
def Hs (s:ByteArray):Nat->Nat->nE
 |0=>au6
 |d+1=>ae5 (Hs s d) (Sq (ax3 s d))
def YZ (s:ByteArray):Id:=ap0 (Hs s (nbk s))
def j6 (ns:List Nat):List Value:=ns.map λ(m:Nat)=>.int .u8 (m:Int)
@[simp] theorem Vk (ns:List Nat):(j6 ns).length=ns.length:=by simp [j6]
theorem iI (a b:List Nat):j6 a++j6 b=j6 (a++b):=by simp [j6]
def af9 (sx:ByteArray):List Nat:=sx.data.toList.map UInt8.toNat
@[simp] theorem TU (sx:ByteArray):(af9 sx).length=sx.size:=by simp [af9]
section
variable {ro:Option Nat} {P:Program} {ops:Array Oper} {Q:Act->World->Prop} {l:List Oper} {a:Act} {w w0:World} {N:Nat} {L:List (Nat × Value)} {Df:List Deferred} {B:List Own} {d:Tmp} {ty:TypeId} {pos:String} {af:Array Edge} {x y:Operand} {t t' e:TypeId}
end
section
variable {P:Program} {ρ:Operand->Value} {d:Option Tmp} {ty:TypeId} {pos:String} {af:Array Edge} {g:Option (Nat × Bool)} {x y:Operand} {t t' e:TypeId} {m n:Int}
theorem Jw {k:IntKind} {v:Value} {n:Nat} {c:Option Addr × Nat} (hv:v=.slice c.1 n c.2) (ht:P.underlying t=some (.slice e)) (hx:ρ x=v):aZ P ⟨d,.call {callee:=.builtin .len,args:=#[x],argTypes:=#[t]},ty,pos,af,g⟩ ρ (.int .i64 (n:Int)):=λw=>by
 subst hv
 simp [execOp,resolve,hx,invoke,builtin,Builtin.len_,aL7,aI1 ht,goInt]
end
theorem P4 {w0 w:World} {B:List Own} (s:St w0 B w) (i:Nat) {v:Value} {e:TypeId} {sz n:Nat} {xs:List Value} (hi:B[i]? = some (.sl v e sz n xs)):∃ c:Option Addr × Nat,v=.slice c.1 n c.2:=by
 obtain ⟨a,c,hv⟩:=d5 (s.getSl i hi)
 exact ⟨(a,c),hv⟩
section
variable {ro:Option Nat} {P:Program} {ops:Array Oper} {Q:Act->World->Prop} {l:List Oper} {a:Act} {w w0:World} {N:Nat} {L:List (Nat × Value)} {Df:List Deferred} {B:List Own} {d:Tmp} {ty:TypeId} {pos:String} {af:Array Edge} {x y:Operand} {t t' e:TypeId}
theorem eK {v:Value} {sz n:Nat} {xs:List Value} (i:Nat) (h:Sl N a L Df) (s:St w0 B w) (ht:P.underlying t=some (.slice e)) (hx:eI L x=some v) {e':TypeId} (hi:B[i]? = some (.sl v e' sz n xs)) (hd:Nat.blt d N=true)
 (k:∀ a',Sl N a' ((d,.int .i64 (n:Int))::L) Df->cQ P ops Q l a' w):
 cQ P ops Q (⟨some d,.call {callee:=.builtin .len,args:=#[x],argTypes:=#[t]},ty,pos,af,none⟩::l) a w:=by
 obtain ⟨c,hv⟩:=P4 s i hi
 exact ai h (Jw (k:=.i64) hv ht (h.ev hx)) hd k
end
end Go.Proofs.YthmlflaiidhoiaaGreatDoor
namespace Go.Proofs.YthmlflaiidhoiaaGreatDoor
open Go.RowKit Go.ChangeShapes Go.WideShapes Go.ChangeAt
theorem ia {a:Act} {N:Nat} {Df:List Deferred} (L:List (Nat × Value)) (hs:a.tmps.size=N) (hd:a.defers=Df) (h:∀ t v,lk L t=some v->a.tmps.getD t undef=v):Sl N a L Df:=⟨hs,hd,h⟩
section
variable {ops:List Oper} {cl:List Nat} {Ts:List ez} {a0 a:Act} {w:World} {lk9:List Tmp}
end
def um (a:Act):List (Nat × Value)->Prop
 |[]=>True
 |(t,v)::r=>a.tmps.getD t undef=v/\um a r
theorem holds_lk {a:Act}:∀ {L:List (Nat × Value)},um a L->∀ t v,lk L t=some v->a.tmps.getD t undef=v
 |[],_,t,v,h=>by simp [lk] at h
 |(k,u)::r,H,t,v,h=>by
  unfold lk at h
  cases hb:Nat.beq k t with
  |true=>
   rw [hb] at h
   simp at h
   have:k=t:=by simpa using hb
   subst this;subst h;exact H.1
  |false=>rw [hb] at h;exact holds_lk H.2 t v h
theorem St.nilSl {w0 w:World} {B:List Own} (s:St w0 B w) (e:TypeId) (sz:Nat):St w0 (.sl (.slice none 0 0) e sz 0 []::B) w:=
 s.plus (Ext.refl w) _ ⟨by simp,.inl ⟨rfl,rfl⟩⟩ λk hk=>by rw [Own.at_sl] at hk;simp [Value.ownBlock] at hk
end Go.Proofs.YthmlflaiidhoiaaGreatDoor
