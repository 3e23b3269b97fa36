/- Words of 32 bits, tables, ranges over functions, texts and their blocks, and what the sum of abc comes to; no Go in it. -/
import Derived.Laws.CopyRow
import Derived.RangeFuncLeaves
import Derived.Laws.IdiomStrings
import Derived.ProofKit
import Derived.LaidMore
import Derived.OpenShut
import Derived.Stop.Joined
import Derived.MakeChecks
import Derived.SliceStrings
import Derived.Test.YthmlflaiidhoiaaGreatDoorId
set_option linter.unusedVariables false
set_option linter.unusedSimpArgs false
set_option linter.unusedSectionVars false
namespace Go.Proofs.YthmlflaiidhoiaaGreatDoor
open Go.RowKit
abbrev mj:=BitVec 32
def wv (x:mj):Value:=.int .u32 (x.toNat:Int)
def wF (f:Nat->mj) (n:Nat):Array Value:=((List.range n).map λi=>wv (f i)).toArray
@[simp] theorem ZX (f:Nat->mj) (n:Nat):(wF f n).size=n:=by simp [wF]
theorem ff (f:Nat->Nat) (n:Nat):∀ v∈(eX f n).toList,v.oneCell'=true:=by
 intro v hv
 simp [eX] at hv
 obtain ⟨x,_,rfl⟩:=hv
 rfl
section
variable {P:Program} {ρ:Operand->Value} {d:Option Tmp} {ty:TypeId} {pos:String} {af:Array Edge} {g:Option (Nat × Bool)} {x y:Operand} {t t' e:TypeId} {k k':IntKind} {m n:Int} {a b:mj}
theorem xk {len:Nat} {parts:Array (Nat × Operand)} (xs:List Operand) (vs:List Value) (hd:P.underlying t=some (.array len e)) (he:(P.info? e).map (·.size)=some 1) (hz:∃ z,(P.info? t).bind (·.zero)=some z/\z.cells.size=len)
 (hp:parts.toList=xs.zipIdx.map λp=>(p.2,p.1)) (hxs:xs.map ρ=vs) (hv:∀ v∈vs,v.cells=#[v]) (hl:vs.length=len):a8 P ⟨d,.build t parts,ty,pos,af,g⟩ ρ (.agg vs.toArray):=λw=>by
 obtain ⟨z,hz,hzs⟩:=hz
 cases hi:P.info? t with
 |none=>simp [hi] at hz
 |some i=>
  have hz':i.zero=some z:=by simpa [hi] using hz
  cases he2:P.info? e with
  |none=>simp [he2] at he
  |some i2=>
   have h1:i2.size=1:=by simpa [he2] using he
   have hc:∀ v∈vs,v.cells.size=1:=λv hm=>by rw [hv v hm];rfl
   obtain ⟨D,h2,h3⟩:=sR 1 vs 0 z.cells hc (by simp [hl,hzs])
   have h4:D=vs.toArray:=by
    apply Array.ext'
    rw [h3]
    have hfm:∀ l:List Value,(∀ v∈l,v.cells=#[v])->l.flatMap (λv=>v.cells.toList)=l:=by
     intro l
     induction l with
     |nil=>intro _;rfl
     |cons v l ih=>intro hh;rw [List.flatMap_cons,hh v ar5,ih (λu hu=>hh u (as5 _ hu))];rfl
    rw [hfm vs hv]
    simp [hl,hzs]
   have h5:(parts.map λp=>(p.1,ρ p.2)).toList=(vs.zipIdx 0).map λp=>(p.2,p.1):=by
    rw [Array.toList_map,hp,List.map_map,← hxs]
    generalize (0:Nat)=k
    clear h3 h2 hp hxs hv hl hc h4
    induction xs generalizing k with
    |nil=>rfl
    |cons x xs ih=>simp only [List.zipIdx_cons,List.map_cons,Function.comp];rw [ih]
   have h6:(Instr.build t (parts.map λp=>(p.1,ρ p.2))).run P w=.ok (.agg D) w:=by
    simp only [Instr.build,au7,zeroValue,typeInfo,run_program,hi,hz',aq9,au8,ar1 hd w,sizeOf,he2,h1,h5]
    rw [h2]
    simp
   have:(execOp ρ ⟨d,.build t parts,ty,pos,af,g⟩)=(do let v ← Instr.build t (parts.map λp=>(p.1,ρ p.2));pure (.value v)):=rfl
   rw [this,au7,h6,h4];rfl
end
def Mn (x:mj) (n:Nat):mj:=(x <<< (32 - n)) ||| (x >>> n)
structure V8 where
 (a b c d e f g h:mj)
 deriving DecidableEq
def V8.at (v:V8) (i:Nat):mj:=[v.a,v.b,v.c,v.d,v.e,v.f,v.g,v.h].getD i 0#32
def tt1 (v:V8) (k w:mj):mj:=v.h+(Mn v.e 6 ^^^ Mn v.e 11 ^^^ Mn v.e 25)+(v.e &&& v.f ^^^ ~~~v.e &&& v.g)+k+w
def tt2 (v:V8):mj:=(Mn v.a 2 ^^^ Mn v.a 13 ^^^ Mn v.a 22)+(v.a &&& v.b ^^^ v.a &&& v.c ^^^ v.b &&& v.c)
def rnd (v:V8) (k w:mj):V8:=⟨tt1 v k w+tt2 v,v.a,v.b,v.c,v.d+tt1 v k w,v.e,v.f,v.g⟩
def ac6 (i:Nat):mj:=([0x428a2f98,0x71374491,0xb5c0fbcf,0xe9b5dba5,0x3956c25b,0x59f111f1,0x923f82a4,0xab1c5ed5,
 0xd807aa98,0x12835b01,0x243185be,0x550c7dc3,0x72be5d74,0x80deb1fe,0x9bdc06a7,0xc19bf174,
 0xe49b69c1,0xefbe4786,0x0fc19dc6,0x240ca1cc,0x2de92c6f,0x4a7484aa,0x5cb0a9dc,0x76f988da,
 0x983e5152,0xa831c66d,0xb00327c8,0xbf597fc7,0xc6e00bf3,0xd5a79147,0x06ca6351,0x14292967,
 0x27b70a85,0x2e1b2138,0x4d2c6dfc,0x53380d13,0x650a7354,0x766a0abb,0x81c2c92e,0x92722c85,
 0xa2bfe8a1,0xa81a664b,0xc24b8b70,0xc76c51a3,0xd192e819,0xd6990624,0xf40e3585,0x106aa070,
 0x19a4c116,0x1e376c08,0x2748774c,0x34b0bcb5,0x391c0cb3,0x4ed8aa4a,0x5b9cca4f,0x682e6ff3,
 0x748f82ee,0x78a5636f,0x84c87814,0x8cc70208,0x90befffa,0xa4506ceb,0xbef9a3f7,0xc67178f2]:List mj).getD i 0#32
def Z2 (i:Nat):mj:=([0x6a09e667,0xbb67ae85,0x3c6ef372,0xa54ff53a,0x510e527f,0x9b05688c,0x1f83d9ab,0x5be0cd19]:List mj).getD i 0#32
def YL (s ws:Nat->mj):Nat->V8
 |0=>⟨s 0,s 1,s 2,s 3,s 4,s 5,s 6,s 7⟩
 |k+1=>rnd (YL s ws k) (ac6 k) (ws k)
def XR (s ws:Nat->mj) (i:Nat):mj:=s i+(YL s ws 64).at i
def Uu (f:Nat->Nat):Nat->Nat->mj
 |0=>λ_=>0#32
 |k+1=>λi=>if i=k / 4 then (Uu f k (k / 4) <<< 8) ||| BitVec.ofNat 32 (f k) else Uu f k i
def sg0 (x:mj):mj:=Mn x 7 ^^^ Mn x 18 ^^^ (x >>> 3)
def sg1 (x:mj):mj:=Mn x 17 ^^^ Mn x 19 ^^^ (x >>> 10)
def GM (f:Nat->Nat):Nat->Nat->mj
 |0=>Uu f 64
 |k+1=>λi=>if i=k+16 then sg1 (GM f k (k+14))+GM f k (k+9)+sg0 (GM f k (k+1))+GM f k k else GM f k i
def M8 (f:Nat->Nat):Nat->mj:=GM f 48
def WL (s:Nat->mj) (i:Nat):Nat:=(s (i / 4) >>> (8*(3 - i % 4))).toNat % 256
def ai3 (s:Nat->mj):Id:=nk (WL s)
def jA (w:World) (g:Nat) (C:Array Value):Prop:=∃ t fr,w.heap[g]? = some (.cells C t fr)
theorem jA.keep {w0 w:World} {g:Nat} {C:Array Value} (h:jA w0 g C) (e:Ext w0 w):jA w g C:=by
 obtain ⟨t,fr,h⟩:=h
 exact ⟨t,fr,(e.heap (ax1.1 h).1).trans h⟩
section
variable {ro:Option Nat} {P:Program} {ops:Array Oper} {Q:Act->World->Prop} {l:List Oper} {a:Act} {w w0:World} {N:Nat} {L:List (Nat × Value)} {Df:List Deferred} {B:List Own} {d:Tmp} {ty:TypeId} {pos:String} {af:Array Edge} {x y:Operand} {t:TypeId} {g:Nat} {C:Array Value}
end
section
variable {P:Program} {ops:List Oper} {K:Act->World->Prop} {l:List Oper} {a:Act} {w w0:World} {N:Nat} {L:List (Nat × Value)} {Df:List Deferred} {B:List Own} {d:Tmp} {ty:TypeId} {pos:String} {af:Array Edge} {x:Operand} {t:TypeId} {g:Nat} {C:Array Value}
end
section
variable {P:Program} {a:Act} {w w0:World} {N:Nat} {L:List (Nat × Value)} {Df:List Deferred} {B:List Own} {fn:Func} {T:cX}
theorem gC {t u:Tmp} {V U:Value} (hr:fn.results=#[.tmp t,.tmp u]) (h:Sl N a L) (s:St w0 B w) (hv:lk L t=some V) (hu:lk L u=some U) (hT:T (.tuple #[V,U]) w):bodyPost P fn (bW w0 T) .ret a w:=
 ⟨h.defers,.tuple #[V,U],by rw [results_tmp2 hr,h.holds t V hv,h.holds u U hu],_,rfl,hT,s.ext⟩
end
section
variable {P:Program} {ρ:Operand->Value} {d:Option Tmp} {ty:TypeId} {pos:String} {af:Array Edge} {g:Option (Nat × Bool)} {x y:Operand} {t t' e:TypeId} {k:IntKind} {m n:Int}
end
def i6 (P:Program) (l:Nat) (args:Array Value) (w:World) (R:Value->World->Prop):Prop:=
 ∃ fn tmps assign body,(Instr.yield l args).run P w=.ok (.round l fn tmps assign body) w/\RoundIn Fence.wide 0 P l fn tmps assign body w λe w'=>∃ v,e=.returned v/\R v w'
theorem CG {P:Program} {ρ:Operand->Value} {dst:Option Tmp} {g:Option (Nat × Bool)} {ty:TypeId} {pos:String} {af:Array Edge} {l:Nat} {cal:Operand} {args:Array Operand} {tys:Array TypeId} {vs:Array Value} {w:World}
 (hc:ρ cal=.func (.yield l) #[] #[]) (hvs:args.map ρ=vs) {R:Value->World->Prop} (hy:i6 P l vs w R):cL P ⟨dst,.call {callee:=.value cal,args:=args,argTypes:=tys},ty,pos,af,g⟩ ρ w R:=by
 obtain ⟨fn,tmps,assign,body,h1,h2⟩:=hy
 unfold cL
 simp only [execOp,resolve,hc,hvs,Deferred.ofValue,au7,au8,aq9,invoke,Array.append_empty,Array.empty_append,h1]
 exact h2
section
variable {ro:Option Nat} {P:Program} {ops:Array Oper} {Q:Act->World->Prop} {l:List Oper} {a:Act} {w w0:World} {N:Nat} {L:List (Nat × Value)} {Df:List Deferred} {B:List Own} {d:Tmp} {ty:TypeId} {pos:String} {af:Array Edge} {x y:Operand} {t:TypeId}
theorem lL {args:Array Operand} {vs:List Value} (h:Sl N a L Df) (hvs:args.toList.map (ec L)=vs.map some):args.map a.eval=vs.toArray:=by
 apply Array.ext'
 rw [Array.toList_map]
 exact evs h hvs
theorem df {f:FuncId} {args:Array Operand} {tys:Array TypeId} (vs:List Value) {T:Value->World->Prop} (h:Sl N a L Df) (hf:Fnc P f) (hc:Calls P f vs.toArray w (λe w'=>∃ v,e=.returned v/\T v w')) (hvs:args.toList.map (ec L)=vs.map some)
 (hd:Nat.blt d N=true) (k:∀ a' w' v,T v w'->Sl N a' ((d,v)::L) Df->ce P ops Q l a' w'):
 ce P ops Q (⟨some d,.call {callee:=.value (.func f),args:=args,argTypes:=tys},ty,pos,af,none⟩::l) a w:=
 dR (R:=T) h (qf hf rfl (lL h hvs) hc) hd k
theorem de {ρ:Operand->Value} {dst:Option Tmp} {g:Option (Nat × Bool)} {f:FuncId} {cap:Array Operand} (vs:List Value) (hvs:cap.map ρ=vs.toArray):a8 P ⟨dst,.makeFunc (.func f) #[] cap,ty,pos,af,g⟩ ρ (.func (.func f) #[] vs.toArray):=λw=>by
 simp [execOp,Instr.makeFunc,hvs,au7]
theorem Sl.round1 {p:Nat} {V:Value} (h:Sl N a L Df) (hp:Nat.blt p N=true):Sl N {tmps:=((#[p]:Array Tmp).zip [V].toArray).foldl (λt (q,v)=>t.setIfInBounds q v) a.tmps,defers:=[]} ((p,V)::L):=by
 have h1:Sl N {a with defers:=[]} L:=⟨h.size,rfl,h.holds⟩
 have e:((#[p]:Array Tmp).zip [V].toArray).foldl (λt (q,v)=>t.setIfInBounds q v) a.tmps=a.tmps.setIfInBounds p V:=by simp
 rw [e]
 exact h1.put hp V
end
def jQ (a:Act) (D:Nat) (fn:FuncId) (ps:Array Tmp) (assign body:Code) (pe:Option Code) (st:LoopState):Loop:={state:=st,pending:=pe,fn:=fn,tmps:=a.tmps,params:=ps,assign:=assign,body:=body,defers:=D}
theorem St.putObj {w0:World} {B:List Own} {w:World} (h:St w0 B w) (i:Nat) {b:Nat} {o:Obj} (hi:B[i]? = some (.blk b o)) (o':Obj):St w0 (B.set i (.blk b o')) (w.putObj b o'):=
 h.upd i hi rfl rfl rfl (by simp) (World.putObj_heap_same (ax1.1 (h.get i hi)).1) (λk hk=>.inl hk) (λk _ hk=>World.putObj_heap_other (λe=>hk (Own.at_blk.2 e)))
theorem ni {α:Type} {B:List α} {i:Nat} {p:α} (hi:B[i]? = some p):B.Perm (p::B.eraseIdx i):=by
 induction B generalizing i with
 |nil=>simp at hi
 |cons b B ih=>
  cases i with
  |zero=>simp at hi;subst hi;simp
  |succ i=>exact (List.Perm.cons _ (ih (by simpa using hi))).trans (ax3 _ _ _)
theorem uW {α:Type} {B:List α} {i:Nat} (hi:i<B.length) (p:α):(p::B.eraseIdx i).Perm (B.set i p):=by
 induction B generalizing i with
 |nil=>simp at hi
 |cons b B ih=>
  cases i with
  |zero=>simp
  |succ i=>exact (ax3 _ _ _).trans (List.Perm.cons _ (ih (by simpa using hi)))
theorem fA {A:List Own} {w0 w:World} {R:List Own} (s:St w0 (A++R) w):A.Pairwise λp q=>∀ k,p.at k->¬ q.at k:=(List.pairwise_append.1 s.nd).1
theorem AA {A A':List Own} (he:A.map Own.ks=A'.map Own.ks) (h:A.Pairwise λp q=>∀ k,p.at k->¬ q.at k):A'.Pairwise λp q=>∀ k,p.at k->¬ q.at k:=by
 have e1:∀ l:List Own,(l.Pairwise λp q=>∀ k,p.at k->¬ q.at k)↔(l.map Own.ks).Pairwise λx y=>∀ k,k∈x->¬ k∈y:=λl=>by rw [List.pairwise_map];rfl
 rw [e1] at h ⊢
 rw [← he];exact h
def Rd (w:World) (v:Value) (n:Nat) (xs:List Value):Prop:=
 xs.length=n/\((v=.slice none 0 0/\n=0)∨∃ p c,v=.slice (some p) n c/\n<=c/\∀ j x,xs[j]? = some x->w.cell? (p.add j)=some x)
def bf (v:Value) (j:Nat):Addr:=match v with|.slice (some p) _ _=>p.add j|_=>⟨0,0,none⟩
theorem xZ {w:World} {p:Addr} {x:Value} (h:w.cell? p=some x):p.block<w.heap.size:=by
 rcases as4 p.block w.heap.size with h'|h'
 ·exact h'
 ·simp [World.cell?,at0 h'] at h
theorem Rd.keep {w0 w:World} {v:Value} {n:Nat} {xs:List Value} (h:Rd w0 v n xs) (e:Ext w0 w):Rd w v n xs:=by
 refine ⟨h.1,h.2.imp id λ⟨p,c,hv,hnc,hc⟩=>⟨p,c,hv,hnc,λj x hx=>?_⟩⟩
 have:=hc j x hx
 rw [e.cell (xZ this)];exact this
theorem Rd.of_own {w:World} {base:Nat} {e:TypeId} {v:Value} {n:Nat} {xs:List Value} (h:cd w base e 1 v n xs):Rd w v n xs:=by
 refine ⟨by simpa using h.1,?_⟩
 rcases fR h with ⟨p,c,hv⟩
 cases p with
 |none=>
  rcases h.2 with ⟨h1,h2⟩|⟨g,cap,cur,fz,h1,_⟩
  ·exact .inl ⟨h1,h2⟩
  ·rw [hv] at h1;cases h1
 |some p=>
  have hnc:n<=c:=by
   rcases h.2 with ⟨h1,h2⟩|⟨g,cap,cur,fz,h1,_,_,_,h2,_⟩
   ·omega
   ·rw [hv] at h1
    injection h1 with _ _ h1
    omega
  refine .inr ⟨p,c,hv,hnc,λj x hx=>?_⟩
  rcases h.2 with ⟨h1,h2⟩|⟨g,cap,cur,fz,h1,_⟩
  ·rw [hv] at h1;cases h1
  ·rw [hv] at h1
   injection h1 with h1 _ _
   injection h1 with h1
   subst h1
   subst hv
   exact h.cells (g:=g) rfl j x hx
theorem Rd.len {w:World} {v:Value} {n:Nat} {xs:List Value} (h:Rd w v n xs):∃ a c,v=.slice a n c:=by
 rcases h.2 with ⟨h1,h2⟩|⟨p,c,h1,_,_⟩
 ·exact ⟨none,0,by rw [h1,h2]⟩
 ·exact ⟨some p,c,h1⟩
theorem Rd.at {w:World} {v:Value} {n:Nat} {xs:List Value} (h:Rd w v n xs) {j:Nat} {x:Value} (hx:xs[j]? = some x):∃ p c,v=.slice (some p) n c/\w.cell? (bf v j)=some x:=by
 have hlt:=(aq4.1 hx).1
 rcases h.2 with ⟨h1,h2⟩|⟨p,c,h1,_,h2⟩
 ·have:=h.1;omega
 ·exact ⟨p,c,h1,by rw [h1];exact h2 j x hx⟩
def gG (v:Value) (k:Nat):Value:=match v with|.slice a _ c=>.slice a k c|v=>v
theorem Rd.cut {w:World} {v:Value} {n:Nat} {xs:List Value} (h:Rd w v n xs) (k:Nat) (hk:k<=n):Rd w (gG v k) k (xs.take k):=by
 refine ⟨by rw [au0,h.1];omega,?_⟩
 rcases h.2 with ⟨h1,h2⟩|⟨p,c,h1,h3,h2⟩
 ·left;subst h1;obtain rfl:k=0:=by omega
  exact ⟨rfl,rfl⟩
 ·right;subst h1
  refine ⟨p,c,rfl,by omega,λj x hx=>h2 j x ?_⟩
  rw [List.getElem?_take] at hx
  split at hx
  ·exact hx
  ·cases hx
section
variable {P:Program} {ρ:Operand->Value} {d:Option Tmp} {ty:TypeId} {pos:String} {af:Array Edge} {g:Option (Nat × Bool)} {x y:Operand} {t t' e:TypeId} {k:IntKind} {m:Int}
theorem qW {b len:Nat} (j:Nat) (ht:P.underlying t=some (.array len e)) (he:(P.info? e).map (·.size)=some 1) (hx:ρ x=.pointer (some ⟨b,0,none⟩)) (hy:ρ y=.int k m) (hj:m=(j:Int)) (hle:j<=len):
 a8 P ⟨d,.slice t x (some y) none none,ty,pos,af,g⟩ ρ (.slice (some ⟨b,if len=j then 0 else j,none⟩) (len - j) (len - j)):=λw=>by
 subst hj
 cases hi:P.info? e with
 |none=>simp [hi] at he
 |some i=>
  have h1:i.size=1:=by simpa [hi] using he
  have h2:(0:Int)<=(j:Int)/\(j:Int)<=(len:Int):=by omega
  have ha:(⟨b,0,none⟩:Addr).add j=⟨b,j,none⟩:=by unfold Addr.add;split<;>simp_all
  by_cases hjl:len=j
  ·subst hjl
   simp [execOp,hx,hy,Instr.sliceAt,Instr.sliceBounds,Instr.sliceBound,asIntOf,au7,ar1 ht,Instr.sureAddr,sizeOf,typeInfo,hi,h1]
  ·simp [execOp,hx,hy,Instr.sliceAt,Instr.sliceBounds,Instr.sliceBound,asIntOf,au7,ar1 ht,Instr.sureAddr,sizeOf,typeInfo,hi,h1,hle,ha,hjl]
end
section
variable {ro:Option Nat} {P:Program} {ops:Array Oper} {Q:Act->World->Prop} {l:List Oper} {a:Act} {w w0:World} {N:Nat} {L:List (Nat × Value)} {Df:List Deferred} {B:List Own} {d:Tmp} {ty:TypeId} {pos:String} {af:Array Edge} {x y:Operand} {t t' e:TypeId}
end
section
variable {P:Program} {a:Act} {w w0:World} {N:Nat} {L:List (Nat × Value)} {B:List Own} {fn:Func} {T:cX} {R:Ending->World->Prop}
theorem da {f:FuncId} {c:Code} {args:List Value} {n:Nat} (hf:P.funcs[f]? = some fn) (hb:fn.body=some c) (hn:fn.ntmps=n) (hs:Nat.ble args.length n=true) (L:List (Nat × Value)) (hL:∀ p∈L,args[p.1]? = some p.2)
 (h:∀ a,Sl n a L->c.wpIn (FR none) 0 P (bodyPost P fn R) a w):Calls P f args.toArray w R:=by
 refine callsIn_wide.1 (callsIn_of_wp (n:=0) hf hb trivial ?_)
 rw [hn]
 exact h _ (Sl.enter L (by simpa using hs) (by simpa using hL))
theorem eh {f:FuncId} {c:Code} {args:List Value} {n:Nat} (hf:P.funcs[f]? = some fn) (hb:fn.body=some c) (hn:fn.ntmps=n) (hs:Nat.ble args.length n=true) (L:List (Nat × Value)) (hL:∀ p∈L,args[p.1]? = some p.2)
 (h:∀ a,Sl n a L->c.wpIn (FR none) 0 P (bodyPostM (FR none) 0 P fn (bW w T)) a w):Calls P f args.toArray w (bW w T):=by
 refine callsIn_wide.1 (callsIn_of_wp_marks (n:=0) hf hb trivial ?_)
 rw [hn]
 exact h _ (Sl.enter L (by simpa using hs) (by simpa using hL))
theorem jo (hr:fn.results=#[]) (h:Sl N a L) (hR:R (.returned (.tuple #[])) w):bodyPost P fn R .ret a w:=⟨h.defers,_,results_none hr _ _ _,hR⟩
theorem dN (hr:fn.results=#[]) (h:Sl N a L) (hR:R (.returned (.tuple #[])) w):bodyPost P fn R .normal a w:=⟨h.defers,_,results_none hr _ _ _,hR⟩
theorem gB {t:Tmp} {V:Value} (hr:fn.results=#[.tmp t]) (h:Sl N a L) (hv:lk L t=some V) (hR:R (.returned V) w):bodyPost P fn R .ret a w:=⟨h.defers,V,by rw [results_tmp hr,h.holds t V hv],hR⟩
end
def pre:List ByteArray->Nat->Nat
 |[],_=>0
 |_::_,0=>0
 |x::r,p+1=>x.size+pre r p
theorem wb (s:ByteArray) (j:Nat):sb s j=((s.data[j]?).getD 0).toNat:=by
 unfold sb;rw [as6,aw9]
theorem dW (x y:ByteArray) (j:Nat) (h:j<x.size):sb (x++y) j=sb x j:=by
 rw [wb,wb,ByteArray.data_append,aw3 (by exact h)]
theorem kE (x y:ByteArray) (j:Nat):sb (x++y) (x.size+j)=sb y j:=by
 rw [wb,wb,ByteArray.data_append,Array.getElem?_append_right (by show x.data.size<=_;exact Nat.le_add_right _ _)]
 congr 3
 show x.data.size+j - x.data.size=j
 omega
def nbk (s:ByteArray):Nat:=(s.size+8) / 64+1
def ad6 (s:ByteArray) (i:Nat):Nat:=
 if i<s.size then sb s i else if i=s.size then 128 else if i<64*((s.size+8) / 64)+56 then 0 else 8*s.size / 256 ^ (64*((s.size+8) / 64)+63 - i) % 256
def ad8 (s:ByteArray) (d i:Nat):Nat:=ad6 s (64*d+i)
def Hs (s:ByteArray):Nat->Nat->mj
 |0=>Z2
 |d+1=>XR (Hs s d) (M8 (ad8 s d))
def XA (s:ByteArray):Id:=ai3 (Hs s (nbk s))
def byL (ns:List Nat):List Value:=ns.map λ(m:Nat)=>.int .u8 (m:Int)
@[simp] theorem Th (ns:List Nat):(byL ns).length=ns.length:=by simp [byL]
def Za (sx:ByteArray):List Nat:=sx.data.toList.map UInt8.toNat
@[simp] theorem QA (sx:ByteArray):(Za sx).length=sx.size:=by simp [Za]
section
variable {ro:Option Nat} {P:Program} {ops:Array Oper} {Q:Act->World->Prop} {l:List Oper} {a:Act} {w w0:World} {N:Nat} {L:List (Nat × Value)} {Df:List Deferred} {B:List Own} {d:Tmp} {ty:TypeId} {pos:String} {af:Array Edge} {x y:Operand} {t t' e:TypeId}
end
section
variable {P:Program} {ρ:Operand->Value} {d:Option Tmp} {ty:TypeId} {pos:String} {af:Array Edge} {g:Option (Nat × Bool)} {x y:Operand} {t t' e:TypeId} {m n:Int}
theorem Ka {k:IntKind} {v:Value} {n:Nat} {c:Option Addr × Nat} (hv:v=.slice c.1 n c.2) (ht:P.underlying t=some (.slice e)) (hx:ρ x=v):a8 P ⟨d,.call {callee:=.builtin .len,args:=#[x],argTypes:=#[t]},ty,pos,af,g⟩ ρ (.int .i64 (n:Int)):=λw=>by
 subst hv
 simp [execOp,resolve,hx,invoke,builtin,Builtin.len_,au7,ar1 ht,goInt]
end
theorem OV {w0 w:World} {B:List Own} (s:St w0 B w) (i:Nat) {v:Value} {e:TypeId} {sz n:Nat} {xs:List Value} (hi:B[i]? = some (.sl v e sz n xs)):∃ c:Option Addr × Nat,v=.slice c.1 n c.2:=by
 obtain ⟨a,c,hv⟩:=fR (s.getSl i hi)
 exact ⟨(a,c),hv⟩
section
variable {ro:Option Nat} {P:Program} {ops:Array Oper} {Q:Act->World->Prop} {l:List Oper} {a:Act} {w w0:World} {N:Nat} {L:List (Nat × Value)} {Df:List Deferred} {B:List Own} {d:Tmp} {ty:TypeId} {pos:String} {af:Array Edge} {x y:Operand} {t t' e:TypeId}
theorem eF {v:Value} {sz n:Nat} {xs:List Value} (i:Nat) (h:Sl N a L Df) (s:St w0 B w) (ht:P.underlying t=some (.slice e)) (hx:ec L x=some v) {e':TypeId} (hi:B[i]? = some (.sl v e' sz n xs)) (hd:Nat.blt d N=true)
 (k:∀ a',Sl N a' ((d,.int .i64 (n:Int))::L) Df->ce P ops Q l a' w):
 ce P ops Q (⟨some d,.call {callee:=.builtin .len,args:=#[x],argTypes:=#[t]},ty,pos,af,none⟩::l) a w:=by
 obtain ⟨c,hv⟩:=OV s i hi
 exact ak h (Ka (k:=.i64) hv ht (h.ev hx)) hd k
end
end Go.Proofs.YthmlflaiidhoiaaGreatDoor
namespace Go.Proofs.YthmlflaiidhoiaaGreatDoor
open Go.RowKit Go.ChangeShapes Go.WideShapes Go.ChangeAt
theorem BJ {H:Type} {enc:TypeId × Value->H} {P:Program} {w:World} {base:Nat} {sp:Nat->Bool} {held:Bool} {fuel n:Nat} {t e:TypeId} {k:IntKind} {cs:List Value} {pl:List MemPlace}
 (ht:P.underlying t=some (.array n e)) (he:P.underlying e=some (.int k)) (hc:P.cellsOf e=1) (hct:P.cellsOf t=n) (ns:List Int)
 (h:DataW.trod enc P w base sp held fuel t cs=some (.agg (ns.map λm=>.lit (.int k m)),pl)):cs=ns.map (Value.int k):=by
 obtain ⟨xs,m,_,hx,hl,hn,hel⟩:=DataW.trod_array ht h
 rw [hc] at hel
 simp only [av8,DataW.agg.injEq] at hx
 have hmap:=hx.1
 have hnl:ns.length=n:=by
  have:=aq3 List.length hmap
  simp at this;omega
 apply List.ext_getElem?
 intro i
 by_cases hi:i<n
 ·have h1:=hel i hi
  rw [Nat.mul_one] at h1
  have hxi:i<xs.length:=by omega
  rw [aq8 hxi] at h1
  obtain ⟨r,e1,e2,_⟩:=DataW.trod_int he h1
  have h2:=aq3 (λl=>l[i]?) hmap
  simp only [av0,aq8 hxi,Option.map_some,e2] at h2
  have hni:i<ns.length:=by omega
  rw [aq8 hni] at h2
  simp at h2
  have h3:cs[i]? = some (.int k r):=by
   have:=aq3 (λl=>l[0]?) e1
   simpa [List.getElem?_take,aw8] using this
  rw [h3,av0,aq8 hni,Option.map_some,h2]
 ·rw [av1 (by omega),av1 (by simp;omega)]
theorem jA.of_var {P:Program} {w:World} {nm:String} {g:Nat} {cs:Array Value} (hg:P.globalNamed nm=some g) (h:w.var? P nm=some cs):jA w g cs:=by
 simp only [World.var?,hg,Option.bind_some] at h
 split at h
 ·rename_i c t fr e
  injection h with h
  subst h
  exact ⟨t,fr,e⟩
 ·cases h
theorem jA.of_ints {H:Type} {enc:TypeId × Value->H} {P:Program} {w:World} {base:Nat} {sp:Nat->Bool} {held:Bool} {fuel n:Nat} {t e:TypeId} {k:IntKind} {cs:Array Value} {pl:List MemPlace} {nm:String} {g:Nat}
 (hg:P.globalNamed nm=some g) (hv:w.var? P nm=some cs) (ht:P.underlying t=some (.array n e)) (he:P.underlying e=some (.int k)) (hc:P.cellsOf e=1) (hct:P.cellsOf t=n) (ns:List Int) (C:Array Value)
 (h:DataW.trod enc P w base sp held fuel t cs.toList=some (.agg (ns.map λm=>.lit (.int k m)),pl)) (hC:(ns.map (Value.int k)).toArray=C):jA w g C:=by
 have h1:=BJ ht he hc hct ns h
 have h2:cs=C:=by
  rw [← hC,← h1]
 rw [← h2]
 exact jA.of_var hg hv
theorem cL.is {P:Program} {o:Oper} {ρ:Operand->Value} {w:World} {X:Value} (h:a8 P o ρ X):cL P o ρ w (λv w'=>is X v w'/\Ext w w'):=h.does ⟨rfl,Ext.refl _⟩
theorem Rd.mono {n:Nat} {xs:List Value}:qV (λv w=>Rd w v n xs):=λ_ _ _ h e=>h.keep e
theorem dU {a:Act} {N:Nat} {Df:List Deferred} (L:List (Nat × Value)) (hs:a.tmps.size=N) (hd:a.defers=Df) (h:∀ t v,lk L t=some v->a.tmps.getD t undef=v):Sl N a L Df:=⟨hs,hd,h⟩
section
variable {ops:List Oper} {cl:List Nat} {Ts:List cX} {a0 a:Act} {w:World} {lk9:List Tmp}
end
def r5 (a:Act):List (Nat × Value)->Prop
 |[]=>True
 |(t,v)::r=>a.tmps.getD t undef=v/\r5 a r
theorem holds_lk {a:Act}:∀ {L:List (Nat × Value)},r5 a L->∀ t v,lk L t=some v->a.tmps.getD t undef=v
 |[],_,t,v,h=>by simp [lk] at h
 |(k,u)::r,H,t,v,h=>by
  unfold lk at h
  cases hb:Nat.beq k t with
  |true=>
   rw [hb] at h
   simp at h
   have:k=t:=by simpa using hb
   subst this;subst h;exact H.1
  |false=>rw [hb] at h;exact holds_lk H.2 t v h
theorem St.nilSl {w0 w:World} {B:List Own} (s:St w0 B w) (e:TypeId) (sz:Nat):St w0 (.sl (.slice none 0 0) e sz 0 []::B) w:=
 s.plus (Ext.refl w) _ ⟨by simp,.inl ⟨rfl,rfl⟩⟩ λk hk=>by rw [Own.at_sl] at hk;simp [Value.ownBlock] at hk
end Go.Proofs.YthmlflaiidhoiaaGreatDoor
