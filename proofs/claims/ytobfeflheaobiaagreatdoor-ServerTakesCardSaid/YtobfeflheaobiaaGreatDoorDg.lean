/- Words of 32 bits, tables, ranges over functions, texts and their blocks, and what the sum of abc comes to; no Go in it. -/
import Derived.Laws.CopyRow
import Derived.RangeFuncLeaves
import Derived.Laws.IdiomStrings
import Derived.ProofKit
import Derived.LaidMore
import Derived.OpenShut
import Derived.Stop.Joined
import Derived.MakeChecks
import Derived.SliceStrings
import Derived.Lib.Join
import Derived.Test.YtobfeflheaobiaaGreatDoorId
set_option linter.unusedVariables false
set_option linter.unusedSimpArgs false
set_option linter.unusedSectionVars false
namespace Go.Proofs.YtobfeflheaobiaaGreatDoor
open Go.RowKit
abbrev eV:=BitVec 32
def wv (x:eV):Value:=.int .u32 (x.toNat:Int)
def wF (f:Nat→eV) (n:Nat):Array Value:=((List.range n).map fun i=>wv (f i)).toArray
@[simp] theorem eG (f:Nat→eV) (n:Nat):(wF f n).size=n:=by simp [wF]
theorem eB (f:Nat→eV) (n i:Nat) (h:i<n):(wF f n)[i]? = some (wv (f i)):=by simp [wF,h]
theorem qX {f g:Nat→eV} {n:Nat} (h:∀ i,i<n→f i=g i):wF f n=wF g n:=by
 unfold wF
 congr 1
 exact List.map_congr_left fun i hi=>by rw [h i (List.mem_range.1 hi)]
theorem yg (f:Nat→eV) (n j:Nat) (v:eV):(wF f n).setIfInBounds j (wv v)=wF (fun i=>if i=j then v else f i) n:=by
 apply Array.ext_getElem?
 intro i
 by_cases hi:i<n
 ·rw [eB _ n i hi]
  by_cases hij:j=i
  ·subst hij;simp [hi]
  ·rw [Array.getElem?_setIfInBounds_ne hij,eB _ n i hi,if_neg (fun e=>hij e.symm)]
 ·rw [Array.getElem?_eq_none (by simp;omega),Array.getElem?_eq_none (by simp;omega)]
theorem pS (f:Nat→eV) (n:Nat):∀ v∈(wF f n).toList,v.oneCell'=true:=by
 intro v hv
 simp [wF] at hv
 obtain ⟨x,_,rfl⟩:=hv
 rfl
theorem bc (f:Nat→Nat) (n:Nat):∀ v∈(aO f n).toList,v.oneCell'=true:=by
 intro v hv
 simp [aO] at hv
 obtain ⟨x,_,rfl⟩:=hv
 rfl
theorem eI (n:Nat):IntKind.u32.wrap (n:Int)=((n % 4294967296:Nat):Int):=by
 rw [IntKind.wrap_u32];omega
section
variable {P:Program} {ρ:Operand→Value} {d:Option Tmp} {ty:TypeId} {pos:String} {af:Array Edge} {g:Option (Nat × Bool)} {x y:Operand} {t t' e:TypeId} {k k':IntKind} {m n:Int} {a b:eV}
theorem dc (hx:ρ x=wv a) (hy:ρ y=wv b):aM P ⟨d,.binOp .add t x y t',ty,pos,af,g⟩ ρ (wv (a+b)):=
 aV _ (nZ hx hy) (by unfold wv;rw [← Int.natCast_add,eI,BitVec.toNat_add])
theorem c8 (hx:ρ x=wv a) (hy:ρ y=wv b):aM P ⟨d,.binOp .xor t x y t',ty,pos,af,g⟩ ρ (wv (a ^^^ b)):=
 n6 (.inr (.inr (.inl rfl))) hx hy fun w=>by
  show Result.ok (Value.int .u32 (IntKind.u32.wrap ((BitVec.ofInt 32 (a.toNat:Int) ^^^ BitVec.ofInt 32 (b.toNat:Int)).toNat:Int))) w=_
  rw [fC,fC,BitVec.ofNat_toNat,BitVec.ofNat_toNat,BitVec.setWidth_eq,BitVec.setWidth_eq,eI,Nat.mod_eq_of_lt (a ^^^ b).isLt];rfl
theorem fM (hx:ρ x=wv a) (hy:ρ y=wv b):aM P ⟨d,.binOp .and t x y t',ty,pos,af,g⟩ ρ (wv (a &&& b)):=
 n6 (.inl rfl) hx hy fun w=>by
  show Result.ok (Value.int .u32 (IntKind.u32.wrap ((BitVec.ofInt 32 (a.toNat:Int) &&& BitVec.ofInt 32 (b.toNat:Int)).toNat:Int))) w=_
  rw [fC,fC,BitVec.ofNat_toNat,BitVec.ofNat_toNat,BitVec.setWidth_eq,BitVec.setWidth_eq,eI,Nat.mod_eq_of_lt (a &&& b).isLt];rfl
theorem yv (hx:ρ x=wv a) (hy:ρ y=wv b):aM P ⟨d,.binOp .or t x y t',ty,pos,af,g⟩ ρ (wv (a ||| b)):=
 n6 (.inr (.inl rfl)) hx hy fun w=>by
  show Result.ok (Value.int .u32 (IntKind.u32.wrap ((BitVec.ofInt 32 (a.toNat:Int) ||| BitVec.ofInt 32 (b.toNat:Int)).toNat:Int))) w=_
  rw [fC,fC,BitVec.ofNat_toNat,BitVec.ofNat_toNat,BitVec.setWidth_eq,BitVec.setWidth_eq,eI,Nat.mod_eq_of_lt (a ||| b).isLt];rfl
theorem DM (hx:ρ x=wv a):aM P ⟨d,.unOp .xor t x,ty,pos,af,g⟩ ρ (wv (~~~a)):=fun w=>by
 have e:BitVec.ofNat 32 4294967295 ^^^ a = ~~~a:=by
  have:BitVec.ofNat 32 4294967295=BitVec.allOnes 32:=by decide
  rw [this,BitVec.allOnes_xor]
 simp only [execOp,hx,wv]
 show Result.ok (Next.value (Value.int .u32 (IntKind.u32.wrap ((BitVec.ofInt 32 ((4294967295:Nat):Int) ^^^ BitVec.ofInt 32 (a.toNat:Int)).toNat:Int)))) w=_
 rw [fC,fC,BitVec.ofNat_toNat,BitVec.setWidth_eq,e,eI,Nat.mod_eq_of_lt (~~~a).isLt]
theorem uF (s:Nat) (hx:ρ x=wv a) (hy:ρ y=.int k' n) (hs:n=(s:Int)) (h32:s≤32):aM P ⟨d,.binOp .shl t x y t',ty,pos,af,g⟩ ρ (wv (a <<< s)):=
 aV _ (JR hx hy (by omega)) (by
  have hk:IntKind.u32.bits=32:=rfl
  subst hs
  unfold wv
  rw [hk,Int.toNat_natCast,Nat.min_eq_left h32,BitVec.toNat_shiftLeft,Nat.shiftLeft_eq,show ((2:Int) ^ s)=((2 ^ s:Nat):Int) by simp,← Int.natCast_mul,eI])
theorem nq (s:Nat) (hx:ρ x=wv a) (hy:ρ y=.int k' n) (hs:n=(s:Int)) (h32:s≤32):aM P ⟨d,.binOp .shr t x y t',ty,pos,af,g⟩ ρ (wv (a >>> s)):=
 aV _ (xO hx hy (by omega)) (by
  have hk:IntKind.u32.bits=32:=rfl
  subst hs
  unfold wv
  rw [hk,Int.toNat_natCast,Nat.min_eq_left h32,BitVec.toNat_ushiftRight,Nat.shiftRight_eq_div_pow,show ((2:Int) ^ s)=((2 ^ s:Nat):Int) by simp,Int.fdiv_eq_ediv_of_nonneg _ (Int.natCast_nonneg _),← Int.natCast_ediv])
theorem oY (c:Nat) {s:TypeDesc} (hs:P.underlying t=some s) (ht:P.underlying t'=some (.int .u32)) (hx:ρ x=.int k (c:Int)):aM P ⟨d,.convert t t' x,ty,pos,af,g⟩ ρ (wv (BitVec.ofNat 32 c)):=
 aV _ (nk hs ht hx) (by unfold wv;rw [eI,BitVec.toNat_ofNat])
theorem rf {s:TypeDesc} (hs:P.underlying t=some s) (ht:P.underlying t'=some (.int .u8)) (hx:ρ x=wv a):aM P ⟨d,.convert t t' x,ty,pos,af,g⟩ ρ (.int .u8 ((a.toNat % 256:Nat):Int)):=
 aV _ (nk hs ht hx) (by rw [IntKind.wrap_u8];simp)
theorem I5 (hx:ρ x=.int .i64 m) (h : -9223372036854775807≤m∧m≤9223372036854775807):aM P ⟨d,.unOp .neg t x,ty,pos,af,g⟩ ρ (.int .i64 (-m)):=fun w=>by
 have:=IntWalk.i64_in (0 - m) (by omega)
 simp [execOp,hx,Op.unary,Op.intArith,Sem.run_bind]
 rw [show (-m:Int)=0 - m by omega,this]
theorem kK {C:Array Value} {V:Value} {len:Nat} (j:Nat) (hd:P.underlying t=some (.array len e)) (he:(P.info? e).map (·.size)=some 1) (ha:P.underlying e=some (.int k')) (hx:ρ x=.agg C) (hy:ρ y=.int k m) (hj:m=(j:Int)) (hlt:j<len) (hC:C[j]? = some V):aM P ⟨d,.index t x y,ty,pos,af,g⟩ ρ V:=fun w=>by
 subst hj
 cases hi:P.info? e with
 |none=>simp [hi] at he
 |some i=>
  have h1:i.size=1:=by simpa [hi] using he
  have h2:(0:Int)≤(j:Int)∧(j:Int)<(len:Int):=by omega
  simp only [execOp,hx,hy,Instr.index,asIntOf,Sem.run_bind,Sem.run_pure,Result.andThen_ok,run_underlying hd w]
  rw [if_pos h2]
  have h3:(isAgg e).run P w=.ok false w:=by unfold isAgg;rw [Sem.run_bind,run_underlying ha w];rfl
  simp [Sem.run_bind,sizeOf,typeInfo,hi,h1,part,h3,hC]
theorem ry {len:Nat} {Z:Value} (hd:P.underlying t=some (.array len e)) (he:(P.info? e).map (·.size)=some 1) (hz:(P.info? t).bind (·.zero)=some Z):aM P ⟨d,.build t #[],ty,pos,af,g⟩ ρ (.agg Z.cells):=fun w=>by
 cases hi:P.info? t with
 |none=>simp [hi] at hz
 |some i=>
  have hz':i.zero=some Z:=by simpa [hi] using hz
  cases he2:P.info? e with
  |none=>simp [he2] at he
  |some i2=>simp [execOp,Instr.build,Sem.run_bind,run_underlying hd w,zeroValue,typeInfo,hi,hz',sizeOf,he2,Instr.fill]
theorem nW {len:Nat} {parts:Array (Nat × Operand)} (xs:List Operand) (vs:List Value) (hd:P.underlying t=some (.array len e)) (he:(P.info? e).map (·.size)=some 1) (hz:∃ z,(P.info? t).bind (·.zero)=some z∧z.cells.size=len)
 (hp:parts.toList=xs.zipIdx.map fun p=>(p.2,p.1)) (hxs:xs.map ρ=vs) (hv:∀ v∈vs,v.cells=#[v]) (hl:vs.length=len):aM P ⟨d,.build t parts,ty,pos,af,g⟩ ρ (.agg vs.toArray):=fun w=>by
 obtain ⟨z,hz,hzs⟩:=hz
 cases hi:P.info? t with
 |none=>simp [hi] at hz
 |some i=>
  have hz':i.zero=some z:=by simpa [hi] using hz
  cases he2:P.info? e with
  |none=>simp [he2] at he
  |some i2=>
   have h1:i2.size=1:=by simpa [he2] using he
   have hc:∀ v∈vs,v.cells.size=1:=fun v hm=>by rw [hv v hm];rfl
   obtain ⟨D,h2,h3⟩:=qp 1 vs 0 z.cells hc (by simp [hl,hzs])
   have h4:D=vs.toArray:=by
    apply Array.ext'
    rw [h3]
    have hfm:∀ l:List Value,(∀ v∈l,v.cells=#[v])→l.flatMap (fun v=>v.cells.toList)=l:=by
     intro l
     induction l with
     |nil=>intro _;rfl
     |cons v l ih=>intro hh;rw [List.flatMap_cons,hh v List.mem_cons_self,ih (fun u hu=>hh u (List.mem_cons_of_mem _ hu))];rfl
    rw [hfm vs hv]
    simp [hl,hzs]
   have h5:(parts.map fun p=>(p.1,ρ p.2)).toList=(vs.zipIdx 0).map fun p=>(p.2,p.1):=by
    rw [Array.toList_map,hp,List.map_map,← hxs]
    generalize (0:Nat)=k
    clear h3 h2 hp hxs hv hl hc h4
    induction xs generalizing k with
    |nil=>rfl
    |cons x xs ih=>simp only [List.zipIdx_cons,List.map_cons,Function.comp];rw [ih]
   have h6:(Instr.build t (parts.map fun p=>(p.1,ρ p.2))).run P w=.ok (.agg D) w:=by
    simp only [Instr.build,Sem.run_bind,zeroValue,typeInfo,run_program,hi,hz',Result.andThen_ok,Sem.run_pure,run_underlying hd w,sizeOf,he2,h1,h5]
    rw [h2]
    simp
   have:(execOp ρ ⟨d,.build t parts,ty,pos,af,g⟩)=(do let v ← Instr.build t (parts.map fun p=>(p.1,ρ p.2));pure (.value v)):=rfl
   rw [this,Sem.run_bind,h6,h4];rfl
end
def ru (x:eV) (n:Nat):eV:=(x <<< (32 - n)) ||| (x >>> n)
structure V8 where
 (a b c d e f g h:eV)
 deriving DecidableEq
def V8.at (v:V8) (i:Nat):eV:=[v.a,v.b,v.c,v.d,v.e,v.f,v.g,v.h].getD i 0#32
def Pj (v:V8) (k w:eV):eV:=v.h+(ru v.e 6 ^^^ ru v.e 11 ^^^ ru v.e 25)+(v.e &&& v.f ^^^ ~~~v.e &&& v.g)+k+w
def PQ (v:V8):eV:=(ru v.a 2 ^^^ ru v.a 13 ^^^ ru v.a 22)+(v.a &&& v.b ^^^ v.a &&& v.c ^^^ v.b &&& v.c)
def Cy (v:V8) (k w:eV):V8:=⟨Pj v k w+PQ v,v.a,v.b,v.c,v.d+Pj v k w,v.e,v.f,v.g⟩
def iJ (i:Nat):eV:=([0x428a2f98,0x71374491,0xb5c0fbcf,0xe9b5dba5,0x3956c25b,0x59f111f1,0x923f82a4,0xab1c5ed5,
 0xd807aa98,0x12835b01,0x243185be,0x550c7dc3,0x72be5d74,0x80deb1fe,0x9bdc06a7,0xc19bf174,
 0xe49b69c1,0xefbe4786,0x0fc19dc6,0x240ca1cc,0x2de92c6f,0x4a7484aa,0x5cb0a9dc,0x76f988da,
 0x983e5152,0xa831c66d,0xb00327c8,0xbf597fc7,0xc6e00bf3,0xd5a79147,0x06ca6351,0x14292967,
 0x27b70a85,0x2e1b2138,0x4d2c6dfc,0x53380d13,0x650a7354,0x766a0abb,0x81c2c92e,0x92722c85,
 0xa2bfe8a1,0xa81a664b,0xc24b8b70,0xc76c51a3,0xd192e819,0xd6990624,0xf40e3585,0x106aa070,
 0x19a4c116,0x1e376c08,0x2748774c,0x34b0bcb5,0x391c0cb3,0x4ed8aa4a,0x5b9cca4f,0x682e6ff3,
 0x748f82ee,0x78a5636f,0x84c87814,0x8cc70208,0x90befffa,0xa4506ceb,0xbef9a3f7,0xc67178f2]:List eV).getD i 0#32
def jp (i:Nat):eV:=([0x6a09e667,0xbb67ae85,0x3c6ef372,0xa54ff53a,0x510e527f,0x9b05688c,0x1f83d9ab,0x5be0cd19]:List eV).getD i 0#32
def iq (s ws:Nat→eV):Nat→V8
 |0=>⟨s 0,s 1,s 2,s 3,s 4,s 5,s 6,s 7⟩
 |k+1=>Cy (iq s ws k) (iJ k) (ws k)
def tT (s:Nat→eV) (v:V8) (k:Nat) (i:Nat):eV:=if i<k then s i+v.at i else s i
def pg (s ws:Nat→eV) (i:Nat):eV:=s i+(iq s ws 64).at i
def ol (f:Nat→Nat):Nat→Nat→eV
 |0=>fun _=>0#32
 |k+1=>fun i=>if i=k / 4 then (ol f k (k / 4) <<< 8) ||| BitVec.ofNat 32 (f k) else ol f k i
def OX (x:eV):eV:=ru x 7 ^^^ ru x 18 ^^^ (x >>> 3)
def Ok (x:eV):eV:=ru x 17 ^^^ ru x 19 ^^^ (x >>> 10)
def ky (f:Nat→Nat):Nat→Nat→eV
 |0=>ol f 64
 |k+1=>fun i=>if i=k+16 then Ok (ky f k (k+14))+ky f k (k+9)+OX (ky f k (k+1))+ky f k k else ky f k i
def cA (f:Nat→Nat):Nat→eV:=ky f 48
def iv (s:Nat→eV) (i:Nat):Nat:=(s (i / 4) >>> (8*(3 - i % 4))).toNat % 256
def AG (s:Nat→eV) (k i:Nat):Nat:=if i<k then iv s i else 0
def HD (s:Nat→eV):Id:=yd (iv s)
def E5 (c:Nat→Nat) (z i:Nat):Nat:=if i<56 then c i else 8*z / 256 ^ (63 - i) % 256
def Iy (c:Nat→Nat) (z k i:Nat):Nat:=if 63 - k<i then 8*z / 256 ^ (63 - i) % 256 else c i
theorem zD (n:Nat):wF (fun _=>0#32) n=(List.replicate n (Value.int .u32 0)).toArray:=by
 apply Array.ext_getElem?
 intro i
 by_cases h:i<n
 ·rw [eB _ _ _ h];simp [h,wv]
 ·rw [Array.getElem?_eq_none (by simp;omega),Array.getElem?_eq_none (by simp;omega)]
theorem Ap (s:Nat→eV) (v:V8):wF s 8=wF (tT s v 0) 8:=qX fun i _=>by simp [tT]
theorem Ab (s:Nat→eV) (v:V8) (k:Nat):(wF (tT s v k) 8).setIfInBounds k (wv (tT s v k k+v.at k))=wF (tT s v (k+1)) 8:=by
 rw [yg]
 refine qX fun i _=>?_
 unfold tT
 by_cases h:i=k
 ·subst h;simp
 ·rw [if_neg h]
  by_cases h2:i<k
  ·rw [if_pos h2,if_pos (by omega)]
  ·rw [if_neg h2,if_neg (by omega)]
theorem Dm (s ws:Nat→eV) (k:Nat) (h:8≤k):wF (tT s (iq s ws 64) k) 8=wF (pg s ws) 8:=qX fun i hi=>by unfold tT pg;rw [if_pos (by omega)]
theorem Bd (f:Nat→Nat) (k:Nat):(wF (ol f k) 64).setIfInBounds (k / 4) (wv ((ol f k (k / 4) <<< 8) ||| BitVec.ofNat 32 (f k)))=wF (ol f (k+1)) 64:=by
 rw [yg];rfl
theorem Bc (f:Nat→Nat) (k:Nat):(wF (ky f k) 64).setIfInBounds (k+16) (wv (Ok (ky f k (k+14))+ky f k (k+9)+OX (ky f k (k+1))+ky f k k))=wF (ky f (k+1)) 64:=by
 rw [yg];rfl
theorem DF (s:Nat→eV) (i:Nat):iv s i<256:=Nat.mod_lt _ (by decide)
theorem lM (s:Nat→eV) (k:Nat):(aO (AG s k) 32).setIfInBounds k (.int .u8 (iv s k:Int))=aO (AG s (k+1)) 32:=by
 rw [kN]
 refine ci fun i _=>?_
 unfold AG
 by_cases h:i=k
 ·subst h;simp
 ·rw [if_neg h]
  by_cases h2:i<k
  ·rw [if_pos h2,if_pos (by omega)]
  ·rw [if_neg h2,if_neg (by omega)]
theorem zT (s:Nat→eV) (k:Nat) (h:32≤k):aO (AG s k) 32=aA (HD s):=by
 rw [d4]
 refine ci fun i hi=>?_
 unfold AG HD
 rw [if_pos (by omega),lW _ (fun i=>DF s i) _ hi]
theorem EO (c:Nat→Nat) (z k:Nat) (hk:k<8):(aO (Iy c z k) 64).setIfInBounds (63 - k) (.int .u8 ((8*z / 256 ^ k % 256:Nat):Int))=aO (Iy c z (k+1)) 64:=by
 rw [kN]
 refine ci fun i hi=>?_
 unfold Iy
 by_cases h:i=63 - k
 ·subst h
  rw [if_pos rfl,if_pos (by omega),show 63 - (63 - k)=k from by omega]
 ·rw [if_neg h]
  by_cases h2:63 - k<i
  ·rw [if_pos h2,if_pos (by omega)]
  ·rw [if_neg h2,if_neg (by omega)]
theorem GP (c:Nat→Nat) (z k:Nat) (h:k=8):aO (Iy c z k) 64=aO (E5 c z) 64:=ci fun i hi=>by
 subst h
 unfold Iy E5
 by_cases h:i<56
 ·rw [if_pos h,if_neg (by omega)]
 ·rw [if_neg h,if_pos (by omega)]
theorem C6 (c:Nat→Nat) (z:Nat):aO c 64=aO (Iy c z 0) 64:=ci fun i hi=>by unfold Iy;rw [if_neg (by omega)]
def ff (w:World) (g:Nat) (C:Array Value):Prop:=∃ t fr,w.heap[g]? = some (.cells C t fr)
theorem ff.keep {w0 w:World} {g:Nat} {C:Array Value} (h:ff w0 g C) (e:Ext w0 w):ff w g C:=by
 obtain ⟨t,fr,h⟩:=h
 exact ⟨t,fr,(e.heap (Array.getElem?_eq_some_iff.1 h).1).trans h⟩
section
variable {ro:Option Nat} {P:Program} {ops:Array Oper} {Q:Act→World→Prop} {l:List Oper} {a:Act} {w w0:World} {N:Nat} {L:List (Nat × Value)} {Df:List Deferred} {B:List Own} {d:Tmp} {ty:TypeId} {pos:String} {af:Array Edge} {x y:Operand} {t:TypeId} {g:Nat} {C:Array Value}
theorem uq {ρ:Operand→Value} {n:Nat} {dst:Option Tmp} {gd:Option (Nat × Bool)} (hT:ff w g C) (hr:Row P t n) (hx:ρ x=.pointer (some ⟨g,0,none⟩)) (hn:C.size=n) {R:Value→World→Prop} (hR:R (.agg C) w):db P ⟨dst,.load t x,ty,pos,af,gd⟩ ρ w R:=by
 obtain ⟨u,fr,hb⟩:=hT
 exact jt hr hx hb hn hR
theorem tW {ρ:Operand→Value} {j:Nat} {V:Value} {dst:Option Tmp} {gd:Option (Nat × Bool)} (hT:ff w g C) (ho:One P t) (hx:ρ x=.pointer (some ⟨g,j,none⟩)) (hC:C[j]? = some V) {R:Value→World→Prop} (hR:R V w):db P ⟨dst,.load t x,ty,pos,af,gd⟩ ρ w R:=by
 obtain ⟨u,fr,hb⟩:=hT
 exact eT ho hx ((cell_of_row w g j C u fr hb).trans hC) hR
theorem EM {n:Nat} (hT:ff w0 g C) (h:Sl N a L Df) (s:St w0 B w) (hr:Row P t n) (hx:eu L x=some (.pointer (some ⟨g,0,none⟩))) (hn:C.size=n) (hd:Nat.blt d N=true)
 (k:∀ a',Sl N a' ((d,.agg C)::L) Df→bX P ops Q l a' w):bX P ops Q (⟨some d,.load t x,ty,pos,af,none⟩::l) a w:=
 dw (R:=fun v w'=>v=.agg C∧w'=w) h (uq (hT.keep s.ext) hr (h.ev hx) hn ⟨rfl,rfl⟩) hd fun a' w' v ⟨h1,h2⟩ hs=>by subst h1;subst h2;exact k a' hs
end
section
variable {P:Program} {ops:List Oper} {K:Act→World→Prop} {l:List Oper} {a:Act} {w w0:World} {N:Nat} {L:List (Nat × Value)} {Df:List Deferred} {B:List Own} {d:Tmp} {ty:TypeId} {pos:String} {af:Array Edge} {x:Operand} {t:TypeId} {g:Nat} {C:Array Value}
theorem Ao {j:Nat} {V:Value} (hT:ff w0 g C) (h:Sl N a L Df) (s:St w0 B w) (ho:One P t) (hx:eu L x=some (.pointer (some ⟨g,j,none⟩))) (hC:C[j]? = some V) (hd:Nat.blt d N=true)
 (k:∀ a',Sl N a' ((d,V)::L) Df→iK P ops.toArray K w l a'):iK P ops.toArray K w (⟨some d,.load t x,ty,pos,af,none⟩::l) a:=
 lE _ h (fun _ hE=>tW (hT.keep (s.ext.trans hE)) ho (h.ev hx) hC ⟨rfl,Ext.refl _⟩) hd k
end
section
variable {P:Program} {a:Act} {w w0:World} {N:Nat} {L:List (Nat × Value)} {Df:List Deferred} {B:List Own} {fn:Func} {T:cW}
theorem dr {t u:Tmp} {V U:Value} (hr:fn.results=#[.tmp t,.tmp u]) (h:Sl N a L) (s:St w0 B w) (hv:lk L t=some V) (hu:lk L u=some U) (hT:T (.tuple #[V,U]) w):bodyPost P fn (cp w0 T) .ret a w:=
 ⟨h.defers,.tuple #[V,U],by rw [results_tmp2 hr,h.holds t V hv,h.holds u U hu],_,rfl,hT,s.ext⟩
end
section
variable {P:Program} {ρ:Operand→Value} {d:Option Tmp} {ty:TypeId} {pos:String} {af:Array Edge} {g:Option (Nat × Bool)} {x y:Operand} {t t' e:TypeId} {k:IntKind} {m n:Int}
theorem Fh (hx:ρ x=.int k m) (hy:ρ y=.int k n):aM P ⟨d,.binOp .and t x y t',ty,pos,af,g⟩ ρ (.int k (k.wrap ((BitVec.ofInt k.bits m &&& BitVec.ofInt k.bits n).toNat:Int))):=
 n6 (.inl rfl) hx hy fun w=>rfl
end
theorem GI (n:Nat) (hn:1≤n∧n≤31):IntKind.u64.wrap ((BitVec.ofInt IntKind.u64.bits (IntKind.u64.wrap (-(n:Int))) &&& BitVec.ofInt IntKind.u64.bits 31).toNat:Int)=((32 - n:Nat):Int):=by
 have:∀ m:Fin 32,1≤m.val→IntKind.u64.wrap ((BitVec.ofInt IntKind.u64.bits (IntKind.u64.wrap (-(m.val:Int))) &&& BitVec.ofInt IntKind.u64.bits 31).toNat:Int)=((32 - m.val:Nat):Int):=by decide +kernel
 exact this ⟨n,by omega⟩ hn.1
theorem FN (n:Nat) (hn:1≤n∧n≤31):IntKind.u64.wrap (32 - ((32 - n:Nat):Int))=(n:Int):=by
 rw [IntWalk.u64_in _ (by omega)];omega
theorem wc (s:Nat→eV):aA 0#256=aO (AG s 0) 32:=by
 rw [d4]
 refine ci fun i hi=>?_
 unfold AG bz lf
 simp
theorem Je (z k:Nat):((8*z / 256 ^ k:Nat):Int).fdiv (2 ^ min ((8:Int).toNat) IntKind.u64.bits)=((8*z / 256 ^ (k+1):Nat):Int):=by
 have e:min ((8:Int).toNat) IntKind.u64.bits=8:=rfl
 rw [e,Int.fdiv_eq_ediv_of_nonneg _ (by decide),Nat.pow_succ,← Nat.div_div_eq_div_mul]
 rfl
def oC (P:Program) (l:Nat) (args:Array Value) (w:World) (R:Value→World→Prop):Prop:=
 ∃ fn tmps assign body,(Instr.yield l args).run P w=.ok (.round l fn tmps assign body) w∧RoundIn Fence.wide 0 P l fn tmps assign body w fun e w'=>∃ v,e=.returned v∧R v w'
theorem xC {P:Program} {ρ:Operand→Value} {dst:Option Tmp} {g:Option (Nat × Bool)} {ty:TypeId} {pos:String} {af:Array Edge} {l:Nat} {cal:Operand} {args:Array Operand} {tys:Array TypeId} {vs:Array Value} {w:World}
 (hc:ρ cal=.func (.yield l) #[] #[]) (hvs:args.map ρ=vs) {R:Value→World→Prop} (hy:oC P l vs w R):db P ⟨dst,.call {callee:=.value cal,args:=args,argTypes:=tys},ty,pos,af,g⟩ ρ w R:=by
 obtain ⟨fn,tmps,assign,body,h1,h2⟩:=hy
 unfold db
 simp only [execOp,resolve,hc,hvs,Deferred.ofValue,Sem.run_bind,Sem.run_pure,Result.andThen_ok,invoke,Array.append_empty,Array.empty_append,h1]
 exact h2
section
variable {ro:Option Nat} {P:Program} {ops:Array Oper} {Q:Act→World→Prop} {l:List Oper} {a:Act} {w w0:World} {N:Nat} {L:List (Nat × Value)} {Df:List Deferred} {B:List Own} {d:Tmp} {ty:TypeId} {pos:String} {af:Array Edge} {x y:Operand} {t:TypeId}
theorem qJ {args:Array Operand} {vs:List Value} (h:Sl N a L Df) (hvs:args.toList.map (eu L)=vs.map some):args.map a.eval=vs.toArray:=by
 apply Array.ext'
 rw [Array.toList_map]
 exact NZ h hvs
theorem pB {lp:Nat} {cal:Operand} {args:Array Operand} {tys:Array TypeId} (vs:List Value) {V:Value} {B':List Own} (h:Sl N a L Df) (hc:eu L cal=some (.func (.yield lp) #[] #[])) (hvs:args.toList.map (eu L)=vs.map some)
 (hy:oC P lp vs.toArray w fun v w'=>v=V∧St w0 B' w') (hd:Nat.blt d N=true) (k:∀ a' w',Sl N a' ((d,V)::L) Df→St w0 B' w'→bX P ops Q l a' w'):
 bX P ops Q (⟨some d,.call {callee:=.value cal,args:=args,argTypes:=tys},ty,pos,af,none⟩::l) a w:=
 dw (R:=fun v w'=>v=V∧St w0 B' w') h (xC (h.ev hc) (qJ h hvs) hy) hd fun a' w' v ⟨h1,h2⟩ hs=>by subst h1;exact k a' w' hs h2
theorem jb {f:FuncId} {args:Array Operand} {tys:Array TypeId} (vs:List Value) {T:Value→World→Prop} (h:Sl N a L Df) (hf:Fnc P f) (hc:Calls P f vs.toArray w (fun e w'=>∃ v,e=.returned v∧T v w')) (hvs:args.toList.map (eu L)=vs.map some)
 (hd:Nat.blt d N=true) (k:∀ a' w' v,T v w'→Sl N a' ((d,v)::L) Df→bX P ops Q l a' w'):
 bX P ops Q (⟨some d,.call {callee:=.value (.func f),args:=args,argTypes:=tys},ty,pos,af,none⟩::l) a w:=
 dw (R:=T) h (oN hf rfl (qJ h hvs) hc) hd k
theorem fj {ρ:Operand→Value} {dst:Option Tmp} {g:Option (Nat × Bool)} {f:FuncId} {cap:Array Operand} (vs:List Value) (hvs:cap.map ρ=vs.toArray):aM P ⟨dst,.makeFunc (.func f) #[] cap,ty,pos,af,g⟩ ρ (.func (.func f) #[] vs.toArray):=fun w=>by
 simp [execOp,Instr.makeFunc,hvs,Sem.run_bind]
theorem Sl.round1 {p:Nat} {V:Value} (h:Sl N a L Df) (hp:Nat.blt p N=true):Sl N {tmps:=((#[p]:Array Tmp).zip [V].toArray).foldl (fun t (q,v)=>t.setIfInBounds q v) a.tmps,defers:=[]} ((p,V)::L):=by
 have h1:Sl N {a with defers:=[]} L:=⟨h.size,rfl,h.holds⟩
 have e:((#[p]:Array Tmp).zip [V].toArray).foldl (fun t (q,v)=>t.setIfInBounds q v) a.tmps=a.tmps.setIfInBounds p V:=by simp
 rw [e]
 exact h1.put hp V
end
def D0 (a:Act) (D:Nat) (fn:FuncId) (ps:Array Tmp) (assign body:Code) (pe:Option Code) (st:LoopState):Loop:={state:=st,pending:=pe,fn:=fn,tmps:=a.tmps,params:=ps,assign:=assign,body:=body,defers:=D}
theorem St.putObj {w0:World} {B:List Own} {w:World} (h:St w0 B w) (i:Nat) {b:Nat} {o:Obj} (hi:B[i]? = some (.blk b o)) (o':Obj):St w0 (B.set i (.blk b o')) (w.putObj b o'):=
 h.upd i hi rfl rfl rfl (by simp) (World.putObj_heap_same (Array.getElem?_eq_some_iff.1 (h.get i hi)).1) (fun k hk=>.inl hk) (fun k _ hk=>World.putObj_heap_other (fun e=>hk (Own.at_blk.2 e)))
theorem rj {α:Type} {B:List α} {i:Nat} {p:α} (hi:B[i]? = some p):B.Perm (p::B.eraseIdx i):=by
 induction B generalizing i with
 |nil=>simp at hi
 |cons b B ih=>
  cases i with
  |zero=>simp at hi;subst hi;simp
  |succ i=>exact (List.Perm.cons _ (ih (by simpa using hi))).trans (List.Perm.swap _ _ _)
theorem AW {α:Type} {B:List α} {i:Nat} (hi:i<B.length) (p:α):(p::B.eraseIdx i).Perm (B.set i p):=by
 induction B generalizing i with
 |nil=>simp at hi
 |cons b B ih=>
  cases i with
  |zero=>simp
  |succ i=>exact (List.Perm.swap _ _ _).trans (List.Perm.cons _ (ih (by simpa using hi)))
theorem ow {A:List Own} {w0 w:World} {R:List Own} (s:St w0 (A++R) w):A.Pairwise fun p q=>∀ k,p.at k→¬ q.at k:=(List.pairwise_append.1 s.nd).1
theorem Ec {A A':List Own} (he:A.map Own.ks=A'.map Own.ks) (h:A.Pairwise fun p q=>∀ k,p.at k→¬ q.at k):A'.Pairwise fun p q=>∀ k,p.at k→¬ q.at k:=by
 have e1:∀ l:List Own,(l.Pairwise fun p q=>∀ k,p.at k→¬ q.at k)↔(l.map Own.ks).Pairwise fun x y=>∀ k,k∈x→¬ k∈y:=fun l=>by rw [List.pairwise_map];rfl
 rw [e1] at h ⊢
 rw [← he];exact h
theorem Ce {P:Program} {N:Nat} {a:Act} {L:List (Nat × Value)} {Df:List Deferred} {w w0:World} {B:List Own} {g:Operand} {ps:Array Tmp} {assign body:Code} {f:FuncId} {lb:Array Value} {Q:Exit→Act→World→Prop}
 (J:Nat→List Own) (X:List Own) (m:Nat) (arg:Nat→List Value) (h:Sl N a L Df) (s:St w0 B w) (hg:eu L g=some (.func (.func f) #[] lb)) (hf:Fnc P f)
 (hB:B.Perm (X++J 0)) (hJ:∀ d,(J d).map Own.ks=(J 0).map Own.ks) (hps:∀ d,(arg d).length=ps.size)
 (hiter:∀ (l:Nat) (w1:World) (G:Nat→Own),St w0 (X++[G 0]) w1→(∀ (d:Nat) (B':List Own) (w':World) (i:Nat),d<m→St w0 B' w'→B'[i]? = some (G d)→oC P l (arg d).toArray w' (fun v w''=>v=.bool true∧St w0 (B'.set i (G (d+1))) w''))→
  Calls P f (#[.func (.yield l) #[] #[]]++lb) w1 (fun e w'=>(∃ v,e=.returned v)∧St w0 (X++[G m]) w'))
 (hround:∀ (l D d:Nat) (rc:LoopState→Loop) (R:List Own) (w1:World),d<m→St w0 (.blk l (.loop (rc .ready))::.blk D (.deferred (some []))::(J d++R)) w1→
  assign.wpIn (FR (some l)) 0 P (Exit.then (fun a1 w2=>∃ X1,St w0 (.blk l (.loop (rc .ready))::X1) w2∧∀ w3,St w0 (.blk l (.loop (rc .busy))::X1) w3→body.wpIn (FR (some l)) 0 P
   (fun e _ w4=>e=.normal∧St w0 (.blk l (.loop (rc .busy))::.blk D (.deferred (some []))::(J (d+1)++R)) w4) a1 w3) (fun _ _ _=>False))
   {tmps:=(ps.zip (arg d).toArray).foldl (fun t (p,v)=>t.setIfInBounds p v) a.tmps,defers:=[]} w1)
 (hdone:∀ (D:Nat) (w2:World),St w0 (.blk D (.deferred (some []))::(X++J m)) w2→Q .normal {a with defers:={target:=.collected D,args:=#[]}::a.defers} w2):
 (Code.rangeFunc g ps assign body).wpIn (FR none) 0 P Q a w:=by
 refine wpIn_rangeFunc (F:=FR none) fun fn _=>?_
 obtain ⟨rc,hrc⟩:∃ rc,rc=D0 a w.heap.size fn ps assign body none:=⟨_,rfl⟩
 obtain ⟨dg,e1,e2,e3⟩:=hf.has
 refine ⟨w.heap.size+1,[{target:=.collected w.heap.size,args:=#[]}],(w.alloc (.deferred (some []))).alloc (.loop (rc .ready)),{target:=.fn (.func f) lb,args:=#[.func (.yield (w.heap.size+1)) #[] #[]]},(w.alloc (.deferred (some []))).alloc (.loop (rc .ready)),f,
  #[.func (.yield (w.heap.size+1)) #[] #[]]++lb,(w.alloc (.deferred (some []))).alloc (.loop (rc .ready)),?_,?_,fun _ _=>trivial,?_,(fun hh=>by cases hh),?_⟩
 ·rw [hrc];exact run_enterLoop_outer _ _ _ _ _
 ·simp only [resolve,h.ev hg]
  simp [go_sem]
 ·simp only [invoke];exact iM e1 e2 e3 _ _
 have s1:St w0 (.blk (w.heap.size+1) (.loop (rc .ready))::.blk w.heap.size (.deferred (some []))::B) ((w.alloc (.deferred (some []))).alloc (.loop (rc .ready))):=by
  have:=(s.new (.deferred (some []))).new (.loop (rc .ready))
  rwa [World.size_alloc] at this
 have s2:St w0 ((.blk (w.heap.size+1) (.loop (rc .ready))::.blk w.heap.size (.deferred (some []))::J 0)++X) ((w.alloc (.deferred (some []))).alloc (.loop (rc .ready))):=
  s1.perm ((((hB.trans List.perm_append_comm).cons _).cons _))
 have hnd0:=ow s2
 have hnd:∀ (st:LoopState) (d:Nat),(Own.blk (w.heap.size+1) (.loop (rc st))::.blk w.heap.size (.deferred (some []))::J d).Pairwise fun p q=>∀ k,p.at k→¬ q.at k:=fun st d=>
  Ec (by rw [List.map_cons,List.map_cons,List.map_cons,List.map_cons,hJ d];rfl) hnd0
 have s3:=s2.group
 refine callsIn_wide.2 ((hiter (w.heap.size+1) _ (fun d=>.all w0 (.blk (w.heap.size+1) (.loop (rc .ready))::.blk w.heap.size (.deferred (some []))::J d)) (s3.perm (List.perm_append_comm (l₁:=[_]))) ?_).mono ?_)
 ·intro d B' w' i hd s' hi
  have hil:=(List.getElem?_eq_some_iff.1 hi).1
  have s4:=(s'.perm (rj hi)).ungroup (hnd .ready d)
  have hl:=s4.get 0 rfl
  have hy:=run_yield (P:=P) (args:=(arg d).toArray) hl (by rw [hrc,List.size_toArray];exact hps d)
  refine ⟨_,_,_,_,hy,?_⟩
  have hw:=hround (w.heap.size+1) w.heap.size d rc (B'.eraseIdx i) w' hd (by simpa using s4)
  rw [hrc] at hw ⊢
  refine roundIn_of_wpIn (F:=Fence.wide) (n:=0) trivial (Go.wpIn_mono hw ?_)
  intro e a1 w2 he
  cases e with
  |normal=>
   obtain ⟨X1,s5,hb⟩:=he
   refine ⟨_,run_beginRound (s5.get 0 rfl) rfl,Go.wpIn_mono (hb _ (s5.putObj 0 rfl _)) ?_⟩
   rintro e2 a3 w4 ⟨rfl,s6⟩
   refine ⟨_,_,run_endRound none (s6.get 0 rfl),_,rfl,rfl,?_⟩
   have s7:=s6.putObj 0 rfl (.loop (D0 a w.heap.size fn ps assign body none .ready))
   have s8:St w0 ((.blk (w.heap.size+1) (.loop (D0 a w.heap.size fn ps assign body none .ready))::.blk w.heap.size (.deferred (some []))::J (d+1))++B'.eraseIdx i) _:=s7
   exact s8.group.perm (AW hil _)
  |ret=>exact he.elim
  |exit _=>exact he.elim
  |goto _=>exact he.elim
  |panic _=>exact he.elim
  |outgrown=>exact he.elim
 ·rintro e w2 ⟨⟨v,rfl⟩,s4⟩
  have s5:St w0 ((.blk (w.heap.size+1) (.loop (rc .ready))::.blk w.heap.size (.deferred (some []))::J m)++X) w2:=(s4.perm (List.perm_append_comm (l₂:=[_]))).ungroup (hnd .ready m)
  have hl:=s5.get 0 rfl
  rw [hrc] at hl s5
  refine ⟨none,_,run_endLoop hl (by simp [D0]),?_⟩
  have s6:=s5.putObj 0 rfl (.loop {D0 a w.heap.size fn ps assign body none .ready with state:=.exhausted})
  refine hdone _ _ ?_
  have s7:=s6.pick (.blk w.heap.size (.deferred (some []))::J m++X) (List.sublist_cons_self _ _)
  exact s7.perm (List.Perm.cons _ List.perm_append_comm)
def Rd (w:World) (v:Value) (n:Nat) (xs:List Value):Prop:=
 xs.length=n∧((v=.slice none 0 0∧n=0)∨∃ p c,v=.slice (some p) n c∧n≤c∧∀ j x,xs[j]? = some x→w.cell? (p.add j)=some x)
def dy (v:Value) (j:Nat):Addr:=match v with|.slice (some p) _ _=>p.add j|_=>⟨0,0,none⟩
theorem tY {w:World} {p:Addr} {x:Value} (h:w.cell? p=some x):p.block<w.heap.size:=by
 rcases Nat.lt_or_ge p.block w.heap.size with h'|h'
 ·exact h'
 ·simp [World.cell?,Array.getElem?_eq_none h'] at h
theorem Rd.keep {w0 w:World} {v:Value} {n:Nat} {xs:List Value} (h:Rd w0 v n xs) (e:Ext w0 w):Rd w v n xs:=by
 refine ⟨h.1,h.2.imp id fun ⟨p,c,hv,hnc,hc⟩=>⟨p,c,hv,hnc,fun j x hx=>?_⟩⟩
 have:=hc j x hx
 rw [e.cell (tY this)];exact this
theorem Rd.of_own {w:World} {base:Nat} {e:TypeId} {v:Value} {n:Nat} {xs:List Value} (h:cB w base e 1 v n xs):Rd w v n xs:=by
 refine ⟨by simpa using h.1,?_⟩
 rcases jw h with ⟨p,c,hv⟩
 cases p with
 |none=>
  rcases h.2 with ⟨h1,h2⟩|⟨g,cap,cur,fz,h1,_⟩
  ·exact .inl ⟨h1,h2⟩
  ·rw [hv] at h1;cases h1
 |some p=>
  have hnc:n≤c:=by
   rcases h.2 with ⟨h1,h2⟩|⟨g,cap,cur,fz,h1,_,_,_,h2,_⟩
   ·omega
   ·rw [hv] at h1
    injection h1 with _ _ h1
    omega
  refine .inr ⟨p,c,hv,hnc,fun j x hx=>?_⟩
  rcases h.2 with ⟨h1,h2⟩|⟨g,cap,cur,fz,h1,_⟩
  ·rw [hv] at h1;cases h1
  ·rw [hv] at h1
   injection h1 with h1 _ _
   injection h1 with h1
   subst h1
   subst hv
   exact h.cells (g:=g) rfl j x hx
theorem Rd.len {w:World} {v:Value} {n:Nat} {xs:List Value} (h:Rd w v n xs):∃ a c,v=.slice a n c:=by
 rcases h.2 with ⟨h1,h2⟩|⟨p,c,h1,_,_⟩
 ·exact ⟨none,0,by rw [h1,h2]⟩
 ·exact ⟨some p,c,h1⟩
theorem Rd.at {w:World} {v:Value} {n:Nat} {xs:List Value} (h:Rd w v n xs) {j:Nat} {x:Value} (hx:xs[j]? = some x):∃ p c,v=.slice (some p) n c∧w.cell? (dy v j)=some x:=by
 have hlt:=(List.getElem?_eq_some_iff.1 hx).1
 rcases h.2 with ⟨h1,h2⟩|⟨p,c,h1,_,h2⟩
 ·have:=h.1;omega
 ·exact ⟨p,c,h1,by rw [h1];exact h2 j x hx⟩
def dQ (v:Value) (k:Nat):Value:=match v with|.slice a _ c=>.slice a k c|v=>v
theorem Rd.cut {w:World} {v:Value} {n:Nat} {xs:List Value} (h:Rd w v n xs) (k:Nat) (hk:k≤n):Rd w (dQ v k) k (xs.take k):=by
 refine ⟨by rw [List.length_take,h.1];omega,?_⟩
 rcases h.2 with ⟨h1,h2⟩|⟨p,c,h1,h3,h2⟩
 ·left;subst h1;obtain rfl:k=0:=by omega
  exact ⟨rfl,rfl⟩
 ·right;subst h1
  refine ⟨p,c,rfl,by omega,fun j x hx=>h2 j x ?_⟩
  rw [List.getElem?_take] at hx
  split at hx
  ·exact hx
  ·cases hx
section
variable {P:Program} {ρ:Operand→Value} {d:Option Tmp} {ty:TypeId} {pos:String} {af:Array Edge} {g:Option (Nat × Bool)} {x y:Operand} {t t' e:TypeId} {k:IntKind} {m:Int}
theorem Kq {w0:World} {v:Value} {n:Nat} {xs:List Value} (hR:Rd w0 v n xs) (j:Nat) (ht:P.underlying t=some (.slice e)) (he:(P.info? e).map (·.size)=some 1) (hx:ρ x=v) (hy:ρ y=.int k m) (hj:m=(j:Int)) (hlt:j<n):
 aM P ⟨d,.indexAddr t x y,ty,pos,af,g⟩ ρ (.pointer (some (dy v j))):=fun w=>by
 subst hj
 obtain ⟨V,hV⟩:∃ V,xs[j]? = some V:=⟨xs[j]'(by rw [hR.1];exact hlt),by rw [List.getElem?_eq_getElem]⟩
 obtain ⟨p,c,h1,_⟩:=hR.at hV
 cases hi:P.info? e with
 |none=>simp [hi] at he
 |some i=>
  have h2:i.size=1:=by simpa [hi] using he
  have h3:(0:Int)≤(j:Int)∧(j:Int)<(n:Int):=by omega
  subst h1
  simp [execOp,hx,hy,Instr.indexAt,asIntOf,Sem.run_bind,run_underlying ht,hlt,sizeOf,typeInfo,hi,h2,dy]
theorem F5 {w0:World} {v:Value} {n:Nat} {xs:List Value} (hR:Rd w0 v n xs) (ht:P.underlying t=some (.slice e)) (hx:ρ x=v):aM P ⟨d,.call {callee:=.builtin .len,args:=#[x],argTypes:=#[t]},ty,pos,af,g⟩ ρ (.int .i64 (n:Int)):=fun w=>by
 obtain ⟨a,c,rfl⟩:=hR.len
 simp [execOp,resolve,hx,invoke,builtin,Builtin.len_,Sem.run_bind,run_underlying ht,goInt]
theorem pw {s:ByteArray} (j:Nat) (ht:P.underlying t=some .string) (hx:ρ x=.string s) (hy:ρ y=.int k m) (hj:m=(j:Int)) (hle:j≤s.size):aM P ⟨d,.slice t x (some y) none none,ty,pos,af,g⟩ ρ (.string (s.extract j s.size)):=fun w=>by
 subst hj
 have h1:(0:Int)≤(j:Int)∧(j:Int)≤(s.size:Int):=by omega
 simp [execOp,hx,hy,Instr.sliceAt,Instr.slice,Instr.sliceBounds,Instr.sliceBound,asIntOf,Sem.run_bind,run_underlying ht,hle]
theorem ir {b len:Nat} (j:Nat) (ht:P.underlying t=some (.array len e)) (he:(P.info? e).map (·.size)=some 1) (hx:ρ x=.pointer (some ⟨b,0,none⟩)) (hy:ρ y=.int k m) (hj:m=(j:Int)) (hle:j≤len):
 aM P ⟨d,.slice t x (some y) none none,ty,pos,af,g⟩ ρ (.slice (some ⟨b,if len=j then 0 else j,none⟩) (len - j) (len - j)):=fun w=>by
 subst hj
 cases hi:P.info? e with
 |none=>simp [hi] at he
 |some i=>
  have h1:i.size=1:=by simpa [hi] using he
  have h2:(0:Int)≤(j:Int)∧(j:Int)≤(len:Int):=by omega
  have ha:(⟨b,0,none⟩:Addr).add j=⟨b,j,none⟩:=by unfold Addr.add;split<;>simp_all
  by_cases hjl:len=j
  ·subst hjl
   simp [execOp,hx,hy,Instr.sliceAt,Instr.sliceBounds,Instr.sliceBound,asIntOf,Sem.run_bind,run_underlying ht,Instr.sureAddr,sizeOf,typeInfo,hi,h1]
  ·simp [execOp,hx,hy,Instr.sliceAt,Instr.sliceBounds,Instr.sliceBound,asIntOf,Sem.run_bind,run_underlying ht,Instr.sureAddr,sizeOf,typeInfo,hi,h1,hle,ha,hjl]
end
def K4 (c:Nat→Nat) (o:Nat) (s:ByteArray) (n i:Nat):Nat:=if o≤i∧i<o+n then sb s (i - o) else c i
def EQ (c:Nat→Nat) (o n i:Nat):Nat:=if o≤i∧i<o+n then 0 else c i
theorem tE (f:Nat→Nat) (M o:Nat) (vs:List Value) (F:Nat→Nat) (h:o+vs.length≤M) (hv:∀ i,i<vs.length→vs[i]? = some (.int .u8 (F i:Int))):
 ((aO f M).toList.take o++vs++(aO f M).toList.drop (o+vs.length)).toArray=aO (fun i=>if o≤i∧i<o+vs.length then F (i - o) else f i) M:=by
 apply Array.ext_getElem?
 intro i
 rw [List.getElem?_toArray]
 by_cases hi:i<M
 ·rw [ei _ _ _ hi]
  by_cases h1:i<o
  ·rw [List.append_assoc,List.getElem?_append_left (by simp;omega),List.getElem?_take_of_lt h1,if_neg (by omega)]
   have:=ei f M i hi
   simpa using this
  ·by_cases h2:i<o+vs.length
   ·rw [List.getElem?_append_left (by simp;omega),List.getElem?_append_right (by simp;omega),if_pos ⟨by omega,h2⟩]
    have e:i - ((aO f M).toList.take o).length=i - o:=by simp;omega
    rw [e,hv (i - o) (by omega)]
   ·rw [List.getElem?_append_right (by simp;omega),List.getElem?_drop,if_neg (by omega)]
    have e:o+vs.length+(i - ((aO f M).toList.take o++vs).length)=i:=by simp;omega
    rw [e]
    have:=ei f M i hi
    simpa using this
 ·rw [Array.getElem?_eq_none (by simp;omega),List.getElem?_eq_none (by simp;omega)]
section
variable {ro:Option Nat} {P:Program} {ops:Array Oper} {Q:Act→World→Prop} {l:List Oper} {a:Act} {w w0:World} {N:Nat} {L:List (Nat × Value)} {Df:List Deferred} {B:List Own} {d:Tmp} {ty:TypeId} {pos:String} {af:Array Edge} {x y:Operand} {t t' e:TypeId}
theorem wW {v V:Value} {n j:Nat} {xs:List Value} (hR:Rd w0 v n xs) (h:Sl N a L Df) (s:St w0 B w) (ho:One P t) (hx:eu L x=some (.pointer (some (dy v j)))) (hV:xs[j]? = some V) (hd:Nat.blt d N=true)
 (k:∀ a',Sl N a' ((d,V)::L) Df→bX P ops Q l a' w):bX P ops Q (⟨some d,.load t x,ty,pos,af,none⟩::l) a w:=by
 obtain ⟨p,c,g1,g2⟩:=(hR.keep s.ext).at hV
 exact dw (R:=fun u w'=>u=V∧w'=w) h (eT ho (h.ev hx) g2 ⟨rfl,rfl⟩) hd fun a' w' u ⟨h1,h2⟩ hs=>by subst h1;subst h2;exact k a' hs
theorem nv (s:St w0 B w) (i:Nat) {b o M:Nat} {f:Nat→Nat} {u:TypeId} (hi:B[i]? = some (.blk b (.cells (aO f M) u))) (vs:List Value) (F:Nat→Nat) (hF:∀ i,i<vs.length→vs[i]? = some (.int .u8 (F i:Int))) (hle:o+vs.length≤M):
 (storeCells ⟨b,o,none⟩ vs).run P w=.ok () (w.setRow b (aO (fun i=>if o≤i∧i<o+vs.length then F (i - o) else f i) M)):=by
 have h1:∀ v∈vs,v.oneCell'=true:=fun v hv=>by
  obtain ⟨i,hi,rfl⟩:=List.getElem_of_mem hv
  have:=hF i hi
  rw [List.getElem?_eq_getElem hi] at this
  injection this with this
  rw [this];rfl
 have:=run_storeCells_at P b o u vs 0 _ w (s.get i hi) (by simpa using hle) h1
 rw [Nat.add_zero,tE f M o vs F hle hF] at this
 exact this
theorem w7 {b o len cap M:Nat} {f:Nat→Nat} {u:TypeId} {sx:ByteArray} (i:Nat) (n:Nat) (h:Sl N a L Df) (s:St w0 B w) (ht:P.underlying t=some (.slice e)) (he:(P.info? e).map (·.size)=some 1) (hx:eu L x=some (.slice (some ⟨b,o,none⟩) len cap)) (hy:eu L y=some (.string sx))
 (hi:B[i]? = some (.blk b (.cells (aO f M) u))) (hn:n=min sx.size len) (hle:o+len≤M) (hd:Nat.blt d N=true)
 (k:∀ a' w',Sl N a' ((d,.int .i64 (n:Int))::L) Df→St w0 (B.set i (.blk b (.cells (aO (K4 f o sx n) M) u))) w'→bX P ops Q l a' w'):
 bX P ops Q (⟨some d,.call {callee:=.builtin .copy,args:=#[x,y],argTypes:=#[t,t']},ty,pos,af,none⟩::l) a w:=by
 have hlen:((sx.extract 0 n).data.toList.map fun b:UInt8=>Value.int .u8 (b.toNat:Int)).length=n:=by
  have:(sx.extract 0 n).data.size=n:=by
   show (sx.extract 0 n).size=n
   rw [ByteArray.size_extract];omega
  simp only [List.length_map,Array.length_toList,this]
 have hF:∀ j,j<((sx.extract 0 n).data.toList.map fun b:UInt8=>Value.int .u8 (b.toNat:Int)).length→((sx.extract 0 n).data.toList.map fun b:UInt8=>Value.int .u8 (b.toNat:Int))[j]? = some (.int .u8 (sb sx j:Int)):=fun j hj=>by
  rw [hlen] at hj
  have h9:(sx.extract 0 n).data.toList=sx.data.toList.take n:=by
   rw [ByteArray.data_extract,Array.toList_extract]
   simp only [List.extract_eq_take_drop,List.drop_zero,Nat.sub_zero]
  rw [h9]
  have hjs:j<sx.data.toList.length:=by
   have:sx.data.toList.length=sx.size:=Array.length_toList
   omega
  rw [List.getElem?_map,List.getElem?_take_of_lt hj,List.getElem?_eq_getElem hjs]
  unfold sb
  rw [List.getD_eq_getElem?_getD,List.getElem?_eq_getElem hjs];rfl
 have hst:=nv (P:=P) s i hi _ (sb sx) hF (o:=o) (by rw [hlen];omega)
 rw [hlen] at hst
 have hrun:(Builtin.copy_ #[t,t'] ty #[.slice (some ⟨b,o,none⟩) len cap,.string sx]).run P w=.ok (.int .i64 (n:Int)) (w.setRow b (aO (K4 f o sx n) M)):=by
  cases hq:P.info? e with
  |none=>simp [hq] at he
  |some i2=>
   have hm:Nat.min sx.size len=n:=hn.symm
   simp only [Builtin.copy_,Sem.run_bind,run_underlying ht,Builtin.lenOf,Builtin.firstCells,sizeOf,typeInfo,run_program,hq,hm,Sem.run_pure,Result.andThen_ok,List.getElem?_toArray,List.getElem?_cons_zero,List.getElem?_cons_succ,Array.toList_map,hst]
   rfl
 exact dw (R:=fun v w'=>v=.int .i64 (n:Int)∧w'=w.setRow b (aO (K4 f o sx n) M)) h (by
  unfold db
  simp only [execOp,resolve,invoke,builtin,Sem.run_bind,Sem.run_pure,Result.andThen_ok,List.map_toArray,List.map_cons,List.map_nil,h.ev hx,h.ev hy,hrun]
  first|exact ⟨rfl,rfl⟩|exact ⟨trivial,rfl⟩|exact ⟨trivial,trivial⟩|trivial) hd fun a' w' v ⟨h1,h2⟩ hs=>by subst h1;subst h2;exact k _ _ hs (s.row i hi _)
theorem y8 {b o len cap M:Nat} {f:Nat→Nat} {u:TypeId} (i:Nat) (h:Sl N a L Df) (s:St w0 B w) (ht:P.underlying t=some (.slice e)) (hz:(P.info? e).bind (·.zero)=some (.int .u8 0)) (hx:eu L x=some (.slice (some ⟨b,o,none⟩) len cap))
 (hi:B[i]? = some (.blk b (.cells (aO f M) u))) (hle:o+len≤M)
 (k:∀ w',St w0 (B.set i (.blk b (.cells (aO (EQ f o len) M) u))) w'→bX P ops Q l a w'):
 bX P ops Q (⟨none,.call {callee:=.builtin .clear,args:=#[x],argTypes:=#[t]},ty,pos,af,none⟩::l) a w:=by
 have hz2:(zeroValue e).run P w=.ok (.int .u8 0) w:=by
  cases hq:P.info? e with
  |none=>simp [hq] at hz
  |some i2=>have:i2.zero=some (.int .u8 0):=by simpa [hq] using hz
            simp [zeroValue,typeInfo,Sem.run_bind,hq,this]
 have hrun:∃ w',(Builtin.clear_ #[t] ty #[.slice (some ⟨b,o,none⟩) len cap]).run P w=.ok (.tuple #[]) w'∧St w0 (B.set i (.blk b (.cells (aO (EQ f o len) M) u))) w':=by
  cases len with
  |zero=>
   refine ⟨w,by simp [Builtin.clear_,Sem.run_bind,run_underlying ht],?_⟩
   have:aO (EQ f o 0) M=aO f M:=ci fun i _=>by unfold EQ;rw [if_neg (by omega)]
   rw [this]
   have e2:B.set i (.blk b (.cells (aO f M) u))=B:=by
    obtain ⟨hl,e⟩:=List.getElem?_eq_some_iff.1 hi
    rw [← e,List.set_getElem_self]
   rw [e2];exact s
  |succ len=>
   have hl:(Builtin.zeroCells (Value.int .u8 0).cells (len+1)).toList=List.replicate (len+1) (.int .u8 ((0:Nat):Int)):=by
    simp [Builtin.zeroCells,Value.cells]
    apply List.ext_getElem
    ·simp
    ·intro i h1 h2
     simp [Nat.mod_one]
   have hst:=nv (P:=P) s i hi (List.replicate (len+1) (.int .u8 ((0:Nat):Int))) (fun _=>0) (fun j hj=>by simp at hj;simp [hj]) (o:=o) (by simpa using hle)
   rw [List.length_replicate] at hst
   refine ⟨_,?_,s.row i hi (aO (EQ f o (len+1)) M)⟩
   simp [Builtin.clear_,Sem.run_bind,run_underlying ht,hz2]
   rw [hl,hst]
   rfl
 obtain ⟨w',h1,h2⟩:=hrun
 exact nH (R:=fun _ w''=>w''=w') (by
  unfold db
  simp only [execOp,resolve,invoke,builtin,Sem.run_bind,Sem.run_pure,Result.andThen_ok,List.map_toArray,List.map_cons,List.map_nil,h.ev hx,h1]) fun w'' _ e=>by subst e;exact k _ h2
end
section
variable {P:Program} {a:Act} {w w0:World} {N:Nat} {L:List (Nat × Value)} {B:List Own} {fn:Func} {T:cW} {R:Ending→World→Prop}
theorem rm {f:FuncId} {c:Code} {args:List Value} {n:Nat} (hf:P.funcs[f]? = some fn) (hb:fn.body=some c) (hn:fn.ntmps=n) (hs:Nat.ble args.length n=true) (L:List (Nat × Value)) (hL:∀ p∈L,args[p.1]? = some p.2)
 (h:∀ a,Sl n a L→c.wpIn (FR none) 0 P (bodyPost P fn R) a w):Calls P f args.toArray w R:=by
 refine callsIn_wide.1 (callsIn_of_wp (n:=0) hf hb trivial ?_)
 rw [hn]
 exact h _ (Sl.enter L (by simpa using hs) (by simpa using hL))
theorem Bz {f:FuncId} {c:Code} {args:List Value} {n:Nat} (hf:P.funcs[f]? = some fn) (hb:fn.body=some c) (hn:fn.ntmps=n) (hs:Nat.ble args.length n=true) (L:List (Nat × Value)) (hL:∀ p∈L,args[p.1]? = some p.2)
 (h:∀ a,Sl n a L→c.wpIn (FR none) 0 P (bodyPostM (FR none) 0 P fn (cp w T)) a w):Calls P f args.toArray w (cp w T):=by
 refine callsIn_wide.1 (callsIn_of_wp_marks (n:=0) hf hb trivial ?_)
 rw [hn]
 exact h _ (Sl.enter L (by simpa using hs) (by simpa using hL))
theorem oP (hr:fn.results=#[]) (h:Sl N a L) (hR:R (.returned (.tuple #[])) w):bodyPost P fn R .normal a w:=⟨h.defers,_,results_none hr _ _ _,hR⟩
theorem Kw {t:Tmp} {V:Value} (hr:fn.results=#[.tmp t]) (h:Sl N a L) (hv:lk L t=some V) (hR:R (.returned V) w):bodyPost P fn R .ret a w:=⟨h.defers,V,by rw [results_tmp hr,h.holds t V hv],hR⟩
theorem HF {p:Tmp} {b n D:Nat} {C:Array Value} {t u:TypeId} (i j:Nat) (hres:fn.results=#[.cell p t]) (h:Sl N a L [{target:=.collected D,args:=#[]}]) (s:St w0 B w) (hr:Row P t n) (hp:lk L p=some (.pointer (some ⟨b,0,none⟩))) (hi:B[i]? = some (.blk b (.cells C u)))
 (hj:B[j]? = some (.blk D (.deferred (some [])))) (hij:(B.set j (.blk D (.deferred none)))[i]? = some (.blk b (.cells C u))) (hn:C.size=n) (hT:∀ w',T (.agg C) w'):bodyPostM (FR none) 0 P fn (cp w0 T) .ret a w:=by
 show LeavesInM (FR none) 0 P fn a.tmps (cp w0 T) a.defers .returning w
 rw [h.defers]
 have s2:=s.putObj j hj (.deferred none)
 refine ⟨by simp,.inl ⟨D,_,rfl,run_takeDeferred (s.get j hj),?_⟩⟩
 have hp':a.tmps[p]?.getD undef=.pointer (some ⟨b,0,none⟩):=by simpa using h.holds p _ hp
 refine ⟨.agg C,?_,.agg C,rfl,hT _,s2.ext⟩
 simp [results,hres,hp',asAddr,ew hr _ b C u (0,0) (s2.get i hij) hn]
end
def mA:List ByteArray→ByteArray
 |[]=>ByteArray.empty
 |x::r=>x++mA r
def pt (ps:List ByteArray) (p:Nat):ByteArray:=ps.getD p ByteArray.empty
def pre:List ByteArray→Nat→Nat
 |[],_=>0
 |_::_,0=>0
 |x::r,p+1=>x.size+pre r p
theorem ml (ps:List ByteArray):pre ps 0=0:=by cases ps<;>rfl
theorem Bh (ps:List ByteArray) (p:Nat) (h:p<ps.length):pre ps (p+1)=pre ps p+(pt ps p).size:=by
 induction ps generalizing p with
 |nil=>simp at h
 |cons x r ih=>
  cases p with
  |zero=>simp [pre,ml,pt]
  |succ p=>
   have:=ih p (by simpa using h)
   simp only [pre,this,pt,List.getD_cons_succ]
   omega
theorem Hf (ps:List ByteArray):pre ps ps.length=(mA ps).size:=by
 induction ps with
 |nil=>rfl
 |cons x r ih=>simp [pre,mA,ih,ByteArray.size_append]
theorem Jy (ps:List ByteArray) (p:Nat) (h:p<ps.length):pre ps (p+1)≤(mA ps).size:=by
 induction ps generalizing p with
 |nil=>simp at h
 |cons x r ih=>
  simp only [pre,mA,ByteArray.size_append]
  cases p with
  |zero=>rw [ml];omega
  |succ p=>have:=ih p (by simpa using h);omega
theorem o7 (s:ByteArray) (j:Nat):sb s j=((s.data[j]?).getD 0).toNat:=by
 unfold sb;rw [List.getD_eq_getElem?_getD,Array.getElem?_toList]
theorem qj (x y:ByteArray) (j:Nat) (h:j<x.size):sb (x++y) j=sb x j:=by
 rw [o7,o7,ByteArray.data_append,Array.getElem?_append_left (by exact h)]
theorem px (x y:ByteArray) (j:Nat):sb (x++y) (x.size+j)=sb y j:=by
 rw [o7,o7,ByteArray.data_append,Array.getElem?_append_right (by show x.data.size≤_;exact Nat.le_add_right _ _)]
 congr 3
 show x.data.size+j - x.data.size=j
 omega
theorem KR (ps:List ByteArray) (p q:Nat) (h:p<ps.length) (hq:q<(pt ps p).size):sb (mA ps) (pre ps p+q)=sb (pt ps p) q:=by
 induction ps generalizing p with
 |nil=>simp at h
 |cons x r ih=>
  cases p with
  |zero=>simp only [pre,mA,pt,List.getD_cons_zero,Nat.zero_add] at hq ⊢;exact qj _ _ _ hq
  |succ p=>
   simp only [pre,mA,pt,List.getD_cons_succ] at hq ⊢
   rw [Nat.add_assoc,px]
   exact ih p (by simpa using h) hq
theorem wX (x:ByteArray) (q j:Nat) (h:q+j<x.size):sb (x.extract q x.size) j=sb x (q+j):=by
 rw [o7,o7,ByteArray.data_extract,Array.getElem?_extract,if_pos]
 show j<min x.size x.data.size - q
 have:x.data.size=x.size:=rfl
 omega
def jB (s:ByteArray):Nat:=(s.size+8) / 64+1
def rM (s:ByteArray) (i:Nat):Nat:=
 if i<s.size then sb s i else if i=s.size then 128 else if i<64*((s.size+8) / 64)+56 then 0 else 8*s.size / 256 ^ (64*((s.size+8) / 64)+63 - i) % 256
def n8 (s:ByteArray) (d i:Nat):Nat:=rM s (64*d+i)
def Hs (s:ByteArray):Nat→Nat→eV
 |0=>jp
 |d+1=>pg (Hs s d) (cA (n8 s d))
def qI (s:ByteArray):Id:=HD (Hs s (jB s))
def Gt (c:Nat→Nat) (fl i:Nat):Nat:=if i<fl then c i else if i=fl then 128 else 0
theorem zh (sx:ByteArray) (ps:List ByteArray) (hc:mA ps=sx) (p q d fl n:Nat) (c:Nat→Nat) (hp:p<ps.length) (hn:q+n≤(pt ps p).size) (he:64*d+fl=pre ps p+q)
 (hcl:∀ i,i<fl→c i=sb sx (64*d+i)):∀ i,i<fl+n→K4 c fl ((pt ps p).extract q (pt ps p).size) n i=sb sx (64*d+i):=by
 intro i hi
 unfold K4
 by_cases h1:fl≤i
 ·rw [if_pos ⟨h1,hi⟩,wX _ _ _ (by omega),← KR ps p _ hp (by omega),hc]
  congr 1;omega
 ·rw [if_neg (by omega)];exact hcl i (by omega)
theorem E2 (sx:ByteArray) (d:Nat) (c:Nat→Nat) (h:64*d+64≤sx.size) (hc:∀ i,i<64→c i=sb sx (64*d+i)):aO (n8 sx d) 64=aO c 64:=ci fun i hi=>by
 unfold n8 rM;rw [if_pos (by omega),hc i hi]
theorem JX (c:Nat→Nat) (fl:Nat) (h:fl<64):aO (EQ (fun i=>if i=fl then 128 else c i) (if 64=fl+1 then 0 else fl+1) (64 - (fl+1))) 64=aO (Gt c fl) 64:=ci fun i hi=>by
 unfold EQ Gt
 dsimp only
 repeat' split
 all_goals first|rfl|(exfalso;omega)
theorem EF (sx:ByteArray) (d fl:Nat) (c:Nat→Nat) (hs:sx.size=64*d+fl) (h:56≤fl) (hf:fl<64) (hc:∀ i,i<fl→c i=sb sx (64*d+i)):aO (n8 sx d) 64=aO (Gt c fl) 64:=ci fun i hi=>by
 unfold n8 rM Gt
 have e:(sx.size+8) / 64=d+1:=by omega
 by_cases h1:i<fl
 ·rw [if_pos (by omega),if_pos h1,hc i h1]
 ·rw [if_neg (by omega),if_neg h1]
  by_cases h2:i=fl
  ·rw [if_pos (by omega),if_pos h2]
  ·rw [if_neg (by omega),if_neg h2,if_pos (by omega)]
theorem Cj (sx:ByteArray) (d fl:Nat) (hs:sx.size=64*d+fl) (h:56≤fl) (hf:fl<64):aO (n8 sx (d+1)) 64=aO (E5 (fun _=>0) sx.size) 64:=ci fun i hi=>by
 unfold n8 rM E5
 have e:(sx.size+8) / 64=d+1:=by omega
 rw [if_neg (by omega),if_neg (by omega),e]
 by_cases h1:i<56
 ·rw [if_pos (by omega),if_pos h1]
 ·rw [if_neg (by omega),if_neg h1,show 64*(d+1)+63 - (64*(d+1)+i)=63 - i from by omega]
theorem Gc (sx:ByteArray) (d fl:Nat) (c:Nat→Nat) (hs:sx.size=64*d+fl) (h:fl<56) (hc:∀ i,i<fl→c i=sb sx (64*d+i)):aO (n8 sx d) 64=aO (E5 (Gt c fl) sx.size) 64:=ci fun i hi=>by
 unfold n8 rM E5 Gt
 have e:(sx.size+8) / 64=d:=by omega
 rw [e]
 by_cases h1:i<fl
 ·rw [if_pos (by omega),if_pos (by omega),if_pos h1,hc i h1]
 ·rw [if_neg (by omega)]
  by_cases h2:i=fl
  ·rw [if_pos (by omega),if_pos (by omega),if_neg h1,if_pos h2]
  ·rw [if_neg (by omega)]
   by_cases h3:i<56
   ·rw [if_pos (by omega),if_pos h3,if_neg h1,if_neg h2]
   ·rw [if_neg (by omega),if_neg h3,show 64*d+63 - (64*d+i)=63 - i from by omega]
theorem F0 (sx:ByteArray) (d fl:Nat) (hs:sx.size=64*d+fl) (h:fl<56):jB sx=d+1:=by unfold jB;omega
theorem F3 (sx:ByteArray) (d fl:Nat) (hs:sx.size=64*d+fl) (h:56≤fl) (hf:fl<64):jB sx=d+2:=by unfold jB;omega
theorem oB (s:ByteArray):64*jB s≥s.size+9∧64*jB s≤s.size+72:=by unfold jB;omega
theorem FH (x:ByteArray):x=x.extract 0 x.size:=by
 apply ByteArray.ext
 rw [ByteArray.data_extract]
 exact Array.extract_size.symm
theorem nM (x:ByteArray) (q:Nat) (h:q≤x.size):(x.extract q x.size).size=x.size - q:=by rw [ByteArray.size_extract];omega
theorem yp (x:ByteArray) (q n:Nat) (h:q+n≤x.size):(x.extract q x.size).extract n (x.extract q x.size).size=x.extract (q+n) x.size:=by
 apply ByteArray.ext
 rw [nM _ _ (by omega),ByteArray.data_extract,ByteArray.data_extract,ByteArray.data_extract,Array.extract_extract]
 congr 1
 omega
theorem IG (ps:List ByteArray) (p:Nat) (h:p<ps.length):(ps.map Value.string)[p]? = some (.string (pt ps p)):=by
 rw [List.getElem?_map,List.getElem?_eq_getElem h]
 simp [pt,h]
theorem nI {P:Program} {l:Nat} {vs vs':List Value} {w:World} {R:Value→World→Prop} (h:oC P l vs.toArray w R) (e:vs=vs'):oC P l vs'.toArray w R:=e▸h
def CA (ns:List Nat):List Value:=ns.map fun (m:Nat)=>.int .u8 (m:Int)
@[simp] theorem Jm (ns:List Nat):(CA ns).length=ns.length:=by simp [CA]
theorem qS (a b:List Nat):CA a++CA b=CA (a++b):=by simp [CA]
def rO (sx:ByteArray):List Nat:=sx.data.toList.map UInt8.toNat
@[simp] theorem H4 (sx:ByteArray):(rO sx).length=sx.size:=by simp [rO]
section
variable {ro:Option Nat} {P:Program} {ops:Array Oper} {Q:Act→World→Prop} {l:List Oper} {a:Act} {w w0:World} {N:Nat} {L:List (Nat × Value)} {Df:List Deferred} {B:List Own} {d:Tmp} {ty:TypeId} {pos:String} {af:Array Edge} {x y:Operand} {t t' e:TypeId}
theorem HE {sx:ByteArray} (h:Sl N a L Df) (s:St w0 B w) (hs:P.underlying t=some .string) (ht:P.underlying t'=some (.slice e)) (he:P.underlying e=some (.int .u8)) (hx:eu L x=some (.string sx)) (hsz:sx.size≤9223372036854775807) (hd:Nat.blt d N=true)
 (k:∀ a' w' v',Sl N a' ((d,v')::L) Df→St w0 (.sl v' e 1 sx.size (CA (rO sx))::B) w'→bX P ops Q l a' w'):bX P ops Q (⟨some d,.convert t t' x,ty,pos,af,none⟩::l) a w:=by
 have hrun:=run_bytes_of_string (P:=P) w t t' e sx hs ht he
 have hge:=grownCap_ge w sx.size 0 e
 have hle:=grownCap_le_maxLen w sx.size 0 e (by unfold maxLen;omega)
 have hsize:(bytesRow sx (grownCap w sx.size 0 e)).size=grownCap w sx.size 0 e:=by
  simp only [bytesRow,Array.size_append,Array.size_map,Array.size_replicate]
  have:sx.data.size=sx.size:=rfl
  omega
 refine dw (R:=fun u w''=>u=.slice (some ⟨w.heap.size,0,none⟩) sx.size (grownCap w sx.size 0 e)∧w''=(w.drew.alloc (.cells (bytesRow sx (grownCap w sx.size 0 e)) e ((bytesRow sx (grownCap w sx.size 0 e)).size,(bytesRow sx (grownCap w sx.size 0 e)).size+1)))) h (by
  unfold db
  simp only [execOp,h.ev hx,Sem.run_bind,hrun,Result.andThen_ok,Sem.run_pure]
  first|exact ⟨rfl,rfl⟩|exact ⟨trivial,rfl⟩|exact ⟨trivial,trivial⟩|trivial) hd fun a' w'' u ⟨e1,e2⟩ hs2=>?_
 subst e1;subst e2
 refine k _ _ _ hs2 (s.plus (((Ext.refl w).drew).alloc _) _ ?_ fun k hk=>by rw [Own.at_sl] at hk;simp [Value.ownBlock] at hk;omega)
 refine ⟨by simp,.inr ⟨w.heap.size,_,_,_,rfl,s.ext.le,heap_alloc_new w.drew _,.inr (Nat.le_refl _),hge,hle,by rw [hsize,Nat.mul_one],?_⟩⟩
 simp only [bytesRow,Array.toList_append,Array.toList_map,Nat.mul_one]
 have hl:(sx.data.toList.map fun b:UInt8=>Value.int .u8 (b.toNat:Int)).length=sx.size:=by simp
 rw [← hl,List.take_left]
 simp [CA,rO]
end
section
variable {P:Program} {ρ:Operand→Value} {d:Option Tmp} {ty:TypeId} {pos:String} {af:Array Edge} {g:Option (Nat × Bool)} {x y:Operand} {t t' e:TypeId} {m n:Int}
theorem qB (hx:ρ x=.int .u64 m) (hy:ρ y=.int .u64 n) (h:0≤m∧m≤18446744073709551615∧1≤n):aM P ⟨d,.binOp .quo t x y t',ty,pos,af,g⟩ ρ (.int .u64 (m / n)):=
 gt hx hy fun w=>by
  have h0:¬ n=0:=by omega
  simp [binOp,Op.intDiv,h0,IntWalk.u64_quo m n h]
theorem CS {k:IntKind} {v:Value} {n:Nat} {c:Option Addr × Nat} (hv:v=.slice c.1 n c.2) (ht:P.underlying t=some (.slice e)) (hx:ρ x=v):aM P ⟨d,.call {callee:=.builtin .len,args:=#[x],argTypes:=#[t]},ty,pos,af,g⟩ ρ (.int .i64 (n:Int)):=fun w=>by
 subst hv
 simp [execOp,resolve,hx,invoke,builtin,Builtin.len_,Sem.run_bind,run_underlying ht,goInt]
end
theorem Gg {w0 w:World} {B:List Own} (s:St w0 B w) (i:Nat) {v:Value} {e:TypeId} {sz n:Nat} {xs:List Value} (hi:B[i]? = some (.sl v e sz n xs)):∃ c:Option Addr × Nat,v=.slice c.1 n c.2:=by
 obtain ⟨a,c,hv⟩:=jw (s.getSl i hi)
 exact ⟨(a,c),hv⟩
section
variable {ro:Option Nat} {P:Program} {ops:Array Oper} {Q:Act→World→Prop} {l:List Oper} {a:Act} {w w0:World} {N:Nat} {L:List (Nat × Value)} {Df:List Deferred} {B:List Own} {d:Tmp} {ty:TypeId} {pos:String} {af:Array Edge} {x y:Operand} {t t' e:TypeId}
theorem eA {v:Value} {sz n:Nat} {xs:List Value} (i:Nat) (h:Sl N a L Df) (s:St w0 B w) (ht:P.underlying t=some (.slice e)) (hx:eu L x=some v) {e':TypeId} (hi:B[i]? = some (.sl v e' sz n xs)) (hd:Nat.blt d N=true)
 (k:∀ a',Sl N a' ((d,.int .i64 (n:Int))::L) Df→bX P ops Q l a' w):
 bX P ops Q (⟨some d,.call {callee:=.builtin .len,args:=#[x],argTypes:=#[t]},ty,pos,af,none⟩::l) a w:=by
 obtain ⟨c,hv⟩:=Gg s i hi
 exact ae h (CS (k:=.i64) hv ht (h.ev hx)) hd k
end
def Ii (n j:Nat):Nat:=8*n / (72057594037927936 / 256 ^ j)
theorem OZ (j:Nat) (h:j<8):(1:Int)≤((72057594037927936 / 256 ^ j:Nat):Int):=by
 have:∀ i:Fin 8,1≤72057594037927936 / 256 ^ i.val:=by decide
 have:=this ⟨j,h⟩
 exact Int.ofNat_le.2 this
theorem KU (j:Nat):((72057594037927936 / 256 ^ j:Nat):Int)≤72057594037927936:=by
 have:=Nat.div_le_self 72057594037927936 (256 ^ j)
 exact Int.ofNat_le.2 this
theorem Nk (j:Nat):((72057594037927936 / 256 ^ j:Nat):Int) / 256=((72057594037927936 / 256 ^ (j+1):Nat):Int):=by
 rw [Nat.pow_succ,← Nat.div_div_eq_div_mul];rfl
end Go.Proofs.YtobfeflheaobiaaGreatDoor
namespace Go.Proofs.YtobfeflheaobiaaGreatDoor
open Go.RowKit Go.ChangeShapes Go.WideShapes Go.ChangeAt
theorem wI {H:Type} {enc:TypeId × Value→H} {P:Program} {w:World} {base:Nat} {sp:Nat→Bool} {held:Bool} {fuel n:Nat} {t e:TypeId} {k:IntKind} {cs:List Value} {pl:List MemPlace}
 (ht:P.underlying t=some (.array n e)) (he:P.underlying e=some (.int k)) (hc:P.cellsOf e=1) (hct:P.cellsOf t=n) (ns:List Int)
 (h:DataW.trod enc P w base sp held fuel t cs=some (.agg (ns.map fun m=>.lit (.int k m)),pl)):cs=ns.map (Value.int k):=by
 obtain ⟨xs,m,_,hx,hl,hn,hel⟩:=DataW.trod_array ht h
 rw [hc] at hel
 simp only [Prod.mk.injEq,DataW.agg.injEq] at hx
 have hmap:=hx.1
 have hnl:ns.length=n:=by
  have:=congrArg List.length hmap
  simp at this;omega
 apply List.ext_getElem?
 intro i
 by_cases hi:i<n
 ·have h1:=hel i hi
  rw [Nat.mul_one] at h1
  have hxi:i<xs.length:=by omega
  rw [List.getElem?_eq_getElem hxi] at h1
  obtain ⟨r,e1,e2,_⟩:=DataW.trod_int he h1
  have h2:=congrArg (fun l=>l[i]?) hmap
  simp only [List.getElem?_map,List.getElem?_eq_getElem hxi,Option.map_some,e2] at h2
  have hni:i<ns.length:=by omega
  rw [List.getElem?_eq_getElem hni] at h2
  simp at h2
  have h3:cs[i]? = some (.int k r):=by
   have:=congrArg (fun l=>l[0]?) e1
   simpa [List.getElem?_take,List.getElem?_drop] using this
  rw [h3,List.getElem?_map,List.getElem?_eq_getElem hni,Option.map_some,h2]
 ·rw [List.getElem?_eq_none (by omega),List.getElem?_eq_none (by simp;omega)]
theorem ff.of_var {P:Program} {w:World} {nm:String} {g:Nat} {cs:Array Value} (hg:P.globalNamed nm=some g) (h:w.var? P nm=some cs):ff w g cs:=by
 simp only [World.var?,hg,Option.bind_some] at h
 split at h
 ·rename_i c t fr e
  injection h with h
  subst h
  exact ⟨t,fr,e⟩
 ·cases h
theorem ff.of_ints {H:Type} {enc:TypeId × Value→H} {P:Program} {w:World} {base:Nat} {sp:Nat→Bool} {held:Bool} {fuel n:Nat} {t e:TypeId} {k:IntKind} {cs:Array Value} {pl:List MemPlace} {nm:String} {g:Nat}
 (hg:P.globalNamed nm=some g) (hv:w.var? P nm=some cs) (ht:P.underlying t=some (.array n e)) (he:P.underlying e=some (.int k)) (hc:P.cellsOf e=1) (hct:P.cellsOf t=n) (ns:List Int) (C:Array Value)
 (h:DataW.trod enc P w base sp held fuel t cs.toList=some (.agg (ns.map fun m=>.lit (.int k m)),pl)) (hC:(ns.map (Value.int k)).toArray=C):ff w g C:=by
 have h1:=wI ht he hc hct ns h
 have h2:cs=C:=by
  rw [← hC,← h1]
 rw [← h2]
 exact ff.of_var hg hv
theorem db.is {P:Program} {o:Oper} {ρ:Operand→Value} {w:World} {X:Value} (h:aM P o ρ X):db P o ρ w (fun v w'=>is X v w'∧Ext w w'):=h.does ⟨rfl,Ext.refl _⟩
theorem Rd.mono {n:Nat} {xs:List Value}:my (fun v w=>Rd w v n xs):=fun _ _ _ h e=>h.keep e
theorem aD {a:Act} {N:Nat} {Df:List Deferred} (L:List (Nat × Value)) (hs:a.tmps.size=N) (hd:a.defers=Df) (h:∀ t v,lk L t=some v→a.tmps.getD t undef=v):Sl N a L Df:=⟨hs,hd,h⟩
def GL:List cW→Prop
 |[]=>True
 |x::r=>my x∧GL r
theorem oO:∀ {l:List cW},GL l→∀ i,my (l.getD i (is undef))
 |[],_,i=>by simpa using aR _
 |x::r,h,0=>h.1
 |x::r,h,i+1=>by simpa using oO h.2 i
section
variable {ops:List Oper} {cl:List Nat} {Ts:List cW} {a0 a:Act} {w:World} {lk9:List Tmp}
end
def qN (a:Act):List (Nat × Value)→Prop
 |[]=>True
 |(t,v)::r=>a.tmps.getD t undef=v∧qN a r
theorem holds_lk {a:Act}:∀ {L:List (Nat × Value)},qN a L→∀ t v,lk L t=some v→a.tmps.getD t undef=v
 |[],_,t,v,h=>by simp [lk] at h
 |(k,u)::r,H,t,v,h=>by
  unfold lk at h
  cases hb:Nat.beq k t with
  |true=>
   rw [hb] at h
   simp at h
   have:k=t:=by simpa using hb
   subst this;subst h;exact H.1
  |false=>rw [hb] at h;exact holds_lk H.2 t v h
theorem St.nilSl {w0 w:World} {B:List Own} (s:St w0 B w) (e:TypeId) (sz:Nat):St w0 (.sl (.slice none 0 0) e sz 0 []::B) w:=
 s.plus (Ext.refl w) _ ⟨by simp,.inl ⟨rfl,rfl⟩⟩ fun k hk=>by rw [Own.at_sl] at hk;simp [Value.ownBlock] at hk
end Go.Proofs.YtobfeflheaobiaaGreatDoor
