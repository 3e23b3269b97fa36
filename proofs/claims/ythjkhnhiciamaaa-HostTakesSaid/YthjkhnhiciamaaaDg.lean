/- Words of 32 bits, tables, ranges over functions, texts and their blocks, and what the sum of abc comes to; no Go in it. -/
import Derived.Laws.CopyRow
import Derived.RangeFuncLeaves
import Derived.Laws.IdiomStrings
import Derived.ProofKit
import Derived.LaidMore
import Derived.OpenShut
import Derived.Stop.Joined
import Derived.MakeChecks
import Derived.SliceStrings
import Derived.Test.YthjkhnhiciamaaaId
set_option linter.unusedVariables false
set_option linter.unusedSimpArgs false
set_option linter.unusedSectionVars false
namespace Go.Proofs.Ythjkhnhiciamaaa
open Go.RowKit
/-! ### words of 32 bits -/
abbrev W32 := BitVec 32
def wv (x : W32) : Value := .int .u32 (x.toNat : Int)
/-- rows of words -/
def wF (f : Nat → W32) (n : Nat) : Array Value := ((List.range n).map fun i => wv (f i)).toArray
@[simp] theorem wF_size (f : Nat → W32) (n : Nat) : (wF f n).size = n := by simp [wF]
theorem bytesF_ones (f : Nat → Nat) (n : Nat) : ∀ v ∈ (bytesF f n).toList, v.oneCell' = true := by
  intro v hv
  simp [bytesF] at hv
  obtain ⟨x, _, rfl⟩ := hv
  rfl
section
variable {P : Program} {ρ : Operand → Value} {d : Option Tmp} {ty : TypeId} {pos : String} {af : Array Edge} {g : Option (Nat × Bool)} {x y : Operand} {t t' e : TypeId} {k k' : IntKind} {m n : Int} {a b : W32}
end
end Go.Proofs.Ythjkhnhiciamaaa

namespace Go.Proofs.Ythjkhnhiciamaaa
/-! ### the sum of bytes: what the program works out, step by step -/
def rot (x : W32) (n : Nat) : W32 := (x <<< (32 - n)) ||| (x >>> n)
structure V8 where
  (a b c d e f g h : W32)
  deriving DecidableEq
def V8.at (v : V8) (i : Nat) : W32 := [v.a, v.b, v.c, v.d, v.e, v.f, v.g, v.h].getD i 0#32
def tt1 (v : V8) (k w : W32) : W32 := v.h + (rot v.e 6 ^^^ rot v.e 11 ^^^ rot v.e 25) + (v.e &&& v.f ^^^ ~~~v.e &&& v.g) + k + w
def tt2 (v : V8) : W32 := (rot v.a 2 ^^^ rot v.a 13 ^^^ rot v.a 22) + (v.a &&& v.b ^^^ v.a &&& v.c ^^^ v.b &&& v.c)
def rnd (v : V8) (k w : W32) : V8 := ⟨tt1 v k w + tt2 v, v.a, v.b, v.c, v.d + tt1 v k w, v.e, v.f, v.g⟩
def kTab (i : Nat) : W32 := ([0x428a2f98, 0x71374491, 0xb5c0fbcf, 0xe9b5dba5, 0x3956c25b, 0x59f111f1, 0x923f82a4, 0xab1c5ed5,
  0xd807aa98, 0x12835b01, 0x243185be, 0x550c7dc3, 0x72be5d74, 0x80deb1fe, 0x9bdc06a7, 0xc19bf174,
  0xe49b69c1, 0xefbe4786, 0x0fc19dc6, 0x240ca1cc, 0x2de92c6f, 0x4a7484aa, 0x5cb0a9dc, 0x76f988da,
  0x983e5152, 0xa831c66d, 0xb00327c8, 0xbf597fc7, 0xc6e00bf3, 0xd5a79147, 0x06ca6351, 0x14292967,
  0x27b70a85, 0x2e1b2138, 0x4d2c6dfc, 0x53380d13, 0x650a7354, 0x766a0abb, 0x81c2c92e, 0x92722c85,
  0xa2bfe8a1, 0xa81a664b, 0xc24b8b70, 0xc76c51a3, 0xd192e819, 0xd6990624, 0xf40e3585, 0x106aa070,
  0x19a4c116, 0x1e376c08, 0x2748774c, 0x34b0bcb5, 0x391c0cb3, 0x4ed8aa4a, 0x5b9cca4f, 0x682e6ff3,
  0x748f82ee, 0x78a5636f, 0x84c87814, 0x8cc70208, 0x90befffa, 0xa4506ceb, 0xbef9a3f7, 0xc67178f2] : List W32).getD i 0#32
def hTab (i : Nat) : W32 := ([0x6a09e667, 0xbb67ae85, 0x3c6ef372, 0xa54ff53a, 0x510e527f, 0x9b05688c, 0x1f83d9ab, 0x5be0cd19] : List W32).getD i 0#32
/-- k rounds -/
def rnds (s ws : Nat → W32) : Nat → V8
  | 0 => ⟨s 0, s 1, s 2, s 3, s 4, s 5, s 6, s 7⟩
  | k + 1 => rnd (rnds s ws k) (kTab k) (ws k)
def stirF (s ws : Nat → W32) (i : Nat) : W32 := s i + (rnds s ws 64).at i
/-- a block's words -/
def sprK (f : Nat → Nat) : Nat → Nat → W32
  | 0 => fun _ => 0#32
  | k + 1 => fun i => if i = k / 4 then (sprK f k (k / 4) <<< 8) ||| BitVec.ofNat 32 (f k) else sprK f k i
def sg0 (x : W32) : W32 := rot x 7 ^^^ rot x 18 ^^^ (x >>> 3)
def sg1 (x : W32) : W32 := rot x 17 ^^^ rot x 19 ^^^ (x >>> 10)
def sprT (f : Nat → Nat) : Nat → Nat → W32
  | 0 => sprK f 64
  | k + 1 => fun i => if i = k + 16 then sg1 (sprT f k (k + 14)) + sprT f k (k + 9) + sg0 (sprT f k (k + 1)) + sprT f k k else sprT f k i
def spreadF (f : Nat → Nat) : Nat → W32 := sprT f 48
end Go.Proofs.Ythjkhnhiciamaaa

namespace Go.Proofs.Ythjkhnhiciamaaa
open Go.RowKit
/-! ### tables: package variables that hold what the text lays -/
def Tab (w : World) (g : Nat) (C : Array Value) : Prop := ∃ t fr, w.heap[g]? = some (.cells C t fr)
theorem Tab.keep {w0 w : World} {g : Nat} {C : Array Value} (h : Tab w0 g C) (e : Ext w0 w) : Tab w g C := by
  obtain ⟨t, fr, h⟩ := h
  exact ⟨t, fr, (e.heap (Array.getElem?_eq_some_iff.1 h).1).trans h⟩
section
variable {ro : Option Nat} {P : Program} {ops : Array Oper} {Q : Act → World → Prop} {l : List Oper} {a : Act} {w w0 : World} {N : Nat} {L : List (Nat × Value)} {Df : List Deferred} {B : List Own} {d : Tmp} {ty : TypeId} {pos : String} {af : Array Edge} {x y : Operand} {t : TypeId} {g : Nat} {C : Array Value}
end
section
variable {P : Program} {ops : List Oper} {K : Act → World → Prop} {l : List Oper} {a : Act} {w w0 : World} {N : Nat} {L : List (Nat × Value)} {Df : List Deferred} {B : List Own} {d : Tmp} {ty : TypeId} {pos : String} {af : Array Edge} {x : Operand} {t : TypeId} {g : Nat} {C : Array Value}
end
section
variable {P : Program} {a : Act} {w w0 : World} {N : Nat} {L : List (Nat × Value)} {Df : List Deferred} {B : List Own} {fn : Func} {T : Asrt}
theorem e_tmps {t u : Tmp} {V U : Value} (hr : fn.results = #[.tmp t, .tmp u]) (h : Sl N a L) (s : St w0 B w) (hv : lk L t = some V) (hu : lk L u = some U) (hT : T (.tuple #[V, U]) w) : bodyPost P fn (Ret w0 T) .ret a w :=
  ⟨h.defers, .tuple #[V, U], by rw [results_tmp2 hr, h.holds t V hv, h.holds u U hu], _, rfl, hT, s.ext⟩
end
section
variable {P : Program} {ρ : Operand → Value} {d : Option Tmp} {ty : TypeId} {pos : String} {af : Array Edge} {g : Option (Nat × Bool)} {x y : Operand} {t t' e : TypeId} {k : IntKind} {m n : Int}
end
/-! ### what the walks want of words -/
end Go.Proofs.Ythjkhnhiciamaaa

namespace Go.Proofs.Ythjkhnhiciamaaa
open Go.RowKit
/-! ### functions as values; ranges over functions -/
section
variable {ro : Option Nat} {P : Program} {ops : Array Oper} {Q : Act → World → Prop} {l : List Oper} {a : Act} {w w0 : World} {N : Nat} {L : List (Nat × Value)} {Df : List Deferred} {B : List Own} {d : Tmp} {ty : TypeId} {pos : String} {af : Array Edge} {x y : Operand} {t : TypeId}
theorem evsA {args : Array Operand} {vs : List Value} (h : Sl N a L Df) (hvs : args.toList.map (evo L) = vs.map some) : args.map a.eval = vs.toArray := by
  apply Array.ext'
  rw [Array.toList_map]
  exact evs h hvs
/-- a call whose contract speaks of what is the caller's own -/
theorem s_callS {f : FuncId} {args : Array Operand} {tys : Array TypeId} (vs : List Value) {T : Value → World → Prop} (h : Sl N a L Df) (hf : Fnc P f) (hc : Calls P f vs.toArray w (fun e w' => ∃ v, e = .returned v ∧ T v w')) (hvs : args.toList.map (evo L) = vs.map some)
    (hd : Nat.blt d N = true) (k : ∀ a' w' v, T v w' → Sl N a' ((d, v) :: L) Df → Lst P ops Q l a' w') :
    Lst P ops Q (⟨some d, .call { callee := .value (.func f), args := args, argTypes := tys }, ty, pos, af, none⟩ :: l) a w :=
  s_does (R := T) h (does_call hf rfl (evsA h hvs) hc) hd k
theorem ru_makeFunc {ρ : Operand → Value} {dst : Option Tmp} {g : Option (Nat × Bool)} {f : FuncId} {cap : Array Operand} (vs : List Value) (hvs : cap.map ρ = vs.toArray) : RunsTo P ⟨dst, .makeFunc (.func f) #[] cap, ty, pos, af, g⟩ ρ (.func (.func f) #[] vs.toArray) := fun w => by
  simp [execOp, Instr.makeFunc, hvs, Sem.run_bind]
end
theorem St.putObj {w0 : World} {B : List Own} {w : World} (h : St w0 B w) (i : Nat) {b : Nat} {o : Obj} (hi : B[i]? = some (.blk b o)) (o' : Obj) : St w0 (B.set i (.blk b o')) (w.putObj b o') :=
  h.upd i hi rfl rfl rfl (by simp) (World.putObj_heap_same (Array.getElem?_eq_some_iff.1 (h.get i hi)).1) (fun k hk => .inl hk) (fun k _ hk => World.putObj_heap_other (fun e => hk (Own.at_blk.2 e)))
theorem perm_front {α : Type} {B : List α} {i : Nat} {p : α} (hi : B[i]? = some p) : B.Perm (p :: B.eraseIdx i) := by
  induction B generalizing i with
  | nil => simp at hi
  | cons b B ih =>
    cases i with
    | zero => simp at hi; subst hi; simp
    | succ i => exact (List.Perm.cons _ (ih (by simpa using hi))).trans (List.Perm.swap _ _ _)
end Go.Proofs.Ythjkhnhiciamaaa

namespace Go.Proofs.Ythjkhnhiciamaaa
open Go.RowKit
/-! ### slices that were handed in -/
def Rd (w : World) (v : Value) (n : Nat) (xs : List Value) : Prop :=
  xs.length = n ∧ ((v = .slice none 0 0 ∧ n = 0) ∨ ∃ p c, v = .slice (some p) n c ∧ n ≤ c ∧ ∀ j x, xs[j]? = some x → w.cell? (p.add j) = some x)
def elAddr (v : Value) (j : Nat) : Addr := match v with | .slice (some p) _ _ => p.add j | _ => ⟨0, 0, none⟩
theorem add_block (p : Addr) (j : Nat) : (p.add j).block = p.block := by unfold Addr.add; split <;> rfl
theorem cell_lt {w : World} {p : Addr} {x : Value} (h : w.cell? p = some x) : p.block < w.heap.size := by
  rcases Nat.lt_or_ge p.block w.heap.size with h' | h'
  · exact h'
  · simp [World.cell?, Array.getElem?_eq_none h'] at h
theorem Rd.keep {w0 w : World} {v : Value} {n : Nat} {xs : List Value} (h : Rd w0 v n xs) (e : Ext w0 w) : Rd w v n xs := by
  refine ⟨h.1, h.2.imp id fun ⟨p, c, hv, hnc, hc⟩ => ⟨p, c, hv, hnc, fun j x hx => ?_⟩⟩
  have := hc j x hx
  rw [e.cell (cell_lt this)]; exact this
theorem Rd.of_own {w : World} {base : Nat} {e : TypeId} {v : Value} {n : Nat} {xs : List Value} (h : Owns w base e 1 v n xs) : Rd w v n xs := by
  refine ⟨by simpa using h.1, ?_⟩
  rcases ownsRow_slice h with ⟨p, c, hv⟩
  cases p with
  | none =>
    rcases h.2 with ⟨h1, h2⟩ | ⟨g, cap, cur, fz, h1, _⟩
    · exact .inl ⟨h1, h2⟩
    · rw [hv] at h1; cases h1
  | some p =>
    have hnc : n ≤ c := by
      rcases h.2 with ⟨h1, h2⟩ | ⟨g, cap, cur, fz, h1, _, _, _, h2, _⟩
      · omega
      · rw [hv] at h1
        injection h1 with _ _ h1
        omega
    refine .inr ⟨p, c, hv, hnc, fun j x hx => ?_⟩
    rcases h.2 with ⟨h1, h2⟩ | ⟨g, cap, cur, fz, h1, _⟩
    · rw [hv] at h1; cases h1
    · rw [hv] at h1
      injection h1 with h1 _ _
      injection h1 with h1
      subst h1
      subst hv
      exact h.cells (g := g) rfl j x hx
theorem Rd.len {w : World} {v : Value} {n : Nat} {xs : List Value} (h : Rd w v n xs) : ∃ a c, v = .slice a n c := by
  rcases h.2 with ⟨h1, h2⟩ | ⟨p, c, h1, _, _⟩
  · exact ⟨none, 0, by rw [h1, h2]⟩
  · exact ⟨some p, c, h1⟩
theorem Rd.at {w : World} {v : Value} {n : Nat} {xs : List Value} (h : Rd w v n xs) {j : Nat} {x : Value} (hx : xs[j]? = some x) : ∃ p c, v = .slice (some p) n c ∧ w.cell? (elAddr v j) = some x := by
  have hlt := (List.getElem?_eq_some_iff.1 hx).1
  rcases h.2 with ⟨h1, h2⟩ | ⟨p, c, h1, _, h2⟩
  · have := h.1; omega
  · exact ⟨p, c, h1, by rw [h1]; exact h2 j x hx⟩
/-- a slice's first k elements -/
def cutV (v : Value) (k : Nat) : Value := match v with | .slice a _ c => .slice a k c | v => v
theorem Rd.cut {w : World} {v : Value} {n : Nat} {xs : List Value} (h : Rd w v n xs) (k : Nat) (hk : k ≤ n) : Rd w (cutV v k) k (xs.take k) := by
  refine ⟨by rw [List.length_take, h.1]; omega, ?_⟩
  rcases h.2 with ⟨h1, h2⟩ | ⟨p, c, h1, h3, h2⟩
  · left; subst h1; obtain rfl : k = 0 := by omega
    exact ⟨rfl, rfl⟩
  · right; subst h1
    refine ⟨p, c, rfl, by omega, fun j x hx => h2 j x ?_⟩
    rw [List.getElem?_take] at hx
    split at hx
    · exact hx
    · cases hx
section
variable {P : Program} {ρ : Operand → Value} {d : Option Tmp} {ty : TypeId} {pos : String} {af : Array Edge} {g : Option (Nat × Bool)} {x y : Operand} {t t' e : TypeId} {k : IntKind} {m : Int}
end
section
variable {ro : Option Nat} {P : Program} {ops : Array Oper} {Q : Act → World → Prop} {l : List Oper} {a : Act} {w w0 : World} {N : Nat} {L : List (Nat × Value)} {Df : List Deferred} {B : List Own} {d : Tmp} {ty : TypeId} {pos : String} {af : Array Edge} {x y : Operand} {t t' e : TypeId}
end
/-! ### contracts that speak of what is the caller's own; functions with marks -/
section
variable {P : Program} {a : Act} {w w0 : World} {N : Nat} {L : List (Nat × Value)} {B : List Own} {fn : Func} {T : Asrt} {R : Ending → World → Prop}
theorem c_enterF {f : FuncId} {c : Code} {args : List Value} {n : Nat} (hf : P.funcs[f]? = some fn) (hb : fn.body = some c) (hn : fn.ntmps = n) (hs : Nat.ble args.length n = true) (L : List (Nat × Value)) (hL : ∀ p ∈ L, args[p.1]? = some p.2)
    (h : ∀ a, Sl n a L → c.wpIn (FR none) 0 P (bodyPost P fn R) a w) : Calls P f args.toArray w R := by
  refine callsIn_wide.1 (callsIn_of_wp (n := 0) hf hb trivial ?_)
  rw [hn]
  exact h _ (Sl.enter L (by simpa using hs) (by simpa using hL))
theorem e_tmpF {t : Tmp} {V : Value} (hr : fn.results = #[.tmp t]) (h : Sl N a L) (hv : lk L t = some V) (hR : R (.returned V) w) : bodyPost P fn R .ret a w := ⟨h.defers, V, by rw [results_tmp hr, h.holds t V hv], hR⟩
end
end Go.Proofs.Ythjkhnhiciamaaa

namespace Go.Proofs.Ythjkhnhiciamaaa
/-! ### texts, one behind the other, and their blocks -/
def pre : List ByteArray → Nat → Nat
  | [], _ => 0
  | _ :: _, 0 => 0
  | x :: r, p + 1 => x.size + pre r p
def padF (s : ByteArray) (i : Nat) : Nat :=
  if i < s.size then sb s i else if i = s.size then 128 else if i < 64 * ((s.size + 8) / 64) + 56 then 0 else 8 * s.size / 256 ^ (64 * ((s.size + 8) / 64) + 63 - i) % 256
def blkF (s : ByteArray) (d i : Nat) : Nat := padF s (64 * d + i)
/-- the words behind d blocks -/
def Hs (s : ByteArray) : Nat → Nat → W32
  | 0 => hTab
  | d + 1 => stirF (Hs s d) (spreadF (blkF s d))
end Go.Proofs.Ythjkhnhiciamaaa

namespace Go.Proofs.Ythjkhnhiciamaaa
open Go.RowKit
/-! ### bytes of a text; values that grow -/
def byL (ns : List Nat) : List Value := ns.map fun (m : Nat) => .int .u8 (m : Int)
@[simp] theorem byL_length (ns : List Nat) : (byL ns).length = ns.length := by simp [byL]
def strL (sx : ByteArray) : List Nat := sx.data.toList.map UInt8.toNat
@[simp] theorem strL_length (sx : ByteArray) : (strL sx).length = sx.size := by simp [strL]
section
variable {ro : Option Nat} {P : Program} {ops : Array Oper} {Q : Act → World → Prop} {l : List Oper} {a : Act} {w w0 : World} {N : Nat} {L : List (Nat × Value)} {Df : List Deferred} {B : List Own} {d : Tmp} {ty : TypeId} {pos : String} {af : Array Edge} {x y : Operand} {t t' e : TypeId}
end
section
variable {P : Program} {ρ : Operand → Value} {d : Option Tmp} {ty : TypeId} {pos : String} {af : Array Edge} {g : Option (Nat × Bool)} {x y : Operand} {t t' e : TypeId} {m n : Int}
theorem ru_lenSl {k : IntKind} {v : Value} {n : Nat} {c : Option Addr × Nat} (hv : v = .slice c.1 n c.2) (ht : P.underlying t = some (.slice e)) (hx : ρ x = v) : RunsTo P ⟨d, .call { callee := .builtin .len, args := #[x], argTypes := #[t] }, ty, pos, af, g⟩ ρ (.int .i64 (n : Int)) := fun w => by
  subst hv
  simp [execOp, resolve, hx, invoke, builtin, Builtin.len_, Sem.run_bind, run_underlying ht, goInt]
end
theorem own_len {w0 w : World} {B : List Own} (s : St w0 B w) (i : Nat) {v : Value} {e : TypeId} {sz n : Nat} {xs : List Value} (hi : B[i]? = some (.sl v e sz n xs)) : ∃ c : Option Addr × Nat, v = .slice c.1 n c.2 := by
  obtain ⟨a, c, hv⟩ := ownsRow_slice (s.getSl i hi)
  exact ⟨(a, c), hv⟩
section
variable {ro : Option Nat} {P : Program} {ops : Array Oper} {Q : Act → World → Prop} {l : List Oper} {a : Act} {w w0 : World} {N : Nat} {L : List (Nat × Value)} {Df : List Deferred} {B : List Own} {d : Tmp} {ty : TypeId} {pos : String} {af : Array Edge} {x y : Operand} {t t' e : TypeId}
theorem s_len_sl {v : Value} {sz n : Nat} {xs : List Value} (i : Nat) (h : Sl N a L Df) (s : St w0 B w) (ht : P.underlying t = some (.slice e)) (hx : evo L x = some v) {e' : TypeId} (hi : B[i]? = some (.sl v e' sz n xs)) (hd : Nat.blt d N = true)
    (k : ∀ a', Sl N a' ((d, .int .i64 (n : Int)) :: L) Df → Lst P ops Q l a' w) :
    Lst P ops Q (⟨some d, .call { callee := .builtin .len, args := #[x], argTypes := #[t] }, ty, pos, af, none⟩ :: l) a w := by
  obtain ⟨c, hv⟩ := own_len s i hi
  exact s_pure h (ru_lenSl (k := .i64) hv ht (h.ev hx)) hd k
end
end Go.Proofs.Ythjkhnhiciamaaa

namespace Go.Proofs.Ythjkhnhiciamaaa
open Go.RowKit Go.ChangeShapes Go.WideShapes Go.ChangeAt
/-! ### the tables that a row lists -/
theorem cells_ints {H : Type} {enc : TypeId × Value → H} {P : Program} {w : World} {base : Nat} {sp : Nat → Bool} {held : Bool} {fuel n : Nat} {t e : TypeId} {k : IntKind} {cs : List Value} {pl : List MemPlace}
    (ht : P.underlying t = some (.array n e)) (he : P.underlying e = some (.int k)) (hc : P.cellsOf e = 1) (hct : P.cellsOf t = n) (ns : List Int)
    (h : DataW.trod enc P w base sp held fuel t cs = some (.agg (ns.map fun m => .lit (.int k m)), pl)) : cs = ns.map (Value.int k) := by
  obtain ⟨xs, m, _, hx, hl, hn, hel⟩ := DataW.trod_array ht h
  rw [hc] at hel
  simp only [Prod.mk.injEq, DataW.agg.injEq] at hx
  have hmap := hx.1
  have hnl : ns.length = n := by
    have := congrArg List.length hmap
    simp at this; omega
  apply List.ext_getElem?
  intro i
  by_cases hi : i < n
  · have h1 := hel i hi
    rw [Nat.mul_one] at h1
    have hxi : i < xs.length := by omega
    rw [List.getElem?_eq_getElem hxi] at h1
    obtain ⟨r, e1, e2, _⟩ := DataW.trod_int he h1
    have h2 := congrArg (fun l => l[i]?) hmap
    simp only [List.getElem?_map, List.getElem?_eq_getElem hxi, Option.map_some, e2] at h2
    have hni : i < ns.length := by omega
    rw [List.getElem?_eq_getElem hni] at h2
    simp at h2
    have h3 : cs[i]? = some (.int k r) := by
      have := congrArg (fun l => l[0]?) e1
      simpa [List.getElem?_take, List.getElem?_drop] using this
    rw [h3, List.getElem?_map, List.getElem?_eq_getElem hni, Option.map_some, h2]
  · rw [List.getElem?_eq_none (by omega), List.getElem?_eq_none (by simp; omega)]
theorem Tab.of_var {P : Program} {w : World} {nm : String} {g : Nat} {cs : Array Value} (hg : P.globalNamed nm = some g) (h : w.var? P nm = some cs) : Tab w g cs := by
  simp only [World.var?, hg, Option.bind_some] at h
  split at h
  · rename_i c t fr e
    injection h with h
    subst h
    exact ⟨t, fr, e⟩
  · cases h
theorem Tab.of_ints {H : Type} {enc : TypeId × Value → H} {P : Program} {w : World} {base : Nat} {sp : Nat → Bool} {held : Bool} {fuel n : Nat} {t e : TypeId} {k : IntKind} {cs : Array Value} {pl : List MemPlace} {nm : String} {g : Nat}
    (hg : P.globalNamed nm = some g) (hv : w.var? P nm = some cs) (ht : P.underlying t = some (.array n e)) (he : P.underlying e = some (.int k)) (hc : P.cellsOf e = 1) (hct : P.cellsOf t = n) (ns : List Int) (C : Array Value)
    (h : DataW.trod enc P w base sp held fuel t cs.toList = some (.agg (ns.map fun m => .lit (.int k m)), pl)) (hC : (ns.map (Value.int k)).toArray = C) : Tab w g C := by
  have h1 := cells_ints ht he hc hct ns h
  have h2 : cs = C := by
    rw [← hC, ← h1]
  rw [← h2]
  exact Tab.of_var hg hv
theorem open_strs {H : Type} {enc : TypeId × Value → H} {P : Program} {W : World} {r : Reach} {b0 : Nat} {t e : TypeId} {v : Value} {d : DataW H} {ps : List MemPlace} (ht : P.underlying t = some (.slice e)) (he : P.underlying e = some .string) (hc : P.cellsOf e = 1)
    (hval : Value.okWide P W r b0 t v) (h : DataW.Trod enc P W 0 (fun _ => true) true t v d ps) : ∃ qs : List ByteArray, Rd W v qs.length (qs.map Value.string) := by
  obtain ⟨a, n, c, rfl⟩ := okWide_slice ht hval
  obtain ⟨fuel, hf⟩ := h
  rcases open_strings ht he hc hf with ⟨hcs, _⟩ | ⟨a', len, cap, ss, hcs, _, hl, _, hz, _, hcell, _⟩
  · have : Value.slice a n c = .slice none 0 0 := by simpa [Value.cells] using hcs
    exact ⟨[], rfl, .inl ⟨this, rfl⟩⟩
  · have hv : Value.slice a n c = .slice (some a') len cap := by simpa [Value.cells] using hcs
    have hz' : ss.length = cap := by simpa using hz
    have hql : (ss.take len).length = len := by rw [List.length_take]; omega
    refine ⟨ss.take len, by rw [List.length_map], .inr ⟨a', cap, by rw [hql]; exact hv, by omega, fun j x hx => ?_⟩⟩
    rw [List.getElem?_map, Option.map_eq_some_iff] at hx
    obtain ⟨s, hs, rfl⟩ := hx
    rw [List.getElem?_take] at hs
    split at hs
    · have hj := (List.getElem?_eq_some_iff.1 hs).1
      rw [hcell j hj, List.getD_eq_getElem?_getD, hs]; rfl
    · cases hs
end Go.Proofs.Ythjkhnhiciamaaa

namespace Go.Proofs.Ythjkhnhiciamaaa
open Go.RowKit
/-! ### obligations of single operations, in a region that draws its order -/
theorem Does.is {P : Program} {o : Oper} {ρ : Operand → Value} {w : World} {X : Value} (h : RunsTo P o ρ X) : Does P o ρ w (fun v w' => is X v w' ∧ Ext w w') := h.does ⟨rfl, Ext.refl _⟩
theorem Rd.mono {n : Nat} {xs : List Value} : Mono (fun v w => Rd w v n xs) := fun _ _ _ h e => h.keep e
theorem fin_slot {a : Act} {N : Nat} {Df : List Deferred} (L : List (Nat × Value)) (hs : a.tmps.size = N) (hd : a.defers = Df) (h : ∀ t v, lk L t = some v → a.tmps.getD t undef = v) : Sl N a L Df := ⟨hs, hd, h⟩
def AllM : List Asrt → Prop
  | [] => True
  | x :: r => Mono x ∧ AllM r
theorem allM_getD : ∀ {l : List Asrt}, AllM l → ∀ i, Mono (l.getD i (is undef))
  | [], _, i => by simpa using is_mono _
  | x :: r, h, 0 => h.1
  | x :: r, h, i + 1 => by simpa using allM_getD h.2 i
section
variable {ops : List Oper} {cl : List Nat} {Ts : List Asrt} {a0 a : Act} {w : World} {lk9 : List Tmp}
end
def Holds (a : Act) : List (Nat × Value) → Prop
  | [] => True
  | (t, v) :: r => a.tmps.getD t undef = v ∧ Holds a r
theorem holds_lk {a : Act} : ∀ {L : List (Nat × Value)}, Holds a L → ∀ t v, lk L t = some v → a.tmps.getD t undef = v
  | [], _, t, v, h => by simp [lk] at h
  | (k, u) :: r, H, t, v, h => by
    unfold lk at h
    cases hb : Nat.beq k t with
    | true =>
      rw [hb] at h
      simp at h
      have : k = t := by simpa using hb
      subst this; subst h; exact H.1
    | false => rw [hb] at h; exact holds_lk H.2 t v h
theorem St.nilSl {w0 w : World} {B : List Own} (s : St w0 B w) (e : TypeId) (sz : Nat) : St w0 (.sl (.slice none 0 0) e sz 0 [] :: B) w :=
  s.plus (Ext.refl w) _ ⟨by simp, .inl ⟨rfl, rfl⟩⟩ fun k hk => by rw [Own.at_sl] at hk; simp [Value.ownBlock] at hk
end Go.Proofs.Ythjkhnhiciamaaa
