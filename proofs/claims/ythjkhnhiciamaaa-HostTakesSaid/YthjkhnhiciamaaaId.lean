/- Identifiers: rows of 32 bytes as numbers of 256 bits; sums, ways, bits and digits of them; no Go in it. -/
import Derived.WalkKit
import Derived.ProofKit
import Derived.Laws.Rows
import Derived.Laws.BytesString
import Derived.Laws.Strings
import Derived.OpenShut
import Derived.Laws.AppendOwn
import Derived.Laws.StructEq
import Derived.Laws.Externs
import Derived.Lib.Bytealg
import Derived.Test.YthjkhnhiciamaaaEng
set_option linter.unusedVariables false
set_option linter.unusedSimpArgs false
set_option linter.unusedSectionVars false
namespace Go.Proofs.Ythjkhnhiciamaaa
open Go.RowKit

abbrev Id := BitVec 256
/-- byte i of an identifier, the highest first -/
def byteN (x : Nat) (i : Nat) : Nat := x / 256 ^ (31 - i) % 256
def byteAt (x : Id) (i : Nat) : Nat := byteN x.toNat i
def idCells (x : Id) : List Value := (List.range 32).map fun i => .int .u8 (byteAt x i : Int)
def idArr (x : Id) : Array Value := (idCells x).toArray
abbrev idV (x : Id) : Value := .agg (idArr x)

theorem byteAt_lt (x : Id) (i : Nat) : byteAt x i < 256 := Nat.mod_lt _ (by omega)
@[simp] theorem idCells_length (x : Id) : (idCells x).length = 32 := by simp [idCells]
@[simp] theorem idArr_size (x : Id) : (idArr x).size = 32 := by simp [idArr]
theorem idCells_get (x : Id) (i : Nat) (h : i < 32) : (idCells x)[i]? = some (.int .u8 (byteAt x i : Int)) := by
  simp [idCells, h]
theorem idArr_get (x : Id) (i : Nat) (h : i < 32) : (idArr x)[i]? = some (.int .u8 (byteAt x i : Int)) := by
  simpa [idArr] using idCells_get x i h


/-- digits of a sum of bytes -/
theorem div_pow_step (x k : Nat) : x / 256 ^ k = (x / 256 ^ (k + 1)) * 256 + x / 256 ^ k % 256 := by
  rw [Nat.pow_succ, ← Nat.div_div_eq_div_mul]; omega

theorem byteN_ext {x y : Nat} (hx : x < 2 ^ 256) (hy : y < 2 ^ 256) (h : ∀ i, i < 32 → byteN x i = byteN y i) : x = y := by
  have key : ∀ k, k ≤ 32 → x / 256 ^ (32 - k) = y / 256 ^ (32 - k) := by
    intro k
    induction k with
    | zero => intro _; rw [Nat.div_eq_of_lt (by simpa using hx), Nat.div_eq_of_lt (by simpa using hy)]
    | succ k ih =>
      intro hk
      have h1 := ih (by omega)
      have h2 := h k (by omega)
      unfold byteN at h2
      rw [show 32 - (k + 1) = 31 - k from by omega, div_pow_step x, div_pow_step y, show 31 - k + 1 = 32 - k from by omega, h1, h2]
  simpa using key 32 (Nat.le_refl _)

theorem id_ext {x y : Id} (h : ∀ i, i < 32 → byteAt x i = byteAt y i) : x = y :=
  BitVec.eq_of_toNat_eq (byteN_ext x.isLt y.isLt h)

theorem idArr_inj {x y : Id} (h : idArr x = idArr y) : x = y := id_ext fun i hi => by
  have h1 := idArr_get x i hi
  have h2 := idArr_get y i hi
  rw [h, h2] at h1
  simp at h1
  omega
/-- the number whose bytes are f 0 .. f 31 -/
def valN (f : Nat → Nat) : Nat → Nat
  | 0 => 0
  | n + 1 => valN f n * 256 + f n
theorem valN_lt (f : Nat → Nat) (hf : ∀ i, f i < 256) : ∀ n, valN f n < 256 ^ n
  | 0 => by simp [valN]
  | n + 1 => by have := valN_lt f hf n; have := hf n; rw [valN, Nat.pow_succ]; omega
theorem valN_div (f : Nat → Nat) (hf : ∀ i, f i < 256) (n : Nat) : ∀ k, k ≤ n → valN f n / 256 ^ (n - k) = valN f k := by
  intro k hk
  induction n with
  | zero => obtain rfl : k = 0 := (by omega); simp
  | succ n ih =>
    by_cases h : k = n + 1
    · subst h; simp
    · have := ih (by omega)
      rw [show n + 1 - k = (n - k) + 1 from by omega, Nat.pow_succ, Nat.mul_comm, ← Nat.div_div_eq_div_mul, valN]
      have h2 := hf n
      rw [show (valN f n * 256 + f n) / 256 = valN f n from by omega]
      exact this
theorem byteN_valN (f : Nat → Nat) (hf : ∀ i, f i < 256) (i : Nat) (hi : i < 32) : byteN (valN f 32) i = f i := by
  unfold byteN
  rw [show 31 - i = 32 - (i + 1) from by omega, valN_div f hf 32 (i + 1) (by omega), valN]
  have := hf i
  omega
def idOf (f : Nat → Nat) : Id := BitVec.ofNat 256 (valN f 32)
theorem byteAt_idOf (f : Nat → Nat) (hf : ∀ i, f i < 256) (i : Nat) (hi : i < 32) : byteAt (idOf f) i = f i := by
  unfold byteAt idOf
  have := valN_lt f hf 32
  rw [BitVec.toNat_ofNat, Nat.mod_eq_of_lt (by simpa using this)]
  exact byteN_valN f hf i hi

/-- byte j set to v -/
def setB (x : Id) (j v : Nat) : Id := idOf fun i => if i = j then v % 256 else byteAt x i
theorem byteAt_setB (x : Id) (j v i : Nat) (hi : i < 32) : byteAt (setB x j v) i = if i = j then v % 256 else byteAt x i := by
  unfold setB
  rw [byteAt_idOf _ (fun i => by split; exact Nat.mod_lt _ (by omega); exact byteAt_lt _ _) i hi]
theorem idArr_set (x : Id) (j v : Nat) (hv : v < 256) : (idArr x).setIfInBounds j (.int .u8 (v : Int)) = idArr (setB x j v) := by
  apply Array.ext_getElem?
  intro i
  by_cases hi : i < 32
  · rw [idArr_get _ i hi, byteAt_setB x j v i hi]
    by_cases hij : j = i
    · subst hij; simp [hi, Nat.mod_eq_of_lt hv]
    · rw [Array.getElem?_setIfInBounds_ne hij, idArr_get _ i hi, if_neg (fun e => hij e.symm)]
  · rw [Array.getElem?_eq_none (by simp; omega), Array.getElem?_eq_none (by simp; omega)]

theorem byteAt_zero (i : Nat) : byteAt 0#256 i = 0 := by simp [byteAt, byteN]
theorem idArr_zero : idArr 0#256 = #[.int .u8 0, .int .u8 0, .int .u8 0, .int .u8 0, .int .u8 0, .int .u8 0, .int .u8 0, .int .u8 0, .int .u8 0, .int .u8 0, .int .u8 0, .int .u8 0, .int .u8 0, .int .u8 0, .int .u8 0, .int .u8 0, .int .u8 0, .int .u8 0, .int .u8 0, .int .u8 0, .int .u8 0, .int .u8 0, .int .u8 0, .int .u8 0, .int .u8 0, .int .u8 0, .int .u8 0, .int .u8 0, .int .u8 0, .int .u8 0, .int .u8 0, .int .u8 0] := by
  simp [idArr, idCells, byteAt_zero, List.range_succ]
end Go.Proofs.Ythjkhnhiciamaaa
namespace Go.Proofs.Ythjkhnhiciamaaa
end Go.Proofs.Ythjkhnhiciamaaa

namespace Go.Proofs.Ythjkhnhiciamaaa
/-! ### what the walks want of identifiers -/
theorem idArr_ones (x : Id) : ∀ v ∈ (idArr x).toList, v.oneCell' = true := by
  intro v hv
  simp [idArr, idCells] at hv
  obtain ⟨i, _, rfl⟩ := hv
  rfl
structure IdTy (P : Program) (t e : TypeId) : Prop where
  desc : P.underlying t = some (.array 32 e)
  info : (P.info? e).map (·.size) = some 1
  one : P.underlying e = some (.int .u8)
  guard : P.eqGuardType P.depth t = false
  zero : (P.info? t).bind (·.zero) = some (idV 0#256)

theorem byte_eq {a b : Nat} : ((a : Int) == (b : Int)) = decide (a = b) := by
  rw [Bool.eq_iff_iff]; simp only [beq_iff_eq, decide_eq_true_eq]; omega
theorem run_part_byte {P : Program} {t e : TypeId} (T : IdTy P t e) (x : Id) (i : Nat) (hi : i < 32) (w : World) : (part e (idArr x) i).run P w = .ok (.int .u8 (byteAt x i : Int)) w := by
  have h1 : (isAgg e).run P w = .ok false w := by
    unfold isAgg; rw [Sem.run_bind, run_underlying T.one w]; rfl
  simp only [part, Sem.run_bind, h1, Result.andThen_ok, Bool.false_eq_true, if_false]
  rw [idArr_get x i hi]; rfl
theorem run_sizeOf_byte {P : Program} {t e : TypeId} (T : IdTy P t e) (w : World) : (sizeOf e).run P w = .ok 1 w := by
  cases hi : P.info? e with
  | none => have := T.info; simp [hi] at this
  | some i => have := T.info; simp [hi] at this; simp [sizeOf, typeInfo, Sem.run_bind, hi, this]
theorem run_eq_loop {P : Program} {t e : TypeId} (T : IdTy P t e) (x y : Id) (d : Nat) (w : World) (F : Nat → Option Bool × Unit → Sem (ForInStep (Option Bool × Unit)))
    (hF : ∀ i, i < 32 → ∀ r, (F i r).run P w = if byteAt x i = byteAt y i then .ok (.yield (none, ())) w else .ok (.done (some false, ())) w) :
    ∀ n s, s + n ≤ 32 → (forIn (List.range' s n) ((none, ()) : Option Bool × Unit) F).run P w = .ok (if (List.range' s n).all (fun i => decide (byteAt x i = byteAt y i)) = true then none else some false, ()) w := by
  intro n
  induction n with
  | zero => intro s _; simp
  | succ n ih =>
    intro s hs
    simp only [List.range'_succ, List.forIn_cons, Sem.run_bind, hF s (by omega)]
    by_cases h : byteAt x s = byteAt y s
    · rw [if_pos h]
      simp only [Result.andThen_ok]
      rw [ih (s + 1) (by omega)]
      simp only [List.all_cons, h, decide_true, Bool.true_and]
    · rw [if_neg h]
      simp [h]
theorem run_equalIn_id {P : Program} {t e : TypeId} (T : IdTy P t e) (x y : Id) (d : Nat) (w : World) : (Op.equalIn (d + 2) t (idV x) (idV y)).run P w = .ok (decide (x = y)) w := by
  unfold Op.equalIn
  simp only [Sem.run_bind, run_underlying T.desc w, Result.andThen_ok, run_sizeOf_byte T w]
  simp only [Std.Legacy.Range.forIn_eq_forIn_range']
  rw [run_eq_loop T x y d w _ (fun i hi r => by
    simp only [Sem.run_bind, Nat.mul_one, run_part_byte T x i hi, run_part_byte T y i hi, Result.andThen_ok, run_equalIn_int w d e _ .u8 _ _ T.one, byte_eq]
    by_cases h : byteAt x i = byteAt y i <;> simp [h]) _ 0 (by decide)]
  simp only [Result.andThen_ok]
  have : (List.range' 0 [:32].size).all (fun i => decide (byteAt x i = byteAt y i)) = true ↔ x = y :=
    ⟨fun g => id_ext fun i hi => by have := List.all_eq_true.1 g i (by simp [List.mem_range', Std.Legacy.Range.size]; omega); simpa using this, fun e => by subst e; simp⟩
  by_cases h : x = y
  · rw [if_pos (this.2 h)]; simp [h]
  · rw [if_neg (fun g => h (this.1 g))]; simp [h]

section
variable {P : Program} {ρ : Operand → Value} {d : Option Tmp} {ty : TypeId} {pos : String} {af : Array Edge} {g : Option (Nat × Bool)} {a b : Operand} {t t' e : TypeId} {x y : Id}
theorem ru_eql_id (T : IdTy P t e) (hx : ρ a = idV x) (hy : ρ b = idV y) : RunsTo P ⟨d, .binOp .eql t a b t', ty, pos, af, g⟩ ρ (.bool (decide (x = y))) := fun w => by
  simp only [execOp, hx, hy, Sem.run_bind, run_eqGuard_agg w .eql t a b _ _ T.guard, Result.andThen_ok, run_eql_struct]
  rw [show (10000 : Nat) = 9998 + 2 from rfl, run_equalIn_id T x y]; rfl
theorem ru_neq_id (T : IdTy P t e) (hx : ρ a = idV x) (hy : ρ b = idV y) : RunsTo P ⟨d, .binOp .neq t a b t', ty, pos, af, g⟩ ρ (.bool (decide (x ≠ y))) := fun w => by
  simp only [execOp, hx, hy, Sem.run_bind, run_eqGuard_agg w .neq t a b _ _ T.guard, Result.andThen_ok, run_neq_struct]
  rw [show (10000 : Nat) = 9998 + 2 from rfl, run_equalIn_id T x y]
  simp
theorem ru_build0 (T : IdTy P t e) : RunsTo P ⟨d, .build t #[], ty, pos, af, g⟩ ρ (idV 0#256) := fun w => by
  cases hi : P.info? t with
  | none => have := T.zero; simp [hi] at this
  | some i =>
    have hz : i.zero = some (idV 0#256) := by have := T.zero; simpa [hi] using this
    have hz' : i.zero = some (.agg (idArr 0#256)) := hz
    cases he : P.info? e with
    | none => have := T.info; simp [he] at this
    | some j =>
      simp [execOp, Instr.build, Sem.run_bind, run_underlying T.desc w, zeroValue, typeInfo, hi, hz', sizeOf, he, Instr.fill, Value.cells]
end
theorem ru_pick_t {P : Program} {ρ : Operand → Value} {d : Option Tmp} {ty : TypeId} {pos : String} {af : Array Edge} {g : Option (Nat × Bool)} {c x y : Operand} {X : Value} (hc : ρ c = .bool true) (hx : ρ x = X) : RunsTo P ⟨d, .pick c x y, ty, pos, af, g⟩ ρ X := ru_pick hc (by simpa using hx)
theorem ru_pick_f {P : Program} {ρ : Operand → Value} {d : Option Tmp} {ty : TypeId} {pos : String} {af : Array Edge} {g : Option (Nat × Bool)} {c x y : Operand} {X : Value} (hc : ρ c = .bool false) (hy : ρ y = X) : RunsTo P ⟨d, .pick c x y, ty, pos, af, g⟩ ρ X := ru_pick hc (by simpa using hy)
/-- where the region is cut: behind the first m operations -/
theorem c_walkN {ro : Option Nat} {P : Program} {id : Nat} {n : Nat} {L : List (Nat × Value)} {Df : List Deferred} {ops : List Oper} (m : Nat) (cls : List (List Nat)) {a : Act} {w : World} {Q : Exit → Act → World → Prop} (h : Sl n a L Df)
    (hm : P.follows .mixedOrders = true) (hok : okReg ops m cls n = true) (hsel : Region.noSelect ops.toArray = true)
    (k : Wlk P ops.toArray (Lst P ops.toArray (Q .normal) (ops.drop m)) w (ops.take m) a) : (Code.region id ops.toArray true).wpIn (FR ro) 0 P Q a w := by
  have hml := okReg_m hok
  have e : ops.take m ++ ops.drop m = ops := List.take_append_drop m ops
  have el : (ops.take m).length = m := by simp; omega
  have := wp_region_walk (ro := ro) (id := id) (l := ops.take m) (tl := ops.drop m) cls (a0 := a) (w0 := w) (Q := Q) hm (by rw [e, el, h.size]; exact hok) (by rw [e]; exact hsel) (by rw [e]; exact k)
  rwa [e] at this
end Go.Proofs.Ythjkhnhiciamaaa

namespace Go.Proofs.Ythjkhnhiciamaaa
/-! ### a digit is turned -/
/-! ### the sum, byte by byte -/
/-! ### 2^256 - 1 less an identifier -/
/-! ### powers -/
/-! ### bits -/
def bitN (x : Nat) (i : Nat) : Nat := x / 2 ^ (255 - i) % 2
end Go.Proofs.Ythjkhnhiciamaaa

namespace Go.Proofs.Ythjkhnhiciamaaa
/-! bit by bit -/
theorem bit_step (x k : Nat) (hk : k < 256) : x / 2 ^ (255 - k) = x / 2 ^ (256 - k) * 2 + bitN x k := by
  unfold bitN
  have : 2 ^ (256 - k) = 2 ^ (255 - k) * 2 := by rw [← Nat.pow_succ]; congr 1; omega
  rw [this, ← Nat.div_div_eq_div_mul]; omega
theorem bpre_zero (a b : Id) : a.toNat / 2 ^ (256 - 0) = b.toNat / 2 ^ (256 - 0) := by
  have ha := a.isLt
  have hb := b.isLt
  rw [Nat.div_eq_of_lt (by omega), Nat.div_eq_of_lt (by omega)]
theorem bpre_next (a b : Id) (k : Nat) (hk : k < 256) (h : a.toNat / 2 ^ (256 - k) = b.toNat / 2 ^ (256 - k)) (he : (bitN a.toNat k : Int) = bitN b.toNat k) :
    a.toNat / 2 ^ (256 - (k + 1)) = b.toNat / 2 ^ (256 - (k + 1)) := by
  rw [show 256 - (k + 1) = 255 - k from by omega, bit_step _ k hk, bit_step _ k hk, h]; omega
/-! ### a step -/
/-! ### on the way -/
def inB (x a b : Id) : Bool := decide (a = b) || (decide (x ≠ a) && decide ((x - a).toNat ≤ (b - a).toNat))
end Go.Proofs.Ythjkhnhiciamaaa

namespace Go.Proofs.Ythjkhnhiciamaaa
/-! ### rows of bytes -/
def bytesF (f : Nat → Nat) (n : Nat) : Array Value := ((List.range n).map fun i => Value.int .u8 (f i : Int)).toArray
theorem idArr_bytes (x : Id) : idArr x = bytesF (byteAt x) 32 := rfl
@[simp] theorem bytesF_size (f : Nat → Nat) (n : Nat) : (bytesF f n).size = n := by simp [bytesF]
theorem bytesF_get (f : Nat → Nat) (n i : Nat) (h : i < n) : (bytesF f n)[i]? = some (.int .u8 (f i : Int)) := by simp [bytesF, h]
/-- a text of n bytes -/
def strF (f : Nat → Nat) (n : Nat) : ByteArray := ⟨((List.range n).map fun i => UInt8.ofNat (f i)).toArray⟩
@[simp] theorem strF_size (f : Nat → Nat) (n : Nat) : (strF f n).size = n := by simp [strF, ByteArray.size]
section
variable {ro : Option Nat} {P : Program} {ops : Array Oper} {Q : Act → World → Prop} {l : List Oper} {a : Act} {w w0 : World} {N : Nat} {L : List (Nat × Value)} {Df : List Deferred} {B : List Own} {d : Tmp} {ty : TypeId} {pos : String} {af : Array Edge} {x y : Operand} {t t' e : TypeId}
end
section
variable {P : Program} {ρ : Operand → Value} {d : Option Tmp} {ty : TypeId} {pos : String} {af : Array Edge} {g : Option (Nat × Bool)} {x y : Operand} {t t' e : TypeId} {k k' : IntKind} {m n : Int}
/-- an array's element, by value -/
theorem ru_index_id (T : IdTy P t e) {a : Id} (j : Nat) (hx : ρ x = idV a) (hy : ρ y = .int k m) (hj : m = (j : Int)) (hlt : j < 32) : RunsTo P ⟨d, .index t x y, ty, pos, af, g⟩ ρ (.int .u8 (byteAt a j : Int)) := fun w => by
  subst hj
  have h1 : (0 : Int) ≤ (j : Int) ∧ (j : Int) < ((32 : Nat) : Int) := by omega
  simp only [execOp, hx, hy, Instr.index, asIntOf, Sem.run_bind, Sem.run_pure, Result.andThen_ok, run_underlying T.desc w]
  rw [if_pos h1]
  simp only [Sem.run_bind, run_sizeOf_byte T w, Result.andThen_ok, Int.toNat_natCast, Nat.mul_one, run_part_byte T a j hlt, Sem.run_pure]
/-- a text's byte -/
theorem ru_index_str {s : ByteArray} {v : UInt8} (ht : P.underlying t = some .string) (j : Nat) (hx : ρ x = .string s) (hy : ρ y = .int k m) (hj : m = (j : Int)) (hv : s[j]? = some v) : RunsTo P ⟨d, .index t x y, ty, pos, af, g⟩ ρ (.int .u8 (v.toNat : Int)) := fun w => by
  subst hj
  simp [execOp, hx, hy, Instr.index, asIntOf, Sem.run_bind, run_underlying ht, hv]
theorem ru_len_str {s : ByteArray} (ht : P.underlying t = some .string) (hx : ρ x = .string s) : RunsTo P ⟨d, .call { callee := .builtin .len, args := #[x], argTypes := #[t] }, ty, pos, af, g⟩ ρ (.int .i64 (s.size : Int)) := fun w => by
  simp [execOp, resolve, hx, invoke, builtin, Builtin.len_, Sem.run_bind, run_underlying ht, goInt]
/-- an identifier of zeros but for one byte -/
theorem ru_build1 (T : IdTy P t e) {v : Nat} (j : Nat) (hx : ρ x = .int .u8 (v : Int)) (hj : j < 32) (hv : v < 256) : RunsTo P ⟨d, .build t #[(j, x)], ty, pos, af, g⟩ ρ (idV (setB 0#256 j v)) := fun w => by
  cases hi : P.info? t with
  | none => have := T.zero; simp [hi] at this
  | some i =>
    have hz' : i.zero = some (.agg (idArr 0#256)) := by have := T.zero; simpa [hi] using this
    cases he : P.info? e with
    | none => have := T.info; simp [he] at this
    | some i2 =>
      have h1 : i2.size = 1 := by have := T.info; simpa [he] using this
      have h2 : ¬ 32 < j + 1 := by omega
      simp [execOp, Instr.build, Sem.run_bind, run_underlying T.desc w, zeroValue, typeInfo, hi, hz', sizeOf, he, Instr.fill, Value.cells, hx, h1, h2, List.zipIdx, idArr_set _ _ _ hv]
end
/-! ### digits -/
def hexD (n : Nat) : Nat := if n < 10 then 48 + n else 87 + n
def dg (a : Id) (i : Nat) : Nat := hexD (if i % 2 = 0 then byteAt a (i / 2) / 16 else byteAt a (i / 2) % 16)
def tx (a : Id) (k : Nat) (i : Nat) : Nat := if i < 2 * k then dg a i else 0
end Go.Proofs.Ythjkhnhiciamaaa
namespace Go.Proofs.Ythjkhnhiciamaaa
theorem ret_val {P : Program} {f : FuncId} {vs : Array Value} {w : World} {X : Value} (Y : Value) (h : Calls P f vs w (Ret w (is X))) (e : X = Y) : Calls P f vs w (Ret w (is Y)) := e ▸ h
end Go.Proofs.Ythjkhnhiciamaaa
namespace Go.Proofs.Ythjkhnhiciamaaa
section
variable {ro : Option Nat} {P : Program} {ops : List Oper} {K : Act → World → Prop} {Q : Act → World → Prop} {l : List Oper} {a : Act} {w : World} {N : Nat} {L : List (Nat × Value)} {Df : List Deferred} {d : Tmp} {op : Op} {ty : TypeId} {pos : String} {af : Array Edge}
theorem not_wanted {ops : Array Oper} {j : Nat} {b : Bool} {od : Oper} {t : Tmp} (h : Sl N a L Df) (hj : ops[j]? = some od) (ht : od.dst = some t) (hv : lk L t = some undef) (d : Option Tmp) : Region.wanted ⟨d, op, ty, pos, af, some (j, b)⟩ (yielded ops a.tmps) = false := by
  have h2 := h.holds t _ hv
  have hy : yielded ops a.tmps j = none := by
    unfold yielded
    by_cases hlt : t < a.tmps.size
    · have h3 : a.tmps[t]? = some undef := by simp [hlt] at h2 ⊢; exact h2
      simp [hj, ht, h3, undef]
    · have h3 : a.tmps[t]? = none := Array.getElem?_eq_none (Nat.le_of_not_lt hlt)
      simp [hj, ht, h3]
  simp [Region.wanted, hy]
/-- guarded by what was not run -/
theorem w_none {j : Nat} {b : Bool} {od : Oper} {t : Tmp} (h : Sl N a L Df) (hj : ops[j]? = some od) (ht : od.dst = some t) (hv : lk L t = some undef) (hd : Nat.blt d N = true)
    (k : ∀ a', Sl N a' ((d, undef) :: L) Df → Wlk P ops.toArray K w l a') : Wlk P ops.toArray K w (⟨some d, op, ty, pos, af, some (j, b)⟩ :: l) a := by
  refine ⟨undef, ?_, k _ (h.put hd undef)⟩
  rw [not_wanted h (by simpa using hj) ht hv]; rfl
theorem s_none {j : Nat} {b : Bool} {od : Oper} {t : Tmp} (h : Sl N a L Df) (hj : ops[j]? = some od) (ht : od.dst = some t) (hv : lk L t = some undef) (hd : Nat.blt d N = true)
    (k : ∀ a', Sl N a' ((d, undef) :: L) Df → Lst P ops.toArray Q l a' w) : Lst P ops.toArray Q (⟨some d, op, ty, pos, af, some (j, b)⟩ :: l) a w := by
  unfold Lst
  rw [not_wanted h (by simpa using hj) ht hv]
  exact k _ (h.put hd undef)
end
end Go.Proofs.Ythjkhnhiciamaaa

namespace Go.Proofs.Ythjkhnhiciamaaa
open Go.ChangeShapes Go.WideShapes Go.ChangeAt Go.RowKit
variable {H : Type} {enc : TypeId × Value → H} {P : Program}

theorem trod_again (hl : laidOutB P = true) {W W' : World} (hb : Below W.heap.size W W') {t : TypeId} {v : Value} {d : DataW H} {p : List MemPlace} (hr : P.readableRec t = true) (ht : t < P.types.size)
    (h : DataW.Trod enc P W 0 (fun _ => true) true t v d p) (hlt : ∀ x ∈ p, x.block < W.heap.size) : DataW.Trod enc P W' 0 (fun b => decide (b < W.heap.size)) true t v d p :=
  WideElems.Trod_stays hl hr ht h (fun x hx => hb.same (hlt x hx)) (fun x hx => by simpa using hlt x hx)
theorem trodAll_again (hl : laidOutB P = true) {W W' : World} (hb : Below W.heap.size W W') : ∀ {ts : List TypeId} {vs : List Value} {ds : List (DataW H)} {p : List MemPlace},
    (∀ t ∈ ts, P.readableRec t = true ∧ t < P.types.size) → DataW.TrodAll enc P W 0 (fun _ => true) true ts vs ds p → (∀ x ∈ p, x.block < W.heap.size) →
    DataW.TrodAll enc P W' 0 (fun b => decide (b < W.heap.size)) true ts vs ds p
  | [], [], [], _, _, h, _ => h
  | t :: ts, v :: vs, d :: ds, _, hr, ⟨p, q, h1, h2, e⟩, hlt => by
    subst e
    exact ⟨p, q, trod_again hl hb (hr t List.mem_cons_self).1 (hr t List.mem_cons_self).2 h1 (fun x hx => hlt x (List.mem_append_left _ hx)),
      trodAll_again hl hb (fun t' ht' => hr t' (List.mem_cons_of_mem _ ht')) h2 (fun x hx => hlt x (List.mem_append_right _ hx)), rfl⟩
  | [], _ :: _, _, _, _, h, _ => h.elim
  | [], [], _ :: _, _, _, h, _ => h.elim
  | _ :: _, [], _, _, _, h, _ => h.elim
  | _ :: _, _ :: _, [], _, _, h, _ => h.elim

theorem args_again (hl : laidOutB P = true) {W W' : World} (hb : Below W.heap.size W W') {ts : List TypeId} {vs : List Value} {ds : List (DataW H)} {p : List MemPlace}
    (hr : (ts.all fun t => P.readableRec t && decide (t < P.types.size)) = true) (h : DataW.TrodAll enc P W 0 (fun _ => true) true ts vs ds p) (hlt : ∀ x ∈ p, x.block < W.heap.size) :
    DataW.TrodAll enc P W' 0 (fun b => decide (b < W.heap.size)) true ts vs ds p :=
  trodAll_again hl hb (fun t ht => by have := List.all_eq_true.1 hr t ht; simpa using this) h hlt

/-- an identifier that comes in -/
theorem open_id {w : World} {base : Nat} {spare : Nat → Bool} {held : Bool} {t e : TypeId} {v : Value} {d : DataW H} {ps : List MemPlace} (T : IdTy P t e) (hc : P.cellsOf t = 32) (hce : P.cellsOf e = 1)
    (h : DataW.Trod enc P w base spare held t v d ps) : ∃ x : Id, v = idV x := by
  obtain ⟨fuel, hf⟩ := h
  obtain ⟨xs, m, rfl, _, hlen, hxl, hel⟩ := DataW.trod_array T.desc hf
  rw [hc] at hlen
  cases v with
  | agg cs =>
    have hcs : cs.size = 32 := by simpa [Value.cells] using hlen
    have key : ∀ i, i < 32 → ∃ n : Nat, n < 256 ∧ cs[i]? = some (.int .u8 (n : Int)) := fun i hi => by
      have h1 := hel i hi
      have hx : xs[i]? = some xs[i] := by simp
      rw [hce, hx] at h1
      have hci : cs.toList[i]? = some cs[i] := by simp
      have hone : ((Value.agg cs).cells.toList.drop (i * 1)).take 1 = [cs[i]] := by
        show (cs.toList.drop (i * 1)).take 1 = _
        rw [Nat.mul_one, List.drop_eq_getElem_cons (by simpa [hcs] using hi)]
        simp
      rw [hone] at h1
      obtain ⟨n, he, _, hwf⟩ := DataW.trod_int T.one h1
      have hb := bounds_u8 hwf
      refine ⟨n.toNat, by omega, ?_⟩
      have hcn : cs[i] = .int .u8 n := by simpa using he
      have : ((n.toNat : Nat) : Int) = n := by omega
      rw [this, ← hcn]; simp [hcs, hi]
    let f : Nat → Nat := fun i => if h : i < 32 then Classical.choose (key i h) else 0
    have hf256 : ∀ i, f i < 256 := fun i => by
      show (if h : i < 32 then Classical.choose (key i h) else 0) < 256
      split
      · rename_i h; exact (Classical.choose_spec (key i h)).1
      · decide
    refine ⟨idOf f, ?_⟩
    refine congrArg Value.agg ?_
    apply Array.ext_getElem?
    intro i
    by_cases hi : i < 32
    · rw [idArr_get _ i hi, byteAt_idOf f hf256 i hi, (Classical.choose_spec (key i hi)).2]
      show _ = some (Value.int .u8 ((if h : i < 32 then Classical.choose (key i h) else 0 : Nat) : Int))
      rw [dif_pos hi]
    · rw [Array.getElem?_eq_none (by omega), Array.getElem?_eq_none (by simp; omega)]
  | _ => simp [Value.cells] at hlen
theorem i64_bd {n : Int} (h : (Lit.int .i64 n).wf = true) : -9223372036854775808 ≤ n ∧ n ≤ 9223372036854775807 := bounds_i64 h
end Go.Proofs.Ythjkhnhiciamaaa

namespace Go.Proofs.Ythjkhnhiciamaaa
/-! ### bits in common -/
def IsCom (a b : Id) (n : Nat) : Prop := n ≤ 256 ∧ a.toNat / 2 ^ (256 - n) = b.toNat / 2 ^ (256 - n) ∧ (n < 256 → bitN a.toNat n ≠ bitN b.toNat n)
theorem isCom_from (a b : Id) : ∀ d k, k + d = 256 → a.toNat / 2 ^ (256 - k) = b.toNat / 2 ^ (256 - k) → ∃ n, IsCom a b n
  | 0, k, hk, h => ⟨k, by omega, h, fun hl => by omega⟩
  | d + 1, k, hk, h => by
    by_cases e : bitN a.toNat k = bitN b.toNat k
    · exact isCom_from a b d (k + 1) (by omega) (bpre_next a b k (by omega) h (by rw [e]))
    · exact ⟨k, by omega, h, fun _ => e⟩
theorem isCom_exists (a b : Id) : ∃ n, IsCom a b n := isCom_from a b 256 0 rfl (bpre_zero a b)
noncomputable def com (a b : Id) : Nat := Classical.choose (isCom_exists a b)
/-! ### of a byte -/
end Go.Proofs.Ythjkhnhiciamaaa

namespace Go.Proofs.Ythjkhnhiciamaaa
open Go.RowKit
/-! ### slices of the call's own -/
/-- what an element's type is: its zero value, how many cells and bytes -/
structure Elm (P : Program) (e : TypeId) (sz by_ : Nat) : Prop where
  info : ∃ i z, P.info? e = some i ∧ i.zero = some z ∧ i.size = sz ∧ i.bytes = by_ ∧ z.cells.size = sz
  pos : 0 < sz
theorem run_storeCells_atG (P : Program) (g o : Nat) (t : TypeId) (fz : Nat × Nat) : ∀ (vs : List Value) (i : Nat) (cur : Array Value) (w : World), w.heap[g]? = some (.cells cur t fz) → (fz.2 = 0 ∨ cur.size ≤ fz.1) → o + i + vs.length ≤ cur.size → (∀ v ∈ vs, v.oneCell' = true) →
    (storeCells ⟨g, o, none⟩ vs i).run P w = .ok () (w.setRow g (cur.toList.take (o + i) ++ vs ++ cur.toList.drop (o + i + vs.length)).toArray)
  | [], i, cur, w, hg, _, _, _ => by
    simp only [storeCells, List.append_nil, List.length_nil, Nat.add_zero, List.take_append_drop, Array.toArray_toList]
    rw [setRow_self w g cur t fz hg]
    rfl
  | v :: rest, i, cur, w, hg, hz, hl, h1 => by
    have hi : o + i < cur.size := by simp at hl; omega
    have hadd : (⟨g, o, none⟩ : Addr).add i = ⟨g, o + i, none⟩ := by unfold Addr.add; split <;> simp_all
    have hcell : w.cell? ⟨g, o + i, none⟩ = some cur[o + i] := by simp [World.cell?, hg, hi]
    have hfro : w.frozen? ⟨g, o + i, none⟩ = false := by
      simp [World.frozen?, hg]
      omega
    have hst : (store ((⟨g, o, none⟩ : Addr).add i) v).run P w = .ok () (w.setRow g (cur.setIfInBounds (o + i) v)) := by
      rw [hadd, run_store P w _ v _ (h1 v (by simp)), hcell]
      simp [hfro, setCell_eq_setRow w g (o + i) cur t fz v hg]
    have ih := run_storeCells_atG P g o t fz rest (i + 1) (cur.setIfInBounds (o + i) v) (w.setRow g (cur.setIfInBounds (o + i) v)) (setRow_heap w g cur _ t _ hg) (by simpa using hz) (by simp at hl ⊢; omega) (fun x hx => h1 x (by simp [hx]))
    simp only [storeCells, Sem.run_bind, hst, Result.andThen_ok, ih, setRow_setRow]
    congr 3
    have e := list_seg_step cur.toList (o + i) v rest (by simp at hl ⊢; omega)
    simpa [Array.toList_setIfInBounds, Nat.add_assoc] using e
theorem run_append_roomG {P : Program} (w : World) (t ty e : TypeId) (i : TypeInfo) (ht : P.underlying t = some (.slice e)) (hi : P.info? e = some i)
    (g sLen sCap : Nat) (cur : Array Value) (fz : Nat × Nat) (hg : w.heap[g]? = some (.cells cur e fz)) (hz : fz.2 = 0 ∨ cur.size ≤ fz.1)
    (a : Addr) (m c : Nat) (news : List Value) (hl : news.length = m * i.size) (hnews : ∀ j u, news[j]? = some u → w.cell? (a.add j) = some u) (h1 : ∀ u ∈ news, u.oneCell' = true)
    (hroom : sLen + m ≤ sCap) (hfit : sLen * i.size + news.length ≤ cur.size) :
    (Builtin.append_ #[t, t] ty #[.slice (some ⟨g, 0, none⟩) sLen sCap, .slice (some a) m c]).run P w =
      .ok (.slice (some ⟨g, 0, none⟩) (sLen + m) sCap) (w.setRow g (cur.toList.take (sLen * i.size) ++ news ++ cur.toList.drop (sLen * i.size + news.length)).toArray) := by
  have hf := run_firstCells_some (P := P) w i.size m a m c news hl hnews
  have hst := run_storeCells_atG P g (sLen * i.size) e fz news 0 cur w hg hz (by simpa using hfit) h1
  simp only [Nat.add_zero] at hst
  simp [Builtin.append_, run_underlying ht, sizeOf, typeInfo, hi, Builtin.lenOf, hroom, hf, Addr.add_lit, hst]
theorem run_append_st {P : Program} {w w0 : World} {t ty e : TypeId} {sz by_ : Nat} (ht : P.underlying t = some (.slice e)) (E : Elm P e sz by_) {v : Value} {n : Nat} {xs : List Value} (hown : Owns w w0.heap.size e sz v n xs)
    {a : Addr} {m c : Nat} {news : List Value} (hl : news.length = m * sz) (hnews : ∀ (j : Nat) u, news[j]? = some u → w.cell? (a.add j) = some u) (h1 : ∀ u ∈ news, u.oneCell' = true) (hm : 1 ≤ m)
    (h63 : n + m ≤ maxLen) (hbytes : (n + m) * by_ ≤ 140737488355328) (hbase : w0.heap.size ≤ w.heap.size) :
    ∃ v' w', (Builtin.append_ #[t, t] ty #[v, .slice (some a) m c]).run P w = .ok v' w' ∧ Owns w' w0.heap.size e sz v' (n + m) (xs ++ news) ∧ Grw w w' v.ownBlock ∧ (v'.ownBlock = v.ownBlock ∨ v'.ownBlock = some w.heap.size) := by
  obtain ⟨i, z, hi, hz, rfl, rfl, hzs⟩ := E.info
  have hsmall : n + m ≤ 9223372036854775807 := by simp only [maxLen] at h63; omega
  have hlen : (xs ++ news).length = (n + m) * i.size := by rw [List.length_append, hown.1, hl, Nat.add_mul]
  have hnew : ∀ (cap : Nat) (rest : Array Value), n + m ≤ cap → cap ≤ maxLen → rest.size = (cap - (n + m)) * i.size → Owns (w.drew.alloc (.cells (xs.toArray ++ news.toArray ++ rest) e)) w0.heap.size e i.size (.slice (some ⟨w.heap.size, 0, none⟩) (n + m) cap) (n + m) (xs ++ news) := fun cap rest h2 h3 h4 => by
    refine ⟨hlen, .inr ⟨w.heap.size, cap, _, (0, 0), rfl, hbase, heap_alloc_new w.drew _, .inl rfl, h2, h3, ?_, ?_⟩⟩
    · rw [Array.size_append, Array.size_append, List.size_toArray, List.size_toArray, hown.1, hl, h4, ← Nat.add_mul, ← Nat.add_mul]
      congr 1; omega
    · rw [Array.toList_append, Array.toList_append, ← hlen]; exact List.take_left
  have hgrow : ∀ (o : Obj) (row : Option Nat), Grw w (w.drew.alloc o) row := fun o row => ⟨⟨rfl, rfl, rfl, by simp, fun k hk _ => Below.heap_alloc w.drew _ k hk⟩, Nat.le_succ _⟩
  have hrest : ∀ old, (Builtin.zeroCells z.cells (grownCap w (n + m) old e - (n + m))).size = (grownCap w (n + m) old e - (n + m)) * i.size := fun old => by rw [size_zeroCells, hzs]
  rcases hown.2 with ⟨rfl, rfl⟩ | ⟨g, cap, cur, fz, rfl, hbg, hg, hfz, hnc, hcm, hcs, htake⟩
  · have hx : xs = [] := List.eq_nil_of_length_eq_zero (by simpa using hown.1)
    subst hx
    have hr := run_append_nil (P := P) w t ty e i z ht hi hz a m c news hl hnews (by omega) (by omega) (by have hb := hbytes; simp only [Nat.zero_add] at hb; omega)
    have h9 := hnew (grownCap w (0 + m) 0 e) _ (grownCap_ge w _ 0 e) (grownCap_le_maxLen w _ 0 e h63) (hrest 0)
    simp only [Nat.zero_add, List.nil_append, Array.empty_append] at h9 hr ⊢
    exact ⟨_, _, hr, h9, hgrow _ _, .inr rfl⟩
  · by_cases hroom : n + m ≤ cap
    · have hfit : n * i.size + news.length ≤ cur.size := by rw [hl, hcs, ← Nat.add_mul]; exact Nat.mul_le_mul_right _ hroom
      have hr := run_append_roomG (P := P) w t ty e i ht hi g n cap cur fz hg hfz a m c news hl hnews h1 hroom hfit
      refine ⟨_, _, hr, ⟨hlen, .inr ⟨g, cap, _, fz, rfl, hbg, setRow_heap w g cur _ e _ hg, ?_, hroom, hcm, ?_, ?_⟩⟩, ⟨⟨rfl, rfl, rfl, by simp, fun k _ hk => setRow_other w g k _ (fun e => hk (by simp [Value.ownBlock, e]))⟩, Nat.le_refl _⟩, .inl rfl⟩
      · refine hfz.imp id fun h9 => ?_
        simp only [List.size_toArray, List.length_append, List.length_take, List.length_drop, Array.length_toList]
        omega
      · simp only [List.size_toArray, List.length_append, List.length_take, List.length_drop, Array.length_toList]
        omega
      · rw [htake, ← hlen]
        exact List.take_left
    · have hcells : ∀ (j : Nat) u, xs[j]? = some u → w.cell? ((⟨g, 0, none⟩ : Addr).add j) = some u := hown.cells (g := g) rfl
      have hr := run_append_grow (P := P) w t ty e i z ht hi hz ⟨g, 0, none⟩ n cap xs hown.1 hcells a m c news hl hnews (by omega) (by omega) (growslice_fits (by omega) hbytes)
      exact ⟨_, _, hr, hnew _ _ (grownCap_ge w _ cap e) (grownCap_le_maxLen w _ cap e h63) (hrest cap), hgrow _ _, .inr rfl⟩

section
variable {ro : Option Nat} {P : Program} {ops : Array Oper} {Q : Act → World → Prop} {l : List Oper} {a : Act} {w w0 : World} {N : Nat} {L : List (Nat × Value)} {Df : List Deferred} {B : List Own} {d : Tmp} {ty : TypeId} {pos : String} {af : Array Edge} {x y : Operand} {t e : TypeId}
theorem ownsRow_slice {w : World} {base : Nat} {e : TypeId} {sz : Nat} {v : Value} {n : Nat} {xs : List Value} (h : Owns w base e sz v n xs) : ∃ a c, v = .slice a n c := by
  rcases h.2 with ⟨rfl, rfl⟩ | ⟨g, cap, cur, fz, rfl, _⟩
  · exact ⟨none, 0, rfl⟩
  · exact ⟨_, cap, rfl⟩
/-- an own slice, of at least one element, by its address -/
theorem ownsRow_addr {w : World} {base : Nat} {e : TypeId} {sz : Nat} {v : Value} {n : Nat} {xs : List Value} (h : Owns w base e sz v n xs) (hn : 1 ≤ n) : ∃ g c, v = .slice (some ⟨g, 0, none⟩) n c := by
  rcases h.2 with ⟨rfl, rfl⟩ | ⟨g, cap, cur, fz, rfl, _⟩
  · omega
  · exact ⟨g, cap, rfl⟩
/-- append, an own slice behind another one -/
theorem s_append {v v2 : Value} {sz by_ n m : Nat} {xs ys : List Value} (i j : Nat) (h : Sl N a L Df) (s : St w0 B w) (ht : P.underlying t = some (.slice e)) (E : Elm P e sz by_) (hx : evo L x = some v) (hy : evo L y = some v2)
    (hi : B[i]? = some (.sl v e sz n xs)) (hj : B[j]? = some (.sl v2 e sz m ys)) (hm : 1 ≤ m) (h1 : ∀ u ∈ ys, u.oneCell' = true) (h63 : n + m ≤ maxLen) (hbytes : (n + m) * by_ ≤ 140737488355328) (hd : Nat.blt d N = true)
    (k : ∀ a' w' v', Sl N a' ((d, v') :: L) Df → St w0 (B.set i (.sl v' e sz (n + m) (xs ++ ys))) w' → Lst P ops Q l a' w') :
    Lst P ops Q (⟨some d, .call { callee := .builtin .append, args := #[x, y], argTypes := #[t, t] }, ty, pos, af, none⟩ :: l) a w := by
  have hv := s.getSl i hi
  have hv2 := s.getSl j hj
  obtain ⟨g2, c2, rfl⟩ := ownsRow_addr hv2 hm
  obtain ⟨v', w', hr, h2, h3, h4⟩ := run_append_st (ty := ty) ht E hv (a := ⟨g2, 0, none⟩) (m := m) (c := c2) (news := ys) hv2.1 (hv2.cells (g := g2) rfl) h1 hm h63 hbytes s.ext.le
  refine s_does (R := fun u w'' => u = v' ∧ w'' = w') h (by
    unfold Does
    simp only [execOp, resolve, invoke, builtin, Sem.run_bind, Sem.run_pure, Result.andThen_ok, List.map_toArray, List.map_cons, List.map_nil, h.ev hx, h.ev hy, hr]
    first | exact ⟨rfl, rfl⟩ | exact ⟨trivial, rfl⟩ | exact ⟨trivial, trivial⟩ | trivial) hd fun a' w'' u ⟨e1, e2⟩ hs => ?_
  subst e1; subst e2
  refine k _ _ _ hs (s.upd i hi h3.os h3.tape h3.output h3.size h2 (fun k hk => ?_) (fun k hk hne => ?_) h3.drawn)
  · rcases h4 with h4 | h4
    · exact .inl (Own.at_sl.2 (by rw [← Own.at_sl.1 hk]; exact h4.symm))
    · right
      have : u.ownBlock = some k := Own.at_sl.1 hk
      rw [h4] at this; cases this; exact Nat.le_refl _
  · exact h3.block k hk fun e => hne (Own.at_sl.2 e.symm)
end
theorem foldl_sets (o : Nat) : ∀ (l : List Value) (k : Nat) (cells : Array Value), o + k + l.length ≤ cells.size →
    ((l.zipIdx k).foldl (fun cs p => cs.setIfInBounds (o + p.2) p.1) cells).toList = cells.toList.take (o + k) ++ l ++ cells.toList.drop (o + k + l.length)
  | [], k, cells, _ => by simp
  | c :: l, k, cells, h => by
    simp only [List.length_cons] at h
    rw [List.zipIdx_cons, List.foldl_cons, foldl_sets o l (k + 1) _ (by simp; omega)]
    have hlt : o + k < cells.toList.length := by simp; omega
    simp only [Array.toList_setIfInBounds, List.length_cons]
    have e1 : List.take (o + k + 1) (cells.toList.set (o + k) c) = List.take (o + k) cells.toList ++ [c] := by
      rw [List.take_set, List.take_succ_eq_append_getElem hlt, List.set_append_right _ _ (by simp; omega)]
      have : o + k - (List.take (o + k) cells.toList).length = 0 := by simp; omega
      rw [this]; rfl
    rw [show o + (k + 1) = o + k + 1 from by omega, e1, List.drop_set_of_lt (by omega), show o + k + 1 + l.length = o + k + (l.length + 1) from by omega]
    simp
theorem fill_all (sz : Nat) : ∀ (vs : List Value) (k : Nat) (cells : Array Value), (∀ v ∈ vs, v.cells.size = sz) → (k + vs.length) * sz ≤ cells.size →
    ∃ D : Array Value, Instr.fill (fun i => some (i * sz, sz)) cells ((vs.zipIdx k).map fun p => (p.2, p.1)) = some D ∧ D.toList = cells.toList.take (k * sz) ++ vs.flatMap (·.cells.toList) ++ cells.toList.drop ((k + vs.length) * sz)
  | [], k, cells, _, _ => ⟨cells, rfl, by simp⟩
  | v :: vs, k, cells, hv, hs => by
    have hv1 := hv v List.mem_cons_self
    have e9 : (k + (v :: vs).length) * sz = k * sz + sz + vs.length * sz := by simp [Nat.add_mul]; omega
    have hroom : k * sz + 0 + v.cells.toList.length ≤ cells.size := by
      simp only [Array.length_toList, hv1]; omega
    have hf := foldl_sets (k * sz) v.cells.toList 0 cells hroom
    generalize hD : (v.cells.toList.zipIdx).foldl (fun cs p => cs.setIfInBounds (k * sz + p.2) p.1) cells = C1 at hf
    simp only [Nat.add_zero, Array.length_toList, hv1] at hf
    have hC1 : C1.size = cells.size := by
      have := congrArg List.length hf
      simp only [Array.length_toList, List.length_append, List.length_take, List.length_drop, hv1] at this
      omega
    obtain ⟨D, h1, h2⟩ := fill_all sz vs (k + 1) C1 (fun u hu => hv u (List.mem_cons_of_mem _ hu)) (by rw [hC1]; simp [Nat.add_mul] at e9 hs ⊢; omega)
    refine ⟨D, ?_, ?_⟩
    · rw [List.zipIdx_cons, List.map_cons, Instr.fill]
      have hc : ¬ ((v.cells.size ≠ sz || decide (k * sz + v.cells.size > cells.size)) = true) := by
        rw [hv1]; simp only [ne_eq, not_true_eq_false, decide_false, Bool.false_or, decide_eq_true_eq]; simp at hroom; omega
      have hz : v.cells.zipIdx.foldl (fun cs (x : Value × Nat) => match x with | (c, j) => cs.setIfInBounds (k * sz + j) c) cells = C1 := by
        rw [← hD, ← Array.foldl_toList, Array.toList_zipIdx]
      simp only
      rw [if_neg hc, hz]
      exact h1
    · rw [h2, hf]
      have hl1 : (cells.toList.take (k * sz)).length = k * sz := by simp; omega
      have hl2 : (cells.toList.take (k * sz) ++ v.cells.toList).length = (k + 1) * sz := by
        rw [List.length_append, hl1, Array.length_toList, hv1, Nat.add_mul]; omega
      rw [List.take_append_of_le_length (Nat.le_of_eq hl2.symm), List.take_of_length_le (Nat.le_of_eq hl2)]
      rw [List.drop_append, hl2, List.drop_eq_nil_of_le (by rw [hl2]; exact Nat.mul_le_mul_right _ (by omega)), List.nil_append, List.drop_drop]
      rw [List.flatMap_cons, List.append_assoc, List.append_assoc, List.append_assoc, List.append_assoc]
      congr 4
      have e5 : (k + 1 + vs.length) * sz = (k + 1) * sz + vs.length * sz := Nat.add_mul ..
      have e6 : (k + (v :: vs).length) * sz = (k + 1) * sz + vs.length * sz := by rw [← Nat.add_mul]; congr 1; simp; omega
      have e7 : (k + 1) * sz = k * sz + sz := Nat.succ_mul ..
      omega

section
variable {ro : Option Nat} {P : Program} {ops : Array Oper} {Q : Act → World → Prop} {l : List Oper} {a : Act} {w w0 : World} {N : Nat} {L : List (Nat × Value)} {Df : List Deferred} {B : List Own} {d : Tmp} {ty : TypeId} {pos : String} {af : Array Edge} {x y : Operand} {t t' e : TypeId}
theorem evs' {as : List Operand} {vs : List Value} (h : Sl N a L Df) (hvs : as.map (evo L) = vs.map some) : as.map a.eval = vs := by
  induction as generalizing vs with
  | nil => cases vs with
    | nil => rfl
    | cons v vs => simp at hvs
  | cons x as ih => cases vs with
    | nil => simp at hvs
    | cons v vs =>
      simp only [List.map_cons, List.cons.injEq] at hvs
      simp only [List.map_cons, h.ev hvs.1, ih hvs.2]
theorem flat_len {sz : Nat} : ∀ (vs : List Value), (∀ v ∈ vs, v.cells.size = sz) → (vs.flatMap (·.cells.toList)).length = vs.length * sz
  | [], _ => by simp
  | v :: vs, hv => by rw [List.flatMap_cons, List.length_append, flat_len vs (fun u hu => hv u (List.mem_cons_of_mem _ hu)), Array.length_toList, hv v List.mem_cons_self, List.length_cons, Nat.add_mul]; omega
/-- a new slice, of values that are at hand -/
theorem s_bslice {sz by_ len : Nat} {parts : Array (Nat × Operand)} (xs : List Operand) {vs : List Value} (h : Sl N a L Df) (s : St w0 B w) (ht : P.underlying t = some (.slice e)) (E : Elm P e sz by_)
    (hp : parts.toList = xs.zipIdx.map fun p => (p.2, p.1)) (hxs : xs.map (evo L) = vs.map some) (hv : ∀ v ∈ vs, v.cells.size = sz) (hl : vs.length = len) (hlen : Nat.ble (len * sz) 16777216 = true) (hd : Nat.blt d N = true)
    (k : ∀ a' w' v', Sl N a' ((d, v') :: L) Df → St w0 (.sl v' e sz len (vs.flatMap (·.cells.toList)) :: B) w' → Lst P ops Q l a' w') :
    Lst P ops Q (⟨some d, .buildSlice t len parts, ty, pos, af, none⟩ :: l) a w := by
  obtain ⟨i, z, hi, hz, hsz, _, hzs⟩ := E.info
  have hpos := E.pos
  have hle : len * sz ≤ 16777216 := by simpa using hlen
  obtain ⟨C, hf, hC⟩ : ∃ C : Array Value, Instr.fill (fun i => some (i * sz, sz)) ((Array.range (len * sz)).map ((if len * sz = 0 then #[] else z.cells)[· % (if len * sz = 0 then (#[] : Array Value) else z.cells).size]!)) (parts.map fun (i, x) => (i, a.eval x)).toList = some C ∧ C.toList = vs.flatMap (·.cells.toList) := by
    obtain ⟨C, h1, h2⟩ := fill_all sz vs 0 ((Array.range (len * sz)).map ((if len * sz = 0 then #[] else z.cells)[· % (if len * sz = 0 then (#[] : Array Value) else z.cells).size]!)) hv (by simp [hl])
    refine ⟨C, ?_, ?_⟩
    · rw [← h1]
      congr 1
      rw [Array.toList_map, hp, List.map_map]
      have := evs' h hxs
      rw [← this]
      clear h1 h2 hp this
      generalize (0 : Nat) = k
      clear hxs hl hv
      induction xs generalizing k with
      | nil => rfl
      | cons x xs ih => simp only [List.zipIdx_cons, List.map_cons, Function.comp]; rw [ih]
    · rw [h2]; simp [hl]
  have hCs : C.size = len * sz := by
    have := congrArg List.length hC
    rw [Array.length_toList] at this
    rw [this, ← hl]
    exact flat_len vs hv
  refine s_does (R := fun u w'' => u = .slice (some ⟨w.heap.size, 0, none⟩) len len ∧ w'' = w.alloc (.cells C e)) h ?_ hd fun a' w'' u ⟨e1, e2⟩ hs => ?_
  · have hn : ¬ len * sz > 2 ^ 24 := by omega
    have hrun : (Instr.buildSlice t len (parts.map fun (i, x) => (i, a.eval x))).run P w = .ok (.slice (some ⟨w.heap.size, 0, none⟩) len len) (w.alloc (.cells C e)) := by
      unfold Instr.buildSlice
      by_cases h0 : len * sz = 0
      · simp only [h0, if_true] at hf
        simp only [Sem.run_bind, run_underlying ht, Result.andThen_ok, sizeOf, typeInfo, run_program, hi, Sem.run_pure, hsz, h0, newRow]
        simp only [show ¬ (0 : Nat) > 2 ^ 24 by decide, if_false, if_true, Sem.run_bind, Sem.run_pure, Result.andThen_ok, hf, run_newObj]
        rfl
      · simp only [h0, if_false] at hf
        simp only [Sem.run_bind, run_underlying ht, Result.andThen_ok, sizeOf, typeInfo, run_program, hi, Sem.run_pure, hsz, newRow]
        simp only [hn, h0, if_false, zeroValue, typeInfo, Sem.run_bind, run_program, hi, hz, Sem.run_pure, Result.andThen_ok, hf, run_newObj]
        rfl
    unfold Does
    simp only [execOp, Sem.run_bind, hrun, Result.andThen_ok, Sem.run_pure]
    first | exact ⟨rfl, rfl⟩ | exact ⟨trivial, rfl⟩ | exact ⟨trivial, trivial⟩ | trivial
  · subst e1; subst e2
    have hl2 : len ≤ maxLen := by
      have := Nat.le_mul_of_pos_right len hpos
      unfold maxLen; omega
    rw [← hC] at k
    exact k _ _ _ hs (s.plus ((Ext.refl w).alloc _) _ ⟨by simp [hCs], .inr ⟨w.heap.size, len, C, (0, 0), rfl, s.ext.le, heap_alloc_new w _, .inl rfl, Nat.le_refl _, hl2, hCs, by rw [← hCs]; exact List.take_of_length_le (by simp)⟩⟩ fun k hk => by rw [Own.at_sl] at hk; simp [Value.ownBlock] at hk; omega)
end
end Go.Proofs.Ythjkhnhiciamaaa

namespace Go.Proofs.Ythjkhnhiciamaaa
section
variable {P : Program} {ρ : Operand → Value} {d : Option Tmp} {ty : TypeId} {pos : String} {af : Array Edge} {g : Option (Nat × Bool)} {x y : Operand} {t t' e : TypeId} {k k' : IntKind} {m n : Int}
theorem bytes_beq (a b : ByteArray) : (a.toList == b.toList) = decide (a = b) := by
  rw [← beq_toListBytes]
  have e : (a == b) = (a.data == b.data) := rfl
  rw [e]
  by_cases h : a = b
  · subst h; simp
  · have : a.data ≠ b.data := fun h2 => h (by cases a; cases b; simp at h2; rw [h2])
    simp [h, this]
theorem ru_eql_str {a b : ByteArray} (hx : ρ x = .string a) (hy : ρ y = .string b) : RunsTo P ⟨d, .binOp .eql t x y t', ty, pos, af, g⟩ ρ (.bool (decide (a = b))) := fun w => by
  simp [execOp, hx, hy, Sem.run_bind, eqGuard, binOp, Op.stringOp, bytes_beq]
theorem ru_neq_str {a b : ByteArray} (hx : ρ x = .string a) (hy : ρ y = .string b) : RunsTo P ⟨d, .binOp .neq t x y t', ty, pos, af, g⟩ ρ (.bool (decide (a ≠ b))) := fun w => by
  simp [execOp, hx, hy, Sem.run_bind, eqGuard, binOp, Op.stringOp, bytes_beq]
theorem ru_min {tys : Array TypeId} (hx : ρ x = .int k m) (hy : ρ y = .int k n) : RunsTo P ⟨d, .call { callee := .builtin .min, args := #[x, y], argTypes := tys }, ty, pos, af, g⟩ ρ (.int k (if n < m then n else m)) := fun w => by
  simp [execOp, resolve, hx, hy, invoke, builtin, Builtin.min_, Builtin.min2, Sem.run_bind]
/-- a text's beginning -/
theorem ru_slice_str {s : ByteArray} (j : Nat) (ht : P.underlying t = some .string) (hx : ρ x = .string s) (hy : ρ y = .int k m) (hj : m = (j : Int)) (hl : j ≤ s.size) : RunsTo P ⟨d, .slice t x none (some y) none, ty, pos, af, g⟩ ρ (.string (s.extract 0 j)) := fun w => by
  subst hj
  have h2 : (0 : Int) ≤ (j : Int) ∧ (j : Int) ≤ (s.size : Int) := by omega
  simp [execOp, hx, hy, Instr.sliceAt, Sem.run_bind, run_underlying ht, Instr.slice, Instr.sliceBounds, Instr.sliceBound, asIntOf, h2, hl]
structure Ext1 (P : Program) (f : FuncId) (e : Array Value → Sem Value) : Prop where
  has : ∃ fn, P.funcs[f]? = some fn ∧ (fn.name == "runtime.NumGoroutine") = false ∧ fn.body.isNone = true ∧ Extern.findNext fn = none ∧ Extern.find fn = some e
end
/-! ### texts that are read -/
def sb (s : ByteArray) (j : Nat) : Nat := (s.data.toList.getD j 0).toNat
theorem sb_get (s : ByteArray) (j : Nat) (h : j < s.size) : ∃ v : UInt8, s[j]? = some v ∧ v.toNat = sb s j := by
  refine ⟨s.data[j], ?_, ?_⟩
  · show (if h : j < s.size then some s[j] else none) = _
    rw [dif_pos h]; rfl
  · unfold sb
    have : j < s.data.toList.length := h
    rw [List.getD_eq_getElem?_getD, List.getElem?_eq_getElem this]; rfl
theorem ru_ix_sb {P : Program} {ρ : Operand → Value} {d : Option Tmp} {ty : TypeId} {pos : String} {af : Array Edge} {g : Option (Nat × Bool)} {x y : Operand} {t : TypeId} {k : IntKind} {m : Int} {s : ByteArray}
    (ht : P.underlying t = some .string) (j : Nat) (hx : ρ x = .string s) (hy : ρ y = .int k m) (hj : m = (j : Int)) (hl : j < s.size) : RunsTo P ⟨d, .index t x y, ty, pos, af, g⟩ ρ (.int .u8 (sb s j : Int)) := by
  obtain ⟨v, h1, h2⟩ := sb_get s j hl
  exact h2 ▸ ru_index_str ht j hx hy hj h1
/-- a digit's number; 16: it is none -/
def hv (c : Nat) : Nat := if 48 ≤ c ∧ c < 58 then c - 48 else if 97 ≤ c ∧ c < 103 then c - 87 else 16
end Go.Proofs.Ythjkhnhiciamaaa
namespace Go.Proofs.Ythjkhnhiciamaaa
end Go.Proofs.Ythjkhnhiciamaaa
